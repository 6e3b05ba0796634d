import PyProof.Rows.All
import Wide.All
import OpenK.AllK
import Wide.FinOn
import PyProof.EqAt
import PyProof.EqKinds
import PyProof.TupleCall
import PyProof.ListStr
import PyProof.EnumFor
import PyProof.EnumMake
import PyProof.EnumStmt
import PyProof.StrLawsTight
import PyProof.StrLawsReplace
import PyProof.StrCalls6
import PyProof.ToksMono
import PyProof.Rows.StrFromFirst
import PyProof.Rows.StrLawsPart
import PyProof.FactsAll.str_6
import PyProof.StationsW
import PyProof.RulesTry
import PyProof.ExcInit
import PyProof.ExcClass3
import OpenK.KOwn
import PyProof.ExcBaseAll.ValueError
import PyProof.RulesAs
import PyProof.NsDelKeeps
import KE.KIsAll
import PyProof.ExcArgsOwn
import PyProof.InstStoreFacts
import PyProof.ZipIter
import KE.KRevIter
import KE.KIntText
import PyProof.FString
import PyProof.CompMap
import KE.KListMore
import PyProof.ListRange
import KE.KDictOf
import PyProof.AttrMissHeap
import KE.KSortTup
import KE.KDictSum
import KE.KSortAsk
import KE.KEqDict
import PyProof.WalksMore
import PyProof.DictItems
import PySem.Challenge.RW_tintrow_k82_hidden_rules_at_a_desk
set_option Elab.async false
set_option linter.all false
set_option maxRecDepth 100000
namespace L2
theorem Y0(_:True:=by first|exact .inl rfl|exact .inr rfl|assumption):True:=⟨⟩
theorem Y1(_:True:=by decide):True:=⟨⟩
theorem Y2(_:True:=by intro _;rfl):True:=⟨⟩
theorem Y3(_:True:=by rfl):True:=⟨⟩
theorem Y4(_:True:=by exact Or.inl rfl):True:=⟨⟩
open PySem PySem.Spec PyProof.Rows
abbrev Key:=Sum Int Str
def rW:Key->Value->Bool
 |.inl k,v=>Value.isInt k v
 |.inr x,v=>Value.isStrOf x v
def Vn(w:World):Key->Int
 |.inl k=>hashInt k
 |.inr x=>hashStr w x
theorem cZ:∀{k:Key} {v:Value},rW k v=true->(∃i t,k=Sum.inl i/\v=Value.int i t)∨(∃x t,k=Sum.inr x/\v=Value.str x t)
 |.inl i,v,h=>by
  obtain⟨t,e⟩:=Value.isInt_shape (k:=i) (v:=v) h
  exact .inl ⟨i,t,rfl,e⟩
 |.inr x,v,h=>by
  obtain⟨t,e⟩:=Value.isStrOf_shape (x:=x) (v:=v) h
  exact .inr ⟨x,t,rfl,e⟩
theorem Bq(i:Int)(t:Tok):rW (.inl i) (.int i t)=true:=by simp[rW,Value.isInt]
theorem m8(x:Str)(t:Tok):rW (.inr x) (.str x t)=true:=by simp[rW,Value.isStrOf]
theorem QG(a b:Int):decide ((Sum.inl a:Key)=Sum.inl b)=(a == b):=by
 by_cases e:a=b
 ·subst e;simp
 ·have h:¬ (Sum.inl a:Key)=Sum.inl b:=λq=>e (Sum.inl.inj q)
  rw[decide_eq_false h]
  exact(beq_eq_false_iff_ne.mpr e).symm
theorem QA(a b:Str):decide ((Sum.inr a:Key)=Sum.inr b)=decide (a=b):=by
 by_cases e:a=b
 ·subst e;simp
 ·have h:¬ (Sum.inr a:Key)=Sum.inr b:=λq=>e (Sum.inr.inj q)
  rw[decide_eq_false h,decide_eq_false e]
theorem Pr(a:Int)(b:Str):decide ((Sum.inl a:Key)=Sum.inr b)=false:=decide_eq_false (λq=>nomatch q)
theorem QS(a:Str)(b:Int):decide ((Sum.inr a:Key)=Sum.inl b)=false:=decide_eq_false (λq=>nomatch q)
def bL(prog:Program)(w:World):PySem.KeyKind prog w Key where
 is:=rW
 hash:=Vn w
 inj:=λv a b ha hb=>by
  rcases cZ ha with ⟨i,t,rfl,rfl⟩|⟨x,t,rfl,rfl⟩
  ·rcases cZ hb with ⟨j,u,rfl,e⟩|⟨y,u,rfl,e⟩
   ·injection e with e1 _;rw[e1]
   ·exact nomatch e
  ·rcases cZ hb with ⟨j,u,rfl,e⟩|⟨y,u,rfl,e⟩
   ·exact nomatch e
   ·injection e with e1 _;rw[e1]
 byValue:=λk v h=>by
  rcases cZ h with ⟨i,t,rfl,rfl⟩|⟨x,t,rfl,rfl⟩ <;> rfl
 pyHash:=λhv h=>by
  rcases cZ hv with ⟨i,t,rfl,rfl⟩|⟨x,t,rfl,rfl⟩
  ·exact wpAny_pyHash_int h
  ·exact wpAny_pyHash_str h
 eqBool:=λhu hv h=>by
  rcases cZ hu with ⟨i,t,rfl,rfl⟩|⟨x,t,rfl,rfl⟩
  ·rcases cZ hv with ⟨j,u,rfl,rfl⟩|⟨y,u,rfl,rfl⟩
   ·rw[QG] at h;exact wpAny_eqBool_int h
   ·rw[Pr] at h;exact SeqAt.EqAt.int_str i t y u _ _ _ _ h
  ·rcases cZ hv with ⟨j,u,rfl,rfl⟩|⟨y,u,rfl,rfl⟩
   ·rw[QS] at h;exact SeqAt.EqAt.str_int x t j u _ _ _ _ h
   ·rw[QA] at h;exact wpAny_eqBool_str h
 «strs»:=λk x t v h=>by
  rcases cZ h with ⟨i,u,rfl,e⟩|⟨y,u,rfl,e⟩
  ·exact nomatch e
  ·injection e with e1 _
   subst e1
   cases v <;> rfl
theorem vC(prog:Program)(w:World)(i:Int)(t:Tok):(bL prog w).is (.inl i) (.int i t)=true:=Bq i t
theorem vf(prog:Program)(w:World)(x:Str)(t:Tok):(bL prog w).is (.inr x) (.str x t)=true:=m8 x t
inductive V where
 |cu | bl (b:Bool) | int (i:Int) | str (x:Str) | byt (b:Array UInt8) | BV (b:UInt64) | ref (a:Addr) | ty (n:String)
 deriving DecidableEq
def RelV:V->Value->Prop
 |.cu,u=>u=Value.none
 |.bl b,u=>u=Value.bool b
 |.int i,u=>∃t,u=Value.int i t
 |.str x,u=>∃t,u=Value.str x t
 |.byt b,u=>∃t,u=Value.bytes b t
 |.BV b,u=>∃t,u=Value.float b t
 |.ref a,u=>u=Value.ref a
 |.ty n,u=>u=Value.type n
abbrev Vals:List V->List Value->Prop:=Paired RelV
theorem Vals.length{xs:List V}{us:List Value}(r:Vals xs us):xs.length=us.length:=Paired.length r
theorem Vals.get:∀{xs:List V} {us:List Value} {i:Nat} {x:V},Vals xs us->xs[i]?=some x->∃u,us[i]?=some u/\RelV x u
 |_,_,_,_,.nil,e=>by simp at e
 |_,_,0,_,.cons r _,e=>by simp at e;subst e;exact⟨_,rfl,r⟩
 |_,_,i+1,x,.cons _ t,e=>by
  obtain⟨u,h1,h2⟩:=Vals.get (i:=i) (x:=x) t (by simpa using e)
  exact⟨u,by simpa using h1,h2⟩
theorem Vals.set{x:V}{u:Value}(r:RelV x u):∀{xs:List V} {us:List Value} (i:Nat),Vals xs us->Vals (xs.set i x) (us.set i u)
 |_,_,_,.nil=>.nil
 |_,_,0,.cons _ t=>.cons r t
 |_,_,i+1,.cons q t=>.cons q (Vals.set r i t)
theorem Vals.append:∀{xs ys:List V} {us ws:List Value},Vals xs us->Vals ys ws->Vals (xs++ys) (us++ws)
 |_,_,_,_,.nil,s=>s
 |_,_,_,_,.cons r t,s=>.cons r (Vals.append t s)
theorem Vals.take:∀{xs:List V} {us:List Value} (n:Nat),Vals xs us->Vals (xs.take n) (us.take n)
 |_,_,0,_=>.nil
 |_,_,_+1,.nil=>.nil
 |_,_,n+1,.cons r t=>.cons r (Vals.take n t)
theorem Vals.drop:∀{xs:List V} {us:List Value} (n:Nat),Vals xs us->Vals (xs.drop n) (us.drop n)
 |_,_,0,r=>r
 |_,_,_+1,.nil=>.nil
 |_,_,n+1,.cons _ t=>Vals.drop n t
def ju:Option V->Option Value->Prop
 |some v,some u=>RelV v u
 |none,none=>True
 |_,_=>False
def KV{κ:Type}:List (κ×V)->List (κ×Value)->Prop:=Paired λ(p:κ×V) (q:κ×Value)=>p.1=q.1/\RelV p.2 q.2
def kV:Key->V
 |.inl i=>.int i
 |.inr x=>.str x
inductive HO where
  |lst (xs:List V)
  |tup (xs:List V)
  |dK (kvs:List (Key×V)) | dT (kvs:List (List Key×V))
  |set (S:Int->Bool) (n:Nat)
  |ins (C dx:Addr) (fs:List (Str×V))
  |own (x:Addr)
  |xd (fs:List (Str×V))
  |met (f x:Addr)
  |Um (lo hi:Int)
  |jU (o:Obj) (u:HO)
  |JW (ps:Array Value)
  |ext (φ:Heap->Prop)
abbrev Hp:=Addr->Option HO
def upd(H:Hp)(a:Addr)(o:HO):Hp:=λb=>if b=a then some o else H b
theorem af{H:Hp}{a:Addr}{o:HO}:upd H a o a=some o:=by unfold upd;rw[if_pos rfl]
theorem aj{H:Hp}{a b:Addr}{o:HO}(h:b≠a):upd H a o b=H b:=by unfold upd;rw[if_neg h]
theorem d9{H:Hp}{a:Addr}{o u:HO}:upd (upd H a o) a u=upd H a u:=by
 funext b;unfold upd;split <;> rfl
theorem cA{H:Hp}{a b:Addr}{o u:HO}(h:H a=some o)(h':H b=some u)(d:o≠u):a≠b:=by
 intro e;subst e;rw[h] at h';exact d (Option.some.inj h')
theorem ak{H:Hp}{a b:Addr}{o:HO}(h:H a=some o)(h':H b=none):a≠b:=by
 intro e;subst e;rw[h] at h';cases h'
section
variable (P:Program)(w:World)
def cH(H:Hp)(h:Heap)(a:Addr):HO->Prop
 |.lst xs=>xs.length<=sizeLine/\∃(its:List Value) (n:Nat),Vals xs its/\h.get? a=some { cls:=.type "list",data:=.seq its.toArray n }
 |.tup xs=>xs.length<=sizeLine/\∃its:List Value,Vals xs its/\IsTup h a its.toArray
 |.dK kvs=>kvs.length<=sizeLine/\(a == sysModules)=false/\∃vs,KV kvs vs/\h.DictOf (bL P w) a vs
 |.dT kvs=>kvs.length<=sizeLine/\(a == sysModules)=false/\∃xs:List (List Key×Addr×Value),
   Paired (λ(p:List Key×V) (q:List Key×Addr×Value)=>p.1=q.1/\H q.2.1=some (.tup (p.1.map kV))/\RelV p.2 q.2.2) kvs xs /\
   ∃o es ep,h.get? a=some o/\o.ExactDict/\o.data = .dict es ep/\es.toList=xs.map (entryOfKey (tupleKind (bL P w)))/\(xs.map (·.1)).Nodup
 |.set S n=>h.SetOf (intKind P w) a S n
 |.ins C dx fs=>H dx=some (.own a)/\fs.length<=1000/\dx≠a/\h.get? a=some (PySem.W.instObj C dx) /\
   ∃mA,h.Ns1 dx mA/\(∀f,ju (fs.lookup f) (mA f))/\PySem.Within mA (fs.map (·.1))
 |.own _=>∃o,h.get? a=some o
 |.xd fs=>∃mA,h.Ns1 a mA/\∀f,ju (fs.lookup f) (mA f)
 |.Um lo hi=>∃t u v,h.get? a=some { cls:=.type "range",data:=.fields #[.int lo t,.int hi u,.int 1 v] }
 |.jU o u=>h.get? a=some o/\cH H h a u
 |.JW ps=>h.get? a=some { cls:=.none,data:=.fields ps }
 |.met f x=>h.get? a=some (PySem.W.methodObj (.ref f) (.ref x))
 |.ext φ=>φ h/\(∃o,h.get? a=some o)/\∀h1 h2:Heap,φ h1->(∀o,h1.get? a=some o->h2.get? a=some o)->φ h2
def kT(H:Hp)(h:Heap):Prop:=∀a o,H a=some o->cH P w H h a o
end
section
variable {P:Program}{w:World}{H H':Hp}{h h':Heap}{a:Addr}{o:HO}
theorem cH.lt(x:cH P w H h a o):a<h.objs.size:=by
 cases o with
 |lst xs=>obtain⟨_,_,_,_,e⟩:=x;exact Heap.lt_size e
 |tup xs=>obtain⟨_,_,_,p⟩:=x;exact p.lt
 |dK kvs=>obtain⟨_,_,_,_,o,_,_,e,_⟩:=x;exact Heap.lt_size e
 |dT kvs=>obtain⟨_,_,_,_,o,_,_,e,_⟩:=x;exact Heap.lt_size e
 |set S n=>obtain⟨o,_,_,_,e,_⟩:=x;exact Heap.lt_size e
 |ins C dx fs=>obtain⟨_,_,_,e,_⟩:=x;exact Heap.lt_size e
 |own y=>obtain⟨_,e⟩:=x;exact Heap.lt_size e
 |xd fs=>obtain⟨_,⟨_,_,_,e,_⟩,_⟩:=x;exact Heap.lt_size e
 |Um lo hi=>obtain⟨_,_,_,e⟩:=x;exact Heap.lt_size e
 |jU ob u=>obtain⟨e,_⟩:=x;exact Heap.lt_size e
 |JW ps=>exact Heap.lt_size (show h.get? a=some _ from x)
 |met f y=>exact Heap.lt_size (show h.get? a=some _ from x)
 |ext φ=>obtain⟨_,⟨_,e⟩,_⟩:=x;exact Heap.lt_size e
theorem Paired.Nu{α β:Type}{F G:α->β->Prop}:∀{l₁:List α} {l₂:List β},Paired F l₁ l₂->(∀a b,F a b->G a b)->Paired G l₁ l₂
 |_,_,.nil,_=>.nil
 |_,_,.cons r t,f=>.cons (f _ _ r) (Paired.Nu t f)
theorem cH.stay(x:cH P w H h a o)(k:∀b u,(b=a∨H b=some (.own a))->h.get? b=some u->h'.get? b=some u)
  (ho:∀b,H b=some (.own a)->H' b=some (.own a)) (ht:∀b xs,H b=some (.tup xs)->H' b=some (.tup xs)):cH P w H' h' a o:=by
 induction o with
 |lst xs=>obtain⟨z,its,n,r,e⟩:=x;exact⟨z,its,n,r,k _ _ (.inl rfl) e⟩
 |tup xs=>obtain⟨z,its,r,ob,e,c⟩:=x;exact⟨z,its,r,ob,k _ _ (.inl rfl) e,c⟩
 |dK kvs=>obtain⟨z,y,vs,r,ob,es,ep,e,c⟩:=x;exact⟨z,y,vs,r,ob,es,ep,k _ _ (.inl rfl) e,c⟩
 |dT kvs =>
  obtain⟨z,y,xs,r,ob,es,ep,e,c⟩:=x
  exact⟨z,y,xs,Paired.Nu r λp q z=>⟨z.1,ht _ _ z.2.1,z.2.2⟩,ob,es,ep,k _ _ (.inl rfl) e,c⟩
 |set S n=>obtain⟨ob,es,ep,t,e,c⟩:=x;exact⟨ob,es,ep,t,k _ _ (.inl rfl) e,c⟩
 |ins C dx fs =>
  obtain⟨d,z,ne,e,mA,⟨od,es,ep,e2,c⟩,r⟩:=x
  exact⟨ho _ d,z,ne,k _ _ (.inl rfl) e,mA,⟨od,es,ep,k _ _ (.inr d) e2,c⟩,r⟩
 |own y=>obtain⟨ob,e⟩:=x;exact⟨ob,k _ _ (.inl rfl) e⟩
 |xd fs=>obtain⟨mA,⟨od,es,ep,e,c⟩,r⟩:=x;exact⟨mA,⟨od,es,ep,k _ _ (.inl rfl) e,c⟩,r⟩
 |Um lo hi=>obtain⟨t,u,v,e⟩:=x;exact⟨t,u,v,k _ _ (.inl rfl) e⟩
 |jU ob u ih=>obtain⟨e,q⟩:=x;exact⟨k _ _ (.inl rfl) e,ih q⟩
 |JW ps =>
  have e:h.get? a=some { cls:=.none,data:=.fields ps }:=x
  show h'.get? a=some { cls:=.none,data:=.fields ps }
  exact k a _ (.inl rfl) e
 |met f y =>
  have e:h.get? a=some (PySem.W.methodObj (.ref f) (.ref y)):=x
  show h'.get? a=some (PySem.W.methodObj (.ref f) (.ref y))
  exact k a _ (.inl rfl) e
 |ext φ=>obtain⟨p,⟨o,e⟩,st⟩:=x;exact⟨st _ _ p λo q=>k _ _ (.inl rfl) q,⟨o,k _ _ (.inl rfl) e⟩,st⟩
theorem kT.lt(x:kT P w H h)(e:H a=some o):a<h.objs.size:=(x a o e).lt
theorem kT.fresh(x:kT P w H h)(e:h.objs.size<=a):H a=none:=by
 cases q:H a with
 |none=>rfl
 |some u=>exact absurd (Nat.lt_of_lt_of_le (x.lt q) e) (Nat.lt_irrefl _)
theorem kT.kept(x:kT P w H h)(k:∀b u,h.get? b=some u->h'.get? b=some u):kT P w H h':=λa o e =>
 (x a o e).stay (λb u _ q=>k b u q) (λ_ q=>q) λ_ _ q=>q
theorem kT.laid(x:kT P w H h)(k:∀b u,h.get? b=some u->h'.get? b=some u)(hp:h.objs.size<=a)(new:cH P w (upd H a o) h' a o):kT P w (upd H a o) h':=λb u e=>by
 have hn:=x.fresh hp
 by_cases hb:b=a
 ·subst hb;rw[af] at e;cases e;exact new
 ·rw[aj hb] at e
  exact(x b u e).stay (λc v _ q=>k c v q) (λc q=>by rw[aj (ak q hn)];exact q) λc xs q=>by rw[aj (ak q hn)];exact q
end
def Rd(H:Hp)(a:Addr)(u:HO):Prop:=H a=some u∨∃o,H a=some (.jU o u)
theorem Rd.ok{P:Program}{w:World}{H:Hp}{h:Heap}{a:Addr}{u:HO}(r:Rd H a u)(x:kT P w H h):cH P w H h a u:=by
 rcases r with r|⟨o,r⟩
 ·exact x a u r
 ·obtain⟨_,q⟩:=x a _ r
  exact q
def Tj:Option HO->Prop
 |some (.lst _)=>True
 |some (.dK _)=>True
 |some (.dT _)=>True
 |some (.set _ _)=>True
 |some (.ins _ _ _)=>True
 |some (.ext _)=>True
 |_=>False
section
variable {P:Program}{w:World}{H:Hp}{h h':Heap}{x e:Addr}{o':HO}
theorem kT.write(ok:kT P w H h)(mu:Tj (H x))(he:e=x∨H e=some (.own x))(k:∀b u,b≠e->h.get? b=some u->h'.get? b=some u)(heo:∃u,h'.get? e=some u)
  (new:cH P w (upd H x o') h' x o'):kT P w (upd H x o') h':=λb u q=>by
 have nown:∀c y,H c=some (.own y)->c≠x:=λc y r z=>by subst z;rw[r] at mu;exact mu
 have ntup:∀c xs,H c=some (.tup xs)->c≠x:=λc xs r z=>by subst z;rw[r] at mu;exact mu
 by_cases hb:b=x
 ·subst hb;rw[af] at q;cases q;exact new
 ·rw[aj hb] at q
  by_cases hbe:b=e
  ·have q':H b=some (.own x):=by
    rcases he with z|z
    ·exact absurd (hbe.trans z) hb
    ·rw[hbe];exact z
   rw[q] at q';cases q'
   obtain⟨v,hv⟩:=heo
   exact⟨v,by rw[hbe];exact hv⟩
  ·refine(ok b u q).stay (λc v hc r=>k c v ?_ r) (λc r=>by rw[aj (nown c b r)];exact r) λc xs r=>by rw[aj (ntup c xs r)];exact r
   rcases hc with rfl|hc
   ·exact hbe
   ·rintro rfl
    rcases he with z|z
    ·exact nown c b hc z
    ·rw[hc] at z;cases z;exact hb rfl
end
structure Un(fs ex:List Addr)(H H':Hp)(h h':Heap):Prop where
 keep:∀b o,h.get? b=some o->H b=none->b∉fs->b∉ex->h'.get? b=some o
 slot:∀b o,h.get? b=some o->H b=none->b∈fs->b∉ex->∃sl,h'.get? b=some { o with slots:=sl }
 free:∀b o,h.get? b=some o->H b=none->b∉ex->H' b=none
 there:∀b o,h.get? b=some o->b∉ex->∃o',h'.get? b=some o'
 tups:∀b xs,H b=some (.tup xs)->H' b=some (.tup xs)
 oO:∀b o u,H b=some (.jU o u)->H' b=some (.jU o u)
 rg:∀b ps,H b=some (.JW ps)->∃more,H' b=some (.JW (ps++more))
section
variable {fs fs' ex ex':List Addr}{H H1 H2:Hp}{h h1 h2 h':Heap}{a x e:Addr}{o:HO}
theorem Un.any(u:Un fs ex H H1 h h1){b:Addr}{ob:Obj}(q:h.get? b=some ob)(n:H b=none)(hx:b∉ex):∃sl,h1.get? b=some { ob with slots:=sl }:=by
 by_cases hb:b∈fs
 ·exact u.slot b ob q n hb hx
 ·exact⟨ob.slots,u.keep b ob q n hb hx⟩
theorem Un.kept(k:∀b u,h.get? b=some u->h'.get? b=some u):Un fs ex H H h h' :=
 ⟨λb ob q _ _ _=>k b ob q,λb ob q _ _ _=>⟨ob.slots,k b ob q⟩,λ_ _ _ n _=>n,λb ob q _=>⟨ob,k b ob q⟩,λ_ _ q=>q,λ_ _ _ q=>q,λ_ ps q=>⟨#[],by rw[q];simp⟩⟩
theorem Un.refl:Un fs ex H H h h:=Un.kept λ_ _ q=>q
theorem Un.laid(k:∀b u,h.get? b=some u->h'.get? b=some u)(hp:h.objs.size<=a)(hn:H a=none):Un fs ex H (upd H a o) h h' where
 keep:=λb u q _ _ _=>k b u q
 slot:=λb u q _ _ _=>⟨u.slots,k b u q⟩
 free:=λb u q n _=>by rw[aj (Nat.ne_of_lt (Nat.lt_of_lt_of_le (Heap.lt_size q) hp))];exact n
 there:=λb u q _=>⟨u,k b u q⟩
 tups:=λb xs q=>by rw[aj (ak q hn)];exact q
 oO:=λb u xs q=>by rw[aj (ak q hn)];exact q
 rg:=λb ps q=>⟨#[],by rw[aj (ak q hn),q];simp⟩
theorem Un.write(mu:Tj (H x))(he:e=x∨H e=some (.own x))(k:∀b u,b≠e->h.get? b=some u->h'.get? b=some u)(heo:∃u,h'.get? e=some u):Un fs ex H (upd H x o) h h':=by
 have hx:∀b,H b=none->b≠x:=λb n z=>by subst z;rw[n] at mu;exact mu
 have hb:∀b,H b=none->b≠e:=λb n z=>by
  subst z
  rcases he with r|r
  ·exact hx b n r
  ·rw[n] at r;cases r
 have hm:∀b u,H b=some u -> ¬ Tj (some u)->b≠x:=λb u q nm z=>by subst z;rw[q] at mu;exact nm mu
 refine⟨λb u q n _ _=>k b u (hb b n) q,λb u q n _ _=>⟨u.slots,k b u (hb b n) q⟩,λb u q n _=>by rw[aj (hx b n)];exact n,λb u q _=>?_,
  λb xs q=>by rw[aj (hm b _ q λz=>z)];exact q,λb u xs q=>by rw[aj (hm b _ q λz=>z)];exact q,λb ps q=>⟨#[],by rw[aj (hm b _ q λz=>z),q];simp⟩⟩
 by_cases hbe:b=e
 ·subst hbe;exact heo
 ·exact⟨u,k b u hbe q⟩
end
def Ut(h:Heap)(H:Hp):List Addr:=(List.range h.objs.size).filter λa=>(H a).isSome
def uo(h:Heap)(H:Hp):Heap:=PySem.W.hideAll h (Ut h H)
theorem Bj(h:Heap)(H:Hp):(uo h H).objs.size=h.objs.size:=PySem.W.hideAll_size _ _
theorem Ge{h:Heap}{H:Hp}{b:Addr}{o:Obj}(e:h.get? b=some o)(n:H b=none):(uo h H).get? b=some o :=
 PySem.W.hideAll_get _ e λhm=>by
  have q:(H b).isSome=true:=(List.mem_filter.mp hm).2
  rw[n] at q;simp at q
theorem HD{h:Heap}{H:Hp}{b:Addr}{o:Obj}(e:(uo h H).get? b=some o):h.get? b=some o/\H b=none:=by
 have e':h.get? b=some o:=PySem.W.of_hideAll (Ut h H) e
 refine⟨e',?_⟩
 cases q:H b with
 |none=>rfl
 |some x =>
  have hm:b∈Ut h H:=List.mem_filter.mpr ⟨List.mem_range.mpr (Heap.lt_size e'),by simp[q]⟩
  have z:(uo h H).get? b=none:=PySem.W.hideAll_none (Ut h H) hm
  rw[z] at e;cases e
def oR(g h:Heap)(L:Addr):List (Addr×Obj):=(List.range h.objs.size).filterMap λa=>if a=L∨(g.get? a).isSome=true then none else (h.get? a).map λo=>(a,o)
theorem j0{g h:Heap}{L a:Addr}{o:Obj}(h1:a≠L)(h2:g.get? a=none)(h3:h.get? a=some o):(a,o)∈oR g h L :=
 List.mem_filterMap.mpr ⟨a,List.mem_range.mpr (Heap.lt_size h3),by simp[h1,h2,h3]⟩
theorem pN{g h:Heap}{L:Addr}{p:Addr×Obj}(hp:p∈oR g h L):p.1≠L/\g.get? p.1=none/\h.get? p.1=some p.2:=by
 obtain⟨b,_,e⟩:=List.mem_filterMap.mp hp
 split at e
 ·cases e
 ·rename_i hn
  cases q:h.get? b with
  |none=>rw[q] at e;simp at e
  |some u =>
   rw[q] at e
   simp only[Option.map_some,Option.some.injEq] at e
   subst e
   refine⟨λz=>hn (.inl z),?_,q⟩
   show g.get? b=none
   cases r:g.get? b with
   |none=>rfl
   |some v=>exact(hn (.inr (by simp[r]))).elim
theorem Er{g h:Heap}{L:Addr}:News g L h (oR g h L):=λp hp=>let ⟨a,b,c⟩:=pN hp;⟨c,a,b⟩
structure Mod(K:PySem.W.Frag)(mg:Str->Option Value)(base:Heap):Prop where
 RC:K.In base
 glob:base.Ns mainGlobals mg
 blt:∃mb,base.Ns builtinsNs mb/\∀x:Str,x ≠ "__name__" -> mb x=bootBuiltins x
 nolimit:base.NoLimit
structure Cx where
 prog:Program
 w:World
 K:PySem.W.Frag
 mg:Str->Option Value
 base:Heap
 A:Around
 N:List Str
 s₀:Shared
 H₀:Hp
 env:Env
 outer:List Env
 stack:List Env
 ex:List Addr
 fn:Str->Bool
 calm:Bool
 pn:List (Addr×Obj)
 xe:Value->Shared->Prop
def frs(l:List Env):List Addr:=l.filterMap (·.frame)
abbrev Cx.fs(X:Cx):List Addr:=frs X.outer
def Up(sc:Scope)(x:Str):Prop:=sc.names.lookup x=some .local∨sc.names.lookup x=some .cell∨sc.names.lookup x=some .free
def Loc(sc:Scope)(x:Str):Prop:=sc.names.lookup x=some .local∨sc.names.lookup x=some .cell
def Look(env:Env)(h:Heap)(m:Str->Option Value)(x:Str)(u:Value):Prop :=
 (env.kindOf x=some .local/\m x=some u)∨((env.kindOf x=some .cell∨env.kindOf x=some .free)/\∃c,env.cells.lookup x=some c/\h.IsCell c (some u))
structure Cx.Ok(X:Cx):Prop where
 mod:Mod X.K X.mg X.base
 kind:X.env.scope.kind = .function
 glob:X.env.globals=mainGlobals
 blt:X.env.builtins=builtinsNs
 above:X.s₀.heap.objs.size<=X.env.locals
 inj:∀x y c,X.env.cells.lookup x=some c->X.env.cells.lookup y=some c->x=y
 has:∀x,(X.env.kindOf x=some .cell∨X.env.kindOf x=some .free)->∃c,X.env.cells.lookup x=some c
 RO:∀x c,X.fn x=true->X.env.cells.lookup x=some c->X.s₀.heap.objs.size<=c
 hd:X.calm=true->X.A.handled=none
 frames:X.A.frames=some X.stack
 stk:X.stack=X.outer∨(X.stack=X.env::X.outer/\X.env.frame=some X.env.locals)
 exf:∀b∈X.ex,b≠X.env.locals/\∀x c,X.env.cells.lookup x=some c->c≠b
 bs:∀b o,X.base.get? b=some o->X.s₀.heap.get? b=some o/\X.H₀ b=none
 Jv:X.base.objs.size<=X.s₀.heap.objs.size
 BR:∀b o,X.base.get? b=some o->b∉X.ex
 HP:∀b∈X.ex,b∉X.fs
 oQ:X.s₀.heap.FunFrames X.base X.outer
 Pz:∀b∈X.fs,X.H₀ b=none
structure Inv(X:Cx)(pins:List (Addr×Obj))(Z:List (Option V))(H:Hp)(s:Shared):Prop where
 ok:X.Ok
 os:s.os=X.s₀.os
 bare:AllBare s.gens
 base:Un X.fs X.ex X.H₀ H X.s₀.heap s.heap
 loc:∃m,s.heap.Ns X.env.locals m/\∀(i:Nat) (x:Str) (v:V),X.N[i]?=some x->Z[i]?=some (some v)->Up X.env.scope x->∃u,RelV v u/\Look X.env s.heap m x u
 cell:∀x c,X.env.cells.lookup x=some c->∃v,s.heap.IsCell c v
 free:H X.env.locals=none
 je:∀x c,X.env.cells.lookup x=some c->H c=none
 pin:∀p∈X.pn++pins,s.heap.get? p.1=some p.2/\H p.1=none/\p.1≠X.env.locals/\p.1∉X.fs/\∀v,p.2.data ≠ .cell v
 hok:kT X.prog X.w H s.heap
 len:Z.length=X.N.length
section
variable {X:Cx}{pins:List (Addr×Obj)}{Z:List (Option V)}{H H':Hp}{s:Shared}{h':Heap}
theorem Cx.Ok.U7(ok:X.Ok){b:Addr}{o:Obj}(e:X.base.get? b=some o):b∉X.fs:=λhb=>by
 have:=(ok.oQ.mem hb).1
 rw[e] at this;cases this
theorem Inv.bs(I:Inv X pins Z H s):∀b o,X.base.get? b=some o->s.heap.get? b=some o/\H b=none:=λb o e =>
 ⟨I.base.keep b o (I.ok.bs b o e).1 (I.ok.bs b o e).2 (I.ok.U7 e) (I.ok.BR b o e),I.base.free b o (I.ok.bs b o e).1 (I.ok.bs b o e).2 (I.ok.BR b o e)⟩
theorem Inv.bk(I:Inv X pins Z H s):∀b o,X.base.get? b=some o->s.heap.get? b=some o:=λb o e=>(I.bs b o e).1
theorem Inv.mod(I:Inv X pins Z H s):Mod X.K X.mg X.base:=I.ok.mod
theorem Inv.k6(I:Inv X pins Z H s):X.K.In s.heap:=I.ok.mod.RC.keeps I.bk
theorem Inv.lt(I:Inv X pins Z H s):X.env.locals<s.heap.objs.size:=by
 obtain⟨_,hn,_⟩:=I.loc
 exact hn.lt
theorem Inv.sz(I:Inv X pins Z H s):X.s₀.heap.objs.size<=s.heap.objs.size:=Nat.le_trans I.ok.above (Nat.le_of_lt I.lt)
theorem Inv.Ub(I:Inv X pins Z H s){a:Addr}(h:s.heap.objs.size<=a):a∉X.fs:=λhb=>by
 obtain⟨_,o,ho,_⟩:=I.ok.oQ.mem hb
 exact absurd (Nat.lt_of_lt_of_le (Heap.lt_size ho) (Nat.le_trans I.sz h)) (Nat.lt_irrefl _)
theorem Inv.OP(I:Inv X pins Z H s):∀x c,X.env.cells.lookup x=some c->c≠X.env.locals:=λx c e z=>by
 obtain⟨v,o,ho,hd⟩:=I.cell x c e
 obtain⟨m,⟨o',es,ep,ho',hd',_⟩,_⟩:=I.loc
 rw[z,ho'] at ho;cases ho;rw[hd'] at hd;cases hd
theorem Inv.oQ(I:Inv X pins Z H s):s.heap.FunFrames X.base X.outer:=by
 have all:∀(l:List Env),(∀b∈frs l,b∈X.fs)->X.s₀.heap.FunFrames X.base l->s.heap.FunFrames X.base l:=by
  intro l
  induction l with
  |nil=>intro _ _;trivial
  |cons env r ih =>
   intro hs hl
   obtain⟨hk,⟨L,o,hf,hn,ho,hd⟩,hr⟩:=hl
   have hL:L∈X.fs:=hs L (by unfold frs;rw[List.filterMap_cons,hf];exact List.mem_cons_self)
   obtain⟨sl,e⟩:=I.base.slot L o ho (I.ok.Pz L hL) hL λz=>I.ok.HP L z hL
   exact⟨hk,⟨L,_,hf,hn,e,hd⟩,ih (λb hb=>hs b (by unfold frs;rw[List.filterMap_cons,hf];exact List.mem_cons_of_mem _ hb)) hr⟩
 exact all X.outer (λ_ hb=>hb) I.ok.oQ
theorem Inv.stack(I:Inv X pins Z H s):s.heap.FunFrames X.base X.stack:=by
 rcases I.ok.stk with e|⟨e,hf⟩
 ·rw[e];exact I.oQ
 ·rw[e]
  obtain⟨m,hn,_⟩:=I.loc
  refine .cons (by rw[I.ok.kind];decide) hf hn ?_ I.oQ
  exact Heap.get?_none_of_le (Nat.le_trans I.ok.Jv I.ok.above)
theorem Inv.jz(I:Inv X pins Z H s):∀b∈frs X.stack,b∈X.env.locals::X.fs:=λb hb=>by
 rcases I.ok.stk with e|⟨e,hf⟩
 ·rw[e] at hb;exact List.mem_cons_of_mem _ hb
 ·rw[e] at hb
  unfold frs at hb
  rw[List.filterMap_cons,hf] at hb
  exact hb
theorem Inv.tV(I:Inv X pins Z H s):∀b∈frs X.stack,H b=none:=λb hb=>by
 rcases List.mem_cons.mp (I.jz b hb) with e|hb
 ·rw[e];exact I.free
 ·obtain⟨_,o,ho,_⟩:=I.ok.oQ.mem hb
  exact I.base.free b o ho (I.ok.Pz b hb) λz=>I.ok.HP b z hb
theorem Inv.step{g':Array GenState}{t':Nat}{d':Drawn}{ch:List Addr}(I:Inv X pins Z H s)
  (hch:∀b∈ch,(b∈X.ex∨X.s₀.heap.objs.size<=b)/\b≠X.env.locals/\(∀x c,X.env.cells.lookup x=some c->c≠b)/\∀p∈X.pn++pins,p.1≠b)
  (keep:∀b o,b≠X.env.locals->b∉X.fs->b∉ch->s.heap.get? b=some o->H b=none->h'.get? b=some o)
  (slot:∀b o,b≠X.env.locals->b∈X.fs->b∉ch->s.heap.get? b=some o->H b=none->∃sl,h'.get? b=some { o with slots:=sl }) (free:∀b o,b∉ch->s.heap.get? b=some o->H b=none->H' b=none)
  (there:∀b o,b∉ch->s.heap.get? b=some o->∃o',h'.get? b=some o')
  (tups:∀b xs,H b=some (.tup xs)->H' b=some (.tup xs)) (oO:∀b o u,H b=some (.jU o u)->H' b=some (.jU o u)) (rg:∀b ps,H b=some (.JW ps)->∃more,H' b=some (.JW (ps++more)))
  (ns:∀m,s.heap.Ns X.env.locals m->h'.Ns X.env.locals m) (hok:kT X.prog X.w H' h') (hg:AllBare g') :
  Inv X pins Z H' { s with heap:=h',gens:=g',drawn:=d',toks:=t' }:=by
 have neL:∀b o,X.s₀.heap.get? b=some o->b≠X.env.locals:=λb o e=>Nat.ne_of_lt (Nat.lt_of_lt_of_le (Heap.lt_size e) I.ok.above)
 have neC:∀b o,X.s₀.heap.get? b=some o->b∉X.ex->b∉ch:=λb o e hx hb=>by
  rcases (hch b hb).1 with z|z
  ·exact hx z
  ·exact absurd (Nat.lt_of_lt_of_le (Heap.lt_size e) z) (Nat.lt_irrefl _)
 have cellK:∀x c,X.env.cells.lookup x=some c->∀v,s.heap.IsCell c v->h'.IsCell c v:=λx c e v ⟨o,ho,hd⟩=>by
  have nch:c∉ch:=λz=>(hch c z).2.2.1 x c e rfl
  by_cases hc:c∈X.fs
  ·obtain⟨sl,q⟩:=slot c o (I.OP x c e) hc nch ho (I.je x c e)
   exact⟨_,q,hd⟩
  ·exact⟨o,keep c o (I.OP x c e) hc nch ho (I.je x c e),hd⟩
 refine⟨I.ok,I.os,hg,⟨λb o e n hb hx=>?_,λb o e n hb hx=>?_,λb o e n hx=>?_,λb o e hx=>?_,λb xs e=>tups b xs (I.base.tups b xs e),λb o xs e=>oO b o xs (I.base.oO b o xs e),λb ps e=>?_⟩,?_,λx c e=>?_,?_,λx c e=>?_,λp hp=>?_,hok,I.len⟩
 ·exact keep b o (neL b o e) hb (neC b o e hx) (I.base.keep b o e n hb hx) (I.base.free b o e n hx)
 ·obtain⟨sl,e1⟩:=I.base.slot b o e n hb hx
  obtain⟨sl',e2⟩:=slot b _ (neL b o e) hb (neC b o e hx) e1 (I.base.free b o e n hx)
  exact⟨sl',e2⟩
 ·obtain⟨o',e1⟩:=I.base.there b o e hx
  exact free b o' (neC b o e hx) e1 (I.base.free b o e n hx)
 ·obtain⟨o',e1⟩:=I.base.there b o e hx
  exact there b o' (neC b o e hx) e1
 ·obtain⟨m1,e1⟩:=I.base.rg b ps e
  obtain⟨m2,e2⟩:=rg b _ e1
  exact⟨m1++m2,by rw[e2,Array.append_assoc]⟩
 ·obtain⟨m,hn,hl⟩:=I.loc
  refine⟨m,ns m hn,λi x v e1 e2 e3=>?_⟩
  obtain⟨u,r,l⟩:=hl i x v e1 e2 e3
  refine⟨u,r,?_⟩
  rcases l with l|⟨k,c,e,z⟩
  ·exact .inl l
  ·exact .inr ⟨k,c,e,cellK x c e _ z⟩
 ·obtain⟨v,z⟩:=I.cell x c e
  exact⟨v,cellK x c e v z⟩
 ·obtain⟨m,⟨o,_,_,ho,_⟩,_⟩:=I.loc
  exact free _ o (λz=>(hch _ z).2.1 rfl) ho I.free
 ·obtain⟨v,o,ho,hd⟩:=I.cell x c e
  exact free c o (λz=>(hch c z).2.2.1 x c e rfl) ho (I.je x c e)
 ·obtain⟨e,n,ne,nf,d⟩:=I.pin p hp
  have nch:p.1∉ch:=λz=>(hch p.1 z).2.2.2 p hp rfl
  exact⟨keep p.1 p.2 ne nf nch e n,free p.1 p.2 nch e n,ne,nf,d⟩
theorem Inv.un{t':Nat}(I:Inv X pins Z H s)(u:Un X.fs [] H H' s.heap h')(hok:kT X.prog X.w H' h'):Inv X pins Z H' { s with heap:=h',toks:=t' }:=by
 obtain⟨m,⟨o,es,ep,ho,r⟩,_⟩:=id I.loc
 obtain⟨sl,hL⟩:=u.any ho I.free (by simp)
 exact I.step (g':=s.gens) (d':=s.drawn) (ch:=[]) (λ_ z=>nomatch z) (λb o _ hb _ e n=>u.keep b o e n hb (by simp)) (λb o _ hb _ e n=>u.slot b o e n hb (by simp)) (λb o _ e n=>u.free b o e n (by simp)) (λb o _ e=>u.there b o e (by simp)) u.tups u.oO u.rg (λm' hm=>by
  obtain⟨o',es',ep',ho',r'⟩:=hm
  rw[ho] at ho';cases ho'
  exact⟨_,es',ep',hL,r'⟩) hok I.bare
theorem Inv.call{g':Array GenState}{t':Nat}{d':Drawn}{ch:List Addr}(I:Inv X pins Z H s)(u:Un (frs X.stack) ch H H' s.heap h')(hok:kT X.prog X.w H' h')(hg:AllBare g')
  (hch:∀b∈ch,(b∈X.ex∨X.s₀.heap.objs.size<=b)/\b≠X.env.locals/\(∀x c,X.env.cells.lookup x=some c->c≠b)/\∀p∈X.pn++pins,p.1≠b) :
  Inv X pins Z H' { s with heap:=h',gens:=g',drawn:=d',toks:=t' }:=by
 obtain⟨m,⟨o,es,ep,ho,r⟩,_⟩:=id I.loc
 obtain⟨sl,hL⟩:=u.any ho I.free λz=>(hch _ z).2.1 rfl
 exact I.step (ch:=ch) hch (λb o hL hb hc e n=>u.keep b o e n (λz=>(List.mem_cons.mp (I.jz b z)).elim hL hb) hc) (λb o _ _ hc e n=>u.any e n hc) (λb o hc e n=>u.free b o e n hc) (λb o hc e=>u.there b o e hc) u.tups u.oO u.rg (λm' hm=>by
  obtain⟨o',es',ep',ho',r'⟩:=hm
  rw[ho] at ho';cases ho'
  exact⟨_,es',ep',hL,r'⟩) hok hg
theorem Inv.turned{t':Nat}{it:Addr}(I:Inv X pins Z H s)(k:∀b o,b≠it->s.heap.get? b=some o->h'.get? b=some o)(hn:H it=none)(hL:it≠X.env.locals)
  (h1:it∈X.ex∨X.s₀.heap.objs.size<=it) (h2:∀x c,X.env.cells.lookup x=some c->c≠it) (h3:∀p∈X.pn++pins,p.1≠it):Inv X pins Z H { s with heap:=h',toks:=t' }:=by
 have nit:∀b u,H b=some u->b≠it:=λb u e z=>by rw[z,hn] at e;cases e
 refine I.step (g':=s.gens) (d':=s.drawn) (ch:=[it]) (λb hb=>?_) (λb o _ _ hc e _=>k b o (λz=>hc (by simp[z])) e) (λb o _ _ hc e _=>⟨o.slots,k b o (λz=>hc (by simp[z])) e⟩) (λ_ _ _ _ n=>n)
  (λb o hc e=>⟨o,k b o (λz=>hc (by simp[z])) e⟩) (λ_ _ e=>e) (λ_ _ _ e=>e) (λb ps e=>⟨#[],by rw[e];simp⟩) (λm hm=>?_) (λb u e=>?_) I.bare
 ·have e:b=it:=by simpa using hb
  subst e
  exact⟨h1,hL,h2,h3⟩
 ·obtain⟨o,es,ep,ho,r⟩:=hm
  exact⟨o,es,ep,k _ o (Ne.symm hL) ho,r⟩
 ·refine(I.hok b u e).stay (λc v hc q=>k c v ?_ q) (λ_ q=>q) λ_ _ q=>q
  rcases hc with z|z
  ·rw[z];exact nit b u e
  ·exact nit c _ z
theorem Inv.tok(I:Inv X pins Z H s)(t:Nat):Inv X pins Z H { s with toks:=t }:=I.un (h':=s.heap) (t':=t) Un.refl I.hok
theorem Inv.kept{t':Nat}(I:Inv X pins Z H s)(k:∀b u,s.heap.get? b=some u->h'.get? b=some u):Inv X pins Z H { s with heap:=h',toks:=t' }:=I.un (Un.kept k) (I.hok.kept k)
theorem Inv.laid{a:Addr}{o:HO}{t':Nat}(I:Inv X pins Z H s)(k:∀b u,s.heap.get? b=some u->h'.get? b=some u)(hp:s.heap.objs.size<=a)(new:cH X.prog X.w (upd H a o) h' a o) :
  Inv X pins Z (upd H a o) { s with heap:=h',toks:=t' }:=I.un (Un.laid k hp (I.hok.fresh hp)) (I.hok.laid k hp new)
theorem Inv.write{x e:Addr}{o:HO}{t':Nat}(I:Inv X pins Z H s)(mu:Tj (H x))(he:e=x∨H e=some (.own x))(k:∀b u,b≠e->s.heap.get? b=some u->h'.get? b=some u)(heo:∃u,h'.get? e=some u)
  (new:cH X.prog X.w (upd H x o) h' x o):Inv X pins Z (upd H x o) { s with heap:=h',toks:=t' }:=I.un (Un.write mu he k heo) (I.hok.write mu he k heo new)
theorem Inv.cC{pins':List (Addr×Obj)}(I:Inv X pins Z H s)(h:∀p∈pins',s.heap.get? p.1=some p.2/\H p.1=none/\p.1≠X.env.locals/\p.1∉X.fs/\∀v,p.2.data ≠ .cell v):Inv X pins' Z H s :=
 ⟨I.ok,I.os,I.bare,I.base,I.loc,I.cell,I.free,I.je,λp hp=>(List.mem_append.mp hp).elim (λz=>I.pin p (List.mem_append_left _ z)) (h p),I.hok,I.len⟩
theorem uI{N:List Str}(hN:N.Nodup){i j:Nat}{x:Str}(a:N[i]?=some x)(b:N[j]?=some x):i=j:=by
 obtain⟨h1,e1⟩:=List.getElem?_eq_some_iff.mp a
 obtain⟨h2,e2⟩:=List.getElem?_eq_some_iff.mp b
 exact(List.getElem_inj hN).mp (e1.trans e2.symm)
theorem BS{M:Model}{A:Around}{E:Value->Shared->Prop}{i:Nat}{x:Str}{v:V}{u:Value}{Q:Unit->Shared->Prop}(I:Inv X pins Z H s)(hN:X.N.Nodup)(hi:X.N[i]?=some x)(hx:Loc X.env.scope x)(r:RelV v u)
  (h:∀s',Inv X pins (Z.set i (some v)) H s'->(∃a,Heap.SameBut a s.heap s'.heap/\(a=X.env.locals∨X.env.cells.lookup x=some a))->Q () s') (hf:autoParam (X.fn x=true∨X.env.scope.names.lookup x=some .local) L2.Y0._auto_1):wpAny M A (storeName X.env x u) Q E s:=by
 obtain⟨m,hn,hl⟩:=id I.loc
 have hcls:(X.env.scope.kind == .class || (X.env.scope.kind == .module && X.env.locals != X.env.globals))=false:=by rw[I.ok.kind];rfl
 have hiZ:i<Z.length:=by rw[I.len];exact(List.getElem?_eq_some_iff.mp hi).1
 have OP:=I.OP
 have tracked:∀{a:Addr} {h':Heap},(∃o,s.heap.get? a=some o/\H a=none)->Heap.SameBut a s.heap h'->kT X.prog X.w H h':=λ{a h'} ha hs b ob e=>by
  obtain⟨_,_,hfree⟩:=ha
  refine(I.hok b ob e).stay (λc w' hc q=>(hs.2 c ?_).trans q) (λ_ q=>q) λ_ _ q=>q
  rintro rfl
  rcases hc with rfl|hc
  ·rw[hfree] at e;cases e
  ·rw[hfree] at hc;cases hc
 rcases hx with hk|hk
 ·refine wpAny_storeName_local hk hn (λh' hn' hs=>?_) hcls
  obtain⟨oL,_,_,hoL,_⟩:=id hn
  refine h _ ⟨I.ok,I.os,I.bare,⟨λb o e n hb hx=>?_,λb o e n hb hx=>?_,I.base.free,λb o e hx=>?_,I.base.tups,I.base.oO,I.base.rg⟩,⟨_,hn',λj y v' e1 e2 e3=>?_⟩,λy c e=>?_,I.free,I.je,λp hp=>?_,tracked ⟨oL,hoL,I.free⟩ hs,by simpa using I.len⟩ ⟨_,hs,.inl rfl⟩
  ·exact(hs.2 b (Nat.ne_of_lt (Nat.lt_of_lt_of_le (Heap.lt_size e) I.ok.above))).trans (I.base.keep b o e n hb hx)
  ·obtain⟨sl,e1⟩:=I.base.slot b o e n hb hx
   exact⟨sl,(hs.2 b (Nat.ne_of_lt (Nat.lt_of_lt_of_le (Heap.lt_size e) I.ok.above))).trans e1⟩
  ·obtain⟨o',e1⟩:=I.base.there b o e hx
   exact⟨o',(hs.2 b (Nat.ne_of_lt (Nat.lt_of_lt_of_le (Heap.lt_size e) I.ok.above))).trans e1⟩
  ·by_cases hj:j=i
   ·subst hj
    rw[hi] at e1;cases e1
    rw[List.getElem?_set_self hiZ] at e2
    cases e2
    exact⟨u,r,.inl ⟨hk,by simp⟩⟩
   ·rw[List.getElem?_set_ne (Ne.symm hj)] at e2
    obtain⟨u',r',q⟩:=hl j y v' e1 e2 e3
    refine⟨u',r',?_⟩
    rcases q with ⟨k,e⟩|⟨k,c,e,z⟩
    ·refine .inl ⟨k,?_⟩
     have:y≠x:=λe=>hj (uI hN e1 (e ▸ hi))
     simp[this,e]
    ·exact .inr ⟨k,c,e,z.sameBut hs (OP y c e)⟩
  ·obtain⟨w',z⟩:=I.cell y c e
   exact⟨w',z.sameBut hs (OP y c e)⟩
  ·obtain⟨e,n,ne,nf,d⟩:=I.pin p hp
   exact⟨(hs.2 p.1 ne).trans e,n,ne,nf,d⟩
 ·have hfn:X.fn x=true:=by
   rcases hf with z|z
   ·exact z
   ·rw[z] at hk;cases hk
  obtain⟨c,hc⟩:=I.ok.has x (.inl hk)
  obtain⟨w',z⟩:=I.cell x c hc
  refine wpAny_storeName_cell I.ok.kind hk hc z (λh' hc' hs=>?_)
  obtain⟨oc,hoc,hocd⟩:=id z
  refine h { s with heap:=h' } ⟨I.ok,I.os,I.bare,⟨λb o e n hb hx=>?_,λb o e n hb hx=>?_,I.base.free,λb o e hx=>?_,I.base.tups,I.base.oO,I.base.rg⟩,⟨m,hn.sameBut hs (Ne.symm (OP x c hc)),λj y v' e1 e2 e3=>?_⟩,λy c' e=>?_,I.free,I.je,λp hp=>?_,tracked ⟨oc,hoc,I.je x c hc⟩ hs,by simpa using I.len⟩ ⟨c,hs,.inr hc⟩
  ·exact(hs.2 b (Nat.ne_of_lt (Nat.lt_of_lt_of_le (Heap.lt_size e) (I.ok.RO x c hfn hc)))).trans (I.base.keep b o e n hb hx)
  ·obtain⟨sl,e1⟩:=I.base.slot b o e n hb hx
   exact⟨sl,(hs.2 b (Nat.ne_of_lt (Nat.lt_of_lt_of_le (Heap.lt_size e) (I.ok.RO x c hfn hc)))).trans e1⟩
  ·obtain⟨o',e1⟩:=I.base.there b o e hx
   exact⟨o',(hs.2 b (Nat.ne_of_lt (Nat.lt_of_lt_of_le (Heap.lt_size e) (I.ok.RO x c hfn hc)))).trans e1⟩
  ·by_cases hj:j=i
   ·subst hj
    rw[hi] at e1;cases e1
    rw[List.getElem?_set_self hiZ] at e2
    cases e2
    exact⟨u,r,.inr ⟨.inl hk,c,hc,hc'⟩⟩
   ·rw[List.getElem?_set_ne (Ne.symm hj)] at e2
    obtain⟨u',r',q⟩:=hl j y v' e1 e2 e3
    refine⟨u',r',?_⟩
    rcases q with q|⟨k,c',e,z'⟩
    ·exact .inl q
    ·refine .inr ⟨k,c',e,z'.sameBut hs ?_⟩
     rintro rfl
     exact hj (uI hN e1 (I.ok.inj _ _ _ e hc ▸ hi))
  ·by_cases hcc:c'=c
   ·subst hcc;exact⟨_,hc'⟩
   ·obtain⟨w2,z2⟩:=I.cell y c' e
    exact⟨w2,z2.sameBut hs hcc⟩
  ·obtain⟨e,n,ne,nf,d⟩:=I.pin p hp
   refine⟨(hs.2 p.1 ?_).trans e,n,ne,nf,d⟩
   intro q
   rw[q,hoc] at e
   have q':oc=p.2:=Option.some.inj e
   exact d w' (by rw[← q'];exact hocd)
theorem pB{M:Model}{A:Around}{E:Value->Shared->Prop}{i:Nat}{x:Str}{v:V}{u:Value}{Q:Unit->Shared->Prop}(I:Inv X pins Z H s)(hN:X.N.Nodup)(hi:X.N[i]?=some x)(hx:Loc X.env.scope x)(r:RelV v u)
  (h:∀s',Inv X pins (Z.set i (some v)) H s'->Q () s') (hf:autoParam (X.fn x=true∨X.env.scope.names.lookup x=some .local) L2.Y0._auto_1):wpAny M A (storeName X.env x u) Q E s :=
 BS I hN hi hx r (λs' I' _=>h s' I') hf
theorem Inv.Tz{s':Shared}{ch:List Addr}(I:Inv X pins Z H s)(ho:s'.os=s.os)(u:Un (frs X.stack) ch H H' s.heap s'.heap)(hok:kT X.prog X.w H' s'.heap)(hg:AllBare s'.gens)
  (hch:∀b∈ch,(b∈X.ex∨X.s₀.heap.objs.size<=b)/\b≠X.env.locals/\(∀x c,X.env.cells.lookup x=some c->c≠b)/\∀p∈X.pn++pins,p.1≠b):Inv X pins Z H' s':=by
 obtain⟨h',g',d',t',o'⟩:=s'
 have e:o'=s.os:=ho
 subst e
 exact I.call (g':=g') (t':=t') (d':=d') u hok hg hch
end
abbrev XK:=Value->Option Addr->Hp->Prop
abbrev St:=List (Option V)
abbrev VK:=V->Hp->Prop
abbrev TE:=St->Hp->VK->Prop
abbrev TT:=St->Hp->(Bool->Hp->Prop)->Prop
abbrev TA:=St->Hp->(List V->Hp->Prop)->Prop
structure Ends where
 nx:St->Hp->Prop
 rt:VK
 bk:St->Hp->Prop:=λ_ _=>False
 ct:St->Hp->Prop:=λ_ _=>False
abbrev TS:=Ends->St->Hp->Prop
def EP(X:Cx)(pins:List (Addr×Obj))(Z:St)(Q:VK)(u:Value)(s':Shared):Prop:=∃v H',Inv X pins Z H' s'/\RelV v u/\Q v H'
def TP(X:Cx)(pins:List (Addr×Obj))(Z:St)(Q:Bool->Hp->Prop)(b:Bool)(s':Shared):Prop:=∃H',Inv X pins Z H' s'/\Q b H'
def AP(X:Cx)(pins:List (Addr×Obj))(Z:St)(Q:List V->Hp->Prop)(us:List Value)(s':Shared):Prop:=∃vs H',Inv X pins Z H' s'/\Vals vs us/\Q vs H'
def SP(X:Cx)(pins:List (Addr×Obj))(D:Ends)(f:Flow)(s':Shared):Prop :=
 match f with
 |.next=>∃Z' H',Inv X pins Z' H' s'/\D.nx Z' H'
 |.brk=>∃Z' H',Inv X pins Z' H' s'/\D.bk Z' H'
 |.cont=>∃Z' H',Inv X pins Z' H' s'/\D.ct Z' H'
 |.ret u=>∃v Z' H',Inv X pins Z' H' s'/\RelV v u/\D.rt v H'
def PE(X:Cx)(e:Expr)(t:TE):Prop :=
 ∀(pins:List (Addr×Obj)) (s:Shared) (Z:St) (H:Hp) (Q:VK),Inv X pins Z H s->t Z H Q->wpAny (model X.prog X.w) X.A (eval e X.env) (EP X pins Z Q) X.xe s
def PT(X:Cx)(e:Expr)(t:TT):Prop :=
 ∀(pins:List (Addr×Obj)) (s:Shared) (Z:St) (H:Hp) (Q:Bool->Hp->Prop),Inv X pins Z H s->t Z H Q->wpAny (model X.prog X.w) X.A (isTrue e X.env (eval e X.env)) (TP X pins Z Q) X.xe s
def PW(X:Cx)(e:Expr)(t:TT):Prop :=
 ∀(whole:Sem Value) (pins:List (Addr×Obj)) (s:Shared) (Z:St) (H:Hp) (Q:Bool->Hp->Prop),Inv X pins Z H s->t Z H Q->wpAny (model X.prog X.w) X.A (isTrue e X.env whole) (TP X pins Z Q) X.xe s
theorem PW.pt{X:Cx}{e:Expr}{t:TT}(h:PW X e t):PT X e t:=h _
def PA(X:Cx)(es:List Expr)(t:TA):Prop :=
 ∀(pos:Pos) (pins:List (Addr×Obj)) (s:Shared) (Z:St) (H:Hp) (Q:List V->Hp->Prop),Inv X pins Z H s->t Z H Q->wpAny (model X.prog X.w) X.A (spliced (backTo pos (starEach es X.env))) (AP X pins Z Q) X.xe s
def PS(X:Cx)(st:Stmt)(t:TS):Prop :=
 ∀(pins:List (Addr×Obj)) (s:Shared) (Z:St) (H:Hp) (D:Ends),Inv X pins Z H s->t D Z H->wpAny (model X.prog X.w) X.A (exec st X.env) (SP X pins D) X.xe s
def xy(X:Cx)(st:List Stmt)(t:TS):Prop :=
 ∀(pins:List (Addr×Obj)) (s:Shared) (Z:St) (H:Hp) (D:Ends),Inv X pins Z H s->t D Z H->wpAny (model X.prog X.w) X.A (execs st X.env) (SP X pins D) X.xe s
theorem cL{α:Type}{t:Sem α}{Q Q':α->Shared->Prop}{M:Model}{A:Around}{E:Value->Shared->Prop}{s:Shared}(h:wpAny M A t Q E s)(hQ:∀a s,Q a s->Q' a s):wpAny M A t Q' E s:=wpAny_mono h hQ λ_ _ x=>x
section
variable {X:Cx}
def HE(i:Nat):TE:=λZ H Q=>∃v,Z[i]?=some (some v)/\Q v H
def tC(v:V):TE:=λ_ H Q=>Q v H
theorem Ro {i:Nat} {x:Str} {pos:Pos} (hN:X.N[i]?=some x) (hv:Up X.env.scope x) (hd:autoParam ((x == ("__debug__" : Str))=false) L2.Y1._auto_1) (hcd:autoParam ((x == ("__classdict__" : Str))=false) L2.Y1._auto_1):PE X (.Name x pos) (HE i):=by
 intro pins s Z H Q I h
 obtain⟨v,e,h⟩:=h
 obtain⟨m,hn,hl⟩:=I.loc
 obtain⟨u,r,l⟩:=hl i x v hN e hv
 have fin:EP X pins Z Q u s:=⟨v,H,I,r,h⟩
 rcases l with ⟨hk,hm⟩|⟨hk,c,hc,hcell⟩
 ·exact wpAny_Name (wpAny_loadName_local I.ok.kind hk hn hm fin) hd
 ·rcases hk with hk|hk
  ·exact wpAny_Name (wpAny_loadName_cell I.ok.kind hk hc hcell fin) hd
  ·exact wpAny_Name (wpAny_loadName_free I.ok.kind hk hc hcell fin hcd) hd
theorem aB{i j pos}:PE X (.Constant (.int i) j pos) (tC (.int i)):=λ_ _ _ H _ I h=>wpAny_Constant_int ⟨.int i,H,I.tok _,⟨_,rfl⟩,h⟩
theorem j9{b j pos}:PE X (.Constant (.bool b) j pos) (tC (.bl b)):=λ_ _ _ H _ I h=>Constant_bool ⟨.bl b,H,I,rfl,h⟩
theorem bB{j pos}:PE X (.Constant .none j pos) (tC .cu):=λ_ _ _ H _ I h=>Constant_none ⟨.cu,H,I,rfl,h⟩
theorem aJ{x j pos}:PE X (.Constant (.str x) j pos) (tC (.str x)):=λ_ _ _ H _ I h=>Calls.Constant_str ⟨.str x,H,I.tok _,⟨_,rfl⟩,h⟩
def Gl(X:Cx)(x:Str):Prop:=X.env.kindOf x=some .globalImplicit
theorem kK{E:Value->Shared->Prop}{pins:List (Addr×Obj)}{s:Shared}{Z:St}{H:Hp}{x:Str}{u:Value}{pos:Pos}{Q:Value->Shared->Prop}(I:Inv X pins Z H s)(hg:Gl X x)(hm:X.mg x=some u)(h:Q u s)
  (hd:autoParam ((x == ("__debug__" : Str))=false) L2.Y1._auto_1):wpAny (model X.prog X.w) X.A (eval (.Name x pos) X.env) Q E s :=
 Calls.Name_function_global I.ok.kind hg (Calls.loadGlobal_global (by rw[I.ok.glob];exact I.mod.glob.keeps I.bk) hm h) hd
theorem j7{E:Value->Shared->Prop}{pins:List (Addr×Obj)}{s:Shared}{Z:St}{H:Hp}{x:Str}{u:Value}{pos:Pos}{Q:Value->Shared->Prop}(I:Inv X pins Z H s)(hg:Gl X x)(hm:X.mg x=none)(hv:bootBuiltins x=some u)(h:Q u s)
  (hn:autoParam (x ≠ "__name__") L2.Y1._auto_1) (hd:autoParam ((x == ("__debug__" : Str))=false) L2.Y1._auto_1):wpAny (model X.prog X.w) X.A (eval (.Name x pos) X.env) Q E s:=by
 obtain⟨mb,h1,h2⟩:=I.mod.blt
 exact Calls.Name_function_global I.ok.kind hg (Calls.loadGlobal_builtin (by rw[I.ok.glob];exact I.mod.glob.keeps I.bk) hm (by rw[I.ok.blt];exact h1.keeps I.bk) ((h2 x hn).trans hv) h) hd
theorem fq {x:Str} {v:V} {u:Value} {pos:Pos} (hg:Gl X x) (hm:X.mg x=some u) (r:RelV v u) (hd:autoParam ((x == ("__debug__" : Str))=false) L2.Y1._auto_1):PE X (.Name x pos) (tC v) :=
 λ_ _ _ H _ I h=>kK I hg hm ⟨v,H,I,r,h⟩ hd
variable {a b:Expr}{ta tb:TE}{pos:Pos}
def PC(X:Cx)(op:CmpOp)(a b:Expr)(t:TE):Prop :=
 ∀(pins:List (Addr×Obj)) (s:Shared) (Z:St) (H:Hp) (Q:VK),Inv X pins Z H s->t Z H Q ->
  wpAny (model X.prog X.w) X.A (eval a X.env) (λv s₁=>wpAny (model X.prog X.w) X.A (eval b X.env) (λu s₂=>wpAny (model X.prog X.w) X.A (compareOp op v u) (EP X pins Z Q) X.xe s₂) X.xe s₁) X.xe s
theorem wu(b:Expr){op:CmpOp}(h:op ≠ .In)(h2:op ≠ .NotIn):behindInMarks op b=false:=by
 have e1:(op == CmpOp.In)=false:=by cases op <;> first | rfl | exact absurd rfl h
 have e2:(op == CmpOp.NotIn)=false:=by cases op <;> first | rfl | exact absurd rfl h2
 cases b <;> simp[behindInMarks,e1,e2]
def tB(t:TE):TT:=λZ H Q=>t Z H λx H1=>∃c,x = .bl c/\Q c H1
theorem DC{op:CmpOp}{t:TE}(h:PC X op a b t)(h1:behindInMarks op b=false:=by first | exact wu _ (by decide) (by decide) | rfl):PT X (.Compare a [op] [b] pos) (tB t):=by
 intro pins s Z H Q I hw
 refine wpAny_isTrue_Compare1 (cL (h pins s Z H _ I hw) λv s1 h1=>cL h1 λu s2 h2=>cL h2 λc s3 hY=>?_) h1
 obtain⟨x,H1,I1,r1,q1⟩:=hY
 obtain⟨d,rfl,q⟩:=q1
 cases r1
 exact wpAny_truthy_bool ⟨H1,I1,q⟩
theorem iF{e:Expr}{t:TE}(h:PE X e t)(he:autoParam (∀whole,isTrue e X.env whole=(do let v ← whole;standAt e.pos;holding [v] (truthy v))) L2.Y2._auto_1):PT X e (tB t):=by
 intro pins s Z H Q I hw
 refine isTrue_plain (cL (h pins s Z H _ I hw) λv s1 hY=>?_) (he _)
 obtain⟨x,H1,I1,r1,q1⟩:=hY
 obtain⟨d,rfl,q⟩:=q1
 cases r1
 exact wpAny_truthy_bool ⟨H1,I1,q⟩
variable {tA tB':TT}{rest:List Expr}
def Sb(t u:TT):TT:=λZ H Q=>t Z H λc H1=>if c=true then u Z H1 Q else Q false H1
def tOr(t u:TT):TT:=λZ H Q=>t Z H λc H1=>if c=true then Q true H1 else u Z H1 Q
def RM(t:TT):TT:=λZ H Q=>t Z H λc H1=>Q (!c) H1
theorem gF(ha:PT X a tA):PW X (.BoolOp .And [a] pos) tA:=by
 intro wh pins s Z H Q I h
 refine isTrue_and (cL (ha pins s Z H Q I h) λc s1 e=>?_)
 cases c with
 |true=>exact isTrue_and_nil e
 |false=>exact e
theorem gj(ha:PT X a tA):PW X (.BoolOp .Or [a] pos) tA:=by
 intro wh pins s Z H Q I h
 refine isTrue_or (cL (ha pins s Z H Q I h) λc s1 e=>?_)
 cases c with
 |false=>exact isTrue_or_nil e
 |true=>exact e
theorem ic(ha:PT X a tA)(hb:PW X (.BoolOp .And (b::rest) pos) tB'):PW X (.BoolOp .And (a::b::rest) pos) (Sb tA tB'):=by
 intro wh pins s Z H Q I h
 refine isTrue_and (cL (ha pins s Z H _ I h) λc s1  hZ=>?_)
 obtain⟨H1,I1,q1⟩:=hZ
 cases c with
 |true=>exact hb wh pins s1 Z H1 Q I1 q1
 |false=>exact⟨H1,I1,q1⟩
theorem ie(ha:PT X a tA)(hb:PW X (.BoolOp .Or (b::rest) pos) tB'):PW X (.BoolOp .Or (a::b::rest) pos) (tOr tA tB'):=by
 intro wh pins s Z H Q I h
 refine isTrue_or (cL (ha pins s Z H _ I h) λc s1  hZ=>?_)
 obtain⟨H1,I1,q1⟩:=hZ
 cases c with
 |true=>exact⟨H1,I1,q1⟩
 |false=>exact hb wh pins s1 Z H1 Q I1 q1
theorem l0(ha:PT X a tA):PT X (.UnaryOp .Not a pos) (RM tA):=by
 intro pins s Z H Q I h
 exact isTrue_not (ha pins s Z H (λc H1=>Q (!c) H1) I h)
def Ma(ta tb:TE):TE:=λZ H Q=>ta Z H λx H1=>∃c,x = .bl c/\if c=true then tb Z H1 Q else Q (.bl false) H1
def SE(ta tb:TE):TE:=λZ H Q=>ta Z H λx H1=>∃c,x = .bl c/\if c=true then Q (.bl true) H1 else tb Z H1 Q
def M8(ta:TE):TE:=λZ H Q=>ta Z H λx H1=>∃c,x = .bl c/\Q (.bl (!c)) H1
theorem yy{op}{t:TE}(h:PE X a t):PE X (.BoolOp op [a] pos) t:=λpins s Z H Q I hw=>BoolOp_one (h pins s Z H Q I hw)
theorem EB(ha:PE X a ta)(hb:PE X (.BoolOp .And (b::rest) pos) tb):PE X (.BoolOp .And (a::b::rest) pos) (Ma ta tb):=by
 intro pins s Z H Q I h
 refine BoolOp_and (cL (ha pins s Z H _ I h) λv s1  hZ=>?_)
 obtain⟨x,H1,I1,r1,q1⟩:=hZ
 obtain⟨c,rfl,q1⟩:=q1
 cases r1
 refine wpAny_truthy_bool ?_
 cases c with
 |true=>exact hb pins s1 Z H1 Q I1 q1
 |false=>exact⟨.bl false,H1,I1,rfl,q1⟩
theorem Sj(ha:PE X a ta)(hb:PE X (.BoolOp .Or (b::rest) pos) tb):PE X (.BoolOp .Or (a::b::rest) pos) (SE ta tb):=by
 intro pins s Z H Q I h
 refine BoolOp_or (cL (ha pins s Z H _ I h) λv s1  hZ=>?_)
 obtain⟨x,H1,I1,r1,q1⟩:=hZ
 obtain⟨c,rfl,q1⟩:=q1
 cases r1
 refine wpAny_truthy_bool ?_
 cases c with
 |false=>exact hb pins s1 Z H1 Q I1 q1
 |true=>exact⟨.bl true,H1,I1,rfl,q1⟩
theorem yO(ha:PE X a ta):PE X (.UnaryOp .Not a pos) (M8 ta):=by
 intro pins s Z H Q I h
 refine UnaryOp_ (cL (ha pins s Z H _ I h) λv s1  hZ=>?_)
 obtain⟨x,H1,I1,r1,q1⟩:=hZ
 obtain⟨c,rfl,q1⟩:=q1
 cases r1
 exact not_of (wpAny_truthy_bool ⟨.bl (!c),H1,I1,rfl,q1⟩)
def tIf(t:TT)(ta tb:TE):TE:=λZ H Q=>t Z H λc H1=>if c=true then ta Z H1 Q else tb Z H1 Q
theorem bH{c:Expr}(hc:PT X c tA)(ha:PE X a ta)(hb:PE X b tb):PE X (.IfExp c a b pos) (tIf tA ta tb):=by
 intro pins s Z H Q I h
 refine wpAny_IfExp (cL (hc pins s Z H _ I h) λd s1  hZ=>?_)
 obtain⟨H1,I1,q1⟩:=hZ
 cases d with
 |true=>exact ha pins s1 Z H1 Q I1 q1
 |false=>exact hb pins s1 Z H1 Q I1 q1
end
def aY(K:PySem.W.Frag)(H:Hp)(a:Addr)(xs:List V):Prop :=
 Rd H a (.lst xs) ∨
  ∃(o:Obj) (its:Array Value) (n:Nat),K.lookup a=some o/\o.cls = .type "list" /\ o.dict=none/\o.data = .seq its n/\its.size<=sizeLine/\Vals xs its.toList
def fN(K:PySem.W.Frag)(H:Hp)(a:Addr)(xs:List V):Prop :=
 Rd H a (.tup xs) ∨
  ∃(o:Obj) (its:Array Value) (n:Nat),K.lookup a=some o/\o.cls = .type "tuple" /\ o.data = .seq its n/\its.size<=sizeLine/\Vals xs its.toList
def UZ:Value->Option V
 |.none=>some .cu
 |.bool b=>some (.bl b)
 |.int i _=>some (.int i)
 |.str x _=>some (.str x)
 |.bytes b _=>some (.byt b)
 |.float b _=>some (.BV b)
 |.ref a=>some (.ref a)
 |.type n=>some (.ty n)
 |_=>none
theorem RelV.abs{x:V}{u:Value}(r:RelV x u):UZ u=some x:=by
 cases x with
 |cu=>cases r;rfl
 |bl _=>cases r;rfl
 |int _=>obtain⟨t,rfl⟩:=r;rfl
 |str _=>obtain⟨t,rfl⟩:=r;rfl
 |byt _=>obtain⟨t,rfl⟩:=r;rfl
 |BV _=>obtain⟨t,rfl⟩:=r;rfl
 |ref _=>cases r;rfl
 |ty _=>cases r;rfl
theorem RelV.inj{x y:V}{u:Value}(r:RelV x u)(q:RelV y u):x=y:=Option.some.inj (r.abs.symm.trans q.abs)
theorem Vals.inj:∀{xs ys:List V} {us:List Value},Vals xs us->Vals ys us->xs=ys
 |_,_,_,.nil,.nil=>rfl
 |_,_,_,.cons r t,.cons r' t'=>by rw[r.inj r',Vals.inj t t']
section
variable {X:Cx}{pins:List (Addr×Obj)}{Z:St}{H:Hp}{s:Shared}{a:Addr}{xs ys:List V}
theorem aY.of{K:PySem.W.Frag}(h:H a=some (.lst xs)):aY K H a xs:=.inl (.inl h)
theorem fN.of{K:PySem.W.Frag}(h:H a=some (.tup xs)):fN K H a xs:=.inl (.inl h)
theorem Inv.list(I:Inv X pins Z H s)(h:aY X.K H a xs):∃its:List Value,Vals xs its/\PlainL s.heap a its.toArray/\xs.length<=sizeLine:=by
 rcases h with h|⟨o,its,n,hk,hc,hd,hs,hz,r⟩
 ·obtain⟨z,its,n,r,e⟩:=h.ok I.hok
  exact⟨its,r,⟨_,n,e,rfl,rfl,rfl⟩,z⟩
 ·refine⟨its.toList,r,⟨o,n,I.k6 a o hk,hc,hd,by simpa using hs⟩,?_⟩
  have e:=r.length
  simp only[Array.length_toList] at e
  lia
theorem Inv.tuple(I:Inv X pins Z H s)(h:fN X.K H a xs):∃its:List Value,Vals xs its/\IsTup s.heap a its.toArray/\xs.length<=sizeLine:=by
 rcases h with h|⟨o,its,n,hk,hc,hs,hz,r⟩
 ·obtain⟨z,its,r,p⟩:=h.ok I.hok
  exact⟨its,r,p,z⟩
 ·refine⟨its.toList,r,⟨o,I.k6 a o hk,hc,n,by simpa using hs⟩,?_⟩
  have e:=r.length
  simp only[Array.length_toList] at e
  lia
theorem Inv.ko(I:Inv X pins Z H s)(h:aY X.K H a xs)(h':aY X.K H a ys):xs=ys:=by
 obtain⟨its,r,⟨o,n,e,_,_,d⟩,_⟩:=I.list h
 obtain⟨its',r',⟨o',n',e',_,_,d'⟩,_⟩:=I.list h'
 rw[e] at e';cases e'
 rw[d] at d'
 injection d' with d1 _
 have:its=its':=by simpa using congrArg Array.toList d1
 subst this
 exact r.inj r'
theorem Inv.Bo(I:Inv X pins Z H s)(h:fN X.K H a xs)(h':fN X.K H a ys):xs=ys:=by
 obtain⟨its,r,⟨o,e,_,n,d⟩,_⟩:=I.tuple h
 obtain⟨its',r',⟨o',e',_,n',d'⟩,_⟩:=I.tuple h'
 rw[e] at e';cases e'
 rw[d] at d'
 injection d' with d1 _
 have:its=its':=by simpa using congrArg Array.toList d1
 subst this
 exact r.inj r'
end
abbrev Cx.rD(X:Cx)(E:Value->Shared->Prop):Cx:={ X with xe:=E }
abbrev Cx.Us(X:Cx):Cx:=X.rD λ_ _=>False
theorem Cx.Ok.rD{X:Cx}(ok:X.Ok)(E:Value->Shared->Prop):(X.rD E).Ok :=
 ⟨ok.mod,ok.kind,ok.glob,ok.blt,ok.above,ok.inj,ok.has,ok.RO,ok.hd,ok.frames,ok.stk,ok.exf,ok.bs,ok.Jv,ok.BR,ok.HP,ok.oQ,ok.Pz⟩
theorem Cx.Ok.kC{X:Cx}{E:Value->Shared->Prop}(ok:(X.rD E).Ok):X.Ok :=
 ⟨ok.mod,ok.kind,ok.glob,ok.blt,ok.above,ok.inj,ok.has,ok.RO,ok.hd,ok.frames,ok.stk,ok.exf,ok.bs,ok.Jv,ok.BR,ok.HP,ok.oQ,ok.Pz⟩
section
variable {X:Cx}{pins:List (Addr×Obj)}{Z:St}{H:Hp}{s:Shared}{E:Value->Shared->Prop}
theorem Inv.rD(I:Inv X pins Z H s)(E:Value->Shared->Prop):Inv (X.rD E) pins Z H s:=⟨I.ok.rD E,I.os,I.bare,I.base,I.loc,I.cell,I.free,I.je,I.pin,I.hok,I.len⟩
theorem Inv.kC(I:Inv (X.rD E) pins Z H s):Inv X pins Z H s:=⟨I.ok.kC,I.os,I.bare,I.base,I.loc,I.cell,I.free,I.je,I.pin,I.hok,I.len⟩
theorem SP.kC{D:Ends}{f:Flow}{s':Shared}(h:SP (X.rD E) pins D f s'):SP X pins D f s':=by
 cases f with
 |next=>obtain⟨Z',H',I,q⟩:=h;exact⟨Z',H',I.kC,q⟩
 |brk=>obtain⟨Z',H',I,q⟩:=h;exact⟨Z',H',I.kC,q⟩
 |cont=>obtain⟨Z',H',I,q⟩:=h;exact⟨Z',H',I.kC,q⟩
 |ret u=>obtain⟨v,Z',H',I,r,q⟩:=h;exact⟨v,Z',H',I.kC,r,q⟩
theorem xy.Us{st:List Stmt}{t:TS}(h:xy X.Us st t):xy X st t:=λpins s Z H D I hw =>
 wpAny_mono (h pins s Z H D (I.rD _) hw) (λ_ _ q=>q.kC) λ_ _ z=>False.elim z
end
section
variable {X:Cx}{st:Stmt}{rest:List Stmt}{t u:TS}{e:Expr}{te:TE}{pos:Pos}
def TY:TS:=λD Z H=>D.nx Z H
def Sx(t u:TS):TS:=λD Z H=>t { D with nx:=u D } Z H
theorem uL(h1:PS X st t)(h2:xy X rest u):xy X (st::rest) (Sx t u):=by
 intro pins s Z H D I h
 refine wpAny_execs_cons (cL (h1 pins s Z H { D with nx:=u D } I h) λf s1 q=>?_)
 cases f with
 |next =>
  obtain⟨Z',H',I',q⟩:=q
  exact h2 pins s1 Z' H' D I' q
 |ret v=>exact q
 |brk=>exact q
 |cont=>exact q
theorem HM(h1:PS X st t):xy X [st] t:=by
 intro pins s Z H D I h
 refine wpAny_execs_cons (cL (h1 pins s Z H D I h) λf s1 q=>?_)
 cases f with
 |next=>exact wpAny_execs_nil q
 |ret v=>exact q
 |brk=>exact q
 |cont=>exact q
theorem Inv.quiet{pins:List (Addr×Obj)}{Z:St}{H:Hp}{s:Shared}(I:Inv X pins Z H s):interactive X.env=false:=by simp[interactive,I.ok.kind]
def MX(te:TE):TS:=λD Z H=>te Z H λ_ H1=>D.nx Z H1
theorem bG(he:PE X e te)(hs:autoParam (swapsWith e none pos.line X.env=pure false) L2.Y3._auto_1):PS X (.Expr e pos) (MX te):=by
 intro pins s Z H D I h
 exact wpAny_Expr_any (cL (he pins s Z H _ I h) λv s1 ⟨x,H1,I1,r1,q1⟩=>⟨Z,H1,I1,q1⟩) I.quiet hs
def Pq(te:TE):TS:=λD Z H=>te Z H D.rt
theorem aG(he:PE X e te):PS X (.Return (some e) pos) (Pq te):=by
 intro pins s Z H D I h
 exact wpAny_Return_some (cL (he pins s Z H _ I h) λv s1 ⟨x,H1,I1,r1,q1⟩=>⟨x,Z,H1,I1,r1,q1⟩)
def RN(c:TT)(t u:TS):TS:=λD Z H=>c Z H λb H1=>if b=true then t D Z H1 else u D Z H1
theorem aX{c:Expr}{a b:List Stmt}{tc:TT}(hc:PT X c tc)(ha:xy X a t)(hb:xy X b u):PS X (.If c a b pos) (RN tc t u):=by
 intro pins s Z H D I h
 refine wpAny_If (cL (hc pins s Z H _ I h) λd s1  hZ=>?_)
 obtain⟨H1,I1,q1⟩:=hZ
 cases d with
 |true=>exact ha pins s1 Z H1 D I1 q1
 |false=>exact hb pins s1 Z H1 D I1 q1
end
abbrev TG:=V->St->Hp->(St->Hp->Prop)->Prop
abbrev O3:=List V->St->Hp->(St->Hp->Prop)->Prop
def PG(X:Cx)(target:Expr)(t:TG):Prop :=
 ∀(pins:List (Addr×Obj)) (s:Shared) (Z:St) (H:Hp) (v:V) (u:Value) (Q:St->Hp->Prop),Inv X pins Z H s->RelV v u->t v Z H Q ->
  wpAny (model X.prog X.w) X.A (assign target X.env u) (λ_ s'=>∃Z' H',Inv X pins Z' H' s'/\Q Z' H') X.xe s
def Uw(X:Cx)(ts:List Expr)(t:O3):Prop :=
 ∀(pins:List (Addr×Obj)) (s:Shared) (Z:St) (H:Hp) (vs:List V) (us:List Value) (Q:St->Hp->Prop),Inv X pins Z H s->Vals vs us->t vs Z H Q ->
  wpAny (model X.prog X.w) X.A (assignInOrder ((assignEach ts X.env).map (·.2)) us) (λ_ s'=>∃Z' H',Inv X pins Z' H' s'/\Q Z' H') X.xe s
abbrev P8:=V->V->V->Hp->(Hp->Prop)->Prop
def SO(X:Cx)(t:P8):Prop :=
 ∀(pins:List (Addr×Obj)) (s:Shared) (Z:St) (H:Hp) (o i v:V) (ov iv u:Value) (Q:Hp->Prop),Inv X pins Z H s->RelV o ov->RelV i iv->RelV v u->t o i v H Q ->
  wpAny (model X.prog X.w) X.A (setItem ov iv u) (λ_ s'=>∃H',Inv X pins Z H' s'/\Q H') X.xe s
abbrev Uu:=V->V->Hp->VK->Prop
def PIp(X:Cx)(op:Operator)(t:Uu):Prop :=
 ∀(pins:List (Addr×Obj)) (s:Shared) (Z:St) (H:Hp) (x y:V) (v u:Value) (Q:VK),Inv X pins Z H s->RelV x v->RelV y u->t x y H Q ->
  wpAny (model X.prog X.w) X.A (inplaceOp op v u) (EP X pins Z Q) X.xe s
section
variable {X:Cx}{pos:Pos}
def kq(i:Nat):TG:=λv Z H Q=>Q (Z.set i (some v)) H
theorem eW{i:Nat}{x:Str}(hN:X.N.Nodup)(hi:X.N[i]?=some x)(hx:Loc X.env.scope x)(hf:autoParam (X.fn x=true∨X.env.scope.names.lookup x=some .local) L2.Y0._auto_1):PG X (.Name x pos) (kq i):=by
 intro pins s Z H v u Q I r h
 exact wpAny_assign_Name (pB I hN hi hx r (λs' I'=>⟨_,H,I',h⟩) hf)
def SX:O3:=λvs Z H Q=>vs=[]/\Q Z H
def Ed(t:TG)(u:O3):O3:=λvs Z H Q=>∃v r,vs=v::r/\t v Z H λZ' H'=>u r Z' H' Q
theorem fH:Uw X [] SX:=by
 intro pins s Z H vs us Q I r h
 obtain⟨e,h⟩:=h
 subst e
 cases r
 exact assignInOrder_nil ⟨Z,H,I,h⟩
theorem bR{e:Expr}{es:List Expr}{t:TG}{u:O3}(h1:PG X e t)(h2:Uw X es u)
  (hs:autoParam ((assignEach (e::es) X.env).map (·.2)=assign e X.env::(assignEach es X.env).map (·.2)) L2.Y3._auto_1):Uw X (e::es) (Ed t u):=by
 intro pins s Z H vs us Q I r h
 obtain⟨v,vr,e1,h⟩:=h
 subst e1
 cases r with
 |cons r rr =>
  rw[hs]
  refine assignInOrder_cons (cL (h1 pins s Z H _ _ _ I r h) λ_ s1  hZ=>?_)
  obtain⟨Z1,H1,I1,q1⟩:=hZ
  exact h2 pins s1 Z1 H1 _ _ Q I1 rr q1
def Tt(K:PySem.W.Frag)(n:Nat)(t:O3):TG:=λv Z H Q=>∃a xs,v = .ref a/\fN K H a xs/\xs.length=n/\t xs Z H Q
theorem gZ{es:List Expr}{k:Nat}{t:O3}{n:Nat}(hc:X.calm=true)(h:Uw X es t)
  (hn:autoParam ((assignEach es X.env).length=n) L2.Y3._auto_1) (hst:autoParam ((assignEach es X.env).findIdx? (·.1)=none) L2.Y3._auto_1):PG X (.Tuple es k pos) (Tt X.K n t):=by
 intro pins s Z H v u Q I r hw
 obtain⟨a,xs,e1,hq,hl,hw⟩:=hw
 subst e1
 cases r
 obtain⟨its,rv,ht,hz⟩:=I.tuple hq
 refine assign_Tuple_tuple (I.ok.hd hc) ht (by simp[hn,← hl,rv.length]) hst λh' hx=>?_
 have I1:Inv X pins Z H { s with heap:=h' }:=I.kept (t':=s.toks) λb o e=>hx b o (Nat.ne_of_lt (Heap.lt_size e)) e
 exact h pins _ Z H xs _ Q I1 (by simpa using rv) hw
def U1(to ti:TE)(t:P8):TG:=λv Z H Q=>to Z H λo H1=>ti Z H1 λi H2=>t o i v H2 λH3=>Q Z H3
theorem Ea{o i:Expr}{to ti:TE}{t:P8}(ho:PE X o to)(hi:PE X i ti)(hs:SO X t)
  (ha:autoParam (∀v,assign (.Subscript o i pos) X.env v=(do
   let ov ← holding [v] (eval o X.env)
   let iv ← holding [v,ov] (eval i X.env)
   standAt pos
   holding [v,ov,iv] (setItem ov iv v)
   release [v,ov,iv] [])) L2.Y2._auto_1):PG X (.Subscript o i pos) (U1 to ti t):=by
 intro pins s Z H v u Q I r h
 rw[ha]
 refine wpAny_bind (wpAny_holding (cL (ho pins s Z H _ I h) λov s1  hZ=>?_))
 obtain⟨x,H1,I1,r1,q1⟩:=hZ
 refine wpAny_bind (wpAny_holding (cL (hi pins s1 Z H1 _ I1 q1) λiv s2  hZ=>?_))
 obtain⟨y,H2,I2,r2,q2⟩:=hZ
 refine wpAny_bind (wpAny_standAt (wpAny_bind (wpAny_holding (cL (hs pins s2 Z H2 x y v ov iv u _ I2 r1 r2 r q2) λ_ s3  hZ=>?_))))
 obtain⟨H3,I3,q3⟩:=hZ
 exact wpAny_release ⟨Z,H3,I3,q3⟩
def DO(te:TE)(g:TG):TS:=λD Z H=>te Z H λx H1=>g x Z H1 D.nx
theorem yW{tg e:Expr}{te:TE}{g:TG}(he:PE X e te)(hg:PG X tg g)(hs:autoParam (swapsWithSole [tg] e pos.line X.env=pure false) L2.Y3._auto_1)(hw:autoParam (swappedStores [tg] e X.env=pure none) L2.Y3._auto_1)
  (h1:autoParam ((assignEach [tg] X.env).map (·.2)=[assign tg X.env]) L2.Y3._auto_1):PS X (.Assign [tg] e pos) (DO te g):=by
 intro pins s Z H D I h
 refine wpAny_Assign_stores (cL (he pins s Z H _ I h) λv s1 hY=>?_) hs hw
 obtain⟨x,H1,I1,r1,q1⟩:=hY
 rw[h1]
 exact cL (hg pins s1 Z H1 x v _ I1 r1 q1) λ_ s2 q=>q
theorem yJ{i:Nat}{x:Str}{e:Expr}{te:TE}{pos':Pos}(hN:X.N.Nodup)(hi:X.N[i]?=some x)(hx:Loc X.env.scope x)(he:PE X e te)(hs:autoParam (swapsWith e (some (.Name x pos')) pos.line X.env=pure false) L2.Y3._auto_1)(hf:autoParam (X.fn x=true∨X.env.scope.names.lookup x=some .local) L2.Y0._auto_1) :
  PS X (.Assign [.Name x pos'] e pos) (DO te (kq i)):=by
 intro pins s Z H D I h
 refine wpAny_Assign_Name (cL (he pins s Z H _ I h) λv s1 hY=>?_) hs
 obtain⟨y,H1,I1,r1,q1⟩:=hY
 exact pB I1 hN hi hx r1 (λs2 I2=>⟨_,H1,I2,q1⟩) hf
def Sw(i:Nat)(te:TE)(ti:Uu):TS:=λD Z H=>∃x,Z[i]?=some (some x)/\te Z H λy H1=>ti x y H1 λz H2=>D.nx (Z.set i (some z)) H2
theorem yZ{i:Nat}{x:Str}{e:Expr}{te:TE}{op:Operator}{ti:Uu}{pos':Pos}(hN:X.N.Nodup)(hi:X.N[i]?=some x)(hx:Loc X.env.scope x)(he:PE X e te)(ho:PIp X op ti)(hf:autoParam (X.fn x=true∨X.env.scope.names.lookup x=some .local) L2.Y0._auto_1) :
  PS X (.AugAssign (.Name x pos') op e pos) (Sw i te ti):=by
 intro pins s Z H D I h
 obtain⟨v,e1,h⟩:=h
 obtain⟨m,hn,hl⟩:=I.loc
 have vis:Up X.env.scope x:=by rcases hx with k|k;exact .inl k;exact .inr (.inl k)
 obtain⟨u,r,l⟩:=hl i x v hi e1 vis
 refine wpAny_AugAssign_Name ?_
 have go:wpAny (model X.prog X.w) X.A (eval e X.env) (λw s₂=>wpAny (model X.prog X.w) X.A (inplaceOp op u w) (λr s₃=>wpAny (model X.prog X.w) X.A (storeName X.env x r) (λ_=>SP X pins D .next) X.xe s₃) X.xe s₂) X.xe s:=by
  refine cL (he pins s Z H _ I h) λw s1  hZ=>?_
  obtain⟨y,H1,I1,r1,q1⟩:=hZ
  refine cL (ho pins s1 Z H1 v y u w _ I1 r r1 q1) λz s2  hZ=>?_
  obtain⟨zv,H2,I2,r2,q2⟩:=hZ
  exact pB I2 hN hi hx r2 (λs3 I3=>⟨_,H2,I3,q2⟩) hf
 rcases l with ⟨hk,hm⟩|⟨hk,c,hc,hcell⟩
 ·exact wpAny_loadName_local I.ok.kind hk hn hm go
 ·rcases hk with hk|hk
  ·exact wpAny_loadName_cell I.ok.kind hk hc hcell go
  ·rcases hx with k|k
   ·have:X.env.scope.names.lookup x=some .free:=hk
    rw[k] at this;cases this
   ·have:X.env.scope.names.lookup x=some .free:=hk
    rw[k] at this;cases this
def ipI(f:Int->Int->Int):Uu:=λx y H Q=>∃i j,x = .int i/\y = .int j/\Q (.int (f i j)) H
theorem yV:PIp X .Add (ipI λi j=>i+j):=by
 intro pins s Z H x y v u Q I r1 r2 h
 obtain⟨i,j,e1,e2,q⟩:=h
 subst e1;subst e2
 obtain⟨t,rfl⟩:=r1
 obtain⟨t',rfl⟩:=r2
 exact iadd_int ⟨.int _,H,I.tok _,⟨_,rfl⟩,q⟩
end
section
variable {X:Cx}{pos:Pos}
def Qx(c:TT)(tb:TS):TS:=λD Z H=>∃W:Nat->St->Hp->Prop,(∃m,W m Z H)/\∀m Z H,W m Z H ->
 c Z H λb H1=>if b=true then ∃N:St->Hp->Prop,(∀Z' H',N Z' H'->∃m',m'<m/\W m' Z' H')/\tb { D with nx:=N,ct:=N,bk:=D.nx } Z H1 else D.nx Z H1
theorem jO{c:Expr}{body:List Stmt}{tc:TT}{tb:TS}(hp:PassesOwn (model X.prog X.w) X.A X.env X.xe)(hc:PT X c tc)(hb:xy X body tb):PS X (.While c body [] pos) (Qx tc tb):=by
 intro pins s Z H D I h
 obtain⟨W,⟨m0,w0⟩,turn⟩:=h
 refine wpAny_While (codeAny_whileLoop (λn s'=>∃Z' H',Inv X pins Z' H' s'/\W n Z' H') ?_ m0 ⟨Z,H,I,w0⟩)
 rintro n s1 ⟨Z1,H1,I1,w1⟩
 refine wpAny_passesOwn hp (cL (hc pins s1 Z1 H1 _ I1 (turn n Z1 H1 w1)) λb s2  hZ=>?_)
 obtain⟨H2,I2,q2⟩:=hZ
 cases b with
 |true =>
  obtain⟨N,hN,q2⟩:=q2
  rw[if_pos rfl]
  refine wpAny_passesOwn hp (cL (hb pins s2 Z1 H2 _ I2 q2) λf s3 q3=>?_)
  cases f with
  |next =>
   obtain⟨Z3,H3,I3,n3⟩:=q3
   obtain⟨m',hm,w3⟩:=hN Z3 H3 n3
   exact⟨m',hm,Z3,H3,I3,w3⟩
  |cont =>
   obtain⟨Z3,H3,I3,n3⟩:=q3
   obtain⟨m',hm,w3⟩:=hN Z3 H3 n3
   exact⟨m',hm,Z3,H3,I3,w3⟩
  |brk=>exact q3
  |ret v=>exact q3
 |false =>
  rw[if_neg Bool.false_ne_true]
  exact wpAny_execs_nil ⟨Z1,H2,I2,q2⟩
end
structure It where
 go:Nat->Hp->Prop
 IZ:Nat->Hp->V->Hp->Prop
 stop:Nat->Hp->Prop
def mP(X:Cx)(pins:List (Addr×Obj))(H:Hp)(b:Addr):Prop :=
 H b=none/\b≠X.env.locals/\b∉X.fs/\(b∈X.ex∨X.s₀.heap.objs.size<=b)/\(∀x c,X.env.cells.lookup x=some c->c≠b)/\∀p∈X.pn++pins,p.1≠b
theorem Inv.vU{X:Cx}{pins:List (Addr×Obj)}{Z:St}{H H':Hp}{s:Shared}{b:Addr}(I:Inv X pins Z H s)(hb:s.heap.objs.size<=b)(hn:H' b=none):mP X pins H' b:=by
 refine⟨hn,Nat.ne_of_gt (Nat.lt_of_lt_of_le I.lt hb),I.Ub hb,.inr (Nat.le_trans I.sz hb),λx c e z=>?_,λp hp z=>?_⟩
 ·obtain⟨v,q⟩:=I.cell x c e
  exact absurd (Nat.lt_of_lt_of_le q.lt (by rw[z];exact hb)) (Nat.lt_irrefl _)
 ·exact absurd (Nat.lt_of_lt_of_le (Heap.lt_size (I.pin p hp).1) (by rw[z];exact hb)) (Nat.lt_irrefl _)
structure Turn(P:Program)(w:World)(K:PySem.W.Frag)(tg:Expr)(J:It)(fp:List Addr)(it:Addr)(tn:Nat->Heap->Prop):Prop where
 mem:it∈fp
 obj:∀i h,tn i h->∀b∈fp,∃o,h.get? b=some o/\∀v,o.data ≠ .cell v
 keep:∀i h h',tn i h->(∀b∈fp,∀o,h.get? b=some o->h'.get? b=some o)->tn i h'
 item:∀(X:Cx),X.prog=P->X.w=w->X.K=K->X.calm=true->∀(i:Nat) (pins:List (Addr×Obj)) (s:Shared) (Z:St) (H:Hp) (E:Value->Shared->Prop),Inv X pins Z H s->(∀b∈fp,mP X pins H b)->tn i s.heap->J.go i H ->
  wpAny (model P w) X.A (pyNext (.ref it)) (λr s1=>∃u,r=some u /\
   wpAny (model P w) X.A (letOwnedTupleGo tg (.ref it) u) (λ_ s2=>∃x H',Inv X pins Z H' s2/\RelV x u/\J.IZ i H x H'/\tn (i+1) s2.heap/\∀b∈fp,H' b=none) E s1) E s
 done:∀(X:Cx),X.prog=P->X.w=w->X.K=K->X.calm=true->∀(i:Nat) (pins:List (Addr×Obj)) (s:Shared) (Z:St) (H:Hp) (E:Value->Shared->Prop),Inv X pins Z H s->(∀b∈fp,mP X pins H b)->tn i s.heap->J.stop i H ->
  wpAny (model P w) X.A (pyNext (.ref it)) (λr s1=>r=none/\Inv X pins Z H s1) E s
 self:∀(A:Around) (i:Nat) (s:Shared) (Q:Value->Shared->Prop) (E:Value->Shared->Prop),tn i s.heap->Q (.ref it) s->wpAny (model P w) A (pyIter (.ref it)) Q E s
abbrev TI:=St->Hp->(It->Hp->Prop)->Prop
def US(X:Cx)(pins:List (Addr×Obj))(Z:St)(tg:Expr)(R:It->Hp->Prop)(itv:Value)(s2:Shared):Prop :=
 ∃(it:Addr) (fp:List Addr) (tn:Nat->Heap->Prop) (J:It) (H':Hp),itv = .ref it/\Inv X pins Z H' s2/\Turn X.prog X.w X.K tg J fp it tn/\tn 0 s2.heap/\(∀b∈fp,mP X pins H' b)/\R J H'
def PI(X:Cx)(tg iter:Expr)(wi:TI):Prop :=
 ∀(pins:List (Addr×Obj)) (s:Shared) (Z:St) (H:Hp) (R:It->Hp->Prop),Inv X pins Z H s->wi Z H R ->
  wpAny (model X.prog X.w) X.A (eval iter X.env) (λv s1=>wpAny (model X.prog X.w) X.A (pyIter v) (US X pins Z tg R) X.xe s1) X.xe s
theorem Ef{M:Model}{A:Around}{E:Value->Shared->Prop}{s:Shared}{tg:Expr}{it:Addr}{u:Value}{o:Obj}{n:String}{vs:Array Value}{Q:Unit->Shared->Prop}(ho:s.heap.get? it=some o)(hc:o.cls = .type n)(hd:o.data = .fields vs)
  (hn:["enumerate","zip","dict_itemiterator","dict_reverseitemiterator","odict_iterator","itertools.zip_longest","itertools.pairwise"].contains n=false) (hQ:Q () s):wpAny M A (letOwnedTupleGo tg (.ref it) u) Q E s:=by
 unfold letOwnedTupleGo
 cases tg <;> first
  |exact wpAny_pure hQ
  | (cases u <;> first
    |exact wpAny_pure hQ
    | (refine wpAny_bind (wpAny_load ho ?_)
       rw[hc,hd]
       show wpAny M A (if (["enumerate","zip","dict_itemiterator","dict_reverseitemiterator","odict_iterator","itertools.zip_longest","itertools.pairwise"].contains n && vs[0]? == some (rawInt _))=true then _ else _) Q E s
       rw[if_neg (by intro h;rw[hn,Bool.false_and] at h;cases h)]
       exact wpAny_pure hQ))
def LV(K:PySem.W.Frag)(a:Addr):It :=
 ⟨λi H=>∃xs x,aY K H a xs/\xs[i]?=some x,λi H x H'=>H'=H/\∀xs,aY K H a xs->xs[i]?=some x,λi H=>∃xs,aY K H a xs/\xs.length<=i⟩
def N8(lo:Int)(n:Nat):It:=⟨λi _=>i<n,λi H x H'=>H'=H/\x = .int (lo+i),λi _=>n<=i⟩
theorem Bt{P:Program}{w:World}{K:PySem.W.Frag}{tg:Expr}(a it:Addr):Turn P w K tg (LV K a) [it] it (λi h=>h.IsListIter it a i) where
 mem:=by simp
 obj:=λi h st b hb=>by
  have e:b=it:=by simpa using hb
  subst e
  obtain⟨o,e,c,d⟩:=st
  exact⟨o,e,λv z=>by rw[d] at z;cases z⟩
 keep:=λi h h' st k=>st.at λo e=>k it (by simp) o e
 item:=by
  intro X hP hw hK hc i pins s Z H E I hf st hg
  subst hP hw hK
  obtain⟨xs,x,hq,hx⟩:=hg
  obtain⟨its,rv,p,hz⟩:=I.list hq
  obtain⟨u,hu,ru⟩:=rv.get hx
  obtain⟨f0,f1,f2,f3,f4,f5⟩:=hf it (by simp)
  refine wpAny_pyNext_list_item st p.isList (x:=u) (by simpa using hu) λh' st' sb=>?_
  have I1:Inv X pins Z H { s with heap:=h' }:=I.turned (t':=s.toks) (λb o hb e=>(sb.2 b hb).trans e) f0 f1 f3 f4 f5
  obtain⟨o,e,c,d⟩:=id st'
  exact⟨u,rfl,Ef (s:={ s with heap:=h' }) e c d (by decide) ⟨x,H,I1,ru,⟨rfl,λys hy=>by rw[I.ko hy hq];exact hx⟩,st',λb hb=>(hf b hb).1⟩⟩
 done:=by
  intro X hP hw hK hc i pins s Z H E I hf st hg
  subst hP hw hK
  obtain⟨xs,hq,hx⟩:=hg
  obtain⟨its,rv,p,hz⟩:=I.list hq
  obtain⟨f0,f1,f2,f3,f4,f5⟩:=hf it (by simp)
  have hl:=rv.length
  exact wpAny_pyNext_list_end (I.ok.hd hc) st p.isList (by simp;lia) λh' eb=>⟨rfl,I.turned (t':=s.toks) (λb o hb e=>eb b o hb e) f0 f1 f3 f4 f5⟩
 self:=λ_ _ _ _ _ st h=>wpAny_pyIter_listiter st h
theorem yz{P:Program}{w:World}{K:PySem.W.Frag}{tg:Expr}(it:Addr)(lo:Int)(n:Nat):Turn P w K tg (N8 lo n) [it] it (λi h=>IsRangeIter h it (lo+(i:Nat)*1) ((n:Int)-(i:Nat)) 1) where
 mem:=by simp
 obj:=λi h st b hb=>by
  have e:b=it:=by simpa using hb
  subst e
  exact⟨_,st,λv z=>by
   have z':Data.fields _=Data.cell v:=z
   cases z'⟩
 keep:=λi h h' st k=>k it (by simp) _ st
 item:=by
  intro X hP hw hK hc i pins s Z H E I hf st hg
  subst hP hw hK
  obtain⟨f0,f1,f2,f3,f4,f5⟩:=hf it (by simp)
  have W:=Walks.range (prog:=X.prog) (w:=X.w) (I.ok.hd hc) it lo 1 n
  refine W.item i s _ _ hg st λv h' tk hv st' kk=>?_
  obtain⟨t,rfl⟩:=hv
  have I1:Inv X pins Z H { s with heap:=h',toks:=tk }:=I.turned (λb o hb e=>kk b o (by simpa using hb) e) f0 f1 f3 f4 f5
  refine⟨_,rfl,Ef (s:={ s with heap:=h',toks:=tk }) (n:="range_iterator") st' rfl rfl (by decide) ⟨.int (lo+i),H,I1,⟨t,?_⟩,⟨rfl,rfl⟩,st',λb hb=>(hf b hb).1⟩⟩
  rw[Int.mul_one]
 done:=by
  intro X hP hw hK hc i pins s Z H E I hf st hg
  subst hP hw hK
  obtain⟨f0,f1,f2,f3,f4,f5⟩:=hf it (by simp)
  exact wpAny_pyNext_range_end (I.ok.hd hc) st (by have:n<=i:=hg;lia) λh' eb=>⟨rfl,I.turned (t':=s.toks) (λb o hb e=>eb b o hb e) f0 f1 f3 f4 f5⟩
 self:=λ_ _ _ _ _ st h=>wpAny_pyIter_rangeiter st h
section
variable {X:Cx}{tg:Expr}
def Su(K:PySem.W.Frag)(tl:TE):TI:=λZ H R=>tl Z H λx H1=>∃a,x = .ref a/\(∃xs,aY K H1 a xs)/\R (LV K a) H1
theorem eB{l:Expr}{tl:TE}(hl:PE X l tl):PI X tg l (Su X.K tl):=by
 intro pins s Z H R I h
 refine cL (hl pins s Z H _ I h) λv s1  hZ=>?_
 obtain⟨x,H1,I1,r1,q1⟩:=hZ
 obtain⟨a,e,⟨xs,hq⟩,q⟩:=q1
 subst e
 cases r1
 obtain⟨its,rv,p,hz⟩:=I1.list hq
 refine wpAny_pyIter_list p.isList ?_
 refine⟨s1.heap.objs.size,[s1.heap.objs.size],_,_,H1,rfl,I1.kept (t':=s1.toks) λb o e=>Heap.get?_push_of_some _ e,Bt a _,⟨_,Heap.get?_push_size _ rfl,rfl,rfl⟩,λb hb=>?_,q⟩
 have e:b=s1.heap.objs.size:=by simpa using hb
 subst e
 exact I1.vU (Nat.le_refl _) (I1.hok.fresh (Nat.le_refl _))
theorem Ff{pins:List (Addr×Obj)}{Z:St}{H:Hp}{s:Shared}{R:It->Hp->Prop}{E:Value->Shared->Prop}{lo hi:Int}{t u v:Tok}{tk:Nat}(I:Inv X pins Z H s)(h1:-(2 ^ 62)<=lo)(h2:lo<2 ^ 62)(h3:-(2 ^ 62)<=hi)(h4:hi<2 ^ 62)
  (q:R (N8 lo (hi-lo).toNat) H):wpAny (model X.prog X.w) X.A (pyIter (.ref s.heap.objs.size)) (US X pins Z tg R) E { s with heap:=s.heap.push { cls:=.type "range",data:=.fields #[.int lo t,.int hi u,.int 1 v] },toks:=tk }:=by
 refine wpAny_pyIter_range (IsRange.new ..) (small_one h1 h2 h3 h4) ?_
 have I1:Inv X pins Z H { s with heap:=s.heap.push { cls:=.type "range",data:=.fields #[.int lo t,.int hi u,.int 1 v] },toks:=tk }:=I.kept λb o e=>Heap.get?_push_of_some _ e
 refine⟨(s.heap.push { cls:=.type "range",data:=.fields #[.int lo t,.int hi u,.int 1 v] }).objs.size,[(s.heap.push { cls:=.type "range",data:=.fields #[.int lo t,.int hi u,.int 1 v] }).objs.size],_,_,H,rfl,
  I1.kept (t':=tk) λb o e=>Heap.get?_push_of_some _ e,yz _ lo (hi-lo).toNat,?_,λb hb=>?_,q⟩
 ·have e1:lo+((0:Nat):Int)*1=lo:=by simp
  have e2:(((hi-lo).toNat:Nat):Int)-((0:Nat):Int)=Builtin.Range.rangeSize lo hi 1:=by rw[rangeSize_one];split <;> lia
  show IsRangeIter _ _ (lo+((0:Nat):Int)*1) ((((hi-lo).toNat:Nat):Int)-((0:Nat):Int)) 1
  rw[e1,e2]
  exact Heap.get?_push_size _ rfl
 ·have e:b=(s.heap.push { cls:=.type "range",data:=.fields #[.int lo t,.int hi u,.int 1 v] }).objs.size:=by simpa using hb
  subst e
  exact I1.vU (Nat.le_refl _) (I1.hok.fresh (Nat.le_refl _))
def T3(ta:TA):TI:=λZ H R=>ta Z H λvs H1=>∃j:Int,vs=[.int j] /\ -(2 ^ 62)<=j/\j<2 ^ 62/\R (N8 0 j.toNat) H1
theorem jn {a:Expr} {ta:TA} {p pos:Pos} (hg:Gl X "range") (hm:X.mg "range" = none) (ha:PA X [a] ta) (hs:autoParam (starEach [a] X.env=[(false,eval a X.env)]) L2.Y3._auto_1):PI X tg (.Call (.Name "range" p) [a] [] pos) (T3 ta):=by
 intro pins s Z H R I h
 refine Call_ (j7 I hg hm boot_range (PyProof.Rows.callWith_type1 (cL (ha pos pins s Z H _ I h) λus s1 hY=>?_) hs rfl))
 obtain⟨vs,H1,I1,r1,q1⟩:=hY
 obtain⟨j,e,q1,q2,q⟩:=q1
 subst e
 cases r1 with
 |cons r rr =>
  cases rr
  obtain⟨t,rfl⟩:=r
  exact call_range_1 (Ff I1 (by lia) (by lia) q1 q2 (by simpa using q))
def Vm(wi:TI)(g:TG)(tb:TS):TS:=λD Z H=>wi Z H λJ H1=>∃W:Nat->Nat->St->Hp->Prop,(∃m,W 0 m Z H1)/\∀i m Z H,W i m Z H ->
 (J.stop i H/\D.nx Z H)∨(J.go i H/\∃N:St->Hp->Prop,(∀Z' H',N Z' H'->∃m',m'<m/\W (i+1) m' Z' H')/\∀x H',J.IZ i H x H'->g x Z H' λZ2 H2=>tb { D with nx:=N,ct:=N,bk:=D.nx } Z2 H2)
def gr(fp:List Addr)(h:Heap):List (Addr×Obj):=fp.filterMap λb=>(h.get? b).map λo=>(b,o)
theorem bQ{fp:List Addr}{h:Heap}{b:Addr}{o:Obj}(hb:b∈fp)(e:h.get? b=some o):(b,o)∈gr fp h:=List.mem_filterMap.mpr ⟨b,hb,by rw[e];rfl⟩
theorem iy{fp:List Addr}{h:Heap}{p:Addr×Obj}(hp:p∈gr fp h):p.1∈fp/\h.get? p.1=some p.2:=by
 obtain⟨b,hb,e⟩:=List.mem_filterMap.mp hp
 cases q:h.get? b with
 |none=>rw[q] at e;cases e
 |some o =>
  rw[q] at e
  have e':(b,o)=p:=Option.some.inj e
  subst e'
  exact⟨hb,q⟩
theorem Inv.pinned{pins:List (Addr×Obj)}{Z:St}{H:Hp}{s:Shared}{fp:List Addr}(I:Inv X pins Z H s)(hf:∀b∈fp,mP X pins H b)(ho:∀b∈fp,∃o,s.heap.get? b=some o/\∀v,o.data ≠ .cell v):Inv X (pins++gr fp s.heap) Z H s :=
 I.cC λp hp=>(List.mem_append.mp hp).elim (λz=>I.pin p (List.mem_append_right _ z)) λz=>by
  obtain⟨hb,e⟩:=iy z
  obtain⟨f0,f1,f2,_⟩:=hf p.1 hb
  obtain⟨o,e',d⟩:=ho p.1 hb
  rw[e] at e';cases e'
  exact⟨e,f0,f1,f2,d⟩
theorem Inv.pe{pins pl:List (Addr×Obj)}{Z:St}{H:Hp}{s:Shared}(I:Inv X (pins++pl) Z H s):Inv X pins Z H s:=I.cC λp hp=>I.pin p (List.mem_append_right _ (List.mem_append_left _ hp))
theorem OI{iter:Expr}{body:List Stmt}{wi:TI}{g:TG}{tb:TS}{pos:Pos}(hp:PassesOwn (model X.prog X.w) X.A X.env X.xe)(hc:X.calm=true)(hi:PI X tg iter wi)(hg:PG X tg g)(hb:xy X body tb)
  (hs:autoParam (∀x,foldedSetIterable iter X.env x=pure x) L2.Y2._auto_1):PS X (.For tg iter body [] pos) (Vm wi g tb):=by
 intro pins s Z H D I h
 refine wpAny_For (cL (hi pins s Z H _ I h) λv s1 h1=>cL h1 λitv s2 h2=>?_) hs
 obtain⟨it,fp,tn,J,H2,e,I2,T,st2,f2,W,⟨m0,w0⟩,turn⟩:=h2
 subst e
 have stat:∀{H':Hp},(∀b∈fp,H' b=none)->∀b∈fp,mP X pins H' b:=λhn b hb=>⟨hn b hb,(f2 b hb).2⟩
 refine codeAny_forLoop_any (λn s'=>∃i Z' H',Inv X pins Z' H' s'/\tn i s'.heap/\(∀b∈fp,H' b=none)/\W i n Z' H') ?_ m0 ⟨0,Z,H2,I2,st2,λb hb=>(f2 b hb).1,w0⟩
 rintro n s3 ⟨i,Z3,H3,I3,st3,fr3,w3⟩
 rcases turn i n Z3 H3 w3 with ⟨stop,qn⟩|⟨go,N,hN,step⟩
 ·refine wpAny_passesOwn hp (cL (T.done X rfl rfl rfl hc i pins s3 Z3 H3 X.xe I3 (stat fr3) st3 stop) λr s4 hY=>?_)
  obtain⟨hr,I4⟩:=hY
  subst hr
  exact wpAny_execs_nil ⟨Z3,H3,I4,qn⟩
 ·refine wpAny_passesOwn hp (cL (T.item X rfl rfl rfl hc i pins s3 Z3 H3 X.xe I3 (stat fr3) st3 go) λr s4 hY=>?_)
  obtain⟨u,hr,h4⟩:=hY
  subst hr
  refine wpAny_passesOwn hp (cL h4 λ_ s5  hZ=>?_)
  obtain⟨x,H5,I5,r5,y5,st5,fr5⟩:=hZ
  have I5':=I5.pinned (stat fr5) (T.obj _ _ st5)
  refine wpAny_passesOwn hp (cL (hg _ s5 Z3 H5 x u _ I5' r5 (step x H5 y5)) λ_ s6  hZ=>?_)
  obtain⟨Z6,H6,I6,q6⟩:=hZ
  refine wpAny_passesOwn hp (cL (hb _ s6 Z6 H6 _ I6 q6) λf s7 q7=>?_)
  have again:∀{Z7:St} {H7:Hp},Inv X (pins++gr fp s5.heap) Z7 H7 s7->N Z7 H7->∃m,m<n/\∃i Z' H',Inv X pins Z' H' s7/\tn i s7.heap/\(∀b∈fp,H' b=none)/\W i m Z' H':=λ{Z7 H7} I7 n7=>by
   obtain⟨m',hm,w7⟩:=hN Z7 H7 n7
   refine⟨m',hm,i+1,Z7,H7,I7.pe,T.keep _ _ _ st5 λb hb o e=>(I7.pin (b,o) (List.mem_append_right _ (List.mem_append_right _ (bQ hb e)))).1,λb hb=>?_,w7⟩
   obtain⟨o,e,d⟩:=T.obj _ _ st5 b hb
   exact(I7.pin (b,o) (List.mem_append_right _ (List.mem_append_right _ (bQ hb e)))).2.1
  cases f with
  |next=>obtain⟨Z7,H7,I7,n7⟩:=q7;exact again I7 n7
  |cont=>obtain⟨Z7,H7,I7,n7⟩:=q7;exact again I7 n7
  |brk=>obtain⟨Z7,H7,I7,q7⟩:=q7;exact⟨Z7,H7,I7.pe,q7⟩
  |ret v=>obtain⟨x7,Z7,H7,I7,r7,q7⟩:=q7;exact⟨x7,Z7,H7,I7.pe,r7,q7⟩
end
theorem DF{K:PySem.W.Frag}{a:Addr}{xs:List V}{g:TG}{tb:TS}{D:Ends}{Z:St}{H:Hp}(Pv:Nat->St->Hp->Prop)(h0:Pv 0 Z H)(hl:∀i Z H,i<=xs.length->Pv i Z H->aY K H a xs)
  (hs:∀i x Z H,xs[i]?=some x->Pv i Z H->g x Z H λZ2 H2=>tb { D with nx:=Pv (i+1),ct:=Pv (i+1),bk:=D.nx } Z2 H2) (hd:∀Z H,Pv xs.length Z H->D.nx Z H) :
  ∃W:Nat->Nat->St->Hp->Prop,(∃m,W 0 m Z H)/\∀i m Z H,W i m Z H ->
   ((LV K a).stop i H/\D.nx Z H)∨((LV K a).go i H/\∃N:St->Hp->Prop,(∀Z' H',N Z' H'->∃m',m'<m/\W (i+1) m' Z' H')/\∀x H',(LV K a).IZ i H x H'->g x Z H' λZ2 H2=>tb { D with nx:=N,ct:=N,bk:=D.nx } Z2 H2):=by
 refine⟨λi m Z H=>m=xs.length-i/\i<=xs.length/\Pv i Z H,⟨xs.length,by simp,Nat.zero_le _,h0⟩,?_⟩
 rintro i m Z H ⟨rfl,hi,p⟩
 have q:=hl i Z H hi p
 by_cases hlt:i<xs.length
 ·refine .inr ⟨⟨xs,xs[i],q,by simp[hlt]⟩,Pv (i+1),λZ' H' p'=>⟨xs.length-(i+1),by lia,rfl,hlt,p'⟩,λx H' y=>?_⟩
  obtain⟨e,y⟩:=y
  subst e
  exact hs i x Z _ (y xs q) p
 ·have e:i=xs.length:=by lia
  subst e
  exact .inl ⟨⟨xs,q,Nat.le_refl _⟩,hd Z H p⟩
theorem Be{lo:Int}{n:Nat}{g:TG}{tb:TS}{D:Ends}{Z:St}{H:Hp}(Pv:Nat->St->Hp->Prop)(h0:Pv 0 Z H)
  (hs:∀i Z H,i<n->Pv i Z H->g (.int (lo+i)) Z H λZ2 H2=>tb { D with nx:=Pv (i+1),ct:=Pv (i+1),bk:=D.nx } Z2 H2) (hd:∀Z H,Pv n Z H->D.nx Z H) :
  ∃W:Nat->Nat->St->Hp->Prop,(∃m,W 0 m Z H)/\∀i m Z H,W i m Z H ->
   ((N8 lo n).stop i H/\D.nx Z H)∨((N8 lo n).go i H/\∃N:St->Hp->Prop,(∀Z' H',N Z' H'->∃m',m'<m/\W (i+1) m' Z' H')/\∀x H',(N8 lo n).IZ i H x H'->g x Z H' λZ2 H2=>tb { D with nx:=N,ct:=N,bk:=D.nx } Z2 H2):=by
 refine⟨λi m Z H=>m=n-i/\i<=n/\Pv i Z H,⟨n,by simp,Nat.zero_le _,h0⟩,?_⟩
 rintro i m Z H ⟨rfl,hi,p⟩
 by_cases hlt:i<n
 ·refine .inr ⟨hlt,Pv (i+1),λZ' H' p'=>⟨n-(i+1),by lia,rfl,hlt,p'⟩,λx H' y=>?_⟩
  obtain⟨e,y⟩:=y
  subst e y
  exact hs i Z _ hlt p
 ·have e:i=n:=by lia
  subst e
  exact .inl ⟨Nat.le_refl _,hd Z H p⟩
abbrev R2:=V->V->Hp->VK->Prop
def m6(X:Cx)(f:Value->Value->Sem Value)(r:R2):Prop :=
 ∀(pins:List (Addr×Obj)) (s:Shared) (Z:St) (H:Hp) (x y:V) (v u:Value) (Q:VK),Inv X pins Z H s->RelV x v->RelV y u->r x y H Q ->
  wpAny (model X.prog X.w) X.A (f v u) (EP X pins Z Q) X.xe s
def UQ(X:Cx)(f:Value->Sem Value)(r:V->Hp->VK->Prop):Prop :=
 ∀(pins:List (Addr×Obj)) (s:Shared) (Z:St) (H:Hp) (x:V) (v:Value) (Q:VK),Inv X pins Z H s->RelV x v->r x H Q ->
  wpAny (model X.prog X.w) X.A (f v) (EP X pins Z Q) X.xe s
def iE(X:Cx)(f:Value)(r:List V->Hp->VK->Prop):Prop :=
 ∀(pins:List (Addr×Obj)) (s:Shared) (Z:St) (H:Hp) (xs:List V) (us:List Value) (Q:VK),Inv X pins Z H s->Vals xs us->r xs H Q ->
  wpAny (model X.prog X.w) X.A (call f us) (EP X pins Z Q) X.xe s
def Vi(X:Cx)(r:V->Hp->(Bool->Hp->Prop)->Prop):Prop :=
 ∀(pins:List (Addr×Obj)) (s:Shared) (Z:St) (H:Hp) (x:V) (v:Value) (Q:Bool->Hp->Prop),Inv X pins Z H s->RelV x v->r x H Q ->
  wpAny (model X.prog X.w) X.A (truthy v) (TP X pins Z Q) X.xe s
def O8(r:R2)(ta tb:TE):TE:=λZ H Q=>ta Z H λx H1=>tb Z H1 λy H2=>r x y H2 Q
def tUn(r:V->Hp->VK->Prop)(ta:TE):TE:=λZ H Q=>ta Z H λx H1=>r x H1 Q
def rI(C:Int->Int->Prop)(g:Int->Int->V):R2:=λx y H Q=>∃i j,x = .int i/\y = .int j/\C i j/\Q (g i j) H
def Mp(g:Int->Int->V):R2:=λx y H Q=>∃i j,x = .int i/\y = .int j/\Q (g i j) H
def rU(g:Int->V):V->Hp->VK->Prop:=λx H Q=>∃i,x = .int i/\Q (g i) H
section
variable {X:Cx}{a b c:Expr}{ta tb tc:TE}{pos:Pos}
theorem OT(ha:PE X a ta)(hb:PE X b tb){pins:List (Addr×Obj)}{s:Shared}{Z:St}{H:Hp}{R:V->V->Hp->Prop}(I:Inv X pins Z H s)
  (h:ta Z H λx H1=>tb Z H1 λy H2=>R x y H2) {Q:Value->Shared->Prop} {f:Value->Value->Sem Value}
  (hf:∀v u s2 x y H2,Inv X pins Z H2 s2->RelV x v->RelV y u->R x y H2->wpAny (model X.prog X.w) X.A (f v u) Q X.xe s2) :
  wpAny (model X.prog X.w) X.A (eval a X.env) (λv s₁=>wpAny (model X.prog X.w) X.A (eval b X.env) (λu s₂=>wpAny (model X.prog X.w) X.A (f v u) Q X.xe s₂) X.xe s₁) X.xe s:=by
 refine cL (ha pins s Z H _ I h) λv s1  hZ=>?_
 obtain⟨x,H1,I1,r1,q1⟩:=hZ
 refine cL (hb pins s1 Z H1 _ I1 q1) λu s2  hZ=>?_
 obtain⟨y,H2,I2,r2,q2⟩:=hZ
 exact hf v u s2 x y H2 I2 r1 r2 q2
theorem aW{op:Operator}{r:R2}(ho:m6 X (binaryOp op) r)(ha:PE X a ta)(hb:PE X b tb):PE X (.BinOp a op b pos) (O8 r ta tb):=by
 intro pins s Z H Q I h
 exact wpAny_BinOp (OT ha hb I h λv u s2 x y H2 I2 rx ry q=>ho pins s2 Z H2 x y v u Q I2 rx ry q)
theorem lq{op:UnaryOp}{r:V->Hp->VK->Prop}(ho:UQ X (unaryOp op) r)(ha:PE X a ta):PE X (.UnaryOp op a pos) (tUn r ta):=by
 intro pins s Z H Q I h
 exact UnaryOp_ (cL (ha pins s Z H _ I h) λv s1 ⟨x,H1,I1,r1,q1⟩=>ho pins s1 Z H1 x v Q I1 r1 q1)
theorem Ur{f:Value->Value->Sem Value}{C:Int->Int->Prop}{g:Int->Int->Int}
  (rule:∀(i j:Int) (t u:Tok) (s:Shared) (Q:Value->Shared->Prop) (E:Value->Shared->Prop),C i j->Q (.int (g i j) s.toks) { s with toks:=s.toks+1 }->wpAny (model X.prog X.w) X.A (f (.int i t) (.int j u)) Q E s) :
  m6 X f (rI C λi j=>.int (g i j)):=by
 intro pins s Z H x y v u Q I rx ry h
 obtain⟨i,j,rfl,rfl,hc,q⟩:=h
 obtain⟨t,rfl⟩:=rx
 obtain⟨t',rfl⟩:=ry
 exact rule i j t t' s _ _ hc ⟨.int (g i j),H,I.tok _,⟨_,rfl⟩,q⟩
theorem TN{f:Value->Value->Sem Value}{g:Int->Int->Int}
  (rule:∀(i j:Int) (t u:Tok) (s:Shared) (Q:Value->Shared->Prop) (E:Value->Shared->Prop),Q (.int (g i j) s.toks) { s with toks:=s.toks+1 }->wpAny (model X.prog X.w) X.A (f (.int i t) (.int j u)) Q E s) :
  m6 X f (Mp λi j=>.int (g i j)):=by
 intro pins s Z H x y v u Q I rx ry h
 obtain⟨i,j,rfl,rfl,q⟩:=h
 obtain⟨t,rfl⟩:=rx
 obtain⟨t',rfl⟩:=ry
 exact rule i j t t' s _ _ ⟨.int (g i j),H,I.tok _,⟨_,rfl⟩,q⟩
theorem Qi{f:Value->Value->Sem Value}{g:Int->Int->Bool}
  (rule:∀(i j:Int) (t u:Tok) (s:Shared) (Q:Value->Shared->Prop) (E:Value->Shared->Prop),Q (.bool (g i j)) s->wpAny (model X.prog X.w) X.A (f (.int i t) (.int j u)) Q E s) :
  m6 X f (Mp λi j=>.bl (g i j)):=by
 intro pins s Z H x y v u Q I rx ry h
 obtain⟨i,j,rfl,rfl,q⟩:=h
 obtain⟨t,rfl⟩:=rx
 obtain⟨t',rfl⟩:=ry
 exact rule i j t t' s _ _ ⟨.bl (g i j),H,I,rfl,q⟩
def Vb(i j:Int):Prop:=0<j/\j<1073741824
def Nf(i j:Int):Prop:=(-(2 ^ 64)<i/\i<2 ^ 64)∨(-(2 ^ 64)<j/\j<2 ^ 64)
theorem Nf.ok{i j:Int}(h:Nf i j):IntMulOk i j:=by
 rcases h with ⟨h1,h2⟩|⟨h1,h2⟩
 ·exact .of_left (intBits_le_64 h1 h2)
 ·exact .of_right (intBits_le_64 h1 h2)
theorem xw(k:Nat):(0:Int)<=2 ^ k:=by
 rw[two_pow_cast]
 exact Int.natCast_nonneg _
theorem bZ:m6 X (binaryOp .Add) (Mp λi j=>.int (i+j)):=TN λ_ _ _ _ _ _ _ q=>add_int q
theorem jN:m6 X (binaryOp .Sub) (Mp λi j=>.int (i-j)):=TN λ_ _ _ _ _ _ _ q=>sub_int q
theorem lQ:m6 X (binaryOp .Mult) (rI Nf λi j=>.int (i*j)):=Ur λ_ _ _ _ _ _ _ hc q=>mul_int q hc.ok
theorem HX:m6 X (binaryOp .FloorDiv) (rI Vb λi j=>.int (i / j)):=Ur λi j _ _ _ _ _ hc q=>by
 have h1:(0:Int)<j:=hc.1
 have h2:j<1073741824:=hc.2
 exact floordiv_int (by lia) (by rw[Int.fdiv_eq_ediv_of_nonneg i (by lia)];exact q) (.inl (PyProof.noPylong_small (by lia)))
theorem jQ:m6 X (binaryOp .Mod) (rI (λ_ j=>0<j) λi j=>.int (i % j)):=Ur λi j _ _ _ _ _ hc q=>by
 have h1:(0:Int)<j:=hc
 exact mod_int' (by lia) (by rw[Int.fmod_eq_emod_of_nonneg i (by lia)];exact q)
theorem Rh:m6 X (binaryOp .RShift) (rI (λ_ j=>0<=j) λi j=>.int (i / 2 ^ j.toNat)):=Ur λi j _ _ _ _ _ hc q =>
 rshift_int hc (by rw[Int.fdiv_eq_ediv_of_nonneg i (xw _)];exact q)
theorem unI{f:Value->Sem Value}{g:Int->Int}
  (rule:∀(i:Int) (t:Tok) (s:Shared) (Q:Value->Shared->Prop) (E:Value->Shared->Prop),Q (.int (g i) s.toks) { s with toks:=s.toks+1 }->wpAny (model X.prog X.w) X.A (f (.int i t)) Q E s) :
  UQ X f (rU λi=>.int (g i)):=by
 intro pins s Z H x v Q I rx h
 obtain⟨i,rfl,q⟩:=h
 obtain⟨t,rfl⟩:=rx
 exact rule i t s _ _ ⟨.int (g i),H,I.tok _,⟨_,rfl⟩,q⟩
theorem i7:UQ X (unaryOp .USub) (rU λi=>.int (-i)):=unI λ_ _ _ _ _ q=>neg_int q
end
def OJ:V->V->Bool
 |.cu,.cu=>true | .cu,.int _=>true | .int _,.cu=>true | .cu,.bl _=>true | .bl _,.cu=>true | .cu,.str _=>true | .str _,.cu=>true
 |.int _,.int _=>true | .bl _,.bl _=>true | .str _,.str _=>true | .byt _,.byt _=>true
 |.int _,.str _=>true | .str _,.int _=>true | .bl _,.str _=>true | .str _,.bl _=>true
 |_,_=>false
def rEq:R2:=λx y H Q=>OJ x y=true/\Q (.bl (decide (x=y))) H
def rNe:R2:=λx y H Q=>OJ x y=true/\Q (.bl (!decide (x=y))) H
theorem zV{i j:Int}:decide (V.int i=V.int j)=(i == j):=by
 rw[Bool.eq_iff_iff]
 simp
theorem FZ{i j:Bool}:decide (V.bl i=V.bl j)=(i == j):=by
 rw[Bool.eq_iff_iff]
 simp
theorem Aq{i j:Str}:decide (V.str i=V.str j)=(i == j):=by
 rw[Bool.eq_iff_iff]
 simp
theorem zU{i j:Array UInt8}:decide (V.byt i=V.byt j)=(i.toList == j.toList):=by
 rw[Bool.eq_iff_iff]
 cases i
 cases j
 simp
section
variable {X:Cx}{a b c:Expr}{ta tb tc:TE}{pos:Pos}
theorem bW{pins:List (Addr×Obj)}{Z:St}{H:Hp}{s:Shared}{Q:VK}{k k':Bool}(I:Inv X pins Z H s)(q:Q (.bl k) H)(e:k=k'):EP X pins Z Q (.bool k') s:=by
 subst e
 exact⟨.bl k,H,I,rfl,q⟩
theorem bS:m6 X (compareOp .Eq) rEq:=by
 intro pins s Z H x y v u Q I rx ry h
 obtain⟨hs,q⟩:=h
 cases x with
 |cu =>
  cases rx
  cases y with
  |cu=>cases ry;exact PySem.EqNone.eq_none_none (bW I q (by simp))
  |bl j=>cases ry;exact PySem.EqNone.eq_none_bool (bW I q (by simp))
  |int j=>obtain⟨t',rfl⟩:=ry;exact PySem.EqNone.eq_none_int (bW I q (by simp))
  |str j=>obtain⟨t',rfl⟩:=ry;exact PySem.EqNone.eq_none_str (bW I q (by simp))
  |_=>exact absurd (show false=true from hs) Bool.false_ne_true
 |bl i =>
  cases rx
  cases y with
  |cu=>cases ry;exact PySem.EqNone.eq_bool_none (bW I q (by simp))
  |bl j=>cases ry;exact eq_bool (bW I q FZ)
  |str j=>obtain⟨t',rfl⟩:=ry;exact PySem.EqMixed.eq_bool_str (bW I q (by simp))
  |_=>exact absurd (show false=true from hs) Bool.false_ne_true
 |int i =>
  obtain⟨t,rfl⟩:=rx
  cases y with
  |cu=>cases ry;exact PySem.EqNone.eq_int_none (bW I q (by simp))
  |int j=>obtain⟨t',rfl⟩:=ry;exact eq_int (bW I q zV)
  |str j=>obtain⟨t',rfl⟩:=ry;exact PySem.EqMixed.eq_int_str (bW I q (by simp))
  |_=>exact absurd (show false=true from hs) Bool.false_ne_true
 |str i =>
  obtain⟨t,rfl⟩:=rx
  cases y with
  |cu=>cases ry;exact PySem.EqNone.eq_str_none (bW I q (by simp))
  |bl j=>cases ry;exact PySem.EqMixed.eq_str_bool (bW I q (by simp))
  |int j=>obtain⟨t',rfl⟩:=ry;exact PySem.EqMixed.eq_str_int (bW I q (by simp))
  |str j=>obtain⟨t',rfl⟩:=ry;exact eq_str (bW I q Aq)
  |_=>exact absurd (show false=true from hs) Bool.false_ne_true
 |byt i =>
  obtain⟨t,rfl⟩:=rx
  cases y with
  |byt j=>obtain⟨t',rfl⟩:=ry;exact PySem.W.eq_bytes (bW I q zU)
  |_=>exact absurd (show false=true from hs) Bool.false_ne_true
 |_=>cases y <;> exact absurd (show false=true from hs) Bool.false_ne_true
theorem iY:m6 X (compareOp .NotEq) rNe:=by
 intro pins s Z H x y v u Q I rx ry h
 obtain⟨hs,q⟩:=h
 cases x with
 |cu =>
  cases rx
  cases y with
  |cu=>cases ry;exact PySem.EqNone.ne_none_none (bW I q (by simp))
  |bl j=>cases ry;exact PySem.EqNone.ne_none_bool (bW I q (by simp))
  |int j=>obtain⟨t',rfl⟩:=ry;exact PySem.EqNone.ne_none_int (bW I q (by simp))
  |str j=>obtain⟨t',rfl⟩:=ry;exact PySem.EqNone.ne_none_str (bW I q (by simp))
  |_=>exact absurd (show false=true from hs) Bool.false_ne_true
 |bl i =>
  cases rx
  cases y with
  |cu=>cases ry;exact PySem.EqNone.ne_bool_none (bW I q (by simp))
  |bl j=>cases ry;exact ne_bool (bW I q (congrArg not FZ))
  |str j=>obtain⟨t',rfl⟩:=ry;exact PySem.EqMixed.ne_bool_str (bW I q (by simp))
  |_=>exact absurd (show false=true from hs) Bool.false_ne_true
 |int i =>
  obtain⟨t,rfl⟩:=rx
  cases y with
  |cu=>cases ry;exact PySem.EqNone.ne_int_none (bW I q (by simp))
  |int j=>obtain⟨t',rfl⟩:=ry;exact ne_int (bW I q (congrArg not zV))
  |str j=>obtain⟨t',rfl⟩:=ry;exact PySem.EqMixed.ne_int_str (bW I q (by simp))
  |_=>exact absurd (show false=true from hs) Bool.false_ne_true
 |str i =>
  obtain⟨t,rfl⟩:=rx
  cases y with
  |cu=>cases ry;exact PySem.EqNone.ne_str_none (bW I q (by simp))
  |bl j=>cases ry;exact PySem.EqMixed.ne_str_bool (bW I q (by simp))
  |int j=>obtain⟨t',rfl⟩:=ry;exact PySem.EqMixed.ne_str_int (bW I q (by simp))
  |str j=>obtain⟨t',rfl⟩:=ry;exact ne_str (bW I q (congrArg not Aq))
  |_=>exact absurd (show false=true from hs) Bool.false_ne_true
 |byt i =>
  obtain⟨t,rfl⟩:=rx
  cases y with
  |byt j=>obtain⟨t',rfl⟩:=ry;exact PySem.W.ne_bytes (bW I q (congrArg not zU))
  |_=>exact absurd (show false=true from hs) Bool.false_ne_true
 |_=>cases y <;> exact absurd (show false=true from hs) Bool.false_ne_true
theorem gx:m6 X (compareOp .Lt) (Mp λi j=>.bl (decide (i<j))):=Qi λ_ _ _ _ _ _ _ q=>lt_int q
theorem jG:m6 X (compareOp .Gt) (Mp λi j=>.bl (decide (j<i))):=Qi λ_ _ _ _ _ _ _ q=>gt_int q
theorem TJ:m6 X (compareOp .GtE) (Mp λi j=>.bl (decide (j<=i))):=Qi λ_ _ _ _ _ _ _ q=>ge_int q
theorem ji:m6 X (compareOp .In) (λx y H Q=>∃i j,x = .str i/\y = .str j/\Q (.bl (!(Builtin.Str.occurrences j i 0 j.length 1).isEmpty)) H):=by
 intro pins s Z H x y v u Q I rx ry h
 obtain⟨i,j,rfl,rfl,q⟩:=h
 obtain⟨t,rfl⟩:=rx
 obtain⟨t',rfl⟩:=ry
 exact in_str (bW I q rfl)
theorem jw:m6 X (compareOp .Is) (λx y H Q=>y = .cu/\Q (.bl (decide (x = .cu))) H):=by
 intro pins s Z H x y v u Q I rx ry h
 obtain⟨rfl,q⟩:=h
 cases ry
 refine is_none_gen (bW I q ?_)
 cases x <;> first
  | (cases rx;rfl)
  | (obtain⟨t,rfl⟩:=rx;rfl)
theorem iV:m6 X (compareOp .IsNot) (λx y H Q=>y = .cu/\Q (.bl (!decide (x = .cu))) H):=by
 intro pins s Z H x y v u Q I rx ry h
 obtain⟨rfl,q⟩:=h
 cases ry
 refine isnot_none_gen (bW I q ?_)
 cases x <;> first
  | (cases rx;rfl)
  | (obtain⟨t,rfl⟩:=rx;rfl)
theorem ir:m6 X (compareOp .NotIn) (λx y H Q=>∃i j,x = .str i/\y = .str j/\Q (.bl (!(!(Builtin.Str.occurrences j i 0 j.length 1).isEmpty))) H):=by
 intro pins s Z H x y v u Q I rx ry h
 obtain⟨i,j,rfl,rfl,q⟩:=h
 obtain⟨t,rfl⟩:=rx
 obtain⟨t',rfl⟩:=ry
 exact notIn_str (bW I q rfl)
theorem aC(b:Expr){op:CmpOp}(h:autoParam (op ≠ .In) L2.Y1._auto_1)(h2:autoParam (op ≠ .NotIn) L2.Y1._auto_1):behindInMarks op b=false:=by
 have e1:(op == CmpOp.In)=false:=by cases op <;> first | rfl | exact absurd rfl h
 have e2:(op == CmpOp.NotIn)=false:=by cases op <;> first | rfl | exact absurd rfl h2
 cases b <;> simp[behindInMarks,e1,e2]
theorem ef{op:CmpOp}{r:R2}(ho:m6 X (compareOp op) r)(ha:PE X a ta)(hb:PE X b tb)(hm:behindInMarks op b=false):PE X (.Compare a [op] [b] pos) (O8 r ta tb):=by
 intro pins s Z H Q I h
 exact wpAny_Compare1 (OT ha hb I h λv u s2 x y H2 I2 rx ry q=>ho pins s2 Z H2 x y v u Q I2 rx ry q) hm
def Mj(t:TE):TT:=λZ H Q=>t Z H λx H'=>∃k,x = .bl k/\Q k H'
theorem az{op:CmpOp}{r:R2}(ho:m6 X (compareOp op) r)(ha:PE X a ta)(hb:PE X b tb)(hm:behindInMarks op b=false):PT X (.Compare a [op] [b] pos) (Mj (O8 r ta tb)):=by
 intro pins s Z H Q I h
 refine wpAny_isTrue_Compare1 (cL (ha pins s Z H _ I h) λv s1 ⟨x,H1,I1,r1,q1⟩=>cL (hb pins s1 Z H1 _ I1 q1) λu s2 ⟨y,H2,I2,r2,q2⟩ =>
  cL (ho pins s2 Z H2 x y v u _ I2 r1 r2 q2) λc s3 ⟨z,H3,I3,r3,k,e,q3⟩=>?_) hm
 subst e
 cases r3
 exact wpAny_truthy_bool ⟨H3,I3,q3⟩
def RK(K:PySem.W.Frag)(x:V)(H:Hp)(k:Bool):Prop :=
 match x with
 |.cu=>k=false
 |.bl b=>k=b
 |.int i=>k=(i != 0)
 |.str y=>y.length<=sizeLine/\k=((y.length:Int) != 0)
 |.byt y=>y.size<=sizeLine/\k=((y.size:Int) != 0)
 |.ref p=>(∃xs,aY K H p xs/\k = !xs.isEmpty)∨(∃xs,fN K H p xs/\k = !xs.isEmpty)∨∃kvs,H p=some (.dK kvs)/\k = !kvs.isEmpty
 |_=>False
theorem yq{κ:Type}{kvs:List (κ×V)}{vs:List (κ×Value)}(r:KV kvs vs):(!vs.isEmpty) = !kvs.isEmpty:=by
 cases r <;> rfl
theorem qC{xs:List V}{its:List Value}(r:Vals xs its):(!its.toArray.isEmpty) = !xs.isEmpty:=by
 cases r <;> simp
theorem lX:(sizeLine:Nat)<2 ^ 63:=by rw[sizeLine_eq];decide
theorem Rg:Vi X (λx H Q=>∃k,RK X.K x H k/\Q k H):=by
 intro pins s Z H x v Q I rx h
 obtain⟨k,e,q⟩:=h
 have hl:=lX
 have hs:sizeLine=16777216:=sizeLine_eq
 cases x with
 |cu =>
  cases rx
  have e':k=false:=e
  subst e'
  exact truthy_none ⟨H,I,q⟩
 |bl b =>
  cases rx
  have e':k=b:=e
  subst e'
  exact wpAny_truthy_bool ⟨H,I,q⟩
 |int i =>
  obtain⟨t,rfl⟩:=rx
  have e':k=(i != 0):=e
  subst e'
  exact PySem.P.truthy_int ⟨H,I,q⟩
 |str y =>
  obtain⟨t,rfl⟩:=rx
  obtain⟨hy,e'⟩:y.length<=sizeLine/\k=((y.length:Int) != 0):=e
  subst e'
  exact PySem.P.truthy_str (by lia) ⟨H,I.tok _,q⟩
 |byt y =>
  obtain⟨t,rfl⟩:=rx
  obtain⟨hy,e'⟩:y.size<=sizeLine/\k=((y.size:Int) != 0):=e
  subst e'
  exact PySem.W.truthy_bytes (by lia) ⟨H,I.tok _,q⟩
 |ref p =>
  cases rx
  have e':(∃xs,aY X.K H p xs/\k = !xs.isEmpty)∨(∃xs,fN X.K H p xs/\k = !xs.isEmpty)∨∃kvs,H p=some (.dK kvs)/\k = !kvs.isEmpty:=e
  rcases e' with ⟨xs,hx,e'⟩|⟨xs,hx,e'⟩|⟨kvs,hx,e'⟩
  ·subst e'
   obtain⟨its,r,pl,hz⟩:=I.list hx
   have hlen:=r.length
   exact wpAny_truthy_list pl.isList (by simp only[List.size_toArray];lia) ⟨H,I.tok _,by rw[qC r];exact q⟩
  ·subst e'
   obtain⟨its,r,pl,hz⟩:=I.tuple hx
   have hlen:=r.length
   exact truthy_tuple pl (by simp only[List.size_toArray];lia) ⟨H,I.tok _,by rw[qC r];exact q⟩
  ·subst e'
   obtain⟨hz,hS,vs,r,m⟩:kvs.length<=sizeLine/\(p == sysModules)=false/\∃vs,KV kvs vs/\s.heap.DictOf (bL X.prog X.w) p vs:=I.hok p _ hx
   have hlen:kvs.length=vs.length:=Paired.length r
   exact wpAny_truthy_dict hS m (by lia) ⟨H,I.tok _,by rw[yq r];exact q⟩
 |_=>exact(show False from e).elim
theorem jj(ha:PE X a ta)(he:∀whole,isTrue a X.env whole=(do let v ← whole;standAt a.pos;holding [v] (truthy v))) :
  PT X a (λZ H Q=>ta Z H λx H'=>∃k,RK X.K x H' k/\Q k H'):=by
 intro pins s Z H Q I h
 exact isTrue_plain (cL (ha pins s Z H _ I h) λv s1 ⟨x,H1,I1,r1,q1⟩=>Rg pins s1 Z H1 x v Q I1 r1 q1) (he _)
theorem cQ:m6 X (binaryOp .Add) (λx y H Q=>∃i j,x = .str i/\y = .str j/\i.length+j.length<=sizeLine/\Q (.str (i++j)) H):=by
 intro pins s Z H x y v u Q I rx ry h
 obtain⟨i,j,rfl,rfl,hz,q⟩:=h
 obtain⟨t,rfl⟩:=rx
 obtain⟨t',rfl⟩:=ry
 exact add_str (λt' tk=>⟨.str (i++j),H,I.tok _,⟨_,rfl⟩,q⟩) hz
theorem vals1{x:V}{us:List Value}(r:Vals [x] us):∃u,us=[u]/\RelV x u:=by
 cases r with
 |cons r1 r2=>cases r2;exact⟨_,rfl,r1⟩
theorem vals2{x y:V}{us:List Value}(r:Vals [x,y] us):∃u w',us=[u,w']/\RelV x u/\RelV y w':=by
 cases r with
 |cons r1 r2 =>
  cases r2 with
  |cons r3 r4=>cases r4;exact⟨_,_,rfl,r1,r3⟩
theorem AM (hc:X.calm=true):iE X (.builtin "max") (λxs H Q=>∃i j,xs=[.int i,.int j]/\Q (.int (if j>i then j else i)) H):=by
 intro pins s Z H xs us Q I r h
 obtain⟨i,j,rfl,q⟩:=h
 obtain⟨u,w',rfl,⟨t,rfl⟩,⟨t',rfl⟩⟩:=vals2 r
 refine max_two_ints (I.ok.hd hc) λh' tk k=>⟨_,H,I.kept k,?_,q⟩
 by_cases hj:j>i
 ·rw[if_pos hj,if_pos hj];exact⟨_,rfl⟩
 ·rw[if_neg hj,if_neg hj];exact⟨_,rfl⟩
theorem BO:iE X (.type "int") (λxs H Q=>(∃i,xs=[.int i]/\Q (.int i) H)∨∃k,xs=[.bl k]/\Q (.int (if k then 1 else 0)) H):=by
 intro pins s Z H xs us Q I r h
 rcases h with ⟨i,rfl,q⟩|⟨k,rfl,q⟩
 ·obtain⟨u,rfl,t,rfl⟩:=vals1 r
  exact call_int_int ⟨.int i,H,I,⟨_,rfl⟩,q⟩
 ·obtain⟨u,rfl,r1⟩:=vals1 r
  cases r1
  exact call_int_bool ⟨.int (if k then 1 else 0),H,I.tok _,⟨_,rfl⟩,q⟩
theorem jx:iE X (.type "str") (λxs H Q=>∃i,xs=[.int i]/\i.natAbs.log2<1920/\Q (.str (toString i)) H):=by
 intro pins s Z H xs us Q I r h
 obtain⟨i,rfl,hz,q⟩:=h
 obtain⟨u,rfl,t,rfl⟩:=vals1 r
 exact PySem.P.str_of_int hz ⟨.str _,H,I.tok _,⟨_,rfl⟩,q⟩
end
structure yr(h:Heap)(x dx C:Addr)(mA:Str->Option Value):Prop where
 obj:h.get? x=some (PySem.W.instObj C dx)
 ns:h.Ns1 dx mA
 ne:dx≠x
theorem Bx{h:Heap}{dx:Addr}{mA:Str->Option Value}(n:h.Ns1 dx mA):∃od,h.get? dx=some od/\∀name,PySem.W.lookIn name od=some (mA name):=by
 obtain⟨o,es,ep,ho,hd,hk,_,hm⟩:=n
 refine⟨o,ho,λname=>?_⟩
 have e:=hm name
 unfold nsFind findBy at e
 rw[← Array.find?_toList] at e
 unfold PySem.W.lookIn
 rw[hd]
 dsimp only
 split
 ·rename_i y q
  rw[q] at e
  exact congrArg some e
 ·rename_i q
  rw[q] at e
  have a:es.toList.any (·.refKey)=false:=by
   rw[List.any_eq_false]
   intro y hy
   obtain⟨z,t,hkey⟩:=hk y (Array.mem_toList_iff.mp hy)
   simp[DictEntry.refKey,hkey]
  have a':¬ es.toList.any (·.refKey)=true:=by rw[a];exact Bool.false_ne_true
  rw[if_neg a']
  exact congrArg some e
theorem yr.look{h:Heap}{x dx C:Addr}{mA:Str->Option Value}(I:yr h x dx C mA):∃od,PySem.W.InstAt h x (PySem.W.instObj C dx) C (some od)/\∀name,PySem.W.lookIn name od=some (mA name) :=
 let ⟨od,ho,hl⟩:=Bx I.ns
 ⟨od,⟨I.obj,rfl,rfl,ho⟩,hl⟩
section
variable {prog:Program}{w:World}{A:Around}{E:Value->Shared->Prop}{s:Shared}{K:PySem.W.Frag}{x dx C f:Addr}{mA:Str->Option Value}{name:Str}{v:Value}
theorem get_map{expr:Bool}{Q:Value->Shared->Prop}(X:K.In s.heap)(I:yr s.heap x dx C mA)(hg:PySem.W.plainGet K C name=true)(hh:PySem.W.hasDictIn K C=true)
  (ha:PySem.W.findIn K (.ref C) name=some none) (hv:mA name=some v) (hv':PySem.W.handedIn v=true) (h:Q v { s with toks:=s.toks+1 }) :
  wpAny (model prog w) A (getAttr (.ref x) name expr) Q E s:=by
 obtain⟨od,J,hl⟩:=I.look
 exact PySem.W.get_value X J (PySem.W.plainGet_of hg).1 (PySem.W.findObj_own hh ha rfl (by rw[hl,hv])) hv' h
theorem E6{pl:Sem Bool}{Q:Value×List Value->Shared->Prop}(X:K.In s.heap)(I:yr s.heap x dx C mA)(hg:PySem.W.plainGet K C name=true)
  (hf:PySem.W.findIn K (.ref C) name=some (some (.ref f))) (ht:PySem.W.isFn K (.ref f)=true) (hv:mA name=none) (h:Q (.ref f,[.ref x]) s) :
  wpAny (model prog w) A (getMethod (.ref x) name pl) Q E s:=by
 obtain⟨od,J,hl⟩:=I.look
 exact PySem.W.method_fn X J (PySem.W.plainGet_of hg).1 (PySem.W.plainGet_of hg).2 hf (beq_iff_eq.mp ht) (by show (PySem.W.lookIn name od).map (·.isSome)=some false;rw[hl,hv];rfl) h
theorem HU{ns:List Str}{Q:Unit->Shared->Prop}(X:K.In s.heap)(I:yr s.heap x dx C mA)
  (hs:PySem.W.findIn K (.ref C) "__setattr__" = some (some (.builtin "object.__setattr__"))) (hp:PySem.W.plainOver K C=true) (ht:PySem.W.takerIn K C name=some none) (hh:PySem.W.hasDictIn K C=true)
  (hw:PySem.Within mA ns) (hsz:ns.length<=sizeLine)
  (h:∀h',yr h' x dx C (λy=>if y=name then some v else mA y)->Heap.SameBut dx s.heap h'->Q () { s with heap:=h',toks:=s.toks+2 }) :
  wpAny (model prog w) A (setAttr (.ref x) name v) Q E s:=by
 obtain⟨od,J,hl⟩:=I.look
 refine PySem.W.set_plain X J hs (PySem.W.osa_open (s:={ s with toks:=s.toks+1 }) (r:=none) X J hp ht λb=>?_)
 obtain⟨cd,hc,hd'⟩:=PySem.W.any_some hh
 have hx:s.heap.get? x=some ⟨.ref C,some dx,.plain,#[]⟩:=I.obj
 refine wpAny_bind (wpAny_pure (wpAny_bind (wpAny_bind (wpAny_loadPart hx (wpAny_bind (PySem.W.Looks.here (s:={ s with toks:=s.toks+1 }) (PySem.W.looks_clsIn X hc) ?_))))))
 rw[hd']
 refine wpAny_pure (a:=some dx) (wpAny_bind (wpAny_pure (wpAny_bind ?_)))
 refine wpAny_nsSet1 (s:={ s with toks:=s.toks+1 }) I.ns λh' hn2 hs2=>?_
 obtain⟨oD,esD,epD,hoD,hdD,hcD⟩:=hn2.count (PySem.Within.cons name v hw)
 refine wpAny_bind (wpAny_lookBehind hoD (by rw[hdD];exact pastItsLine_dict (Nat.le_trans hcD (by rw[List.length_cons];lia))) ?_)
 exact wpAny_pure (h _ ⟨(hs2.2 _ (Ne.symm I.ne)).trans I.obj,hn2,I.ne⟩ hs2)
theorem C0{R:Result->Shared->Prop}{vs:List Value}{kw:List (Str×Value)}(X:K.In s.heap)(hm:PySem.W.makesIn K C=true)
  (hi:PySem.W.findIn K (.ref C) "__init__" = some (some (.ref f))) (hf:PySem.W.typeIn K (.ref f)=some (.type "function"))
  (h:codeAny (model prog w) (A.under (.builtin "type.__call__" ⟨.ref C::vs,kw⟩)) (.call (.ref f) ⟨.ref (s.heap.objs.size+1)::vs,kw⟩) (PySem.W.InitBack (s.heap.objs.size+1) R)
   { s with heap:=(s.heap.push PySem.W.emptyDict).push (PySem.W.instObj C s.heap.objs.size) }) :
  codeAny (model prog w) A (.call (.ref C) ⟨vs,kw⟩) R s:=by
 obtain⟨hh,g,d,t,os⟩:=s
 exact PySem.W.make_core (PySem.W.makes_of X hm) (PySem.W.looks_findIn X hi) (λself=>PySem.W.bind_fn X self hf) (.inl rfl) h
theorem AR{R:Result->Shared->Prop}(X:K.In s.heap)(hm:PySem.W.makesIn K C=true)
  (hi:PySem.W.findIn K (.ref C) "__init__" = some (some (.builtin "object.__init__")))
  (hb:∀self,PySem.W.Looks (model prog w) s.heap (bindSpecial (.builtin "object.__init__") self) (.builtin "object.__init__",[self]))
  (h:codeAny (model prog w) (A.under (.builtin "type.__call__" ⟨[.ref C],[]⟩)) (.call (.builtin "object.__init__") ⟨[.ref (s.heap.objs.size+1)],[]⟩) (PySem.W.InitBack (s.heap.objs.size+1) R)
   { s with heap:=(s.heap.push PySem.W.emptyDict).push (PySem.W.instObj C s.heap.objs.size) }) :
  codeAny (model prog w) A (.call (.ref C) ⟨[],[]⟩) R s:=by
 obtain⟨hh,g,d,t,os⟩:=s
 exact PySem.W.make_core (PySem.W.makes_of X hm) (PySem.W.looks_findIn X hi) hb (.inr ⟨rfl,rfl⟩) h
end
def cB(f:Str)(v:V):List (Str×V)->List (Str×V)
 | []=>[(f,v)]
 | (g,x)::r=>if g=f then (g,v)::r else (g,x)::cB f v r
theorem n6(f g:Str)(v:V):∀fs:List (Str×V),(cB f v fs).lookup g=if g=f then some v else fs.lookup g
 | []=>by
  show List.lookup g [(f,v)]=_
  by_cases h:g=f
  ·have hb:(g == f)=true:=beq_iff_eq.mpr h
   simp only[List.lookup,hb,if_pos h]
  ·have hb:(g == f)=false:=beq_eq_false_iff_ne.mpr h
   simp only[List.lookup,hb,if_neg h]
 | (k,x)::r=>by
  have ih:=n6 f g v r
  rw[show cB f v ((k,x)::r)=(if k=f then (k,v)::r else (k,x)::cB f v r) from rfl]
  by_cases hk:k=f
  ·rw[if_pos hk]
   by_cases h:g=k
   ·have hb:(g == k)=true:=beq_iff_eq.mpr h
    simp only[List.lookup,hb,if_pos (h.trans hk)]
   ·have hb:(g == k)=false:=beq_eq_false_iff_ne.mpr h
    simp only[List.lookup,hb,if_neg (λe:g=f=>h (e.trans hk.symm))]
  ·rw[if_neg hk]
   by_cases h:g=k
   ·have hb:(g == k)=true:=beq_iff_eq.mpr h
    simp only[List.lookup,hb,if_neg (λe:g=f=>hk (h.symm.trans e))]
   ·have hb:(g == k)=false:=beq_eq_false_iff_ne.mpr h
    simp only[List.lookup,hb]
    exact ih
theorem nB(f:Str)(v:V):∀fs:List (Str×V),f∈(cB f v fs).map (·.1)/\∀g,g∈fs.map (·.1)->g∈(cB f v fs).map (·.1)
 | []=>⟨by simp[cB],λg h=>by simp at h⟩
 | (k,x)::r=>by
  obtain⟨i1,i2⟩:=nB f v r
  rw[show cB f v ((k,x)::r)=(if k=f then (k,v)::r else (k,x)::cB f v r) from rfl]
  by_cases hk:k=f
  ·rw[if_pos hk]
   subst hk
   exact⟨by simp,λg h=>by simpa using h⟩
  ·rw[if_neg hk]
   refine⟨?_,λg h=>?_⟩
   ·rw[List.map_cons]
    exact List.mem_cons_of_mem _ i1
   ·rw[List.map_cons] at h ⊢
    rcases List.mem_cons.mp h with e|e
    ·exact List.mem_cons.mpr (.inl e)
    ·exact List.mem_cons_of_mem _ (i2 g e)
theorem oB(f:Str)(v:V):∀fs:List (Str×V),(cB f v fs).length<=fs.length+1
 | []=>by simp[cB]
 | (k,x)::r=>by
  have ih:=oB f v r
  rw[show cB f v ((k,x)::r)=(if k=f then (k,v)::r else (k,x)::cB f v r) from rfl]
  by_cases hk:k=f
  ·rw[if_pos hk,List.length_cons,List.length_cons];lia
  ·rw[if_neg hk,List.length_cons,List.length_cons];lia
theorem ju.some_of{v:V}{o:Option Value}(r:ju (some v) o):∃u,o=some u/\RelV v u:=by
 cases o with
 |none=>exact(show False from r).elim
 |some u=>exact⟨u,rfl,r⟩
theorem ju.none_of{o:Option Value}(r:ju none o):o=none:=by
 cases o with
 |none=>rfl
 |some u=>exact(show False from r).elim
theorem BC{v:V}{u:Value}(r:RelV v u):PySem.W.handedIn u=true:=by
 cases v with
 |cu=>cases (show u=Value.none from r);rfl
 |bl b=>cases (show u=Value.bool b from r);rfl
 |int i=>obtain⟨t,e⟩:=(show ∃t,u=Value.int i t from r);cases e;rfl
 |str x=>obtain⟨t,e⟩:=(show ∃t,u=Value.str x t from r);cases e;rfl
 |byt b=>obtain⟨t,e⟩:=(show ∃t,u=Value.bytes b t from r);cases e;rfl
 |BV b=>obtain⟨t,e⟩:=(show ∃t,u=Value.float b t from r);cases e;rfl
 |ref a=>cases (show u=Value.ref a from r);rfl
 |ty n=>cases (show u=Value.type n from r);rfl
section
variable {P:Program}{w:World}{H H':Hp}{h h':Heap}{a C dx:Addr}{fs fs':List (Str×V)}
theorem oY(hok:kT P w H h)(e:H a=some (.ins C dx fs)):∃mA,yr h a dx C mA/\(∀f,ju (fs.lookup f) (mA f))/\PySem.Within mA (fs.map (·.1))/\fs.length<=1000/\H dx=some (.own a):=by
 obtain⟨d,z,ne,ob,mA,n,r,q⟩:=(show cH P w H h a (.ins C dx fs) from hok a _ e)
 exact⟨mA,⟨ob,n,ne⟩,r,q,z,d⟩
end
structure lK(K:PySem.W.Frag)(C:Addr):Prop where
 pg:PySem.W.plainGet K C Str.empty=true
 hd:PySem.W.hasDictIn K C=true
 po:PySem.W.plainOver K C=true
 sa:PySem.W.findIn K (.ref C) "__setattr__" = some (some (.builtin "object.__setattr__"))
theorem lK.get{K:PySem.W.Frag}{C:Addr}(c:lK K C)(f:Str):PySem.W.plainGet K C f=true:=c.pg
def bx(K:PySem.W.Frag)(C:Addr)(f:Str):Prop:=PySem.W.findIn K (.ref C) f=some none
theorem bx.Sl{K:PySem.W.Frag}{C:Addr}{f:Str}(n:bx K C f):PySem.W.takerIn K C f=some none:=by
 unfold PySem.W.takerIn
 rw[show PySem.W.findIn K (.ref C) f=some none from n]
 rfl
structure Meth(K:PySem.W.Frag)(C:Addr)(m:Str)(f:Addr):Prop where
 at_:PySem.W.findIn K (.ref C) m=some (some (.ref f))
 fn:PySem.W.isFn K (.ref f)=true
 kp:PySem.W.keepIn K (.ref f)=true
section
variable {X:Cx}{pins:List (Addr×Obj)}{Z:St}{H:Hp}{s:Shared}{a C dx:Addr}{fs:List (Str×V)}{f:Str}{v:V}{A:Around}{E:Value->Shared->Prop}
theorem qW{b:Bool}{Q:Value->Shared->Prop}(I:Inv X pins Z H s)(e:H a=some (.ins C dx fs))(c:lK X.K C)(n:bx X.K C f)(l:fs.lookup f=some v)
  (h:∀u s',Inv X pins Z H s'->RelV v u->Q u s'):wpAny (model X.prog X.w) A (getAttr (.ref a) f b) Q E s:=by
 obtain⟨mA,O,r,_,_,_⟩:=oY I.hok e
 obtain⟨u,hu,ru⟩:=ju.some_of (v:=v) (o:=mA f) (by rw[← l];exact r f)
 exact get_map I.k6 O (c.get f) c.hd n hu (BC ru) (h u _ (I.tok _) ru)
theorem qi{m:Str}{g:Addr}{pl:Sem Bool}{Q:Value×List Value->Shared->Prop}(I:Inv X pins Z H s)(e:H a=some (.ins C dx fs))(c:lK X.K C)(k:Meth X.K C m g)(l:fs.lookup m=none)
  (h:Q (.ref g,[.ref a]) s):wpAny (model X.prog X.w) A (getMethod (.ref a) m pl) Q E s:=by
 obtain⟨mA,O,r,_,_,_⟩:=oY I.hok e
 have hn:mA m=none:=ju.none_of (by rw[← l];exact r m)
 exact E6 I.k6 O (c.get m) k.at_ k.fn hn h
theorem ql{y:V}{u:Value}{Q:Unit->Shared->Prop}(I:Inv X pins Z H s)(e:H a=some (.ins C dx fs))(c:lK X.K C)(n:bx X.K C f)(hl:fs.length<1000)(ry:RelV y u)
  (h:∀s',Inv X pins Z (upd H a (.ins C dx (cB f y fs))) s'->Q () s'):wpAny (model X.prog X.w) A (setAttr (.ref a) f u) Q E s:=by
 obtain⟨mA,O,r,wi,_,ho⟩:=oY I.hok e
 have hz:(fs.map (·.1)).length<=sizeLine:=by rw[List.length_map,sizeLine_eq];lia
 refine HU I.k6 O c.sa c.po n.Sl c.hd wi hz λh' O' sb=>h _ ?_
 have hd:∃o,h'.get? dx=some o:=let ⟨o,_,_,e',_⟩:=O'.ns;⟨o,e'⟩
 refine I.write (x:=a) (e:=dx) (by rw[e];exact True.intro) (.inr ho) (λb q hb z=>(sb.2 b hb).trans z) hd ?_
 refine⟨by rw[aj O.ne];exact ho,?_,O.ne,O'.obj,_,O'.ns,λg=>?_,λg hg=>?_⟩
 ·have:=oB f y fs;lia
 ·show ju ((cB f y fs).lookup g) (if g=f then some u else mA g)
  rw[n6]
  by_cases q:g=f
  ·rw[if_pos q,if_pos q];exact ry
  ·rw[if_neg q,if_neg q];exact r g
 ·by_cases q:g=f
  ·rw[q];exact(nB f y fs).1
  ·refine(nB f y fs).2 g (wi g λz=>hg ?_)
   show (if g=f then some u else mA g)=none
   rw[if_neg q];exact z
theorem Inv.made(I:Inv X pins Z H s):Inv X pins Z (upd (upd H s.heap.objs.size (.own (s.heap.objs.size+1))) (s.heap.objs.size+1) (.ins C s.heap.objs.size []))
  { s with heap:=(s.heap.push PySem.W.emptyDict).push (PySem.W.instObj C s.heap.objs.size) }:=by
 have e1:(s.heap.push PySem.W.emptyDict).get? s.heap.objs.size=some PySem.W.emptyDict:=Heap.get?_push_size s.heap rfl
 have e2:((s.heap.push PySem.W.emptyDict).push (PySem.W.instObj C s.heap.objs.size)).get? (s.heap.objs.size+1)=some (PySem.W.instObj C s.heap.objs.size):=by
  have:=Heap.get?_push_size (s.heap.push PySem.W.emptyDict) (o:=PySem.W.instObj C s.heap.objs.size) rfl
  rwa [Heap.size_push] at this
 have e3:(s.heap.push PySem.W.emptyDict).Ns s.heap.objs.size (λ_=>none):=⟨PySem.W.emptyDict,#[],_,e1,rfl,(λe he=>absurd he (by simp)),λ_=>rfl⟩
 have I1:=I.laid (a:=s.heap.objs.size) (o:=.own (s.heap.objs.size+1)) (h':=s.heap.push PySem.W.emptyDict) (t':=s.toks) (λb u q=>Heap.get?_push_of_some _ q) (Nat.le_refl _) ⟨_,e1⟩
 refine I1.laid (a:=s.heap.objs.size+1) (o:=.ins C s.heap.objs.size []) (t':=s.toks) (λb u q=>Heap.get?_push_of_some _ q) (Nat.le_of_eq (Heap.size_push _ _)) ?_
 have ne:s.heap.objs.size≠s.heap.objs.size+1:=Nat.ne_of_lt (Nat.lt_succ_self _)
 refine⟨by rw[aj ne,af],Nat.zero_le _,ne,e2,λ_=>none,(Heap.Ns1.of_empty e3).at λo q=>Heap.get?_push_of_some _ q,λ_=>True.intro,λy hy=>absurd rfl hy⟩
theorem Jb{prog:Program}{w:World}{env:Env}{e:Expr}{f:Str}{pos:Pos}{s:Shared}{Q:Value->Shared->Prop}(hb:attributeBase e f env (eval e env)=eval e env)
  (h:wpAny (model prog w) A (eval e env) (λo s₁=>wpAny (model prog w) A (getAttr o f true) Q E s₁) E s):wpAny (model prog w) A (eval (.Attribute e f pos) env) Q E s :=
 Attribute_any_ h (by rw[arm_eval_Attribute,hb])
end
def NZ(K:PySem.W.Frag)(ta:TE)(f:Str):TE:=λZ H Q=>ta Z H λx H1=>∃a C dx fs v,x = .ref a/\H1 a=some (.ins C dx fs)/\lK K C/\bx K C f/\fs.lookup f=some v/\Q v H1
def UD(K:PySem.W.Frag)(ta tv:TE)(f:Str):TS:=λD Z H=>tv Z H λy H1=>ta Z H1 λx H2=>∃a C dx fs,x = .ref a/\H2 a=some (.ins C dx fs)/\lK K C/\bx K C f/\fs.length<1000 /\
 D.nx Z (upd H2 a (.ins C dx (cB f y fs)))
def Sy(X:Cx)(op:Operator)(rd:V->V->Hp->VK->Prop):Prop :=
 ∀(pins:List (Addr×Obj)) (s:Shared) (Z:St) (H:Hp) (x y:V) (u v:Value) (Q:VK),Inv X pins Z H s->RelV x u->RelV y v->rd x y H Q->wpAny (model X.prog X.w) X.A (inplaceOp op u v) (EP X pins Z Q) X.xe s
def Jf(K:PySem.W.Frag)(ta tv:TE)(rd:V->V->Hp->VK->Prop)(f:Str):TS:=λD Z H=>ta Z H λx H1=>∃a C dx fs v,x = .ref a/\H1 a=some (.ins C dx fs)/\lK K C/\bx K C f/\fs.lookup f=some v /\
 tv Z H1 λy H2=>rd v y H2 λz H3=>∃dx' fs',H3 a=some (.ins C dx' fs')/\fs'.length<1000/\D.nx Z (upd H3 a (.ins C dx' (cB f z fs')))
section
variable {X:Cx}{o e value:Expr}{f:Str}{pos pos' tpos:Pos}{ta tv:TE}
theorem aF(he:PE X e ta)(hb:attributeBase e f X.env (eval e X.env)=eval e X.env):PE X (.Attribute e f pos) (NZ X.K ta f):=by
 intro pins s Z H Q I h
 refine Jb hb (cL (he pins s Z H _ I h) λu s1  hZ=>?_)
 obtain⟨x,H1,I1,rx,a,C,dx,fs,v,ex,ea,c,n,l,q⟩:=hZ
 subst ex
 obtain rfl:u=Value.ref a:=rx
 exact qW I1 ea c n l λu' s2 I2 ru=>⟨v,H1,I2,ru,q⟩
theorem bF(ha:PE X o ta)(hv:PE X value tv)(hs:swapsWith value (some (.Attribute o f pos')) pos.line X.env=pure false):PS X (.Assign [.Attribute o f pos'] value pos) (UD X.K ta tv f):=by
 intro pins s Z H D I h
 refine plainObj_wpAny_Assign_Attribute (cL (hv pins s Z H _ I h) λu s1 ⟨y,H1,I1,ry,q⟩=>cL (ha pins s1 Z H1 _ I1 q) λov s2 hY=>?_) hs
 obtain⟨x,H2,I2,rx,a,C,dx,fs,ex,ea,c,n,l,q2⟩:=hY
 subst ex
 obtain rfl:ov=Value.ref a:=rx
 exact ql I2 ea c n l ry λs3 I3=>⟨Z,_,I3,q2⟩
theorem Bc{op:Operator}{rd:V->V->Hp->VK->Prop}(ha:PE X o ta)(hv:PE X value tv)(hop:Sy X op rd):PS X (.AugAssign (.Attribute o f tpos) op value pos) (Jf X.K ta tv rd f):=by
 intro pins s Z H D I h
 refine wpAny_AugAssign_AttributeAny (cL (ha pins s Z H _ I h) λov s1  hZ=>?_)
 obtain⟨x,H1,I1,rx,a,C,dx,fs,v,ex,ea,c,n,l,q⟩:=hZ
 subst ex
 obtain rfl:ov=Value.ref a:=rx
 refine qW I1 ea c n l λu s2 I2 ru=>cL (hv pins s2 Z H1 _ I2 q) λw3 s3 ⟨y,H2,I3,ry,q3⟩=>cL (hop pins s3 Z H2 v y u w3 _ I3 ru ry q3) λw4 s4  hZ=>?_
 obtain⟨z,H3,I4,rz,dx',fs',ea',l',q4⟩:=hZ
 exact ql I4 ea' c n l' rz λs5 I5=>⟨Z,_,I5,q4⟩
def UM:V->V->Hp->VK->Prop:=λx y H Q=>∃i j,x = .int i/\y = .int j/\Q (.int (i+j)) H
theorem NS:Sy X .Add UM:=by
 rintro pins s Z H x y u v Q I rx ry ⟨i,j,rfl,rfl,q⟩
 obtain⟨t,rfl⟩:=(show ∃t,u=Value.int i t from rx)
 obtain⟨t',rfl⟩:=(show ∃t',v=Value.int j t' from ry)
 exact PyProof.Rows.iadd_int ⟨.int (i+j),H,I.tok _,⟨_,rfl⟩,q⟩
end
section
variable {X:Cx}{pins:List (Addr×Obj)}{Z:St}{H:Hp}{s:Shared}{A:Around}{E:Value->Shared->Prop}{Q:Value->Shared->Prop}{c:Value}{b:Bool}
inductive mE(K:PySem.W.Frag)(H:Hp):V->Value->Prop where
 |cu:mE K H .cu (.type "NoneType")
 |bl (x:Bool):mE K H (.bl x) (.type "bool")
 |int (i:Int):mE K H (.int i) (.type "int")
 |str (x:Str):mE K H (.str x) (.type "str")
 |BV (x:UInt64):mE K H (.BV x) (.type "float")
 |lst {a:Addr} {xs:List V} (e:H a=some (.lst xs)):mE K H (.ref a) (.type "list")
 |jU {a:Addr} {o:Obj} {xs:List V} (e:H a=some (.jU o (.lst xs))):mE K H (.ref a) (.type "list")
 |tup {a:Addr} {xs:List V} (e:H a=some (.tup xs)):mE K H (.ref a) (.type "tuple")
 |dK {a:Addr} {kvs:List (Key×V)} (e:H a=some (.dK kvs)):mE K H (.ref a) (.type "dict")
 |dT {a:Addr} {kvs:List (List Key×V)} (e:H a=some (.dT kvs)):mE K H (.ref a) (.type "dict")
 |ins {a C dx:Addr} {fs:List (Str×V)} (e:H a=some (.ins C dx fs)) (cl:lK K C) (ha:PySem.W.findIn K (.ref C) "__class__" = some (some (.builtin "object.__class__")))
   (hn:PySem.W.specialIn K (.builtin "object.__class__") "__get__" = some (some (.builtin "getset_descriptor.__get__"))) (htk:PySem.W.takesIn K (.builtin "object.__class__")=some true)
   (hm:PySem.W.mroIn K C (.type "object")=some true):mE K H (.ref a) (.ref C)
theorem BL{x:V}{u t:Value}(I:Inv X pins Z H s)(rx:RelV x u)(ty:mE X.K H x t)(e:PySem.W.kitOne X.K t c=some b)(h:∀tk,Q (.bool b) { s with toks:=tk }) :
  wpAny (model X.prog X.w) A (call (.builtin "isinstance") [u,c]) Q E s:=by
 cases ty with
 |cu=>cases (show u=Value.none from rx);exact PySem.W.kia_one PySem.W.kitx_none I.k6 True.intro e (λz=>nomatch z) h
 |bl y=>cases (show u=Value.bool y from rx);exact PySem.W.kia_one PySem.W.kitx_bool I.k6 True.intro e (λz=>nomatch z) h
 |int i=>obtain⟨t,q⟩:=(show ∃t,u=Value.int i t from rx);cases q;exact PySem.W.kia_one PySem.W.kitx_int I.k6 True.intro e (λz=>nomatch z) h
 |str y=>obtain⟨t,q⟩:=(show ∃t,u=Value.str y t from rx);cases q;exact PySem.W.kia_one PySem.W.kitx_str I.k6 True.intro e (λz=>nomatch z) h
 |BV y=>obtain⟨t,q⟩:=(show ∃t,u=Value.float y t from rx);cases q;exact PySem.W.kia_one PySem.W.kitx_float I.k6 True.intro e (λz=>nomatch z) h
 | @lst a xs ea =>
  cases (show u=Value.ref a from rx)
  obtain⟨_,_,n,_,h1⟩:=(show cH X.prog X.w H s.heap a (.lst xs) from I.hok a _ ea)
  exact PySem.W.kia_one PySem.W.kitx_list I.k6 ⟨_,h1,rfl⟩ e (λz=>nomatch z) h
 | @jU a ob xs ea =>
  cases (show u=Value.ref a from rx)
  obtain⟨_,_,_,n,_,h1⟩:=(show cH X.prog X.w H s.heap a (.jU ob (.lst xs)) from I.hok a _ ea)
  exact PySem.W.kia_one PySem.W.kitx_list I.k6 ⟨_,h1,rfl⟩ e (λz=>nomatch z) h
 | @tup a xs ea =>
  cases (show u=Value.ref a from rx)
  obtain⟨_,_,_,p⟩:=(show cH X.prog X.w H s.heap a (.tup xs) from I.hok a _ ea)
  obtain⟨o,h1,h2,_⟩:=p
  exact PySem.W.kia_one PySem.W.kitx_tuple I.k6 ⟨o,h1,h2⟩ e (λz=>nomatch z) h
 | @dK a kvs ea =>
  cases (show u=Value.ref a from rx)
  obtain⟨_,_,vs,_,p⟩:=(show cH X.prog X.w H s.heap a (.dK kvs) from I.hok a _ ea)
  obtain⟨o,es,ep,h1,h2,_⟩:=p
  exact PySem.W.kia_one PySem.W.kitx_dict I.k6 ⟨o,h1,h2.1⟩ e (λz=>nomatch z) h
 | @dT a kvs ea =>
  cases (show u=Value.ref a from rx)
  obtain⟨_,_,xs,_,o,es,ep,h1,h2,_⟩:=(show cH X.prog X.w H s.heap a (.dT kvs) from I.hok a _ ea)
  exact PySem.W.kia_one PySem.W.kitx_dict I.k6 ⟨o,h1,h2.1⟩ e (λz=>nomatch z) h
 | @ins a C dx fs ea cl ha hn htk hm =>
  cases (show u=Value.ref a from rx)
  obtain⟨mA,O,_⟩:=oY I.hok ea
  obtain⟨od,J,_⟩:=O.look
  exact PySem.W.kia_one (PySem.W.kitx_own (cl.get _) cl.hd ha hn htk hm) I.k6 J e (λz=>nomatch z) h
end
structure fU(k:Nat)(A:Around):Prop where
 hd:A.handled=none
 dp:A.depth+3*k+5<recursionLimit
 un:A.units+16*k+200<cLine
theorem fU.mono{j k:Nat}{A:Around}(r:fU k A)(h:j<=k):fU j A:=⟨r.hd,by have:=r.dp;lia,by have:=r.un;lia⟩
theorem fU.deeper{k:Nat}{A:Around}(r:fU (k+1) A)(env:Env):fU k (A.deeper env) :=
 ⟨r.hd,by have:=r.dp;show A.depth+1+3*k+5<_;lia,by have:=r.un;show A.units+3+16*k+200<_;lia⟩
theorem yj {A:Around} {C:Addr} {us:List Value} {kw:List (Str×Value)}:(A.under (.builtin "type.__call__" ⟨.ref C::us,kw⟩)).depth=A.depth+1:=by
 first | rfl | simp[Around.under,Code.weight,Code.isCreation,Code.isGuard,Code.isCaller,Code.frames,Code.isFrame,guardIds]
theorem yY {A:Around} {C:Addr} {us:List Value} {kw:List (Str×Value)}:(A.under (.builtin "type.__call__" ⟨.ref C::us,kw⟩)).units=A.units+1:=by
 first | rfl | simp[Around.under,Code.cUnits,Code.frames,Code.isFrame]
theorem fU.make {k:Nat} {A:Around} (r:fU (k+1) A) (C:Addr) (us:List Value) (kw:List (Str×Value)):fU k (A.under (.builtin "type.__call__" ⟨.ref C::us,kw⟩)) :=
 ⟨r.hd,by have:=r.dp;rw[yj];lia,by have:=r.un;rw[yY];lia⟩
theorem fU.depth{k:Nat}{A:Around}(r:fU k A):A.depth<recursionLimit:=by have:=r.dp;lia
theorem fU.units{k:Nat}{A:Around}(r:fU k A):A.units+64<cLine:=by have:=r.un;lia
def Bk:TA:=λ_ H Q=>Q [] H
def G6(ta:TE)(tr:TA):TA:=λZ H Q=>ta Z H λx H1=>tr Z H1 λxs H2=>Q (x::xs) H2
section
variable {X:Cx}{e:Expr}{es:List Expr}{te:TE}{t:TA}{pos:Pos}
theorem ai:PA X [] Bk:=λ_ _ _ _ H Q I h=>Calls.spliced_nil ⟨[],H,I,.nil,h⟩
theorem aa(ha:PE X e te)(hr:PA X es t)(hs:autoParam (starEach (e::es) X.env=(false,eval e X.env)::starEach es X.env) L2.Y3._auto_1):PA X (e::es) (G6 te t):=by
 intro pos pins s Z H Q I h
 rw[hs]
 show wpAny _ _ (spliced ((false,eval e X.env)::backTo pos (starEach es X.env))) _ _ s
 refine Calls.spliced_cons (cL (ha pins s Z H _ I h) λu s1  hZ=>?_)
 obtain⟨x,H1,I1,r1,q1⟩:=hZ
 exact cL (hr pos pins s1 Z H1 _ I1 q1) λus s2 ⟨xs,H2,I2,r2,q2⟩=>⟨x::xs,H2,I2,.cons r1 r2,q2⟩
def RV(t:TA):TE:=λZ H Q=>t Z H λxs H1=>xs.length<=sizeLine/\∀p,H1 p=none->Q (.ref p) (upd H1 p (.tup xs))
def Rz(t:TA):TE:=λZ H Q=>t Z H λxs H1=>xs.length<=sizeLine/\∀p,H1 p=none->Q (.ref p) (upd H1 p (.lst xs))
theorem gc{x1}(h:PA X es t):PE X (.Tuple es x1 pos) (RV t):=by
 intro pins s Z H Q I hq
 refine wpAny_Tuple_spliced (cL (h pos pins s Z H _ I hq) λus s1 ⟨xs,H1,I1,r,z,q⟩=>⟨by rw[← r.length];exact z,?_⟩)
 have hf:H1 s1.heap.objs.size=none:=I1.hok.fresh (Nat.le_refl _)
 refine⟨.ref s1.heap.objs.size,upd H1 s1.heap.objs.size (.tup xs),I1.laid (t':=s1.toks) (λb u e=>Heap.get?_push_of_some _ e) (Nat.le_refl _) ?_,rfl,q _ hf⟩
 exact⟨z,us,r,⟨_,Heap.get?_push_size _ rfl,rfl,_,rfl⟩⟩
theorem bV(h:PA X es t):PE X (.List es pos) (Rz t):=by
 intro pins s Z H Q I hq
 refine wpAny_List_spliced (cL (h pos pins s Z H _ I hq) λus s1 ⟨xs,H1,I1,r,z,q⟩=>⟨by rw[← r.length];exact z,?_⟩)
 have hf:H1 s1.heap.objs.size=none:=I1.hok.fresh (Nat.le_refl _)
 refine⟨.ref s1.heap.objs.size,upd H1 s1.heap.objs.size (.lst xs),I1.laid (t':=s1.toks) (λb u e=>Heap.get?_push_of_some _ e) (Nat.le_refl _) ?_,rfl,q _ hf⟩
 exact⟨z,us,0,r,Heap.get?_push_size _ rfl⟩
end
abbrev Sp:=List V->Hp->VK->XK->Prop
abbrev y9:=List Env->Hp->Shared->XK->Value->Shared->Prop
structure zo(P:Program)(w:World)(K:PySem.W.Frag)(mg:Str->Option Value)(base:Heap)(A:Around)(outer:List Env)(s:Shared)(H:Hp):Prop where
 frames:A.frames=some outer
 mod:Mod K mg base
 bs:∀b o,base.get? b=some o->s.heap.get? b=some o/\H b=none
 Jv:base.objs.size<=s.heap.objs.size
 oQ:s.heap.FunFrames base outer
 Pz:∀b∈frs outer,H b=none
 hok:kT P w H s.heap
 bare:AllBare s.gens
def CE(outer:List Env)(P:Program)(w:World)(H:Hp)(s:Shared)(Q:VK)(u:Value)(s':Shared):Prop :=
 ∃v H',s'.os=s.os/\AllBare s'.gens/\Un (frs outer) [] H H' s.heap s'.heap/\kT P w H' s'.heap/\RelV v u/\Q v H'
def CR(CX:y9)(outer:List Env)(P:Program)(w:World)(H:Hp)(s:Shared)(Q:VK)(E:XK)(r:Result)(s':Shared):Prop :=
 match r with
 |.ok (.ret u)=>CE outer P w H s Q u s'
 |.ok _=>False
 |.error e=>CX outer H s E e s'
structure aZ(P:Program)(w:World)(K:PySem.W.Frag)(mg:Str->Option Value)(base:Heap)(CX:y9)(k:Nat)(f:Addr)(fd:FuncData)(ps:List Str)(sp:Sp):Prop where
 len:∀vs H Q E,sp vs H Q E->vs.length=ps.length
 run:∀(A:Around) (outer:List Env) (s:Shared) (H:Hp) (args:Args) (us:List Value) (vs:List V) (Q:VK) (E:XK),fU k A->zo P w K mg base A outer s H->BindsTo s fd args (ps.zip us)->Vals vs us->sp vs H Q E ->
  codeAny (model P w) A (.call (.ref f) args) (CR CX outer P w H s Q E) s
theorem zo.make{P:Program}{w:World}{K:PySem.W.Frag}{mg:Str->Option Value}{base:Heap}{A:Around}{outer:List Env}{s:Shared}{H:Hp}(e:zo P w K mg base A outer s H)(C:Addr)(us:List Value)(kw:List (Str×Value)) :
  zo P w K mg base (A.under (.builtin "type.__call__" ⟨.ref C::us,kw⟩)) outer s H:=⟨by first | exact e.frames | (simpa [Around.under,Code.envs,Code.isFrame,pushEnvs] using e.frames),e.mod,e.bs,e.Jv,e.oQ,e.Pz,e.hok,e.bare⟩
section
variable {X:Cx}{pins:List (Addr×Obj)}{Z:St}{H:Hp}{s s':Shared}
theorem Inv.RL(I:Inv X pins Z H s):zo X.prog X.w X.K X.mg X.base X.A X.stack s H :=
 ⟨I.ok.frames,I.ok.mod,I.bs,Nat.le_trans I.ok.Jv I.sz,I.stack,I.tV,I.hok,I.bare⟩
theorem Inv.after{Q:VK}{u:Value}(I:Inv X pins Z H s)(h:CE X.stack X.prog X.w H s Q u s'):EP X pins Z Q u s':=by
 obtain⟨v,H',os,bare,un,hok,r,q⟩:=h
 obtain⟨hh,g,d,t,os'⟩:=s'
 obtain rfl:os'=s.os:=os
 exact⟨v,H',I.call (h':=hh) (g':=g) (d':=d) (t':=t) (ch:=[]) un hok bare (λb z=>absurd z (by simp)),r,q⟩
end
def E8(sp:Sp)(dvs:List V)(E:XK)(t:TA):TE:=λZ H Q=>t Z H λvs H1=>sp (vs++dvs) H1 Q E
def DM(C:Addr)(m:Str)(sp:Sp)(dvs:List V)(E:XK)(ta:TE)(t:TA):TE:=λZ H Q=>ta Z H λx H1=>∃a dx fs,x = .ref a/\H1 a=some (.ins C dx fs)/\fs.lookup m=none /\
 t Z H1 λvs H2=>sp (x::(vs++dvs)) H2 Q E
def Gy(C:Addr)(sp:Sp)(dvs:List V)(E:XK)(t:TA):TE:=λZ H Q=>t Z H λvs H1=>∀x dx,H1 x=none->H1 dx=none->dx≠x ->
 sp (.ref x::(vs++dvs)) (upd (upd H1 dx (.own x)) x (.ins C dx [])) (λv H2=>v = .cu/\Q (.ref x) H2) E
def Binds(K:PySem.W.Frag)(fd:FuncData)(ps:List Str)(ds:List Value):Prop :=
 ∀(s:Shared) (us:List Value),K.In s.heap->(us++ds).length=ps.length->BindsTo s fd ⟨us,[]⟩ (ps.zip (us++ds))
theorem Binds.all{K:PySem.W.Frag}{fd:FuncData}{ps:List Str}(h:∀us:List Value,us.length=ps.length->bindArgs fd ⟨us,[]⟩=pure (ps.zip us)):Binds K fd ps []:=λs us _ hl=>by
 rw[List.append_nil] at hl ⊢
 exact .of_eq (h us hl)
def Passes(CX:y9)(X:Cx)(E:XK):Prop:=∀(pins:List (Addr×Obj)) (Z:St) (H:Hp) (s:Shared) (e:Value) (s':Shared),Inv X pins Z H s->CX X.stack H s E e s'->X.xe e s'
section
variable {X:Cx}{CX:y9}{k:Nat}{f C:Addr}{fd:FuncData}{ps:List Str}{sp:Sp}{dvs:List V}{ds:List Value}{E:XK}{x m:Str}{p pos apos:Pos}{e o:Expr}{es:List Expr}{ta:TE}{t:TA}
theorem t6{pins:List (Addr×Obj)}{Z:St}{H:Hp}{s:Shared}{Q:VK}{us:List Value}{vs:List V}(F:aZ X.prog X.w X.K X.mg X.base CX k f fd ps sp)(hr:fU k X.A)(hb:Binds X.K fd ps ds)(hd:Vals dvs ds)(hx:Passes CX X E)
  (I:Inv X pins Z H s) (r:Vals vs us) (h:sp (vs++dvs) H Q E):wpAny (model X.prog X.w) X.A (call (.ref f) us) (EP X pins Z Q) X.xe s:=by
 have r2:Vals (vs++dvs) (us++ds):=r.append hd
 have hl:(us++ds).length=ps.length:=by rw[← r2.length];exact F.len _ _ _ _ h
 refine wpAny_call (codeAny_mono (F.run X.A X.stack s H ⟨us,[]⟩ (us++ds) (vs++dvs) Q E hr I.RL (hb s us I.k6 hl) r2 h) λr s' hq=>?_)
 cases r with
 |error e=>exact hx pins Z H s e s' I hq
 |ok fl =>
  cases fl with
  |ret u=>exact I.after hq
  |next=>exact False.elim hq
  |brk=>exact False.elim hq
  |cont=>exact False.elim hq
theorem aQ(F:aZ X.prog X.w X.K X.mg X.base CX k f fd ps sp)(hr:fU k X.A)(hg:Gl X x)(hm:X.mg x=some (.ref f))(hk:PySem.W.keepIn X.K (.ref f)=true)(hb:Binds X.K fd ps ds)(hd:Vals dvs ds)(hx:Passes CX X E)
  (ha:PA X (e::es) t) (hdb:autoParam ((x == ("__debug__" : Str))=false) L2.Y1._auto_1) (he:autoParam (starEach (e::es) X.env=(false,eval e X.env)::starEach es X.env) L2.Y3._auto_1) (hpl:autoParam ((backTo pos (starEach es X.env)).any (·.1)=false) L2.Y3._auto_1) :
  PE X (.Call (.Name x p) (e::es) [] pos) (E8 sp dvs E t):=by
 intro pins s Z H Q I h
 refine wpAny_Call_Name_kw (kK I hg hm ?_ hdb)
 refine PySem.W.callWith_K (h₀:=X.base) I.ok.mod.RC hk (cL (ha pos pins s Z H _ I h) λus s1 ⟨vs,H1,I1,r,q⟩=>⟨I1.k6,?_⟩) he hpl
 exact t6 F hr hb hd hx I1 r q
theorem jW(F:aZ X.prog X.w X.K X.mg X.base CX k f fd ps sp)(hr:fU k X.A)(hg:Gl X x)(hm:X.mg x=some (.ref f))(hk:PySem.W.keepIn X.K (.ref f)=true)(hb:Binds X.K fd ps ds)(hd:Vals dvs ds)(hx:Passes CX X E)
  (hdb:autoParam ((x == ("__debug__" : Str))=false) L2.Y1._auto_1):PE X (.Call (.Name x p) [] [] pos) (E8 sp dvs E Bk):=by
 intro pins s Z H Q I h
 refine wpAny_Call_Name_kw (kK I hg hm ?_ hdb)
 exact PySem.W.callWith_K0 I.k6 hk (t6 (us:=[]) F hr hb hd hx I .nil h)
theorem bz{pl:Sem Bool}(he:PE X o ta)(c:lK X.K C)(hm:Meth X.K C m f)(F:aZ X.prog X.w X.K X.mg X.base CX k f fd ps sp)(hr:fU k X.A)(hb:Binds X.K fd ps ds)(hd:Vals dvs ds)(hx:Passes CX X E)(ha:PA X (e::es) t)
  (hst:autoParam (starEach (e::es) X.env=(false,eval e X.env)::starEach es X.env) L2.Y3._auto_1) (hpl:autoParam ((backTo pos (starEach es X.env)).any (·.1)=false) L2.Y3._auto_1)
  (ht:autoParam (eval (.Call (.Attribute o m apos) (e::es) [] pos) X.env=(do
   let ov ← eval o X.env
   standAt apos.atName
   let (f,first) ← holding [ov] (getMethod ov m pl)
   callWith pos f first (backTo pos (starEach (e::es) X.env)) (backToKw pos (keywordEach [] X.env)))) L2.Y3._auto_1) :
  PE X (.Call (.Attribute o m apos) (e::es) [] pos) (DM C m sp dvs E ta t):=by
 intro pins s Z H Q I h
 refine PySem.W.methodCall_KW (pl:=pl) (cL (he pins s Z H _ I h) λu s1 hY=>?_) ht
 obtain⟨x,H1,I1,rx,a,dx,fs,ex,ea,l,q⟩:=hY
 subst ex
 obtain rfl:u=Value.ref a:=rx
 refine qi I1 ea c hm l ?_
 refine PySem.W.callWith_K (first:=[.ref a]) (h₀:=X.base) I.ok.mod.RC hm.kp (cL (ha pos pins s1 Z H1 _ I1 q) λus s2 ⟨vs,H2,I2,r,q2⟩=>⟨I2.k6,?_⟩) hst hpl
 exact t6 (us:=.ref a::us) (vs:=.ref a::vs) F hr hb hd hx I2 (.cons rfl r) q2
theorem bA{pl:Sem Bool}(he:PE X o ta)(c:lK X.K C)(hm:Meth X.K C m f)(F:aZ X.prog X.w X.K X.mg X.base CX k f fd ps sp)(hr:fU k X.A)(hb:Binds X.K fd ps ds)(hd:Vals dvs ds)(hx:Passes CX X E)
  (ht:autoParam (eval (.Call (.Attribute o m apos) [] [] pos) X.env=(do
   let ov ← eval o X.env
   standAt apos.atName
   let (f,first) ← holding [ov] (getMethod ov m pl)
   callWith pos f first (backTo pos (starEach [] X.env)) (backToKw pos (keywordEach [] X.env)))) L2.Y3._auto_1) :
  PE X (.Call (.Attribute o m apos) [] [] pos) (DM C m sp dvs E ta Bk):=by
 intro pins s Z H Q I h
 refine PySem.W.methodCall_KW (pl:=pl) (cL (he pins s Z H _ I h) λu s1 hY=>?_) ht
 obtain⟨x,H1,I1,rx,a,dx,fs,ex,ea,l,q⟩:=hY
 subst ex
 obtain rfl:u=Value.ref a:=rx
 refine qi I1 ea c hm l ?_
 exact PySem.W.callWith_K0 (first:=[.ref a]) I1.k6 hm.kp (t6 (us:=[.ref a]) (vs:=[.ref a]) F hr hb hd hx I1 (.cons rfl .nil) q)
structure Mk(K:PySem.W.Frag)(C f:Addr):Prop where
 makes:PySem.W.makesIn K C=true
 init:PySem.W.findIn K (.ref C) "__init__" = some (some (.ref f))
 fn:PySem.W.isFn K (.ref f)=true
 kp:PySem.W.keepIn K (.ref C)=true
theorem uO{pins:List (Addr×Obj)}{Z:St}{H:Hp}{s:Shared}{Q:VK}{us:List Value}{vs:List V}(M:Mk X.K C f)(F:aZ X.prog X.w X.K X.mg X.base CX k f fd ps sp)(hr:fU (k+1) X.A)(hb:Binds X.K fd ps ds)(hd:Vals dvs ds)
  (hx:Passes CX X E) (I:Inv X pins Z H s) (r:Vals vs us)
  (h:∀x dx,H x=none->H dx=none->dx≠x->sp (.ref x::(vs++dvs)) (upd (upd H dx (.own x)) x (.ins C dx [])) (λv H2=>v = .cu/\Q (.ref x) H2) E) :
  wpAny (model X.prog X.w) X.A (call (.ref C) us) (EP X pins Z Q) X.xe s:=by
 have hq:=h (s.heap.objs.size+1) s.heap.objs.size (I.hok.fresh (Nat.le_succ _)) (I.hok.fresh (Nat.le_refl _)) (Nat.ne_of_lt (Nat.lt_succ_self _))
 have I2:=Inv.made (C:=C) I
 have r2:Vals (V.ref (s.heap.objs.size+1)::(vs++dvs)) (Value.ref (s.heap.objs.size+1)::(us++ds)):=.cons rfl (r.append hd)
 have hl:(Value.ref (s.heap.objs.size+1)::us++ds).length=ps.length:=by
  have e:=r2.length
  rw[F.len _ _ _ _ hq] at e
  exact e.symm
 refine wpAny_call (C0 (f:=f) I.k6 M.makes M.init (beq_iff_eq.mp M.fn) (codeAny_mono (F.run _ X.stack _ _ ⟨Value.ref (s.heap.objs.size+1)::us,[]⟩ (Value.ref (s.heap.objs.size+1)::(us++ds)) _ _ E (hr.make C us [])
  (I2.RL.make C us []) (hb _ (Value.ref (s.heap.objs.size+1)::us) I2.k6 hl) r2 hq) λr s' hq'=>?_))
 cases r with
 |error e=>exact hx pins Z _ _ e s' I2 hq'
 |ok fl =>
  cases fl with
  |ret u =>
   obtain⟨v,H',I3,rv,ev,q3⟩:=I2.after hq'
   subst ev
   exact⟨rv,⟨V.ref (s.heap.objs.size+1),H',I3,rfl,q3⟩⟩
  |next=>exact False.elim hq'
  |brk=>exact False.elim hq'
  |cont=>exact False.elim hq'
theorem dJ(M:Mk X.K C f)(F:aZ X.prog X.w X.K X.mg X.base CX k f fd ps sp)(hr:fU (k+1) X.A)(hg:Gl X x)(hm:X.mg x=some (.ref C))(hb:Binds X.K fd ps ds)(hd:Vals dvs ds)(hx:Passes CX X E)
  (ha:PA X (e::es) t) (hdb:autoParam ((x == ("__debug__" : Str))=false) L2.Y1._auto_1) (he:autoParam (starEach (e::es) X.env=(false,eval e X.env)::starEach es X.env) L2.Y3._auto_1) (hpl:autoParam ((backTo pos (starEach es X.env)).any (·.1)=false) L2.Y3._auto_1) :
  PE X (.Call (.Name x p) (e::es) [] pos) (Gy C sp dvs E t):=by
 intro pins s Z H Q I h
 refine wpAny_Call_Name_kw (kK I hg hm ?_ hdb)
 refine PySem.W.callWith_K (h₀:=X.base) I.ok.mod.RC M.kp (cL (ha pos pins s Z H _ I h) λus s1 ⟨vs,H1,I1,r,q⟩=>⟨I1.k6,?_⟩) he hpl
 exact uO M F hr hb hd hx I1 r q
theorem F6(M:Mk X.K C f)(F:aZ X.prog X.w X.K X.mg X.base CX k f fd ps sp)(hr:fU (k+1) X.A)(hg:Gl X x)(hm:X.mg x=some (.ref C))(hb:Binds X.K fd ps ds)(hd:Vals dvs ds)(hx:Passes CX X E)
  (hdb:autoParam ((x == ("__debug__" : Str))=false) L2.Y1._auto_1):PE X (.Call (.Name x p) [] [] pos) (Gy C sp dvs E Bk):=by
 intro pins s Z H Q I h
 refine wpAny_Call_Name_kw (kK I hg hm ?_ hdb)
 exact PySem.W.callWith_K0 I.k6 M.kp (uO (us:=[]) M F hr hb hd hx I .nil h)
end
section
variable {X:Cx}{CX:y9}{k:Nat}{f C:Addr}{fd:FuncData}{ps ks:List Str}{sp:Sp}{E:XK}{x m:Str}{p pos apos kpos:Pos}{e o:Expr}{es:List Expr}{kws:List Keyword}{te ta:TE}{t tk:TA}{nm:Option Str}
variable {g:List Value->List Value->List Value}{gV:List V->List V->List V}
end
structure aA(N P:List Str)(sc:Scope):Prop where
 kind:sc.kind = .function
 co:sc.isCoroutine=false
 gen:sc.isGenerator=false
 nd:N.Nodup
 pre:N.take P.length=P
 par:∀x∈P,sc.names.lookup x=some .local∨sc.names.lookup x=some .cell
 Rq:∀y∈sc.names,y.2 ≠ .free
theorem sM{kindOf:Str->Option NameKind}{x:Str}:∀{binds:List (Str×Value)} {m:Str->Option Value},(∀v,(x,v)∉binds)->bindL kindOf binds m x=m x
 | [],_,_=>rfl
 | (n,v)::r,m,h=>by
  unfold bindL
  rw[sM λw hw=>h w (List.mem_cons_of_mem _ hw)]
  split
  ·have:x≠n:=by rintro rfl;exact h v List.mem_cons_self
   simp[this]
  ·rfl
theorem sX{kindOf:Str->Option NameKind}{x:Str}:∀{binds:List (Str×Value)} {m:Str->Option Value},(∀v,(x,v)∉binds)->bindC kindOf binds m x=m x
 | [],_,_=>rfl
 | (n,v)::r,m,h=>by
  unfold bindC
  rw[sX λw hw=>h w (List.mem_cons_of_mem _ hw)]
  split
  ·rfl
  ·have:x≠n:=by rintro rfl;exact h v List.mem_cons_self
   simp[this]
theorem sW{kindOf:Str->Option NameKind}{x:Str}{v:Value}:∀{P:List Str} {vs:List Value} {i:Nat} {m:Str->Option Value},P.Nodup->P[i]?=some x->vs[i]?=some v->kindOf x=some .local ->
  bindL kindOf (P.zip vs) m x=some v
 | [],_,_,_,_,h,_,_=>by simp at h
 |_::_,[],_,_,_,_,h,_=>by simp at h
 |p::P,w::vs,0,m,nd,h1,h2,hk=>by
  simp at h1 h2;subst h1;subst h2
  show bindL kindOf ((p,w)::P.zip vs) m p=_
  unfold bindL
  rw[sM λv hv=>(List.nodup_cons.mp nd).1 (List.of_mem_zip hv).1,if_pos hk]
  simp
 |p::P,w::vs,i+1,m,nd,h1,h2,hk=>by
  show bindL kindOf ((p,w)::P.zip vs) m x=_
  unfold bindL
  exact sW (i:=i) (List.nodup_cons.mp nd).2 (by simpa using h1) (by simpa using h2) hk
theorem sj{kindOf:Str->Option NameKind}{x:Str}{v:Value}:∀{P:List Str} {vs:List Value} {i:Nat} {m:Str->Option Value},P.Nodup->P[i]?=some x->vs[i]?=some v->kindOf x≠some .local ->
  bindC kindOf (P.zip vs) m x=some v
 | [],_,_,_,_,h,_,_=>by simp at h
 |_::_,[],_,_,_,_,h,_=>by simp at h
 |p::P,w::vs,0,m,nd,h1,h2,hk=>by
  simp at h1 h2;subst h1;subst h2
  show bindC kindOf ((p,w)::P.zip vs) m p=_
  unfold bindC
  rw[sX λv hv=>(List.nodup_cons.mp nd).1 (List.of_mem_zip hv).1,if_neg hk]
  simp
 |p::P,w::vs,i+1,m,nd,h1,h2,hk=>by
  show bindC kindOf ((p,w)::P.zip vs) m x=_
  unfold bindC
  exact sj (i:=i) (List.nodup_cons.mp nd).2 (by simpa using h1) (by simpa using h2) hk
def start(N:List Str)(vs:List V):St:=vs.map some++List.replicate (N.length-vs.length) none
def xx(CX:y9)(P:Program)(w:World)(K:PySem.W.Frag)(mg:Str->Option Value)(base:Heap)(N:List Str)(qual:Str)(scope:Scope)(f:Addr)(cd:Value)(A:Around)(outer:List Env)(s:Shared)(H:Hp)(E:XK):Cx where
 prog:=P
 w:=w
 K:=K
 mg:=mg
 base:=base
 A:=A.deeper (envOfC qual scope s.heap.objs.size f cd)
 N:=N
 s₀:=s
 H₀:=H
 env:=envOfC qual scope s.heap.objs.size f cd
 outer:=outer
 stack:=envOfC qual scope s.heap.objs.size f cd::outer
 ex:=[]
 calm:=true
 fn:=λ_=>true
 pn:=[]
 xe:=λe s'=>wpAny (model P w) (A.deeper (envOfC qual scope s.heap.objs.size f cd)) (leaving (envOfC qual scope s.heap.objs.size f cd) e) (λ_ s''=>CX outer H s E e s'') (λe' s''=>CX outer H s E e' s'') s'
theorem vY{sc:Scope}{n:Nat}{x:Str}(h:sc.names.lookup x=some .cell):∃c,(cellsFrom n sc.names []).lookup x=some c:=by
 have q:=PySem.W.cellsFrom_some sc.names n [] (.inl h)
 exact Option.isSome_iff_exists.mp q
theorem A9{CX:y9}{P:Program}{w:World}{K:PySem.W.Frag}{mg:Str->Option Value}{base:Heap}{N ps:List Str}{qual:Str}{scope:Scope}{f:Addr}{cd:Value}{A:Around}{outer:List Env}{s s1:Shared}{H:Hp}{E:XK}{us:List Value}{vs:List V}
  (S:aA N ps scope) (hd:A.handled=none) (e0:zo P w K mg base A outer s H) (hl:vs.length=ps.length) (r:Vals vs us)
  (x:InCallC s s.heap.objs.size (bindL (envOfC qual scope s.heap.objs.size f cd).kindOf (ps.zip us) λ_=>none) (cellsFrom (s.heap.objs.size+1) scope.names []) (bindC (envOfC qual scope s.heap.objs.size f cd).kindOf (ps.zip us) λ_=>none) s1) :
  Inv (xx CX P w K mg base N qual scope f cd A outer s H E) [] (start N vs) H s1:=by
 have hpl:ps.length<=N.length:=by have:=congrArg List.length S.pre;rw[List.length_take] at this;lia
 obtain⟨h1,tk,rfl,hk⟩:=x.done
 have noA:∀b:Addr,b∉(xx CX P w K mg base N qual scope f cd A outer s H E).ex:=λb z=>absurd (show b∈([]:List Addr) from z) (by simp)
 refine⟨⟨e0.mod,S.kind,rfl,rfl,Nat.le_refl _,λy z c h1 h2=>?_,λy hy=>?_,λy c _ h=>?_,λ_=>hd,Around.frames_deeper e0.frames,.inr ⟨rfl,rfl⟩,λb z=>absurd z (noA b),e0.bs,e0.Jv,λb _ _=>noA b,λb z=>absurd z (noA b),e0.oQ,e0.Pz⟩,
  rfl,e0.bare,Un.kept hk,⟨_,x.toInCall.ns,λi y v h1 h2 h3=>?_⟩,λy c h=>⟨_,x.cell y c h⟩,e0.hok.fresh (Nat.le_refl _),λy c h=>?_,λp hp=>absurd (show p∈([]:List (Addr×Obj)) from hp) (by simp),e0.hok.kept hk,?_⟩
 ·exact name_of_addr x.apart (PySem.mem_of_lookup h1) (PySem.mem_of_lookup h2)
 ·have hy:scope.names.lookup y=some .cell∨scope.names.lookup y=some .free:=hy
  rcases hy with hy|hy
  ·exact vY hy
  ·exact absurd rfl (S.Rq _ (PySem.mem_of_lookup hy))
 ·exact Nat.le_of_lt (x.above y c (PySem.mem_of_lookup h))
 ·have hi:i<vs.length:=by
   unfold start at h2
   by_cases hi:i<vs.length
   ·exact hi
   ·rw[List.getElem?_append_right (by simpa using hi)] at h2
    rw[List.getElem?_replicate] at h2
    split at h2 <;> cases h2
  have ha:vs[i]?=some v:=by
   unfold start at h2
   rw[List.getElem?_append_left (by simpa using hi),List.getElem?_map] at h2
   cases e:vs[i]? with
   |none=>rw[e] at h2;cases h2
   |some a=>rw[e] at h2;cases h2;rfl
  obtain⟨u,hu,rv⟩:=r.get ha
  have hp:ps[i]?=some y:=by
   rw[← S.pre,List.getElem?_take_of_lt (by lia)];exact h1
  have ndP:ps.Nodup:=by rw[← S.pre];exact S.nd.sublist (List.take_sublist _ _)
  refine⟨u,rv,?_⟩
  rcases S.par y (List.mem_of_getElem? hp) with k|k
  ·exact .inl ⟨k,sW ndP hp hu k⟩
  ·obtain⟨c,e⟩:=vY (n:=s.heap.objs.size+1) k
   refine .inr ⟨.inl k,c,e,?_⟩
   have q:=x.cell y c e
   rw[sj ndP hp hu (by show scope.names.lookup y≠_;rw[k];decide)] at q
   exact q
 ·exact e0.hok.fresh (Nat.le_of_lt (x.above y c (PySem.mem_of_lookup h)))
 ·unfold start
  show _=N.length
  rw[List.length_append,List.length_map,List.length_replicate]
  lia
theorem S6{CX:y9}{P:Program}{w:World}{K:PySem.W.Frag}{mg:Str->Option Value}{base:Heap}{k:Nat}{f:Addr}{name qual:Str}{params:Arguments}{body:List Stmt}{scope:Scope}{dV kV doc pm cdv ct oc:Value}{an od:Option Addr}
  {osl:Array (Option Value)} {N ps:List Str} {sp:Sp} (lk:K.lookup f=some ⟨oc,od,.func (PySem.W.fnOf name qual params body scope dV kV doc pm an cdv ct),osl⟩) (hcd:PySem.W.codeIn K cdv qual=true) (S:aA N ps scope)
  (len:∀vs H Q E,sp vs H Q E->vs.length=ps.length)
  (hbody:∀(A:Around) (outer:List Env) (s:Shared) (H:Hp) (vs:List V) (Q:VK) (E:XK),fU k (A.deeper (envOfC qual scope s.heap.objs.size f cdv))->sp vs H Q E ->
   ∃t,xy (xx CX P w K mg base N qual scope f cdv A outer s H E) body t/\t { nx:=λ_ H'=>Q .cu H',rt:=Q } (start N vs) H) :
  aZ P w K mg base CX (k+1) f (PySem.W.fnOf name qual params body scope dV kV doc pm an cdv ct) ps sp:=by
 refine⟨len,λA outer s H args us vs Q E hr e0 hb r hsp=>?_⟩
 have hl:=len _ _ _ _ hsp
 have KX:K.In s.heap:=e0.mod.RC.keeps λb o e=>(e0.bs b o e).1
 have lim:s.heap.NoLimit:=e0.mod.nolimit.keeps λb o e=>(e0.bs b o e).1
 have hkind:∀y∈ps.zip us,scope.names.lookup y.1=some .local∨(scope.names.lookup y.1=some .cell/\((cellsFrom (s.heap.objs.size+1) scope.names []).lookup y.1).isSome=true):=λ⟨n,v⟩ hy=>by
  rcases S.par n (List.of_mem_zip hy).1 with q|q
  ·exact .inl q
  ·exact .inr ⟨q,PySem.W.cellsFrom_some _ _ _ (.inl q)⟩
 refine codeAny_call_function hr.depth (KX _ _ lk) rfl S.co S.gen rfl (PySem.W.codeRec_of KX hcd) (hb _ _ _ _ ?_)
 refine wpAny_newFunctionEnv_cells S.kind hkind λenv he s1 x=>?_
 subst he
 refine⟨lim.keeps x.toInCall.keep,codeAny_func ?_⟩
 obtain⟨t,ht,hq⟩:=hbody A outer s H vs Q E (hr.deeper _) hsp
 have I:Inv (xx CX P w K mg base N qual scope f cdv A outer s H E) [] (start N vs) H s1:=A9 S hr.hd e0 hl r x
 refine wpAny_mono (ht [] s1 (start N vs) H _ I hq) (λfl s' hs=>?_) λe s' hs=>hs
 have fin:∀{Z':St} {H':Hp} {v:V} {u:Value},Inv (xx CX P w K mg base N qual scope f cdv A outer s H E) [] Z' H' s'->RelV v u->Q v H'->CE outer P w H s Q u s' :=
  λ{Z' H' v u} J rv q=>⟨v,H',J.os,J.bare,J.base,J.hok,rv,q⟩
 cases fl with
 |ret u =>
  obtain⟨v,Z',H',J,rv,q⟩:=hs
  exact fin J rv q
 |next =>
  obtain⟨Z',H',J,q⟩:=hs
  exact fin (v:=V.cu) (u:=Value.none) J rfl q
 |brk =>
  obtain⟨_,_,_,q⟩:=hs
  exact False.elim q
 |cont =>
  obtain⟨_,_,_,q⟩:=hs
  exact False.elim q
section
variable {X:Cx}{x:Str}{p pos:Pos}{e:Expr}{es:List Expr}{t:TA}{id T:String}{r:List V->Hp->VK->Prop}
def Uv(r:List V->Hp->VK->Prop)(t:TA):TE:=λZ H Q=>t Z H λvs H1=>r vs H1 Q
theorem aK (hc:iE X (.builtin id) r) (hg:Gl X x) (hm:X.mg x=none) (hv:bootBuiltins x=some (.builtin id)) (ha:PA X (e::es) t) (hn:autoParam (x ≠ "__name__") L2.Y1._auto_1) (hdb:autoParam ((x == ("__debug__" : Str))=false) L2.Y1._auto_1)
  (he:autoParam (starEach (e::es) X.env=(false,eval e X.env)::starEach es X.env) L2.Y3._auto_1) (hpl:autoParam ((backTo pos (starEach es X.env)).any (·.1)=false) L2.Y3._auto_1):PE X (.Call (.Name x p) (e::es) [] pos) (Uv r t):=by
 intro pins s Z H Q I h
 refine wpAny_Call_Name_kw (j7 I hg hm hv ?_ hn hdb)
 exact PyProof.Rows.callWith_builtin1 (cL (ha pos pins s Z H _ I h) λus s1 ⟨vs,H1,I1,r1,q1⟩=>hc pins s1 Z H1 vs us Q I1 r1 q1) he hpl
theorem d8 (hc:iE X (.type T) r) (hg:Gl X x) (hm:X.mg x=none) (hv:bootBuiltins x=some (.type T)) (ha:PA X (e::es) t) (hn:autoParam (x ≠ "__name__") L2.Y1._auto_1) (hdb:autoParam ((x == ("__debug__" : Str))=false) L2.Y1._auto_1)
  (he:autoParam (starEach (e::es) X.env=(false,eval e X.env)::starEach es X.env) L2.Y3._auto_1) (hpl:autoParam ((backTo pos (starEach es X.env)).any (·.1)=false) L2.Y3._auto_1):PE X (.Call (.Name x p) (e::es) [] pos) (Uv r t):=by
 intro pins s Z H Q I h
 refine wpAny_Call_Name_kw (j7 I hg hm hv ?_ hn hdb)
 exact PyProof.Rows.callWith_type1 (cL (ha pos pins s Z H _ I h) λus s1 ⟨vs,H1,I1,r1,q1⟩=>hc pins s1 Z H1 vs us Q I1 r1 q1) he hpl
end
end L2
namespace HT
open PySem PyProof.Rows
def lexLt:List Int->List Int->Bool
 | [],[]=>false
 | [],_::_=>true
 |_::_,[]=>false
 |x::xs,y::ys=>if x=y then lexLt xs ys else decide (x<y)
theorem ze(x y:Int)(xs ys:List Int):lexLt (x::xs) (y::ys)=if x=y then lexLt xs ys else decide (x<y):=rfl
theorem rq:lexLt [] []=false:=rfl
theorem qZ(y:Int)(ys:List Int):lexLt [] (y::ys)=true:=rfl
theorem qm(x:Int)(xs:List Int):lexLt (x::xs) []=false:=rfl
theorem DK(A:Around)(s:Shared)(a:Int)(t:Tok)(c:Int)(u:Tok):∃e,SeqAt.EqAt A s (.int a t) (.int c u) e/\(e=true↔a=c) :=
 ⟨(a == c),SeqAt.EqAt.int_int a t c u,by simp⟩
theorem DE(A:Around)(s:Shared)(a:Int)(t:Tok)(c:Int)(u:Tok)(prog:Program)(w:World)(E:Value->Shared->Prop)(Q:Value->Shared->Prop)(h:Q (.bool (decide (a<c))) s) :
  wpAny (model prog w) A (richCompare .Lt (.int a t) (.int c u)) Q E s :=
 (PyProof.Rows.lt_int h:wpAny (model prog w) A (compareOp .Lt (.int a t) (.int c u)) Q E s)
section
open PySem.SeqAt
open PySem.AutoSeq1 (wpAny_loadPart')
open PySem.MeetsSeq PySem.MeetsSeq2 PySem.MeetsSeq3
theorem rF(l b:Addr)(items items2:Array Value)(n n2:Nat)(dd dd2:Option Addr)(sl sl2:Array (Option Value))(ns ms:List Int)(hi:IntsAre items.toList ns)(hj:IntsAre items2.toList ms) :
  Meets (Builtin.«tuple.__lt__» ⟨[.ref l,.ref b],[]⟩)
   (λ_ R s=>s.heap.get? l=some { cls:=.type "tuple",dict:=dd,data:=.seq items n,slots:=sl }/\s.heap.get? b=some { cls:=.type "tuple",dict:=dd2,data:=.seq items2 n2,slots:=sl2 } /\
    R (.ok (.ret (.bool (lexLt ns ms)))) s) :=
 .of_wp λprog w A R s h=>by
  obtain⟨hp,g,d,tk,os⟩:=s;obtain⟨hl,hb,h⟩:=h
  have f2:=AutoSeq1.sub_tuple_tuple
  have z1:items.size=ns.length:=by rw[← hi.length];simp
  have z2:items2.size=ms.length:=by rw[← hj.length];simp
  wp_walk using wpAny_loadPart' hl,wpAny_loadPart' hb,wpAny_forIn_list _ (λrest b s'=>b.1=none/\s'=⟨hp,g,d,tk,os⟩/\∃(vs ws:List Value) (ns' ms':List Int),rest=vs.zip ws /\
   IntsAre vs ns'/\IntsAre ws ms'/\ns'.length+items2.size=ms'.length+items.size/\R (.ok (.ret (.bool (lexLt ns' ms')))) ⟨hp,g,d,tk,os⟩) _
  case turn =>
   rintro⟨y,x⟩ rest b s' ⟨hb',rfl,vs,ws,ns',ms',hz,hvi,hwi,hlen,hR⟩
   cases hvi with
   |nil=>rw[List.zip_nil_left] at hz;cases hz
   |cons a t hvi' =>
    cases hwi with
    |nil=>rw[List.zip_nil_right] at hz;cases hz
    |cons c u hwi' =>
     rw[List.zip_cons_cons] at hz
     injection hz with hyx hrest
     injection hyx with hy hx
     subst hy hx
     rw[ze] at hR
     simp only[List.length_cons] at hlen
     obtain⟨e,he,hiff⟩:=DK A.in1 ⟨hp,g,d,tk,os⟩ a t c u
     refine wpAny_bind (he prog w _ _ ?_)
     cases e with
     |true =>
      rw[if_pos (hiff.mp rfl)] at hR
      wp_walk
      exact⟨rfl,rfl,_,_,_,_,hrest,hvi',hwi',by lia,hR⟩
     |false =>
      rw[if_neg (λq=>absurd (hiff.mpr q) Bool.false_ne_true)] at hR
      have hri:=DE A.in1 ⟨hp,g,d,tk,os⟩ a t c u prog w
      wp_walk using hri
      exact⟨_,rfl,by simpa using hR⟩
  case fin =>
   rintro⟨b1,b2⟩ s' ⟨hb',rfl,vs,ws,ns',ms',hz,hvi,hwi,hlen,hR⟩
   simp only at hb'
   subst hb'
   have hv:lexLt ns' ms'=decide (items.size<items2.size):=by
    cases hvi with
    |nil =>
     cases hwi with
     |nil =>
      simp only[List.length_nil] at hlen
      rw[rq]
      exact(decide_eq_false (by lia)).symm
     |cons c u hw =>
      simp only[List.length_nil,List.length_cons] at hlen
      rw[qZ]
      exact(decide_eq_true (by lia)).symm
    |cons a t hv =>
     cases hwi with
     |nil =>
      simp only[List.length_nil,List.length_cons] at hlen
      rw[qm]
      exact(decide_eq_false (by lia)).symm
     |cons c u hw =>
      rw[List.zip_cons_cons] at hz
      cases hz
   rw[hv] at hR
   wp_walk
   exact⟨_,rfl,by simpa [Builtin.Tuple.tupleCompareSizes] using hR⟩
  case h =>
   exact⟨rfl,rfl,items.toList,items2.toList,ns,ms,rfl,hi,hj,by lia,h⟩
end
section
variable {prog:Program}{w:World}{A:Around}{E:Value->Shared->Prop}{s:Shared}
theorem xE{l b:Addr}{items items2:Array Value}{ns ms:List Int}{Q:Value->Shared->Prop}(hl:IsTup s.heap l items)(hb:IsTup s.heap b items2)(hi:IntsAre items.toList ns)(hj:IntsAre items2.toList ms)
  (hu:A.units<cLine) (h:Q (.bool (lexLt ns ms)) s):wpAny (model prog w) A (compareOp .Lt (.ref l) (.ref b)) Q E s:=by
 obtain⟨⟨cls,dd,data,sl⟩,ho,hc,n,hd⟩:=id hl
 obtain⟨⟨cls2,dd2,data2,sl2⟩,ho2,hc2,n2,hd2⟩:=id hb
 simp only at hc hd hc2 hd2
 subst hc hd hc2 hd2
 exact richCompare_meets_room (op:=.Lt) ⟨_,ho,rfl⟩ ⟨_,ho2,rfl⟩ PySem.F.slot_tuple_lt PySem.F.entry_tuple_lt (PySem.F.args_tuple_lt_2 _ _) (rF l b items items2 n n2 dd dd2 sl sl2 ns ms hi hj)
  ⟨ho,ho2,show Value.bool (lexLt ns ms)≠Value.notImplemented/\Q (.bool (lexLt ns ms)) s from ⟨(λx=>nomatch x),h⟩⟩ hu
def wK(n d:Nat):Option Int->Nat
 |none=>d
 |some v=>if v<0 then (v+(n:Int)).toNat else min v.toNat n
theorem vm(n d:Nat):wK n d none=d:=rfl
theorem o4(n d k:Nat):wK n d (some (k:Int))=min k n:=by
 show (if (k:Int)<0 then ((k:Int)+(n:Int)).toNat else min (k:Int).toNat n)=min k n
 rw[if_neg (by lia),Int.toNat_natCast]
end
end HT
namespace L2
open PySem PySem.Spec PyProof.Rows
abbrev TO:=St->Hp->(Option Int->Hp->Prop)->Prop
def PO(X:Cx)(e:Option Expr)(t:TO):Prop :=
 ∀(pins:List (Addr×Obj)) (s:Shared) (Z:St) (H:Hp) (Q:Option Int->Hp->Prop),Inv X pins Z H s->t Z H Q ->
  wpAny (model X.prog X.w) X.A (evalPart e X.env) (λu s'=>∃o H',Inv X pins Z H' s'/\IsPart u o/\Q o H') X.xe s
def zS:TO:=λ_ H Q=>Q none H
def BW(t:TE):TO:=λZ H Q=>t Z H λx H1=>∃i,x = .int i/\Q (some i) H1
theorem intsAre_of{ns:List Int}:∀{us:List Value},Vals (ns.map V.int) us->IntsAre us ns:=by
 induction ns with
 |nil=>intro us r;rw[List.map_nil] at r;cases r;exact .nil
 |cons n ns ih =>
  intro us r
  rw[List.map_cons] at r
  cases r with
  |cons r1 r2 =>
   obtain⟨t,e⟩:=r1
   subst e
   exact .cons n t (ih r2)
section
variable {X:Cx}{e:Expr}{te:TE}{lo hi:Option Expr}{tl th:TO}{pos p2:Pos}
theorem gh:PO X none zS:=by
 intro pins s Z H Q I h
 rw[evalPart_none]
 exact wpAny_pure ⟨none,H,I,.none,h⟩
theorem cE(h:PE X e te):PO X (some e) (BW te):=by
 intro pins s Z H Q I hw
 rw[evalPart_some]
 refine cL (h pins s Z H _ I hw) λu s1  hZ=>?_
 obtain⟨x,H1,I1,r1,q1⟩:=hZ
 obtain⟨i,rfl,q⟩:=q1
 obtain⟨t,rfl⟩:=r1
 exact⟨some i,H1,I1,.int i t,q⟩
def Uo(X:Cx)(r:V->Option Int->Option Int->Hp->VK->Prop):Prop :=
 ∀(pins:List (Addr×Obj)) (s:Shared) (Z:St) (H:Hp) (x:V) (v vl vu:Value) (lo hi:Option Int) (sl:Addr) (Q:VK),Inv X pins Z H s->RelV x v->s.heap.IsSliceOf sl vl vu .none->IsPart vl lo->IsPart vu hi->r x lo hi H Q ->
  ∃T id,typeLookup (.type T) "__getitem__" = pure (some (.builtin id))/\s.TypeIs v T/\wpAny (model X.prog X.w) X.A (getItem v (.ref sl)) (EP X pins Z Q) X.xe s
def UR(r:V->Option Int->Option Int->Hp->VK->Prop)(te:TE)(tl th:TO):TE:=λZ H Q=>te Z H λx H1=>tl Z H1 λl H2=>th Z H2 λu H3=>r x l u H3 Q
theorem cW{r:V->Option Int->Option Int->Hp->VK->Prop}(hr:Uo X r)(he:PE X e te)(hl:PO X lo tl)(hu:PO X hi th):PE X (.Subscript e (.Slice lo hi none p2) pos) (UR r te tl th):=by
 intro pins s Z H Q I h
 refine Subscript_ (cL (he pins s Z H _ I h) λv s1  hZ=>?_)
 obtain⟨x,H1,I1,r1,q1⟩:=hZ
 refine wpAny_Slice (cL (hl pins s1 Z H1 _ I1 q1) λvl s2 ⟨l,H2,I2,pl,q2⟩=>cL (hu pins s2 Z H2 _ I2 q2) λvu s3  hZ=>?_)
 obtain⟨u,H3,I3,pu,q3⟩:=hZ
 rw[evalPart_none]
 refine wpAny_pure ?_
 have I4:Inv X pins Z H3 { s3 with heap:=s3.heap.push { cls:=.type "slice",data:=.fields #[vl,vu,.none] } }:=I3.kept (t':=s3.toks) λb ob q=>Heap.get?_push_of_some _ q
 obtain⟨T,id,hT,ht,hg⟩:=hr pins { s3 with heap:=s3.heap.push { cls:=.type "slice",data:=.fields #[vl,vu,.none] } } Z H3 x v vl vu l u s3.heap.objs.size Q I4 r1 (Heap.IsSliceOf.new ..) pl pu q3
 show wpAny (model X.prog X.w) X.A (subscriptTail e (.Slice lo hi none p2) v (.ref s3.heap.objs.size)) (EP X pins Z Q) X.xe { s3 with heap:=s3.heap.push { cls:=.type "slice",data:=.fields #[vl,vu,.none] } }
 exact tail_any (ops:=[.ref s3.heap.objs.size,v]) ht hT hg (by with_unfolding_all rfl)
def cF(xs:List V)(lo hi:Option Int):List V:=(xs.drop (HT.wK xs.length 0 lo)).take (HT.wK xs.length xs.length hi-HT.wK xs.length 0 lo)
theorem uS(xs:List V)(lo hi:Option Int):(cF xs lo hi).length<=xs.length:=by
 unfold cF
 rw[List.length_take,List.length_drop]
 lia
def U9(K:PySem.W.Frag):R2:=λx y H Q=>∃a b ns ms,x = .ref a/\y = .ref b/\fN K H a (ns.map V.int)/\fN K H b (ms.map V.int)/\Q (.bl (HT.lexLt ns ms)) H
theorem NH(hu:X.A.units<cLine):m6 X (compareOp .Lt) (U9 X.K):=by
 intro pins s Z H x y v u Q I rx ry h
 obtain⟨a,b,ns,ms,rfl,rfl,ha,hb,q⟩:=h
 cases rx
 cases ry
 obtain⟨its,r1,p1,_⟩:=I.tuple ha
 obtain⟨its2,r2,p2,_⟩:=I.tuple hb
 have i1:IntsAre its.toArray.toList ns:=intsAre_of r1
 have i2:IntsAre its2.toArray.toList ms:=intsAre_of r2
 exact HT.xE p1 p2 i1 i2 hu ⟨.bl (HT.lexLt ns ms),H,I,rfl,q⟩
end
def BF(n:Nat)(i:Int):Option Nat:=if 0<=i then (if i<n then some i.toNat else none) else if -(n:Int)<=i then some (i+n).toNat else none
def wL{α:Type}(xs:List α)(i:Int):Option α:=(BF xs.length i).bind λj=>xs[j]?
theorem Ad{n:Nat}{i:Int}{j:Nat}(h:BF n i=some j):seqIndex? i n=some j/\j<n /\ -(n:Int)<=i/\i<n:=by
 unfold BF at h
 by_cases h0:0<=i
 ·rw[if_pos h0] at h
  by_cases h1:i<n
  ·rw[if_pos h1] at h
   have e:i.toNat=j:=Option.some.inj h
   exact⟨by rw[seqIndex_of h0 h1,e],by lia,by lia,h1⟩
  ·rw[if_neg h1] at h;cases h
 ·rw[if_neg h0] at h
  by_cases h1:-(n:Int)<=i
  ·rw[if_pos h1] at h
   have e:(i+n).toNat=j:=Option.some.inj h
   exact⟨by rw[seqIndex_neg (by lia) h1,e],by lia,h1,by lia⟩
  ·rw[if_neg h1] at h;cases h
theorem t8{α:Type}{xs:List α}{i:Int}{v:α}(h:wL xs i=some v):∃j,seqIndex? i xs.length=some j/\xs[j]?=some v/\j<xs.length /\ -(xs.length:Int)<=i/\i<xs.length:=by
 unfold wL at h
 cases e:BF xs.length i with
 |none=>rw[e] at h;cases h
 |some j =>
  rw[e] at h
  obtain⟨h1,h2,h3,h4⟩:=Ad e
  exact⟨j,h1,h,h2,h3,h4⟩
theorem bM{α:Type}{xs:List α}{j:Nat}{v:α}(h:xs[j]?=some v):wL xs (j:Int)=some v:=by
 have hj:j<xs.length:=(List.getElem?_eq_some_iff.mp h).1
 have e:BF xs.length (j:Int)=some j:=by
  unfold BF
  rw[if_pos (by lia),if_pos (by lia)];simp
 unfold wL;rw[e];exact h
def JJ(b:Expr):Prop:=∀o i,subscripted b false o i=operate [o,i] (getItem o i)
def Ru(X:Cx)(r:R2):Prop :=
 ∀(value slice:Expr) (pins:List (Addr×Obj)) (s:Shared) (Z:St) (H:Hp) (x y:V) (v u:Value) (Q:VK),Inv X pins Z H s->RelV x v->RelV y u->r x y H Q ->
  subscripted slice false v u=operate [v,u] (getItem v u)->wpAny (model X.prog X.w) X.A (subscriptTail value slice v u) (EP X pins Z Q) X.xe s
def KO(X:Cx)(id:String)(r:V->List V->Hp->VK->Prop):Prop :=
 ∀(pins:List (Addr×Obj)) (s:Shared) (Z:St) (H:Hp) (x:V) (xs:List V) (v:Value) (us:List Value) (Q:VK),Inv X pins Z H s->RelV x v->Vals xs us->r x xs H Q ->
  wpAny (model X.prog X.w) X.A (call (.builtin id) (v::us)) (EP X pins Z Q) X.xe s
section
variable {X:Cx}{a b:Expr}{ta tb:TE}{pos:Pos}
theorem bw{r:R2}(hr:Ru X r)(ha:PE X a ta)(hb:PE X b tb)(hs:JJ b):PE X (.Subscript a b pos) (O8 r ta tb):=by
 intro pins s Z H Q I h
 exact Subscript_ (OT ha hb I h λv u s2 x y H2 I2 rx ry q=>hr a b pins s2 Z H2 x y v u Q I2 rx ry q (hs _ _))
def HG(K:PySem.W.Frag):R2:=λx y H Q=>∃p xs i v,x = .ref p/\y = .int i/\aY K H p xs/\wL xs i=some v/\Q v H
def Ny(K:PySem.W.Frag):R2:=λx y H Q=>∃p xs i v,x = .ref p/\y = .int i/\fN K H p xs/\wL xs i=some v/\Q v H
def Sf:R2:=λx y H Q=>∃z i c,x = .str z/\y = .int i/\z.length<=sizeLine/\wL z.cps.toList i=some c/\Q (.str ⟨#[c]⟩) H
theorem bq:Ru X (HG X.K):=by
 intro value slice pins s Z H x y v u Q I rx ry h hs
 obtain⟨p,xs,i,z,rfl,rfl,hq,he,q⟩:=h
 cases rx
 obtain⟨t,rfl⟩:=ry
 obtain⟨its,r,pl,hz⟩:=I.list hq
 obtain⟨j,h1,h2,h3,h4,h5⟩:=t8 he
 obtain⟨w,ew,rw'⟩:=r.get h2
 have hl:=r.length
 have hn:=lX
 have fin:EP X pins Z Q w s:=⟨z,H,I,rw',q⟩
 by_cases h0:0<=i
 ·have hj:i.toNat=j:=by
   rw[seqIndex_of h0 h5] at h1
   exact Option.some.inj h1
  exact item_listR pl.isList h0 (by lia) (by rw[hj];simpa using ew) fin hs
 ·have hj:(i+(its.toArray.size:Int)).toNat=j:=by
   rw[seqIndex_neg (by lia) h4] at h1
   rw[List.size_toArray,← hl]
   exact Option.some.inj h1
  exact subscriptTail_builtinR (x:=w) pl.isList.typeIs slot_list_getitem.lookup
   (wpAny_getItem_list_neg (Q:=λr s'=>r=w/\EP X pins Z Q r s') pl.isList (by lia) (by rw[List.size_toArray] <;> lia) (by lia) (by rw[hj];simpa using ew) ⟨rfl,fin⟩) hs
theorem fQ:Ru X (Ny X.K):=by
 intro value slice pins s Z H x y v u Q I rx ry h hs
 obtain⟨p,xs,i,z,rfl,rfl,hq,he,q⟩:=h
 cases rx
 obtain⟨t,rfl⟩:=ry
 obtain⟨its,r,pl,hz⟩:=I.tuple hq
 obtain⟨j,h1,h2,h3,h4,h5⟩:=t8 he
 obtain⟨w,ew,rw'⟩:=r.get h2
 have hl:=r.length
 have hn:=lX
 have fin:EP X pins Z Q w s:=⟨z,H,I,rw',q⟩
 exact subscriptTail_builtinR (x:=w) pl.typeIs slot_tuple_getitem.lookup
  (getItem_tuple (j:=j) (Q:=λr s'=>r=w/\EP X pins Z Q r s') pl (by lia) (by lia) (by rw[List.size_toArray,← hl];exact h1) (by simpa using ew) ⟨rfl,fin⟩) hs
theorem lD:Ru X Sf:=by
 intro value slice pins s Z H x y v u Q I rx ry h hs
 obtain⟨z,i,c,rfl,rfl,hz,he,q⟩:=h
 obtain⟨t,rfl⟩:=rx
 obtain⟨t',rfl⟩:=ry
 obtain⟨j,h1,h2,h3,h4,h5⟩:=t8 he
 have hl:z.cps.toList.length=z.length:=by simp[Str.length]
 rw[hl] at h1 h4 h5
 have hn:=lX
 exact tail_any (typeIs_str s z t) slot_str_getitem.lookup (getItem_str (c:=c) (by
  have e1:decide (i < -(2 ^ 63:Int))=false:=decide_eq_false (by lia)
  have e2:decide (i ≥ 2 ^ 63)=false:=decide_eq_false (by lia)
  rw[e1,e2,Bool.or_false]) (by rw[h1];simpa using h2) ⟨.str ⟨#[c]⟩,H,I.tok _,⟨_,rfl⟩,q⟩) hs
theorem zf (its:List Value) (n j:Nat) (u:Value):Obj.mapSeq (·.setIfInBounds j u) { cls:=.type "list",data:=.seq its.toArray n } = { cls:=.type "list",data:=.seq (its.set j u).toArray n }:=by
 simp[Obj.mapSeq]
theorem Inv.lst{pins:List (Addr×Obj)}{Z:St}{H:Hp}{s:Shared}{p:Addr}{xs:List V}(I:Inv X pins Z H s)(h:H p=some (.lst xs)) :
  ∃(its:List Value) (n:Nat),Vals xs its/\s.heap.get? p=some { cls:=.type "list",data:=.seq its.toArray n }/\xs.length<=sizeLine:=by
 obtain⟨z,its,n,r,e⟩:=I.hok p _ h
 exact⟨its,n,r,e,z⟩
theorem Inv.Of{pins:List (Addr×Obj)}{Z:St}{H:Hp}{s:Shared}{p:Addr}{xs ys:List V}{its its':List Value}{n n':Nat}{f:Obj->Obj}(I:Inv X pins Z H s)(h:H p=some (.lst xs))
  (ho:s.heap.get? p=some { cls:=.type "list",data:=.seq its.toArray n }) (hf:f { cls:=.type "list",data:=.seq its.toArray n } = { cls:=.type "list",data:=.seq its'.toArray n' }) (r:Vals ys its') (hz:ys.length<=sizeLine) (t:Nat) :
  Inv X pins Z (upd H p (.lst ys)) { s with heap:=s.heap.update p f,toks:=t }:=by
 have e:(s.heap.update p f).get? p=some { cls:=.type "list",data:=.seq its'.toArray n' }:=by
  rw[Heap.get?_update_self f ho (by rw[hf] <;> rfl),hf]
 refine I.write (x:=p) (e:=p) (by rw[h];trivial) (.inl rfl) (λb u hb q=>(Heap.get?_update_other _ _ (Ne.symm hb)).trans q) ⟨_,e⟩ ?_
 exact⟨hz,its',n',r,e⟩
def TU:V->V->V->Hp->(Hp->Prop)->Prop:=λo i v H Q=>∃p xs k j,o = .ref p/\i = .int k/\H p=some (.lst xs)/\BF xs.length k=some j/\Q (upd H p (.lst (xs.set j v)))
theorem set_list:SO X TU:=by
 intro pins s Z H o i v ov iv u Q I ro ri rv h
 obtain⟨p,xs,k,j,rfl,rfl,hp,hj,q⟩:=h
 cases ro
 obtain⟨t,rfl⟩:=ri
 obtain⟨its,n,r,ho,hz⟩:=I.lst hp
 obtain⟨h1,h2,h3,h4⟩:=Ad hj
 have hl:=r.length
 have hn:=lX
 have I':Inv X pins Z (upd H p (.lst (xs.set j v))) { s with heap:=s.heap.update p (Obj.mapSeq (·.setIfInBounds j u)) } :=
  I.Of hp ho (zf its n j u) (r.set rv j) (by rw[List.length_set];exact hz) s.toks
 by_cases h0:0<=k
 ·have hk:k.toNat=j:=by
   rw[seqIndex_of h0 h4] at h1
   exact Option.some.inj h1
  exact PySem.W.ki_setAt ho h0 (by lia) (by rw[List.size_toArray,← hl];exact h4) (by rw[hk];exact⟨_,I',q⟩)
 ·have hk:(k+(its.toArray.size:Int)).toNat=j:=by
   rw[seqIndex_neg (by lia) h3] at h1
   rw[List.size_toArray,← hl]
   exact Option.some.inj h1
  exact PySem.W.ki_setBack ho (by lia) (by rw[List.size_toArray,← hl];exact h3) (by lia) (by rw[hk];exact⟨_,I',q⟩)
theorem uE(lo hi:Option Int)(n:Nat):(sliceBounds lo hi none n).1=((HT.wK n 0 lo:Nat):Int)/\(sliceBounds lo hi none n).2.1=((HT.wK n n hi:Nat):Int)/\(sliceBounds lo hi none n).2.2=1:=by
 refine⟨?_,?_,rfl⟩
 ·cases lo with
  |none=>simp[sliceBounds,HT.wK]
  |some i =>
   simp only[sliceBounds,HT.wK,Option.getD_none,show (1:Int)>0 by decide,if_true]
   by_cases h:i<0
   ·simp only[h,if_true] <;> lia
   ·simp only[h,if_false] <;> lia
 ·cases hi with
  |none=>simp[sliceBounds,HT.wK]
  |some i =>
   simp only[sliceBounds,HT.wK,Option.getD_none,show (1:Int)>0 by decide,if_true]
   by_cases h:i<0
   ·simp only[h,if_true] <;> lia
   ·simp only[h,if_false] <;> lia
theorem rG(its:List Value)(lo hi:Option Int):slicePick its.toArray lo hi none=((its.drop (HT.wK its.length 0 lo)).take (HT.wK its.length its.length hi-HT.wK its.length 0 lo)).toArray:=by
 obtain⟨h1,h2,h3⟩:=uE lo hi its.toArray.size
 unfold slicePick
 rw[h1,h2,h3]
 simp only[sliceRange_one,pick_run,List.size_toArray] <;> rfl
def Vh(K:PySem.W.Frag):V->Option Int->Option Int->Hp->VK->Prop:=λx lo hi H Q=>∃a xs,x = .ref a/\aY K H a xs/\∀p,H p=none->Q (.ref p) (upd H p (.lst (cF xs lo hi)))
theorem fJ:Uo X (Vh X.K):=by
 intro pins s Z H x v vl vu lo hi sl Q I rx hs pl pu h
 obtain⟨a,xs,rfl,hx,q⟩:=h
 cases rx
 obtain⟨its,r,ht,hz⟩:=I.list hx
 have hlen:=r.length
 refine⟨"list",_,slot_list_getitem.lookup,ht.isList.typeIs,?_⟩
 refine wpAny_getItem_list_slice ht.isList hs pl pu .none (by simp) ?_ (by rw[List.size_toArray] <;> lia)
 rw[rG,← hlen]
 refine⟨.ref s.heap.objs.size,_,I.laid (t':=s.toks) (o:=.lst (cF xs lo hi)) (λb ob q=>Heap.get?_push_of_some _ q) (Nat.le_refl _) ?_,rfl,q _ (I.hok.fresh (Nat.le_refl _))⟩
 exact⟨Nat.le_trans (uS xs lo hi) hz,_,0,(r.drop (HT.wK xs.length 0 lo)).take (HT.wK xs.length xs.length hi-HT.wK xs.length 0 lo),Heap.get?_push_size _ rfl⟩
def j8:V->Bool
 |.cu=>true
 |.bl _=>true
 |.int _=>true
 |.str _=>true
 |_=>false
def Jh:V->V->Bool
 |.cu,.cu=>true
 |.bl a,.bl b=>a == b
 |.bl a,.int b=>(if a then 1 else 0) == b
 |.int a,.bl b=>a == (if b then 1 else 0)
 |.int a,.int b=>a == b
 |.str a,.str b=>a == b
 |_,_=>false
theorem CF{A:Around}{s:Shared}{y x:V}{u v:Value}(ry:RelV y u)(rx:RelV x v)(fy:j8 y=true)(fx:j8 x=true):SeqAt.EqAt A s u v (Jh y x):=by
 cases y with
 |cu =>
  cases ry
  cases x with
  |cu=>cases rx;exact SeqAt.EqAt.same _
  |bl b=>cases rx;exact SeqAt.EqAt.none_bool b
  |int b=>obtain⟨t,rfl⟩:=rx;exact SeqAt.EqAt.none_int b t
  |str b=>obtain⟨t,rfl⟩:=rx;exact SeqAt.EqAt.none_str b t
  |_=>exact absurd (show false=true from fx) Bool.false_ne_true
 |bl a =>
  cases ry
  cases x with
  |cu=>cases rx;exact SeqAt.EqAt.bool_none a
  |bl b=>cases rx;exact SeqAt.EqAt.bool_bool a b
  |int b=>obtain⟨t,rfl⟩:=rx;exact SeqAt.EqAt.bool_int a b t
  |str b=>obtain⟨t,rfl⟩:=rx;exact SeqAt.EqAt.bool_str a b t
  |_=>exact absurd (show false=true from fx) Bool.false_ne_true
 |int a =>
  obtain⟨t',rfl⟩:=ry
  cases x with
  |cu=>cases rx;exact SeqAt.EqAt.int_none a t'
  |bl b=>cases rx;exact SeqAt.EqAt.int_bool a t' b
  |int b=>obtain⟨t,rfl⟩:=rx;exact SeqAt.EqAt.int_int a t' b t
  |str b=>obtain⟨t,rfl⟩:=rx;exact SeqAt.EqAt.int_str a t' b t
  |_=>exact absurd (show false=true from fx) Bool.false_ne_true
 |str a =>
  obtain⟨t',rfl⟩:=ry
  cases x with
  |cu=>cases rx;exact SeqAt.EqAt.str_none a t'
  |bl b=>cases rx;exact SeqAt.EqAt.str_bool a t' b
  |int b=>obtain⟨t,rfl⟩:=rx;exact SeqAt.EqAt.str_int a t' b t
  |str b=>obtain⟨t,rfl⟩:=rx;exact SeqAt.EqAt.str_str a t' b t
  |_=>exact absurd (show false=true from fx) Bool.false_ne_true
 |_=>exact absurd (show false=true from fy) Bool.false_ne_true
def wN(x:V)(u:Value):Bool:=match u with
 |.none=>Jh .cu x
 |.bool b=>Jh (.bl b) x
 |.int i _=>Jh (.int i) x
 |.str z _=>Jh (.str z) x
 |_=>false
theorem D3{x y:V}{u:Value}(r:RelV y u)(f:j8 y=true):wN x u=Jh y x:=by
 cases y with
 |cu=>cases r;rfl
 |bl b=>cases r;rfl
 |int i=>obtain⟨t,rfl⟩:=r;rfl
 |str z=>obtain⟨t,rfl⟩:=r;rfl
 |_=>exact absurd (show false=true from f) Bool.false_ne_true
theorem mU{x:V}:∀{xs:List V} {us:List Value},Vals xs us->xs.all j8=true->us.any (wN x)=xs.any λy=>Jh y x
 |_,_,.nil,_=>rfl
 |y::xs,u::us,.cons r t,f=>by
  rw[List.all_cons,Bool.and_eq_true] at f
  rw[List.any_cons,List.any_cons,D3 r f.1,mU t f.2]
theorem kg{A:Around}{s:Shared}{x:V}{v:Value}(rx:RelV x v)(fx:j8 x=true):∀{xs:List V} {us:List Value},Vals xs us->xs.all j8=true->∀u∈us,SeqAt.EqAt A s u v (wN x u)
 |_,_,.nil,_=>λu hu=>by cases hu
 |y::xs,u::us,.cons r t,f=>λu' hu=>by
  rw[List.all_cons,Bool.and_eq_true] at f
  rcases List.mem_cons.mp hu with rfl|hu
  ·rw[D3 r f.1];exact CF r rx f.1 fx
  ·exact kg rx fx t f.2 u' hu
def yi(x:V)(xs:List V):Bool:=xs.any λy=>Jh y x
def UJ(K:PySem.W.Frag)(neg:Bool):R2:=λx y H Q=>∃p xs,y = .ref p/\(aY K H p xs∨fN K H p xs)/\j8 x=true/\xs.all j8=true/\Q (.bl (if neg then !yi x xs else yi x xs)) H
theorem fT:m6 X (compareOp .In) (UJ X.K false):=by
 intro pins s Z H x y v u Q I rx ry h
 obtain⟨p,xs,rfl,hq,fx,fs,q⟩:=h
 cases ry
 rcases hq with hq|hq
 ·obtain⟨its,r,pl,hz⟩:=I.list hq
  refine SeqAt.in_listAt (wN x) pl.isList (λw hw=>kg rx fx r fs w (by simpa using hw)) ⟨.bl _,H,I,rfl,?_⟩
  rw[show its.toArray.any (wN x)=its.any (wN x) by simp,mU r fs]
  exact q
 ·obtain⟨its,r,pl,hz⟩:=I.tuple hq
  refine SeqAt.in_tupleAt (wN x) pl (λw hw=>kg rx fx r fs w (by simpa using hw)) ⟨.bl _,H,I,rfl,?_⟩
  rw[show its.toArray.any (wN x)=its.any (wN x) by simp,mU r fs]
  exact q
theorem mS:m6 X (compareOp .NotIn) (UJ X.K true):=by
 intro pins s Z H x y v u Q I rx ry h
 obtain⟨p,xs,rfl,hq,fx,fs,q⟩:=h
 cases ry
 rcases hq with hq|hq
 ·obtain⟨its,r,pl,hz⟩:=I.list hq
  refine SeqAt.notIn_listAt (wN x) pl.isList (λw hw=>kg rx fx r fs w (by simpa using hw)) ⟨.bl _,H,I,rfl,?_⟩
  rw[show its.toArray.any (wN x)=its.any (wN x) by simp,mU r fs]
  exact q
 ·obtain⟨its,r,pl,hz⟩:=I.tuple hq
  refine SeqAt.notIn_tupleAt (wN x) pl (λw hw=>kg rx fx r fs w (by simpa using hw)) ⟨.bl _,H,I,rfl,?_⟩
  rw[show its.toArray.any (wN x)=its.any (wN x) by simp,mU r fs]
  exact q
theorem aP:iE X (.builtin "len") (λxs H Q=>∃p ys,xs=[.ref p]/\(aY X.K H p ys∨fN X.K H p ys)/\Q (.int ys.length) H):=by
 intro pins s Z H xs us Q I r h
 obtain⟨p,ys,rfl,hq,q⟩:=h
 obtain⟨u,rfl,rx⟩:=vals1 r
 cases rx
 have hn:=lX
 rcases hq with hq|hq
 ·obtain⟨its,r',pl,hz⟩:=I.list hq
  have hlen:=r'.length
  exact Calls.call_len_list pl.isList (by simp only[List.size_toArray] <;> lia) ⟨.int ys.length,H,I.tok _,⟨s.toks+1,by rw[List.size_toArray,hlen]⟩,q⟩
 ·obtain⟨its,r',pl,hz⟩:=I.tuple hq
  have hlen:=r'.length
  exact len_tuple pl (by simp only[List.size_toArray] <;> lia) ⟨.int ys.length,H,I.tok _,⟨s.toks+1,by rw[List.size_toArray,hlen]⟩,q⟩
theorem bf:iE X (.builtin "len") (λxs H Q=>∃z,xs=[.str z]/\z.length<=sizeLine/\Q (.int z.length) H):=by
 intro pins s Z H xs us Q I r h
 obtain⟨z,rfl,hz,q⟩:=h
 obtain⟨u,rfl,t,rfl⟩:=vals1 r
 have hn:=lX
 exact len_str (by lia) ⟨.int z.length,H,I.tok _,⟨_,rfl⟩,q⟩
theorem jr:iE X (.type "list") (λxs H Q=>∃p ys,xs=[.ref p]/\(aY X.K H p ys∨fN X.K H p ys)/\∀l,H l=none->Q (.ref l) (upd H l (.lst ys))):=by
 intro pins s Z H xs us Q I r h
 obtain⟨p,ys,rfl,hq,q⟩:=h
 obtain⟨u,rfl,rx⟩:=vals1 r
 cases rx
 have fin:∀(its:List Value),Vals ys its->ys.length<=sizeLine->∀(h':Heap) (c':Nat),(∀b o',s.heap.get? b=some o'->h'.get? b=some o') ->
   h'.get? s.heap.objs.size=some { cls:=.type "list",dict:=none,data:=.seq its.toArray c',slots:=#[] }->EP X pins Z Q (.ref s.heap.objs.size) { s with heap:=h' }:=λits r' hz h' c' kp e =>
  ⟨.ref s.heap.objs.size,_,I.laid (t':=s.toks) kp (Nat.le_refl _) (show cH X.prog X.w _ h' _ (.lst ys) from ⟨hz,its,c',r',e⟩),rfl,q _ (I.hok.fresh (Nat.le_refl _))⟩
 rcases hq with hq|hq
 ·obtain⟨its,r',pl,hz⟩:=I.list hq
  have hlen:=r'.length
  obtain⟨o,ho,hc,n,hd⟩:=pl.isList
  exact call_list_seq p (.inl rfl) ho hc hd (λh' c' kp e=>fin its r' hz h' c' kp e) (by simp only[List.size_toArray] <;> lia)
 ·obtain⟨its,r',pl,hz⟩:=I.tuple hq
  have hlen:=r'.length
  obtain⟨o,ho,hc,n,hd⟩:=pl
  exact call_list_seq p (.inr rfl) ho hc hd (λh' c' kp e=>fin its r' hz h' c' kp e) (by simp only[List.size_toArray] <;> lia)
def UG(K:PySem.W.Frag)(T:String)(x:V)(H:Hp):Prop:=match x with
 |.str _=>T = "str"
 |.int _=>T = "int"
 |.ref p=>(T = "list" /\ ∃xs,aY K H p xs)∨(T = "tuple" /\ ∃o,K.lookup p=some o/\o.cls = .type "tuple" /\ o.dict=none) ∨
   (T = "dict" /\ ((∃kvs,H p=some (.dK kvs))∨∃kvs,H p=some (.dT kvs)))∨(T = "set" /\ ∃S n,H p=some (.set S n))
 |_=>False
theorem Gv{pins:List (Addr×Obj)}{Z:St}{H:Hp}{s:Shared}{T:String}{x:V}{v:Value}(I:Inv X pins Z H s)(r:RelV x v)(ty:UG X.K T x H) :
  s.TypeIs v T/\∀a,v = .ref a->∃ob,s.heap.get? a=some ob/\ob.dict=none:=by
 cases x with
 |str z =>
  obtain⟨t,rfl⟩:=r
  cases (show T = "str" from ty)
  exact⟨typeIs_str s z t,λ_ e=>nomatch e⟩
 |int i =>
  obtain⟨t,rfl⟩:=r
  cases (show T = "int" from ty)
  exact⟨typeIs_int s i t,λ_ e=>nomatch e⟩
 |ref p =>
  cases r
  rcases ty with ⟨rfl,xs,hq⟩|⟨rfl,o,hk,hc,hd⟩|⟨rfl,hk⟩|⟨rfl,S,n,hk⟩
  ·obtain⟨its,_,pl,_⟩:=I.list hq
   refine⟨pl.isList.typeIs,λa e=>?_⟩
   cases e
   obtain⟨o,n,e,c,hd,_⟩:=pl
   exact⟨o,e,hd⟩
  ·refine⟨⟨o,I.k6 p o hk,hc⟩,λa e=>?_⟩
   cases e
   exact⟨o,I.k6 _ o hk,hd⟩
  ·have z:∃o,s.heap.get? p=some o/\o.ExactDict:=by
    rcases hk with ⟨kvs,hk⟩|⟨kvs,hk⟩
    ·obtain⟨_,_,_,_,o,_,_,e,ex,_⟩:=I.hok p _ hk
     exact⟨o,e,ex⟩
    ·obtain⟨_,_,_,_,o,_,_,e,ex,_⟩:=I.hok p _ hk
     exact⟨o,e,ex⟩
   obtain⟨o,e,ex⟩:=z
   refine⟨⟨o,e,ex.1⟩,λa e2=>?_⟩
   cases e2
   exact⟨o,e,ex.2.1⟩
  ·obtain⟨o,_,_,_,e,ex,_⟩:=I.hok p _ hk
   refine⟨⟨o,e,ex.1⟩,λa e2=>?_⟩
   cases e2
   exact⟨o,e,ex.2.1⟩
 |_=>exact False.elim ty
def TR(K:PySem.W.Frag)(T:String)(r:V->List V->Hp->VK->Prop)(to:TE):TE:=λZ H Q=>to Z H λx H1=>UG K T x H1/\r x [] H1 Q
def tBM(K:PySem.W.Frag)(T:String)(r:V->List V->Hp->VK->Prop)(to:TE)(t:TA):TE:=λZ H Q=>to Z H λx H1=>UG K T x H1/\t Z H1 λxs H2=>r x xs H2 Q
variable {o e:Expr}{es:List Expr}{to:TE}{t:TA}{name:Str}{apos cpos:Pos}{T id:String}{r:V->List V->Hp->VK->Prop}
theorem Q0 (pa:PlainAttrs T) (slot:Slot T name id) (hty:typeOf (.builtin id)=pure (.type "method_descriptor")) (hm:KO X id r) (ho:PE X o to)
  (hbase:autoParam (attributeBase o name X.env (eval o X.env)=eval o X.env) L2.Y3._auto_1) (hline:autoParam ((apos.endLine == cpos.line)=true) L2.Y3._auto_1):PE X (.Call (.Attribute o name apos) [] [] cpos) (TR X.K T r to):=by
 intro pins s Z H Q I h
 refine wpAny_Call_method0_late hbase hline (cL (ho pins s Z H _ I h) λv s1  hZ=>?_)
 obtain⟨x,H1,I1,r1,ty,q1⟩:=hZ
 obtain⟨h1,h2⟩:=Gv I1 r1 ty
 exact⟨T,id,pa,slot,hty,h1,h2,Calls.callWith_builtin rfl (PySem.evalArgs_none (hm pins s1 Z H1 x [] v [] Q I1 r1 .nil q1))⟩
theorem c5 (pa:PlainAttrs T) (slot:Slot T name id) (hty:typeOf (.builtin id)=pure (.type "method_descriptor")) (hm:KO X id r) (ho:PE X o to) (ha:PA X (e::es) t)
  (hbase:autoParam (attributeBase o name X.env (eval o X.env)=eval o X.env) L2.Y3._auto_1)
  (hfew:autoParam (((backTo cpos (starEach (e::es) X.env)).all (λx=>!x.1) && (backToKw cpos (keywordEach [] X.env)).all (λx=>x.1.isSome)
   && decide ((e::es).length+([]:List Keyword).length+(if ([]:List Keyword).isEmpty then 0 else 1)<30))=true) L2.Y3._auto_1)
  (hline:autoParam ((apos.endLine == cpos.line)=true) L2.Y3._auto_1) (hs:autoParam (starEach (e::es) X.env=(false,eval e X.env)::starEach es X.env) L2.Y3._auto_1) (hplain:autoParam ((backTo cpos (starEach es X.env)).any (·.1)=false) L2.Y3._auto_1) :
  PE X (.Call (.Attribute o name apos) (e::es) [] cpos) (tBM X.K T r to t):=by
 intro pins s Z H Q I h
 refine wpAny_Call_method_late hbase hfew hline rfl (cL (ho pins s Z H _ I h) λv s1  hZ=>?_)
 obtain⟨x,H1,I1,r1,ty,q1⟩:=hZ
 obtain⟨h1,h2⟩:=Gv I1 r1 ty
 refine⟨T,id,pa,slot,hty,h1,h2,?_⟩
 have hA:=ha cpos pins s1 Z H1 _ I1 q1
 rw[hs] at hA ⊢
 refine Calls.callWith_builtin (by show (false || (backTo cpos (starEach es X.env)).any (·.1))=false;rw[hplain] <;> rfl) (Calls.evalArgs_plain ?_)
 exact cL hA λus s2 ⟨vs,H2,I2,r2,q2⟩=>hm pins s2 Z H2 x vs v us Q I2 r1 r2 q2
end
def UW(X:Cx)(id:String)(r:V->List V->Hp->VK->Prop):Prop :=
 ∀(pins:List (Addr×Obj)) (s:Shared) (Z:St) (H:Hp) (x:V) (xs:List V) (v:Value) (us:List Value) (Q:VK),Inv X pins Z H s->RelV x v->Vals xs us->r x xs H Q ->
  wpAny (model X.prog X.w) X.A (call (.builtin id) (v::us)) (EP X pins Z Q) X.xe s
theorem Vals.one{x:V}{us:List Value}(h:Vals [x] us):∃u,us=[u]/\RelV x u:=by
 cases h with
 |cons r h=>
  cases h
  exact⟨_,rfl,r⟩
theorem Vals.two{x y:V}{us:List Value}(h:Vals [x,y] us):∃u v,us=[u,v]/\RelV x u/\RelV y v:=by
 cases h with
 |cons r h=>cases h with
  |cons q h=>
   cases h
   exact⟨_,_,rfl,r,q⟩
theorem Vals.zero:∀{us:List Value},Vals [] us->us=[]
 |_,.nil=>rfl
theorem Vals.dropLast{xs:List V}{us:List Value}(h:Vals xs us):Vals xs.dropLast us.dropLast:=by
 induction h with
 |nil=>exact .nil
 |cons r t ih =>
  cases t with
  |nil=>exact .nil
  |cons q t'=>exact .cons r ih
theorem Vals.rep{xs:List V}{us:List Value}(h:Vals xs us):∀k:Nat,Vals (List.replicate k xs).flatten (List.replicate k us).flatten
 |0=>.nil
 |k+1=>by
  rw[List.replicate_succ,List.replicate_succ,List.flatten_cons,List.flatten_cons]
  exact Vals.append h (Vals.rep h k)
theorem yb{α:Type}(l:List α):l.eraseIdx (l.length-1)=l.dropLast:=by
 induction l with
 |nil=>rfl
 |cons a r ih =>
  cases r with
  |nil=>rfl
  |cons b r =>
   have e:(a::b::r).length-1=((b::r).length-1)+1:=by
    have h1:(a::b::r).length=r.length+2:=rfl
    have h2:(b::r).length=r.length+1:=rfl
    lia
   rw[e,List.eraseIdx_cons_succ,ih]
   all_goals rfl
theorem foldl_rep(its:List Value):∀(k:Nat) (acc:List Value),
  List.foldl (λx1 x2=>x1++x2) acc.toArray (List.replicate k its.toArray)=(acc++(List.replicate k its).flatten).toArray
 |0,acc=>by simp
 |k+1,acc=>by
  have e:acc.toArray++its.toArray=(acc++its).toArray:=by simp
  have e2:(acc++its)++(List.replicate k its).flatten=acc++(List.replicate (k+1) its).flatten:=by
   rw[List.replicate_succ,List.flatten_cons,List.append_assoc]
  rw[← e2,← foldl_rep its k (acc++its),← e,List.replicate_succ,List.foldl_cons]
section
variable {X:Cx}{pins:List (Addr×Obj)}{Z:St}{H:Hp}{s:Shared}{l b:Addr}{xs ys zs:List V}
theorem Inv.Nx{its its':List Value}{n:Nat}{f:Array Value->Array Value}{t':Nat}(I:Inv X pins Z H s)(hH:H l=some (.lst xs))
  (e:s.heap.get? l=some { cls:=.type "list",data:=.seq its.toArray n }) (hf:f its.toArray=its'.toArray) (hv:Vals ys its') (hz:ys.length<=sizeLine) :
  Inv X pins Z (upd H l (.lst ys)) { s with heap:=s.heap.update l (Obj.mapSeq f),toks:=t' }:=by
 have q:=PySem.IsL.update e f
 rw[hf] at q
 refine I.write (x:=l) (e:=l) (by rw[hH];exact trivial) (.inl rfl) (λb' u hb hu=>(Heap.get?_update_other s.heap (Obj.mapSeq f) (Ne.symm hb)).trans hu) ⟨_,q⟩ ?_
 exact⟨hz,its',_,hv,q⟩
theorem Inv.Gn{its:List Value}{t':Nat}(I:Inv X pins Z H s)(hv:Vals ys its)(hz:ys.length<=sizeLine) :
  Inv X pins Z (upd H s.heap.objs.size (.lst ys)) { s with heap:=s.heap.push { cls:=.type "list",data:=.seq its.toArray },toks:=t' } :=
 I.laid (λ_ _ q=>Heap.get?_push_of_some _ q) (Nat.le_refl _) ⟨hz,its,0,hv,Heap.get?_push_size _ rfl⟩
theorem Inv.fresh(I:Inv X pins Z H s):H s.heap.objs.size=none:=I.hok.fresh (Nat.le_refl _)
theorem Inv.xN (I:Inv X pins Z H s) (hH:H l=some (.lst xs)):xs.length<=sizeLine/\∃(its:List Value) (n:Nat),Vals xs its/\xs.length=its.length/\s.heap.get? l=some { cls:=.type "list",data:=.seq its.toArray n }:=by
 obtain⟨z,its,n,r,e⟩:=I.hok l _ hH
 exact⟨z,its,n,r,r.length,e⟩
theorem uV{n:Nat}(h:n<=sizeLine):Builtin.List.listTooLong n=false:=by
 unfold Builtin.List.listTooLong
 exact decide_eq_false (by lia)
end
section
variable {X:Cx}
def Jx:V->List V->Hp->VK->Prop:=λx vs H Q=>∃l xs y,x = .ref l/\vs=[y]/\H l=some (.lst xs)/\xs.length<sizeLine/\Q .cu (upd H l (.lst (xs++[y])))
theorem cG:UW X "list.append" Jx:=by
 intro pins s Z H x vs v us Q I rx rv h
 obtain⟨l,xs,y,rfl,rfl,hH,hz,q⟩:=h
 cases rx
 obtain⟨u,rfl,ru⟩:=rv.one
 obtain⟨z,its,n,r,hl,e⟩:=I.xN hH
 refine call_meets F.slot_list_append ⟨_,e,rfl⟩ F.entry_list_append (F.args_list_append_2 _ _) (PySem.list_append l its.toArray n u (by rw[List.size_toArray];lia)) ⟨e,?_⟩
 refine⟨.cu,_,I.Nx (its':=its++[u]) hH e (by simp) (r.append (.cons ru .nil)) ?_,rfl,q⟩
 rw[List.length_append,List.length_singleton]
 lia
def Jt:V->List V->Hp->VK->Prop:=λx vs H Q=>∃l b xs zs,x = .ref l/\vs=[.ref b]/\H l=some (.lst xs)/\H b=some (.lst zs)/\xs.length+zs.length<=sizeLine/\Q .cu (upd H l (.lst (xs++zs)))
theorem A0:UW X "list.extend" Jt:=by
 intro pins s Z H x vs v us Q I rx rv h
 obtain⟨l,b,xs,zs,rfl,rfl,hH,hB,hz,q⟩:=h
 cases rx
 obtain⟨u,rfl,ru⟩:=rv.one
 cases ru
 obtain⟨z,its,n,r,hl,e⟩:=I.xN hH
 obtain⟨z2,its2,n2,r2,hl2,e2⟩:=I.xN hB
 have hsz:its.toArray.size+its2.toArray.size<=sizeLine:=by rw[List.size_toArray,List.size_toArray];lia
 have hlong:¬ (!its.toArray.isEmpty && Builtin.List.listTooLong (its.toArray.size+its2.toArray.size))=true:=by
  rw[uV hsz,Bool.and_false]
  exact Bool.false_ne_true
 refine call_meets F.slot_list_extend ⟨_,e,rfl⟩ F.entry_list_extend (F.args_list_extend_2 _ _)
  (AutoSeq1.list_extend_list_list_0 l its.toArray n b its2.toArray n2 hlong (by rw[List.size_toArray];lia) (by lia)) ⟨e,e2,?_⟩
 refine⟨.cu,_,I.Nx (its':=its++its2) hH e (by simp) (r.append r2) ?_,rfl,q⟩
 rw[List.length_append]
 lia
def Vj:V->List V->Hp->VK->Prop:=λx vs H Q=>∃l xs y,x = .ref l/\vs=[]/\H l=some (.lst xs)/\xs[xs.length-1]?=some y/\Q y (upd H l (.lst xs.dropLast))
theorem Oc:UW X "list.pop" Vj:=by
 intro pins s Z H x vs v us Q I rx rv h
 obtain⟨l,xs,y,rfl,rfl,hH,hy,q⟩:=h
 cases rx
 have hus:=rv.zero
 subst hus
 obtain⟨z,its,n,r,hl,e⟩:=I.xN hH
 obtain⟨u,hu,ru⟩:=r.get hy
 have hy':its.toArray[its.toArray.size-1]?=some u:=by
  show its.toArray[its.length-1]?=some u
  rw[← Array.getElem?_toList,← hl]
  exact hu
 refine call_meets F.slot_list_pop ⟨_,e,rfl⟩ F.entry_list_pop (F.args_list_pop_1 _) (MeetsSeq.list_pop_last l its.toArray n u hy' (by rw[List.size_toArray];lia)) ⟨e,?_⟩
 refine⟨y,_,I.Nx (its':=its.dropLast) hH e ?_ r.dropLast ?_,ru,q⟩
 ·show its.toArray.eraseIdxIfInBounds (its.toArray.size-1)=its.dropLast.toArray
  rw[List.size_toArray,List.eraseIdxIfInBounds_toArray,yb]
 ·rw[List.length_dropLast]
  lia
def Vf:R2:=λx y H Q=>∃l b xs zs,x = .ref l/\y = .ref b/\H l=some (.lst xs)/\H b=some (.lst zs)/\xs.length+zs.length<=sizeLine/\∀p,H p=none->Q (.ref p) (upd H p (.lst (xs++zs)))
theorem nJ:m6 X (binaryOp .Add) Vf:=by
 intro pins s Z H x y v u Q I rx ry h
 obtain⟨l,b,xs,zs,rfl,rfl,hH,hB,hz,q⟩:=h
 cases rx
 cases ry
 obtain⟨z,its,n,r,hl,e⟩:=I.xN hH
 obtain⟨z2,its2,n2,r2,hl2,e2⟩:=I.xN hB
 refine PySem.P.add_list e e2 ?_ (by rw[List.size_toArray,List.size_toArray];lia)
 have ea:its.toArray++its2.toArray=(its++its2).toArray:=by simp
 rw[ea]
 exact⟨.ref _,_,I.Gn (t':=s.toks) (r.append r2) (by rw[List.length_append];lia),rfl,q _ I.fresh⟩
def UB:R2:=λx y H Q=>∃l k xs,x = .ref l/\y = .int k/\H l=some (.lst xs) /\ -(2 ^ 63)<=k/\k<2 ^ 63/\xs.length*k.toNat<=sizeLine /\
 ∀p,H p=none->Q (.ref p) (upd H p (.lst (List.replicate k.toNat xs).flatten))
theorem len_rep{α:Type}(xs:List α)(k:Nat):(List.replicate k xs).flatten.length=k*xs.length:=by
 induction k with
 |zero=>simp
 |succ k ih=>rw[List.replicate_succ,List.flatten_cons,List.length_append,ih,Nat.succ_mul,Nat.add_comm]
theorem DW:m6 X (binaryOp .Mult) UB:=by
 intro pins s Z H x y v u Q I rx ry h
 obtain⟨l,k,xs,rfl,rfl,hH,h1,h2,hz,q⟩:=h
 cases rx
 obtain⟨t,rfl⟩:=ry
 obtain⟨z,its,n,r,hl,e⟩:=I.xN hH
 have hlen:its.toArray.size*k.toNat<=sizeLine:=by rw[List.size_toArray,← hl];exact hz
 have hcap:¬ its.toArray.size*k.toNat>(2 ^ 63-1) / 8:=by
  have:(sizeLine:Nat)<=(2 ^ 63-1) / 8:=by decide
  lia
 have hfit:¬ (!Builtin.List.listFitsIndex k)=true:=by
  rw[fitsIndex_both h1 h2]
  exact Bool.false_ne_true
 have hlong:¬ Builtin.List.listTooLong (its.toArray.size*k.toNat)=true:=by
  rw[uV hlen]
  exact Bool.false_ne_true
 have hnew:List.foldl (λx1 x2=>x1++x2) #[] (List.replicate (if its.toArray.isEmpty=true then 0 else k.toNat) its.toArray)=(List.replicate k.toNat its).flatten.toArray:=by
  have f0:∀m:Nat,List.foldl (λx1 x2=>x1++x2) #[] (List.replicate m its.toArray)=(List.replicate m its).flatten.toArray:=λm=>by
   have:=foldl_rep its m []
   rw[List.nil_append] at this
   exact this
  rw[f0]
  cases its with
  |nil=>simp
  |cons a r'=>rw[if_neg (by simp)]
 refine wpAny_binaryOp_repeat_ref (T:="list") (U:="int") (by decide) ⟨_,e,rfl⟩ (λs'=>typeIs_int s' k t) noFill_list_mul F.fills_int_mul F.slot_int_rmul repeat_list F.slot_int_index.lookup
  (call_meets F.slot_int_rmul (typeIs_int s k t) F.entry_int_rmul (F.args_int_rmul_2 _ _) (int___rmul___int_list k t l its.toArray n)
   ⟨e,rfl,⟨_,e,rfl⟩,call_meets F.slot_list_mul ⟨_,e,rfl⟩ F.entry_list_mul (F.args_list_mul_2 _ _) (AutoListH.list___mul___list_int_3 l its.toArray n k t hfit hcap hlong) ⟨e,?_⟩⟩)
 rw[hnew]
 exact⟨.ref _,_,I.Gn (t':=s.toks) (r.rep k.toNat) (by rw[len_rep,Nat.mul_comm];exact hz),rfl,q _ I.fresh⟩
end
section
variable {prog:Program}{w:World}{A:Around}{E:Value->Shared->Prop}{s:Shared}
set_option maxRecDepth 100000 in
end
section
variable {X:Cx}
end
end L2
namespace Att
open PySem PySem.W PySem.Calls PyProof.Rows
theorem oK{P:Params}{h:Heap}:∀(ns:List Int) (vs:List Value),WellAll P h vs (ns.map WData.int)->IntsAre vs ns:=by
 intro ns
 induction ns with
 |nil =>
  intro vs w
  rw[List.map_nil] at w
  cases w
  exact .nil
 |cons n ns ih =>
  intro vs w
  rw[List.map_cons] at w
  cases w with
  |cons a b =>
   cases a
   exact .cons _ _ (ih _ b)
theorem A7{l:OpenLaw}{n:Nat}(hn:l.most=some n){P:Params}{h:Heap}{args:List WData}{vals:List Value}
  (hpre:l.row.toRowW.claim.pre args=true) (hwl:WellAll P h vals args) :
  ∃a vs ns,vals=[Value.ref a]/\args=[WData.list (ns.map WData.int)]/\h.get? a=some { cls:=.type "list",data:=.seq vs.toArray }/\IntsAre vs ns/\ns.length<=n:=by
 have hsh:WShape.hasAll [] args [.list .int]=true:=(pre_splitW hpre).1
 have hc:l.pre.holds [] { args:=args }=true:=(pre_splitW hpre).2
 obtain⟨d,r,rfl,h1,h2⟩:=hasAllW_cons hsh
 obtain rfl:=hasAllW_nil h2
 obtain⟨xs,rfl,h3⟩:=hasW_list h1
 obtain⟨ns,rfl⟩:=items_int h3
 have hlen:ns.length<=n:=by
  unfold OpenLaw.pre at hc
  have h4:(WTm.not (.lt (.lit (.int (n:Int))) (.len (.arg 0)))).holds [] { args:=[.list (ns.map .int)] }=true:=by
   have h4:=(holds_andW hc).1
   rw[hn] at h4
   exact h4
  have h5:=condW_of h4 (w_not (w_lt w_lit (w_len_list (w_arg rfl))))
  rw[List.length_map] at h5
  refine Nat.le_of_not_lt λq=>?_
  have q':(n:Int)<((ns.length:Nat):Int):=by lia
  first
   | (rw[decide_eq_true q'] at h5;exact absurd h5 (by decide))
   | (simp at h5;lia)
 cases hwl with
 |cons w1 w2 =>
  cases w2
  cases w1 with
  |list ho hall=>exact⟨_,_,ns,rfl,rfl,ho,oK ns _ hall,hlen⟩
theorem AQ(l:OpenLaw)(args:List WData):l.row.toRowW.claim.post args (.bool true) args=true :=
 postW_of (r:=l.row.toRowW) (X:=(true == true))
  (show WShape.has [] (.bool true) .bool=true by first | rfl | decide | simp[WShape.has,WShape.arms,WShape.armsAll])
  (show (WTm.eq .res (.lit (.bool true))).value [] { args:=args,res:=some (.bool true),after:=args }=some (.bool (true == true)) from w_eq_bool (w_res rfl) w_lit) rfl
theorem uZ{l:OpenLaw}{n:Nat}{q:Program}{loose:List Str}{XP:(Str->Option Value)->Heap->Prop}{YP:World->Heap->Prop}{d:DefRec}
  (hn:l.most=some n) (hdf:d.params.defaults=[])
  (call:∀(w:World) (s₀ s₁:Shared) (mg mb:Str->Option Value) (fa:Addr) (o:Obj) (pm cd doc:Value) (a:Addr) (vs:List Value) (ns:List Int),
   Ground q loose [] XP w s₀ mg mb s₁.heap->YP w s₁.heap ->
   s₁.heap.get? fa=some o->o.data = .func (docDef d.name d.params d.body d.scope pm cd doc)->s₁.heap.CodeRec cd d.name->mg d.name=some (.ref fa) ->
   s₁.heap.get? a=some { cls:=.type "list",data:=.seq vs.toArray }->IntsAre vs ns->ns.length<=n->s₁.gens = #[] ->
   codeAny (model l.prog w) callerA (.call (.ref fa) ⟨[.ref a],[]⟩) (λr s'=>r = .ok (.ret (.bool true))/\OldK s₁.heap s'.heap/\s'.os=s₁.os/\AllBare s'.gens) s₁) :
  WalkO q loose XP YP l.row.toRowW d [] (λf vs=>PySem.call f vs):=by
 intro w s₀ s₁ mg mb G Y fa o pm cd doc dV kV ho hd hcd hD hmg hg args vals as hpre hlay hrd hwl hlo
 obtain rfl:dV = .none:=Dflts.none hD hdf
 obtain rfl:kV = .none:=Dflts.noKw hD
 obtain⟨a,vs,ns,rfl,rfl,hobj,hints,hlen⟩:=A7 hn hpre hwl
 refine enter_call (codeAny_mono (call w s₀ s₁ mg mb fa o pm cd doc a vs ns G Y ho (fd_plain hd) hcd hmg hobj hints hlen hg) λr s' hq=>?_)
 obtain⟨rfl,h2,h3,h4⟩:=hq
 exact⟨.inl ⟨.bool true,.bool true,[],rfl,λ_=>rfl,.bool true,AQ l _,λ_=>⟨List.Pairwise.nil,λ_ hm=>(nomatch hm)⟩⟩,h2,h3,h4⟩
section
variable {prog:Program}{w:World}{A:Around}{E:Value->Shared->Prop}{s:Shared}{K:Frag}
def pZ(h:Heap):Heap:={ h with objs:=#[] }
theorem jq(h:Heap)(b:Addr):(pZ h).get? b=none:=by
 cases e:(pZ h).get? b with
 |none=>rfl
 |some o=>exact absurd (Heap.lt_size e) (Nat.not_lt_zero _)
theorem OR{h:Heap}{L:Addr}{m:Str->Option Value}(n:h.Ns L m):Fr (pZ h) L h m :=
 ⟨n,λb o e=>(by rw[jq] at e;cases e),Nat.zero_le _⟩
end
end Att
namespace L2
open PySem PySem.Spec PyProof.Rows
theorem sq:∀{vs:List Value} {ns:List Int},IntsAre vs ns->Vals (ns.map V.int) vs
 |_,_,.nil=>.nil
 |_,_,.cons n t h=>.cons ⟨t,rfl⟩ (sq h)
def Nb(H:Hp):Prop:=∀b,H b=none∨∃o xs,H b=some (.jU o (.lst xs))
theorem GR{P:Program}{w:World}{K:PySem.W.Frag}{mg mb:Str->Option Value}{CX:y9}{k:Nat}{fa a:Addr}{fd:FuncData}{x:Str}{sp:Sp}{s₁:Shared}{vs:List Value}{ns:List Int}
  (KX:K.In s₁.heap) (hns:s₁.heap.Ns mainGlobals mg) (hb:s₁.heap.Ns builtinsNs mb) (hbb:∀x:Str,x ≠ "__name__" -> mb x=bootBuiltins x) (hlim:s₁.heap.NoLimit) (hg:s₁.gens = #[])
  (ha:s₁.heap.get? a=some { cls:=.type "list",data:=.seq vs.toArray }) (hi:IntsAre vs ns) (hl:ns.length<=sizeLine) (hr:fU k callerA)
  (F:∀base:Heap,K.In base->base.Ns mainGlobals mg->aZ P w K mg base CX k fa fd [x] sp) (hbind:∀(s:Shared) (u:Value),BindsTo s fd ⟨[u],[]⟩ [(x,u)])
  (hsp:∀H:Hp,Nb H->aY K H a (ns.map V.int)->sp [.ref a] H (λv _=>v = .bl true) λ_ _ _=>False)
  (hCX:∀H e s',CX [] H s₁ (λ_ _ _=>False) e s'->False) :
  codeAny (model P w) callerA (.call (.ref fa) ⟨[.ref a],[]⟩) (λr s'=>r = .ok (.ret (.bool true))/\OldK s₁.heap s'.heap/\s'.os=s₁.os/\AllBare s'.gens) s₁:=by
 have rv:=sq hi
 have lenV:=hi.length
 have core:∀H:Hp,Nb H->aY K H a (ns.map V.int)->kT P w H s₁.heap->(∀b,H b≠none->b=a)->(H a≠none->K.lookup a=none) ->
   codeAny (model P w) callerA (.call (.ref fa) ⟨[.ref a],[]⟩) (λr s'=>r = .ok (.ret (.bool true))/\OldK s₁.heap s'.heap/\s'.os=s₁.os/\AllBare s'.gens) s₁:=by
  intro H hO hS hok hA hK
  have base_of:∀{b:Addr} {o:Obj},s₁.heap.get? b=some o->H b=none->(uo s₁.heap H).get? b=some o:=λe n=>Ge e n
  have noA:∀{b:Addr} {o:Obj} {es:Array DictEntry} {ep:Nat},s₁.heap.get? b=some o->o.data = .dict es ep->H b=none:=λ{b o es ep} e d=>by
   cases q:H b with
   |none=>rfl
   |some u =>
    have e':b=a:=hA b (by rw[q];simp)
    subst e'
    rw[ha] at e;cases e
    have d':Data.seq vs.toArray _=Data.dict es ep:=d
    cases d'
  have nsK:∀{b:Addr} {m:Str->Option Value},s₁.heap.Ns b m->(uo s₁.heap H).Ns b m:=λ{b m} ⟨o,es,ep,e,d,r⟩=>⟨o,es,ep,base_of e (noA e d),d,r⟩
  have hKb:K.In (uo s₁.heap H):=λb o e=>base_of (KX b o e) (by
   cases q:H b with
   |none=>rfl
   |some u =>
    have e':b=a:=hA b (by rw[q];simp)
    subst e'
    rw[hK (by rw[q];simp)] at e;cases e)
  have hM:Mod K mg (uo s₁.heap H):=⟨hKb,nsK hns,⟨mb,nsK hb,hbb⟩,let ⟨mc,h1,h2⟩:=hlim;⟨mc,nsK h1,h2⟩⟩
  have e0:zo P w K mg (uo s₁.heap H) callerA [] s₁ H:=⟨rfl,hM,λb o e=>HD e,Nat.le_of_eq (Bj _ _),trivial,λb hb=>absurd (show b∈([]:List Addr) from hb) (by simp),hok,.of_eq hg⟩
  refine codeAny_mono ((F _ hKb (nsK hns)).run callerA [] s₁ H ⟨[.ref a],[]⟩ [.ref a] [.ref a] _ _ hr e0 (hbind s₁ (.ref a)) (.cons rfl .nil) (hsp H hO hS)) λr s' h=>?_
  cases r with
  |error e=>exact(hCX H e s' h).elim
  |ok fl =>
   cases fl with
   |next=>exact False.elim h
   |brk=>exact False.elim h
   |cont=>exact False.elim h
   |ret u =>
    obtain⟨v,H',os,bare,un,hok',r',q⟩:=h
    have q':v = .bl true:=q
    subst q'
    obtain rfl:u=Value.bool true:=r'
    refine⟨rfl,OldK.of_keep λb o e=>?_,os,bare⟩
    cases q:H b with
    |none=>exact un.keep b o e q (by intro z;exact absurd (show b∈([]:List Addr) from z) (by simp)) (by simp)
    |some u =>
     rcases hO b with z|⟨ob,xs,z⟩
     ·rw[q] at z;cases z
     ·have z2:=un.oO b ob _ z
      obtain⟨e1,_⟩:=hok b _ z
      obtain⟨e2,_⟩:=hok' b _ z2
      rw[e] at e1;cases e1
      exact e2
 cases hk:K.lookup a with
 |some o =>
  have e:=KX a o hk
  rw[ha] at e
  cases e
  refine core (λ_=>none) (λ_=>.inl rfl) (.inr ⟨_,vs.toArray,_,hk,rfl,rfl,rfl,by rw[List.size_toArray,lenV];exact hl,by simpa using rv⟩) (λb u z=>by have z':(none:Option HO)=some u:=z;cases z') (λb z=>absurd rfl z) λz=>absurd rfl z
 |none =>
  refine core (λb=>if b=a then some (.jU { cls:=.type "list",data:=.seq vs.toArray } (.lst (ns.map V.int))) else none) (λb=>?_) (.inl (.inr ⟨{ cls:=.type "list",data:=.seq vs.toArray },if_pos rfl⟩)) (λb u z=>?_) (λb z=>?_) λ_=>hk
  ·by_cases hb:b=a
   ·exact .inr ⟨_,_,if_pos hb⟩
   ·exact .inl (if_neg hb)
  ·by_cases hb:b=a
   ·have z':=(if_pos hb).symm.trans z
    cases z'
    subst hb
    exact⟨ha,by rw[List.length_map];exact hl,vs,_,rv,ha⟩
   ·have z':=(if_neg hb).symm.trans z
    cases z'
  ·by_cases hb:b=a
   ·exact hb
   ·exact absurd (if_neg hb) z
theorem HZ{l:PySem.W.OpenLaw}{n k:Nat}{q:Program}{loose:List Str}{XP:(Str->Option Value)->Heap->Prop}{YP:World->Heap->Prop}{d:DefRec}{K:Params->PySem.W.Frag}{CX:World->y9}{sp:World->Sp}{x:Str}
  (hn:l.most=some n) (hn2:n<=sizeLine) (hdf:d.params.defaults=[]) (hr:fU k callerA)
  (hY:∀(w:World) (h:Heap),YP w h->(K w.params).In h)
  (F:∀(w:World) (mg:Str->Option Value) (fa:Addr) (h:Heap),(K w.params).In h->h.Ns mainGlobals mg->mg d.name=some (.ref fa) ->
   ∃fd:FuncData,(∀(s:Shared) (u:Value),BindsTo s fd ⟨[u],[]⟩ [(x,u)]) /\
    ∀base:Heap,(K w.params).In base->base.Ns mainGlobals mg->aZ l.prog w (K w.params) mg base (CX w) k fa fd [x] (sp w))
  (hsp:∀(w:World) (H:Hp) (a:Addr) (ns:List Int),ns.length<=n->Nb H->aY (K w.params) H a (ns.map V.int)->sp w [.ref a] H (λv _=>v = .bl true) λ_ _ _=>False)
  (hCX:∀(w:World) (H:Hp) (s:Shared) (e:Value) (s':Shared),CX w [] H s (λ_ _ _=>False) e s'->False) :
  PySem.W.WalkO q loose XP YP l.row.toRowW d [] (λf vs=>PySem.call f vs):=by
 refine Att.uZ hn hdf λw s₀ s₁ mg mb fa o pm cd doc a vs ns G Y ho hd hcd hmg hobj hints hlen hg=>?_
 have KX:=hY w _ Y
 obtain⟨fd,hb,hF⟩:=F w mg fa _ KX G.T.g hmg
 exact GR KX G.T.g G.T.b G.T.builtins G.T.nolimit hg hobj hints (Nat.le_trans hlen hn2) hr hF hb (λH hO hS=>hsp w H a ns hlen hO hS) λH e s'=>hCX w H s₁ e s'
noncomputable def inClass(s:Stmt)(j:Nat):Stmt:=match s with
 |.ClassDef _ _ _ body _ _ _ _ _ _ _=>body.getD j (.Pass ⟨0,0,0,0⟩)
 |_=>.Pass ⟨0,0,0,0⟩
def oS(s:Stmt):Arguments:=match s with
 |.FunctionDef _ a _ _ _ _ _ _ _ _=>a
 |_=>{ posonlyargs:=[],args:=[],vararg:=none,kwonlyargs:=[],kw_defaults:=[],kwarg:=none,defaults:=[] }
def mF(s:Stmt):List Stmt:=match s with
 |.FunctionDef _ _ b _ _ _ _ _ _ _=>b
 |_=>[]
def aq(s:Stmt):Scope:=match s with
 |.FunctionDef _ _ _ _ _ _ sc _ _ _=>sc
 |_=>{ kind:=.function,names:=[],isGenerator:=false,isCoroutine:=false }
abbrev c7:y9:=λ_ _ _ _ _ _=>False
abbrev E0:XK:=λ_ _ _=>False
theorem aE{X:Cx}:Passes c7 X E0:=λ_ _ _ _ _ _ _ h=>h.elim
structure cT(K:PySem.W.Frag)(x qual:Str)(st:Stmt)(f:Addr)(fd:FuncData):Prop where
 ex:∃(oc:Value) (od:Option Addr) (kV doc pm:Value) (an:Option Addr) (cdv ct:Value) (osl:Array (Option Value)),
  fd=PySem.W.fnOf x qual (oS st) (mF st) (aq st) .none kV doc pm an cdv ct/\K.lookup f=some ⟨oc,od,.func fd,osl⟩/\PySem.W.codeIn K cdv qual=true
 kp:PySem.W.keepIn K (.ref f)=true
section
variable {P:Program}{w:World}{K:PySem.W.Frag}{mg:Str->Option Value}{base:Heap}
theorem cT.ok{x qual:Str}{st:Stmt}{f:Addr}{fd:FuncData}{N ps:List Str}{k:Nat}{sp:Sp}(F:cT K x qual st f fd)(S:aA N ps (aq st))(len:∀vs H Q E,sp vs H Q E->vs.length=ps.length)
  (hbody:∀(cdv:Value) (A:Around) (outer:List Env) (s:Shared) (H:Hp) (vs:List V) (Q:VK) (E:XK),fU k (A.deeper (envOfC qual (aq st) s.heap.objs.size f cdv))->sp vs H Q E ->
   ∃t,xy (xx c7 P w K mg base N qual (aq st) f cdv A outer s H E).Us (mF st) t/\t { nx:=λ_ H'=>Q .cu H',rt:=Q } (start N vs) H):aZ P w K mg base c7 (k+1) f fd ps sp:=by
 obtain⟨oc,od,kV,doc,pm,an,cdv,ct,osl,rfl,lk,hcd⟩:=F.ex
 refine S6 lk hcd S len λA outer s H vs Q E hr hsp=>?_
 obtain⟨t,h,q⟩:=hbody cdv A outer s H vs Q E hr hsp
 exact⟨t,h.Us,q⟩
theorem cT.binds{x qual:Str}{st:Stmt}{f:Addr}{fd:FuncData}{ps:List Str}(F:cT K x qual st f fd)
  (h:∀(kV doc pm:Value) (an:Option Addr) (cdv ct:Value) (us:List Value),us.length=ps.length->bindArgs (PySem.W.fnOf x qual (oS st) (mF st) (aq st) .none kV doc pm an cdv ct) ⟨us,[]⟩=pure (ps.zip us)):Binds K fd ps []:=by
 obtain⟨oc,od,kV,doc,pm,an,cdv,ct,osl,rfl,lk,hcd⟩:=F.ex
 exact .all (h kV doc pm an cdv ct)
theorem Dw{x qual:Str}{st:Stmt}{f:Addr}{oc:Value}{od an:Option Addr}{osl:Array (Option Value)}{kV doc pm cdv ct:Value}(l:K.lookup f=some ⟨oc,od,.func (PySem.W.fnOf x qual (oS st) (mF st) (aq st) .none kV doc pm an cdv ct),osl⟩)
  (c:PySem.W.codeIn K cdv qual=true) (k:PySem.W.keepIn K (.ref f)=true):cT K x qual st f (PySem.W.fnOf x qual (oS st) (mF st) (aq st) .none kV doc pm an cdv ct):=⟨⟨oc,od,kV,doc,pm,an,cdv,ct,osl,rfl,l,c⟩,k⟩
end
theorem pF{A:Around}{k:Nat}(hr:fU k A):A.units+1<cLine:=Nat.lt_of_le_of_lt (Nat.add_le_add_left (by decide:1<=64) _) hr.units
section
variable {X:Cx}
theorem pv (i:Nat) {x:Str} {pos:Pos} (hN:autoParam (X.N[i]?=some x) L2.Y3._auto_1) (hv:Up X.env.scope x:=by first | exact Or.inl rfl | exact Or.inr (Or.inl rfl) | exact Or.inr (Or.inr rfl)) (hd:autoParam ((x == ("__debug__" : Str))=false) L2.Y1._auto_1)
  (hcd:autoParam ((x == ("__classdict__" : Str))=false) L2.Y1._auto_1):PE X (.Name x pos) (HE i):=Ro hN hv hd hcd
end
theorem kj{A B:Prop}(h:B):if false=true then A else B:=by
 rw[if_neg Bool.false_ne_true]
 exact h
theorem u6{A B:Prop}(h:A):if true=true then A else B:=by
 rw[if_pos rfl]
 exact h
def ao(H H':Hp):Prop:=∀b o,H b=some o->H' b=some o
theorem ao.refl(H:Hp):ao H H:=λ_ _ h=>h
theorem ao.trans{H H1 H2:Hp}(a:ao H H1)(b:ao H1 H2):ao H H2:=λc o h=>b c o (a c o h)
theorem ao.free{H H':Hp}(e:ao H H'){l:Addr}(h:H' l=Option.none):H l=Option.none:=by
 cases q:H l with
 |none=>rfl
 |some o =>
  rw[e l o q] at h
  cases h
theorem ao.seq{K:PySem.W.Frag}{H H':Hp}{a:Addr}{xs:List V}(e:ao H H')(h:aY K H a xs):aY K H' a xs:=by
 rcases h with (h|⟨o,h⟩)|h
 ·exact .inl (.inl (e _ _ h))
 ·exact .inl (.inr ⟨o,e _ _ h⟩)
 ·exact .inr h
end L2
set_option maxHeartbeats 4000000
namespace PySem.W.Fast
def tw9784299131856175335:=0
def tw4670036818264570648:=0
def tw5662283514131561339:=0
def tw16082313775570386113:=0
def tw14728109514702661424:=0
def tw11344352228190181722:=0
def tw3582730363391063412:=0
def tw2195101596799824497:=0
def tw8180607510112406516:=0
def tw8182638382037297224:=0
def tw13473007615069782663:=0
def tw8588268069811655892:=0
def tw4317647249065077652:=0
def tw14150031041263795157:=0
def tw18040542207384691919:=0
def tw14477422389848546226:=0
def tw2707706065988483864:=0
def tw11346087900416465359:=0
def tw4768374861563949983:=0
def tw16002165440375468284:=0
def tw17902673904258131375:=0
def tw17303526753488867892:=0
def tw10062519337940415385:=0
def tw1294449362286090986:=0
def tw9105782065613199811:=0
def tw276211649187510471:=0
def tw5089792686849962069:=0
def tw13788139026467474501:=0
def tw13345575111033721428:=0
def tw8680999257947235549:=0
def tw17129824116732735141:=0
def tw14472248537737388595:=0
def tw6753279232305809219:=0
def tw18185765929057336463:=0
def tw10533371401694966525:=0
def tw5369147618965082366:=0
def tw510975711649235138:=0
def tw17216578966581383686:=0
def tw501850397668127552:=0
def tw7877619659059667975:=0
def tw1297797891722403763:=0
def tw165895346146306365:=0
def tw10051948446884084190:=0
def tw6868035938129099122:=0
def tw6680994992745320278:=0
def tw14908760432506776280:=0
def tw5589821247008546677:=0
def tw1636732629019214481:=0
def tw17857423971043648772:=0
def tw4477832068301581243:=0
def tw11208944900893097869:=0
def tw2546855744291800889:=0
def tw274136419472830307:=0
def tw6562491897938668456:=0
def tw17580808115994994:=0
def tw2766537301858354696:=0
def tw11969420625082870008:=0
def tw2829214293487515014:=0
def tw9723020377613000170:=0
def tw10592393340912208864:=0
def tw7351349090442238214:=0
def tw11700854425302637766:=0
def tw14607585893225443004:=0
def tw14082433867860545113:=0
def tw13573133061886076831:=0
def tw7669373465253036500:=0
def tw7793525784477515557:=0
def tw10936718790657788960:=0
def tw557886710587123631:=0
def tw4575575228670681747:=0
def tw6004945119120254901:=0
def tw15757369914179513331:=0
def tw2799471363872217861:=0
def tw5242013255212874127:=0
def tw6056830427754186736:=0
def tw9222264888740462504:=0
def tw14095488062529790555:=0
def tw359468927009636086:=0
def tw4046760053945657905:=0
def tw9781344922472236432:=0
def tw13330637246627137898:=0
def tw3192158295512563225:=0
def tw14844010358390976981:=0
def tw17372103162929708454:=0
def tw11669878067580840122:=0
def tw13238787554869886614:=0
def tw11784737624090689955:=0
def tw3839708300191268307:=0
def tw2818544339347510788:=0
def tw14945903779951404717:=0
def tw1237005770218391156:=0
def tw3781906030261424908:=0
def tw14867569977317868005:=0
def tw10323620079480686661:=0
def tw10892595363895799980:=0
def tw7161644933364795184:=0
def tw8292494418723187088:=0
def tw7494497077825839082:=0
def tw1772342075417921041:=0
def tw13406617688378557956:=0
def tw12551901862986137972:=0
def tw13170182222322538639:=0
def tw3268988148332469284:=0
def tw11173375197486275832:=0
def tw1311354591275464552:=0
def tw17203479250931511268:=0
def tw378992078231691337:=0
def tw7088317528406839842:=0
def tw17711129292267099675:=0
def tw12464334193199083362:=0
def tw8634017696437864318:=0
def tw5698311680752194615:=0
def tw12246052152944831687:=0
def tw3589602199445605847:=0
def tw17890481711675547941:=0
def tw1692143462723553563:=0
def tw9803360841400664596:=0
def tw8639282577292155140:=0
def tw6832949743361614242:=0
def tw3632238915991250658:=0
def tw17245600749070342574:=0
def tw16090805900788207804:=0
def tw920838775036049565:=0
def tw17243433624001789398:=0
def tw7896304251787944562:=0
def tw17623861389409886371:=0
def tw3140377097814339534:=0
def tw931839694859137419:=0
def tw6290417676057549380:=0
def tw13500498170670912663:=0
def tw9221003426419633740:=0
def tw4790155017511009177:=0
def tw15854780269811030843:=0
def tw8313111881076377702:=0
def tw13331827185414227603:=0
def tw7993060040083993002:=0
def tw14987548584775143841:=0
def tw9212289889435076957:=0
def tw1118975502114251074:=0
def tw10561090086960943438:=0
def tw11265267597228043016:=0
def tw1196753679361274119:=0
def tw16807275932118437958:=0
def tw11278772676873159653:=0
def tw14945621384590761872:=0
def tw229077221890433564:=0
def tw15706245113425563397:=0
def tw17263268219411692984:=0
def tw15692609021928775965:=0
def tw16305676875731886252:=0
def tw11180193271076408688:=0
def tw6183241404243613331:=0
def tw7233474957985093641:=0
def tw17055012659730565578:=0
def tw15029927086203129122:=0
def tw195252347487812340:=0
def tw12028181682554290200:=0
def tw2971582405755013932:=0
def tw5418261262294346292:=0
def tw11751983378941907538:=0
def tw16624688830046040453:=0
def tw12250286955148224121:=0
def tw5064666962809249080:=0
def tw16691613969265844672:=0
def tw14530183573952312254:=0
def tw309723209351009455:=0
def tw10105380030850673450:=0
def tw13019574892454763399:=0
def tw14649805619633241119:=0
def tw7782161515775729881:=0
def tw12295624958950906229:=0
def tw15905108453623310181:=0
def tw5977042674062078090:=0
def tw13326152377320157858:=0
def tw8124710250089490105:=0
def tw13362965461264242929:=0
def tw13557959987168945287:=0
def tw895681777148204955:=0
def tw7725196039440314271:=0
def tw1613344112706880718:=0
def tw10926393513628584507:=0
def tw10799810833737007417:=0
def tw1220100292718176895:=0
def tw6204413431140653810:=0
def tw3669234990090669199:=0
def tw12544715220562883008:=0
def tw201370779800302758:=0
def tw13796968018281332978:=0
def tw6497634431482966257:=0
def tw11348498287120283250:=0
def tw8026112876367761263:=0
def tw9115359929743329021:=0
def tw535868776347770047:=0
def tw64578798931909385:=0
def tw481436224650326969:=0
def tw7534812753890321316:=0
def tw801221319551508791:=0
def tw9296456892726126252:=0
def tw3474510329243566037:=0
def tw17243979573086510290:=0
def tw2590703959258081066:=0
def tw321072587711402192:=0
def tw10965802661294102709:=0
def tw16786934784387614238:=0
def tw6631573475298964313:=0
def tw13929499291646730926:=0
def tw17783469948360234308:=0
def tw10741391640669622725:=0
def tw17717247999321897125:=0
def tw5126894004377685575:=0
def tw3100429982588433595:=0
def tw16529265512696230672:=0
def tw4312150375717671824:=0
def tw5235767134543234832:=0
def tw4192561807582975993:=0
def tw17853857475460193295:=0
def tw715506295700386157:=0
def tw11065384727246245038:=0
def tw11158113113174822914:=0
def tw12318672319146880041:=0
def tw11555235261312118708:=0
def tw17411028216849520146:=0
def tw2226040195156113241:=0
def tw6981686091105485575:=0
def tw6488256661628114090:=0
def tw5120173695505847009:=0
def tw14468775591205072075:=0
def tw5000571097505373642:=0
def tw11115008553441729549:=0
def tw543192242540157037:=0
def tw18262940080707362492:=0
def tw8635008366650221795:=0
def tw4248513095581328356:=0
def tw12929562058600381266:=0
def tw9172732014049968296:=0
def tw9077940137064880369:=0
def tw2695172156509511688:=0
def tw11348676425616489154:=0
def tw253268674187069487:=0
def tw3984176685254410629:=0
def tw2274153551270782707:=0
def tw3870297120143041765:=0
def tw3691630708415311771:=0
def tw6377339116027093971:=0
def tw14884726378129358886:=0
def tw8693538849941335512:=0
def tw45550902762257054:=0
def tw9984870725782947090:=0
def tw2198990658962751258:=0
def tw3587078617961938189:=0
def tw855394807805206745:=0
def tw13098795179186480703:=0
def tw12879994293076683281:=0
def tw8584867712454236966:=0
def tw10111989136889758154:=0
def tw14453392917327628714:=0
def tw4376679713113688647:=0
def tw8924935575437781850:=0
def tw16916378587603543275:=0
def tw6795546953411971253:=0
def tw9065120265240984007:=0
def tw12260779424890777819:=0
def tw13186521220267949064:=0
def tw15735136419348820441:=0
def tw21660693105023385:=0
def tw14749428737356937989:=0
def tw13413683592176879558:=0
def tw1225140638173437350:=0
def tw8456274498235613220:=0
def tw13674634371445802787:=0
def tw7418649742620979887:=0
def tw11079927564282560963:=0
def tw7598574778998956130:=0
def tw12152985970070236680:=0
def tw17141955913632078514:=0
def tw17042339576234243374:=0
def tw11341749958673150666:=0
def tw18038523039291926048:=0
def tw7483906004202577137:=0
def tw5338092675545971477:=0
def tw5114433191705907334:=0
def tw7338868323554297389:=0
def tw7283533709917431404:=0
def tw7104776562337121143:=0
def tw8549641669535129692:=0
def tw13302477415896396587:=0
def tw166729207339330839:=0
def tw609190011180359710:=0
def tw1535302249969895779:=0
def tw16800785298069864659:=0
def tw5321307613549360234:=0
def tw3161675365193449213:=0
def tw5753055885064645368:=0
def tw7456877655728924321:=0
def tw15904188473861032793:=0
def tw1503801796418054414:=0
def tw9173562645901781389:=0
def tw16613566220286694860:=0
def tw16681079061753842827:=0
def tw5454508834896229165:=0
def tw13371572967156737635:=0
def tw468372381172758004:=0
def tw15558854223782619789:=0
def tw10699394255880923761:=0
def tw716573885211895836:=0
def tw1218021725813614327:=0
def tw15236875825833132068:=0
def tw16158316512856484637:=0
def tw14297115185871426977:=0
def tw13316090984544572708:=0
def tw5780817875959794226:=0
def tw14381564089597965394:=0
def tw4854073022273907781:=0
def tw869743470536192131:=0
def tw7331092770347285707:=0
def tw15692545820926907159:=0
def tw7347535405985971430:=0
def tw15296626665589400442:=0
def tw9873306692230440901:=0
def tw7309860184366834988:=0
def tw2100156039121432521:=0
def tw7467719578380676300:=0
def tw11474036711047802233:=0
def tw16393940280672784362:=0
def tw13741261971153365399:=0
def tw15233534796039696455:=0
def tw8087113679811775471:=0
def tw11227511868848508946:=0
def tw11577704852039923505:=0
def tw2622262218012824620:=0
def tw13864803325301127525:=0
def tw10967129186952869833:=0
def tw6186687818414247749:=0
def tw13087196928561889463:=0
def tw3524140575431008713:=0
def tw9410100873855675270:=0
def tw7494599007534699524:=0
def tw7937266447546089885:=0
def tw15151477970349324824:=0
def tw16521963414654551241:=0
def tw10807696847791439737:=0
def tw15351018812083125412:=0
def tw3070180636798242307:=0
def tw374874322508652578:=0
def tw17545896019210929403:=0
def tw11259645324034373796:=0
def tw2941928614623427164:=0
def tw15032374217573547854:=0
def tw2684070687075871688:=0
def tw7187569102200226715:=0
def tw11237395091957366341:=0
def tw15441926020696619915:=0
def tw15752241294093159109:=0
def tw2136013861596336153:=0
def tw13897324850105782018:=0
def tw10072072207094806292:=0
def tw14794742749729912771:=0
def tw14258140090093770115:=0
def tw17341804744747957645:=0
def tw446641185946445685:=0
def tw4590196133630797648:=0
def tw1886934030735092171:=0
def tw10029062690179824643:=0
def tw9572148205258883136:=0
def tw11719763551254825701:=0
def tw13571552618326505102:=0
def tw12904877347869529971:=0
def tw12950441156395223916:=0
def tw12994660896595735421:=0
def tw4273345771410946154:=0
def tw14711936871186440588:=0
def tw14389057639099006899:=0
def tw9063813501361377695:=0
def tw7176821089333070205:=0
def tw16987309108504533187:=0
def tw7974845443659830972:=0
def tw3028360263545489928:=0
def tw14419675992189060771:=0
def tw15783468183021293258:=0
def tw13566238581081943326:=0
def tw9816929521855088703:=0
def tw226349273855878430:=0
def tw15584114556387719100:=0
def tw1077195796970387216:=0
def tw14032812387715242088:=0
def tw2791891054260071345:=0
def tw7268090426212367418:=0
def tw10413951200408699104:=0
def tw4200225753121959442:=0
def tw13334399607545482486:=0
def tw1351129049167207044:=0
def tw5746027205680161011:=0
def tw8500065836741841957:=0
def tw5834859380462149933:=0
def tw11295058863586651842:=0
def tw2117723926074023640:=0
def tw8930727696959604396:=0
def tw7279675745165370966:=0
def tw2095986082237523236:=0
def tw15817452623589499073:=0
def tw4467012613674887234:=0
def tw11270783563486142251:=0
def tw17953972662158726867:=0
def tw17582518426159057281:=0
def tw1891696919191214846:=0
def tw6045289815860772830:=0
def tw14407084951999063979:=0
def tw4472678078612863963:=0
def tw13035579354170905598:=0
def tw3807159019221996340:=0
def tw17427222770596159615:=0
def tw8902097688181248844:=0
def tw9600928557814957995:=0
def tw2500261512303587386:=0
def tw16758905387323552093:=0
def tw6521326501576799627:=0
def tw7271679866759639199:=0
def tw10944882177800746731:=0
def tw1510286996908705269:=0
def tw11969979246309980945:=0
def tw3348780387601322704:=0
def tw16922672341240897445:=0
def tw6291935452625113395:=0
def tw4362392255169482576:=0
def tw2850124113762384369:=0
def tw18217537446702350755:=0
def tw1032512755084427582:=0
def tw18165572134002678365:=0
def tw15024171323788299878:=0
def tw9844000399876978864:=0
def tw14016238416099748437:=0
def tw7912105082315203826:=0
def tw17777180874381658090:=0
def tw2269274654307214020:=0
def tw6386500031021987178:=0
def tw6082189150487899043:=0
def tw13573721047017890484:=0
def tw12235458396661323830:=0
def tw15408112236491938662:=0
def tw14310062292662300717:=0
def tw17918806618976034463:=0
def tw9534852482977877188:=0
def tw11306481505579784219:=0
def tw12563597471621426279:=0
def tw2877849852733594343:=0
def tw2780603612689242148:=0
def tw17676775646462097738:=0
def tw17638586187554222855:=0
def tw13297921584856747324:=0
def tw13707876483794466638:=0
def tw13603738217581119944:=0
def tw9595840150862017775:=0
def tw16380816848144575518:=0
def tw16050518912652567843:=0
def tw5128253006955318811:=0
def tw5134135624134287618:=0
def tw6571740625530171645:=0
def tw15887688808448611151:=0
def tw15272869763379330676:=0
def tw11120478565070194903:=0
def tw15336845121388593571:=0
def tw17275061680058053896:=0
def tw3701948599372609233:=0
def tw16259458397188174777:=0
def tw7563296153650327322:=0
def tw12846495797191317313:=0
def tw3523373976726952871:=0
def tw3442222079725079670:=0
def tw18275371266595397687:=0
def tw5413647515380416085:=0
def tw10622480804812874693:=0
def tw8299030970110934851:=0
def tw9312788565932604589:=0
def tw7837985363450035878:=0
def tw18023609271993425573:=0
def tw7932777966508950272:=0
def tw10392507788815217660:=0
def tw11017154984785523595:=0
def tw12686651773349151551:=0
def tw2010464303608824340:=0
def tw16138878327843913107:=0
def tw4579896693789595453:=0
def tw10040279859852379005:=0
def tw18284602829258392287:=0
def tw9081146312893718380:=0
def tw13809759850723707312:=0
def tw3332143746237630541:=0
def tw7535007329986820146:=0
def tw5454818956181684481:=0
def tw2805855735080340426:=0
def tw14058779362223404579:=0
def tw10827386280181967984:=0
def tw7935102712191503079:=0
def tw3677718975626687332:=0
def tw16963142078018553468:=0
def tw3525452092232266883:=0
def tw14648001754752015274:=0
def tw525281026273095611:=0
def tw14993013903557261017:=0
def tw7251576400312824885:=0
def tw18344874749112414030:=0
def tw17750051867080403949:=0
def tw9945290798172427128:=0
def tw8675267829746270010:=0
def tw9626511637577732045:=0
def tw597701130491884234:=0
def tw3663367019563006224:=0
def tw6098877772548834113:=0
def tw17102056110773984128:=0
def tw14158226369109306841:=0
def tw3161764714446380863:=0
def tw13219890808269059743:=0
def tw9055065468944798038:=0
def tw14743363626512030110:=0
def tw1044669100845519698:=0
def tw2407571006656475732:=0
def tw9930381145411783275:=0
def tw12398863872090712138:=0
def tw14403345528894214376:=0
def tw14539094047253368606:=0
def tw6254056630196450785:=0
def tw3024149808846031567:=0
def tw3965328359755798493:=0
def tw2200859772933767709:=0
def tw16715247024634478360:=0
def tw13527786345805034368:=0
def tw16846015850559337589:=0
def tw11477701276373903911:=0
def tw9779386556768720767:=0
def tw15182030403508054747:=0
def tw8153495901834361055:=0
def tw11228995274355951264:=0
def tw5922493777596514310:=0
def tw8082567176636667457:=0
def tw12945779423055372889:=0
def tw14254593921858004306:=0
def tw1663529422066066748:=0
def tw13779882100506820987:=0
def tw15811003549374747496:=0
def tw1828156007704529670:=0
def tw596869412641700212:=0
def tw16667758923748313379:=0
def tw8446049079329638144:=0
def tw14189692974251522612:=0
def tw7437477892313185052:=0
def tw16525341948178641122:=0
def tw5788883454668926526:=0
def tw1817374127990416460:=0
def tw14863710398840565593:=0
def tw10504380505806143061:=0
def tw13601466675351024649:=0
def tw15044651992075391715:=0
def tw9014330033477365839:=0
def tw1058115292015482705:=0
def tw6167545584771095961:=0
def tw18310930987880690989:=0
def tw3589846381750571612:=0
def tw12385437680947109522:=0
def tw383579362532410131:=0
def tw8867504981985278841:=0
def tw7500964263701111992:=0
def tw3125841089491187763:=0
def tw14476268630614353368:=0
def tw7943207877973349851:=0
def tw7793283037354356519:=0
def tw5833849333231035665:=0
def tw5161467698460610161:=0
def tw15122815567837640778:=0
def tw3530995298082516732:=0
def tw13907437111668671674:=0
def tw6925073503338236863:=0
def tw8886601136918098727:=0
def tw17956666075740947452:=0
def tw1626011895026776499:=0
def tw2592721608352843795:=0
def tw15088501803251390610:=0
def tw13374077212361040301:=0
def tw16925686783317297208:=0
def tw17749461281350450801:=0
def tw9791369174251309682:=0
def tw14713485457633369495:=0
def tw12264308712000000355:=0
def tw11898831080011380544:=0
def tw3386870745263395025:=0
def tw14164370093912525509:=0
def tw16523972069319268098:=0
def tw4181907340684096517:=0
def tw9426247668775006231:=0
def tw18058233237677694739:=0
def tw3582301223835127318:=0
def tw8839115325566491895:=0
def tw3065335248064976169:=0
def tw17776293572206988450:=0
def tw9467220890849442145:=0
def tw12903109190881086862:=0
def tw5341300118757543789:=0
def tw4872607465799288633:=0
def tw4513062432505116894:=0
def tw83457561863691485:=0
def tw16722840881887544234:=0
def tw4013353878645352947:=0
def tw17442044829223180226:=0
def tw15749498169019314932:=0
def tw7010691141451148393:=0
def tw12259777180640227141:=0
def tw4893589607403642884:=0
def tw6798874753379739321:=0
def tw16645996345682776802:=0
def tw12041406018534645228:=0
def tw16739481069307974662:=0
def tw14505958715434384644:=0
def tw7378699676866640775:=0
def tw696781600426861836:=0
def tw15996244529246147850:=0
def tw8516660982602161637:=0
def tw7806087963322743504:=0
def tw13991832295771965231:=0
def tw641608592377204912:=0
def tw9489972106611057977:=0
def tw15426054270879251826:=0
def tw7432173998544906238:=0
def tw11716612031707741795:=0
def tw16787181802867497880:=0
def tw9880722390645195248:=0
def tw6502039216098632155:=0
def tw10941848419190610358:=0
def tw17150506690746623205:=0
def tw12606910094201217476:=0
def tw14930220381670734613:=0
def tw17975837419519084682:=0
def tw5813543216394321498:=0
def tw12100726894869770839:=0
def tw13147575557097296485:=0
def tw5239686589645166876:=0
def tw7009908454087170675:=0
def tw14809687567799843913:=0
def tw7192498636198845988:=0
def tw9178787154414211019:=0
def tw9297542067288367667:=0
def tw9218566658180319867:=0
def tw3977673337844077822:=0
def tw14397206913542690303:=0
def tw1996367417262710388:=0
def tw10963231982090314094:=0
def tw9029935264908416154:=0
def tw10334176291357583728:=0
def tw11977858963079048729:=0
def tw5691223432172737347:=0
def tw13849331984599301489:=0
def tw8874832162298105672:=0
def tw14634543987188880624:=0
def tw943838026666821194:=0
def tw1817702571901055009:=0
def tw8219296741771844963:=0
def tw2628506633812375581:=0
def tw12679663155476550713:=0
def tw6508090631995297492:=0
def tw15832970586951468525:=0
def tw1122609239715306708:=0
def tw7480407455200059966:=0
def tw1249164392047019712:=0
def tw2579620468221176160:=0
def tw6748510680327888224:=0
def tw10763804777057855789:=0
def tw3453052883521667469:=0
def tw1952110538583768704:=0
def tw5374842258458625797:=0
def tw9309455959060351411:=0
def tw10404602965351965795:=0
def tw15831704322985695639:=0
def tw6067575329580728769:=0
def tw2374689099834080593:=0
def tw3025350197934699173:=0
def tw7634475354421503273:=0
def tw17300985681817022054:=0
def tw5884591468281239802:=0
def tw12274645714252006953:=0
def tw4428037815578637678:=0
def tw425204630278822859:=0
def tw4915331689482933195:=0
def tw11068834075762702878:=0
def tw14472286135448405750:=0
def tw11238391453053864373:=0
def tw17794515649623932147:=0
def tw6941225583983011898:=0
def tw8098672522983640679:=0
def tw5890259160662827809:=0
def tw1564393084699057128:=0
def tw7860007216296130961:=0
def tw2841533813043904868:=0
def tw17151070798423092279:=0
def tw12494717690580637678:=0
def tw11962154016196397775:=0
def tw2634936236341038544:=0
def tw9283550779648621610:=0
def tw6640819426504295480:=0
def tw9984799423379269056:=0
def tw7270122911095307193:=0
def tw11213301295805301349:=0
def tw10070389435480312054:=0
def tw12729050317983846736:=0
def tw4025756006290224012:=0
def tw13145541652725426507:=0
def tw4482892035992087510:=0
def tw12159989881274828768:=0
def tw2693486356890018356:=0
def tw14542587987744621938:=0
def tw4443333930809790886:=0
def tw12713074103875568282:=0
def tw3414517754651363662:=0
def tw5130040276515727980:=0
def tw8796559631811080716:=0
def tw13435682997520249651:=0
def tw14038913609654969793:=0
def tw15020224328668235205:=0
def tw6434704633946642383:=0
def tw11240646195485991709:=0
def tw11410317301007822626:=0
def tw5645563031325093840:=0
def tw13510060835449342146:=0
def tw9337651074002498652:=0
def tw10596556294492210119:=0
def tw9070086256779099029:=0
def tw13929133029215991904:=0
def tw7817075660771426098:=0
def tw12036498549571978091:=0
def tw4685021497664702044:=0
def tw10836466339640524645:=0
def tw9831920523490250883:=0
def tw14352626538092580239:=0
def tw14849085893140574734:=0
def tw3314405534481634539:=0
def tw13984339614945065388:=0
def tw297155114367288626:=0
def tw12467257243782080646:=0
def tw11442600098316534428:=0
def tw7580696371817111668:=0
def tw12161795715803514501:=0
def tw8864480996716738131:=0
def tw16502917281852956976:=0
def tw8802182294146017530:=0
def tw6958194299872660937:=0
def tw13260855512113819310:=0
def tw4593420038178410477:=0
def tw7313191406932193803:=0
def tw8100879753463386650:=0
def tw2573668210750933805:=0
def tw6945128888581594611:=0
def tw7959470165802414553:=0
def tw10261661842287397315:=0
def tw15211912760383862213:=0
def tw10429186573997912171:=0
def tw13044954673797610958:=0
def tw12495614394633281383:=0
def tw16148759945715172036:=0
def tw3264868778955333040:=0
def tw10321077630799137509:=0
def tw8682245296864714830:=0
def tw7083683144739525547:=0
def tw7537494549526971102:=0
def tw10615954614563259476:=0
def tw2732932601369982144:=0
def tw14883390138309353377:=0
def tw8336440970793387606:=0
def tw14769252024487515908:=0
def tw15636025327187854774:=0
def tw3055104228478606327:=0
def tw12176206569056763119:=0
def tw7566171686816171229:=0
def tw264079626012585912:=0
def tw1737720180362413236:=0
def tw13739754526777055871:=0
def tw12526876295769346477:=0
def tw4658298917358910636:=0
def tw10251316166978184288:=0
def tw10081341672651386164:=0
def tw1238611992488369821:=0
def tw15127152780930679899:=0
def tw17699037649144844155:=0
def tw2715043839306443952:=0
def tw6539849726622909640:=0
def tw15002622686831955612:=0
def tw16408236522718010835:=0
def tw6240362197042691251:=0
def tw11565826588134804592:=0
def tw5073017837035152333:=0
def tw4176488103604443101:=0
def tw5327961573211104001:=0
def tw2647954991924844266:=0
def tw15075891412659409683:=0
def tw7480258127513005293:=0
def tw10830305910779131162:=0
def tw5880574747402165851:=0
def tw7487234034241028103:=0
def tw418873216202693991:=0
def tw694968417130436995:=0
def tw17778302515915366333:=0
def tw3256826532703184122:=0
def tw9475353861150217428:=0
def tw11251207667588209079:=0
def tw10487926441678477463:=0
def tw9439735036699324012:=0
def tw12077533384959770716:=0
def tw10615460860800451050:=0
def tw11139506649868987848:=0
def tw4816009606371757550:=0
def tw17934747231016457120:=0
def tw17165279419248921492:=0
def tw1344093851836368274:=0
def tw10297884790131864838:=0
def tw5197858526694062405:=0
def tw805911559783727111:=0
def tw14164172588016474130:=0
def tw17585892124221775438:=0
def tw6443947163956995815:=0
def tw11412527463148612476:=0
def tw2657573763481061599:=0
def tw6785445037792445104:=0
def tw1984358691001678141:=0
def tw9546836175599088779:=0
def tw4972658061704476380:=0
def tw2302681701029036719:=0
def tw2862934070096021912:=0
def tw9145253577287629740:=0
def tw14377226319994051940:=0
def tw14741279453512938806:=0
def tw9448358820606135382:=0
def tw9954419987313604775:=0
def tw17813552056724256779:=0
def tw6018021954062430110:=0
def tw13602975061259432513:=0
def tw5664152016728133233:=0
def tw11960995253838413179:=0
def tw7478844276890661557:=0
def tw2625282867813494124:=0
def tw11827156836107964450:=0
def tw11830100027178477920:=0
def tw2598542829140903007:=0
def tw14297419395696382732:=0
def tw14497219674380067045:=0
def tw11820644529986686296:=0
def tw9975358907216975119:=0
def tw7250369146059947593:=0
def tw531262858978476443:=0
def tw12110154917906775262:=0
def tw11812133949047783028:=0
def tw14769150249335396185:=0
def tw3259075649023767871:=0
def tw7555858061289829056:=0
def tw9099074554194001862:=0
def tw12827841741733078916:=0
def tw3744482995362172696:=0
def tw2624730654496478242:=0
def tw2940312703186671297:=0
def tw15867952194804851515:=0
def tw11345701364632626041:=0
def tw9154917695517284659:=0
def tw4600348402838093807:=0
def tw3488333538252779959:=0
def tw11600991998895631446:=0
def tw16864606278275158976:=0
def tw5477044148269651728:=0
def tw13918573133945502929:=0
def tw541209987176083505:=0
def tw14392264161317365395:=0
def tw6131522157109862524:=0
def tw7927185742570115397:=0
def tw16396479841135455888:=0
def tw2667620267823229238:=0
def tw11667813772917652215:=0
def tw2820530000832101170:=0
def tw10380639463438049707:=0
def tw6918044948951242214:=0
def tw4583151180049907203:=0
def tw17339601603395354581:=0
def tw10607401169990252144:=0
def tw2112466806660274299:=0
def tw7167662312936734658:=0
def tw8081474174517170510:=0
def tw15551250166827428448:=0
def tw1848627919608680390:=0
def tw2498960190333705603:=0
def tw1176118968357707405:=0
def tw17528161681847197691:=0
def tw9551070156257918824:=0
def tw16502479350834594670:=0
def tw11722286354797191586:=0
def tw3966268721474875843:=0
def tw6231601034059833564:=0
def tw4674122593295669691:=0
def tw5851315960509159811:=0
def tw17864980384993427746:=0
def tw17519072390706289466:=0
def tw16832040797930695180:=0
def tw16331519511224931287:=0
def tw15575108887884524336:=0
def tw17527474277741262096:=0
def tw12902020600336389796:=0
def tw3012071720349696817:=0
def tw15642388942538166805:=0
def tw6500269080062847058:=0
def tw13216458813290646243:=0
def tw8028526672321657598:=0
def tw17091493400025056292:=0
def tw10147326803593551406:=0
def tw8489939392834700306:=0
def tw6621010045145938352:=0
def tw13109157134330313621:=0
def tw8408971132146297453:=0
def tw5290537611929415014:=0
def tw5908563397042817478:=0
def tw4067501168728373735:=0
def tw9438997976749392640:=0
def tw7269820477106408714:=0
def tw3463269343642043205:=0
def tw13567910856482384743:=0
def tw18085798668308647659:=0
def tw17238720419490047746:=0
def tw13795313118737107004:=0
def tw9313372659499140703:=0
def tw12202494771646482265:=0
def tw3922808281168724450:=0
def tw13393782986757246654:=0
def tw12057499320663754940:=0
def tw15583368135526966851:=0
def tw130854101856430531:=0
def tw10059337907760871827:=0
def tw7753004343236587474:=0
def tw6773376578600883083:=0
def tw10381522097459262501:=0
def tw5923992751445957948:=0
def tw14850308195621895490:=0
def tw6966099947123626443:=0
def tw13647167703229131045:=0
def tw14649222911675654580:=0
def tw14874490991286964933:=0
def tw379554904625768288:=0
def tw3650610506113554627:=0
def tw1853173259403957951:=0
def tw12394767343909411765:=0
def tw2145961056784520790:=0
def tw4152386386981574949:=0
def tw14461899953964444798:=0
def tw14675850675634911033:=0
def tw3866942988923603980:=0
def tw1476121039612957189:=0
def tw6785020559416700985:=0
def tw7442098524180788614:=0
def tw16043966659280000828:=0
def tw11993088327565826663:=0
def tw13422179734782186213:=0
def tw1914504316788107297:=0
def tw11498569992066580620:=0
def tw6653448921021921041:=0
def tw6023808619078467582:=0
def tw3728930801764550108:=0
def tw10033446154212810788:=0
def tw4916113138782681440:=0
def tw1668066288626508886:=0
def tw8561540914651343055:=0
def tw11978748736211215751:=0
def tw10793178358495246008:=0
def tw1859607532667608205:=0
def tw13308530933402112323:=0
def tw16068304688936069476:=0
def tw2377374710512597211:=0
def tw7805442594862944797:=0
def tw4679546350607898170:=0
def tw3990667513224263576:=0
def tw4195502811520956096:=0
def tw195181555120054662:=0
def tw17133661283923817641:=0
def tw1642551128752223394:=0
def tw17109104490050715635:=0
def tw9323852479545562250:=0
def tw821939275791206333:=0
def tw10238195072975348111:=0
def tw13966775617257649456:=0
def tw11198570553872793859:=0
def tw3630377404873244502:=0
def tw2250779033741847539:=0
def tw8060707856530731289:=0
def tw7491127758404859750:=0
def tw7470591208905642076:=0
def tw910877108482147212:=0
def tw15307824340706634322:=0
def tw3446011106111450706:=0
def tw7042650910941266708:=0
def tw14028726666138396718:=0
def tw13579716417747145305:=0
def tw12165319928177795035:=0
def tw3269033585176845057:=0
def tw17791811697482116013:=0
def tw12952679145946732976:=0
def tw5780279783890232826:=0
def tw14719544669794233357:=0
def tw7065396826874707618:=0
def tw3391935691196758415:=0
def tw12099129248348607253:=0
def tw13018012531908797175:=0
def tw6330672427236256741:=0
def tw16544188265574008382:=0
def tw7631066390984189685:=0
def tw4333504841293708626:=0
def tw17189479156160168246:=0
def tw2365938203345054336:=0
def tw3935359037683623690:=0
def tw18347470403951966385:=0
def tw2509335119066033229:=0
def tw17343795641714356017:=0
def tw706408910235558163:=0
def tw12350572244540565881:=0
def tw7604828159239232313:=0
def tw15987048270329156468:=0
def tw4668443200491418982:=0
def tw11404694686454118152:=0
def tw896318619734735700:=0
def tw14503786415338188632:=0
def tw6102167901446711107:=0
def tw12114473007304878334:=0
def tw10505485344817299127:=0
def tw9909055659970103256:=0
def tw8349431208327804318:=0
def tw18411832541320720193:=0
def tw615011736979788739:=0
def tw18049742326675241392:=0
def tw7587619147031150514:=0
def tw17310468844714604432:=0
def tw7549874422041001511:=0
def tw11011975693639697221:=0
def tw14669232688030321414:=0
def tw4699296616701101408:=0
def tw5233786078307030461:=0
def tw16711941790803602754:=0
def tw15700414011922670520:=0
def tw11812241745193759665:=0
def tw4896772092378418511:=0
def tw11104186593672719890:=0
def tw16283245719135444865:=0
def tw624474839369604116:=0
def tw9607790753741116545:=0
def tw6304197945218812239:=0
def tw13547129490391943211:=0
def tw5567726961315216337:=0
def tw13859418538729995973:=0
def tw17092389214489739291:=0
def tw493461240141416296:=0
def tw16153763492540842378:=0
def tw9311502246782030799:=0
def tw5126129181817571305:=0
def tw4733057970314651675:=0
def tw12941377687267516588:=0
def tw14939460673790376717:=0
def tw16234498721936442180:=0
def tw1043134530989515514:=0
def tw12929024973426902969:=0
def tw17905505729816308729:=0
def tw4575695382563694392:=0
def tw8578724540425942668:=0
def tw14605412605233531911:=0
def tw8227299741247804520:=0
def tw12106092540484906558:=0
def tw11891270075510048328:=0
def tw930210112613122461:=0
def tw18074430498577238213:=0
def tw3820712812816628391:=0
def tw15027319545847365499:=0
def tw4077213609763500927:=0
def tw17483263772632591345:=0
def tw11413740947494662298:=0
def tw771460822819208821:=0
def tw10159967362045022497:=0
def tw1014968919016406727:=0
def tw10107572428774229816:=0
def tw7502320377596090024:=0
def tw11553739608496210645:=0
def tw14463186485563514263:=0
def tw4507764146953699664:=0
def tw766663009031425103:=0
def tw7667636130394282327:=0
def tw13700652742518342910:=0
def tw7318823767099656245:=0
def tw1302366374104390998:=0
def tw2782261985245546807:=0
def tw7317112460114863640:=0
def tw14721512417403462766:=0
def tw9399012500417872817:=0
def tw17783593809016653329:=0
def tw6888651693525525057:=0
def tw12751624810309720748:=0
def tw8996589182175373300:=0
def tw6905307890383360144:=0
def tw17389633137944329030:=0
def tw17580272118594911898:=0
def tw2176092682541938546:=0
def tw4791587018897650962:=0
def tw147397680335339021:=0
def tw16982426364190045786:=0
def tw16614878166478442190:=0
def tw2679909566453706035:=0
def tw14858706831470981940:=0
def tw10932283030970784163:=0
def tw13390476417588285493:=0
def tw6802171778848005536:=0
def tw18445634579454320805:=0
def tw18212908450492306649:=0
def tw1179073009041749990:=0
def tw12473838992874931199:=0
def tw17036281738220561468:=0
def tw17029967823795979163:=0
def tw11223298273140889305:=0
def tw13822353410050202852:=0
def tw2808203197991168020:=0
def tw7678526945804476878:=0
def tw15557422647410654718:=0
def tw17263076058530674652:=0
def tw11373415187345648030:=0
def tw17048134273272558399:=0
def tw15449469596998137781:=0
def tw975978795001748026:=0
def tw5756699108460118107:=0
def tw13777348605706911088:=0
def tw12130343472974919864:=0
def tw13152984424741656601:=0
def tw9069496410969865254:=0
def tw7967806978161851082:=0
def tw18273757338424500455:=0
def tw14844459208472945312:=0
def tw7998841340813711140:=0
def tw2452386285624270400:=0
def tw83230324290818459:=0
def tw524077646392660846:=0
def tw11303844208324594876:=0
def tw16240671747563680660:=0
def tw1986473913361440665:=0
def tw6572228878192516589:=0
def tw83195589581341393:=0
def tw11494254557554408840:=0
def tw18299731045591509366:=0
def tw7350788796730634587:=0
end PySem.W.Fast
namespace L2
open PySem PySem.Spec PyProof.Rows
structure pW(sc csc:Scope)(N:List Str)(x:Str)(caps:List (Str×Nat)):Prop where
 cell:∀p∈csc.names,p.2 ≠ .cell
 kind:csc.kind = .function
 loc:∀p∈csc.names,p.2 = .local->csc.names.lookup p.1=some .local
 tg:csc.names.lookup x=some .local
 free:∀p∈csc.names,p.2 = .free->sc.names.lookup p.1=some .cell
 cap:∀p∈caps,N[p.2]?=some p.1/\csc.names.lookup p.1=some .free
 nd:(caps.map (·.1)++[x]).Nodup
def dj(env:Env):List (Str×NameKind)->List (Str×Addr)->List (Str×Addr)
 | [],cs=>cs
 | (n,k)::r,cs=>dj env r (if k == .free then (n,(env.cells.lookup n).getD 0)::cs else cs)
theorem fE{env:Env}{sc:Scope}(h:∀p∈sc.names,p.2 = .free->∃c,env.cells.lookup p.1=some c):closureFor sc env=pure (dj env sc.names []):=by
 obtain⟨kind,names,g,c⟩:=sc
 simp only[closureFor]
 have aux:∀(l:List (Str×NameKind)) (cs:List (Str×Addr)),(∀p∈l,p.2 = .free->∃c,env.cells.lookup p.1=some c) ->
   (forIn l cs (λ(x:Str×NameKind) (r:List (Str×Addr))=>if (x.2 == NameKind.free)=true then (do let a ← cellOf env x.1;pure (ForInStep.yield ((x.1,a)::r))) else pure (ForInStep.yield r)):Sem (List (Str×Addr)))=pure (dj env l cs):=by
  intro l
  induction l with
  |nil=>intro cs _;rfl
  |cons p r ih =>
   intro cs hp
   obtain⟨n,k⟩:=p
   rw[List.forIn_cons]
   have ih':=λcs=>ih cs (λq hq=>hp q (List.mem_cons_of_mem _ hq))
   by_cases hk:(k == NameKind.free)=true
   ·obtain⟨c,e⟩:=hp (n,k) List.mem_cons_self (by simpa using hk)
    simp only[hk,if_true,cellOf,e,dj,pure_bind,Option.getD_some]
    exact ih' _
   ·have hk':(k == NameKind.free)=false:=by simpa using hk
    simp only[hk',if_false,dj,pure_bind,Bool.false_eq_true]
    exact ih' _
 have:=aux names [] h
 first
  | (rw[this];rfl)
  | (simp only[bind_pure];exact this)
  | (refine Eq.trans (bind_pure _) this)
theorem c6{env:Env}:∀(l:List (Str×NameKind)) (cs:List (Str×Addr)),(∀p∈l,p.2 = .free->∃c,env.cells.lookup p.1=some c)->(∀y c,cs.lookup y=some c->env.cells.lookup y=some c) ->
  ∀y c,(dj env l cs).lookup y=some c->env.cells.lookup y=some c
 | [],_,_,h2=>h2
 | (n,k)::r,cs,h1,h2=>by
  unfold dj
  refine c6 r _ (λq hq=>h1 q (List.mem_cons_of_mem _ hq)) ?_
  by_cases hk:(k == NameKind.free)=true
  ·obtain⟨c,e⟩:=h1 (n,k) List.mem_cons_self (by simpa using hk)
   rw[if_pos hk]
   intro y c' h
   rw[e] at h
   rw[List.lookup_cons] at h
   cases hy:y == n with
   |true=>rw[hy] at h;simp at h;rw[eq_of_beq hy,← h];exact e
   |false=>rw[hy] at h;exact h2 y c' h
  ·rw[if_neg hk];exact h2
theorem iB{env:Env}:∀(l:List (Str×NameKind)) (cs:List (Str×Addr)) (y:Str),((y,NameKind.free)∈l∨∃c,cs.lookup y=some c)->∃c,(dj env l cs).lookup y=some c
 | [],_,_,h=>by
  rcases h with h|h
  ·cases h
  ·exact h
 | (n,k)::r,cs,y,h=>by
  unfold dj
  refine iB r _ y ?_
  by_cases hk:(k == NameKind.free)=true
  ·rw[if_pos hk]
   by_cases hy:(y == n)=true
   ·exact .inr ⟨_,by rw[List.lookup_cons,hy]⟩
   ·have hy':(y == n)=false:=by simpa using hy
    rcases h with h|⟨c,h⟩
    ·rcases List.mem_cons.mp h with z|z
     ·cases z;simp at hy
     ·exact .inl z
    ·exact .inr ⟨c,by rw[List.lookup_cons,hy'];exact h⟩
  ·rw[if_neg hk]
   rcases h with h|h
   ·rcases List.mem_cons.mp h with z|z
    ·cases z;simp at hk
    ·exact .inl z
   ·exact .inr h
abbrev bh(X:Cx)(N':List Str)(csc:Scope)(C:Addr)(s2:Shared)(H2:Hp)(fp:List Addr):Cx :=
 { X with N:=N',s₀:=s2,H₀:=H2,env:=compEnvC csc (dj X.env csc.names []) C X.env,outer:=X.stack,ex:=fp,fn:=λ_=>false,pn:=[],xe:=λ_ _=>False }
def e9(caps:List (Str×Nat))(Z:St):St:=caps.map λp=>(Z[p.2]?).join
def zT(J:It)(caps:List (Str×Nat))(te:TE)(Z:St)(H1:Hp)(Q:VK):Prop:=∃W:Nat->Nat->List V->Hp->Prop,(∃m,W 0 m [] H1)/\∀i m ys H,W i m ys H ->
 (J.stop i H/\∀D,H D=none->Q (.ref D) (upd H D (.lst ys)))∨(J.go i H/\ys.length<sizeLine/\∀x H',J.IZ i H x H'->te (e9 caps Z++[some x]) H' λy H2=>∃m',m'<m/\W (i+1) m' (ys++[y]) H2)
def RY(caps:List (Str×Nat))(wi:TI)(te:TE):TE:=λZ H Q=>wi Z H λJ H1=>zT J caps te Z H1 Q
theorem iH{env:Env}(hk:env.scope.kind = .function):∀{names:List (Str×NameKind)} {x:Str},(∀p∈names,p.2 = .free->env.kindOf p.1=some .cell)->names.lookup x=some .free ->
  (names.map λ(n,k)=>if (k == NameKind.free && env.scope.kind == .function && env.kindOf n == some .cell) then (n,NameKind.cell) else (n,k)).lookup x=some .cell
 | [],_,_,h=>by simp at h
 | (n,k)::r,x,hf,h=>by
  have ih:=@iH env hk r x (λp hp=>hf p (List.mem_cons_of_mem _ hp))
  show List.lookup x ((if (k == NameKind.free && env.scope.kind == .function && env.kindOf n == some .cell)=true then (n,NameKind.cell) else (n,k))::_)=_
  cases hx:x == n with
  |true =>
   simp only[List.lookup_cons,hx] at h
   cases h
   have:=hf (n,.free) List.mem_cons_self rfl
   have hk':(env.scope.kind == ScopeKind.function)=true:=by rw[hk];rfl
   simp[List.lookup_cons,hx,this,hk']
  |false =>
   simp only[List.lookup_cons,hx] at h
   by_cases hc:(k == NameKind.free && env.scope.kind == .function && env.kindOf n == some .cell)=true
   ·rw[if_pos hc];simp only[List.lookup_cons,hx];exact ih h
   ·rw[if_neg hc];simp only[List.lookup_cons,hx];exact ih h
theorem c8{env:Env}:∀{names:List (Str×NameKind)} {x:Str} {k':NameKind},
  (names.map λ(n,k)=>if (k == NameKind.free && env.scope.kind == .function && env.kindOf n == some .cell) then (n,NameKind.cell) else (n,k)).lookup x=some k'->(k' = .cell∨k' = .free)->(∀p∈names,p.2 ≠ .cell)->(x,NameKind.free)∈names
 | [],_,_,h,_,_=>by simp at h
 | (n,k)::r,x,k',h,hk,hn=>by
  have ih:=@c8 env r x k'
  have h:List.lookup x ((if (k == NameKind.free && env.scope.kind == .function && env.kindOf n == some .cell)=true then (n,NameKind.cell) else (n,k))::(r.map λ(n,k)=>if (k == NameKind.free && env.scope.kind == .function && env.kindOf n == some .cell) then (n,NameKind.cell) else (n,k)))=some k':=h
  cases hx:x == n with
  |true =>
   have e:x=n:=eq_of_beq hx
   subst e
   by_cases hc:(k == NameKind.free && env.scope.kind == .function && env.kindOf x == some .cell)=true
   ·have:k = .free:=by
     simp only[Bool.and_eq_true] at hc
     simpa using hc.1.1
    subst this
    exact List.mem_cons_self
   ·rw[if_neg hc] at h
    simp only[List.lookup_cons,hx] at h
    cases h
    rcases hk with z|z
    ·exact absurd z (hn _ List.mem_cons_self)
    ·subst z;exact List.mem_cons_self
  |false =>
   refine List.mem_cons_of_mem _ (ih ?_ hk λp hp=>hn p (List.mem_cons_of_mem _ hp))
   by_cases hc:(k == NameKind.free && env.scope.kind == .function && env.kindOf n == some .cell)=true
   ·rw[if_pos hc] at h;simp only[List.lookup_cons,hx] at h;exact h
   ·rw[if_neg hc] at h;simp only[List.lookup_cons,hx] at h;exact h
section
variable {X:Cx}{pins:List (Addr×Obj)}{Z:St}{H:Hp}{s:Shared}
theorem dP(caps:List (Str×Nat))(Z:St):(e9 caps Z).length=caps.length:=by simp[e9]
theorem lE{csc:Scope}{x:Str}{caps:List (Str×Nat)}{fp:List Addr}{h4:Heap}{t4:Nat}{C:Addr}{m0:Str->Option Value}(I:Inv X pins Z H s)(ck:pW X.env.scope csc X.N x caps)(hf:∀b∈fp,mP X pins H b)
  (hfs:∀b∈fp,b<s.heap.objs.size) (hC:s.heap.objs.size<=C) (hk:∀b o,s.heap.get? b=some o->h4.get? b=some o) (hn:h4.Ns C m0) :
  Inv (bh X (caps.map (·.1)++[x]) csc C s H fp) [] (e9 caps Z++[none]) H { s with heap:=h4,toks:=t4 }:=by
 have cellsOk:∀p∈csc.names,p.2 = .free->∃c,X.env.cells.lookup p.1=some c:=λp hp e=>I.ok.has p.1 (.inl (ck.free p hp e))
 have inX:∀y c,(dj X.env csc.names []).lookup y=some c->X.env.cells.lookup y=some c:=c6 _ _ cellsOk (λy c h=>by simp at h)
 have kf:∀p∈csc.names,p.2 = .free->X.env.kindOf p.1=some .cell:=ck.free
 refine⟨⟨I.ok.mod,ck.kind,I.ok.glob,I.ok.blt,hC,λy z c h1 h2=>I.ok.inj y z c (inX y c h1) (inX z c h2),λy hy=>?_,λy c h=>(nomatch h),I.ok.hd,I.ok.frames,.inl rfl,λb hb=>⟨?_,λy c h=>?_⟩,?_,?_,?_,?_,I.stack,I.tV⟩,rfl,I.bare,Un.kept hk,⟨m0,hn,λi y v h1 h2 h3=>?_⟩,λy c h=>?_,I.hok.fresh hC,λy c h=>I.je y c (inX y c h),λp hp=>absurd hp (by simp),I.hok.kept hk,?_⟩
 ·have hy':(csc.names.map λ(n,k)=>if (k == NameKind.free && X.env.scope.kind == .function && X.env.kindOf n == some .cell) then (n,NameKind.cell) else (n,k)).lookup y=some .cell∨(csc.names.map λ(n,k)=>if (k == NameKind.free && X.env.scope.kind == .function && X.env.kindOf n == some .cell) then (n,NameKind.cell) else (n,k)).lookup y=some .free:=hy
  refine iB _ _ y (.inl ?_)
  rcases hy' with z|z
  ·exact c8 z (.inl rfl) ck.cell
  ·exact c8 z (.inr rfl) ck.cell
 ·exact Nat.ne_of_lt (Nat.lt_of_lt_of_le (hfs b hb) hC)
 ·exact(hf b hb).2.2.2.2.1 y c (inX y c h)
 ·exact λb o e=>I.bs b o e
 ·exact Nat.le_trans I.ok.Jv I.sz
 ·intro b o e hb
  rcases (hf b hb).2.2.2.1 with z|z
  ·exact I.ok.BR b o e z
  ·exact absurd (Nat.lt_of_lt_of_le (Heap.lt_size (I.ok.bs b o e).1) z) (Nat.lt_irrefl _)
 ·intro b hb z
  rcases List.mem_cons.mp (I.jz b z) with e|e
  ·exact(hf b hb).2.1 e
  ·exact(hf b hb).2.2.1 e
 ·have hi:i<caps.length:=by
   by_cases hi:i<caps.length
   ·exact hi
   ·rw[List.getElem?_append_right (by rw[dP];lia),dP] at h2
    cases q:i-caps.length with
    |zero=>rw[q] at h2;simp at h2
    |succ k=>rw[q] at h2;simp at h2
  rw[List.getElem?_append_left (by rw[List.length_map];exact hi),List.getElem?_map] at h1
  rw[List.getElem?_append_left (by rw[dP];exact hi)] at h2
  unfold e9 at h2
  rw[List.getElem?_map] at h2
  cases e:caps[i]? with
  |none=>rw[e] at h1;cases h1
  |some p =>
   rw[e] at h1 h2
   simp only[Option.map_some,Option.some.injEq] at h1 h2
   subst h1
   obtain⟨hN,hfr⟩:=ck.cap p (List.mem_of_getElem? e)
   have h2':Z[p.2]?=some (some v):=by
    cases q:Z[p.2]? with
    |none=>rw[q] at h2;cases h2
    |some w=>rw[q] at h2;simp at h2;rw[h2]
   have hcX:X.env.scope.names.lookup p.1=some .cell:=ck.free (p.1,.free) (PySem.mem_of_lookup hfr) rfl
   obtain⟨m,_,hl⟩:=I.loc
   obtain⟨u,r,l⟩:=hl p.2 p.1 v hN h2' (.inr (.inl hcX))
   refine⟨u,r,?_⟩
   rcases l with ⟨k,_⟩|⟨_,c,hc,z⟩
   ·have k':X.env.scope.names.lookup p.1=some .local:=k
    rw[hcX] at k';cases k'
   ·obtain⟨c',hc'⟩:=iB (env:=X.env) csc.names [] p.1 (.inl (PySem.mem_of_lookup hfr))
    have:c'=c:=by
     have:=inX p.1 c' hc'
     rw[hc] at this
     exact(Option.some.inj this).symm
    subst this
    refine .inr ⟨.inl (iH I.ok.kind kf hfr),c',hc',?_⟩
    obtain⟨o,ho,hd⟩:=z
    exact⟨o,hk _ _ ho,hd⟩
 ·obtain⟨v,o,ho,hd⟩:=I.cell y c (inX y c h)
  exact⟨v,o,hk _ _ ho,hd⟩
 ·rw[List.length_append,dP,List.length_append,List.length_map];rfl
end
theorem om{prog:Program}{w:World}{A:Around}{R:Result->Shared->Prop}{s:Shared}{elt target iter:Expr}{scope:Scope}{pos:Pos}{it acc:Value}{env:Env}(J:Nat->Shared->Prop)
  (turn:∀n s,J n s->wpAny (model prog w) A (pyNext it) (λr s₁=>match r with
   |none=>R (.ok .next) s₁
   |some v=>wpAny (model prog w) A (letOwnedTupleGo target it v) (λ_ s₁=>wpAny (model prog w) A (assign target env v) (λ_ s₂=>wpAny (model prog w) A (eval elt env) (λx s₃ =>
     wpAny (model prog w) A (call (.builtin "list.append") [acc,x]) (λ_ s₄=>∃m,m<n/\J m s₄) (λ_ _=>False) s₃)
     (λ_ _=>False) s₂) (λ_ _=>False) s₁) (λ_ _=>False) s₁) (λ_ _=>False) s)
  (n:Nat) (h:J n s) :
  codeAny (model prog w) A (.compLoop (.ListComp elt [⟨target,iter,[],0⟩] scope pos) 0 it acc env) R s:=by
 refine codeAny_loop rfl J (λn s hI=>?_) n h
 show wpAny _ _ ((compTurn (.ListComp elt [⟨target,iter,[],0⟩] scope pos) 0 it acc env).onRaise (λx=>do noteFrame x env;theTreesLotGoes x)) _ _ s
 refine wpAny_noted ?_
 rw[compTurn_list1]
 refine wpAny_bind (wpAny_standAt (wpAny_bind (wpAny_mono (turn n s hI) (λr s₁ h₁=>?_) λ_ _ h'=>h'.elim)))
 cases r with
 |none=>exact wpAny_pure h₁
 |some v =>
  refine wpAny_bind (wpAny_mono h₁ (λ_ s₁' h₁=>?_) λ_ _ h'=>h'.elim)
  exact wpAny_bind (wpAny_mono h₁ (λ_ s₂ h₂=>wpAny_bind (wpAny_bind (wpAny_mono h₂ (λx s₃ h₃=>wpAny_bind (wpAny_mono h₃
   (λ_ s₄ h₄=>wpAny_pure (wpAny_pure ⟨rfl,h₄⟩)) λ_ _ h'=>h'.elim)) λ_ _ h'=>h'.elim))) λ_ _ h'=>h'.elim)
theorem sL{a b:Nat}(h:a<b):a≠b:=Nat.ne_of_lt h
theorem rJ{a b:Nat}(h:a<b):a≠b+1:=Nat.ne_of_lt (Nat.lt_succ_of_lt h)
theorem q9{a:Nat}:a≠a+1:=Nat.ne_of_lt (Nat.lt_succ_self a)
section
variable {X:Cx}
theorem jd{csc:Scope}{N':List Str}{fp:List Addr}{C D:Addr}{pins pl:List (Addr×Obj)}{Z Z':St}{H H':Hp}{s s':Shared}{h':Heap}{ys:List V}{its:List Value}{n:Nat}(I:Inv X pins Z H s)
  (J:Inv (bh X N' csc C s H fp) pl Z' H' s') (hf:∀b∈fp,mP X pins H b) (hC:s.heap.objs.size<=C) (hD:s.heap.objs.size<=D) (hDC:D≠C) (hs:Heap.SameBut C s'.heap h') (hv:Vals ys its) (hz:ys.length<=sizeLine)
  (hd:s'.heap.get? D=some { cls:=.type "list",data:=.seq its.toArray n }) (hDn:H' D=none):Inv X pins Z (upd H' D (.lst ys)) { s' with heap:=h' }:=by
 have ne:∀b o,s.heap.get? b=some o->b≠C/\b≠D:=λb o e=>⟨Nat.ne_of_lt (Nat.lt_of_lt_of_le (Heap.lt_size e) hC),Nat.ne_of_lt (Nat.lt_of_lt_of_le (Heap.lt_size e) hD)⟩
 have u:Un (frs X.stack) fp H H' s.heap s'.heap:=J.base
 have nDt:∀b o,H' b=some o->b≠D:=λb o e=>ak e hDn
 refine I.Tz (s':={ s' with heap:=h' }) (ch:=fp) J.os ?_ ?_ J.bare λb hb=>⟨(hf b hb).2.2.2.1,(hf b hb).2.1,(hf b hb).2.2.2.2.1,(hf b hb).2.2.2.2.2⟩
 ·refine⟨λb o q n hb he=>?_,λb o q n hb he=>?_,λb o q n he=>?_,λb o q he=>?_,λb xs q=>?_,λb o xs q=>?_,λb ps q=>?_⟩
  ·exact(hs.2 b (ne b o q).1).trans (u.keep b o q n hb he)
  ·obtain⟨sl,e⟩:=u.slot b o q n hb he
   exact⟨sl,(hs.2 b (ne b o q).1).trans e⟩
  ·rw[aj (ne b o q).2];exact u.free b o q n he
  ·obtain⟨o',e⟩:=u.there b o q he
   exact⟨o',(hs.2 b (ne b o q).1).trans e⟩
  ·have:=u.tups b xs q
   rw[aj (nDt b _ this)];exact this
  ·have:=u.oO b o xs q
   rw[aj (nDt b _ this)];exact this
  ·obtain⟨more,this⟩:=u.rg b ps q
   exact⟨more,by rw[aj (nDt b _ this)];exact this⟩
 ·intro b o e
  by_cases hb:b=D
  ·subst hb
   rw[af] at e;cases e
   exact⟨hz,its,n,hv,(hs.2 b hDC).trans hd⟩
  ·rw[aj hb] at e
   refine(J.hok b o e).stay (λc v hc q=>(hs.2 c ?_).trans q) (λc q=>by rw[aj (nDt c _ q)];exact q) λc xs q=>by rw[aj (nDt c _ q)];exact q
   have hfree:H' C=none:=J.free
   rcases hc with z|z
   ·rw[z];exact ak e hfree
   ·exact ak z hfree
theorem iu{sc csc:Scope}{N:List Str}{elt iter:Expr}{x:Str}{px pos:Pos}{caps:List (Str×Nat)}{wi:TI}{te:TE}(ck:pW sc csc N x caps)(hi:PI X (.Name x px) iter wi)
  (he:∀C s2 H2 fp,PE (bh X (caps.map (·.1)++[x]) csc C s2 H2 fp) elt te) (hc:autoParam (X.calm=true) L2.Y3._auto_1) (hsc:autoParam (X.env.scope=sc) L2.Y3._auto_1) (hXN:autoParam (X.N=N) L2.Y3._auto_1) (hs:autoParam (∀x,foldedSetIterable iter X.env x=pure x) L2.Y2._auto_1) :
  PE X (.ListComp elt [⟨.Name x px,iter,[],0⟩] csc pos) (RY caps wi te):=by
 subst hsc hXN
 intro pins s Z H Q I h
 rw[eval_ListComp]
 have cellsOk:∀p∈csc.names,p.2 = .free->∃c,X.env.cells.lookup p.1=some c:=λp hp e=>I.ok.has p.1 (.inl (ck.free p hp e))
 refine wpAny_comprehension_free (use:=none) rfl hs (fE cellsOk) ck.kind ck.loc (cL (hi pins s Z H _ I h) λv s1 h1=>cL h1 λitv s2 h2=>?_)
 obtain⟨it,fp,tn,J,H2,e,I2,T,st2,f2,W,⟨m0,w0⟩,turn⟩:=h2
 subst e
 refine wpAny_newObj_type (wpAny_newFunctionEnv ck.cell (by intro y hy;simp at hy) (λh4 hns4 hsb4=>?_) ck.kind)
 dsimp only at hns4 hsb4 ⊢
 generalize hD:s2.heap.objs.size=D at hns4 hsb4 ⊢
 generalize hH2:s2.heap.push { cls:=.type "list",dict:=none,data:=.seq ([]:List Value).toArray }=G at hns4 hsb4 ⊢
 have hGs:G.objs.size=D+1:=by rw[← hH2,Heap.size_push,hD]
 rw[hGs] at hns4 hsb4 ⊢
 have lt2:∀b o,s2.heap.get? b=some o->b<D:=λb o e=>hD ▸ Heap.lt_size e
 have old:∀b o,s2.heap.get? b=some o->b≠D+1/\b≠D:=λb o e=>⟨rJ (lt2 b o e),sL (lt2 b o e)⟩
 have leD:s2.heap.objs.size<=D:=Nat.le_of_eq hD
 have leD1:s2.heap.objs.size<=D+1:=Nat.le_succ_of_le leD
 have keep4:∀b o,s2.heap.get? b=some o->h4.get? b=some o:=λb o e=>hsb4.extBut b o (old b o e).1 (Heap.get?_push_of_some _ (hH2 ▸ Heap.get?_push_of_some _ e))
 have hDo:h4.get? D=some { cls:=.type "list",data:=.seq ([]:List Value).toArray 0 }:=by
  refine hsb4.extBut D _ q9 (Heap.get?_push_of_some _ ?_)
  rw[← hH2,← hD]
  exact Heap.get?_push_size _ rfl
 have fps:∀b∈fp,b<s2.heap.objs.size:=λb hb=>by
  obtain⟨o,e,_⟩:=T.obj _ _ st2 b hb
  exact Heap.lt_size e
 have I4:∀t4,Inv (bh X (caps.map (·.1)++[x]) csc (D+1) s2 H2 fp) [] (e9 caps Z++[none]) H2 { s2 with heap:=h4,toks:=t4 }:=λt4=>lE (m0:=λx=>[].reverse.lookup x) I2 ck f2 fps leD1 keep4 hns4
 have cellsLt:∀y c,(dj X.env csc.names []).lookup y=some c->c<D:=λy c e=>by
  obtain⟨v,o,ho,_⟩:=I2.cell y c (c6 _ _ cellsOk (λy c h=>by simp at h) y c e)
  exact lt2 c o ho
 have fsLt:∀b∈frs X.stack,b<D:=λb hb=>by
  obtain⟨_,o,ho,_⟩:=I2.stack.mem hb
  exact lt2 b o ho
 have fpC:∀{pl:List (Addr×Obj)} {H':Hp},(∀p∈pl,p.1=D)->(∀b∈fp,H' b=none)->∀b∈fp,mP (bh X (caps.map (·.1)++[x]) csc (D+1) s2 H2 fp) pl H' b:=λ{pl H'} hpl hn b hb=>by
  have hb':b<D:=hD ▸ fps b hb
  refine⟨hn b hb,rJ hb',?_,.inl hb,λy c e=>?_,λp hp=>?_⟩
  ·intro z
   rcases List.mem_cons.mp (I2.jz b z) with e|e
   ·exact(f2 b hb).2.1 e
   ·exact(f2 b hb).2.2.1 e
  ·exact(f2 b hb).2.2.2.2.1 y c (c6 _ _ cellsOk (λy c h=>by simp at h) y c e)
  ·have:p.1=D:=hpl p (by simpa using hp)
   rw[this];exact λz=>sL hb' z.symm
 have loop:∀t4,codeAny (model X.prog X.w) X.A (.compLoop (.ListComp elt [⟨.Name x px,iter,[],0⟩] csc pos) 0 (.ref it) (.ref D) (compEnvC csc (dj X.env csc.names []) (D+1) X.env))
   (compPost (model X.prog X.w) X.A X.xe none (EP X pins Z Q) (.ref D) (D+1)) { s2 with heap:=h4,toks:=t4 }:=by
  intro t4
  refine om (λn s'=>∃(i:Nat) (ys:List V) (its:List Value) (k:Nat) (Z':St) (H':Hp),Inv (bh X (caps.map (·.1)++[x]) csc (D+1) s2 H2 fp) [(D,{ cls:=.type "list",data:=.seq its.toArray k })] Z' H' s'/\tn i s'.heap/\(∀b∈fp,H' b=none)/\Vals ys its/\ys.length<=sizeLine/\W i n ys H'/\(∃z,Z'=e9 caps Z++[z])) ?_ m0 ?_
  ·rintro n s3 ⟨i,ys,its,k,Z3,H3,I3,st3,fr3,hv,hz,w3,z3,rfl⟩
   have pl1:∀p∈[((D,{ cls:=.type "list",data:=.seq its.toArray k }):Addr×Obj)],p.1=D:=λp hp=>by rw[List.mem_singleton.mp hp]
   rcases turn i n ys H3 w3 with ⟨stop,qn⟩|⟨go,hlt,step⟩
   ·refine wpAny_mono (T.done (bh X (caps.map (·.1)++[x]) csc (D+1) s2 H2 fp) rfl rfl rfl hc i _ s3 _ H3 (λ_ _=>False) I3 (fpC pl1 fr3) st3 stop) (λr s4 hY=>?_) λ_ _ f=>f.elim
    obtain⟨hr,I4'⟩:=hY
    subst hr
    obtain⟨m,hn,_⟩:=id I4'.loc
    have pD:=I4'.pin (D,{ cls:=.type "list",data:=.seq its.toArray k }) (by simp)
    refine⟨m,hn,λh' hs'=>⟨.ref D,_,jd I2 I4' f2 leD1 leD q9 hs' hv hz pD.1 pD.2.1,rfl,qn D pD.2.1⟩⟩
   ·refine wpAny_mono (T.item (bh X (caps.map (·.1)++[x]) csc (D+1) s2 H2 fp) rfl rfl rfl hc i _ s3 _ H3 (λ_ _=>False) I3 (fpC pl1 fr3) st3 go) (λr s4 hY=>?_) λ_ _ f=>f.elim
    obtain⟨u,hr,h4'⟩:=hY
    subst hr
    refine wpAny_mono h4' (λ_ s4 hY=>?_) λ_ _ f=>f.elim
    obtain⟨xv,H5,I5,r5,y5,st5,fr5⟩:=hY
    have I5':=I5.pinned (fpC pl1 fr5) (T.obj _ _ st5)
    have hiN:(caps.map (·.1)++[x])[caps.length]?=some x:=by rw[List.getElem?_append_right (by simp)];simp
    refine wpAny_mono (eW (X:=bh X (caps.map (·.1)++[x]) csc (D+1) s2 H2 fp) (i:=caps.length) ck.nd hiN (.inl (lookup_relabel_local ck.tg)) (.inr (lookup_relabel_local ck.tg)) _ s4 _ H5 xv u _ I5' r5 (show kq caps.length xv _ H5 (λZ6 H6=>Z6=e9 caps Z++[some xv]/\H6=H5) from ⟨?_,rfl⟩)) (λ_ s6 ⟨Z6,H6,I6,hZ,hH⟩=>?_) λ_ _ f=>f.elim
    ·rw[List.set_append_right _ _ (by rw[dP];exact Nat.le_refl _),dP,Nat.sub_self];rfl
    subst hZ hH
    refine wpAny_mono (he (D+1) s2 H2 fp _ s6 _ H6 _ I6 (step xv H6 y5)) (λw7 s7 hY=>?_) λ_ _ f=>f.elim
    obtain⟨y,H7,I7,r7,m',hm,w8⟩:=hY
    have pD:=I7.pin (D,{ cls:=.type "list",data:=.seq its.toArray k }) (by simp)
    have hll:=hv.length
    refine call_meets F.slot_list_append ⟨_,pD.1,rfl⟩ F.entry_list_append (F.args_list_append_2 _ _) (PySem.list_append D its.toArray k w7 (by rw[List.size_toArray];lia)) ⟨pD.1,?_⟩
    have q:=PySem.IsL.update pD.1 (·.push w7)
    have hpush:its.toArray.push w7=(its++[w7]).toArray:=by simp
    rw[hpush] at q
    obtain⟨k',q⟩:∃k',(s7.heap.update D (Obj.mapSeq (·.push w7))).get? D=some { cls:=.type "list",data:=.seq (its++[w7]).toArray k' }:=⟨_,q⟩
    have I7u:Inv (bh X (caps.map (·.1)++[x]) csc (D+1) s2 H2 fp) (gr fp s4.heap) _ H7 s7:=I7.cC λp hp=>I7.pin p (List.mem_append_right _ (List.mem_append_right _ hp))
    have pfp:∀p∈gr fp s4.heap,p.1<D:=λp hp=>hD ▸ fps p.1 (iy hp).1
    have I8:=I7u.turned (h':=s7.heap.update D (Obj.mapSeq (·.push w7))) (t':=s7.toks) (it:=D) (λb o hb e=>(Heap.get?_update_other s7.heap _ (Ne.symm hb)).trans e) pD.2.1 q9 (.inr leD) (λy c e=>sL (cellsLt y c e)) (λp hp=>sL (pfp p (by simpa using hp)))
    refine⟨m',hm,i+1,ys++[y],its++[w7],k',_,H7,I8.cC λp hp=>?_,T.keep _ _ _ st5 λb hb o e=>(I8.pin (b,o) (List.mem_append_right _ (bQ hb e))).1,λb hb=>?_,hv.append (.cons r7 .nil),?_,w8,_,rfl⟩
    ·rw[List.mem_singleton.mp hp]
     exact⟨q,pD.2.1,pD.2.2.1,pD.2.2.2.1,λv=>by simp⟩
    ·obtain⟨o,e,d⟩:=T.obj _ _ st5 b hb
     exact(I8.pin (b,o) (List.mem_append_right _ (bQ hb e))).2.1
    ·rw[List.length_append,List.length_singleton];lia
  ·refine⟨0,[],[],0,_,H2,(I4 t4).cC λp hp=>?_,T.keep _ _ _ st2 λb hb o e=>keep4 b o e,λb hb=>(f2 b hb).1,.nil,Nat.zero_le _,w0,_,rfl⟩
   rw[List.mem_singleton.mp hp]
   refine⟨hDo,I2.hok.fresh leD,q9,λz=>absurd (fsLt D z) (Nat.lt_irrefl _),λv=>by simp⟩
 exact codeAny_compStart_list (loop _) (T.self _ 0 _ _ _ (T.keep _ _ _ st2 λb hb o e=>keep4 b o e) (loop _))
end
section
variable {X:Cx}
theorem xH{ys:List Str}:∀{us:List Value},Vals (ys.map V.str) us->StrsAre us ys:=by
 induction ys with
 |nil=>intro us r;cases r;exact .nil
 |cons y r ih =>
  intro us h
  cases h with
  |cons h t =>
   obtain⟨k,rfl⟩:=h
   exact .cons _ _ (ih t)
def rJoin(K:PySem.W.Frag):V->List V->Hp->VK->Prop:=λx vs H Q=>∃z p ys,x = .str z/\vs=[.ref p]/\aY K H p (ys.map V.str)/\(ys.map (·.length)).sum+ys.length*z.length<=16777216/\Q (.str (Txt.join z ys)) H
theorem mH:KO X "str.join" (rJoin X.K):=by
 intro pins s Z H x vs v us Q I rx rv h
 obtain⟨z,p,ys,rfl,rfl,hq,hz,q⟩:=h
 obtain⟨t,rfl⟩:=rx
 obtain⟨u,rfl,ru⟩:=rv.one
 cases ru
 obtain⟨its,r,pl,_⟩:=I.list hq
 exact PyProof.Rows.join_list pl.isList (by simpa using xH r) hz λt' k=>⟨.str _,H,I.tok _,⟨_,rfl⟩,q⟩
def u5:V->List V->Hp->VK->Prop:=λx vs H Q=>∃a b i,x = .str a/\vs=[.str b,.int i]/\Q (.bl (fromIndex a.length i+b.length<=a.length && Builtin.Str.subAt a b (fromIndex a.length i))) H
theorem w6:KO X "str.startswith" u5:=by
 intro pins s Z H x vs v us Q I rx rv h
 obtain⟨a,b,i,rfl,rfl,q⟩:=h
 obtain⟨t,rfl⟩:=rx
 obtain⟨u,w',rfl,ru,rw'⟩:=rv.two
 obtain⟨t1,rfl⟩:=ru
 obtain⟨t2,rfl⟩:=rw'
 exact call_gives F.slot_str_startswith (typeIs_str _ _ _) F.entry_str_startswith (F.args_str_startswith_3 _ _ _) (gives_str_startswith_from a b i t t1 t2) ⟨.bl _,H,I,rfl,q⟩
def v9:V->List V->Hp->VK->Prop:=λx vs H Q=>∃a b,x = .str a/\vs=[.str b]/\Q (.bl (0+b.length<=a.length && Builtin.Str.subAt a b 0)) H
theorem pG:KO X "str.startswith" v9:=by
 intro pins s Z H x vs v us Q I rx rv h
 obtain⟨a,b,rfl,rfl,q⟩:=h
 obtain⟨t,rfl⟩:=rx
 obtain⟨u,rfl,ru⟩:=rv.one
 obtain⟨t1,rfl⟩:=ru
 exact call_gives F.slot_str_startswith (typeIs_str _ _ _) F.entry_str_startswith (F.args_str_startswith_2 _ _) (gives_str_startswith a b t t1) ⟨.bl _,H,I,rfl,q⟩
def pH(z:Str):List V:=z.cps.toList.map λc=>V.str ⟨#[c]⟩
theorem wZ{z:Str}{acc:Array Value}(h:ItemsOf (SignAt z) acc z.cps.size):Vals (pH z) acc.toList:=by
 obtain⟨hs,hi⟩:=h
 have aux:∀(cs:List Nat) (us:List Value),us.length=cs.length->(∀(i:Nat) (v:Value),us[i]?=some v->∃c u,cs[i]?=some c/\v=Value.str ⟨#[c]⟩ u)->Vals (cs.map λc=>V.str ⟨#[c]⟩) us:=by
  intro cs
  induction cs with
  |nil=>intro us hl _;cases us with
   |nil=>exact .nil
   |cons _ _=>cases hl
  |cons c r ih =>
   intro us hl h
   cases us with
   |nil=>cases hl
   |cons u r' =>
    refine .cons ?_ (ih r' (by simpa using hl) λi v e=>h (i+1) v (by simpa using e))
    obtain⟨c',t,e,z⟩:=h 0 u rfl
    simp at e
    subst e
    exact⟨t,z⟩
 refine aux _ _ (by simp[hs]) λi v e=>?_
 obtain⟨c,u,e1,e2⟩:=hi i v (by simpa using e)
 exact⟨c,u,by simpa using e1,e2⟩
theorem xJ (hc:X.calm=true):iE X (.type "list") (λxs H Q=>∃z:Str,xs=[.str z]/\z.length<=sizeLine/\∀l,H l=none->Q (.ref l) (upd H l (.lst (pH z)))):=by
 intro pins s Z H xs us Q I r h
 obtain⟨z,rfl,hz,q⟩:=h
 obtain⟨u,rfl,rx⟩:=vals1 r
 obtain⟨t,rfl⟩:=rx
 refine PySem.call_list_str (I.ok.hd hc) z t (λh' tk acc' c' kp e hi=>?_) hz
 have hv:=wZ hi
 exact⟨.ref s.heap.objs.size,_,I.laid (t':=tk) kp (Nat.le_refl _) (show cH X.prog X.w _ h' _ (.lst (pH z)) from ⟨by simp only[pH,List.length_map,Array.length_toList];exact hz,acc'.toList,c',hv,by simpa using e⟩),rfl,q _ (I.hok.fresh (Nat.le_refl _))⟩
theorem AV:iE X (.builtin "isinstance") (λxs H Q=>∃x a t b,xs=[x,.ref a]/\mE X.K H x t/\PySem.W.kitOne X.K t (.ref a)=some b/\Q (.bl b) H):=by
 intro pins s Z H xs us Q I r h
 obtain⟨x,a,t,b,rfl,ty,e,q⟩:=h
 obtain⟨u,w',rfl,ru,rw'⟩:=vals2 r
 cases rw'
 exact BL I ru ty e λtk=>⟨.bl b,H,I.tok _,rfl,q⟩
end
def At(X:Cx)(D:Ends)(sts:List Stmt)(Z:St)(H:Hp):Prop:=∀(pins:List (Addr×Obj)) (s:Shared),Inv X pins Z H s->wpAny (model X.prog X.w) X.A (execs sts X.env) (SP X pins D) X.xe s
section
variable {X:Cx}{D:Ends}{st:Stmt}{rest sts:List Stmt}{t:TS}{Z:St}{H:Hp}
theorem av:xy X sts (λD Z H=>At X D sts Z H):=λpins s Z H D I h=>h pins s I
theorem aU(h:D.nx Z H):At X D [] Z H:=λ_ _ I=>wpAny_execs_nil ⟨Z,H,I,h⟩
theorem au(h:PS X st t)(q:t { D with nx:=λZ H=>At X D rest Z H } Z H):At X D (st::rest) Z H:=λpins s I =>
 (uL h av) pins s Z H D I q
theorem ay(h:PS X st t)(q:t D Z H):At X D [st] Z H:=λpins s I=>(HM h) pins s Z H D I q
theorem oV(h:At X D sts Z H):∃t,xy X sts t/\t D Z H:=⟨λD' Z' H'=>D'=D/\Z'=Z/\H'=H,λpins s Z' H' D' I ⟨e1,e2,e3⟩=>by subst e1 e2 e3;exact h pins s I,rfl,rfl,rfl⟩
end
theorem dR{c:Prop}[Decidable c]{A B:Prop}(h1:c->A)(h2:¬ c->B):if decide c=true then A else B:=by
 by_cases h:c
 ·rw[decide_eq_true h];exact h1 h
 ·rw[decide_eq_false h];exact h2 h
theorem jA{c:Prop}[Decidable c]{A B:Prop}(h1:¬ c->A)(h2:c->B):if (!decide c)=true then A else B:=by
 by_cases h:c
 ·rw[decide_eq_true h];exact h2 h
 ·rw[decide_eq_false h];exact h1 h
theorem Ux{c:Bool}{A B:Prop}(h1:c=true->A)(h2:c=false->B):if c=true then A else B:=by
 cases c
 ·exact h2 rfl
 ·exact h1 rfl
theorem ao.upd{H:Hp}{p:Addr}{o:HO}(h:H p=none):ao H (upd H p o):=λb u e=>by rw[aj (ak e h)];exact e
theorem ao.to{H H1:Hp}{p:Addr}{o:HO}(s:ao H H1)(h:H1 p=none):ao H (L2.upd H1 p o):=s.trans (ao.upd h)
theorem ao.to2{H0 H:Hp}{p:Addr}{o:HO}(s:ao H0 H)(g:H p=none):ao H0 (L2.upd H p o)/\L2.upd H p o p=some o:=⟨s.to g,if_pos rfl⟩
theorem aY.same{K:PySem.W.Frag}{H H':Hp}{a:Addr}{xs:List V}(h:aY K H a xs)(e:ao H H'):aY K H' a xs:=e.seq h
section
variable {X:Cx}{C:Addr}{x:Str}{p pos:Pos}
def GJ(C:Addr):TE:=λ_ H Q=>∀x dx,H x=none->H dx=none->dx≠x->Q (.ref x) (upd (upd H dx (.own x)) x (.ins C dx []))
end
section
variable {X:Cx}{C:Addr}{x:Str}{p pos:Pos}
structure Ug(K:PySem.W.Frag)(C:Addr):Prop where
 makes:PySem.W.makesIn K C=true
 init:PySem.W.findIn K (.ref C) "__init__" = some (some (.builtin "object.__init__"))
 kp:PySem.W.keepIn K (.ref C)=true
theorem qt (M:Ug X.K C) (hg:Gl X x) (hm:X.mg x=some (.ref C)) (hdb:autoParam ((x == ("__debug__" : Str))=false) L2.Y1._auto_1):PE X (.Call (.Name x p) [] [] pos) (GJ C):=by
 intro pins s Z H Q I h
 refine wpAny_Call_Name_kw (kK I hg hm ?_ hdb)
 refine PySem.W.callWith_K0 I.k6 M.kp (wpAny_call ?_)
 have hq:=h (s.heap.objs.size+1) s.heap.objs.size (I.hok.fresh (Nat.le_succ _)) (I.hok.fresh (Nat.le_refl _)) (Nat.ne_of_lt (Nat.lt_succ_self _))
 have I2:=Inv.made (C:=C) I
 have Y:=PySem.W.makes_of (M:=model X.prog X.w) I.k6 M.makes
 refine AR I.k6 M.makes M.init (λself=>PySem.W.Looks.of_pure (PySem.W.oi_bind self)) ?_
 obtain⟨hh,g,d,t,os⟩:=s
 have e2:((hh.push PySem.W.emptyDict).push (PySem.W.instObj C hh.objs.size)).get? (hh.objs.size+1)=some (PySem.W.instObj C hh.objs.size):=by
  have:=Heap.get?_push_size (hh.push PySem.W.emptyDict) (o:=PySem.W.instObj C hh.objs.size) rfl
  rwa [Heap.size_push] at this
 have t1:PySem.W.Looks (model X.prog X.w) ((hh.push PySem.W.emptyDict).push (PySem.W.instObj C hh.objs.size)) (typeOf (.ref (hh.objs.size+1))) (.ref C):=(PySem.W.Looks.ld e2).andThen .now
 have t2:PySem.W.Looks (model X.prog X.w) ((hh.push PySem.W.emptyDict).push (PySem.W.instObj C hh.objs.size)) (isInstance (.ref (hh.objs.size+1)) (.type "object")) true:=t1.andThen (Y.top.keeps λb o e=>Heap.get?_push_of_some _ (Heap.get?_push_of_some _ e))
 refine codeAny_call_builtin PySem.W.oi_plain PySem.W.entry_oi (@PySem.W.check_slot (model X.prog X.w) _ _ _ "object.__init__" "object" "__init__" (.ref (hh.objs.size+1)) [] [] _ PySem.W.oi_kind PySem.W.oi_split t2 (PySem.W.oi_args (.ref (hh.objs.size+1))) ?_)
 rw[PySem.W.oi_run]
 exact wpAny_pure ⟨rfl,⟨V.ref (hh.objs.size+1),_,I2,rfl,hq⟩⟩
end
section
variable {X:Cx}
def SA:V->Option Int->Option Int->Hp->VK->Prop:=λx lo hi H Q=>∃z,x = .str z/\z.length<=sizeLine/\Q (.str (Txt.slice z lo hi)) H
theorem part_of{v:Value}{o:Option Int}(h:IsPart v o):∃l:Option (Int×Tok),v=partValue l/\l.map (·.1)=o:=by
 cases h with
 |none=>exact⟨none,rfl,rfl⟩
 |int i t=>exact⟨some (i,t),rfl,rfl⟩
theorem nq:Uo X SA:=by
 intro pins s Z H x v vl vu lo hi sl Q I rx hs pl pu h
 obtain⟨z,rfl,hz,q⟩:=h
 obtain⟨t,rfl⟩:=rx
 obtain⟨l,rfl,rfl⟩:=part_of pl
 obtain⟨u,rfl,rfl⟩:=part_of pu
 refine⟨"str",_,F.slot_str_getitem.lookup,typeIs_str _ _ _,wpAny_getItem_str_slice (l:=l) (u:=u) (st:=none) (by obtain⟨o,e,c,d⟩:=hs;exact⟨o,e,c,d⟩) rfl ?_⟩
 exact post_val_or_str ⟨Nat.le_trans (Txt.slice_le z _ _) hz,λt' k=>⟨.str _,H,I.tok _,⟨t',rfl⟩,q⟩⟩
end
section
variable {X:Cx}{D:Ends}{st:Stmt}{rest sts:List Stmt}{t:TS}{Z:St}{H:Hp}
theorem aI(R:St->Hp->Prop)(h:PS X st t)(q:t { D with nx:=R } Z H)(r:∀Z H,R Z H->At X D rest Z H):At X D (st::rest) Z H:=λpins s I =>
 (uL h (u:=λD' Z H=>D'=D/\R Z H) (λpins s Z H D' I ⟨e,z⟩=>by subst e;exact r Z H z pins s I)) pins s Z H D I (by
  have e:(λZ H=>D=D/\R Z H)=R:=by funext Z H;simp
  show t { D with nx:=λZ H=>D=D/\R Z H } Z H
  rw[e];exact q)
theorem Nt{CX:y9}{P:Program}{w:World}{K:PySem.W.Frag}{mg:Str->Option Value}{base:Heap}{N:List Str}{qual:Str}{scope:Scope}{f:Addr}{cd:Value}{A:Around}{outer:List Env}{s:Shared}{H:Hp}{E:XK} :
  (xx CX P w K mg base N qual scope f cd A outer s H E).K=K:=rfl
end
theorem iz{K:PySem.W.Frag}{a:Addr}{xs:List V}{caps:List (Str×Nat)}{te:TE}{Z:St}{H:Hp}{Q:VK}(Pv:Nat->List V->Hp->Prop)(h0:Pv 0 [] H)(hn:xs.length<sizeLine)
  (hq:∀i ys H,i<=xs.length->Pv i ys H->aY K H a xs)
  (hs:∀i x ys H,xs[i]?=some x->ys.length=i->Pv i ys H->te (e9 caps Z++[some x]) H λy H2=>∃m',m'<xs.length-i/\m'=xs.length-(i+1)/\i+1<=xs.length/\(ys++[y]).length=i+1/\Pv (i+1) (ys++[y]) H2) (hd:∀ys H,ys.length=xs.length->Pv xs.length ys H->∀D,H D=none->Q (.ref D) (upd H D (.lst ys))) :
  zT (LV K a) caps te Z H Q:=by
 refine⟨λi m ys H=>m=xs.length-i/\i<=xs.length/\ys.length=i/\Pv i ys H,⟨xs.length,by simp,Nat.zero_le _,rfl,h0⟩,?_⟩
 rintro i m ys H ⟨rfl,hi,hl,p⟩
 have q:=hq i ys H hi p
 by_cases hlt:i<xs.length
 ·refine .inr ⟨⟨xs,xs[i],q,by simp[hlt]⟩,by lia,λx H' y=>?_⟩
  obtain⟨e,y⟩:=y
  subst e
  exact hs i x ys _ (y xs q) hl p
 ·have e:i=xs.length:=by lia
  subst e
  exact .inl ⟨⟨xs,q,Nat.le_refl _⟩,hd ys H hl p⟩
theorem fm{n i:Nat}{ys:List V}{y:V}{R:Prop}(hi:i<n)(hl:ys.length=i)(r:R):∃m',m'<n-i/\m'=n-(i+1)/\i+1<=n/\(ys++[y]).length=i+1/\R :=
 ⟨n-(i+1),by lia,rfl,hi,by simp[hl],r⟩
theorem xK{α:Type}(xs:List α){i:Int}(h0:0<=i)(h1:i<xs.length):∃v,xs[i.toNat]?=some v/\wL xs i=some v:=by
 have h3:i.toNat<xs.length:=by lia
 refine⟨xs[i.toNat],List.getElem?_eq_getElem h3,?_⟩
 have q:=bM (xs:=xs) (List.getElem?_eq_getElem h3)
 rw[Int.toNat_of_nonneg h0] at q
 exact q
theorem qy(a:Int){m:Int}(h:0<m):0<=a % m/\a % m<m:=⟨Int.emod_nonneg _ (by lia),Int.emod_lt_of_pos _ h⟩
theorem bI{n:Nat}(h:n<=1000000):n<=sizeLine:=Nat.le_trans h (by decide)
theorem eV{n:Nat}(h:n<=1000000):n<sizeLine:=Nat.lt_of_le_of_lt h (by decide)
theorem Jm{K:PySem.W.Frag}{i:Nat}{f:Str}{Z:St}{H:Hp}{Q:VK}{a C dx:Addr}{fs:List (Str×V)}{v:V}(e:Z[i]?=some (some (.ref a)))(h:H a=some (.ins C dx fs))(c:lK K C)(n:bx K C f)(l:fs.lookup f=some v)(q:Q v H):NZ K (HE i) f Z H Q :=
 ⟨_,e,a,C,dx,fs,v,rfl,h,c,n,l,q⟩
def CL(J:It)(g:TG)(tb:TS)(D:Ends)(Z:St)(H1:Hp):Prop:=∃W:Nat->Nat->St->Hp->Prop,(∃m,W 0 m Z H1)/\∀i m Z H,W i m Z H ->
 (J.stop i H/\D.nx Z H)∨(J.go i H/\∃N:St->Hp->Prop,(∀Z' H',N Z' H'->∃m',m'<m/\W (i+1) m' Z' H')/\∀x H',J.IZ i H x H'->g x Z H' λZ2 H2=>tb { D with nx:=N,ct:=N,bk:=D.nx } Z2 H2)
def Uj(wi:TI)(g:TG)(tb:TS):TS:=λD Z H=>wi Z H λJ H1=>CL J g tb D Z H1
theorem dO{X:Cx}{tg iter:Expr}{body:List Stmt}{wi:TI}{g:TG}{tb:TS}{pos:Pos}(hp:PassesOwn (model X.prog X.w) X.A X.env X.xe)(hc:X.calm=true)(hi:PI X tg iter wi)(hg:PG X tg g)(hb:xy X body tb)
  (hs:autoParam (∀x,foldedSetIterable iter X.env x=pure x) L2.Y2._auto_1):PS X (.For tg iter body [] pos) (Uj wi g tb):=OI hp hc hi hg hb hs
theorem iA{lo:Int}{n:Nat}{g:TG}{tb:TS}{D:Ends}{Z:St}{H:Hp}(Pv:Nat->St->Hp->Prop)(h0:Pv 0 Z H)
  (hs:∀i Z H,i<n->Pv i Z H->g (.int (lo+i)) Z H λZ2 H2=>tb { D with nx:=Pv (i+1),ct:=Pv (i+1),bk:=D.nx } Z2 H2) (hd:∀Z H,Pv n Z H->D.nx Z H):CL (N8 lo n) g tb D Z H:=Be Pv h0 hs hd
theorem fR{K:PySem.W.Frag}{a:Addr}{xs:List V}{g:TG}{tb:TS}{D:Ends}{Z:St}{H:Hp}(Pv:Nat->St->Hp->Prop)(h0:Pv 0 Z H)(hl:∀i Z H,i<=xs.length->Pv i Z H->aY K H a xs)
  (hs:∀i x Z H,xs[i]?=some x->Pv i Z H->g x Z H λZ2 H2=>tb { D with nx:=Pv (i+1),ct:=Pv (i+1),bk:=D.nx } Z2 H2) (hd:∀Z H,Pv xs.length Z H->D.nx Z H):CL (LV K a) g tb D Z H:=DF Pv h0 hl hs hd
section
variable {κ:Type}[DecidableEq κ]
def eY(kvs:List (κ×V))(k:κ):Option V:=(kvs.find? λkv=>decide (kv.1=k)).map (·.2)
def putK(kvs:List (κ×V))(k:κ)(v:V):List (κ×V) :=
 if (kvs.any λkv=>decide (kv.1=k))=true then kvs.map (λkv=>if kv.1=k then (kv.1,v) else kv) else kvs++[(k,v)]
theorem dN{p:κ×V}{r:List (κ×V)}{k:κ}(e:p.1=k):eY (p::r) k=some p.2:=by simp[eY,List.find?_cons,e]
theorem dQ{p:κ×V}{r:List (κ×V)}{k:κ}(e:¬ p.1=k):eY (p::r) k=eY r k:=by simp[eY,List.find?_cons,e]
theorem iN(k:κ):∀kvs:List (κ×V),(kvs.any λkv=>decide (kv.1=k))=(eY kvs k).isSome
 | []=>rfl
 |p::r=>by
  rw[List.any_cons]
  by_cases e:p.1=k
  ·simp only[dN e,decide_eq_true e,Bool.true_or,Option.isSome_some]
  ·rw[dQ e,decide_eq_false e,Bool.false_or];exact iN k r
theorem uJ(k j:κ)(y:V):∀kvs:List (κ×V),eY (kvs.map λkv=>if kv.1=k then (kv.1,y) else kv) j=(eY kvs j).map λx=>if j=k then y else x
 | []=>rfl
 |p::r=>by
  have ih:=uJ k j y r
  rw[List.map_cons]
  by_cases h:p.1=k
  ·rw[if_pos h]
   by_cases e:p.1=j
   ·rw[dN (p:=(p.1,y)) e,dN e,Option.map_some,if_pos (e.symm.trans h)]
   ·rw[dQ (p:=(p.1,y)) e,dQ e,ih]
  ·rw[if_neg h]
   by_cases e:p.1=j
   ·rw[dN (p:=p) e,dN e,Option.map_some,if_neg (λz=>h (e.trans z))]
   ·rw[dQ (p:=p) e,dQ e,ih]
theorem sd(k j:κ)(y:V):∀kvs:List (κ×V),eY kvs k=none->eY (kvs++[(k,y)]) j=if j=k then some y else eY kvs j
 | [],_=>by
  by_cases e:k=j
  ·rw[if_pos e.symm];exact dN (p:=(k,y)) e
  ·rw[if_neg (λz=>e z.symm)];exact dQ (p:=(k,y)) e
 |p::r,hn=>by
  rw[List.cons_append]
  have hk:¬ p.1=k:=λz=>by rw[dN z] at hn;cases hn
  rw[dQ hk] at hn
  have ih:=sd k j y r hn
  by_cases e:p.1=j
  ·rw[dN e,dN e,if_neg (λz=>hk (e.trans z))]
  ·rw[dQ e,dQ e,ih]
theorem uP(kvs:List (κ×V))(k j:κ)(y:V):eY (putK kvs k y) j=if j=k then some y else eY kvs j:=by
 unfold putK
 by_cases a:(kvs.any λkv=>decide (kv.1=k))=true
 ·rw[if_pos a,uJ]
  rw[iN] at a
  by_cases e:j=k
  ·obtain⟨x,hx⟩:=Option.isSome_iff_exists.mp a
   rw[if_pos e,e,hx,Option.map_some,if_pos rfl]
  ·rw[if_neg e]
   cases eY kvs j with
   |none=>rfl
   |some x=>rw[Option.map_some,if_neg e]
 ·rw[if_neg a]
  refine sd k j y kvs ?_
  rw[iN] at a
  cases q:eY kvs k with
  |none=>rfl
  |some x=>rw[q] at a;exact(a rfl).elim
theorem kD(kvs:List (κ×V))(k:κ)(v:V):(putK kvs k v).length<=kvs.length+1:=by
 unfold putK
 split
 ·rw[List.length_map];lia
 ·rw[List.length_append,List.length_cons,List.length_nil];lia
theorem CP{kvs:List (κ×V)}{k:κ}(v:V)(h:eY kvs k=none):putK kvs k v=kvs++[(k,v)]:=by
 unfold putK
 rw[iN,h]
 exact if_neg (by decide)
theorem ju.kI{o:Option V}{u:Option Value}(r:ju o u):o.isSome=u.isSome:=by
 cases o with
 |none=>cases u with
  |none=>rfl
  |some _=>exact(show False from r).elim
 |some _=>cases u with
  |none=>exact(show False from r).elim
  |some _=>rfl
theorem ju.getD{o:Option V}{u:Option Value}{d:V}{d':Value}(r:ju o u)(rd:RelV d d'):RelV (o.getD d) (u.getD d'):=by
 cases o with
 |none=>cases u with
  |none=>exact rd
  |some _=>exact(show False from r).elim
 |some _=>cases u with
  |none=>exact(show False from r).elim
  |some _=>exact r
theorem KV.val{kvs:List (κ×V)}{vs:List (κ×Value)}(r:KV kvs vs)(k:κ):ju (eY kvs k) (valueAt vs k):=by
 unfold KV at r
 induction r with
 |nil=>exact True.intro
 | @cons p q ps qs h t ih =>
  obtain⟨h1,h2⟩:=h
  by_cases e:p.1=k
  ·have e':q.1=k:=h1.symm.trans e
   have b:valueAt (q::qs) k=some q.2:=by simp[valueAt,List.find?_cons,e']
   rw[dN e,b];exact h2
  ·have e':¬ q.1=k:=λz=>e (h1.trans z)
   have b:valueAt (q::qs) k=valueAt qs k:=by simp[valueAt,List.find?_cons,e']
   rw[dQ e,b];exact ih
theorem KV.any{kvs:List (κ×V)}{vs:List (κ×Value)}(r:KV kvs vs)(k:κ):(kvs.any λkv=>decide (kv.1=k))=vs.any λkv=>decide (kv.1=k):=by
 unfold KV at r
 induction r with
 |nil=>rfl
 |cons h t ih=>rw[List.any_cons,List.any_cons,ih,h.1]
theorem KV.repl{kvs:List (κ×V)}{vs:List (κ×Value)}(r:KV kvs vs)(k:κ){y:V}{u:Value}(ry:RelV y u) :
  KV (kvs.map λkv=>if kv.1=k then (kv.1,y) else kv) (vs.map λkv=>if kv.1=k then (kv.1,u) else kv):=by
 unfold KV at r ⊢
 induction r with
 |nil=>exact .nil
 | @cons p q ps qs h t ih =>
  rw[List.map_cons,List.map_cons]
  refine .cons ?_ ih
  obtain⟨h1,h2⟩:=h
  by_cases e:p.1=k
  ·rw[if_pos e,if_pos (h1.symm.trans e)];exact⟨h1,ry⟩
  ·rw[if_neg e,if_neg (λz=>e (h1.trans z))];exact⟨h1,h2⟩
theorem KV.put{kvs:List (κ×V)}{vs:List (κ×Value)}(r:KV kvs vs)(k:κ){y:V}{u:Value}(ry:RelV y u):KV (putK kvs k y) (stored vs k u):=by
 unfold putK stored
 rw[r.any k]
 by_cases e:(vs.any λkv=>decide (kv.1=k))=true
 ·rw[if_pos e,if_pos e];exact r.repl k ry
 ·rw[if_neg e,if_neg e];exact Paired.snoc r ⟨rfl,ry⟩
theorem KV.keys{kvs:List (κ×V)}{vs:List (κ×Value)}(r:KV kvs vs):kvs.map (·.1)=vs.map (·.1):=by
 unfold KV at r
 induction r with
 |nil=>rfl
 |cons h t ih=>rw[List.map_cons,List.map_cons,ih,h.1]
theorem KV.length{kvs:List (κ×V)}{vs:List (κ×Value)}(r:KV kvs vs):kvs.length=vs.length:=Paired.length r
end
theorem ou{P:Program}{w:World}{k:Key}{u:Value}(r:RelV (kV k) u):(bL P w).is k u=true:=by
 cases k with
 |inl i=>obtain⟨t,e⟩:=(show ∃t,u=Value.int i t from r);subst e;exact vC P w i t
 |inr x=>obtain⟨t,e⟩:=(show ∃t,u=Value.str x t from r);subst e;exact vf P w x t
theorem rT{P:Program}{w:World}:∀{ks:List Key} {us:List Value},Vals (ks.map kV) us->ItemsAre (bL P w) ks us
 | [],_,r=>by rw[List.map_nil] at r;cases r;exact .nil
 |k::ks,_,r=>by
  rw[List.map_cons] at r
  cases r with
  |cons h t=>exact .cons (ou h) (rT t)
abbrev KT(H:Hp):List (List Key×V)->List (List Key×Addr×Value)->Prop:=Paired λp q=>p.1=q.1/\H q.2.1=some (.tup (p.1.map kV))/\RelV p.2 q.2.2
theorem KT.val{H:Hp}{kvs:List (List Key×V)}{xs:List (List Key×Addr×Value)}(r:KT H kvs xs)(k:List Key):ju (eY kvs k) ((atKey xs k).map (·.2)):=by
 induction r with
 |nil=>exact True.intro
 | @cons p q ps qs h t ih =>
  obtain⟨h1,_,h2⟩:=h
  by_cases e:p.1=k
  ·have e':q.1=k:=h1.symm.trans e
   have b:atKey (q::qs) k=some q.2:=by simp[atKey,List.find?_cons,e']
   rw[dN e,b];exact h2
  ·have e':¬ q.1=k:=λz=>e (h1.trans z)
   have b:atKey (q::qs) k=atKey qs k:=by simp[atKey,List.find?_cons,e']
   rw[dQ e,b];exact ih
theorem KT.repl{H:Hp}{kvs:List (List Key×V)}{xs:List (List Key×Addr×Value)}(r:KT H kvs xs)(k:List Key){y:V}{u:Value}(ry:RelV y u) :
  KT H (kvs.map λkv=>if kv.1=k then (kv.1,y) else kv) (xs.map (putAt k u)):=by
 induction r with
 |nil=>exact .nil
 | @cons p q ps qs h t ih =>
  rw[List.map_cons,List.map_cons]
  refine .cons ?_ ih
  obtain⟨h1,h2,h3⟩:=h
  unfold putAt
  by_cases e:p.1=k
  ·rw[if_pos e,if_pos (h1.symm.trans e)];exact⟨h1,h2,ry⟩
  ·rw[if_neg e,if_neg (λz=>e (h1.trans z))];exact⟨h1,h2,h3⟩
theorem KT.put{H:Hp}{kvs:List (List Key×V)}{xs:List (List Key×Addr×Value)}(r:KT H kvs xs)(k:List Key){b:Addr}{y:V}{u:Value}(hb:H b=some (.tup (k.map kV)))(ry:RelV y u) :
  KT H (putK kvs k y) (storedH xs k b u):=by
 have e:(kvs.any λkv=>decide (kv.1=k))=(atKey xs k).isSome:=by
  rw[iN,(r.val k).kI,Option.isSome_map]
 unfold putK storedH
 rw[e]
 by_cases q:(atKey xs k).isSome=true
 ·rw[if_pos q,if_pos q];exact r.repl k ry
 ·rw[if_neg q,if_neg q];exact Paired.snoc r ⟨rfl,hb,ry⟩
theorem KT.keeps{H H':Hp}{kvs:List (List Key×V)}{xs:List (List Key×Addr×Value)}(r:KT H kvs xs)(ht:∀b ys,H b=some (.tup ys)->H' b=some (.tup ys)):KT H' kvs xs :=
 Paired.Nu r λ_ _ z=>⟨z.1,ht _ _ z.2.1,z.2.2⟩
section
variable {P:Program}{w:World}{H:Hp}{h:Heap}{a:Addr}
theorem LS{u:HO}(ok:kT P w H h)(e:Rd H a u):cH P w H h a u:=e.ok ok
theorem nY{kvs:List (Key×V)}(ok:kT P w H h)(e:Rd H a (.dK kvs)):kvs.length<=sizeLine/\(a == sysModules)=false/\∃vs,KV kvs vs/\h.DictOf (bL P w) a vs :=
 show cH P w H h a (.dK kvs) from LS ok e
theorem AB{kvs:List (Key×V)}(ok:kT P w H h)(e:H a=some (.dK kvs)):kvs.length<=sizeLine/\(a == sysModules)=false/\∃vs,KV kvs vs/\h.DictOf (bL P w) a vs:=nY ok (.inl e)
theorem qE{ks:List Key}(ok:kT P w H h)(e:H a=some (.tup (ks.map kV))):(tupleKind (bL P w)).is h ks a:=by
 obtain⟨_,its,r,o,h1,h2,n,h3⟩:=(show cH P w H h a (.tup (ks.map kV)) from ok a _ e)
 exact⟨o,its.toArray,n,h1,h2,h3,by simpa using rT r⟩
theorem qu{kvs:List (List Key×V)}(ok:kT P w H h)(e:Rd H a (.dT kvs)):kvs.length<=sizeLine/\(a == sysModules)=false /\
  ∃xs,KT H kvs xs/\h.DictOfH (tupleKind (bL P w)) a xs:=by
 obtain⟨z,y,xs,r,o,es,ep,h1,h2,h3,h4,h5⟩:=(show cH P w H h a (.dT kvs) from LS ok e)
 refine⟨z,y,xs,r,o,es,ep,h1,h2,h3,h4,λx hx=>?_,h5⟩
 have all:∀{l:List (List Key×V)} {m:List (List Key×Addr×Value)},KT H l m->∀x∈m,(tupleKind (bL P w)).is h x.1 x.2.1:=by
  intro l m q
  induction q with
  |nil=>intro x hx;exact nomatch hx
  | @cons p q ps qs hq t ih =>
   intro x hx
   rcases List.mem_cons.mp hx with e|hx
   ·subst e
    exact qE ok (by rw[← hq.1];exact hq.2.1)
   ·exact ih x hx
 exact all r x hx
theorem SH{kvs:List (List Key×V)}(ok:kT P w H h)(e:H a=some (.dT kvs)):kvs.length<=sizeLine/\(a == sysModules)=false /\
  ∃xs,KT H kvs xs/\h.DictOfH (tupleKind (bL P w)) a xs:=qu ok (.inl e)
end
def nG(H:Hp)(a:Addr)(y:V)(r:Option V):Prop :=
 (∃kvs k,Rd H a (.dK kvs)/\y=kV k/\r=eY kvs k)∨∃kvs k b,Rd H a (.dT kvs)/\y = .ref b/\H b=some (.tup (k.map kV))/\r=eY kvs k
def Ga(H:Hp)(a:Addr)(y v:V)(H':Hp):Prop :=
 (∃kvs k,H a=some (.dK kvs)/\y=kV k/\kvs.length<sizeLine/\H'=upd H a (.dK (putK kvs k v))) ∨
 ∃kvs k b,H a=some (.dT kvs)/\y = .ref b/\H b=some (.tup (k.map kV))/\kvs.length<sizeLine/\H'=upd H a (.dT (putK kvs k v))
theorem nG.k{H:Hp}{a:Addr}{kvs:List (Key×V)}{k:Key}(e:H a=some (.dK kvs)):nG H a (kV k) (eY kvs k):=.inl ⟨kvs,k,.inl e,rfl,rfl⟩
theorem Ga.k{H:Hp}{a:Addr}{kvs:List (Key×V)}{k:Key}{v:V}(e:H a=some (.dK kvs))(hl:kvs.length<sizeLine):Ga H a (kV k) v (upd H a (.dK (putK kvs k v))):=.inl ⟨kvs,k,e,rfl,hl,rfl⟩
section
variable {X:Cx}{pins:List (Addr×Obj)}{Z:St}{H:Hp}{s:Shared}{a:Addr}{y v:V}{u r:Value}{o:Option V}{A:Around}{E:Value->Shared->Prop}
theorem Inv.big(I:Inv X pins Z H s):sysModules<s.heap.objs.size:=by
 have h:mainGlobals<s.heap.objs.size:=(I.mod.glob.keeps I.bk).lt
 exact Nat.lt_trans (by decide) h
theorem AY{Q:Value->Shared->Prop}(hu:A.units+1<cLine)(I:Inv X pins Z H s)(g:nG H a y (some v))(ry:RelV y u)(h:∀w' s',Inv X pins Z H s'->RelV v w'->Q w' s') :
  wpAny (model X.prog X.w) A (getItem (.ref a) u) Q E s:=by
 rcases g with ⟨kvs,k,e,ey,l⟩|⟨kvs,k,b,e,ey,eb,l⟩
 ·subst ey
  obtain⟨z,hd,vs,rel,dd⟩:=nY I.hok e
  obtain⟨w',hw,rw'⟩:=ju.some_of (v:=v) (o:=valueAt vs k) (by rw[l];exact rel.val k)
  exact wpAny_getItem_of (ou ry) dd.mapOf hw (h w' _ (I.tok _) rw')
 ·subst ey
  cases (show u=Value.ref b from ry)
  obtain⟨z,hd,xs,rel,dd⟩:=qu I.hok e
  obtain⟨w',hw,rw'⟩:=ju.some_of (v:=v) (o:=(atKey xs k).map (·.2)) (by rw[l];exact rel.val k)
  obtain⟨p,hp,hp2⟩:=Option.map_eq_some_iff.mp hw
  refine wpAny_getItem_heap (tupleKind_room_in1 hu) (qE I.hok eb) dd hp ?_
  rw[hp2]
  exact h w' _ (I.tok _) rw'
theorem IB{Q:Value->Shared->Prop}(hu:A.units+1<cLine)(I:Inv X pins Z H s)(g:nG H a y o)(ry:RelV y u)(h:∀s',Inv X pins Z H s'->Q (.bool (!o.isSome)) s') :
  wpAny (model X.prog X.w) A (compareOp .NotIn u (.ref a)) Q E s:=by
 rcases g with ⟨kvs,k,e,ey,l⟩|⟨kvs,k,b,e,ey,eb,l⟩
 ·subst ey
  obtain⟨z,hd,vs,rel,dd⟩:=nY I.hok e
  refine wpAny_notIn_of (ou ry) hd dd.mapOf ?_
  rw[← (rel.val k).kI,← l]
  exact h _ (I.tok _)
 ·subst ey
  cases (show u=Value.ref b from ry)
  obtain⟨z,hd,xs,rel,dd⟩:=qu I.hok e
  refine wpAny_notIn_heap (tupleKind_room_in1 hu) (qE I.hok eb) hd dd ?_
  have q:=(rel.val k).kI
  rw[Option.isSome_map] at q
  rw[← q,← l]
  exact h _ (I.tok _)
theorem zx{h':Heap}{t':Nat}{ob:HO}(I:Inv X pins Z H s)(mu:Tj (H a))(hs:Heap.SameBut a s.heap h')(he:∃q,h'.get? a=some q)(new:cH X.prog X.w (upd H a ob) h' a ob) :
  Inv X pins Z (upd H a ob) { s with heap:=h',toks:=t' } :=
 I.write (x:=a) (e:=a) mu (.inl rfl) (λb q hb z=>(hs.2 b hb).trans z) he new
theorem Fi{P:Program}{w:World}{H':Hp}{h':Heap}{kvs:List (Key×V)}{vs:List (Key×Value)}(z:kvs.length<=sizeLine)(hd:(a == sysModules)=false)(rel:KV kvs vs)(dd:h'.DictOf (bL P w) a vs) :
  cH P w H' h' a (.dK kvs):=⟨z,hd,vs,rel,dd⟩
theorem Bu{H':Hp}{Q:Unit->Shared->Prop}(hu:A.units+1<cLine)(I:Inv X pins Z H s)(g:Ga H a y v H')(ry:RelV y u)(rv:RelV v r)(h:∀s',Inv X pins Z H' s'->Q () s') :
  wpAny (model X.prog X.w) A (setItem (.ref a) u r) Q E s:=by
 rcases g with ⟨kvs,k,e,ey,l,eH⟩|⟨kvs,k,b,e,ey,eb,l,eH⟩
 ·subst ey eH
  obtain⟨z,hd,vs,rel,dd⟩:=AB I.hok e
  have hz:vs.length<=sizeLine:=by rw[← rel.length];exact z
  have hl:(putK kvs k v).length<=sizeLine:=by have:=kD kvs k v;lia
  refine wpAny_setItem_pairs (hsz:=hz) (ou ry) dd λh' dd' hs=>h _ ?_
  have he:∃q,h'.get? a=some q:=let ⟨q,_,_,hq,_⟩:=dd';⟨q,hq⟩
  exact zx I (by rw[e];exact True.intro) hs he (Fi hl hd (rel.put k rv) dd')
 ·subst ey eH
  cases (show u=Value.ref b from ry)
  obtain⟨z,hd,xs,rel,dd⟩:=SH I.hok e
  have hz:xs.length<=sizeLine:=by rw[← Paired.length rel];exact z
  have hl:(putK kvs k v).length<=sizeLine:=by have:=kD kvs k v;lia
  refine wpAny_setItem_heap (hsz:=hz) (tupleKind_room_in1 hu) (qE I.hok eb) dd λh' dd' hs=>h _ ?_
  obtain⟨q,es,ep,hq,h2,h3,h4,_,h5⟩:=dd'
  refine zx I (by rw[e];exact True.intro) hs ⟨q,hq⟩ ⟨hl,hd,_,(rel.put k eb rv).keeps λc ys ec=>?_,q,es,ep,hq,h2,h3,h4,h5⟩
  rw[aj (cA ec e (λz=>nomatch z))]
  exact ec
end
section
variable {X:Cx}{pins:List (Addr×Obj)}{Z:St}{H:Hp}{s:Shared}{a:Addr}{kvs:List (Key×V)}{k:Key}{u:Value}{A:Around}{E:Value->Shared->Prop}
theorem SS {Q:Value->Shared->Prop} (I:Inv X pins Z H s) (e:Rd H a (.dK kvs)) (h:∀t s',Inv X pins Z H s'->Q (.int kvs.length t) s'):wpAny (model X.prog X.w) A (call (.builtin "len") [.ref a]) Q E s:=by
 obtain⟨z,hd,vs,rel,dd⟩:=nY I.hok e
 refine call_len_dict hd dd (by rw[← rel.length];rw[sizeLine_eq] at z;lia) ?_
 rw[← rel.length]
 exact h _ _ (I.tok _)
end
def QK(i:Expr):Prop:=∀ov iv,subscripted i false ov iv=operate [ov,iv] (getItem ov iv)
theorem Ao{prog:Program}{w:World}{A:Around}{E:Value->Shared->Prop}{s:Shared}{env:Env}{value slice:Expr}{pos:Pos}{T id:String}{Q:Value->Shared->Prop}
  (hl:typeLookup (.type T) "__getitem__" = pure (some (.builtin id))) (hs:QK slice)
  (h:wpAny (model prog w) A (eval value env) (λo s₁=>wpAny (model prog w) A (eval slice env) (λi s₂=>s₂.TypeIs o T/\wpAny (model prog w) A (getItem o i) Q E s₂) E s₁) E s) :
  wpAny (model prog w) A (eval (.Subscript value slice pos) env) Q E s:=by
 refine Subscript_ (wpAny_mono h (λo s₁ h₁=>wpAny_mono h₁ (λi s₂ h₂=>?_) λ_ _ x=>x) λ_ _ x=>x)
 obtain⟨hT,h₂⟩:=h₂
 unfold subscriptTail
 refine wpAny_bind ?_
 rw[getitemInPython_of_ne hT.not_modules]
 refine wpAny_bind (wpAny_specialOf hT hl ?_)
 have fin:wpAny (model prog w) A (subscripted slice false o i) (λr s₃=>wpAny (model prog w) A (letTemporaryGo value o r >>= λ_=>pure r) Q E s₃) E s₂:=by
  rw[hs o i]
  exact wpAny_operating (wpAny_mono h₂ (λr s₃ h₃=>wpAny_bind (wpAny_letTemporaryGo (wpAny_pure h₃))) λ_ _ x=>x)
 first
  |exact wpAny_pure (wpAny_bind fin)
  |exact wpAny_bind (wpAny_pure (wpAny_bind fin))
  |exact wpAny_bind fin
theorem uM {X:Cx} {pins:List (Addr×Obj)} {Z:St} {H:Hp} {s:Shared} {a:Addr} {y:V} {o:Option V} (I:Inv X pins Z H s) (g:nG H a y o):s.TypeIs (.ref a) "dict" := by
 rcases g with ⟨kvs,k,e,_,_⟩|⟨kvs,k,b,e,_,_,_⟩
 ·obtain⟨_,_,vs,_,dd⟩:=nY I.hok e
  exact dd.typeIs
 ·obtain⟨_,_,xs,_,dd⟩:=qu I.hok e
  exact dd.typeIs
theorem wj{X:Cx}{pins:List (Addr×Obj)}{Z:St}{H:Hp}{s:Shared}{a:Addr}{y:V}{o:Option V}(I:Inv X pins Z H s)(g:nG H a y o) :
  ∀b,Value.ref a = .ref b->∃ob,s.heap.get? b=some ob/\ob.dict=none:=λb q=>by
 cases q
 rcases g with ⟨kvs,k,e,_,_⟩|⟨kvs,k,b,e,_,_,_⟩
 ·obtain⟨_,_,vs,_,ob,_,_,h1,h2,_⟩:=nY I.hok e
  exact⟨ob,h1,h2.2.1⟩
 ·obtain⟨_,_,xs,_,ob,_,_,h1,h2,_⟩:=qu I.hok e
  exact⟨ob,h1,h2.2.1⟩
def TZ(td ty:TE):TE:=λZ H Q=>td Z H λx H1=>ty Z H1 λy H2=>∃a v,x = .ref a/\nG H2 a y (some v)/\Q v H2
def JE(ty td:TE):TE:=λZ H Q=>ty Z H λy H1=>td Z H1 λx H2=>∃a o,x = .ref a/\nG H2 a y o/\Q (.bl (!o.isSome)) H2
def Tq(td ty tv:TE):TS:=λD Z H=>tv Z H λv H1=>td Z H1 λx H2=>ty Z H2 λy H3=>∃a H4,x = .ref a/\Ga H3 a y v H4/\D.nx Z H4
section
variable {X:Cx}{o i e value:Expr}{pos pos' tpos:Pos}{td ty tv:TE}
theorem Ax(hu:X.A.units+1<cLine)(ho:PE X o td)(hi:PE X i ty)(hs:QK i):PE X (.Subscript o i pos) (TZ td ty):=by
 intro pins s Z H Q I h
 refine Ao PySem.F.slot_dict_getitem.lookup hs (cL (ho pins s Z H _ I h) λu s1 ⟨x,H1,I1,rx,q1⟩=>cL (hi pins s1 Z H1 _ I1 q1) λiv s2  hZ=>?_)
 obtain⟨y,H2,I2,ry,a,v,ex,g,q2⟩:=hZ
 subst ex
 obtain rfl:u=Value.ref a:=rx
 exact⟨uM I2 g,AY hu I2 g ry λw' s3 I3 rw'=>⟨v,H2,I3,rw',q2⟩⟩
theorem BE(hu:X.A.units+1<cLine)(hi:PE X i ty)(ho:PE X o td):PC X .NotIn i o (JE ty td):=by
 intro pins s Z H Q I h
 refine cL (hi pins s Z H _ I h) λiv s1 ⟨y,H1,I1,ry,q1⟩=>cL (ho pins s1 Z H1 _ I1 q1) λu s2  hZ=>?_
 obtain⟨x,H2,I2,rx,a,ov,ex,g,q2⟩:=hZ
 subst ex
 obtain rfl:u=Value.ref a:=rx
 exact IB hu I2 g ry λs3 I3=>⟨.bl (!ov.isSome),H2,I3,rfl,q2⟩
theorem IW(hu:X.A.units+1<cLine)(ho:PE X o td)(hi:PE X i ty)(hv:PE X value tv)(hs:swapsWith value (some (.Subscript o i pos')) pos.line X.env=pure false) :
  PS X (.Assign [.Subscript o i pos'] value pos) (Tq td ty tv):=by
 intro pins s Z H D I h
 refine wpAny_Assign_Subscript (cL (hv pins s Z H _ I h) λr s1 ⟨v,H1,I1,rv,q1⟩=>cL (ho pins s1 Z H1 _ I1 q1) λu s2 ⟨x,H2,I2,rx,q2⟩=>cL (hi pins s2 Z H2 _ I2 q2) λiv s3 hY=>?_) hs
 obtain⟨y,H3,I3,ry,a,H4,ex,g,q3⟩:=hY
 subst ex
 obtain rfl:u=Value.ref a:=rx
 exact Bu hu I3 g ry rv λs4 I4=>⟨Z,H4,I4,q3⟩
end
theorem Fc {P:Program} {w:World} {H:Hp} (h:Heap) (hb:sysModules<h.objs.size):cH P w H (h.push { cls:=.type "dict",data:=.dict #[] }) h.objs.size (.dK []) :=
 ⟨Nat.zero_le _,beq_eq_false_iff_ne.mpr (Ne.symm (Nat.ne_of_lt hb)),[],.nil,Heap.DictOf.new h⟩
def N1:TE:=λ_ H Q=>∀p,H p=none->Q (.ref p) (upd H p (.dK []))
section
variable {X:Cx}{pos:Pos}
theorem wo:PE X (.Dict [] [] pos) N1:=λpins s Z H Q I h =>
 wpAny_Dict_empty ⟨.ref s.heap.objs.size,_,I.laid (a:=s.heap.objs.size) (o:=.dK []) (t':=s.toks) (λ_ _ q=>Heap.get?_push_of_some _ q) (Nat.le_refl _) (Fc s.heap I.big),rfl,h _ (I.hok.fresh (Nat.le_refl _))⟩
end
def jZ(kvs more:List (Key×V)):List (Key×V):=more.foldl (λacc kv=>putK acc kv.1 kv.2) kvs
theorem KV.merge:∀{more:List (Key×V)} {rs:List (Key×Value)} {kvs:List (Key×V)} {vs:List (Key×Value)},KV more rs->KV kvs vs->KV (jZ kvs more) (merged vs rs):=by
 intro more rs kvs vs r
 unfold KV at r
 induction r generalizing kvs vs with
 |nil=>intro q;exact q
 | @cons p q ps qs h t ih =>
  intro r0
  have e:KV (putK kvs p.1 p.2) (stored vs q.1 q.2):=by
   have:=r0.put p.1 h.2
   rw[← h.1];exact this
  exact ih e
theorem kZ:∀(more kvs:List (Key×V)),(jZ kvs more).length<=kvs.length+more.length
 | [],kvs=>by show kvs.length<=kvs.length+0;lia
 |p::r,kvs=>by
  have h1:=kZ r (putK kvs p.1 p.2)
  have h2:=kD kvs p.1 p.2
  show (jZ (putK kvs p.1 p.2) r).length<=_
  rw[List.length_cons];lia
structure M1(X:Cx)(o:Expr)(m:Str)(apos:Pos)(e:Expr)(cpos:Pos):Prop where
 base:attributeBase o m X.env (eval o X.env)=eval o X.env
 few:((backTo cpos (starEach [e] X.env)).all (λx=>!x.1) && (backToKw cpos (keywordEach [] X.env)).all (λx=>x.1.isSome)
  && decide (([e]:List Expr).length+([]:List Keyword).length+(if ([]:List Keyword).isEmpty then 0 else 1)<30))=true
 line:(apos.endLine == cpos.line)=true
 trees:backTo cpos (starEach [e] X.env)=[(false,eval e X.env)]
def IsD(H:Hp)(a:Addr):Prop:=(∃kvs,Rd H a (.dK kvs))∨∃kvs,Rd H a (.dT kvs)
theorem Qq{X:Cx}{pins:List (Addr×Obj)}{Z:St}{H:Hp}{s:Shared}{a:Addr}(I:Inv X pins Z H s)(d:IsD H a) :
  s.TypeIs (.ref a) "dict" /\ (∀b,Value.ref a = .ref b->∃ob,s.heap.get? b=some ob/\ob.dict=none)/\(a == sysModules)=false:=by
 rcases d with ⟨kvs,e⟩|⟨kvs,e⟩
 ·obtain⟨_,hd,vs,_,dd⟩:=nY I.hok e
  refine⟨dd.typeIs,λb q=>?_,hd⟩
  cases q
  obtain⟨ob,_,_,h1,h2,_⟩:=dd
  exact⟨ob,h1,h2.2.1⟩
 ·obtain⟨_,hd,xs,_,dd⟩:=qu I.hok e
  refine⟨dd.typeIs,λb q=>?_,hd⟩
  cases q
  obtain⟨ob,_,_,h1,h2,_⟩:=dd
  exact⟨ob,h1,h2.2.1⟩
section
variable {X:Cx}{pins:List (Addr×Obj)}{Z:St}{H:Hp}{s:Shared}{a:Addr}{y d:V}{u r:Value}{o:Option V}{A:Around}{E:Value->Shared->Prop}
theorem O6{Q:Value->Shared->Prop}(hu:A.units+1<cLine)(I:Inv X pins Z H s)(g:nG H a y o)(ry:RelV y u)(h:∀w' s',Inv X pins Z H s'->RelV (o.getD .cu) w'->Q w' s') :
  wpAny (model X.prog X.w) A (call (.builtin "dict.get") [.ref a,u]) Q E s:=by
 rcases g with ⟨kvs,k,e,ey,l⟩|⟨kvs,k,b,e,ey,eb,l⟩
 ·subst ey
  obtain⟨z,hd,vs,rel,dd⟩:=nY I.hok e
  refine call_meetsIn PySem.F.slot_dict_get dd.typeIs PySem.F.entry_dict_get (PySem.F.args_dict_get_2 _ _) (meets_dict_get (bL X.prog X.w) a (ou ry) hd) ⟨_,dd.mapOf,h _ _ (I.tok _) ?_⟩
  rw[l]
  exact(rel.val k).getD rfl
 ·subst ey
  cases (show u=Value.ref b from ry)
  obtain⟨z,hd,xs,rel,dd⟩:=qu I.hok e
  refine call_meetsIn PySem.F.slot_dict_get dd.typeIs PySem.F.entry_dict_get (PySem.F.args_dict_get_2 _ _) (meetsH_dict_get (tupleKind (bL X.prog X.w)) a b hd) ⟨tupleKind_room_in1 hu,k,xs,qE I.hok eb,dd,h _ _ (I.tok _) ?_⟩
  rw[l]
  exact(rel.val k).getD rfl
end
def Rk(td ty:TE):TE:=λZ H Q=>td Z H λx H1=>∃a,x = .ref a/\IsD H1 a/\ty Z H1 λy H2=>∃o,nG H2 a y o/\Q (o.getD .cu) H2
section
variable {X:Cx}{o e f:Expr}{apos cpos:Pos}{td ty tx:TE}
theorem FH (hu:X.A.units+1<cLine) (ho:PE X o td) (he:PE X e ty) (m:M1 X o "get" apos e cpos):PE X (.Call (.Attribute o "get" apos) [e] [] cpos) (Rk td ty):=by
 intro pins s Z H Q I h
 refine wpAny_Call_method m.base m.few m.line PySem.F.plainAttrs_dict PySem.F.slot_dict_get PySem.F.type_dict_get (cL (ho pins s Z H _ I h) λu s1  hZ=>?_)
 obtain⟨x,H1,I1,rx,a,ex,d,q1⟩:=hZ
 subst ex
 obtain rfl:u=Value.ref a:=rx
 obtain⟨t1,t2,_⟩:=Qq I1 d
 refine⟨t1,t2,?_⟩
 rw[m.trees]
 refine Calls.callWith_builtin rfl (Calls.evalArgs_plain (Calls.spliced_cons (cL (he pins s1 Z H1 _ I1 q1) λiv s2 ⟨y,H2,I2,ry,ov,g,q2⟩=>Calls.spliced_nil ?_)))
 exact O6 hu I2 g ry λw' s3 I3 rw'=>⟨_,H2,I3,rw',q2⟩
end
section
variable {X:Cx}{pins:List (Addr×Obj)}{Z:St}{H:Hp}{s:Shared}{a:Addr}{kvs:List (Key×V)}{A:Around}{E:Value->Shared->Prop}
end
section
variable {X:Cx}{pins:List (Addr×Obj)}{Z:St}{H:Hp}{s:Shared}{a:Addr}{y:V}{u:Value}{A:Around}{E:Value->Shared->Prop}
end
section
variable {X:Cx}
theorem BQ:iE X (.builtin "len") (λxs H Q=>∃a kvs,xs=[V.ref a]/\H a=some (.dK kvs)/\Q (.int kvs.length) H):=by
 intro pins s Z H xs us Q I r h
 obtain⟨a,kvs,rfl,ha,q⟩:=h
 obtain⟨u,rfl,ru⟩:=vals1 r
 cases ru
 exact SS I (.inl ha) λt s' I'=>⟨.int kvs.length,H,I',⟨t,rfl⟩,q⟩
end
section
variable {κ:Type}[DecidableEq κ]
theorem Il{kvs:List (κ×V)}{k:κ}{v:V}(h:eY kvs k=some v):k∈kvs.map (·.1):=by
 have q:(kvs.any λkv=>decide (kv.1=k))=true:=by
  rw[iN,h]
  all_goals rfl
 obtain⟨p,hp,e⟩:=List.any_eq_true.mp q
 exact List.mem_map.mpr ⟨p,hp,of_decide_eq_true e⟩
end
section
variable {X:Cx}
def Ec:V->List V->Hp->VK->Prop:=λx vs H Q=>∃a b:Str,x = .str a/\vs=[.str b]/\(b.length == 0)=false/\a.length+2<=sizeLine/\∀p,H p=none->Q (.ref p) (upd H p (.lst ((PySem.Txt.split a b).map V.str)))
theorem AW:∀(n:Nat) (ys:List Str),Vals (ys.map V.str) (strsFrom n ys):=by
 intro n ys
 rw[strsFrom_eq]
 have aux:∀(l:List (Str×Tok)),Vals ((l.map (·.1)).map V.str) (strValues l):=by
  intro l
  induction l with
  |nil=>exact .nil
  |cons p r ih=>exact .cons ⟨p.2,rfl⟩ ih
 have:=aux (numbered n ys)
 rwa [numbered_texts] at this
theorem jh:KO X "str.split" Ec:=by
 intro pins s Z H x vs v us Q I rx rv h
 obtain⟨a,b,rfl,rfl,hb,hz,q⟩:=h
 obtain⟨t,rfl⟩:=rx
 obtain⟨u,rfl,ru⟩:=rv.one
 obtain⟨t1,rfl⟩:=ru
 have q0:=q s.heap.objs.size (I.hok.fresh (Nat.le_refl _))
 have hle:=PyProof.Rows.split_le a b
 cases h1:(decide (a.length<b.length) || decide (Builtin.Str.strKind a<Builtin.Str.strKind b))
 ·cases hf:(Builtin.Str.occurrences a b 0 a.length (a.length+1)).isEmpty
  ·have e:PySem.Txt.split a b=Builtin.Str.partsBetween a (Builtin.Str.occurrences a b 0 a.length (a.length+1)) b.length:=by
    unfold PySem.Txt.split
    rw[if_neg (ne_true_of_eq_false h1),if_neg (ne_true_of_eq_false hf)]
   rw[e] at q0 hle
   refine call_meets F.slot_str_split (typeIs_str _ _ _) F.entry_str_split (F.args_str_split_2 _ _) (meets_str_split_sep a b t t1 h1 hb hf (by lia) (by lia)) ?_
   exact⟨.ref _,_,I.Gn (t':=_) (AW s.toks _) (by rw[List.length_map];lia),rfl,q0⟩
  ·have e:PySem.Txt.split a b=[a]:=by
    unfold PySem.Txt.split
    rw[if_neg (ne_true_of_eq_false h1),if_pos hf]
   rw[e] at q0
   refine call_meets F.slot_str_split (typeIs_str _ _ _) F.entry_str_split (F.args_str_split_2 _ _) (meets_str_split_not_found a b t t1 h1 hb hf) ?_
   exact⟨.ref _,_,I.Gn (ys:=[.str a]) (t':=s.toks) (.cons ⟨t,rfl⟩ .nil) (by show 1<=sizeLine;decide),rfl,q0⟩
 ·have e:PySem.Txt.split a b=[a]:=by
   unfold PySem.Txt.split
   rw[if_pos h1]
  rw[e] at q0
  refine call_meets F.slot_str_split (typeIs_str _ _ _) F.entry_str_split (F.args_str_split_2 _ _) (meets_str_split_cannot_occur a b t t1 h1) ?_
  exact⟨.ref _,_,I.Gn (ys:=[.str a]) (t':=s.toks) (.cons ⟨t,rfl⟩ .nil) (by show 1<=sizeLine;decide),rfl,q0⟩
theorem vJ{bs:List Bool}:∀{us:List Value},Vals (bs.map V.bl) us->LSm.BoolsAre us bs:=by
 induction bs with
 |nil=>intro us r;cases r;exact .nil
 |cons y r ih =>
  intro us h
  cases h with
  |cons h t =>
   cases h
   exact .cons _ (ih t)
theorem nP (hc:X.calm=true):iE X (.builtin "all") (λxs H Q=>∃(p:Addr) (bs:List Bool),xs=[.ref p]/\aY X.K H p (bs.map V.bl)/\Q (.bl (bs.all id)) H):=by
 intro pins s Z H xs us Q I r h
 obtain⟨p,bs,rfl,hq,q⟩:=h
 obtain⟨u,rfl,rx⟩:=vals1 r
 cases rx
 obtain⟨its,r',pl,hz⟩:=I.list hq
 have hb:=vJ r'
 have hl:=pl.isList
 have hlt:p<s.heap.objs.size:=by obtain⟨_,e,_⟩:=hl;exact Heap.lt_size e
 refine call_all_walk (wpAny_pyIter_list hl ?_)
 refine⟨s.heap.objs.size,[s.heap.objs.size,p],[s.heap.objs.size],its.toArray.size,_,_,λi=>(bs[i]?).getD true,rfl,Walks.list (A:=X.A.in1) (I.ok.hd hc) _ p (Nat.ne_of_lt hlt) its.toArray,
  ⟨⟨_,Heap.get?_push_size _ rfl,rfl,rfl⟩,hl.push _⟩,λi v s' Q' E' hP hQ=>?_,λh' tk hk=>?_⟩
 ·obtain⟨b,e,rfl⟩:=hb.get i v (by simpa using hP)
  simp only[e,Option.getD_some] at hQ
  exact wpAny_truthy_bool hQ
 ·have e:((List.range its.toArray.size).all λi=>(bs[i]?).getD true)=bs.all id:=by
   rw[List.size_toArray,hb.length];exact LSm.range_all bs
  rw[e]
  exact⟨.bl _,H,I.kept (t':=tk) (LSm.kept_iter hk),rfl,q⟩
end
def Rx(z:Str):It:=⟨λi _=>i<z.length,λi H x H'=>H'=H/\∃c,z.cps.toList[i]?=some c/\x = .str ⟨#[c]⟩,λi _=>z.length<=i⟩
section
variable {X:Cx}{tg:Expr}
theorem rX{P:Program}{w:World}{K:PySem.W.Frag}{x:Str}{px:Pos}(z:Str)(it:Addr)(St:Nat->Heap->Prop)(cl:∀i h,St i h->∃o,h.get? it=some o/\∀v,o.data ≠ .cell v)
  (fr:∀i h h',St i h->(∀o,h.get? it=some o->h'.get? it=some o)->St i h') (sf:∀(A:Around) (i:Nat) (s:Shared) (Q:Value->Shared->Prop) (E:Value->Shared->Prop),St i s.heap->Q (.ref it) s->wpAny (model P w) A (pyIter (.ref it)) Q E s)
  (W:∀A:Around,A.handled=none->Walks P w A it [it] [it] z.cps.size (SignAt z) St):Turn P w K (.Name x px) (Rx z) [it] it (λi h=>St i h/\i<=z.length) where
 mem:=by simp
 obj:=λi h st b hb=>by
  have e:b=it:=by simpa using hb
  subst e
  exact cl i h st.1
 keep:=λi h h' st k=>⟨fr i h h' st.1 λo e=>k it (by simp) o e,st.2⟩
 item:=by
  intro X hP hw hK hc i pins s Z H E I hf st hg
  subst hP hw hK
  obtain⟨f0,f1,f2,f3,f4,f5⟩:=hf it (by simp)
  refine(W X.A (I.ok.hd hc)).item i s _ E hg st.1 λv h' tk hP st' hk=>?_
  obtain⟨c,u,e1,rfl⟩:=hP
  refine⟨_,rfl,?_⟩
  show wpAny _ _ (pure ()) _ _ _
  refine wpAny_pure ⟨.str ⟨#[c]⟩,H,I.turned (t':=tk) (λb o hb e=>hk b o (by simpa using hb) e) f0 f1 f3 f4 f5,⟨u,rfl⟩,⟨rfl,c,by simpa using e1,rfl⟩,⟨st',hg⟩,λb hb=>(hf b hb).1⟩
 done:=by
  intro X hP hw hK hc i pins s Z H E I hf st hg
  subst hP hw hK
  obtain⟨f0,f1,f2,f3,f4,f5⟩:=hf it (by simp)
  have e:i=z.cps.size:=Nat.le_antisymm st.2 hg
  subst e
  exact(W X.A (I.ok.hd hc)).done s _ E st.1 λh' tk hk=>⟨rfl,I.turned (t':=tk) (λb o hb e=>hk b o (by simpa using hb) e) f0 f1 f3 f4 f5⟩
 self:=λA i s Q E st h=>sf A i s Q E st.1 h
def UU(te:TE):TI:=λZ H R=>te Z H λx H1=>∃z:Str,x = .str z/\R (Rx z) H1
theorem yM{e:Expr}{te:TE}{x:Str}{px:Pos}(he:PE X e te):PI X (.Name x px) e (UU te):=by
 intro pins s Z H R I h
 refine cL (he pins s Z H _ I h) λv s1  hZ=>?_
 obtain⟨y,H1,I1,r1,q1⟩:=hZ
 obtain⟨z,rfl,q⟩:=q1
 obtain⟨t,rfl⟩:=r1
 have fin:∀(o:Obj) (St:Nat->Heap->Prop),Turn X.prog X.w X.K (.Name x px) (Rx z) [s1.heap.objs.size] s1.heap.objs.size St->St 0 (s1.heap.push o)->US X pins Z (.Name x px) R (.ref s1.heap.objs.size) { s1 with heap:=s1.heap.push o }:=λo St T st=>by
  refine⟨s1.heap.objs.size,[s1.heap.objs.size],_,_,H1,rfl,I1.kept (t':=s1.toks) λb o e=>Heap.get?_push_of_some _ e,T,st,λb hb=>?_,q⟩
  have e:b=s1.heap.objs.size:=by simpa using hb
  subst e
  exact I1.vU (Nat.le_refl _) (I1.hok.fresh (Nat.le_refl _))
 have cl:∀ty (i:Nat) (h:Heap),h.IsStrIter s1.heap.objs.size ty z t i->∃o,h.get? s1.heap.objs.size=some o/\∀v,o.data ≠ .cell v:=λty i h st=>by
  obtain⟨o,e,c,d⟩:=st
  exact⟨o,e,λv q=>by rw[d] at q;cases q⟩
 have fr:∀ty (i:Nat) (h h':Heap),h.IsStrIter s1.heap.objs.size ty z t i->(∀o,h.get? s1.heap.objs.size=some o->h'.get? s1.heap.objs.size=some o)->h'.IsStrIter s1.heap.objs.size ty z t i:=λty i h h' st k=>by
  obtain⟨o,e,r⟩:=st
  exact⟨o,k o e,r⟩
 cases ha:z.cps.all (· < 128)
 ·exact wpAny_pyIter_wide ha (fin _ _ (rX z _ _ (cl _) (fr _) (λA i s Q E st h=>wpAny_pyIter_striter_wide st h) (λA hA=>Walks.strWide hA _ z t)) ⟨⟨_,Heap.get?_push_size _ rfl,rfl,rfl⟩,Nat.zero_le _⟩)
 ·exact wpAny_pyIter_ascii ha (fin _ _ (rX z _ _ (cl _) (fr _) (λA i s Q E st h=>wpAny_pyIter_striter_ascii st h) (λA hA=>Walks.strAscii hA _ z t)) ⟨⟨_,Heap.get?_push_size _ rfl,rfl,rfl⟩,Nat.zero_le _⟩)
def Va(K:PySem.W.Frag)(a:Addr):It :=
 ⟨λi H=>∃xs x,aY K H a xs/\xs[i]?=some x,λi H x H'=>∃p v,H p=none/\x = .ref p/\H'=upd H p (.tup [.int i,v])/\∀xs,aY K H a xs->xs[i]?=some v,λi H=>∃xs,aY K H a xs/\xs.length<=i⟩
theorem BA{P:Program}{w:World}{K:PySem.W.Frag}{elts:List Expr}{x1}{pos:Pos}(a e it:Addr)(hne:e≠it):Turn P w K (.Tuple elts x1 pos) (Va K a) [e,it] e (λi h=>∃old,IsEnum h e it i old/\h.IsListIter it a i) where
 mem:=by simp
 obj:=λi h st b hb=>by
  obtain⟨old,st,si⟩:=st
  rcases List.mem_cons.mp hb with z|z
  ·subst z
   exact⟨_,st,λv q=>by cases q⟩
  ·have e:b=it:=by simpa using z
   subst e
   obtain⟨o,e,c,d⟩:=si
   exact⟨o,e,λv q=>by rw[d] at q;cases q⟩
 keep:=λi h h' st k=>by
  obtain⟨old,st,si⟩:=st
  exact⟨old,k e (by simp) _ st,si.at λo q=>k it (by simp) o q⟩
 item:=by
  intro X hP hw hK hc i pins s Z H E I hf st hg
  subst hP hw hK
  obtain⟨old,st,si⟩:=st
  obtain⟨xs,x,hq,hx⟩:=hg
  obtain⟨its,rv,p,hz⟩:=I.list hq
  obtain⟨u,hu,ru⟩:=rv.get hx
  have f:=hf e (by simp)
  have g:=hf it (by simp)
  refine wpAny_pyNext_enum_item st si p.isList (x:=u) (by simpa using hu) hne λh1 eo si1 ht hsz hk=>?_
  refine⟨_,rfl,wpAny_letOwnedTupleGo_enum (s:={ s with heap:=h1,toks:=s.toks+1 }) eo λh2 en sb=>?_⟩
  have hs1:e≠s.heap.objs.size:=Nat.ne_of_lt (Heap.lt_size st)
  have hs2:it≠s.heap.objs.size:=by obtain⟨o,q,_⟩:=si;exact Nat.ne_of_lt (Heap.lt_size q)
  have k2:∀b o,b≠e->b≠it->s.heap.get? b=some o->h2.get? b=some o:=λb o n1 n2 q=>(sb.2 b n1).trans (hk b o n1 n2 q)
  have fresh:=I.hok.fresh (Nat.le_refl s.heap.objs.size)
  have I1:Inv X pins Z (upd H s.heap.objs.size (.tup [.int i,x])) { s with heap:=h2,toks:=s.toks+1 }:=by
   refine I.step (g':=s.gens) (d':=s.drawn) (ch:=[e,it]) (λb hb=>?_) (λb o _ _ hc q _=>?_) (λb o _ _ hc q _=>?_) (λb o hc q n=>?_) (λb o hc q=>?_) (λb ys q=>?_) (λb o ys q=>?_) (λb ps q=>?_) (λm hm=>?_) (λb u' q=>?_) I.bare
   ·rcases List.mem_cons.mp hb with z|z
    ·rw[z];exact⟨f.2.2.2.1,f.2.1,f.2.2.2.2.1,f.2.2.2.2.2⟩
    ·have z:b=it:=by simpa using z
     rw[z];exact⟨g.2.2.2.1,g.2.1,g.2.2.2.2.1,g.2.2.2.2.2⟩
   ·exact k2 b o (λz=>hc (by simp[z])) (λz=>hc (by simp[z])) q
   ·exact⟨o.slots,k2 b o (λz=>hc (by simp[z])) (λz=>hc (by simp[z])) q⟩
   ·rw[aj (Nat.ne_of_lt (Heap.lt_size q))];exact n
   ·exact⟨o,k2 b o (λz=>hc (by simp[z])) (λz=>hc (by simp[z])) q⟩
   ·rw[aj (ak q fresh)];exact q
   ·rw[aj (ak q fresh)];exact q
   ·exact⟨#[],by rw[aj (ak q fresh),q];simp⟩
   ·obtain⟨o,es,ep,ho,r⟩:=hm
    exact⟨o,es,ep,k2 _ o (Ne.symm f.2.1) (Ne.symm g.2.1) ho,r⟩
   ·by_cases hb:b=s.heap.objs.size
    ·subst hb
     rw[af] at q;cases q
     refine⟨by show 2<=sizeLine;decide,[_,u],.cons ⟨_,rfl⟩ (.cons ru .nil),⟨_,(sb.2 _ (Ne.symm hs1)).trans ht,rfl,_,rfl⟩⟩
    ·rw[aj hb] at q
     refine(I.hok b u' q).stay (λc v hc' r=>k2 c v ?_ ?_ r) (λc r=>by rw[aj (ak r fresh)];exact r) λc ys r=>by rw[aj (ak r fresh)];exact r
     ·rcases hc' with z|z
      ·rw[z];exact ak q f.1
      ·exact ak z f.1
     ·rcases hc' with z|z
      ·rw[z];exact ak q g.1
      ·exact ak z g.1
  refine⟨.ref s.heap.objs.size,_,I1,rfl,⟨_,x,fresh,rfl,rfl,λys hy=>by rw[I.ko hy hq];exact hx⟩,⟨_,en,?_⟩,λb hb=>?_⟩
  ·obtain⟨o,q,r⟩:=si1
   exact⟨o,(sb.2 it (Ne.symm hne)).trans q,r⟩
  ·have hb':=(hf b hb).1
   rcases List.mem_cons.mp hb with z|z
   ·rw[aj (by rw[z];exact hs1)];exact hb'
   ·have z:b=it:=by simpa using z
    rw[aj (by rw[z];exact hs2)];exact hb'
 done:=by
  intro X hP hw hK hc i pins s Z H E I hf st hg
  subst hP hw hK
  obtain⟨old,st,si⟩:=st
  obtain⟨xs,hq,hx⟩:=hg
  obtain⟨its,rv,p,hz⟩:=I.list hq
  obtain⟨f0,f1,f2,f3,f4,f5⟩:=hf it (by simp)
  have hl:=rv.length
  exact wpAny_pyNext_enum_end (I.ok.hd hc) st si p.isList (by simp;lia) λh' eb=>⟨rfl,I.turned (t':=s.toks) (λb o hb e=>eb b o hb e) f0 f1 f3 f4 f5⟩
 self:=λ_ _ _ _ _ st h=>by
  obtain⟨old,st,si⟩:=st
  exact wpAny_pyIter_enum st h
def To(K:PySem.W.Frag)(ta:TA):TI:=λZ H R=>ta Z H λvs H1=>∃a xs,vs=[.ref a]/\aY K H1 a xs/\R (Va K a) H1
theorem uD {a:Expr} {ta:TA} {p pos tp:Pos} {elts:List Expr} {x1} (hg:Gl X "enumerate") (hm:X.mg "enumerate" = none) (ha:PA X [a] ta) (hs:autoParam (starEach [a] X.env=[(false,eval a X.env)]) L2.Y3._auto_1) :
  PI X (.Tuple elts x1 tp) (.Call (.Name "enumerate" p) [a] [] pos) (To X.K ta):=by
 intro pins s Z H R I h
 refine Call_ (j7 I hg hm (show bootBuiltins "enumerate" = some (.type "enumerate") by decide +kernel) (PyProof.Rows.callWith_type1 (cL (ha pos pins s Z H _ I h) λus s1 hY=>?_) hs rfl))
 obtain⟨vs,H1,I1,r1,q1⟩:=hY
 obtain⟨l,xs,rfl,hq,q⟩:=q1
 obtain⟨u,rfl,ru⟩:=r1.one
 cases ru
 obtain⟨its,rv,pl,hz⟩:=I1.list hq
 refine call_enumerate_list pl.isList λh' he hi hsz hk=>?_
 refine wpAny_pyIter_enum (s:={ s1 with heap:=h' }) he ?_
 refine⟨s1.heap.objs.size+1,[s1.heap.objs.size+1,s1.heap.objs.size],_,_,H1,rfl,I1.kept (t':=s1.toks) hk,BA l _ _ (Nat.succ_ne_self _),⟨_,he,hi⟩,λb hb=>?_,q⟩
 have hb':s1.heap.objs.size<=b:=by
  rcases List.mem_cons.mp hb with z|z
  ·rw[z];exact Nat.le_succ _
  ·have z:b=s1.heap.objs.size:=by simpa using z
   rw[z];exact Nat.le_refl _
 exact I1.vU hb' (I1.hok.fresh hb')
end
theorem jB{x y:Str}(h:x.cps.toList=y.cps.toList):x=y:=by
 obtain⟨a⟩:=x
 obtain⟨b⟩:=y
 have:a=b:=Array.toList_inj.mp h
 rw[this]
theorem eT(x y:Str):(x++y).cps.toList=x.cps.toList++y.cps.toList:=by
 show (x.cps++y.cps).toList=_
 simp
def cI(c:Nat):List (List Nat)->List Nat
 | []=>[]
 | [x]=>x
 |x::y::r=>x++c::cI c (y::r)
theorem eK(c:Nat):∀ps:List Str,(Str.join ⟨#[c]⟩ ps).cps.toList=cI c (ps.map λp=>p.cps.toList)
 | []=>rfl
 | [x]=>rfl
 |x::y::r=>by
  show (x++⟨#[c]⟩++Str.join ⟨#[c]⟩ (y::r)).cps.toList=x.cps.toList++c::cI c ((y::r).map λp=>p.cps.toList)
  rw[eT,eT,eK c (y::r)]
  simp
theorem zA{c:Nat}:∀{a b r s:List Nat},c∉a->c∉b->a++c::r=b++c::s->a=b/\r=s
 | [],[],r,s,_,_,h=>⟨rfl,by simpa using h⟩
 | [],y::b,r,s,_,hb,h=>by
  simp at h
  exact absurd (by simp[h.1]) hb
 |x::a,[],r,s,ha,_,h=>by
  simp at h
  exact absurd (by simp[h.1]) ha
 |x::a,y::b,r,s,ha,hb,h=>by
  simp only[List.cons_append,List.cons.injEq] at h
  obtain⟨e1,e2⟩:=zA (λz=>ha (List.mem_cons_of_mem _ z)) (λz=>hb (List.mem_cons_of_mem _ z)) h.2
  exact⟨by rw[h.1,e1],e2⟩
theorem rR{c:Nat}:∀{ps qs:List (List Nat)},ps≠[]->qs≠[]->(∀p∈ps,c∉p)->(∀q∈qs,c∉q)->cI c ps=cI c qs->ps=qs
 | [],_,h,_,_,_,_=>absurd rfl h
 |_::_,[],_,h,_,_,_=>absurd rfl h
 | [x],[y],_,_,_,_,h=>by simp only[cI] at h;rw[h]
 | [x],y::z::r,_,_,hx,_,h=>by
  simp only[cI] at h
  exact absurd (by rw[h];simp) (hx x (by simp))
 |x::z::r,[y],_,_,_,hy,h=>by
  simp only[cI] at h
  exact absurd (by rw[← h];simp) (hy y (by simp))
 |x::x2::r,y::y2::s,_,_,hx,hy,h=>by
  simp only[cI] at h
  obtain⟨e1,e2⟩:=zA (hx x (by simp)) (hy y (by simp)) h
  have:=rR (ps:=x2::r) (qs:=y2::s) (by simp) (by simp) (λp hp=>hx p (List.mem_cons_of_mem _ hp)) (λq hq=>hy q (List.mem_cons_of_mem _ hq)) e2
  rw[e1,this]
theorem lY{c:Nat}{ps:List Str}(hn:ps≠[])(hf:∀p∈ps,c∉p.cps.toList):PySem.Txt.split (Str.join ⟨#[c]⟩ ps) ⟨#[c]⟩=ps:=by
 have h1:=PySem.StrLaws.join_split (Str.join ⟨#[c]⟩ ps) ⟨#[c]⟩
 have h2:=PySem.StrLaws.split_free (Str.join ⟨#[c]⟩ ps) c
 have h3:=PyProof.Rows.split_pos (Str.join ⟨#[c]⟩ ps) ⟨#[c]⟩
 generalize PySem.Txt.split (Str.join ⟨#[c]⟩ ps) ⟨#[c]⟩=qs at h1 h2 h3
 have h4:=congrArg (λx:Str=>x.cps.toList) h1
 simp only[eK] at h4
 have inj:∀{a b:List Str},(a.map λp=>p.cps.toList)=(b.map λp=>p.cps.toList)->a=b:=by
  intro a
  induction a with
  |nil=>intro b h;cases b with
   |nil=>rfl
   |cons _ _=>cases h
  |cons x r ih =>
   intro b h
   cases b with
   |nil=>cases h
   |cons y s =>
    simp only[List.map_cons,List.cons.injEq] at h
    rw[jB h.1,ih h.2]
 refine inj (rR (c:=c) ?_ ?_ ?_ ?_ h4)
 ·intro z
  have:=congrArg List.length z
  simp at this
  rw[this] at h3
  simp at h3
 ·intro z
  have:=congrArg List.length z
  simp at this
  exact hn this
 ·intro p hp
  obtain⟨q,hq,rfl⟩:=List.mem_map.mp hp
  exact h2 q hq
 ·intro p hp
  obtain⟨q,hq,rfl⟩:=List.mem_map.mp hp
  exact hf q hq
def jT(c d:Nat)(l:List Nat):List Nat:=l.map λx=>if x=c then d else x
theorem nX{c d:Nat}:∀{l:List Nat},c∉l->jT c d l=l
 | [],_=>rfl
 |x::r,h=>by
  unfold jT
  rw[List.map_cons,if_neg (λz=>h (by simp[z]))]
  congr 1
  exact nX λz=>h (List.mem_cons_of_mem _ z)
theorem rZ{c d:Nat}:∀{ps:List (List Nat)},(∀p∈ps,c∉p)->jT c d (cI c ps)=cI d ps
 | [],_=>rfl
 | [x],h=>nX (h x (by simp))
 |x::y::r,h=>by
  simp only[cI]
  have e1:jT c d (x++c::cI c (y::r))=jT c d x++d::jT c d (cI c (y::r)):=by simp[jT]
  rw[e1,nX (h x (by simp)),rZ (ps:=y::r) λp hp=>h p (List.mem_cons_of_mem _ hp)]
theorem jL(x:Str)(c d:Nat):(PySem.Txt.replace x ⟨#[c]⟩ ⟨#[d]⟩).cps.toList=jT c d x.cps.toList:=by
 rw[PySem.StrLaws.replace_one,eK]
 have h1:=congrArg (λx:Str=>x.cps.toList) (PySem.StrLaws.join_split x ⟨#[c]⟩)
 simp only[eK] at h1
 conv=>rhs;rw[← h1]
 rw[rZ]
 intro p hp
 obtain⟨q,hq,rfl⟩:=List.mem_map.mp hp
 exact PySem.StrLaws.split_free x c q hq
theorem BJ{c d:Nat}{l:List Nat}(h:d∉l):jT d c (jT c d l)=l:=by
 induction l with
 |nil=>rfl
 |cons x r ih =>
  have hx:x≠d:=λz=>h (by simp[z])
  have ih':=ih λz=>h (List.mem_cons_of_mem _ z)
  unfold jT at *
  simp only[List.map_cons]
  rw[ih']
  by_cases e:x=c
  ·subst e;simp
  ·rw[if_neg e,if_neg hx]
theorem Bm{α:Type}{t:Sem α}{Q Q':α->Shared->Prop}{M:Model}{A:Around}{E E':Value->Shared->Prop}{s:Shared}(h:wpAny M A t Q E s)(hQ:∀a s,Q a s->Q' a s)(hE:∀a s,E a s->E' a s):wpAny M A t Q' E' s:=wpAny_mono h hQ hE
section
variable {X:Cx}{o e:Expr}{to te:TE}{apos cpos pos p1 p2 p3 p4 p5:Pos}{j1 j2 j3:Nat}
def vE(y z:Str):V->Hp->VK->Prop:=λx H Q=>∃a:Str,x = .str a/\a.length+(a.length+1)*z.length<=16777216/\Q (.str (PySem.Txt.replace a y z)) H
theorem nO{y z:Str}(hyz:(y == z)=false){pins:List (Addr×Obj)}{s:Shared}{Z:St}{H:Hp}{Q:VK}(I:Inv X pins Z H s)
  (ho:wpAny (model X.prog X.w) X.A (eval o X.env) (λu s'=>1<=s'.toks/\EP X pins Z (λx H1=>vE y z x H1 Q) u s') X.xe s)
  (hbase:autoParam (attributeBase o "replace" X.env (eval o X.env)=eval o X.env) L2.Y3._auto_1) (hline:autoParam ((apos.endLine == cpos.line)=true) L2.Y3._auto_1) :
  wpAny (model X.prog X.w) X.A (eval (.Call (.Attribute o "replace" apos) [.Constant (.str y) j1 p1,.Constant (.str z) j2 p2] [] cpos) X.env) (EP X pins Z Q) X.xe s:=by
 refine wpAny_Call_method_late hbase rfl hline rfl (cL ho λv s1  hZ=>?_)
 obtain⟨hk,x,H1,I1,r1,q1⟩:=hZ
 obtain⟨a,rfl,hz,q⟩:=q1
 obtain⟨t,rfl⟩:=r1
 refine⟨"str","str.replace",F.plainAttrs_str,F.slot_str_replace,F.type_str_replace,typeIs_str _ _ _,(λ_ e=>nomatch e),?_⟩
 refine Calls.callWith_builtin rfl (Calls.evalArgs_plain ?_)
 refine Calls.spliced_cons (Calls.Constant_str (k:=j1) (pos:=p1) (Calls.spliced_cons (Calls.Constant_str (k:=j2) (pos:=p2) (Calls.spliced_nil ?_))))
 exact SC.replace (u:=s1.toks) (v:=s1.toks+1) (Nat.ne_of_gt hk) (Nat.succ_ne_zero _) q9 hyz hz λt' k=>⟨.str _,H1,I1.tok _,⟨t',rfl⟩,q⟩
theorem yx{y z:Str}{k:Int}(hyz:(y == z)=false)(he:PE X e te)
  (hbase:autoParam (attributeBase (.Subscript e (.Slice (some (.Constant (.int k) j3 p4)) none none p3) p5) "replace" X.env (eval (.Subscript e (.Slice (some (.Constant (.int k) j3 p4)) none none p3) p5) X.env)=eval (.Subscript e (.Slice (some (.Constant (.int k) j3 p4)) none none p3) p5) X.env) L2.Y3._auto_1)
  (hline:autoParam ((apos.endLine == cpos.line)=true) L2.Y3._auto_1) :
  PE X (.Call (.Attribute (.Subscript e (.Slice (some (.Constant (.int k) j3 p4)) none none p3) p5) "replace" apos) [.Constant (.str y) j1 p1,.Constant (.str z) j2 p2] [] cpos) (λZ H Q=>te Z H λx H1=>∃w:Str,x = .str w/\w.length<=sizeLine/\vE y z (.str (PySem.Txt.slice w (some k) none)) H1 Q):=by
 intro pins s Z H Q I h
 refine nO hyz I ?_ hbase hline
 refine Subscript_ (cL (he pins s Z H _ I h) λv s1  hZ=>?_)
 obtain⟨x,H1,I1,r1,w,hx,hw,q1⟩:=hZ
 subst hx
 obtain⟨t,rfl⟩:=r1
 refine wpAny_Slice ?_
 rw[evalPart_some]
 refine wpAny_Constant_int ?_
 rw[evalPart_none]
 refine wpAny_pure ?_
 refine wpAny_pure ?_
 have I2:Inv X pins Z H1 { s1 with toks:=s1.toks+1 }:=I1.tok _
 have I4:Inv X pins Z H1 { s1 with toks:=s1.toks+1,heap:=s1.heap.push { cls:=.type "slice",data:=.fields #[.int k s1.toks,.none,.none] } }:=I2.kept (t':=s1.toks+1) λb ob q=>Heap.get?_push_of_some _ q
 obtain⟨T,id,hT,ht,hg⟩:=nq (X:=X) pins { s1 with toks:=s1.toks+1,heap:=s1.heap.push { cls:=.type "slice",data:=.fields #[.int k s1.toks,.none,.none] } } Z H1 (.str w) (.str w t) (.int k s1.toks) .none (some k) none s1.heap.objs.size (λx H1=>vE y z x H1 Q) I4 ⟨t,rfl⟩ (Heap.IsSliceOf.new ..) (.int k _) .none ⟨w,rfl,hw,q1⟩
 have fin:=tail_any (value:=e) (slice:=.Slice (some (.Constant (.int k) j3 p4)) none none p3) (ops:=[.ref s1.heap.objs.size,.str w t]) ht hT hg (by with_unfolding_all rfl)
 exact Bm (wpAny_toks_of (n:=1) (show 1<=s1.toks+1 by lia) fin) (λ_ _ q=>q) λ_ _ q=>q.2
theorem wg {q y z:Str} (hyz:(y == z)=false) (ho:PE X o to) (hbase:autoParam (attributeBase o "replace" X.env (eval o X.env)=eval o X.env) L2.Y3._auto_1) (hline:autoParam ((apos.endLine == cpos.line)=true) L2.Y3._auto_1) :
  PE X (.BinOp (.Constant (.str q) j3 p3) .Add (.Call (.Attribute o "replace" apos) [.Constant (.str y) j1 p1,.Constant (.str z) j2 p2] [] cpos) pos)
   (λZ H Q=>to Z H λx H1=>vE y z x H1 λv H2=>∃b:Str,v = .str b/\q.length+b.length<=sizeLine/\Q (.str (q++b)) H2):=by
 intro pins s Z H Q I h
 refine wpAny_BinOp (Calls.Constant_str ?_)
 have I2:Inv X pins Z H { s with toks:=s.toks+1 }:=I.tok _
 refine cL (nO (j1:=j1) (j2:=j2) (p1:=p1) (p2:=p2) (apos:=apos) (cpos:=cpos) hyz I2 (Q:=λv H2=>∃b:Str,v = .str b/\q.length+b.length<=sizeLine/\Q (.str (q++b)) H2)
  (Bm (wpAny_toks_of (n:=1) (show 1<=s.toks+1 by lia) (ho pins _ Z H _ I2 h)) (λ_ _ q=>q) λ_ _ q=>q.2) hbase hline) λu s2 ⟨x,H2,I3,r,b,hx,hz,q2⟩=>?_
 subst hx
 obtain⟨t,rfl⟩:=r
 exact add_str (λt' tk=>⟨.str (q++b),H2,I3.tok _,⟨_,rfl⟩,q2⟩) hz
end
section
variable {X:Cx}
theorem fj {x:Str} {v:V} {pos:Pos} (hg:Gl X x) (h:∃u,X.mg x=some u/\RelV v u) (hd:autoParam ((x == ("__debug__" : Str))=false) L2.Y1._auto_1):PE X (.Name x pos) (tC v):=by
 obtain⟨u,e,r⟩:=h
 exact fq hg e r hd
theorem wc{caps:List (Str×Nat)}{z:Str}{te:TE}{Z:St}{H:Hp}{Q:VK}(Pv:Nat->List V->Hp->Prop)(h0:Pv 0 [] H)(hn:z.length<sizeLine)
  (hs:∀i c ys H,z.cps.toList[i]?=some c->ys.length=i->Pv i ys H->te (e9 caps Z++[some (.str ⟨#[c]⟩)]) H λy H2=>∃m',m'<z.length-i/\m'=z.length-(i+1)/\i+1<=z.length/\(ys++[y]).length=i+1/\Pv (i+1) (ys++[y]) H2) (hd:∀ys H,ys.length=z.length->Pv z.length ys H->∀D,H D=none->Q (.ref D) (upd H D (.lst ys))) :
  zT (Rx z) caps te Z H Q:=by
 refine⟨λi m ys H=>m=z.length-i/\i<=z.length/\ys.length=i/\Pv i ys H,⟨z.length,by simp,Nat.zero_le _,rfl,h0⟩,?_⟩
 rintro i m ys H ⟨rfl,hi,hl,p⟩
 by_cases hlt:i<z.length
 ·refine .inr ⟨hlt,by lia,λx H' y=>?_⟩
  obtain⟨e,c,e1,rfl⟩:=y
  subst e
  exact hs i c ys _ e1 hl p
 ·have e:i=z.length:=by lia
  subst e
  exact .inl ⟨Nat.le_refl _,hd ys H hl p⟩
theorem nC{K:PySem.W.Frag}{a:Addr}{xs:List V}{g:TG}{tb:TS}{D:Ends}{Z:St}{H:Hp}(Pv:Nat->St->Hp->Prop)(h0:Pv 0 Z H)(hl:∀i Z H,i<=xs.length->Pv i Z H->aY K H a xs)
  (hs:∀i x p Z H,xs[i]?=some x->H p=none->Pv i Z H->g (.ref p) Z (upd H p (.tup [.int i,x])) λZ2 H2=>tb { D with nx:=Pv (i+1),ct:=Pv (i+1),bk:=D.nx } Z2 H2) (hd:∀Z H,Pv xs.length Z H->D.nx Z H):CL (Va K a) g tb D Z H:=by
 refine⟨λi m Z H=>m=xs.length-i/\i<=xs.length/\Pv i Z H,⟨xs.length,by simp,Nat.zero_le _,h0⟩,?_⟩
 rintro i m Z H ⟨rfl,hi,p⟩
 have q:=hl i Z H hi p
 by_cases hlt:i<xs.length
 ·refine .inr ⟨⟨xs,xs[i],q,by simp[hlt]⟩,Pv (i+1),λZ' H' p'=>⟨xs.length-(i+1),by lia,rfl,hlt,p'⟩,λx H' y=>?_⟩
  obtain⟨pp,v,h1,rfl,rfl,h2⟩:=y
  exact hs i v pp Z H (h2 xs q) h1 p
 ·have e:i=xs.length:=by lia
  subst e
  exact .inl ⟨⟨xs,q,Nat.le_refl _⟩,hd Z H p⟩
end
def fV(H H':Hp)(p:Addr):Prop:=∀b o,H b=some o->b≠p->H' b=some o
theorem fV.refl(H:Hp)(p:Addr):fV H H p:=λ_ _ h _=>h
theorem fV.trans{H H1 H2:Hp}{p:Addr}(a:fV H H1 p)(b:fV H1 H2 p):fV H H2 p:=λc o h n=>b c o (a c o h n) n
theorem fV.same{H H1 H2:Hp}{p:Addr}(a:fV H H1 p)(b:ao H1 H2):fV H H2 p:=λc o h n=>b c o (a c o h n)
theorem ao.Hq{H H1 H2:Hp}{p:Addr}(a:ao H H1)(b:fV H1 H2 p):fV H H2 p:=λc o h n=>b c o (a c o h) n
theorem fV.upd{H:Hp}{p:Addr}{o:HO}:fV H (L2.upd H p o) p:=λb u h n=>by rw[aj n];exact h
section
variable {X:Cx}
theorem kL{K:PySem.W.Frag}{e:Expr}{ta:TE}{f:Str}{pos:Pos}(he:PE X e ta)(hb:attributeBase e f X.env (eval e X.env)=eval e X.env)(hK:autoParam (X.K=K) L2.Y3._auto_1):PE X (.Attribute e f pos) (NZ K ta f):=by
 subst hK;exact aF he hb
theorem ER{K:PySem.W.Frag}(hK:X.K=K):Ru X (HG K):=by subst hK;exact bq
theorem zK{K:PySem.W.Frag}(hK:X.K=K):Ru X (Ny K):=by subst hK;exact fQ
end
section
variable {X:Cx}
def strsOf:List Expr->Option (List Str)
 | []=>some []
 |e::r=>match e with
  |.Constant (.str x) _ _=>(strsOf r).map (x :: ·)
  |_=>none
theorem mq:∀{es:List Expr} {xs:List Str},strsOf es=some xs->PA X es (λ_ H Q=>Q (xs.map V.str) H)
 | [],xs,h=>by
  have e:xs=[]:=(Option.some.inj h).symm
  subst e
  exact ai
 |e::r,xs,h=>by
  unfold strsOf at h
  split at h
  ·rename_i x j p
   obtain⟨ys,h1,h2⟩:=Option.map_eq_some_iff.mp h
   subst h2
   exact aa (te:=tC (.str x)) (t:=λ_ H Q=>Q (ys.map V.str) H) aJ (mq h1) rfl
  ·cases h
end
inductive xR(pr:Params):List DictEntry->List (Str×V)->Prop
 |nil:xR pr [] []
 |cons {k:Str} {u:Tok} {x:Value} {v:V} {es:List DictEntry} {kvs:List (Str×V)}:RelV v x->xR pr es kvs->xR pr (⟨PyData.keyHash pr k,.str k u,x⟩::es) ((k,v)::kvs)
def Rv(K:PySem.W.Frag)(pr:Params)(a:Addr)(kvs:List (Str×V)):Prop :=
 (a == sysModules)=false/\(kvs.map (·.1)).Nodup/\∃(o:Obj) (es:Array DictEntry) (ep:Nat),K.lookup a=some o/\o.ExactDict/\o.data = .dict es ep/\xR pr es.toList kvs
def Ot(kvs:List (Str×V)):List (Key×V):=kvs.map λkv=>(Sum.inr kv.1,kv.2)
theorem xR.vs{P:Program}{w:World}{es:List DictEntry}{kvs:List (Str×V)}(h:xR w.params es kvs) :
  ∃vs:List (Key×Value),KV (Ot kvs) vs/\(∀e∈es,∃k,(bL P w).is k e.key=true/\e.hash=(bL P w).hash k)/\Pairs (bL P w) es vs/\vs.map (·.1)=kvs.map λkv=>Sum.inr kv.1:=by
 induction h with
 |nil=>exact⟨[],.nil,λe he=>absurd he (by simp),.nil,rfl⟩
 | @cons k u x v es kvs r _ ih =>
  obtain⟨vs,a,b,c,d⟩:=ih
  refine⟨(Sum.inr k,x)::vs,.cons ⟨rfl,r⟩ a,λe he=>?_,.cons (m8 k u) rfl c,by rw[List.map_cons,List.map_cons,d]⟩
  rcases List.mem_cons.mp he with q|q
  ·subst q;exact⟨Sum.inr k,m8 k u,rfl⟩
  ·exact b e q
theorem rP:∀{ks:List Str},ks.Nodup->(ks.map λk=>(Sum.inr k:Key)).Nodup
 | [],_=>List.nodup_nil
 |k::r,h=>by
  rw[List.nodup_cons] at h
  rw[List.map_cons,List.nodup_cons]
  refine⟨λz=>?_,rP h.2⟩
  obtain⟨y,hy,e⟩:=List.mem_map.mp z
  cases e
  exact h.1 hy
theorem Rv.dict{P:Program}{w:World}{K:PySem.W.Frag}{a:Addr}{kvs:List (Str×V)}{h:Heap}(d:Rv K w.params a kvs)(X:K.In h):(a == sysModules)=false/\∃vs,KV (Ot kvs) vs/\h.DictOf (bL P w) a vs:=by
 obtain⟨hs,nd,o,es,ep,l,ex,hd,en⟩:=d
 obtain⟨vs,a1,b1,c1,d1⟩:=en.vs (P:=P)
 refine⟨hs,vs,a1,o,es,ep,X _ _ l,ex,hd,λe he=>b1 e (Array.mem_toList_iff.mpr he),c1,?_⟩
 rw[d1]
 have:=rP nd
 rwa [List.map_map] at this
theorem nK(k:Str):∀kvs:List (Str×V),eY (Ot kvs) (Sum.inr k)=eY kvs k
 | []=>rfl
 |p::r=>by
  by_cases e:p.1=k
  ·rw[dN e];exact dN (p:=(Sum.inr p.1,p.2)) (by rw[e])
  ·rw[dQ e,← nK k r];exact dQ (p:=(Sum.inr p.1,p.2)) (λz=>e (Sum.inr.inj z))
def R1(K:PySem.W.Frag)(pr:Params)(td ty:TE):TE:=λZ H Q=>td Z H λx H1=>ty Z H1 λy H2=>∃a kvs k v,x = .ref a/\Rv K pr a kvs/\y = .str k/\eY kvs k=some v/\Q v H2
def Jg(K:PySem.W.Frag)(pr:Params)(ty td:TE):TE:=λZ H Q=>ty Z H λy H1=>td Z H1 λx H2=>∃a kvs k,x = .ref a/\Rv K pr a kvs/\y = .str k/\Q (.bl (!(eY kvs k).isSome)) H2
section
variable {X:Cx}{o i:Expr}{pos:Pos}{td ty:TE}
theorem An(ho:PE X o td)(hi:PE X i ty)(hs:QK i):PE X (.Subscript o i pos) (R1 X.K X.w.params td ty):=by
 intro pins s Z H Q I h
 refine Ao PySem.F.slot_dict_getitem.lookup hs (cL (ho pins s Z H _ I h) λu s1 ⟨x,H1,I1,rx,q1⟩=>cL (hi pins s1 Z H1 _ I1 q1) λiv s2  hZ=>?_)
 obtain⟨y,H2,I2,ry,a,kvs,k,v,ex,g,ey,l,q2⟩:=hZ
 subst ex ey
 obtain rfl:u=Value.ref a:=rx
 obtain⟨hd,vs,rel,dd⟩:=g.dict (P:=X.prog) I2.k6
 rw[← nK] at l
 obtain⟨w',hw,rw'⟩:=ju.some_of (v:=v) (o:=valueAt vs (Sum.inr k)) (by rw[← l];exact rel.val _)
 exact⟨dd.typeIs,wpAny_getItem_of (ou (k:=Sum.inr k) ry) dd.mapOf hw ⟨v,H2,I2.tok _,rw',q2⟩⟩
theorem Bs(hi:PE X i ty)(ho:PE X o td):PC X .NotIn i o (Jg X.K X.w.params ty td):=by
 intro pins s Z H Q I h
 refine cL (hi pins s Z H _ I h) λiv s1 ⟨y,H1,I1,ry,q1⟩=>cL (ho pins s1 Z H1 _ I1 q1) λu s2  hZ=>?_
 obtain⟨x,H2,I2,rx,a,kvs,k,ex,g,ey,q2⟩:=hZ
 subst ex ey
 obtain rfl:u=Value.ref a:=rx
 obtain⟨hd,vs,rel,dd⟩:=g.dict (P:=X.prog) I2.k6
 refine wpAny_notIn_of (ou (k:=Sum.inr k) ry) hd dd.mapOf ?_
 rw[← (rel.val (Sum.inr k)).kI,nK]
 exact⟨.bl _,H2,I2.tok _,rfl,q2⟩
def SN:V->List V->Hp->VK->Prop:=λx vs H Q=>∃a b,x = .str a/\vs=[.str b]/\(b.length == 0)=false/\a.length<=sizeLine/\∀p,H p=none->Q (.ref p) (upd H p (.tup [.str (PySem.Txt.partition a b).1,.str (PySem.Txt.partition a b).2.1,.str (PySem.Txt.partition a b).2.2]))
theorem t7:KO X "str.partition" SN:=by
 intro pins s Z H x vs v us Q I rx rv h
 obtain⟨a,b,rfl,rfl,hb,hz,q⟩:=h
 obtain⟨t,rfl⟩:=rx
 obtain⟨u,rfl,ru⟩:=rv.one
 obtain⟨t1,rfl⟩:=ru
 have hf:H s.heap.objs.size=none:=I.hok.fresh (Nat.le_refl _)
 have q0:=q _ hf
 refine call_meets F.slot_str_partition (typeIs_str _ _ _) F.entry_str_partition (F.args_str_partition_2 _ _) (meets_str_partition a b t t1 hb hz) ?_
 unfold PySem.Txt.partition at q0
 revert q0
 cases Builtin.Str.occurrences a b 0 a.length 1 with
 |nil =>
  intro q0
  refine⟨.ref _,_,I.laid (t':=s.toks+1) (λb u e=>Heap.get?_push_of_some _ e) (Nat.le_refl _) ?_,rfl,q0⟩
  exact⟨by show 3<=sizeLine;decide,_,.cons ⟨_,rfl⟩ (.cons ⟨_,rfl⟩ (.cons ⟨_,rfl⟩ .nil)),⟨_,Heap.get?_push_size _ rfl,rfl,_,rfl⟩⟩
 |cons i r =>
  intro q0
  refine⟨.ref _,_,I.laid (t':=s.toks+1+1) (λb u e=>Heap.get?_push_of_some _ e) (Nat.le_refl _) ?_,rfl,q0⟩
  exact⟨by show 3<=sizeLine;decide,_,.cons ⟨_,rfl⟩ (.cons ⟨_,rfl⟩ (.cons ⟨_,rfl⟩ .nil)),⟨_,Heap.get?_push_size _ rfl,rfl,_,rfl⟩⟩
end
section
variable {X:Cx}{pins:List (Addr×Obj)}{Z:St}{H:Hp}{s:Shared}
def tW(xs ys:List V):Prop:=∀x∈xs,∀y∈ys,j8 x=true/\j8 y=true/\Jh x y=decide (x=y)
theorem wD{xs ys:List V}{is js:List Value}{A:Around}(p:tW xs ys)(r1:Vals xs is)(r2:Vals ys js) :
  ∀j (h1:j<is.toArray.size) (h2:j<js.toArray.size),SeqAt.EqAt A s is.toArray[j] js.toArray[j] ((λj=>decide (xs[j]?=ys[j]?)) j):=by
 intro j h1 h2
 have l1:=r1.length
 have l2:=r2.length
 have j1:j<xs.length:=by simpa [l1] using h1
 have j2:j<ys.length:=by simpa [l2] using h2
 have e1:=List.getElem?_eq_getElem j1
 have e2:=List.getElem?_eq_getElem j2
 obtain⟨u1,g1,q1⟩:=r1.get e1
 obtain⟨u2,g2,q2⟩:=r2.get e2
 have g1':is.toArray[j]=u1:=by simpa [List.getElem?_eq_some_iff] using (List.getElem?_eq_some_iff.mp g1).2
 have g2':js.toArray[j]=u2:=by simpa [List.getElem?_eq_some_iff] using (List.getElem?_eq_some_iff.mp g2).2
 rw[g1',g2']
 obtain⟨f1,f2,f3⟩:=p _ (List.getElem_mem j1) _ (List.getElem_mem j2)
 have:=CF (A:=A) (s:=s) q1 q2 f1 f2
 rw[f3] at this
 have e:decide (xs[j]?=ys[j]?)=decide (xs[j]=ys[j]):=by rw[e1,e2];simp
 show SeqAt.EqAt A s u1 u2 (decide (xs[j]?=ys[j]?))
 rw[e]
 exact this
theorem B6{xs ys:List V}(h:xs.length=ys.length):((List.range xs.length).all λj=>decide (xs[j]?=ys[j]?))=decide (xs=ys):=by
 rw[Bool.eq_iff_iff,List.all_eq_true,decide_eq_true_eq]
 constructor
 ·intro z
  refine List.ext_getElem? λj=>?_
  by_cases hj:j<xs.length
  ·simpa using z j (List.mem_range.mpr hj)
  ·rw[List.getElem?_eq_none (by lia),List.getElem?_eq_none (by lia)]
 ·intro z j _
  rw[z];simp
def T7(K:PySem.W.Frag):R2:=λx y H Q=>∃a b xs ys,x = .ref a/\y = .ref b/\aY K H a xs/\aY K H b ys/\tW xs ys/\Q (.bl (!decide (xs=ys))) H
theorem Js(hu:X.A.units<cLine):m6 X (compareOp .NotEq) (T7 X.K):=by
 intro pins s Z H x y v u Q I rx ry h
 obtain⟨a,b,xs,ys,rfl,rfl,ha,hb,hp,q⟩:=h
 cases rx
 cases ry
 obtain⟨is,r1,p1,_⟩:=I.list ha
 obtain⟨js,r2,p2,_⟩:=I.list hb
 obtain⟨o1,n1,e1,c1,_,d1⟩:=p1
 obtain⟨o2,n2,e2,c2,_,d2⟩:=p2
 have l1:=r1.length
 have l2:=r2.length
 by_cases hl:xs.length=ys.length
 ·refine PySem.SeqAt.RcNeAt.lists (e:=λj=>decide (xs[j]?=ys[j]?)) ⟨o1,e1,c1,n1,d1⟩ ⟨o2,e2,c2,n2,d2⟩ (by simp[← l1,← l2,hl]) hu (wD hp r1 r2) _ _ _ _ ?_
  have z:is.toArray.size=xs.length:=by simp[← l1]
  rw[z,B6 hl]
  exact⟨.bl _,H,I,rfl,q⟩
 ·refine PySem.SeqAt.RcNeAt.lists_lengths ⟨o1,e1,c1,n1,d1⟩ ⟨o2,e2,c2,n2,d2⟩ (by simpa [← l1,← l2] using hl) hu _ _ _ _ ?_
  rw[decide_eq_false (λz=>hl (by rw[z]))] at q
  exact⟨.bl true,H,I,rfl,q⟩
theorem wQ{α β:Type}(f:α->Int)(g:β->Int)(xs:List α)(ys:List β):tW (xs.map λx=>V.int (f x)) (ys.map λy=>V.int (g y)):=by
 intro x hx y hy
 obtain⟨a,_,rfl⟩:=List.mem_map.mp hx
 obtain⟨b,_,rfl⟩:=List.mem_map.mp hy
 refine⟨rfl,rfl,?_⟩
 show (f a == g b)=_
 rw[Bool.eq_iff_iff]
 simp
end
section
variable {M:Model}{A:Around}{E:Value->Shared->Prop}{s:Shared}{base:Heap}{env:Env}{outer:List Env}{L e:Addr}
end
section
variable {M:Model}{A:Around}{E:Value->Shared->Prop}{s:Shared}{base:Heap}{env:Env}{outer:List Env}{L e C T:Addr}{d:Option Addr}
end
theorem cH.there{P:Program}{w:World}{H:Hp}{h:Heap}{a:Addr}{o:HO}(x:cH P w H h a o):∃ob,h.get? a=some ob:=by
 induction o with
 |lst xs=>obtain⟨_,_,_,_,e⟩:=x;exact⟨_,e⟩
 |tup xs=>obtain⟨_,_,_,p⟩:=x;obtain⟨ob,e,_⟩:=p;exact⟨ob,e⟩
 |dK kvs=>obtain⟨_,_,_,_,o,_,_,e,_⟩:=x;exact⟨o,e⟩
 |dT kvs=>obtain⟨_,_,_,_,o,_,_,e,_⟩:=x;exact⟨o,e⟩
 |set S n=>obtain⟨o,_,_,_,e,_⟩:=x;exact⟨o,e⟩
 |ins C dx fs=>obtain⟨_,_,_,e,_⟩:=x;exact⟨_,e⟩
 |own y=>exact x
 |xd fs=>obtain⟨_,⟨o,_,_,e,_⟩,_⟩:=x;exact⟨o,e⟩
 |met f y=>exact⟨_,x⟩
 |Um lo hi=>obtain⟨_,_,_,e⟩:=x;exact⟨_,e⟩
 |jU o u _=>exact⟨o,x.1⟩
 |JW ps=>exact⟨_,x⟩
 |ext φ=>exact x.2.1
theorem kT.new{P:Program}{w:World}{H:Hp}{h:Heap}{a:Addr}(k:kT P w H h)(e:h.get? a=none):H a=none:=by
 cases q:H a with
 |none=>rfl
 |some o =>
  obtain⟨ob,q2⟩:=(k a o q).there
  rw[e] at q2;cases q2
section
variable {P:Program}{w:World}{K:PySem.W.Frag}{mg:Str->Option Value}{base:Heap}{N:List Str}{qual:Str}{scope:Scope}{f:Addr}{cd:Value}{A:Around}{outer:List Env}{s:Shared}{H:Hp}{E:XK}
end
section
variable {X:Cx}{pins:List (Addr×Obj)}{Z:St}{H:Hp}{s:Shared}{h':Heap}
end
section
variable {P:Program}{w:World}{K:PySem.W.Frag}{mg:Str->Option Value}{base:Heap}{N:List Str}{qual:Str}{scope:Scope}{f:Addr}{cd:Value}{A:Around}{outer:List Env}{s:Shared}{H:Hp}{E:XK}
end
section
variable {M:Model}{A:Around}{E:Value->Shared->Prop}
end
section
variable {X:Cx}{pins pins':List (Addr×Obj)}{Z:St}{H:Hp}{s:Shared}
end
section
variable {X:Cx}{pins:List (Addr×Obj)}{Z:St}{H:Hp}{s:Shared}{h2:Heap}{e C T T2:Addr}{d:Option Addr}
end
section
variable {X:Cx}
end
section
variable {X:Cx}{CX:y9}{k:Nat}{f C:Addr}{fd:FuncData}{ps:List Str}{sp:Sp}{dvs:List V}{ds:List Value}{x m:Str}{p pos apos:Pos}{e o:Expr}{es:List Expr}{ta:TE}{t:TA}
end
section
variable {P:Program}{w:World}{K:PySem.W.Frag}{mg:Str->Option Value}{base:Heap}
end
end L2
namespace L2
open PySem PySem.Spec PyProof.Rows PySem.W
section
variable {prog:Program}{w:World}{A:Around}{E:Value->Shared->Prop}{s:Shared}{K:Frag}{x C:Addr}{ox:Obj}{od:Option Obj}{name:Str}
end
section
variable {prog:Program}{w:World}{A:Around}{E:Value->Shared->Prop}{h:Heap}{g:Array GenState}{d:Drawn}{t:Nat}{os:OsState}{K:Frag}{C fI:Addr}{oI:Obj}{bm:List Value}{Nn:Addr}{mN:Str->Option Value}{rest:List Value}
end
section
variable {prog:Program}{w:World}{A:Around}{E:Value->Shared->Prop}{s:Shared}{K:Frag}{e C:Addr}{oe:Obj}{od:Option Obj}{bm:List Value}{Nn:Addr}{mN:Str->Option Value}{name:Str}{v:Value}{vs:Array Value}
end
section
variable {X:Cx}{pins:List (Addr×Obj)}{Z:St}{H:Hp}{s:Shared}{e C dx:Addr}{d:Option Addr}{fs:List (Str×V)}{f:Str}{A:Around}{E:Value->Shared->Prop}
end
section
variable {X:Cx}{o value ex:Expr}{f:Str}{pos pos':Pos}{ta tv:TE}
end
section
variable {P:Program}{w:World}{K:PySem.W.Frag}{mg:Str->Option Value}{base:Heap}{N:List Str}{qual:Str}{scope:Scope}{f:Addr}{cd:Value}{A:Around}{outer:List Env}{s:Shared}{H:Hp}{E:XK}
end
section
variable {P:Program}{w:World}{K:Frag}{mg:Str->Option Value}{base:Heap}{CX:y9}{k:Nat}{f:Addr}{fd:FuncData}{ps:List Str}{sp:Sp}
end
section
variable {X:Cx}{CX:y9}{k:Nat}{f:Addr}{fd:FuncData}{ps:List Str}{sp:Sp}{x:Str}{p pos:Pos}{e:Expr}{es:List Expr}{t:TA}{E:XK}
end
section
variable {X:Cx}{pins:List (Addr×Obj)}{Z:St}{H:Hp}{s:Shared}{e C:Addr}{d:Option Addr}{A:Around}{E:Value->Shared->Prop}
end
section
variable {X:Cx}{T:Str}{tp apos pos:Pos}{e1:Expr}{es:List Expr}{t:TA}{D:Addr}
end
end L2
namespace L2
open PySem PySem.Spec PyProof.Rows
section
variable {X:Cx}{pins:List (Addr×Obj)}{Z:St}{H:Hp}{s:Shared}
end
section
variable {X:Cx}{pins:List (Addr×Obj)}{Z:St}{H:Hp}{s:Shared}
end
section
variable {X:Cx}{pins:List (Addr×Obj)}{Z:St}{H:Hp}{s:Shared}
end
end L2
namespace PySem
namespace F
theorem Bp:typeLookup (.type "list_reverseiterator") "__len__" = pure none:=by rw[typeLookup_type,builtinLookup_eq_fast];kernel_rfl
theorem DJ:typeLookup (.type "list_reverseiterator") "__length_hint__" = pure (some (.builtin "list_reverseiterator.__length_hint__")):=by rw[typeLookup_type,builtinLookup_eq_fast];kernel_rfl
end F
section
variable {prog:Program}{w:World}{A:Around}{s:Shared}{R:Result->Shared->Prop}
variable {I:Addr}{fp wr:List Addr}{G:Array GenState->Array GenState->Prop}{n:Nat}{P:Nat->Value->Prop}{St:Nat->Shared->Prop}
theorem xG (W:WalksS prog w A.in1 I fp wr G n P St) (hT:∀i s,St i s->s.TypeIs (.ref I) "list_reverseiterator") (S:Addr) (res:Value) (c₀:Nat) (hst:St 0 s) (hSf:S∉fp) (hI:I∈fp)
  (hS:s.heap.get? S=some { cls:=.type "list",data:=.seq #[] c₀ })
  (hR:∀s' acc' c',Moved (S::wr) G s s'->s'.heap.get? S=some { cls:=.type "list",dict:=none,data:=.seq acc' c',slots:=#[] }->ItemsOf P acc' n->R (.ok (.ret res)) s') (hn:n<=sizeLine) :
  wpAny (model prog w) A.in1 (Builtin.List.listExtendWith (.ref S) (.ref I) res)
   (λfin s'=>match fin with | .done f=>R (.ok f) s' | .again c'=>c'.quiet=true/\codeAny (model prog w) A c' R s') (λe s'=>R (.error e) s') s:=by
 have hSI:S≠I:=λe=>hSf (e ▸ hI)
 unfold Builtin.List.listExtendWith
 refine wpAny_bind (wpAny_typeOf (hT 0 _ hst) ?_)
 have h1:Builtin.List.listSameRef (.ref S) (.ref I)=false:=by simp[Builtin.List.listSameRef,hSI]
 rw[if_neg (by rw[h1];decide)]
 refine wpAny_bind (W.self 0 _ _ _ hst ?_)
 refine wpAny_bind (wpAny_holding ?_)
 unfold Builtin.List.listLengthHint
 refine wpAny_bind (wpAny_specialOf (hT 0 _ hst) F.Bp ?_)
 show wpAny _ A.in1 (specialOf (Value.ref I) (Str.ofString "__length_hint__") >>= _) _ _ _
 refine wpAny_bind (wpAny_specialOf (hT 0 _ hst) F.DJ ?_)
 (generalize hid:("list_reverseiterator.__length_hint__" : String)=id0;(fail_if_success (clear hid id0));wp_delta;rw[show splitId id0=some ("list_reverseiterator","__length_hint__") from by subst hid;decide +kernel];subst hid)
 refine wpAny_bind (wpAny_isInstance (b:=true) (hT 0 _ hst) (by rw[isSubtype_type];kernel_rfl) ?_)
 refine wpAny_pure ?_
 rw[if_neg (by decide)]
 refine wpAny_pure ⟨plainId_quiet F.plain_extend_loop _,codeAny_extend_loopS W hn _ hSf _ n 0 _ _ _ rfl (Nat.zero_le _) hst hS (ItemsOf.nil P) λs' acc' c' hm hS' hacc=>?_⟩
 exact hR s' acc' c' hm hS' hacc
theorem CZ (W:WalksS prog w A.in1 I fp wr G n P St) (hT:∀i s,St i s->s.TypeIs (.ref I) "list_reverseiterator") (S:Addr) (hst:St 0 s) (hSf:S∉fp) (hI:I∈fp)
  (hS:s.heap.get? S=some { cls:=.type "list",data:=.seq #[] })
  (hR:∀s' acc' c',Moved (S::wr) G s s'->s'.heap.get? S=some { cls:=.type "list",dict:=none,data:=.seq acc' c',slots:=#[] }->ItemsOf P acc' n->R (.ok (.ret .none)) s') (hn:n<=sizeLine) :
  wpAny (model prog w) A.in1 (Builtin.«list.__init__» ⟨[.ref S,.ref I],[]⟩)
   (λfin s'=>match fin with | .done f=>R (.ok f) s' | .again c'=>c'.quiet=true/\codeAny (model prog w) A c' R s') (λe s'=>R (.error e) s') s:=by
 show wpAny _ A.in1 (Builtin.List.listItems (.ref S) >>= λold=>Builtin.List.listUpdate (.ref S) (λ_=>#[]) >>= λ_=>letGo old.toList.reverse >>= λ_=>Builtin.List.listExtendWith (.ref S) (.ref I) .none) _ _ s
 refine wpAny_bind ?_
 unfold Builtin.List.listItems
 refine wpAny_bind (wpAny_seqItems hS rfl (wpAny_pure ?_))
 show wpAny _ A.in1 (updateSeq S (λ_=>#[]) >>= λ_=>letGo (#[]:Array Value).toList.reverse >>= λ_=>Builtin.List.listExtendWith (.ref S) (.ref I) .none) _ _ s
 refine wpAny_bind (wpAny_updateSeq hS rfl ?_)
 have hS₂:=Heap.get?_update_self (Obj.mapSeq (λ_=>(#[]:Array Value))) hS rfl
 have oth:∀b o,b≠S->s.heap.get? b=some o->(s.heap.update S (Obj.mapSeq (λ_=>(#[]:Array Value)))).get? b=some o :=
  λb o hb e=>(Heap.get?_update_other _ _ (Ne.symm hb)).trans e
 refine wpAny_bind (wpAny_letGo ?_)
 refine xG (hn:=hn) W hT S .none _ (W.frame 0 s _ s.toks hst (Nat.le_refl _) λb hb o e=>oth b o (λh=>hSf (h ▸ hb)) e) hSf hI hS₂ λs' acc' c' hm hS' hacc=>?_
 exact hR s' acc' c' (Moved.trans W.gtrans ((Moved.refl W.grefl).then_heap (Nat.le_refl _) λb o hb e=>oth b o (λh=>hb (h ▸ List.mem_cons_self)) e) hm) hS' hacc
end
section
variable {prog:Program}{w:World}{A:Around}{E:Value->Shared->Prop}{s:Shared}
theorem rH{I l:Addr}{items:Array Value}{Q:Value->Shared->Prop}(hh:A.handled=none)(hne:l≠I)(hi:s.heap.IsRevIter I l ((items.size:Int)-1))(hl:s.heap.IsList l items)(hn:items.size<=sizeLine)
  (hQ:∀h' tk acc' c',(∀b o,b≠I->s.heap.get? b=some o->h'.get? b=some o)->h'.get? s.heap.objs.size=some { cls:=.type "list",dict:=none,data:=.seq acc' c',slots:=#[] } ->
   ItemsOf (λi v=>items[items.size-1-i]?=some v) acc' items.size->Q (.ref s.heap.objs.size) { s with heap:=h',toks:=tk }) :
  wpAny (model prog w) A (call (.type "list") [.ref I]) Q E s:=by
 have W:=(Walks.listRev (prog:=prog) (w:=w) (A:=A.in1.in1) hh I l hne items).toS
 have lI:I<s.heap.objs.size:=by obtain⟨_,e,_⟩:=hi;exact Heap.lt_size e
 have ll:l<s.heap.objs.size:=by obtain⟨_,e,_⟩:=hl;exact Heap.lt_size e
 have hSf:s.heap.objs.size∉[I,l]:=λz=>by
  rcases List.mem_cons.mp z with e|e
  ·exact Nat.ne_of_gt lI e
  ·exact Nat.ne_of_gt ll (List.mem_singleton.mp e)
 have hst:(0:Nat)<=items.size/\s.heap.IsRevIter I l ((items.size:Int)-1-((0:Nat):Int))/\s.heap.IsList l items:=⟨Nat.zero_le _,by simpa using hi,hl⟩
 refine callType_codes (Q₁:=λobj s₁=>obj = .ref s.heap.objs.size/\s₁ = { s with heap:=s.heap.push { cls:=.type "list",data:=.seq #[] } }) F.called_list (F.typeCall_list_1 _) F.entry_list_init
  (code_list_new _ ⟨rfl,rfl⟩) λobj s₁ h₁=>?_
 obtain⟨rfl,rfl⟩:=h₁
 have hS:(s.heap.push { cls:=.type "list",data:=.seq #[] }).get? s.heap.objs.size=some { cls:=.type "list",data:=.seq #[] }:=Heap.get?_push_size _ rfl
 refine⟨⟨_,hS,rfl⟩,F.args_list_init_2 _ _,CZ (A:=A.in1) (hn:=hn) W (λi s st=>st.2.1.typeIs) _ (W.frame 0 s _ s.toks hst (Nat.le_refl _) λb _ o e=>Heap.get?_push_of_some _ e) hSf (by simp) hS λs' acc' c' hm hS' hacc=>?_⟩
 rw[Moved.eq_with hm]
 refine⟨rfl,hQ s'.heap s'.toks acc' c' (λb o hb e=>?_) hS' hacc⟩
 refine hm.heap b o (λhmem=>?_) (Heap.get?_push_of_some _ e)
 rcases List.mem_cons.mp hmem with z|z
 ·exact absurd (Heap.lt_size e) (by rw[z];exact Nat.lt_irrefl _)
 ·exact hb (List.mem_singleton.mp z)
end
end PySem
namespace L2
open PySem PySem.Spec PyProof.Rows
theorem Inv.z6{X:Cx}{pins:List (Addr×Obj)}{Z:St}{H:Hp}{s:Shared}{h':Heap}{t':Nat}{ch:List Addr}(I:Inv X pins Z H s)(k:∀b o,b∉ch->s.heap.get? b=some o->h'.get? b=some o)(hn:∀b∈ch,H b=none)
  (hL:∀b∈ch,b≠X.env.locals) (h1:∀b∈ch,b∈X.ex∨X.s₀.heap.objs.size<=b) (h2:∀b∈ch,∀x c,X.env.cells.lookup x=some c->c≠b) (h3:∀b∈ch,∀p∈X.pn++pins,p.1≠b) :
  Inv X pins Z H { s with heap:=h',toks:=t' }:=by
 have nit:∀b u,H b=some u->b∉ch:=λb u e z=>by rw[hn b z] at e;cases e
 refine I.step (g':=s.gens) (d':=s.drawn) (ch:=ch) (λb hb=>⟨h1 b hb,hL b hb,h2 b hb,h3 b hb⟩) (λb o _ _ hc e _=>k b o hc e) (λb o _ _ hc e _=>⟨o.slots,k b o hc e⟩) (λ_ _ _ _ n=>n)
  (λb o hc e=>⟨o,k b o hc e⟩) (λ_ _ e=>e) (λ_ _ _ e=>e) (λb ps e=>⟨#[],by rw[e];simp⟩) (λm hm=>?_) (λb u e=>?_) I.bare
 ·obtain⟨o,es,ep,ho,r⟩:=hm
  exact⟨o,es,ep,k _ o (λz=>hL _ z rfl) ho,r⟩
 ·refine(I.hok b u e).stay (λc v hc q=>k c v ?_ q) (λ_ q=>q) λ_ _ q=>q
  rcases hc with z|z
  ·rw[z];exact nit b u e
  ·exact nit c _ z
def UC(K:PySem.W.Frag)(a b:Addr):It :=
 ⟨λi H=>∃xs ys x y,aY K H a xs/\aY K H b ys/\xs[i]?=some x/\ys[i]?=some y,
  λi H x H'=>∃p v u,H p=none/\x = .ref p/\H'=upd H p (.tup [v,u])/\(∀xs,aY K H a xs->xs[i]?=some v)/\∀ys,aY K H b ys->ys[i]?=some u,
  λi H=>∃xs ys,aY K H a xs/\aY K H b ys/\(xs.length<=i∨ys.length<=i)⟩
theorem Ez{P:Program}{w:World}{K:PySem.W.Frag}{elts:List Expr}{x1}{pos:Pos}(a b z TI TO i1 i2:Addr)(D:ZipApart z TI TO i1 i2 a b) :
  Turn P w K (.Tuple elts x1 pos) (UC K a b) [z,TI,TO,i1,i2] z (λi h=>∃v u,IsZip h z TI TO .none/\IsPair h TI (.ref i1) (.ref i2)/\IsPair h TO v u/\h.IsListIter i1 a i/\h.IsListIter i2 b i) where
 mem:=by simp
 obj:=λi h st c hc=>by
  obtain⟨v,u,hz,hI,hO,h1,h2⟩:=st
  simp only[List.mem_cons,List.not_mem_nil,or_false] at hc
  rcases hc with e|e|e|e|e
  ·subst e;exact⟨_,hz,λv q=>by cases q⟩
  ·subst e;exact⟨_,hI,λv q=>by cases q⟩
  ·subst e;exact⟨_,hO,λv q=>by cases q⟩
  ·subst e;obtain⟨o,e,c,d⟩:=h1;exact⟨o,e,λv q=>by rw[d] at q;cases q⟩
  ·subst e;obtain⟨o,e,c,d⟩:=h2;exact⟨o,e,λv q=>by rw[d] at q;cases q⟩
 keep:=λi h h' st k=>by
  obtain⟨v,u,hz,hI,hO,h1,h2⟩:=st
  exact⟨v,u,k z (by simp) _ hz,k TI (by simp) _ hI,k TO (by simp) _ hO,h1.at λo q=>k i1 (by simp) o q,h2.at λo q=>k i2 (by simp) o q⟩
 item:=by
  intro X hP hw hK hc i pins s Z H E I hf st hg
  subst hP hw hK
  obtain⟨v0,u0,hz,hI,hO,h1,h2⟩:=st
  obtain⟨xs,ys,x,y,hq1,hq2,hx,hy⟩:=hg
  obtain⟨is,r1,p1,z1⟩:=I.list hq1
  obtain⟨js,r2,p2,z2⟩:=I.list hq2
  obtain⟨u,hu,ru⟩:=r1.get hx
  obtain⟨v,hv,rv⟩:=r2.get hy
  have fz:=hf z (by simp)
  have fI:=hf TI (by simp)
  have fO:=hf TO (by simp)
  have f1:=hf i1 (by simp)
  have f2:=hf i2 (by simp)
  refine wpAny_pyNext_zip_item D hz hI hO h1 h2 p1.isList p2.isList (x:=u) (y:=v) (by simpa using hu) (by simpa using hv) λg1 gz gO ga gb gT hsz hk=>?_
  refine⟨_,rfl,wpAny_letOwnedTupleGo_zip (s:={ s with heap:=g1 }) gz λg2 en sb=>?_⟩
  have lz:z≠s.heap.objs.size:=Nat.ne_of_lt (Heap.lt_size hz)
  have lI:TI≠s.heap.objs.size:=Nat.ne_of_lt (Heap.lt_size hI)
  have lO:TO≠s.heap.objs.size:=Nat.ne_of_lt (Heap.lt_size hO)
  have l1:i1≠s.heap.objs.size:=by obtain⟨o,q,_⟩:=h1;exact Nat.ne_of_lt (Heap.lt_size q)
  have l2:i2≠s.heap.objs.size:=by obtain⟨o,q,_⟩:=h2;exact Nat.ne_of_lt (Heap.lt_size q)
  have k2:∀c o,c∉[z,TI,TO,i1,i2]->s.heap.get? c=some o->g2.get? c=some o:=λc o n q=>by
   simp only[List.mem_cons,List.not_mem_nil,or_false,not_or] at n
   exact(sb.2 c n.1).trans (hk c o n.1 n.2.2.1 n.2.2.2.1 n.2.2.2.2 q)
  have fresh:=I.hok.fresh (Nat.le_refl s.heap.objs.size)
  have I1:Inv X pins Z (upd H s.heap.objs.size (.tup [x,y])) { s with heap:=g2 }:=by
   refine I.step (g':=s.gens) (d':=s.drawn) (t':=s.toks) (ch:=[z,TI,TO,i1,i2]) (λb hb=>?_) (λb o _ _ hc q _=>?_) (λb o _ _ hc q _=>?_) (λb o hc q n=>?_) (λb o hc q=>?_) (λb ys q=>?_) (λb o ys q=>?_) (λb ps q=>?_) (λm hm=>?_) (λb u' q=>?_) I.bare
   ·have f:=hf b hb
    exact⟨f.2.2.2.1,f.2.1,f.2.2.2.2.1,f.2.2.2.2.2⟩
   ·exact k2 b o hc q
   ·exact⟨o.slots,k2 b o hc q⟩
   ·rw[aj (Nat.ne_of_lt (Heap.lt_size q))];exact n
   ·exact⟨o,k2 b o hc q⟩
   ·rw[aj (ak q fresh)];exact q
   ·rw[aj (ak q fresh)];exact q
   ·exact⟨#[],by rw[aj (ak q fresh),q];simp⟩
   ·obtain⟨o,es,ep,ho,r⟩:=hm
    refine⟨o,es,ep,k2 _ o (λn=>?_) ho,r⟩
    exact(hf _ n).2.1 rfl
   ·by_cases hb:b=s.heap.objs.size
    ·subst hb
     rw[af] at q;cases q
     refine⟨by show 2<=sizeLine;decide,[u,v],.cons ru (.cons rv .nil),⟨_,(sb.2 _ (Ne.symm lz)).trans gT,rfl,_,rfl⟩⟩
    ·rw[aj hb] at q
     refine(I.hok b u' q).stay (λc v hc' r=>k2 c v (λn=>?_) r) (λc r=>by rw[aj (ak r fresh)];exact r) λc ys r=>by rw[aj (ak r fresh)];exact r
     have n0:=(hf c n).1
     rcases hc' with e|e
     ·rw[e] at n0;rw[n0] at q;cases q
     ·rw[n0] at e;cases e
  refine⟨.ref s.heap.objs.size,_,I1,rfl,⟨_,x,y,fresh,rfl,rfl,λzs hs=>by rw[I.ko hs hq1];exact hx,λzs hs=>by rw[I.ko hs hq2];exact hy⟩,⟨u,v,en,?_,?_,?_,?_⟩,λc hc=>?_⟩
  ·exact(sb.2 TI D.TIz).trans (hk _ _ D.TIz D.TITO D.TIi1 D.TIi2 hI)
  ·exact(sb.2 TO D.TOz).trans gO
  ·obtain⟨o,q,r⟩:=ga
   exact⟨o,(sb.2 i1 D.i1z).trans q,r⟩
  ·obtain⟨o,q,r⟩:=gb
   exact⟨o,(sb.2 i2 D.i2z).trans q,r⟩
  ·have hb':=(hf c hc).1
   simp only[List.mem_cons,List.not_mem_nil,or_false] at hc
   rw[aj]
   ·exact hb'
   ·rcases hc with e|e|e|e|e <;> rw[e] <;> assumption
 done:=by
  intro X hP hw hK hc i pins s Z H E I hf st hg
  subst hP hw hK
  obtain⟨v0,u0,hz,hI,hO,h1,h2⟩:=st
  obtain⟨xs,ys,hq1,hq2,hx⟩:=hg
  obtain⟨is,r1,p1,z1⟩:=I.list hq1
  obtain⟨js,r2,p2,z2⟩:=I.list hq2
  have e1:=r1.length
  have e2:=r2.length
  refine wpAny_pyNext_zip_end (I.ok.hd hc) D hz hI hO h1 h2 p1.isList p2.isList (by rcases hx with h|h;· left;simp;lia
                                                                                    ·right;simp;lia) λh' eb=>⟨rfl,?_⟩
  refine I.z6 (t':=s.toks) (ch:=[z,TI,TO,i1,i2]) (λb o hb e=>?_) (λb hb=>(hf b hb).1) (λb hb=>(hf b hb).2.1) (λb hb=>(hf b hb).2.2.2.1) (λb hb=>(hf b hb).2.2.2.2.1) λb hb=>(hf b hb).2.2.2.2.2
  simp only[List.mem_cons,List.not_mem_nil,or_false,not_or] at hb
  exact eb b o hb.1 hb.2.2.1 hb.2.2.2.1 hb.2.2.2.2 e
 self:=λ_ _ _ _ _ st h=>by
  obtain⟨v,u,hz,hI,hO,h1,h2⟩:=st
  exact wpAny_pyIter_zip hz h
theorem tu{n l m:Nat}(h:l<n)(h':m<n):ZipApart (n+4) (n+2) (n+3) n (n+1) l m:=by
 constructor <;> (intro e;have e:(_:Nat)=_:=e;lia)
section
variable {X:Cx}
def UE(K:PySem.W.Frag)(ta:TA):TI:=λZ H R=>ta Z H λvs H1=>∃a b xs ys,vs=[.ref a,.ref b]/\aY K H1 a xs/\aY K H1 b ys/\R (UC K a b) H1
theorem Qt {a b:Expr} {ta:TA} {p pos tp:Pos} {elts:List Expr} {x1} (hg:Gl X "zip") (hm:X.mg "zip" = none) (ha:PA X [a,b] ta) (hs:autoParam (starEach [a,b] X.env=(false,eval a X.env)::starEach [b] X.env) L2.Y3._auto_1) (hs2:autoParam ((backTo pos (starEach [b] X.env)).any (·.1)=false) L2.Y3._auto_1) :
  PI X (.Tuple elts x1 tp) (.Call (.Name "zip" p) [a,b] [] pos) (UE X.K ta):=by
 intro pins s Z H R I h
 refine Call_ (j7 I hg hm (show bootBuiltins "zip" = some (.type "zip") by decide +kernel) (PyProof.Rows.callWith_type1 (cL (ha pos pins s Z H _ I h) λus s1 hY=>?_) hs hs2))
 obtain⟨vs,H1,I1,r1,q1⟩:=hY
 obtain⟨l,m,xs,ys,rfl,hq1,hq2,q⟩:=q1
 obtain⟨u,v,rfl,ru,rv⟩:=r1.two
 cases ru
 cases rv
 obtain⟨is,_,p1,_⟩:=I1.list hq1
 obtain⟨js,_,p2,_⟩:=I1.list hq2
 refine call_zip_2 p1.isList p2.isList λh' hz hI hO h1 h2 hsz hk=>?_
 refine wpAny_pyIter_zip (s:={ s1 with heap:=h' }) hz ?_
 have ll:l<s1.heap.objs.size:=by obtain⟨_,e,_⟩:=p1.isList;exact Heap.lt_size e
 have lm:m<s1.heap.objs.size:=by obtain⟨_,e,_⟩:=p2.isList;exact Heap.lt_size e
 refine⟨s1.heap.objs.size+4,[s1.heap.objs.size+4,s1.heap.objs.size+2,s1.heap.objs.size+3,s1.heap.objs.size,s1.heap.objs.size+1],_,_,H1,rfl,I1.kept (t':=s1.toks) hk,Ez l m _ _ _ _ _ (tu ll lm),⟨_,_,hz,hI,hO,h1,h2⟩,λb hb=>?_,q⟩
 have hb':s1.heap.objs.size<=b:=by
  simp only[List.mem_cons,List.not_mem_nil,or_false] at hb
  rcases hb with e|e|e|e|e <;> rw[e]
  ·exact Nat.le_add_right _ _
  ·exact Nat.le_add_right _ _
  ·exact Nat.le_add_right _ _
  ·exact Nat.le_refl _
  ·exact Nat.le_add_right _ _
 exact I1.vU hb' (I1.hok.fresh hb')
theorem DN{K:PySem.W.Frag}{a b:Addr}{xs ys:List V}{g:TG}{tb:TS}{D:Ends}{Z:St}{H:Hp}(Pv:Nat->St->Hp->Prop)(h0:Pv 0 Z H)(hl:∀i Z H,i<=xs.length->i<=ys.length->Pv i Z H->aY K H a xs/\aY K H b ys)
  (hs:∀i x y p Z H,xs[i]?=some x->ys[i]?=some y->H p=none->Pv i Z H->g (.ref p) Z (upd H p (.tup [x,y])) λZ2 H2=>tb { D with nx:=Pv (i+1),ct:=Pv (i+1),bk:=D.nx } Z2 H2)
  (hd:∀i Z H,(i=xs.length∨i=ys.length)->i<=xs.length->i<=ys.length->Pv i Z H->D.nx Z H):CL (UC K a b) g tb D Z H:=by
 refine⟨λi m Z H=>m=xs.length-i/\i<=xs.length/\i<=ys.length/\Pv i Z H,⟨xs.length,by simp,Nat.zero_le _,Nat.zero_le _,h0⟩,?_⟩
 rintro i m Z H ⟨rfl,hi,hj,p⟩
 obtain⟨q1,q2⟩:=hl i Z H hi hj p
 by_cases h1:i<xs.length
 ·by_cases h2:i<ys.length
  ·refine .inr ⟨⟨xs,ys,xs[i],ys[i],q1,q2,by simp[h1],by simp[h2]⟩,Pv (i+1),λZ' H' p'=>⟨xs.length-(i+1),by lia,rfl,h1,h2,p'⟩,λx H' y=>?_⟩
   obtain⟨pp,v,u,e1,rfl,rfl,e2,e3⟩:=y
   exact hs i v u pp Z H (e2 xs q1) (e3 ys q2) e1 p
  ·exact .inl ⟨⟨xs,ys,q1,q2,.inr (by lia)⟩,hd i Z H (.inr (by lia)) hi hj p⟩
 ·exact .inl ⟨⟨xs,ys,q1,q2,.inl (by lia)⟩,hd i Z H (.inl (by lia)) hi hj p⟩
theorem Eo{xs:List V}{is:List Value}{acc:Array Value}(r:Vals xs is)(hi:ItemsOf (λi v=>is.toArray[is.toArray.size-1-i]?=some v) acc is.toArray.size):Vals xs.reverse acc.toList:=by
 have e:acc.toList=is.reverse:=by
  apply List.ext_getElem?
  intro i
  have hz:acc.size=is.length:=by have:=hi.1;simpa using this
  by_cases hlt:i<is.length
  ·have hi':i<acc.size:=by rw[hz];exact hlt
   have h2:=hi.2 i acc[i] (by simp[hi'])
   rw[List.getElem?_reverse hlt]
   have h2:is[is.length-1-i]?=some acc[i]:=by simpa using h2
   rw[h2]
   simp[hi']
  ·rw[List.getElem?_eq_none (by simp;lia),List.getElem?_eq_none (by simp;lia)]
 rw[e]
 clear e hi
 induction r with
 |nil=>exact .nil
 |cons h t ih =>
  rw[List.reverse_cons,List.reverse_cons]
  exact ih.append (.cons h .nil)
def Ds(K:PySem.W.Frag)(ta:TA):TE:=λZ H Q=>ta Z H λvs H1=>∃l xs,vs=[.ref l]/\aY K H1 l xs/\∀r,H1 r=none->Q (.ref r) (upd H1 r (.lst xs.reverse))
theorem qc {a:Expr} {ta:TA} {p pos p2 pos2:Pos} (hc:X.calm=true) (hg:Gl X "list") (hm:X.mg "list" = none) (hg2:Gl X "reversed") (hm2:X.mg "reversed" = none) (ha:PA X [a] ta)
  (hs:autoParam (starEach [.Call (.Name "reversed" p2) [a] [] pos2] X.env=[(false,eval (.Call (.Name "reversed" p2) [a] [] pos2) X.env)]) L2.Y3._auto_1) (hs2:autoParam (starEach [a] X.env=[(false,eval a X.env)]) L2.Y3._auto_1) :
  PE X (.Call (.Name "list" p) [.Call (.Name "reversed" p2) [a] [] pos2] [] pos) (Ds X.K ta):=by
 intro pins s Z H Q I h
 refine Call_ (j7 I hg hm (show bootBuiltins "list" = some (.type "list") by decide +kernel) (PyProof.Rows.callWith_type1 ?_ hs rfl))
 rw[hs]
 show wpAny _ _ (spliced [(false,eval (.Call (.Name "reversed" p2) [a] [] pos2) X.env)]) _ _ s
 refine Calls.spliced_cons ?_
 refine Call_ (j7 I hg2 hm2 (show bootBuiltins "reversed" = some (.type "reversed") by decide +kernel) (PyProof.Rows.callWith_type1 (cL (ha pos2 pins s Z H _ I h) λus s1 hY=>?_) hs2 rfl))
 obtain⟨vs,H1,I1,r1,q1⟩:=hY
 obtain⟨l,xs,rfl,hq,q⟩:=q1
 obtain⟨u,rfl,ru⟩:=r1.one
 cases ru
 obtain⟨is,rv,pl,hz⟩:=I1.list hq
 refine call_reversed_list pl.isList (Calls.spliced_nil ?_)
 have ll:l<s1.heap.objs.size:=by obtain⟨_,e,_⟩:=pl.isList;exact Heap.lt_size e
 refine rH (I.ok.hd hc) (Nat.ne_of_lt ll) ⟨_,Heap.get?_push_size _ rfl,rfl,rfl⟩ (pl.isList.push _) (by have:=rv.length;simp;lia) λh' tk acc c kp e hi=>?_
 have sz:(s1.heap.push (revObj l ((is.toArray.size:Int)-1))).objs.size=s1.heap.objs.size+1:=Heap.size_push ..
 have hlen:xs.length<=sizeLine:=hz
 have k2:∀b u,s1.heap.get? b=some u->h'.get? b=some u:=λb u eb=>kp b u (Nat.ne_of_lt (Heap.lt_size eb)) (Heap.get?_push_of_some _ eb)
 have hp:s1.heap.objs.size<=(s1.heap.push (revObj l ((is.toArray.size:Int)-1))).objs.size:=by rw[sz];exact Nat.le_add_right _ _
 refine⟨.ref _,_,I1.laid (t':=tk) (o:=.lst xs.reverse) k2 hp (show cH X.prog X.w _ h' _ (.lst xs.reverse) from ⟨by rw[List.length_reverse];exact hlen,acc.toList,c,Eo rv hi,by simpa using e⟩),rfl,q _ (I1.hok.fresh hp)⟩
end
end L2
namespace L2
open PySem PySem.Spec PyProof.Rows
section
variable {X:Cx}{e v1 v2:Expr}{es:List Expr}{te:TE}{pos:Pos}
theorem uc:iE X (.type "int") (λxs H Q=>∃n:Int,xs=[.str (PySem.Str.ofString (toString n))]/\0<=n/\n<10 ^ 10/\Q (.int n) H):=by
 intro pins s Z H xs us Q I r h
 obtain⟨n,rfl,h0,h1,q⟩:=h
 obtain⟨u,rfl,t,rfl⟩:=vals1 r
 exact PySem.W.KIN.call_num h0 h1 ⟨.int n,H,I.tok _,⟨_,rfl⟩,q⟩
variable {t:TF}
end
end L2
namespace L2
open PySem PySem.Spec PyProof.Rows PySem.W
section
variable {X:Cx}
end
end L2
namespace L2
open PySem PySem.Spec PyProof.Rows
theorem i6{prog:Program}{w:World}{A:Around}{R:Result->Shared->Prop}{s:Shared}{elt target iter c:Expr}{scope:Scope}{pos:Pos}{it acc:Value}{env:Env}(J:Nat->Shared->Prop)
  (turn:∀n s,J n s->wpAny (model prog w) A (pyNext it) (λr s₁=>match r with
   |none=>R (.ok .next) s₁
   |some v=>wpAny (model prog w) A (letOwnedTupleGo target it v) (λ_ s₁=>wpAny (model prog w) A (assign target env v) (λ_ s₂=>wpAny (model prog w) A (isTrue c env (eval c env)) (λok s₂=>if ok=true then wpAny (model prog w) A (eval elt env) (λx s₃ =>
     wpAny (model prog w) A (call (.builtin "list.append") [acc,x]) (λ_ s₄=>∃m,m<n/\J m s₄) (λ_ _=>False) s₃)
     (λ_ _=>False) s₂ else ∃m,m<n/\J m s₂) (λ_ _=>False) s₂) (λ_ _=>False) s₁) (λ_ _=>False) s₁) (λ_ _=>False) s)
  (n:Nat) (h:J n s) :
  codeAny (model prog w) A (.compLoop (.ListComp elt [⟨target,iter,[c],0⟩] scope pos) 0 it acc env) R s:=by
 refine codeAny_loop rfl J (λn s hI=>?_) n h
 show wpAny _ _ ((compTurn (.ListComp elt [⟨target,iter,[c],0⟩] scope pos) 0 it acc env).onRaise (λx=>do noteFrame x env;theTreesLotGoes x)) _ _ s
 refine wpAny_noted ?_
 rw[compTurn_list]
 refine wpAny_bind (wpAny_standAt (wpAny_bind (wpAny_mono (turn n s hI) (λr s₁ h₁=>?_) λ_ _ h'=>h'.elim)))
 cases r with
 |none=>exact wpAny_pure h₁
 |some v =>
  refine wpAny_bind (wpAny_mono h₁ (λ_ s₁' h₁=>?_) λ_ _ h'=>h'.elim)
  refine wpAny_bind (wpAny_mono h₁ (λ_ s₂ h₂=>wpAny_bind (wpAny_tests_one (wpAny_mono h₂ (λok s₃ h₃=>?_) λ_ _ h'=>h'.elim))) λ_ _ h'=>h'.elim)
  cases ok with
  |false =>
   rw[if_neg (by decide)] at h₃
   exact wpAny_pure ⟨rfl,h₃⟩
  |true =>
   rw[if_pos rfl] at h₃
   refine wpAny_bind (wpAny_bind (wpAny_mono h₃ (λx s₃ h₃=>wpAny_bind (wpAny_mono h₃
    (λ_ s₄ h₄=>wpAny_pure (wpAny_pure ⟨rfl,h₄⟩)) λ_ _ h'=>h'.elim)) λ_ _ h'=>h'.elim))
section
variable {X:Cx}
def tX(J:It)(caps:List (Str×Nat))(tt:TT)(te:TE)(Z:St)(H1:Hp)(Q:VK):Prop:=∃W:Nat->Nat->List V->Hp->Prop,(∃m,W 0 m [] H1)/\∀i m ys H,W i m ys H ->
 (J.stop i H/\∀D,H D=none->Q (.ref D) (upd H D (.lst ys)))∨(J.go i H/\ys.length<sizeLine/\∀x H',J.IZ i H x H'->tt (e9 caps Z++[some x]) H' λb H2=>if b=true then te (e9 caps Z++[some x]) H2 λy H3=>∃m',m'<m/\W (i+1) m' (ys++[y]) H3 else ∃m',m'<m/\W (i+1) m' ys H2)
def tY(caps:List (Str×Nat))(wi:TI)(tt:TT)(te:TE):TE:=λZ H Q=>wi Z H λJ H1=>tX J caps tt te Z H1 Q
theorem A6{sc csc:Scope}{N:List Str}{elt iter c:Expr}{x:Str}{px pos:Pos}{caps:List (Str×Nat)}{wi:TI}{te:TE}{tt:TT}(ck:pW sc csc N x caps)(hi:PI X (.Name x px) iter wi)
  (ht:∀C s2 H2 fp,PT (bh X (caps.map (·.1)++[x]) csc C s2 H2 fp) c tt) (he:∀C s2 H2 fp,PE (bh X (caps.map (·.1)++[x]) csc C s2 H2 fp) elt te) (hc:autoParam (X.calm=true) L2.Y3._auto_1) (hsc:autoParam (X.env.scope=sc) L2.Y3._auto_1) (hXN:autoParam (X.N=N) L2.Y3._auto_1) (hs:autoParam (∀x,foldedSetIterable iter X.env x=pure x) L2.Y2._auto_1) :
  PE X (.ListComp elt [⟨.Name x px,iter,[c],0⟩] csc pos) (tY caps wi tt te):=by
 subst hsc hXN
 intro pins s Z H Q I h
 rw[eval_ListComp]
 have cellsOk:∀p∈csc.names,p.2 = .free->∃c,X.env.cells.lookup p.1=some c:=λp hp e=>I.ok.has p.1 (.inl (ck.free p hp e))
 refine wpAny_comprehension_free (use:=none) rfl hs (fE cellsOk) ck.kind ck.loc (cL (hi pins s Z H _ I h) λv s1 h1=>cL h1 λitv s2 h2=>?_)
 obtain⟨it,fp,tn,J,H2,e,I2,T,st2,f2,W,⟨m0,w0⟩,turn⟩:=h2
 subst e
 refine wpAny_newObj_type (wpAny_newFunctionEnv ck.cell (by intro y hy;simp at hy) (λh4 hns4 hsb4=>?_) ck.kind)
 dsimp only at hns4 hsb4 ⊢
 generalize hD:s2.heap.objs.size=D at hns4 hsb4 ⊢
 generalize hH2:s2.heap.push { cls:=.type "list",dict:=none,data:=.seq ([]:List Value).toArray }=G at hns4 hsb4 ⊢
 have hGs:G.objs.size=D+1:=by rw[← hH2,Heap.size_push,hD]
 rw[hGs] at hns4 hsb4 ⊢
 have lt2:∀b o,s2.heap.get? b=some o->b<D:=λb o e=>hD ▸ Heap.lt_size e
 have old:∀b o,s2.heap.get? b=some o->b≠D+1/\b≠D:=λb o e=>⟨rJ (lt2 b o e),sL (lt2 b o e)⟩
 have leD:s2.heap.objs.size<=D:=Nat.le_of_eq hD
 have leD1:s2.heap.objs.size<=D+1:=Nat.le_succ_of_le leD
 have keep4:∀b o,s2.heap.get? b=some o->h4.get? b=some o:=λb o e=>hsb4.extBut b o (old b o e).1 (Heap.get?_push_of_some _ (hH2 ▸ Heap.get?_push_of_some _ e))
 have hDo:h4.get? D=some { cls:=.type "list",data:=.seq ([]:List Value).toArray 0 }:=by
  refine hsb4.extBut D _ q9 (Heap.get?_push_of_some _ ?_)
  rw[← hH2,← hD]
  exact Heap.get?_push_size _ rfl
 have fps:∀b∈fp,b<s2.heap.objs.size:=λb hb=>by
  obtain⟨o,e,_⟩:=T.obj _ _ st2 b hb
  exact Heap.lt_size e
 have I4:∀t4,Inv (bh X (caps.map (·.1)++[x]) csc (D+1) s2 H2 fp) [] (e9 caps Z++[none]) H2 { s2 with heap:=h4,toks:=t4 }:=λt4=>lE (m0:=λx=>[].reverse.lookup x) I2 ck f2 fps leD1 keep4 hns4
 have cellsLt:∀y c,(dj X.env csc.names []).lookup y=some c->c<D:=λy c e=>by
  obtain⟨v,o,ho,_⟩:=I2.cell y c (c6 _ _ cellsOk (λy c h=>by simp at h) y c e)
  exact lt2 c o ho
 have fsLt:∀b∈frs X.stack,b<D:=λb hb=>by
  obtain⟨_,o,ho,_⟩:=I2.stack.mem hb
  exact lt2 b o ho
 have fpC:∀{pl:List (Addr×Obj)} {H':Hp},(∀p∈pl,p.1=D)->(∀b∈fp,H' b=none)->∀b∈fp,mP (bh X (caps.map (·.1)++[x]) csc (D+1) s2 H2 fp) pl H' b:=λ{pl H'} hpl hn b hb=>by
  have hb':b<D:=hD ▸ fps b hb
  refine⟨hn b hb,rJ hb',?_,.inl hb,λy c e=>?_,λp hp=>?_⟩
  ·intro z
   rcases List.mem_cons.mp (I2.jz b z) with e|e
   ·exact(f2 b hb).2.1 e
   ·exact(f2 b hb).2.2.1 e
  ·exact(f2 b hb).2.2.2.2.1 y c (c6 _ _ cellsOk (λy c h=>by simp at h) y c e)
  ·have:p.1=D:=hpl p (by simpa using hp)
   rw[this];exact λz=>sL hb' z.symm
 have loop:∀t4,codeAny (model X.prog X.w) X.A (.compLoop (.ListComp elt [⟨.Name x px,iter,[c],0⟩] csc pos) 0 (.ref it) (.ref D) (compEnvC csc (dj X.env csc.names []) (D+1) X.env))
   (compPost (model X.prog X.w) X.A X.xe none (EP X pins Z Q) (.ref D) (D+1)) { s2 with heap:=h4,toks:=t4 }:=by
  intro t4
  refine i6 (λn s'=>∃(i:Nat) (ys:List V) (its:List Value) (k:Nat) (Z':St) (H':Hp),Inv (bh X (caps.map (·.1)++[x]) csc (D+1) s2 H2 fp) [(D,{ cls:=.type "list",data:=.seq its.toArray k })] Z' H' s'/\tn i s'.heap/\(∀b∈fp,H' b=none)/\Vals ys its/\ys.length<=sizeLine/\W i n ys H'/\(∃z,Z'=e9 caps Z++[z])) ?_ m0 ?_
  ·rintro n s3 ⟨i,ys,its,k,Z3,H3,I3,st3,fr3,hv,hz,w3,z3,rfl⟩
   have pl1:∀p∈[((D,{ cls:=.type "list",data:=.seq its.toArray k }):Addr×Obj)],p.1=D:=λp hp=>by rw[List.mem_singleton.mp hp]
   rcases turn i n ys H3 w3 with ⟨stop,qn⟩|⟨go,hlt,step⟩
   ·refine wpAny_mono (T.done (bh X (caps.map (·.1)++[x]) csc (D+1) s2 H2 fp) rfl rfl rfl hc i _ s3 _ H3 (λ_ _=>False) I3 (fpC pl1 fr3) st3 stop) (λr s4 hY=>?_) λ_ _ f=>f.elim
    obtain⟨hr,I4'⟩:=hY
    subst hr
    obtain⟨m,hn,_⟩:=id I4'.loc
    have pD:=I4'.pin (D,{ cls:=.type "list",data:=.seq its.toArray k }) (by simp)
    refine⟨m,hn,λh' hs'=>⟨.ref D,_,jd I2 I4' f2 leD1 leD q9 hs' hv hz pD.1 pD.2.1,rfl,qn D pD.2.1⟩⟩
   ·refine wpAny_mono (T.item (bh X (caps.map (·.1)++[x]) csc (D+1) s2 H2 fp) rfl rfl rfl hc i _ s3 _ H3 (λ_ _=>False) I3 (fpC pl1 fr3) st3 go) (λr s4 hY=>?_) λ_ _ f=>f.elim
    obtain⟨u,hr,h4'⟩:=hY
    subst hr
    refine wpAny_mono h4' (λ_ s4 hY=>?_) λ_ _ f=>f.elim
    obtain⟨xv,H5,I5,r5,y5,st5,fr5⟩:=hY
    have I5':=I5.pinned (fpC pl1 fr5) (T.obj _ _ st5)
    have hiN:(caps.map (·.1)++[x])[caps.length]?=some x:=by rw[List.getElem?_append_right (by simp)];simp
    refine wpAny_mono (eW (X:=bh X (caps.map (·.1)++[x]) csc (D+1) s2 H2 fp) (i:=caps.length) ck.nd hiN (.inl (lookup_relabel_local ck.tg)) (.inr (lookup_relabel_local ck.tg)) _ s4 _ H5 xv u _ I5' r5 (show kq caps.length xv _ H5 (λZ6 H6=>Z6=e9 caps Z++[some xv]/\H6=H5) from ⟨?_,rfl⟩)) (λ_ s6 ⟨Z6,H6,I6,hZ,hH⟩=>?_) λ_ _ f=>f.elim
    ·rw[List.set_append_right _ _ (by rw[dP];exact Nat.le_refl _),dP,Nat.sub_self];rfl
    subst hZ hH
    refine wpAny_mono (ht (D+1) s2 H2 fp _ s6 _ H6 _ I6 (step xv H6 y5)) (λok s6 hY=>?_) λ_ _ f=>f.elim
    obtain⟨H6,I6,q6⟩:=hY
    cases ok with
    |false =>
     rw[if_neg (by decide)] at q6 ⊢
     obtain⟨m',hm,w8⟩:=q6
     have pD:=I6.pin (D,{ cls:=.type "list",data:=.seq its.toArray k }) (by simp)
     refine⟨m',hm,i+1,ys,its,k,_,H6,I6.cC λp hp=>?_,T.keep _ _ _ st5 λb hb o e=>(I6.pin (b,o) (List.mem_append_right _ (List.mem_append_right _ (bQ hb e)))).1,λb hb=>?_,hv,hz,w8,_,rfl⟩
     ·rw[List.mem_singleton.mp hp];exact pD
     ·obtain⟨o,e,d⟩:=T.obj _ _ st5 b hb
      exact(I6.pin (b,o) (List.mem_append_right _ (List.mem_append_right _ (bQ hb e)))).2.1
    |true =>
    rw[if_pos rfl] at q6 ⊢
    refine wpAny_mono (he (D+1) s2 H2 fp _ s6 _ H6 _ I6 q6) (λw7 s7 hY=>?_) λ_ _ f=>f.elim
    obtain⟨y,H7,I7,r7,m',hm,w8⟩:=hY
    have pD:=I7.pin (D,{ cls:=.type "list",data:=.seq its.toArray k }) (by simp)
    have hll:=hv.length
    refine call_meets F.slot_list_append ⟨_,pD.1,rfl⟩ F.entry_list_append (F.args_list_append_2 _ _) (PySem.list_append D its.toArray k w7 (by rw[List.size_toArray];lia)) ⟨pD.1,?_⟩
    have q:=PySem.IsL.update pD.1 (·.push w7)
    have hpush:its.toArray.push w7=(its++[w7]).toArray:=by simp
    rw[hpush] at q
    obtain⟨k',q⟩:∃k',(s7.heap.update D (Obj.mapSeq (·.push w7))).get? D=some { cls:=.type "list",data:=.seq (its++[w7]).toArray k' }:=⟨_,q⟩
    have I7u:Inv (bh X (caps.map (·.1)++[x]) csc (D+1) s2 H2 fp) (gr fp s4.heap) _ H7 s7:=I7.cC λp hp=>I7.pin p (List.mem_append_right _ (List.mem_append_right _ hp))
    have pfp:∀p∈gr fp s4.heap,p.1<D:=λp hp=>hD ▸ fps p.1 (iy hp).1
    have I8:=I7u.turned (h':=s7.heap.update D (Obj.mapSeq (·.push w7))) (t':=s7.toks) (it:=D) (λb o hb e=>(Heap.get?_update_other s7.heap _ (Ne.symm hb)).trans e) pD.2.1 q9 (.inr leD) (λy c e=>sL (cellsLt y c e)) (λp hp=>sL (pfp p (by simpa using hp)))
    refine⟨m',hm,i+1,ys++[y],its++[w7],k',_,H7,I8.cC λp hp=>?_,T.keep _ _ _ st5 λb hb o e=>(I8.pin (b,o) (List.mem_append_right _ (bQ hb e))).1,λb hb=>?_,hv.append (.cons r7 .nil),?_,w8,_,rfl⟩
    ·rw[List.mem_singleton.mp hp]
     exact⟨q,pD.2.1,pD.2.2.1,pD.2.2.2.1,λv=>by simp⟩
    ·obtain⟨o,e,d⟩:=T.obj _ _ st5 b hb
     exact(I8.pin (b,o) (List.mem_append_right _ (bQ hb e))).2.1
    ·rw[List.length_append,List.length_singleton];lia
  ·refine⟨0,[],[],0,_,H2,(I4 t4).cC λp hp=>?_,T.keep _ _ _ st2 λb hb o e=>keep4 b o e,λb hb=>(f2 b hb).1,.nil,Nat.zero_le _,w0,_,rfl⟩
   rw[List.mem_singleton.mp hp]
   refine⟨hDo,I2.hok.fresh leD,q9,λz=>absurd (fsLt D z) (Nat.lt_irrefl _),λv=>by simp⟩
 exact codeAny_compStart_list (loop _) (T.self _ 0 _ _ _ (T.keep _ _ _ st2 λb hb o e=>keep4 b o e) (loop _))
theorem iQ{n i:Nat}{ys:List V}{R:Prop}(hi:i<n)(hl:ys.length<=i+1)(r:R):∃m',m'<n-i/\m'=n-(i+1)/\i+1<=n/\ys.length<=i+1/\R:=⟨n-(i+1),by lia,rfl,hi,hl,r⟩
theorem vP{K:PySem.W.Frag}{a:Addr}{xs:List V}{caps:List (Str×Nat)}{tt:TT}{te:TE}{Z:St}{H:Hp}{Q:VK}(Pv:Nat->List V->Hp->Prop)(h0:Pv 0 [] H)(hn:xs.length<sizeLine)
  (hq:∀i ys H,i<=xs.length->Pv i ys H->aY K H a xs)
  (hs:∀i x ys H,xs[i]?=some x->ys.length<=i->Pv i ys H->tt (e9 caps Z++[some x]) H λb H2=>if b=true then te (e9 caps Z++[some x]) H2 λy H3=>∃m',m'<xs.length-i/\m'=xs.length-(i+1)/\i+1<=xs.length/\(ys++[y]).length<=i+1/\Pv (i+1) (ys++[y]) H3
   else ∃m',m'<xs.length-i/\m'=xs.length-(i+1)/\i+1<=xs.length/\ys.length<=i+1/\Pv (i+1) ys H2) (hd:∀ys H,ys.length<=xs.length->Pv xs.length ys H->∀D,H D=none->Q (.ref D) (upd H D (.lst ys))) :
  tX (LV K a) caps tt te Z H Q:=by
 refine⟨λi m ys H=>m=xs.length-i/\i<=xs.length/\ys.length<=i/\Pv i ys H,⟨xs.length,by simp,Nat.zero_le _,Nat.zero_le _,h0⟩,?_⟩
 rintro i m ys H ⟨rfl,hi,hl,p⟩
 have q:=hq i ys H hi p
 by_cases hlt:i<xs.length
 ·refine .inr ⟨⟨xs,xs[i],q,by simp[hlt]⟩,by lia,λx H' y=>?_⟩
  obtain⟨e,y⟩:=y
  subst e
  exact hs i x ys _ (y xs q) hl p
 ·have e:i=xs.length:=by lia
  subst e
  exact .inl ⟨⟨xs,q,Nat.le_refl _⟩,hd ys H hl p⟩
end
end L2
namespace L2
open PySem PySem.Spec PyProof.Rows
section
variable {X:Cx}
end
end L2
namespace L2
open PySem PySem.Spec PyProof.Rows
theorem zl{z:Str}{caps:List (Str×Nat)}{tt:TT}{te:TE}{Z:St}{H:Hp}{Q:VK}(Pv:Nat->List V->Hp->Prop)(h0:Pv 0 [] H)(hn:z.length<sizeLine)
  (hs:∀i c ys H,z.cps.toList[i]?=some c->ys.length<=i->Pv i ys H->tt (e9 caps Z++[some (.str ⟨#[c]⟩)]) H λb H2=>if b=true then te (e9 caps Z++[some (.str ⟨#[c]⟩)]) H2 λy H3=>∃m',m'<z.length-i/\m'=z.length-(i+1)/\i+1<=z.length/\(ys++[y]).length<=i+1/\Pv (i+1) (ys++[y]) H3
   else ∃m',m'<z.length-i/\m'=z.length-(i+1)/\i+1<=z.length/\ys.length<=i+1/\Pv (i+1) ys H2) (hd:∀ys H,ys.length<=z.length->Pv z.length ys H->∀D,H D=none->Q (.ref D) (upd H D (.lst ys))) :
  tX (Rx z) caps tt te Z H Q:=by
 refine⟨λi m ys H=>m=z.length-i/\i<=z.length/\ys.length<=i/\Pv i ys H,⟨z.length,by simp,Nat.zero_le _,Nat.zero_le _,h0⟩,?_⟩
 rintro i m ys H ⟨rfl,hi,hl,p⟩
 by_cases hlt:i<z.length
 ·refine .inr ⟨hlt,by lia,λx H' y=>?_⟩
  obtain⟨rfl,c,h1,rfl⟩:=y
  exact hs i c ys _ h1 hl p
 ·have e:i=z.length:=by lia
  subst e
  exact .inl ⟨Nat.le_refl _,hd ys H hl p⟩
section
variable {X:Cx}
end
end L2
namespace L2
open PySem PySem.Spec PyProof.Rows
variable {X:Cx}
end L2
namespace L2
open PySem PySem.Spec PyProof.Rows
section
variable {prog:Program}{w:World}{A:Around}{E:Value->Shared->Prop}{s:Shared}
set_option maxRecDepth 100000 in
end
section
variable {X:Cx}
end
end L2
namespace HT
open PySem PyProof.Rows
section
open PySem.SeqAt
open PySem.AutoSeq1 (wpAny_loadPart')
open PySem.MeetsSeq PySem.MeetsSeq2 PySem.MeetsSeq3
end
section
variable {prog:Program}{w:World}{A:Around}{E:Value->Shared->Prop}{s:Shared}
end
end HT
namespace L2
open PySem PySem.Spec PyProof.Rows
variable {X:Cx}
end L2
namespace HT
open PySem PyProof.Rows
section
open PySem.SeqAt
open PySem.AutoSeq1 (wpAny_loadPart')
open PySem.MeetsSeq PySem.MeetsSeq2 PySem.MeetsSeq3
end
section
variable {prog:Program}{w:World}{A:Around}{E:Value->Shared->Prop}{s:Shared}
end
end HT
namespace L2
open PySem PySem.Spec PyProof.Rows
variable {X:Cx}
end L2
namespace L2
open PySem PySem.Spec PyProof.Rows
section
variable {X:Cx}
end
end L2
namespace L2
open PySem PySem.Spec PyProof.Rows
theorem qg:typeLookup (.type "list") "keys" = pure none:=by rw[typeLookup_type,builtinLookup_eq_fast];kernel_rfl
theorem lP{prog:Program}{w:World}{A:Around}{E:Value->Shared->Prop}{s:Shared}{a:Addr}{o:Obj}{xs:Array Value}{k:Nat}{name:Str}{Q:Option Value->Shared->Prop}
  (hx:s.heap.get? a=some o) (hc:o.cls = .type "list") (hdat:o.data = .seq xs k) (hd:o.dict=none) (hmiss:typeLookup (.type "list") name=pure none) (hname:(["__module__","__name__","__qualname__","__doc__","__annotations__"]:List Str).contains name=false) (hA:A.handled=none)
  (h:∀h' tk,(∀b o,s.heap.get? b=some o->h'.get? b=some o)->Q none { s with heap:=h',toks:=tk }) (hsz:name.length+100<=sizeLine:=by size_fits) :
  wpAny (model prog w) A (getAttr? (.ref a) name) Q E s:=by
 obtain⟨c,dct,dat,sl⟩:=o
 simp only at hc hdat hd
 subst hc hdat hd
 obtain⟨hp,g,d,tk,os⟩:=s
 have hT:∀tk',(⟨hp,g,d,tk',os⟩:Shared).TypeIs (.ref a) "list" := λ_=>⟨_,hx,rfl⟩
 have f1:=sub_AttributeError
 have f3:=F.slot_list_getattribute.lookup
 have f4:=F.slot_list_getattribute.bind (.ref a)
 have f5:=am_list_getattr_none
 unfold getAttr? getAttrBy? getAttrBy
 repeat (any_goals (first | assumption | exact hT _ | ((with_reducible show wpAny _ _ (call (Value.builtin "list.__getattribute__") _ _) _ _ _);refine call_meets F.slot_list_getattribute (hT _) am_entry_list_getattribute (F.args_list_getattribute_2 _ _) (meets_getattribute_miss_list a xs k sl name _ hmiss hname hsz) ⟨hx,hA,λh' tk' e hx'=>?_⟩) | wp_step))
 obtain⟨t',u',he⟩:=hx'.there
 show wpAny _ _ (getattributeRaised _ _ _ _ _ _ _) _ _ _
 unfold getattributeRaised
 repeat (any_goals (first | assumption | wp_step))
 exact h _ _ hx'.of.keeps
theorem gq:entryFor table "dict.update.loop" = some Builtin.«dict.update.loop»:=entryFor_of_tree (by kernel_rfl)
theorem cY:plainId "dict.update.loop" = true:=by decide +kernel
section
variable {prog:Program}{w:World}{κ:Type}[DecidableEq κ]{knd:KeyKind prog w κ}{A:Around}{R:Result->Shared->Prop}
theorem xX(vs:List (κ×Value))(k:κ)(v:Value):(stored vs k v).length<=vs.length+1:=by
 unfold stored
 split
 ·simp
 ·simp
theorem xh(vs:List (κ×Value)):∀rs:List (κ×Value),(merged vs rs).length<=vs.length+rs.length:=λrs=>by
 induction rs generalizing vs with
 |nil=>exact Nat.le_refl _
 |cons kv r ih =>
  have h1:=ih (stored vs kv.1 kv.2)
  have h2:=xX vs kv.1 kv.2
  show (merged (stored vs kv.1 kv.2) r).length<=vs.length+(r.length+1)
  lia
theorem BK(hh:A.in1.handled=none){D it l:Addr}{items:Array Value}{rs:List (κ×Value)}(hn:items.size=rs.length)(hb:rs.length<=1000)
  (d1:it≠D) (d2:l≠D) (d3:l≠it) :
  ∀(k i:Nat) (s:Shared),items.size-i=k->i<=items.size->s.heap.IsListIter it l i->s.heap.IsList l items ->
   (∀(j:Nat) (u:Value) (kv:κ×Value),items[j]?=some u->rs[j]?=some kv->∃p a,u = .ref p/\p≠D/\p≠it/\s.heap.IsTuple p #[a,kv.2]/\knd.is kv.1 a=true) ->
   s.heap.DictOf knd D (merged [] (rs.take i)) ->
   (∀s',s'.heap.DictOf knd D (merged [] rs)->(∀b o,b≠D->b≠it->s.heap.get? b=some o->s'.heap.get? b=some o)->s'.gens=s.gens->s'.drawn=s.drawn->s'.os=s.os->R (.ok (.ret .none)) s') ->
   codeAny (model prog w) A (.builtin "dict.update.loop" ⟨[.ref D,.ref it,rawInt (i:Int),.none],[]⟩) R s:=by
 intro k
 induction k with
 |zero =>
  intro i s hk hi hit hl hp hd hR
  have hin:i=items.size:=by lia
  refine codeAny_builtin gq ?_
  rw[Around.under_plainId cY _]
  show wpAny _ A.in1 (pyNext (.ref it) >>= _) _ _ s
  refine wpAny_bind (wpAny_pyNext_list_end hh hit hl (by rw[hin];simp) λh' hs=>?_)
  show wpAny _ A.in1 (Builtin.Dict.addKeywords D [] >>= _) _ _ _
  refine wpAny_bind (wpAny_pure ?_)
  show wpAny _ A.in1 (ret Value.none) _ _ _
  refine wpAny_pure (hR { s with heap:=h' } ?_ (λb o _ h2 e=>hs b o h2 e) rfl rfl rfl)
  rw[hin,hn,List.take_length] at hd
  exact hd.extBut hs (Ne.symm d1)
 |succ k ih =>
  intro i s hk hi hit hl hp hd hR
  have hlt:i<items.size:=by lia
  have hx:items[i]?=some items[i]:=by simp[hlt]
  have hkv:rs[i]?=some rs[i]:=List.getElem?_eq_getElem (by lia)
  refine codeAny_builtin gq ?_
  rw[Around.under_plainId cY _]
  show wpAny _ A.in1 (pyNext (.ref it) >>= _) _ _ s
  refine wpAny_bind (wpAny_pyNext_list_item hit hl hx λh' hit' hs=>?_)
  obtain⟨p,a,ep,pD,pI,tp,ha⟩:=hp i _ _ hx hkv
  rw[ep]
  have tp':h'.IsTuple p #[a,(rs[i]).2]:=by
   obtain⟨o,e,c,n,d⟩:=tp
   exact⟨o,(hs.2 p pI).trans e,c,n,d⟩
  have hd':h'.DictOf knd D (merged [] (rs.take i)):=hd.sameBut hs (Ne.symm d1)
  obtain⟨o,e,c,n,d⟩:=id tp'
  show wpAny _ A.in1 (holding [Value.ref p] _ >>= _) _ _ _
  refine wpAny_bind (wpAny_holding ?_)
  refine wpAny_bind ?_
  unfold Builtin.Dict.pairItems
  refine wpAny_tryCatch ?_
  refine wpAny_bind (wpAny_typeOf (T:="tuple") ⟨o,e,c⟩ ?_)
  rw[if_pos (by decide)]
  unfold seqItems?
  refine wpAny_bind (wpAny_bind (wpAny_load e ?_))
  rw[d]
  refine wpAny_pure (wpAny_pure ?_)
  show wpAny _ _ (holding [a,(rs[i]).2] (dictSet D a (rs[i]).2)) _ _ _
  refine wpAny_holding ?_
  have hsz:(merged [] (rs.take i):List (κ×Value)).length<=sizeLine:=by
   have:=xh [] (rs.take i)
   rw[List.length_take] at this
   simp only[List.length_nil] at this
   have z:=sizeLine_eq
   lia
  refine wpAny_dictSet_pairs (s:={ s with heap:=h' }) (hsz:=hsz) ha hd' λh2 hd2 hs2=>?_
  show wpAny _ A.in1 (again (.builtin "dict.update.loop" ⟨[.ref D,.ref it,rawInt ((i:Int)+1),.none],[]⟩)) _ _ _
  refine wpAny_pure ⟨plainId_quiet cY _,?_⟩
  have ei:((i:Int)+1)=((i+1:Nat):Int):=by lia
  rw[ei]
  refine ih (i+1) _ (by lia) hlt ?_ ?_ ?_ ?_ ?_
  ·obtain⟨o,e,r⟩:=hit'
   exact⟨o,(hs2.2 it d1).trans e,r⟩
  ·obtain⟨o,e,r⟩:=hl
   exact⟨o,(hs2.2 l d2).trans ((hs.2 l d3).trans e),r⟩
  ·intro j u kv h1 h2
   obtain⟨p',a',q1,q2,q3,⟨o,e,r⟩,q5⟩:=hp j u kv h1 h2
   exact⟨p',a',q1,q2,q3,⟨o,(hs2.2 p' q2).trans ((hs.2 p' q3).trans e),r⟩,q5⟩
  ·rw[merged_take_succ _ _ _ _ hkv]
   exact hd2
  ·intro s' q1 q2 q3 q4 q5
   exact hR s' q1 (λb o n1 n2 e=>q2 b o n1 n2 ((hs2.2 b n1).trans ((hs.2 b n2).trans e))) q3 q4 q5
end
section
variable {prog:Program}{w:World}{κ:Type}[DecidableEq κ]{knd:KeyKind prog w κ}{A:Around}{E:Value->Shared->Prop}{s:Shared}
theorem oM {l:Addr} {items:Array Value} {m:Nat} {rs:List (κ×Value)} {Q:Value->Shared->Prop} (hh:A.handled=none) (ho:s.heap.get? l=some { cls:=.type "list",data:=.seq items m })
  (hn:items.size=rs.length) (hb:rs.length<=1000)
  (hp:∀(j:Nat) (u:Value) (kv:κ×Value),items[j]?=some u->rs[j]?=some kv->∃p a,u = .ref p/\s.heap.IsTuple p #[a,kv.2]/\knd.is kv.1 a=true)
  (h:∀h' tk,h'.DictOf knd s.heap.objs.size (merged [] rs)->(∀b o,s.heap.get? b=some o->h'.get? b=some o)->Q (.ref s.heap.objs.size) { s with heap:=h',toks:=tk }) :
  wpAny (model prog w) A (call (.type "dict") [.ref l]) Q E s:=by
 refine callType_codes (Q₁:=λobj s₁=>obj = .ref s.heap.objs.size/\s₁ = { s with heap:=s.heap.push { cls:=.type "dict",data:=.dict #[] } }) F.kt_called_dict (F.kt_typeCall_dict_1 _) F.entry_dict_init (kt_code_dict_new _ ⟨rfl,rfl⟩) ?_
 rintro obj s₁ ⟨rfl,rfl⟩
 have hnew:(s.heap.push { cls:=.type "dict",data:=.dict #[] }).DictOf knd s.heap.objs.size []:=Heap.DictOf.new s.heap
 have hlD:l<s.heap.objs.size:=Heap.lt_size ho
 have hl1:(s.heap.push { cls:=.type "dict",data:=.dict #[] }).get? l=some { cls:=.type "list",data:=.seq items m }:=Heap.get?_push_of_some _ ho
 refine⟨hnew.typeIs,F.args_dict_init_2 _ _,?_⟩
 unfold Builtin.«dict.__init__»
 refine wpAny_bind ?_
 unfold Builtin.Dict.selfAndRest
 refine wpAny_bind (wpAny_notOrdered_dict hnew.typeIs ?_)
 show wpAny _ _ (pure (s.heap.objs.size,[Value.ref l])) _ _ _
 refine wpAny_pure ?_
 show wpAny _ _ (Builtin.Dict.updateFrom "dict.__init__" s.heap.objs.size (.ref l) [] .none) _ _ _
 unfold Builtin.Dict.updateFrom
 refine wpAny_bind (wpAny_typeOf (T:="list") ⟨_,hl1,rfl⟩ ?_)
 rw[if_pos (by decide)]
 refine wpAny_bind (lP (s:={ s with heap:=s.heap.push { cls:=.type "dict",data:=.dict #[] } }) hl1 rfl rfl rfl qg (by decide) (by simp[hh]) (λh1 t1 k1=>?_))
 rw[if_pos (show (none:Option Value).isNone=true from rfl)]
 refine wpAny_bind (wpAny_rule ?_)
 have hl2:=k1 _ _ hl1
 have hD2:h1.DictOf knd s.heap.objs.size []:=by
  obtain⟨o,es,ep,e,r⟩:=hnew
  exact⟨o,es,ep,k1 _ _ e,r⟩
 have big:s.heap.objs.size<h1.objs.size:=by
  obtain⟨o,es,ep,e,r⟩:=hD2
  exact Heap.lt_size e
 refine wpAny_bind (wpAny_pyIter_list (s:={ s with heap:=h1,toks:=t1 }) ⟨_,hl2,rfl,m,rfl⟩ ?_)
 refine wpAny_pure ⟨plainId_quiet cY _,?_⟩
 refine BK (knd:=knd) (by simp[hh]) hn hb (D:=s.heap.objs.size) (it:=h1.objs.size) (l:=l) (Nat.ne_of_gt big) (Nat.ne_of_lt hlD) (Nat.ne_of_lt (Nat.lt_trans hlD big)) items.size 0 _ (by lia) (Nat.zero_le _) ⟨_,Heap.get?_push_size _ rfl,rfl,rfl⟩ ⟨_,Heap.get?_push_of_some _ hl2,rfl,m,rfl⟩ ?_ ?_ ?_
 ·intro j u kv e1 e2
  obtain⟨p,a,q1,⟨o,q2,q3⟩,q4⟩:=hp j u kv e1 e2
  have lp:p<s.heap.objs.size:=Heap.lt_size q2
  exact⟨p,a,q1,Nat.ne_of_lt lp,Nat.ne_of_lt (Nat.lt_trans lp big),⟨o,Heap.get?_push_of_some _ (k1 _ _ (Heap.get?_push_of_some _ q2)),q3⟩,q4⟩
 ·exact hD2.push _
 ·intro s' q1 q2 q3 q4 q5
  obtain⟨h',g',d',tk',os'⟩:=s'
  cases q3
  cases q4
  cases q5
  exact⟨rfl,h h' tk' q1 (λb o e=>q2 b o (Nat.ne_of_lt (Heap.lt_size e)) (Nat.ne_of_lt (Nat.lt_trans (Heap.lt_size e) big)) (Heap.get?_push_of_some _ (k1 _ _ (Heap.get?_push_of_some _ e))))⟩
end
section
theorem wm{P:Program}{w:World}{H:Hp}{h:Heap}(ok:kT P w H h):∀(ps:List Addr) (kvs:List (Key×V)),ps.length=kvs.length->(∀(i:Nat) p kv,ps[i]?=some p->kvs[i]?=some kv->H p=some (.tup [kV kv.1,kv.2])) ->
  ∃rs:List (Key×Value),KV kvs rs/\∀(i:Nat) p kv,ps[i]?=some p->rs[i]?=some kv->∃a,h.IsTuple p #[a,kv.2]/\(bL P w).is kv.1 a=true
 | [],[],_,_=>⟨[],.nil,λi p kv e _=>by simp at e⟩
 |p::ps,kv::kvs,hl,hp=>by
  obtain⟨rs,r1,r2⟩:=wm ok ps kvs (by simpa using hl) (λi q kv' e1 e2=>hp (i+1) q kv' (by simpa using e1) (by simpa using e2))
  obtain⟨_,its,rv,tp⟩:=(show cH P w H h p (.tup [kV kv.1,kv.2]) from ok p _ (hp 0 p kv rfl rfl))
  cases rv with
  |cons e1 rv=>cases rv with
   |cons e2 rv =>
    cases rv
    rename_i a b
    refine⟨(kv.1,b)::rs,.cons ⟨rfl,e2⟩ r1,λi q kv' h1 h2=>?_⟩
    cases i with
    |zero =>
     simp only[List.getElem?_cons_zero,Option.some.injEq] at h1 h2
     subst h1 h2
     exact⟨a,tp,ou e1⟩
    |succ i=>exact r2 i q kv' (by simpa using h1) (by simpa using h2)
 | [],_::_,hl,_=>by simp at hl
 |_::_,[],hl,_=>by simp at hl
variable {X:Cx}
def PY:List V->Hp->VK->Prop:=λxs H Q=>∃(l:Addr) (ps:List Addr) (kvs:List (Key×V)),xs=[V.ref l]/\H l=some (.lst (ps.map V.ref))/\(ps.length=kvs.length/\∀(i:Nat) p kv,ps[i]?=some p->kvs[i]?=some kv->H p=some (.tup [kV kv.1,kv.2]))/\kvs.length<=1000 /\
 ∀d,H d=none->Q (.ref d) (upd H d (.dK (jZ [] kvs)))
theorem q8 (hc:X.calm=true):iE X (.type "dict") PY:=by
 intro pins s Z H xs us Q I r h
 obtain⟨l,ps,kvs,rfl,hl,⟨hlen,hps⟩,hb,q⟩:=h
 obtain⟨u,rfl,ru⟩:=vals1 r
 cases ru
 obtain⟨hz,its,n,rv,ho⟩:=(show cH X.prog X.w H s.heap l (.lst (ps.map V.ref)) from I.hok l _ hl)
 obtain⟨rs,rk,hrs⟩:=wm I.hok ps kvs hlen hps
 have l1:=rv.length
 have l2:=rk.length
 rw[List.length_map] at l1
 have z:=sizeLine_eq
 refine oM (knd:=bL X.prog X.w) (items:=its.toArray) (rs:=rs) (I.ok.hd hc) ho (by simp;lia) (by lia) (λj v kv e1 e2=>?_) λh' tk hd hk=>?_
 ·have e1:its[j]?=some v:=by simpa using e1
  have hj:j<ps.length:=by rw[l1];exact(List.getElem?_eq_some_iff.mp e1).1
  have ep:ps[j]?=some ps[j]:=List.getElem?_eq_getElem hj
  obtain⟨v',g1,g2⟩:=rv.get (i:=j) (x:=V.ref ps[j]) (by rw[List.getElem?_map,ep];rfl)
  rw[e1] at g1
  cases g1
  cases (show v=Value.ref ps[j] from g2)
  obtain⟨a,t1,t2⟩:=hrs j _ _ ep e2
  exact⟨_,a,rfl,t1,t2⟩
 ·have hz:(jZ [] kvs).length<=sizeLine:=by
   have h1:=kZ kvs []
   rw[List.length_nil] at h1
   lia
  exact⟨.ref s.heap.objs.size,_,I.laid (t':=tk) hk (Nat.le_refl _) (Fi hz (beq_eq_false_iff_ne.mpr (Ne.symm (Nat.ne_of_lt I.big))) (rk.merge .nil) hd),rfl,q _ (I.hok.fresh (Nat.le_refl _))⟩
end
end L2
namespace L2
open PySem PySem.Spec PyProof.Rows
section
variable {X:Cx}{pins:List (Addr×Obj)}{Z:St}{H:Hp}{s:Shared}{a:Addr}{kvs:List (Key×V)}{o:Obj}
def vK(H:Hp)(a:Addr):Prop:=∀o u,H a≠some (.jU o u)
theorem Inv.freeze(I:Inv X pins Z H s)(e:H a=some (.dK kvs))(ho:s.heap.get? a=some o):Inv X pins Z (upd H a (.jU o (.dK kvs))) s:=by
 have nb:∀{b u},H b=some u->u ≠ .dK kvs->b≠a:=λ{b u} q n z=>by rw[z,e] at q;cases q;exact n rfl
 have nn:∀{b},H b=none->b≠a:=λ{b} q z=>by rw[z,e] at q;cases q
 refine I.step (g':=s.gens) (d':=s.drawn) (t':=s.toks) (ch:=[]) (H':=upd H a (.jU o (.dK kvs))) (h':=s.heap) (λb hb=>by cases hb) (λb o n _ _ e _=>e) (λb o n _ _ e _=>⟨o.slots,e⟩) (λb o _ _ n=>by rw[aj (nn n)];exact n) (λb o _ e=>⟨o,e⟩) (λb xs q=>by rw[aj (nb q (by intro z;cases z))];exact q) (λb o u q=>by rw[aj (nb q (by intro z;cases z))];exact q) (λb ps q=>⟨#[],by rw[aj (nb q (by intro z;cases z)),q];simp⟩) (λm hm=>hm) (λb u q=>?_) I.bare
 by_cases z:b=a
 ·rw[z,af] at q
  cases q
  rw[z]
  exact⟨ho,I.hok a _ e⟩
 ·rw[aj z] at q
  exact(I.hok b u q).stay (λc v _ q=>q) (λc hc=>by rw[aj (nb hc (by intro z;cases z))];exact hc) (λc xs hc=>by rw[aj (nb hc (by intro z;cases z))];exact hc)
theorem Inv.LR(I:Inv X pins Z H s)(e:H a=some (.dK kvs)):vK X.H₀ a:=λo u q=>by
 have:=I.base.oO a o u q
 rw[e] at this;cases this
theorem Inv.U0(I:Inv X pins Z H s)(e:H a=some (.jU o (.dK kvs)))(nf:vK X.H₀ a):Inv X pins Z (upd H a (.dK kvs)) s:=by
 have nb:∀{b u},H b=some u->u ≠ .jU o (.dK kvs)->b≠a:=λ{b u} q n z=>by rw[z,e] at q;cases q;exact n rfl
 have nn:∀{b},H b=none->b≠a:=λ{b} q z=>by rw[z,e] at q;cases q
 refine⟨I.ok,I.os,I.bare,⟨I.base.keep,I.base.slot,λb ob q n hx=>?_,I.base.there,λb xs q=>?_,λb ob u q=>?_,λb ps q=>?_⟩,I.loc,I.cell,?_,λx c q=>?_,λp hp=>?_,λb u q=>?_,I.len⟩
 ·have:=I.base.free b ob q n hx
  rw[aj (nn this)];exact this
 ·have:=I.base.tups b xs q
  rw[aj (nb this (by intro z;cases z))];exact this
 ·have:=I.base.oO b ob u q
  rw[aj (λz=>nf ob u (by rw[← z];exact q))];exact this
 ·obtain⟨more,q2⟩:=I.base.rg b ps q
  exact⟨more,by rw[aj (nb q2 (by intro z;cases z))];exact q2⟩
 ·rw[aj (nn I.free)];exact I.free
 ·rw[aj (nn (I.je x c q))];exact I.je x c q
 ·obtain⟨p1,p2,p3⟩:=I.pin p hp
  exact⟨p1,by rw[aj (nn p2)];exact p2,p3⟩
 ·by_cases z:b=a
  ·rw[z,af] at q
   cases q
   rw[z]
   exact(I.hok a _ e).2
  ·rw[aj z] at q
   exact(I.hok b u q).stay (λc v _ q=>q) (λc hc=>by rw[aj (nb hc (by intro z;cases z))];exact hc) (λc xs hc=>by rw[aj (nb hc (by intro z;cases z))];exact hc)
end
def Vg(a:Addr)(o:Obj)(kvs:List (Key×V)):It :=
 ⟨λi H=>H a=some (.jU o (.dK kvs))/\i<kvs.length,λi H x H'=>H'=H/\∃kv,kvs[i]?=some kv/\x=kV kv.1,λi H=>H a=some (.jU o (.dK kvs))/\kvs.length<=i⟩
theorem JZ{P:Program}{w:World}{k:Key}{u:Value}(h:(bL P w).is k u=true):RelV (kV k) u:=by
 rcases cZ h with ⟨i,t,rfl,rfl⟩|⟨x,t,rfl,rfl⟩
 ·exact⟨t,rfl⟩
 ·exact⟨t,rfl⟩
theorem BI{P:Program}{w:World}{K:PySem.W.Frag}{tg:Expr}{es:Array DictEntry}{ep:Nat}(a it:Addr)(o:Obj)(kvs:List (Key×V))(hne:a≠it)(hd:o.data = .dict es ep):Turn P w K tg (Vg a o kvs) [it] it (λi h=>h.IsKeyIter it a i kvs.length ep) where
 mem:=by simp
 obj:=λi h st b hb=>by
  have e:b=it:=by simpa using hb
  subst e
  obtain⟨o,e,c,d⟩:=st
  exact⟨o,e,λv z=>by rw[d] at z;cases z⟩
 keep:=λi h h' st k=>st.at λo e=>k it (by simp) o e
 item:=by
  intro X hP hw hK hc i pins s Z H E I hf st hg
  subst hP hw hK
  obtain⟨hq,hi⟩:=hg
  obtain⟨ho,z,hs,vs,rel,dd⟩:=(show cH X.prog X.w H s.heap a (.jU o (.dK kvs)) from I.hok a _ hq)
  obtain⟨f0,f1,f2,f3,f4,f5⟩:=hf it (by simp)
  have hl:=rel.length
  have da:s.heap.DictAt (bL X.prog X.w) a vs ep:=by
   obtain⟨o',es',ep',e',c',d',r'⟩:=dd
   rw[ho] at e'
   cases e'
   rw[hd] at d'
   cases d'
   exact⟨o,es,ho,c',hd,r'⟩
  have W:=Walks.dictKeys (prog:=X.prog) (w:=X.w) (knd:=bL X.prog X.w) (I.ok.hd hc) it a hne vs ep
  refine W.item i s _ _ (by lia) ⟨by rw[← hl];exact st,da⟩ λv h' tk hv st' kk=>?_
  obtain⟨k,x,e1,e2⟩:=hv
  have I1:Inv X pins Z H { s with heap:=h',toks:=tk }:=I.turned (λb o hb e=>kk b o (by simpa using hb) e) f0 f1 f3 f4 f5
  obtain⟨oi,ei,ci,di⟩:=id st'.1
  have hkv:kvs[i]?=some kvs[i]:=List.getElem?_eq_getElem hi
  have ek:kvs[i].1=k:=by
   have:=congrArg (λl:List Key=>l[i]?) rel.keys
   simp only[List.getElem?_map,hkv,e1,Option.map_some] at this
   exact Option.some.inj this
  exact⟨v,rfl,Ef (s:={ s with heap:=h',toks:=tk }) ei ci di (by decide) ⟨kV kvs[i].1,H,I1,by rw[ek];exact JZ e2,⟨rfl,_,hkv,rfl⟩,by rw[hl];exact st'.1,λb hb=>(hf b hb).1⟩⟩
 done:=by
  intro X hP hw hK hc i pins s Z H E I hf st hg
  subst hP hw hK
  obtain⟨hq,hi⟩:=hg
  obtain⟨ho,z,hs,vs,rel,dd⟩:=(show cH X.prog X.w H s.heap a (.jU o (.dK kvs)) from I.hok a _ hq)
  obtain⟨f0,f1,f2,f3,f4,f5⟩:=hf it (by simp)
  have hl:=rel.length
  have da:s.heap.DictAt (bL X.prog X.w) a vs ep:=by
   obtain⟨o',es',ep',e',c',d',r'⟩:=dd
   rw[ho] at e'
   cases e'
   rw[hd] at d'
   cases d'
   exact⟨o,es,ho,c',hd,r'⟩
  refine wpAny_pyNext_dict_end (I.ok.hd hc) (by rw[← hl];exact st) da (by simp;lia) λh' eb=>⟨rfl,I.turned (t':=s.toks) (λb o hb e=>eb b o hb e) f0 f1 f3 f4 f5⟩
 self:=λ_ _ _ _ _ st h=>wpAny_pyIter_keyiter st h
section
variable {X:Cx}{tg:Expr}
def Se(H0:Hp)(tl:TE):TI:=λZ H R=>tl Z H λx H1=>∃a kvs,x = .ref a/\H1 a=some (.dK kvs)/\∀o,vK H0 a->R (Vg a o kvs) (upd H1 a (.jU o (.dK kvs)))
theorem IA{l:Expr}{tl:TE}(hl:PE X l tl):PI X tg l (Se X.H₀ tl):=by
 intro pins s Z H R I h
 refine cL (hl pins s Z H _ I h) λv s1  hZ=>?_
 obtain⟨x,H1,I1,r1,q1⟩:=hZ
 obtain⟨a,kvs,e,hq,q⟩:=q1
 subst e
 cases r1
 obtain⟨z,hs,vs,rel,dd⟩:=AB I1.hok hq
 obtain⟨o,es,ep,eo,c,d,r⟩:=dd
 refine wpAny_pyIter_dict (knd:=bL X.prog X.w) (kvs:=vs) hs ⟨o,es,eo,c,d,r⟩ ?_
 have I2:=I1.freeze hq eo
 have ne:a≠s1.heap.objs.size:=Nat.ne_of_lt (Heap.lt_size eo)
 refine⟨s1.heap.objs.size,[s1.heap.objs.size],_,_,_,rfl,I2.kept (t':=s1.toks) λb o e=>Heap.get?_push_of_some _ e,BI a _ o kvs ne d,⟨_,Heap.get?_push_size _ rfl,rfl,by rw[rel.length];rfl⟩,λb hb=>?_,q o (I1.LR hq)⟩
 have e:b=s1.heap.objs.size:=by simpa using hb
 subst e
 exact I2.vU (Nat.le_refl _) (I2.hok.fresh (Nat.le_refl _))
def SI(H0:Hp)(te:TE):TE:=λZ H Q=>te Z H λv H'=>∃a o kvs,H' a=some (.jU o (.dK kvs))/\vK H0 a/\Q v (upd H' a (.dK kvs))
theorem zZ{e:Expr}{te:TE}(h:PE X e te):PE X e (SI X.H₀ te):=λpins s Z H Q I q =>
 cL (h pins s Z H _ I q) λv s1 ⟨x,H1,I1,r1,a,o,kvs,q1,q2,q3⟩=>⟨x,_,I1.U0 q1 q2,r1,q3⟩
end
theorem Bb{a:Addr}{o:Obj}{kvs:List (Key×V)}{caps:List (Str×Nat)}{te:TE}{Z:St}{H:Hp}{Q:VK}(Pv:Nat->List V->Hp->Prop)(h0:Pv 0 [] H)(hn:kvs.length<sizeLine)
  (hq:∀i ys H,i<=kvs.length->Pv i ys H->H a=some (.jU o (.dK kvs)))
  (hs:∀i kv ys H,kvs[i]?=some kv->ys.length=i->Pv i ys H->te (e9 caps Z++[some (kV kv.1)]) H λy H2=>∃m',m'<kvs.length-i/\m'=kvs.length-(i+1)/\i+1<=kvs.length/\(ys++[y]).length=i+1/\Pv (i+1) (ys++[y]) H2) (hd:∀ys H,ys.length=kvs.length->Pv kvs.length ys H->∀D,H D=none->Q (.ref D) (upd H D (.lst ys))) :
  zT (Vg a o kvs) caps te Z H Q:=by
 refine⟨λi m ys H=>m=kvs.length-i/\i<=kvs.length/\ys.length=i/\Pv i ys H,⟨kvs.length,by simp,Nat.zero_le _,rfl,h0⟩,?_⟩
 rintro i m ys H ⟨rfl,hi,hl,p⟩
 have q:=hq i ys H hi p
 by_cases hlt:i<kvs.length
 ·refine .inr ⟨⟨q,hlt⟩,by lia,λx H' y=>?_⟩
  obtain⟨e,kv,y1,y2⟩:=y
  subst e y2
  exact hs i kv ys _ y1 hl p
 ·have e:i=kvs.length:=by lia
  subst e
  exact .inl ⟨⟨q,Nat.le_refl _⟩,hd ys H hl p⟩
end L2
namespace L2
open PySem PySem.Spec PyProof.Rows
section
variable {X:Cx}
end
end L2
namespace L2
open PySem PySem.Spec PyProof.Rows
theorem tM:∀{xs:List V} {us:List Value},xs.length=us.length->(∀(j:Nat) x u,xs[j]?=some x->us[j]?=some u->RelV x u)->Vals xs us
 | [],[],_,_=>.nil
 |x::xs,u::us,hl,h=>.cons (h 0 x u rfl rfl) (tM (by simpa using hl) λj y v e1 e2=>h (j+1) y v (by simpa using e1) (by simpa using e2))
 | [],_::_,hl,_=>by simp at hl
 |_::_,[],hl,_=>by simp at hl
section
variable {X:Cx}
end
def HQ{α:Type}(lt:Nat->Nat->Bool):W.KasT α->α
 |.ret a=>a
 |.ask i j k=>HQ lt (k (lt i j))
def eF{α:Type}(n:Nat)(P:α->Prop):W.KasT α->Prop
 |.ret a=>P a
 |.ask i j k=>i<n/\j<n/\∀b,eF n P (k b)
theorem eF.ev{α:Type}{n:Nat}{P:α->Prop}{lt:Nat->Nat->Bool}:∀{t:W.KasT α},eF n P t->P (HQ lt t)
 |.ret _,h=>h
 |.ask i j k,h=>eF.ev (t:=k (lt i j)) (h.2.2 _)
theorem eF.bind{α β:Type}{n:Nat}{P:α->Prop}{P':β->Prop}{f:α->W.KasT β}:∀{t:W.KasT α},eF n P t->(∀a,P a->eF n P' (f a))->eF n P' (t.bind f)
 |.ret _,h,g=>g _ h
 |.ask _ _ k,h,g=>⟨h.1,h.2.1,λb=>eF.bind (t:=k b) (h.2.2 b) g⟩
def fc(n:Nat)(p:Array Nat):Prop:=p.toList.Perm (List.range n)
theorem fc.lt{n:Nat}{p:Array Nat}(h:fc n p)(hn:0<n)(k:Nat):p.getD k 0<n:=by
 by_cases hk:k<p.size
 ·have e:p.getD k 0=p[k]:=by simp[Array.getD,hk]
  rw[e]
  have:p[k]∈p.toList:=by simp
  exact List.mem_range.mp (h.mem_iff.mp this)
 ·have e:p.getD k 0=0:=by simp[Array.getD,hk]
  rw[e];exact hn
theorem fc.to{n:Nat}{p q:Array Nat}(h:fc n p)(e:q.Perm p):fc n q:=(Array.perm_iff_toList_perm.mp e).trans h
theorem o7{n:Nat}(hn:0<n){p:Array Nat}(h:fc n p):∀(f m:Nat),eF n (λ_=>True) (W.kas_asc p f m)
 |0,_=>trivial
 |f+1,m=>⟨h.lt hn _,h.lt hn _,λb=>by
  cases b with
  |true=>exact trivial
  |false=>exact o7 hn h f (m+1)⟩
theorem kE{n:Nat}{p:Array Nat}(h:fc n p)(i j:Nat):fc n (W.kas_rev p i j):=h.to (mirror_perm _ _ _ _)
theorem kQ{n:Nat}(hn:0<n):∀(f:Nat) (p:Array Nat) (m q:Nat),fc n p->eF n (λr=>fc n r.1) (W.kas_desc f p m q)
 |0,_,_,_,h=>h
 |f+1,p,m,q,h=>⟨h.lt hn _,h.lt hn _,λb=>by
  cases b with
  |true =>
   show eF n _ (if q>0 then W.kas_desc f (W.kas_rev p (m-(q+1)) m) (m+1) 0 else W.kas_desc f p (m+1) 0)
   split
   ·exact kQ hn f _ _ _ (kE h _ _)
   ·exact kQ hn f _ _ _ h
  |false=>exact⟨h.lt hn _,h.lt hn _,λd=>by
    cases d with
    |true=>exact h
    |false=>exact kQ hn f _ _ _ h⟩⟩
theorem rN{n:Nat}(hn:0<n)(m k:Nat){p:Array Nat}(h:fc n p):eF n (λr=>fc n r.2) (W.kas_tail3 m k p) :=
 eF.bind (o7 hn (kE h 0 m) _ _) λ_ _=>kE h 0 m
theorem kW{n:Nat}(hn:0<n)(m k:Nat){p:Array Nat}(h:fc n p):eF n (λr=>fc n r.2) (W.kas_descPart m k p) :=
 eF.bind (kQ hn _ _ _ _ h) λr hr=>by
  split
  ·exact rN hn _ _ (kE hr _ _)
  ·exact rN hn _ _ hr
theorem yf{n:Nat}(hn:0<n)(k:Nat){p:Array Nat}(h:fc n p):eF n (λr=>fc n r.2) (W.kas_count k p) :=
 eF.bind (o7 hn h _ _) λm _=>by
  split
  ·exact h
  ·split
   ·exact⟨h.lt hn _,h.lt hn _,λb=>by
     cases b with
     |true=>exact h
     |false=>exact kW hn _ _ (kE h _ _)⟩
   ·exact kW hn _ _ h
theorem lZ{n:Nat}(hn:0<n){p:Array Nat}(h:fc n p)(k:Nat):∀(f l r:Nat),eF n (λ_=>True) (W.kas_place p k f l r)
 |0,_,_=>trivial
 |f+1,l,r=>by
  show eF n _ (if l ≥ r then _ else _)
  split
  ·exact trivial
  ·exact⟨h.lt hn _,h.lt hn _,λb=>by
    cases b with
    |true=>exact lZ hn h k f _ _
    |false=>exact lZ hn h k f _ _⟩
theorem wk{n:Nat}(hn:0<n):∀(f:Nat) (p:Array Nat) (k:Nat),fc n p->eF n (fc n) (W.kas_bin f p k)
 |0,_,_,h=>h
 |f+1,p,k,h=>eF.bind (lZ hn h k _ _ _) λl _=>wk hn f _ _ (h.to (bubble_perm _ _ _))
theorem nR{n:Nat}(hn:0<n):eF n (fc n) (W.kas_sort n) :=
 eF.bind (yf hn n (p:=List.toArray (List.range n)) (by show (List.toArray (List.range n)).toList.Perm _;rw[List.toList_toArray])) λr hr=>by
  split
  ·exact wk hn _ _ _ hr
  ·exact hr
def IV (names:List Str) (i j:Nat):Bool:=decide ((names.getD i "").cps.toList<(names.getD j "").cps.toList)
def fh (names:List Str):List Str:=if names.length<2 then names else (HQ (IV names) (W.kas_sort names.length)).toList.map λi=>names.getD i ""
theorem gR(names:List Str):(fh names).Perm names:=by
 unfold fh
 split
 ·exact .refl _
 ·have h:fc names.length (HQ (IV names) (W.kas_sort names.length)):=(nR (by lia)).ev
  have h2:((HQ (IV names) (W.kas_sort names.length)).toList.map λi=>names.getD i "").Perm ((List.range names.length).map λi=>names.getD i ""):=h.map _
  have e:((List.range names.length).map λi=>names.getD i "")=names:=by
   refine List.ext_getElem? λj=>?_
   rw[List.getElem?_map]
   by_cases hj:j<names.length
   ·rw[List.getElem?_range hj]
    simp[hj]
   ·rw[List.getElem?_eq_none (by rw[List.length_range];lia),List.getElem?_eq_none (by lia)]
    rfl
  rw[e] at h2
  exact h2
section
variable {prog:Program}{w:World}{A:Around}{E:Value->Shared->Prop}
theorem GB{α:Type}{vs:List Value}{names:List Str}(hv:∀(j:Nat) x,names[j]?=some x->∃t,vs[j]?=some (Value.str x t)){P:α->Prop}:∀{t:W.KasT α} {Q:α->Shared->Prop} {s:Shared},eF names.length P t->Q (HQ (IV names) t) s->t.kasWp (W.kas_ask prog w A oneType' vs) Q s
 |.ret _,_,_,_,h=>h
 |.ask i j k,Q,s,g,h=>by
  obtain⟨g1,g2,g3⟩:=g
  have ei:names[i]?=some names[i]:=List.getElem?_eq_getElem g1
  have ej:names[j]?=some names[j]:=List.getElem?_eq_getElem g2
  obtain⟨t1,f1⟩:=hv i _ ei
  obtain⟨t2,f2⟩:=hv j _ ej
  show wpAny _ _ (keyLt' oneType' (vs.getD i Value.none) (vs.getD j Value.none)) _ _ s
  rw[List.getD_eq_getElem?_getD,List.getD_eq_getElem?_getD,f1,f2]
  refine W.kas_lt_str ?_
  have e:decide ((names[i]).cps.toList<(names[j]).cps.toList)=IV names i j:=by
   unfold IV
   rw[List.getD_eq_getElem?_getD,List.getD_eq_getElem?_getD,ei,ej]
   rfl
  rw[e]
  exact GB hv (g3 _) h
theorem xo {s:Shared} {a:Addr} {vs:List Value} {n:Nat} {P:PySem.Fin->Shared->Prop} (ho:s.heap.get? a=some (seqObj "list" vs.toArray n)) (h2:vs.length<2)
  (h:∀h' c,h'.get? a=some (seqObj "list" vs.toArray c)->(∀b o,b≠a->s.heap.get? b=some o->h'.get? b=some o)->P (.done (.ret .none)) { s with heap:=h' }) :
  wpAny (model prog w) A (Builtin.«list.sort» ⟨[.ref a],[]⟩) P E s:=by
 have s1:=Heap.SameBut.update s.heap a (Obj.mapSeq λ_=>(#[]:Array Value))
 obtain⟨e1,ho1⟩:∃e1,(s.heap.update a (Obj.mapSeq λ_=>(#[]:Array Value))).get? a=some (seqObj "list" #[] e1):=⟨_,get?_update_seq ho λ_=>#[]⟩
 have zs:vs.length<=sizeLine:=by rw[sizeLine_eq];lia
 rw[list_sort_plain]
 refine wpAny_bind (listItems_at ho rfl ?_)
 refine wpAny_bind (listUpdate_at ho rfl ?_ (by rw[List.size_toArray];lia) (Nat.zero_le _))
 refine wpAny_bind (seqEpoch_at ho1 rfl ?_)
 refine wpAny_bind (wpAny_newTuple ?_ (by show vs.length<=_;exact zs))
 refine wpAny_bind (wpAny_newList ?_ (Nat.zero_le _))
 refine wpAny_holding ?_
 dsimp only
 have hn2:vs.toArray.size<2:=by rw[List.size_toArray];exact h2
 rw[if_pos hn2,if_pos hn2]
 refine wpAny_bind (wpAny_pure ?_)
 refine wpAny_bind (wpAny_pure ?_)
 have ho2:=Heap.get?_push_of_some (seqObj "list" #[] 0) (Heap.get?_push_of_some (seqObj "tuple" vs.toArray 0) ho1)
 refine wpAny_bind (seqEpoch_at ho2 rfl ?_)
 have eo:(arrOf (SortSt.mk' general' (vs.toArray.zip vs.toArray) #[] 7 none)).map (·.2)=vs.toArray:=by
  show (vs.toArray.zip vs.toArray).map (·.2)=vs.toArray
  apply Array.toList_inj.mp
  rw[Array.toList_map,Array.toList_zip]
  simp[List.map_snd_zip]
 dsimp only
 rw[eo]
 refine wpAny_bind (listUpdate_at ho2 rfl ?_ (Nat.zero_le _) (by rw[List.size_toArray];lia))
 show wpAny _ _ (if _ then _ else _) _ _ _
 simp only[bne_self_eq_false,Bool.false_eq_true,if_false]
 obtain⟨c2,hc2⟩:∃c2,((((s.heap.update a (Obj.mapSeq λ_=>(#[]:Array Value))).push (seqObj "tuple" vs.toArray 0)).push (seqObj "list" #[] 0)).update a (Obj.mapSeq λ_=>vs.toArray)).get? a=some (seqObj "list" vs.toArray c2):=⟨_,get?_update_seq ho2 λ_=>vs.toArray⟩
 refine wpAny_pure (h _ c2 hc2 λb o hb e=>?_)
 exact((Heap.SameBut.update _ a _).2 b hb).trans (Heap.get?_push_of_some _ (Heap.get?_push_of_some _ ((s1.2 b hb).trans e)))
end
section
variable {X:Cx}
theorem Inv.A3{pins:List (Addr×Obj)}{Z:St}{H:Hp}{s:Shared}{h2:Heap}{m:Str->Option Value}{t':Nat}{D:Addr}{ys:List V}(I:Inv X pins Z H s)(hns:s.heap.Ns X.env.locals m)(F2:h2.Ns X.env.locals m)(kp2:∀c o,c≠X.env.locals->s.heap.get? c=some o->h2.get? c=some o)
  (hD0:s.heap.get? D=none) (new:∀H',cH X.prog X.w H' h2 D (.lst ys)):Inv X pins Z (upd H D (.lst ys)) { s with heap:=h2,toks:=t' }:=by
 have fD:H D=none:=I.hok.new hD0
 have nDb:∀{b u},H b=some u->b≠D:=λ{b u} e z=>by rw[z,fD] at e;cases e
 refine I.step (g':=s.gens) (d':=s.drawn) (t':=t') (ch:=[]) (H':=upd H D (.lst ys)) (h':=h2) (λb hb=>by cases hb) (λb o n _ _ e _=>kp2 b o n e) (λb o n _ _ e _=>⟨o.slots,kp2 b o n e⟩) (λb o _ e n=>?_) (λb o _ e=>?_) (λb xs e=>by rw[aj (nDb e)];exact e) (λb o u e=>by rw[aj (nDb e)];exact e) (λb ps e=>⟨#[],by rw[aj (nDb e),e];simp⟩) (λm' hm'=>?_) (λb u e=>?_) I.bare
 ·rw[aj (λz=>?_)];exact n
  rw[z] at e
  rw[hD0] at e;cases e
 ·by_cases z:b=X.env.locals
  ·obtain⟨oL,es,ep,eL,_⟩:=F2
   exact⟨oL,by rw[z];exact eL⟩
  ·exact⟨o,kp2 b o z e⟩
 ·have em:m'=m:=by
   obtain⟨o1,es1,ep1,a1,d1,_,r1⟩:=hm'
   obtain⟨o2,es2,ep2,a2,d2,_,r2⟩:=hns
   rw[a1] at a2
   cases a2
   rw[d1] at d2
   cases d2
   funext n
   rw[← r1,← r2]
  rw[em];exact F2
 ·by_cases z:b=D
  ·rw[z,af] at e
   cases e
   rw[z]
   exact new _
  ·rw[aj z] at e
   refine(I.hok b u e).stay (λc v hc q=>kp2 c v (λy=>?_) q) (λc hc=>by rw[aj (nDb hc)];exact hc) (λc xs hc=>by rw[aj (nDb hc)];exact hc)
   have fL:=I.free
   rcases hc with hc|hc
   ·rw[← hc,y,fL] at e;cases e
   ·rw[y,fL] at hc;cases hc
def Ql:List V->Hp->VK->Prop:=λxs H Q=>∃(a:Addr) (kvs:List (Key×V)) (names:List Str),xs=[.ref a]/\H a=some (.dK kvs)/\kvs.map (·.1)=names.map Sum.inr/\names.length<64/\∀l,H l=none->Q (.ref l) (upd H l (.lst ((fh names).map V.str)))
theorem ux (hc:X.calm=true):iE X (.builtin "sorted") Ql:=by
 intro pins s Z H xs us Q I r h
 obtain⟨a,kvs,names,rfl,ha,hk,hn,q⟩:=h
 obtain⟨u,rfl,ru⟩:=vals1 r
 cases ru
 obtain⟨z,hd,vs,rel,dd⟩:=AB I.hok ha
 obtain⟨o,es,ep,eo,c,d,r'⟩:=dd
 have hl:=rel.length
 have hnl:names.length=kvs.length:=by have:=congrArg List.length hk;simpa using this.symm
 obtain⟨m,hns,_⟩:=id I.loc
 refine W.kdu_sorted (h₀:=Att.pZ s.heap) (L:=X.env.locals) (m:=m) (news:=oR (Att.pZ s.heap) s.heap X.env.locals) (W.kdl_dict (knd:=bL X.prog X.w) (kvs:=vs) (ep:=ep) hd) (I.ok.hd hc) (Att.OR hns) Er ⟨o,es,eo,c,d,r'⟩ (by rw[← hl];exact z) λD h' tk ws F N hlt hwl hP=>?_
 have hw:∀(j:Nat) x,names[j]?=some x->∃t,ws[j]?=some (Value.str x t):=λj x e=>by
  have hj:=(List.getElem?_eq_some_iff.mp e).1
  have hj2:j<ws.length:=by lia
  have ew:ws[j]?=some ws[j]:=List.getElem?_eq_getElem hj2
  obtain⟨k,y,f1,f2⟩:=hP j _ ew
  have:=congrArg (λl:List Key=>l[j]?) (hk.symm.trans rel.keys)
  simp only[List.getElem?_map,e,f1,Option.map_some] at this
  have ek:(Sum.inr x:Key)=k:=Option.some.inj this
  subst ek
  obtain⟨t,ht⟩:=(show ∃t,ws[j]=Value.str x t from JZ f2)
  exact⟨t,by rw[ew,ht]⟩
 have hwm:∀v∈ws,∃x t,v=Value.str x t:=λv hv=>by
  obtain⟨j,hj⟩:=List.mem_iff_getElem?.mp hv
  have hj1:=(List.getElem?_eq_some_iff.mp hj).1
  have e:names[j]?=some (names[j]'(by lia)):=List.getElem?_eq_getElem _
  obtain⟨t,ht⟩:=hw j _ e
  rw[hj] at ht
  exact⟨_,t,Option.some.inj ht⟩
 have nD:=(N (D,_) (List.mem_cons_self ..)).2.1
 have hD0:s.heap.get? D=none:=by
  cases e:s.heap.get? D with
  |none=>rfl
  |some o=>exact absurd (hlt (D,o) (j0 nD (Att.jq _ _) e)) (Nat.lt_irrefl _)
 have hz:((fh names).map V.str).length<=sizeLine:=by
  rw[List.length_map,(gR names).length_eq,sizeLine_eq];lia
 have fin:∀(h2:Heap) (out:List Value) (c2:Nat),h2.Ns X.env.locals m->(∀c o,c≠X.env.locals->s.heap.get? c=some o->h2.get? c=some o)->h2.get? D=some (seqObj "list" out.toArray c2)->Vals ((fh names).map V.str) out->EP X pins Z Q (Value.ref D) { s with heap:=h2,toks:=tk }:=λh2 out c2 f1 f2 f3 f4 =>
  ⟨.ref D,_,I.A3 hns f1 f2 hD0 (λH'=>⟨hz,out,c2,f4,f3⟩),rfl,q D (I.hok.new hD0)⟩
 by_cases h2:ws.length<2
 ·have hD:=(N (D,_) (List.mem_cons_self ..)).1
  refine wpAny_call_entry slot_list_sort ⟨_,hD,rfl⟩ entry_list_sort (xo (s:={ s with heap:=h',toks:=tk }) hD h2 λh3 c3 g1 g2=>⟨_,rfl,?_⟩) (args_list_sort _)
  refine fin h3 ws c3 (F.ns.at' λoo e=>g2 _ _ (Ne.symm nD) e) (λcc oo n e=>?_) g1 ?_
  ·have e1:=(N (cc,oo) (List.mem_cons_of_mem _ (j0 n (Att.jq _ _) e))).1
   exact g2 _ _ (λy=>by rw[y,hD0] at e;cases e) e1
  ·have es:fh names=names:=by unfold fh;rw[if_pos (by lia)]
   rw[es]
   refine tM (by rw[List.length_map];lia) λj x u e1 e2=>?_
   rw[List.getElem?_map] at e1
   obtain⟨y,g3,rfl⟩:=Option.map_eq_some_iff.mp e1
   obtain⟨t,ht⟩:=hw j y g3
   rw[e2] at ht
   exact⟨t,Option.some.inj ht⟩
 ·have he:names.length=ws.length:=by lia
  refine W.kas_lsort (s:={ s with heap:=h',toks:=tk }) (T:=.type "str") (vs:=ws) F N (W.UpdF.head λqq hq=>Nat.ne_of_lt (hlt qq hq)) (by simp) (by lia) (by lia) (λe1 h _ _ v hv=>?_) (by decide) (λe1 h3 F3 N3=>?_)
  ·obtain⟨x,t,rfl⟩:=hwm v hv
   exact λA' Q' E' s' _ h=>wpAny_pure h
  ·rw[← he]
   refine GB (P:=fc names.length) hw (nR (by lia)) ?_
   have hp:fc names.length (HQ (IV names) (W.kas_sort names.length)):=(nR (by lia)).ev
   refine W.KasFin.intro F3 N3 (W.UpdF.head λqq hq=>Nat.ne_of_lt (hlt qq hq)) (λh4 c4 F4 N4=>?_)
   refine fin h4 _ c4 F4.ns (λcc oo n e=>(N4 (cc,oo) (List.mem_cons_of_mem _ (j0 n (Att.jq _ _) e))).1) (N4 (D,_) (List.mem_cons_self ..)).1 ?_
   have es:fh names=(HQ (IV names) (W.kas_sort names.length)).toList.map λi=>names.getD i "" := by unfold fh;rw[if_neg (by lia)]
   rw[es]
   refine tM (by simp) λj x u e1 e2=>?_
   rw[List.getElem?_map,List.getElem?_map] at e1
   rw[List.getElem?_map] at e2
   cases g:(HQ (IV names) (W.kas_sort names.length)).toList[j]? with
   |none=>rw[g] at e2;cases e2
   |some i =>
    rw[g] at e1 e2
    have hi:i<names.length:=List.mem_range.mp (hp.mem_iff.mp (List.mem_of_getElem? g))
    have ei:names[i]?=some names[i]:=List.getElem?_eq_getElem hi
    obtain⟨t,ht⟩:=hw i _ ei
    simp only[Option.map_some,Option.some.injEq] at e1 e2
    rw[List.getD_eq_getElem?_getD,ei] at e1
    rw[List.getD_eq_getElem?_getD,ht] at e2
    subst e1 e2
    exact⟨t,rfl⟩
end
end L2
namespace L2
open PySem PySem.Spec PyProof.Rows
section
variable {X:Cx}
def SG(a b:Str):Nat:=(Builtin.Str.occurrences a b 0 a.length (a.length+1)).length
def P9:V->List V->Hp->VK->Prop:=λx vs H Q=>∃a b,x = .str a/\vs=[.str b]/\Q (.int (SG a b)) H
theorem Fo:KO X "str.count" P9:=by
 intro pins s Z H x vs v us Q I rx rv h
 obtain⟨a,b,rfl,rfl,q⟩:=h
 obtain⟨t,rfl⟩:=rx
 obtain⟨u,rfl,ru⟩:=rv.one
 obtain⟨t1,rfl⟩:=ru
 exact call_gives F.slot_str_count (typeIs_str _ _ _) F.entry_str_count (F.args_str_count_2 _ _) (gives_str_count a b t t1) ⟨.int _,H,I.tok _,⟨_,rfl⟩,q⟩
end
end L2
namespace L2
open PySem PySem.Spec PyProof.Rows
structure tD(sc csc:Scope)(N xs:List Str)(caps:List (Str×Nat)):Prop where
 cell:∀p∈csc.names,p.2 ≠ .cell
 kind:csc.kind = .function
 loc:∀p∈csc.names,p.2 = .local->csc.names.lookup p.1=some .local
 tg:∀x∈xs,csc.names.lookup x=some .local
 free:∀p∈csc.names,p.2 = .free->sc.names.lookup p.1=some .cell
 cap:∀p∈caps,N[p.2]?=some p.1/\csc.names.lookup p.1=some .free
 nd:(caps.map (·.1)++xs).Nodup
section
variable {X:Cx}{pins:List (Addr×Obj)}{Z:St}{H:Hp}{s:Shared}
theorem n9{csc:Scope}{xs:List Str}{caps:List (Str×Nat)}{fp:List Addr}{h4:Heap}{t4:Nat}{C:Addr}{m0:Str->Option Value}(I:Inv X pins Z H s)(ck:tD X.env.scope csc X.N xs caps)(hf:∀b∈fp,mP X pins H b)
  (hfs:∀b∈fp,b<s.heap.objs.size) (hC:s.heap.objs.size<=C) (hk:∀b o,s.heap.get? b=some o->h4.get? b=some o) (hn:h4.Ns C m0) :
  Inv (bh X (caps.map (·.1)++xs) csc C s H fp) [] (e9 caps Z++xs.map λ_=>none) H { s with heap:=h4,toks:=t4 }:=by
 have cellsOk:∀p∈csc.names,p.2 = .free->∃c,X.env.cells.lookup p.1=some c:=λp hp e=>I.ok.has p.1 (.inl (ck.free p hp e))
 have inX:∀y c,(dj X.env csc.names []).lookup y=some c->X.env.cells.lookup y=some c:=c6 _ _ cellsOk (λy c h=>by simp at h)
 have kf:∀p∈csc.names,p.2 = .free->X.env.kindOf p.1=some .cell:=ck.free
 refine⟨⟨I.ok.mod,ck.kind,I.ok.glob,I.ok.blt,hC,λy z c h1 h2=>I.ok.inj y z c (inX y c h1) (inX z c h2),λy hy=>?_,λy c h=>(nomatch h),I.ok.hd,I.ok.frames,.inl rfl,λb hb=>⟨?_,λy c h=>?_⟩,?_,?_,?_,?_,I.stack,I.tV⟩,rfl,I.bare,Un.kept hk,⟨m0,hn,λi y v h1 h2 h3=>?_⟩,λy c h=>?_,I.hok.fresh hC,λy c h=>I.je y c (inX y c h),λp hp=>absurd hp (by simp),I.hok.kept hk,?_⟩
 ·have hy':(csc.names.map λ(n,k)=>if (k == NameKind.free && X.env.scope.kind == .function && X.env.kindOf n == some .cell) then (n,NameKind.cell) else (n,k)).lookup y=some .cell∨(csc.names.map λ(n,k)=>if (k == NameKind.free && X.env.scope.kind == .function && X.env.kindOf n == some .cell) then (n,NameKind.cell) else (n,k)).lookup y=some .free:=hy
  refine iB _ _ y (.inl ?_)
  rcases hy' with z|z
  ·exact c8 z (.inl rfl) ck.cell
  ·exact c8 z (.inr rfl) ck.cell
 ·exact Nat.ne_of_lt (Nat.lt_of_lt_of_le (hfs b hb) hC)
 ·exact(hf b hb).2.2.2.2.1 y c (inX y c h)
 ·exact λb o e=>I.bs b o e
 ·exact Nat.le_trans I.ok.Jv I.sz
 ·intro b o e hb
  rcases (hf b hb).2.2.2.1 with z|z
  ·exact I.ok.BR b o e z
  ·exact absurd (Nat.lt_of_lt_of_le (Heap.lt_size (I.ok.bs b o e).1) z) (Nat.lt_irrefl _)
 ·intro b hb z
  rcases List.mem_cons.mp (I.jz b z) with e|e
  ·exact(hf b hb).2.1 e
  ·exact(hf b hb).2.2.1 e
 ·have hi:i<caps.length:=by
   by_cases hi:i<caps.length
   ·exact hi
   ·rw[List.getElem?_append_right (by rw[dP];lia),dP] at h2
    rw[List.getElem?_map] at h2
    cases q:xs[i-caps.length]? with
    |none=>rw[q] at h2;cases h2
    |some k=>rw[q] at h2;cases h2
  rw[List.getElem?_append_left (by rw[List.length_map];exact hi),List.getElem?_map] at h1
  rw[List.getElem?_append_left (by rw[dP];exact hi)] at h2
  unfold e9 at h2
  rw[List.getElem?_map] at h2
  cases e:caps[i]? with
  |none=>rw[e] at h1;cases h1
  |some p =>
   rw[e] at h1 h2
   simp only[Option.map_some,Option.some.injEq] at h1 h2
   subst h1
   obtain⟨hN,hfr⟩:=ck.cap p (List.mem_of_getElem? e)
   have h2':Z[p.2]?=some (some v):=by
    cases q:Z[p.2]? with
    |none=>rw[q] at h2;cases h2
    |some w=>rw[q] at h2;simp at h2;rw[h2]
   have hcX:X.env.scope.names.lookup p.1=some .cell:=ck.free (p.1,.free) (PySem.mem_of_lookup hfr) rfl
   obtain⟨m,_,hl⟩:=I.loc
   obtain⟨u,r,l⟩:=hl p.2 p.1 v hN h2' (.inr (.inl hcX))
   refine⟨u,r,?_⟩
   rcases l with ⟨k,_⟩|⟨_,c,hc,z⟩
   ·have k':X.env.scope.names.lookup p.1=some .local:=k
    rw[hcX] at k';cases k'
   ·obtain⟨c',hc'⟩:=iB (env:=X.env) csc.names [] p.1 (.inl (PySem.mem_of_lookup hfr))
    have:c'=c:=by
     have:=inX p.1 c' hc'
     rw[hc] at this
     exact(Option.some.inj this).symm
    subst this
    refine .inr ⟨.inl (iH I.ok.kind kf hfr),c',hc',?_⟩
    obtain⟨o,ho,hd⟩:=z
    exact⟨o,hk _ _ ho,hd⟩
 ·obtain⟨v,o,ho,hd⟩:=I.cell y c (inX y c h)
  exact⟨v,o,hk _ _ ho,hd⟩
 ·rw[List.length_append,dP,List.length_append,List.length_map,List.length_map]
end
section
variable {X:Cx}
def yL(J:It)(n:Nat)(caps:List (Str×Nat))(g:TG)(te:TE)(Z:St)(H1:Hp)(Q:VK):Prop:=∃W:Nat->Nat->List V->Hp->Prop,(∃m,W 0 m [] H1)/\∀i m ys H,W i m ys H ->
 (J.stop i H/\∀D,H D=none->Q (.ref D) (upd H D (.lst ys)))∨(J.go i H/\ys.length<sizeLine/\∀x H',J.IZ i H x H'->∀zs:St,zs.length=n->g x (e9 caps Z++zs) H' λZ2 H2=>∃ws:St,ws.length=n/\Z2=e9 caps Z++ws/\te Z2 H2 λy H3=>∃m',m'<m/\W (i+1) m' (ys++[y]) H3)
def Nk(n:Nat)(caps:List (Str×Nat))(g:TG)(wi:TI)(te:TE):TE:=λZ H Q=>wi Z H λJ H1=>yL J n caps g te Z H1 Q
def vn(J:It)(n:Nat)(caps:List (Str×Nat))(g:TG)(tt:TT)(te:TE)(Z:St)(H1:Hp)(Q:VK):Prop:=∃W:Nat->Nat->List V->Hp->Prop,(∃m,W 0 m [] H1)/\∀i m ys H,W i m ys H ->
 (J.stop i H/\∀D,H D=none->Q (.ref D) (upd H D (.lst ys)))∨(J.go i H/\ys.length<sizeLine/\∀x H',J.IZ i H x H'->∀zs:St,zs.length=n->g x (e9 caps Z++zs) H' λZ2 H2=>∃ws:St,ws.length=n/\Z2=e9 caps Z++ws/\tt Z2 H2 λb H3=>if b=true then te Z2 H3 λy H4=>∃m',m'<m/\W (i+1) m' (ys++[y]) H4 else ∃m',m'<m/\W (i+1) m' ys H3)
def FF(n:Nat)(caps:List (Str×Nat))(g:TG)(wi:TI)(tt:TT)(te:TE):TE:=λZ H Q=>wi Z H λJ H1=>vn J n caps g tt te Z H1 Q
theorem vL{sc csc:Scope}{N:List Str}{elt iter:Expr}{xs:List Str}{tg:Expr}{g:TG}{pos:Pos}{caps:List (Str×Nat)}{wi:TI}{te:TE}(ck:tD sc csc N xs caps)(hi:PI X tg iter wi)(hg:∀C s2 H2 fp,PG (bh X (caps.map (·.1)++xs) csc C s2 H2 fp) tg g)
  (he:∀C s2 H2 fp,PE (bh X (caps.map (·.1)++xs) csc C s2 H2 fp) elt te) (hc:autoParam (X.calm=true) L2.Y3._auto_1) (hsc:autoParam (X.env.scope=sc) L2.Y3._auto_1) (hXN:autoParam (X.N=N) L2.Y3._auto_1) (hs:autoParam (∀x,foldedSetIterable iter X.env x=pure x) L2.Y2._auto_1) :
  PE X (.ListComp elt [⟨tg,iter,[],0⟩] csc pos) (Nk xs.length caps g wi te):=by
 subst hsc hXN
 intro pins s Z H Q I h
 rw[eval_ListComp]
 have cellsOk:∀p∈csc.names,p.2 = .free->∃c,X.env.cells.lookup p.1=some c:=λp hp e=>I.ok.has p.1 (.inl (ck.free p hp e))
 refine wpAny_comprehension_free (use:=none) rfl hs (fE cellsOk) ck.kind ck.loc (cL (hi pins s Z H _ I h) λv s1 h1=>cL h1 λitv s2 h2=>?_)
 obtain⟨it,fp,tn,J,H2,e,I2,T,st2,f2,W,⟨m0,w0⟩,turn⟩:=h2
 subst e
 refine wpAny_newObj_type (wpAny_newFunctionEnv ck.cell (by intro y hy;simp at hy) (λh4 hns4 hsb4=>?_) ck.kind)
 dsimp only at hns4 hsb4 ⊢
 generalize hD:s2.heap.objs.size=D at hns4 hsb4 ⊢
 generalize hH2:s2.heap.push { cls:=.type "list",dict:=none,data:=.seq ([]:List Value).toArray }=G at hns4 hsb4 ⊢
 have hGs:G.objs.size=D+1:=by rw[← hH2,Heap.size_push,hD]
 rw[hGs] at hns4 hsb4 ⊢
 have lt2:∀b o,s2.heap.get? b=some o->b<D:=λb o e=>hD ▸ Heap.lt_size e
 have old:∀b o,s2.heap.get? b=some o->b≠D+1/\b≠D:=λb o e=>⟨rJ (lt2 b o e),sL (lt2 b o e)⟩
 have leD:s2.heap.objs.size<=D:=Nat.le_of_eq hD
 have leD1:s2.heap.objs.size<=D+1:=Nat.le_succ_of_le leD
 have keep4:∀b o,s2.heap.get? b=some o->h4.get? b=some o:=λb o e=>hsb4.extBut b o (old b o e).1 (Heap.get?_push_of_some _ (hH2 ▸ Heap.get?_push_of_some _ e))
 have hDo:h4.get? D=some { cls:=.type "list",data:=.seq ([]:List Value).toArray 0 }:=by
  refine hsb4.extBut D _ q9 (Heap.get?_push_of_some _ ?_)
  rw[← hH2,← hD]
  exact Heap.get?_push_size _ rfl
 have fps:∀b∈fp,b<s2.heap.objs.size:=λb hb=>by
  obtain⟨o,e,_⟩:=T.obj _ _ st2 b hb
  exact Heap.lt_size e
 have I4:∀t4,Inv (bh X (caps.map (·.1)++xs) csc (D+1) s2 H2 fp) [] (e9 caps Z++xs.map λ_=>none) H2 { s2 with heap:=h4,toks:=t4 }:=λt4=>n9 (m0:=λx=>[].reverse.lookup x) I2 ck f2 fps leD1 keep4 hns4
 have cellsLt:∀y c,(dj X.env csc.names []).lookup y=some c->c<D:=λy c e=>by
  obtain⟨v,o,ho,_⟩:=I2.cell y c (c6 _ _ cellsOk (λy c h=>by simp at h) y c e)
  exact lt2 c o ho
 have fsLt:∀b∈frs X.stack,b<D:=λb hb=>by
  obtain⟨_,o,ho,_⟩:=I2.stack.mem hb
  exact lt2 b o ho
 have fpC:∀{pl:List (Addr×Obj)} {H':Hp},(∀p∈pl,p.1=D)->(∀b∈fp,H' b=none)->∀b∈fp,mP (bh X (caps.map (·.1)++xs) csc (D+1) s2 H2 fp) pl H' b:=λ{pl H'} hpl hn b hb=>by
  have hb':b<D:=hD ▸ fps b hb
  refine⟨hn b hb,rJ hb',?_,.inl hb,λy c e=>?_,λp hp=>?_⟩
  ·intro z
   rcases List.mem_cons.mp (I2.jz b z) with e|e
   ·exact(f2 b hb).2.1 e
   ·exact(f2 b hb).2.2.1 e
  ·exact(f2 b hb).2.2.2.2.1 y c (c6 _ _ cellsOk (λy c h=>by simp at h) y c e)
  ·have:p.1=D:=hpl p (by simpa using hp)
   rw[this];exact λz=>sL hb' z.symm
 have loop:∀t4,codeAny (model X.prog X.w) X.A (.compLoop (.ListComp elt [⟨tg,iter,[],0⟩] csc pos) 0 (.ref it) (.ref D) (compEnvC csc (dj X.env csc.names []) (D+1) X.env))
   (compPost (model X.prog X.w) X.A X.xe none (EP X pins Z Q) (.ref D) (D+1)) { s2 with heap:=h4,toks:=t4 }:=by
  intro t4
  refine om (λn s'=>∃(i:Nat) (ys:List V) (its:List Value) (k:Nat) (Z':St) (H':Hp),Inv (bh X (caps.map (·.1)++xs) csc (D+1) s2 H2 fp) [(D,{ cls:=.type "list",data:=.seq its.toArray k })] Z' H' s'/\tn i s'.heap/\(∀b∈fp,H' b=none)/\Vals ys its/\ys.length<=sizeLine/\W i n ys H'/\(∃zs:St,zs.length=xs.length/\Z'=e9 caps Z++zs)) ?_ m0 ?_
  ·rintro n s3 ⟨i,ys,its,k,Z3,H3,I3,st3,fr3,hv,hz,w3,z3,hz3,rfl⟩
   have pl1:∀p∈[((D,{ cls:=.type "list",data:=.seq its.toArray k }):Addr×Obj)],p.1=D:=λp hp=>by rw[List.mem_singleton.mp hp]
   rcases turn i n ys H3 w3 with ⟨stop,qn⟩|⟨go,hlt,step⟩
   ·refine wpAny_mono (T.done (bh X (caps.map (·.1)++xs) csc (D+1) s2 H2 fp) rfl rfl rfl hc i _ s3 _ H3 (λ_ _=>False) I3 (fpC pl1 fr3) st3 stop) (λr s4 hY=>?_) λ_ _ f=>f.elim
    obtain⟨hr,I4'⟩:=hY
    subst hr
    obtain⟨m,hn,_⟩:=id I4'.loc
    have pD:=I4'.pin (D,{ cls:=.type "list",data:=.seq its.toArray k }) (by simp)
    refine⟨m,hn,λh' hs'=>⟨.ref D,_,jd I2 I4' f2 leD1 leD q9 hs' hv hz pD.1 pD.2.1,rfl,qn D pD.2.1⟩⟩
   ·refine wpAny_mono (T.item (bh X (caps.map (·.1)++xs) csc (D+1) s2 H2 fp) rfl rfl rfl hc i _ s3 _ H3 (λ_ _=>False) I3 (fpC pl1 fr3) st3 go) (λr s4 hY=>?_) λ_ _ f=>f.elim
    obtain⟨u,hr,h4'⟩:=hY
    subst hr
    refine wpAny_mono h4' (λ_ s4 hY=>?_) λ_ _ f=>f.elim
    obtain⟨xv,H5,I5,r5,y5,st5,fr5⟩:=hY
    have I5':=I5.pinned (fpC pl1 fr5) (T.obj _ _ st5)
    refine wpAny_mono (hg (D+1) s2 H2 fp _ s4 _ H5 xv u _ I5' r5 (step xv H5 y5 z3 hz3)) (λ_ s6 hY=>?_) λ_ _ f=>f.elim
    obtain⟨Z6,H6,I6,ws,hws,hZ,p6⟩:=hY
    subst hZ
    refine wpAny_mono (he (D+1) s2 H2 fp _ s6 _ H6 _ I6 p6) (λw7 s7 hY=>?_) λ_ _ f=>f.elim
    obtain⟨y,H7,I7,r7,m',hm,w8⟩:=hY
    have pD:=I7.pin (D,{ cls:=.type "list",data:=.seq its.toArray k }) (by simp)
    have hll:=hv.length
    refine call_meets F.slot_list_append ⟨_,pD.1,rfl⟩ F.entry_list_append (F.args_list_append_2 _ _) (PySem.list_append D its.toArray k w7 (by rw[List.size_toArray];lia)) ⟨pD.1,?_⟩
    have q:=PySem.IsL.update pD.1 (·.push w7)
    have hpush:its.toArray.push w7=(its++[w7]).toArray:=by simp
    rw[hpush] at q
    obtain⟨k',q⟩:∃k',(s7.heap.update D (Obj.mapSeq (·.push w7))).get? D=some { cls:=.type "list",data:=.seq (its++[w7]).toArray k' }:=⟨_,q⟩
    have I7u:Inv (bh X (caps.map (·.1)++xs) csc (D+1) s2 H2 fp) (gr fp s4.heap) _ H7 s7:=I7.cC λp hp=>I7.pin p (List.mem_append_right _ (List.mem_append_right _ hp))
    have pfp:∀p∈gr fp s4.heap,p.1<D:=λp hp=>hD ▸ fps p.1 (iy hp).1
    have I8:=I7u.turned (h':=s7.heap.update D (Obj.mapSeq (·.push w7))) (t':=s7.toks) (it:=D) (λb o hb e=>(Heap.get?_update_other s7.heap _ (Ne.symm hb)).trans e) pD.2.1 q9 (.inr leD) (λy c e=>sL (cellsLt y c e)) (λp hp=>sL (pfp p (by simpa using hp)))
    refine⟨m',hm,i+1,ys++[y],its++[w7],k',_,H7,I8.cC λp hp=>?_,T.keep _ _ _ st5 λb hb o e=>(I8.pin (b,o) (List.mem_append_right _ (bQ hb e))).1,λb hb=>?_,hv.append (.cons r7 .nil),?_,w8,ws,hws,rfl⟩
    ·rw[List.mem_singleton.mp hp]
     exact⟨q,pD.2.1,pD.2.2.1,pD.2.2.2.1,λv=>by simp⟩
    ·obtain⟨o,e,d⟩:=T.obj _ _ st5 b hb
     exact(I8.pin (b,o) (List.mem_append_right _ (bQ hb e))).2.1
    ·rw[List.length_append,List.length_singleton];lia
  ·refine⟨0,[],[],0,_,H2,(I4 t4).cC λp hp=>?_,T.keep _ _ _ st2 λb hb o e=>keep4 b o e,λb hb=>(f2 b hb).1,.nil,Nat.zero_le _,w0,_,List.length_map _,rfl⟩
   rw[List.mem_singleton.mp hp]
   refine⟨hDo,I2.hok.fresh leD,q9,λz=>absurd (fsLt D z) (Nat.lt_irrefl _),λv=>by simp⟩
 exact codeAny_compStart_list (loop _) (T.self _ 0 _ _ _ (T.keep _ _ _ st2 λb hb o e=>keep4 b o e) (loop _))
theorem pY{sc csc:Scope}{N:List Str}{elt iter c:Expr}{xs:List Str}{tg:Expr}{g:TG}{pos:Pos}{caps:List (Str×Nat)}{wi:TI}{te:TE}{tt:TT}(ck:tD sc csc N xs caps)(hi:PI X tg iter wi)(hg:∀C s2 H2 fp,PG (bh X (caps.map (·.1)++xs) csc C s2 H2 fp) tg g)
  (ht:∀C s2 H2 fp,PT (bh X (caps.map (·.1)++xs) csc C s2 H2 fp) c tt) (he:∀C s2 H2 fp,PE (bh X (caps.map (·.1)++xs) csc C s2 H2 fp) elt te) (hc:autoParam (X.calm=true) L2.Y3._auto_1) (hsc:autoParam (X.env.scope=sc) L2.Y3._auto_1) (hXN:autoParam (X.N=N) L2.Y3._auto_1) (hs:autoParam (∀x,foldedSetIterable iter X.env x=pure x) L2.Y2._auto_1) :
  PE X (.ListComp elt [⟨tg,iter,[c],0⟩] csc pos) (FF xs.length caps g wi tt te):=by
 subst hsc hXN
 intro pins s Z H Q I h
 rw[eval_ListComp]
 have cellsOk:∀p∈csc.names,p.2 = .free->∃c,X.env.cells.lookup p.1=some c:=λp hp e=>I.ok.has p.1 (.inl (ck.free p hp e))
 refine wpAny_comprehension_free (use:=none) rfl hs (fE cellsOk) ck.kind ck.loc (cL (hi pins s Z H _ I h) λv s1 h1=>cL h1 λitv s2 h2=>?_)
 obtain⟨it,fp,tn,J,H2,e,I2,T,st2,f2,W,⟨m0,w0⟩,turn⟩:=h2
 subst e
 refine wpAny_newObj_type (wpAny_newFunctionEnv ck.cell (by intro y hy;simp at hy) (λh4 hns4 hsb4=>?_) ck.kind)
 dsimp only at hns4 hsb4 ⊢
 generalize hD:s2.heap.objs.size=D at hns4 hsb4 ⊢
 generalize hH2:s2.heap.push { cls:=.type "list",dict:=none,data:=.seq ([]:List Value).toArray }=G at hns4 hsb4 ⊢
 have hGs:G.objs.size=D+1:=by rw[← hH2,Heap.size_push,hD]
 rw[hGs] at hns4 hsb4 ⊢
 have lt2:∀b o,s2.heap.get? b=some o->b<D:=λb o e=>hD ▸ Heap.lt_size e
 have old:∀b o,s2.heap.get? b=some o->b≠D+1/\b≠D:=λb o e=>⟨rJ (lt2 b o e),sL (lt2 b o e)⟩
 have leD:s2.heap.objs.size<=D:=Nat.le_of_eq hD
 have leD1:s2.heap.objs.size<=D+1:=Nat.le_succ_of_le leD
 have keep4:∀b o,s2.heap.get? b=some o->h4.get? b=some o:=λb o e=>hsb4.extBut b o (old b o e).1 (Heap.get?_push_of_some _ (hH2 ▸ Heap.get?_push_of_some _ e))
 have hDo:h4.get? D=some { cls:=.type "list",data:=.seq ([]:List Value).toArray 0 }:=by
  refine hsb4.extBut D _ q9 (Heap.get?_push_of_some _ ?_)
  rw[← hH2,← hD]
  exact Heap.get?_push_size _ rfl
 have fps:∀b∈fp,b<s2.heap.objs.size:=λb hb=>by
  obtain⟨o,e,_⟩:=T.obj _ _ st2 b hb
  exact Heap.lt_size e
 have I4:∀t4,Inv (bh X (caps.map (·.1)++xs) csc (D+1) s2 H2 fp) [] (e9 caps Z++xs.map λ_=>none) H2 { s2 with heap:=h4,toks:=t4 }:=λt4=>n9 (m0:=λx=>[].reverse.lookup x) I2 ck f2 fps leD1 keep4 hns4
 have cellsLt:∀y c,(dj X.env csc.names []).lookup y=some c->c<D:=λy c e=>by
  obtain⟨v,o,ho,_⟩:=I2.cell y c (c6 _ _ cellsOk (λy c h=>by simp at h) y c e)
  exact lt2 c o ho
 have fsLt:∀b∈frs X.stack,b<D:=λb hb=>by
  obtain⟨_,o,ho,_⟩:=I2.stack.mem hb
  exact lt2 b o ho
 have fpC:∀{pl:List (Addr×Obj)} {H':Hp},(∀p∈pl,p.1=D)->(∀b∈fp,H' b=none)->∀b∈fp,mP (bh X (caps.map (·.1)++xs) csc (D+1) s2 H2 fp) pl H' b:=λ{pl H'} hpl hn b hb=>by
  have hb':b<D:=hD ▸ fps b hb
  refine⟨hn b hb,rJ hb',?_,.inl hb,λy c e=>?_,λp hp=>?_⟩
  ·intro z
   rcases List.mem_cons.mp (I2.jz b z) with e|e
   ·exact(f2 b hb).2.1 e
   ·exact(f2 b hb).2.2.1 e
  ·exact(f2 b hb).2.2.2.2.1 y c (c6 _ _ cellsOk (λy c h=>by simp at h) y c e)
  ·have:p.1=D:=hpl p (by simpa using hp)
   rw[this];exact λz=>sL hb' z.symm
 have loop:∀t4,codeAny (model X.prog X.w) X.A (.compLoop (.ListComp elt [⟨tg,iter,[c],0⟩] csc pos) 0 (.ref it) (.ref D) (compEnvC csc (dj X.env csc.names []) (D+1) X.env))
   (compPost (model X.prog X.w) X.A X.xe none (EP X pins Z Q) (.ref D) (D+1)) { s2 with heap:=h4,toks:=t4 }:=by
  intro t4
  refine i6 (λn s'=>∃(i:Nat) (ys:List V) (its:List Value) (k:Nat) (Z':St) (H':Hp),Inv (bh X (caps.map (·.1)++xs) csc (D+1) s2 H2 fp) [(D,{ cls:=.type "list",data:=.seq its.toArray k })] Z' H' s'/\tn i s'.heap/\(∀b∈fp,H' b=none)/\Vals ys its/\ys.length<=sizeLine/\W i n ys H'/\(∃zs:St,zs.length=xs.length/\Z'=e9 caps Z++zs)) ?_ m0 ?_
  ·rintro n s3 ⟨i,ys,its,k,Z3,H3,I3,st3,fr3,hv,hz,w3,z3,hz3,rfl⟩
   have pl1:∀p∈[((D,{ cls:=.type "list",data:=.seq its.toArray k }):Addr×Obj)],p.1=D:=λp hp=>by rw[List.mem_singleton.mp hp]
   rcases turn i n ys H3 w3 with ⟨stop,qn⟩|⟨go,hlt,step⟩
   ·refine wpAny_mono (T.done (bh X (caps.map (·.1)++xs) csc (D+1) s2 H2 fp) rfl rfl rfl hc i _ s3 _ H3 (λ_ _=>False) I3 (fpC pl1 fr3) st3 stop) (λr s4 hY=>?_) λ_ _ f=>f.elim
    obtain⟨hr,I4'⟩:=hY
    subst hr
    obtain⟨m,hn,_⟩:=id I4'.loc
    have pD:=I4'.pin (D,{ cls:=.type "list",data:=.seq its.toArray k }) (by simp)
    refine⟨m,hn,λh' hs'=>⟨.ref D,_,jd I2 I4' f2 leD1 leD q9 hs' hv hz pD.1 pD.2.1,rfl,qn D pD.2.1⟩⟩
   ·refine wpAny_mono (T.item (bh X (caps.map (·.1)++xs) csc (D+1) s2 H2 fp) rfl rfl rfl hc i _ s3 _ H3 (λ_ _=>False) I3 (fpC pl1 fr3) st3 go) (λr s4 hY=>?_) λ_ _ f=>f.elim
    obtain⟨u,hr,h4'⟩:=hY
    subst hr
    refine wpAny_mono h4' (λ_ s4 hY=>?_) λ_ _ f=>f.elim
    obtain⟨xv,H5,I5,r5,y5,st5,fr5⟩:=hY
    have I5':=I5.pinned (fpC pl1 fr5) (T.obj _ _ st5)
    refine wpAny_mono (hg (D+1) s2 H2 fp _ s4 _ H5 xv u _ I5' r5 (step xv H5 y5 z3 hz3)) (λ_ s6 hY=>?_) λ_ _ f=>f.elim
    obtain⟨Z6,H6,I6,ws,hws,hZ,p6⟩:=hY
    subst hZ
    refine wpAny_mono (ht (D+1) s2 H2 fp _ s6 _ H6 _ I6 p6) (λok s6 hY=>?_) λ_ _ f=>f.elim
    obtain⟨H6,I6,q6⟩:=hY
    cases ok with
    |false =>
     rw[if_neg (by decide)] at q6 ⊢
     obtain⟨m',hm,w8⟩:=q6
     have pD:=I6.pin (D,{ cls:=.type "list",data:=.seq its.toArray k }) (by simp)
     refine⟨m',hm,i+1,ys,its,k,_,H6,I6.cC λp hp=>?_,T.keep _ _ _ st5 λb hb o e=>(I6.pin (b,o) (List.mem_append_right _ (List.mem_append_right _ (bQ hb e)))).1,λb hb=>?_,hv,hz,w8,ws,hws,rfl⟩
     ·rw[List.mem_singleton.mp hp];exact pD
     ·obtain⟨o,e,d⟩:=T.obj _ _ st5 b hb
      exact(I6.pin (b,o) (List.mem_append_right _ (List.mem_append_right _ (bQ hb e)))).2.1
    |true =>
    rw[if_pos rfl] at q6 ⊢
    refine wpAny_mono (he (D+1) s2 H2 fp _ s6 _ H6 _ I6 q6) (λw7 s7 hY=>?_) λ_ _ f=>f.elim
    obtain⟨y,H7,I7,r7,m',hm,w8⟩:=hY
    have pD:=I7.pin (D,{ cls:=.type "list",data:=.seq its.toArray k }) (by simp)
    have hll:=hv.length
    refine call_meets F.slot_list_append ⟨_,pD.1,rfl⟩ F.entry_list_append (F.args_list_append_2 _ _) (PySem.list_append D its.toArray k w7 (by rw[List.size_toArray];lia)) ⟨pD.1,?_⟩
    have q:=PySem.IsL.update pD.1 (·.push w7)
    have hpush:its.toArray.push w7=(its++[w7]).toArray:=by simp
    rw[hpush] at q
    obtain⟨k',q⟩:∃k',(s7.heap.update D (Obj.mapSeq (·.push w7))).get? D=some { cls:=.type "list",data:=.seq (its++[w7]).toArray k' }:=⟨_,q⟩
    have I7u:Inv (bh X (caps.map (·.1)++xs) csc (D+1) s2 H2 fp) (gr fp s4.heap) _ H7 s7:=I7.cC λp hp=>I7.pin p (List.mem_append_right _ (List.mem_append_right _ hp))
    have pfp:∀p∈gr fp s4.heap,p.1<D:=λp hp=>hD ▸ fps p.1 (iy hp).1
    have I8:=I7u.turned (h':=s7.heap.update D (Obj.mapSeq (·.push w7))) (t':=s7.toks) (it:=D) (λb o hb e=>(Heap.get?_update_other s7.heap _ (Ne.symm hb)).trans e) pD.2.1 q9 (.inr leD) (λy c e=>sL (cellsLt y c e)) (λp hp=>sL (pfp p (by simpa using hp)))
    refine⟨m',hm,i+1,ys++[y],its++[w7],k',_,H7,I8.cC λp hp=>?_,T.keep _ _ _ st5 λb hb o e=>(I8.pin (b,o) (List.mem_append_right _ (bQ hb e))).1,λb hb=>?_,hv.append (.cons r7 .nil),?_,w8,ws,hws,rfl⟩
    ·rw[List.mem_singleton.mp hp]
     exact⟨q,pD.2.1,pD.2.2.1,pD.2.2.2.1,λv=>by simp⟩
    ·obtain⟨o,e,d⟩:=T.obj _ _ st5 b hb
     exact(I8.pin (b,o) (List.mem_append_right _ (bQ hb e))).2.1
    ·rw[List.length_append,List.length_singleton];lia
  ·refine⟨0,[],[],0,_,H2,(I4 t4).cC λp hp=>?_,T.keep _ _ _ st2 λb hb o e=>keep4 b o e,λb hb=>(f2 b hb).1,.nil,Nat.zero_le _,w0,_,List.length_map _,rfl⟩
   rw[List.mem_singleton.mp hp]
   refine⟨hDo,I2.hok.fresh leD,q9,λz=>absurd (fsLt D z) (Nat.lt_irrefl _),λv=>by simp⟩
 exact codeAny_compStart_list (loop _) (T.self _ 0 _ _ _ (T.keep _ _ _ st2 λb hb o e=>keep4 b o e) (loop _))
end
end L2
namespace PySem
open Sem (wp)
section
variable {prog:Program}{w:World}{A:Around}{E:Value->Shared->Prop}{s:Shared}
theorem lJ{it l:Addr}{i:Nat}{items}{x:Value}{Q:Value->Shared->Prop}(hit:s.heap.IsTupleIter it l i)
  (hl:s.heap.IsTuple l items) (hx:items[i]?=some x)
  (hQ:∀h',h'.IsTupleIter it l (i+1)->Heap.SameBut it s.heap h'->Q x { s with heap:=h' }) :
  wpAny (model prog w) A (Builtin.SmallTypes.nextOf (.ref it)) Q E s:=by
 obtain⟨o,ho,hc,hd⟩:=id hit
 obtain⟨ol,hol,_,nl,hdl⟩:=hl
 unfold Builtin.SmallTypes.nextOf
 refine wpAny_bind (wpAny_callSpecial?_slot (name:=Str.ofString "__next__") hit.typeIs F.slot_tuple_iterator_next
  (wpAny_call_entry F.slot_tuple_iterator_next hit.typeIs F.entry_tuple_iterator_next ?_ (F.args_tuple_iterator_next_1 _)))
 show wpAny _ _ (field (.ref it) 0 >>= _) _ _ s
 refine wpAny_bind (wpAny_field ho hd (x:=.ref l) rfl ?_)
 show wpAny _ _ (if (Value.ref l == Value.none)=true then _ else _) _ _ s
 rw[if_neg (show ¬ ((Value.ref l == Value.none)=true) from Bool.false_ne_true)]
 show wpAny _ _ (field (.ref it) 1 >>= _) _ _ s
 refine wpAny_bind (wpAny_field ho hd (x:=.int i 0) rfl ?_)
 show wpAny _ _ (seqItems? (.ref l) >>= _) _ _ s
 refine wpAny_bind (wpAny_seqItems hol hdl ?_)
 simp only[Int.toNat_natCast,hx]
 refine wpAny_bind (wpAny_setField ho hd (by simp) (wpAny_pure ⟨x,rfl,wpAny_pure (hQ _ ?_ (Heap.SameBut.update ..))⟩))
 exact⟨_,Heap.get?_update_self _ ho (Obj.isFreed_of_fields (Obj.data_mapFields hd _)),(Obj.cls_mapFields ..).trans hc,by
  rw[Obj.data_mapFields hd];simp[rawInt]⟩
theorem mL{it l:Addr}{i:Nat}{items}{Q:Value->Shared->Prop}(hh:A.handled=none)
  (hit:s.heap.IsTupleIter it l i) (hl:s.heap.IsTuple l items) (hx:items[i]?=none)
  (hE:∀h' e,Heap.ExtBut it s.heap h'->(∃o,h'.get? e=some o/\o.cls = .type "StopIteration")->E (.ref e) { s with heap:=h' }) :
  wpAny (model prog w) A (Builtin.SmallTypes.nextOf (.ref it)) Q E s:=by
 obtain⟨o,ho,hc,hd⟩:=id hit
 obtain⟨ol,hol,_,nl,hdl⟩:=hl
 unfold Builtin.SmallTypes.nextOf
 refine wpAny_bind (wpAny_callSpecial?_slot (name:=Str.ofString "__next__") hit.typeIs F.slot_tuple_iterator_next
  (wpAny_call_entry F.slot_tuple_iterator_next hit.typeIs F.entry_tuple_iterator_next ?_ (F.args_tuple_iterator_next_1 _)))
 show wpAny _ _ (field (.ref it) 0 >>= _) _ _ s
 refine wpAny_bind (wpAny_field ho hd (x:=.ref l) rfl ?_)
 show wpAny _ _ (if (Value.ref l == Value.none)=true then _ else _) _ _ s
 rw[if_neg (show ¬ ((Value.ref l == Value.none)=true) from Bool.false_ne_true)]
 show wpAny _ _ (field (.ref it) 1 >>= _) _ _ s
 refine wpAny_bind (wpAny_field ho hd (x:=.int i 0) rfl ?_)
 show wpAny _ _ (seqItems? (.ref l) >>= _) _ _ s
 refine wpAny_bind (wpAny_seqItems hol hdl ?_)
 simp only[Int.toNat_natCast,hx]
 refine wpAny_bind (wpAny_rule (wpAny_bind (wpAny_setField ho hd (by simp) ?_)))
 show wpAny _ _ (newExc (.type "StopIteration") [] >>= _) _ _ _
 refine wpAny_bind ?_
 simp only[newExc,newTuple]
 refine wpAny_bind (wpAny_newObj_type ?_ (by size_fits))
 refine wpAny_bind (m:=firstArgMember _ _) (wpAny_of_eq (a:=Value.none) (by first | rfl | (simp only[firstArgMember];rfl)) ?_)
 refine wpAny_newObj_type ?_ (by size_fits)
 simp only[raiseNew]
 refine wpAny_bind (wpAny_handled ?_)
 first | rw[show A.in1.handled=none from hh] | rw[hh]
 refine wpAny_bind (wpAny_pure (wpAny_throw ?_))
 exact hE _ _ (((Heap.SameBut.update ..).extBut.push _).push _) ⟨_,Heap.get?_push_size _ rfl,rfl⟩
theorem qk{z TI TO i1 i2 l1 l2:Addr}{k1 k2:Nat}{xs ys:Array Value}{x y a b:Value}{Q:Value->Shared->Prop}(D:ZipApart z TI TO i1 i2 l1 l2)
  (hz:IsZip s.heap z TI TO .none) (hTI:IsPair s.heap TI (.ref i1) (.ref i2)) (hTO:IsPair s.heap TO a b)
  (h1:s.heap.IsListIter i1 l1 k1) (h2:s.heap.IsTupleIter i2 l2 k2) (hl1:s.heap.IsList l1 xs) (hl2:s.heap.IsTuple l2 ys) (hx:xs[k1]?=some x) (hy:ys[k2]?=some y)
  (hQ:∀h',IsZip h' z TI TO (rawInt s.heap.objs.size)->IsPair h' TO x y->h'.IsListIter i1 l1 (k1+1)->h'.IsTupleIter i2 l2 (k2+1)->IsPair h' s.heap.objs.size x y->h'.objs.size=s.heap.objs.size+1 ->
   (∀c o,c≠z->c≠TO->c≠i1->c≠i2->s.heap.get? c=some o->h'.get? c=some o)->Q (.ref s.heap.objs.size) { s with heap:=h' }) :
  wpAny (model prog w) A (Builtin.«zip.__next__» ⟨[.ref z],[]⟩) (λfin s'=>∃v,fin = .done (.ret v)/\Q v s') E s:=by
 show wpAny _ _ (field (.ref z) 2 >>= _) _ _ _
 refine wpAny_bind (wpAny_field hz rfl (x:=.bool false) rfl ?_)
 show wpAny _ _ (field (.ref z) 3 >>= _) _ _ _
 refine wpAny_bind (wpAny_field hz rfl (x:=.ref TI) rfl ?_)
 refine wpAny_bind (wpAny_seqItems hTI rfl ?_)
 show wpAny _ _ (Builtin.SmallTypes.ownedTupleIsFree (.ref z) >>= _) _ _ _
 refine wpAny_bind ?_
 unfold Builtin.SmallTypes.ownedTupleIsFree
 refine wpAny_bind (wpAny_field hz rfl (x:=.none) rfl (wpAny_pure ?_))
 simp only[if_true]
 refine wpAny_bind (wpAny_rule ?_)
 refine wpAny_bind (wpAny_field hz rfl (x:=.ref TO) rfl ?_)
 refine wpAny_bind (wpAny_setField_rec hz (by simp) λh₁ hz₁ hs₁=>?_)
 replace hz₁:IsZip h₁ z TI TO .ellipsis:=hz₁
 refine wpAny_bind ?_
 simp only[List.zipIdx_cons,List.zipIdx_nil,List.forIn_cons,List.forIn_nil]
 refine wpAny_bind (wpAny_bind (wpAny_onRaise ?_))
 show wpAny _ _ (Builtin.SmallTypes.nextOf (.ref i1) >>= _) _ _ _
 refine wpAny_bind (wpAny_nextOf_list_item (h1.extBut hs₁.extBut D.i1z) (hl1.extBut hs₁.extBut D.l1z) hx λh₂ h1₂ hs₂=>wpAny_pure ?_)
 have hTO₂:IsPair h₂ TO a b:=hs₂.extBut _ _ D.TOi1 (hs₁.extBut _ _ D.TOz hTO)
 refine wpAny_bind (wpAny_seqItems hTO₂ rfl ?_)
 refine wpAny_bind (wpAny_updateSeq_pair hTO₂ λh₃ hTO₃ hs₃=>?_)
 replace hTO₃:IsPair h₃ TO x b:=hTO₃
 refine wpAny_bind (wpAny_letGo (wpAny_pure ?_))
 refine wpAny_bind (wpAny_bind (wpAny_onRaise ?_))
 show wpAny _ _ (Builtin.SmallTypes.nextOf (.ref i2) >>= _) _ _ _
 refine wpAny_bind (lJ (((h2.extBut hs₁.extBut D.i2z).extBut hs₂.extBut D.i12.symm).extBut hs₃.extBut D.TOi2.symm)
  (((hl2.extBut hs₁.extBut D.l2z).extBut hs₂.extBut D.l2i1).extBut hs₃.extBut D.l2TO) hy λh₄ h2₄ hs₄=>wpAny_pure ?_)
 have hTO₄:IsPair h₄ TO x b:=hs₄.extBut _ _ D.TOi2 hTO₃
 refine wpAny_bind (wpAny_seqItems hTO₄ rfl ?_)
 refine wpAny_bind (wpAny_updateSeq_pair hTO₄ λh₅ hTO₅ hs₅=>?_)
 replace hTO₅:IsPair h₅ TO x y:=hTO₅
 refine wpAny_bind (wpAny_letGo (wpAny_pure (wpAny_pure ?_)))
 refine wpAny_bind (wpAny_seqItems hTO₅ rfl ?_)
 refine wpAny_bind (wpAny_newTuple ?_)
 have hsz:h₅.objs.size=s.heap.objs.size:=by rw[hs₅.1,hs₄.1,hs₃.1,hs₂.1,hs₁.1]
 have hz₅:IsZip h₅ z TI TO .ellipsis:=hs₅.extBut _ _ D.TOz.symm (hs₄.extBut _ _ D.i2z.symm (hs₃.extBut _ _ D.TOz.symm (hs₂.extBut _ _ D.i1z.symm hz₁)))
 have hk₅:∀c o,c≠z->c≠TO->c≠i1->c≠i2->s.heap.get? c=some o->h₅.get? c=some o:=λc o c1 c2 c3 c4 e =>
  hs₅.extBut _ _ c2 (hs₄.extBut _ _ c4 (hs₃.extBut _ _ c2 (hs₂.extBut _ _ c3 (hs₁.extBut _ _ c1 e))))
 have h1₅:h₅.IsListIter i1 l1 (k1+1):=((h1₂.extBut hs₃.extBut D.TOi1.symm).extBut hs₄.extBut D.i12).extBut hs₅.extBut D.TOi1.symm
 have h2₅:h₅.IsTupleIter i2 l2 (k2+1):=h2₄.extBut hs₅.extBut D.TOi2.symm
 have hzlt:z<h₅.objs.size:=Heap.lt_size hz₅
 have hTOlt:TO<h₅.objs.size:=Heap.lt_size hTO₅
 have hi1lt:i1<h₅.objs.size:=by obtain⟨_,e,_⟩:=h1₅;exact Heap.lt_size e
 have hi2lt:i2<h₅.objs.size:=by obtain⟨_,e,_⟩:=h2₅;exact Heap.lt_size e
 show wpAny _ _ (Builtin.SmallTypes.ownedTupleHandOut (.ref z) (.ref h₅.objs.size) >>= _) _ _ _
 refine wpAny_bind ?_
 unfold Builtin.SmallTypes.ownedTupleHandOut
 have hz₆:IsZip (h₅.push { cls:=.type "tuple",data:=.seq #[x,y] }) z TI TO .ellipsis:=Heap.get?_push_of_some _ hz₅
 refine wpAny_bind (wpAny_setField_rec hz₆ (by simp) λh₇ hz₇ hs₇=>?_)
 replace hz₇:IsZip h₇ z TI TO (rawInt h₅.objs.size):=hz₇
 refine wpAny_setField_rec hz₇ (by simp) λh₈ hz₈ hs₈=>?_
 replace hz₈:IsZip h₈ z TI TO (rawInt h₅.objs.size):=hz₈
 have up:∀c o,c≠z->h₅.get? c=some o->h₈.get? c=some o:=λc o c1 e=>hs₈.extBut _ _ c1 (hs₇.extBut _ _ c1 (Heap.get?_push_of_some _ e))
 have hT₈:IsPair h₈ h₅.objs.size x y:=hs₈.extBut _ _ (Nat.ne_of_gt hzlt) (hs₇.extBut _ _ (Nat.ne_of_gt hzlt) (Heap.get?_push_size _ rfl))
 have hz8:h₈.objs.size=h₅.objs.size+1:=by rw[hs₈.1,hs₇.1,Heap.size_push]
 rw[hsz] at hz₈ hT₈ hz8
 refine wpAny_pure ⟨_,rfl,?_⟩
 show Q (.ref h₅.objs.size) _
 rw[hsz]
 exact hQ h₈ hz₈ (up _ _ D.TOz hTO₅) (h1₅.at λo e=>up _ o D.i1z e) (h2₅.at λo e=>up _ o D.i2z e) hT₈ hz8 λc o c1 c2 c3 c4 e=>up c o c1 (hk₅ c o c1 c2 c3 c4 e)
theorem rE{z TI TO i1 i2 l1 l2:Addr}{k1 k2:Nat}{xs ys:Array Value}{a b:Value}{Q:Fin->Shared->Prop}(hh:A.handled=none)(D:ZipApart z TI TO i1 i2 l1 l2)
  (hz:IsZip s.heap z TI TO .none) (hTI:IsPair s.heap TI (.ref i1) (.ref i2)) (hTO:IsPair s.heap TO a b)
  (h1:s.heap.IsListIter i1 l1 k1) (h2:s.heap.IsTupleIter i2 l2 k2) (hl1:s.heap.IsList l1 xs) (hl2:s.heap.IsTuple l2 ys) (hend:xs[k1]?=none∨ys[k2]?=none)
  (hE:∀h' e,(∀c o,c≠z->c≠TO->c≠i1->c≠i2->s.heap.get? c=some o->h'.get? c=some o)->(∃o,h'.get? e=some o/\o.cls = .type "StopIteration")->E (.ref e) { s with heap:=h' }) :
  wpAny (model prog w) A (Builtin.«zip.__next__» ⟨[.ref z],[]⟩) Q E s:=by
 show wpAny _ _ (field (.ref z) 2 >>= _) _ _ _
 refine wpAny_bind (wpAny_field hz rfl (x:=.bool false) rfl ?_)
 show wpAny _ _ (field (.ref z) 3 >>= _) _ _ _
 refine wpAny_bind (wpAny_field hz rfl (x:=.ref TI) rfl ?_)
 refine wpAny_bind (wpAny_seqItems hTI rfl ?_)
 show wpAny _ _ (Builtin.SmallTypes.ownedTupleIsFree (.ref z) >>= _) _ _ _
 refine wpAny_bind ?_
 unfold Builtin.SmallTypes.ownedTupleIsFree
 refine wpAny_bind (wpAny_field hz rfl (x:=.none) rfl (wpAny_pure ?_))
 simp only[if_true]
 refine wpAny_bind (wpAny_rule ?_)
 refine wpAny_bind (wpAny_field hz rfl (x:=.ref TO) rfl ?_)
 refine wpAny_bind (wpAny_setField_rec hz (by simp) λh₁ hz₁ hs₁=>?_)
 replace hz₁:IsZip h₁ z TI TO .ellipsis:=hz₁
 refine wpAny_bind ?_
 simp only[List.zipIdx_cons,List.zipIdx_nil,List.forIn_cons,List.forIn_nil]
 refine wpAny_bind (wpAny_bind (wpAny_onRaise ?_))
 show wpAny _ _ (Builtin.SmallTypes.nextOf (.ref i1) >>= _) _ _ _
 cases hx:xs[k1]? with
 |none =>
  refine wpAny_bind (wpAny_nextOf_list_end hh (h1.extBut hs₁.extBut D.i1z) (hl1.extBut hs₁.extBut D.l1z) hx λh₂ e hs₂ he=>?_)
  obtain⟨oe,hoe,hce⟩:=he
  have hz₂:IsZip h₂ z TI TO .ellipsis:=hs₂ _ _ D.i1z.symm hz₁
  have hez:e≠z:=λx=>by subst x;rw[hz₂] at hoe;cases hoe;simp at hce
  refine wpAny_setField_rec hz₂ (by simp) λh₃ _ hs₃=>hE h₃ e (λc o c1 _ c3 _ x=>hs₃.extBut _ _ c1 (hs₂ _ _ c3 (hs₁.extBut _ _ c1 x))) ⟨oe,hs₃.extBut _ _ hez hoe,hce⟩
 |some x =>
  have hy:ys[k2]?=none:=by rcases hend with h|h;rw[hx] at h;cases h;exact h
  refine wpAny_bind (wpAny_nextOf_list_item (h1.extBut hs₁.extBut D.i1z) (hl1.extBut hs₁.extBut D.l1z) hx λh₂ h1₂ hs₂=>wpAny_pure ?_)
  have hTO₂:IsPair h₂ TO a b:=hs₂.extBut _ _ D.TOi1 (hs₁.extBut _ _ D.TOz hTO)
  refine wpAny_bind (wpAny_seqItems hTO₂ rfl ?_)
  refine wpAny_bind (wpAny_updateSeq_pair hTO₂ λh₃ hTO₃ hs₃=>?_)
  refine wpAny_bind (wpAny_letGo (wpAny_pure ?_))
  refine wpAny_bind (wpAny_bind (wpAny_onRaise ?_))
  show wpAny _ _ (Builtin.SmallTypes.nextOf (.ref i2) >>= _) _ _ _
  refine wpAny_bind (mL hh (((h2.extBut hs₁.extBut D.i2z).extBut hs₂.extBut D.i12.symm).extBut hs₃.extBut D.TOi2.symm)
   (((hl2.extBut hs₁.extBut D.l2z).extBut hs₂.extBut D.l2i1).extBut hs₃.extBut D.l2TO) hy λh₄ e hs₄ he=>?_)
  obtain⟨oe,hoe,hce⟩:=he
  have hz₄:IsZip h₄ z TI TO .ellipsis:=hs₄ _ _ D.i2z.symm (hs₃.extBut _ _ D.TOz.symm (hs₂.extBut _ _ D.i1z.symm hz₁))
  have hez:e≠z:=λx=>by subst x;rw[hz₄] at hoe;cases hoe;simp at hce
  refine wpAny_setField_rec hz₄ (by simp) λh₅ _ hs₅=>hE h₅ e (λc o c1 c2 c3 c4 x=>hs₅.extBut _ _ c1 (hs₄ _ _ c4 (hs₃.extBut _ _ c2 (hs₂.extBut _ _ c3 (hs₁.extBut _ _ c1 x))))) ⟨oe,hs₅.extBut _ _ hez hoe,hce⟩
theorem nL{z TI TO i1 i2 l1 l2:Addr}{k1 k2:Nat}{xs ys:Array Value}{x y a b:Value}{Q:Option Value->Shared->Prop}(D:ZipApart z TI TO i1 i2 l1 l2)
  (hz:IsZip s.heap z TI TO .none) (hTI:IsPair s.heap TI (.ref i1) (.ref i2)) (hTO:IsPair s.heap TO a b)
  (h1:s.heap.IsListIter i1 l1 k1) (h2:s.heap.IsTupleIter i2 l2 k2) (hl1:s.heap.IsList l1 xs) (hl2:s.heap.IsTuple l2 ys) (hx:xs[k1]?=some x) (hy:ys[k2]?=some y)
  (hQ:∀h',IsZip h' z TI TO (rawInt s.heap.objs.size)->IsPair h' TO x y->h'.IsListIter i1 l1 (k1+1)->h'.IsTupleIter i2 l2 (k2+1)->IsPair h' s.heap.objs.size x y->h'.objs.size=s.heap.objs.size+1 ->
   (∀c o,c≠z->c≠TO->c≠i1->c≠i2->s.heap.get? c=some o->h'.get? c=some o)->Q (some (.ref s.heap.objs.size)) { s with heap:=h' }) :
  wpAny (model prog w) A (pyNext (.ref z)) Q E s:=by
 have hT:s.TypeIs (.ref z) "zip" := ⟨_,hz,rfl⟩
 unfold pyNext
 exact wpAny_bind (wpAny_attempt (wpAny_callSpecial?_slot (name:=Str.ofString "__next__") hT F.slot_zip_next
  (wpAny_call_entry F.slot_zip_next hT F.entry_zip_next
   (qk D hz hTI hTO h1 h2 hl1 hl2 hx hy λh' a1 a2 a3 a4 a5 a6 a7=>wpAny_pure (hQ h' a1 a2 a3 a4 a5 a6 a7)) (F.args_zip_next_1 _))))
theorem oG{z TI TO i1 i2 l1 l2:Addr}{k1 k2:Nat}{xs ys:Array Value}{a b:Value}{Q:Option Value->Shared->Prop}(hh:A.handled=none)(D:ZipApart z TI TO i1 i2 l1 l2)
  (hz:IsZip s.heap z TI TO .none) (hTI:IsPair s.heap TI (.ref i1) (.ref i2)) (hTO:IsPair s.heap TO a b)
  (h1:s.heap.IsListIter i1 l1 k1) (h2:s.heap.IsTupleIter i2 l2 k2) (hl1:s.heap.IsList l1 xs) (hl2:s.heap.IsTuple l2 ys) (hend:xs[k1]?=none∨ys[k2]?=none)
  (hQ:∀h',(∀c o,c≠z->c≠TO->c≠i1->c≠i2->s.heap.get? c=some o->h'.get? c=some o)->Q none { s with heap:=h' }):wpAny (model prog w) A (pyNext (.ref z)) Q E s:=by
 have hT:s.TypeIs (.ref z) "zip" := ⟨_,hz,rfl⟩
 unfold pyNext
 refine wpAny_bind (wpAny_attempt (wpAny_callSpecial?_slot (name:=Str.ofString "__next__") hT F.slot_zip_next
  (wpAny_call_entry F.slot_zip_next hT F.entry_zip_next (rE hh D hz hTI hTO h1 h2 hl1 hl2 hend λh' e hk he=>?_) (F.args_zip_next_1 _))))
 obtain⟨o,ho,hc⟩:=he
 refine wpAny_bind (wpAny_isInstance (T:="StopIteration") (b:=true) ⟨o,ho,hc⟩ isSubtype_stop ?_)
 exact wpAny_pure (hQ _ hk)
end
abbrev Ae (h:Heap) (l1:Addr):Heap:=h.push { cls:=.type "list_iterator",data:=.fields #[.ref l1,.int 0 0] }
abbrev zR (h:Heap) (l1 l2:Addr):Heap:=(Ae h l1).push { cls:=.type "tuple_iterator",data:=.fields #[.ref l2,.int 0 0] }
abbrev zQ (h:Heap) (l1 l2:Addr):Heap:=(zR h l1 l2).push { cls:=.type "tuple",data:=.seq #[.ref h.objs.size,.ref (Ae h l1).objs.size] }
abbrev Ah (h:Heap) (l1 l2:Addr):Heap:=(zQ h l1 l2).push { cls:=.type "tuple",data:=.seq #[.none,.none] }
abbrev pQ (h:Heap) (l1 l2:Addr):Heap:=(Ah h l1 l2).push { cls:=.type "zip",data:=.fields #[.none,.bool false,.bool false,.ref (zR h l1 l2).objs.size,.ref (zQ h l1 l2).objs.size] }
theorem pO(l1 l2:Addr)(xs ys:Array Value) :
  Meets (Builtin.«zip.__new__» ⟨[.type "zip",.ref l1,.ref l2],[]⟩) (λ_ R s=>s.heap.IsList l1 xs/\s.heap.IsTuple l2 ys /\
   R (.ok (.ret (.ref (Ah s.heap l1 l2).objs.size))) { s with heap:=pQ s.heap l1 l2 }) :=
 .of_wp λprog w A R s h=>by
  obtain⟨hp,g,d,tk,os⟩:=s;obtain⟨hl1,hl2,h⟩:=h
  have hsub:=sub_zip
  have hL1:Heap.IsList (Shared.heap ⟨hp,g,d,tk,os⟩) l1 xs:=hl1
  have hL2:Heap.IsTuple (Shared.heap ⟨hp.push { cls:=.type "list_iterator",data:=.fields #[.ref l1,.int 0 0] },g,d,tk,os⟩) l2 ys:=Heap.IsTuple.push hl2 _
  wp_walk using wpAny_pyIter_list hL1,wpAny_pyIter_tuple hL2
  exact⟨_,rfl,h⟩
section
variable {prog:Program}{w:World}{A:Around}{E:Value->Shared->Prop}{s:Shared}
theorem uN{l1 l2:Addr}{xs ys:Array Value}{Q:Value->Shared->Prop}(hl1:s.heap.IsList l1 xs)(hl2:s.heap.IsTuple l2 ys)
  (h:∀h',IsZip h' (s.heap.objs.size+4) (s.heap.objs.size+2) (s.heap.objs.size+3) .none->IsPair h' (s.heap.objs.size+2) (.ref s.heap.objs.size) (.ref (s.heap.objs.size+1)) ->
   IsPair h' (s.heap.objs.size+3) .none .none->h'.IsListIter s.heap.objs.size l1 0->h'.IsTupleIter (s.heap.objs.size+1) l2 0->h'.objs.size=s.heap.objs.size+5 ->
   (∀c o,s.heap.get? c=some o->h'.get? c=some o)->Q (.ref (s.heap.objs.size+4)) { s with heap:=h' }) :
  wpAny (model prog w) A (call (.type "zip") [.ref l1,.ref l2]) Q E s:=by
 refine callType_new F.called_zip (by decide) (F.typeCall_zip_2 _ _) (F.newCall_zip_2 _ _) (λobj=>F.args_object_init_3 obj _ _) F.entry_zip_new
  (pO l1 l2 xs ys) ⟨hl1,hl2,?_⟩
 have z1:(Ae s.heap l1).objs.size=s.heap.objs.size+1:=Heap.size_push ..
 have z2:(zR s.heap l1 l2).objs.size=s.heap.objs.size+2:=by rw[Heap.size_push,z1]
 have z3:(zQ s.heap l1 l2).objs.size=s.heap.objs.size+3:=by rw[Heap.size_push,z2]
 have z4:(Ah s.heap l1 l2).objs.size=s.heap.objs.size+4:=by rw[Heap.size_push,z3]
 have z5:(pQ s.heap l1 l2).objs.size=s.heap.objs.size+5:=by rw[Heap.size_push,z4]
 have g5:(pQ s.heap l1 l2).get? (Ah s.heap l1 l2).objs.size=some _:=Heap.get?_push_size _ rfl
 have g4:(pQ s.heap l1 l2).get? (zQ s.heap l1 l2).objs.size=some _:=Heap.get?_push_of_some _ (Heap.get?_push_size _ rfl)
 have g3:(pQ s.heap l1 l2).get? (zR s.heap l1 l2).objs.size=some _:=Heap.get?_push_of_some _ (Heap.get?_push_of_some _ (Heap.get?_push_size _ rfl))
 have g2:(pQ s.heap l1 l2).get? (Ae s.heap l1).objs.size=some _:=Heap.get?_push_of_some _ (Heap.get?_push_of_some _ (Heap.get?_push_of_some _ (Heap.get?_push_size _ rfl)))
 have g1:(pQ s.heap l1 l2).get? s.heap.objs.size=some _:=Heap.get?_push_of_some _ (Heap.get?_push_of_some _ (Heap.get?_push_of_some _ (Heap.get?_push_of_some _ (Heap.get?_push_size _ rfl))))
 show _/\_
 rw[z2,z3,z4] at g5
 rw[z1,z2] at g3
 rw[z3] at g4
 rw[z1] at g2
 rw[z4]
 exact⟨⟨_,g5,rfl⟩,h _ g5 g3 g4 ⟨_,g1,rfl,rfl⟩ ⟨_,g2,rfl,rfl⟩ z5 λc o x =>
  Heap.get?_push_of_some _ (Heap.get?_push_of_some _ (Heap.get?_push_of_some _ (Heap.get?_push_of_some _ (Heap.get?_push_of_some _ x))))⟩
end
end PySem
namespace L2
open PySem PySem.Spec PyProof.Rows
def Je(K:PySem.W.Frag)(a b:Addr):It :=
 ⟨λi H=>∃xs ys x y,aY K H a xs/\fN K H b ys/\xs[i]?=some x/\ys[i]?=some y,
  λi H x H'=>∃p v u,H p=none/\x = .ref p/\H'=upd H p (.tup [v,u])/\(∀xs,aY K H a xs->xs[i]?=some v)/\∀ys,fN K H b ys->ys[i]?=some u,
  λi H=>∃xs ys,aY K H a xs/\fN K H b ys/\(xs.length<=i∨ys.length<=i)⟩
theorem A2{P:Program}{w:World}{K:PySem.W.Frag}{elts:List Expr}{x1}{pos:Pos}(a b z TI TO i1 i2:Addr)(D:ZipApart z TI TO i1 i2 a b) :
  Turn P w K (.Tuple elts x1 pos) (Je K a b) [z,TI,TO,i1,i2] z (λi h=>∃v u,IsZip h z TI TO .none/\IsPair h TI (.ref i1) (.ref i2)/\IsPair h TO v u/\h.IsListIter i1 a i/\h.IsTupleIter i2 b i) where
 mem:=by simp
 obj:=λi h st c hc=>by
  obtain⟨v,u,hz,hI,hO,h1,h2⟩:=st
  simp only[List.mem_cons,List.not_mem_nil,or_false] at hc
  rcases hc with e|e|e|e|e
  ·subst e;exact⟨_,hz,λv q=>by cases q⟩
  ·subst e;exact⟨_,hI,λv q=>by cases q⟩
  ·subst e;exact⟨_,hO,λv q=>by cases q⟩
  ·subst e;obtain⟨o,e,c,d⟩:=h1;exact⟨o,e,λv q=>by rw[d] at q;cases q⟩
  ·subst e;obtain⟨o,e,c,d⟩:=h2;exact⟨o,e,λv q=>by rw[d] at q;cases q⟩
 keep:=λi h h' st k=>by
  obtain⟨v,u,hz,hI,hO,h1,h2⟩:=st
  exact⟨v,u,k z (by simp) _ hz,k TI (by simp) _ hI,k TO (by simp) _ hO,h1.at λo q=>k i1 (by simp) o q,h2.at λo q=>k i2 (by simp) o q⟩
 item:=by
  intro X hP hw hK hc i pins s Z H E I hf st hg
  subst hP hw hK
  obtain⟨v0,u0,hz,hI,hO,h1,h2⟩:=st
  obtain⟨xs,ys,x,y,hq1,hq2,hx,hy⟩:=hg
  obtain⟨is,r1,p1,z1⟩:=I.list hq1
  obtain⟨js,r2,p2,z2⟩:=I.tuple hq2
  obtain⟨u,hu,ru⟩:=r1.get hx
  obtain⟨v,hv,rv⟩:=r2.get hy
  have fz:=hf z (by simp)
  have fI:=hf TI (by simp)
  have fO:=hf TO (by simp)
  have f1:=hf i1 (by simp)
  have f2:=hf i2 (by simp)
  refine nL D hz hI hO h1 h2 p1.isList p2 (x:=u) (y:=v) (by simpa using hu) (by simpa using hv) λg1 gz gO ga gb gT hsz hk=>?_
  refine⟨_,rfl,wpAny_letOwnedTupleGo_zip (s:={ s with heap:=g1 }) gz λg2 en sb=>?_⟩
  have lz:z≠s.heap.objs.size:=Nat.ne_of_lt (Heap.lt_size hz)
  have lI:TI≠s.heap.objs.size:=Nat.ne_of_lt (Heap.lt_size hI)
  have lO:TO≠s.heap.objs.size:=Nat.ne_of_lt (Heap.lt_size hO)
  have l1:i1≠s.heap.objs.size:=by obtain⟨o,q,_⟩:=h1;exact Nat.ne_of_lt (Heap.lt_size q)
  have l2:i2≠s.heap.objs.size:=by obtain⟨o,q,_⟩:=h2;exact Nat.ne_of_lt (Heap.lt_size q)
  have k2:∀c o,c∉[z,TI,TO,i1,i2]->s.heap.get? c=some o->g2.get? c=some o:=λc o n q=>by
   simp only[List.mem_cons,List.not_mem_nil,or_false,not_or] at n
   exact(sb.2 c n.1).trans (hk c o n.1 n.2.2.1 n.2.2.2.1 n.2.2.2.2 q)
  have fresh:=I.hok.fresh (Nat.le_refl s.heap.objs.size)
  have I1:Inv X pins Z (upd H s.heap.objs.size (.tup [x,y])) { s with heap:=g2 }:=by
   refine I.step (g':=s.gens) (d':=s.drawn) (t':=s.toks) (ch:=[z,TI,TO,i1,i2]) (λb hb=>?_) (λb o _ _ hc q _=>?_) (λb o _ _ hc q _=>?_) (λb o hc q n=>?_) (λb o hc q=>?_) (λb ys q=>?_) (λb o ys q=>?_) (λb ps q=>?_) (λm hm=>?_) (λb u' q=>?_) I.bare
   ·have f:=hf b hb
    exact⟨f.2.2.2.1,f.2.1,f.2.2.2.2.1,f.2.2.2.2.2⟩
   ·exact k2 b o hc q
   ·exact⟨o.slots,k2 b o hc q⟩
   ·rw[aj (Nat.ne_of_lt (Heap.lt_size q))];exact n
   ·exact⟨o,k2 b o hc q⟩
   ·rw[aj (ak q fresh)];exact q
   ·rw[aj (ak q fresh)];exact q
   ·exact⟨#[],by rw[aj (ak q fresh),q];simp⟩
   ·obtain⟨o,es,ep,ho,r⟩:=hm
    refine⟨o,es,ep,k2 _ o (λn=>?_) ho,r⟩
    exact(hf _ n).2.1 rfl
   ·by_cases hb:b=s.heap.objs.size
    ·subst hb
     rw[af] at q;cases q
     refine⟨by show 2<=sizeLine;decide,[u,v],.cons ru (.cons rv .nil),⟨_,(sb.2 _ (Ne.symm lz)).trans gT,rfl,_,rfl⟩⟩
    ·rw[aj hb] at q
     refine(I.hok b u' q).stay (λc v hc' r=>k2 c v (λn=>?_) r) (λc r=>by rw[aj (ak r fresh)];exact r) λc ys r=>by rw[aj (ak r fresh)];exact r
     have n0:=(hf c n).1
     rcases hc' with e|e
     ·rw[e] at n0;rw[n0] at q;cases q
     ·rw[n0] at e;cases e
  refine⟨.ref s.heap.objs.size,_,I1,rfl,⟨_,x,y,fresh,rfl,rfl,λzs hs=>by rw[I.ko hs hq1];exact hx,λzs hs=>by rw[I.Bo hs hq2];exact hy⟩,⟨u,v,en,?_,?_,?_,?_⟩,λc hc=>?_⟩
  ·exact(sb.2 TI D.TIz).trans (hk _ _ D.TIz D.TITO D.TIi1 D.TIi2 hI)
  ·exact(sb.2 TO D.TOz).trans gO
  ·obtain⟨o,q,r⟩:=ga
   exact⟨o,(sb.2 i1 D.i1z).trans q,r⟩
  ·obtain⟨o,q,r⟩:=gb
   exact⟨o,(sb.2 i2 D.i2z).trans q,r⟩
  ·have hb':=(hf c hc).1
   simp only[List.mem_cons,List.not_mem_nil,or_false] at hc
   rw[aj]
   ·exact hb'
   ·rcases hc with e|e|e|e|e <;> rw[e] <;> assumption
 done:=by
  intro X hP hw hK hc i pins s Z H E I hf st hg
  subst hP hw hK
  obtain⟨v0,u0,hz,hI,hO,h1,h2⟩:=st
  obtain⟨xs,ys,hq1,hq2,hx⟩:=hg
  obtain⟨is,r1,p1,z1⟩:=I.list hq1
  obtain⟨js,r2,p2,z2⟩:=I.tuple hq2
  have e1:=r1.length
  have e2:=r2.length
  refine oG (I.ok.hd hc) D hz hI hO h1 h2 p1.isList p2 (hx.imp (λh=>by simp;lia) λh=>by simp;lia) λh' eb=>⟨rfl,?_⟩
  refine I.z6 (t':=s.toks) (ch:=[z,TI,TO,i1,i2]) (λb o hb e=>?_) (λb hb=>(hf b hb).1) (λb hb=>(hf b hb).2.1) (λb hb=>(hf b hb).2.2.2.1) (λb hb=>(hf b hb).2.2.2.2.1) λb hb=>(hf b hb).2.2.2.2.2
  simp only[List.mem_cons,List.not_mem_nil,or_false,not_or] at hb
  exact eb b o hb.1 hb.2.2.1 hb.2.2.2.1 hb.2.2.2.2 e
 self:=λ_ _ _ _ _ st h=>by
  obtain⟨v,u,hz,hI,hO,h1,h2⟩:=st
  exact wpAny_pyIter_zip hz h
section
variable {X:Cx}
def Ua(K:PySem.W.Frag)(ta:TA):TI:=λZ H R=>ta Z H λvs H1=>∃a b xs ys,vs=[.ref a,.ref b]/\aY K H1 a xs/\fN K H1 b ys/\R (Je K a b) H1
theorem tK {a b:Expr} {ta:TA} {p pos tp:Pos} {elts:List Expr} {x1} (hg:Gl X "zip") (hm:X.mg "zip" = none) (ha:PA X [a,b] ta) (hs:autoParam (starEach [a,b] X.env=(false,eval a X.env)::starEach [b] X.env) L2.Y3._auto_1) (hs2:autoParam ((backTo pos (starEach [b] X.env)).any (·.1)=false) L2.Y3._auto_1) :
  PI X (.Tuple elts x1 tp) (.Call (.Name "zip" p) [a,b] [] pos) (Ua X.K ta):=by
 intro pins s Z H R I h
 refine Call_ (j7 I hg hm (show bootBuiltins "zip" = some (.type "zip") by decide +kernel) (PyProof.Rows.callWith_type1 (cL (ha pos pins s Z H _ I h) λus s1 hY=>?_) hs hs2))
 obtain⟨vs,H1,I1,r1,q1⟩:=hY
 obtain⟨l,m,xs,ys,rfl,hq1,hq2,q⟩:=q1
 obtain⟨u,v,rfl,ru,rv⟩:=r1.two
 cases ru
 cases rv
 obtain⟨is,_,p1,_⟩:=I1.list hq1
 obtain⟨js,_,p2,_⟩:=I1.tuple hq2
 refine uN p1.isList p2 λh' hz hI hO h1 h2 hsz hk=>?_
 refine wpAny_pyIter_zip (s:={ s1 with heap:=h' }) hz ?_
 have ll:l<s1.heap.objs.size:=by obtain⟨_,e,_⟩:=p1.isList;exact Heap.lt_size e
 have lm:m<s1.heap.objs.size:=by obtain⟨_,e,_⟩:=p2;exact Heap.lt_size e
 refine⟨s1.heap.objs.size+4,[s1.heap.objs.size+4,s1.heap.objs.size+2,s1.heap.objs.size+3,s1.heap.objs.size,s1.heap.objs.size+1],_,_,H1,rfl,I1.kept (t':=s1.toks) hk,A2 l m _ _ _ _ _ (tu ll lm),⟨_,_,hz,hI,hO,h1,h2⟩,λb hb=>?_,q⟩
 have hb':s1.heap.objs.size<=b:=by
  simp only[List.mem_cons,List.not_mem_nil,or_false] at hb
  rcases hb with e|e|e|e|e <;> rw[e]
  ·exact Nat.le_add_right _ _
  ·exact Nat.le_add_right _ _
  ·exact Nat.le_add_right _ _
  ·exact Nat.le_refl _
  ·exact Nat.le_add_right _ _
 exact I1.vU hb' (I1.hok.fresh hb')
end
end L2
namespace L2
open PySem PySem.Spec PyProof.Rows
def g2(K:PySem.W.Frag):TG:=Tt K 2 (Ed (kq 0) (Ed (kq 1) SX))
theorem Ll{K:PySem.W.Frag}{p:Addr}{x z:V}{Z ws:St}{H:Hp}{R:St->Hp->Prop}(hw:ws.length=2)(h:R [some x,some z] (upd H p (.tup [x,z]))) :
  g2 K (.ref p) (e9 [] Z++ws) (upd H p (.tup [x,z])) λZ2 H2=>∃ws:St,ws.length=2/\Z2=e9 [] Z++ws/\R Z2 H2:=by
 match ws,hw with
 | [_,_],_=>exact⟨p,[x,z],rfl,.of af,rfl,x,[z],rfl,z,[],rfl,rfl,[some x,some z],rfl,rfl,h⟩
theorem qS{n k i l:Nat}{R:Prop}(hi:i<n)(hj:i<k)(hl:l<=i+1)(r:R):∃m',m'<n-i/\m'=n-(i+1)/\i+1<=n/\i+1<=k/\l<=i+1/\R:=⟨n-(i+1),by lia,rfl,hi,hj,hl,r⟩
theorem A5{K:PySem.W.Frag}{a b:Addr}{xs zs:List V}{te:TE}{Z:St}{H:Hp}{Q:VK}(Pv:Nat->List V->Hp->Prop)(h0:Pv 0 [] H)(hn:xs.length<sizeLine)
  (hq:∀i ys H,Pv i ys H->aY K H a xs/\fN K H b zs)
  (hs:∀i x z ys H p,xs[i]?=some x->zs[i]?=some z->H p=none->ys.length<=i->Pv i ys H->te [some x,some z] (upd H p (.tup [x,z])) λy H2=>∃m',m'<xs.length-i/\m'=xs.length-(i+1)/\i+1<=xs.length/\i+1<=zs.length/\(ys++[y]).length<=i+1/\Pv (i+1) (ys++[y]) H2)
  (hd:∀i ys H,(i=xs.length∨i=zs.length)->Pv i ys H->∀D,H D=none->Q (.ref D) (upd H D (.lst ys))):yL (Je K a b) 2 [] (g2 K) te Z H Q:=by
 refine⟨λi m ys H=>m=xs.length-i/\i<=xs.length/\i<=zs.length/\ys.length<=i/\Pv i ys H,⟨xs.length,by simp,Nat.zero_le _,Nat.zero_le _,Nat.zero_le _,h0⟩,?_⟩
 rintro i m ys H ⟨rfl,hi,hj,hl,p⟩
 obtain⟨q1,q2⟩:=hq i ys H p
 by_cases h1:i<xs.length
 ·by_cases h2:i<zs.length
  ·refine .inr ⟨⟨xs,zs,xs[i],zs[i],q1,q2,by simp[h1],by simp[h2]⟩,by lia,λx H' y ws hw=>?_⟩
   obtain⟨pp,v,u,e1,rfl,rfl,e2,e3⟩:=y
   exact Ll hw (hs i v u ys H pp (e2 xs q1) (e3 zs q2) e1 hl p)
  ·exact .inl ⟨⟨xs,zs,q1,q2,.inr (by lia)⟩,hd i ys H (.inr (by lia)) p⟩
 ·exact .inl ⟨⟨xs,zs,q1,q2,.inl (by lia)⟩,hd i ys H (.inl (by lia)) p⟩
theorem oz{K:PySem.W.Frag}{a b:Addr}{xs zs:List V}{tt:TT}{te:TE}{Z:St}{H:Hp}{Q:VK}(Pv:Nat->List V->Hp->Prop)(h0:Pv 0 [] H)(hn:xs.length<sizeLine)
  (hq:∀i ys H,Pv i ys H->aY K H a xs/\fN K H b zs)
  (hs:∀i x z ys H p,xs[i]?=some x->zs[i]?=some z->H p=none->ys.length<=i->Pv i ys H->tt [some x,some z] (upd H p (.tup [x,z])) λc H1=>if c=true then te [some x,some z] H1 λy H2=>∃m',m'<xs.length-i/\m'=xs.length-(i+1)/\i+1<=xs.length/\i+1<=zs.length/\(ys++[y]).length<=i+1/\Pv (i+1) (ys++[y]) H2
   else ∃m',m'<xs.length-i/\m'=xs.length-(i+1)/\i+1<=xs.length/\i+1<=zs.length/\ys.length<=i+1/\Pv (i+1) ys H1)
  (hd:∀i ys H,(i=xs.length∨i=zs.length)->Pv i ys H->∀D,H D=none->Q (.ref D) (upd H D (.lst ys))):vn (Je K a b) 2 [] (g2 K) tt te Z H Q:=by
 refine⟨λi m ys H=>m=xs.length-i/\i<=xs.length/\i<=zs.length/\ys.length<=i/\Pv i ys H,⟨xs.length,by simp,Nat.zero_le _,Nat.zero_le _,Nat.zero_le _,h0⟩,?_⟩
 rintro i m ys H ⟨rfl,hi,hj,hl,p⟩
 obtain⟨q1,q2⟩:=hq i ys H p
 by_cases h1:i<xs.length
 ·by_cases h2:i<zs.length
  ·refine .inr ⟨⟨xs,zs,xs[i],zs[i],q1,q2,by simp[h1],by simp[h2]⟩,by lia,λx H' y ws hw=>?_⟩
   obtain⟨pp,v,u,e1,rfl,rfl,e2,e3⟩:=y
   exact Ll hw (hs i v u ys H pp (e2 xs q1) (e3 zs q2) e1 hl p)
  ·exact .inl ⟨⟨xs,zs,q1,q2,.inr (by lia)⟩,hd i ys H (.inr (by lia)) p⟩
 ·exact .inl ⟨⟨xs,zs,q1,q2,.inl (by lia)⟩,hd i ys H (.inl (by lia)) p⟩
theorem FN{X:Cx}{e:Expr}:PE X e (λ_ _ _=>False):=λ_ _ _ _ _ _ h=>h.elim
theorem g6:entryFor table "dict_itemiterator.__iter__" = some Builtin.«dict_keyiterator.__iter__» :=
 entryFor_alias (id':="dict_keyiterator.__iter__") (by kernel_rfl) (by first | rfl | decide +kernel | (unfold String.splitOn;simp +decide [String.splitOnAux])) (by decide +kernel) (by kernel_rfl)
def UI(a:Addr)(o:Obj):It:=⟨λ_ _=>False,λ_ _ _ _=>False,λi H=>H a=some (.jU o (.dK []))⟩
theorem vg{P:Program}{w:World}{K:PySem.W.Frag}{tg:Expr}{es:Array DictEntry}{ep:Nat}(a it:Addr)(o:Obj)(hd:o.data = .dict es ep):Turn P w K tg (UI a o) [it] it (λ_ h=>IsItemIter h it a 0 0 ep .none .none) where
 mem:=by simp
 obj:=λi h st b hb=>by
  have e:b=it:=by simpa using hb
  subst e
  exact⟨_,st,λv z=>by cases z⟩
 keep:=λi h h' st k=>k it (by simp) _ st
 item:=λ_ _ _ _ _ _ _ _ _ _ _ _ _ _ hg=>hg.elim
 done:=by
  intro X hP hw hK hc i pins s Z H E I hf st hg
  subst hP hw hK
  obtain⟨ho,z,hs,vs,rel,dd⟩:=(show cH X.prog X.w H s.heap a (.jU o (.dK [])) from I.hok a _ hg)
  obtain⟨f0,f1,f2,f3,f4,f5⟩:=hf it (by simp)
  have hl:vs=[]:=List.length_eq_zero_iff.mp rel.length.symm
  subst hl
  have da:s.heap.DictAt (bL X.prog X.w) a [] ep:=by
   obtain⟨o',es',ep',e',c',d',r'⟩:=dd
   rw[ho] at e'
   cases e'
   rw[hd] at d'
   cases d'
   exact⟨o,es,ho,c',hd,r'⟩
  exact wpAny_pyNext_items_end (I.ok.hd hc) st da rfl λh' eb=>⟨rfl,I.turned (t':=s.toks) (λb o hb e=>eb b o hb e) f0 f1 f3 f4 f5⟩
 self:=λA i s Q E st h=>by
  have hT:s.TypeIs (.ref it) "dict_itemiterator" := ⟨_,st,rfl⟩
  refine wpAny_pyIter_slot hT F.slot_dict_itemiterator_iter (wpAny_call_entry F.slot_dict_itemiterator_iter hT g6 ?_ (F.args_dict_itemiterator_iter_1 _))
  show wpAny _ _ (ret (.ref it)) _ _ s
  exact wpAny_pure ⟨_,rfl,"dict_itemiterator",_,hT,F.slot_dict_itemiterator_next.lookup,h⟩
section
variable {X:Cx}{tg:Expr}
def Ic(H0:Hp)(tl:TE):TI:=λZ H R=>tl Z H λx H1=>∃a,x = .ref a/\H1 a=some (.dK [])/\∀o,vK H0 a->R (UI a o) (upd H1 a (.jU o (.dK [])))
theorem AL {o:Expr} {tl:TE} {apos cpos:Pos} (hl:PE X o tl) (hbase:autoParam (attributeBase o "items" X.env (eval o X.env)=eval o X.env) L2.Y3._auto_1) (hline:autoParam ((apos.endLine == cpos.line)=true) L2.Y3._auto_1) :
  PI X tg (.Call (.Attribute o "items" apos) [] [] cpos) (Ic X.H₀ tl):=by
 intro pins s Z H R I h
 refine wpAny_Call_method0_late hbase hline (cL (hl pins s Z H _ I h) λv s1  hZ=>?_)
 obtain⟨x,H1,I1,r1,a,e,hq,q⟩:=hZ
 subst e
 cases r1
 obtain⟨z,hs,vs,rel,dd⟩:=AB I1.hok hq
 have hv:vs=[]:=List.length_eq_zero_iff.mp rel.length.symm
 subst hv
 refine⟨"dict","dict.items",F.plainAttrs_dict,F.slot_dict_items,F.type_dict_items,dd.typeIs,wj I1 (.k hq (k:=Sum.inl 0)),Calls.callWith_builtin rfl (PySem.evalArgs_none ?_)⟩
 refine call_meetsIn F.slot_dict_items dd.typeIs F.entry_dict_items (F.args_dict_items_1 _) (meets_dict_items (bL X.prog X.w) a hs) ⟨⟨_,dd⟩,?_⟩
 obtain⟨o,es,ep,eo,c,d,r⟩:=dd
 have hk:∀(ob:Obj) b u,s1.heap.get? b=some u->(s1.heap.push ob).get? b=some u:=λob b u e=>Heap.get?_push_of_some _ e
 have I2:=(I1.freeze hq eo).kept (t':=s1.toks) (hk { cls:=.type "dict_items",data:=.fields #[.ref a] })
 refine wpAny_pyIter_items (s:={ s1 with heap:=s1.heap.push { cls:=.type "dict_items",data:=.fields #[.ref a] } }) (knd:=bL X.prog X.w) (kvs:=[]) ⟨_,Heap.get?_push_size _ rfl,rfl,rfl⟩ ⟨o,es,hk _ _ _ eo,c,d,r⟩ ?_
 refine⟨_,[_],_,_,_,rfl,I2.kept (t':=s1.toks) λb u e=>Heap.get?_push_of_some _ e,vg a _ o d,Heap.get?_push_size _ rfl,λb hb=>?_,q o (I1.LR hq)⟩
 have e:=List.mem_singleton.mp hb
 subst e
 exact I2.vU (Nat.le_refl _) (I2.hok.fresh (Nat.le_refl _))
theorem tH{a:Addr}{o:Obj}{n:Nat}{g:TG}{te:TE}{Z:St}{H:Hp}{Q:VK}(h:H a=some (.jU o (.dK [])))(hd:∀D,H D=none->Q (.ref D) (upd H D (.lst []))):yL (UI a o) n [] g te Z H Q :=
 ⟨λ_ _ ys H'=>ys=[]/\H'=H,⟨0,rfl,rfl⟩,λi m ys H' hw=>by obtain⟨rfl,rfl⟩:=hw;exact .inl ⟨h,hd⟩⟩
end
end L2
namespace L2
open PySem PySem.Spec PyProof.Rows
section
variable {X:Cx}
theorem zh{sc csc:Scope}{N:List Str}{elt iter c:Expr}{x:Str}{px pos ppos:Pos}{caps:List (Str×Nat)}{wi:TI}{te:TE}{tt:TT}(ck:pW sc csc N x caps)(hi:PI X (.Name x px) iter wi)
  (ht:∀C s2 H2 fp,PT (bh X (caps.map (·.1)++[x]) csc C s2 H2 fp) c tt) (he:∀C s2 H2 fp,PE (bh X (caps.map (·.1)++[x]) csc C s2 H2 fp) elt te) (hc:X.calm=true) (hsc:X.env.scope=sc) (hXN:X.N=N) (hs:∀x,foldedSetIterable iter X.env x=pure x)
  {pins:List (Addr×Obj)} {s:Shared} {Z:St} {H:Hp} {Q:VK} (I:Inv X pins Z H s) (h:tY caps wi tt te Z H Q) (use:Option (Value->Sem Unit)) (QQ:Value->Shared->Prop)
  (fin:∀(s2:Shared) (H2:Hp) (D C:Addr) (ys:List V) (H':Hp) (s4:Shared) (m:Str->Option Value),Inv X pins Z H2 s2->s2.heap.objs.size<=C->s2.heap.objs.size<=D->D≠C->s4.heap.Ns C m ->
   (∀h',Heap.SameBut C s4.heap h'->Inv X pins Z (upd H' D (.lst ys)) { s4 with heap:=h' })->H' C=none->Q (.ref D) (upd H' D (.lst ys)) ->
   compPost (model X.prog X.w) X.A X.xe use QQ (.ref D) C (.ok .next) s4) :
  wpAny (model X.prog X.w) X.A (comprehension (.ListComp elt [⟨.Name x px,iter,[c],0⟩] csc pos) csc X.env ppos (newList []) false (eval iter X.env) use) QQ X.xe s:=by
 subst hsc hXN
 have cellsOk:∀p∈csc.names,p.2 = .free->∃c,X.env.cells.lookup p.1=some c:=λp hp e=>I.ok.has p.1 (.inl (ck.free p hp e))
 refine wpAny_comprehension_free (use:=use) rfl hs (fE cellsOk) ck.kind ck.loc (cL (hi pins s Z H _ I h) λv s1 h1=>cL h1 λitv s2 h2=>?_)
 obtain⟨it,fp,tn,J,H2,e,I2,T,st2,f2,W,⟨m0,w0⟩,turn⟩:=h2
 subst e
 refine wpAny_newObj_type (wpAny_newFunctionEnv ck.cell (by intro y hy;simp at hy) (λh4 hns4 hsb4=>?_) ck.kind)
 dsimp only at hns4 hsb4 ⊢
 generalize hD:s2.heap.objs.size=D at hns4 hsb4 ⊢
 generalize hH2:s2.heap.push { cls:=.type "list",dict:=none,data:=.seq ([]:List Value).toArray }=G at hns4 hsb4 ⊢
 have hGs:G.objs.size=D+1:=by rw[← hH2,Heap.size_push,hD]
 rw[hGs] at hns4 hsb4 ⊢
 have lt2:∀b o,s2.heap.get? b=some o->b<D:=λb o e=>hD ▸ Heap.lt_size e
 have old:∀b o,s2.heap.get? b=some o->b≠D+1/\b≠D:=λb o e=>⟨rJ (lt2 b o e),sL (lt2 b o e)⟩
 have leD:s2.heap.objs.size<=D:=Nat.le_of_eq hD
 have leD1:s2.heap.objs.size<=D+1:=Nat.le_succ_of_le leD
 have keep4:∀b o,s2.heap.get? b=some o->h4.get? b=some o:=λb o e=>hsb4.extBut b o (old b o e).1 (Heap.get?_push_of_some _ (hH2 ▸ Heap.get?_push_of_some _ e))
 have hDo:h4.get? D=some { cls:=.type "list",data:=.seq ([]:List Value).toArray 0 }:=by
  refine hsb4.extBut D _ q9 (Heap.get?_push_of_some _ ?_)
  rw[← hH2,← hD]
  exact Heap.get?_push_size _ rfl
 have fps:∀b∈fp,b<s2.heap.objs.size:=λb hb=>by
  obtain⟨o,e,_⟩:=T.obj _ _ st2 b hb
  exact Heap.lt_size e
 have I4:∀t4,Inv (bh X (caps.map (·.1)++[x]) csc (D+1) s2 H2 fp) [] (e9 caps Z++[none]) H2 { s2 with heap:=h4,toks:=t4 }:=λt4=>lE (m0:=λx=>[].reverse.lookup x) I2 ck f2 fps leD1 keep4 hns4
 have cellsLt:∀y c,(dj X.env csc.names []).lookup y=some c->c<D:=λy c e=>by
  obtain⟨v,o,ho,_⟩:=I2.cell y c (c6 _ _ cellsOk (λy c h=>by simp at h) y c e)
  exact lt2 c o ho
 have fsLt:∀b∈frs X.stack,b<D:=λb hb=>by
  obtain⟨_,o,ho,_⟩:=I2.stack.mem hb
  exact lt2 b o ho
 have fpC:∀{pl:List (Addr×Obj)} {H':Hp},(∀p∈pl,p.1=D)->(∀b∈fp,H' b=none)->∀b∈fp,mP (bh X (caps.map (·.1)++[x]) csc (D+1) s2 H2 fp) pl H' b:=λ{pl H'} hpl hn b hb=>by
  have hb':b<D:=hD ▸ fps b hb
  refine⟨hn b hb,rJ hb',?_,.inl hb,λy c e=>?_,λp hp=>?_⟩
  ·intro z
   rcases List.mem_cons.mp (I2.jz b z) with e|e
   ·exact(f2 b hb).2.1 e
   ·exact(f2 b hb).2.2.1 e
  ·exact(f2 b hb).2.2.2.2.1 y c (c6 _ _ cellsOk (λy c h=>by simp at h) y c e)
  ·have:p.1=D:=hpl p (by simpa using hp)
   rw[this];exact λz=>sL hb' z.symm
 have loop:∀t4,codeAny (model X.prog X.w) X.A (.compLoop (.ListComp elt [⟨.Name x px,iter,[c],0⟩] csc pos) 0 (.ref it) (.ref D) (compEnvC csc (dj X.env csc.names []) (D+1) X.env))
   (compPost (model X.prog X.w) X.A X.xe use QQ (.ref D) (D+1)) { s2 with heap:=h4,toks:=t4 }:=by
  intro t4
  refine i6 (λn s'=>∃(i:Nat) (ys:List V) (its:List Value) (k:Nat) (Z':St) (H':Hp),Inv (bh X (caps.map (·.1)++[x]) csc (D+1) s2 H2 fp) [(D,{ cls:=.type "list",data:=.seq its.toArray k })] Z' H' s'/\tn i s'.heap/\(∀b∈fp,H' b=none)/\Vals ys its/\ys.length<=sizeLine/\W i n ys H'/\(∃z,Z'=e9 caps Z++[z])) ?_ m0 ?_
  ·rintro n s3 ⟨i,ys,its,k,Z3,H3,I3,st3,fr3,hv,hz,w3,z3,rfl⟩
   have pl1:∀p∈[((D,{ cls:=.type "list",data:=.seq its.toArray k }):Addr×Obj)],p.1=D:=λp hp=>by rw[List.mem_singleton.mp hp]
   rcases turn i n ys H3 w3 with ⟨stop,qn⟩|⟨go,hlt,step⟩
   ·refine wpAny_mono (T.done (bh X (caps.map (·.1)++[x]) csc (D+1) s2 H2 fp) rfl rfl rfl hc i _ s3 _ H3 (λ_ _=>False) I3 (fpC pl1 fr3) st3 stop) (λr s4 hY=>?_) λ_ _ f=>f.elim
    obtain⟨hr,I4'⟩:=hY
    subst hr
    obtain⟨m,hn,_⟩:=id I4'.loc
    have pD:=I4'.pin (D,{ cls:=.type "list",data:=.seq its.toArray k }) (by simp)
    exact fin s2 H2 D (D+1) ys H3 s4 m I2 leD1 leD q9 hn (λh' hs'=>jd I2 I4' f2 leD1 leD q9 hs' hv hz pD.1 pD.2.1) I4'.free (qn D pD.2.1)
   ·refine wpAny_mono (T.item (bh X (caps.map (·.1)++[x]) csc (D+1) s2 H2 fp) rfl rfl rfl hc i _ s3 _ H3 (λ_ _=>False) I3 (fpC pl1 fr3) st3 go) (λr s4 hY=>?_) λ_ _ f=>f.elim
    obtain⟨u,hr,h4'⟩:=hY
    subst hr
    refine wpAny_mono h4' (λ_ s4 hY=>?_) λ_ _ f=>f.elim
    obtain⟨xv,H5,I5,r5,y5,st5,fr5⟩:=hY
    have I5':=I5.pinned (fpC pl1 fr5) (T.obj _ _ st5)
    have hiN:(caps.map (·.1)++[x])[caps.length]?=some x:=by rw[List.getElem?_append_right (by simp)];simp
    refine wpAny_mono (eW (X:=bh X (caps.map (·.1)++[x]) csc (D+1) s2 H2 fp) (i:=caps.length) ck.nd hiN (.inl (lookup_relabel_local ck.tg)) (.inr (lookup_relabel_local ck.tg)) _ s4 _ H5 xv u _ I5' r5 (show kq caps.length xv _ H5 (λZ6 H6=>Z6=e9 caps Z++[some xv]/\H6=H5) from ⟨?_,rfl⟩)) (λ_ s6 ⟨Z6,H6,I6,hZ,hH⟩=>?_) λ_ _ f=>f.elim
    ·rw[List.set_append_right _ _ (by rw[dP];exact Nat.le_refl _),dP,Nat.sub_self];rfl
    subst hZ hH
    refine wpAny_mono (ht (D+1) s2 H2 fp _ s6 _ H6 _ I6 (step xv H6 y5)) (λok s6 hY=>?_) λ_ _ f=>f.elim
    obtain⟨H6,I6,q6⟩:=hY
    cases ok with
    |false =>
     rw[if_neg (by decide)] at q6 ⊢
     obtain⟨m',hm,w8⟩:=q6
     have pD:=I6.pin (D,{ cls:=.type "list",data:=.seq its.toArray k }) (by simp)
     refine⟨m',hm,i+1,ys,its,k,_,H6,I6.cC λp hp=>?_,T.keep _ _ _ st5 λb hb o e=>(I6.pin (b,o) (List.mem_append_right _ (List.mem_append_right _ (bQ hb e)))).1,λb hb=>?_,hv,hz,w8,_,rfl⟩
     ·rw[List.mem_singleton.mp hp];exact pD
     ·obtain⟨o,e,d⟩:=T.obj _ _ st5 b hb
      exact(I6.pin (b,o) (List.mem_append_right _ (List.mem_append_right _ (bQ hb e)))).2.1
    |true =>
    rw[if_pos rfl] at q6 ⊢
    refine wpAny_mono (he (D+1) s2 H2 fp _ s6 _ H6 _ I6 q6) (λw7 s7 hY=>?_) λ_ _ f=>f.elim
    obtain⟨y,H7,I7,r7,m',hm,w8⟩:=hY
    have pD:=I7.pin (D,{ cls:=.type "list",data:=.seq its.toArray k }) (by simp)
    have hll:=hv.length
    refine call_meets F.slot_list_append ⟨_,pD.1,rfl⟩ F.entry_list_append (F.args_list_append_2 _ _) (PySem.list_append D its.toArray k w7 (by rw[List.size_toArray];lia)) ⟨pD.1,?_⟩
    have q:=PySem.IsL.update pD.1 (·.push w7)
    have hpush:its.toArray.push w7=(its++[w7]).toArray:=by simp
    rw[hpush] at q
    obtain⟨k',q⟩:∃k',(s7.heap.update D (Obj.mapSeq (·.push w7))).get? D=some { cls:=.type "list",data:=.seq (its++[w7]).toArray k' }:=⟨_,q⟩
    have I7u:Inv (bh X (caps.map (·.1)++[x]) csc (D+1) s2 H2 fp) (gr fp s4.heap) _ H7 s7:=I7.cC λp hp=>I7.pin p (List.mem_append_right _ (List.mem_append_right _ hp))
    have pfp:∀p∈gr fp s4.heap,p.1<D:=λp hp=>hD ▸ fps p.1 (iy hp).1
    have I8:=I7u.turned (h':=s7.heap.update D (Obj.mapSeq (·.push w7))) (t':=s7.toks) (it:=D) (λb o hb e=>(Heap.get?_update_other s7.heap _ (Ne.symm hb)).trans e) pD.2.1 q9 (.inr leD) (λy c e=>sL (cellsLt y c e)) (λp hp=>sL (pfp p (by simpa using hp)))
    refine⟨m',hm,i+1,ys++[y],its++[w7],k',_,H7,I8.cC λp hp=>?_,T.keep _ _ _ st5 λb hb o e=>(I8.pin (b,o) (List.mem_append_right _ (bQ hb e))).1,λb hb=>?_,hv.append (.cons r7 .nil),?_,w8,_,rfl⟩
    ·rw[List.mem_singleton.mp hp]
     exact⟨q,pD.2.1,pD.2.2.1,pD.2.2.2.1,λv=>by simp⟩
    ·obtain⟨o,e,d⟩:=T.obj _ _ st5 b hb
     exact(I8.pin (b,o) (List.mem_append_right _ (bQ hb e))).2.1
    ·rw[List.length_append,List.length_singleton];lia
  ·refine⟨0,[],[],0,_,H2,(I4 t4).cC λp hp=>?_,T.keep _ _ _ st2 λb hb o e=>keep4 b o e,λb hb=>(f2 b hb).1,.nil,Nat.zero_le _,w0,_,rfl⟩
   rw[List.mem_singleton.mp hp]
   refine⟨hDo,I2.hok.fresh leD,q9,λz=>absurd (fsLt D z) (Nat.lt_irrefl _),λv=>by simp⟩
 exact codeAny_compStart_list (loop _) (T.self _ 0 _ _ _ (T.keep _ _ _ st2 λb hb o e=>keep4 b o e) (loop _))
theorem AO{i:Nat}{y:Str}{sc csc:Scope}{N:List Str}{elt iter c:Expr}{x:Str}{px pos pos' spos:Pos}{caps:List (Str×Nat)}{wi:TI}{te:TE}{tt:TT}(hN:X.N.Nodup)(hiy:X.N[i]?=some y)(hy:Loc X.env.scope y)(ck:pW sc csc N x caps)(hi:PI X (.Name x px) iter wi)
  (ht:∀C s2 H2 fp,PT (bh X (caps.map (·.1)++[x]) csc C s2 H2 fp) c tt) (he:∀C s2 H2 fp,PE (bh X (caps.map (·.1)++[x]) csc C s2 H2 fp) elt te) (hc:autoParam (X.calm=true) L2.Y3._auto_1) (hsc:autoParam (X.env.scope=sc) L2.Y3._auto_1) (hXN:autoParam (X.N=N) L2.Y3._auto_1) (hs:autoParam (∀x,foldedSetIterable iter X.env x=pure x) L2.Y2._auto_1)
  (hsw:autoParam (swapsWith (.ListComp elt [⟨.Name x px,iter,[c],0⟩] csc pos) (some (.Name y pos')) spos.line X.env=pure true) L2.Y3._auto_1) (hf:autoParam (X.fn y=true∨X.env.scope.names.lookup y=some .local) L2.Y0._auto_1) :
  PS X (.Assign [.Name y pos'] (.ListComp elt [⟨.Name x px,iter,[c],0⟩] csc pos) spos) (DO (tY caps wi tt te) (kq i)):=by
 intro pins s Z H D I h
 rw[exec_Assign_Name_used _ _ _ _ hsw]
 refine wpAny_bind (wpAny_standAt (wpAny_bind ?_))
 show wpAny _ X.A (do let _ ← comprehension (.ListComp elt [⟨.Name x px,iter,[c],0⟩] csc pos) csc X.env _ (newList []) false (eval iter X.env) (some (assign (.Name y pos') X.env))) _ _ s
 refine wpAny_bind (wpAny_mono (zh ck hi ht he hc hsc hXN hs I h (some (assign (.Name y pos') X.env)) (λ_ s'=>SP X pins D .next s') ?_) (λ_ s' hq=>wpAny_pure (wpAny_pure hq)) λ_ _ e=>e)
 intro s2 H2 Dl C ys H' s4 m I2 leC leD nDC hns hI hfC q
 have I0:Inv X pins Z (upd H' Dl (.lst ys)) s4:=hI s4.heap (Heap.SameBut.refl _ _)
 have hCD:C≠Dl:=Ne.symm nDC
 have hHC:upd H' Dl (.lst ys) C=none:=by rw[aj hCD];exact hfC
 have hCL:C≠X.env.locals:=λz=>by have:=I2.lt;rw[← z] at this;exact absurd this (Nat.not_lt.mpr leC)
 have hCfs:C∉X.fs:=I2.Ub leC
 have pinlt:∀p∈X.pn++pins,p.1≠C:=λp hp z=>by
  have:=(I2.pin p hp).1
  have:=Heap.lt_size this
  rw[z] at this
  exact absurd this (Nat.not_lt.mpr leC)
 have celllt:∀z cc,X.env.cells.lookup z=some cc->cc≠C:=λz cc e w=>by
  obtain⟨v,o,ho,_⟩:=I2.cell z cc e
  have:=Heap.lt_size ho
  rw[w] at this
  exact absurd this (Nat.not_lt.mpr leC)
 obtain⟨oC,es,ep,eC,dC,rC⟩:=id hns
 have I1:Inv X (pins++[(C,oC)]) Z (upd H' Dl (.lst ys)) s4:=I0.cC λp hp=>by
  rcases List.mem_append.mp hp with hp|hp
  ·exact I0.pin p (List.mem_append_right _ hp)
  ·rw[List.mem_singleton.mp hp]
   exact⟨eC,hHC,hCL,hCfs,λv z=>by rw[dC] at z;cases z⟩
 refine cL (eW (i:=i) (pos:=pos') hN hiy hy hf (pins++[(C,oC)]) s4 Z _ (.ref Dl) (.ref Dl) D.nx I1 rfl q) λ_ s5  hZ=>?_
 obtain⟨Z5,H5,I5,q5⟩:=hZ
 have pC:=I5.pin (C,oC) (by simp)
 refine⟨m,⟨oC,es,ep,pC.1,dC,rC⟩,λh' hs'=>?_⟩
 have I6:Inv X pins Z5 H5 s5:=I5.cC λp hp=>I5.pin p (List.mem_append_right _ (List.mem_append_left _ hp))
 exact⟨Z5,H5,I6.turned (h':=h') (t':=s5.toks) (it:=C) (λb o hb e=>(hs'.2 b hb).trans e) pC.2.1 hCL (.inr (Nat.le_trans I2.sz leC)) celllt pinlt,q5⟩
end
end L2
namespace L2
open PySem PySem.Spec PyProof.Rows
section
variable {X:Cx}{a b o e:Expr}{ta tb to te:TE}{apos cpos pos p1 p2 p3 p4 p5:Pos}{j1 j2 j3:Nat}
def Ul(X:Cx)(e:Expr)(t:TE):Prop :=
 ∀(pins:List (Addr×Obj)) (s:Shared) (Z:St) (H:Hp) (Q:VK),Inv X pins Z H s->t Z H Q->wpAny (model X.prog X.w) X.A (eval e X.env) (λu s'=>1<=s'.toks/\EP X pins Z Q u s') X.xe s
theorem BD{r:V->Option Int->Option Int->Hp->VK->Prop}{k:Int}{hi:Option Expr}{th:TO}(hr:Uo X r)(he:PE X e te)(hu:PO X hi th):Ul X (.Subscript e (.Slice (some (.Constant (.int k) j3 p4)) hi none p2) pos) (UR r te (BW (tC (.int k))) th):=by
 intro pins s Z H Q I h
 refine Subscript_ (cL (he pins s Z H _ I h) λv s1  hZ=>?_)
 obtain⟨x,H1,I1,r1,q1⟩:=hZ
 refine wpAny_Slice ?_
 rw[evalPart_some]
 refine wpAny_Constant_int ?_
 have I2:Inv X pins Z H1 { s1 with toks:=s1.toks+1 }:=I1.tok _
 obtain⟨i,hi,q2⟩:=q1
 cases hi
 refine Bm (wpAny_toks_of (n:=1) (show 1<=s1.toks+1 by lia) (hu pins _ Z H1 _ I2 q2)) (λvu s3 hY=>?_) λ_ _ q=>q.2
 obtain⟨hk,u,H3,I3,pu,q3⟩:=hY
 rw[evalPart_none]
 refine wpAny_pure ?_
 have I4:Inv X pins Z H3 { s3 with heap:=s3.heap.push { cls:=.type "slice",data:=.fields #[.int k s1.toks,vu,.none] } }:=I3.kept (t':=s3.toks) λb ob q=>Heap.get?_push_of_some _ q
 obtain⟨T,id,hT,ht,hg⟩:=hr pins { s3 with heap:=s3.heap.push { cls:=.type "slice",data:=.fields #[.int k s1.toks,vu,.none] } } Z H3 x v (.int k s1.toks) vu (some k) u s3.heap.objs.size Q I4 r1 (Heap.IsSliceOf.new ..) (.int k _) pu q3
 have fin:=tail_any (value:=e) (slice:=.Slice (some (.Constant (.int k) j3 p4)) hi none p2) (ops:=[.ref s3.heap.objs.size,v]) ht hT hg (by with_unfolding_all rfl)
 exact Bm (wpAny_toks_of (n:=1) hk fin) (λ_ _ q=>q) λ_ _ q=>q.2
theorem PF{op:Operator}{r:R2}(ho:m6 X (binaryOp op) r)(ha:Ul X a ta)(hb:PE X b tb):Ul X (.BinOp a op b pos) (O8 r ta tb):=by
 intro pins s Z H Q I h
 refine wpAny_BinOp (cL (ha pins s Z H _ I h) λv s1  hZ=>?_)
 obtain⟨hk,x,H1,I1,r1,q1⟩:=hZ
 refine Bm (wpAny_toks_of (n:=1) hk (hb pins s1 Z H1 _ I1 q1)) (λu s2 hY=>?_) λ_ _ q=>q.2
 obtain⟨hk2,y,H2,I2,r2,q2⟩:=hY
 exact Bm (wpAny_toks_of (n:=1) hk2 (ho pins s2 Z H2 x y v u Q I2 r1 r2 q2)) (λ_ _ q=>q) λ_ _ q=>q.2
theorem Fb {y z:Str} (hyz:(y == z)=false) (ho:Ul X o to) (hbase:autoParam (attributeBase o "replace" X.env (eval o X.env)=eval o X.env) L2.Y3._auto_1) (hline:autoParam ((apos.endLine == cpos.line)=true) L2.Y3._auto_1) :
  PE X (.Call (.Attribute o "replace" apos) [.Constant (.str y) j1 p1,.Constant (.str z) j2 p2] [] cpos) (λZ H Q=>to Z H λx H1=>vE y z x H1 Q):=by
 intro pins s Z H Q I h
 exact nO hyz I (ho pins s Z H _ I h) hbase hline
end
end L2
namespace L2
open PySem PySem.Spec PyProof.Rows
section
variable {X:Cx}{a b:PySem.Expr}{ta tb:TE}{pos:Pos}{rest:List PySem.Expr}
end
end L2
namespace L2
open PySem
theorem fU.m{j k:Nat}{A:Around}(r:fU k A)(h:autoParam (j<=k) L2.Y1._auto_1):fU j A:=r.mono h
theorem dW{X:Cx}(i:Nat){x:Str}{e:Expr}{te:TE}{pos' pos:Pos}{P:List Str}{sc:Scope}(S:aA X.N P sc)(he:PE X e te)(hi:autoParam (X.N[i]?=some x) L2.Y3._auto_1)(hx:autoParam (Loc X.env.scope x) L2.Y4._auto_1)(hs:autoParam (swapsWith e (some (.Name x pos')) pos.line X.env=pure false) L2.Y3._auto_1)(hf:autoParam (X.fn x=true∨X.env.scope.names.lookup x=some .local) L2.Y0._auto_1):PS X (.Assign [.Name x pos'] e pos) (DO te (kq i)):=yJ S.nd hi hx he hs hf
theorem oJ{X:Cx}(i:Nat){x:Str}{pos:Pos}{P:List Str}{sc:Scope}(S:aA X.N P sc)(hi:autoParam (X.N[i]?=some x) L2.Y3._auto_1)(hx:autoParam (Loc X.env.scope x) L2.Y4._auto_1)(hf:autoParam (X.fn x=true∨X.env.scope.names.lookup x=some .local) L2.Y0._auto_1):PG X (.Name x pos) (kq i):=eW S.nd hi hx hf
end L2
namespace K82
open PySem L2
set_option hygiene false
local macro_rules | `(tactic| walk_at "i")=>`(tactic| (intro vs H Q E h;repeat (first | (obtain ⟨rfl,_⟩:=h;exact rfl) | (obtain ⟨_,h⟩:=h)));(intro cdv A outer s H vs Q E hr h;refine oV ?_))
local macro_rules | `(tactic| walk_at "0")=>`(tactic| (intro _ _ _ _ _ _ us hl;obtain rfl:=ls0 hl;rfl))
local macro_rules | `(tactic| walk_at "1")=>`(tactic| (intro _ _ _ _ _ _ us hl;obtain ⟨_,rfl⟩:=ls1 hl;rfl))
local macro_rules | `(tactic| walk_at "2")=>`(tactic| (intro _ _ _ _ _ _ us hl;obtain ⟨_,_,rfl⟩:=Ku hl;rfl))
local macro_rules | `(tactic| walk_at "3")=>`(tactic| (intro _ _ _ _ _ _ us hl;obtain ⟨_,_,_,rfl⟩:=ls3 hl;rfl))
local macro_rules | `(tactic| walk_at "4")=>`(tactic| (intro _ _ _ _ _ _ us hl;obtain ⟨_,_,_,_,rfl⟩:=ls4 hl;rfl))
local macro_rules | `(tactic| walk_at "5")=>`(tactic| (intro _ _ _ _ _ _ us hl;obtain ⟨_,_,_,_,_,rfl⟩:=ls5 hl;rfl))
local macro_rules | `(tactic| walk_at "6")=>`(tactic| (intro _ _ _ _ _ _ us hl;obtain ⟨_,_,_,_,_,_,rfl⟩:=ls6 hl;rfl))
local macro_rules | `(tactic| left)=>`(tactic| walk_at "u")
local macro_rules | `(tactic| walk_at "sc")=>`(tactic| exact ⟨rfl,rfl,rfl,by decide +kernel,rfl,by decide +kernel,by decide +kernel⟩)
noncomputable def top(i:Nat):Stmt:=PySem.Challenge.pw_tintrow_k82_hidden_rules_at_a_desk.main.body.getD i (.Pass ⟨0,0,0,0⟩)
noncomputable abbrev KU:Stmt:=inClass (top 10) 1
theorem Qo:aA ["self"] ["self"] (aq KU):=by walk_at "sc"
noncomputable abbrev LG:Stmt:=inClass (top 11) 0
theorem NP:aA ["self","text"] ["self","text"] (aq LG):=by walk_at "sc"
noncomputable abbrev KY:Stmt:=inClass (top 11) 1
theorem Qg:aA ["self","row","at"] ["self","row","at"] (aq KY):=by walk_at "sc"
noncomputable abbrev MJ:Stmt:=inClass (top 11) 2
theorem NL:aA ["self"] ["self"] (aq MJ):=by walk_at "sc"
noncomputable abbrev LN:Stmt:=inClass (top 12) 0
theorem Po:aA ["self","signs"] ["self","signs"] (aq LN):=by walk_at "sc"
noncomputable abbrev MN:Stmt:=inClass (top 12) 1
theorem Nh:aA ["self","row","at"] ["self","row","at"] (aq MN):=by walk_at "sc"
noncomputable abbrev LM:Stmt:=inClass (top 12) 2
theorem Qf:aA ["self"] ["self"] (aq LM):=by walk_at "sc"
noncomputable abbrev JX:Stmt:=inClass (top 13) 0
theorem Nj:aA ["self","signs"] ["self","signs"] (aq JX):=by walk_at "sc"
noncomputable abbrev J5:Stmt:=inClass (top 13) 1
theorem NB:aA ["self","row","at"] ["self","row","at"] (aq J5):=by walk_at "sc"
noncomputable abbrev LP:Stmt:=inClass (top 13) 2
theorem Na:aA ["self"] ["self"] (aq LP):=by walk_at "sc"
noncomputable abbrev Kx:Stmt:=inClass (top 14) 0
theorem Qd:aA ["self","signs"] ["self","signs"] (aq Kx):=by walk_at "sc"
noncomputable abbrev Mu:Stmt:=inClass (top 14) 1
theorem zk:aA ["self","row","at","end"] ["self","row","at"] (aq Mu):=by walk_at "sc"
noncomputable abbrev LL:Stmt:=inClass (top 14) 2
theorem PX:aA ["self"] ["self"] (aq LL):=by walk_at "sc"
noncomputable abbrev Te:Stmt:=inClass (top 15) 0
theorem RX:aA ["self","row","at"] ["self","row","at"] (aq Te):=by walk_at "sc"
noncomputable abbrev R8:Stmt:=inClass (top 15) 1
theorem Tg:aA ["self"] ["self"] (aq R8):=by walk_at "sc"
noncomputable abbrev JT:Stmt:=inClass (top 16) 0
theorem Q5:aA ["self","row","at"] ["self","row","at"] (aq JT):=by walk_at "sc"
noncomputable abbrev L4:Stmt:=inClass (top 17) 0
theorem QL:aA ["self","row","at"] ["self","row","at"] (aq L4):=by walk_at "sc"
noncomputable abbrev Gf:Stmt:=top 22
theorem Nm:aA ["word"] ["word"] (aq Gf):=by walk_at "sc"
noncomputable abbrev KN:Stmt:=inClass (top 23) 0
theorem Oh:aA ["self","pattern","colour","deed","goal","fold"] ["self","pattern","colour","deed","goal","fold"] (aq KN):=by walk_at "sc"
noncomputable abbrev MZ:Stmt:=inClass (top 24) 0
theorem OL:aA ["self","name","colour","rules"] ["self","name","colour","rules"] (aq MZ):=by walk_at "sc"
noncomputable abbrev MQ:Stmt:=inClass (top 25) 0
theorem Og:aA ["self","modes"] ["self","modes"] (aq MQ):=by walk_at "sc"
noncomputable abbrev En:Stmt:=top 26
theorem Qv:aA ["rules"] ["rules"] (aq En):=by walk_at "sc"
noncomputable abbrev EO:Stmt:=top 27
theorem Ph:aA ["mode"] ["mode"] (aq EO):=by walk_at "sc"
noncomputable abbrev Lw:Stmt:=top 28
theorem Ri:aA ["rule"] ["rule"] (aq Lw):=by walk_at "sc"
noncomputable abbrev Mc:Stmt:=top 31
theorem xm:aA ["rules","mode","row","at","number","rule"] ["rules","mode","row","at"] (aq Mc):=by walk_at "sc"
noncomputable abbrev Kp:Stmt:=top 32
theorem OY:aA ["modes","rule"] ["modes","rule"] (aq Kp):=by walk_at "sc"
noncomputable abbrev LJ:Stmt:=top 33
theorem Ft:aA ["rules","found"] ["rules"] (aq LJ):=by walk_at "sc"
noncomputable abbrev yN:Stmt:=top 34
theorem mY:aA ["rules","row","first","ring"] ["rules"] (aq yN):=by walk_at "sc"
noncomputable abbrev DH:Stmt:=top 35
theorem IE:aA [] [] (aq DH):=by walk_at "sc"
noncomputable abbrev DA:Stmt:=top 36
theorem m5:aA ["rules","first","row","ring","modes","rule"] ["rules","first","row"] (aq DA):=by walk_at "sc"
noncomputable abbrev Lg:Stmt:=top 37
theorem xC:aA ["rules","mode","row","number","rule"] ["rules","mode","row"] (aq Lg):=by walk_at "sc"
noncomputable abbrev Ms:Stmt:=top 38
theorem uq:aA ["rules","mode","rule","pattern","rows","row"] ["rules","mode","rule"] (aq Ms):=by walk_at "sc"
noncomputable abbrev RS:Stmt:=inClass (top 49) 0
theorem TL:aA ["self","row","text"] ["self","row","text"] (aq RS):=by walk_at "sc"
noncomputable abbrev RZ:Stmt:=inClass (top 49) 1
theorem SR:aA ["self"] ["self"] (aq RZ):=by walk_at "sc"
noncomputable abbrev RG:Stmt:=inClass (top 49) 2
theorem Sq:aA ["self"] ["self"] (aq RG):=by walk_at "sc"
noncomputable abbrev RP:Stmt:=inClass (top 49) 3
theorem Tc:aA ["self","good"] ["self","good"] (aq RP):=by walk_at "sc"
noncomputable abbrev TX:Stmt:=inClass (top 49) 4
theorem Kh:aA ["self","good","word"] ["self","good"] (aq TX):=by walk_at "sc"
noncomputable abbrev SW:Stmt:=inClass (top 49) 5
theorem T4:aA ["self","words"] ["self","words"] (aq SW):=by walk_at "sc"
noncomputable abbrev Ue:Stmt:=inClass (top 49) 6
theorem RH:aA ["self"] ["self"] (aq Ue):=by walk_at "sc"
noncomputable abbrev SY:Stmt:=inClass (top 49) 7
theorem MA:aA ["self","word"] ["self"] (aq SY):=by walk_at "sc"
noncomputable abbrev J0:Stmt:=top 50
theorem jv:aA ["text","rows","numbers","modes","nowhere","number","row","cursor","rules"] ["text"] (aq J0):=by walk_at "sc"
noncomputable abbrev Mv:Stmt:=top 51
theorem tN:aA ["rows","numbers","row","words"] ["rows"] (aq Mv):=by walk_at "sc"
noncomputable abbrev FP:Stmt:=top 52
theorem yk:aA ["cursor","modes","name","colour"] ["cursor","modes"] (aq FP):=by walk_at "sc"
noncomputable abbrev KZ:Stmt:=top 53
theorem ni:aA ["cursor","numbers","nowhere","pattern","colour","deed","goal","fold"] ["cursor","numbers","nowhere"] (aq KZ):=by walk_at "sc"
noncomputable abbrev J9:Stmt:=top 54
theorem xV:aA ["cursor","kind","signs"] ["cursor"] (aq J9):=by walk_at "sc"
noncomputable abbrev JN:Stmt:=top 55
theorem ym:aA ["cursor","numbers","nowhere","place","name"] ["cursor","numbers","nowhere"] (aq JN):=by walk_at "sc"
noncomputable abbrev L7:Stmt:=top 60
theorem j6:aA ["rules","modes","row","on","tints","marks","at","mode","number","rule"] ["rules","modes","row"] (aq L7):=by walk_at "sc"
noncomputable abbrev JY:Stmt:=inClass (top 62) 0
theorem GK:aA ["self","rules","modes","row","told"] ["self","rules","modes","row"] (aq JY):=by walk_at "sc"
noncomputable abbrev Kr:Stmt:=inClass (top 63) 0
theorem OU:aA ["self","rules","rows"] ["self","rules","rows"] (aq Kr):=by walk_at "sc"
noncomputable abbrev EF:Stmt:=inClass (top 63) 1
theorem Qu:aA ["self"] ["self"] (aq EF):=by walk_at "sc"
noncomputable abbrev Km:Stmt:=inClass (top 63) 2
theorem UL:aA ["self","row"] ["self","row"] (aq Km):=by walk_at "sc"
noncomputable abbrev L6:Stmt:=inClass (top 63) 3
theorem UK:aA ["self","row"] ["self","row"] (aq L6):=by walk_at "sc"
noncomputable abbrev MW:Stmt:=inClass (top 63) 4
theorem U5:aA ["self","row"] ["self","row"] (aq MW):=by walk_at "sc"
noncomputable abbrev Ks:Stmt:=inClass (top 63) 5
theorem nN:aA ["self","row","many","rows","taken","ahead","back","first","changed"] ["self","row","many","rows"] (aq Ks):=by walk_at "sc"
noncomputable abbrev KJ:Stmt:=inClass (top 63) 6
theorem CS:aA ["self","row","at","text","signs"] ["self","row","at","text"] (aq KJ):=by walk_at "sc"
noncomputable abbrev Li:Stmt:=inClass (top 63) 7
theorem UX:aA ["self","row","at","row2","at2","left"] ["self","row","at","row2","at2"] (aq Li):=by walk_at "sc"
noncomputable abbrev K3:Stmt:=inClass (top 63) 9
theorem qT:aA ["self","modes","rows","gone_rows","row","gone"] ["self","modes","rows"] (aq K3):=by walk_at "sc"
noncomputable abbrev MT:Stmt:=inClass (top 63) 10
theorem xZ:aA ["self","row","at"] ["self","row"] (aq MT):=by walk_at "sc"
noncomputable abbrev Ln:Stmt:=inClass (top 63) 11
theorem QY:aA ["self","row"] ["self","row"] (aq Ln):=by walk_at "sc"
noncomputable abbrev LK:Stmt:=inClass (top 63) 12
theorem Vk:aA ["self","row"] ["self","row"] (aq LK):=by walk_at "sc"
noncomputable abbrev Lm:Stmt:=inClass (top 63) 13
theorem QV:aA ["self","row"] ["self","row"] (aq Lm):=by walk_at "sc"
noncomputable abbrev Mg:Stmt:=inClass (top 63) 14
theorem Nc:aA ["self","row","at"] ["self","row","at"] (aq Mg):=by walk_at "sc"
noncomputable abbrev Mq:Stmt:=inClass (top 63) 15
theorem UY:aA ["self","row","at","row2","at2"] ["self","row","at","row2","at2"] (aq Mq):=by walk_at "sc"
noncomputable abbrev K6:Stmt:=inClass (top 63) 16
theorem Pw:aA ["self","row","many"] ["self","row","many"] (aq K6):=by walk_at "sc"
noncomputable abbrev F1:Stmt:=top 64
theorem mG:aA ["some","others","many","one","other"] ["some","others"] (aq F1):=by walk_at "sc"
noncomputable abbrev B0:Stmt:=top 65
theorem Jo:aA ["some","others"] ["some","others"] (aq B0):=by walk_at "sc"
noncomputable abbrev Lz:Stmt:=inClass (top 67) 0
theorem Qz:aA ["self","row","taken","given","places"] ["self","row","taken","given","places"] (aq Lz):=by walk_at "sc"
noncomputable abbrev MM:Stmt:=inClass (top 68) 0
theorem Nz:aA ["self","rules","rows"] ["self","rules","rows"] (aq MM):=by walk_at "sc"
noncomputable abbrev JS:Stmt:=inClass (top 68) 1
theorem NT:aA ["self"] ["self"] (aq JS):=by walk_at "sc"
noncomputable abbrev EL:Stmt:=inClass (top 68) 3
theorem Rl:aA ["self"] ["self"] (aq EL):=by walk_at "sc"
noncomputable abbrev KD:Stmt:=inClass (top 68) 4
theorem Vd:aA ["self","name","row","at","places"] ["self","name","row","at"] (aq KD):=by walk_at "sc"
noncomputable abbrev Kz:Stmt:=inClass (top 68) 5
theorem UH:aA ["self","name","places"] ["self","name"] (aq Kz):=by walk_at "sc"
noncomputable abbrev Fw:Stmt:=inClass (top 68) 6
theorem yo:aA ["self","row","at","text","ahead","count"] ["self","row","at","text"] (aq Fw):=by walk_at "sc"
noncomputable abbrev MD:Stmt:=inClass (top 68) 8
theorem Fp:aA ["self","row","taken","many","given"] ["self","row","taken","many"] (aq MD):=by walk_at "sc"
noncomputable abbrev Mn:Stmt:=top 69
theorem uv:aA ["place","first","text","pieces","more","begin"] ["place","first","text"] (aq Mn):=by walk_at "sc"
noncomputable abbrev Lq:Stmt:=top 70
theorem Uz:aA ["place","first","second"] ["place","first","second"] (aq Lq):=by walk_at "sc"
noncomputable abbrev zM:Stmt:=inClass (top 78) 0
theorem Fz:aA ["self","words","body","kinds"] ["self","words","body"] (aq zM):=by walk_at "sc"
noncomputable abbrev Mf:Stmt:=inClass (top 79) 0
theorem N6:aA ["self"] ["self"] (aq Mf):=by walk_at "sc"
noncomputable abbrev JU:Stmt:=inClass (top 79) 1
theorem nQ:aA ["self","row","line"] ["self","row"] (aq JU):=by walk_at "sc"
noncomputable abbrev LI:Stmt:=inClass (top 79) 2
theorem NG:aA ["self"] ["self"] (aq LI):=by walk_at "sc"
noncomputable abbrev Hg:Stmt:=top 80
theorem tQ:aA ["row","parts","words","kinds"] ["row"] (aq Hg):=by walk_at "sc"
noncomputable abbrev K8:Stmt:=top 81
theorem QO:aA ["word","kind"] ["word","kind"] (aq K8):=by walk_at "sc"
noncomputable abbrev Cq:Stmt:=top 82
theorem Px:aA ["word"] ["word"] (aq Cq):=by walk_at "sc"
noncomputable abbrev Lo:Stmt:=top 83
theorem Fl:aA ["scribe","line","numbers"] ["scribe","line"] (aq Lo):=by walk_at "sc"
noncomputable abbrev yE:Stmt:=top 85
theorem zu:aA ["scribe","line","text"] ["scribe","line"] (aq yE):=by walk_at "sc"
noncomputable abbrev MI:Stmt:=top 89
theorem pR:aA ["rules","rows","number","mode","rule"] ["rules"] (aq MI):=by walk_at "sc"
noncomputable abbrev LX:Stmt:=top 91
theorem uA:aA ["_law_script","_law_k","_law_many","_law_cell","_law_left","_law_seed"] ["_law_script","_law_k","_law_many"] (aq LX):=by walk_at "sc"
noncomputable abbrev ML:Stmt:=top 92
theorem yX:aA ["_law_kind","_law_arg","_law_row","_law_at","_law_end"] ["_law_kind","_law_arg","_law_row","_law_at"] (aq ML):=by walk_at "sc"
noncomputable abbrev Mz:Stmt:=top 93
theorem DB:aA ["_law_signs_here"] [] (aq Mz):=by walk_at "sc"
noncomputable abbrev MO:Stmt:=top 94
theorem t9:aA ["_law_script","_law_k","_law_way","_law_out","_law_some"] ["_law_script","_law_k"] (aq MO):=by walk_at "sc"
noncomputable abbrev M3:Stmt:=top 95
theorem l9:aA ["_law_script","_law_base","_law_modes_here","_law_m","_law_rules","_law_k","_law_at","_law_kind"] ["_law_script","_law_base"] (aq M3):=by walk_at "sc"
noncomputable abbrev J2:Stmt:=top 96
theorem l6:aA ["_law_modes_here","_law_texts","_law_name","_law_rules","_law_kind","_law_arg","_law_words"] ["_law_modes_here"] (aq J2):=by walk_at "sc"
noncomputable abbrev FA:Stmt:=top 97
theorem Pe:aA ["_law_kind","_law_arg"] ["_law_kind","_law_arg"] (aq FA):=by walk_at "sc"
noncomputable abbrev G5:Stmt:=top 98
theorem qL:aA ["_law_rules","_law_number","_law_kind","_law_arg","_law_piece","_law_ahead"] ["_law_rules","_law_number"] (aq G5):=by walk_at "sc"
noncomputable abbrev LZ:Stmt:=top 99
theorem qA:aA ["_law_modes_here","_law_lines","_law_name","_law_rules","_law_number"] ["_law_modes_here"] (aq LZ):=by walk_at "sc"
noncomputable abbrev EX:Stmt:=top 100
theorem xO:aA ["_law_script","_law_desk","_law_modes_here"] ["_law_script"] (aq EX):=by walk_at "sc"
set_option genInjectivity false in
structure eS where
 dF:Addr
 iZ:Addr
 cM:Addr
 fW:Addr
 jE:Addr
 fP:Addr
 jF:Addr
 ia:Addr
 dD:Addr
 iU:Addr
 cV:Addr
 cy:Addr
 aR:Addr
 fB:Addr
 aM:Addr
 dS:Addr
 dH:Addr
 sI:Addr
 Ay:FuncData
 CM:Addr
 Lu:FuncData
 zE:Addr
 EM:FuncData
 zY:Addr
 Cz:FuncData
 Dk:Addr
 Lf:FuncData
 Am:Addr
 CH:FuncData
 zy:Addr
 Fx:FuncData
 Fv:Addr
 Ld:FuncData
 AA:Addr
 Dj:FuncData
 zG:Addr
 BZ:FuncData
 BX:Addr
 Lk:FuncData
 Ak:Addr
 Gj:FuncData
 Aa:Addr
 CB:FuncData
 Jj:Addr
 QX:FuncData
 IF:Addr
 QN:FuncData
 Ar:Addr
 F5:FuncData
 zF:Addr
 E9:FuncData
 ET:Addr
 Kg:FuncData
 DV:Addr
 MV:FuncData
 Cv:Addr
 J6:FuncData
 Eg:Addr
 LF:FuncData
 FT:Addr
 Lv:FuncData
 EC:Addr
 KW:FuncData
 Cn:Addr
 Lb:FuncData
 De:Addr
 KQ:FuncData
 El:Addr
 K7:FuncData
 Di:Addr
 LW:FuncData
 wR:Addr
 Hj:FuncData
 yH:Addr
 DQ:FuncData
 wO:Addr
 GA:FuncData
 CT:Addr
 M4:FuncData
 Fj:Addr
 Me:FuncData
 Rt:Addr
 T6:FuncData
 OD:Addr
 Ss:FuncData
 Rc:Addr
 R7:FuncData
 O5:Addr
 SV:FuncData
 PJ:Addr
 Tr:FuncData
 Qp:Addr
 Tp:FuncData
 Pp:Addr
 S0:FuncData
 NU:Addr
 Tv:FuncData
 Gx:Addr
 MY:FuncData
 Fd:Addr
 MF:FuncData
 GI:Addr
 MG:FuncData
 FI:Addr
 MU:FuncData
 Ct:Addr
 KL:FuncData
 CQ:Addr
 Mt:FuncData
 GN:Addr
 Lp:FuncData
 Ei:Addr
 JO:FuncData
 GQ:Addr
 LD:FuncData
 Gg:Addr
 MC:FuncData
 KH:Addr
 SQ:FuncData
 ME:Addr
 RB:FuncData
 Mh:Addr
 Sn:FuncData
 B5:Addr
 MR:FuncData
 Ho:Addr
 Lh:FuncData
 JR:Addr
 Tn:FuncData
 D5:Addr
 Mx:FuncData
 DI:Addr
 J4:FuncData
 FO:Addr
 J1:FuncData
 Ls:Addr
 Sd:FuncData
 Et:Addr
 Lr:FuncData
 EG:Addr
 KI:FuncData
 M7:Addr
 RE:FuncData
 DX:Addr
 MB:FuncData
 xW:Addr
 Cg:FuncData
 xM:Addr
 Dm:FuncData
 B8:Addr
 LC:FuncData
 Fg:Addr
 M5:FuncData
 CD:Addr
 K1:FuncData
 EH:Addr
 J3:FuncData
 K5:Addr
 RT:FuncData
 KG:Addr
 Sm:FuncData
 B9:Addr
 Ko:FuncData
 F8:Addr
 KA:FuncData
 F9:Addr
 Mb:FuncData
 MS:Addr
 So:FuncData
 CJ:Addr
 Kn:FuncData
 FD:Addr
 LQ:FuncData
 uX:Addr
 zD:FuncData
 F7:Addr
 Kw:FuncData
 GZ:Addr
 Ky:FuncData
 EU:Addr
 L3:FuncData
 GG:Addr
 Kd:FuncData
 Fe:Addr
 KC:FuncData
 wV:Addr
 Fq:FuncData
 Gp:Addr
 J7:FuncData
 Dv:Addr
 LA:FuncData
 Hi:Addr
 Ka:FuncData
 E4:Addr
 Mw:FuncData
 EA:Addr
 Kq:FuncData
 Dd:Addr
 LH:FuncData
 FJ:Addr
 K9:FuncData
 B3:Addr
 Kv:FuncData
 ES:Addr
 Lj:FuncData
 Dp:Addr
 KS:FuncData
 jt:Addr
 oZ:Addr
 tR:Addr
 o6:Addr
 gY:Addr
 jV:Addr
 iw:Addr
 kO:Addr
 iJ:Addr
 iD:Addr
 qp:Addr
 pS:Addr
 qa:Addr
 qj:Addr
 qv:Addr
 jy:Addr
 pU:Addr
 qU:Addr
 oq:Addr
 iS:Addr
 pr:Params
structure Txt(K:W.Frag)(mg:Str->Option Value)(t:eS):Prop where
 wA:mg "Word" = some (.ref t.dF)
 HV:mg "One" = some (.ref t.iZ)
 vG:mg "Without" = some (.ref t.cM)
 FE:mg "Many" = some (.ref t.fW)
 JC:mg "Any" = some (.ref t.jE)
 AX:mg "Still" = some (.ref t.fP)
 IU:mg "End" = some (.ref t.jF)
 vF:mg "Rule" = some (.ref t.ia)
 vo:mg "Mode" = some (.ref t.dD)
 sC:mg "Rules" = some (.ref t.iU)
 xq:mg "Cursor" = some (.ref t.cV)
 ow:mg "GoneRow" = some (.ref t.cy)
 yg:mg "Tinted" = some (.ref t.aR)
 F0:mg "Deed" = some (.ref t.fB)
 yC:mg "Scribe" = some (.ref t.aM)
 GS:mg "Line" = some (.ref t.dS)
 C6:mg "Desk" = some (.ref t.dH)
 Co:cT K "eats" "Pattern.eats" KU t.sI t.Ay
 Mr:cT K "__init__" "Word.__init__" LG t.CM t.Lu
 LY:cT K "eaten" "Word.eaten" KY t.zE t.EM
 Ke:cT K "eats" "Word.eats" MJ t.zY t.Cz
 LO:cT K "__init__" "One.__init__" LN t.Dk t.Lf
 LU:cT K "eaten" "One.eaten" MN t.Am t.CH
 Lc:cT K "eats" "One.eats" LM t.zy t.Fx
 My:cT K "__init__" "Without.__init__" JX t.Fv t.Ld
 La:cT K "eaten" "Without.eaten" J5 t.AA t.Dj
 JQ:cT K "eats" "Without.eats" LP t.zG t.BZ
 Ml:cT K "__init__" "Many.__init__" Kx t.BX t.Lk
 KR:cT K "eaten" "Many.eaten" Mu t.Ak t.Gj
 Lx:cT K "eats" "Many.eats" LL t.Aa t.CB
 TH:cT K "eaten" "Any.eaten" Te t.Jj t.QX
 RW:cT K "eats" "Any.eats" R8 t.IF t.QN
 Ly:cT K "eaten" "Still.eaten" JT t.Ar t.F5
 MH:cT K "eaten" "End.eaten" L4 t.zF t.E9
 Cr:cT K "__init__" "Rule.__init__" KN t.DV t.MV
 EE:cT K "__init__" "Mode.__init__" MZ t.Cv t.J6
 GL:cT K "__init__" "Rules.__init__" MQ t.Eg t.LF
 Ud:cT K "__init__" "Cursor.__init__" RS t.Rt t.T6
 CO:cT K "more" "Cursor.more" RZ t.OD t.Ss
 wC:cT K "peek" "Cursor.peek" RG t.Rc t.R7
 zq:cT K "ask" "Cursor.ask" RP t.O5 t.SV
 Hv:cT K "take" "Cursor.take" TX t.PJ t.Tr
 Dc:cT K "take_choice" "Cursor.take_choice" SW t.Qp t.Tp
 Hh:cT K "take_name" "Cursor.take_name" Ue t.Pp t.S0
 RI:cT K "take_signs" "Cursor.take_signs" SY t.NU t.Tv
 DS:cT K "__init__" "GoneRow.__init__" JY t.Ei t.JO
 M6:cT K "__init__" "Tinted.__init__" Kr t.GQ t.LD
 r9:cT K "rows" "Tinted.rows" EF t.Gg t.MC
 F_q47:cT K "begin" "Tinted.begin" Km t.KH t.SQ
 F_q49:cT K "colours" "Tinted.colours" L6 t.ME t.RB
 F_q54:cT K "marks" "Tinted.marks" MW t.Mh t.Sn
 L0:cT K "change" "Tinted.change" Ks t.B5 t.MR
 K4:cT K "put" "Tinted.put" KJ t.Ho t.Lh
 F_q50:cT K "cut" "Tinted.cut" Li t.JR t.Tn
 G7:cT K "go_over" "Tinted.go_over" K3 t.D5 t.Mx
 Kl:cT K "go_on" "Tinted.go_on" MT t.DI t.J4
 As:cT K "modes_ahead" "Tinted.modes_ahead" Ln t.FO t.J1
 F_q53:cT K "gone_row" "Tinted.gone_row" LK t.Ls t.Sd
 JV:cT K "ask_row" "Tinted.ask_row" Lm t.Et t.Lr
 MP:cT K "ask_place" "Tinted.ask_place" Mg t.EG t.KI
 F_q44:cT K "ask_places" "Tinted.ask_places" Mq t.M7 t.RE
 Mm:cT K "ask_taken" "Tinted.ask_taken" K6 t.DX t.MB
 Le:cT K "__init__" "Deed.__init__" Lz t.B8 t.LC
 Mi:cT K "__init__" "Scribe.__init__" MM t.Fg t.M5
 Ag:cT K "text" "Scribe.text" JS t.CD t.K1
 JL:cT K "marks" "Scribe.marks" EL t.EH t.J3
 F_q38:cT K "set_mark" "Scribe.set_mark" KD t.K5 t.RT
 F_q32:cT K "drop_mark" "Scribe.drop_mark" Kz t.KG t.Sm
 J8:cT K "put" "Scribe.put" Fw t.B9 t.Ko
 K0:cT K "keep" "Scribe.keep" MD t.F8 t.KA
 KP:cT K "__init__" "Line.__init__" zM t.CJ t.Kn
 MK:cT K "__init__" "Desk.__init__" Mf t.FD t.LQ
 mR:cT K "say" "Desk.say" JU t.uX t.zD
 L8:cT K "all_rows" "Desk.all_rows" LI t.F7 t.Kw
 E5:cT K "is_name" "is_name" Gf t.ET t.Kg
 Oi:mg "is_name" = some (.ref t.ET)
 Es:cT K "copied_rules" "copied_rules" En t.FT t.Lv
 Q7:mg "copied_rules" = some (.ref t.FT)
 ED:cT K "copied_mode" "copied_mode" EO t.EC t.KW
 Oq:mg "copied_mode" = some (.ref t.EC)
 Gr:cT K "copied_rule" "copied_rule" Lw t.Cn t.Lb
 QF:mg "copied_rule" = some (.ref t.Cn)
 qz:cT K "first_rule" "first_rule" Mc t.De t.KQ
 xj:mg "first_rule" = some (.ref t.De)
 uT:cT K "do_deed" "do_deed" Kp t.El t.K7
 Cp:mg "do_deed" = some (.ref t.El)
 D0:cT K "ask_rings" "ask_rings" LJ t.Di t.LW
 NX:mg "ask_rings" = some (.ref t.Di)
 wY:cT K "ring_of" "ring_of" yN t.wR t.Hj
 IL:mg "ring_of" = some (.ref t.wR)
 qf:cT K "short_rows" "short_rows" DH t.yH t.DQ
 Al:mg "short_rows" = some (.ref t.yH)
 qJ:cT K "ring_from" "ring_from" DA t.wO t.GA
 Af:mg "ring_from" = some (.ref t.wO)
 vp:cT K "idle_rule" "idle_rule" Lg t.CT t.M4
 FU:mg "idle_rule" = some (.ref t.CT)
 Hl:cT K "piece_of" "piece_of" Ms t.Fj t.Me
 Pk:mg "piece_of" = some (.ref t.Fj)
 Cf:cT K "read_rules" "read_rules" J0 t.Gx t.MY
 QD:mg "read_rules" = some (.ref t.Gx)
 GV:cT K "mode_numbers" "mode_numbers" Mv t.Fd t.MF
 OV:mg "mode_numbers" = some (.ref t.Fd)
 DG:cT K "read_mode" "read_mode" FP t.GI t.MG
 Pa:mg "read_mode" = some (.ref t.GI)
 E1:cT K "read_rule" "read_rule" KZ t.FI t.MU
 NC:mg "read_rule" = some (.ref t.FI)
 Dy:cT K "read_pattern" "read_pattern" J9 t.Ct t.KL
 Qn:mg "read_pattern" = some (.ref t.Ct)
 Eu:cT K "read_goal" "read_goal" JN t.CQ t.Mt
 Py:mg "read_goal" = some (.ref t.CQ)
 DY:cT K "gone_over" "gone_over" L7 t.GN t.Lp
 Nr:mg "gone_over" = some (.ref t.GN)
 qK:cT K "same_ahead" "same_ahead" F1 t.xW t.Cg
 Av:mg "same_ahead" = some (.ref t.xW)
 yu:cT K "same_back" "same_back" B0 t.xM t.Dm
 Hy:mg "same_back" = some (.ref t.xM)
 E7:cT K "place_put" "place_put" Mn t.F9 t.Mb
 Rj:mg "place_put" = some (.ref t.F9)
 F_q92:cT K "place_cut" "place_cut" Lq t.MS t.So
 UO:mg "place_cut" = some (.ref t.MS)
 pK:cT K "read_line" "read_line" Hg t.GZ t.Ky
 ya:mg "read_line" = some (.ref t.GZ)
 Df:cT K "is_word" "is_word" K8 t.EU t.L3
 P7:mg "is_word" = some (.ref t.EU)
 Ej:cT K "is_number" "is_number" Cq t.GG t.Kd
 NK:mg "is_number" = some (.ref t.GG)
 E2:cT K "counted" "counted" Lo t.Fe t.KC
 NV:mg "counted" = some (.ref t.Fe)
 yp:cT K "told" "told" yE t.wV t.Fq
 Ii:mg "told" = some (.ref t.wV)
 G3:cT K "hidden_rules" "hidden_rules" MI t.Gp t.J7
 Om:mg "hidden_rules" = some (.ref t.Gp)
 iG:cT K "_law_draw" "_law_draw" LX t.Dv t.LA
 lG:mg "_law_draw" = some (.ref t.Dv)
 uH:cT K "_law_eaten" "_law_eaten" ML t.Hi t.Ka
 EK:mg "_law_eaten" = some (.ref t.Hi)
 pJ:cT K "_law_all" "_law_all" Mz t.E4 t.Mw
 yt:mg "_law_all" = some (.ref t.E4)
 Ek:cT K "_law_signs" "_law_signs" MO t.EA t.Kq
 OC:mg "_law_signs" = some (.ref t.EA)
 wI:cT K "_law_modes" "_law_modes" M3 t.Dd t.LH
 Gb:mg "_law_modes" = some (.ref t.Dd)
 vB:cT K "_law_text" "_law_text" J2 t.FJ t.K9
 Ew:mg "_law_text" = some (.ref t.FJ)
 CV:cT K "_law_pieces" "_law_pieces" FA t.B3 t.Kv
 Rr:mg "_law_pieces" = some (.ref t.B3)
 EZ:cT K "_law_is_hidden" "_law_is_hidden" G5 t.ES t.Lj
 P0:mg "_law_is_hidden" = some (.ref t.ES)
 uQ:cT K "_law_due" "_law_due" LZ t.Dp t.KS
 Eh:mg "_law_due" = some (.ref t.Dp)
 mV:lK K t.dF
 Im:Mk K t.dF t.CM
 gI:bx K t.dF "wanted"
 RD:Meth K t.dF "eaten" t.zE
 RA:Meth K t.dF "eats" t.zY
 xY:lK K t.iZ
 NW:Mk K t.iZ t.Dk
 oF:bx K t.iZ "signs"
 T5:Meth K t.iZ "eaten" t.Am
 Sa:Meth K t.iZ "eats" t.zy
 lW:lK K t.cM
 xB:Mk K t.cM t.Fv
 jJ:bx K t.cM "signs"
 T8:Meth K t.cM "eaten" t.AA
 S1:Meth K t.cM "eats" t.zG
 uu:lK K t.fW
 Ig:Mk K t.fW t.BX
 mZ:bx K t.fW "signs"
 RU:Meth K t.fW "eaten" t.Ak
 S5:Meth K t.fW "eats" t.Aa
 Ra:lK K t.jE
 Q3:Ug K t.jE
 U8:Meth K t.jE "eaten" t.Jj
 Ve:Meth K t.jE "eats" t.IF
 D6:lK K t.fP
 Cb:Ug K t.fP
 T9:Meth K t.fP "eaten" t.Ar
 tO:Meth K t.fP "eats" t.sI
 Q2:lK K t.jF
 QU:Ug K t.jF
 SK:Meth K t.jF "eaten" t.zF
 zp:Meth K t.jF "eats" t.sI
 b9:lK K t.ia
 zP:Mk K t.ia t.DV
 dZ:bx K t.ia "pattern"
 i9:bx K t.ia "colour"
 fS:bx K t.ia "deed"
 iX:bx K t.ia "goal"
 iT:bx K t.ia "fold"
 dY:lK K t.dD
 Az:Mk K t.dD t.Cv
 gM:bx K t.dD "name"
 i0:bx K t.dD "colour"
 dM:bx K t.dD "rules"
 fC:lK K t.iU
 vO:Mk K t.iU t.Eg
 b8:bx K t.iU "modes"
 aO:lK K t.cV
 BU:Mk K t.cV t.Rt
 mw:bx K t.cV "row"
 iM:bx K t.cV "words"
 gU:bx K t.cV "at"
 I9:Meth K t.cV "more" t.OD
 xA:Meth K t.cV "peek" t.Rc
 AU:Meth K t.cV "ask" t.O5
 Pb:Meth K t.cV "take" t.PJ
 JF:Meth K t.cV "take_choice" t.Qp
 IP:Meth K t.cV "take_name" t.Pp
 Vl:Meth K t.cV "take_signs" t.NU
 cP:lK K t.cy
 qB:Mk K t.cy t.Ei
 eO:bx K t.cy "signs"
 jk:bx K t.cy "before"
 oH:bx K t.cy "tints"
 gD:bx K t.cy "behind"
 nU:bx K t.cy "folded"
 aT:lK K t.aR
 AH:Mk K t.aR t.GQ
 gn:bx K t.aR "rules"
 aS:bx K t.aR "gone_rows"
 vW:Meth K t.aR "rows" t.Gg
 m_q47:Meth K t.aR "begin" t.KH
 m_q49:Meth K t.aR "colours" t.ME
 m_q54:Meth K t.aR "marks" t.Mh
 Uc:Meth K t.aR "change" t.B5
 Tw:Meth K t.aR "put" t.Ho
 m_q50:Meth K t.aR "cut" t.JR
 LB:Meth K t.aR "go_over" t.D5
 Ry:Meth K t.aR "go_on" t.DI
 DT:Meth K t.aR "modes_ahead" t.FO
 m_q53:Meth K t.aR "gone_row" t.Ls
 Tf:Meth K t.aR "ask_row" t.Et
 Ui:Meth K t.aR "ask_place" t.EG
 m_q44:Meth K t.aR "ask_places" t.M7
 Ti:Meth K t.aR "ask_taken" t.DX
 mD:lK K t.fB
 II:Mk K t.fB t.B8
 wW:bx K t.fB "row"
 uw:bx K t.fB "taken"
 uC:bx K t.fB "given"
 kU:bx K t.fB "places_ahead"
 kF:bx K t.fB "places_behind"
 bJ:lK K t.aM
 AZ:Mk K t.aM t.Fg
 eG:bx K t.aM "tinted"
 cS:bx K t.aM "places"
 lC:bx K t.aM "done"
 jH:bx K t.aM "undone"
 E3:Meth K t.aM "text" t.CD
 Tu:Meth K t.aM "marks" t.EH
 m_q38:Meth K t.aM "set_mark" t.K5
 m_q32:Meth K t.aM "drop_mark" t.KG
 S8:Meth K t.aM "put" t.B9
 Sk:Meth K t.aM "keep" t.F8
 dh:lK K t.dS
 Ik:Mk K t.dS t.CJ
 cz:bx K t.dS "head"
 tT:bx K t.dS "names"
 ki:bx K t.dS "numbers"
 kh:bx K t.dS "body"
 dX:lK K t.dH
 IT:Mk K t.dH t.FD
 cJ:bx K t.dH "scribe"
 r8:Meth K t.dH "say" t.uX
 Sv:Meth K t.dH "all_rows" t.F7
 cg:W.specialIn K (.builtin "object.__class__") "__get__" = some (some (.builtin "getset_descriptor.__get__"))
 ct:W.takesIn K (.builtin "object.__class__")=some true
 IY:W.findIn K (.ref t.dF) "__class__" = some (some (.builtin "object.__class__"))
 Iq:W.mroIn K t.dF (.type "object")=some true
 Pu:W.findIn K (.ref t.iZ) "__class__" = some (some (.builtin "object.__class__"))
 N2:W.mroIn K t.iZ (.type "object")=some true
 wM:W.findIn K (.ref t.cM) "__class__" = some (some (.builtin "object.__class__"))
 yI:W.mroIn K t.cM (.type "object")=some true
 HK:W.findIn K (.ref t.fW) "__class__" = some (some (.builtin "object.__class__"))
 Jz:W.mroIn K t.fW (.type "object")=some true
 OW:W.findIn K (.ref t.jE) "__class__" = some (some (.builtin "object.__class__"))
 Pg:W.mroIn K t.jE (.type "object")=some true
 G8:W.findIn K (.ref t.fP) "__class__" = some (some (.builtin "object.__class__"))
 Gk:W.mroIn K t.fP (.type "object")=some true
 OB:W.findIn K (.ref t.jF) "__class__" = some (some (.builtin "object.__class__"))
 Nd:W.mroIn K t.jF (.type "object")=some true
 rj:W.kitOne K (.ref t.dF) (.ref t.dF)=some true
 uz:W.kitOne K (.ref t.iZ) (.ref t.dF)=some false
 nH:W.kitOne K (.ref t.cM) (.ref t.dF)=some false
 rm:W.kitOne K (.ref t.fW) (.ref t.dF)=some false
 tG:W.kitOne K (.ref t.jE) (.ref t.dF)=some false
 qF:W.kitOne K (.ref t.fP) (.ref t.dF)=some false
 uy:W.kitOne K (.ref t.jF) (.ref t.dF)=some false
 vV:∃u,mg "LETTERS" = some u/\RelV (.str "abcdefghijklmnopqrstuvwxyz") u
 nj:∃u,mg "LONGEST_NAME" = some u/\RelV (.int 8) u
 kG:∃u,mg "START" = some u/\RelV (.int 0) u
 Bl:∃u,mg "SIGNS" = some u/\RelV (.str " !\"#$&'()*+,-./0123456789:;<=>?@ABCDEFGHIJKLMNOPQRSTUVWXYZ[\\]^_`abcdefghijklmnopqrstuvwxyz{|}~") u
 p7:∃u,mg "MOST_MODES" = some u/\RelV (.int 12) u
 pV:∃u,mg "MOST_RULES" = some u/\RelV (.int 12) u
 ue:mg "PATTERNS" = some (.ref t.jt)
 v7:∀H,fN K H t.jt [.str "word",.str "one",.str "none",.str "many",.str "any",.str "still",.str "end"]
 Bg:mg "DEEDS" = some (.ref t.oZ)
 Cm:∀H,fN K H t.oZ [.str "stay",.str "push",.str "pop",.str "into"]
 BB:mg "GOING" = some (.ref t.tR)
 Cw:∀H,fN K H t.tR [.str "push",.str "into"]
 AI:mg "FOLDS" = some (.ref t.o6)
 C8:∀H,fN K H t.o6 [.str "open",.str "close"]
 wJ:∃u,mg "FIGURES" = some u/\RelV (.str "0123456789") u
 nh:∃u,mg "MOST_FIGURES" = some u/\RelV (.int 4) u
 lT:mg "LISTED" = some (.ref t.gY)
 kH:Rv K t.pr t.gY [("rules",.ref t.iJ),("put",.ref t.iD),("cut",.ref t.qp),("undo",.ref t.pS),("redo",.ref t.qa),("mark",.ref t.qj),("drop",.ref t.qv),("marks",.ref t.jy),("row",.ref t.pU),("tint",.ref t.qU),("folds",.ref t.oq),("never",.ref t.iS)]
 vq:∀H,fN K H t.iJ []
 vt:∀H,fN K H t.iD [.str "ROW",.str "AT"]
 vh:∀H,fN K H t.jy []
 tP:∀H,fN K H t.iS []
 rA:mg "WITH_TEXT" = some (.ref t.jV)
 tS:∀H,fN K H t.jV [.str "rules",.str "put"]
 oA:mg "COUNTED" = some (.ref t.iw)
 qM:∀H,fN K H t.iw [.str "put",.str "cut",.str "undo",.str "redo"]
 wG:mg "BY_HAND" = some (.ref t.kO)
 yd:∀H,fN K H t.kO [.str "mark",.str "drop"]
 G4:mg "all" = none
 FW:mg "dict" = none
 jS:mg "enumerate" = none
 M9:mg "int" = none
 uB:mg "isinstance" = none
 bU:mg "len" = none
 nI:mg "list" = none
 TM:mg "max" = none
 mz:mg "range" = none
 qN:mg "reversed" = none
 Gu:mg "sorted" = none
 Gq:mg "str" = none
 z7:mg "zip" = none
theorem ls0:∀{us:List Value},us.length=0->us=[]
 | [],_=>rfl
theorem lsS{us:List Value}{n:Nat}(h:us.length=n+1):∃a t,us=a::t/\t.length=n:=by
 cases us with
 |nil=>cases h
 |cons a t=>exact⟨a,t,rfl,Nat.succ.inj h⟩
theorem lsN{us:List Value}(h:us.length=0):us=[]:=List.length_eq_zero_iff.mp h
theorem ls1{us:List Value}(h:us.length=1):∃a0,us=[a0]:=by
 obtain⟨a0,t0,rfl,h0⟩:=lsS h
 cases lsN h0
 exact⟨a0,rfl⟩
theorem Ku:∀{us:List Value},us.length=2->∃a0 a1,us=[a0,a1]
 | [a0,a1],_=>⟨a0,a1,rfl⟩
theorem ls3{us:List Value}(h:us.length=3):∃a0 a1 a2,us=[a0,a1,a2]:=by
 obtain⟨a0,t0,rfl,h0⟩:=lsS h
 obtain⟨a1,t1,rfl,h1⟩:=lsS h0
 obtain⟨a2,t2,rfl,h2⟩:=lsS h1
 cases lsN h2
 exact⟨a0,a1,a2,rfl⟩
theorem ls4{us:List Value}(h:us.length=4):∃a0 a1 a2 a3,us=[a0,a1,a2,a3]:=by
 obtain⟨a0,t0,rfl,h0⟩:=lsS h
 obtain⟨a1,t1,rfl,h1⟩:=lsS h0
 obtain⟨a2,t2,rfl,h2⟩:=lsS h1
 obtain⟨a3,t3,rfl,h3⟩:=lsS h2
 cases lsN h3
 exact⟨a0,a1,a2,a3,rfl⟩
theorem ls5{us:List Value}(h:us.length=5):∃a0 a1 a2 a3 a4,us=[a0,a1,a2,a3,a4]:=by
 obtain⟨a0,t0,rfl,h0⟩:=lsS h
 obtain⟨a1,t1,rfl,h1⟩:=lsS h0
 obtain⟨a2,t2,rfl,h2⟩:=lsS h1
 obtain⟨a3,t3,rfl,h3⟩:=lsS h2
 obtain⟨a4,t4,rfl,h4⟩:=lsS h3
 cases lsN h4
 exact⟨a0,a1,a2,a3,a4,rfl⟩
theorem ls6{us:List Value}(h:us.length=6):∃a0 a1 a2 a3 a4 a5,us=[a0,a1,a2,a3,a4,a5]:=by
 obtain⟨a0,t0,rfl,h0⟩:=lsS h
 obtain⟨a1,t1,rfl,h1⟩:=lsS h0
 obtain⟨a2,t2,rfl,h2⟩:=lsS h1
 obtain⟨a3,t3,rfl,h3⟩:=lsS h2
 obtain⟨a4,t4,rfl,h4⟩:=lsS h3
 obtain⟨a5,t5,rfl,h5⟩:=lsS h4
 cases lsN h5
 exact⟨a0,a1,a2,a3,a4,a5,rfl⟩
section
variable {P:Program}{w:World}{K:W.Frag}{mg:Str->Option Value}{base:Heap}{t:eS}
end
local macro_rules | `(tactic| walk_at "rd")=>`(tactic| simp only [$[$("L2.Sx L2.DO L2.tIf L2.Mj L2.tB L2.O8 L2.Uv L2.G6 L2.Bk L2.HE L2.tC L2.start L2.rI L2.Mp L2.kq L2.RN L2.Sb L2.tOr L2.RM L2.RV L2.Rz L2.tUn L2.rU L2.rEq L2.rNe L2.UJ L2.Pq L2.TY L2.HG L2.Ny L2.Sf L2.E8 L2.DM L2.Gy L2.GJ L2.MX L2.tBM L2.TR L2.Sw L2.ipI L2.Ma L2.SE L2.M8 L2.UR L2.SA L2.BW L2.zS L2.rJoin L2.u5 L2.v9 L2.Ec L2.Nt L2.e9 Option.join_some Option.join_none if_true if_false Bool.false_eq_true List.map_cons List.map_nil List.length_cons List.length_nil List.replicate List.cons_append List.nil_append List.append_nil List.getElem?_cons_zero List.getElem?_cons_succ List.set_cons_zero List.set_cons_succ Option.some.injEq exists_eq_left' exists_eq_left L2.V.int.injEq L2.V.str.injEq L2.V.ref.injEq L2.V.bl.injEq List.cons.injEq and_true true_and and_assoc exists_and_left exists_eq exists_const".splitOn.toArray.map (Lean.mkCIdent ·.toName)):ident],*])
local macro_rules | `(tactic| walk_at "ck")=>`(tactic| exact ⟨by decide +kernel,rfl,by decide +kernel,by decide +kernel,by decide +kernel,by decide +kernel,by decide +kernel⟩)
section
variable {P:Program}{w:World}{K:PySem.W.Frag}{mg:Str->Option Value}{base:Heap}{t:eS}
def isName (z:Str):Bool:=decide (1<=z.length) && decide (z.length<=8) && z.cps.toList.all λc=>decide (c∈(Str.ofString "abcdefghijklmnopqrstuvwxyz").cps.toList)
noncomputable def CI:Sp:=λvs H Q _=>∃z:Str,vs=[.str z]/\z.length<=100000/\∀H',ao H H'->Q (.bl (isName z)) H'
theorem PN (T:Txt K mg t):aZ P w K mg base c7 1 t.ET t.Kg ["word"] CI:=by
 refine T.E5.ok Nm ?_ ?_
 walk_at "i"
 ·obtain⟨z,rfl,hz,q⟩:=h
  refine aI (λZ' H'=>Z'=[some (.str z)]/\H'=H/\1<=z.length/\z.length<=8) (aX (PW.pt (ie (az gx (aK bf (by rfl) T.bU (by decide +kernel) (aa (pv 0) ai)) aB (aC _)) (gj (az jG (aK bf (by rfl) T.bU (by decide +kernel) (aa (pv 0) ai)) (fj rfl T.nj) (aC _))))) av av) ?_ ?_
  ·walk_at "rd"
   refine⟨bI (by lia),dR (λh=>?_) (λh=>?_)⟩
   ·refine ay (aG j9) ?_
    have:=q H (ao.refl H)
    rw[isName,decide_eq_false (by lia)] at this
    exact this
   ·refine⟨bI (by lia),dR (λh=>?_) (λh=>aU ⟨rfl,rfl,by lia,by lia⟩)⟩
    refine ay (aG j9) ?_
    have:=q H (ao.refl H)
    rw[isName,decide_eq_false (p:=z.length<=8) (by lia),Bool.and_false] at this
    exact this
  rintro Z' H' ⟨rfl,e,h1,h2⟩
  rw[e]
  clear e H'
  refine ay (aG (aK (nP rfl) (by rfl) T.G4 (by decide +kernel) (aa (iu (sc:=aq Gf) (N:=["word"]) (x:="sign") (caps:=[]) (by walk_at "ck") (yM (pv 0)) (λ_ _ _ _=>(ef ji (pv 0) (fj rfl T.vV) rfl))) ai))) ?_
  refine⟨_,rfl,z,rfl,wc (λi ys H2=>H2=H/\ys=(z.cps.toList.take i).map λc=>V.bl (decide (c∈(Str.ofString "abcdefghijklmnopqrstuvwxyz").cps.toList))) ⟨rfl,rfl⟩ (eV (by lia)) ?_ ?_⟩
  ·rintro i c ys H2 hc hl ⟨rfl,rfl⟩
   have hi:i<z.length:=by
    have:=(List.getElem?_eq_some_iff.mp hc).1
    simpa [Str.length] using this
   refine⟨_,rfl,_,_,rfl,rfl,?_⟩
   rw[PySem.StrLaws.found_one]
   refine fm hi hl ⟨rfl,?_⟩
   rw[List.take_succ,hc,List.map_append]
   rfl
  ·rintro ys H2 hl ⟨rfl,rfl⟩ D hD
   refine⟨D,(z.cps.toList.map λc=>decide (c∈(Str.ofString "abcdefghijklmnopqrstuvwxyz").cps.toList)),rfl,aY.of (by rw[af,List.take_of_length_le (by simp[Str.length]),List.map_map];rfl),?_⟩
   have:=q _ (ao.upd (o:=.lst (((z.cps.toList.take z.length)).map λc=>V.bl (decide (c∈(Str.ofString "abcdefghijklmnopqrstuvwxyz").cps.toList)))) hD)
   rw[isName,decide_eq_true h1,decide_eq_true h2] at this
   rw[List.all_map]
   exact this
def cf (row:Int) (lw:Addr) (i:Nat):List (Str×V):=[("row",.int row),("words",.ref lw),("at",.int i)]
structure mh(t:eS)(H:Hp)(p dx lw:Addr)(row:Int)(ws:List Str)(i:Nat):Prop where
 ob:H p=some (.ins t.cV dx (cf row lw i))
 ls:H lw=some (.lst (ws.map V.str))
 sz:ws.length<=1000/\∀w∈ws,w.length<=100000
theorem mh.ne{H:Hp}{p dx lw:Addr}{row:Int}{ws:List Str}{i:Nat}(c:mh t H p dx lw row ws i):p≠lw:=cA c.ob c.ls (by intro z;cases z)
theorem mh.same{H H':Hp}{p dx lw:Addr}{row:Int}{ws:List Str}{i:Nat}(c:mh t H p dx lw row ws i)(s:ao H H'):mh t H' p dx lw row ws i:=⟨s _ _ c.ob,s _ _ c.ls,c.sz⟩
def pk (ws:List Str) (i:Nat):Str:=ws.getD i ""
theorem JM{ws:List Str}{i:Nat}(h:i<ws.length):pk ws i=ws[i]:=by simp[pk,h]
theorem L5 {ws:List Str} {i:Nat} (h:ws.length<=i):pk ws i = "" := by
 unfold pk
 rw[List.getD_eq_getElem?_getD,List.getElem?_eq_none h]
 rfl
theorem mh.pkl{H:Hp}{p dx lw:Addr}{row:Int}{ws:List Str}{i:Nat}(c:mh t H p dx lw row ws i):(pk ws i).length<=100000:=by
 by_cases h:i<ws.length
 ·rw[JM h];exact c.sz.2 _ (List.getElem_mem h)
 ·rw[L5 (by lia)];decide
noncomputable def Io(t:eS):Sp:=λvs H Q _=>∃(p dx:Addr) (row:Int) (text:Str),vs=[.ref p,.int row,.str text]/\H p=some (.ins t.cV dx [])/\text.length<=100000/\(PySem.Txt.split text ⟨#[32]⟩).length<=1000 /\
 ∀lw H',H lw=none->mh t H' p dx lw row (PySem.Txt.split text ⟨#[32]⟩) 0->fV H H' p->Q .cu H'
theorem R3 (T:Txt K mg t):aZ P w K mg base c7 1 t.Rt t.T6 ["self","row","text"] (Io t):=by
 refine T.Ud.ok TL ?_ ?_
 walk_at "i"
 ·obtain⟨p,dx,row,text,rfl,hp,hz,hn,q⟩:=h
  refine au (bF (pv 0) (pv 1) rfl) ⟨_,rfl,_,rfl,p,_,dx,[],rfl,hp,T.aO,T.mw,by decide,?_⟩
  refine au (bF (pv 0) (c5 F.plainAttrs_str F.slot_str_split F.type_str_split jh (pv 2) (aa aJ ai)) rfl) ?_
  refine⟨_,rfl,rfl,_,_,rfl,rfl,by decide,bI (by lia),λlw hl=>⟨_,rfl,p,_,dx,[("row",.int row)],rfl,?_,T.aO,T.iM,by show 1<1000;decide,?_⟩⟩
  ·rw[aj (ak af hl)];exact af
  have npl:p≠lw:=ak af hl
  refine ay (bF (pv 0) aB rfl) ⟨_,rfl,p,_,dx,[("row",.int row),("words",.ref lw)],rfl,af,T.aO,T.gU,by show 2<1000;decide,?_⟩
  have hl0:H lw=none:=by rw[aj (Ne.symm npl)] at hl;exact hl
  refine q lw _ hl0 ⟨af,?_,hn,λw hw=>Nat.le_trans (PyProof.Rows.part_short hw) hz⟩ λb o hb nb=>?_
  ·rw[aj (Ne.symm npl),aj (Ne.symm npl),af];rfl
  ·rw[aj nb,aj nb,aj (ak hb hl0),aj nb];exact hb
noncomputable def O2(t:eS):Sp:=λvs H Q _=>∃(p dx lw:Addr) (row:Int) (ws:List Str) (i:Nat),vs=[.ref p]/\mh t H p dx lw row ws i/\Q (.bl (decide (i<ws.length))) H
theorem zH (T:Txt K mg t):aZ P w K mg base c7 1 t.OD t.Ss ["self"] (O2 t):=by
 refine T.CO.ok SR ?_ ?_
 walk_at "i"
 ·obtain⟨p,dx,lw,row,ws,i,rfl,C,q⟩:=h
  refine ay (aG (ef gx (aF (pv 0) rfl) (aK aP (by rfl) T.bU (by decide +kernel) (aa (aF (pv 0) rfl) ai)) (aC _))) ?_
  simp only[Pq,O8,Uv,G6,Bk]
  refine Jm rfl C.ob T.aO T.gU rfl ?_
  refine Jm rfl C.ob T.aO T.iM rfl ?_
  refine⟨_,_,rfl,.inl (aY.of C.ls),_,_,rfl,rfl,?_⟩
  rw[List.length_map]
  have e:decide ((i:Int)<(ws.length:Int))=decide (i<ws.length):=by simp
  show Q (.bl (decide ((i:Int)<(ws.length:Int)))) H
  rw[e]
  exact q
noncomputable def Ng(t:eS):Sp:=λvs H Q _=>∃(p dx lw:Addr) (row:Int) (ws:List Str) (i:Nat),vs=[.ref p]/\mh t H p dx lw row ws i/\Q (.str (pk ws i)) H
theorem qX (T:Txt K mg t):aZ P w K mg base c7 2 t.Rc t.R7 ["self"] (Ng t):=by
 refine T.wC.ok Sq ?_ ?_
 walk_at "i"
 ·obtain⟨p,dx,lw,row,ws,i,rfl,C,q⟩:=h
  refine ay (aG (bH (iF (bA (pv 0) T.aO T.I9 (zH T) hr.m (T.CO.binds (by walk_at "1")) .nil aE)) (bw bq (aF (pv 0) rfl) (aF (pv 0) rfl) (λ_ _=>rfl)) aJ)) ?_
  refine⟨_,rfl,p,dx,_,rfl,C.ob,rfl,p,dx,lw,row,ws,i,rfl,C,_,rfl,dR (λh=>?_) (λh=>?_)⟩
  ·refine Jm rfl C.ob T.aO T.iM rfl ?_
   refine Jm rfl C.ob T.aO T.gU rfl ?_
   refine⟨_,_,_,.str (pk ws i),rfl,rfl,aY.of C.ls,bM ?_,q⟩
   rw[List.getElem?_map,List.getElem?_eq_getElem h,JM h]
   rfl
  ·rw[L5 (by lia)] at q
   exact q
noncomputable def Uh:Sp:=λvs H Q _=>∃p:V,vs=[p,.bl true]/\Q .cu H
theorem rO (T:Txt K mg t):aZ P w K mg base c7 1 t.O5 t.SV ["self","good"] Uh:=by
 refine T.zq.ok Tc ?_ ?_
 walk_at "i"
 ·obtain⟨p,rfl,q⟩:=h
  refine ay (aX (l0 (iF (pv 1))) av av) ⟨_,rfl,true,rfl,kj (aU q)⟩
noncomputable def Qj(t:eS):Sp:=λvs H Q _=>∃(p dx lw:Addr) (row:Int) (ws:List Str) (i:Nat),vs=[.ref p,.bl true]/\mh t H p dx lw row ws i/\∀H',mh t H' p dx lw row ws (i+1)->fV H H' p->Q (.str (pk ws i)) H'
theorem Ce (T:Txt K mg t):aZ P w K mg base c7 3 t.PJ t.Tr ["self","good"] (Qj t):=by
 refine T.Hv.ok Kh ?_ ?_
 walk_at "i"
 ·obtain⟨p,dx,lw,row,ws,i,rfl,C,q⟩:=h
  refine au (bG (bz (pv 0) T.aO T.AU (rO T) hr.m (T.zq.binds (by walk_at "2")) .nil aE (aa (pv 1) ai))) ⟨_,rfl,p,dx,_,rfl,C.ob,rfl,_,rfl,_,rfl,?_⟩
  refine au (dW 2 Kh (bA (pv 0) T.aO T.xA (qX T) hr.m (T.wC.binds (by walk_at "1")) .nil aE)) ⟨_,rfl,p,dx,_,rfl,C.ob,rfl,p,dx,lw,row,ws,i,rfl,C,?_⟩
  refine au (Bc (pv 0) aB NS) ⟨_,rfl,p,_,dx,_,_,rfl,C.ob,T.aO,T.gU,rfl,?_⟩
  refine⟨_,_,rfl,rfl,dx,_,C.ob,by show 3<1000;decide,?_⟩
  refine ay (aG (pv 2)) ⟨_,rfl,?_⟩
  have C':mh t (upd H p (.ins t.cV dx (cf row lw (i+1)))) p dx lw row ws (i+1):=⟨af,by rw[aj (Ne.symm C.ne)];exact C.ls,C.sz⟩
  exact q _ C' fV.upd
noncomputable def GO(K:PySem.W.Frag)(t:eS):Sp:=λvs H Q _=>∃(p dx lw c:Addr) (cs:List Str) (row:Int) (ws:List Str) (i:Nat),vs=[.ref p,.ref c]/\mh t H p dx lw row ws i/\fN K H c (cs.map V.str)/\pk ws i∈cs/\∀H',mh t H' p dx lw row ws (i+1)->fV H H' p->Q (.str (pk ws i)) H'
theorem jR{x:Str}{cs:List Str}:yi (.str x) (cs.map V.str)=decide (x∈cs):=by
 unfold yi
 rw[List.any_map,Bool.eq_iff_iff,List.any_eq_true,decide_eq_true_eq]
 constructor
 ·rintro⟨y,hy,e⟩
  have:(y == x)=true:=e
  rw[← eq_of_beq this];exact hy
 ·intro h
  exact⟨x,h,by show (x == x)=true;simp⟩
theorem sV{cs:List Str}:(cs.map V.str).all j8=true:=by
 rw[List.all_map,List.all_eq_true]
 intro _ _
 rfl
theorem AD (T:Txt K mg t):aZ P w K mg base c7 4 t.Qp t.Tp ["self","words"] (GO K t):=by
 refine T.Dc.ok T4 ?_ ?_
 walk_at "i"
 ·obtain⟨p,dx,lw,c,cs,row,ws,i,rfl,C,hc,hin,q⟩:=h
  refine ay (aG (bz (pv 0) T.aO T.Pb (Ce T) hr.m (T.Hv.binds (by walk_at "2")) .nil aE (aa (ef fT (bA (pv 0) T.aO T.xA (qX T) hr.m (T.wC.binds (by walk_at "1")) .nil aE) (pv 1) rfl) ai))) ?_
  refine⟨_,rfl,p,dx,_,rfl,C.ob,rfl,?_⟩
  refine⟨_,rfl,p,dx,_,rfl,C.ob,rfl,p,dx,lw,row,ws,i,rfl,C,_,rfl,_,_,rfl,.inr hc,rfl,sV,?_⟩
  rw[jR,decide_eq_true hin]
  exact⟨p,dx,lw,row,ws,i,rfl,C,q⟩
noncomputable def OH(t:eS):Sp:=λvs H Q _=>∃(p dx lw:Addr) (row:Int) (ws:List Str) (i:Nat),vs=[.ref p]/\mh t H p dx lw row ws i/\isName (pk ws i)=true/\∀H',mh t H' p dx lw row ws (i+1)->fV H H' p->Q (.str (pk ws i)) H'
theorem zI (T:Txt K mg t):aZ P w K mg base c7 4 t.Pp t.S0 ["self"] (OH t):=by
 refine T.Hh.ok RH ?_ ?_
 walk_at "i"
 ·obtain⟨p,dx,lw,row,ws,i,rfl,C,hin,q⟩:=h
  refine ay (aG (bz (pv 0) T.aO T.Pb (Ce T) hr.m (T.Hv.binds (by walk_at "2")) .nil aE (aa (aQ (PN T) hr.m rfl T.Oi T.E5.kp (T.E5.binds (by walk_at "1")) .nil aE (aa (bA (pv 0) T.aO T.xA (qX T) hr.m (T.wC.binds (by walk_at "1")) .nil aE) ai)) ai))) ?_
  refine⟨_,rfl,p,dx,_,rfl,C.ob,rfl,?_⟩
  refine⟨_,rfl,p,dx,_,rfl,C.ob,rfl,p,dx,lw,row,ws,i,rfl,C,pk ws i,rfl,C.pkl,λH1 s1=>?_⟩
  rw[hin]
  exact⟨p,dx,lw,row,ws,i,rfl,C.same s1,λH2 C2 a2=>q H2 C2 (s1.Hq a2)⟩
def i8 (z:Str):Str:="'" ++ PySem.Txt.replace z " " "_"
theorem gy(z:Str):(i8 z).cps.toList=39::jT 32 95 z.cps.toList:=by
 unfold i8
 rw[eT,show ((" " : Str))=⟨#[32]⟩ from by decide +kernel,show (("_" : Str))=⟨#[95]⟩ from by decide +kernel,jL]
 rfl
noncomputable def Ir(t:eS):Sp:=λvs H Q _=>∃(p dx lw:Addr) (row:Int) (ws:List Str) (i:Nat) (z:Str),vs=[.ref p]/\mh t H p dx lw row ws i/\pk ws i=i8 z/\1<=z.length/\z.length<=1000/\95∉z.cps.toList/\∀H',mh t H' p dx lw row ws (i+1)->fV H H' p->Q (.str z) H'
theorem NJ{w:Str}(h:1<=w.length):(PySem.Txt.slice w (some 1) none).cps.toList=w.cps.toList.drop 1:=by
 rw[PyProof.Rows.slice_from_eq (b:=(w.length:Int)) (by decide) (by lia) rfl]
 show (w.cps.toList.drop 1).take _=_
 refine List.take_of_length_le ?_
 rw[List.length_drop,Array.length_toList]
 show w.length-1<=_
 lia
theorem RJ (T:Txt K mg t):aZ P w K mg base c7 4 t.NU t.Tv ["self"] (Ir t):=by
 refine T.RI.ok MA ?_ ?_
 walk_at "i"
 ·obtain⟨p,dx,lw,row,ws,i,z,rfl,C,hw,hz1,hz2,hz3,q⟩:=h
  have hlen:(i8 z).length=z.length+1:=by
   have:=congrArg List.length (gy z)
   simpa [Str.length,jT] using this
  refine au (dW 1 MA (bA (pv 0) T.aO T.xA (qX T) hr.m (T.wC.binds (by walk_at "1")) .nil aE)) ⟨_,rfl,p,dx,_,rfl,C.ob,rfl,p,dx,lw,row,ws,i,rfl,C,?_⟩
  rw[hw]
  refine au (bG (bz (pv 0) T.aO T.Pb (Ce T) hr.m (T.Hv.binds (by walk_at "2")) .nil aE (aa (EB (ef jG (aK bf (by rfl) T.bU (by decide +kernel) (aa (pv 1) ai)) aB (aC _)) (yy (c5 F.plainAttrs_str F.slot_str_startswith F.type_str_startswith pG (pv 1) (aa aJ ai)))) ai))) ?_
  refine⟨_,rfl,p,dx,_,rfl,C.ob,rfl,?_⟩
  refine⟨_,rfl,_,rfl,bI (by lia),_,_,rfl,rfl,_,rfl,?_⟩
  rw[decide_eq_true (by lia),if_pos rfl]
  refine⟨_,rfl,rfl,_,_,rfl,rfl,?_⟩
  have hst:(decide (0+("'" : Str).length<=(i8 z).length) && Builtin.Str.subAt (i8 z) "'" 0)=true:=by
   have e1:("'" : Str).length=1:=by decide +kernel
   rw[Bool.and_eq_true,decide_eq_true_eq,e1]
   refine⟨by lia,?_⟩
   unfold Builtin.Str.subAt
   rw[beq_iff_eq,← Array.toList_inj,e1]
   have e2:=gy z
   simp only[Array.toList_extract,List.extract_eq_take_drop,e2]
   rfl
  rw[hst]
  refine⟨p,dx,lw,row,ws,i,rfl,C,λH1 C1 a1=>?_⟩
  refine ay (aG (yx (by decide +kernel) (pv 1))) ⟨_,rfl,_,rfl,bI (by lia),_,rfl,?_,?_⟩
  ·have h1:(PySem.Txt.slice (i8 z) (some 1) none).length<=1001:=Nat.le_trans (PySem.Txt.slice_le _ _ _) (by lia)
   have h2:(" " : Str).length=1:=by decide +kernel
   rw[h2]
   lia
  ·have e:PySem.Txt.replace (PySem.Txt.slice (i8 z) (some 1) none) "_" " " = z:=by
    refine jB ?_
    rw[show ((" " : Str))=⟨#[32]⟩ from by decide +kernel,show (("_" : Str))=⟨#[95]⟩ from by decide +kernel,jL,NJ (by lia),gy]
    exact BJ hz3
   rw[e]
   exact q H1 C1 a1
end
local macro_rules | `(tactic| walk_at "u")=>`(tactic| first | rfl | decide | exact Or.inl rfl | exact Or.inr rfl | exact Or.inr (Or.inl rfl) | exact Or.inr (Or.inr rfl) | assumption | (intro _;rfl) | exact wu _ (by decide) (by decide))
section
variable {P:Program}{w:World}{K:PySem.W.Frag}{mg:Str->Option Value}{base:Heap}{t:eS}
def ja(sg:List Nat):List Nat->Nat
 | []=>0
 |c::r=>if c∈sg then 1+ja sg r else 0
def cR(sort signs row:Str)(i:Nat):V :=
 if sort = "end" then (if i=row.length then .int 0 else .cu)
 else if sort = "word" then (if (row.cps.toList.drop i).take signs.length=signs.cps.toList then .int signs.length else .cu)
 else match row.cps.toList[i]? with
  |none=>.cu
  |some c =>
   if sort = "any" ∨ sort = "still" then .int (if sort = "any" then 1 else 0)
   else if sort = "none" then (if c∈signs.cps.toList then .cu else .int 1)
   else if c∈signs.cps.toList then .int (if sort = "many" then 1+ja signs.cps.toList (row.cps.toList.drop (i+1)) else 1) else .cu
theorem getL{row:Str}{i:Nat}:row.cps.toList.length=row.length:=by simp[Str.length]
theorem strAt{row:Str}{i:Int}(h0:0<=i)(h1:i<row.length):∃c,row.cps.toList[i.toNat]?=some c/\wL row.cps.toList i=some c:=xK _ h0 (by rw[getL (i:=0)];exact h1)
noncomputable def n8(C:Addr)(fl:Str->List (Str×V))(sort:Str):Sp:=λvs H Q _=>∃(p dx:Addr) (signs row:Str) (i:Nat),vs=[.ref p,.str row,.int i]/\H p=some (.ins C dx (fl signs))/\signs.length<=1000/\row.length<=1000/\i<=row.length/\Q (cR sort signs row i) H
noncomputable def lM(b:Bool):Sp:=λvs H Q _=>∃p:V,vs=[p]/\Q (.bl b) H
noncomputable def ur(C:Addr)(f:Str):Sp:=λvs H Q _=>∃(p dx:Addr) (z:Str),vs=[.ref p,.str z]/\H p=some (.ins C dx [])/\Q .cu (upd H p (.ins C dx [(f,.str z)]))
theorem OO (T:Txt K mg t):aZ P w K mg base c7 1 t.CM t.Lu ["self","text"] (ur t.dF "wanted"):=by
 refine T.Mr.ok NP ?_ ?_
 walk_at "i"
 ·obtain⟨p,dx,z,rfl,hp,q⟩:=h
  refine ay (bF (pv 0) (pv 1) rfl) ?_
  exact⟨_,rfl,_,rfl,p,_,dx,[],rfl,hp,T.mV,T.gI,by decide,q⟩
theorem NF (T:Txt K mg t):aZ P w K mg base c7 1 t.Dk t.Lf ["self","signs"] (ur t.iZ "signs"):=by
 refine T.LO.ok Po ?_ ?_
 walk_at "i"
 ·obtain⟨p,dx,z,rfl,hp,q⟩:=h
  refine ay (bF (pv 0) (pv 1) rfl) ?_
  exact⟨_,rfl,_,rfl,p,_,dx,[],rfl,hp,T.xY,T.oF,by decide,q⟩
theorem P4 (T:Txt K mg t):aZ P w K mg base c7 1 t.Fv t.Ld ["self","signs"] (ur t.cM "signs"):=by
 refine T.My.ok Nj ?_ ?_
 walk_at "i"
 ·obtain⟨p,dx,z,rfl,hp,q⟩:=h
  refine ay (bF (pv 0) (pv 1) rfl) ?_
  exact⟨_,rfl,_,rfl,p,_,dx,[],rfl,hp,T.lW,T.jJ,by decide,q⟩
theorem Pn (T:Txt K mg t):aZ P w K mg base c7 1 t.BX t.Lk ["self","signs"] (ur t.fW "signs"):=by
 refine T.Ml.ok Qd ?_ ?_
 walk_at "i"
 ·obtain⟨p,dx,z,rfl,hp,q⟩:=h
  refine ay (bF (pv 0) (pv 1) rfl) ?_
  exact⟨_,rfl,_,rfl,p,_,dx,[],rfl,hp,T.uu,T.mZ,by decide,q⟩
theorem Ep (T:Txt K mg t):aZ P w K mg base c7 1 t.sI t.Ay ["self"] (lM false):=by
 refine T.Co.ok Qo ?_ ?_
 walk_at "i"
 ·obtain⟨p,rfl,q⟩:=h
  exact ay (aG j9) q
theorem Qy (T:Txt K mg t):aZ P w K mg base c7 1 t.zY t.Cz ["self"] (lM true):=by
 refine T.Ke.ok NL ?_ ?_
 walk_at "i"
 ·obtain⟨p,rfl,q⟩:=h
  exact ay (aG j9) q
theorem Nl (T:Txt K mg t):aZ P w K mg base c7 1 t.zy t.Fx ["self"] (lM true):=by
 refine T.Lc.ok Qf ?_ ?_
 walk_at "i"
 ·obtain⟨p,rfl,q⟩:=h
  exact ay (aG j9) q
theorem Rm (T:Txt K mg t):aZ P w K mg base c7 1 t.zG t.BZ ["self"] (lM true):=by
 refine T.JQ.ok Na ?_ ?_
 walk_at "i"
 ·obtain⟨p,rfl,q⟩:=h
  exact ay (aG j9) q
theorem OF (T:Txt K mg t):aZ P w K mg base c7 1 t.Aa t.CB ["self"] (lM true):=by
 refine T.Lx.ok PX ?_ ?_
 walk_at "i"
 ·obtain⟨p,rfl,q⟩:=h
  exact ay (aG j9) q
theorem SJ (T:Txt K mg t):aZ P w K mg base c7 1 t.IF t.QN ["self"] (lM true):=by
 refine T.RW.ok Tg ?_ ?_
 walk_at "i"
 ·obtain⟨p,rfl,q⟩:=h
  exact ay (aG j9) q
theorem AN{row sg:Str}{i:Nat}(hi:i<=row.length):(decide (fromIndex row.length (i:Int)+sg.length<=row.length) && Builtin.Str.subAt row sg (fromIndex row.length (i:Int)))=decide ((row.cps.toList.drop i).take sg.length=sg.cps.toList):=by
 have e:fromIndex row.length (i:Int)=i:=by unfold fromIndex;rw[if_neg (by lia)];lia
 rw[e]
 have e2:Builtin.Str.subAt row sg i=decide ((row.cps.toList.drop i).take sg.length=sg.cps.toList):=by
  unfold Builtin.Str.subAt
  rw[Bool.eq_iff_iff,beq_iff_eq,decide_eq_true_eq]
  rw[← Array.toList_inj]
  simp[Array.toList_extract,List.extract_eq_take_drop]
 rw[e2,Bool.eq_iff_iff,Bool.and_eq_true,decide_eq_true_eq,decide_eq_true_eq]
 refine⟨λz=>z.2,λz=>⟨?_,z⟩⟩
 have:=congrArg List.length z
 rw[List.length_take,List.length_drop,getL (i:=0),getL (i:=0)] at this
 lia
theorem PB (T:Txt K mg t):aZ P w K mg base c7 1 t.zE t.EM ["self","row","at"] (n8 t.dF (λz=>[("wanted",.str z)]) "word"):=by
 refine T.LY.ok Qg ?_ ?_
 walk_at "i"
 ·obtain⟨p,dx,sg,row,i,rfl,hp,hs,hw,hi,q⟩:=h
  refine ay (aG (bH (iF (c5 F.plainAttrs_str F.slot_str_startswith F.type_str_startswith w6 (pv 1) (aa (aF (pv 0) rfl) (aa (pv 2) ai)))) (aK bf (by rfl) T.bU (by decide +kernel) (aa (aF (pv 0) rfl) ai)) bB)) ?_
  rw[cR,if_neg (by decide),if_pos rfl] at q
  refine⟨_,rfl,rfl,_,rfl,p,_,dx,_,_,rfl,hp,T.mV,T.gI,rfl,_,rfl,_,_,_,rfl,rfl,_,rfl,?_⟩
  rw[AN hi]
  refine dR (λh=>?_) (λh=>?_)
  ·rw[if_pos h] at q
   exact⟨_,rfl,p,_,dx,_,_,rfl,hp,T.mV,T.gI,rfl,_,rfl,bI (by lia),q⟩
  ·rw[if_neg h] at q
   exact q
theorem gk {sort sg row:Str} {i c:Nat} (h1:sort ≠ "end") (h2:sort ≠ "word") (e:row.cps.toList[i]?=some c):cR sort sg row i=if sort = "any" ∨ sort = "still" then .int (if sort = "any" then 1 else 0)
   else if sort = "none" then (if c∈sg.cps.toList then .cu else .int 1)
   else if c∈sg.cps.toList then .int (if sort = "many" then 1+ja sg.cps.toList (row.cps.toList.drop (i+1)) else 1) else .cu:=by
 rw[cR,if_neg h1,if_neg h2,e]
theorem gS {sort sg row:Str} {i:Nat} (h1:sort ≠ "end") (h2:sort ≠ "word") (h:row.length<=i):cR sort sg row i = .cu:=by
 rw[cR,if_neg h1,if_neg h2,List.getElem?_eq_none (by rw[getL (i:=0)];exact h)]
theorem Qk (T:Txt K mg t):aZ P w K mg base c7 1 t.Am t.CH ["self","row","at"] (n8 t.iZ (λz=>[("signs",.str z)]) "one"):=by
 refine T.LU.ok Nh ?_ ?_
 walk_at "i"
 ·obtain⟨p,dx,sg,row,i,rfl,hp,hs,hw,hi,q⟩:=h
  refine ay (aG (bH (PW.pt (ic (az gx (pv 2) (aK bf (by rfl) T.bU (by decide +kernel) (aa (pv 1) ai)) (aC _)) (gF (az ji (bw lD (pv 1) (pv 2) (λ_ _=>rfl)) (aF (pv 0) rfl) rfl)))) aB bB)) ?_
  walk_at "rd"
  refine⟨bI (by lia),dR (λh=>?_) (λh=>?_)⟩
  ·obtain⟨c,e1,e2⟩:=strAt (row:=row) (i:=(i:Int)) (by lia) h
   rw[Int.toNat_natCast] at e1
   refine⟨bI (by lia),c,e2,⟨_,rfl,_,_,_,_,_,rfl,hp,T.xY,T.oF,rfl,⟨sg,rfl,?_⟩⟩⟩
   rw[PySem.StrLaws.found_one]
   rw[gk (by decide) (by decide) e1,if_neg (by decide),if_neg (by decide)] at q
   refine dR (λh=>?_) (λh=>?_)
   ·rw[if_pos h,if_neg (by decide)] at q
    exact q
   ·rw[if_neg h] at q
    exact q
  ·rw[gS (by decide) (by decide) (by lia)] at q
   exact q
theorem O1 (T:Txt K mg t):aZ P w K mg base c7 1 t.AA t.Dj ["self","row","at"] (n8 t.cM (λz=>[("signs",.str z)]) "none"):=by
 refine T.La.ok NB ?_ ?_
 walk_at "i"
 ·obtain⟨p,dx,sg,row,i,rfl,hp,hs,hw,hi,q⟩:=h
  refine ay (aG (bH (PW.pt (ic (az gx (pv 2) (aK bf (by rfl) T.bU (by decide +kernel) (aa (pv 1) ai)) (aC _)) (gF (az ir (bw lD (pv 1) (pv 2) (λ_ _=>rfl)) (aF (pv 0) rfl) rfl)))) aB bB)) ?_
  walk_at "rd"
  refine⟨bI (by lia),dR (λh=>?_) (λh=>?_)⟩
  ·obtain⟨c,e1,e2⟩:=strAt (row:=row) (i:=(i:Int)) (by lia) h
   rw[Int.toNat_natCast] at e1
   refine⟨bI (by lia),c,e2,⟨_,rfl,_,_,_,_,_,rfl,hp,T.lW,T.jJ,rfl,⟨sg,rfl,?_⟩⟩⟩
   rw[PySem.StrLaws.found_one]
   rw[gk (by decide) (by decide) e1,if_neg (by decide),if_pos rfl] at q
   refine jA (λh=>?_) (λh=>?_)
   ·rw[if_neg h] at q
    exact q
   ·rw[if_pos h] at q
    exact q
  ·rw[gS (by decide) (by decide) (by lia)] at q
   exact q
theorem TV (T:Txt K mg t):aZ P w K mg base c7 1 t.Jj t.QX ["self","row","at"] (n8 t.jE (λz=>[]) "any"):=by
 refine T.TH.ok RX ?_ ?_
 walk_at "i"
 ·obtain⟨p,dx,sg,row,i,rfl,hp,hs,hw,hi,q⟩:=h
  refine ay (aG (bH (az gx (pv 2) (aK bf (by rfl) T.bU (by decide +kernel) (aa (pv 1) ai)) (aC _)) aB bB)) ?_
  walk_at "rd"
  refine⟨bI (by lia),dR (λh=>?_) (λh=>?_)⟩
  ·obtain⟨c,e1,e2⟩:=strAt (row:=row) (i:=(i:Int)) (by lia) h
   rw[Int.toNat_natCast] at e1
   rw[gk (by decide) (by decide) e1,if_pos (by decide),if_pos rfl] at q
   exact q
  ·rw[gS (by decide) (by decide) (by lia)] at q
   exact q
theorem Qh (T:Txt K mg t):aZ P w K mg base c7 1 t.Ar t.F5 ["self","row","at"] (n8 t.fP (λz=>[]) "still"):=by
 refine T.Ly.ok Q5 ?_ ?_
 walk_at "i"
 ·obtain⟨p,dx,sg,row,i,rfl,hp,hs,hw,hi,q⟩:=h
  refine ay (aG (bH (az gx (pv 2) (aK bf (by rfl) T.bU (by decide +kernel) (aa (pv 1) ai)) (aC _)) aB bB)) ?_
  walk_at "rd"
  refine⟨bI (by lia),dR (λh=>?_) (λh=>?_)⟩
  ·obtain⟨c,e1,e2⟩:=strAt (row:=row) (i:=(i:Int)) (by lia) h
   rw[Int.toNat_natCast] at e1
   rw[gk (by decide) (by decide) e1,if_pos (by decide),if_neg (by decide)] at q
   exact q
  ·rw[gS (by decide) (by decide) (by lia)] at q
   exact q
theorem O4 (T:Txt K mg t):aZ P w K mg base c7 1 t.zF t.E9 ["self","row","at"] (n8 t.jF (λz=>[]) "end"):=by
 refine T.MH.ok QL ?_ ?_
 walk_at "i"
 ·obtain⟨p,dx,sg,row,i,rfl,hp,hs,hw,hi,q⟩:=h
  refine ay (aG (bH (az bS (pv 2) (aK bf (by rfl) T.bU (by decide +kernel) (aa (pv 1) ai)) (aC _)) aB bB)) ?_
  walk_at "rd"
  rw[cR,if_pos rfl] at q
  refine⟨bI (by lia),rfl,dR (λh=>?_) (λh=>?_)⟩
  ·rw[if_pos (by lia)] at q
   exact q
  ·rw[if_neg (by lia)] at q
   exact q
theorem qR{sg l:List Nat}{j c:Nat}(e:l[j]?=some c):ja sg (l.drop j)=if c∈sg then 1+ja sg (l.drop (j+1)) else 0:=by
 have hdrop:l.drop j=c::l.drop (j+1):=by
  rw[List.drop_eq_getElem?_toList_append,e];rfl
 rw[hdrop,ja]
theorem QE (T:Txt K mg t):aZ P w K mg base c7 1 t.Ak t.Gj ["self","row","at"] (n8 t.fW (λz=>[("signs",.str z)]) "many"):=by
 refine T.KR.ok zk ?_ ?_
 walk_at "i"
 ·obtain⟨p,dx,sg,row,i,rfl,hp,hs,hw,hi,q⟩:=h
  have q':Q (if 0<ja sg.cps.toList (row.cps.toList.drop i) then .int (ja sg.cps.toList (row.cps.toList.drop i)) else .cu) H:=by
   by_cases h:i<row.length
   ·obtain⟨c,e1,e2⟩:=strAt (row:=row) (i:=(i:Int)) (by lia) (by lia)
    rw[Int.toNat_natCast] at e1
    rw[gk (by decide) (by decide) e1,if_neg (by decide),if_neg (by decide),if_pos rfl] at q
    rw[qR e1]
    by_cases h2:c∈sg.cps.toList
    ·rw[if_pos h2] at q ⊢
     rw[if_pos (by lia)]
     exact q
    ·rw[if_neg h2] at q ⊢
     exact q
   ·rw[gS (by decide) (by decide) (by lia)] at q
    have:row.cps.toList.drop i=[]:=List.drop_eq_nil_of_le (by rw[getL (i:=0)];lia)
    rw[this]
    exact q
  refine au (dW 3 zk (pv 2)) ?_
  walk_at "rd"
  refine aI (λZ' H'=>H'=H/\Z'=[some (.ref p),some (.str row),some (.int i),some (.int ((i:Int)+ja sg.cps.toList (row.cps.toList.drop i)))]) (jO PassesOwn.never (PW.pt (ic (az gx (pv 3) (aK bf (by rfl) T.bU (by decide +kernel) (aa (pv 1) ai)) (aC _)) (gF (az ji (bw lD (pv 1) (pv 3) (λ_ _=>rfl)) (aF (pv 0) rfl) rfl)))) av) ?_ ?_
  ·refine⟨λm Z' H'=>∃j:Nat,Z'=[some (.ref p),some (.str row),some (.int i),some (.int (j:Int))]/\H'=H/\j<=row.length/\m=row.length-j/\i+ja sg.cps.toList (row.cps.toList.drop i)=j+ja sg.cps.toList (row.cps.toList.drop j),⟨_,i,rfl,rfl,hi,rfl,rfl⟩,?_⟩
   rintro m Z' H' ⟨j,rfl,e,hj,rfl,hr⟩
   rw[e]
   clear e H'
   walk_at "rd"
   refine⟨bI (by lia),dR (λh=>?_) (λh=>?_)⟩
   ·obtain⟨c,e1,e2⟩:=strAt (row:=row) (i:=(j:Int)) (by lia) h
    rw[Int.toNat_natCast] at e1
    rw[qR (j:=j) e1] at hr
    refine⟨bI (by lia),c,e2,⟨_,rfl,_,_,_,_,_,rfl,hp,T.uu,T.mZ,rfl,⟨sg,rfl,?_⟩⟩⟩
    rw[PySem.StrLaws.found_one]
    refine dR (λh2=>?_) (λh2=>?_)
    ·rw[if_pos h2] at hr
     refine⟨_,λZ' H' z=>z,ay (yZ (i:=3) zk.nd rfl (Or.inl rfl) aB yV) ?_⟩
     walk_at "rd"
     exact⟨row.length-(j+1),by lia,j+1,by simp,by lia,rfl,by lia⟩
    ·rw[if_neg h2] at hr
     refine⟨rfl,?_⟩
     rw[show (i:Int)+(ja sg.cps.toList (row.cps.toList.drop i):Nat)=(j:Int) by lia]
   ·have:row.cps.toList.drop j=[]:=List.drop_eq_nil_of_le (by rw[getL (i:=0)];lia)
    rw[this,ja] at hr
    lia
  rintro Z' H' ⟨e,rfl⟩
  rw[e]
  clear e H'
  refine ay (aG (bH (az jG (pv 3) (pv 2) (aC _)) (aW jN (pv 3) (pv 2)) bB)) ?_
  walk_at "rd"
  refine dR (λh=>?_) (λh=>?_)
  ·rw[if_pos (by lia)] at q'
   rw[show (i:Int)+(ja sg.cps.toList (row.cps.toList.drop i):Nat)-i=ja sg.cps.toList (row.cps.toList.drop i) by lia]
   exact q'
  ·rw[if_neg (by lia)] at q'
   exact q'
theorem lS(sort sg row:Str)(i:Nat):(∃n:Int,cR sort sg row i = .int n)∨cR sort sg row i = .cu:=by
 unfold cR
 repeat' split
 all_goals first | exact .inl ⟨_,rfl⟩ | exact .inr rfl
def bY (sort:Str):Bool:=!decide (sort = "still" ∨ sort = "end")
structure uU(P:Program)(w:World)(K:PySem.W.Frag)(mg:Str->Option Value)(base:Heap)(C fe fs:Addr)(de ds:FuncData)(sort:Str)(fl:Str->List (Str×V)):Prop where
 cl:lK K C
 me:Meth K C "eaten" fe
 ms:Meth K C "eats" fs
 ne:∀z,(fl z).lookup ("eaten" : Str)=none
 ns:∀z,(fl z).lookup ("eats" : Str)=none
 ge:aZ P w K mg base c7 1 fe de ["self","row","at"] (n8 C fl sort)
 be:Binds K de ["self","row","at"] []
 gs:aZ P w K mg base c7 1 fs ds ["self"] (lM (bY sort))
 bs:Binds K ds ["self"] []
 ty:PySem.W.findIn K (.ref C) "__class__" = some (some (.builtin "object.__class__"))
 mr:PySem.W.mroIn K C (.type "object")=some true
theorem Iz (T:Txt K mg t):uU P w K mg base t.dF t.zE t.zY t.EM t.Cz "word" (λz=>[("wanted",.str z)]) :=
 ⟨T.mV,T.RD,T.RA,λ_=>by rfl,λ_=>by rfl,PB T,T.LY.binds (by walk_at "3"),by rw[show bY "word" = true by decide +kernel];exact Qy T,T.Ke.binds (by walk_at "1"),T.IY,T.Iq⟩
theorem OE (T:Txt K mg t):uU P w K mg base t.iZ t.Am t.zy t.CH t.Fx "one" (λz=>[("signs",.str z)]) :=
 ⟨T.xY,T.T5,T.Sa,λ_=>by rfl,λ_=>by rfl,Qk T,T.LU.binds (by walk_at "3"),by rw[show bY "one" = true by decide +kernel];exact Nl T,T.Lc.binds (by walk_at "1"),T.Pu,T.N2⟩
theorem zm (T:Txt K mg t):uU P w K mg base t.cM t.AA t.zG t.Dj t.BZ "none" (λz=>[("signs",.str z)]) :=
 ⟨T.lW,T.T8,T.S1,λ_=>by rfl,λ_=>by rfl,O1 T,T.La.binds (by walk_at "3"),by rw[show bY "none" = true by decide +kernel];exact Rm T,T.JQ.binds (by walk_at "1"),T.wM,T.yI⟩
theorem JB (T:Txt K mg t):uU P w K mg base t.fW t.Ak t.Aa t.Gj t.CB "many" (λz=>[("signs",.str z)]) :=
 ⟨T.uu,T.RU,T.S5,λ_=>by rfl,λ_=>by rfl,QE T,T.KR.binds (by walk_at "3"),by rw[show bY "many" = true by decide +kernel];exact OF T,T.Lx.binds (by walk_at "1"),T.HK,T.Jz⟩
theorem QH (T:Txt K mg t):uU P w K mg base t.jE t.Jj t.IF t.QX t.QN "any" (λz=>[]) :=
 ⟨T.Ra,T.U8,T.Ve,λ_=>by rfl,λ_=>by rfl,TV T,T.TH.binds (by walk_at "3"),by rw[show bY "any" = true by decide +kernel];exact SJ T,T.RW.binds (by walk_at "1"),T.OW,T.Pg⟩
theorem EW (T:Txt K mg t):uU P w K mg base t.fP t.Ar t.sI t.F5 t.Ay "still" (λz=>[]) :=
 ⟨T.D6,T.T9,T.tO,λ_=>by rfl,λ_=>by rfl,Qh T,T.Ly.binds (by walk_at "3"),by rw[show bY "still" = false by decide +kernel];exact Ep T,T.Co.binds (by walk_at "1"),T.G8,T.Gk⟩
theorem Rn (T:Txt K mg t):uU P w K mg base t.jF t.zF t.sI t.E9 t.Ay "end" (λz=>[]) :=
 ⟨T.Q2,T.SK,T.zp,λ_=>by rfl,λ_=>by rfl,O4 T,T.MH.binds (by walk_at "3"),by rw[show bY "end" = false by decide +kernel];exact Ep T,T.Co.binds (by walk_at "1"),T.OB,T.Nd⟩
structure bu where
 sort:Str
 signs:Str
 bC:Str
 bg:Str
 goal:Option Nat
 fold:Str
structure aD where
 name:Str
 bC:Str
 rules:List bu
abbrev sorts:List Str:=["word","one","none","many","any","still","end"]
abbrev bare (s:Str):Prop:=s = "any" ∨ s = "still" ∨ s = "end"
def gw (t:eS) (s:Str):Addr:=if s = "any" then t.jE else if s = "still" then t.fP else if s = "end" then t.jF else if s = "word" then t.dF else if s = "one" then t.iZ else if s = "none" then t.cM else t.fW
def jK (s z:Str):List (Str×V):=if bare s then [] else if s = "word" then [("wanted",.str z)] else [("signs",.str z)]
theorem tU:gw t "any" = t.jE:=by rw[gw,if_pos rfl]
theorem nV:gw t "still" = t.fP:=by rw[gw,if_neg (by decide),if_pos rfl]
theorem uh:gw t "end" = t.jF:=by rw[gw,if_neg (by decide),if_neg (by decide),if_pos rfl]
theorem mK:gw t "word" = t.dF:=by rw[gw,if_neg (by decide),if_neg (by decide),if_neg (by decide),if_pos rfl]
theorem ug:gw t "one" = t.iZ:=by rw[gw,if_neg (by decide),if_neg (by decide),if_neg (by decide),if_neg (by decide),if_pos rfl]
theorem pM:gw t "none" = t.cM:=by rw[gw,if_neg (by decide),if_neg (by decide),if_neg (by decide),if_neg (by decide),if_neg (by decide),if_pos rfl]
theorem qx:gw t "many" = t.fW:=by rw[gw,if_neg (by decide),if_neg (by decide),if_neg (by decide),if_neg (by decide),if_neg (by decide),if_neg (by decide)]
theorem Ci:jK "any" = λ_=>[]:=by funext z;rw[jK,if_pos (by decide)]
theorem vj:jK "still" = λ_=>[]:=by funext z;rw[jK,if_pos (by decide)]
theorem CU:jK "end" = λ_=>[]:=by funext z;rw[jK,if_pos (by decide)]
theorem tL:jK "word" = λz=>([("wanted",.str z)]:List (Str×V)):=by funext z;rw[jK,if_neg (by decide),if_pos rfl]
theorem sD {s:Str} (h:¬ bare s) (h2:s ≠ "word"):jK s=λz=>([("signs",.str z)]:List (Str×V)):=by funext z;rw[jK,if_neg h,if_neg h2]
theorem ff {s:Str} (h:s∈sorts):s = "word" ∨ s = "one" ∨ s = "none" ∨ s = "many" ∨ s = "any" ∨ s = "still" ∨ s = "end" := by simpa using h
theorem EY(T:Txt K mg t){s:Str}(h:s∈sorts):∃fe fs de ds,uU P w K mg base (gw t s) fe fs de ds s (jK s):=by
 rcases ff h with rfl|rfl|rfl|rfl|rfl|rfl|rfl
 ·rw[mK,tL];exact⟨_,_,_,_,Iz T⟩
 ·rw[ug,sD (by decide) (by decide)];exact⟨_,_,_,_,OE T⟩
 ·rw[pM,sD (by decide) (by decide)];exact⟨_,_,_,_,zm T⟩
 ·rw[qx,sD (by decide) (by decide)];exact⟨_,_,_,_,JB T⟩
 ·rw[tU,Ci];exact⟨_,_,_,_,QH T⟩
 ·rw[nV,vj];exact⟨_,_,_,_,EW T⟩
 ·rw[uh,CU];exact⟨_,_,_,_,Rn T⟩
def jI(t:eS)(H:Hp)(p:Addr)(s z:Str):Prop:=∃dx,H p=some (.ins (gw t s) dx (jK s z))
def oE:Option Nat->V
 |none=>.cu
 |some g=>.int g
def rf (p:Addr) (R:bu):List (Str×V):=[("pattern",.ref p),("colour",.str R.bC),("deed",.str R.bg),("goal",oE R.goal),("fold",.str R.fold)]
def mf (M:aD) (l:Addr):List (Str×V):=[("name",.str M.name),("colour",.str M.bC),("rules",.ref l)]
def dG(t:eS)(H:Hp)(r:Addr)(R:bu):Prop:=∃dx p,H r=some (.ins t.ia dx (rf p R))/\jI t H p R.sort R.signs
theorem jI.same{H H':Hp}{p:Addr}{s z:Str}(h:jI t H p s z)(e:ao H H'):jI t H' p s z:=by
 obtain⟨dx,x⟩:=h
 exact⟨dx,e _ _ x⟩
theorem dG.same{H H':Hp}{r:Addr}{R:bu}(h:dG t H r R)(e:ao H H'):dG t H' r R:=by
 obtain⟨dx,p,x,y⟩:=h
 exact⟨dx,p,e _ _ x,y.same e⟩
def bO{α β:Type}(R:α->β->Prop)(as:List α)(bs:List β):Prop:=as.length=bs.length/\∀(i:Nat) a b,as[i]?=some a->bs[i]?=some b->R a b
theorem bO.nil{α β:Type}{R:α->β->Prop}:bO R [] []:=⟨rfl,λi a b h=>by simp at h⟩
theorem bO.mono{α β:Type}{R S:α->β->Prop}{as:List α}{bs:List β}(h:bO R as bs)(f:∀a b,R a b->S a b):bO S as bs:=⟨h.1,λi a b x y=>f a b (h.2 i a b x y)⟩
theorem c9{α:Type}{as:List α}{a x:α}{i:Nat}(h:(as++[a])[i]?=some x):as[i]?=some x∨(i=as.length/\x=a):=by
 by_cases hi:i<as.length
 ·rw[List.getElem?_append_left hi] at h;exact .inl h
 ·rw[List.getElem?_append_right (by lia)] at h
  have:i-as.length=0:=by
   cases e:i-as.length with
   |zero=>rfl
   |succ n=>rw[e] at h;simp at h
  rw[this] at h
  simp at h
  exact .inr ⟨by lia,h.symm⟩
theorem bO.snoc{α β:Type}{R:α->β->Prop}{as:List α}{bs:List β}{a:α}{b:β}(h:bO R as bs)(r:R a b):bO R (as++[a]) (bs++[b]):=by
 refine⟨by simp[h.1],λi x y hx hy=>?_⟩
 have hl:=h.1
 rcases c9 hx with h1|⟨e1,rfl⟩
 ·rcases c9 hy with h2|⟨e2,rfl⟩
  ·exact h.2 i x y h1 h2
  ·have:=(List.getElem?_eq_some_iff.mp h1).1;lia
 ·rcases c9 hy with h2|⟨e2,rfl⟩
  ·have:=(List.getElem?_eq_some_iff.mp h2).1;lia
  ·exact r
theorem bO.at{α β:Type}{R:α->β->Prop}{as:List α}{bs:List β}(h:bO R as bs){i:Nat}{b:β}(e:bs[i]?=some b):∃a,as[i]?=some a/\R a b:=by
 have hi:=(List.getElem?_eq_some_iff.mp e).1
 have hi2:i<as.length:=by rw[h.1];exact hi
 exact⟨as[i],List.getElem?_eq_getElem hi2,h.2 i _ _ (List.getElem?_eq_getElem hi2) e⟩
structure cD(t:eS)(H:Hp)(as ls:List Addr)(ms:List aD):Prop where
 la:as.length=ms.length
 ll:ls.length=ms.length
 nd:ls.Nodup
 ob:∀(i:Nat) a l m,as[i]?=some a->ls[i]?=some l->ms[i]?=some m->∃dx rs,H a=some (.ins t.dD dx (mf m l))/\H l=some (.lst (rs.map V.ref))/\bO (dG t H) rs m.rules
theorem cD.same{H H':Hp}{as ls:List Addr}{ms:List aD}(h:cD t H as ls ms)(e:ao H H'):cD t H' as ls ms :=
 ⟨h.la,h.ll,h.nd,λi a l m h1 h2 h3=>let ⟨dx,rs,x,y,z⟩:=h.ob i a l m h1 h2 h3;⟨dx,rs,e _ _ x,e _ _ y,z.mono λ_ _ r=>r.same e⟩⟩
def IsRules (t:eS) (H:Hp) (a:Addr) (ms:List aD):Prop:=∃dx lm as ls,H a=some (.ins t.iU dx [("modes",.ref lm)])/\H lm=some (.lst (as.map V.ref))/\cD t H as ls ms
theorem IsRules.same{H H':Hp}{a:Addr}{ms:List aD}(h:IsRules t H a ms)(e:ao H H'):IsRules t H' a ms:=by
 obtain⟨dx,lm,as,ls,x,y,z⟩:=h
 exact⟨dx,lm,as,ls,e _ _ x,e _ _ y,z.same e⟩
theorem fM{H:Hp}{x dx:Addr}{o1 o2 o3:HO}(h1:H x=none)(h2:H dx=none):ao H (upd (upd (upd H dx o1) x o2) x o3):=λb o e=>by
 rw[aj (ak e h1),aj (ak e h1),aj (ak e h2)];exact e
theorem bN{H:Hp}{x dx:Addr}{o1 o2:HO}(h1:H x=none)(h2:H dx=none):ao H (upd (upd H dx o1) x o2):=λb o e=>by
 rw[aj (ak e h1),aj (ak e h2)];exact e
noncomputable def Jp(t:eS):Sp:=λvs H Q _=>∃(x dx p:Addr) (R:bu),vs=[.ref x,.ref p,.str R.bC,.str R.bg,oE R.goal,.str R.fold]/\H x=some (.ins t.ia dx [])/\Q .cu (upd H x (.ins t.ia dx (rf p R)))
theorem Dn (T:Txt K mg t):aZ P w K mg base c7 1 t.DV t.MV ["self","pattern","colour","deed","goal","fold"] (Jp t):=by
 refine T.Cr.ok Oh ?_ ?_
 walk_at "i"
 ·obtain⟨x,dx,p,R,rfl,hx,q⟩:=h
  refine au (bF (pv 0) (pv 1) rfl) ⟨_,rfl,_,rfl,x,_,dx,[],rfl,hx,T.b9,T.dZ,by decide,?_⟩
  refine au (bF (pv 0) (pv 2) rfl) ⟨_,rfl,_,rfl,x,_,dx,[("pattern",.ref p)],rfl,af,T.b9,T.i9,by show 1<1000;decide,?_⟩
  refine au (bF (pv 0) (pv 3) rfl) ⟨_,rfl,_,rfl,x,_,dx,[("pattern",.ref p),("colour",.str R.bC)],rfl,af,T.b9,T.fS,by show 2<1000;decide,?_⟩
  refine au (bF (pv 0) (pv 4) rfl) ⟨_,rfl,_,rfl,x,_,dx,[("pattern",.ref p),("colour",.str R.bC),("deed",.str R.bg)],rfl,af,T.b9,T.iX,by show 3<1000;decide,?_⟩
  refine ay (bF (pv 0) (pv 5) rfl) ⟨_,rfl,_,rfl,x,_,dx,[("pattern",.ref p),("colour",.str R.bC),("deed",.str R.bg),("goal",oE R.goal)],rfl,af,T.b9,T.iT,by show 4<1000;decide,?_⟩
  rw[d9,d9,d9,d9]
  exact q
noncomputable def Jl(t:eS):Sp:=λvs H Q _=>∃(x dx l:Addr) (n c:Str) (rs:List V),vs=[.ref x,.str n,.str c,.ref l]/\H x=some (.ins t.dD dx [])/\H l=some (.lst rs) /\
 ∀l2 H',H l2=none->H' x=some (.ins t.dD dx (mf ⟨n,c,[]⟩ l2))->H' l2=some (.lst rs)->fV H H' x->Q .cu H'
theorem GY (T:Txt K mg t):aZ P w K mg base c7 1 t.Cv t.J6 ["self","name","colour","rules"] (Jl t):=by
 refine T.EE.ok OL ?_ ?_
 walk_at "i"
 ·obtain⟨x,dx,l,n,c,rs,rfl,hx,hl,q⟩:=h
  have nlx:l≠x:=cA hl hx (by intro z;cases z)
  refine au (bF (pv 0) (pv 1) rfl) ⟨_,rfl,_,rfl,x,_,dx,[],rfl,hx,T.dY,T.gM,by decide,?_⟩
  refine au (bF (pv 0) (pv 2) rfl) ⟨_,rfl,_,rfl,x,_,dx,[("name",.str n)],rfl,af,T.dY,T.i0,by show 1<1000;decide,?_⟩
  refine ay (bF (pv 0) (d8 jr (by rfl) T.nI (by decide +kernel) (aa (pv 3) ai)) rfl) ⟨_,rfl,l,rs,rfl,.inl (aY.of (by rw[aj nlx,aj nlx];exact hl)),λl2 hl2=>?_⟩
  have n2:x≠l2:=ak af hl2
  have hl0:H l2=none:=by rw[aj (Ne.symm n2),aj (Ne.symm n2)] at hl2;exact hl2
  refine⟨_,rfl,x,_,dx,[("name",.str n),("colour",.str c)],rfl,by rw[aj n2];exact af,T.dY,T.dM,by show 2<1000;decide,?_⟩
  refine q l2 _ hl0 af (by rw[aj (Ne.symm n2)];exact af) λb o hb nb=>?_
  rw[aj nb,aj (ak hb hl0),aj nb,aj nb];exact hb
noncomputable def GX(t:eS):Sp:=λvs H Q _=>∃(x dx l:Addr) (rs:List V),vs=[.ref x,.ref l]/\H x=some (.ins t.iU dx [])/\H l=some (.lst rs) /\
 ∀l2 H',H l2=none->H' x=some (.ins t.iU dx [("modes",.ref l2)])->H' l2=some (.lst rs)->fV H H' x->Q .cu H'
theorem Gd (T:Txt K mg t):aZ P w K mg base c7 1 t.Eg t.LF ["self","modes"] (GX t):=by
 refine T.GL.ok Og ?_ ?_
 walk_at "i"
 ·obtain⟨x,dx,l,rs,rfl,hx,hl,q⟩:=h
  refine ay (bF (pv 0) (d8 jr (by rfl) T.nI (by decide +kernel) (aa (pv 1) ai)) rfl) ⟨_,rfl,l,rs,rfl,.inl (aY.of hl),λl2 hl2=>?_⟩
  have n2:x≠l2:=ak hx hl2
  refine⟨_,rfl,x,_,dx,[],rfl,by rw[aj n2];exact hx,T.fC,T.b8,by decide,?_⟩
  refine q l2 _ hl2 af (by rw[aj (Ne.symm n2)];exact af) λb o hb nb=>?_
  rw[aj nb,aj (ak hb hl2)];exact hb
abbrev bP(s z:Str):List Str:=if bare s then [s] else [s,i8 z]
structure oU(s z:Str):Prop where
 sort:s∈sorts
 Bh:bare s->z = ""
 sg:¬ bare s->1<=z.length/\z.length<=200/\95∉z.cps.toList/\10∉z.cps.toList
theorem drop_cons{α:Type}{ws:List α}{i:Nat}{x:α}{r:List α}(h:ws.drop i=x::r):ws[i]?=some x/\ws.drop (i+1)=r:=by
 constructor
 ·have:=congrArg (λl=>l[0]?) h
  simpa [List.getElem?_drop] using this
 ·rw[← List.drop_drop,h];rfl
theorem gG{ws:List Str}{i:Nat}{x:Str}{r:List Str}(h:ws.drop i=x::r):pk ws i=x:=by
 unfold pk
 rw[List.getD_eq_getElem?_getD,(drop_cons h).1]
 rfl
theorem HL{ws:List Str}{i:Nat}{x:Str}{r:List Str}(h:ws.drop i=x::r):i<ws.length:=(List.getElem?_eq_some_iff.mp (drop_cons h).1).1
theorem vS{ws:List Str}{i:Nat}(h:ws.drop i=[]):ws.length<=i:=List.drop_eq_nil_iff.mp h
noncomputable def IM(t:eS):Sp:=λvs H Q _=>∃(p dx lw:Addr) (row:Int) (ws:List Str) (i:Nat) (s z:Str) (rest:List Str),vs=[.ref p]/\mh t H p dx lw row ws i/\ws.drop i=bP s z++rest/\oU s z /\
 ∀a H' j,jI t H' a s z->mh t H' p dx lw row ws j->ws.drop j=rest->fV H H' p->Q (.ref a) H'
theorem N7 (T:Txt K mg t):aZ P w K mg base c7 5 t.Ct t.KL ["cursor"] (IM t):=by
 refine T.Dy.ok xV ?_ ?_
 walk_at "i"
 ·obtain⟨p,dx,lw,row,ws,i,s,z,rest,rfl,C,hd,G,q⟩:=h
  have hk:pk ws i=s:=by
   by_cases hb:bare s
   ·rw[bP,if_pos hb] at hd;exact gG hd
   ·rw[bP,if_neg hb] at hd;exact gG hd
  refine au (dW 1 xV (bz (pv 0) T.aO T.JF (AD T) hr.m (T.Dc.binds (by walk_at "2")) .nil aE (aa (fq rfl T.ue (v:=V.ref t.jt) rfl) ai))) ⟨_,rfl,p,dx,_,rfl,C.ob,rfl,p,dx,lw,t.jt,sorts,row,ws,i,rfl,C,T.v7 _,by rw[hk];exact G.sort,λH1 C1 a1=>?_⟩
  rw[hk]
  refine au (aX (az bS (pv 1) aJ (aC _)) av av) ⟨_,rfl,rfl,_,rfl,dR (λh=>?_) (λh1=>aU ?_)⟩
  ·have h:=V.str.inj h
   subst h
   refine ay (aG (qt T.Q3 rfl T.JC)) λx dx' nx ndx ne=>?_
   rw[bP,if_pos (by decide)] at hd
   exact q x _ (i+1) ⟨dx',by rw[tU,Ci];exact af⟩ (C1.same (bN nx ndx)) (drop_cons hd).2 (a1.same (bN nx ndx))
  refine au (aX (az bS (pv 1) aJ (aC _)) av av) ⟨_,rfl,rfl,_,rfl,dR (λh=>?_) (λh2=>aU ?_)⟩
  ·have h:=V.str.inj h
   subst h
   refine ay (aG (qt T.Cb rfl T.AX)) λx dx' nx ndx ne=>?_
   rw[bP,if_pos (by decide)] at hd
   exact q x _ (i+1) ⟨dx',by rw[nV,vj];exact af⟩ (C1.same (bN nx ndx)) (drop_cons hd).2 (a1.same (bN nx ndx))
  refine au (aX (az bS (pv 1) aJ (aC _)) av av) ⟨_,rfl,rfl,_,rfl,dR (λh=>?_) (λh3=>aU ?_)⟩
  ·have h:=V.str.inj h
   subst h
   refine ay (aG (qt T.QU rfl T.IU)) λx dx' nx ndx ne=>?_
   rw[bP,if_pos (by decide)] at hd
   exact q x _ (i+1) ⟨dx',by rw[uh,CU];exact af⟩ (C1.same (bN nx ndx)) (drop_cons hd).2 (a1.same (bN nx ndx))
  have nb:¬ bare s:=by
   rintro (e|e|e)
   ·exact h1 (by rw[e])
   ·exact h2 (by rw[e])
   ·exact h3 (by rw[e])
  rw[bP,if_neg nb] at hd
  have hd2:=(drop_cons hd).2
  obtain⟨z1,z2,z3,z4⟩:=G.sg nb
  refine au (dW 2 xV (bA (pv 0) T.aO T.Vl (RJ T) hr.m (T.RI.binds (by walk_at "1")) .nil aE)) ⟨_,rfl,p,dx,_,rfl,C1.ob,rfl,p,dx,lw,row,ws,i+1,z,rfl,C1,gG hd2,z1,by lia,z3,λH2 C2 a2=>?_⟩
  have hd3:=(drop_cons hd2).2
  have a3:=a1.trans a2
  refine au (aX (az bS (pv 1) aJ (aC _)) av av) ⟨_,rfl,rfl,_,rfl,dR (λh=>?_) (λh4=>aU ?_)⟩
  ·have h:=V.str.inj h
   subst h
   refine ay (aG (dJ T.Im (OO T) hr.m rfl T.wA (T.Mr.binds (by walk_at "2")) .nil aE (aa (pv 2) ai))) ⟨_,rfl,λx dx' nx ndx ne=>⟨x,dx',z,rfl,af,rfl,?_⟩⟩
   exact q x _ (i+1+1) ⟨dx',by rw[mK,tL];exact af⟩ (C2.same (fM nx ndx)) hd3 (a3.same (fM nx ndx))
  refine au (aX (az bS (pv 1) aJ (aC _)) av av) ⟨_,rfl,rfl,_,rfl,dR (λh=>?_) (λh5=>aU ?_)⟩
  ·have h:=V.str.inj h
   subst h
   refine ay (aG (dJ T.NW (NF T) hr.m rfl T.HV (T.LO.binds (by walk_at "2")) .nil aE (aa (pv 2) ai))) ⟨_,rfl,λx dx' nx ndx ne=>⟨x,dx',z,rfl,af,rfl,?_⟩⟩
   exact q x _ (i+1+1) ⟨dx',by rw[ug,sD nb (by decide)];exact af⟩ (C2.same (fM nx ndx)) hd3 (a3.same (fM nx ndx))
  refine au (aX (az bS (pv 1) aJ (aC _)) av av) ⟨_,rfl,rfl,_,rfl,dR (λh=>?_) (λh6=>aU ?_)⟩
  ·have h:=V.str.inj h
   subst h
   refine ay (aG (dJ T.xB (P4 T) hr.m rfl T.vG (T.My.binds (by walk_at "2")) .nil aE (aa (pv 2) ai))) ⟨_,rfl,λx dx' nx ndx ne=>⟨x,dx',z,rfl,af,rfl,?_⟩⟩
   exact q x _ (i+1+1) ⟨dx',by rw[pM,sD nb (by decide)];exact af⟩ (C2.same (fM nx ndx)) hd3 (a3.same (fM nx ndx))
  have h:s = "many" := by
   rcases ff G.sort with e|e|e|e|e|e|e
   ·exact absurd (by rw[e]) h4
   ·exact absurd (by rw[e]) h5
   ·exact absurd (by rw[e]) h6
   ·exact e
   ·exact absurd (by rw[e]) h1
   ·exact absurd (by rw[e]) h2
   ·exact absurd (by rw[e]) h3
  subst h
  refine ay (aG (dJ T.Ig (Pn T) hr.m rfl T.FE (T.Ml.binds (by walk_at "2")) .nil aE (aa (pv 2) ai))) ⟨_,rfl,λx dx' nx ndx ne=>⟨x,dx',z,rfl,af,rfl,?_⟩⟩
  exact q x _ (i+1+1) ⟨dx',by rw[qx,sD nb (by decide)];exact af⟩ (C2.same (fM nx ndx)) hd3 (a3.same (fM nx ndx))
noncomputable def GC(t:eS):Sp:=λvs H Q _=>∃(p dx lw d:Addr) (nw:V) (row:Int) (ws:List Str) (i g:Nat) (kvs:List (Key×V)),vs=[.ref p,.ref d,nw]/\mh t H p dx lw row ws i/\H d=some (.dK kvs)/\isName (pk ws i)=true/\eY kvs (.inr (pk ws i))=some (.int g) /\
 ∀H',mh t H' p dx lw row ws (i+1)->fV H H' p->Q (.int g) H'
theorem Ou (T:Txt K mg t):aZ P w K mg base c7 5 t.CQ t.Mt ["cursor","numbers","nowhere"] (GC t):=by
 refine T.Eu.ok ym ?_ ?_
 walk_at "i"
 ·obtain⟨p,dx,lw,d,nw,row,ws,i,g,kvs,rfl,C,hd,hn,hv,q⟩:=h
  refine au (dW 3 ym (gc (aa (aF (pv 0) rfl) (aa (aF (pv 0) rfl) ai)))) ?_
  refine⟨_,rfl,_,_,_,_,_,rfl,C.ob,T.aO,T.mw,rfl,?_⟩
  refine⟨_,rfl,_,_,_,_,_,rfl,C.ob,T.aO,T.gU,rfl,?_⟩
  refine⟨by show 2<=sizeLine;decide,λpt hpt=>?_⟩
  have s1:ao H (upd H pt (.tup [.int row,.int i])):=ao.upd hpt
  have C1:=C.same s1
  refine au (dW 4 ym (bA (pv 0) T.aO T.IP (zI T) hr.m (T.Hh.binds (by walk_at "1")) .nil aE)) ⟨_,rfl,p,dx,_,rfl,C1.ob,rfl,p,dx,lw,row,ws,i,rfl,C1,hn,λH2 C2 a2=>?_⟩
  have npd:d≠p:=cA hd C.ob (by intro z;cases z)
  have hd2:H2 d=some (.dK kvs):=a2 _ _ (s1 _ _ hd) npd
  refine au (aX (DC (BE (pF hr) (pv 4) (pv 1))) av av) ⟨_,rfl,_,rfl,d,_,rfl,nG.k (k:=.inr (pk ws i)) hd2,_,rfl,?_⟩
  rw[hv]
  refine kj (aU ?_)
  refine ay (aG (FH (pF hr) (pv 1) (pv 4) ⟨rfl,rfl,rfl,rfl⟩)) ⟨_,rfl,d,rfl,.inl ⟨kvs,.inl hd2⟩,_,rfl,_,nG.k (k:=.inr (pk ws i)) hd2,?_⟩
  rw[hv]
  exact q H2 C2 (s1.Hq a2)
abbrev qD:List Str:=["stay","push","pop","into"]
abbrev lB (d:Str):Prop:=d = "push" ∨ d = "into"
def wF(names:List Str):Option Nat->List Str
 |some g=>[names.getD g ""]
 |none=>[]
theorem AK{names:List Str}{g:Option Nat}:(wF names g).length<=1:=by cases g <;> simp[wF]
def dI (names:List Str) (R:bu):List Str:=bP R.sort R.signs++((if bY R.sort=true then [R.bC] else [])++([R.bg]++(wF names R.goal++if R.fold = "" then [] else [R.fold])))
structure iL(names:List Str)(R:bu):Prop where
 pat:oU R.sort R.signs
 col:bY R.sort=true->isName R.bC=true
 UA:bY R.sort=false->R.bC = ""
 bg:R.bg∈qD
 goal:lB R.bg->∃g,R.goal=some g/\g<names.length
 JP:¬ lB R.bg->R.goal=none
 fold:R.fold = "" ∨ R.fold = "open" ∨ R.fold = "close"
def numsOf(names:List Str)(kvs:List (Key×V)):Prop:=∀(g:Nat) n,names[g]?=some n->eY kvs (.inr n)=some (.int g)
noncomputable def D9(t:eS):Sp:=λvs H Q _=>∃(p dx lw d:Addr) (nw:V) (row:Int) (ws:List Str) (kvs:List (Key×V)) (names:List Str) (R:bu),vs=[.ref p,.ref d,nw]/\mh t H p dx lw row ws 0/\ws=dI names R/\H d=some (.dK kvs)/\numsOf names kvs /\
 (∀n∈names,isName n=true)/\iL names R/\∀r H',dG t H' r R->fV H H' p->Q (.ref r) H'
theorem jI.Hq{H H':Hp}{p a dx lw:Addr}{row:Int}{ws:List Str}{i:Nat}{s z:Str}(h:jI t H a s z)(C:mh t H p dx lw row ws i)(e:fV H H' p):jI t H' a s z:=by
 obtain⟨d,x⟩:=h
 refine⟨d,e _ _ x (cA x C.ob λq=>?_)⟩
 injection q with _ _ q
 unfold jK cf at q
 split at q
 ·cases q
 ·split at q <;> simp at q
theorem Rp (T:Txt K mg t):aZ P w K mg base c7 6 t.FI t.MU ["cursor","numbers","nowhere"] (D9 t):=by
 refine T.E1.ok ni ?_ ?_
 walk_at "i"
 ·obtain⟨p,dx,lw,d,nw,row,ws,kvs,names,R,rfl,C,hws,hd,hnum,hnm,G,q⟩:=h
  have npd:d≠p:=cA hd C.ob (by intro z;cases z)
  obtain⟨fe,fs,de,ds,PK⟩:=EY (P:=P) (w:=w) (base:=base) T G.pat.sort
  refine au (dW 3 ni (aQ (N7 T) hr.m rfl T.Qn T.Dy.kp (T.Dy.binds (by walk_at "1")) .nil aE (aa (pv 0) ai))) ⟨_,rfl,p,dx,lw,row,ws,0,R.sort,R.signs,_,rfl,C,by rw[List.drop_zero,hws,dI],G.pat,λpa H1 j1 hp1 C1 hd1 a1=>?_⟩
  refine aI (λZ' H'=>∃j,Z'=[some (.ref p),some (.ref d),some nw,some (.ref pa),some (.str R.bC),none,none,none]/\mh t H' p dx lw row ws j/\jI t H' pa R.sort R.signs/\fV H H' p /\
   ws.drop j=R.bg::(wF names R.goal++if R.fold = "" then [] else [R.fold])) (dW 4 ni (bH (iF (bA (pv 3) PK.cl PK.ms PK.gs hr.m PK.bs .nil aE)) (bA (pv 0) T.aO T.IP (zI T) hr.m (T.Hh.binds (by walk_at "1")) .nil aE) aJ)) ?_ ?_
  ·obtain⟨dpa,hpa⟩:=hp1
   refine⟨_,rfl,pa,dpa,_,rfl,hpa,PK.ns _,_,rfl,_,rfl,Ux (λh=>?_) (λh=>?_)⟩
   ·rw[if_pos h] at hd1
    refine⟨_,rfl,p,dx,_,rfl,C1.ob,rfl,p,dx,lw,row,ws,j1,rfl,C1,by rw[gG hd1];exact G.col h,λH2 C2 a2=>?_⟩
    rw[gG hd1]
    exact⟨j1+1,rfl,C2,jI.Hq ⟨dpa,hpa⟩ C1 a2,a1.trans a2,(drop_cons hd1).2⟩
   ·rw[h,if_neg (by decide)] at hd1
    rw[G.UA h]
    exact⟨j1,rfl,C1,⟨dpa,hpa⟩,a1,hd1⟩
  rintro Z' H2 ⟨j2,rfl,C2,hp2,a2,hd2⟩
  refine au (dW 5 ni (bz (pv 0) T.aO T.JF (AD T) hr.m (T.Dc.binds (by walk_at "2")) .nil aE (aa (fq rfl T.Bg (v:=V.ref t.oZ) rfl) ai))) ⟨_,rfl,p,dx,_,rfl,C2.ob,rfl,p,dx,lw,t.oZ,qD,row,ws,j2,rfl,C2,T.Cm _,by rw[gG hd2];exact G.bg,λH3 C3 a3=>?_⟩
  rw[gG hd2]
  have hp3:=hp2.Hq C2 a3
  have a3:=a2.trans a3
  have hd3:=(drop_cons hd2).2
  refine aI (λZ' H'=>∃j,Z'=[some (.ref p),some (.ref d),some nw,some (.ref pa),some (.str R.bC),some (.str R.bg),some (oE R.goal),none]/\mh t H' p dx lw row ws j/\jI t H' pa R.sort R.signs/\fV H H' p /\
   ws.drop j=if R.fold = "" then [] else [R.fold]) (dW 6 ni (bH (az fT (pv 5) (fq rfl T.BB (v:=V.ref t.tR) rfl) rfl) (aQ (Ou T) hr.m rfl T.Py T.Eu.kp (T.Eu.binds (by walk_at "3")) .nil aE (aa (pv 0) (aa (pv 1) (aa (pv 2) ai)))) bB)) ?_ ?_
  ·refine⟨_,rfl,_,_,rfl,.inr (T.Cw _),rfl,rfl,_,rfl,?_⟩
   rw[show ([.str "push",.str "into"]:List V)=(["push","into"]:List Str).map V.str from rfl,jR]
   refine dR (λh=>?_) (λh=>?_)
   ·have h:lB R.bg:=by simpa using h
    obtain⟨g,eg,hg⟩:=G.goal h
    rw[eg] at hd3 ⊢
    have e:=gG hd3
    have hgn:names[g]?=some (names.getD g ""):=by simp[hg]
    have hv:=hnum g _ hgn
    have hin:isName (names.getD g "")=true:=hnm _ (List.mem_of_getElem? hgn)
    refine⟨_,rfl,_,rfl,_,rfl,p,dx,lw,d,nw,row,ws,j2+1,g,kvs,rfl,C3,a3 _ _ hd npd,by rw[e];exact hin,by rw[e];exact hv,λH4 C4 a4=>?_⟩
    exact⟨_,rfl,C4,hp3.Hq C3 a4,a3.trans a4,(drop_cons hd3).2⟩
   ·have h:¬ lB R.bg:=by simpa using h
    rw[G.JP h] at hd3 ⊢
    exact⟨_,rfl,C3,hp3,a3,hd3⟩
  rintro Z' H4 ⟨j4,rfl,C4,hp4,a4,hd4⟩
  refine aI (λZ' H'=>∃j,Z'=[some (.ref p),some (.ref d),some nw,some (.ref pa),some (.str R.bC),some (.str R.bg),some (oE R.goal),some (.str R.fold)]/\mh t H' p dx lw row ws j/\jI t H' pa R.sort R.signs/\fV H H' p /\
   ws.drop j=[]) (dW 7 ni (bH (iF (bA (pv 0) T.aO T.I9 (zH T) hr.m (T.CO.binds (by walk_at "1")) .nil aE)) (bz (pv 0) T.aO T.JF (AD T) hr.m (T.Dc.binds (by walk_at "2")) .nil aE (aa (fq rfl T.AI (v:=V.ref t.o6) rfl) ai)) aJ)) ?_ ?_
  ·refine⟨_,rfl,p,dx,_,rfl,C4.ob,rfl,p,dx,lw,row,ws,j4,rfl,C4,_,rfl,dR (λh=>?_) (λh=>?_)⟩
   ·have hf:R.fold ≠ "" := λz=>by rw[if_pos z] at hd4;have:=vS hd4;lia
    rw[if_neg hf] at hd4
    refine⟨_,rfl,p,dx,_,rfl,C4.ob,rfl,p,dx,lw,t.o6,["open","close"],row,ws,j4,rfl,C4,T.C8 _,?_,λH5 C5 a5=>?_⟩
    ·rw[gG hd4]
     rcases G.fold with z|z|z
     ·exact absurd z hf
     ·rw[z];decide
     ·rw[z];decide
    ·rw[gG hd4]
     exact⟨_,rfl,C5,hp4.Hq C4 a5,a4.trans a5,(drop_cons hd4).2⟩
   ·have hf:R.fold = "" := by
     by_cases z:R.fold = ""
     ·exact z
     ·rw[if_neg z] at hd4;exact absurd (HL hd4) h
    rw[if_pos hf] at hd4
    rw[hf]
    exact⟨_,rfl,C4,hp4,a4,hd4⟩
  rintro Z' H5 ⟨j5,rfl,C5,hp5,a5,hd5⟩
  have hj5:=vS hd5
  refine au (bG (bz (pv 0) T.aO T.AU (rO T) hr.m (T.zq.binds (by walk_at "2")) .nil aE (aa (yO (bA (pv 0) T.aO T.I9 (zH T) hr.m (T.CO.binds (by walk_at "1")) .nil aE)) ai))) ⟨_,rfl,p,dx,_,rfl,C5.ob,rfl,⟨_,rfl,p,dx,_,rfl,C5.ob,rfl,p,dx,lw,row,ws,j5,rfl,C5,_,rfl,?_⟩⟩
  rw[decide_eq_false (by lia)]
  refine⟨_,rfl,?_⟩
  refine ay (aG (dJ T.zP (Dn T) hr.m rfl T.vF (T.Cr.binds (by walk_at "6")) .nil aE (aa (pv 3) (aa (pv 4) (aa (pv 5) (aa (pv 6) (aa (pv 7) ai))))))) ⟨_,rfl,_,rfl,_,rfl,_,rfl,_,rfl,λx dx' nx ndx ne=>⟨x,dx',pa,R,rfl,af,rfl,?_⟩⟩
  exact q x _ ⟨dx',pa,af,hp5.same (fM nx ndx)⟩ (a5.same (fM nx ndx))
inductive Item where
 |mode (n c:Str)
 |rule (R:bu)
def Item.words(names:List Str):Item->List Str
 |.mode n c=>["mode",n,c]
 |.rule R=>dI names R
def rowOf(names:List Str)(it:Item):Str:=Str.join ⟨#[32]⟩ (it.words names)
def iR(R:bu):List aD->List aD
 | []=>[]
 | [m]=>[{ m with rules:=m.rules++[R] }]
 |m::n::r=>m::iR R (n::r)
def stepI(ms:List aD):Item->List aD
 |.mode n c=>ms++[⟨n,c,[]⟩]
 |.rule R=>iR R ms
def foldI(its:List Item):List aD:=its.foldl stepI []
def vc:Item->List Str
 |.mode n _=>[n]
 |.rule _=>[]
def namesOf(its:List Item):List Str:=its.flatMap vc
structure fk(its:List Item):Prop where
 ne:its≠[]
 mode:∀(i:Nat) n c,its[i]?=some (.mode n c)->isName n=true/\isName c=true/\(namesOf (its.take i)).length<12/\n∉namesOf (its.take i)
 rule:∀(i:Nat) R,its[i]?=some (.rule R)->iL (namesOf its) R/\∃ms m,foldI (its.take i)=ms++[m]/\m.rules.length<12
theorem jC(R:bu)(m:aD):∀ms:List aD,iR R (ms++[m])=ms++[{ m with rules:=m.rules++[R] }]
 | []=>rfl
 | [x]=>rfl
 |x::y::r=>by
  show x::iR R (y::r++[m])=_
  rw[jC R m (y::r)]
  rfl
theorem k9(R:bu):∀ms:List aD,(iR R ms).map (·.name)=ms.map (·.name)
 | []=>rfl
 | [x]=>rfl
 |x::y::r=>by
  show x.name::(iR R (y::r)).map (·.name)=_
  rw[k9 R (y::r)]
  rfl
theorem take_snoc{α:Type}{l:List α}{i:Nat}{x:α}(h:l[i]?=some x):l.take (i+1)=l.take i++[x]:=by rw[List.take_succ,h];rfl
theorem pq(its:List Item)(it:Item):foldI (its++[it])=stepI (foldI its) it:=by unfold foldI;rw[List.foldl_append];rfl
theorem jP(a b:List Item):namesOf (a++b)=namesOf a++namesOf b:=by unfold namesOf;rw[List.flatMap_append]
theorem iC:∀(its:List Item) (ms:List aD),(its.foldl stepI ms).map (·.name)=ms.map (·.name)++namesOf its
 | [],ms=>by simp[namesOf]
 |.mode n c::r,ms=>by
  rw[List.foldl_cons,iC r]
  simp[stepI,namesOf,vc]
 |.rule R::r,ms=>by
  rw[List.foldl_cons,iC r]
  simp[stepI,namesOf,vc,k9]
theorem qo(its:List Item):(foldI its).map (·.name)=namesOf its:=by
 unfold foldI;rw[iC];rfl
structure jf(x:Str):Prop where
 b:32∉x.cps.toList
 n:10∉x.cps.toList
 l:x.length<=202
theorem bT(x:Str):x.cps.toList.length=x.length:=by simp[Str.length]
theorem kM{x:Str}(h:isName x=true):jf x:=by
 unfold isName at h
 simp only[Bool.and_eq_true,decide_eq_true_eq,List.all_eq_true] at h
 obtain⟨⟨h1,h2⟩,h3⟩:=h
 refine⟨λz=>?_,λz=>?_,by lia⟩
 ·exact absurd (h3 _ z) (by decide +kernel)
 ·exact absurd (h3 _ z) (by decide +kernel)
theorem uY{z:Str}(h:z.length<=200)(h2:10∉z.cps.toList):jf (i8 z):=by
 refine⟨λy=>?_,λy=>?_,?_⟩
 ·rw[gy] at y
  rcases List.mem_cons.mp y with y|y
  ·exact absurd y (by decide)
  ·unfold jT at y
   obtain⟨c,_,e⟩:=List.mem_map.mp y
   split at e <;> lia
 ·rw[gy] at y
  rcases List.mem_cons.mp y with y|y
  ·exact absurd y (by decide)
  ·unfold jT at y
   obtain⟨c,hc,e⟩:=List.mem_map.mp y
   split at e
   ·lia
   ·exact h2 (e ▸ hc)
 ·have:=congrArg List.length (gy z)
  rw[bT,List.length_cons,jT,List.length_map,bT] at this
  lia
theorem kR {s:Str} (h:s∈sorts):jf s/\s ≠ "mode" := by
 rcases ff h with rfl|rfl|rfl|rfl|rfl|rfl|rfl <;> exact⟨⟨by decide +kernel,by decide +kernel,by decide +kernel⟩,by decide +kernel⟩
theorem By{s z:Str}(G:oU s z):∀x∈bP s z,jf x:=by
 intro x hx
 unfold bP at hx
 split at hx
 ·rw[List.mem_singleton.mp hx];exact(kR G.sort).1
 ·rename_i hb
  obtain⟨z1,z2,z3,z4⟩:=G.sg hb
  rcases List.mem_cons.mp hx with e|e
  ·rw[e];exact(kR G.sort).1
  ·rw[List.mem_singleton.mp e];exact uY z2 z4
theorem p9{names:List Str}{R:bu}(hn:∀n∈names,isName n=true)(G:iL names R):∀x∈dI names R,jf x:=by
 intro x hx
 unfold dI at hx
 simp only[List.mem_append] at hx
 rcases hx with hx|hx|hx|hx|hx
 ·exact By G.pat x hx
 ·split at hx
  ·rename_i h;rw[List.mem_singleton.mp hx];exact kM (G.col h)
  ·cases hx
 ·rw[List.mem_singleton.mp hx]
  have:=G.bg
  simp only[List.mem_cons,List.not_mem_nil,or_false] at this
  rcases this with e|e|e|e <;> rw[e] <;> exact⟨by decide +kernel,by decide +kernel,by decide +kernel⟩
 ·cases e:R.goal with
  |some g =>
   rw[e] at hx
   rw[List.mem_singleton.mp hx]
   have hg:g<names.length:=by
    by_cases h:lB R.bg
    ·obtain⟨g',e',h'⟩:=G.goal h
     rw[e] at e';cases e';exact h'
    ·rw[G.JP h] at e;cases e
   refine kM (hn _ ?_)
   have:names.getD g "" = names[g]:=by simp[hg]
   rw[this];exact List.getElem_mem hg
  |none=>rw[e] at hx;cases hx
 ·split at hx
  ·cases hx
  ·rw[List.mem_singleton.mp hx]
   rcases G.fold with e|e|e <;> rw[e] <;> exact⟨by decide +kernel,by decide +kernel,by decide +kernel⟩
theorem zN{s z:Str}:1<=(bP s z).length/\(bP s z).length<=2:=by
 unfold bP
 split
 ·exact⟨by show 1<=1;decide,by show 1<=2;decide⟩
 ·exact⟨by show 1<=2;decide,by show 2<=2;decide⟩
theorem CC{names:List Str}{R:bu}:1<=(dI names R).length/\(dI names R).length<=7:=by
 have h1:=zN (s:=R.sort) (z:=R.signs)
 have h2:(if bY R.sort=true then [R.bC] else []).length<=1:=by split <;> simp
 have h3:=AK (names:=names) (g:=R.goal)
 have h4:(if R.fold = "" then [] else [R.fold]).length<=1:=by split <;> simp
 unfold dI
 simp only[List.length_append,List.length_cons,List.length_nil]
 lia
theorem pT{its:List Item}(G:fk its):∀n∈namesOf its,isName n=true:=by
 intro n hn
 unfold namesOf at hn
 obtain⟨it,h1,h2⟩:=List.mem_flatMap.mp hn
 obtain⟨i,h3⟩:=List.mem_iff_getElem?.mp h1
 cases it with
 |mode a c =>
  have e:n=a:=List.mem_singleton.mp h2
  rw[e]
  exact(G.mode i a c h3).1
 |rule R=>cases h2
theorem pX{its:List Item}(G:fk its){i:Nat}{it:Item}(h:its[i]?=some it):(∀x∈it.words (namesOf its),jf x)/\it.words (namesOf its)≠[]/\(it.words (namesOf its)).length<=7:=by
 cases it with
 |mode n c =>
  obtain⟨h1,h2,_⟩:=G.mode i n c h
  refine⟨λx hx=>?_,by simp[Item.words],by simp[Item.words]⟩
  simp only[Item.words,List.mem_cons,List.not_mem_nil,or_false] at hx
  rcases hx with e|e|e
  ·rw[e];exact⟨by decide +kernel,by decide +kernel,by decide +kernel⟩
  ·rw[e];exact kM h1
  ·rw[e];exact kM h2
 |rule R =>
  obtain⟨h1,_⟩:=G.rule i R h
  have hl:=CC (names:=namesOf its) (R:=R)
  exact⟨p9 (pT G) h1,λz=>by simp only[Item.words] at z;rw[z] at hl;simp at hl,hl.2⟩
theorem se{c d:Nat}(hcd:d≠c):∀{ps:List (List Nat)},(∀p∈ps,d∉p)->d∉cI c ps
 | [],_,z=>by cases z
 | [x],h,z=>h x (by simp) z
 |x::y::r,h,z=>by
  unfold cI at z
  rcases List.mem_append.mp z with z|z
  ·exact h x (by simp) z
  ·rcases List.mem_cons.mp z with z|z
   ·exact hcd z
   ·exact se hcd (λp hp=>h p (List.mem_cons_of_mem _ hp)) z
theorem nW{c m:Nat}:∀{ps:List (List Nat)},(∀p∈ps,p.length<=m)->(cI c ps).length<=ps.length*(m+1)
 | [],_=>by simp[cI]
 | [x],h=>by have:=h x (by simp);simp[cI];lia
 |x::y::r,h=>by
  have h1:=h x (by simp)
  have h2:=nW (c:=c) (ps:=y::r) (λp hp=>h p (List.mem_cons_of_mem _ hp))
  unfold cI
  rw[List.length_append,List.length_cons,List.length_cons,Nat.succ_mul]
  lia
theorem jc{its:List Item}(G:fk its){i:Nat}{it:Item}(h:its[i]?=some it):10∉(rowOf (namesOf its) it).cps.toList/\(rowOf (namesOf its) it).length<=1421/\PySem.Txt.split (rowOf (namesOf its) it) ⟨#[32]⟩=it.words (namesOf its):=by
 obtain⟨h1,h2,h3⟩:=pX G h
 refine⟨?_,?_,lY h2 λp hp=>(h1 p hp).b⟩
 ·unfold rowOf
  rw[eK]
  refine se (by decide) λp hp=>?_
  obtain⟨x,hx,rfl⟩:=List.mem_map.mp hp
  exact(h1 x hx).n
 ·have h4:=nW (c:=32) (m:=202) (ps:=(it.words (namesOf its)).map λp=>p.cps.toList) (λp hp=>by
   obtain⟨x,hx,rfl⟩:=List.mem_map.mp hp
   rw[bT];exact(h1 x hx).l)
  rw[← eK,bT,List.length_map] at h4
  unfold rowOf
  lia
def rowsOf(its:List Item):List Str:=its.map (rowOf (namesOf its))
theorem oW{its:List Item}{i:Nat}{x:Str}(h:(rowsOf its)[i]?=some x):∃it,its[i]?=some it/\x=rowOf (namesOf its) it:=by
 unfold rowsOf at h
 rw[List.getElem?_map] at h
 obtain⟨it,h1,h2⟩:=Option.map_eq_some_iff.mp h
 exact⟨it,h1,h2.symm⟩
theorem yU{its:List Item}(G:fk its):PySem.Txt.split (Str.join ⟨#[10]⟩ (rowsOf its)) ⟨#[10]⟩=rowsOf its:=by
 refine lY (by unfold rowsOf;simpa using G.ne) λp hp=>?_
 obtain⟨i,h⟩:=List.mem_iff_getElem?.mp hp
 obtain⟨it,h1,rfl⟩:=oW h
 exact(jc G h1).1
theorem text_len{its:List Item}(G:fk its)(hl:its.length<=200):(Str.join ⟨#[10]⟩ (rowsOf its)).length<=300000:=by
 have h4:=nW (c:=10) (m:=1421) (ps:=(rowsOf its).map λp=>p.cps.toList) (λp hp=>by
  obtain⟨x,hx,rfl⟩:=List.mem_map.mp hp
  obtain⟨i,h⟩:=List.mem_iff_getElem?.mp hx
  obtain⟨it,h1,rfl⟩:=oW h
  rw[bT];exact(jc G h1).2.1)
 rw[← eK,bT,List.length_map,rowsOf,List.length_map] at h4
 unfold rowsOf
 lia
structure Nums(names:List Str)(kvs:List (Key×V)):Prop where
 has:numsOf names kvs
 not:∀n,n∉names->eY kvs (.inr n)=none
 len:kvs.length=names.length
theorem Nums.nil:Nums [] []:=⟨λg n h=>by simp at h,λ_ _=>rfl,rfl⟩
theorem Nums.put{names:List Str}{kvs:List (Key×V)}{n:Str}(N:Nums names kvs)(h:n∉names):Nums (names++[n]) (putK kvs (.inr n) (.int names.length)):=by
 refine⟨λg m e=>?_,λm hm=>?_,?_⟩
 ·rw[uP]
  rcases c9 e with e|⟨e1,e2⟩
  ·have:m≠n:=λz=>h (z ▸ List.mem_of_getElem? e)
   rw[if_neg (λz=>this (Sum.inr.inj z))]
   exact N.has g m e
  ·rw[e2,if_pos rfl,e1]
 ·rw[uP,if_neg (λz=>hm (by rw[Sum.inr.inj z];simp))]
  exact N.not m λz=>hm (List.mem_append_left _ z)
 ·unfold putK
  rw[iN,N.not n h,if_neg (by decide),List.length_append,List.length_append,N.len]
  rfl
noncomputable def Oa:Sp:=λvs H Q _=>∃(a:Addr) (its:List Item),vs=[.ref a]/\H a=some (.lst ((rowsOf its).map V.str))/\fk its/\its.length<=200 /\
 ∀d kvs H',H' d=some (.dK kvs)->Nums (namesOf its) kvs->ao H H'->Q (.ref d) H'
theorem pA {names:List Str} {R:bu} (G:iL names R):∃x r,dI names R=x::r/\x ≠ "mode" := by
 unfold dI bP
 split
 ·exact⟨R.sort,_,rfl,(kR G.pat.sort).2⟩
 ·exact⟨R.sort,_,rfl,(kR G.pat.sort).2⟩
theorem Q4 (T:Txt K mg t):aZ P w K mg base c7 1 t.Fd t.MF ["rows"] Oa:=by
 refine T.GV.ok tN ?_ ?_
 walk_at "i"
 ·obtain⟨a,its,rfl,ha,G,hlen,q⟩:=h
  have sp1:(" " : Str)=⟨#[32]⟩:=by decide +kernel
  refine au (dW 1 tN wo) λd hd=>?_
  refine aI (λZ' H'=>∃x y kvs,Z'=[some (.ref a),some (.ref d),x,y]/\H' d=some (.dK kvs)/\Nums (namesOf its) kvs/\ao H H') (dO PassesOwn.never rfl (eB (pv 0)) (oJ 2 tN) av) ?_ ?_
  ·refine⟨_,rfl,a,rfl,⟨_,aY.of (by rw[aj (ak ha hd)];exact ha)⟩,fR (xs:=(rowsOf its).map V.str) (λi Z' H'=>∃x y kvs,Z'=[some (.ref a),some (.ref d),x,y]/\H' d=some (.dK kvs)/\Nums (namesOf (its.take i)) kvs/\ao H H') ⟨_,_,[],rfl,af,Nums.nil,ao.upd hd⟩ ?_ ?_ ?_⟩
   ·rintro i Z' H' _ ⟨x,y,kvs,rfl,h1,h2,h3⟩
    exact aY.of (h3 _ _ ha)
   ·rintro i xv Z' H1 hx ⟨x,y,kvs,rfl,h1,h2,s1⟩
    rw[List.getElem?_map] at hx
    obtain⟨row,hrow,rfl⟩:=Option.map_eq_some_iff.mp hx
    obtain⟨it,hit,rfl⟩:=oW hrow
    obtain⟨g1,g2,g3⟩:=jc G hit
    refine au (dW 3 tN (c5 F.plainAttrs_str F.slot_str_split F.type_str_split jh (pv 2) (aa aJ ai))) ⟨_,rfl,rfl,_,_,rfl,rfl,by decide,bI (by lia),λlw hlw=>?_⟩
    rw[sp1,g3]
    have s2:ao H1 (upd H1 lw (.lst ((it.words (namesOf its)).map V.str))):=ao.upd hlw
    have hw:upd H1 lw (.lst ((it.words (namesOf its)).map V.str)) lw=some (.lst ((it.words (namesOf its)).map V.str)):=af
    have hd2:=s2 _ _ h1
    generalize upd H1 lw (.lst ((it.words (namesOf its)).map V.str))=H2 at s2 hw hd2
    cases it with
    |mode n c =>
     obtain⟨m1,m2,m3,m4⟩:=G.mode i n c hit
     refine ay (aX (PW.pt (ic (az bS (bw bq (pv 3) aB (λ_ _=>rfl)) aJ (aC _)) (gF (az jG (aK aP (by rfl) T.bU (by decide +kernel) (aa (pv 3) ai)) aB (aC _))))) av av) ⟨_,rfl,_,_,_,_,rfl,rfl,aY.of hw,bM (j:=0) rfl,rfl,_,rfl,dR (λ_=>?_) (λh=>absurd rfl h)⟩
     refine⟨_,rfl,_,_,rfl,.inl (aY.of hw),_,_,rfl,rfl,_,rfl,dR (λ_=>?_) (λh=>absurd (by simp[Item.words]) h)⟩
     refine ay (IW (pF hr) (pv 1) (bw bq (pv 3) aB (λ_ _=>rfl)) (aK BQ (by rfl) T.bU (by decide +kernel) (aa (pv 1) ai)) rfl) ⟨_,rfl,d,kvs,rfl,hd2,_,rfl,_,rfl,_,_,_,_,rfl,rfl,aY.of hw,bM (j:=1) rfl,d,_,rfl,Ga.k (k:=.inr n) hd2 ?_,?_⟩
     ·rw[h2.len];exact eV (by lia)
     ·refine⟨_,_,_,rfl,af,?_,λb o hb=>?_⟩
      ·rw[take_snoc hit,jP,h2.len]
       exact h2.put m4
      ·rw[aj (ak hb hd)];exact s2 _ _ (s1 _ _ hb)
    |rule R =>
     obtain⟨r1,_⟩:=G.rule i R hit
     obtain⟨fw,fr,e1,e2⟩:=pA r1
     have hw':H2 lw=some (.lst (V.str fw::fr.map V.str)):=by rw[hw];simp only[Item.words];rw[e1];rfl
     refine ay (aX (PW.pt (ic (az bS (bw bq (pv 3) aB (λ_ _=>rfl)) aJ (aC _)) (gF (az jG (aK aP (by rfl) T.bU (by decide +kernel) (aa (pv 3) ai)) aB (aC _))))) av av) ⟨_,rfl,_,_,_,_,rfl,rfl,aY.of hw',bM (j:=0) rfl,rfl,_,rfl,dR (λh=>absurd (V.str.inj h) e2) (λ_=>aU ?_)⟩
     refine⟨_,_,kvs,rfl,hd2,?_,s1.trans s2⟩
     rw[take_snoc hit,jP]
     show Nums (namesOf (its.take i)++[]) kvs
     rw[List.append_nil]
     exact h2
   ·rintro Z' H' ⟨x,y,kvs,rfl,h1,h2,h3⟩
    refine⟨x,y,kvs,rfl,h1,?_,h3⟩
    rw[List.length_map,rowsOf,List.length_map,List.take_length] at h2
    exact h2
  rintro Z' H' ⟨x,y,kvs,rfl,h1,h2,h3⟩
  exact ay (aG (pv 1)) ⟨_,rfl,q d kvs H' h1 h2 h3⟩
noncomputable def Ca (t:eS):Sp:=λvs H Q _=>∃(p dx lw lm:Addr) (row:Int) (n c:Str) (as ls:List Addr) (ms:List aD),vs=[.ref p,.ref lm]/\mh t H p dx lw row ["mode",n,c] 0/\isName n=true/\isName c=true/\H lm=some (.lst (as.map V.ref))/\cD t H as ls ms/\ms.length<12/\n∉ms.map (·.name) /\
 ∀m l2 dm H',H' m=some (.ins t.dD dm (mf ⟨n,c,[]⟩ l2))->H' l2=some (.lst [])->H l2=none->fV H H' p->Q (.ref m) H'
theorem Iw{H:Hp}{m dm l p dx lw:Addr}{M:aD}{row:Int}{ws:List Str}{i:Nat}(h:H m=some (.ins t.dD dm (mf M l)))(C:mh t H p dx lw row ws i):m≠p:=cA h C.ob λq=>by
 injection q with _ _ q
 unfold mf cf at q
 simp at q
theorem Oe (T:Txt K mg t):aZ P w K mg base c7 5 t.GI t.MG ["cursor","modes"] (Ca t):=by
 refine T.DG.ok yk ?_ ?_
 walk_at "i"
 ·obtain⟨p,dx,lw,lm,row,n,c,as,ls,ms,rfl,C,hn,hc,hlm,hM,hl12,hnn,q⟩:=h
  have nlp:lm≠p:=cA hlm C.ob (by intro z;cases z)
  refine au (bG (bz (pv 0) T.aO T.AU (rO T) hr.m (T.zq.binds (by walk_at "2")) .nil aE (aa (ef gx (aK aP (by rfl) T.bU (by decide +kernel) (aa (pv 1) ai)) (fj rfl T.p7) (aC _)) ai))) ⟨_,rfl,p,dx,_,rfl,C.ob,rfl,_,rfl,_,_,rfl,.inl (aY.of hlm),_,_,rfl,rfl,?_⟩
  dsimp only
  rw[decide_eq_true (by rw[List.length_map,hM.la];lia)]
  refine⟨_,rfl,?_⟩
  refine au (bG (bz (pv 0) T.aO T.JF (AD T) hr.m (T.Dc.binds (by walk_at "2")) .nil aE (aa (gc (aa aJ ai)) ai))) ⟨_,rfl,p,dx,_,rfl,C.ob,rfl,by show 1<=sizeLine;decide,λpt hpt=>?_⟩
  have s1:ao H (upd H pt (.tup [.str "mode"])):=ao.upd hpt
  have C1:=C.same s1
  refine⟨p,dx,lw,pt,["mode"],row,_,0,rfl,C1,fN.of af,List.mem_singleton.mpr rfl,λH2 C2 a2=>?_⟩
  have a2:=s1.Hq a2
  have hlm2:H2 lm=some (.lst (as.map V.ref)):=a2 _ _ hlm nlp
  refine au (@bG _ _ _ _ (@bz _ _ _ _ _ _ _ _ _ _ _ _ _ _ _ _ _ _ _ _ (pv 0) T.aO T.AU (rO T) hr.m (T.zq.binds (by walk_at "2")) .nil aE (aa (@ef _ _ _ _ _ _ _ _ mS (@bA _ _ _ _ _ _ _ _ _ _ _ _ _ _ _ _ _ (pv 0) T.aO T.xA (qX T) hr.m (T.wC.binds (by walk_at "1")) .nil aE (by left)) (@iu _ (aq FP) _ ["cursor","modes","name","colour"] _ _ ("mode") _ _ [] _ _ (by walk_at "ck") (@eB _ _ _ _ (pv 1)) (λ_ _ _ _=>by exact(@kL _ K _ _ _ _ (pv 0) rfl (by left))) (by left) (by left) (by left) (by left)) rfl) ai (by left)) (by left) (by left) (by left)) (by left)) ?_
  refine⟨_,rfl,p,dx,_,rfl,C2.ob,rfl,⟨_,rfl,p,dx,_,rfl,C2.ob,rfl,p,dx,lw,row,_,0+1,rfl,C2,?_⟩⟩
  refine⟨_,rfl,lm,rfl,⟨_,aY.of hlm2⟩,iz (xs:=as.map V.ref) (λi ys H'=>H'=H2/\ys=((ms.map (·.name)).take i).map V.str) ⟨rfl,rfl⟩ (eV (by rw[List.length_map,hM.la];lia)) ?_ ?_ ?_⟩
  ·rintro i ys H' _ ⟨rfl,_⟩
   exact aY.of hlm2
  ·rintro i xv ys H' hx hyl ⟨rfl,rfl⟩
   rw[List.getElem?_map] at hx
   obtain⟨a,ha,rfl⟩:=Option.map_eq_some_iff.mp hx
   have hi:i<as.length:=(List.getElem?_eq_some_iff.mp ha).1
   obtain⟨m,hm⟩:∃m,ms[i]?=some m:=⟨ms[i]'(by rw[← hM.la];exact hi),List.getElem?_eq_getElem _⟩
   obtain⟨l,hll⟩:∃l,ls[i]?=some l:=⟨ls[i]'(by rw[hM.ll,← hM.la];exact hi),List.getElem?_eq_getElem _⟩
   obtain⟨dm,rs,o1,o2,o3⟩:=hM.ob i a l m ha hll hm
   refine⟨_,rfl,a,t.dD,dm,_,_,rfl,a2 _ _ o1 (Iw o1 C),T.dY,T.gM,rfl,?_⟩
   refine fm (by rw[List.length_map];exact hi) hyl ⟨rfl,?_⟩
   rw[take_snoc (l:=ms.map (·.name)) (x:=m.name) (by rw[List.getElem?_map,hm];rfl),List.map_append]
   rfl
  ·rintro ys H' hyl ⟨rfl,rfl⟩ D hD
   have hall:(ms.map (·.name)).take (as.map V.ref).length=ms.map (·.name):=List.take_of_length_le (by rw[List.length_map,List.length_map,hM.la];lia)
   rw[hall]
   have s3:ao H' (upd H' D (.lst ((ms.map (·.name)).map V.str))):=ao.upd hD
   have C3:=C2.same s3
   refine⟨D,_,rfl,.inl (aY.of af),rfl,sV,?_⟩
   rw[if_pos rfl,jR,decide_eq_false (p:=pk ["mode",n,c] (0+1)∈ms.map (·.name)) hnn]
   refine⟨_,rfl,?_⟩
   refine au (dW 2 yk (bA (pv 0) T.aO T.IP (zI T) hr.m (T.Hh.binds (by walk_at "1")) .nil aE)) ⟨_,rfl,p,dx,_,rfl,C3.ob,rfl,p,dx,lw,row,_,0+1,rfl,C3,hn,λH4 C4 a4=>?_⟩
   refine au (dW 3 yk (bA (pv 0) T.aO T.IP (zI T) hr.m (T.Hh.binds (by walk_at "1")) .nil aE)) ⟨_,rfl,p,dx,_,rfl,C4.ob,rfl,p,dx,lw,row,_,0+1+1,rfl,C4,hc,λH5 C5 a5=>?_⟩
   have a5:=(a2.same s3).trans (a4.trans a5)
   refine au (bG (bz (pv 0) T.aO T.AU (rO T) hr.m (T.zq.binds (by walk_at "2")) .nil aE (aa (yO (bA (pv 0) T.aO T.I9 (zH T) hr.m (T.CO.binds (by walk_at "1")) .nil aE)) ai))) ⟨_,rfl,p,dx,_,rfl,C5.ob,rfl,⟨_,rfl,p,dx,_,rfl,C5.ob,rfl,p,dx,lw,row,_,0+1+1+1,rfl,C5,_,rfl,?_⟩⟩
   refine⟨_,rfl,?_⟩
   refine ay (aG (dJ T.Az (GY T) hr.m rfl T.vo (T.EE.binds (by walk_at "4")) .nil aE (aa (pv 2) (aa (pv 3) (aa (bV ai) ai))))) ⟨_,rfl,_,rfl,by show 0<=sizeLine;decide,λl1 hl1=>?_⟩
   intro x dm nx ndm ne
   have nl1:l1≠x:=ak af nx
   have nl2:l1≠dm:=ak af ndm
   refine⟨x,dm,l1,n,c,[],rfl,af,by rw[aj nl1,aj nl2];exact af,λl2 H6 h1 h2 h3 h4=>⟨rfl,?_⟩⟩
   have key:∀b o,H5 b=some o->b≠x/\b≠dm/\b≠l1:=λb o hb=>by
    have e1:b≠l1:=ak hb hl1
    have hb':upd H5 l1 (.lst []) b=some o:=by rw[aj e1];exact hb
    exact⟨ak hb' nx,ak hb' ndm,e1⟩
   have hadv:∀b o,H5 b=some o->H6 b=some o:=λb o hb=>by
    obtain⟨k1,k2,k3⟩:=key b o hb
    refine h4 b o ?_ k1
    rw[aj k1,aj k2,aj k3];exact hb
   refine q x l2 dm H6 h2 h3 ?_ λb o hb nb=>hadv b o (a5 b o hb nb)
   cases e:H l2 with
   |none=>rfl
   |some o =>
    by_cases z:l2=p
    ·have h5:=hadv p _ C5.ob
     rw[z,h5] at h3
     cases h3
    ·have h5:=a5 _ _ e z
     obtain⟨k1,k2,k3⟩:=key _ _ h5
     rw[aj k1,aj k2,aj k3,h5] at h1
     cases h1
noncomputable def Qe(t:eS):Sp:=λvs H Q _=>∃(its:List Item),vs=[.str (Str.join ⟨#[10]⟩ (rowsOf its))]/\fk its/\its.length<=200/\∀a H',IsRules t H' a (foldI its)->ao H H'->Q (.ref a) H'
theorem sU(its:List Item):(foldI its).length=(namesOf its).length:=by rw[← qo,List.length_map]
theorem fV.fresh{H H1 H2:Hp}{p:Addr}(s:ao H H1)(h:H p=none)(a:fV H1 H2 p):ao H H2:=λb o hb=>a b o (s b o hb) (ak hb h)
theorem dG.nA{H:Hp}{r l:Addr}{R:bu}{xs:List V}{o:HO}(h:dG t H r R)(hl:H l=some (.lst xs)):dG t (upd H l o) r R:=by
 obtain⟨dx,p,x,⟨dp,y⟩⟩:=h
 exact⟨dx,p,by rw[aj (cA x hl (by intro z;cases z))];exact x,dp,by rw[aj (cA y hl (by intro z;cases z))];exact y⟩
theorem cD.nA{H:Hp}{as ls:List Addr}{ms:List aD}{l:Addr}{xs:List V}{o:HO}(h:cD t H as ls ms)(hl:H l=some (.lst xs))(hn:l∉ls):cD t (upd H l o) as ls ms :=
 ⟨h.la,h.ll,h.nd,λi a l' m h1 h2 h3=>by
  obtain⟨dx,rs,x,y,z⟩:=h.ob i a l' m h1 h2 h3
  exact⟨dx,rs,by rw[aj (cA x hl (by intro z;cases z))];exact x,by rw[aj (show l'≠l from λe=>hn (e ▸ List.mem_of_getElem? h2))];exact y,z.mono λ_ _ r=>r.nA hl⟩⟩
theorem cD.alive{H:Hp}{as ls:List Addr}{ms:List aD}(h:cD t H as ls ms){l:Addr}(hl:l∈ls):∃xs,H l=some (.lst xs):=by
 obtain⟨i,e⟩:=List.mem_iff_getElem?.mp hl
 have hi:=(List.getElem?_eq_some_iff.mp e).1
 obtain⟨dx,rs,x,y,z⟩:=h.ob i _ l _ (List.getElem?_eq_getElem (by rw[h.la,← h.ll];exact hi)) e (List.getElem?_eq_getElem (by rw[← h.ll];exact hi))
 exact⟨_,y⟩
theorem cD.UN{H:Hp}{as ls:List Addr}{ms:List aD}{m l dm:Addr}{n c:Str}(h:cD t H as ls ms)(hm:H m=some (.ins t.dD dm (mf ⟨n,c,[]⟩ l)))(hl:H l=some (.lst []))(hn:l∉ls):cD t H (as++[m]) (ls++[l]) (ms++[⟨n,c,[]⟩]):=by
 refine⟨by simp[h.la],by simp[h.ll],?_,λi a l' m' h1 h2 h3=>?_⟩
 ·refine List.nodup_append.mpr ⟨h.nd,by simp,λa ha b hb=>?_⟩
  rw[List.mem_singleton.mp hb]
  exact λe=>hn (e ▸ ha)
 ·have e1:=h.la
  have e2:=h.ll
  rcases c9 h1 with h1|⟨i1,rfl⟩
  ·have:=(List.getElem?_eq_some_iff.mp h1).1
   rcases c9 h2 with h2|⟨i2,rfl⟩
   ·rcases c9 h3 with h3|⟨i3,rfl⟩
    ·exact h.ob i a l' m' h1 h2 h3
    ·lia
   ·lia
  ·rcases c9 h2 with h2|⟨i2,rfl⟩
   ·have:=(List.getElem?_eq_some_iff.mp h2).1;lia
   ·rcases c9 h3 with h3|⟨i3,rfl⟩
    ·have:=(List.getElem?_eq_some_iff.mp h3).1;lia
    ·exact⟨dm,[],hm,hl,bO.nil⟩
theorem D8{l:List Addr}(h:l.Nodup){i j:Nat}{a:Addr}(h1:l[i]?=some a)(h2:l[j]?=some a):i=j:=by
 obtain⟨i1,e1⟩:=List.getElem?_eq_some_iff.mp h1
 obtain⟨j1,e2⟩:=List.getElem?_eq_some_iff.mp h2
 exact(List.getElem_inj h).mp (e1.trans e2.symm)
theorem cD.U4{H:Hp}{as ls:List Addr}{ms:List aD}{m:aD}{l r:Addr}{rs:List Addr}{R:bu}(h:cD t H as ls (ms++[m]))(hl:ls[ms.length]?=some l)(hH:H l=some (.lst (rs.map V.ref)))(hA:bO (dG t H) rs m.rules)(hr:dG t H r R) :
  cD t (upd H l (.lst (rs.map V.ref++[.ref r]))) as ls (ms++[{ m with rules:=m.rules++[R] }]):=by
 refine⟨by rw[h.la];simp,by rw[h.ll];simp,h.nd,λi a l' m' h1 h2 h3=>?_⟩
 rcases c9 h3 with h3|⟨i3,rfl⟩
 ·have hi:=(List.getElem?_eq_some_iff.mp h3).1
  obtain⟨dx,rs',x,y,z⟩:=h.ob i a l' m' h1 h2 (by rw[List.getElem?_append_left hi];exact h3)
  refine⟨dx,rs',by rw[aj (cA x hH (by intro z;cases z))];exact x,?_,z.mono λ_ _ r=>r.nA hH⟩
  rw[aj (λe=>?_)]
  ·exact y
  ·subst e
   have:=D8 h.nd h2 hl
   lia
 ·subst i3
  rw[hl] at h2
  cases h2
  obtain⟨dx,rs',x,y,z⟩:=h.ob _ a l m h1 hl (by simp)
  refine⟨dx,rs++[r],by rw[aj (cA x hH (by intro z;cases z))];exact x,by rw[af,List.map_append];rfl,?_⟩
  exact bO.snoc (hA.mono λ_ _ r=>r.nA hH) (hr.nA hH)
theorem rQ{α β:Type}{f:α->β}{as:List α}{k:Nat}{a:α}(hl:as.length=k+1)(h:as[k]?=some a):wL (as.map f) (-1)=some (f a):=by
 unfold wL BF
 rw[List.length_map,hl]
 have e:((-1:Int)+((k+1:Nat):Int)).toNat=k:=by lia
 first
  | (rw[if_neg (by lia),if_pos (by lia)];simp only[Option.bind_some];rw[show (((k+1:Nat):Int)+(-1:Int)).toNat=k by lia,List.getElem?_map,h];rfl)
  | (rw[if_neg (by lia),if_pos (by lia)];simp only[Option.bind_some];rw[e,List.getElem?_map,h];rfl)
theorem PR (T:Txt K mg t):aZ P w K mg base c7 7 t.Gx t.MY ["text"] (Qe t):=by
 refine T.Cf.ok jv ?_ ?_
 walk_at "i"
 ·obtain⟨its,rfl,G,hlen,q⟩:=h
  have nl1:("\n" : Str)=⟨#[10]⟩:=by decide +kernel
  refine au (dW 1 jv (c5 F.plainAttrs_str F.slot_str_split F.type_str_split jh (pv 0) (aa aJ ai))) ⟨_,rfl,rfl,_,_,rfl,rfl,by decide,bI (by have:=text_len G hlen;lia),λlr hlr=>?_⟩
  rw[nl1,yU G]
  have s1:ao H (upd H lr (.lst ((rowsOf its).map V.str))):=ao.upd hlr
  have hr1:upd H lr (.lst ((rowsOf its).map V.str)) lr=some (.lst ((rowsOf its).map V.str)):=af
  generalize upd H lr (.lst ((rowsOf its).map V.str))=H1 at s1 hr1
  refine au (dW 2 jv (aQ (Q4 T) hr.m rfl T.OV T.GV.kp (T.GV.binds (by walk_at "1")) .nil aE (aa (pv 1) ai))) ⟨_,rfl,lr,its,rfl,hr1,G,hlen,λd kvs H2 hd2 hN s2=>?_⟩
  have hr2:=s2 _ _ hr1
  have s2:=s1.trans s2
  refine au (dW 3 jv (bV ai)) ⟨by show 0<=sizeLine;decide,λlm hlm=>?_⟩
  have s3:ao H2 (upd H2 lm (.lst [])):=ao.upd hlm
  have hm3:upd H2 lm (.lst []) lm=some (.lst []):=af
  generalize upd H2 lm (.lst [])=H3 at s3 hm3
  have hlm0:H lm=none:=s2.free hlm
  have hr3:=s3 _ _ hr2
  have hd3:=s3 _ _ hd2
  have s3:=s2.trans s3
  refine au (dW 4 jv (bV ai)) ⟨by show 0<=sizeLine;decide,λnw hnw=>?_⟩
  have s4:ao H3 (upd H3 nw (.lst [])):=ao.upd hnw
  have hw4:upd H3 nw (.lst []) nw=some (.lst []):=af
  generalize upd H3 nw (.lst [])=H4 at s4 hw4
  have hr4:=s4 _ _ hr3
  have hd4:=s4 _ _ hd3
  have hm4:=s4 _ _ hm3
  have nmw:lm≠nw:=ak hm3 hnw
  have s4:=s3.trans s4
  have nlr:lr≠lm:=ak hr2 hlm
  have nlrw:lr≠nw:=ak hr3 hnw
  refine aI (λZ' H'=>∃x5 x6 x7 x8 as ls,Z'=[some (.str (Str.join ⟨#[10]⟩ (rowsOf its))),some (.ref lr),some (.ref d),some (.ref lm),some (.ref nw),x5,x6,x7,x8]/\H' lm=some (.lst (as.map V.ref))/\H' nw=some (.lst [])/\cD t H' as ls (foldI its)/\ao H H') (dO PassesOwn.never rfl (uD rfl T.jS (aa (pv 1) ai)) (gZ rfl (bR (oJ 5 jv) (bR (oJ 6 jv) fH))) av) ?_ ?_
  ·refine⟨_,rfl,lr,_,rfl,aY.of hr4,nC (xs:=(rowsOf its).map V.str) (λi Z' H'=>∃x5 x6 x7 x8 as ls,Z'=[some (.str (Str.join ⟨#[10]⟩ (rowsOf its))),some (.ref lr),some (.ref d),some (.ref lm),some (.ref nw),x5,x6,x7,x8]/\H' lm=some (.lst (as.map V.ref))/\H' nw=some (.lst [])/\H' lr=some (.lst ((rowsOf its).map V.str))/\H' d=some (.dK kvs)/\cD t H' as ls (foldI (its.take i))/\lm∉ls/\nw∉ls/\lr∉ls/\(∀l∈ls,H l=none)/\ao H H') ?_ ?_ ?_ ?_⟩
   ·exact⟨_,_,_,_,[],[],rfl,hm4,hw4,hr4,hd4,⟨rfl,rfl,List.nodup_nil,λi a l m h=>by simp at h⟩,by simp,by simp,by simp,by simp,s4⟩
   ·rintro i Z' H' _ ⟨x5,x6,x7,x8,as,ls,rfl,h1,h2,h3,_⟩
    exact aY.of h3
   ·rintro i xv pt Z' H5 hx hpt ⟨x5,x6,x7,x8,as,ls,rfl,hm5,hw5,hr5,hd5,hM,nl1',nl2',nl3',hfr,s5⟩
    rw[List.getElem?_map] at hx
    obtain⟨row,hrow,rfl⟩:=Option.map_eq_some_iff.mp hx
    obtain⟨it,hit,rfl⟩:=oW hrow
    obtain⟨g1,g2,g3⟩:=jc G hit
    obtain⟨w1,w2,w3⟩:=pX G hit
    have s6:ao H5 (upd H5 pt (.tup [.int i,.str (rowOf (namesOf its) it)])):=ao.upd hpt
    refine⟨pt,[.int i,.str (rowOf (namesOf its) it)],rfl,fN.of af,rfl,_,_,rfl,_,_,rfl,rfl,?_⟩
    generalize upd H5 pt (.tup [.int i,.str (rowOf (namesOf its) it)])=H6 at s6
    refine au (dW 7 jv (dJ T.BU (R3 T) hr.m rfl T.xq (T.Ud.binds (by walk_at "3")) .nil aE (aa (pv 5) (aa (pv 6) ai)))) ⟨_,rfl,_,rfl,λp dx np ndx ne=>⟨p,dx,i,_,rfl,af,by lia,by rw[g3];lia,λlw H7 hlw C7 a7=>⟨rfl,?_⟩⟩⟩
    rw[g3] at C7
    have s7:ao H5 H7:=λb o hb=>a7 b o (by rw[aj (ak (s6 _ _ hb) np),aj (ak (s6 _ _ hb) ndx)];exact s6 _ _ hb) (ak (s6 _ _ hb) np)
    have hp5:H5 p=none:=s6.free np
    have hm7:=s7 _ _ hm5
    have hM7:=hM.same s7
    have hml:as.length=(foldI (its.take i)).length:=hM.la
    cases it with
    |mode n c =>
     obtain⟨m1,m2,m3,m4⟩:=G.mode i n c hit
     refine ay (aX (PW.pt (ie (l0 (jj (pv 3) (λ_=>rfl))) (gj (az bS (bA (pv 7) T.aO T.xA (qX T) hr.m (T.wC.binds (by walk_at "1")) .nil aE) aJ (aC _))))) av av) ⟨_,rfl,_,.inl ⟨_,aY.of hm7,rfl⟩,?_⟩
     refine(λhb=>Ux (λ_=>u6 hb) (λ_=>⟨_,rfl,p,dx,_,rfl,C7.ob,rfl,p,dx,lw,i,_,0,rfl,C7,rfl,_,rfl,dR (λ_=>hb) (λh=>absurd rfl h)⟩)) ?_
     refine ay (bG (c5 F.plainAttrs_list F.slot_list_append F.type_list_append cG (pv 3) (aa (aQ (Oe T) hr.m rfl T.Pa T.DG.kp (T.DG.binds (by walk_at "2")) .nil aE (aa (pv 7) (aa (pv 3) ai))) ai))) ⟨_,rfl,.inl ⟨rfl,_,aY.of hm7⟩,_,rfl,_,rfl,p,dx,lw,lm,i,n,c,as,ls,_,rfl,C7,m1,m2,hm7,hM7,by rw[sU];exact m3,by rw[qo];exact m4,λm l2 dm H8 e1 e2 e3 a8=>?_⟩
     have s8:ao H5 H8:=fV.fresh s7 hp5 a8
     have hm8:=s8 _ _ hm5
     have n1:lm≠l2:=ak hm7 e3
     have hn2:l2∉ls:=λz=>by
      obtain⟨xs,hx⟩:=hM7.alive z
      rw[hx] at e3;cases e3
     refine⟨lm,_,_,rfl,rfl,hm8,eV (by rw[List.length_map,hml,sU];lia),?_⟩
     refine⟨_,_,_,_,as++[m],ls++[l2],rfl,by rw[af,List.map_append];rfl,?_,?_,?_,?_,?_,?_,?_,?_,?_⟩
     ·rw[aj (Ne.symm nmw)];exact s8 _ _ hw5
     ·rw[aj nlr];exact s8 _ _ hr5
     ·rw[aj (cA hd5 hm5 (by intro z;cases z))];exact s8 _ _ hd5
     ·rw[take_snoc hit,pq]
      exact cD.UN ((hM.same s8).nA hm8 nl1') (by rw[aj (cA e1 hm8 (by intro z;cases z))];exact e1) (by rw[aj (Ne.symm n1)];exact e2) hn2
     ·intro z
      rcases List.mem_append.mp z with z|z
      ·exact nl1' z
      ·exact n1 (List.mem_singleton.mp z)
     ·intro z
      rcases List.mem_append.mp z with z|z
      ·exact nl2' z
      ·exact ak (s7 _ _ hw5) e3 (List.mem_singleton.mp z)
     ·intro z
      rcases List.mem_append.mp z with z|z
      ·exact nl3' z
      ·exact ak (s7 _ _ hr5) e3 (List.mem_singleton.mp z)
     ·intro l hl
      rcases List.mem_append.mp hl with z|z
      ·exact hfr l z
      ·rw[List.mem_singleton.mp z];exact(s5.trans s7).free e3
     ·intro b o hb
      rw[aj (ak hb hlm0)]
      exact s8 _ _ (s5 _ _ hb)
    |rule R =>
     obtain⟨r1,ms,m,hms,hm12⟩:=G.rule i R hit
     obtain⟨fw,fr,f1,f2⟩:=pA r1
     rw[hms] at hM hM7 hml
     have hk:as.length=ms.length+1:=by rw[hml];simp
     obtain⟨a,ha⟩:∃a,as[ms.length]?=some a:=⟨as[ms.length]'(by lia),List.getElem?_eq_getElem _⟩
     obtain⟨l,hl⟩:∃l,ls[ms.length]?=some l:=⟨ls[ms.length]'(by rw[hM.ll];simp),List.getElem?_eq_getElem _⟩
     obtain⟨dm,rs,o1,o2,o3⟩:=hM.ob ms.length a l m ha hl (by simp)
     have o1':=s7 _ _ o1
     have o2':=s7 _ _ o2
     have hrl:rs.length<12:=by rw[o3.1];exact hm12
     have hl0:H l=none:=hfr l (List.mem_of_getElem? hl)
     have hnl:l∈ls:=List.mem_of_getElem? hl
     refine ay (aX (PW.pt (ie (l0 (jj (pv 3) (λ_=>rfl))) (gj (az bS (bA (pv 7) T.aO T.xA (qX T) hr.m (T.wC.binds (by walk_at "1")) .nil aE) aJ (aC _))))) av av) ⟨_,rfl,_,.inl ⟨_,aY.of hm7,rfl⟩,Ux (λh=>?_) (λ_=>?_)⟩
     ·exfalso
      have:as≠[]:=λz=>by rw[z] at hk;simp at hk
      cases as with
      |nil=>exact this rfl
      |cons _ _=>simp at h
     refine⟨_,rfl,p,dx,_,rfl,C7.ob,rfl,p,dx,lw,i,_,0,rfl,C7,rfl,_,rfl,dR (λh=>?_) (λ_=>?_)⟩
     ·exfalso
      refine f2 ?_
      have h:=V.str.inj h
      simp only[Item.words,f1] at h
      exact h
     refine au (dW 8 jv (aF (bw bq (pv 3) (lq i7 aB) (λ_ _=>rfl)) rfl)) ⟨_,rfl,_,rfl,_,_,_,_,rfl,rfl,aY.of hm7,rQ hk ha,a,t.dD,dm,_,_,rfl,o1',T.dY,T.dM,rfl,?_⟩
     refine au (bG (bz (pv 7) T.aO T.AU (rO T) hr.m (T.zq.binds (by walk_at "2")) .nil aE (aa (ef gx (aK aP (by rfl) T.bU (by decide +kernel) (aa (pv 8) ai)) (fj rfl T.pV) (aC _)) ai))) ⟨_,rfl,p,dx,_,rfl,C7.ob,rfl,_,rfl,_,_,rfl,.inl (aY.of o2'),_,_,rfl,rfl,?_⟩
     dsimp only
     rw[decide_eq_true (by rw[List.length_map];lia)]
     refine⟨_,rfl,?_⟩
     refine ay (bG (c5 F.plainAttrs_list F.slot_list_append F.type_list_append cG (pv 8) (aa (aQ (Rp T) hr.m rfl T.NC T.E1.kp (T.E1.binds (by walk_at "3")) .nil aE (aa (pv 7) (aa (pv 2) (aa (pv 4) ai)))) ai))) ⟨_,rfl,.inl ⟨rfl,_,aY.of o2'⟩,_,rfl,_,rfl,_,rfl,p,dx,lw,d,_,i,_,kvs,namesOf its,R,rfl,C7,rfl,s7 _ _ hd5,hN.has,pT G,r1,λr H8 hr8 a8=>?_⟩
     have s8:ao H5 H8:=fV.fresh s7 hp5 a8
     have o2'':=s8 _ _ o2
     refine⟨l,_,_,rfl,rfl,o2'',eV (by rw[List.length_map];lia),?_⟩
     refine⟨_,_,_,_,as,ls,rfl,?_,?_,?_,?_,?_,nl1',nl2',nl3',hfr,?_⟩
     ·rw[aj (show lm≠l from λz=>nl1' (z ▸ hnl))];exact s8 _ _ hm5
     ·rw[aj (show nw≠l from λz=>nl2' (z ▸ hnl))];exact s8 _ _ hw5
     ·rw[aj (show lr≠l from λz=>nl3' (z ▸ hnl))];exact s8 _ _ hr5
     ·rw[aj (cA hd5 o2 (by intro z;cases z))];exact s8 _ _ hd5
     ·rw[take_snoc hit,pq,hms]
      show cD _ _ _ _ (iR R (ms++[m]))
      rw[jC]
      exact(hM.same s8).U4 hl o2'' (o3.mono λ_ _ r=>r.same s8) hr8
     ·intro b o hb
      rw[aj (ak hb hl0)]
      exact s8 _ _ (s5 _ _ hb)
   ·rintro Z' H' ⟨x5,x6,x7,x8,as,ls,rfl,h1,h2,h3,h4,h5,_,_,_,_,h6⟩
    rw[List.length_map,rowsOf,List.length_map,List.take_length] at h5
    exact⟨_,_,_,_,as,ls,rfl,h1,h2,h5,h6⟩
  rintro Z' H' ⟨x5,x6,x7,x8,as,ls,rfl,h1,h2,h5,h6⟩
  refine au (aX (jj (pv 4) (λ_=>rfl)) av av) ⟨_,rfl,_,.inl ⟨_,aY.of h2,rfl⟩,kj (aU ?_)⟩
  refine ay (aG (dJ T.vO (Gd T) hr.m rfl T.sC (T.GL.binds (by walk_at "2")) .nil aE (aa (pv 3) ai))) ⟨_,rfl,λx dx nx ndx ne=>⟨x,dx,lm,_,rfl,af,by rw[aj (ak h1 nx),aj (ak h1 ndx)];exact h1,λl2 H8 e1 e2 e3 e4=>⟨rfl,?_⟩⟩⟩
  have s8:ao H' H8:=λb o hb=>e4 b o (by rw[aj (ak hb nx),aj (ak hb ndx)];exact hb) (ak hb nx)
  exact q x H8 ⟨dx,l2,as,ls,e2,e3,h5.same s8⟩ (h6.trans s8)
def eU(R:bu)(row:Str)(i:Nat):Bool:=decide (cR R.sort R.signs row i ≠ .cu)
def gE(row:Str)(i:Nat):Nat->List bu->Option Nat
 |_,[]=>none
 |k,R::r=>if eU R row i=true then some k else gE row i (k+1) r
def firstM(rs:List bu)(row:Str)(i:Nat):Option Nat:=gE row i 0 rs
def GoodR(R:bu):Prop:=R.sort∈sorts/\R.signs.length<=200
def mT(rs:List bu):Prop:=rs.length<=200/\∀R∈rs,GoodR R
theorem iW{α:Type}{l:List α}{i:Nat}{x:α}(h:l[i]?=some x):l.drop i=x::l.drop (i+1):=by
 rw[List.drop_eq_getElem?_toList_append,h];rfl
theorem Bf{row:Str}{i k:Nat}{rs:List bu}{R:bu}{n:Nat}(h:rs[n]?=some R):gE row i k (rs.drop n)=if eU R row i=true then some k else gE row i (k+1) (rs.drop (n+1)):=by
 rw[iW h];rfl
theorem IsRules.mode{H:Hp}{a:Addr}{ms:List aD}(h:IsRules t H a ms){k:Nat}{m:aD}(hm:ms[k]?=some m) :
  ∃(dx lm:Addr) (as:List Addr) (b lr dm:Addr) (rs:List Addr),H a=some (.ins t.iU dx [("modes",.ref lm)])/\H lm=some (.lst (as.map V.ref))/\as.length=ms.length/\as[k]?=some b/\H b=some (.ins t.dD dm (mf m lr))/\H lr=some (.lst (rs.map V.ref))/\bO (dG t H) rs m.rules:=by
 obtain⟨dx,lm,as,ls,ha,hlm,hM⟩:=h
 have hk:=(List.getElem?_eq_some_iff.mp hm).1
 obtain⟨b,hb⟩:∃b,as[k]?=some b:=⟨as[k]'(by rw[hM.la];exact hk),List.getElem?_eq_getElem _⟩
 obtain⟨lr,hlr⟩:∃b,ls[k]?=some b:=⟨ls[k]'(by rw[hM.ll];exact hk),List.getElem?_eq_getElem _⟩
 obtain⟨dm,rs,o1,o2,o3⟩:=hM.ob k b lr m hb hlr hm
 exact⟨dx,lm,as,b,lr,dm,rs,ha,hlm,hM.la,hb,o1,o2,o3⟩
theorem gi{as:List Addr}{k:Nat}{b:Addr}(h:as[k]?=some b):wL (as.map V.ref) ((k:Nat):Int)=some (.ref b):=bM (by rw[List.getElem?_map,h];rfl)
noncomputable def Jq(t:eS):Sp:=λvs H Q _=>∃(a:Addr) (ms:List aD) (m:aD) (k i:Nat) (row:Str),vs=[.ref a,.int k,.str row,.int i]/\IsRules t H a ms/\ms[k]?=some m/\mT m.rules/\row.length<=1000/\i<=row.length /\
 ∀H',ao H H'->Q (oE (firstM m.rules row i)) H'
theorem xF (T:Txt K mg t):aZ P w K mg base c7 2 t.De t.KQ ["rules","mode","row","at"] (Jq t):=by
 refine T.qz.ok xm ?_ ?_
 walk_at "i"
 ·obtain⟨a,ms,m,k,i,row,rfl,hR,hm,hok,hrow,hi,q⟩:=h
  obtain⟨dx,lm,as,b,lr,dm,rs,ha,hlm,hal,hb,hmo,hlr,hA⟩:=hR.mode hm
  refine aI (λZ' H'=>(∃x y,Z'=[some (.ref a),some (.int k),some (.str row),some (.int i),x,y])/\ao H H'/\firstM m.rules row i=none) (dO PassesOwn.never rfl (uD rfl T.jS (aa (aF (bw bq (aF (pv 0) rfl) (pv 1) (λ_ _=>rfl)) rfl) ai)) (gZ rfl (bR (oJ 4 xm) (bR (oJ 5 xm) fH))) av) ?_ ?_
  ·refine⟨_,rfl,_,_,_,_,_,rfl,ha,T.fC,T.b8,rfl,⟨_,rfl,_,_,_,_,rfl,rfl,aY.of hlm,gi hb,b,t.dD,dm,_,_,rfl,hmo,T.dY,T.dM,rfl,lr,_,rfl,aY.of hlr,nC (xs:=rs.map V.ref) (λn Z' H'=>(∃x y,Z'=[some (.ref a),some (.int k),some (.str row),some (.int i),x,y])/\ao H H'/\firstM m.rules row i=gE row i n (m.rules.drop n)) ⟨⟨_,_,rfl⟩,ao.refl H,rfl⟩ ?_ ?_ ?_⟩⟩
   ·rintro n Z' H' _ ⟨_,s1,_⟩
    exact aY.of (s1 _ _ hlr)
   ·rintro n xv pt Z' H1 hx hpt ⟨⟨x,y,rfl⟩,s1,hf⟩
    rw[List.getElem?_map] at hx
    obtain⟨r,hr0,rfl⟩:=Option.map_eq_some_iff.mp hx
    obtain⟨R,hR1⟩:∃R,m.rules[n]?=some R:=⟨m.rules[n]'(by rw[← hA.1];exact(List.getElem?_eq_some_iff.mp hr0).1),List.getElem?_eq_getElem _⟩
    obtain⟨dr,pa,hr1,dp,hp1⟩:=hA.2 n r R hr0 hR1
    obtain⟨g1,g2⟩:=hok.2 R (List.mem_of_getElem? hR1)
    obtain⟨fe,fs,de,ds,PK⟩:=EY (P:=P) (w:=w) (base:=base) T g1
    have s2:ao H (upd H1 pt (.tup [.int n,.ref r])):=s1.trans (ao.upd hpt)
    refine⟨pt,[.int n,.ref r],rfl,fN.of af,rfl,_,_,rfl,_,_,rfl,rfl,?_⟩
    rw[Bf hR1] at hf
    generalize upd H1 pt (.tup [.int n,.ref r])=H2 at s2
    refine ay (aX (az iV (bz (aF (pv 5) rfl) PK.cl PK.me PK.ge hr.m PK.be .nil aE (aa (pv 2) (aa (pv 3) ai))) bB (aC _)) av av) (⟨_,rfl,_,_,_,_,_,rfl,(s2 _ _ hr1),T.b9,T.dZ,rfl,⟨pa,dp,_,rfl,s2 _ _ hp1,PK.ne _,_,rfl,_,rfl,pa,dp,R.signs,row,i,rfl,s2 _ _ hp1,by lia,hrow,hi,rfl,_,rfl,jA (λh=>?_) (λh=>aU ⟨⟨_,_,rfl⟩,s2,?_⟩)⟩⟩)
    ·refine ay (aG (pv 4)) ⟨_,rfl,?_⟩
     rw[if_pos (show eU R row i=true from decide_eq_true h)] at hf
     have:=q H2 s2
     rw[hf] at this
     exact this
    ·rw[if_neg (by rw[eU,decide_eq_false (λz=>z h)];decide)] at hf
     exact hf
   ·rintro Z' H' ⟨h1,h2,h3⟩
    rw[List.length_map,hA.1,List.drop_length] at h3
    exact⟨h1,h2,h3⟩
  rintro Z' H' ⟨⟨x,y,rfl⟩,s1,hn⟩
  refine ay (aG bB) ?_
  have:=q H' s1
  rw[hn] at this
  exact this
def b7(n:Nat):V:=.int (n:Int)
def bD(on:List Nat)(d:Str)(g:Option Nat):List Nat :=
 if d = "push" then on++[g.getD 0] else if d = "into" then on.dropLast++[g.getD 0] else if d = "pop" then (if on.length=1 then [0] else on.dropLast) else on
def Kf(R:bu):Prop:=lB R.bg->∃g,R.goal=some g
theorem wz{α:Type}:∀(l:List α) (x:α),l≠[]->l.set (l.length-1) x=l.dropLast++[x]
 | [],_,h=>absurd rfl h
 | [a],x,_=>rfl
 |a::b::r,x,_=>by
  have:=wz (b::r) x (by simp)
  show a::(b::r).set ((b::r).length-1) x=a::((b::r).dropLast++[x])
  rw[this]
theorem IX{n:Nat}(h:0<n):BF n (-1)=some (n-1):=by
 unfold BF
 first
  | (rw[if_neg (by lia),if_pos (by lia)];congr 1;lia)
  | (rw[if_pos (by lia)];congr 1;lia)
noncomputable def O0(t:eS):Sp:=λvs H Q _=>∃(lo r:Addr) (on:List Nat) (R:bu),vs=[.ref lo,.ref r]/\H lo=some (.lst (on.map b7))/\dG t H r R/\on≠[]/\on.length<=100000/\Kf R/\Q .cu (upd H lo (.lst ((bD on R.bg R.goal).map b7)))
theorem Np{H:Hp}{a:Addr}{o:HO}(h:H a=some o):upd H a o=H:=by
 funext b
 by_cases e:b=a
 ·rw[e,af,h]
 ·rw[aj e]
theorem Ey (T:Txt K mg t):aZ P w K mg base c7 1 t.El t.K7 ["modes","rule"] (O0 t):=by
 refine T.uT.ok OY ?_ ?_
 walk_at "i"
 ·obtain⟨lo,r,on,R,rfl,hlo,⟨dr,pa,hr1,hp1⟩,hne,hlen,hg,q⟩:=h
  have nlr:r≠lo:=cA hr1 hlo (by intro z;cases z)
  have hpos:0<on.length:=by cases on with | nil=>exact absurd rfl hne | cons _ _=>simp
  refine ay (aX (az bS (aF (pv 1) rfl) aJ (aC _)) av av) (⟨_,rfl,_,_,_,_,_,rfl,hr1,T.b9,T.fS,rfl,⟨rfl,_,rfl,dR (λh=>?_) (λh1=>?_)⟩⟩)
  ·have h:=V.str.inj h
   obtain⟨g,eg⟩:=hg (.inl h)
   refine ay (bG (c5 F.plainAttrs_list F.slot_list_append F.type_list_append cG (pv 0) (aa (aF (pv 1) rfl) ai))) ⟨_,rfl,.inl ⟨rfl,_,aY.of hlo⟩,⟨_,rfl,_,_,_,_,_,rfl,hr1,T.b9,T.iX,rfl,⟨lo,_,_,rfl,rfl,hlo,eV (by rw[List.length_map];lia),?_⟩⟩⟩
   rw[bD,if_pos h,eg,List.map_append] at q
   rw[eg]
   exact q
  ·have h1:R.bg ≠ "push" := λz=>h1 (by rw[z])
   refine ay (aX (az bS (aF (pv 1) rfl) aJ (aC _)) av av) (⟨_,rfl,_,_,_,_,_,rfl,hr1,T.b9,T.fS,rfl,⟨rfl,_,rfl,dR (λh=>?_) (λh2=>?_)⟩⟩)
   ·have h:=V.str.inj h
    obtain⟨g,eg⟩:=hg (.inr h)
    refine ay (yW (aF (pv 1) rfl) (Ea (pv 0) (lq i7 aB) set_list)) (⟨_,rfl,_,_,_,_,_,rfl,hr1,T.b9,T.iX,rfl,⟨_,rfl,_,rfl,lo,_,_,_,rfl,rfl,hlo,IX (by rw[List.length_map];exact hpos),?_⟩⟩)
    rw[bD,if_neg h1,if_pos h,eg,List.map_append] at q
    rw[wz _ _ (by simpa using hne),eg,← List.map_dropLast]
    exact q
   ·have h2:R.bg ≠ "into" := λz=>h2 (by rw[z])
    refine ay (aX (az bS (aF (pv 1) rfl) aJ (aC _)) av av) (⟨_,rfl,_,_,_,_,_,rfl,hr1,T.b9,T.fS,rfl,⟨rfl,_,rfl,dR (λh=>?_) (λh3=>aU ?_)⟩⟩)
    ·have h:=V.str.inj h
     rw[bD,if_neg h1,if_neg h2,if_pos h] at q
     obtain⟨y,hy⟩:∃y,(on.map b7)[(on.map b7).length-1]?=some y:=⟨_,List.getElem?_eq_getElem (by rw[List.length_map];lia)⟩
     refine au (bG (Q0 F.plainAttrs_list F.slot_list_pop F.type_list_pop Oc (pv 0))) ⟨_,rfl,.inl ⟨rfl,_,aY.of hlo⟩,lo,_,y,rfl,rfl,hlo,hy,?_⟩
     refine ay (aX (l0 (jj (pv 0) (λ_=>rfl))) av av) ⟨_,rfl,_,.inl ⟨_,aY.of af,rfl⟩,?_⟩
     rw[← List.map_dropLast]
     by_cases h1l:on.length=1
     ·rw[if_pos h1l] at q
      have e:on.dropLast=[]:=List.eq_nil_of_length_eq_zero (by rw[List.length_dropLast,h1l])
      rw[e]
      refine u6 (ay (bG (c5 F.plainAttrs_list F.slot_list_append F.type_list_append cG (pv 0) (aa (fj rfl T.kG) ai))) ⟨_,rfl,.inl ⟨rfl,_,aY.of af⟩,lo,_,_,rfl,rfl,af,by decide,?_⟩)
      rw[d9]
      exact q
     ·rw[if_neg h1l] at q
      have e:on.dropLast≠[]:=λz=>by
       have:=congrArg List.length z
       rw[List.length_dropLast] at this
       simp at this
       lia
      cases hd:on.dropLast with
      |nil=>exact absurd hd e
      |cons x r =>
       rw[hd] at q
       exact kj (aU q)
    ·have h3:R.bg ≠ "pop" := λz=>h3 (by rw[z])
     rw[bD,if_neg h1,if_neg h2,if_neg h3,Np hlo] at q
     exact q
theorem Ih{on:List Nat}{d:Str}{g:Option Nat}(h:on≠[]):bD on d g≠[]:=by
 unfold bD
 split
 ·simp
 ·split
  ·simp
  ·split
   ·split
    ·simp
    ·intro z
     have:=congrArg List.length z
     rw[List.length_dropLast] at this
     cases on with
     |nil=>exact h rfl
     |cons x r =>
      cases r with
      |nil=>rename_i h1 _ ;simp at *
      |cons y r=>simp at this
   ·exact h
theorem gA{on:List Nat}{k:Nat}(h:on.getLast?=some k):wL (on.map b7) (-1)=some (b7 k):=by
 obtain⟨pre,rfl⟩:∃pre,on=pre++[k]:=by
  rcases List.eq_nil_or_concat on with rfl|⟨p,x,rfl⟩
  ·simp at h
  ·simp at h
   exact⟨p,by rw[h,List.concat_eq_append]⟩
 exact rQ (k:=pre.length) (by simp) (by simp)
structure dB(ms:List aD):Prop where
 pos:0<ms.length
 len:ms.length<=200
 ok:∀m∈ms,mT m.rules
 bg:∀m∈ms,∀R∈m.rules,R.bg∈qD
 goal:∀m∈ms,∀R∈m.rules,lB R.bg->∃g,R.goal=some g/\g<ms.length
theorem dB.gd{ms:List aD}(G:dB ms){m:aD}{R:bu}(h:m∈ms)(h2:R∈m.rules):Kf R:=λz=>let ⟨g,e,_⟩:=G.goal m h R h2 z;⟨g,e⟩
def iI(ms:List aD)(on:List Nat):Prop:=on≠[]/\∀x∈on,x<ms.length
theorem iI.bg{ms:List aD}(G:dB ms){on:List Nat}(h:iI ms on){m:aD}{R:bu}(h1:m∈ms)(h2:R∈m.rules):iI ms (bD on R.bg R.goal):=by
 refine⟨Ih h.1,λx hx=>?_⟩
 unfold bD at hx
 split at hx
 ·rename_i e
  obtain⟨g,eg,hg⟩:=G.goal m h1 R h2 (.inl e)
  rcases List.mem_append.mp hx with hx|hx
  ·exact h.2 x hx
  ·rw[List.mem_singleton.mp hx,eg];exact hg
 ·split at hx
  ·rename_i e
   obtain⟨g,eg,hg⟩:=G.goal m h1 R h2 (.inr e)
   rcases List.mem_append.mp hx with hx|hx
   ·exact h.2 x (List.dropLast_subset _ hx)
   ·rw[List.mem_singleton.mp hx,eg];exact hg
  ·split at hx
   ·split at hx
    ·rw[List.mem_singleton.mp hx];exact G.pos
    ·exact h.2 x (List.dropLast_subset _ hx)
   ·exact h.2 x hx
def bE(on:List Nat):Nat:=on.getLastD 0
theorem iK{on:List Nat}(h:on≠[]):on.getLast?=some (bE on):=by
 unfold bE
 rw[List.getLastD_eq_getLast?,List.getLast?_eq_some_getLast h]
 rfl
theorem mW{on:List Nat}(h:on≠[]):bE on∈on:=List.mem_of_getLast? (iK h)
theorem iI.mode{ms:List aD}{on:List Nat}(h:iI ms on):∃m,ms[bE on]?=some m:=⟨ms[bE on]'(h.2 _ (mW h.1)),List.getElem?_eq_getElem _⟩
def gu(rs:List bu)(row:Str)(i:Nat):Option bu:=(firstM rs row i).bind (rs[·]?)
def fX(rs:List bu)(row:Str):Option bu:=(gu rs row 0).bind λR=>if bY R.sort=true then none else some R
theorem gJ{row:Str}{i:Nat}:∀{rs:List bu} {k n:Nat},gE row i k rs=some n->k<=n/\∃R,rs[n-k]?=some R/\eU R row i=true/\∀j,j<n-k->∀R',rs[j]?=some R'->eU R' row i=false
 | [],k,n,h=>by cases h
 |R::r,k,n,h=>by
  rw[gE] at h
  split at h
  ·rename_i hf
   cases h
   refine⟨Nat.le_refl _,R,by rw[Nat.sub_self];rfl,hf,λj hj=>?_⟩
   lia
  ·rename_i hf
   obtain⟨h1,R',h2,h3,h4⟩:=gJ h
   have e:n-k=(n-(k+1))+1:=by lia
   refine⟨by lia,R',by rw[e,List.getElem?_cons_succ];exact h2,h3,λj hj R'' hR=>?_⟩
   cases j with
   |zero =>
    rw[List.getElem?_cons_zero] at hR
    cases hR
    simpa using hf
   |succ j=>exact h4 j (by lia) R'' (by rw[List.getElem?_cons_succ] at hR;exact hR)
theorem vZ{rs:List bu}{row:Str}{i n:Nat}(h:firstM rs row i=some n):∃R,rs[n]?=some R/\gu rs row i=some R/\eU R row i=true:=by
 obtain⟨_,R,h2,h3,_⟩:=gJ h
 rw[Nat.sub_zero] at h2
 exact⟨R,h2,by rw[gu,h];exact h2,h3⟩
noncomputable def P5(t:eS):Sp:=λvs H Q _=>∃(a:Addr) (ms:List aD) (m:aD) (k:Nat) (row:Str),vs=[.ref a,.int k,.str row]/\IsRules t H a ms/\ms[k]?=some m/\mT m.rules/\row.length<=1000 /\
 ∀H',ao H H'->(fX m.rules row=none->Q .cu H')/\∀R r,fX m.rules row=some R->dG t H r R->Q (.ref r) H'
theorem GU (T:Txt K mg t):aZ P w K mg base c7 3 t.CT t.M4 ["rules","mode","row"] (P5 t):=by
 refine T.vp.ok xC ?_ ?_
 walk_at "i"
 ·obtain⟨a,ms,m,k,row,rfl,hR,hm,hok,hrow,q⟩:=h
  refine au (dW 3 xC (aQ (xF T) hr.m rfl T.xj T.qz.kp (T.qz.binds (by walk_at "4")) .nil aE (aa (pv 0) (aa (pv 1) (aa (pv 2) (aa aB ai)))))) ⟨_,rfl,_,rfl,_,rfl,a,ms,m,k,0,row,rfl,hR,hm,hok,hrow,by lia,λH1 s1=>?_⟩
  obtain⟨dx,lm,as,b,lr,dm,rs,ha,hlm,hal,hb,hmo,hlr,hA⟩:=hR.mode hm
  cases hf:firstM m.rules row 0 with
  |none =>
   have e:fX m.rules row=none:=by rw[fX,gu,hf];rfl
   exact au (aX (az jw (pv 3) bB (aC _)) av av) ⟨_,rfl,rfl,_,rfl,dR (λ_=>ay (aG bB) ((q H1 s1).1 e)) (λh=>absurd rfl h)⟩
  |some n =>
   obtain⟨R,hn,hru,_⟩:=vZ hf
   obtain⟨r,hr0,hr1⟩:=hA.at hn
   obtain⟨g1,g2⟩:=hok.2 R (List.mem_of_getElem? hn)
   obtain⟨fe,fs,de,ds,PK⟩:=EY (P:=P) (w:=w) (base:=base) T g1
   refine au (aX (az jw (pv 3) bB (aC _)) av av) ⟨_,rfl,rfl,_,rfl,dR (λh=>by cases h) (λ_=>aU ?_)⟩
   refine au (dW 4 xC (bw bq (aF (bw bq (aF (pv 0) rfl) (pv 1) (λ_ _=>rfl)) rfl) (pv 3) (λ_ _=>rfl))) (⟨_,rfl,_,_,_,_,_,rfl,(s1 _ _ ha),T.fC,T.b8,rfl,⟨_,rfl,_,_,_,_,rfl,rfl,aY.of (s1 _ _ hlm),gi hb,b,t.dD,dm,_,_,rfl,s1 _ _ hmo,T.dY,T.dM,rfl,_,rfl,_,_,_,_,rfl,rfl,aY.of (s1 _ _ hlr),gi hr0,?_⟩⟩)
   obtain⟨dr,pa,o1,dp,o2⟩:=id hr1
   have e:fX m.rules row=if bY R.sort=true then none else some R:=by rw[fX,hru];rfl
   refine ay (aG (bH (iF (bA (aF (pv 4) rfl) PK.cl PK.ms PK.gs hr.m PK.bs .nil aE)) bB (pv 4))) (⟨_,rfl,_,_,_,_,_,rfl,(s1 _ _ o1),T.b9,T.dZ,rfl,⟨pa,dp,_,rfl,s1 _ _ o2,PK.ns _,_,rfl,_,rfl,Ux (λh=>?_) (λh=>⟨_,rfl,?_⟩)⟩⟩)
   ·rw[if_pos h] at e
    exact(q H1 s1).1 e
   ·rw[if_neg (by rw[h];decide)] at e
    exact(q H1 s1).2 R r e hr1
def cX(ms:List aD)(k:Nat)(row:Str):Option bu:=(ms[k]?).bind λm=>fX m.rules row
def dU(ms:List aD)(row:Str)(first:Nat):Nat->List Nat->List Nat->Option (List Nat)
 |0,_,_=>none
 |f+1,on,ring=>match cX ms (bE on) row with
  |none=>none
  |some R=>if R.bg = "pop" /\ on.length=1/\first≠0 then none else if bE (bD on R.bg R.goal)=first then some (ring++[bE on]) else dU ms row first f (bD on R.bg R.goal) (ring++[bE on])
def cK(ms:List aD)(first:Nat)(row:Str):Option (List Nat):=dU ms row first ms.length [first] []
theorem qP{on:List Nat}{d:Str}{g:Option Nat}:(bD on d g).length<=on.length+1:=by
 unfold bD
 split
 ·simp
 ·split
  ·simp
  ·split
   ·split
    ·simp
    ·simp;lia
   ·lia
theorem jl{rs:List bu}{row:Str}{R:bu}(h:fX rs row=some R):R∈rs:=by
 unfold fX at h
 cases e:gu rs row 0 with
 |none=>rw[e] at h;cases h
 |some R' =>
  rw[e] at h
  have:(if bY R'.sort=true then none else some R')=some R:=h
  split at this
  ·cases this
  ·cases this
   unfold gu at e
   cases e2:firstM rs row 0 with
   |none=>rw[e2] at e;cases e
   |some n=>rw[e2] at e;exact List.mem_of_getElem? e
noncomputable def ye(t:eS):Sp:=λvs H Q _=>∃(a:Addr) (ms:List aD) (first:Nat) (row:Str),vs=[.ref a,.int first,.str row]/\IsRules t H a ms/\dB ms/\first<ms.length/\row.length<=1000 /\
 ∀H',ao H H'->(cK ms first row=none->Q .cu H')/\∀ring l,cK ms first row=some ring->H' l=some (.lst (ring.map b7))->H l=none->Q (.ref l) H'
theorem zW (T:Txt K mg t):aZ P w K mg base c7 4 t.wO t.GA ["rules","first","row"] (ye t):=by
 refine T.qJ.ok m5 ?_ ?_
 walk_at "i"
 ·obtain⟨a,ms,first,row,rfl,hR,G,hfirst,hrow,q⟩:=h
  refine au (dW 3 m5 (bV ai)) ⟨by show 0<=sizeLine;decide,λlg hlg=>?_⟩
  have s1:ao H (upd H lg (.lst [])):=ao.upd hlg
  have hg1:upd H lg (.lst []) lg=some (.lst []):=af
  generalize upd H lg (.lst [])=H1 at s1 hg1
  refine au (dW 4 m5 (bV (aa (pv 1) ai))) ⟨_,rfl,by show 1<=sizeLine;decide,λlo hlo=>?_⟩
  have s2:ao H1 (upd H1 lo (.lst [.int first])):=ao.upd hlo
  have ho2:upd H1 lo (.lst [.int first]) lo=some (.lst ([first].map b7)):=af
  have hg2:=s2 _ _ hg1
  have ngo:lg≠lo:=ak hg1 hlo
  have hlo0:H lo=none:=s1.free hlo
  generalize upd H1 lo (.lst [.int first])=H2 at s2 ho2 hg2
  have s2:=s1.trans s2
  show At _ _ _ [some (.ref a),some (.int first),some (.str row),some (.ref lg),some (.ref lo),none] H2
  obtain⟨dx,lm,as,ls,ha,hlm,hM⟩:=id hR
  refine aI (λZ' H'=>(∃x,Z'=[some (.ref a),some (.int first),some (.str row),some (.ref lg),some (.ref lo),x])/\ao H H'/\cK ms first row=none) (jO PassesOwn.never (az gx (aK aP (by rfl) T.bU (by decide +kernel) (aa (pv 3) ai)) (aK aP (by rfl) T.bU (by decide +kernel) (aa (aF (pv 0) rfl) ai)) (aC _)) av) ?_ ?_
  ·refine⟨λf Z' H'=>∃(on ring:List Nat),(∃x,Z'=[some (.ref a),some (.int first),some (.str row),some (.ref lg),some (.ref lo),x])/\H' lg=some (.lst (ring.map b7))/\H' lo=some (.lst (on.map b7))/\ao H H'/\f+ring.length=ms.length/\iI ms on/\on.length<=ring.length+1/\cK ms first row=dU ms row first f on ring,⟨ms.length,[first],[],⟨_,rfl⟩,hg2,ho2,s2,by simp,⟨by simp,by simpa using hfirst⟩,by simp,rfl⟩,?_⟩
   rintro f Z' H3 ⟨on,ring,⟨x,rfl⟩,hg3,ho3,s3,hfl,hon,honl,hrec⟩
   have hlen:=G.len
   refine⟨_,rfl,_,_,rfl,.inl (aY.of hg3),⟨_,rfl,_,_,_,_,_,rfl,(s3 _ _ ha),T.fC,T.b8,rfl,⟨_,_,rfl,.inl (aY.of (s3 _ _ hlm)),_,_,rfl,rfl,_,rfl,dR (λh=>?_) (λh=>?_)⟩⟩⟩
   ·rw[List.length_map,List.length_map,hM.la] at h
    obtain⟨f',rfl⟩:∃f',f=f'+1:=⟨f-1,by lia⟩
    obtain⟨m,hm⟩:=hon.mode
    have hmm:=List.mem_of_getElem? hm
    have hid:cX ms (bE on) row=fX m.rules row:=by rw[cX,hm];rfl
    rw[dU,hid] at hrec
    refine⟨_,λZ' H' z=>z,?_⟩
    obtain⟨dx',lm',as',b,lr,dm,rs,ha',hlm',hal',hb,hmo,hlr,hA⟩:=(hR.same s3).mode hm
    cases hi0:fX m.rules row with
    |none =>
     rw[hi0] at hrec
     refine au (dW 5 m5 (aQ (GU T) hr.m rfl T.FU T.vp.kp (T.vp.binds (by walk_at "3")) .nil aE (aa (pv 0) (aa (bw bq (pv 4) (lq i7 aB) (λ_ _=>rfl)) (aa (pv 2) ai))))) ⟨_,rfl,_,rfl,_,rfl,_,_,_,_,rfl,rfl,aY.of ho3,gA (iK hon.1),_,rfl,a,ms,m,bE on,row,rfl,hR.same s3,hm,G.ok m hmm,hrow,λH4 s4=>⟨λ_=>?_,(λR r e=>by rw[hi0] at e;cases e)⟩⟩
     exact au (aX (az jw (pv 5) bB (aC _)) av av) ⟨_,rfl,rfl,_,rfl,dR (λ_=>ay (aG bB) ((q H4 (s3.trans s4)).1 hrec)) (λh=>absurd rfl h)⟩
    |some R =>
     rw[hi0] at hrec
     have hRm:=jl hi0
     refine au (dW 5 m5 (aQ (GU T) hr.m rfl T.FU T.vp.kp (T.vp.binds (by walk_at "3")) .nil aE (aa (pv 0) (aa (bw bq (pv 4) (lq i7 aB) (λ_ _=>rfl)) (aa (pv 2) ai))))) ⟨_,rfl,_,rfl,_,rfl,_,_,_,_,rfl,rfl,aY.of ho3,gA (iK hon.1),_,rfl,a,ms,m,bE on,row,rfl,hR.same s3,hm,G.ok m hmm,hrow,λH4 s4=>⟨(λe=>by rw[hi0] at e;cases e),λR' r e hr1=>?_⟩⟩
     rw[hi0] at e
     cases e
     refine au (aX (az jw (pv 5) bB (aC _)) av av) ⟨_,rfl,rfl,_,rfl,dR (λh=>by cases h) (λ_=>aU ?_)⟩
     have hr4:=hr1.same s4
     have hg4:=s4 _ _ hg3
     have ho4:=s4 _ _ ho3
     obtain⟨dr,pa,o1,hpat⟩:=id hr4
     refine aI (λZ' H'=>Z'=[some (.ref a),some (.int first),some (.str row),some (.ref lg),some (.ref lo),some (.ref r)]/\H'=H4 /\ ¬ (R.bg = "pop" /\ on.length=1/\first≠0)) (aX (PW.pt (ic (az bS (aF (pv 5) rfl) aJ (aC _)) (ic (az bS (aK aP (by rfl) T.bU (by decide +kernel) (aa (pv 4) ai)) aB (aC _)) (gF (az iY (pv 1) (fj rfl T.kG) (aC _)))))) av av) ?_ ?_
     ·refine⟨_,rfl,_,_,_,_,_,rfl,o1,T.b9,T.fS,rfl,⟨rfl,_,rfl,dR (λh1=>?_) (λh1=>aU ⟨rfl,rfl,λz=>h1 (by rw[z.1])⟩)⟩⟩
      refine⟨_,rfl,_,_,rfl,.inl (aY.of ho4),rfl,_,rfl,dR (λh2=>?_) (λh2=>aU ⟨rfl,rfl,λz=>h2 (by rw[List.length_map,z.2.1];rfl)⟩)⟩
      refine⟨_,rfl,rfl,_,rfl,jA (λh3=>?_) (λh3=>aU ⟨rfl,rfl,λz=>z.2.2 (by have:=V.int.inj h3;lia)⟩)⟩
      have h2:=V.int.inj h2
      rw[List.length_map] at h2
      have hc:R.bg = "pop" /\ on.length=1/\first≠0:=⟨V.str.inj h1,by lia,λz=>h3 (by rw[z];rfl)⟩
      simp only[if_pos hc] at hrec
      exact ay (aG bB) ((q H4 (s3.trans s4)).1 hrec)
     rintro Z' H' ⟨rfl,e,hnc⟩
     rw[e]
     clear e H'
     simp only[if_neg hnc] at hrec
     refine au (bG (c5 F.plainAttrs_list F.slot_list_append F.type_list_append cG (pv 3) (aa (bw bq (pv 4) (lq i7 aB) (λ_ _=>rfl)) ai))) ⟨_,rfl,.inl ⟨rfl,_,aY.of hg4⟩,_,rfl,_,rfl,_,_,_,_,rfl,rfl,aY.of ho4,gA (iK hon.1),lg,_,_,rfl,rfl,hg4,eV (by rw[List.length_map];lia),?_⟩
     have hg5:upd H4 lg (.lst (ring.map b7++[b7 (bE on)])) lg=some (.lst ((ring++[bE on]).map b7)):=by rw[af,List.map_append];rfl
     have ho5:upd H4 lg (.lst (ring.map b7++[b7 (bE on)])) lo=some (.lst (on.map b7)):=by rw[aj (Ne.symm ngo)];exact ho4
     have hr5:dG t (upd H4 lg (.lst (ring.map b7++[b7 (bE on)]))) r R:=hr4.nA hg4
     have s5:ao H (upd H4 lg (.lst (ring.map b7++[b7 (bE on)]))):=λb o hb=>by rw[aj (ak hb hlg)];exact s4 _ _ (s3 _ _ hb)
     generalize upd H4 lg (.lst (ring.map b7++[b7 (bE on)]))=H5 at hg5 ho5 hr5 s5
     refine au (bG (aQ (Ey T) hr.m rfl T.Cp T.uT.kp (T.uT.binds (by walk_at "2")) .nil aE (aa (pv 4) (aa (pv 5) ai)))) ⟨_,rfl,_,rfl,lo,r,on,R,rfl,ho5,hr5,hon.1,by lia,G.gd hmm hRm,?_⟩
     have hon6:=hon.bg G hmm hRm
     have hol6:(bD on R.bg R.goal).length<=on.length+1:=qP
     have hg6:upd H5 lo (.lst ((bD on R.bg R.goal).map b7)) lg=some (.lst ((ring++[bE on]).map b7)):=by rw[aj ngo];exact hg5
     have s6:ao H (upd H5 lo (.lst ((bD on R.bg R.goal).map b7))):=λb o hb=>by rw[aj (ak hb hlo0)];exact s5 _ _ hb
     refine ay (aX (az bS (bw bq (pv 4) (lq i7 aB) (λ_ _=>rfl)) (pv 1) (aC _)) av av) ⟨_,rfl,_,rfl,_,_,_,_,rfl,rfl,aY.of af,gA (iK hon6.1),_,rfl,rfl,_,rfl,dR (λh=>?_) (λh=>aU ?_)⟩
     ·have h:bE (bD on R.bg R.goal)=first:=by have:=V.int.inj h;lia
      rw[if_pos h] at hrec
      exact ay (aG (pv 3)) ⟨_,rfl,(q _ s6).2 _ lg hrec hg6 hlg⟩
     ·have h:¬ bE (bD on R.bg R.goal)=first:=λz=>h (by rw[← z];rfl)
      rw[if_neg h] at hrec
      refine⟨f',by lia,_,_,⟨_,rfl⟩,hg6,af,s6,?_,hon6,?_,hrec⟩
      ·simp only[List.length_append,List.length_cons,List.length_nil];lia
      ·simp only[List.length_append,List.length_cons,List.length_nil];lia
   ·rw[List.length_map,List.length_map,hM.la] at h
    have:f=0:=by lia
    subst this
    exact⟨⟨_,rfl⟩,s3,hrec⟩
  rintro Z' H' ⟨⟨x,rfl⟩,s3,hn⟩
  exact ay (aG bB) ((q H' s3).1 hn)
abbrev bK:Str:=" !\"#$&'()*+,-./0123456789:;<=>?@ABCDEFGHIJKLMNOPQRSTUVWXYZ[\\]^_`abcdefghijklmnopqrstuvwxyz{|}~"
def cN:List Str:="" :: bK.cps.toList.map λc=>(⟨#[c]⟩:Str)
noncomputable def Ib:Sp:=λvs H Q _=>vs=[]/\∀l H',H' l=some (.lst (cN.map V.str))->H l=none->ao H H'->Q (.ref l) H'
theorem z8(T:Txt K mg t):aZ P w K mg base c7 1 t.yH t.DQ [] Ib:=by
 refine T.qf.ok IE (λvs H Q E h=>?_) (λcdv A outer s H vs Q E hr h=>oV ?_)
 ·obtain⟨rfl,_⟩:=h
  rfl
 ·obtain⟨rfl,q⟩:=h
  refine ay (aG (aW nJ (bV (aa aJ ai)) (d8 (xJ rfl) (by rfl) T.nI (by decide +kernel) (aa (fj rfl T.Bl) ai)))) ⟨by show 1<=sizeLine;decide,λl1 hl1=>⟨_,rfl,by decide +kernel,λl2 hl2=>?_⟩⟩
  refine⟨l1,l2,_,_,rfl,rfl,ao.upd hl2 _ _ af,af,bI (by simp only[pH,List.length_map,List.length_cons,List.length_nil];decide +kernel),λl hl=>?_⟩
  refine q l _ ?_ (((ao.upd hl1).to hl2).free hl) (((ao.upd hl1).to hl2).to hl)
  rw[af,cN,List.map_cons,List.map_map]
  rfl
theorem sN:∀r∈cN,r.length<=1:=by
 intro r hr
 rcases List.mem_cons.mp hr with e|e
 ·rw[e];decide
 ·obtain⟨c,_,rfl⟩:=List.mem_map.mp e
  exact Nat.le_refl 1
def gH(ms:List aD)(row:Str):Nat->Nat->Option (List Nat)
 |0,_=>none
 |n+1,k=>match cK ms k row with
  |some r=>some r
  |none=>gH ms row n (k+1)
def gX(ms:List aD):List Str->Option (List Nat×Str)
 | []=>none
 |row::r=>match gH ms row ms.length 0 with
  |some ring=>some (ring,row)
  |none=>gX ms r
def jD(ms:List aD):Option (List Nat×Str):=gX ms cN
theorem mX{ms:List aD}{row:Str}:∀{n k:Nat},gH ms row n k=none->∀j,k<=j->j<k+n->cK ms j row=none
 |0,k,_,j,h1,h2=>by lia
 |n+1,k,h,j,h1,h2=>by
  rw[gH] at h
  cases e:cK ms k row with
  |some r=>rw[e] at h;cases h
  |none =>
   rw[e] at h
   by_cases z:j=k
   ·rw[z];exact e
   ·exact mX h j (by lia) (by lia)
theorem ly{ms:List aD}:∀{rows:List Str},gX ms rows=none->∀row∈rows,∀j,j<ms.length->cK ms j row=none
 | [],_,row,h,_,_=>by cases h
 |r::rs,h,row,hr,j,hj=>by
  rw[gX] at h
  cases e:gH ms r ms.length 0 with
  |some r=>rw[e] at h;cases h
  |none =>
   rw[e] at h
   rcases List.mem_cons.mp hr with z|z
   ·rw[z];exact mX e j (Nat.zero_le _) (by lia)
   ·exact ly h row z j hj
theorem xD{ms:List aD}(h:jD ms=none):∀row∈cN,∀j,j<ms.length->cK ms j row=none:=ly h
def nameAt(ms:List aD)(k:Nat):Str:=match ms[k]? with
 |some m=>m.name
 |none=>""
def QW (row:Str):V:=if row = "" then .cu else .str row
noncomputable def Pc(t:eS):Sp:=λvs H Q _=>∃(a:Addr) (ms:List aD),vs=[.ref a]/\IsRules t H a ms/\dB ms /\
 ∀H',ao H H'->(jD ms=none->Q .cu H')/\∀ring row p l,jD ms=some (ring,row)->H' p=some (.tup [.ref l,QW row])->H' l=some (.lst ((ring.map (nameAt ms)).map V.str))->Q (.ref p) H'
theorem uG{ms:List aD}(G:dB ms){row:Str}{first:Nat}:∀{f:Nat} {on ring r:List Nat},iI ms on->(∀x∈ring,x<ms.length)->dU ms row first f on ring=some r->∀x∈r,x<ms.length
 |0,on,ring,r,_,_,h=>by cases h
 |f+1,on,ring,r,ho,hr,h=>by
  rw[dU] at h
  obtain⟨m,hm⟩:=ho.mode
  have hid:cX ms (bE on) row=fX m.rules row:=by rw[cX,hm];rfl
  rw[hid] at h
  have h2:∀x∈ring++[bE on],x<ms.length:=λx hx=>by
   rcases List.mem_append.mp hx with hx|hx
   ·exact hr x hx
   ·rw[List.mem_singleton.mp hx];exact ho.2 _ (mW ho.1)
  cases e:fX m.rules row with
  |none=>rw[e] at h;cases h
  |some R =>
   rw[e] at h
   have h:(if R.bg = "pop" /\ on.length=1/\first≠0 then none else if bE (bD on R.bg R.goal)=first then some (ring++[bE on]) else dU ms row first f (bD on R.bg R.goal) (ring++[bE on]))=some r:=h
   split at h
   ·cases h
   ·split at h
    ·cases h;exact h2
    ·exact uG G (ho.bg G (List.mem_of_getElem? hm) (jl e)) h2 h
theorem rV{ms:List aD}{row:Str}{first:Nat}:∀{f:Nat} {on ring r:List Nat},dU ms row first f on ring=some r->r.length<=ring.length+f
 |0,on,ring,r,h=>by cases h
 |f+1,on,ring,r,h=>by
  rw[dU] at h
  cases e:cX ms (bE on) row with
  |none=>rw[e] at h;cases h
  |some R =>
   rw[e] at h
   have h:(if R.bg = "pop" /\ on.length=1/\first≠0 then none else if bE (bD on R.bg R.goal)=first then some (ring++[bE on]) else dU ms row first f (bD on R.bg R.goal) (ring++[bE on]))=some r:=h
   split at h
   ·cases h
   ·split at h
    ·cases h;simp
    ·have:=rV h
     rw[List.length_append,List.length_cons,List.length_nil] at this
     lia
theorem JI (T:Txt K mg t):aZ P w K mg base c7 5 t.wR t.Hj ["rules"] (Pc t):=by
 refine T.wY.ok mY ?_ ?_
 walk_at "i"
 ·obtain⟨a,ms,rfl,hR,G,q⟩:=h
  have hlen:=G.len
  refine aI (λZ' H'=>(∃x y z,Z'=[some (.ref a),x,y,z])/\ao H H'/\jD ms=none) (dO PassesOwn.never rfl (eB (jW (z8 T) hr.m rfl T.Al T.qf.kp (T.qf.binds (by walk_at "0")) .nil aE)) (oJ 1 mY) av) ?_ ?_
  ·refine⟨rfl,λl H1 hl1 hl0 s1=>⟨l,rfl,⟨_,aY.of hl1⟩,fR (xs:=cN.map V.str) (λi Z' H'=>(∃x y z,Z'=[some (.ref a),x,y,z])/\H' l=some (.lst (cN.map V.str))/\ao H H'/\jD ms=gX ms (cN.drop i)) ⟨⟨_,_,_,rfl⟩,hl1,s1,rfl⟩ ?_ ?_ ?_⟩⟩
   ·rintro i Z' H' _ ⟨_,h,_⟩
    exact aY.of h
   ·rintro i xv Z' H2 hx ⟨⟨x,y,z,rfl⟩,hl2,s2,hrec⟩
    rw[List.getElem?_map] at hx
    obtain⟨row,hrow,rfl⟩:=Option.map_eq_some_iff.mp hx
    have hrl:=sN row (List.mem_of_getElem? hrow)
    rw[iW hrow,gX] at hrec
    obtain⟨dx,lm,as,ls,ha,hlm,hM⟩:=id hR
    refine ay (dO PassesOwn.never rfl (jn rfl T.mz (aa (aK aP (by rfl) T.bU (by decide +kernel) (aa (aF (pv 0) rfl) ai)) ai)) (oJ 2 mY) av) (⟨_,rfl,_,_,_,_,_,rfl,(s2 _ _ ha),T.fC,T.b8,rfl,⟨_,_,rfl,.inl (aY.of (s2 _ _ hlm)),(ms.length:Int),by rw[List.length_map,hM.la],by lia,by lia,iA (n:=((ms.length:Nat):Int).toNat) (λk Z' H'=>(∃y z,Z'=[some (.ref a),some (.str row),y,z])/\H' l=some (.lst (cN.map V.str))/\ao H H'/\gH ms row ms.length 0=gH ms row (ms.length-k) k) ⟨⟨_,_,rfl⟩,hl2,s2,rfl⟩ ?_ ?_⟩⟩)
    ·rintro k Z' H3 hk ⟨⟨y,z,rfl⟩,hl3,s3,hrow3⟩
     have hk':k<ms.length:=by lia
     rw[show ms.length-k=(ms.length-(k+1))+1 by lia,gH] at hrow3
     cases hf:cK ms k row with
     |none =>
      rw[hf] at hrow3
      refine au (dW 3 mY (aQ (zW T) hr.m rfl T.Af T.qJ.kp (T.qJ.binds (by walk_at "3")) .nil aE (aa (pv 0) (aa (pv 2) (aa (pv 1) ai))))) ⟨_,rfl,_,rfl,_,rfl,a,ms,k,row,(by rw[Int.zero_add];rfl),hR.same s3,G,hk',by lia,λH4 s4=>⟨λ_=>?_,(λring lg e=>by rw[hf] at e;cases e)⟩⟩
      exact ay (aX (az iV (pv 3) bB (aC _)) av av) ⟨_,rfl,rfl,_,rfl,jA (λh=>absurd rfl h) (λ_=>aU ⟨⟨_,_,rfl⟩,s4 _ _ hl3,s3.trans s4,hrow3⟩)⟩
     |some ring =>
      rw[hf] at hrow3
      have hrec:jD ms=some (ring,row):=by rw[hrec,hrow3]
      refine au (dW 3 mY (aQ (zW T) hr.m rfl T.Af T.qJ.kp (T.qJ.binds (by walk_at "3")) .nil aE (aa (pv 0) (aa (pv 2) (aa (pv 1) ai))))) ⟨_,rfl,_,rfl,_,rfl,a,ms,k,row,(by rw[Int.zero_add];rfl),hR.same s3,G,hk',by lia,λH4 s4=>⟨(λe=>by rw[hf] at e;cases e),λring' lg e hlg hlg0=>?_⟩⟩
      rw[hf] at e
      cases e
      have s4':=s3.trans s4
      have hlt:∀x∈ring,x<ms.length:=uG G ⟨by simp,by simpa using hk'⟩ (by simp) hf
      have hrl2:ring.length<1000000:=by
       have:=rV hf
       simp only[List.length_nil] at this
       lia
      refine ay (aX (az iV (pv 3) bB (aC _)) av av) ⟨_,rfl,rfl,_,rfl,jA (λ_=>?_) (λh=>by cases h)⟩
      refine ay (@aG _ _ _ _ (@gc _ _ _ _ _ (aa (@iu _ (aq yN) _ ["rules","row","first","ring"] _ _ ("mode") _ _ [("rules",0)] _ _ (by walk_at "ck") (@eB _ _ _ _ (pv 3)) (λ_ _ _ _=>by exact(@kL _ K _ _ _ _ (@bw _ _ _ _ _ _ _ (ER (K:=K) rfl) (@kL _ K _ _ _ _ (pv 0) rfl (by left)) (pv 1) (λ_ _=>rfl)) rfl (by left))) (by left) (by left) (by left) (by left)) (aa (@bH _ _ _ _ _ _ _ _ (@jj _ _ _ (pv 1) (λ_=>rfl)) (pv 1) bB) ai (by left)) (by left)))) ⟨_,rfl,lg,rfl,⟨_,aY.of hlg⟩,iz (xs:=ring.map b7) (λi ys H5=>ys=((ring.take i).map (nameAt ms)).map V.str/\ao H4 H5) ⟨rfl,ao.refl H4⟩ (by rw[List.length_map];exact Nat.lt_trans hrl2 (by decide)) ?_ ?_ ?_⟩
      ·rintro i ys H5 _ ⟨_,s5⟩
       exact aY.of (s5 _ _ hlg)
      ·rintro i xv ys H5 hx hyl ⟨rfl,s5⟩
       rw[List.getElem?_map] at hx
       obtain⟨n,hn,rfl⟩:=Option.map_eq_some_iff.mp hx
       obtain⟨m,hm⟩:∃m,ms[n]?=some m:=⟨ms[n]'(hlt n (List.mem_of_getElem? hn)),List.getElem?_eq_getElem _⟩
       obtain⟨dx,lm,as,b,lr,dm,rs,ha,hlm,hal,hb,hmo,hlr,hA⟩:=(hR.same (s4'.trans s5)).mode hm
       refine⟨_,rfl,_,_,_,_,_,rfl,ha,T.fC,T.b8,rfl,⟨_,rfl,_,_,_,_,rfl,rfl,aY.of hlm,gi hb,b,t.dD,dm,_,_,rfl,hmo,T.dY,T.gM,rfl,?_⟩⟩
       have hi:=(List.getElem?_eq_some_iff.mp hn).1
       refine fm (by rw[List.length_map];exact hi) hyl ⟨?_,s5⟩
       rw[take_snoc hn,List.map_append,List.map_append]
       show _=_++[V.str (nameAt ms n)]
       rw[nameAt,hm]
      ·rintro ys H5 hyl ⟨rfl,s5⟩ D hD
       have e5:ring.take (ring.map b7).length=ring:=by rw[List.length_map,List.take_length]
       rw[e5]
       have s6:ao H (upd H5 D (.lst ((ring.map (nameAt ms)).map V.str))):=(s4'.trans s5).to hD
       have hD6:upd H5 D (.lst ((ring.map (nameAt ms)).map V.str)) D=some (.lst ((ring.map (nameAt ms)).map V.str)):=af
       generalize upd H5 D (.lst ((ring.map (nameAt ms)).map V.str))=H6 at s6 hD6
       by_cases h0:row = ""
       ·refine⟨_,rfl,false,⟨bI (by lia),(by rw[h0];rfl)⟩,kj ⟨by show 2<=sizeLine;decide,λtp htp=>?_⟩⟩
        exact(q _ (s6.to htp)).2 ring row tp D hrec (by rw[af,QW,if_pos h0]) (ao.upd htp _ _ hD6)
       ·have hrl1:row.length≠0:=λz=>h0 (jB (by rw[show (Str.ofString "").cps.toList=[] from by decide +kernel];exact List.eq_nil_of_length_eq_zero (by rw[bT];exact z)))
        refine⟨_,rfl,true,⟨bI (by lia),?_⟩,u6 ⟨_,rfl,by show 2<=sizeLine;decide,λtp htp=>?_⟩⟩
        ·have:(row.length:Int)≠0:=by lia
         simpa using this
        ·exact(q _ (s6.to htp)).2 ring row tp D hrec (by rw[af,QW,if_neg h0]) (ao.upd htp _ _ hD6)
    ·rintro Z' H3 ⟨⟨y,z,rfl⟩,hl3,s3,hrow3⟩
     rw[Int.toNat_natCast,Nat.sub_self] at hrow3
     refine⟨⟨_,_,_,rfl⟩,hl3,s3,?_⟩
     rw[hrec,hrow3]
     rfl
   ·rintro Z' H' ⟨h1,_,h2,h3⟩
    rw[List.length_map,List.drop_length] at h3
    exact⟨h1,h2,h3⟩
  rintro Z' H' ⟨⟨x,y,z,rfl⟩,s1,hn⟩
  exact ay (aG bB) ((q H' s1).1 hn)
def iP(R:bu)(row:Str)(i:Nat):Nat:=match cR R.sort R.signs row i with
 |.int n=>n.toNat
 |_=>0
structure Cfg where
 on:List Nat
 aN:List Str
 marks:List (Nat×Str)
def eE(ms:List aD)(k:Nat):Str:=match ms[k]? with
 |some m=>m.bC
 |none=>""
def gv(ms:List aD)(k:Nat):List bu:=match ms[k]? with
 |some m=>m.rules
 |none=>[]
def g9 (c:Cfg) (R:bu) (row:Str):Cfg:=⟨bD c.on R.bg R.goal,c.aN++List.replicate (iP R row c.aN.length) R.bC,if R.fold = "" then c.marks else c.marks++[(c.aN.length,R.fold)]⟩
def gK(ms:List aD)(row:Str)(c:Cfg):Option Cfg:=match gu (gv ms (bE c.on)) row c.aN.length with
 |some R=>some (g9 c R row)
 |none=>if c.aN.length<row.length then some ⟨c.on,c.aN++[eE ms (bE c.on)],c.marks⟩ else none
def goN(ms:List aD)(row:Str):Nat->Cfg->Option Cfg
 |0,c=>match gK ms row c with
  |none=>some c
  |some _=>none
 |n+1,c=>match gK ms row c with
  |none=>some c
  |some c'=>goN ms row n c'
theorem qh{ms:List aD}{row:Str}{n:Nat}{c c' d:Cfg}(h:gK ms row c=some c')(g:goN ms row n c'=some d):goN ms row (n+1) c=some d:=by
 rw[goN,h];exact g
theorem Au{ms:List aD}{row:Str}{n:Nat}{c:Cfg}(h:gK ms row c=none):goN ms row n c=some c:=by
 cases n with
 |zero=>rw[goN,h]
 |succ n=>rw[goN,h]
def cj(row:Str)(i:Nat):Str:=match row.cps.toList[i]? with
 |some c=>⟨#[c]⟩
 |none=>""
theorem zX {s sg row:Str} {i c:Nat} (h1:s ≠ "end") (h2:s ≠ "word") (e:row.cps.toList[i]?=some c):cR s sg row i ≠ .cu↔((s = "any" ∨ s = "still")∨(s = "none" /\ c∉sg.cps.toList)∨(s ≠ "none" /\ c∈sg.cps.toList)):=by
 rw[gk h1 h2 e]
 by_cases h3:s = "any" ∨ s = "still"
 ·rw[if_pos h3]
  exact⟨λ_=>.inl h3,λ_ z=>by cases z⟩
 ·rw[if_neg h3]
  by_cases h4:s = "none"
  ·rw[if_pos h4]
   by_cases h5:c∈sg.cps.toList
   ·rw[if_pos h5]
    exact⟨λz=>absurd rfl z,λz=>by rcases z with z|z|z;(exact absurd z h3);(exact absurd h5 z.2);(exact absurd h4 z.1)⟩
   ·rw[if_neg h5]
    exact⟨λ_=>.inr (.inl ⟨h4,h5⟩),λ_ z=>by cases z⟩
  ·rw[if_neg h4]
   by_cases h5:c∈sg.cps.toList
   ·rw[if_pos h5]
    exact⟨λ_=>.inr (.inr ⟨h4,h5⟩),λ_ z=>by cases z⟩
   ·rw[if_neg h5]
    exact⟨λz=>absurd rfl z,λz=>by rcases z with z|z|z;(exact absurd z h3);(exact absurd z.1 h4);(exact absurd z.2 h5)⟩
theorem yw{R:bu}{row:Str}{i:Nat}(hi:i<=row.length)(h:eU R (cj row i) 0=true)(hs:R.sort∈sorts):eU R row i=true:=by
 unfold eU at h ⊢
 rw[decide_eq_true_eq] at h ⊢
 have hl:=bT row
 cases e:row.cps.toList[i]? with
 |none =>
  have hi2:i=row.length:=by
   have:=List.getElem?_eq_none_iff.mp e
   lia
  have es:cj row i = "" := by unfold cj;rw[e]
  rw[es] at h
  have ee:(Str.ofString "").cps.toList=[]:=by decide +kernel
  rcases ff hs with hs|hs|hs|hs|hs|hs|hs <;> rw[hs] at h ⊢
  ·rw[cR,if_neg (by decide),if_pos rfl] at h ⊢
   rw[show (("" : Str)).cps.toList=[] from ee] at h
   have:row.cps.toList.drop i=[]:=List.drop_eq_nil_of_le (by lia)
   rw[this]
   exact h
  all_goals first
   | (exfalso;exact h (gS (by decide) (by decide) (by decide)))
   | (rw[cR,if_pos rfl,if_pos hi2];intro z;cases z)
 |some c =>
  have hi2:i<row.length:=by
   have:=(List.getElem?_eq_some_iff.mp e).1
   lia
  have es:cj row i=⟨#[c]⟩:=by unfold cj;rw[e]
  rw[es] at h
  have e0:(⟨#[c]⟩:Str).cps.toList[0]?=some c:=rfl
  rcases ff hs with hs|hs|hs|hs|hs|hs|hs <;> rw[hs] at h ⊢
  ·rw[cR,if_neg (by decide),if_pos rfl] at h ⊢
   have hd:=iW e
   rw[hd]
   intro z
   apply h
   by_cases y:((⟨#[c]⟩:Str).cps.toList.drop 0).take R.signs.length=R.signs.cps.toList
   ·exfalso
    have y':[c].take R.signs.length=R.signs.cps.toList:=y
    have yl:=congrArg List.length y'
    rw[bT,List.length_take] at yl
    have:(c::row.cps.toList.drop (i+1)).take R.signs.length=R.signs.cps.toList:=by
     rw[← y']
     cases hsl:R.signs.length with
     |zero=>rfl
     |succ n =>
      rw[hsl] at yl
      have:n=0:=by simp at yl;lia
      subst this
      rfl
    rw[if_pos this] at z
    cases z
   ·rw[if_neg y]
  all_goals first
   | (rw[cR,if_pos rfl,if_neg (by show ¬ 0=1;decide)] at h;exact absurd rfl h)
   |exact(zX (by decide) (by decide) e).mpr ((zX (by decide) (by decide) e0).mp h)
theorem lN {s:Str} (h:s∈sorts) (h2:bY s=false):s = "still" ∨ s = "end" := by
 rcases ff h with rfl|rfl|rfl|rfl|rfl|rfl|rfl
 all_goals first
  |exact .inl rfl
  |exact .inr rfl
  | (exfalso;revert h2;decide +kernel)
theorem yK{R:bu}{row:Str}{i:Nat}(hi:i<=row.length)(h:eU R row i=true)(hs:R.sort∈sorts)(h2:bY R.sort=false):eU R (cj row i) 0=true:=by
 unfold eU at h ⊢
 rw[decide_eq_true_eq] at h ⊢
 have hl:=bT row
 cases e:row.cps.toList[i]? with
 |none =>
  have hi2:i=row.length:=by
   have:=List.getElem?_eq_none_iff.mp e
   lia
  have es:cj row i = "" := by unfold cj;rw[e]
  rw[es]
  rcases lN hs h2 with hs|hs <;> rw[hs] at h ⊢
  ·exact absurd (gS (by decide) (by decide) (by lia)) h
  ·rw[cR,if_pos rfl,if_pos (by decide +kernel)];intro z;cases z
 |some c =>
  have hi2:i<row.length:=by
   have:=(List.getElem?_eq_some_iff.mp e).1
   lia
  have es:cj row i=⟨#[c]⟩:=by unfold cj;rw[e]
  have e0:(⟨#[c]⟩:Str).cps.toList[0]?=some c:=rfl
  rw[es]
  rcases lN hs h2 with hs|hs <;> rw[hs] at h ⊢
  ·rw[gk (by decide) (by decide) e0,if_pos (by decide)];intro z;cases z
  ·rw[cR,if_pos rfl,if_neg (by lia)] at h;exact absurd rfl h
theorem sZ{row:Str}{i:Nat}:∀{rs:List bu} {k n:Nat} {R:bu},rs[n]?=some R->eU R row i=true->(∀j,j<n->∀R',rs[j]?=some R'->eU R' row i=false)->gE row i k rs=some (k+n)
 | [],k,n,R,h,_,_=>by simp at h
 |R0::r,k,0,R,h,hf,_=>by
  rw[List.getElem?_cons_zero] at h
  cases h
  rw[gE,if_pos hf]
  rfl
 |R0::r,k,n+1,R,h,hf,hn=>by
  have h0:=hn 0 (by lia) R0 rfl
  rw[gE,if_neg (by rw[h0];decide),sZ (rs:=r) (n:=n) h hf (λj hj R' hR=>hn (j+1) (by lia) R' hR)]
  congr 1
  lia
theorem Bv{rs:List bu}{row:Str}{i:Nat}{R:bu}(hok:∀R∈rs,R.sort∈sorts)(hi:i<=row.length)(h:gu rs row i=some R)(h2:bY R.sort=false):fX rs (cj row i)=some R:=by
 unfold gu at h
 cases e:firstM rs row i with
 |none=>rw[e] at h;cases h
 |some n =>
  rw[e] at h
  obtain⟨_,R',g1,g2,g3⟩:=gJ e
  rw[Nat.sub_zero] at g1 g3
  have:R'=R:=Option.some.inj (g1.symm.trans h)
  subst this
  have hm:=List.mem_of_getElem? g1
  have hf:firstM rs (cj row i) 0=some n:=by
   have:=sZ (row:=cj row i) (i:=0) (k:=0) g1 (yK hi g2 (hok _ hm) h2) (λj hj R' hR=>by
    cases z:eU R' (cj row i) 0 with
    |false=>rfl
    |true =>
     have:=yw hi z (hok _ (List.mem_of_getElem? hR))
     rw[g3 j hj R' hR] at this
     cases this)
   rw[Nat.zero_add] at this
   exact this
  rw[fX,gu,hf]
  show (rs[n]?).bind _=_
  rw[g1]
  show (if bY R'.sort=true then none else some R')=some R'
  rw[if_neg (by rw[h2];decide)]
theorem B7(sg:List Nat):∀l:List Nat,ja sg l<=l.length
 | []=>Nat.le_refl _
 |c::r=>by
  rw[ja]
  split
  ·have:=B7 sg r;rw[List.length_cons];lia
  ·exact Nat.zero_le _
theorem PV{s sg row:Str}{i:Nat}{n:Int}(hi:i<=row.length)(h:cR s sg row i = .int n):i+n.toNat<=row.length:=by
 have hl:=bT row
 by_cases h1:s = "end"
 ·rw[cR,if_pos h1] at h
  split at h
  ·have:=V.int.inj h
   lia
  ·cases h
 ·by_cases h2:s = "word"
  ·rw[cR,if_neg h1,if_pos h2] at h
   split at h
   ·rename_i hw
    have:=congrArg List.length hw
    rw[List.length_take,List.length_drop,bT,bT] at this
    have:=V.int.inj h
    lia
   ·cases h
  ·cases e:row.cps.toList[i]? with
   |none=>rw[cR,if_neg h1,if_neg h2,e] at h;cases h
   |some c =>
    have hi2:i<row.length:=by
     have:=(List.getElem?_eq_some_iff.mp e).1
     lia
    have hr:=B7 sg.cps.toList (row.cps.toList.drop (i+1))
    rw[List.length_drop] at hr
    rw[gk h1 h2 e] at h
    split at h
    ·have:=V.int.inj h
     split at this <;> lia
    ·split at h
     ·split at h
      ·cases h
      ·have:=V.int.inj h;lia
     ·split at h
      ·have:=V.int.inj h
       split at this <;> lia
      ·cases h
theorem FL{R:bu}{row:Str}{i:Nat}(hs:R.sort∈sorts)(hi:i<=row.length):i+iP R row i<=row.length:=by
 unfold iP
 rcases lS R.sort R.signs row i with ⟨n,e⟩|e
 ·rw[e];exact PV hi e
 ·rw[e];exact hi
theorem IG {s sg row:Str} {i:Nat} {n:Int} (he:bY s=true) (hg:s = "word" -> 1<=sg.length) (h:cR s sg row i = .int n):1<=n:=by
 have h1:s ≠ "end" := λz=>by rw[z] at he;revert he;decide +kernel
 have h1':s ≠ "still" := λz=>by rw[z] at he;revert he;decide +kernel
 by_cases h2:s = "word"
 ·rw[cR,if_neg h1,if_pos h2] at h
  split at h
  ·have:=V.int.inj h
   have:=hg h2
   lia
  ·cases h
 ·cases e:row.cps.toList[i]? with
  |none=>rw[cR,if_neg h1,if_neg h2,e] at h;cases h
  |some c =>
   rw[gk h1 h2 e] at h
   split at h
   ·rename_i h3
    have:=V.int.inj h
    rcases h3 with h3|h3
    ·rw[if_pos h3] at this;lia
    ·exact absurd h3 h1'
   ·split at h
    ·split at h
     ·cases h
     ·have:=V.int.inj h;lia
    ·split at h
     ·have:=V.int.inj h
      split at this <;> lia
     ·cases h
theorem HN{R:bu}{row:Str}{i:Nat}(hs:R.sort∈sorts)(he:bY R.sort=true)(hg:¬ bare R.sort->1<=R.signs.length)(hf:eU R row i=true):1<=iP R row i:=by
 unfold eU at hf
 rw[decide_eq_true_eq] at hf
 unfold iP
 rcases lS R.sort R.signs row i with ⟨n,e⟩|e
 ·have:=IG he (λz=>hg (by rw[z];decide)) e
  rw[e]
  show 1<=n.toNat
  lia
 ·exact absurd e hf
theorem Fy{R:bu}{row:Str}{i:Nat}(hs:R.sort∈sorts)(he:bY R.sort=false):iP R row i=0:=by
 unfold iP
 rcases lN hs he with h|h <;> rw[h]
 ·cases e:row.cps.toList[i]? with
  |none=>rw[cR,if_neg (by decide),if_neg (by decide),e]
  |some c=>rw[gk (by decide) (by decide) e,if_pos (by decide),if_neg (by decide)];rfl
 ·rw[cR,if_pos rfl]
  split
  ·rename_i e;split at e <;> cases e;rfl
  ·rfl
theorem mO(r:List Nat)(k:Nat):bE (r++[k])=k:=by unfold bE;simp
theorem BY {names:List Str} {n c:Str}:(Str.ofString "mode " ++ n++Str.ofString " " ++ c:Str)=rowOf names (.mode n c):=by
 refine jB ?_
 unfold rowOf
 rw[eK,eT,eT,eT]
 show _=(Str.ofString "mode").cps.toList++32::(n.cps.toList++32::c.cps.toList)
 have e1:(Str.ofString "mode ").cps.toList=(Str.ofString "mode").cps.toList++[32]:=by decide +kernel
 have e2:(Str.ofString " ").cps.toList=[32]:=by decide +kernel
 rw[e1,e2]
 simp
def gg(m:aD):List Item:=.mode m.name m.bC::m.rules.map .rule
def itemsOf(ms:List aD):List Item:=ms.flatMap gg
theorem gQ(a b:List aD):itemsOf (a++b)=itemsOf a++itemsOf b:=by unfold itemsOf;rw[List.flatMap_append]
theorem gW(m:aD):itemsOf [m]=gg m:=by unfold itemsOf;simp
theorem wH(rs:List bu):namesOf (rs.map Item.rule)=[]:=by
 induction rs with
 |nil=>rfl
 |cons r t ih=>show vc (.rule r)++namesOf (t.map Item.rule)=[];rw[ih];rfl
theorem Jd(m:aD):namesOf (gg m)=[m.name]:=by
 show vc (.mode m.name m.bC)++namesOf (m.rules.map Item.rule)=_
 rw[wH];rfl
theorem gP(ms:List aD):namesOf (itemsOf ms)=ms.map (·.name):=by
 induction ms with
 |nil=>rfl
 |cons m r ih =>
  rw[show m::r=[m]++r from rfl,gQ,jP,gW,Jd,ih]
  rfl
theorem oN(rs:List bu):∀(ms:List aD) (m:aD),(rs.map Item.rule).foldl stepI (ms++[m])=ms++[{ m with rules:=m.rules++rs }]:=by
 induction rs with
 |nil=>intro ms m;simp
 |cons r t ih =>
  intro ms m
  rw[List.map_cons,List.foldl_cons,show stepI (ms++[m]) (Item.rule r)=iR r (ms++[m]) from rfl,jC,ih]
  simp
theorem G9(ms:List aD)(m:aD):(gg m).foldl stepI ms=ms++[m]:=by
 rw[gg,List.foldl_cons]
 show (m.rules.map Item.rule).foldl stepI (ms++[⟨m.name,m.bC,[]⟩])=_
 rw[oN]
 simp
theorem mJ(ms:List aD):∀acc:List aD,(itemsOf ms).foldl stepI acc=acc++ms:=by
 induction ms with
 |nil=>intro acc;simp[itemsOf]
 |cons m r ih =>
  intro acc
  rw[show m::r=[m]++r from rfl,gQ,List.foldl_append,gW,G9,ih]
  simp
theorem zc(ms:List aD):foldI (itemsOf ms)=ms:=by
 have:=mJ ms []
 simpa [foldI] using this
structure Hr(ms:List aD):Prop where
 pos:0<ms.length
 zb:ms.length<=12
 nd:(ms.map (·.name)).Nodup
 nm:∀m∈ms,isName m.name=true/\isName m.bC=true
 six:∀m∈ms,m.rules.length<=12
 rule:∀m∈ms,∀R∈m.rules,iL (ms.map (·.name)) R
theorem sQ{ms:List aD}(B:Hr ms):∀n,n<=ms.length->∀(i:Nat) it,(itemsOf (ms.take n))[i]?=some it ->
  (∀nm c,it = .mode nm c->isName nm=true/\isName c=true/\(namesOf ((itemsOf (ms.take n)).take i)).length<12/\nm∉namesOf ((itemsOf (ms.take n)).take i)) /\
  (∀R,it = .rule R->iL (ms.map (·.name)) R/\∃ms' m,foldI ((itemsOf (ms.take n)).take i)=ms'++[m]/\m.rules.length<12)
 |0,_,i,it,h=>by simp[itemsOf] at h
 |n+1,hn,i,it,h=>by
  have hm:ms[n]?=some ms[n]:=List.getElem?_eq_getElem hn
  have e:itemsOf (ms.take (n+1))=itemsOf (ms.take n)++gg ms[n]:=by rw[take_snoc hm,gQ,gW]
  rw[e] at h ⊢
  have hmm:=List.getElem_mem hn
  have r6:=B.six _ hmm
  have h4:=B.zb
  by_cases hi:i<(itemsOf (ms.take n)).length
  ·rw[List.getElem?_append_left hi] at h
   rw[List.take_append_of_le_length (by lia)]
   exact sQ B n (by lia) i it h
  ·rw[List.getElem?_append_right (by lia)] at h
   rw[show (itemsOf (ms.take n)++gg ms[n]).take i=itemsOf (ms.take n)++(gg ms[n]).take (i-(itemsOf (ms.take n)).length) by
    rw[List.take_append,List.take_of_length_le (by lia)]]
   generalize i-(itemsOf (ms.take n)).length=j at h
   cases j with
   |zero =>
    have h:Item.mode ms[n].name ms[n].bC=it:=by simpa [gg] using h
    subst h
    refine⟨λnm c e=>?_,(λR e=>by cases e)⟩
    cases e
    obtain⟨n1,n2⟩:=B.nm _ hmm
    rw[List.take_zero,List.append_nil,gP]
    refine⟨n1,n2,by rw[List.length_map,List.length_take];lia,λhmem=>?_⟩
    rw[List.map_take] at hmem
    have hnd:=B.nd
    obtain⟨j,hj⟩:=List.mem_iff_getElem?.mp hmem
    have hjn:j<n:=by
     have:=(List.getElem?_eq_some_iff.mp hj).1
     rw[List.length_take] at this
     lia
    rw[List.getElem?_take_of_lt hjn] at hj
    have hk:(ms.map (·.name))[n]?=some ms[n].name:=by rw[List.getElem?_map,hm];rfl
    obtain⟨j1,e1⟩:=List.getElem?_eq_some_iff.mp hj
    obtain⟨k1,e2⟩:=List.getElem?_eq_some_iff.mp hk
    have:=(List.getElem_inj hnd).mp (e1.trans e2.symm)
    lia
   |succ j =>
    have h:(ms[n].rules.map Item.rule)[j]?=some it:=by simpa [gg] using h
    rw[List.getElem?_map] at h
    obtain⟨R0,hR0,rfl⟩:=Option.map_eq_some_iff.mp h
    refine⟨(λnm c e=>by cases e),λR e=>?_⟩
    cases e
    refine⟨B.rule _ hmm _ (List.mem_of_getElem? hR0),ms.take n,⟨ms[n].name,ms[n].bC,ms[n].rules.take j⟩,?_,?_⟩
    ·unfold foldI
     rw[List.foldl_append,mJ,List.nil_append]
     have:=G9 (ms.take n) ⟨ms[n].name,ms[n].bC,ms[n].rules.take j⟩
     rw[← this]
     congr 1
     rw[gg,gg,List.take_succ_cons,List.map_take]
    ·show (ms[n].rules.take j).length<12
     have hj0:=(List.getElem?_eq_some_iff.mp hR0).1
     rw[List.length_take]
     lia
theorem Hr.items{ms:List aD}(B:Hr ms):fk (itemsOf ms):=by
 have h:=sQ B ms.length (Nat.le_refl _)
 rw[List.take_length] at h
 refine⟨?_,λi n c e=>(h i _ e).1 n c rfl,λi R e=>?_⟩
 ·intro z
  have:=gP ms
  rw[z] at this
  have hl:=congrArg List.length this
  rw[List.length_map] at hl
  have:=B.pos
  simp[namesOf] at hl
  lia
 ·rw[gP]
  exact(h i _ e).2 R rfl
theorem Hr.len{ms:List aD}(B:Hr ms):∀n,n<=ms.length->(itemsOf (ms.take n)).length<=n*13
 |0,_=>by simp[itemsOf]
 |n+1,hn=>by
  have hm:ms[n]?=some ms[n]:=List.getElem?_eq_getElem hn
  have ih:=B.len n (by lia)
  have h6:=B.six _ (List.getElem_mem hn)
  rw[take_snoc hm,gQ,gW,List.length_append,gg,List.length_cons,List.length_map]
  lia
theorem Hr.Dh{ms:List aD}(B:Hr ms):(itemsOf ms).length<=200:=by
 have:=B.len ms.length (Nat.le_refl _)
 rw[List.take_length] at this
 have:=B.zb
 lia
theorem Hr.good{ms:List aD}(B:Hr ms):dB ms:=by
 have h12:=B.zb
 refine⟨B.pos,by lia,λm hm=>⟨by have:=B.six m hm;lia,λR hR=>?_⟩,λm hm R hR=>(B.rule m hm R hR).bg,λm hm R hR hg=>?_⟩
 ·have g:=(B.rule m hm R hR).pat
  refine⟨g.sort,?_⟩
  by_cases hb:bare R.sort
  ·rw[g.Bh hb];decide +kernel
  ·exact(g.sg hb).2.1
 ·obtain⟨g,e,h⟩:=(B.rule m hm R hR).goal hg
  exact⟨g,e,by rw[List.length_map] at h;exact h⟩
def GM(H:Hp)(lk:Addr)(mk:List (Nat×Str)):Prop:=∃ps,H lk=some (.lst (ps.map V.ref))/\bO (λp m=>H p=some (.tup [b7 m.1,.str m.2])) ps mk
theorem GM.same{H H':Hp}{lk:Addr}{mk:List (Nat×Str)}(h:GM H lk mk)(s:ao H H'):GM H' lk mk:=by
 obtain⟨ps,a,b⟩:=h
 exact⟨ps,s _ _ a,b.mono λ_ _ e=>s _ _ e⟩
def GF(H0 H:Hp)(lk:Addr)(mk:List (Nat×Str)):Prop:=∃ps:List Addr,H lk=some (.lst (ps.map V.ref))/\bO (λp m=>H p=some (.tup [b7 m.1,.str m.2])) ps mk/\∀p∈ps,H0 p=none
theorem GF.gm{H0 H:Hp}{lk:Addr}{mk:List (Nat×Str)}(h:GF H0 H lk mk):GM H lk mk:=by
 obtain⟨ps,a,b,_⟩:=h
 exact⟨ps,a,b⟩
theorem GF.same{H0 H H':Hp}{lk:Addr}{mk:List (Nat×Str)}(h:GF H0 H lk mk)(s:ao H H'):GF H0 H' lk mk:=by
 obtain⟨ps,a,b,c⟩:=h
 exact⟨ps,s _ _ a,b.mono λ_ _ e=>s _ _ e,c⟩
theorem GF.nA{H0 H:Hp}{lk l:Addr}{mk:List (Nat×Str)}{xs:List V}{o:HO}(h:GF H0 H lk mk)(hl:H l=some (.lst xs))(hn:lk≠l):GF H0 (upd H l o) lk mk:=by
 obtain⟨ps,a,b,c⟩:=h
 exact⟨ps,by rw[aj hn];exact a,b.mono λp m e=>by rw[aj (cA e hl (by intro z;cases z))];exact e,c⟩
structure Told(H:Hp)(tp lt lo lk:Addr)(d:Cfg):Prop where
 tp:H tp=some (.tup [.ref lt,.ref lo,.ref lk])
 lt:H lt=some (.lst (d.aN.map V.str))
 lo:H lo=some (.lst (d.on.map b7))
 lk:GM H lk d.marks
noncomputable def PM(t:eS):Sp:=λvs H Q _=>∃(a lo:Addr) (ms:List aD) (on:List Nat) (row:Str) (n:Nat) (d:Cfg),vs=[.ref a,.ref lo,.str row]/\IsRules t H a ms/\dB ms/\H lo=some (.lst (on.map b7))/\iI ms on/\row.length<=1000/\on.length<=50000/\n<=40000/\goN ms row n ⟨on,[],[]⟩=some d /\
 ∀tp lt lo' lk H',Told H' tp lt lo' lk d->GF H H' lk d.marks->H lt=none->H lo'=none->H lk=none->lt≠lo'->lt≠lk->lo'≠lk->ao H H'->Q (.ref tp) H'
theorem vd{α:Type}(x:α):∀n:Nat,(List.replicate n [x]).flatten=List.replicate n x
 |0=>rfl
 |n+1=>by rw[List.replicate_succ,List.flatten_cons,vd x n,List.replicate_succ];rfl
theorem Jr{R:bu}{row:Str}{i:Nat}(h:eU R row i=true):cR R.sort R.signs row i=b7 (iP R row i):=by
 unfold eU at h
 rw[decide_eq_true_eq] at h
 unfold iP
 have hn:∀n:Int,cR R.sort R.signs row i = .int n->0<=n:=by
  intro n
  unfold cR
  intro e
  repeat' split at e
  all_goals first
   | (have:=V.int.inj e;lia)
   |cases e
 rcases lS R.sort R.signs row i with ⟨n,e⟩|e
 ·rw[e]
  have:=hn n e
  show V.int n=V.int ((n.toNat:Nat):Int)
  rw[show ((n.toNat:Nat):Int)=n by lia]
 ·exact absurd e h
theorem Pd (T:Txt K mg t):aZ P w K mg base c7 3 t.GN t.Lp ["rules","modes","row"] (PM t):=by
 refine T.DY.ok j6 ?_ ?_
 walk_at "i"
 ·obtain⟨a,lh,ms,on,row,n,d,rfl,hR,G,hlh,hok,hrow,honl,hn,hgo,q⟩:=h
  refine au (dW 3 j6 (d8 jr (by rfl) T.nI (by decide +kernel) (aa (pv 1) ai))) ⟨_,rfl,lh,_,rfl,.inl (aY.of hlh),λlo hlo=>?_⟩
  have s1:ao H (upd H lo (.lst (on.map b7))):=ao.upd hlo
  have ho1:upd H lo (.lst (on.map b7)) lo=some (.lst (on.map b7)):=af
  generalize upd H lo (.lst (on.map b7))=H1 at s1 ho1
  refine au (dW 4 j6 (bV ai)) ⟨by show 0<=sizeLine;decide,λlt hlt=>?_⟩
  have s2:ao H1 (upd H1 lt (.lst [])):=ao.upd hlt
  have ht2:upd H1 lt (.lst []) lt=some (.lst []):=af
  have ho2:=s2 _ _ ho1
  have not_:lo≠lt:=ak ho1 hlt
  have hlt0:H lt=none:=s1.free hlt
  generalize upd H1 lt (.lst [])=H2 at s2 ht2 ho2
  have s2:=s1.trans s2
  refine au (dW 5 j6 (bV ai)) ⟨by show 0<=sizeLine;decide,λlk hlk=>?_⟩
  have s3:ao H2 (upd H2 lk (.lst [])):=ao.upd hlk
  have hk3:upd H2 lk (.lst []) lk=some (.lst []):=af
  have ho3:=s3 _ _ ho2
  have ht3:=s3 _ _ ht2
  have nok:lo≠lk:=ak ho2 hlk
  have ntk:lt≠lk:=ak ht2 hlk
  have hlk0:H lk=none:=s2.free hlk
  generalize upd H2 lk (.lst [])=H3 at s3 hk3 ho3 ht3
  have s3:=s2.trans s3
  show At _ _ _ [some (.ref a),some (.ref lh),some (.str row),some (.ref lo),some (.ref lt),some (.ref lk),none,none,none,none] H3
  refine ay (jO PassesOwn.never (iF j9) av) ⟨λm Z' H'=>∃c:Cfg,(∃x6 x7 x8 x9,Z'=[some (.ref a),some (.ref lh),some (.str row),some (.ref lo),some (.ref lt),some (.ref lk),x6,x7,x8,x9])/\H' lo=some (.lst (c.on.map b7))/\H' lt=some (.lst (c.aN.map V.str))/\GF H H' lk c.marks/\iI ms c.on/\c.aN.length<=row.length/\c.on.length+m<=on.length+n/\c.marks.length+m<=n/\goN ms row m c=some d/\ao H H',⟨n,⟨on,[],[]⟩,⟨_,_,_,_,rfl⟩,ho3,ht3,⟨[],hk3,bO.nil,by simp⟩,hok,Nat.zero_le _,Nat.le_refl _,by simp,hgo,s3⟩,?_⟩
  rintro m Z' H4 ⟨c,⟨x6,x7,x8,x9,rfl⟩,ho4,ht4,hk4,hok4,htl4,hol4,hml4,hgo4,s4⟩
  refine⟨true,rfl,u6 ⟨_,λZ' H' z=>z,?_⟩⟩
  refine au (dW 6 j6 (aK aP (by rfl) T.bU (by decide +kernel) (aa (pv 4) ai))) ⟨_,rfl,_,_,rfl,.inl (aY.of ht4),?_⟩
  rw[List.length_map]
  show At _ _ _ [some (.ref a),some (.ref lh),some (.str row),some (.ref lo),some (.ref lt),some (.ref lk),some (.int c.aN.length),x7,x8,x9] H4
  obtain⟨md,hm⟩:=hok4.mode
  have hmm:=List.mem_of_getElem? hm
  obtain⟨dx,lm,as,b,lr,dm,rs,ha,hlm,hal,hb,hmo,hlr,hA⟩:=(hR.same s4).mode hm
  have hru:gv ms (bE c.on)=md.rules:=by rw[gv,hm]
  refine au (dW 7 j6 (bw bq (aF (pv 0) rfl) (bw bq (pv 3) (lq i7 aB) (λ_ _=>rfl)) (λ_ _=>rfl))) (⟨_,rfl,_,_,_,_,_,rfl,ha,T.fC,T.b8,rfl,⟨_,rfl,_,rfl,_,_,_,_,rfl,rfl,aY.of ho4,gA (iK hok4.1),_,_,_,_,rfl,rfl,aY.of hlm,gi hb,?_⟩⟩)
  refine au (dW 8 j6 (aQ (xF T) hr.m rfl T.xj T.qz.kp (T.qz.binds (by walk_at "4")) .nil aE (aa (pv 0) (aa (bw bq (pv 3) (lq i7 aB) (λ_ _=>rfl)) (aa (pv 2) (aa (pv 6) ai)))))) ⟨_,rfl,_,rfl,_,rfl,_,_,_,_,rfl,rfl,aY.of ho4,gA (iK hok4.1),_,rfl,_,rfl,a,ms,md,bE c.on,c.aN.length,row,rfl,hR.same s4,hm,G.ok md hmm,hrow,htl4,λH5 s5=>?_⟩
  have ho5:=s5 _ _ ho4
  have ht5:=s5 _ _ ht4
  have hk5:=hk4.same s5
  have s5':=s4.trans s5
  cases hf:firstM md.rules row c.aN.length with
  |none =>
   have hrn:gu (gv ms (bE c.on)) row c.aN.length=none:=by rw[hru,gu,hf];rfl
   refine ay (aX (az iV (pv 8) bB (aC _)) av av) ⟨_,rfl,rfl,_,rfl,jA (λh=>absurd rfl h) (λ_=>?_)⟩
   refine ay (aX (az gx (pv 6) (aK bf (by rfl) T.bU (by decide +kernel) (aa (pv 2) ai)) (aC _)) av av) ⟨_,rfl,_,rfl,_,rfl,bI (by lia),_,_,rfl,rfl,_,rfl,dR (λh=>?_) (λh=>?_)⟩
   ·have hlt':c.aN.length<row.length:=by lia
    have hst:gK ms row c=some ⟨c.on,c.aN++[eE ms (bE c.on)],c.marks⟩:=by
     rw[gK,hrn]
     show (if c.aN.length<row.length then _ else _)=_
     rw[if_pos hlt']
    have ecol:eE ms (bE c.on)=md.bC:=by rw[eE,hm]
    refine ay (bG (c5 F.plainAttrs_list F.slot_list_append F.type_list_append cG (pv 4) (aa (aF (pv 7) rfl) ai))) ⟨_,rfl,.inl ⟨rfl,_,aY.of ht5⟩,⟨_,rfl,_,_,_,_,_,rfl,(s5 _ _ hmo),T.dY,T.i0,rfl,⟨lt,_,_,rfl,rfl,ht5,eV (by rw[List.length_map];lia),?_⟩⟩⟩
    obtain⟨m',rfl⟩:∃m',m=m'+1:=by
     cases m with
     |zero=>rw[goN,hst] at hgo4;cases hgo4
     |succ m'=>exact⟨m',rfl⟩
    rw[goN,hst] at hgo4
    refine⟨m',by lia,⟨c.on,c.aN++[eE ms (bE c.on)],c.marks⟩,⟨_,_,_,_,rfl⟩,?_,?_,hk5.nA ht5 (Ne.symm ntk),hok4,?_,?_,?_,hgo4,?_⟩
    ·rw[aj not_];exact ho5
    ·rw[af]
     show _=some (HO.lst ((c.aN++[eE ms (bE c.on)]).map V.str))
     rw[List.map_append,ecol]
     rfl
    ·show (c.aN++[eE ms (bE c.on)]).length<=_
     rw[List.length_append,List.length_cons,List.length_nil]
     lia
    ·show c.on.length+m'<=_;lia
    ·show c.marks.length+m'<=_;lia
    ·intro b o hb
     rw[aj (ak hb hlt0)]
     exact s5' _ _ hb
   ·have hst:gK ms row c=none:=by
     rw[gK,hrn]
     show (if c.aN.length<row.length then _ else _)=_
     rw[if_neg (by lia)]
    have hd:d=c:=by
     rw[Au hst] at hgo4
     exact(Option.some.inj hgo4).symm
    subst hd
    refine ay (aG (gc (aa (pv 4) (aa (pv 3) (aa (pv 5) ai))))) ⟨_,rfl,_,rfl,_,rfl,by show 3<=sizeLine;decide,λtp htp=>?_⟩
    refine q tp lt lo lk _ ⟨af,?_,?_,(hk5.same (ao.upd htp)).gm⟩ (hk5.same (ao.upd htp)) hlt0 hlo hlk0 (Ne.symm not_) ntk nok (s5'.to htp)
    ·exact ao.upd htp _ _ ht5
    ·exact ao.upd htp _ _ ho5
  |some j =>
   obtain⟨R,hj,hruR,hfit⟩:=vZ hf
   have hRm:=List.mem_of_getElem? hj
   obtain⟨g1,g2⟩:=(G.ok md hmm).2 R hRm
   obtain⟨r,hr0,hr1⟩:=hA.at hj
   obtain⟨fe,fs,de,ds,PK⟩:=EY (P:=P) (w:=w) (base:=base) T g1
   have hst:gK ms row c=some (g9 c R row):=by rw[gK,hru,hruR]
   obtain⟨m',rfl⟩:∃m',m=m'+1:=by
    cases m with
    |zero=>rw[goN,hst] at hgo4;cases hgo4
    |succ m'=>exact⟨m',rfl⟩
   rw[goN,hst] at hgo4
   have hr5:=hr1.same s5
   have hel:=FL (R:=R) (row:=row) g1 htl4
   refine ay (aX (az iV (pv 8) bB (aC _)) av av) ⟨_,rfl,rfl,_,rfl,jA (λ_=>?_) (λh=>by cases h)⟩
   refine au (dW 9 j6 (bw bq (aF (pv 7) rfl) (pv 8) (λ_ _=>rfl))) (⟨_,rfl,_,_,_,_,_,rfl,(s5 _ _ hmo),T.dY,T.dM,rfl,⟨_,rfl,_,_,_,_,rfl,rfl,aY.of (s5 _ _ hlr),gi hr0,?_⟩⟩)
   obtain⟨dr,pa,o1,dp,o2⟩:=id hr5
   refine au (bG (c5 F.plainAttrs_list F.slot_list_extend F.type_list_extend A0 (pv 4) (aa (aW DW (bV (aa (aF (pv 9) rfl) ai)) (bz (aF (pv 9) rfl) PK.cl PK.me PK.ge hr.m PK.be .nil aE (aa (pv 2) (aa (pv 6) ai)))) ai))) ⟨_,rfl,.inl ⟨rfl,_,aY.of ht5⟩,⟨_,rfl,_,_,_,_,_,rfl,o1,T.b9,T.i9,rfl,⟨by show 1<=sizeLine;decide,λl1 hl1=>?_⟩⟩⟩
   have s6:ao H5 (upd H5 l1 (.lst [.str R.bC])):=ao.upd hl1
   have hl6:upd H5 l1 (.lst [.str R.bC]) l1=some (.lst [.str R.bC]):=af
   generalize upd H5 l1 (.lst [.str R.bC])=H6 at s6 hl6
   refine⟨_,rfl,_,_,_,_,_,rfl,(s6 _ _ o1),T.b9,T.dZ,rfl,⟨pa,dp,_,rfl,s6 _ _ o2,PK.ne _,_,rfl,_,rfl,pa,dp,R.signs,row,c.aN.length,rfl,s6 _ _ o2,by lia,hrow,htl4,?_⟩⟩
   rw[Jr hfit]
   refine⟨l1,_,_,rfl,rfl,hl6,by lia,by lia,by rw[Int.toNat_natCast];exact bI (by simp only[List.length_cons,List.length_nil];lia),λl2 hl2=>?_⟩
   rw[Int.toNat_natCast,vd]
   have s7:ao H5 (upd H6 l2 (.lst (List.replicate (iP R row c.aN.length) (V.str R.bC)))):=s6.to hl2
   have hl7:upd H6 l2 (.lst (List.replicate (iP R row c.aN.length) (V.str R.bC))) l2=some (.lst (List.replicate (iP R row c.aN.length) (V.str R.bC))):=af
   generalize upd H6 l2 (.lst (List.replicate (iP R row c.aN.length) (V.str R.bC)))=H7 at s7 hl7
   have ht7:=s7 _ _ ht5
   have ho7:=s7 _ _ ho5
   have hk7:=hk5.same s7
   refine⟨lt,l2,_,_,rfl,rfl,ht7,hl7,bI (by rw[List.length_map,List.length_replicate];lia),?_⟩
   have ht8:upd H7 lt (.lst (c.aN.map V.str++List.replicate (iP R row c.aN.length) (V.str R.bC))) lt=some (.lst ((g9 c R row).aN.map V.str)):=by
    rw[af]
    show _=some (HO.lst ((c.aN++List.replicate (iP R row c.aN.length) R.bC).map V.str))
    rw[List.map_append,List.map_replicate]
   have ho8:upd H7 lt (.lst (c.aN.map V.str++List.replicate (iP R row c.aN.length) (V.str R.bC))) lo=some (.lst (c.on.map b7)):=by rw[aj not_];exact ho7
   have hk8:GF H (upd H7 lt (.lst (c.aN.map V.str++List.replicate (iP R row c.aN.length) (V.str R.bC)))) lk c.marks:=hk7.nA ht7 (Ne.symm ntk)
   have hr8:dG t (upd H7 lt (.lst (c.aN.map V.str++List.replicate (iP R row c.aN.length) (V.str R.bC)))) r R:=(hr5.same s7).nA ht7
   have s8:ao H (upd H7 lt (.lst (c.aN.map V.str++List.replicate (iP R row c.aN.length) (V.str R.bC)))):=λb o hb=>by rw[aj (ak hb hlt0)];exact s7 _ _ (s5' _ _ hb)
   generalize upd H7 lt (.lst (c.aN.map V.str++List.replicate (iP R row c.aN.length) (V.str R.bC)))=H8 at ht8 ho8 hk8 hr8 s8
   refine aI (λZ' H'=>(∃x7 x8,Z'=[some (.ref a),some (.ref lh),some (.str row),some (.ref lo),some (.ref lt),some (.ref lk),some (.int c.aN.length),x7,x8,some (.ref r)])/\H' lo=some (.lst (c.on.map b7))/\H' lt=some (.lst ((g9 c R row).aN.map V.str))/\GF H H' lk (g9 c R row).marks/\dG t H' r R/\ao H H') (aX (az iY (aF (pv 9) rfl) aJ (aC _)) av av) ?_ ?_
   ·obtain⟨dr8,pa8,o8,p8⟩:=id hr8
    refine⟨_,rfl,_,_,_,_,_,rfl,o8,T.b9,T.iT,rfl,⟨rfl,_,rfl,jA (λh=>?_) (λh=>aU ⟨⟨_,_,rfl⟩,ho8,ht8,?_,hr8,s8⟩)⟩⟩
    ·have h:R.fold ≠ "" := λz=>h (by rw[z])
     obtain⟨ps,hps,hAp,hfr⟩:=hk8
     refine ay (bG (c5 F.plainAttrs_list F.slot_list_append F.type_list_append cG (pv 5) (aa (gc (aa (pv 6) (aa (aF (pv 9) rfl) ai))) ai))) ⟨_,rfl,.inl ⟨rfl,_,aY.of hps⟩,_,rfl,⟨_,rfl,_,_,_,_,_,rfl,o8,T.b9,T.iT,rfl,⟨by show 2<=sizeLine;decide,λtp htp=>?_⟩⟩⟩
     have s9:ao H8 (upd H8 tp (.tup [.int c.aN.length,.str R.fold])):=ao.upd htp
     have hp9:upd H8 tp (.tup [.int c.aN.length,.str R.fold]) tp=some (.tup [.int c.aN.length,.str R.fold]):=af
     generalize upd H8 tp (.tup [.int c.aN.length,.str R.fold])=H9 at s9 hp9
     have hps9:=s9 _ _ hps
     have hpl:ps.length<=100000:=by rw[hAp.1];lia
     refine⟨lk,_,_,rfl,rfl,hps9,eV (by rw[List.length_map];lia),⟨_,_,rfl⟩,?_,?_,?_,?_,?_⟩
     ·rw[aj nok];exact s9 _ _ ho8
     ·rw[aj ntk];exact s9 _ _ ht8
     ·have em:(g9 c R row).marks=c.marks++[(c.aN.length,R.fold)]:=if_neg h
      rw[em]
      refine⟨ps++[tp],by rw[af,List.map_append];rfl,bO.snoc (hAp.mono λp m e=>?_) ?_,λp hp=>?_⟩
      ·rw[aj (cA (s9 _ _ e) hps9 (by intro z;cases z))];exact s9 _ _ e
      ·rw[aj (cA hp9 hps9 (by intro z;cases z))];exact hp9
      ·rcases List.mem_append.mp hp with hp|hp
       ·exact hfr p hp
       ·rw[List.mem_singleton.mp hp];exact s8.free htp
     ·exact(hr8.same s9).nA hps9
     ·intro b o hb
      rw[aj (ak hb hlk0)]
      exact s9 _ _ (s8 _ _ hb)
    ·have h:R.fold = "" := V.str.inj h
     have em:(g9 c R row).marks=c.marks:=if_pos h
     rw[em]
     exact hk8
   rintro Z' H9 ⟨⟨y7,y8,rfl⟩,ho9,ht9,hk9,hr9,s9⟩
   refine ay (bG (aQ (Ey T) hr.m rfl T.Cp T.uT.kp (T.uT.binds (by walk_at "2")) .nil aE (aa (pv 3) (aa (pv 9) ai)))) ⟨_,rfl,_,rfl,lo,r,c.on,R,rfl,ho9,hr9,hok4.1,by lia,G.gd hmm hRm,?_⟩
   have hdl:=qP (on:=c.on) (d:=R.bg) (g:=R.goal)
   refine⟨m',by lia,g9 c R row,⟨_,_,_,_,rfl⟩,af,?_,hk9.nA ho9 (Ne.symm nok),hok4.bg G hmm hRm,?_,?_,?_,hgo4,?_⟩
   ·rw[aj (Ne.symm not_)];exact ht9
   ·show (c.aN++List.replicate _ _).length<=_
    rw[List.length_append,List.length_replicate]
    exact hel
   ·show (bD c.on R.bg R.goal).length+m'<=_
    lia
   ·show (if R.fold = "" then c.marks else c.marks++[(c.aN.length,R.fold)]).length+m'<=_
    split
    ·lia
    ·rw[List.length_append,List.length_cons,List.length_nil];lia
   ·intro b o hb
    rw[aj (ak hb hlo)]
    exact s9 _ _ hb
theorem join_eq(sep:Str)(ys:List Str):PySem.Txt.join sep ys=Str.join sep ys:=eq_of_beq (PyProof.Rows.join_plain_closes sep ys)
theorem pick{xs:List Str}{d:Int}(h0:0<=d)(h1:d<xs.length):∃x∈xs,wL (xs.map V.str) d=some (.str x):=by
 obtain⟨v,e1,e2⟩:=xK (xs.map V.str) h0 (by rw[List.length_map];exact h1)
 rw[List.getElem?_map] at e1
 obtain⟨x,e3,rfl⟩:=Option.map_eq_some_iff.mp e1
 exact⟨x,List.mem_of_getElem? e3,e2⟩
theorem uf{b c:Bool}{A B:Prop}(h:b=c)(k:if c=true then A else B):if b=true then A else B:=by rw[h];exact k
noncomputable def Qw(K:PySem.W.Frag):Sp:=λvs H Q _=>∃(a:Addr) (ns:List Int) (k m:Int),vs=[.ref a,.int k,.int m]/\aY K H a (ns.map V.int)/\0<=k/\k<=100000/\0<m/\m<=1000000/\ns.length<=63 /\
 ∀d H',0<=d->d<m->ao H H'->Q (.int d) H'
theorem lV (T:Txt K mg t):aZ P w K mg base c7 1 t.Dv t.LA ["_law_script","_law_k","_law_many"] (Qw K):=by
 refine T.iG.ok uA ?_ ?_
 walk_at "i"
 ·obtain⟨a,ns,k,m,rfl,hS,hk0,hk1,hm,hm1,hl,q⟩:=h
  refine aI (λZ' H'=>∃c:Int,Z'=[some (.ref a),some (.int k),some (.int m),some (.int c),none,none]/\(ns=[]->c=0)/\H'=H) (dW 3 uA (bH (az jG (aK aP (by rfl) T.bU (by decide +kernel) (aa (pv 0) ai)) aB (aC _)) (bw bq (pv 0) (aW jQ (pv 1) (aK aP (by rfl) T.bU (by decide +kernel) (aa (pv 0) ai))) (λ_ _=>rfl)) aB)) ?_ ?_
  ·refine⟨_,rfl,_,_,rfl,.inl hS,_,_,rfl,rfl,_,rfl,dR (λh=>?_) (λh=>⟨0,rfl,λ_=>rfl,rfl⟩)⟩
   refine⟨_,rfl,_,rfl,_,rfl,_,_,rfl,.inl hS,_,_,rfl,rfl,h,?_⟩
   obtain⟨h1,h2⟩:=qy k h
   obtain⟨v,e1,e2⟩:=xK (ns.map V.int) h1 h2
   rw[List.getElem?_map] at e1
   obtain⟨c,e3,rfl⟩:=Option.map_eq_some_iff.mp e1
   exact⟨_,_,_,_,rfl,rfl,hS,e2,c,rfl,(λz=>by rw[z] at h;simp at h),rfl⟩
  rintro Z' H' ⟨c,rfl,hc0,e⟩
  rw[e]
  clear e H'
  refine aI (λZ' H'=>∃x:Int,Z'=[some (.ref a),some (.int k),some (.int m),some (.int c),some (.int x),none]/\(ns=[]->x=0)/\H'=H) (dW 4 uA (aW Rh (pv 3) (aW bZ (aW lQ aB (aW HX (pv 1) (aK (AM rfl) (by rfl) T.TM (by decide +kernel) (aa aB (aa (aK aP (by rfl) T.bU (by decide +kernel) (aa (pv 0) ai)) ai))))) aB))) ?_ ?_
  ·refine⟨_,rfl,_,rfl,_,rfl,_,_,rfl,.inl hS,_,_,rfl,_,_,rfl,rfl,?_⟩
   have hmx:(1:Int)<=(if ((ns.map V.int).length:Int)>1 then ((ns.map V.int).length:Int) else 1)/\(if ((ns.map V.int).length:Int)>1 then ((ns.map V.int).length:Int) else 1)<1073741824:=by
    rw[List.length_map];split <;> lia
   refine⟨⟨by lia,hmx.2⟩,_,_,rfl,rfl,.inl ⟨by decide,by decide⟩,_,_,rfl,rfl,_,_,rfl,rfl,?_,_,rfl,λz=>?_,rfl⟩
   ·have:0<=k / (if ((ns.map V.int).length:Int)>1 then ((ns.map V.int).length:Int) else 1):=Int.ediv_nonneg hk0 (by lia)
    lia
   ·rw[hc0 z,Int.zero_ediv]
  rintro Z' H' ⟨x,rfl,hx0,e⟩
  rw[e]
  clear e H'
  refine aI (λZ' H'=>(Z'=[some (.ref a),some (.int k),some (.int m),some (.int c),some (.int x),none])/\ao H H') (aX (PW.pt (ic (az mS (pv 4) (gc (aa aB (aa (lq i7 aB) ai))) rfl) (gF (az bS (aW jQ (bw bq (pv 0) aB (λ_ _=>rfl)) aB) aB (aC _))))) av av) ?_ ?_
  ·refine⟨_,rfl,_,rfl,by show 2<=sizeLine;decide,λp hp=>⟨p,_,rfl,.inr (fN.of af),rfl,rfl,_,rfl,?_⟩⟩
   have s1:ao H (upd H p (.tup [.int 0,.int (-1)])):=ao.upd hp
   by_cases hin:yi (V.int x) [.int 0,.int (-1)]=true
   ·refine uf (c:=false) (by show (!yi (V.int x) [.int 0,.int (-1)])=false;rw[hin];rfl) ?_
    exact aU ⟨rfl,s1⟩
   ·refine uf (c:=true) (by show (!yi (V.int x) [.int 0,.int (-1)])=true;rw[Bool.not_eq_true] at hin;rw[hin];rfl) ?_
    obtain⟨n0,r0,rfl⟩:∃n0 r0,ns=n0::r0:=by
     cases ns with
     |nil=>rw[hx0 rfl] at hin;exact absurd (by decide) hin
     |cons x r=>exact⟨x,r,rfl⟩
    have hS1:=hS.same s1
    refine⟨_,rfl,_,_,_,_,rfl,rfl,hS1,bM (j:=0) rfl,_,_,rfl,rfl,(by show (0:Int)<2;decide),rfl,_,rfl,dR (λh2=>?_) (λh2=>aU ⟨rfl,s1⟩)⟩
    have hd:=qy (x % 1048576) hm
    exact ay (aG (aW jQ (aW jQ (pv 4) aB) (pv 2))) ⟨_,rfl,_,_,rfl,rfl,(by show (0:Int)<1048576;decide),_,rfl,_,_,rfl,rfl,hm,q _ _ hd.1 hd.2 s1⟩
  rintro Z' H' ⟨rfl,s1⟩
  refine au (dW 5 uA (aW bZ (aW bZ (aW jQ (pv 3) aB) (aW lQ (aW lQ aB (pv 1)) (pv 1))) aB)) ?_
  walk_at "rd"
  refine⟨by decide,.inl ⟨by decide,by decide⟩,.inr ⟨by lia,by lia⟩,?_⟩
  refine ay (aG (aW jQ (aW jQ (aW lQ (aW jQ (aW lQ (pv 5) aB) aB) aB) aB) (pv 2))) ?_
  walk_at "rd"
  have hd:=qy ((c % 1000003+31*k*k+1)*48271 % 999983*7919 % 524287) hm
  exact⟨.inr ⟨by decide,by decide⟩,by decide,.inr ⟨by decide,by decide⟩,by decide,hm,q _ _ hd.1 hd.2 s1⟩
open Classical in
noncomputable def hid(S:Addr->Prop)(H:Hp):Hp:=λb=>if S b then none else H b
theorem aH{S:Addr->Prop}{H:Hp}:ao (hid S H) H:=λb o h=>by
 unfold hid at h
 split at h
 ·cases h
 ·exact h
theorem br{S:Addr->Prop}{H:Hp}{b:Addr}{o:HO}(h:H b=some o)(n:¬ S b):hid S H b=some o:=by
 unfold hid
 rw[if_neg n]
 exact h
theorem cO{S:Addr->Prop}{H:Hp}{b:Addr}{o:HO}(h:hid S H b=some o):¬ S b:=λz=>by
 unfold hid at h
 rw[if_pos z] at h
 cases h
theorem aV{S:Addr->Prop}{H H':Hp}(s:ao H H'):ao (hid S H) (hid S H'):=λb o h=>br (s _ _ (aH _ _ h)) (cO h)
theorem kP{S:Addr->Prop}{H:Hp}{l:Addr}{o:HO}(hl:S l):hid S (upd H l o)=hid S H:=by
 funext b
 unfold hid
 split
 ·rfl
 ·rename_i h;rw[aj (λz=>h (by rw[z];exact hl))]
theorem uW{S S':Addr->Prop}{H:Hp}(h:∀b,S b->S' b):ao (hid S' H) (hid S H):=λb o e=>br (aH _ _ e) (λz=>cO e (h b z))
def Ex(S:Addr->Prop)(H:Hp):Prop:=∀b,S b->∃o,H b=some o
theorem Ex.new{S:Addr->Prop}{H:Hp}(e:Ex S H){b:Addr}(h:H b=none):¬ S b:=λz=>by
 obtain⟨o,ho⟩:=e b z
 rw[h] at ho
 cases ho
theorem Ex.same{S:Addr->Prop}{H H':Hp}(e:Ex S H)(s:ao H H'):Ex S H':=λb z=>let ⟨o,ho⟩:=e b z;⟨o,s _ _ ho⟩
noncomputable def RQ(t:eS):Sp:=λvs H Q _=>∃(r:Addr) (S:Addr->Prop) (R:bu),vs=[.ref r]/\dG t (hid S H) r R/\Ex S H/\∀r' H',dG t (hid S H') r' R->ao H H'->Q (.ref r') H'
theorem OA (T:Txt K mg t):aZ P w K mg base c7 3 t.Cn t.Lb ["rule"] (RQ t):=by
 refine T.Gr.ok Ri ?_ ?_
 walk_at "i"
 ·obtain⟨r,S,R,rfl,⟨dr,pa,o1',hp⟩,hz,q⟩:=h
  have o1:=aH _ _ o1'
  refine ay (aG (dJ T.zP (Dn T) hr.m rfl T.vF (T.Cr.binds (by walk_at "6")) .nil aE (aa (aF (pv 0) rfl) (aa (aF (pv 0) rfl) (aa (aF (pv 0) rfl) (aa (aF (pv 0) rfl) (aa (aF (pv 0) rfl) ai))))))) ?_
  refine⟨_,rfl,_,_,_,_,_,rfl,o1,T.b9,T.dZ,rfl,?_⟩
  refine⟨_,rfl,_,_,_,_,_,rfl,o1,T.b9,T.i9,rfl,?_⟩
  refine⟨_,rfl,_,_,_,_,_,rfl,o1,T.b9,T.fS,rfl,?_⟩
  refine⟨_,rfl,_,_,_,_,_,rfl,o1,T.b9,T.iX,rfl,?_⟩
  refine⟨_,rfl,_,_,_,_,_,rfl,o1,T.b9,T.iT,rfl,?_⟩
  refine λx dx' nx ndx ne=>⟨x,dx',pa,R,rfl,af,rfl,?_⟩
  exact q x _ ⟨dx',pa,br af (hz.new nx),hp.same (aV (fM nx ndx))⟩ (fM nx ndx)
noncomputable def Uk(t:eS):Sp:=λvs H Q _=>∃(b l dm:Addr) (S:Addr->Prop) (m:aD) (rs:List Addr),vs=[.ref b]/\hid S H b=some (.ins t.dD dm (mf m l))/\hid S H l=some (.lst (rs.map V.ref))/\bO (dG t (hid S H)) rs m.rules/\Ex S H/\m.rules.length<=200 /\
 ∀b' l' dm' rs' H',hid S H' b'=some (.ins t.dD dm' (mf m l'))->hid S H' l'=some (.lst (rs'.map V.ref))->bO (dG t (hid S H')) rs' m.rules->H l'=none->ao H H'->Q (.ref b') H'
theorem OZ (T:Txt K mg t):aZ P w K mg base c7 4 t.EC t.KW ["mode"] (Uk t):=by
 refine T.ED.ok Ph ?_ ?_
 walk_at "i"
 ·obtain⟨b,l,dm,S,m,rs,rfl,hb',hl',hA,hz,hlen,q⟩:=h
  have hb:=aH _ _ hb'
  have hl:=aH _ _ hl'
  refine ay (@aG _ _ _ _ (@dJ _ _ _ _ _ _ _ _ _ _ _ _ _ _ _ _ _ T.Az (GY T) hr.m rfl T.vo (T.EE.binds (by walk_at "4")) .nil aE (aa (@aF _ _ _ _ _ (pv 0) rfl) (aa (@aF _ _ _ _ _ (pv 0) rfl) (aa (@iu _ (aq EO) _ ["mode"] _ _ ("rule") _ _ [] _ _ (by walk_at "ck") (@eB _ _ _ _ (@aF _ _ _ _ _ (pv 0) rfl)) (λ_ _ _ _=>by exact(@aQ _ _ _ _ _ _ _ _ _ _ _ _ _ _ _ _ (OA T) hr.m rfl T.QF T.Gr.kp (T.Gr.binds (by walk_at "1")) .nil aE (aa (pv 0) ai (by left)) (by left) (by left) (by left))) (by left) (by left) (by left) (by left)) ai (by left)) (by left)) (by left)) (by left) (by left) (by left))) ?_
  refine⟨_,rfl,_,_,_,_,_,rfl,hb,T.dY,T.gM,rfl,?_⟩
  refine⟨_,rfl,_,_,_,_,_,rfl,hb,T.dY,T.i0,rfl,?_⟩
  refine⟨_,rfl,_,_,_,_,_,rfl,hb,T.dY,T.dM,rfl,?_⟩
  refine⟨l,rfl,⟨_,aY.of hl⟩,iz (xs:=rs.map V.ref) (λi ys H2=>∃rs2:List Addr,ys=rs2.map V.ref/\bO (dG t (hid S H2)) rs2 (m.rules.take i)/\ao H H2) ⟨[],rfl,bO.nil,ao.refl H⟩ (eV (by rw[List.length_map,hA.1];lia)) ?_ ?_ ?_⟩
  ·rintro i ys H2 _ ⟨_,_,_,s2⟩
   exact aY.of (s2 _ _ hl)
  ·rintro i xv ys H2 hx hyl ⟨rs2,rfl,hA2,s2⟩
   rw[List.getElem?_map] at hx
   obtain⟨r,hr0,rfl⟩:=Option.map_eq_some_iff.mp hx
   have hi:=(List.getElem?_eq_some_iff.mp hr0).1
   have hRi:m.rules[i]?=some (m.rules[i]'(by rw[← hA.1];exact hi)):=List.getElem?_eq_getElem _
   have hR:=hA.2 i r _ hr0 hRi
   refine⟨_,rfl,r,S,_,rfl,hR.same (aV s2),hz.same s2,λr' H3 hr3 s3=>fm (by rw[List.length_map];exact hi) hyl ⟨rs2++[r'],by rw[List.map_append];rfl,?_,s2.trans s3⟩⟩
   rw[take_snoc hRi]
   exact bO.snoc (hA2.mono λ_ _ y=>y.same (aV s3)) hr3
  ·rintro ys H2 hyl ⟨rs2,rfl,hA2,s2⟩ D hD
   rw[List.length_map,hA.1,List.take_length] at hA2
   have s3:ao H (upd H2 D (.lst (rs2.map V.ref))):=s2.to hD
   have hD3:upd H2 D (.lst (rs2.map V.ref)) D=some (.lst (rs2.map V.ref)):=af
   have hA3:bO (dG t (hid S (upd H2 D (.lst (rs2.map V.ref))))) rs2 m.rules:=hA2.mono λ_ _ y=>y.same (aV (ao.upd hD))
   generalize upd H2 D (.lst (rs2.map V.ref))=H3 at s3 hD3 hA3
   refine λx dx' nx ndx ne=>⟨x,dx',D,m.name,m.bC,_,rfl,af,bN nx ndx _ _ hD3,λl2 H4 e1 e2 e3 e4=>⟨rfl,?_⟩⟩
   have s4:ao H3 H4:=λb o hb=>e4 b o (bN nx ndx _ _ hb) (ak hb nx)
   have hz3:=hz.same s3
   have nxz:¬ S x:=hz3.new nx
   have nlz:¬ S l2:=hz3.new ((bN nx ndx).free e1)
   exact q x l2 dx' rs2 H4 (br e2 nxz) (br e3 nlz) (hA3.mono λ_ _ y=>y.same (aV s4)) (s3.free ((bN nx ndx).free e1)) (s3.trans s4)
noncomputable def OM(t:eS):Sp:=λvs H Q _=>∃(a:Addr) (S:Addr->Prop) (ms:List aD),vs=[.ref a]/\IsRules t (hid S H) a ms/\Ex S H/\dB ms/\∀a' H',IsRules t (hid S H') a' ms->ao H H'->Q (.ref a') H'
theorem O9 (T:Txt K mg t):aZ P w K mg base c7 5 t.FT t.Lv ["rules"] (OM t):=by
 refine T.Es.ok Qv ?_ ?_
 walk_at "i"
 ·obtain⟨a,S,ms,rfl,⟨dx,lm,as,ls,ha',hlm',hM⟩,hz,G,q⟩:=h
  have ha:=aH _ _ ha'
  have hlm:=aH _ _ hlm'
  have hlen:=G.len
  refine ay (@aG _ _ _ _ (@dJ _ _ _ _ _ _ _ _ _ _ _ _ _ _ _ _ _ T.vO (Gd T) hr.m rfl T.sC (T.GL.binds (by walk_at "2")) .nil aE (aa (@iu _ (aq En) _ ["rules"] _ _ ("mode") _ _ [] _ _ (by walk_at "ck") (@eB _ _ _ _ (@aF _ _ _ _ _ (pv 0) rfl)) (λ_ _ _ _=>by exact(@aQ _ _ _ _ _ _ _ _ _ _ _ _ _ _ _ _ (OZ T) hr.m rfl T.Oq T.ED.kp (T.ED.binds (by walk_at "1")) .nil aE (aa (pv 0) ai (by left)) (by left) (by left) (by left))) (by left) (by left) (by left) (by left)) ai (by left)) (by left) (by left) (by left))) ?_
  refine⟨_,rfl,_,_,_,_,_,rfl,ha,T.fC,T.b8,rfl,?_⟩
  refine⟨lm,rfl,⟨_,aY.of hlm⟩,iz (xs:=as.map V.ref) (λi ys H2=>∃as2 Ku:List Addr,ys=as2.map V.ref/\cD t (hid S H2) as2 Ku (ms.take i)/\ao H H2) ⟨[],[],rfl,⟨rfl,rfl,List.nodup_nil,λi a l m h=>by simp at h⟩,ao.refl H⟩ (eV (by rw[List.length_map,hM.la];lia)) ?_ ?_ ?_⟩
  ·rintro i ys H2 _ ⟨_,_,_,_,s2⟩
   exact aY.of (s2 _ _ hlm)
  ·rintro i xv ys H2 hx hyl ⟨as2,Ku,rfl,hM2,s2⟩
   rw[List.getElem?_map] at hx
   obtain⟨b,hb,rfl⟩:=Option.map_eq_some_iff.mp hx
   have hi:=(List.getElem?_eq_some_iff.mp hb).1
   have him:i<ms.length:=by rw[← hM.la];exact hi
   have hmi:ms[i]?=some ms[i]:=List.getElem?_eq_getElem him
   obtain⟨l,hl⟩:∃l,ls[i]?=some l:=⟨ls[i]'(by rw[hM.ll];exact him),List.getElem?_eq_getElem _⟩
   obtain⟨dm,rs,o1,o2,o3⟩:=hM.ob i b l _ hb hl hmi
   have sh:=aV (S:=S) s2
   refine⟨_,rfl,b,l,dm,S,ms[i],rs,rfl,sh _ _ o1,sh _ _ o2,o3.mono λ_ _ y=>y.same sh,hz.same s2,(G.ok _ (List.getElem_mem him)).1,λb' l' dm' rs' H3 e1 e2 e3 e4 s3=>fm (by rw[List.length_map];exact hi) hyl ⟨as2++[b'],Ku++[l'],by rw[List.map_append];rfl,?_,s2.trans s3⟩⟩
   have hM3:=hM2.same (aV s3)
   rw[take_snoc hmi]
   refine⟨by rw[List.length_append,List.length_append,hM3.la];rfl,by rw[List.length_append,List.length_append,hM3.ll];rfl,?_,λj a' l'' m' h1 h2 h3=>?_⟩
   ·refine List.nodup_append.mpr ⟨hM3.nd,by simp,λx hx y hy=>?_⟩
    rw[List.mem_singleton.mp hy]
    intro e
    obtain⟨xs,hxs⟩:=hM2.alive hx
    have hxs:=aH _ _ hxs
    rw[e,e4] at hxs
    cases hxs
   ·have k1:=hM3.la
    have k2:=hM3.ll
    rcases c9 h1 with h1|⟨i1,rfl⟩
    ·have:=(List.getElem?_eq_some_iff.mp h1).1
     rcases c9 h2 with h2|⟨i2,rfl⟩
     ·rcases c9 h3 with h3|⟨i3,rfl⟩
      ·exact hM3.ob j a' l'' m' h1 h2 h3
      ·lia
     ·lia
    ·rcases c9 h2 with h2|⟨i2,rfl⟩
     ·have:=(List.getElem?_eq_some_iff.mp h2).1;lia
     ·rcases c9 h3 with h3|⟨i3,rfl⟩
      ·have:=(List.getElem?_eq_some_iff.mp h3).1;lia
      ·exact⟨dm',rs',e1,e2,e3⟩
  ·rintro ys H2 hyl ⟨as2,Ku,rfl,hM2,s2⟩ D hD
   rw[List.length_map,hM.la,List.take_length] at hM2
   have s3:ao H (upd H2 D (.lst (as2.map V.ref))):=s2.to hD
   have hD3:upd H2 D (.lst (as2.map V.ref)) D=some (.lst (as2.map V.ref)):=af
   have hM3:cD t (hid S (upd H2 D (.lst (as2.map V.ref)))) as2 Ku ms:=hM2.same (aV (ao.upd hD))
   generalize upd H2 D (.lst (as2.map V.ref))=H3 at s3 hD3 hM3
   refine λx dx' nx ndx ne=>⟨x,dx',D,_,rfl,af,bN nx ndx _ _ hD3,λl2 H4 e1 e2 e3 e4=>⟨rfl,?_⟩⟩
   have s4:ao H3 H4:=λb o hb=>e4 b o (bN nx ndx _ _ hb) (ak hb nx)
   have hz3:=hz.same s3
   have nxz:¬ S x:=hz3.new nx
   have nlz:¬ S l2:=hz3.new ((bN nx ndx).free e1)
   exact q x H4 ⟨dx',l2,as2,Ku,br e2 nxz,br e3 nlz,hM3.same (aV s4)⟩ (s3.trans s4)
noncomputable def QM(t:eS):Sp:=λvs H Q _=>∃(a:Addr) (ms:List aD),vs=[.ref a]/\IsRules t H a ms/\dB ms/\jD ms=none/\∀H',ao H H'->Q .cu H'
theorem N9 (T:Txt K mg t):aZ P w K mg base c7 6 t.Di t.LW ["rules"] (QM t):=by
 refine T.D0.ok Ft ?_ ?_
 walk_at "i"
 ·obtain⟨a,ms,rfl,hR,G,hn,q⟩:=h
  refine au (dW 1 Ft (aQ (JI T) hr.m rfl T.IL T.wY.kp (T.wY.binds (by walk_at "1")) .nil aE (aa (pv 0) ai))) ⟨_,rfl,a,ms,rfl,hR,G,λH1 s1=>⟨λ_=>?_,(λring row p l e=>by rw[hn] at e;cases e)⟩⟩
  exact ay (aX (az iV (pv 1) bB (aC _)) av av) ⟨_,rfl,rfl,_,rfl,jA (λh=>absurd rfl h) (λ_=>aU (q H1 s1))⟩
structure bX where
 row:Str
 before:List Nat
 d:Cfg
def gf (row:Str) (lb lt lo lk:Addr):List (Str×V):=[("signs",.str row),("before",.ref lb),("tints",.ref lt),("behind",.ref lo),("folded",.ref lk)]
structure vD(t:eS)(H:Hp)(g dx lb lt lo lk:Addr)(G:bX):Prop where
 ob:H g=some (.ins t.cy dx (gf G.row lb lt lo lk))
 lb:H lb=some (.lst (G.before.map b7))
 lt:H lt=some (.lst (G.d.aN.map V.str))
 lo:H lo=some (.lst (G.d.on.map b7))
 lk:GM H lk G.d.marks
def ez(t:eS)(H:Hp)(g:Addr)(G:bX):Prop:=∃dx lb lt lo lk,vD t H g dx lb lt lo lk G
theorem ez.same{H H':Hp}{g:Addr}{G:bX}(h:ez t H g G)(s:ao H H'):ez t H' g G :=
 let ⟨dx,lb,lt,lo,lk,e⟩:=h;⟨dx,lb,lt,lo,lk,s _ _ e.ob,s _ _ e.lb,s _ _ e.lt,s _ _ e.lo,e.lk.same s⟩
structure zJ(ms:List aD)(G:bX):Prop where
 ok:iI ms G.before
 len:G.before.length<=20000
 row:G.row.length<=1000
 go:∃n,n<=30000/\goN ms G.row n ⟨G.before,[],[]⟩=some G.d
 ok2:iI ms G.d.on
 len2:G.d.on.length<=20000
 tl:G.d.aN.length=G.row.length
noncomputable def Ie(t:eS):Sp:=λvs H Q _=>∃(x dx a lb:Addr) (S:Addr->Prop) (ms:List aD) (G:bX),vs=[.ref x,.ref a,.ref lb,.str G.row]/\H x=some (.ins t.cy dx [])/\IsRules t H a ms/\dB ms/\hid S H lb=some (.lst (G.before.map b7))/\Ex S H /\ ¬ S x/\zJ ms G /\
 ∀lt lo lk H',vD t (hid S H') x dx lb lt lo lk G->fV H H' x->Q .cu H'
theorem Cu (T:Txt K mg t):aZ P w K mg base c7 4 t.Ei t.JO ["self","rules","modes","row"] (Ie t):=by
 refine T.DS.ok GK ?_ ?_
 walk_at "i"
 ·obtain⟨x,dx,a,lb,Sh,ms,G,rfl,hx,hR,GM_,hlb',hE,hxS,S,q⟩:=h
  have hlb:=aH _ _ hlb'
  obtain⟨n,hn,hgo⟩:=S.go
  have hbl:=S.len
  refine au (dW 4 GK (aQ (Pd T) hr.m rfl T.Nr T.DY.kp (T.DY.binds (by walk_at "3")) .nil aE (aa (pv 1) (aa (pv 2) (aa (pv 3) ai))))) ⟨_,rfl,_,rfl,_,rfl,a,lb,ms,G.before,G.row,n,G.d,rfl,hR,GM_,hlb,S.ok,S.row,by lia,by lia,hgo,λtp lt lo lk H1 D GF1 f1 f2 f3 n1 n2 n3 s1=>?_⟩
  have hx1:=s1 _ _ hx
  have nx:∀{b o},H1 b=some o->(∀C dx fs,o ≠ .ins C dx fs)->b≠x:=λ{b o} e h=>cA e hx1 (λz=>h _ _ _ z)
  have x1:tp≠x:=nx D.tp (by intro _ _ _ z;cases z)
  have x2:lt≠x:=nx D.lt (by intro _ _ _ z;cases z)
  have x3:lo≠x:=nx D.lo (by intro _ _ _ z;cases z)
  have x4:lb≠x:=nx (s1 _ _ hlb) (by intro _ _ _ z;cases z)
  refine au (bF (pv 0) (pv 3) rfl) ⟨_,rfl,_,rfl,x,_,dx,[],rfl,hx1,T.cP,T.eO,by decide,?_⟩
  refine au (bF (pv 0) (pv 2) rfl) ⟨_,rfl,_,rfl,x,_,dx,[("signs",.str G.row)],rfl,af,T.cP,T.jk,by show 1<1000;decide,?_⟩
  refine au (bF (pv 0) (bw fQ (pv 4) aB (λ_ _=>rfl)) rfl) ⟨_,rfl,_,_,_,_,rfl,rfl,fN.of (by rw[aj x1,aj x1];exact D.tp),bM (j:=0) rfl,_,rfl,x,_,dx,[("signs",.str G.row),("before",.ref lb)],rfl,af,T.cP,T.oH,by show 2<1000;decide,?_⟩
  refine au (bF (pv 0) (bw fQ (pv 4) aB (λ_ _=>rfl)) rfl) ⟨_,rfl,_,_,_,_,rfl,rfl,fN.of (by rw[aj x1,aj x1,aj x1];exact D.tp),bM (j:=1) rfl,_,rfl,x,_,dx,[("signs",.str G.row),("before",.ref lb),("tints",.ref lt)],rfl,af,T.cP,T.gD,by show 3<1000;decide,?_⟩
  refine ay (bF (pv 0) (bw fQ (pv 4) aB (λ_ _=>rfl)) rfl) ⟨_,rfl,_,_,_,_,rfl,rfl,fN.of (by rw[aj x1,aj x1,aj x1,aj x1];exact D.tp),bM (j:=2) rfl,_,rfl,x,_,dx,[("signs",.str G.row),("before",.ref lb),("tints",.ref lt),("behind",.ref lo)],rfl,af,T.cP,T.nU,by show 4<1000;decide,?_⟩
  rw[d9,d9,d9,d9]
  obtain⟨ps,k1,k2⟩:=D.lk
  have x5:lk≠x:=nx k1 (by intro _ _ _ z;cases z)
  obtain⟨ps',k1',k2',k3'⟩:=GF1
  refine q lt lo lk _ ⟨br af hxS,?_,?_,?_,ps',?_,⟨k2'.1,λi p m hp hm=>?_⟩⟩ λb o hb nb=>?_
  ·exact br (by rw[aj x4];exact s1 _ _ hlb) (cO hlb')
  ·exact br (by rw[aj x2];exact D.lt) (hE.new f1)
  ·exact br (by rw[aj x3];exact D.lo) (hE.new f2)
  ·exact br (by rw[aj x5];exact k1') (hE.new f3)
  ·have e:=k2'.2 i p m hp hm
   exact br (by rw[aj (nx e (by intro _ _ _ z;cases z))];exact e) (hE.new (k3' p (List.mem_of_getElem? hp)))
  ·rw[aj nb];exact s1 _ _ hb
def Chain(ms:List aD):List Nat->List Str->List bX->Prop
 |_,[],[]=>True
 |b,r::rs,G::Gs=>G.row=r/\G.before=b/\zJ ms G/\Chain ms G.d.on rs Gs
 |_,_,_=>False
theorem Chain.len{ms:List aD}:∀{b:List Nat} {rs:List Str} {Gs:List bX},Chain ms b rs Gs->Gs.length=rs.length
 |_,[],[],_=>rfl
 |_,_::_,_::_,h=>by simp[h.2.2.2.len]
 |_,[],_::_,h=>h.elim
 |_,_::_,[],h=>h.elim
def kc:List Nat->List bX->List Nat
 |b,[]=>b
 |_,G::Gs=>kc G.d.on Gs
theorem wX{ms:List aD}{b:List Nat}{rs:List Str}{Gs:List bX}{r:Str}{i:Nat}(hc:Chain ms b (rs.drop i) (Gs.drop i))(hr:rs[i]?=some r):∃G,Gs[i]?=some G/\G.row=r/\G.before=b/\zJ ms G/\Chain ms G.d.on (rs.drop (i+1)) (Gs.drop (i+1)):=by
 rw[iW hr] at hc
 cases e:Gs.drop i with
 |nil=>rw[e] at hc;exact hc.elim
 |cons G t =>
  rw[e] at hc
  have hG:Gs[i]?=some G:=by
   have:=congrArg (λl=>l[0]?) e
   simpa [List.getElem?_drop] using this
  have ht:Gs.drop (i+1)=t:=by rw[← List.drop_drop,e];rfl
  rw[ht]
  exact⟨G,hG,hc⟩
structure cU(t:eS)(H:Hp)(x dx a lg:Addr)(gs:List Addr)(ms:List aD)(Gs:List bX):Prop where
 ob:H x=some (.ins t.aR dx [("rules",.ref a),("gone_rows",.ref lg)])
 ru:IsRules t H a ms
 lg:H lg=some (.lst (gs.map V.ref))
 go:bO (ez t H) gs Gs
theorem cU.same{H H':Hp}{x dx a lg:Addr}{gs:List Addr}{ms:List aD}{Gs:List bX}(h:cU t H x dx a lg gs ms Gs)(s:ao H H'):cU t H' x dx a lg gs ms Gs:=⟨s _ _ h.ob,h.ru.same s,s _ _ h.lg,h.go.mono λ_ _ z=>z.same s⟩
noncomputable def Cs (t:eS):Sp:=λvs H Q _=>∃(x dx a lb lr:Addr) (S:Addr->Prop) (fs:List (Str×V)) (ms:List aD) (b:List Nat) (rs:List Str) (Gs:List bX),vs=[.ref x,.ref lb,.ref lr]/\H x=some (.ins t.aR dx fs)/\fs.lookup ("rules" : Str)=some (.ref a)/\IsRules t H a ms/\dB ms/\hid S H lb=some (.lst (b.map b7))/\Ex S H/\H lr=some (.lst (rs.map V.str))/\rs.length<=100000/\Chain ms b rs Gs /\
 ∀lg gs H',H' lg=some (.lst (gs.map V.ref))->bO (ez t (hid S H')) gs Gs->H lg=none->ao H H'->Q (.ref lg) H'
theorem Dr (T:Txt K mg t):aZ P w K mg base c7 6 t.D5 t.Mx ["self","modes","rows"] (Cs t):=by
 refine T.G7.ok qT ?_ ?_
 walk_at "i"
 ·obtain⟨x,dx,a,lb,lr,S,fs,ms,b,rs,Gs,rfl,hx,hfs,hR,G,hlb,hE,hlr,hrl,hC,q⟩:=h
  have hGl:=hC.len
  refine au (dW 3 qT (bV ai)) ⟨by show 0<=sizeLine;decide,λlg hlg=>?_⟩
  have s1:ao H (upd H lg (.lst [])):=ao.upd hlg
  have hg1:upd H lg (.lst []) lg=some (.lst []):=af
  generalize upd H lg (.lst [])=H1 at s1 hg1
  obtain⟨S2,hS2⟩:∃S2:Addr->Prop,S2=λc=>S c∨c=lg:=⟨_,rfl⟩
  have hSl:S2 lg:=by rw[hS2];exact .inr rfl
  have hE2:∀{H':Hp} {xs:List V},ao H H'->H' lg=some (.lst xs)->Ex S2 H':=λ{H' xs} s' h' c hc=>by
   rw[hS2] at hc
   rcases hc with hc|hc
   ·exact(hE.same s') c hc
   ·rw[hc];exact⟨_,h'⟩
  refine aI (λZ' H'=>∃gs,(∃x1 x4 x5,Z'=[some (.ref x),x1,some (.ref lr),some (.ref lg),x4,x5])/\H' lg=some (.lst (gs.map V.ref))/\bO (ez t (hid S H')) gs Gs/\ao H H') (dO PassesOwn.never rfl (eB (pv 2)) (oJ 4 qT) av) ?_ ?_
  ·refine⟨_,rfl,lr,rfl,⟨_,aY.of (s1 _ _ hlr)⟩,fR (xs:=rs.map V.str) (λi Z' H'=>∃(gs:List Addr) (lb:Addr) (b:List Nat),(∃x4 x5,Z'=[some (.ref x),some (.ref lb),some (.ref lr),some (.ref lg),x4,x5])/\H' lg=some (.lst (gs.map V.ref))/\bO (ez t (hid S2 H')) gs (Gs.take i)/\hid S2 H' lb=some (.lst (b.map b7))/\Chain ms b (rs.drop i) (Gs.drop i)/\ao H H') ⟨[],lb,b,⟨_,_,rfl⟩,hg1,bO.nil,br (s1 _ _ (aH _ _ hlb)) (by rw[hS2];rintro (z|z);(exact cO hlb z);(exact ak (aH _ _ hlb) hlg z)),hC,s1⟩ ?_ ?_ ?_⟩
   ·rintro i Z' H' _ ⟨_,_,_,_,_,_,_,_,s2⟩
    exact aY.of (s2 _ _ hlr)
   ·rintro i xv Z' H2 hxv ⟨gs,lb,b,⟨x4,x5,rfl⟩,hg2,hA2,hlb2,hC2,s2⟩
    rw[List.getElem?_map] at hxv
    obtain⟨r,hri,rfl⟩:=Option.map_eq_some_iff.mp hxv
    obtain⟨Gi,hGi,e1,e2,hS,hC3⟩:=wX hC2 hri
    subst e1 e2
    have hi:=(List.getElem?_eq_some_iff.mp hri).1
    have hEx:=hE2 s2 hg2
    refine au (dW 5 qT (dJ T.qB (Cu T) hr.m rfl T.ow (T.DS.binds (by walk_at "4")) .nil aE (aa (aF (pv 0) rfl) (aa (pv 1) (aa (pv 4) ai))))) (⟨_,rfl,_,_,_,_,_,rfl,(s2 _ _ hx),T.aT,T.gn,hfs,⟨_,rfl,_,rfl,λg dg ng ndg ne=>⟨g,dg,a,lb,S2,ms,Gi,rfl,af,(hR.same s2).same (bN ng ndg),G,(aV (bN ng ndg)) _ _ hlb2,hEx.same (bN ng ndg),hEx.new ng,hS,λlt lo lk H3 hG3 a3=>⟨rfl,?_⟩⟩⟩⟩)
    have s3:ao H2 H3:=λb o hb=>a3 b o (bN ng ndg _ _ hb) (ak hb ng)
    have hg3:=s3 _ _ hg2
    have hob:=aH _ _ hG3.ob
    have ngl:g≠lg:=cA hob hg3 (by intro z;cases z)
    have hlen:gs.length<=100000:=by rw[hA2.1,List.length_take];lia
    refine au (bG (c5 F.plainAttrs_list F.slot_list_append F.type_list_append cG (pv 3) (aa (pv 5) ai))) ⟨_,rfl,.inl ⟨rfl,_,aY.of hg3⟩,_,rfl,lg,_,_,rfl,rfl,hg3,eV (by rw[List.length_map];lia),?_⟩
    refine ay (dW 1 qT (aF (pv 5) rfl)) ⟨_,rfl,g,t.cy,dg,_,_,rfl,(by rw[aj ngl];exact hob),T.cP,T.gD,rfl,?_⟩
    refine⟨gs++[g],lo,Gi.d.on,⟨_,_,rfl⟩,by rw[af,List.map_append];rfl,?_,?_,hC3,λb o hb=>?_⟩
    ·rw[take_snoc hGi,kP hSl]
     exact bO.snoc (hA2.mono λ_ _ z=>z.same (aV s3)) ⟨dg,lb,lt,lo,lk,hG3⟩
    ·rw[kP hSl];exact hG3.lo
    ·rw[aj (ak hb hlg)];exact s3 _ _ (s2 _ _ hb)
   ·rintro Z' H2 ⟨gs,lb,b,⟨x4,x5,rfl⟩,hg2,hA2,_,_,s2⟩
    rw[List.length_map,← hGl,List.take_length] at hA2
    exact⟨gs,⟨_,_,_,rfl⟩,hg2,hA2.mono λ_ _ z=>z.same (uW (λc hc=>by rw[hS2];exact .inl hc)),s2⟩
  rintro Z' H2 ⟨gs,⟨x1,x4,x5,rfl⟩,hg2,hA2,s2⟩
  exact ay (aG (pv 3)) ⟨_,rfl,q lg gs H2 hg2 hA2 hlg s2⟩
noncomputable def IC(t:eS):Sp:=λvs H Q _=>∃(x dx a lr:Addr) (S:Addr->Prop) (ms:List aD) (rs:List Str) (Gs:List bX),vs=[.ref x,.ref a,.ref lr]/\H x=some (.ins t.aR dx []) /\ ¬ S x/\Ex S H/\IsRules t (hid (λc=>S c∨c=x) H) a ms/\dB ms/\jD ms=none/\H lr=some (.lst (rs.map V.str))/\rs.length<=100000/\Chain ms [0] rs Gs /\
 ∀a' lg gs H',cU t (hid S H') x dx a' lg gs ms Gs->H lg=none->fV H H' x->Q .cu H'
theorem Ov (T:Txt K mg t):aZ P w K mg base c7 7 t.GQ t.LD ["self","rules","rows"] (IC t):=by
 refine T.M6.ok OU ?_ ?_
 walk_at "i"
 ·obtain⟨x,dx,a,lr,S,ms,rs,Gs,rfl,hx,hxS,hE,hR,G,hring,hlr,hrl,hC,q⟩:=h
  obtain⟨S2,hS2⟩:∃S2:Addr->Prop,S2=λc=>S c∨c=x:=⟨_,rfl⟩
  rw[← hS2] at hR
  have hSx:S2 x:=by rw[hS2];exact .inr rfl
  have hE2:Ex S2 H:=λc hc=>by
   rw[hS2] at hc
   rcases hc with hc|hc
   ·exact hE c hc
   ·rw[hc];exact⟨_,hx⟩
  have hle:∀c,S c->S2 c:=λc hc=>by rw[hS2];exact .inl hc
  refine au (bG (aQ (N9 T) hr.m rfl T.NX T.D0.kp (T.D0.binds (by walk_at "1")) .nil aE (aa (pv 1) ai))) ⟨_,rfl,a,ms,rfl,hR.same aH,G,hring,λH1 s1=>?_⟩
  refine au (bF (pv 0) (aQ (O9 T) hr.m rfl T.Q7 T.Es.kp (T.Es.binds (by walk_at "1")) .nil aE (aa (pv 1) ai)) rfl) ⟨_,rfl,a,S2,ms,rfl,hR.same (aV s1),hE2.same s1,G,λa' H2 hR2 s2=>?_⟩
  have s2:=s1.trans s2
  have hx2:=s2 _ _ hx
  refine⟨_,rfl,x,_,dx,[],rfl,hx2,T.aT,T.gn,by decide,?_⟩
  have hx3:upd H2 x (.ins t.aR dx (cB "rules" (.ref a') [])) x=some (.ins t.aR dx [("rules",.ref a')]):=af
  have a3:fV H (upd H2 x (.ins t.aR dx (cB "rules" (.ref a') []))) x:=s2.Hq fV.upd
  have nl:lr≠x:=cA (s2 _ _ hlr) hx2 (by intro z;cases z)
  have hlr3:upd H2 x (.ins t.aR dx (cB "rules" (.ref a') [])) lr=some (.lst (rs.map V.str)):=by rw[aj nl];exact s2 _ _ hlr
  have hH3:hid S2 (upd H2 x (.ins t.aR dx (cB "rules" (.ref a') [])))=hid S2 H2:=kP hSx
  have hE3:Ex S (upd H2 x (.ins t.aR dx (cB "rules" (.ref a') []))):=λc hc=>by
   obtain⟨o,ho⟩:=(hE.same s2) c hc
   exact⟨o,by rw[aj (λz=>hxS (by rw[← z];exact hc))];exact ho⟩
  rw[← hH3] at hR2
  generalize upd H2 x (.ins t.aR dx (cB "rules" (.ref a') []))=H3 at hx3 a3 hlr3 hR2 hE3
  refine ay (bF (pv 0) (bz (pv 0) T.aT T.LB (Dr T) hr.m (T.G7.binds (by walk_at "3")) .nil aE (aa (bV (aa (fj rfl T.kG) ai)) (aa (pv 2) ai))) rfl) ⟨_,rfl,x,dx,_,rfl,hx3,rfl,by show 1<=sizeLine;decide,λlb hlb=>⟨_,rfl,x,dx,a',lb,lr,S,_,ms,[0],rs,Gs,rfl,ao.upd hlb _ _ hx3,rfl,(hR2.same aH).same (ao.upd hlb),G,br af (hE3.new hlb),hE3.same (ao.upd hlb),ao.upd hlb _ _ hlr3,hrl,hC,λlg gs H4 hg4 hA4 f4 s4=>?_⟩⟩
  have s34:ao H3 H4:=(ao.upd hlb).trans s4
  have hx4:=s34 _ _ hx3
  refine⟨_,rfl,x,_,dx,[("rules",.ref a')],rfl,hx4,T.aT,T.aS,by show 1<1000;decide,?_⟩
  have h3n:H3 lg=none:=(ao.upd hlb).free f4
  have nlg:lg≠x:=cA hg4 hx4 (by intro z;cases z)
  have hlg0:H lg=none:=by
   cases e:H lg with
   |none=>rfl
   |some o=>have:=a3 _ _ e nlg;rw[h3n] at this;cases this
  have sh:ao (hid S2 H4) (hid S (upd H4 x (.ins t.aR dx (cB "gone_rows" (.ref lg) [("rules",.ref a')])))):=λb o hb=>by
   have hb2:=cO hb
   exact br (by rw[aj (λz=>hb2 (by rw[z];exact hSx))];exact aH _ _ hb) (λz=>hb2 (hle b z))
  refine q a' lg gs _ ⟨br af hxS,(hR2.same (aV s34)).same sh,br (by rw[aj nlg];exact hg4) (hE3.new h3n),hA4.mono λg Gi hg=>?_⟩ hlg0 ?_
  ·obtain⟨dg,lb',lt,lo,lk,e⟩:=hg
   have key:∀{b o},hid S H4 b=some o->b≠x->hid S (upd H4 x (.ins t.aR dx (cB "gone_rows" (.ref lg) [("rules",.ref a')]))) b=some o:=λ{b o} hb h=>br (by rw[aj h];exact aH _ _ hb) (cO hb)
   have nk:∀{b o},hid S H4 b=some o->(∀C d fs,o ≠ .ins C d fs)->b≠x:=λ{b o} hb h=>cA (aH _ _ hb) hx4 (λz=>h _ _ _ z)
   obtain⟨ps,k1,k2⟩:=e.lk
   refine⟨dg,lb',lt,lo,lk,key e.ob (cA (aH _ _ e.ob) hx4 (by intro z;injection z with _ _ z;cases z)),key e.lb (nk e.lb (by intro _ _ _ z;cases z)),key e.lt (nk e.lt (by intro _ _ _ z;cases z)),key e.lo (nk e.lo (by intro _ _ _ z;cases z)),ps,key k1 (nk k1 (by intro _ _ _ z;cases z)),k2.mono λp m h=>key h (nk h (by intro _ _ _ z;cases z))⟩
  ·intro b o hb nb
   rw[aj nb]
   exact s34 _ _ (a3 _ _ hb nb)
noncomputable def N5(t:eS):Sp:=λvs H Q _=>∃(x dx a lg:Addr) (gs:List Addr) (ms:List aD) (Gs:List bX),vs=[.ref x]/\cU t H x dx a lg gs ms Gs/\Gs.length<=100000/\∀l H',H' l=some (.lst ((Gs.map (·.row)).map V.str))->H l=none->ao H H'->Q (.ref l) H'
theorem qV (T:Txt K mg t):aZ P w K mg base c7 1 t.Gg t.MC ["self"] (N5 t):=by
 refine T.r9.ok Qu ?_ ?_
 walk_at "i"
 ·obtain⟨x,dx,a,lg,gs,ms,Gs,rfl,I,hl,q⟩:=h
  refine ay (@aG _ _ _ _ (@iu _ (aq EF) _ ["self"] _ _ ("gone") _ _ [] _ _ (by walk_at "ck") (@eB _ _ _ _ (@aF _ _ _ _ _ (pv 0) rfl)) (λ_ _ _ _=>by exact(@kL _ K _ _ _ _ (pv 0) rfl (by left))) (by left) (by left) (by left) (by left))) (⟨_,rfl,_,_,_,_,_,rfl,I.ob,T.aT,T.aS,rfl,⟨lg,rfl,⟨_,aY.of I.lg⟩,iz (xs:=gs.map V.ref) (λi ys H2=>ys=((Gs.take i).map (·.row)).map V.str/\H2=H) ⟨rfl,rfl⟩ (eV (by rw[List.length_map,I.go.1];lia)) ?_ ?_ ?_⟩⟩)
  ·rintro i ys H2 _ ⟨_,rfl⟩
   exact aY.of I.lg
  ·rintro i xv ys H2 hx hyl ⟨rfl,rfl⟩
   rw[List.getElem?_map] at hx
   obtain⟨g,hg,rfl⟩:=Option.map_eq_some_iff.mp hx
   have hi:=(List.getElem?_eq_some_iff.mp hg).1
   have hGi:Gs[i]?=some (Gs[i]'(by rw[← I.go.1];exact hi)):=List.getElem?_eq_getElem _
   obtain⟨dg,lb,lt,lo,lk,e⟩:=I.go.2 i g _ hg hGi
   refine⟨_,rfl,_,_,_,_,_,rfl,e.ob,T.cP,T.eO,rfl,(fm (by rw[List.length_map];exact hi) hyl ⟨?_,rfl⟩)⟩
   rw[take_snoc hGi,List.map_append,List.map_append]
   rfl
  ·rintro ys H2 hyl ⟨rfl,rfl⟩ D hD
   have e5:Gs.take (gs.map V.ref).length=Gs:=by rw[List.length_map,I.go.1,List.take_length]
   rw[e5]
   exact q D _ af hD (ao.upd hD)
noncomputable def FG(t:eS):Sp:=λvs H Q _=>∃(x dx a lg:Addr) (gs:List Addr) (ms:List aD) (Gs:List bX) (i:Nat),vs=[.ref x,.int i]/\cU t H x dx a lg gs ms Gs/\i<Gs.length/\Q .cu H
theorem ND (T:Txt K mg t):aZ P w K mg base c7 1 t.Et t.Lr ["self","row"] (FG t):=by
 refine T.JV.ok QV ?_ ?_
 walk_at "i"
 ·obtain⟨x,dx,a,lg,gs,ms,Gs,i,rfl,I,hi,q⟩:=h
  have hl:=I.go.1
  refine ay (aX (PW.pt (ie (az gx (pv 1) aB (aC _)) (gj (az TJ (pv 1) (aK aP (by rfl) T.bU (by decide +kernel) (aa (aF (pv 0) rfl) ai)) (aC _))))) av av) ⟨_,rfl,_,_,rfl,rfl,_,rfl,dR (λh=>absurd h (by lia)) (λ_=>?_)⟩
  exact⟨_,rfl,⟨_,rfl,_,_,_,_,_,rfl,I.ob,T.aT,T.aS,rfl,⟨_,_,rfl,.inl (aY.of I.lg),_,_,rfl,rfl,_,rfl,dR (λh=>absurd h (by rw[List.length_map];lia)) (λ_=>aU q)⟩⟩⟩
def fZ:List Str->List Str->Nat
 |x::xs,y::ys=>if x=y then fZ xs ys+1 else 0
 |_,_=>0
theorem qO:∀(xs ys:List Str),fZ xs ys<=xs.length/\fZ xs ys<=ys.length
 | [],ys=>⟨Nat.zero_le _,Nat.zero_le _⟩
 |_::_,[]=>⟨Nat.zero_le _,Nat.zero_le _⟩
 |x::xs,y::ys=>by
  have h:=qO xs ys
  rw[fZ]
  by_cases e:x=y
  ·rw[if_pos e,List.length_cons,List.length_cons];lia
  ·rw[if_neg e];exact⟨Nat.zero_le _,Nat.zero_le _⟩
theorem CN{xs ys:List Str}{i:Nat}{x y:Str}(h1:xs[i]?=some x)(h2:ys[i]?=some y):fZ (xs.drop i) (ys.drop i)=if x=y then fZ (xs.drop (i+1)) (ys.drop (i+1))+1 else 0:=by
 rw[iW h1,iW h2,fZ]
theorem AF{xs ys:List Str}{i:Nat}(h:i=xs.length∨i=ys.length):fZ (xs.drop i) (ys.drop i)=0:=by
 rcases h with h|h
 ·rw[h,List.drop_length,fZ];intros;simp_all
 ·rw[h,List.drop_length]
  cases xs.drop ys.length <;> rfl
noncomputable def JG:Sp:=λvs H Q _=>∃(a b:Addr) (xs ys:List Str),vs=[.ref a,.ref b]/\H a=some (.lst (xs.map V.str))/\H b=some (.lst (ys.map V.str))/\∀H',ao H H'->Q (.int (fZ xs ys:Nat)) H'
theorem Ai (T:Txt K mg t):aZ P w K mg base c7 1 t.xW t.Cg ["some","others"] JG:=by
 refine T.qK.ok mG ?_ ?_
 walk_at "i"
 ·obtain⟨a,b,xs,ys,rfl,ha,hb,q⟩:=h
  refine au (dW 2 mG aB) ?_
  refine aI (λZ' H'=>(∃x3 x4,Z'=[some (.ref a),some (.ref b),some (.int (fZ xs ys:Nat)),x3,x4])/\ao H H') (dO PassesOwn.never rfl (Qt rfl T.z7 (aa (pv 0) (aa (pv 1) ai))) (gZ rfl (bR (oJ 3 mG) (bR (oJ 4 mG) fH))) av) ?_ ?_
  ·refine⟨_,rfl,_,rfl,a,b,_,_,rfl,aY.of ha,aY.of hb,DN (xs:=xs.map V.str) (ys:=ys.map V.str) (λi Z' H'=>(∃x3 x4,Z'=[some (.ref a),some (.ref b),some (.int (i:Nat)),x3,x4])/\ao H H'/\fZ xs ys=i+fZ (xs.drop i) (ys.drop i)) ⟨⟨_,_,rfl⟩,ao.refl H,by simp⟩ ?_ ?_ ?_⟩
   ·rintro i Z' H' _ _ ⟨_,s1,_⟩
    exact⟨aY.of (s1 _ _ ha),aY.of (s1 _ _ hb)⟩
   ·rintro i xv yv p Z' H1 hx hy hp ⟨⟨x3,x4,rfl⟩,s1,hn⟩
    rw[List.getElem?_map] at hx hy
    obtain⟨x,hx1,rfl⟩:=Option.map_eq_some_iff.mp hx
    obtain⟨y,hy1,rfl⟩:=Option.map_eq_some_iff.mp hy
    rw[CN hx1 hy1] at hn
    have s2:ao H (upd H1 p (.tup [.str x,.str y])):=s1.trans (ao.upd hp)
    refine⟨p,[.str x,.str y],rfl,fN.of af,rfl,_,_,rfl,_,_,rfl,rfl,?_⟩
    by_cases e:x=y
    ·rw[if_pos e] at hn
     refine au (aX (az iY (pv 3) (pv 4) (aC _)) av av) ⟨_,rfl,_,rfl,rfl,_,rfl,uf (c:=false) (by simp[e]) (aU ?_)⟩
     refine ay (yZ (i:=2) mG.nd rfl (Or.inl rfl) aB yV) ⟨_,rfl,_,_,rfl,rfl,⟨_,_,rfl⟩,s2,?_⟩
     lia
    ·rw[if_neg e] at hn
     refine au (aX (az iY (pv 3) (pv 4) (aC _)) av av) ⟨_,rfl,_,rfl,rfl,_,rfl,uf (c:=true) (by simp[e]) ?_⟩
     refine ay (aG (pv 2)) ⟨_,rfl,?_⟩
     have:=q _ s2
     rw[hn] at this
     exact this
   ·rintro i Z' H1 hi h1 h2 ⟨⟨x3,x4,rfl⟩,s1,hn⟩
    rw[List.length_map,List.length_map] at hi
    rw[AF hi] at hn
    exact⟨⟨_,_,by rw[hn];rfl⟩,s1⟩
  rintro Z' H1 ⟨⟨x3,x4,rfl⟩,s1⟩
  exact ay (aG (pv 2)) ⟨_,rfl,q _ s1⟩
noncomputable def HH:Sp:=λvs H Q _=>∃(a b:Addr) (xs ys:List Str),vs=[.ref a,.ref b]/\H a=some (.lst (xs.map V.str))/\H b=some (.lst (ys.map V.str))/\∀H',ao H H'->Q (.int (fZ xs.reverse ys.reverse:Nat)) H'
theorem Jw (T:Txt K mg t):aZ P w K mg base c7 2 t.xM t.Dm ["some","others"] HH:=by
 refine T.yu.ok Jo ?_ ?_
 walk_at "i"
 ·obtain⟨a,b,xs,ys,rfl,ha,hb,q⟩:=h
  refine ay (aG (aQ (Ai T) hr.m rfl T.Av T.qK.kp (T.qK.binds (by walk_at "2")) .nil aE (aa (qc rfl rfl T.nI rfl T.qN (aa (pv 0) ai)) (aa (qc rfl rfl T.nI rfl T.qN (aa (pv 1) ai)) ai)))) ⟨_,rfl,a,_,rfl,aY.of ha,λl1 h1=>⟨_,rfl,b,_,rfl,aY.of (ao.upd h1 _ _ hb),λl2 h2=>⟨l1,l2,xs.reverse,ys.reverse,rfl,?_,?_,λH' s'=>q H' (((ao.upd h1).trans (ao.upd h2)).trans s')⟩⟩⟩
  ·rw[List.map_reverse]
   exact ao.upd h2 _ _ af
  ·rw[List.map_reverse]
   exact af
theorem rK{b:List Nat}:∀{Gs:List bX} {j:Nat} {G:bX},Gs[j]?=some G->kc b (Gs.take (j+1))=G.d.on
 |G'::Gs,0,G,h=>by cases h;rfl
 |G'::Gs,j+1,G,h=>by
  rw[List.take_succ_cons,kc]
  exact rK (Gs:=Gs) (by simpa using h)
noncomputable def IK (t:eS):Sp:=λvs H Q _=>∃(x dx a lg:Addr) (gs:List Addr) (S:Addr->Prop) (Gs:List bX) (i:Nat),vs=[.ref x,.int i]/\H x=some (.ins t.aR dx [("rules",.ref a),("gone_rows",.ref lg)])/\H lg=some (.lst (gs.map V.ref))/\bO (ez t (hid S H)) gs Gs/\Ex S H/\i<=Gs.length /\
 ∀lb H',hid S H' lb=some (.lst ((kc [0] (Gs.take i)).map b7))->ao H H'->Q (.ref lb) H'
theorem zd (T:Txt K mg t):aZ P w K mg base c7 1 t.FO t.J1 ["self","row"] (IK t):=by
 refine T.As.ok QY ?_ ?_
 walk_at "i"
 ·obtain⟨x,dx,a,lg,gs,S,Gs,i,rfl,hx,hlg,hA,hE,hi,q⟩:=h
  refine ay (aG (bH (az jG (pv 1) aB (aC _)) (aF (bw bq (aF (pv 0) rfl) (aW jN (pv 1) aB) (λ_ _=>rfl)) rfl) (bV (aa (fj rfl T.kG) ai)))) ⟨_,rfl,_,_,rfl,rfl,_,rfl,dR (λh=>?_) (λh=>?_)⟩
  ·obtain⟨j,rfl⟩:∃j,i=j+1:=⟨i-1,by lia⟩
   obtain⟨G,hG⟩:∃G,Gs[j]?=some G:=⟨Gs[j]'(by lia),List.getElem?_eq_getElem _⟩
   obtain⟨g,hg,dg,lb,lt,lo,lk,e⟩:=hA.at hG
   have ej:((j+1:Nat):Int)-1=(j:Int):=by lia
   refine⟨_,rfl,_,_,_,_,_,rfl,hx,T.aT,T.aS,rfl,⟨_,rfl,_,_,rfl,rfl,?_⟩⟩
   show HG _ (.ref lg) (.int (((j+1:Nat):Int)-1)) H _
   rw[ej]
   refine⟨_,_,_,_,rfl,rfl,aY.of hlg,gi hg,g,t.cy,dg,_,_,rfl,aH _ _ e.ob,T.cP,T.gD,rfl,?_⟩
   refine q lo H ?_ (ao.refl H)
   rw[rK hG]
   exact e.lo
  ·have e0:i=0:=by lia
   subst e0
   exact⟨by show 1<=sizeLine;decide,λlb hlb=>q lb _ (br af (hE.new hlb)) (ao.upd hlb)⟩
noncomputable def Hx (t:eS):Sp:=λvs H Q _=>∃(x dx a lg:Addr) (gs:List Addr) (i k:Nat),vs=[.ref x,.int i,.int k]/\H x=some (.ins t.aR dx [("rules",.ref a),("gone_rows",.ref lg)])/\H lg=some (.lst (gs.map V.ref))/\i+k<=gs.length/\Q .cu H
theorem Ob (T:Txt K mg t):aZ P w K mg base c7 1 t.DX t.MB ["self","row","many"] (Hx t):=by
 refine T.Mm.ok Pw ?_ ?_
 walk_at "i"
 ·obtain⟨x,dx,a,lg,gs,i,k,rfl,hx,hlg,hi,q⟩:=h
  refine ay (aX (PW.pt (ie (az gx (pv 1) aB (aC _)) (ie (az gx (pv 2) aB (aC _)) (gj (az jG (aW bZ (pv 1) (pv 2)) (aK aP (by rfl) T.bU (by decide +kernel) (aa (aF (pv 0) rfl) ai)) (aC _)))))) av av) ⟨_,rfl,_,_,rfl,rfl,_,rfl,dR (λh=>absurd h (by lia)) (λ_=>?_)⟩
  refine⟨_,rfl,_,_,rfl,rfl,_,rfl,dR (λh=>absurd h (by lia)) (λ_=>?_)⟩
  refine⟨_,rfl,_,rfl,_,_,rfl,rfl,⟨_,rfl,_,_,_,_,_,rfl,hx,T.aT,T.aS,rfl,⟨_,_,rfl,.inl (aY.of hlg),_,_,rfl,rfl,_,rfl,dR (λh=>absurd h (by rw[List.length_map];lia)) (λ_=>aU q)⟩⟩⟩
structure nF(ms:List aD)(Gs:List bX)(i k:Nat)(Gs':List bX):Prop where
 len:Gs'.length=Gs.length
 le:i+k<=Gs.length
 pre:∀j,j<i->Gs'[j]?=Gs[j]?
 suf:∀j,i+k<=j->Gs'[j]?=Gs[j]?
 mid:∀j,i<=j->j<i+k->∃G G',Gs[j]?=some G/\Gs'[j]?=some G'/\G'.row=G.row/\G'.before=kc [0] (Gs'.take j)/\G.before≠kc [0] (Gs'.take j)/\zJ ms G'
 stop:∀G,Gs[i+k]?=some G->G.before=kc [0] (Gs'.take (i+k))
def jY(Gs Gs':List bX)(n:Nat):List bX:=Gs'.take n++Gs.drop n
theorem QJ{Gs Gs':List bX}{n:Nat}(hl:Gs'.length=Gs.length)(h:n<=Gs.length):(jY Gs Gs' n)[n]?=Gs[n]?:=by
 rw[jY,List.getElem?_append_right (by rw[List.length_take];lia),List.length_take,List.getElem?_drop]
 congr 1
 lia
theorem we{Gs Gs':List bX}{n:Nat}(hl:Gs'.length=Gs.length)(h:n<=Gs.length):(jY Gs Gs' n).take n=Gs'.take n:=by
 have e:n=(Gs'.take n).length:=by rw[List.length_take];lia
 rw[jY]
 conv=>lhs;arg 1;rw[e]
 rw[List.take_left]
theorem tZ{Gs Gs':List bX}{n:Nat}(hl:Gs'.length=Gs.length)(h:n<=Gs.length):(jY Gs Gs' n).length=Gs.length:=by
 rw[jY,List.length_append,List.length_take,List.length_drop];lia
theorem Ja{Gs Gs':List bX}{n:Nat}{G':bX}(hl:Gs'.length=Gs.length)(h:n<Gs.length)(hG:Gs'[n]?=some G'):(jY Gs Gs' n).set n G'=jY Gs Gs' (n+1):=by
 have e:(Gs'.take n).length=n:=by rw[List.length_take];lia
 rw[jY,jY,List.set_append_right _ _ (by rw[e];exact Nat.le_refl _),e,Nat.sub_self,take_snoc hG,List.append_assoc]
 congr 1
 rw[iW (List.getElem?_eq_getElem h)]
 rfl
theorem nF.first{ms:List aD}{Gs Gs':List bX}{i k:Nat}(h:nF ms Gs i k Gs'):jY Gs Gs' i=Gs:=by
 apply List.ext_getElem?
 intro j
 rw[jY]
 have:=h.le
 have:=h.len
 by_cases hj:j<i
 ·rw[List.getElem?_append_left (by rw[List.length_take];lia),List.getElem?_take,if_pos hj,h.pre j hj]
 ·rw[List.getElem?_append_right (by rw[List.length_take];lia),List.length_take,List.getElem?_drop]
  congr 1
  lia
theorem nF.last{ms:List aD}{Gs Gs':List bX}{i k:Nat}(h:nF ms Gs i k Gs'):jY Gs Gs' (i+k)=Gs':=by
 apply List.ext_getElem?
 intro j
 rw[jY]
 have:=h.le
 have:=h.len
 by_cases hj:j<i+k
 ·rw[List.getElem?_append_left (by rw[List.length_take];lia),List.getElem?_take,if_pos hj]
 ·rw[List.getElem?_append_right (by rw[List.length_take];lia),List.length_take,List.getElem?_drop,h.suf j (by lia)]
  congr 1
  lia
theorem bO.put{α β:Type}{R:α->β->Prop}{xs:List α}{ys:List β}{n:Nat}{x:α}{y:β}(h:bO R xs ys)(r:R x y):bO R (xs.set n x) (ys.set n y):=by
 refine⟨by rw[List.length_set,List.length_set];exact h.1,λi a b ha hb=>?_⟩
 rw[List.getElem?_set] at ha hb
 by_cases e:n=i
 ·rw[if_pos e] at ha hb
  split at ha
  ·split at hb
   ·cases ha;cases hb;exact r
   ·cases hb
  ·cases ha
 ·rw[if_neg e] at ha hb
  exact h.2 i a b ha hb
theorem vv:∀{xs ys:List Nat},xs.map b7=ys.map b7->xs=ys
 | [],[],_=>rfl
 | [],_::_,h=>by simp at h
 |_::_,[],h=>by simp at h
 |x::xs,y::ys,h=>by
  rw[List.map_cons,List.map_cons] at h
  injection h with h1 h2
  injection h1 with h1
  rw[vv h2,Int.ofNat_inj.mp h1]
theorem yh(xs ys:List Nat):tW (xs.map b7) (ys.map b7):=wQ (λn:Nat=>(n:Int)) (λn:Nat=>(n:Int)) xs ys
noncomputable def ON (t:eS):Sp:=λvs H Q _=>∃(x dx a lg:Addr) (gs:List Addr) (S:Addr->Prop) (ms:List aD) (Gs Gs':List bX) (i k:Nat),vs=[.ref x,.int i]/\H x=some (.ins t.aR dx [("rules",.ref a),("gone_rows",.ref lg)])/\IsRules t (hid S H) a ms/\dB ms/\H lg=some (.lst (gs.map V.ref))/\S lg/\bO (ez t (hid S H)) gs Gs/\Ex S H/\Gs.length<=100000/\nF ms Gs i k Gs' /\
 ∀gs' H',H' lg=some (.lst (gs'.map V.ref))->bO (ez t (hid S H')) gs' Gs'->fV H H' lg->Q (.int (k:Nat)) H'
theorem QZ (T:Txt K mg t):aZ P w K mg base c7 6 t.DI t.J4 ["self","row"] (ON t):=by
 refine T.Kl.ok xZ ?_ ?_
 walk_at "i"
 ·obtain⟨x,dx,a,lg,gs,S,ms,Gs,Gs',i,k,rfl,hx,hR,G,hlg,hSl,hA,hE,hlen,O,q⟩:=h
  have hxl:x≠lg:=cA hx hlg (by intro z;cases z)
  have hl:=O.len
  have hle:=O.le
  refine au (dW 2 xZ (pv 1)) ⟨_,rfl,?_⟩
  refine aI (λZ' H'=>∃gs',(∃x2,Z'=[some (.ref x),some (.int i),x2]/\x2=some (.int ((i+k:Nat):Int)))/\H' lg=some (.lst (gs'.map V.ref))/\bO (ez t (hid S H')) gs' Gs'/\fV H H' lg) (jO PassesOwn.never (PW.pt (ic (az gx (pv 2) (aK aP (by rfl) T.bU (by decide +kernel) (aa (aF (pv 0) rfl) ai)) (aC _)) (gF (az (Js (Nat.lt_of_succ_lt (pF hr))) (aF (bw bq (aF (pv 0) rfl) (pv 2) (λ_ _=>rfl)) rfl) (bz (pv 0) T.aT T.DT (zd T) hr.m (T.As.binds (by walk_at "2")) .nil aE (aa (pv 2) ai)) (aC _))))) av) ?_ ?_
  ·refine⟨λm Z' H'=>∃(j:Nat) (gs':List Addr),Z'=[some (.ref x),some (.int i),some (.int ((i+j:Nat):Int))]/\j<=k/\m=k-j/\H' lg=some (.lst (gs'.map V.ref))/\bO (ez t (hid S H')) gs' (jY Gs Gs' (i+j))/\fV H H' lg,⟨k,0,gs,rfl,Nat.zero_le _,rfl,hlg,(by rw[Nat.add_zero,O.first];exact hA),fV.refl H lg⟩,?_⟩
   rintro m Z' H1 ⟨j,gs1,rfl,hj,rfl,hlg1,hA1,a1⟩
   have hx1:=a1 _ _ hx hxl
   have s1:ao (hid S H) (hid S H1):=λb o hb=>br (a1 _ _ (aH _ _ hb) (λz=>cO hb (by rw[z];exact hSl))) (cO hb)
   have hR1:=hR.same s1
   have hE1:Ex S H1:=λb hb=>by
    by_cases e:b=lg
    ·rw[e];exact⟨_,hlg1⟩
    ·obtain⟨o,ho⟩:=hE b hb
     exact⟨o,a1 _ _ ho e⟩
   have hg1:gs1.length=Gs.length:=by rw[hA1.1,tZ hl (by lia)]
   refine⟨_,rfl,⟨_,rfl,_,_,_,_,_,rfl,hx1,T.aT,T.aS,rfl,⟨_,_,rfl,.inl (aY.of hlg1),_,_,rfl,rfl,_,rfl,dR (λh=>?_) (λh=>?_)⟩⟩⟩
   ·rw[List.length_map] at h
    have hlt:i+j<Gs.length:=by lia
    obtain⟨G0,hG0⟩:∃G0,Gs[i+j]?=some G0:=⟨Gs[i+j],List.getElem?_eq_getElem hlt⟩
    have hG1:(jY Gs Gs' (i+j))[i+j]?=some G0:=by rw[QJ hl (by lia)];exact hG0
    obtain⟨g,hg,dg,lb,lt,lo,lk,e⟩:=hA1.at hG1
    refine⟨_,rfl,_,_,_,_,_,rfl,hx1,T.aT,T.aS,rfl,⟨_,rfl,_,_,_,_,rfl,rfl,aY.of hlg1,gi hg,g,t.cy,dg,_,_,rfl,aH _ _ e.ob,T.cP,T.jk,rfl,?_⟩⟩
    refine⟨_,rfl,x,dx,_,rfl,hx1,rfl,_,rfl,x,dx,a,lg,gs1,S,_,i+j,rfl,hx1,hlg1,hA1,hE1,(by rw[tZ hl (by lia)];lia),λlb2 H2 hb2 s2=>?_⟩
    rw[we hl (by lia)] at hb2
    refine⟨lb,lb2,_,_,rfl,rfl,aY.of (s2 _ _ (aH _ _ e.lb)),aY.of (aH _ _ hb2),yh _ _,_,rfl,?_⟩
    have hlg2:=s2 _ _ hlg1
    have hx2:=s2 _ _ hx1
    have hA2:bO (ez t (hid S H2)) gs1 (jY Gs Gs' (i+j)):=hA1.mono λ_ _ z=>z.same (aV s2)
    have hE2:=hE1.same s2
    have a2:fV H H2 lg:=a1.same s2
    refine jA (λhne=>?_) (λheq=>?_)
    ·have hjk:j<k:=by
      rcases Nat.lt_or_ge j k with z|z
      ·exact z
      ·exfalso
       have ejk:j=k:=by lia
       subst ejk
       exact hne (by rw[O.stop G0 hG0])
     obtain⟨G1,G',z1,hG',er,eb,_,hSt⟩:=O.mid (i+j) (by lia) (by lia)
     rw[hG0] at z1
     cases z1
     refine⟨_,λZ' H' z=>z,au (yW (dJ T.qB (Cu T) hr.m rfl T.ow (T.DS.binds (by walk_at "4")) .nil aE (aa (aF (pv 0) rfl) (aa (bz (pv 0) T.aT T.DT (zd T) hr.m (T.As.binds (by walk_at "2")) .nil aE (aa (pv 2) ai)) (aa (aF (bw bq (aF (pv 0) rfl) (pv 2) (λ_ _=>rfl)) rfl) ai)))) (Ea (aF (pv 0) rfl) (pv 2) set_list)) ?_⟩
     refine⟨_,rfl,_,_,_,_,_,rfl,hx2,T.aT,T.gn,rfl,?_⟩
     refine⟨_,rfl,x,dx,_,rfl,hx2,rfl,_,rfl,x,dx,a,lg,gs1,S,_,i+j,rfl,hx2,hlg2,hA2,hE2,(by rw[tZ hl (by lia)];lia),λlb3 H3 hb3 s3=>?_⟩
     rw[we hl (by lia),← eb] at hb3
     have hlg3:=s3 _ _ hlg2
     have hx3:=s3 _ _ hx2
     have hE3:=hE2.same s3
     have s13:ao H1 H3:=s2.trans s3
     refine⟨_,rfl,_,_,_,_,_,rfl,hx3,T.aT,T.aS,rfl,⟨_,rfl,_,_,_,_,rfl,rfl,aY.of hlg3,gi hg,g,t.cy,dg,_,_,rfl,s13 _ _ (aH _ _ e.ob),T.cP,T.eO,rfl,?_⟩⟩
     refine λg' dg' ng ndg ne=>⟨g',dg',a,lb3,S,ms,G',(by rw[er];rfl),af,((hR1.same aH).same s13).same (bN ng ndg),G,(aV (bN ng ndg)) _ _ hb3,hE3.same (bN ng ndg),hE3.new ng,hSt,λlt4 lo4 lk4 H4 hG4 a4=>⟨rfl,?_⟩⟩
     have s34:ao H3 H4:=λb o hb=>a4 b o (bN ng ndg _ _ hb) (ak hb ng)
     have hlg4:=s34 _ _ hlg3
     have hx4:=s34 _ _ hx3
     have s14:ao H1 H4:=s13.trans s34
     refine⟨_,rfl,_,_,_,_,_,rfl,hx4,T.aT,T.aS,rfl,⟨_,rfl,lg,_,_,i+j,rfl,rfl,hlg4,?_,?_⟩⟩
     ·have hz:(gs1.map V.ref).length=Gs.length:=by rw[List.length_map];exact hg1
      rw[hz,BF,if_pos (by lia),if_pos (by lia),Int.toNat_natCast]
     refine ay (yZ (i:=2) xZ.nd rfl (Or.inl rfl) aB yV) ⟨_,rfl,_,_,rfl,rfl,?_⟩
     refine⟨k-(j+1),by lia,j+1,gs1.set (i+j) g',?_,by lia,rfl,?_,?_,?_⟩
     ·show [some (V.ref x),some (V.int i),some (V.int (((i+j:Nat):Int)+1))]=_
      rw[show (((i+(j+1):Nat)):Int)=((i+j:Nat):Int)+1 by lia]
     ·rw[af,List.map_set]
     ·rw[kP hSl,show i+(j+1)=i+j+1 from rfl,← Ja hl hlt hG']
      exact(hA1.mono λ_ _ z=>z.same (aV s14)).put ⟨dg',lb3,lt4,lo4,lk4,hG4⟩
     ·intro b o hb nb
      rw[aj nb]
      exact s14 _ _ (a1 _ _ hb nb)
    ·have ejk:j=k:=by
      rcases Nat.lt_or_ge j k with z|z
      ·exfalso
       obtain⟨G1,G',z1,hG',er,eb,hnb,hSt⟩:=O.mid (i+j) (by lia) (by lia)
       rw[hG0] at z1
       cases z1
       exact hnb (vv heq)
      ·lia
     subst ejk
     rw[O.last] at hA2
     exact⟨gs1,⟨_,rfl,rfl⟩,hlg2,hA2,a2⟩
   ·rw[List.length_map] at h
    have ej:j=k:=by
     have:=O.le
     lia
    subst ej
    rw[O.last] at hA1
    exact⟨gs1,⟨_,rfl,rfl⟩,hlg1,hA1,a1⟩
  rintro Z' H1 ⟨gs1,⟨x2,rfl,rfl⟩,h1,h2,h3⟩
  refine ay (aG (aW jN (pv 2) (pv 1))) ⟨_,rfl,_,rfl,_,_,rfl,rfl,?_⟩
  have:=q gs1 H1 h1 h2 h3
  rw[show (k:Int)=((i+k:Nat):Int)-(i:Int) by lia] at this
  exact this
theorem zL{xs:List V}{i j:Nat}(hj:j<=xs.length)(h:i<=j):cF xs (some (i:Int)) (some (j:Int))=(xs.drop i).take (j-i):=by
 rw[cF,HT.o4,HT.o4,Nat.min_eq_left hj,Nat.min_eq_left (Nat.le_trans h hj)]
theorem mQ{xs:List V}{i:Nat}(h:i<=xs.length):cF xs (some (i:Int)) none=xs.drop i:=by
 rw[cF,HT.o4,HT.vm,Nat.min_eq_left h,List.take_of_length_le (by rw[List.length_drop];exact Nat.le_refl _)]
theorem UP{a n m x s:Nat}(h:n+m+n<=s):min a n+m+(n-x)<=s:=by lia
theorem DL{xs:List V}{j:Nat}(hj:j<=xs.length):cF xs none (some (j:Int))=xs.take j:=by
 rw[cF,HT.o4,HT.vm,Nat.min_eq_left hj];rfl
theorem apart{H:Hp}{x b:Addr}{o:HO}{C dx:Addr}{fs:List (Str×V)}(hx:H x=some (.ins C dx fs))(hb:H b=some o)(h:∀C' d' fs',o = .ins C' d' fs'->fs'.length≠fs.length):hid (λc=>c=x) H b=some o:=by
 refine br hb λz=>?_
 rw[z,hx] at hb
 cases hb
 exact h _ _ _ rfl rfl
theorem FY(s z:Str):(jK s z).length<=1:=by
 rw[jK]
 by_cases b:bare s
 ·rw[if_pos b];exact Nat.zero_le _
 ·rw[if_neg b]
  by_cases e:s = "word"
  ·rw[if_pos e];exact Nat.le_refl _
  ·rw[if_neg e];exact Nat.le_refl _
theorem IsRules.apart {H:Hp} {x a dx a' lg:Addr} {ms:List aD} (h:IsRules t H a ms) (hx:H x=some (.ins t.aR dx [("rules",.ref a'),("gone_rows",.ref lg)])):IsRules t (hid (λc=>c=x) H) a ms:=by
 obtain⟨d1,lm,as,ls,h1,h2,h3⟩:=h
 refine⟨d1,lm,as,ls,K82.apart hx h1 (λ_ _ _ z=>by cases z;simp),K82.apart hx h2 (λ_ _ _ z=>by cases z),h3.la,h3.ll,h3.nd,λi a l m e1 e2 e3=>?_⟩
 obtain⟨d2,rs,k1,k2,k3⟩:=h3.ob i a l m e1 e2 e3
 refine⟨d2,rs,K82.apart hx k1 (λ_ _ _ z=>by cases z;simp[mf]),K82.apart hx k2 (λ_ _ _ z=>by cases z),k3.mono λr R hr=>?_⟩
 obtain⟨d3,p,r1,d4,r2⟩:=hr
 refine⟨d3,p,K82.apart hx r1 (λ_ _ _ z=>by cases z;simp[rf]),d4,K82.apart hx r2 (λ_ _ _ z=>?_)⟩
 injection z with _ _ z
 rw[← z]
 have:=FY R.sort R.signs
 intro z
 have z:(jK R.sort R.signs).length=2:=z
 lia
theorem ez.apart {H:Hp} {x g dx a' lg:Addr} {G:bX} (h:ez t H g G) (hx:H x=some (.ins t.aR dx [("rules",.ref a'),("gone_rows",.ref lg)])):ez t (hid (λc=>c=x) H) g G:=by
 obtain⟨dg,lb,lt,lo,lk,e⟩:=h
 obtain⟨ps,k1,k2⟩:=e.lk
 exact⟨dg,lb,lt,lo,lk,K82.apart hx e.ob (λ_ _ _ z=>by cases z;simp[gf]),K82.apart hx e.lb (λ_ _ _ z=>by cases z),K82.apart hx e.lt (λ_ _ _ z=>by cases z),K82.apart hx e.lo (λ_ _ _ z=>by cases z),ps,K82.apart hx k1 (λ_ _ _ z=>by cases z),k2.mono λp m h=>K82.apart hx h (λ_ _ _ z=>by cases z)⟩
structure jo(ms:List aD)(Gs:List bX)(i k:Nat)(fs:List Str)(ah bk:Nat)(Gm:List bX)(c:Nat)(Gs':List bX):Prop where
 le:i+k<=Gs.length
 eah:ah=fZ (((Gs.map (·.row)).drop i).take k) fs
 ebk:bk=fZ ((((Gs.map (·.row)).drop i).take k).drop ah).reverse (fs.drop ah).reverse
 mid:Chain ms (kc [0] (Gs.take (i+ah))) ((fs.drop ah).take (fs.length-bk-ah)) Gm
 on:nF ms (Gs.take (i+ah)++Gm++Gs.drop (i+k-bk)) (i+ah+Gm.length) c Gs'
theorem jo.small{ms:List aD}{Gs:List bX}{i k:Nat}{fs:List Str}{ah bk:Nat}{Gm:List bX}{c:Nat}{Gs':List bX}(h:jo ms Gs i k fs ah bk Gm c Gs'):ah<=k/\ah<=fs.length/\ah+bk<=k/\ah+bk<=fs.length/\Gm.length=fs.length-bk-ah:=by
 have h1:=qO (((Gs.map (·.row)).drop i).take k) fs
 have h2:=qO ((((Gs.map (·.row)).drop i).take k).drop ah).reverse (fs.drop ah).reverse
 have h3:=h.mid.len
 have h4:=h.le
 rw[← h.eah,List.length_take,List.length_drop,List.length_map] at h1
 rw[← h.ebk,List.length_reverse,List.length_reverse,List.length_drop,List.length_drop,List.length_take,List.length_drop,List.length_map] at h2
 rw[List.length_take,List.length_drop] at h3
 lia
theorem bO.take{α β:Type}{R:α->β->Prop}{xs:List α}{ys:List β}(h:bO R xs ys)(n:Nat):bO R (xs.take n) (ys.take n):=by
 refine⟨by rw[List.length_take,List.length_take,h.1],λi a b ha hb=>?_⟩
 rw[List.getElem?_take] at ha hb
 by_cases e:i<n
 ·rw[if_pos e] at ha hb;exact h.2 i a b ha hb
 ·rw[if_neg e] at ha;cases ha
theorem bO.drop{α β:Type}{R:α->β->Prop}{xs:List α}{ys:List β}(h:bO R xs ys)(n:Nat):bO R (xs.drop n) (ys.drop n):=by
 refine⟨by rw[List.length_drop,List.length_drop,h.1],λi a b ha hb=>?_⟩
 rw[List.getElem?_drop] at ha hb
 exact h.2 _ a b ha hb
theorem bO.append{α β:Type}{R:α->β->Prop}{xs xs':List α}{ys ys':List β}(h:bO R xs ys)(h':bO R xs' ys'):bO R (xs++xs') (ys++ys'):=by
 refine⟨by rw[List.length_append,List.length_append,h.1,h'.1],λi a b ha hb=>?_⟩
 have e:=h.1
 by_cases hi:i<xs.length
 ·rw[List.getElem?_append_left hi] at ha
  rw[List.getElem?_append_left (by lia)] at hb
  exact h.2 i a b ha hb
 ·rw[List.getElem?_append_right (by lia)] at ha
  rw[List.getElem?_append_right (by lia),← e] at hb
  exact h'.2 _ a b ha hb
theorem zw{S S':Addr->Prop}{H:Hp}:ao (hid S' (hid S H)) (hid (λc=>S c∨S' c) H):=λb o h=>by
 have h1:=cO h
 have h2:=aH _ _ h
 exact br (aH _ _ h2) (λz=>z.elim (cO h2) h1)
noncomputable def EN(t:eS):Sp:=λvs H Q _=>∃(S:Addr->Prop) (x dx a lg lr:Addr) (gs:List Addr) (ms:List aD) (Gs:List bX) (i k:Nat) (fs:List Str) (ah bk:Nat) (Gm:List bX) (c:Nat) (Gs':List bX),vs=[.ref x,.int i,.int k,.ref lr]/\Ex S H/\cU t (hid S H) x dx a lg gs ms Gs/\dB ms/\H lr=some (.lst (fs.map V.str))/\Gs.length<=50000/\fs.length<=50000/\(k=Gs.length->fs≠[])/\jo ms Gs i k fs ah bk Gm c Gs' /\
 ∀lg' gs' H',cU t (hid S H') x dx a lg' gs' ms Gs'->H lg'=none->fV H H' x->Q (.int ((Gm.length+c:Nat):Int)) H'
theorem Q6 (T:Txt K mg t):aZ P w K mg base c7 8 t.B5 t.MR ["self","row","many","rows"] (EN t):=by
 refine T.L0.ok nN ?_ ?_
 walk_at "i"
 ·obtain⟨S,x,dx,a,lg,lr,gs,ms,Gs,i,k,fs,ah,bk,Gm,c,Gs',rfl,hES,IS,GM_,hlr,hl1,hl2,hne,C,q⟩:=h
  have I:=IS.same aH
  have hxS:¬ S x:=cO IS.ob
  obtain⟨b1,b2,b3,b4,b5⟩:=C.small
  have hle:=C.le
  have hgl:=I.go.1
  refine au (bG (bz (pv 0) T.aT T.Ti (Ob T) hr.m (T.Mm.binds (by walk_at "3")) .nil aE (aa (pv 1) (aa (pv 2) ai)))) ⟨_,rfl,x,dx,_,rfl,I.ob,rfl,_,rfl,_,rfl,x,dx,a,lg,gs,i,k,rfl,I.ob,I.lg,(by lia),?_⟩
  refine aI (λZ' H'=>H'=H/\Z'=[some (.ref x),some (.int i),some (.int k),some (.ref lr),none,none,none,none,none]) (aX (PW.pt (ic (az bS (pv 2) (aK aP (by rfl) T.bU (by decide +kernel) (aa (aF (pv 0) rfl) ai)) (aC _)) (gF (l0 (jj (pv 3) (λ_=>rfl)))))) av av) ?_ ?_
  ·refine⟨_,rfl,⟨_,rfl,_,_,_,_,_,rfl,I.ob,T.aT,T.aS,rfl,⟨_,_,rfl,.inl (aY.of I.lg),rfl,_,rfl,dR (λh=>?_) (λh=>aU ⟨rfl,rfl⟩)⟩⟩⟩
   have hk:k=Gs.length:=by
    injection h with h
    rw[List.length_map] at h
    lia
   have hf:=hne hk
   refine⟨_,rfl,true,.inl ⟨_,aY.of hlr,?_⟩,uf (c:=false) rfl (aU ⟨rfl,rfl⟩)⟩
   cases fs with
   |nil=>exact absurd rfl hf
   |cons _ _=>rfl
  rintro Z' H' ⟨eH,eZ⟩
  rw[eH,eZ]
  clear eH eZ Z' H'
  refine au (dW 4 nN (cW fJ (bA (pv 0) T.aT T.vW (qV T) hr.m (T.r9.binds (by walk_at "1")) .nil aE) (cE (pv 1)) (cE (aW bZ (pv 1) (pv 2))))) ⟨_,rfl,x,dx,_,rfl,I.ob,rfl,x,dx,a,lg,gs,ms,Gs,rfl,I,(by lia),λl1 H1 h1 f1 s1=>?_⟩
  obtain⟨tk,htk⟩:∃tk,tk=((Gs.map (·.row)).drop i).take k:=⟨_,rfl⟩
  have ea:ah=fZ tk fs:=by rw[htk];exact C.eah
  have eb:bk=fZ (tk.drop ah).reverse (fs.drop ah).reverse:=by rw[htk];exact C.ebk
  have htl:tk.length=k:=by rw[htk,List.length_take,List.length_drop,List.length_map];lia
  refine⟨_,rfl,_,rfl,_,rfl,_,rfl,_,_,rfl,rfl,_,rfl,l1,_,rfl,aY.of h1,λl2 f2=>?_⟩
  have e2:cF ((Gs.map (·.row)).map V.str) (some (i:Int)) (some ((i:Int)+(k:Int)))=tk.map V.str:=by
   rw[← Int.natCast_add,zL (by rw[List.length_map,List.length_map];lia) (by lia),htk,List.map_take,List.map_drop]
   congr 1
   lia
  have h2:upd H1 l2 (.lst (cF ((Gs.map (·.row)).map V.str) (some (i:Int)) (some ((i:Int)+(k:Int))))) l2=some (.lst (tk.map V.str)):=by rw[af,e2]
  have s2:ao H (upd H1 l2 (.lst (cF ((Gs.map (·.row)).map V.str) (some (i:Int)) (some ((i:Int)+(k:Int)))))):=s1.trans (ao.upd f2)
  generalize upd H1 l2 (.lst (cF ((Gs.map (·.row)).map V.str) (some (i:Int)) (some ((i:Int)+(k:Int)))))=H2 at h2 s2
  refine au (dW 5 nN (aQ (Ai T) hr.m rfl T.Av T.qK.kp (T.qK.binds (by walk_at "2")) .nil aE (aa (pv 4) (aa (pv 3) ai)))) ⟨_,rfl,_,rfl,l2,lr,tk,fs,rfl,h2,s2 _ _ hlr,λH3 s3'=>?_⟩
  rw[← ea]
  have s3:=s2.trans s3'
  refine au (dW 6 nN (aQ (Jw T) hr.m rfl T.Hy T.yu.kp (T.yu.binds (by walk_at "2")) .nil aE (aa (cW fJ (pv 4) (cE (pv 5)) gh) (aa (cW fJ (pv 3) (cE (pv 5)) gh) ai)))) ⟨_,rfl,_,rfl,_,rfl,l2,_,rfl,aY.of (s3' _ _ h2),λl4 f4=>⟨_,rfl,_,rfl,_,rfl,lr,_,rfl,aY.of (ao.upd f4 _ _ (s3 _ _ hlr)),λl5 f5=>⟨l4,l5,tk.drop ah,fs.drop ah,rfl,?_,?_,λH6 s6=>?_⟩⟩⟩
  ·rw[ao.upd f5 _ _ af,mQ (by rw[List.length_map];lia),List.map_drop]
  ·rw[af,mQ (by rw[List.length_map];lia),List.map_drop]
  rw[← eb]
  have s6:ao H H6:=((s3.trans (ao.upd f4)).trans (ao.upd f5)).trans s6
  refine aI (λZ' H'=>H'=H6/\Z'=[some (.ref x),some (.int i),some (.int k),some (.ref lr),some (.ref l2),some (.int ah),some (.int bk),some (.int ((i+ah:Nat):Int)),none]) (dW 7 nN (aW bZ (pv 1) (pv 5))) ⟨_,rfl,_,rfl,_,_,rfl,rfl,rfl,rfl⟩ ?_
  rintro Z' H' ⟨eH,eZ⟩
  rw[eH,eZ]
  clear eH eZ Z' H'
  have hx6:=s6 _ _ I.ob
  have hlg6:=s6 _ _ I.lg
  have hlr6:=s6 _ _ hlr
  have hx6S:=(aV (S:=S) s6) _ _ IS.ob
  have hR6:IsRules t (hid (λc=>S c∨c=x) H6) a ms:=((IS.ru.same (aV s6)).apart hx6S).same zw
  have hA6:bO (ez t (hid (λc=>S c∨c=x) H6)) gs Gs:=IS.go.mono λ_ _ z=>((z.same (aV s6)).apart hx6S).same zw
  have hE6:Ex (λc=>S c∨c=x) H6:=λb hb=>by
   rcases hb with hb|hb
   ·exact(hES.same s6) b hb
   ·rw[hb];exact⟨_,hx6⟩
  refine au (dW 8 nN (bz (pv 0) T.aT T.LB (Dr T) hr.m (T.G7.binds (by walk_at "3")) .nil aE (aa (bz (pv 0) T.aT T.DT (zd T) hr.m (T.As.binds (by walk_at "2")) .nil aE (aa (pv 7) ai)) (aa (cW fJ (pv 3) (cE (pv 5)) (cE (aW jN (aK aP (by rfl) T.bU (by decide +kernel) (aa (pv 3) ai)) (pv 6)))) ai)))) ⟨_,rfl,x,dx,_,rfl,hx6,rfl,_,rfl,x,dx,_,rfl,hx6,rfl,_,rfl,x,dx,a,lg,gs,λc=>S c∨c=x,Gs,i+ah,rfl,hx6,hlg6,hA6,hE6,(by lia),λlb H7 hb7 s7=>?_⟩
  refine⟨_,rfl,_,rfl,_,rfl,_,rfl,_,_,rfl,.inl (aY.of (s7 _ _ hlr6)),_,rfl,_,_,rfl,rfl,_,rfl,lr,_,rfl,aY.of (s7 _ _ hlr6),λl8 f8=>?_⟩
  have e8:cF (fs.map V.str) (some (ah:Int)) (some (((fs.map V.str).length:Int)-(bk:Int)))=((fs.drop ah).take (fs.length-bk-ah)).map V.str:=by
   rw[List.length_map,show ((fs.length:Int)-(bk:Int))=((fs.length-bk:Nat):Int) by lia,zL (by rw[List.length_map];lia) (by lia),List.map_take,List.map_drop]
  have h8:upd H7 l8 (.lst (cF (fs.map V.str) (some (ah:Int)) (some (((fs.map V.str).length:Int)-(bk:Int))))) l8=some (.lst (((fs.drop ah).take (fs.length-bk-ah)).map V.str)):=by rw[af,e8]
  have s8:ao H6 (upd H7 l8 (.lst (cF (fs.map V.str) (some (ah:Int)) (some (((fs.map V.str).length:Int)-(bk:Int)))))):=s7.trans (ao.upd f8)
  have hb8:=(aV (S:=λc=>S c∨c=x) (ao.upd (o:=.lst (cF (fs.map V.str) (some (ah:Int)) (some (((fs.map V.str).length:Int)-(bk:Int))))) f8)) _ _ hb7
  generalize upd H7 l8 (.lst (cF (fs.map V.str) (some (ah:Int)) (some (((fs.map V.str).length:Int)-(bk:Int)))))=H8 at h8 s8 hb8
  refine⟨x,dx,a,lb,l8,λc=>S c∨c=x,_,ms,_,_,Gm,rfl,s8 _ _ hx6,rfl,(hR6.same aH).same s8,GM_,hb8,hE6.same s8,h8,(by rw[List.length_take,List.length_drop];lia),C.mid,λlm gm H9 hm9 hA9 f9 s9=>?_⟩
  have s9:ao H6 H9:=s8.trans s9
  have hx9:=s9 _ _ hx6
  have hlg9:=s9 _ _ hlg6
  have hgm:gm.length=Gm.length:=hA9.1
  refine au (bF (pv 0) (aW nJ (aW nJ (cW fJ (aF (pv 0) rfl) gh (cE (pv 7))) (pv 8)) (cW fJ (aF (pv 0) rfl) (cE (aW jN (aW bZ (pv 1) (pv 2)) (pv 6))) gh)) rfl) (⟨_,rfl,_,_,_,_,_,rfl,hx9,T.aT,T.aS,rfl,⟨_,rfl,_,rfl,lg,_,rfl,aY.of hlg9,λp1 g1=>?_⟩⟩)
  have z1:(gs.map V.ref).length=Gs.length:=by rw[List.length_map];exact hgl
  have z2:(gm.map V.ref).length=Gm.length:=by rw[List.length_map];exact hgm
  have c1:cF (gs.map V.ref) none (some ((i+ah:Nat):Int))=(gs.take (i+ah)).map V.ref:=by
   rw[DL (by rw[z1];lia),List.map_take]
  have c2:cF (gs.map V.ref) (some ((i:Int)+(k:Int)-(bk:Int))) none=(gs.drop (i+k-bk)).map V.ref:=by
   rw[show ((i:Int)+(k:Int)-(bk:Int))=((i+k-bk:Nat):Int) by lia,mQ (by rw[z1];lia),List.map_drop]
  have sz:=sizeLine_eq
  refine⟨_,rfl,p1,lm,_,_,rfl,rfl,af,ao.upd g1 _ _ hm9,(by rw[c1,z2,List.length_map,List.length_take];lia),λp2 g2=>?_⟩
  refine⟨_,rfl,_,_,_,_,_,rfl,(ao.upd g2 _ _ (ao.upd g1 _ _ hx9)),T.aT,T.aS,rfl,?_⟩
  refine⟨_,rfl,_,rfl,_,_,rfl,rfl,_,rfl,_,_,rfl,rfl,_,rfl,lg,_,rfl,aY.of (ao.upd g2 _ _ (ao.upd g1 _ _ hlg9)),λp3 g3=>?_⟩
  refine⟨p2,p3,_,_,rfl,rfl,ao.upd g3 _ _ af,af,?_,λlg' g4=>?_⟩
  ·rw[List.length_append,c1,c2,z2,List.length_map,List.length_map,List.length_take,List.length_drop];exact UP (by lia)
  have e10:cF (gs.map V.ref) none (some ((i+ah:Nat):Int))++gm.map V.ref++cF (gs.map V.ref) (some ((i:Int)+(k:Int)-(bk:Int))) none=(gs.take (i+ah)++gm++gs.drop (i+k-bk)).map V.ref:=by
   rw[c1,c2,List.map_append,List.map_append]
  have s10:ao H9 (upd (upd (upd H9 p1 (.lst (cF (gs.map V.ref) none (some ((i+ah:Nat):Int))))) p2 (.lst (cF (gs.map V.ref) none (some ((i+ah:Nat):Int))++gm.map V.ref))) p3 (.lst (cF (gs.map V.ref) (some ((i:Int)+(k:Int)-(bk:Int))) none))):=((ao.upd g1).trans (ao.upd g2)).trans (ao.upd g3)
  revert g4
  show upd (upd (upd H9 p1 (.lst (cF (gs.map V.ref) none (some ((i+ah:Nat):Int))))) p2 (.lst (cF (gs.map V.ref) none (some ((i+ah:Nat):Int))++gm.map V.ref))) p3 (.lst (cF (gs.map V.ref) (some ((i:Int)+(k:Int)-(bk:Int))) none)) lg'=none->_
  generalize upd (upd (upd H9 p1 (.lst (cF (gs.map V.ref) none (some ((i+ah:Nat):Int))))) p2 (.lst (cF (gs.map V.ref) none (some ((i+ah:Nat):Int))++gm.map V.ref))) p3 (.lst (cF (gs.map V.ref) (some ((i:Int)+(k:Int)-(bk:Int))) none))=HA at s10
  intro g4
  have hx10:=s10 _ _ hx9
  refine⟨_,rfl,x,_,dx,_,rfl,ao.upd g4 _ _ hx10,T.aT,T.aS,(by show 2<1000;decide),?_⟩
  have hxl:x≠lg':=ak hx10 g4
  have hxB:upd (upd HA lg' (.lst (cF (gs.map V.ref) none (some ((i+ah:Nat):Int))++gm.map V.ref++cF (gs.map V.ref) (some ((i:Int)+(k:Int)-(bk:Int))) none))) x (.ins t.aR dx (cB "gone_rows" (.ref lg') [("rules",.ref a),("gone_rows",.ref lg)])) x=some (.ins t.aR dx [("rules",.ref a),("gone_rows",.ref lg')]):=af
  have hlB:upd (upd HA lg' (.lst (cF (gs.map V.ref) none (some ((i+ah:Nat):Int))++gm.map V.ref++cF (gs.map V.ref) (some ((i:Int)+(k:Int)-(bk:Int))) none))) x (.ins t.aR dx (cB "gone_rows" (.ref lg') [("rules",.ref a),("gone_rows",.ref lg)])) lg'=some (.lst ((gs.take (i+ah)++gm++gs.drop (i+k-bk)).map V.ref)):=by
   rw[aj (Ne.symm hxl),af,e10]
  have kB:∀b o,HA b=some o->b≠x->upd (upd HA lg' (.lst (cF (gs.map V.ref) none (some ((i+ah:Nat):Int))++gm.map V.ref++cF (gs.map V.ref) (some ((i:Int)+(k:Int)-(bk:Int))) none))) x (.ins t.aR dx (cB "gone_rows" (.ref lg') [("rules",.ref a),("gone_rows",.ref lg)])) b=some o:=λb o hb nb=>by
   rw[aj nb,aj (ak hb g4)];exact hb
  show At _ _ _ _ (upd (upd HA lg' (.lst (cF (gs.map V.ref) none (some ((i+ah:Nat):Int))++gm.map V.ref++cF (gs.map V.ref) (some ((i:Int)+(k:Int)-(bk:Int))) none))) x (.ins t.aR dx (cB "gone_rows" (.ref lg') [("rules",.ref a),("gone_rows",.ref lg)])))
  generalize upd (upd HA lg' (.lst (cF (gs.map V.ref) none (some ((i+ah:Nat):Int))++gm.map V.ref++cF (gs.map V.ref) (some ((i:Int)+(k:Int)-(bk:Int))) none))) x (.ins t.aR dx (cB "gone_rows" (.ref lg') [("rules",.ref a),("gone_rows",.ref lg)]))=HB at hxB hlB kB
  have s9A:ao H9 HA:=s10
  have hmA:=s9A _ _ hm9
  have nmx:lm≠x:=cA hm9 hx9 (by intro z;cases z)
  have hmB:=kB _ _ hmA nmx
  have sB:ao (hid (λc=>S c∨c=x) H9) (hid (λc=>(S c∨c=x)∨c=lg') HB):=λb o hb=>by
   have nb:=cO (S:=λc=>S c∨c=x) hb
   have hbA:=s9A _ _ (aH _ _ hb)
   refine br (kB b o hbA (λz=>nb (.inr z))) λz=>?_
   rcases z with z|z
   ·exact nb z
   ·exact ak hbA g4 z
  have hE:Ex (λc=>(S c∨c=x)∨c=lg') HB:=λb hb=>by
   rcases hb with (z|z)|z
   ·obtain⟨o,ho⟩:=(((hES.same s6).same s9).same s9A) b z
    exact⟨o,kB b o ho (λy=>hxS (by rw[← y];exact z))⟩
   ·rw[z];exact⟨_,hxB⟩
   ·rw[z];exact⟨_,hlB⟩
  have hR9:IsRules t (hid (λc=>S c∨c=x) H9) a ms:=hR6.same (aV s9)
  have hG9:bO (ez t (hid (λc=>S c∨c=x) H9)) gs Gs:=hA6.mono λ_ _ z=>z.same (aV s9)
  have hGG:bO (ez t (hid (λc=>(S c∨c=x)∨c=lg') HB)) (gs.take (i+ah)++gm++gs.drop (i+k-bk)) (Gs.take (i+ah)++Gm++Gs.drop (i+k-bk)) :=
   (((hG9.take (i+ah)).append hA9).append (hG9.drop (i+k-bk))).mono λ_ _ z=>z.same sB
  refine ay (aG (aW bZ (aK aP (by rfl) T.bU (by decide +kernel) (aa (pv 8) ai)) (bz (pv 0) T.aT T.Ry (QZ T) hr.m (T.Kl.binds (by walk_at "2")) .nil aE (aa (aW bZ (pv 7) (aK aP (by rfl) T.bU (by decide +kernel) (aa (pv 8) ai))) ai)))) ⟨_,rfl,_,_,rfl,.inl (aY.of hmB),?_⟩
  refine⟨_,rfl,x,dx,_,rfl,hxB,rfl,_,rfl,_,rfl,_,_,rfl,.inl (aY.of hmB),_,_,rfl,rfl,x,dx,a,lg',_,λc=>(S c∨c=x)∨c=lg',ms,_,Gs',i+ah+Gm.length,c,?_,hxB,hR9.same sB,GM_,hlB,.inr rfl,hGG,hE,?_,C.on,λgs2 HC h1 h2 a2=>?_⟩
  ·rw[z2];rfl
  ·rw[List.length_append,List.length_append,List.length_take,List.length_drop];lia
  refine⟨_,_,rfl,rfl,?_⟩
  have hxC:=a2 _ _ hxB hxl
  have hlS:¬ S lg':=(((hES.same s6).same s9).same s9A).new g4
  have:=q lg' gs2 HC ⟨br hxC hxS,(hR9.same sB).same (λb o hb=>br (a2 _ _ (aH _ _ hb) (λz=>cO hb (.inr z))) (λz=>cO hb (.inl (.inl z)))),br h1 hlS,h2.mono λ_ _ z=>z.same (uW λc hc=>.inl (.inl hc))⟩ ?_ ?_
  ·rw[Int.natCast_add,← z2] at this
   exact this
  ·exact((s6.trans s9).trans s9A).free g4
  ·intro b o hb nb
   have hbA:=((s6.trans s9).trans s9A) _ _ hb
   exact a2 _ _ (kB _ _ hbA nb) (ak hbA g4)
end
section
variable {P:Program}{w:World}{K:PySem.W.Frag}{mg:Str->Option Value}{base:Heap}{t:eS}
def xT(x:Str)(j:Nat)(z:Str):Str:=PySem.Txt.slice x none (some (j:Int))++z++PySem.Txt.slice x (some (j:Int)) none
noncomputable def yT(t:eS):Sp:=λvs H Q _=>∃(x dx a lg:Addr) (gs:List Addr) (ms:List aD) (Gs:List bX) (G:bX) (i j:Nat),vs=[.ref x,.int i,.int j]/\cU t H x dx a lg gs ms Gs/\Gs[i]?=some G/\j<=G.row.length/\G.row.length<=1000/\Q .cu H
theorem QT (T:Txt K mg t):aZ P w K mg base c7 2 t.EG t.KI ["self","row","at"] (yT t):=by
 refine T.MP.ok Nc ?_ ?_
 walk_at "i"
 ·obtain⟨x,dx,a,lg,gs,ms,Gs,G,i,j,rfl,I,hG,hj,hl,q⟩:=h
  have hi:=(List.getElem?_eq_some_iff.mp hG).1
  have sz:=sizeLine_eq
  obtain⟨g,hg,dg,lb,lt,lo,lk,e⟩:=I.go.at hG
  refine au (bG (bz (pv 0) T.aT T.Tf (ND T) hr.m (T.JV.binds (by walk_at "2")) .nil aE (aa (pv 1) ai))) ⟨_,rfl,x,dx,_,rfl,I.ob,rfl,_,rfl,x,dx,a,lg,gs,ms,Gs,i,rfl,I,hi,?_⟩
  refine ay (aX (PW.pt (ie (az gx (pv 2) aB (aC _)) (gj (az jG (pv 2) (aK bf (by rfl) T.bU (by decide +kernel) (aa (aF (bw bq (aF (pv 0) rfl) (pv 1) (λ_ _=>rfl)) rfl) ai)) (aC _))))) av av) ⟨_,rfl,_,_,rfl,rfl,_,rfl,dR (λh=>absurd h (by lia)) (λ_=>?_)⟩
  exact⟨_,rfl,⟨_,rfl,_,_,_,_,_,rfl,I.ob,T.aT,T.aS,rfl,⟨_,rfl,_,_,_,_,rfl,rfl,aY.of I.lg,gi hg,g,t.cy,dg,_,_,rfl,e.ob,T.cP,T.eO,rfl,_,rfl,bI (by lia),_,_,rfl,rfl,_,rfl,dR (λh=>absurd h (by lia)) (λ_=>aU q)⟩⟩⟩
noncomputable def Si (t:eS):Sp:=λvs H Q _=>∃(S:Addr->Prop) (x dx a lg:Addr) (gs:List Addr) (ms:List aD) (Gs:List bX) (G:bX) (i j:Nat) (z:Str) (fs:List Str) (ah bk:Nat) (Gm:List bX) (c:Nat) (Gs':List bX),vs=[.ref x,.int i,.int j,.str z]/\Ex S H/\cU t (hid S H) x dx a lg gs ms Gs/\dB ms/\Gs[i]?=some G/\j<=G.row.length/\G.row.length<=1000/\z.length<=1000/\PySem.Txt.split (xT G.row j z) (Str.ofString "\n")=fs/\Gs.length<=50000/\fs.length<=50000/\fs≠[]/\jo ms Gs i 1 fs ah bk Gm c Gs' /\
 ∀lg' gs' H',cU t (hid S H') x dx a lg' gs' ms Gs'->H lg'=none->fV H H' x->Q (.int ((Gm.length+c:Nat):Int)) H'
theorem O7 (T:Txt K mg t):aZ P w K mg base c7 9 t.Ho t.Lh ["self","row","at","text"] (Si t):=by
 refine T.K4.ok CS ?_ ?_
 walk_at "i"
 ·obtain⟨S,x,dx,a,lg,gs,ms,Gs,G,i,j,z,fs,ah,bk,Gm,c,Gs',rfl,hES,IS,GM_,hG,hj,hl,hz,hfs,hl1,hl2,hne,C,q⟩:=h
  have I:=IS.same aH
  have sz:=sizeLine_eq
  obtain⟨g,hg,dg,lb,lt,lo,lk,e⟩:=I.go.at hG
  have b1:=PySem.Txt.slice_le G.row none (some (j:Int))
  have b2:=PySem.Txt.slice_le G.row (some (j:Int)) none
  refine au (bG (bz (pv 0) T.aT T.Ui (QT T) hr.m (T.MP.binds (by walk_at "3")) .nil aE (aa (pv 1) (aa (pv 2) ai)))) ⟨_,rfl,x,dx,_,rfl,I.ob,rfl,_,rfl,_,rfl,x,dx,a,lg,gs,ms,Gs,G,i,j,rfl,I,hG,hj,hl,?_⟩
  refine au (dW 4 CS (aF (bw bq (aF (pv 0) rfl) (pv 1) (λ_ _=>rfl)) rfl)) (⟨_,rfl,_,_,_,_,_,rfl,I.ob,T.aT,T.aS,rfl,⟨_,rfl,_,_,_,_,rfl,rfl,aY.of I.lg,gi hg,g,t.cy,dg,_,_,rfl,e.ob,T.cP,T.eO,rfl,?_⟩⟩)
  have l1:(PySem.Txt.slice G.row none (some (j:Int))++z).length<=2000:=by rw[PySem.strLen_append];lia
  have l2:(xT G.row j z).length<=3000:=by unfold xT;rw[PySem.strLen_append];lia
  refine ay (aG (bz (pv 0) T.aT T.Uc (Q6 T) hr.m (T.L0.binds (by walk_at "4")) .nil aE (aa (pv 1) (aa aB (aa (c5 F.plainAttrs_str F.slot_str_split F.type_str_split jh (aW cQ (aW cQ (cW nq (pv 4) gh (cE (pv 2))) (pv 3)) (cW nq (pv 4) (cE (pv 2)) gh)) (aa aJ ai)) ai))))) ⟨_,rfl,x,dx,_,rfl,I.ob,rfl,_,rfl,_,rfl,_,rfl,_,rfl,_,rfl,(by lia),_,rfl,_,_,rfl,rfl,(by lia),_,rfl,_,rfl,_,rfl,_,rfl,(by lia),_,_,rfl,rfl,(by lia),rfl,xT G.row j z,Str.ofString "\n",rfl,rfl,rfl,(by lia),λp fp=>?_⟩
  rw[hfs]
  have s1:ao H (upd H p (.lst (fs.map V.str))):=ao.upd fp
  exact⟨S,x,dx,a,lg,p,gs,ms,Gs,i,1,fs,ah,bk,Gm,c,Gs',rfl,hES.same s1,IS.same (aV s1),GM_,af,hl1,hl2,(λ_=>hne),C,λlg' gs' H' I' f' a'=>q lg' gs' H' I' (s1.free f') (λb o hb nb=>a' b o (s1 _ _ hb) nb)⟩
theorem zg(x:Str)(i:Nat)(hi:i<=x.length):(PySem.Txt.slice x (some (i:Int)) none).cps.toList=x.cps.toList.drop i:=by
 have:=eq_of_beq (PyProof.Rows.slice_closes_fromL (x:=x) (i:=(i:Int)) (b:=(x.length:Int)) (by lia) (by lia) rfl)
 rw[this]
 show (x.cps.toList.drop (i:Int).toNat).take ((x.length:Int)-(i:Int)).toNat=_
 rw[Int.toNat_natCast,List.take_of_length_le (by rw[List.length_drop,bT];lia)]
def JD(B:List (List Nat)):List Nat:=B.flatMap λr=>10::r
theorem qG{x:List Nat}{F:List (List Nat)}(h:F≠[]):cI 10 (x::F)=x++10::cI 10 F:=by
 cases F with
 |nil=>exact absurd rfl h
 |cons y r=>rfl
theorem sE:∀(x:List Nat) (B:List (List Nat)),cI 10 (x::B)=x++JD B
 |x,[]=>by simp[cI,JD]
 |x,b::B=>by
  have e:JD (b::B)=10::b++JD B:=rfl
  rw[qG (by simp),sE b B,e]
  rfl
def dw:List Nat->List (List Nat)
 | []=>[[]]
 |c::r=>if c=10 then []::dw r else match dw r with
  | []=>[[c]]
  |x::xs=>(c::x)::xs
theorem jg:∀l:List Nat,dw l≠[]
 | []=>by simp[dw]
 |c::r=>by
  rw[dw]
  by_cases h:c=10
  ·rw[if_pos h];simp
  ·rw[if_neg h]
   cases dw r with
   |nil=>simp
   |cons x xs=>simp
theorem oh:∀l:List Nat,cI 10 (dw l)=l
 | []=>rfl
 |c::r=>by
  have ih:=oh r
  rw[dw]
  by_cases h:c=10
  ·rw[if_pos h,qG (jg r),ih,h];rfl
  ·rw[if_neg h]
   cases e:dw r with
   |nil=>exact absurd e (jg r)
   |cons x xs =>
    rw[e] at ih
    show cI 10 ((c::x)::xs)=_
    rw[sE] at ih ⊢
    rw[← ih];rfl
theorem qe:∀(l:List Nat),∀x∈dw l,∀c∈x,c∈l/\c≠10
 | [],x,hx,c,hc=>by
  rw[dw,List.mem_singleton] at hx
  rw[hx] at hc;cases hc
 |d::r,x,hx,c,hc=>by
  have ih:=qe r
  rw[dw] at hx
  by_cases h:d=10
  ·rw[if_pos h] at hx
   rcases List.mem_cons.mp hx with z|z
   ·rw[z] at hc;cases hc
   ·have:=ih x z c hc
    exact⟨List.mem_cons_of_mem _ this.1,this.2⟩
  ·rw[if_neg h] at hx
   cases e:dw r with
   |nil=>exact absurd e (jg r)
   |cons y ys =>
    rw[e] at hx ih
    have hx:x∈(d::y)::ys:=hx
    rcases List.mem_cons.mp hx with z|z
    ·rw[z] at hc
     rcases List.mem_cons.mp hc with w|w
     ·rw[w];exact⟨by simp,h⟩
     ·have:=ih y (by simp) c w
      exact⟨List.mem_cons_of_mem _ this.1,this.2⟩
    ·have:=ih x (List.mem_cons_of_mem _ z) c hc
     exact⟨List.mem_cons_of_mem _ this.1,this.2⟩
theorem qI:∀l:List Nat,(dw l).length=l.count 10+1/\((dw l).map List.length).sum+l.count 10=l.length
 | []=>⟨rfl,rfl⟩
 |c::r=>by
  obtain⟨i1,i2⟩:=qI r
  rw[dw]
  by_cases h:c=10
  ·subst h
   rw[if_pos rfl,List.count_cons_self,List.length_cons,List.map_cons,List.sum_cons,List.length_cons,List.length_nil]
   lia
  ·rw[if_neg h,List.count_cons_of_ne h]
   cases e:dw r with
   |nil=>exact absurd e (jg r)
   |cons x xs =>
    rw[e] at i1 i2
    show ((c::x)::xs).length=_/\(((c::x)::xs).map List.length).sum+_=_
    rw[List.length_cons] at i1 ⊢
    rw[List.map_cons,List.sum_cons] at i2 ⊢
    rw[List.length_cons,List.length_cons]
    lia
def oj(s:Str):List Str:=(dw s.cps.toList).map λl=>⟨l.toArray⟩
theorem kJ(s:Str):(oj s).map (λp=>p.cps.toList)=dw s.cps.toList:=by
 unfold oj
 rw[List.map_map]
 exact List.map_id'' (λ_=>rfl) _
theorem yG(s:Str):oj s≠[]:=by unfold oj;intro z;exact jg _ (List.map_eq_nil_iff.mp z)
theorem Jk{s x:Str}(h:x∈oj s):∀c∈x.cps.toList,c∈s.cps.toList/\c≠10:=λc hc=>by
 have:x.cps.toList∈(oj s).map (λp=>p.cps.toList):=List.mem_map_of_mem h
 rw[kJ] at this
 exact qe _ _ this c hc
theorem S4:Str.ofString "\n" = ⟨#[10]⟩:=by decide +kernel
theorem Dt {s:Str} {ps:List Str} (hn:ps≠[]) (hf:∀p∈ps,10∉p.cps.toList) (e:s.cps.toList=cI 10 (ps.map λp=>p.cps.toList)):PySem.Txt.split s (Str.ofString "\n")=ps:=by
 have:s=Str.join ⟨#[10]⟩ ps:=jB (by rw[eK];exact e)
 rw[this,S4]
 exact lY hn hf
theorem AG (s:Str):PySem.Txt.split s (Str.ofString "\n")=oj s:=Dt (yG s) (λp hp z=>(Jk hp 10 z).2 rfl) (by rw[kJ,oh])
abbrev Vc(rs:List Str):List (List Nat):=rs.map λp=>p.cps.toList
def tot(rs:List Str):Nat:=(rs.map λr=>r.length).sum
theorem qQ(a:Str)(b:List Str):tot (a::b)=a.length+tot b:=by unfold tot;rw[List.map_cons,List.sum_cons]
theorem z9:∀{rs:List Str} {r:Str},r∈rs->r.length<=tot rs
 |a::b,r,h=>by
  rw[qQ]
  rcases List.mem_cons.mp h with h|h
  ·rw[h];lia
  ·have:=z9 h;lia
theorem BH(rs:List Str):tot rs=((Vc rs).map List.length).sum:=by
 unfold tot Vc
 rw[List.map_map]
 exact congrArg List.sum (List.map_congr_left λx _=>(bT x).symm)
theorem Ac(s:Str):(oj s).length=s.cps.toList.count 10+1/\tot (oj s)+s.cps.toList.count 10=s.length:=by
 have h:=qI s.cps.toList
 have e1:(oj s).length=(dw s.cps.toList).length:=by unfold oj;rw[List.length_map]
 rw[BH]
 unfold Vc
 rw[kJ,e1,← bT s]
 exact h
def Uq(p f:Nat×Nat)(m lz:Nat):Nat×Nat :=
 if p.1<f.1∨p.1=f.1/\p.2<f.2 then p else if p.1>f.1 then (p.1+m,p.2) else (f.1+m,(if m>0 then 0 else f.2)+lz+p.2-f.2)
def kX(z:Str):Nat:=(oj z).length-1
def uK(z:Str):Nat:=((dw z.cps.toList).getLastD []).length
def vN(p f:Nat×Nat)(z:Str):Nat×Nat:=Uq p f (kX z) (uK z)
abbrev fwd (d:Str):Prop:=d = "push" ∨ d = "into"
theorem qH{on:List Nat}{d:Str}{g:Nat}(hd:fwd d):bE (bD on d (some g))=g:=by
 unfold bD bE
 rcases hd with rfl|rfl
 ·rw[if_pos rfl,List.getLastD_eq_getLast?];simp
 ·rw[if_neg (by decide),if_pos rfl,List.getLastD_eq_getLast?];simp
theorem kN:∀(n:Nat) (l:List Nat),l.Nodup->(∀x∈l,x<n)->l.length<=n
 |0,l,_,h=>by
  cases l with
  |nil=>exact Nat.le_refl _
  |cons x r=>exact absurd (h x (by simp)) (by lia)
 |n+1,l,hd,h=>by
  have h1:=kN n (l.erase n) (hd.erase n) λx hx=>by
   obtain⟨h2,h3⟩:=hd.mem_erase_iff.mp hx
   have:=h x h3
   lia
  rw[List.length_erase] at h1
  split at h1 <;> lia
section
variable {ms:List aD}{row:Str}
def rS(ms:List aD)(row:Str)(a b:Nat):Prop:=∃R,cX ms a row=some R/\fwd R.bg/\R.goal=some b
def uF(ms:List aD)(row:Str):List Nat->Prop
 | []=>True
 | [_]=>True
 |a::b::r=>rS ms row a b/\uF ms row (b::r)
theorem uF.tail{a:Nat}{r:List Nat}(h:uF ms row (a::r)):uF ms row r:=by
 cases r with
 |nil=>trivial
 |cons b r=>exact h.2
theorem uF.suffix:∀{A B:List Nat},uF ms row (A++B)->uF ms row B
 | [],B,h=>h
 |a::A,B,h=>uF.suffix (A:=A) (uF.tail h)
theorem uF.snoc:∀{l:List Nat} {z g:Nat},uF ms row (l++[z])->rS ms row z g->uF ms row (l++[z]++[g])
 | [],z,g,_,h=>⟨h,trivial⟩
 | [a],z,g,h,h2=>⟨h.1,h2,trivial⟩
 |a::b::l,z,g,h,h2=>⟨h.1,uF.snoc (l:=b::l) h.2 h2⟩
theorem jM{first:Nat}{R:bu}{on ring:List Nat}{g fuel:Nat}(hR:cX ms (bE on) row=some R)(hd:fwd R.bg)(hg:R.goal=some g)(hx:g=first∨dU ms row first fuel (bD on R.bg R.goal) (ring++[bE on])≠none):dU ms row first (fuel+1) on ring≠none:=by
 have hdp:R.bg ≠ "pop" := by rcases hd with z|z <;> rw[z] <;> decide
 rw[dU,hR]
 show (if R.bg = "pop" /\ on.length=1/\first≠0 then none else if bE (bD on R.bg R.goal)=first then some (ring++[bE on]) else dU ms row first fuel (bD on R.bg R.goal) (ring++[bE on]))≠none
 have ht:bE (bD on R.bg R.goal)=g:=by rw[hg];exact qH hd
 rw[if_neg (λz=>hdp z.1),ht]
 by_cases z:g=first
 ·rw[if_pos z];intro w;cases w
 ·rw[if_neg z];exact hx.resolve_left z
theorem m9{first:Nat}:∀(r:List Nat) (x z:Nat) (fuel:Nat) (on ring:List Nat),uF ms row (x::r)->(x::r).getLast?=some z->rS ms row z first->bE on=x->(x::r).length<=fuel->dU ms row first fuel on ring≠none
 | [],x,z,fuel,on,ring,_,hl,hz,ht,hf=>by
  cases hl
  obtain⟨R,h1,h2,h3⟩:=hz
  obtain⟨f,rfl⟩:∃f,fuel=f+1:=⟨fuel-1,by rw[List.length_singleton] at hf;lia⟩
  exact jM (by rw[ht];exact h1) h2 h3 (.inl rfl)
 |y::r,x,z,fuel,on,ring,hp,hl,hz,ht,hf=>by
  obtain⟨⟨R,h1,h2,h3⟩,hp2⟩:=hp
  rw[List.length_cons] at hf
  obtain⟨f,rfl⟩:∃f,fuel=f+1:=⟨fuel-1,by lia⟩
  refine jM (by rw[ht];exact h1) h2 h3 (.inr ?_)
  exact m9 r y z f _ _ hp2 (by rw[List.getLast?_cons_cons] at hl;exact hl) hz (by rw[h3];exact qH h2) (by lia)
def Gw(ms:List aD)(row:Str):Nat->Nat->Prop
 |0,k=>cX ms k row=none
 |m+1,k=>∃g,rS ms row k g/\Gw ms row m g
def yc(ms:List aD)(row:Str):Nat->Nat->Prop
 |0,k=>∃R,cX ms k row=some R/\R.bg = "pop"
 |m+1,k=>∃g R,cX ms k row=some R/\R.bg = "into" /\ R.goal=some g/\yc ms row m g
theorem tw {us:List Nat} {q g:Nat}:bD (us++[q]) "into" (some g)=us++[g]:=by
 rw[bD,if_neg (by decide),if_pos rfl,List.dropLast_concat];rfl
theorem pP (us:List Nat) (k:Nat) (g:Option Nat):bD (us++[k]) "pop" g=if us=[] then [0] else us:=by
 rw[bD,if_neg (by decide),if_neg (by decide),if_pos rfl,List.dropLast_concat]
 by_cases z:us=[]
 ·rw[if_pos z,if_pos (by rw[z];rfl)]
 ·rw[if_neg z,if_neg]
  have:=List.length_pos_iff.mpr z
  rw[List.length_append,List.length_singleton];lia
theorem sy (on:List Nat) (g:Option Nat):bD on "stay" g=on:=by rw[bD,if_neg (by decide),if_neg (by decide),if_neg (by decide)]
theorem wB{A B:List Nat}{g k:Nat}{vis:List Nat}(h:vis++[k]=A++g::B):(g::B).getLast?=some k:=by
 have e:=congrArg List.getLast? h
 rw[List.getLast?_append] at e
 cases h2:(g::B).getLast? with
 |none=>rw[List.getLast?_eq_none_iff] at h2;cases h2
 |some z=>rw[List.getLast?_append,h2] at e;simpa using e.symm
theorem vH{first:Nat}:∀(m q fuel:Nat) (us ring:List Nat),yc ms row m q->us≠[]->bE us=first->m+1<=fuel->dU ms row first fuel (us++[q]) ring≠none
 |0,q,fuel,us,ring,⟨R,h1,h2⟩,hne,ht,hf=>by
  obtain⟨f,rfl⟩:∃f,fuel=f+1:=⟨fuel-1,by lia⟩
  have hl:(us++[q]).length≠1:=by
   have:=List.length_pos_iff.mpr hne
   rw[List.length_append,List.length_singleton];lia
  rw[dU,mO,h1]
  show (if R.bg = "pop" /\ (us++[q]).length=1/\first≠0 then none else if bE (bD (us++[q]) R.bg R.goal)=first then some _ else dU ms row first f (bD (us++[q]) R.bg R.goal) _)≠none
  rw[if_neg (λz=>hl z.2.1),h2,pP,if_neg hne,if_pos ht]
  intro w;cases w
 |m+1,q,fuel,us,ring,⟨g,R,h1,h2,h3,h4⟩,hne,ht,hf=>by
  obtain⟨f,rfl⟩:∃f,fuel=f+1:=⟨fuel-1,by lia⟩
  refine jM (by rw[mO];exact h1) (.inr h2) h3 (.inr ?_)
  rw[h2,h3,tw]
  exact vH m g f us _ h4 hne ht (by lia)
theorem nZ:∀(m q fuel:Nat) (ring:List Nat),yc ms row m q->m+1<=fuel->dU ms row 0 fuel [q] ring≠none
 |0,q,fuel,ring,⟨R,h1,h2⟩,hf=>by
  obtain⟨f,rfl⟩:∃f,fuel=f+1:=⟨fuel-1,by lia⟩
  rw[dU,show bE [q]=q from rfl,h1]
  show (if R.bg = "pop" /\ [q].length=1/\(0:Nat)≠0 then none else if bE (bD [q] R.bg R.goal)=0 then some _ else dU ms row 0 f (bD [q] R.bg R.goal) _)≠none
  rw[if_neg (λz=>z.2.2 rfl),h2,show bD [q] "pop" R.goal=[0] from pP [] q R.goal,if_pos (show bE [0]=0 from rfl)]
  intro w;cases w
 |m+1,q,fuel,ring,⟨g,R,h1,h2,h3,h4⟩,hf=>by
  obtain⟨f,rfl⟩:∃f,fuel=f+1:=⟨fuel-1,by lia⟩
  refine jM (on:=[q]) h1 (.inr h2) h3 (.inr ?_)
  have:bD [q] R.bg R.goal=[g]:=by rw[h2,h3];exact tw (us:=[])
  rw[this]
  exact nZ m g f _ h4 (by lia)
theorem ends(G:dB ms)(hn:∀j,j<ms.length->cK ms j row=none):∀(f:Nat) (vis:List Nat) (k:Nat),uF ms row (vis++[k])->(vis++[k]).Nodup->(∀x∈vis++[k],x<ms.length)->ms.length<=vis.length+1+f->f+1<=ms.length->∃m,m<=f/\(Gw ms row m k∨yc ms row m k):=by
 intro f
 induction f with
 |zero =>
  intro vis k hp hd hlt hf hf2
  have hk:=hlt k (by simp)
  cases hR:cX ms k row with
  |none=>exact⟨0,Nat.le_refl _,.inl hR⟩
  |some R =>
   refine⟨0,Nat.le_refl _,.inr ⟨R,hR,?_⟩⟩
   obtain⟨hdd,hgo⟩:R.bg∈qD/\(lB R.bg->∃g,R.goal=some g/\g<ms.length):=by
    obtain⟨m,hm⟩:∃m,ms[k]?=some m:=⟨ms[k],List.getElem?_eq_getElem hk⟩
    have hid:cX ms k row=fX m.rules row:=by rw[cX,hm];rfl
    rw[hid] at hR
    exact⟨G.bg m (List.mem_of_getElem? hm) R (jl hR),G.goal m (List.mem_of_getElem? hm) R (jl hR)⟩
   have hdd:R.bg = "stay" ∨ R.bg = "push" ∨ R.bg = "pop" ∨ R.bg = "into" := by simpa using hdd
   have nofw:¬ fwd R.bg:=λhfw=>by
    obtain⟨g,hg,hgl⟩:=hgo hfw
    have hfg:rS ms row k g:=⟨R,hR,hfw,hg⟩
    by_cases hmem:g∈vis++[k]
    ·obtain⟨A,B,hAB⟩:=List.append_of_mem hmem
     rw[hAB] at hp hd
     have hlast:=wB hAB
     have hB:(g::B).length<=ms.length:=kN _ _ (List.nodup_append.mp hd).2.1 λx hx=>hlt x (by rw[hAB];exact List.mem_append_right _ hx)
     exact m9 B g k ms.length [g] [] (uF.suffix hp) hlast hfg rfl hB (hn g hgl)
    ·have:=kN ms.length (vis++[k]++[g]) (List.nodup_append.mpr ⟨hd,by simp,λx hx y hy e=>hmem (by rw[List.mem_singleton.mp hy] at e;rw[← e];exact hx)⟩) λx hx=>by
      rcases List.mem_append.mp hx with z|z
      ·exact hlt x z
      ·rw[List.mem_singleton.mp z];exact hgl
     rw[List.length_append,List.length_append,List.length_singleton,List.length_singleton] at this
     lia
   rcases hdd with z|z|z|z
   ·exfalso
    have:=hn k hk
    rw[cK] at this
    obtain⟨n',hn'⟩:∃n',ms.length=n'+1:=⟨ms.length-1,by lia⟩
    rw[hn',dU,show bE [k]=k from rfl,hR] at this
    have this:(if R.bg = "pop" /\ [k].length=1/\k≠0 then none else if bE (bD [k] R.bg R.goal)=k then some ([]++[k]) else dU ms row k n' (bD [k] R.bg R.goal) ([]++[k]))=none:=this
    rw[if_neg (λw=>by rw[z] at w;exact absurd w.1 (by decide)),z,sy,if_pos (show bE [k]=k from rfl)] at this
    cases this
   ·exact absurd (.inl z) nofw
   ·exact z
   ·exact absurd (.inr z) nofw
 |succ f ih =>
  intro vis k hp hd hlt hf hf2
  have hk:=hlt k (by simp)
  cases hR:cX ms k row with
  |none=>exact⟨0,Nat.zero_le _,.inl hR⟩
  |some R =>
   obtain⟨hdd,hgo⟩:R.bg∈qD/\(lB R.bg->∃g,R.goal=some g/\g<ms.length):=by
    obtain⟨m,hm⟩:∃m,ms[k]?=some m:=⟨ms[k],List.getElem?_eq_getElem hk⟩
    have hid:cX ms k row=fX m.rules row:=by rw[cX,hm];rfl
    rw[hid] at hR
    exact⟨G.bg m (List.mem_of_getElem? hm) R (jl hR),G.goal m (List.mem_of_getElem? hm) R (jl hR)⟩
   have hdd:R.bg = "stay" ∨ R.bg = "push" ∨ R.bg = "pop" ∨ R.bg = "into" := by simpa using hdd
   have go:fwd R.bg->∃g m,R.goal=some g/\m<=f/\(Gw ms row m g∨yc ms row m g):=λhfw=>by
    obtain⟨g,hg,hgl⟩:=hgo hfw
    have hfg:rS ms row k g:=⟨R,hR,hfw,hg⟩
    by_cases hmem:g∈vis++[k]
    ·exfalso
     obtain⟨A,B,hAB⟩:=List.append_of_mem hmem
     rw[hAB] at hp hd
     have hlast:=wB hAB
     have hB:(g::B).length<=ms.length:=kN _ _ (List.nodup_append.mp hd).2.1 λx hx=>hlt x (by rw[hAB];exact List.mem_append_right _ hx)
     exact m9 B g k ms.length [g] [] (uF.suffix hp) hlast hfg rfl hB (hn g hgl)
    ·obtain⟨m,h1,h2⟩:=ih (vis++[k]) g (uF.snoc hp hfg) (List.nodup_append.mpr ⟨hd,by simp,λx hx y hy e=>hmem (by rw[List.mem_singleton.mp hy] at e;rw[← e];exact hx)⟩) (λx hx=>by
      rcases List.mem_append.mp hx with z|z
      ·exact hlt x z
      ·rw[List.mem_singleton.mp z];exact hgl) (by rw[List.length_append,List.length_singleton];lia) (by lia)
     exact⟨g,m,hg,h1,h2⟩
   rcases hdd with z|z|z|z
   ·exfalso
    have:=hn k hk
    rw[cK] at this
    obtain⟨n',hn'⟩:∃n',ms.length=n'+1:=⟨ms.length-1,by lia⟩
    rw[hn',dU,show bE [k]=k from rfl,hR] at this
    have this:(if R.bg = "pop" /\ [k].length=1/\k≠0 then none else if bE (bD [k] R.bg R.goal)=k then some ([]++[k]) else dU ms row k n' (bD [k] R.bg R.goal) ([]++[k]))=none:=this
    rw[if_neg (λw=>by rw[z] at w;exact absurd w.1 (by decide)),z,sy,if_pos (show bE [k]=k from rfl)] at this
    cases this
   ·obtain⟨g,m,hg,hm,h|h⟩:=go (.inl z)
    ·exact⟨m+1,by lia,.inl ⟨g,⟨R,hR,.inl z,hg⟩,h⟩⟩
    ·exfalso
     obtain⟨n',hn'⟩:∃n',ms.length=n'+1:=⟨ms.length-1,by lia⟩
     have h0:=hn k hk
     rw[cK,hn'] at h0
     refine jM (on:=[k]) hR (.inl z) hg (.inr ?_) h0
     have:bD [k] R.bg R.goal=[k]++[g]:=by rw[z,hg,bD,if_pos rfl];rfl
     rw[this]
     exact vH m g n' [k] _ h (by simp) rfl (by lia)
   ·exact⟨0,Nat.zero_le _,.inr ⟨R,hR,z⟩⟩
   ·obtain⟨g,m,hg,hm,h|h⟩:=go (.inr z)
    ·exact⟨m+1,by lia,.inl ⟨g,⟨R,hR,.inr z,hg⟩,h⟩⟩
    ·exact⟨m+1,by lia,.inr ⟨g,R,hR,z,hg,h⟩⟩
theorem Aw{first:Nat}(hup:∀k R,cX ms k row=some R->∃g,fwd R.bg/\R.goal=some g/\k<g):∀(fuel:Nat) (on ring:List Nat),first<=bE on->dU ms row first fuel on ring=none
 |0,_,_,_=>rfl
 |f+1,on,ring,h=>by
  rw[dU]
  cases e:cX ms (bE on) row with
  |none=>rfl
  |some R =>
   obtain⟨g,hd,hg,hlt⟩:=hup _ R e
   have hdp:R.bg ≠ "pop" := by rcases hd with z|z <;> rw[z] <;> decide
   have ht:bE (bD on R.bg R.goal)=g:=by rw[hg];exact qH hd
   show (if R.bg = "pop" /\ on.length=1/\first≠0 then none else if bE (bD on R.bg R.goal)=first then some (ring++[bE on]) else dU ms row first f (bD on R.bg R.goal) (ring++[bE on]))=none
   rw[if_neg (λz=>hdp z.1),if_neg (by rw[ht];lia)]
   exact Aw hup f _ _ (by rw[ht];lia)
end
theorem za{on:List Nat}(h:on≠[]):∃r,on=r++[bE on]:=by
 rcases List.eq_nil_or_concat on with rfl|⟨p,x,rfl⟩
 ·exact absurd rfl h
 ·exact⟨p,by rw[List.concat_eq_append,mO]⟩
theorem rY {on:List Nat} {d:Str} {g:Nat} (h:d = "push"):bD on d (some g)=on++[g]:=by rw[bD,if_pos h];rfl
theorem nv {r:List Nat} {k:Nat} {d:Str} {g:Nat} (h:d = "into"):bD (r++[k]) d (some g)=r++[g]:=by
 rw[bD,h,if_neg (by decide),if_pos rfl,List.dropLast_concat];rfl
def sH(ms:List aD)(row:Str)(c:Cfg):Prop:=∃R,gu (gv ms (bE c.on)) row c.aN.length=some R/\bY R.sort=false
def Still(ms:List aD)(row:Str):Nat->Cfg->Cfg->Prop
 |0,c,d=>c=d
 |n+1,c,d=>∃R,gu (gv ms (bE c.on)) row c.aN.length=some R/\bY R.sort=false/\Still ms row n (g9 c R row) d
theorem Still.go{ms:List aD}{row:Str}:∀{n m:Nat} {c d e:Cfg},Still ms row n c d->goN ms row m d=some e->goN ms row (n+m) c=some e
 |0,m,c,d,e,h,g=>by rw[Nat.zero_add,show c=d from h];exact g
 |n+1,m,c,d,e,⟨R,h1,_,h3⟩,g=>by
  rw[show n+1+m=(n+m)+1 by lia]
  exact qh (by rw[gK,h1]) (h3.go g)
theorem xU{c:Cfg}{R:bu}{row:Str}(hs:R.sort∈sorts)(he:bY R.sort=false):(g9 c R row).aN=c.aN:=by
 show c.aN++List.replicate (iP R row c.aN.length) R.bC=c.aN
 rw[Fy hs he]
 exact List.append_nil _
theorem Still.trans{ms:List aD}{row:Str}:∀{n m:Nat} {c d e:Cfg},Still ms row n c d->Still ms row m d e->Still ms row (n+m) c e
 |0,m,c,d,e,h,g=>by rw[Nat.zero_add,show c=d from h];exact g
 |n+1,m,c,d,e,⟨R,h1,h2,h3⟩,g=>by
  rw[show n+1+m=(n+m)+1 by lia]
  exact⟨R,h1,h2,h3.trans g⟩
structure m7(ms:List aD)(row:Str):Prop where
 g:dB ms
 three:ms.length<=4
 sg:∀m∈ms,∀R∈m.rules,¬ bare R.sort->1<=R.signs.length
 nr:∀r∈cN,∀j,j<ms.length->cK ms j r=none
 row:∀c∈row.cps.toList,c∈bK.cps.toList
theorem m7.short{ms:List aD}{row:Str}(G:m7 ms row)(i:Nat):cj row i∈cN:=by
 unfold cj
 cases e:row.cps.toList[i]? with
 |none=>exact List.mem_cons_self ..
 |some c=>exact List.mem_cons_of_mem _ (List.mem_map.mpr ⟨c,G.row c (List.mem_of_getElem? e),rfl⟩)
theorem m7.rule{ms:List aD}{row:Str}(G:m7 ms row){k i:Nat}{R:bu}(hk:k<ms.length)(h:gu (gv ms k) row i=some R):∃m,ms[k]?=some m/\R∈m.rules/\R.sort∈sorts/\eU R row i=true:=by
 have hm:ms[k]?=some ms[k]:=List.getElem?_eq_getElem hk
 rw[gv,hm] at h
 have h:gu ms[k].rules row i=some R:=h
 unfold gu at h
 cases e:firstM ms[k].rules row i with
 |none=>rw[e] at h;cases h
 |some n =>
  rw[e] at h
  obtain⟨_,R',g1,g2,_⟩:=gJ e
  rw[Nat.sub_zero] at g1
  have:R'=R:=Option.some.inj (g1.symm.trans h)
  subst this
  have hR:=List.mem_of_getElem? g1
  exact⟨_,hm,hR,((G.g.ok _ (List.getElem_mem hk)).2 R' hR).1,g2⟩
theorem m7.idle{ms:List aD}{row:Str}(G:m7 ms row){k i:Nat}{R:bu}(hk:k<ms.length)(hi:i<=row.length)(h:gu (gv ms k) row i=some R)(he:bY R.sort=false):cX ms k (cj row i)=some R:=by
 have hm:ms[k]?=some ms[k]:=List.getElem?_eq_getElem hk
 rw[gv,hm] at h
 rw[cX,hm]
 exact Bv (λR hR=>((G.g.ok _ (List.getElem_mem hk)).2 R hR).1) hi h he
theorem m7.step{ms:List aD}{row:Str}(G:m7 ms row){c:Cfg}(hok:iI ms c.on)(hi:c.aN.length<=row.length){us:List Nat}{k:Nat}(e:c.on=us++[k])(h:sH ms row c):∃R,cX ms k (cj row c.aN.length)=some R/\Still ms row 1 c (g9 c R row)/\(g9 c R row).aN=c.aN/\iI ms (g9 c R row).on/\(g9 c R row).on=bD (us++[k]) R.bg R.goal:=by
 obtain⟨R,h1,h2⟩:=h
 have hk:bE c.on<ms.length:=hok.2 _ (mW hok.1)
 have ht:bE c.on=k:=by rw[e,mO]
 obtain⟨m,hm,hR,hs,_⟩:=G.rule hk h1
 have h3:=G.idle hk hi h1 h2
 rw[ht] at h3
 exact⟨R,h3,⟨R,h1,h2,rfl⟩,xU hs h2,hok.bg G.g (List.mem_of_getElem? hm) hR,by rw[← e];rfl⟩
theorem U3{ms:List aD}{row:Str}(G:m7 ms row):∀(m k:Nat) (us:List Nat) (c:Cfg),Gw ms (cj row c.aN.length) m k->c.on=us++[k]->iI ms c.on->c.aN.length<=row.length ->
  ∃n d,Still ms row n c d /\ ¬ sH ms row d/\d.aN=c.aN/\iI ms d.on/\n<=m/\d.on.length<=c.on.length+m
 |m,k,us,c,h,e,hok,hi=>by
  by_cases hid:sH ms row c
  ·obtain⟨R,r1,r2,r3,r4,r5⟩:=G.step hok hi e hid
   cases m with
   |zero =>
    have h:cX ms k (cj row c.aN.length)=none:=h
    rw[h] at r1;cases r1
   |succ m =>
    obtain⟨g,⟨R',h1,h2,h3⟩,h4⟩:=h
    rw[r1] at h1
    cases h1
    rw[← r3] at h4
    have hd:∃vs,(g9 c R row).on=vs++[g]/\(g9 c R row).on.length<=c.on.length+1:=by
     rw[r5,h3,e]
     rcases h2 with z|z
     ·exact⟨us++[k],by rw[rY z],by rw[rY z,List.length_append];exact Nat.le_refl _⟩
     ·exact⟨us,by rw[nv z],by rw[nv z,List.length_append,List.length_append];exact Nat.le_add_right _ _⟩
    obtain⟨vs,d1,d2⟩:=hd
    obtain⟨n,d,a1,a2,a3,a4,a5,a6⟩:=U3 G m g vs (g9 c R row) h4 d1 r4 (by rw[r3];exact hi)
    exact⟨1+n,d,r2.trans a1,a2,by rw[a3,r3],a4,by lia,by lia⟩
  ·exact⟨0,c,rfl,hid,rfl,hok,Nat.zero_le _,Nat.le_add_right _ _⟩
theorem phP{ms:List aD}{row:Str}(G:m7 ms row):∀(m k:Nat) (us:List Nat) (c:Cfg),yc ms (cj row c.aN.length) m k->c.on=us++[k]->iI ms c.on->c.aN.length<=row.length ->
  (∃n d,Still ms row n c d /\ ¬ sH ms row d/\d.aN=c.aN/\iI ms d.on/\n<=m/\d.on.length<=c.on.length)∨∃n d,Still ms row n c d/\d.on=(if us=[] then [0] else us)/\d.aN=c.aN/\iI ms d.on/\n<=m+1
 |m,k,us,c,h,e,hok,hi=>by
  by_cases hid:sH ms row c
  ·obtain⟨R,r1,r2,r3,r4,r5⟩:=G.step hok hi e hid
   cases m with
   |zero =>
    obtain⟨R',h1,h2⟩:=h
    rw[r1] at h1
    cases h1
    exact .inr ⟨1,_,r2,by rw[r5,h2,pP],r3,r4,Nat.le_refl _⟩
   |succ m =>
    obtain⟨g,R',h1,h2,h3,h4⟩:=h
    rw[r1] at h1
    cases h1
    rw[← r3] at h4
    have d1:(g9 c R row).on=us++[g]:=by rw[r5,h3,nv h2]
    have d2:(g9 c R row).on.length=c.on.length:=by rw[d1,e,List.length_append,List.length_append];rfl
    rcases phP G m g us (g9 c R row) h4 d1 r4 (by rw[r3];exact hi) with ⟨n,d,a1,a2,a3,a4,a5,a6⟩|⟨n,d,a1,a2,a3,a4,a5⟩
    ·exact .inl ⟨1+n,d,r2.trans a1,a2,by rw[a3,r3],a4,by lia,by lia⟩
    ·exact .inr ⟨1+n,d,r2.trans a1,a2,by rw[a3,r3],a4,by lia⟩
  ·exact .inl ⟨0,c,rfl,hid,rfl,hok,Nat.zero_le _,Nat.le_refl _⟩
theorem SM{ms:List aD}{row:Str}(G:m7 ms row):∀(l:Nat) (c:Cfg),c.on.length=l->iI ms c.on->c.aN.length<=row.length ->
  ∃n d,Still ms row n c d /\ ¬ sH ms row d/\d.aN=c.aN/\iI ms d.on/\n+4*d.on.length<=4*c.on.length+20:=by
 have h3:=G.three
 have hpos:=G.g.pos
 have one:∀i k,k<ms.length->∃m,m<=ms.length-1/\(Gw ms (cj row i) m k∨yc ms (cj row i) m k):=λi k hk=>ends G.g (G.nr _ (G.short i)) (ms.length-1) [] k trivial (by simp) (by simpa using hk) (by rw[List.length_nil];lia) (by lia)
 intro l
 induction l with
 |zero=>intro c h1 h2;exact absurd (List.length_eq_zero_iff.mp h1) h2.1
 |succ l ih =>
  intro c hl hok hi
  obtain⟨us,e⟩:=za hok.1
  have hk:bE c.on<ms.length:=hok.2 _ (mW hok.1)
  have el:c.on.length=us.length+1:=by rw[e,List.length_append];rfl
  obtain⟨m,hm,h|h⟩:=one c.aN.length (bE c.on) hk
  ·obtain⟨n,d,a1,a2,a3,a4,a5,a6⟩:=U3 G m _ us c h e hok hi
   exact⟨n,d,a1,a2,a3,a4,by lia⟩
  ·rcases phP G m _ us c h e hok hi with ⟨n,d,a1,a2,a3,a4,a5,a6⟩|⟨n,d,a1,a2,a3,a4,a5⟩
   ·exact⟨n,d,a1,a2,a3,a4,by lia⟩
   ·by_cases z:us=[]
    ·rw[if_pos z] at a2
     obtain⟨m0,hm0,h0|h0⟩:=one d.aN.length 0 hpos
     ·obtain⟨n2,d2,b1,b2,b3,b4,b5,b6⟩:=U3 G m0 0 [] d h0 a2 a4 (by rw[a3];exact hi)
      rw[a2] at b6
      have b6:d2.on.length<=1+m0:=b6
      exact⟨n+n2,d2,a1.trans b1,b2,by rw[b3,a3],b4,by lia⟩
     ·exact absurd (G.nr _ (G.short d.aN.length) 0 hpos) (nZ m0 0 _ _ h0 (by lia))
    ·rw[if_neg z] at a2
     obtain⟨n2,d2,b1,b2,b3,b4,b5⟩:=ih d (by rw[a2];lia) a4 (by rw[a3];exact hi)
     rw[a2] at b5
     exact⟨n+n2,d2,a1.trans b1,b2,by rw[b3,a3],b4,by lia⟩
theorem SD{ms:List aD}{row:Str}(G:m7 ms row):∀(D:Nat) (c:Cfg),row.length-c.aN.length=D->iI ms c.on->c.aN.length<=row.length ->
  ∃n d,goN ms row n c=some d/\d.aN.length=row.length/\iI ms d.on/\n+4*d.on.length<=4*c.on.length+25*D+20:=by
 intro D
 induction D using Nat.strongRecOn with
 |ind D ih =>
  intro c hD hok hi
  obtain⟨n1,c1,a1,a2,a3,a4,a5⟩:=SM G _ c rfl hok hi
  have hi1:c1.aN.length<=row.length:=by rw[a3];exact hi
  have hk:bE c1.on<ms.length:=a4.2 _ (mW a4.1)
  cases hr:gu (gv ms (bE c1.on)) row c1.aN.length with
  |none =>
   by_cases hlt:c1.aN.length<row.length
   ·have hst:gK ms row c1=some ⟨c1.on,c1.aN++[eE ms (bE c1.on)],c1.marks⟩:=by
     rw[gK,hr]
     show (if c1.aN.length<row.length then _ else _)=_
     rw[if_pos hlt]
    have hl2:(c1.aN++[eE ms (bE c1.on)]).length=c1.aN.length+1:=by simp
    obtain⟨n2,d,b1,b2,b3,b4⟩:=ih (row.length-(c1.aN.length+1)) (by rw[a3] at hlt ⊢;lia) ⟨c1.on,c1.aN++[eE ms (bE c1.on)],c1.marks⟩ (by show row.length-(c1.aN++[eE ms (bE c1.on)]).length=_;rw[hl2]) a4 (by show (c1.aN++[eE ms (bE c1.on)]).length<=_;rw[hl2];lia)
    have b4:n2+4*d.on.length<=4*c1.on.length+25*(row.length-(c1.aN.length+1))+20:=b4
    rw[a3] at hlt b4
    exact⟨n1+(n2+1),d,a1.go (qh hst b1),b2,b3,by lia⟩
   ·have hst:gK ms row c1=none:=by
     rw[gK,hr]
     show (if c1.aN.length<row.length then _ else _)=_
     rw[if_neg hlt]
    exact⟨n1+0,c1,a1.go (Au hst),by lia,a4,by lia⟩
  |some R =>
   obtain⟨m,hm,hR,hs,hf⟩:=G.rule hk hr
   have hmm:=List.mem_of_getElem? hm
   have he:bY R.sort=true:=by
    cases e:bY R.sort with
    |true=>rfl
    |false=>exact absurd ⟨R,hr,e⟩ a2
   have hst:gK ms row c1=some (g9 c1 R row):=by rw[gK,hr]
   have e1:=HN (i:=c1.aN.length) hs he (G.sg m hmm R hR) hf
   have e2:=FL (R:=R) (row:=row) (i:=c1.aN.length) hs hi1
   have hl2:(g9 c1 R row).aN.length=c1.aN.length+iP R row c1.aN.length:=by
    show (c1.aN++List.replicate _ _).length=_
    rw[List.length_append,List.length_replicate]
   have hw:(g9 c1 R row).on.length<=c1.on.length+1:=qP
   obtain⟨n2,d,b1,b2,b3,b4⟩:=ih (row.length-(g9 c1 R row).aN.length) (by rw[hl2];rw[a3] at e1 e2 ⊢;lia) (g9 c1 R row) rfl (a4.bg G.g hmm hR) (by rw[hl2];exact e2)
   rw[hl2] at b4
   rw[a3] at e1 e2 b4
   exact⟨n1+(n2+1),d,a1.go (qh hst b1),b2,b3,by lia⟩
theorem rL{ms:List aD}(hG:∀r:Str,(∀c∈r.cps.toList,c∈bK.cps.toList)->m7 ms r):∀(rs:List Str) (b:List Nat),iI ms b->(∀r∈rs,r.length<=1000/\∀c∈r.cps.toList,c∈bK.cps.toList)->4*b.length+25*tot rs+20*rs.length<=20000->∃Gs,Chain ms b rs Gs
 | [],_,_,_,_=>⟨[],trivial⟩
 |r::rs,b,hb,h,hl=>by
  rw[List.length_cons,qQ] at hl
  obtain⟨h1,h2⟩:=h r (by simp)
  obtain⟨n,d,g1,g2,g3,g4⟩:=SD (hG r h2) r.length ⟨b,[],[]⟩ (by simp) hb (by simp)
  have g4:n+4*d.on.length<=4*b.length+25*r.length+20:=g4
  obtain⟨Gs,k1⟩:=rL hG rs d.on g3 (λx hx=>h x (List.mem_cons_of_mem _ hx)) (by lia)
  exact⟨⟨r,b,d⟩::Gs,rfl,rfl,⟨hb,by show b.length<=_;lia,h1,⟨n,by lia,g1⟩,g3,by show d.on.length<=_;lia,g2⟩,k1⟩
def fF(sp:List (Str×Nat×Nat))(ps:List Addr):List (Key×V):=List.zipWith (λx p=>((Sum.inr x.1:Key),V.ref p)) sp ps
structure S7(H:Hp)(d:Addr)(sp:List (Str×Nat×Nat))(ps:List Addr):Prop where
 len:ps.length=sp.length
 ob:H d=some (.dK (fF sp ps))
 pl:bO (λp (x:Str×Nat×Nat)=>H p=some (.tup [b7 x.2.1,b7 x.2.2])) ps sp
theorem S7.same{H H':Hp}{d:Addr}{sp:List (Str×Nat×Nat)}{ps:List Addr}(h:S7 H d sp ps)(s:ao H H'):S7 H' d sp ps:=⟨h.len,s _ _ h.ob,h.pl.mono λ_ _ e=>s _ _ e⟩
def DP(H:Hp)(d:Addr)(sp:List (Str×Nat×Nat)):Prop:=∃ps,S7 H d sp ps
theorem DP.same{H H':Hp}{d:Addr}{sp:List (Str×Nat×Nat)}(h:DP H d sp)(s:ao H H'):DP H' d sp:=by
 obtain⟨ps,a⟩:=h
 exact⟨ps,a.same s⟩
abbrev fu(sp:List (Str×Nat×Nat)):List Str:=sp.map (·.1)
theorem lU{sp:List (Str×Nat×Nat)}{ps:List Addr}(h:ps.length=sp.length):(fF sp ps).length=sp.length:=by unfold fF;rw[List.length_zipWith,h];simp
theorem ua:∀{sp:List (Str×Nat×Nat)} {ps:List Addr},ps.length=sp.length->(fF sp ps).map (·.1)=(fu sp).map Sum.inr
 | [],[],_=>rfl
 |x::sp,p::ps,h=>by
  have ih:=ua (sp:=sp) (ps:=ps) (by simpa using h)
  show Sum.inr x.1::(fF sp ps).map (·.1)=_
  rw[ih];rfl
 | [],_::_,h=>by simp at h
 |_::_,[],h=>by simp at h
theorem S9{sp:List (Str×Nat×Nat)}{ps:List Addr}{i:Nat}{x:Str×Nat×Nat}{p:Addr}(h1:sp[i]?=some x)(h2:ps[i]?=some p):(fF sp ps)[i]?=some (Sum.inr x.1,V.ref p):=by
 unfold fF
 rw[List.getElem?_zipWith,h1,h2]
theorem zj:∀{sp:List (Str×Nat×Nat)} {ps:List Addr} {i:Nat} {x:Str×Nat×Nat} {p:Addr},(fu sp).Nodup->sp[i]?=some x->ps[i]?=some p->eY (fF sp ps) (Sum.inr x.1)=some (.ref p)
 | [],_,_,_,_,_,h,_=>by simp at h
 |_::_,[],_,_,_,_,_,h=>by simp at h
 |y::sp,q::ps,0,x,p,_,h1,h2=>by
  simp only[List.getElem?_cons_zero,Option.some.injEq] at h1 h2
  subst h1 h2
  exact dN rfl
 |y::sp,q::ps,i+1,x,p,hn,h1,h2=>by
  simp only[List.getElem?_cons_succ] at h1 h2
  have hn:=List.nodup_cons.mp hn
  have hx:¬ (Sum.inr y.1:Key)=Sum.inr x.1:=λz=>hn.1 (by show y.1∈_;rw[Sum.inr.inj z];exact List.mem_map.mpr ⟨x,List.mem_of_getElem? h1,rfl⟩)
  show eY ((Sum.inr y.1,V.ref q)::fF sp ps) _=_
  rw[dQ hx]
  exact zj hn.2 h1 h2
theorem Nq{sp sp':List (Str×Nat×Nat)}{ps ps':List Addr}(h:ps.length=sp.length):fF (sp++sp') (ps++ps')=fF sp ps++fF sp' ps':=by
 unfold fF
 exact List.zipWith_append h.symm
theorem vz:∀(kvs acc:List (Key×V)),((acc++kvs).map (·.1)).Nodup->jZ acc kvs=acc++kvs
 | [],acc,_=>by rw[List.append_nil];rfl
 |kv::r,acc,h=>by
  have hn:eY acc kv.1=none:=by
   cases q:eY acc kv.1 with
   |none=>rfl
   |some y =>
    have hm:=Il q
    rw[List.map_append,List.map_cons] at h
    exact absurd rfl ((List.nodup_append.mp h).2.2 _ hm _ (List.mem_cons_self ..))
  show jZ (putK acc kv.1 kv.2) r=_
  rw[CP _ hn]
  have:=vz r (acc++[(kv.1,kv.2)]) (by simpa using h)
  rw[this];simp
theorem vM{sp:List (Str×Nat×Nat)}{ps:List Addr}(h:ps.length=sp.length)(hn:(fu sp).Nodup):jZ [] (fF sp ps)=fF sp ps:=by
 have:=vz (fF sp ps) [] (by
  rw[List.nil_append,ua h]
  exact List.pairwise_map.mpr (hn.imp λh z=>h (Sum.inr.inj z)))
 simpa using this
def Aj(sp:List (Str×Nat×Nat))(n:Str):Nat×Nat:=((sp.find? λx=>decide (x.1=n)).map (·.2)).getD (0,0)
theorem Dq{sp:List (Str×Nat×Nat)}{i:Nat}{x:Str×Nat×Nat}(hn:(fu sp).Nodup)(h:sp[i]?=some x):Aj sp x.1=x.2:=by
 unfold Aj
 induction sp generalizing i with
 |nil=>simp at h
 |cons y sp ih =>
  cases i with
  |zero =>
   simp only[List.getElem?_cons_zero,Option.some.injEq] at h
   subst h
   rw[List.find?_cons_of_pos (by simp)];rfl
  |succ i =>
   simp only[List.getElem?_cons_succ] at h
   have hn:=List.nodup_cons.mp hn
   rw[List.find?_cons_of_neg (by
    simp only[decide_eq_true_eq]
    intro z
    exact hn.1 (by show y.1∈_;rw[z];exact List.mem_map.mpr ⟨x,List.mem_of_getElem? h,rfl⟩))]
   exact ih hn.2 h
def fG(sp:List (Str×Nat×Nat)):List (Str×Nat×Nat):=(fh (fu sp)).map λn=>(n,Aj sp n)
theorem tF(sp:List (Str×Nat×Nat)):fu (fG sp)=fh (fu sp):=by
 unfold fG
 show List.map _ (List.map _ _)=_
 rw[List.map_map]
 exact List.map_id' _
theorem AJ{sp:List (Str×Nat×Nat)}(hn:(fu sp).Nodup):(fu (fG sp)).Nodup:=by
 rw[tF]
 exact(gR _).nodup_iff.mpr hn
theorem A4{sp:List (Str×Nat×Nat)}{n:Str}(h:n∈fu sp):∃(i:Nat) (x:Str×Nat×Nat),sp[i]?=some x/\x.1=n:=by
 obtain⟨x,hx,e⟩:=List.mem_map.mp h
 obtain⟨i,hi⟩:=List.mem_iff_getElem?.mp hx
 exact⟨i,x,hi,e⟩
theorem QC(a b c d:Nat):HT.lexLt [(a:Int),b] [(c:Int),d]=decide (a<c∨a=c/\b<d):=by
 simp only[HT.lexLt]
 by_cases h1:(a:Int)=c
 ·rw[if_pos h1]
  have h1':a=c:=by lia
  by_cases h2:(b:Int)=d
  ·rw[if_pos h2]
   exact(decide_eq_false (by lia)).symm
  ·rw[if_neg h2]
   exact decide_eq_decide.mpr (by lia)
 ·rw[if_neg h1]
  exact decide_eq_decide.mpr (by lia)
theorem Q8{α:Type}{xs:List α}{v:α}(h:xs[xs.length-1]?=some v):wL xs (-1)=some v:=by
 have hl:=(List.getElem?_eq_some_iff.mp h).1
 have e:BF xs.length (-1)=some (xs.length-1):=by
  unfold BF
  rw[if_neg (by decide)]
  show (if _ then _ else _)=_
  rw[if_pos (by lia)]
  congr 1
  lia
 unfold wL
 rw[e]
 exact h
abbrev UT(H:Hp)(p:Addr)(v:Nat×Nat):Prop:=H p=some (.tup [b7 v.1,b7 v.2])
theorem CK{z:Str}:∃y,(oj z)[(oj z).length-1]?=some y/\y.length=uK z:=by
 have hn:=yG z
 have hl:0<(oj z).length:=List.length_pos_iff.mpr hn
 refine⟨(oj z)[(oj z).length-1]'(by lia),List.getElem?_eq_getElem _,?_⟩
 unfold uK
 have e:(dw z.cps.toList).getLastD []=((oj z)[(oj z).length-1]'(by lia)).cps.toList:=by
  rw[← kJ,List.getLastD_eq_getLast?,List.getLast?_eq_getElem?,List.getElem?_map,List.length_map,List.getElem?_eq_getElem (by lia)]
  rfl
 rw[e,bT]
noncomputable def QI:Sp:=λvs H Q _=>∃(S:Addr->Prop) (p f:Addr) (v w:Nat×Nat) (z:Str),vs=[.ref p,.ref f,.str z]/\Ex S H/\UT (hid S H) p v/\UT (hid S H) f w/\z.length<=1000/\v.1<=100000/\v.2<=100000/\w.1<=100000/\w.2<=100000/\∀p' H',UT (hid S H') p' (vN v w z)->ao H H'->Q (.ref p') H'
theorem Ox (T:Txt K mg t):aZ P w K mg base c7 1 t.F9 t.Mb ["place","first","text"] QI:=by
 refine T.E7.ok uv ?_ ?_
 walk_at "i"
 ·obtain⟨S,p,f,v,w,z,rfl,hE,hp0,hf0,hz,b1,b2,b3,b4,q⟩:=h
  have hp:=aH _ _ hp0
  have hf:=aH _ _ hf0
  have sz:=sizeLine_eq
  have e1:fN K H p ([(v.1:Int),(v.2:Int)].map V.int):=fN.of hp
  have e2:fN K H f ([(w.1:Int),(w.2:Int)].map V.int):=fN.of hf
  refine au (aX (az (NH (Nat.lt_of_succ_lt (pF hr))) (pv 0) (pv 1) (aC _)) av av) ⟨_,rfl,_,rfl,p,f,_,_,rfl,rfl,e1,e2,_,rfl,?_⟩
  rw[QC]
  refine dR (λh=>?_) (λh=>?_)
  ·refine ay (aG (pv 0)) ⟨_,rfl,q p H ?_ (ao.refl H)⟩
   unfold vN Uq
   rw[if_pos h]
   exact hp0
  ·refine aU ?_
   refine au (dW 3 uv (c5 F.plainAttrs_str F.slot_str_split F.type_str_split jh (pv 2) (aa aJ ai))) ⟨_,rfl,rfl,z,Str.ofString "\n",rfl,rfl,rfl,(by lia),λl hl=>?_⟩
   rw[AG]
   have s1:ao H (upd H l (.lst ((oj z).map V.str))):=ao.upd hl
   have hl1:upd H l (.lst ((oj z).map V.str)) l=some (.lst ((oj z).map V.str)):=af
   generalize upd H l (.lst ((oj z).map V.str))=H1 at s1 hl1
   have hn:0<(oj z).length:=List.length_pos_iff.mpr (yG z)
   have hsl:=(Ac z).1
   have hcl:z.cps.toList.count 10<=z.length:=by rw[← bT];exact List.count_le_length
   refine au (dW 4 uv (aW jN (aK aP (by rfl) T.bU (by decide +kernel) (aa (pv 3) ai)) aB)) ⟨_,rfl,l,_,rfl,.inl (aY.of hl1),_,_,rfl,rfl,?_⟩
   have em:(((oj z).map V.str).length:Int)-1=(kX z:Nat):=by unfold kX;rw[List.length_map];lia
   show At _ _ _ [some (.ref p),some (.ref f),some (.str z),some (.ref l),some (.int ((((oj z).map V.str).length:Int)-1)),none] H1
   rw[em]
   have hm:kX z<=1000:=by unfold kX;lia
   refine au (aX (az jG (bw fQ (pv 0) aB (λ_ _=>rfl)) (bw fQ (pv 1) aB (λ_ _=>rfl)) (aC _)) av av) ⟨_,rfl,_,_,_,_,rfl,rfl,fN.of (s1 _ _ hp),bM (j:=0) rfl,_,rfl,_,_,_,_,rfl,rfl,fN.of (s1 _ _ hf),bM (j:=0) rfl,_,_,rfl,rfl,_,rfl,?_⟩
   refine dR (λh2=>?_) (λh2=>?_)
   ·refine ay (aG (gc (aa (aW bZ (bw fQ (pv 0) aB (λ_ _=>rfl)) (pv 4)) (aa (bw fQ (pv 0) aB (λ_ _=>rfl)) ai)))) ⟨_,rfl,_,_,_,_,rfl,rfl,fN.of (s1 _ _ hp),bM (j:=0) rfl,_,rfl,_,_,rfl,rfl,_,rfl,_,_,_,_,rfl,rfl,fN.of (s1 _ _ hp),bM (j:=1) rfl,(by show 2<=sizeLine;decide),λp' hp'=>q p' _ ?_ (s1.trans (ao.upd hp'))⟩
    have h2:v.1>w.1:=by lia
    unfold vN Uq
    rw[if_neg h,if_pos h2]
    exact br af ((hE.same s1).new hp')
   ·have h2:¬ v.1>w.1:=by lia
    refine aU ?_
    obtain⟨y,y1,y2⟩:=CK (z:=z)
    have yl:y.length<=1000:=by
     have h3:=(Ac z).2
     have:=z9 (List.mem_of_getElem? y1)
     lia
    refine aI (λZ' H'=>∃b:Nat,b=(if kX z>0 then 0 else w.2)/\Z'=[some (.ref p),some (.ref f),some (.str z),some (.ref l),some (.int (kX z:Nat)),some (.int (b:Nat))]/\H'=H1) (dW 5 uv (bH (az jG (pv 4) aB (aC _)) aB (bw fQ (pv 1) aB (λ_ _=>rfl)))) ?_ ?_
    ·refine⟨_,rfl,_,_,rfl,rfl,_,rfl,dR (λh3=>?_) (λh3=>?_)⟩
     ·exact⟨0,by rw[if_pos (by lia)],rfl,rfl⟩
     ·exact⟨_,rfl,_,_,_,_,rfl,rfl,fN.of (s1 _ _ hf),bM (j:=1) rfl,w.2,by rw[if_neg (by lia)],rfl,rfl⟩
    rintro Z' H' ⟨b,hb,rfl,hH⟩
    subst hH
    have hb2:b<=100000:=by rw[hb];split <;> lia
    have hbw:¬ kX z>0->b=w.2:=λe=>by rw[hb,if_neg e]
    have hvw:w.2<=v.2:=by lia
    refine ay (aG (gc (aa (aW bZ (bw fQ (pv 1) aB (λ_ _=>rfl)) (pv 4)) (aa (aW jN (aW bZ (aW bZ (pv 5) (aK bf (by rfl) T.bU (by decide +kernel) (aa (bw bq (pv 3) (lq i7 aB) (λ_ _=>rfl)) ai))) (bw fQ (pv 0) aB (λ_ _=>rfl))) (bw fQ (pv 1) aB (λ_ _=>rfl))) ai)))) ⟨_,rfl,_,_,_,_,rfl,rfl,fN.of (s1 _ _ hf),bM (j:=0) rfl,_,rfl,_,_,rfl,rfl,_,rfl,_,rfl,_,rfl,_,_,_,_,rfl,rfl,aY.of hl1,Q8 (by rw[List.length_map,List.getElem?_map,y1];rfl),_,rfl,bI (by lia),_,_,rfl,rfl,_,rfl,_,_,_,_,rfl,rfl,fN.of (s1 _ _ hp),bM (j:=1) rfl,_,_,rfl,rfl,_,rfl,_,_,_,_,rfl,rfl,fN.of (s1 _ _ hf),bM (j:=1) rfl,_,_,rfl,rfl,(by show 2<=sizeLine;decide),λp' hp'=>q p' _ ?_ (s1.trans (ao.upd hp'))⟩
    unfold vN Uq
    rw[if_neg h,if_neg h2,← hb]
    refine br ?_ ((hE.same s1).new hp')
    show upd _ p' (.tup [.int ((w.1:Int)+(kX z:Nat)),.int ((b:Int)+(y.length:Int)+(v.2:Int)-(w.2:Int))]) p'=some (.tup [b7 (w.1+kX z),b7 (b+uK z+v.2-w.2)])
    rw[af]
    have e3:((b:Int)+(y.length:Int)+(v.2:Int)-(w.2:Int))=((b+uK z+v.2-w.2:Nat):Int):=by lia
    rw[e3]
    rfl
def df (i:Nat) (lt lv d:Addr) (b:V):List (Str×V):=[("row",.int i),("taken",.ref lt),("given",.ref lv),("places_ahead",.ref d),("places_behind",b)]
noncomputable def JK(t:eS):Sp:=λvs H Q _=>∃(x dx lt lv d:Addr) (i:Nat),vs=[.ref x,.int i,.ref lt,.ref lv,.ref d]/\H x=some (.ins t.fB dx [])/\Q .cu (upd H x (.ins t.fB dx (df i lt lv d .cu)))
theorem QB (T:Txt K mg t):aZ P w K mg base c7 1 t.B8 t.LC ["self","row","taken","given","places"] (JK t):=by
 refine T.Le.ok Qz ?_ ?_
 walk_at "i"
 ·obtain⟨x,dx,lt,lv,d,i,rfl,hx,q⟩:=h
  refine au (bF (pv 0) (pv 1) rfl) ⟨_,rfl,_,rfl,x,_,dx,[],rfl,hx,T.mD,T.wW,by decide,?_⟩
  refine au (bF (pv 0) (pv 2) rfl) ⟨_,rfl,_,rfl,x,_,dx,[("row",.int i)],rfl,af,T.mD,T.uw,by show 1<1000;decide,?_⟩
  refine au (bF (pv 0) (pv 3) rfl) ⟨_,rfl,_,rfl,x,_,dx,[("row",.int i),("taken",.ref lt)],rfl,af,T.mD,T.uC,by show 2<1000;decide,?_⟩
  refine au (bF (pv 0) (pv 4) rfl) ⟨_,rfl,_,rfl,x,_,dx,[("row",.int i),("taken",.ref lt),("given",.ref lv)],rfl,af,T.mD,T.kU,by show 3<1000;decide,?_⟩
  refine ay (bF (pv 0) bB rfl) ⟨_,rfl,x,_,dx,[("row",.int i),("taken",.ref lt),("given",.ref lv),("places_ahead",.ref d)],rfl,af,T.mD,T.kF,by show 4<1000;decide,?_⟩
  rw[d9,d9,d9,d9]
  exact q
def sf (tt d ld lu:Addr):List (Str×V):=[("tinted",.ref tt),("places",.ref d),("done",.ref ld),("undone",.ref lu)]
theorem tE{S:Addr->Prop}{H H':Hp}{n:Addr}(s:ao H H')(h:H n=none):ao (hid S H) (hid (λc=>S c∨c=n) H'):=λb o e=>br (s _ _ (aH _ _ e)) (by
 rintro (z|z)
 ·exact cO e z
 ·exact ak (aH _ _ e) h z)
theorem nT{S:Addr->Prop}{H:Hp}{n:Addr}{o:HO}(hS:S n):ao (hid S H) (hid S (upd H n o)):=by rw[kP hS];exact ao.refl _
noncomputable def HW(t:eS):Sp:=λvs H Q _=>∃(x dx a lr:Addr) (R:Addr->Prop) (ms:List aD) (rs:List Str) (Gs:List bX),vs=[.ref x,.ref a,.ref lr]/\H x=some (.ins t.aM dx [])/\Ex R H/\IsRules t (hid (λc=>R c∨c=x) H) a ms/\dB ms/\jD ms=none/\H lr=some (.lst (rs.map V.str))/\rs.length<=100000/\Chain ms [0] rs Gs /\
 ∀tt dt a' lg gs d ld lu H',cU t (hid (λc=>(R c∨c=x)∨c=ld) H') tt dt a' lg gs ms Gs->H' x=some (.ins t.aM dx (sf tt d ld lu))->DP (hid (λc=>(R c∨c=x)∨c=ld) H') d []->H' ld=some (.lst [])->H' lu=some (.lst [])->H ld=none->H tt=none->fV H H' x->Q .cu H'
theorem OX (T:Txt K mg t):aZ P w K mg base c7 9 t.Fg t.M5 ["self","rules","rows"] (HW t):=by
 refine T.Mi.ok Nz ?_ ?_
 walk_at "i"
 ·obtain⟨x,dx,a,lr,R,ms,rs,Gs,rfl,hx,hE,hR,G,hring,hlr,hrl,hC,q⟩:=h
  refine au (bF (pv 0) (dJ T.AH (Ov T) hr.m rfl T.yg (T.M6.binds (by walk_at "3")) .nil aE (aa (pv 1) (aa (pv 2) ai))) rfl) ⟨_,rfl,_,rfl,λtt dt ntt ndt ne=>?_⟩
  have s0:ao H (upd (upd H dt (.own tt)) tt (.ins t.aR dt [])):=bN ntt ndt
  refine⟨tt,dt,a,lr,(λc=>R c∨c=x),ms,rs,Gs,rfl,af,(λz=>z.elim (λr=>by obtain⟨o,e⟩:=hE _ r;rw[ntt] at e;cases e) (λz=>ak hx ntt z.symm)),(λb z=>z.elim (λr=>by obtain⟨o,e⟩:=hE _ r;exact⟨o,s0 _ _ e⟩) (λz=>by rw[show b=x from z];exact⟨_,s0 _ _ hx⟩)),hR.same (tE s0 ntt),G,hring,s0 _ _ hlr,hrl,hC,λa' lg gs H1 I1 f1 a1=>⟨rfl,?_⟩⟩
  have s1:ao H H1:=fV.fresh s0 ntt a1
  have hx1:=s1 _ _ hx
  clear a1 s0 f1
  refine⟨_,rfl,x,_,dx,[],rfl,hx1,T.bJ,T.eG,by decide,?_⟩
  have hx2:upd H1 x (.ins t.aM dx (cB "tinted" (.ref tt) [])) x=some (.ins t.aM dx [("tinted",.ref tt)]):=af
  have a2:fV H (upd H1 x (.ins t.aM dx (cB "tinted" (.ref tt) []))) x:=s1.Hq fV.upd
  have I2:=I1.same (nT (n:=x) (o:=.ins t.aM dx (cB "tinted" (.ref tt) [])) (.inr rfl))
  generalize upd H1 x (.ins t.aM dx (cB "tinted" (.ref tt) []))=H2 at hx2 a2 I2
  refine au (bF (pv 0) wo rfl) (λd hd=>⟨_,rfl,x,_,dx,[("tinted",.ref tt)],rfl,ao.upd hd _ _ hx2,T.bJ,T.cS,by show 1<1000;decide,?_⟩)
  have ndx:d≠x:=λz=>by rw[z,hx2] at hd;cases hd
  have nRd:¬ (R d∨d=x):=λz=>z.elim (λr=>by obtain⟨o,e⟩:=hE _ r;rw[a2 _ _ e ndx] at hd;cases hd) ndx
  have hx3:upd (upd H2 d (.dK [])) x (.ins t.aM dx (cB "places" (.ref d) [("tinted",.ref tt)])) x=some (.ins t.aM dx [("tinted",.ref tt),("places",.ref d)]):=af
  have hd3:upd (upd H2 d (.dK [])) x (.ins t.aM dx (cB "places" (.ref d) [("tinted",.ref tt)])) d=some (.dK []):=by rw[aj ndx,af]
  have a3:fV H (upd (upd H2 d (.dK [])) x (.ins t.aM dx (cB "places" (.ref d) [("tinted",.ref tt)]))) x:=λb o hb nb=>by rw[aj nb];exact ao.upd hd _ _ (a2 b o hb nb)
  have I3:=(I2.same (aV (ao.upd hd (o:=.dK [])))).same (nT (n:=x) (o:=.ins t.aM dx (cB "places" (.ref d) [("tinted",.ref tt)])) (.inr rfl))
  generalize upd (upd H2 d (.dK [])) x (.ins t.aM dx (cB "places" (.ref d) [("tinted",.ref tt)]))=H3 at hx3 hd3 a3 I3
  refine au (bF (pv 0) (bV ai) rfl) ⟨by show 0<=sizeLine;decide,λld hld=>⟨_,rfl,x,_,dx,[("tinted",.ref tt),("places",.ref d)],rfl,ao.upd hld _ _ hx3,T.bJ,T.lC,by show 2<1000;decide,?_⟩⟩
  have nlx:ld≠x:=λz=>by rw[z,hx3] at hld;cases hld
  have hx4:upd (upd H3 ld (.lst [])) x (.ins t.aM dx (cB "done" (.ref ld) [("tinted",.ref tt),("places",.ref d)])) x=some (.ins t.aM dx [("tinted",.ref tt),("places",.ref d),("done",.ref ld)]):=af
  have s34:ao (hid (λc=>R c∨c=x) H3) (hid (λc=>(R c∨c=x)∨c=ld) (upd (upd H3 ld (.lst [])) x (.ins t.aM dx (cB "done" (.ref ld) [("tinted",.ref tt),("places",.ref d)])))):=(tE (ao.upd hld) hld).trans (nT (.inl (.inr rfl)))
  have hl4:upd (upd H3 ld (.lst [])) x (.ins t.aM dx (cB "done" (.ref ld) [("tinted",.ref tt),("places",.ref d)])) ld=some (.lst []):=by rw[aj nlx,af]
  have a4:fV H (upd (upd H3 ld (.lst [])) x (.ins t.aM dx (cB "done" (.ref ld) [("tinted",.ref tt),("places",.ref d)]))) x:=λb o hb nb=>by rw[aj nb];exact ao.upd hld _ _ (a3 b o hb nb)
  have I4:=I3.same s34
  have hd4:=s34 _ _ (br hd3 nRd)
  have hl0:H ld=none:=by
   cases e:H ld with
   |none=>rfl
   |some o=>have:=a3 _ _ e nlx;rw[hld] at this;cases this
  generalize upd (upd H3 ld (.lst [])) x (.ins t.aM dx (cB "done" (.ref ld) [("tinted",.ref tt),("places",.ref d)]))=H4 at hx4 hl4 a4 I4 hd4
  clear s34
  refine ay (bF (pv 0) (bV ai) rfl) ⟨by show 0<=sizeLine;decide,λlu hlu=>⟨_,rfl,x,_,dx,[("tinted",.ref tt),("places",.ref d),("done",.ref ld)],rfl,ao.upd hlu _ _ hx4,T.bJ,T.jH,by show 3<1000;decide,?_⟩⟩
  have nux:lu≠x:=λz=>by rw[z,hx4] at hlu;cases hlu
  have s45:ao (hid (λc=>(R c∨c=x)∨c=ld) H4) (hid (λc=>(R c∨c=x)∨c=ld) (upd (upd H4 lu (.lst [])) x (.ins t.aM dx (sf tt d ld lu)))):=(aV (ao.upd hlu)).trans (nT (.inl (.inr rfl)))
  exact q tt dt a' lg gs d ld lu _ (I4.same s45) af ⟨[],rfl,s45 _ _ hd4,bO.nil⟩ (by show upd _ _ _ _=_;rw[aj nlx];exact ao.upd hlu _ _ hl4) (by show upd _ _ _ _=_;rw[aj nux,af]) hl0 ntt (λb o hb nb=>by show upd _ _ _ _=_;rw[aj nb];exact ao.upd hlu _ _ (a4 b o hb nb))
noncomputable def IJ(t:eS):Sp:=λvs H Q _=>∃(x dx tt d ld lu:Addr),vs=[.ref x]/\H x=some (.ins t.aM dx (sf tt d ld lu))/\Q (.ref tt) H
theorem w5 (T:Txt K mg t):aZ P w K mg base c7 1 t.CD t.K1 ["self"] (IJ t):=by
 refine T.Ag.ok NT ?_ ?_
 walk_at "i"
 ·obtain⟨x,dx,tt,d,ld,lu,rfl,hx,q⟩:=h
  exact ay (aG (aF (pv 0) rfl)) (⟨_,rfl,_,_,_,_,_,rfl,hx,T.bJ,T.eG,rfl,q⟩)
noncomputable def Hf(t:eS):Sp:=λvs H Q _=>∃(x dx tt d ld lu:Addr) (sp:List (Str×Nat×Nat)),vs=[.ref x]/\H x=some (.ins t.aM dx (sf tt d ld lu))/\DP H d sp/\(fu sp).Nodup/\sp.length<64/\∀d' H',DP H' d' (fG sp)->H d'=none->ao H H'->Q (.ref d') H'
theorem zO{sp:List (Str×Nat×Nat)}{pp:List Addr}{i:Nat}{x:Str×Nat×Nat}{p:Addr}(hx:sp[i]?=some x)(hl:pp.length=i):fF (sp.take (i+1)) (pp++[p])=fF (sp.take i) pp++[(Sum.inr x.1,V.ref p)]:=by
 have hi:=(List.getElem?_eq_some_iff.mp hx).1
 rw[take_snoc hx,Nq (by rw[List.length_take,hl];lia)]
 rfl
theorem Oo (T:Txt K mg t):aZ P w K mg base c7 1 t.EH t.J3 ["self"] (Hf t):=by
 refine T.JL.ok Rl ?_ ?_
 walk_at "i"
 ·obtain⟨x,dx,tt,d,ld,lu,sp,rfl,hx,⟨ps,hd⟩,hn,h64,q⟩:=h
  have sz:=sizeLine_eq
  have hsl:(fG sp).length=sp.length:=by unfold fG;rw[List.length_map,(gR _).length_eq,List.length_map]
  have hnl:(fh (fu sp)).length=sp.length:=by rw[(gR _).length_eq,List.length_map]
  refine ay (@aG _ _ _ _ (@d8 _ _ _ _ _ _ _ _ _ (@q8 _ rfl) (by rfl) T.FW (by decide +kernel) (aa (@iu _ (aq EL) _ ["self"] _ _ ("name") _ _ [("self",0)] _ _ (by walk_at "ck") (@eB _ _ _ _ (@aK _ _ _ _ _ _ _ _ _ (@ux _ rfl) (by rfl) T.Gu (by decide +kernel) (aa (@aF _ _ _ _ _ (pv 0) rfl) ai (by left)) (by left) (by left) (by left) (by left))) (λ_ _ _ _=>by exact(@gc _ _ _ _ _ (aa (pv 1) (aa (@Ax _ _ _ _ _ _ (pF hr) (@kL _ K _ _ _ _ (pv 0) rfl (by left)) (pv 1) (λ_ _=>rfl)) ai (by left)) (by left)))) (by left) (by left) (by left) (by left)) ai (by left)) (by left) (by left) (by left) (by left))) (⟨_,rfl,_,_,_,_,_,rfl,hx,T.bJ,T.cS,rfl,⟨d,_,fu sp,rfl,hd.ob,ua hd.len,by rw[List.length_map];exact h64,λl hl=>⟨l,rfl,⟨_,aY.of af⟩,?_⟩⟩⟩)
  have s1:ao H (upd H l (.lst ((fh (fu sp)).map V.str))):=ao.upd hl
  have hl1:upd H l (.lst ((fh (fu sp)).map V.str)) l=some (.lst ((fh (fu sp)).map V.str)):=af
  generalize upd H l (.lst ((fh (fu sp)).map V.str))=H1 at s1 hl1
  refine iz (xs:=(fh (fu sp)).map V.str) (λi ys H2=>∃qs pp:List Addr,ys=qs.map V.ref/\pp.length=i/\bO (λ(q:Addr) (kv:Key×V)=>H2 q=some (.tup [kV kv.1,kv.2])) qs (fF ((fG sp).take i) pp)/\bO (λp (y:Str×Nat×Nat)=>H2 p=some (.tup [b7 y.2.1,b7 y.2.2])) pp ((fG sp).take i)/\ao H1 H2) ⟨[],[],rfl,rfl,bO.nil,bO.nil,ao.refl H1⟩ (eV (by rw[List.length_map];lia)) ?_ ?_ ?_
  ·rintro i ys H2 _ ⟨qs,pp,_,_,_,_,s2⟩
   exact aY.of (s2 _ _ hl1)
  ·rintro i xv ys H2 hxv hyl ⟨qs,pp,rfl,hpl,hq2,hp2,s2⟩
   rw[List.getElem?_map] at hxv
   obtain⟨n,hni,rfl⟩:=Option.map_eq_some_iff.mp hxv
   have hi:=(List.getElem?_eq_some_iff.mp hni).1
   have hsi:(fG sp)[i]?=some (n,Aj sp n):=by unfold fG;rw[List.getElem?_map,hni];rfl
   obtain⟨j,y,hj,rfl⟩:=A4 ((gR _).mem_iff.mp (List.mem_of_getElem? hni))
   have lj:=(List.getElem?_eq_some_iff.mp hj).1
   obtain⟨pj,ep⟩:∃pj,ps[j]?=some pj:=⟨_,List.getElem?_eq_getElem (by rw[hd.len];exact lj)⟩
   have hs12:=s1.trans s2
   have hg:=nG.k (k:=Sum.inr y.1) (hs12 _ _ hd.ob)
   rw[zj hn hj ep] at hg
   refine⟨_,rfl,_,rfl,x,t.aM,dx,_,_,rfl,hs12 _ _ hx,T.bJ,T.cS,rfl,_,rfl,d,_,rfl,hg,by show 2<=sizeLine;decide,λp hp=>fm (by rw[List.length_map];exact hi) hyl ⟨qs++[p],pp++[pj],by rw[List.map_append];rfl,by rw[List.length_append,hpl];rfl,?_,?_,s2.trans (ao.upd hp)⟩⟩
   ·rw[zO hsi hpl]
    exact bO.snoc (hq2.mono λ_ _ e=>ao.upd hp _ _ e) af
   ·rw[take_snoc hsi]
    refine bO.snoc (hp2.mono λ_ _ e=>ao.upd hp _ _ e) ?_
    have:=hd.pl.2 j _ _ ep hj
    rw[Dq hn hj]
    exact ao.upd hp _ _ (hs12 _ _ this)
  ·rintro ys H2 hyl ⟨qs,pp,rfl,hpl,hq2,hp2,s2⟩ D hD
   rw[List.length_map,hnl,← hsl,List.take_length] at hq2 hp2
   rw[List.length_map,hnl,← hsl] at hpl
   have hnd:=AJ hn
   refine⟨D,qs,fF (fG sp) pp,rfl,af,(hq2.mono λ_ _ e=>ao.upd hD _ _ e),by rw[lU hpl];lia,λd' hd'=>?_⟩
   rw[vM hpl hnd]
   have s3:=(ao.upd hD (o:=.lst (qs.map V.ref))).trans (ao.upd hd' (o:=.dK (fF (fG sp) pp)))
   exact q d' _ ⟨pp,hpl,af,hp2.mono λ_ _ e=>s3 _ _ e⟩ ((s1.trans (s2.trans (ao.upd hD))).free hd') (s1.trans (s2.trans s3))
noncomputable def Rf(t:eS):Sp:=λvs H Q _=>∃(S:Addr->Prop) (x dx tt d ld lu dt a lg lt:Addr) (gs:List Addr) (ms:List aD) (Gs:List bX) (ds:List V) (i:Nat) (m:Int),vs=[.ref x,.int i,.ref lt,.int m]/\S x/\S ld/\Ex S H/\H x=some (.ins t.aM dx (sf tt d ld lu))/\cU t (hid S H) tt dt a lg gs ms Gs/\Gs.length<=100000/\H ld=some (.lst ds)/\ds.length<=100000 /\
 ∀dd ddx lv lu' H',H' x=some (.ins t.aM dx (sf tt d ld lu'))->H' ld=some (.lst (ds++[.ref dd]))->H' lu'=some (.lst [])->H' dd=some (.ins t.fB ddx (df i lt lv d .cu))->H' lv=some (.lst (cF ((Gs.map (·.row)).map V.str) (some (i:Int)) (some ((i:Int)+m))))->H dd=none->H lv=none->(∀b o,H b=some o->b≠x->b≠ld->H' b=some o)->Q .cu H'
theorem Qc (T:Txt K mg t):aZ P w K mg base c7 3 t.F8 t.KA ["self","row","taken","many"] (Rf t):=by
 refine T.K0.ok Fp ?_ ?_
 walk_at "i"
 ·obtain⟨S,x,dx,tt,d,ld,lu,dt,a,lg,lt,gs,ms,Gs,ds,i,m,rfl,hSx,hSl,hE,hx,I,hgl,hld,hdl,q⟩:=h
  have I0:=I.same aH
  refine au (dW 4 Fp (cW fJ (bA (aF (pv 0) rfl) T.aT T.vW (qV T) hr.m (T.r9.binds (by walk_at "1")) .nil aE) (cE (pv 1)) (cE (aW bZ (pv 1) (pv 3))))) (⟨_,rfl,_,_,_,_,_,rfl,hx,T.bJ,T.eG,rfl,⟨tt,dt,_,rfl,I0.ob,rfl,tt,dt,a,lg,gs,ms,Gs,rfl,I0,hgl,λl1 H1 h1 f1 s1=>?_⟩⟩)
  refine⟨_,rfl,_,rfl,_,rfl,_,rfl,_,_,rfl,rfl,_,rfl,l1,_,rfl,aY.of h1,λlv flv=>?_⟩
  have hv2:upd H1 lv (.lst (cF ((Gs.map (·.row)).map V.str) (some (i:Int)) (some ((i:Int)+m)))) lv=some (.lst (cF ((Gs.map (·.row)).map V.str) (some (i:Int)) (some ((i:Int)+m)))):=af
  have s2:ao H (upd H1 lv (.lst (cF ((Gs.map (·.row)).map V.str) (some (i:Int)) (some ((i:Int)+m))))):=s1.trans (ao.upd flv)
  have flv0:H lv=none:=s1.free flv
  generalize upd H1 lv (.lst (cF ((Gs.map (·.row)).map V.str) (some (i:Int)) (some ((i:Int)+m))))=H2 at hv2 s2
  have hld2:=s2 _ _ hld
  refine au (bG (c5 F.plainAttrs_list F.slot_list_append F.type_list_append cG (aF (pv 0) rfl) (aa (dJ T.II (QB T) hr.m rfl T.F0 (T.Le.binds (by walk_at "5")) .nil aE (aa (pv 1) (aa (pv 2) (aa (pv 4) (aa (aF (pv 0) rfl) ai))))) ai))) (⟨_,rfl,_,_,_,_,_,rfl,(s2 _ _ hx),T.bJ,T.lC,rfl,⟨.inl ⟨rfl,_,aY.of hld2⟩,_,rfl,_,rfl,_,rfl,_,rfl,x,t.aM,dx,_,_,rfl,s2 _ _ hx,T.bJ,T.cS,rfl,λdd ddx ndd nddx ne=>⟨dd,ddx,lt,lv,d,i,rfl,af,rfl,?_⟩⟩⟩)
  rw[d9]
  have s3:ao H2 (upd (upd H2 ddx (.own dd)) dd (.ins t.fB ddx (df i lt lv d .cu))):=bN ndd nddx
  have hdd3:upd (upd H2 ddx (.own dd)) dd (.ins t.fB ddx (df i lt lv d .cu)) dd=some (.ins t.fB ddx (df i lt lv d .cu)):=af
  generalize upd (upd H2 ddx (.own dd)) dd (.ins t.fB ddx (df i lt lv d .cu))=H3 at s3 hdd3
  have s23:=s2.trans s3
  refine⟨ld,_,_,rfl,rfl,s3 _ _ hld2,eV (by lia),?_⟩
  have nlx:ld≠x:=cA hld hx (by intro z;cases z)
  have hx4:upd H3 ld (.lst (ds++[.ref dd])) x=some (.ins t.aM dx (sf tt d ld lu)):=by rw[aj (Ne.symm nlx)];exact s23 _ _ hx
  refine ay (bF (pv 0) (bV ai) rfl) ⟨by show 0<=sizeLine;decide,λlu' hlu=>⟨_,rfl,x,_,dx,_,rfl,ao.upd hlu _ _ hx4,T.bJ,T.jH,by show 4<1000;decide,?_⟩⟩
  have nux:lu'≠x:=λz=>by rw[z,hx4] at hlu;cases hlu
  have ku:∀{b o},upd H3 ld (.lst (ds++[.ref dd])) b=some o->b≠x->upd (upd (upd H3 ld (.lst (ds++[.ref dd]))) lu' (.lst [])) x (.ins t.aM dx (cB "undone" (.ref lu') (sf tt d ld lu))) b=some o:=λ{b o} e n=>by rw[aj n];exact ao.upd hlu _ _ e
  have n1:dd≠x:=λz=>by rw[z,s2 _ _ hx] at ndd;cases ndd
  have n2:lv≠ld:=λz=>by rw[z,hld] at flv0;cases flv0
  have n3:lv≠x:=λz=>by rw[z,hx] at flv0;cases flv0
  exact q dd ddx lv lu' _ af (ku af nlx) (by rw[aj nux,af]) (ku (by rw[aj (cA hdd3 (s3 _ _ hld2) (by intro z;cases z))];exact hdd3) n1) (ku (by rw[aj n2];exact s3 _ _ hv2) n3) (s2.free ndd) flv0 (λb o hb n1 n2=>ku (by rw[aj n2];exact s23 _ _ hb) n1)
structure SDone(t:eS)(S:Addr->Prop)(H H':Hp)(x dx tt dt a ld:Addr)(ms:List aD)(Gs Gs':List bX)(ds:List V)(sp':List (Str×Nat×Nat))(d:Addr)(i:Nat)(taken given:List V):Prop where
 ti:∃lg gs,cU t (hid S H') tt dt a lg gs ms Gs'
 ob:∃d' lu,H' x=some (.ins t.aM dx (sf tt d' ld lu))/\DP (hid S H') d' sp'/\H' lu=some (.lst [])/\H d'=none
 dn:∃dd ddx lt lv,H' ld=some (.lst (ds++[.ref dd]))/\H' dd=some (.ins t.fB ddx (df i lt lv d .cu))/\H' lt=some (.lst taken)/\H' lv=some (.lst given)/\H dd=none/\H lt=none/\H lv=none
 keep:∀b o,H b=some o->b≠x->b≠tt->b≠ld->H' b=some o
noncomputable def Eb(t:eS):Sp:=λvs H Q _=>∃(S:Addr->Prop) (x dx tt d ld lu dt a lg:Addr) (gs:List Addr) (ms:List aD) (Gs:List bX) (G:bX) (sp:List (Str×Nat×Nat)) (ds:List V) (i j:Nat) (z:Str) (fs:List Str) (ah bk:Nat) (Gm:List bX) (c:Nat) (Gs':List bX),vs=[.ref x,.int i,.int j,.str z]/\S x/\S ld/\Ex S H/\H x=some (.ins t.aM dx (sf tt d ld lu))/\cU t (hid S H) tt dt a lg gs ms Gs/\DP (hid S H) d sp/\(fu sp).Nodup/\sp.length<64/\(∀y∈sp,y.2.1<=100000/\y.2.2<=100000)/\H ld=some (.lst ds)/\ds.length<=100000 /\
 dB ms/\Gs[i]?=some G/\j<=G.row.length/\G.row.length<=1000/\z.length<=1000/\PySem.Txt.split (xT G.row j z) (Str.ofString "\n")=fs/\Gs.length<=50000/\Gs'.length<=100000/\fs.length<=50000/\fs≠[]/\jo ms Gs i 1 fs ah bk Gm c Gs' /\
 ∀H',SDone t S H H' x dx tt dt a ld ms Gs Gs' ds (sp.map λy=>(y.1,vN y.2 (i,j) z)) d i (cF ((Gs.map (·.row)).map V.str) (some (i:Int)) (some ((i:Int)+1))) (cF ((Gs'.map (·.row)).map V.str) (some (i:Int)) (some ((i:Int)+((SG z (Str.ofString "\n"):Int)+1))))->Q (.int ((Gm.length+c:Nat):Int)) H'
theorem A8(sp:List (Str×Nat×Nat))(f:Str×Nat×Nat->Nat×Nat):fu (sp.map λy=>(y.1,f y))=fu sp:=by
 show List.map _ (List.map _ _)=_
 rw[List.map_map]
 rfl
theorem sO{H1 H2:Hp}{d:Addr}{o:Obj}{kvs:List (Key×V)}(h:H1 d=some (.dK kvs))(s:ao (upd H1 d (.jU o (.dK kvs))) H2):ao H1 (upd H2 d (.dK kvs)):=λb u e=>by
 by_cases z:b=d
 ·rw[z,h] at e
  cases e
  rw[z,af]
 ·rw[aj z]
  exact s _ _ (by rw[aj z];exact e)
theorem HS{S:Addr->Prop}{H1:Hp}{d p:Addr}{o:Obj}{kvs:List (Key×V)}{xs:List V}(h:H1 d=some (.dK kvs))(e:hid S H1 p=some (.tup xs)):hid S (upd H1 d (.jU o (.dK kvs))) p=some (.tup xs) :=
 br (by rw[aj (cA (aH _ _ e) h (by intro z;cases z))];exact aH _ _ e) (cO e)
theorem Pj{S:Addr->Prop}{H1:Hp}{d:Addr}{u:HO}(h:Ex S H1):Ex S (upd H1 d u):=λb z=>by
 by_cases e:b=d
 ·exact⟨u,by rw[e,af]⟩
 ·obtain⟨o,ho⟩:=h b z
  exact⟨o,by rw[aj e];exact ho⟩
theorem Od (T:Txt K mg t):aZ P w K mg base c7 10 t.B9 t.Ko ["self","row","at","text"] (Eb t):=by
 refine T.J8.ok yo ?_ ?_
 walk_at "i"
 ·obtain⟨S,x,dx,tt,d,ld,lu,dt,a,lg,gs,ms,Gs,G,sp,ds,i,j,z,fs,ah,bk,Gm,c,Gs',rfl,hSx,hSl,hE,hx,I,⟨ps,hd⟩,hn,h64,hb,hld,hdl,GM_,hG,hj,hl,hz,hfs,hl1,hl1',hl2,hne,C,q⟩:=h
  have sz:=sizeLine_eq
  have I0:=I.same aH
  have hi:i<=50000:=by have:=(List.getElem?_eq_some_iff.mp hG).1;lia
  refine au (dW 4 yo (bA (aF (pv 0) rfl) T.aT T.vW (qV T) hr.m (T.r9.binds (by walk_at "1")) .nil aE)) (⟨_,rfl,_,_,_,_,_,rfl,hx,T.bJ,T.eG,rfl,⟨tt,dt,_,rfl,I0.ob,rfl,tt,dt,a,lg,gs,ms,Gs,rfl,I0,by lia,λla H1 h1 f1 s1=>?_⟩⟩)
  have I1:=I.same (aV s1)
  refine au (dW 5 yo (bz (aF (pv 0) rfl) T.aT T.Tw (O7 T) hr.m (T.K4.binds (by walk_at "4")) .nil aE (aa (pv 1) (aa (pv 2) (aa (pv 3) ai))))) (⟨_,rfl,_,_,_,_,_,rfl,(s1 _ _ hx),T.bJ,T.eG,rfl,⟨tt,dt,_,rfl,aH _ _ I1.ob,rfl,_,rfl,_,rfl,_,rfl,S,tt,dt,a,lg,gs,ms,Gs,G,i,j,z,fs,ah,bk,Gm,c,Gs',rfl,hE.same s1,I1,GM_,hG,hj,hl,hz,hfs,hl1,hl2,hne,C,λlg' gs' H2 I2 f2 a2=>?_⟩⟩)
  have htt:=aH _ _ I.ob
  have nS:¬ S tt:=cO I.ob
  have k2:∀{b o},H b=some o->b≠tt->H2 b=some o:=λ{b o} e n=>a2 b o (s1 _ _ e) n
  have nx:x≠tt:=λy=>nS (by rw[← y];exact hSx)
  have nl:ld≠tt:=λy=>nS (by rw[← y];exact hSl)
  have hx2:=k2 hx nx
  have hld2:=k2 hld nl
  have nla:la≠tt:=cA h1 (s1 _ _ htt) (by intro y;cases y)
  have hla2:=a2 _ _ h1 nla
  have hE2:Ex S H2:=λb y=>let ⟨o,ho⟩:=hE b y;⟨o,k2 ho (λe=>nS (by rw[← e];exact y))⟩
  have hd2:S7 (hid S H2) d sp ps:=by
   refine⟨hd.len,br (k2 (aH _ _ hd.ob) (cA (aH _ _ hd.ob) htt (by intro y;cases y))) (cO hd.ob),hd.pl.mono λp y e=>br (k2 (aH _ _ e) (cA (aH _ _ e) htt (by intro y;cases y))) (cO e)⟩
  have fla:∀{b},H2 b=none->b≠tt->H b=none:=λ{b} e n=>by
   cases g:H b with
   |none=>rfl
   |some o=>rw[k2 g n] at e;cases e
  have tt2:=aH _ _ I2.ob
  refine au (bG (bz (pv 0) T.bJ T.Sk (Qc T) hr.m (T.K0.binds (by walk_at "4")) .nil aE (aa (pv 1) (aa (cW fJ (pv 4) (cE (pv 1)) (cE (aW bZ (pv 1) aB))) (aa (aW bZ (c5 F.plainAttrs_str F.slot_str_count F.type_str_count Fo (pv 3) (aa aJ ai)) aB) ai))))) ⟨_,rfl,x,dx,_,rfl,hx2,rfl,_,rfl,_,rfl,_,rfl,_,rfl,_,rfl,_,_,rfl,rfl,_,rfl,la,_,rfl,aY.of hla2,λlt BV=>⟨_,rfl,rfl,z,Str.ofString "\n",rfl,rfl,_,_,rfl,rfl,?_⟩⟩
  have s3:ao H2 (upd H2 lt (.lst (cF ((Gs.map (·.row)).map V.str) (some (i:Int)) (some ((i:Int)+1))))):=ao.upd BV
  have hlt3:upd H2 lt (.lst (cF ((Gs.map (·.row)).map V.str) (some (i:Int)) (some ((i:Int)+1)))) lt=some (.lst (cF ((Gs.map (·.row)).map V.str) (some (i:Int)) (some ((i:Int)+1)))):=af
  generalize upd H2 lt (.lst (cF ((Gs.map (·.row)).map V.str) (some (i:Int)) (some ((i:Int)+1))))=H3 at s3 hlt3
  have flt0:H lt=none:=fla BV (λy=>by rw[y,tt2] at BV;cases BV)
  refine⟨S,x,dx,tt,d,ld,lu,dt,a,lg',lt,gs',ms,Gs',ds,i,_,rfl,hSx,hSl,hE2.same s3,s3 _ _ hx2,I2.same (aV s3),hl1',s3 _ _ hld2,hdl,λdd ddx lv lu' H4 e1 e2 e3 e4 e5 e6 e7 e8=>?_⟩
  have s34:∀{b o},H2 b=some o->b≠x->b≠ld->H4 b=some o:=λ{b o} e n1 n2=>e8 b o (s3 _ _ e) n1 n2
  have sh:ao (hid S H2) (hid S H4):=λb o e=>br (s34 (aH _ _ e) (λy=>cO e (by rw[y];exact hSx)) (λy=>cO e (by rw[y];exact hSl))) (cO e)
  have I4:=I2.same sh
  have hd4:=hd2.same sh
  have hE4:Ex S H4:=λb y=>by
   by_cases z1:b=x
   ·exact⟨_,by rw[z1];exact e1⟩
   ·by_cases z2:b=ld
    ·exact⟨_,by rw[z2];exact e2⟩
    ·obtain⟨o,ho⟩:=hE2 b y
     exact⟨o,s34 ho z1 z2⟩
  have hlt4:H4 lt=some (.lst (cF ((Gs.map (·.row)).map V.str) (some (i:Int)) (some ((i:Int)+1)))):=e8 _ _ hlt3 (cA hlt3 (s3 _ _ hx2) (by intro y;cases y)) (λy=>by rw[y,hld] at flt0;cases flt0)
  have hob4:=aH _ _ hd4.ob
  have fdd:H dd=none:=fla (s3.free e6) (λy=>by rw[y,s3 _ _ tt2] at e6;cases e6)
  have flv:H lv=none:=fla (s3.free e7) (λy=>by rw[y,s3 _ _ tt2] at e7;cases e7)
  have k4:∀b o,H b=some o->b≠x->b≠tt->b≠ld->H4 b=some o:=λb o e n1 n2 n3=>s34 (k2 e n2) n1 n3
  have tt4:=aH _ _ I4.ob
  clear s34 sh e8 e6 e7 s3 hlt3 I2 hd2 hE2 fla I1 I0 hla2 hx2 hld2
  refine au (@bF _ _ _ _ _ _ _ _ (pv 0) (@d8 _ _ _ _ _ _ _ _ _ (@q8 _ rfl) (by rfl) T.FW (by decide +kernel) (aa (@zZ _ _ _ (@iu _ (aq Fw) _ ["self","row","at","text","ahead","count"] _ _ ("name") _ _ [("text",3),("row",1),("at",2),("self",0)] _ _ (by walk_at "ck") (@IA _ _ _ _ (@aF _ _ _ _ _ (pv 0) rfl)) (λ_ _ _ _=>by exact(@gc _ _ _ _ _ (aa (pv 4) (aa (@aQ _ _ _ _ _ _ _ _ _ _ _ _ _ _ _ _ (Ox T) hr.m rfl T.Rj T.E7.kp (T.E7.binds (by walk_at "3")) .nil aE (aa (@Ax _ _ _ _ _ _ (pF hr) (@kL _ K _ _ _ _ (pv 3) rfl (by left)) (pv 4) (λ_ _=>rfl)) (aa (@gc _ _ _ _ _ (aa (pv 1) (aa (pv 2) ai (by left)) (by left))) (aa (pv 0) ai (by left)) (by left)) (by left)) (by left) (by left) (by left)) ai (by left)) (by left)))) (by left) (by left) (by left) (by left))) ai (by left)) (by left) (by left) (by left) (by left)) rfl) (⟨_,rfl,_,_,_,_,_,rfl,e1,T.bJ,T.cS,rfl,⟨d,_,rfl,hob4,λo nf=>?_⟩⟩)
  have hsl:(sp.map λy=>(y.1,vN y.2 (i,j) z)).length=sp.length:=List.length_map ..
  refine Bb (λk ys H5=>∃qs pp:List Addr,ys=qs.map V.ref/\pp.length=k/\bO (λ(q:Addr) (kv:Key×V)=>H5 q=some (.tup [kV kv.1,kv.2])) qs (fF ((sp.map λy=>(y.1,vN y.2 (i,j) z)).take k) pp)/\bO (λp (y:Str×Nat×Nat)=>hid S H5 p=some (.tup [b7 y.2.1,b7 y.2.2])) pp ((sp.map λy=>(y.1,vN y.2 (i,j) z)).take k)/\ao (upd H4 d (.jU o (.dK (fF sp ps)))) H5) ⟨[],[],rfl,rfl,bO.nil,bO.nil,ao.refl _⟩ (eV (by rw[lU hd.len];lia)) ?_ ?_ ?_
  ·rintro k ys H5 _ ⟨qs,pp,_,_,_,_,s5⟩
   exact s5 _ _ af
  ·rintro k kv ys H5 hkv hyl ⟨qs,pp,rfl,hpl,hq5,hp5,s5⟩
   have hk:k<sp.length:=by rw[← lU hd.len];exact(List.getElem?_eq_some_iff.mp hkv).1
   have hy:sp[k]?=some sp[k]:=List.getElem?_eq_getElem hk
   obtain⟨pk,ep⟩:∃pk,ps[k]?=some pk:=⟨_,List.getElem?_eq_getElem (by rw[hd.len];exact hk)⟩
   generalize sp[k]=y at hy
   rw[S9 hy ep] at hkv
   cases hkv
   have hyk:(sp.map λy=>(y.1,vN y.2 (i,j) z))[k]?=some (y.1,vN y.2 (i,j) z):=by rw[List.getElem?_map,hy];rfl
   obtain⟨y1,y2⟩:=hb y (List.mem_of_getElem? hy)
   have hE5:Ex S H5:=(Pj hE4).same s5
   have hx5:H5 x=some (.ins t.aM dx (sf tt d ld lu')):=s5 _ _ (by rw[aj (cA e1 hob4 (by intro y;cases y))];exact e1)
   have hpk:=(aV s5) _ _ (HS (o:=o) hob4 (hd4.pl.2 k _ _ ep hy))
   refine⟨_,rfl,_,rfl,x,t.aM,dx,_,_,rfl,hx5,T.bJ,T.cS,rfl,_,rfl,d,_,rfl,.inl ⟨_,Sum.inr y.1,.inr ⟨o,s5 _ _ af⟩,rfl,(zj hn hy ep).symm⟩,_,rfl,_,rfl,by show 2<=sizeLine;decide,λf hf=>⟨_,rfl,S,pk,f,y.2,(i,j),z,rfl,hE5.same (ao.upd hf),(aV (ao.upd hf)) _ _ hpk,br af (hE5.new hf),hz,y1,y2,(by show i<=_;lia),(by show j<=_;lia),λp' H6 hp' s6=>⟨by show 2<=sizeLine;decide,λr hr'=>fm (by rw[lU hd.len];exact hk) hyl ⟨qs++[r],pp++[p'],by rw[List.map_append];rfl,by rw[List.length_append,hpl];rfl,?_,?_,s5.trans ((ao.upd hf).trans (s6.trans (ao.upd hr')))⟩⟩⟩⟩
   ·rw[zO hyk hpl]
    exact bO.snoc (hq5.mono λ_ _ e=>ao.upd hr' _ _ (s6 _ _ (ao.upd hf _ _ e))) af
   ·rw[take_snoc hyk]
    exact bO.snoc (hp5.mono λ_ _ e=>(aV ((ao.upd hf).trans (s6.trans (ao.upd hr')))) _ _ e) ((aV (ao.upd hr')) _ _ hp')
  ·rintro ys H5 hyl ⟨qs,pp,rfl,hpl,hq5,hp5,s5⟩ D hD
   rw[lU hd.len,← hsl,List.take_length] at hq5 hp5
   rw[lU hd.len,← hsl] at hpl
   have hnd:(fu (sp.map λy=>(y.1,vN y.2 (i,j) z))).Nodup:=by rw[A8];exact hn
   have hd5:H5 d=some (.jU o (.dK (fF sp ps))):=s5 _ _ af
   have ndD:d≠D:=ak hd5 hD
   refine⟨d,o,_,by rw[aj ndD];exact hd5,nf,D,qs,fF (sp.map λy=>(y.1,vN y.2 (i,j) z)) pp,rfl,by rw[aj (Ne.symm ndD),af],⟨hq5.1,λk b kv g1 g2=>?_⟩,by rw[lU hpl,hsl];lia,λd' hd'=>?_⟩
   ·have e:=hq5.2 k b kv g1 g2
    rw[aj (cA e hd5 (by intro y;cases y))]
    exact ao.upd hD _ _ e
   rw[vM hpl hnd]
   have s6:ao H4 (upd (upd H5 D (.lst (qs.map V.ref))) d (.dK (fF sp ps))):=sO hob4 (s5.trans (ao.upd hD))
   have hpp:bO (λp (y:Str×Nat×Nat)=>hid S (upd (upd H5 D (.lst (qs.map V.ref))) d (.dK (fF sp ps))) p=some (.tup [b7 y.2.1,b7 y.2.2])) pp (sp.map λy=>(y.1,vN y.2 (i,j) z)):=hp5.mono λp y e=>br (by rw[aj (cA (aH _ _ e) hd5 (by intro y;cases y))];exact ao.upd hD _ _ (aH _ _ e)) (cO e)
   generalize upd (upd H5 D (.lst (qs.map V.ref))) d (.dK (fF sp ps))=H6 at s6 hpp hd'
   have s7:ao H6 (upd H6 d' (.dK (fF (sp.map λy=>(y.1,vN y.2 (i,j) z)) pp))):=ao.upd hd'
   have hd7:upd H6 d' (.dK (fF (sp.map λy=>(y.1,vN y.2 (i,j) z)) pp)) d'=some (.dK (fF (sp.map λy=>(y.1,vN y.2 (i,j) z)) pp)):=af
   have hd4':H4 d'=none:=s6.free hd'
   generalize upd H6 d' (.dK (fF (sp.map λy=>(y.1,vN y.2 (i,j) z)) pp))=H7 at s7 hd7
   have s47:=s6.trans s7
   refine⟨_,rfl,x,_,dx,_,rfl,s47 _ _ e1,T.bJ,T.cS,by show 4<1000;decide,?_⟩
   have ndx:d'≠x:=λy=>by rw[y,e1] at hd4';cases hd4'
   have nSd:¬ S d':=hE4.new hd4'
   have ku:∀{b u},H4 b=some u->b≠x->upd H7 x (.ins t.aM dx (cB "places" (.ref d') (sf tt d ld lu'))) b=some u:=λ{b u} e n=>by rw[aj n];exact s47 _ _ e
   have su:ao (hid S H7) (hid S (upd H7 x (.ins t.aM dx (cB "places" (.ref d') (sf tt d ld lu'))))):=nT hSx
   refine ay (aG (pv 5)) ⟨_,rfl,q _ ⟨⟨lg',gs',(I4.same (aV s47)).same su⟩,⟨d',lu',af,⟨pp,hpl,su _ _ (br hd7 nSd),hpp.mono λp y e=>su _ _ ((aV s7) _ _ e)⟩,ku e3 (λy=>by rw[y,e1] at e3;cases e3),?_⟩,⟨dd,ddx,lt,lv,ku e2 (λy=>by rw[y,e1] at e2;cases e2),ku e4 (λy=>?_),ku hlt4 (λy=>by rw[y,e1] at hlt4;cases hlt4),ku e5 (λy=>by rw[y,e1] at e5;cases e5),fdd,flt0,flv⟩,λb u e n1 n2 n3=>ku (k4 b u e n1 n2 n3) n1⟩⟩
   ·cases g:H d' with
    |none=>rfl
    |some u =>
     have:=k4 d' u g ndx (λy=>by rw[y,tt4] at hd4';cases hd4') (λy=>by rw[y,e2] at hd4';cases hd4')
     rw[hd4'] at this;cases this
   ·rw[y,hx] at fdd;cases fdd
theorem len0:(Str.ofString "0").length=1:=by decide +kernel
noncomputable def NY:Sp:=λvs H Q _=>vs=[.str "0"]/\∀H',ao H H'->Q (.bl true) H'
theorem Oz (T:Txt K mg t):aZ P w K mg base c7 1 t.GG t.Kd ["word"] NY:=by
 refine T.Ej.ok Px (λvs H Q E h=>?_) (λcdv A outer s H vs Q E hr h=>oV ?_)
 ·obtain⟨rfl,_⟩:=h
  rfl
 ·obtain⟨rfl,q⟩:=h
  refine aI (λZ' H'=>Z'=[some (.str "0")]/\ao H H') (@aX _ _ _ _ _ _ _ _ (@PW.pt _ _ _ (@ie _ _ _ _ _ _ _ (@az _ _ _ _ _ _ _ _ gx (@aK _ _ _ _ _ _ _ _ _ bf (by rfl) T.bU (by decide +kernel) (aa (pv 0) ai (by left)) (by left) (by left) (by left) (by left)) aB (aC _)) (@ie _ _ _ _ _ _ _ (@az _ _ _ _ _ _ _ _ jG (@aK _ _ _ _ _ _ _ _ _ bf (by rfl) T.bU (by decide +kernel) (aa (pv 0) ai (by left)) (by left) (by left) (by left) (by left)) (@fj _ _ _ _ rfl T.nh (by left)) (aC _)) (@gj _ _ _ _ (@l0 _ _ _ _ (@iF _ _ _ (@aK _ _ _ _ _ _ _ _ _ (nP rfl) (by rfl) T.G4 (by decide +kernel) (aa (@iu _ (aq Cq) _ ["word"] _ _ ("sign") _ _ [] _ _ (by walk_at "ck") (@yM _ _ _ _ _ (pv 0)) (λ_ _ _ _=>by exact(@ef _ _ _ _ _ _ _ _ ji (pv 0) (@fj _ _ _ _ rfl T.wJ (by left)) rfl)) (by left) (by left) (by left) (by left)) ai (by left)) (by left) (by left) (by left) (by left)) (by left))))))) av av) ?_ ?_
  ·walk_at "rd"
   rw[len0]
   refine⟨by show 1<=sizeLine;decide,kj ⟨by show 1<=sizeLine;decide,kj ?_⟩⟩
   refine⟨_,rfl,_,rfl,wc (λi ys H2=>H2=H/\ys=List.replicate i (V.bl true)) ⟨rfl,rfl⟩ (by rw[len0];decide) ?_ ?_⟩
   ·rintro i c ys H2 hc hl ⟨rfl,rfl⟩
    have hi:i<(Str.ofString "0").length:=by
     have:=(List.getElem?_eq_some_iff.mp hc).1
     simpa [Str.length] using this
    have hi0:i=0:=by rw[len0] at hi;lia
    subst hi0
    obtain rfl:c=48:=by
     have e:(Str.ofString "0").cps.toList[0]?=some 48:=by decide +kernel
     rw[e] at hc
     exact(Option.some.inj hc).symm
    refine⟨_,rfl,_,rfl,_,rfl,?_⟩
    rw[PySem.StrLaws.found_one]
    exact fm hi hl ⟨rfl,by rw[show decide (48∈(Str.ofString "0123456789").cps.toList)=true by decide +kernel];rfl⟩
   ·rintro ys H2 hl ⟨rfl,rfl⟩ D hD
    refine⟨D,rfl,[true],aY.of (by rw[af,len0];rfl),kj ?_⟩
    exact aU ⟨rfl,ao.upd hD⟩
  rintro Z' H' ⟨rfl,s1⟩
  refine ay (aG (Sj (ef bS (pv 0) aJ (aC _)) (yy (yO (c5 F.plainAttrs_str F.slot_str_startswith F.type_str_startswith pG (pv 0) (aa aJ ai)))))) ?_
  walk_at "rd"
  exact⟨rfl,u6 (q _ s1)⟩
noncomputable def Ht:Sp:=λvs H Q _=>∃k:Str,vs=[.str "0",.str k]/\k ≠ "NAME" /\ ∀H',ao H H'->Q (.bl true) H'
theorem Rb (T:Txt K mg t):aZ P w K mg base c7 2 t.EU t.L3 ["word","kind"] Ht:=by
 refine T.Df.ok QO ?_ ?_
 walk_at "i"
 ·obtain⟨k,rfl,hk,q⟩:=h
  refine ay (aG (bH (az bS (pv 1) aJ (aC _)) (ef iY (pv 0) aJ (aC _)) (aQ (Oz T) hr.m rfl T.NK T.Ej.kp (T.Ej.binds (by walk_at "1")) .nil aE (aa (pv 0) ai)))) ?_
  walk_at "rd"
  refine⟨rfl,?_⟩
  rw[decide_eq_false hk]
  exact kj ⟨rfl,q⟩
def lf (hd:Str) (ln lm:Addr) (b:Str):List (Str×V):=[("head",.str hd),("names",.ref ln),("numbers",.ref lm),("body",.str b)]
structure ud(t:eS)(H:Hp)(x:Addr)(hd:Str)(n:Nat)(b:Str):Prop where
 at_:∃dx ln lm,H x=some (.ins t.dS dx (lf hd ln lm b))/\H ln=some (.lst [])/\H lm=some (.lst (List.replicate n (.int 0)))
structure xS(t:eS)(K:PySem.W.Frag)(hd:Str)(n:Nat)(g:Addr)(ks:List Str):Prop where
 kinds:∀H,fN K H g (ks.map V.str)
 len:ks.length=n
 few:n<=4
 no:∀k∈ks,k ≠ "NAME"
def listed (t:eS):List (Str×V):=[("rules",.ref t.iJ),("put",.ref t.iD),("cut",.ref t.qp),("undo",.ref t.pS),("redo",.ref t.qa),("mark",.ref t.qj),("drop",.ref t.qv),("marks",.ref t.jy),("row",.ref t.pU),("tint",.ref t.qU),("folds",.ref t.oq),("never",.ref t.iS)]
def wordsOf (hd:Str) (n:Nat):List Str:=hd::List.replicate n ("0" : Str)
def z0 (n:Nat):List V:=List.replicate n (V.str "0")
theorem nu{n:Nat}:(z0 n).length=n:=List.length_replicate
theorem lF{hd:Str}{n:Nat}:cF ((wordsOf hd n).map V.str) (some 1) none=z0 n:=by
 have:=mQ (xs:=(wordsOf hd n).map V.str) (i:=1) (by simp[wordsOf])
 rw[show ((1:Nat):Int)=1 from rfl] at this
 rw[this,wordsOf,List.map_cons,List.drop_one,List.tail_cons,List.map_replicate]
 rfl
theorem U6:[V.str "0"]=[V.str (PySem.Str.ofString (toString (0:Int)))]:=rfl
noncomputable def Iu(t:eS)(K:PySem.W.Frag):Sp:=λvs H Q _=>∃(x dx lw g:Addr) (hd b:Str) (n:Nat) (ks:List Str),vs=[.ref x,.ref lw,.str b]/\H x=some (.ins t.dS dx [])/\H lw=some (.lst ((wordsOf hd n).map V.str))/\eY (listed t) hd=some (.ref g)/\xS t K hd n g ks/\∀H',ud t H' x hd n b->fV H H' x->Q .cu H'
theorem Qa (T:Txt K mg t) (hw:t.pr=w.params):aZ P w K mg base c7 1 t.CJ t.Kn ["self","words","body"] (Iu t K):=by
 refine T.KP.ok Fz ?_ ?_
 walk_at "i"
 ·obtain⟨x,dx,lw,g,hd,b,n,ks,rfl,hx,hlw,hg,hS,q⟩:=h
  refine au (dW 3 Fz (An (fq rfl T.lT (v:=V.ref t.gY) rfl) (bw bq (pv 1) aB (λ_ _=>rfl)) (λ_ _=>rfl))) ⟨_,rfl,lw,_,0,.str hd,rfl,rfl,aY.of hlw,bM (j:=0) rfl,t.gY,listed t,hd,.ref g,rfl,hw ▸ T.kH,rfl,hg,?_⟩
  refine au (bF (pv 0) (bw bq (pv 1) aB (λ_ _=>rfl)) rfl) ⟨_,rfl,lw,_,0,.str hd,rfl,rfl,aY.of hlw,bM (j:=0) rfl,_,rfl,x,_,dx,[],rfl,hx,T.dh,T.cz,by decide,?_⟩
  have nlx:lw≠x:=λz=>by rw[z,hx] at hlw;cases hlw
  have hx1:upd H x (.ins t.dS dx (cB "head" (.str hd) [])) x=some (.ins t.dS dx [("head",.str hd)]):=af
  have hl1:upd H x (.ins t.dS dx (cB "head" (.str hd) [])) lw=some (.lst ((wordsOf hd n).map V.str)):=by rw[aj nlx];exact hlw
  have a1:fV H (upd H x (.ins t.dS dx (cB "head" (.str hd) []))) x:=fV.upd
  generalize upd H x (.ins t.dS dx (cB "head" (.str hd) []))=H1 at hx1 hl1 a1
  clear hx hlw nlx
  refine au (@bF _ _ _ _ _ _ _ _ (pv 0) (@pY _ (aq zM) _ ["self","words","body","kinds"] _ _ _ ["word","kind"] _ (g2 K) _ [] _ _ _ (by walk_at "ck") (@tK _ _ _ _ _ _ _ _ _ rfl T.z7 (aa (@cW _ _ _ _ _ _ _ _ _ _ fJ (pv 1) (@cE _ _ _ aB) gh) (aa (pv 3) ai (by left)) (by left)) (by left) (by left)) (λ_ _ _ _=>by exact gZ rfl (bR (eW (i:=0) (show (["word","kind"]:List Str).Nodup by decide +kernel) rfl (Or.inl rfl)) (bR (eW (i:=1) (show (["word","kind"]:List Str).Nodup by decide +kernel) rfl (Or.inl rfl)) fH))) (λ_ _ _ _=>by exact(@az _ _ _ _ _ _ _ _ bS (pv 1) aJ (aC _))) (λ_ _ _ _=>by exact(pv 0)) (by left) (by left) (by left) (by left)) rfl) ⟨_,rfl,1,rfl,lw,_,rfl,aY.of hl1,λp hp=>?_⟩
  rw[lF]
  refine⟨_,rfl,p,g,z0 n,ks.map V.str,rfl,aY.of af,hS.kinds _,oz (xs:=z0 n) (zs:=ks.map V.str) (λi ys H2=>ys=[]/\ao (upd H1 p (.lst (z0 n))) H2) ⟨rfl,ao.refl _⟩ (Nat.lt_of_le_of_lt (Nat.le_of_eq nu) (Nat.lt_of_le_of_lt hS.few (by decide))) ?_ ?_ ?_⟩
  ·rintro i ys H2 ⟨rfl,s2⟩
   exact⟨aY.of (s2 _ _ af),hS.kinds _⟩
  ·rintro i u z ys H2 r hu hz hr2 hl ⟨rfl,s2⟩
   have hi:=(List.getElem?_eq_some_iff.mp hu).1
   have hj:=(List.getElem?_eq_some_iff.mp hz).1
   obtain⟨k,hk,rfl⟩:∃k,ks[i]?=some k/\V.str k=z:=by
    rw[List.getElem?_map] at hz
    exact Option.map_eq_some_iff.mp hz
   exact⟨_,rfl,rfl,_,rfl,dR (λz=>absurd (V.str.inj z) (hS.no k (List.mem_of_getElem? hk))) λ_=>qS hi hj (Nat.zero_le _) ⟨rfl,s2.trans (ao.upd hr2)⟩⟩
  rintro i ys H2 hi ⟨rfl,s2⟩ ln hln
  have s3:ao H1 H2:=(ao.upd hp).trans s2
  refine⟨_,rfl,x,_,dx,[("head",.str hd)],rfl,(s3.to hln) _ _ hx1,T.dh,T.tT,by show 1<1000;decide,?_⟩
  have nlx:ln≠x:=λz=>by rw[z,s3 _ _ hx1] at hln;cases hln
  have hx2:upd (upd H2 ln (.lst [])) x (.ins t.dS dx (cB "names" (.ref ln) [("head",.str hd)])) x=some (.ins t.dS dx [("head",.str hd),("names",.ref ln)]):=af
  have hl2:upd (upd H2 ln (.lst [])) x (.ins t.dS dx (cB "names" (.ref ln) [("head",.str hd)])) lw=some (.lst ((wordsOf hd n).map V.str)):=by
   rw[aj (λz=>by rw[z,hx1] at hl1;cases hl1)];exact(s3.to hln) _ _ hl1
  have hn2:upd (upd H2 ln (.lst [])) x (.ins t.dS dx (cB "names" (.ref ln) [("head",.str hd)])) ln=some (.lst []):=by rw[aj nlx,af]
  have a2:fV H (upd (upd H2 ln (.lst [])) x (.ins t.dS dx (cB "names" (.ref ln) [("head",.str hd)]))) x:=λc o hc nc=>by rw[aj nc];exact(s3.to hln) _ _ (a1 c o hc nc)
  generalize upd (upd H2 ln (.lst [])) x (.ins t.dS dx (cB "names" (.ref ln) [("head",.str hd)]))=H3 at hx2 hl2 hn2 a2
  clear s3 s2 hx1 hl1 a1 hp hln nlx
  clear hi
  clear i p H2 H1
  refine au (@bF _ _ _ _ _ _ _ _ (pv 0) (@pY _ (aq zM) _ ["self","words","body","kinds"] _ _ _ ["word","kind"] _ (g2 K) _ [] _ _ _ (by walk_at "ck") (@tK _ _ _ _ _ _ _ _ _ rfl T.z7 (aa (@cW _ _ _ _ _ _ _ _ _ _ fJ (pv 1) (@cE _ _ _ aB) gh) (aa (pv 3) ai (by left)) (by left)) (by left) (by left)) (λ_ _ _ _=>by exact gZ rfl (bR (eW (i:=0) (show (["word","kind"]:List Str).Nodup by decide +kernel) rfl (Or.inl rfl)) (bR (eW (i:=1) (show (["word","kind"]:List Str).Nodup by decide +kernel) rfl (Or.inl rfl)) fH))) (λ_ _ _ _=>by exact(@az _ _ _ _ _ _ _ _ iY (pv 1) aJ (aC _))) (λ_ _ _ _=>by exact(@d8 _ _ _ _ _ _ _ _ _ uc (by rfl) T.M9 (by decide +kernel) (aa (pv 0) ai (by left)) (by left) (by left) (by left) (by left))) (by left) (by left) (by left) (by left)) rfl) ⟨_,rfl,1,rfl,lw,_,rfl,aY.of hl2,λp hp=>?_⟩
  rw[lF]
  refine⟨_,rfl,p,g,z0 n,ks.map V.str,rfl,aY.of af,hS.kinds _,oz (xs:=z0 n) (zs:=ks.map V.str) (λi ys H2=>ys=List.replicate i (V.int 0)/\ao (upd H3 p (.lst (z0 n))) H2) ⟨rfl,ao.refl _⟩ (Nat.lt_of_le_of_lt (Nat.le_of_eq nu) (Nat.lt_of_le_of_lt hS.few (by decide))) ?_ ?_ ?_⟩
  ·rintro i ys H2 ⟨rfl,s2⟩
   exact⟨aY.of (s2 _ _ af),hS.kinds _⟩
  ·rintro i u z ys H2 r hu hz hr2 hl ⟨rfl,s2⟩
   have hi:=(List.getElem?_eq_some_iff.mp hu).1
   have hj:=(List.getElem?_eq_some_iff.mp hz).1
   obtain rfl:V.str "0" = u:=by
    rw[z0,List.getElem?_replicate,if_pos (by rw[nu] at hi;exact hi)] at hu
    exact Option.some.inj hu
   obtain⟨k,hk,rfl⟩:∃k,ks[i]?=some k/\V.str k=z:=by
    rw[List.getElem?_map] at hz
    exact Option.map_eq_some_iff.mp hz
   refine⟨_,rfl,rfl,_,rfl,jA (λ_=>?_) λz=>absurd (V.str.inj z) (hS.no k (List.mem_of_getElem? hk))⟩
   refine⟨_,rfl,0,U6,Int.le_refl _,by decide,?_⟩
   exact qS hi hj (by rw[List.length_append,List.length_replicate];exact Nat.le_refl _) ⟨by rw[List.replicate_succ'],s2.trans (ao.upd hr2)⟩
  rintro i ys H2 hi ⟨rfl,s2⟩ lm hlm
  have hin:i=n:=by
   rcases hi with h|h
   ·rw[h,nu]
   ·rw[h,List.length_map,hS.len]
  subst hin
  have s3:ao H3 H2:=(ao.upd hp).trans s2
  refine⟨_,rfl,x,_,dx,[("head",.str hd),("names",.ref ln)],rfl,(s3.to hlm) _ _ hx2,T.dh,T.ki,by show 2<1000;decide,?_⟩
  have nlx:lm≠x:=λz=>by rw[z,s3 _ _ hx2] at hlm;cases hlm
  have nnx:ln≠x:=λz=>by rw[z,hx2] at hn2;cases hn2
  refine ay (bF (pv 0) (pv 2) rfl) ⟨_,rfl,_,rfl,x,_,dx,[("head",.str hd),("names",.ref ln),("numbers",.ref lm)],rfl,af,T.dh,T.kh,by show 3<1000;decide,?_⟩
  rw[d9]
  refine q _ ⟨dx,ln,lm,af,?_,?_⟩ λc o hc nc=>?_
  ·rw[aj nnx];exact(s3.to hlm) _ _ hn2
  ·rw[aj nlx,af]
  ·rw[aj nc];exact(s3.to hlm) _ _ (a2 c o hc nc)
noncomputable def Ji (t:eS) (K:PySem.W.Frag):Sp:=λvs H Q _=>∃(g:Addr) (row p1 p2 hd b:Str) (n:Nat) (ks:List Str),vs=[.str row]/\row.length<=100000/\(PySem.Txt.partition row "\n").1=p1/\(PySem.Txt.partition row "\n").2.1=p2/\(PySem.Txt.partition row "\n").2.2=b/\p1.length<=100000/\PySem.Txt.split p1 " " = wordsOf hd n/\(!decide (V.str p2=V.str ""))=yi (.str hd) [.str "rules",.str "put"]/\eY (listed t) hd=some (.ref g)/\xS t K hd n g ks/\∀x H',ud t H' x hd n b->H x=none->ao H H'->Q (.ref x) H'
theorem yF (T:Txt K mg t) (hw:t.pr=w.params):aZ P w K mg base c7 3 t.GZ t.Ky ["row"] (Ji t K):=by
 refine T.pK.ok tQ ?_ ?_
 walk_at "i"
 ·obtain⟨g,row,p1,p2,hd,b,n,ks,rfl,hrow,e1,e2,e3,hp1,hsp,hwt,hg,hS,q⟩:=h
  refine au (dW 1 tQ (c5 F.plainAttrs_str F.slot_str_partition F.type_str_partition t7 (pv 0) (aa aJ ai))) ⟨_,rfl,rfl,row,_,rfl,rfl,by decide,Nat.le_trans hrow (by decide),λpt hpt=>?_⟩
  rw[e1,e2,e3]
  refine au (dW 2 tQ (c5 F.plainAttrs_str F.slot_str_split F.type_str_split jh (bw fQ (pv 1) aB (λ_ _=>rfl)) (aa aJ ai))) ⟨_,rfl,pt,_,0,.str p1,rfl,rfl,fN.of af,bM (j:=0) rfl,rfl,p1,_,rfl,rfl,by decide,Nat.le_trans (Nat.add_le_add_right hp1 2) (by decide),λlw hlw=>?_⟩
  rw[hsp]
  have htp:upd (upd H pt (.tup [.str p1,.str p2,.str b])) lw (.lst ((wordsOf hd n).map V.str)) pt=some (.tup [.str p1,.str p2,.str b]):=ao.upd hlw _ _ af
  have hlw1:upd (upd H pt (.tup [.str p1,.str p2,.str b])) lw (.lst ((wordsOf hd n).map V.str)) lw=some (.lst ((wordsOf hd n).map V.str)):=af
  have s1:ao H (upd (upd H pt (.tup [.str p1,.str p2,.str b])) lw (.lst ((wordsOf hd n).map V.str))):=(ao.upd hpt).to hlw
  generalize upd (upd H pt (.tup [.str p1,.str p2,.str b])) lw (.lst ((wordsOf hd n).map V.str))=H1 at htp hlw1 s1
  refine aI (λZ' H'=>Z'=[some (.str row),some (.ref pt),some (.ref lw),none]/\H'=H1) (aX (DC (Bs (bw bq (pv 2) aB (λ_ _=>rfl)) (fq rfl T.lT (v:=V.ref t.gY) rfl))) av av) ⟨_,rfl,lw,_,0,.str hd,rfl,rfl,aY.of hlw1,bM (j:=0) rfl,t.gY,listed t,hd,rfl,hw ▸ T.kH,rfl,_,rfl,?_⟩ ?_
  ·rw[hg]
   exact kj (aU ⟨rfl,rfl⟩)
  rintro Z' H' ⟨rfl,e⟩
  rw[e]
  clear e H'
  refine aI (λZ' H'=>Z'=[some (.str row),some (.ref pt),some (.ref lw),none]/\H'=H1) (aX (az iY (ef iY (bw fQ (pv 1) aB (λ_ _=>rfl)) aJ (aC _)) (ef fT (bw bq (pv 2) aB (λ_ _=>rfl)) (fq rfl T.rA (v:=V.ref t.jV) rfl) rfl) (aC _)) av av) ?_ ?_
  ·walk_at "rd"
   refine⟨_,fN.of htp,.str p2,bM (j:=1) rfl,rfl,_,aY.of hlw1,.str hd,bM (j:=0) rfl,_,.inr (T.tS _),rfl,rfl,rfl,?_⟩
   rw[hwt,decide_eq_true rfl]
   exact kj (aU ⟨rfl,rfl⟩)
  rintro Z' H' ⟨rfl,e⟩
  rw[e]
  clear e H'
  refine au (dW 3 tQ (An (fq rfl T.lT (v:=V.ref t.gY) rfl) (bw bq (pv 2) aB (λ_ _=>rfl)) (λ_ _=>rfl))) ⟨_,rfl,lw,_,0,.str hd,rfl,rfl,aY.of hlw1,bM (j:=0) rfl,t.gY,listed t,hd,.ref g,rfl,hw ▸ T.kH,rfl,hg,?_⟩
  refine aI (λZ' H'=>Z'=[some (.str row),some (.ref pt),some (.ref lw),some (.ref g)]/\ao H1 H') (@aX _ _ _ _ _ _ _ _ (@PW.pt _ _ _ (@ie _ _ _ _ _ _ _ (@az _ _ _ _ _ _ _ _ iY (@aK _ _ _ _ _ _ _ _ _ aP (by rfl) T.bU (by decide +kernel) (aa (pv 2) ai (by left)) (by left) (by left) (by left) (by left)) (@aW _ _ _ _ _ _ _ _ bZ (@aK _ _ _ _ _ _ _ _ _ aP (by rfl) T.bU (by decide +kernel) (aa (pv 3) ai (by left)) (by left) (by left) (by left) (by left)) aB) (aC _)) (@gj _ _ _ _ (@l0 _ _ _ _ (@iF _ _ _ (@aK _ _ _ _ _ _ _ _ _ (nP rfl) (by rfl) T.G4 (by decide +kernel) (aa (@vL _ (aq Hg) _ ["row","parts","words","kinds"] _ _ ["word","kind"] _ (g2 K) _ [] _ _ (by walk_at "ck") (@tK _ _ _ _ _ _ _ _ _ rfl T.z7 (aa (@cW _ _ _ _ _ _ _ _ _ _ fJ (pv 2) (@cE _ _ _ aB) gh) (aa (pv 3) ai (by left)) (by left)) (by left) (by left)) (λ_ _ _ _=>by exact gZ rfl (bR (eW (i:=0) (show (["word","kind"]:List Str).Nodup by decide +kernel) rfl (Or.inl rfl)) (bR (eW (i:=1) (show (["word","kind"]:List Str).Nodup by decide +kernel) rfl (Or.inl rfl)) fH))) (λ_ _ _ _=>by exact(@aQ _ _ _ _ _ _ _ _ _ _ _ _ _ _ _ _ (Rb T) hr.m rfl T.P7 T.Df.kp (T.Df.binds (by walk_at "2")) .nil aE (aa (pv 0) (aa (pv 1) ai (by left)) (by left)) (by left) (by left) (by left))) (by left) (by left) (by left) (by left)) ai (by left)) (by left) (by left) (by left) (by left)) (by left)))))) av av) ?_ ?_
  ·walk_at "rd"
   refine⟨_,.inl (aY.of hlw1),_,.inr (hS.kinds _),rfl,?_⟩
   rw[decide_eq_true (by rw[List.length_map,List.length_map,wordsOf,List.length_cons,List.length_replicate,hS.len];rfl)]
   refine kj ⟨_,rfl,1,rfl,lw,_,rfl,aY.of hlw1,λp hp=>?_⟩
   rw[lF]
   refine⟨_,rfl,p,g,z0 n,ks.map V.str,rfl,aY.of af,hS.kinds _,A5 (xs:=z0 n) (zs:=ks.map V.str) (λi ys H2=>ys=List.replicate i (V.bl true)/\ao (upd H1 p (.lst (z0 n))) H2) ⟨rfl,ao.refl _⟩ (Nat.lt_of_le_of_lt (Nat.le_of_eq nu) (Nat.lt_of_le_of_lt hS.few (by decide))) ?_ ?_ ?_⟩
   ·rintro i ys H2 ⟨rfl,s2⟩
    exact⟨aY.of (s2 _ _ af),hS.kinds _⟩
   ·rintro i u z ys H2 r hu hz hr2 hl ⟨rfl,s2⟩
    have hi:=(List.getElem?_eq_some_iff.mp hu).1
    have hj:=(List.getElem?_eq_some_iff.mp hz).1
    obtain rfl:V.str "0" = u:=by
     rw[z0,List.getElem?_replicate,if_pos (by rw[nu] at hi;exact hi)] at hu
     exact Option.some.inj hu
    obtain⟨k,hk,rfl⟩:∃k,ks[i]?=some k/\V.str k=z:=by
     rw[List.getElem?_map] at hz
     exact Option.map_eq_some_iff.mp hz
    refine⟨_,rfl,_,rfl,k,rfl,hS.no k (List.mem_of_getElem? hk),λH3 s3=>?_⟩
    exact qS hi hj (by rw[List.length_append,List.length_replicate];exact Nat.le_refl _) ⟨by rw[List.replicate_succ'],(s2.trans (ao.upd hr2)).trans s3⟩
   rintro i ys H2 hi ⟨rfl,s2⟩ D hD
   refine⟨D,rfl,List.replicate i true,aY.of (by rw[af,List.map_replicate]),?_⟩
   rw[show (List.replicate i true).all id=true by rw[List.all_eq_true];intro b hb;rw[(List.mem_replicate.mp hb).2];rfl]
   exact kj (aU ⟨rfl,((ao.upd hp).trans s2).to hD⟩)
  rintro Z' H' ⟨rfl,s2⟩
  refine ay (aG (dJ T.Ik (Qa T hw) hr.m rfl T.GS (T.KP.binds (by walk_at "3")) .nil aE (aa (pv 2) (aa (bw fQ (pv 1) aB (λ_ _=>rfl)) ai)))) ⟨_,rfl,_,rfl,pt,_,2,.str b,rfl,rfl,fN.of (s2 _ _ htp),bM (j:=2) rfl,λx dx nx ndx ne=>?_⟩
  have s3:ao H' (upd (upd H' dx (.own x)) x (.ins t.dS dx [])):=bN nx ndx
  refine⟨x,dx,lw,g,hd,b,n,ks,rfl,af,s3 _ _ (s2 _ _ hlw1),hg,hS,λH4 hL a4=>⟨rfl,?_⟩⟩
  exact q x H4 hL (s1.free (s2.free nx)) ((s1.trans s2).trans (fV.fresh s3 nx a4))
theorem Cy (T:Txt K mg t) {s:Str} (h:s∈sorts):PySem.W.kitOne K (.ref (gw t s)) (.ref t.dF)=some (decide (s = "word")):=by
 rcases ff h with rfl|rfl|rfl|rfl|rfl|rfl|rfl
 ·rw[mK];exact T.rj
 ·rw[ug];exact T.uz
 ·rw[pM];exact T.nH
 ·rw[qx];exact T.rm
 ·rw[tU];exact T.tG
 ·rw[nV];exact T.qF
 ·rw[uh];exact T.uy
def gB (rs:List bu) (n:Nat):Option Str:=(if (rs[n]?.map (·.sort))=some ("word" : Str) then [(rs[n]?.map (·.signs)).getD ("" : Str)] else cN).find? λrow=>decide (firstM rs row 0=some n)
def Nv:Option Str->V
 |none=>.cu
 |some x=>.str x
theorem BN{p:Str->Bool}{xs:List Str}{i:Nat}{x:Str}(h:xs[i]?=some x):(xs.drop i).find? p=if p x=true then some x else (xs.drop (i+1)).find? p:=by
 rw[iW h,List.find?_cons]
 cases p x <;> rfl
theorem yR(o:Option Nat)(n:Int):OJ (oE o) (.int n)=true:=by cases o <;> rfl
theorem vQ{o:Option Nat}{n:Nat}:oE o = .int n↔o=some n:=by
 cases o with
 |none=>exact⟨(λh=>by cases h),(λh=>by cases h)⟩
 |some k =>
  constructor
  ·intro h
   have:(k:Int)=(n:Int):=by injection h
   rw[show k=n by lia]
  ·intro h;injection h with h;rw[h];rfl
noncomputable def Ij(t:eS):Sp:=λvs H Q _=>∃(a:Addr) (ms:List aD) (m:aD) (k n:Nat),vs=[.ref a,.int k,.int n]/\IsRules t H a ms/\ms[k]?=some m/\n<m.rules.length/\mT m.rules/\∀H',ao H H'->Q (Nv (gB m.rules n)) H'
theorem OG (T:Txt K mg t):aZ P w K mg base c7 3 t.Fj t.Me ["rules","mode","rule"] (Ij t):=by
 refine T.Hl.ok uq ?_ ?_
 walk_at "i"
 ·obtain⟨a,ms,m,k,n,rfl,hR,hm,hn,hok,q⟩:=h
  obtain⟨dx,lm,as,b,lr,dm,rs,ha,hlm,hal,hb,hmo,hlr,hA⟩:=hR.mode hm
  have hRn:m.rules[n]?=some m.rules[n]:=List.getElem?_eq_getElem hn
  generalize m.rules[n]=R at hRn
  obtain⟨r,hr0,dr,pa,hr1,dp,hp1⟩:=hA.at hRn
  obtain⟨g1,g2⟩:=hok.2 R (List.mem_of_getElem? hRn)
  obtain⟨fe,fs,de,ds,PK⟩:=EY (P:=P) (w:=w) (base:=base) T g1
  refine au (dW 3 uq (aF (bw bq (aF (bw bq (aF (pv 0) rfl) (pv 1) (λ_ _=>rfl)) rfl) (pv 2) (λ_ _=>rfl)) rfl)) (⟨_,rfl,_,_,_,_,_,rfl,ha,T.fC,T.b8,rfl,⟨_,rfl,_,_,_,_,rfl,rfl,aY.of hlm,gi hb,b,t.dD,dm,_,_,rfl,hmo,T.dY,T.dM,rfl,_,rfl,_,_,_,_,rfl,rfl,aY.of hlr,gi hr0,r,t.ia,dr,_,_,rfl,hr1,T.b9,T.dZ,rfl,?_⟩⟩)
  have ty:mE K H (.ref pa) (.ref (gw t R.sort)):=.ins hp1 PK.cl PK.ty T.cg T.ct PK.mr
  show At _ _ _ [some (.ref a),some (.int k),some (.int n),some (.ref pa),none,none] H
  refine aI (λZ' H'=>∃(lx:Addr) (xs:List Str),Z'=[some (.ref a),some (.int k),some (.int n),some (.ref pa),some (.ref lx),none]/\H' lx=some (.lst (xs.map V.str))/\ao H H'/\(∀x∈xs,x.length<=200)/\gB m.rules n=xs.find? λrow=>decide (firstM m.rules row 0=some n)) (dW 4 uq (bH (iF (aK AV (by rfl) T.uB (by decide +kernel) (aa (pv 3) (aa (fq rfl T.wA (v:=V.ref _) rfl) ai)))) (bV (aa (aF (pv 3) rfl) ai)) (jW (z8 T) hr.m rfl T.Al T.qf.kp (T.qf.binds (by walk_at "0")) .nil aE))) ?_ ?_
  ·refine⟨_,rfl,_,_,_,_,rfl,ty,Cy T g1,_,rfl,?_⟩
   by_cases hw:R.sort = "word"
   ·refine uf (c:=true) (decide_eq_true hw) ?_
    rw[hw,mK,tL] at hp1
    refine⟨_,rfl,_,_,_,_,_,rfl,hp1,T.mV,T.gI,rfl,⟨by show 1<=sizeLine;decide,λl1 h1=>⟨l1,[R.signs],rfl,af,ao.upd h1,(λx hx=>by rw[List.mem_singleton.mp hx];exact g2),?_⟩⟩⟩
    unfold gB
    rw[hRn,if_pos (by show some R.sort=_;rw[hw])]
    rfl
   ·refine uf (c:=false) (decide_eq_false hw) ?_
    refine⟨rfl,λl1 H1 h1 f1 s1=>⟨l1,cN,rfl,h1,s1,(λx hx=>by have:=sN x hx;lia),?_⟩⟩
    unfold gB
    rw[hRn,if_neg (by show ¬ some R.sort=_;intro z;injection z with z;exact hw z)]
  rintro Z' H1 ⟨lx,xs,rfl,hx1,s1,hxl,hp⟩
  refine aI (λZ' H'=>ao H H'/\gB m.rules n=none) (dO PassesOwn.never rfl (eB (pv 4)) (oJ 5 uq) av) ?_ ?_
  ·refine⟨_,rfl,lx,rfl,⟨_,aY.of hx1⟩,fR (xs:=xs.map V.str) (λi Z' H'=>(∃x,Z'=[some (.ref a),some (.int k),some (.int n),some (.ref pa),some (.ref lx),x])/\ao H1 H'/\gB m.rules n=(xs.drop i).find? λrow=>decide (firstM m.rules row 0=some n)) ⟨⟨_,rfl⟩,ao.refl _,hp⟩ ?_ ?_ ?_⟩
   ·rintro i Z' H2 _ ⟨_,s2,_⟩
    exact aY.of (s2 _ _ hx1)
   ·rintro i xv Z' H2 hx ⟨⟨x,rfl⟩,s2,hf⟩
    rw[List.getElem?_map] at hx
    obtain⟨row,hrow,rfl⟩:=Option.map_eq_some_iff.mp hx
    have hrl:=hxl row (List.mem_of_getElem? hrow)
    rw[BN hrow] at hf
    refine ay (aX (az bS (aQ (xF T) hr.m rfl T.xj T.qz.kp (T.qz.binds (by walk_at "4")) .nil aE (aa (pv 0) (aa (pv 1) (aa (pv 5) (aa aB ai))))) (pv 2) (aC _)) av av) ⟨_,rfl,_,rfl,_,rfl,a,ms,m,k,0,row,rfl,(hR.same s1).same s2,hm,hok,by lia,Nat.zero_le _,λH3 s3=>⟨_,rfl,yR _ _,_,rfl,dR (λh=>?_) (λh=>aU ⟨⟨_,rfl⟩,s2.trans s3,?_⟩)⟩⟩
    ·rw[if_pos (decide_eq_true (vQ.mp h))] at hf
     have:=q H3 (s1.trans (s2.trans s3))
     rw[hf] at this
     exact ay (aG (pv 5)) ⟨_,rfl,this⟩
    ·rw[if_neg (λz=>h (vQ.mpr (of_decide_eq_true z)))] at hf
     exact hf
   ·rintro Z' H2 ⟨_,s2,hf⟩
    rw[List.length_map,List.drop_length] at hf
    exact⟨s1.trans s2,hf⟩
  rintro Z' H2 ⟨s2,hf⟩
  have:=q H2 s2
  rw[hf] at this
  exact ay (aG bB) this
structure sS(H0 H:Hp)(l:Addr)(ws:List Str):Prop where
 at_:H l=some (.lst (ws.map V.str))
 new:H0 l=none
 same:ao H0 H
theorem sS.add{H0 H:Hp}{l:Addr}{ws:List Str}{x:Str}(W:sS H0 H l ws):sS H0 (upd H l (.lst (ws.map V.str++[.str x]))) l (ws++[x]) :=
 ⟨by rw[af,List.map_append];rfl,W.new,λb o hb=>by rw[aj (ak hb W.new)];exact W.same _ _ hb⟩
theorem sS.to{H0 H H':Hp}{l:Addr}{ws:List Str}(W:sS H0 H l ws)(s:ao H H'):sS H0 H' l ws:=⟨s _ _ W.at_,W.new,W.same.trans s⟩
def u7(n:Nat):Str:=Str.ofString (toString (n:Int))
def kr (m:aD) (k:Nat):List Str:=((List.range k).filter λn=>(gB m.rules n).isNone).map λn=>m.name++Str.ofString " " ++ u7 n
def d7(ms:List aD):List Str:=ms.flatMap λm=>kr m m.rules.length
theorem Br{m:aD}{k:Nat}{x:Str}(h:gB m.rules k=some x):kr m (k+1)=kr m k:=by
 rw[kr,List.range_succ,List.filter_append,List.map_append]
 simp[h,kr]
theorem A1 {m:aD} {k:Nat} (h:gB m.rules k=none):kr m (k+1)=kr m k++[m.name++Str.ofString " " ++ u7 k]:=by
 rw[kr,List.range_succ,List.filter_append,List.map_append]
 simp[h,kr]
theorem vX(m:aD)(k:Nat):(kr m k).length<=k:=by
 rw[kr,List.length_map]
 exact Nat.le_trans (List.length_filter_le _ _) (Nat.le_of_eq List.length_range)
theorem uR{ms:List aD}{m:aD}:d7 (ms++[m])=d7 ms++kr m m.rules.length:=by
 rw[d7,List.flatMap_append]
 simp[d7]
theorem lH{B:Nat}:∀{ms:List aD},(∀m∈ms,m.rules.length<=B)->(d7 ms).length<=ms.length*B
 | [],_=>by simp[d7]
 |m::r,h=>by
  have h1:=lH (ms:=r) (λx hx=>h x (List.mem_cons_of_mem _ hx))
  have h2:=Nat.le_trans (vX m m.rules.length) (h m List.mem_cons_self)
  show (kr m m.rules.length++d7 r).length<=_
  rw[List.length_append,List.length_cons,Nat.succ_mul]
  lia
theorem mj{n:Nat}(h:n<100):(u7 n).length<=2:=by
 have:=(by decide +kernel:∀n<100,(u7 n).length<=2)
 exact this n h
structure Tells(ms:List aD):Prop where
 few:ms.length<=100
 ok:∀m∈ms,mT m.rules/\m.rules.length<=100/\m.name.length<=1000
theorem sR{n:Nat}(h:n<100):((n:Int)).natAbs.log2<1920:=by
 have:=(by decide +kernel:∀n<100,n.log2<1920)
 exact this n h
noncomputable def Td(t:eS):Sp:=λvs H Q _=>∃(a:Addr) (ms:List aD),vs=[.ref a]/\IsRules t H a ms/\Tells ms/\∀l H',sS H H' l (d7 ms)->Q (.ref l) H'
theorem Oj (T:Txt K mg t):aZ P w K mg base c7 4 t.Gp t.J7 ["rules"] (Td t):=by
 refine T.G3.ok pR ?_ ?_
 walk_at "i"
 ·obtain⟨a,ms,rfl,hR,hT,q⟩:=h
  refine au (dW 1 pR (bV ai)) ⟨by show 0<=sizeLine;decide,λlr hlr=>?_⟩
  have W0:sS H (upd H lr (.lst [])) lr []:=⟨af,hlr,ao.upd hlr⟩
  generalize upd H lr (.lst [])=H0 at W0
  obtain⟨dx,lm,as,ls,ha,hlm,hA⟩:=hR
  have hal:as.length=ms.length:=hA.la
  refine aI (λZ' H'=>(∃x y z,Z'=[some (.ref a),some (.ref lr),x,y,z])/\sS H H' lr (d7 ms)) (dO PassesOwn.never rfl (uD rfl T.jS (aa (aF (pv 0) rfl) ai)) (gZ rfl (bR (oJ 2 pR) (bR (oJ 3 pR) fH))) av) ?_ ?_
  ·refine⟨_,rfl,_,_,_,_,_,rfl,(W0.same _ _ ha),T.fC,T.b8,rfl,⟨lm,_,rfl,aY.of (W0.same _ _ hlm),nC (xs:=as.map V.ref) (λi Z' H'=>(∃x y z,Z'=[some (.ref a),some (.ref lr),x,y,z])/\sS H H' lr (d7 (ms.take i))) ⟨⟨_,_,_,rfl⟩,W0⟩ ?_ ?_ ?_⟩⟩
   ·rintro n Z' H' _ ⟨_,W⟩
    exact aY.of (W.same _ _ hlm)
   ·rintro i xv pt Z' H1 hx hpt ⟨⟨x,y,z,rfl⟩,W1⟩
    rw[List.getElem?_map] at hx
    obtain⟨r,hr0,rfl⟩:=Option.map_eq_some_iff.mp hx
    have hi:i<ms.length:=by rw[← hal];exact(List.getElem?_eq_some_iff.mp hr0).1
    have hm:ms[i]?=some ms[i]:=List.getElem?_eq_getElem hi
    generalize ms[i]=m at hm
    obtain⟨lr',hlr'⟩:∃b,ls[i]?=some b:=⟨ls[i]'(by rw[hA.ll];exact hi),List.getElem?_eq_getElem _⟩
    obtain⟨dm,rs,hmo,hrs,hRs⟩:=hA.ob i r lr' m hr0 hlr' hm
    have hrl:rs.length=m.rules.length:=hRs.1
    obtain⟨k1,k2,k3⟩:=hT.ok m (List.mem_of_getElem? hm)
    have W2:sS H (upd H1 pt (.tup [.int i,.ref r])) lr (d7 (ms.take i)):=W1.to (ao.upd hpt)
    refine⟨pt,[.int i,.ref r],rfl,fN.of af,rfl,_,_,rfl,_,_,rfl,rfl,?_⟩
    generalize upd H1 pt (.tup [.int i,.ref r])=H2 at W2
    have hlen:(d7 (ms.take i)).length<=100*100:=by
     refine Nat.le_trans (lH (B:=100) λm' hm'=>(hT.ok m' (List.mem_of_mem_take hm')).2.1) (Nat.mul_le_mul_right _ (Nat.le_trans (List.length_take_le' _ _) hT.few))
    have eN:((((rs.map V.ref).length:Nat):Int)).toNat=m.rules.length:=by rw[Int.toNat_natCast,List.length_map,hrl]
    have hR2:IsRules t H a ms:=⟨dx,lm,as,ls,ha,hlm,hA⟩
    refine ay (dO PassesOwn.never rfl (jn rfl T.mz (aa (aK aP (by rfl) T.bU (by decide +kernel) (aa (aF (pv 3) rfl) ai)) ai)) (oJ 4 pR) av) (⟨_,rfl,_,_,_,_,_,rfl,(W2.same _ _ hmo),T.dY,T.dM,rfl,⟨lr',_,rfl,.inl (aY.of (W2.same _ _ hrs)),_,rfl,by rw[List.length_map,hrl];lia,by rw[List.length_map,hrl];lia,iA (λk Z' H'=>(∃z,Z'=[some (.ref a),some (.ref lr),some (.int i),some (.ref r),z])/\sS H H' lr (d7 (ms.take i)++kr m k)) ⟨⟨_,rfl⟩,by rw[show kr m 0=[] from rfl,List.append_nil];exact W2⟩ ?_ ?_⟩⟩)
    ·rintro k Z' H3 hk ⟨⟨z',rfl⟩,W3⟩
     rw[eN] at hk
     have hk100:k<100:=Nat.lt_of_lt_of_le hk k2
     have hl3:=vX m k
     show At _ _ _ _ _
     rw[show (0:Int)+(k:Int)=(k:Int) from Int.zero_add _]
     refine ay (aX (az jw (aQ (OG T) hr.m rfl T.Pk T.Hl.kp (T.Hl.binds (by walk_at "3")) .nil aE (aa (pv 0) (aa (pv 2) (aa (pv 4) ai)))) bB (aC _)) av av) ⟨_,rfl,_,rfl,_,rfl,a,ms,m,i,k,rfl,hR2.same W3.same,hm,hk,k1,λH4 s4=>?_⟩
     have W4:=W3.to s4
     cases hp:gB m.rules k with
     |some x=>exact⟨rfl,_,rfl,dR (λz=>by cases z) λ_=>aU ⟨⟨_,rfl⟩,by rw[Br hp];exact W4⟩⟩
     |none =>
      refine⟨rfl,_,rfl,dR (λ_=>?_) λz=>absurd rfl z⟩
      have e1:(Str.ofString " ").length=1:=by decide +kernel
      have e2:=mj hk100
      refine ay (bG (c5 F.plainAttrs_list F.slot_list_append F.type_list_append cG (pv 1) (aa (aW cQ (aW cQ (aF (pv 3) rfl) aJ) (d8 jx (by rfl) T.Gq (by decide +kernel) (aa (pv 4) ai))) ai))) ⟨_,rfl,.inl ⟨rfl,_,aY.of W4.at_⟩,_,rfl,r,t.dD,dm,_,_,rfl,W4.same _ _ hmo,T.dY,T.gM,rfl,_,_,rfl,rfl,bI (by lia),_,rfl,_,rfl,sR hk100,_,_,rfl,rfl,bI (by rw[Str.length_append];show _+(u7 k).length<=_;lia),lr,_,_,rfl,rfl,W4.at_,eV (by rw[List.length_map,List.length_append];lia),⟨_,rfl⟩,?_⟩
      rw[A1 hp,← List.append_assoc]
      exact W4.add
    ·rintro Z' H3 ⟨⟨z',rfl⟩,W3⟩
     rw[eN] at W3
     refine⟨⟨_,_,_,rfl⟩,?_⟩
     rw[take_snoc hm,uR]
     exact W3
   ·rintro Z' H' ⟨h1,h2⟩
    rw[List.length_map,hal,List.take_length] at h2
    exact⟨h1,h2⟩
  rintro Z' H' ⟨⟨x,y,z,rfl⟩,W⟩
  exact ay (aG (pv 1)) ⟨_,rfl,q _ _ W⟩
structure Rw(t:eS)(S:Addr->Prop)(H:Hp)(x dx tt dt a d ld lu:Addr)(ms:List aD)(Gs:List bX):Prop where
 ob:H x=some (.ins t.aM dx (sf tt d ld lu))
 ti:∃lg gs,cU t (hid S H) tt dt a lg gs ms Gs
 dp:DP (hid S H) d []
theorem Rw.same{S:Addr->Prop}{H H':Hp}{x dx tt dt a d ld lu:Addr}{ms:List aD}{Gs:List bX}(h:Rw t S H x dx tt dt a d ld lu ms Gs)(s:ao H H'):Rw t S H' x dx tt dt a d ld lu ms Gs:=by
 obtain⟨lg,gs,I⟩:=h.ti
 exact⟨s _ _ h.ob,⟨lg,gs,I.same (aV s)⟩,h.dp.same (aV s)⟩
def Cc (ms:List aD):Str:=Str.join (Str.ofString "\n") (d7 ms)
theorem nt{m:Nat}:∀(ys:List Str),(∀y∈ys,y.length<=m)->(ys.map (·.length)).sum<=ys.length*m
 | [],_=>by simp
 |x::r,h=>by
  have h1:=h x (by simp)
  have h2:=nt r (λz hz=>h z (List.mem_cons_of_mem _ hz))
  rw[List.map_cons,List.sum_cons,List.length_cons,Nat.succ_mul]
  lia
theorem yS{ms:List aD}(h:∀m∈ms,m.rules.length<=100/\m.name.length<=1000):((d7 ms).map (·.length)).sum<=(d7 ms).length*1003:=by
 refine nt _ λy hy=>?_
 obtain⟨m,hm,hy⟩:=List.mem_flatMap.mp hy
 obtain⟨n,hn,rfl⟩:=List.mem_map.mp hy
 have h1:=h m hm
 have h2:=List.mem_range.mp (List.mem_filter.mp hn).1
 have h3:=mj (n:=n) (by lia)
 have e1:(Str.ofString " ").length=1:=by decide +kernel
 rw[Str.length_append,Str.length_append,e1]
 lia
noncomputable def PZ(t:eS):Sp:=λvs H Q _=>∃(S:Addr->Prop) (x dx tt dt a d ld lu l:Addr) (ms:List aD) (Gs:List bX) (hd b:Str) (n:Nat),vs=[.ref x,.ref l]/\Rw t S H x dx tt dt a d ld lu ms Gs/\ud t H l hd n b /\
 ((hd = "marks" /\ ∀H',ao H H'->Q (.str "") H')∨(hd = "never" /\ Tells ms/\∀H',ao H H'->Q (.str (Cc ms)) H'))
theorem JH (T:Txt K mg t):aZ P w K mg base c7 5 t.wV t.Fq ["scribe","line"] (PZ t):=by
 refine T.yp.ok zu ?_ ?_
 walk_at "i"
 ·obtain⟨S,x,dx,tt,dt,a,d,ld,lu,l,ms,Gs,hd,b,n,rfl,hx,⟨dl,ln,lm,hl,hln,hlm⟩,q⟩:=h
  have hne:hd ≠ "row" /\ hd ≠ "tint" /\ hd ≠ "folds" := by
   rcases q with ⟨rfl,_⟩|⟨rfl,_⟩ <;> decide
  refine au (dW 2 zu (bA (pv 0) T.bJ T.E3 (w5 T) hr.m (T.Ag.binds (by walk_at "1")) .nil aE)) ⟨_,rfl,x,dx,_,rfl,hx.ob,rfl,x,dx,tt,d,ld,lu,rfl,hx.ob,?_⟩
  refine aI (λZ' H'=>Z'=[some (.ref x),some (.ref l),some (.ref tt)]/\H'=H) (aX (az bS (aF (pv 1) rfl) aJ (aC _)) av av) (⟨_,rfl,_,_,_,_,_,rfl,hl,T.dh,T.cz,rfl,⟨rfl,_,rfl,dR (λz=>absurd (V.str.inj z) hne.1) λ_=>aU ⟨rfl,rfl⟩⟩⟩) ?_
  rintro Z' H' ⟨rfl,e⟩
  rw[e]
  clear e H'
  refine aI (λZ' H'=>Z'=[some (.ref x),some (.ref l),some (.ref tt)]/\H'=H) (aX (az bS (aF (pv 1) rfl) aJ (aC _)) av av) (⟨_,rfl,_,_,_,_,_,rfl,hl,T.dh,T.cz,rfl,⟨rfl,_,rfl,dR (λz=>absurd (V.str.inj z) hne.2.1) λ_=>aU ⟨rfl,rfl⟩⟩⟩) ?_
  rintro Z' H' ⟨rfl,e⟩
  rw[e]
  clear e H'
  refine aI (λZ' H'=>Z'=[some (.ref x),some (.ref l),some (.ref tt)]/\H'=H/\hd ≠ "marks") (aX (az bS (aF (pv 1) rfl) aJ (aC _)) av av) (⟨_,rfl,_,_,_,_,_,rfl,hl,T.dh,T.cz,rfl,⟨rfl,_,rfl,dR (λz=>?_) λz=>aU ⟨rfl,rfl,λy=>z (by rw[y])⟩⟩⟩) ?_
  ·have hm:hd = "marks" := V.str.inj z
   have q':∀H',ao H H'->Q (.str "") H':=by
    rcases q with ⟨_,q⟩|⟨e,_⟩
    ·exact q
    ·rw[hm] at e;exact absurd e (by decide)
   refine ay (@aG _ _ _ _ (@c5 _ _ _ _ _ _ _ _ _ _ _ _ F.plainAttrs_str F.slot_str_join F.type_str_join mH aJ (aa (@zZ _ _ _ (@vL _ (aq yE) _ ["scribe","line","text"] _ _ ["name","place"] _ (g2 K) _ [] _ _ (by walk_at "ck") (@AL _ _ _ _ _ _ (@bA _ _ _ _ _ _ _ _ _ _ _ _ _ _ _ _ _ (pv 0) T.bJ T.Tu (Oo T) hr.m (T.JL.binds (by walk_at "1")) .nil aE (by left)) (by left) (by left)) (λ_ _ _ _=>by exact gZ rfl (bR (eW (i:=0) (show (["name","place"]:List Str).Nodup by decide +kernel) rfl (Or.inl rfl)) (bR (eW (i:=1) (show (["name","place"]:List Str).Nodup by decide +kernel) rfl (Or.inl rfl)) fH))) (λ_ _ _ _=>by exact FN) (by left) (by left) (by left) (by left))) ai (by left)) (by left) (by left) (by left) (by left) (by left))) ⟨rfl,_,rfl,x,dx,_,rfl,hx.ob,rfl,x,dx,tt,d,ld,lu,[],rfl,hx.ob,hx.dp.same aH,List.nodup_nil,by decide,λd4 H4 hd4 nd4 s4=>?_⟩
   obtain⟨ps4,e4,h4,_⟩:=hd4
   have h4':H4 d4=some (.dK []):=h4
   refine⟨d4,rfl,h4',λo hf=>tH af λD hD=>?_⟩
   have nD:d4≠D:=λz=>by rw[← z,af] at hD;cases hD
   refine⟨d4,o,[],by rw[aj nD,af],hf,_,D,[],rfl,rfl,aY.of (by rw[aj (Ne.symm nD),af];rfl),by show 0+0*_<=_;lia,?_⟩
   exact q' _ (s4.trans (sO h4' (ao.upd hD)))
  rintro Z' H' ⟨rfl,e,hm⟩
  rw[e]
  clear e H'
  have q':hd = "never" /\ Tells ms/\∀H',ao H H'->Q (.str (Cc ms)) H':=by
   rcases q with ⟨e,_⟩|q
   ·exact absurd e hm
   ·exact q
  obtain⟨_,hT,q'⟩:=q'
  refine aI (λZ' H'=>Z'=[some (.ref x),some (.ref l),some (.ref tt)]/\H'=H) (aX (az bS (aF (pv 1) rfl) aJ (aC _)) av av) (⟨_,rfl,_,_,_,_,_,rfl,hl,T.dh,T.cz,rfl,⟨rfl,_,rfl,dR (λz=>absurd (V.str.inj z) hne.2.2) λ_=>aU ⟨rfl,rfl⟩⟩⟩) ?_
  rintro Z' H' ⟨rfl,e⟩
  rw[e]
  clear e H'
  obtain⟨lg,gs,I⟩:=hx.ti
  have I2:=I.same aH
  have hlen:(d7 ms).length<=100*100:=Nat.le_trans (lH (B:=100) λm' hm'=>(hT.ok m' hm').2.1) (Nat.mul_le_mul_right _ hT.few)
  refine ay (aG (c5 F.plainAttrs_str F.slot_str_join F.type_str_join mH aJ (aa (aQ (Oj T) hr.m rfl T.Om T.G3.kp (T.G3.binds (by walk_at "1")) .nil aE (aa (aF (pv 2) rfl) ai)) ai))) ⟨rfl,⟨_,rfl,_,_,_,_,_,rfl,I2.ob,T.aT,T.gn,rfl,⟨a,ms,rfl,I2.ru,hT,λlw H4 W4=>⟨_,lw,d7 ms,rfl,rfl,aY.of W4.at_,?_,?_⟩⟩⟩⟩
  ·have:=yS (λm hm=>(hT.ok m hm).2)
   have e1:(Str.ofString "\n").length=1:=by decide +kernel
   rw[e1]
   lia
  ·rw[join_eq]
   exact q' _ W4.same
noncomputable def Bd (t:eS):Sp:=λvs H Q _=>∃(x dx l tt d ld lu:Addr) (b:Str),vs=[.ref x,.ref l]/\H x=some (.ins t.aM dx (sf tt d ld lu))/\ud t H l "put" 2 b/\Eb t [.ref x,.int 0,.int 0,.str b] H Q E0
theorem Q9 (T:Txt K mg t):aZ P w K mg base c7 11 t.Fe t.KC ["scribe","line"] (Bd t):=by
 refine T.E2.ok Fl ?_ ?_
 walk_at "i"
 ·obtain⟨x,dx,l,tt,d,ld,lu,b,rfl,hx,⟨dl,ln,lm,hl,hln,hlm⟩,q⟩:=h
  refine au (dW 2 Fl (aF (pv 1) rfl)) (⟨_,rfl,_,_,_,_,_,rfl,hl,T.dh,T.ki,rfl,?_⟩)
  refine aI (λ_ _=>False) (aX (az bS (aF (pv 1) rfl) aJ (aC _)) av av) (⟨_,rfl,_,_,_,_,_,rfl,hl,T.dh,T.cz,rfl,⟨rfl,_,rfl,dR (λ_=>?_) λz=>absurd rfl z⟩⟩) (λ_ _ z=>z.elim)
  refine ay (aG (bz (pv 0) T.bJ T.S8 (Od T) hr.m (T.J8.binds (by walk_at "4")) .nil aE (aa (bw bq (pv 2) aB (λ_ _=>rfl)) (aa (bw bq (pv 2) aB (λ_ _=>rfl)) (aa (aF (pv 1) rfl) ai))))) ⟨_,rfl,x,dx,_,rfl,hx,rfl,_,rfl,lm,_,0,_,rfl,rfl,aY.of hlm,bM (j:=0) rfl,_,rfl,lm,_,1,_,rfl,rfl,aY.of hlm,bM (j:=1) rfl,⟨_,rfl,_,_,_,_,_,rfl,hl,T.dh,T.kh,rfl,?_⟩⟩
  exact q
noncomputable def CY (t:eS):Sp:=λvs H Q _=>∃(x dx:Addr),vs=[.ref x]/\H x=some (.ins t.dH dx [])/\Q .cu (upd H x (.ins t.dH dx [("scribe",.cu)]))
theorem PL (T:Txt K mg t):aZ P w K mg base c7 1 t.FD t.LQ ["self"] (CY t):=by
 refine T.MK.ok N6 ?_ ?_
 walk_at "i"
 ·obtain⟨x,dx,rfl,hx,q⟩:=h
  exact ay (bF (pv 0) bB rfl) ⟨_,rfl,x,_,dx,[],rfl,hx,T.dX,T.cJ,by decide,q⟩
noncomputable def BP (t:eS):Sp:=λvs H Q _=>∃(x0 dx0:Addr) (rs:List Str),vs=[.ref x0]/\((rs=[("" : Str)]/\H x0=some (.ins t.dH dx0 [("scribe",.cu)]))∨∃S x dx tt dt a d ld lu ms Gs,rs=Gs.map (·.row)/\H x0=some (.ins t.dH dx0 [("scribe",.ref x)])/\Rw t S H x dx tt dt a d ld lu ms Gs/\Gs.length<=100000) /\
 ∀l H',H' l=some (.lst (rs.map V.str))->H l=none->ao H H'->Q (.ref l) H'
theorem NR (T:Txt K mg t):aZ P w K mg base c7 3 t.F7 t.Kw ["self"] (BP t):=by
 refine T.L8.ok NG ?_ ?_
 walk_at "i"
 ·obtain⟨x0,dx0,rs,rfl,hD,q⟩:=h
  rcases hD with ⟨rfl,hx0⟩|⟨S,x,dx,tt,dt,a,d,ld,lu,ms,Gs,rfl,hx0,hx,hl⟩
  ·refine ay (aG (bH (az jw (aF (pv 0) rfl) bB (aC _)) (bV (aa aJ ai)) (bA (bA (aF (pv 0) rfl) T.bJ T.E3 (w5 T) hr.m (T.Ag.binds (by walk_at "1")) .nil aE) T.aT T.vW (qV T) hr.m (T.r9.binds (by walk_at "1")) .nil aE))) (⟨_,rfl,_,_,_,_,_,rfl,hx0,T.dX,T.cJ,rfl,⟨rfl,_,rfl,dR (λ_=>?_) λz=>absurd rfl z⟩⟩)
   exact⟨by show 1<=sizeLine;decide,λl hl=>q l _ af hl (ao.upd hl)⟩
  ·obtain⟨lg,gs,I⟩:=hx.ti
   have I2:=I.same aH
   refine ay (aG (bH (az jw (aF (pv 0) rfl) bB (aC _)) (bV (aa aJ ai)) (bA (bA (aF (pv 0) rfl) T.bJ T.E3 (w5 T) hr.m (T.Ag.binds (by walk_at "1")) .nil aE) T.aT T.vW (qV T) hr.m (T.r9.binds (by walk_at "1")) .nil aE))) (⟨_,rfl,_,_,_,_,_,rfl,hx0,T.dX,T.cJ,rfl,⟨rfl,_,rfl,dR (λz=>by cases z) λ_=>?_⟩⟩)
   refine⟨_,rfl,_,_,_,_,_,rfl,hx0,T.dX,T.cJ,rfl,⟨x,dx,_,rfl,hx.ob,rfl,x,dx,tt,d,ld,lu,rfl,hx.ob,tt,dt,_,rfl,I2.ob,rfl,tt,dt,a,lg,gs,ms,Gs,rfl,I2,hl,q⟩⟩
theorem CA{y:List Nat}:∀{x:List Nat},(10:Nat)∉x->(x++10::y).dropWhile (· != 10)=10::y
 | [],_=>by simp
 |c::r,h=>by
  have h1:c≠10:=λz=>h (by simp[z])
  have h2:=CA (y:=y) (x:=r) (λz=>h (List.mem_cons_of_mem _ z))
  rw[List.cons_append,List.dropWhile_cons,if_pos (by simpa using h1)]
  exact h2
theorem um{a b:Str}(h:a.cps.toList=b.cps.toList):a=b:=by
 cases a;cases b
 simp only at h
 rw[Array.toList_inj.mp h]
theorem yP(a b:Str):(a++b).cps.toList=a.cps.toList++b.cps.toList:=by
 show (a.cps++b.cps).toList=_
 rw[Array.toList_append]
theorem Pf{s y:Str}(h:(Builtin.Str.occurrences s y 0 s.length 1).isEmpty=false):(PySem.Txt.partition s y).2.1=y:=by
 unfold PySem.Txt.partition
 cases e:Builtin.Str.occurrences s y 0 s.length 1 with
 |nil=>rw[e] at h;cases h
 |cons i r=>rfl
theorem HY{s x y:Str}(hs:s.cps.toList=x.cps.toList++10::y.cps.toList)(hx:(10:Nat)∉x.cps.toList):PySem.Txt.partition s ⟨#[10]⟩=(x,⟨#[10]⟩,y):=by
 have hin:(10:Nat)∈s.cps.toList:=by rw[hs];simp
 have hf:(Builtin.Str.occurrences s ⟨#[10]⟩ 0 s.length 1).isEmpty=false:=by
  rw[PyProof.Rows.empty_one,decide_eq_true hin];rfl
 have h2:=Pf hf
 have h3:=eq_of_beq (PyProof.Rows.from_first_some (x:=s) (y:=⟨#[10]⟩) (z:=⟨#[10]⟩) rfl rfl hf)
 have h1:=PySem.StrLaws.partition_sum s ⟨#[10]⟩
 generalize PySem.Txt.partition s ⟨#[10]⟩=p at h1 h2 h3
 obtain⟨a,b,c⟩:=p
 simp only at h1 h2 h3
 subst h2
 have k3:=congrArg (λz:Str=>z.cps.toList) h3
 simp only[yP,hs,CA hx] at k3
 have e3:c=y:=um (by simpa using k3)
 subst e3
 have k1:=congrArg (λz:Str=>z.cps.toList) h1
 simp only[yP,hs] at k1
 have e1:a=x:=um (by simpa using k1)
 rw[e1]
def DZ (o:HO):Prop:=∀C dx v,o ≠ .ins C dx [(("scribe" : Str),v)]
theorem Cd{xs:List V}:DZ (.lst xs):=λ_ _ _ h=>by cases h
theorem ny {C dx:Addr} {fs:List (Str×V)} (h:fs.head?.map (·.1)≠some ("scribe" : Str)):DZ (.ins C dx fs):=λ_ _ v e=>by cases e;exact h rfl
theorem o9 {k:Str} {v:V} {r:List (Str×V)} (h:k ≠ "scribe"):(((k,v)::r).head?.map (·.1))≠some ("scribe" : Str):=λz=>h (Option.some.inj z)
def But(H H':Hp):Prop:=∀b o,H b=some o->DZ o->H' b=some o
theorem CG {H:Hp} {x0 C dx:Addr} {v:V} (h:H x0=some (.ins C dx [(("scribe" : Str),v)])):But H (hid (λc=>c=x0) H):=λb o hb hn=>br hb λz=>hn C dx v (by rw[z,h] at hb;exact(Option.some.inj hb).symm)
theorem S3 {s z:Str}:(jK s z).head?.map (·.1)≠some ("scribe" : Str):=by
 unfold jK
 split
 ·exact λh=>by cases h
 ·split
  ·exact o9 (by decide)
  ·exact o9 (by decide)
theorem IsRules.but{H H':Hp}{a:Addr}{ms:List aD}(h:IsRules t H a ms)(e:But H H'):IsRules t H' a ms:=by
 obtain⟨dx,lm,as,ls,h1,h2,h3⟩:=h
 refine⟨dx,lm,as,ls,e _ _ h1 (ny (o9 (by decide))),e _ _ h2 Cd,h3.la,h3.ll,h3.nd,λi a l m k1 k2 k3=>?_⟩
 obtain⟨dy,rs,y1,y2,y3⟩:=h3.ob i a l m k1 k2 k3
 refine⟨dy,rs,e _ _ y1 (ny (o9 (by decide))),e _ _ y2 Cd,y3.mono λr R hr=>?_⟩
 obtain⟨dz,p,z1,dp,z2⟩:=hr
 exact⟨dz,p,e _ _ z1 (ny (o9 (by decide))),dp,e _ _ z2 (ny S3)⟩
structure lA(t:eS)(n:Nat)(H:Hp)(x0 x tt ld:Addr)(ms:List aD)(Gs:List bX):Prop where
 ob:∃dx0,H x0=some (.ins t.dH dx0 [("scribe",.ref x)])
 sc:∃dx dt a d lu,Rw t (λc=>(c=x0∨c=x)∨c=ld) H x dx tt dt a d ld lu ms Gs
 dn:∃ds,H ld=some (.lst ds)/\ds.length<=n
theorem lA.same{n:Nat}{H H':Hp}{x0 x tt ld:Addr}{ms:List aD}{Gs:List bX}(h:lA t n H x0 x tt ld ms Gs)(s:ao H H'):lA t n H' x0 x tt ld ms Gs:=by
 obtain⟨dx0,h0⟩:=h.ob
 obtain⟨dx,dt,a,d,lu,h1⟩:=h.sc
 obtain⟨ds,h2,h3⟩:=h.dn
 exact⟨⟨dx0,s _ _ h0⟩,⟨dx,dt,a,d,lu,h1.same s⟩,⟨ds,s _ _ h2,h3⟩⟩
def nE (t:eS) (H:Hp) (x0 dx0:Addr) (v:V) (rs:List Str):Prop:=H x0=some (.ins t.dH dx0 [("scribe",v)])/\((v = .cu/\rs=[("" : Str)])∨∃n x tt ld ms Gs,v = .ref x/\lA t n H x0 x tt ld ms Gs/\rs=Gs.map (·.row)/\Gs.length<=1000)
noncomputable def EV (t:eS):Sp:=λvs H Q _=>∃(x0 dx0:Addr) (v:V) (row:Str) (its:List Item) (rs:List Str) (Gs:List bX),vs=[.ref x0,.str row]/\nE t H x0 dx0 v rs/\row=Str.ofString "rules\n" ++ Str.join ⟨#[10]⟩ (rowsOf its)/\(Str.join ⟨#[10]⟩ (rowsOf its)).length<=90000/\fk its/\its.length<=200/\dB (foldI its)/\jD (foldI its)=none/\Chain (foldI its) [0] rs Gs/\rs.length<=1000 /\
 ∀x tt ld H',lA t 0 H' x0 x tt ld (foldI its) Gs->H x=none->H tt=none->H ld=none->fV H H' x0->Q (.str "ok") H'
theorem yQ (T:Txt K mg t):xS t K "rules" 0 t.iJ []:=⟨T.vq,rfl,by decide,λk hk=>absurd hk (by simp)⟩
theorem xu {z:Str}:PySem.Txt.partition (Str.ofString "rules\n" ++ z) (Str.ofString "\n")=(Str.ofString "rules",Str.ofString "\n",z):=by
 have e10:(Str.ofString "\n")=⟨#[10]⟩:=by decide +kernel
 rw[e10]
 refine HY ?_ (by decide +kernel)
 rw[yP,show (Str.ofString "rules\n").cps.toList=(Str.ofString "rules").cps.toList++[10] by decide +kernel,List.append_assoc]
 rfl
theorem kY (T:Txt K mg t) (hw:t.pr=w.params):aZ P w K mg base c7 12 t.uX t.zD ["self","row"] (EV t):=by
 refine T.mR.ok nQ ?_ ?_
 walk_at "i"
 ·obtain⟨x0,dx0,v,row,its,rs,Gs,rfl,hD,erow,hzl,hG,hil,hM,hring,hC,hrl,q⟩:=h
  have e6:(Str.ofString "rules\n").length=6:=by decide +kernel
  have hp:PySem.Txt.partition row (Str.ofString "\n")=(Str.ofString "rules",Str.ofString "\n",Str.join ⟨#[10]⟩ (rowsOf its)):=by rw[erow];exact xu
  refine au (dW 2 nQ (aQ (yF T hw) hr.m rfl T.ya T.pK.kp (T.pK.binds (by walk_at "1")) .nil aE (aa (pv 1) ai))) ⟨_,rfl,t.iJ,row,Str.ofString "rules",Str.ofString "\n",Str.ofString "rules",Str.join ⟨#[10]⟩ (rowsOf its),0,[],rfl,by rw[erow,Str.length_append,e6];lia,by rw[hp],by rw[hp],by rw[hp],by decide +kernel,by decide +kernel,by decide +kernel,rfl,yQ T,λl H1 hL nl s1=>?_⟩
  obtain⟨dl,ln,lm,hl,_,_⟩:=hL
  refine aI (λ_ _=>False) (aX (az bS (aF (pv 2) rfl) aJ (aC _)) av av) (⟨_,rfl,_,_,_,_,_,rfl,hl,T.dh,T.cz,rfl,⟨rfl,_,rfl,dR (λ_=>?_) λz=>absurd rfl z⟩⟩) (λ_ _ z=>z.elim)
  have hx0:=s1 _ _ hD.1
  refine au (bF (pv 0) (dJ T.AZ (OX T) hr.m rfl T.yC (T.Mi.binds (by walk_at "3")) .nil aE (aa (aQ (PR T) hr.m rfl T.QD T.Cf.kp (T.Cf.binds (by walk_at "1")) .nil aE (aa (aF (pv 2) rfl) ai)) (aa (bA (pv 0) T.dX T.Sv (NR T) hr.m (T.L8.binds (by walk_at "1")) .nil aE) ai))) rfl) (⟨_,rfl,_,_,_,_,_,rfl,hl,T.dh,T.kh,rfl,⟨its,rfl,hG,hil,λa H2 hR s2=>⟨_,rfl,x0,dx0,_,rfl,s2 _ _ hx0,rfl,x0,dx0,rs,rfl,?_,λlr H3 hlr nlr s3=>?_⟩⟩⟩)
  ·rcases hD.2 with ⟨rfl,rfl⟩|⟨n,x,tt,ld,ms',Gs',rfl,D,rfl,hl'⟩
   ·exact .inl ⟨rfl,s2 _ _ hx0⟩
   ·obtain⟨dx,dt,a',d,lu,h1⟩:=D.sc
    exact .inr ⟨_,x,dx,tt,dt,a',d,ld,lu,ms',Gs',rfl,s2 _ _ hx0,(h1.same s1).same s2,by lia⟩
  ·intro x dx nx ndx ne
   have s4:ao H3 (upd (upd H3 dx (.own x)) x (.ins t.aM dx [])):=bN nx ndx
   have hx3:=s3 _ _ (s2 _ _ hx0)
   have sA:ao H H3:=s1.trans (s2.trans s3)
   have nx0:x0≠x:=λz=>by rw[z,nx] at hx3;cases hx3
   refine⟨x,dx,a,lr,(λc=>c=x0),foldI its,rs,Gs,rfl,af,λb z=>⟨.ins t.dH dx0 [("scribe",v)],by rw[show b=x0 from z];exact s4 _ _ hx3⟩,((hR.but (CG (s2 _ _ hx0))).same (aV s3)).same (tE s4 nx),hM,hring,s4 _ _ hlr,by lia,hC,λtt dt a' lg gs d ld lu H4 I4 hx4 dp4 hld4 hlu4 nld ntt adv4=>⟨rfl,?_⟩⟩
   have hx04:=adv4 _ _ (s4 _ _ hx3) nx0
   refine⟨_,rfl,x0,_,dx0,[("scribe",v)],rfl,hx04,T.dX,T.cJ,by show 1<1000;decide,?_⟩
   have ndl:ld≠x0:=λz=>by rw[z,s4 _ _ hx3] at nld;cases nld
   refine ay (aG aJ) ?_
   have hid5:ao (hid (λc=>(c=x0∨c=x)∨c=ld) H4) (hid (λc=>(c=x0∨c=x)∨c=ld) (upd H4 x0 (.ins t.dH dx0 (cB "scribe" (.ref x) [("scribe",v)])))):=nT (.inl (.inl rfl))
   refine q x tt ld _ ⟨⟨dx0,af⟩,⟨dx,dt,a',d,lu,by show upd _ _ _ _=_;rw[aj (Ne.symm nx0)];exact hx4,⟨lg,gs,I4.same hid5⟩,dp4.same hid5⟩,⟨[],by show upd _ _ _ _=_;rw[aj ndl];exact hld4,by decide⟩⟩ (sA.free nx) ((sA.trans s4).free ntt) ((sA.trans s4).free nld) (λb o hb nb=>?_)
   show upd _ _ _ _=_
   rw[aj nb]
   exact adv4 _ _ (s4 _ _ (sA _ _ hb)) (λz=>by rw[z,sA.free nx] at hb;cases hb)
noncomputable def NN(t:eS):Sp:=λvs H Q _=>∃(x0 x tt ld:Addr) (ms:List aD) (Gs:List bX) (row:Str) (n:Nat),vs=[.ref x0,.str row]/\lA t n H x0 x tt ld ms Gs /\
 ((row = "marks" /\ ∀H',ao H H'->Q (.str "") H')∨(row = "never" /\ Tells ms/\∀H',ao H H'->Q (.str (Cc ms)) H'))
theorem wU (T:Txt K mg t):xS t K "marks" 0 t.jy []:=⟨T.vh,rfl,by decide,λk hk=>absurd hk (by simp)⟩
theorem xQ (T:Txt K mg t):xS t K "never" 0 t.iS []:=⟨T.tP,rfl,by decide,λk hk=>absurd hk (by simp)⟩
theorem jb (T:Txt K mg t) (hw:t.pr=w.params):aZ P w K mg base c7 12 t.uX t.zD ["self","row"] (NN t):=by
 refine T.mR.ok nQ ?_ ?_
 walk_at "i"
 ·obtain⟨x0,x,tt,ld,ms,Gs,row,n,rfl,hD,q⟩:=h
  obtain⟨g,hrow⟩:∃g,(row = "marks" ∨ row = "never")/\eY (listed t) row=some (.ref g)/\xS t K row 0 g []:=by
   rcases q with ⟨rfl,_⟩|⟨rfl,_⟩
   ·exact⟨_,.inl rfl,rfl,wU T⟩
   ·exact⟨_,.inr rfl,rfl,xQ T⟩
  obtain⟨hr0,hg,hS⟩:=hrow
  have hf:row.length<=5/\PySem.Txt.partition row (Str.ofString "\n")=(row,Str.ofString "",Str.ofString "")/\PySem.Txt.split row (Str.ofString " ")=wordsOf row 0/\(!decide (V.str (Str.ofString "")=V.str (Str.ofString "")))=yi (.str row) [.str (Str.ofString "rules"),.str (Str.ofString "put")]/\row ≠ "rules" /\ yi (.str row) [.str "put",.str "cut",.str "undo",.str "redo"]=false/\yi (.str row) [.str "mark",.str "drop"]=false:=by
   rcases hr0 with rfl|rfl <;> decide +kernel
  obtain⟨f1,f2,f3,f4,f5,f6,f7⟩:=hf
  refine au (dW 2 nQ (aQ (yF T hw) hr.m rfl T.ya T.pK.kp (T.pK.binds (by walk_at "1")) .nil aE (aa (pv 1) ai))) ⟨_,rfl,g,row,row,Str.ofString "",row,Str.ofString "",0,[],rfl,by lia,by rw[f2],by rw[f2],by rw[f2],by lia,f3,f4,hg,hS,λl H1 hL nl s1=>?_⟩
  obtain⟨dl,ln,lm,hl,_,_⟩:=id hL
  have hD1:=hD.same s1
  obtain⟨dx0,hx0⟩:=hD1.ob
  obtain⟨dx,dt,a,d,lu,hsc⟩:=hD1.sc
  refine aI (λZ' H'=>Z'=[some (.ref x0),some (.str row),some (.ref l)]/\H'=H1) (aX (az bS (aF (pv 2) rfl) aJ (aC _)) av av) (⟨_,rfl,_,_,_,_,_,rfl,hl,T.dh,T.cz,rfl,⟨rfl,_,rfl,dR (λz=>absurd (V.str.inj z) f5) λ_=>aU ⟨rfl,rfl⟩⟩⟩) ?_
  rintro Z' H' ⟨rfl,e⟩
  rw[e]
  clear e H'
  refine aI (λZ' H'=>Z'=[some (.ref x0),some (.str row),some (.ref l)]/\H'=H1) (aX (az jw (aF (pv 0) rfl) bB (aC _)) av av) (⟨_,rfl,_,_,_,_,_,rfl,hx0,T.dX,T.cJ,rfl,⟨rfl,_,rfl,dR (λz=>by cases z) λ_=>aU ⟨rfl,rfl⟩⟩⟩) ?_
  rintro Z' H' ⟨rfl,e⟩
  rw[e]
  clear e H'
  refine aI (λZ' H'=>Z'=[some (.ref x0),some (.str row),some (.ref l)]/\H'=H1) (aX (az fT (aF (pv 2) rfl) (fq rfl T.oA (v:=V.ref t.iw) rfl) rfl) av av) (⟨_,rfl,_,_,_,_,_,rfl,hl,T.dh,T.cz,rfl,⟨t.iw,_,rfl,.inr (T.qM _),rfl,rfl,_,rfl,?_⟩⟩) ?_
  ·rw[f6]
   exact kj (aU ⟨rfl,rfl⟩)
  rintro Z' H' ⟨rfl,e⟩
  rw[e]
  clear e H'
  refine aI (λZ' H'=>Z'=[some (.ref x0),some (.str row),some (.ref l)]/\H'=H1) (aX (az fT (aF (pv 2) rfl) (fq rfl T.wG (v:=V.ref t.kO) rfl) rfl) av av) (⟨_,rfl,_,_,_,_,_,rfl,hl,T.dh,T.cz,rfl,⟨t.kO,_,rfl,.inr (T.yd _),rfl,rfl,_,rfl,?_⟩⟩) ?_
  ·rw[f7]
   exact kj (aU ⟨rfl,rfl⟩)
  rintro Z' H' ⟨rfl,e⟩
  rw[e]
  clear e H'
  refine ay (aG (aQ (JH T) hr.m rfl T.Ii T.yp.kp (T.yp.binds (by walk_at "2")) .nil aE (aa (aF (pv 0) rfl) (aa (pv 2) ai)))) (⟨_,rfl,_,_,_,_,_,rfl,hx0,T.dX,T.cJ,rfl,⟨_,rfl,_,x,dx,tt,dt,a,d,ld,lu,l,ms,Gs,row,Str.ofString "",0,rfl,hsc,hL,?_⟩⟩)
  rcases q with ⟨e,q⟩|⟨e,hT,q⟩
  ·exact .inl ⟨e,λH' s'=>q H' (s1.trans s')⟩
  ·exact .inr ⟨e,hT,λH' s'=>q H' (s1.trans s')⟩
def nM:Str:=Str.ofString "put 0 0\nzz"
theorem C9 (T:Txt K mg t):xS t K "put" 2 t.iD ["ROW","AT"]:=⟨T.vt,rfl,by decide,λk hk=>by
 rcases List.mem_cons.mp hk with rfl|hk
 ·decide
 ·rw[List.mem_singleton.mp hk];decide⟩
theorem Ba:nM.length<=100/\PySem.Txt.partition nM (Str.ofString "\n")=(Str.ofString "put 0 0",Str.ofString "\n",Str.ofString "zz")/\(Str.ofString "put 0 0").length<=100/\PySem.Txt.split (Str.ofString "put 0 0") (Str.ofString " ")=wordsOf (Str.ofString "put") 2/\(!decide (V.str (Str.ofString "\n")=V.str (Str.ofString "")))=yi (.str (Str.ofString "put")) [.str (Str.ofString "rules"),.str (Str.ofString "put")]:=by decide +kernel
noncomputable def Qs(t:eS):Sp:=λvs H Q _=>∃(x0 x tt ld:Addr) (ms:List aD) (Gs:List bX) (G:bX) (fs:List Str) (ah bk:Nat) (Gm:List bX) (c:Nat) (Gs':List bX),vs=[.ref x0,.str nM]/\lA t 0 H x0 x tt ld ms Gs /\
 dB ms/\Gs[0]?=some G/\G.row.length<=1000/\PySem.Txt.split (xT G.row 0 (Str.ofString "zz")) (Str.ofString "\n")=fs/\Gs.length<=50000/\Gs'.length<=100000/\fs.length<=50000/\fs≠[]/\jo ms Gs 0 1 fs ah bk Gm c Gs'/\Gm.length+c=1 /\
 ∀H',lA t 1 H' x0 x tt ld ms Gs'->(∀b o,H b=some o->b≠x->b≠tt->b≠ld->H' b=some o)->Q (.str "1") H'
theorem rB (T:Txt K mg t) (hw:t.pr=w.params):aZ P w K mg base c7 12 t.uX t.zD ["self","row"] (Qs t):=by
 refine T.mR.ok nQ ?_ ?_
 walk_at "i"
 ·obtain⟨x0,x,tt,ld,ms,Gs,G,fs,ah,bk,Gm,c,Gs',rfl,hD,hM,hG,hGl,hfs,hl1,hl2,hl3,hne,hC,h1c,q⟩:=h
  obtain⟨f1,f2,f3,f4,f5⟩:=Ba
  refine au (dW 2 nQ (aQ (yF T hw) hr.m rfl T.ya T.pK.kp (T.pK.binds (by walk_at "1")) .nil aE (aa (pv 1) ai))) ⟨_,rfl,t.iD,nM,Str.ofString "put 0 0",Str.ofString "\n",Str.ofString "put",Str.ofString "zz",2,["ROW","AT"],rfl,by lia,by rw[f2],by rw[f2],by rw[f2],by lia,f4,f5,rfl,C9 T,λl H1 hL nl s1=>?_⟩
  obtain⟨dl,ln,lm,hl,_,_⟩:=id hL
  have hD1:=hD.same s1
  obtain⟨dx0,hx0⟩:=hD1.ob
  obtain⟨dx,dt,a,d,lu,hsc⟩:=hD1.sc
  obtain⟨ds,hld,hdl⟩:=hD1.dn
  obtain⟨lg,gs,I⟩:=hsc.ti
  refine aI (λZ' H'=>Z'=[some (.ref x0),some (.str nM),some (.ref l)]/\H'=H1) (aX (az bS (aF (pv 2) rfl) aJ (aC _)) av av) (⟨_,rfl,_,_,_,_,_,rfl,hl,T.dh,T.cz,rfl,⟨rfl,_,rfl,dR (λz=>absurd (V.str.inj z) (by decide)) λ_=>aU ⟨rfl,rfl⟩⟩⟩) ?_
  rintro Z' H' ⟨rfl,e⟩
  rw[e]
  clear e H'
  refine aI (λZ' H'=>Z'=[some (.ref x0),some (.str nM),some (.ref l)]/\H'=H1) (aX (az jw (aF (pv 0) rfl) bB (aC _)) av av) (⟨_,rfl,_,_,_,_,_,rfl,hx0,T.dX,T.cJ,rfl,⟨rfl,_,rfl,dR (λz=>by cases z) λ_=>aU ⟨rfl,rfl⟩⟩⟩) ?_
  rintro Z' H' ⟨rfl,e⟩
  rw[e]
  clear e H'
  refine aI (λ_ _=>False) (aX (az fT (aF (pv 2) rfl) (fq rfl T.oA (v:=V.ref t.iw) rfl) rfl) av av) (⟨_,rfl,_,_,_,_,_,rfl,hl,T.dh,T.cz,rfl,⟨t.iw,_,rfl,.inr (T.qM _),rfl,rfl,_,rfl,?_⟩⟩) (λ_ _ z=>z.elim)
  rw[show yi (.str (Str.ofString "put")) [.str "put",.str "cut",.str "undo",.str "redo"]=true by decide +kernel]
  refine u6 ?_
  have nx0:x0≠x:=λz=>by have h:=hsc.ob;rw[← z,hx0] at h;exact(ny (C:=t.aM) (dx:=dx) (fs:=sf tt d ld lu) (o9 (by decide))) _ _ _ (Option.some.inj h).symm
  have nxt:x0≠tt:=λz=>by have h:=(aH _ _ I.ob);rw[← z,hx0] at h;exact(ny (o9 (by decide))) _ _ _ (Option.some.inj h).symm
  have nxl:x0≠ld:=λz=>by rw[← z,hx0] at hld;cases hld
  refine ay (aG (d8 jx (by rfl) T.Gq (by decide +kernel) (aa (aQ (Q9 T) hr.m rfl T.NV T.E2.kp (T.E2.binds (by walk_at "2")) .nil aE (aa (aF (pv 0) rfl) (aa (pv 2) ai))) ai))) (⟨_,rfl,_,_,_,_,_,rfl,hx0,T.dX,T.cJ,rfl,⟨_,rfl,x,dx,l,tt,d,ld,lu,Str.ofString "zz",rfl,hsc.ob,hL,(λc=>(c=x0∨c=x)∨c=ld),x,dx,tt,d,ld,lu,dt,a,lg,gs,ms,Gs,G,[],ds,0,0,Str.ofString "zz",fs,ah,bk,Gm,c,Gs',rfl,.inl (.inr rfl),.inr rfl,?_,hsc.ob,I,hsc.dp,List.nodup_nil,by decide,λy hy=>absurd hy (by simp),hld,by lia,hM,hG,Nat.zero_le _,hGl,by decide +kernel,hfs,hl1,hl2,hl3,hne,hC,λH4 D4=>⟨_,rfl,by rw[h1c];decide,?_⟩⟩⟩)
  ·rintro b ((z|z)|z)
   ·exact⟨.ins t.dH dx0 [("scribe",.ref x)],by rw[z];exact hx0⟩
   ·exact⟨.ins t.aM dx (sf tt d ld lu),by rw[z];exact hsc.ob⟩
   ·exact⟨.lst ds,by rw[z];exact hld⟩
  ·obtain⟨d',lu',o1,o2,_,_⟩:=D4.ob
   obtain⟨dd,ddx,lt,lv,o3,_⟩:=D4.dn
   rw[h1c]
   refine q H4 ⟨⟨dx0,D4.keep _ _ hx0 nx0 nxt nxl⟩,⟨dx,dt,a,d',lu',o1,D4.ti,o2⟩,⟨_,o3,by rw[List.length_append,List.length_singleton];lia⟩⟩ λb o hb n1 n2 n3=>D4.keep _ _ (s1 _ _ hb) n1 n2 n3
theorem Th:(Str.ofString " !\"#$&'()*+,-./0123456789:;<=>?@ABCDEFGHIJKLMNOPQRSTUVWXYZ[\\]^_" ++ Str.ofString "`abcdefghijklmnopqrstuvwxyz{|}~" : Str)=bK:=by decide +kernel
noncomputable def OS:Sp:=λvs H Q _=>vs=[]/\Q (.str bK) H
theorem xr(T:Txt K mg t):aZ P w K mg base c7 1 t.E4 t.Mw [] OS:=by
 refine T.pJ.ok DB (λvs H Q E h=>?_) (λcdv A outer s H vs Q E hr h=>oV ?_)
 ·obtain⟨rfl,_⟩:=h
  rfl
 ·obtain⟨rfl,q⟩:=h
  refine au (dW 0 DB aJ) ?_
  refine ay (aG (aW cQ (pv 0) aJ)) ⟨_,rfl,_,_,rfl,rfl,by decide +kernel,?_⟩
  rw[Th]
  exact q
theorem sG(x:Str)(i n:Nat)(hi:i<=x.length):(PySem.Txt.slice x (some (i:Int)) (some ((i:Int)+(n:Int)))).cps.toList=(x.cps.toList.drop i).take n:=by
 by_cases h:i+n<=x.length
 ·have:=eq_of_beq (PyProof.Rows.slice_closesL (x:=x) (i:=(i:Int)) (j:=(i:Int)+(n:Int)) (by lia) (by lia) (by lia))
  rw[this]
  have e:((i:Int)+(n:Int)-(i:Int)).toNat=n:=by lia
  simp[e]
 ·have e:PySem.Txt.slice x (some (i:Int)) (some ((i:Int)+(n:Int)))=PySem.Txt.slice x (some (i:Int)) (some (x.length:Int)):=by
   have e2:PySem.Builtin.Str.strSliceIndices (some (i:Int)) (some ((i:Int)+(n:Int))) 1 x.length=PySem.Builtin.Str.strSliceIndices (some (i:Int)) (some (x.length:Int)) 1 x.length:=by
    have h0:¬ ((i:Int)+(n:Int)<0):=by lia
    have h1:¬ ((x.length:Int)<0):=by lia
    have h2:(1:Int)>0:=by decide
    have h3:(x.length:Int)<=(i:Int)+(n:Int):=by lia
    simp only[PySem.Builtin.Str.strSliceIndices,h0,h1,h2,if_false,if_true,Int.min_eq_right h3,Int.min_self]
   unfold PySem.Txt.slice
   rw[e2]
  have:=eq_of_beq (PyProof.Rows.slice_closesL (x:=x) (i:=(i:Int)) (j:=(x.length:Int)) (by lia) (by lia) (by lia))
  rw[e,this]
  show (x.cps.toList.drop (i:Int).toNat).take ((x.length:Int)-(i:Int)).toNat=_
  rw[Int.toNat_natCast,List.take_of_length_le (by rw[List.length_drop,bT];lia),List.take_of_length_le (by rw[List.length_drop,bT];lia)]
noncomputable def Gh:Sp:=λvs H Q _=>∃(kd z row:Str) (i:Nat),vs=[.str kd,.str z,.str row,.int i]/\kd∈sorts/\z.length<=1000/\row.length<=1000/\i<=row.length/\Q (cR kd z row i) H
theorem GD (T:Txt K mg t):aZ P w K mg base c7 1 t.Hi t.Ka ["_law_kind","_law_arg","_law_row","_law_at"] Gh:=by
 refine T.uH.ok yX ?_ ?_
 walk_at "i"
 ·obtain⟨kd,z,row,i,rfl,hs,hz,hrow,hi,q⟩:=h
  refine aI (λZ' H'=>Z'=[some (.str kd),some (.str z),some (.str row),some (.int i),none]/\H'=H/\kd ≠ "end") (aX (az bS (pv 0) aJ (aC _)) av av) ⟨_,rfl,rfl,_,rfl,dR (λe=>?_) λe=>aU ⟨rfl,rfl,λy=>e (by rw[y])⟩⟩ ?_
  ·obtain rfl:kd = "end" := V.str.inj e
   refine ay (aG (bH (az bS (pv 3) (aK bf (by rfl) T.bU (by decide +kernel) (aa (pv 2) ai)) (aC _)) aB bB)) ?_
   walk_at "rd"
   refine⟨bI (by lia),rfl,?_⟩
   rw[cR,if_pos rfl] at q
   refine dR (λh=>?_) λh=>?_
   ·rw[if_pos (by lia)] at q
    exact q
   ·rw[if_neg (by lia)] at q
    exact q
  rintro Z' H' ⟨rfl,e,n1⟩
  rw[e]
  clear e H'
  refine aI (λZ' H'=>Z'=[some (.str kd),some (.str z),some (.str row),some (.int i),none]/\H'=H/\kd ≠ "word") (aX (az bS (pv 0) aJ (aC _)) av av) ⟨_,rfl,rfl,_,rfl,dR (λe=>?_) λe=>aU ⟨rfl,rfl,λy=>e (by rw[y])⟩⟩ ?_
  ·obtain rfl:kd = "word" := V.str.inj e
   refine ay (aG (bH (az bS (cW nq (pv 2) (cE (pv 3)) (cE (aW bZ (pv 3) (aK bf (by rfl) T.bU (by decide +kernel) (aa (pv 1) ai))))) (pv 1) (aC _)) (aK bf (by rfl) T.bU (by decide +kernel) (aa (pv 1) ai)) bB)) ?_
   walk_at "rd"
   refine⟨bI (by lia),bI (by lia),rfl,?_⟩
   rw[cR,if_neg (by decide),if_pos rfl] at q
   have hm:=sG row i z.length hi
   refine dR (λh=>⟨bI (by lia),?_⟩) λh=>?_
   ·rw[if_pos (by rw[← hm,h])] at q
    exact q
   ·rw[if_neg (λy=>h (um (by rw[hm,y])))] at q
    exact q
  rintro Z' H' ⟨rfl,e,n2⟩
  rw[e]
  clear e H'
  refine aI (λZ' H'=>Z'=[some (.str kd),some (.str z),some (.str row),some (.int i),none]/\H'=H/\i<row.length) (aX (az bS (pv 3) (aK bf (by rfl) T.bU (by decide +kernel) (aa (pv 2) ai)) (aC _)) av av) ?_ ?_
  ·walk_at "rd"
   refine⟨bI (by lia),rfl,dR (λh=>?_) λh=>aU ⟨rfl,rfl,by lia⟩⟩
   refine ay (aG bB) ?_
   rw[gS n1 n2 (by lia)] at q
   exact q
  rintro Z' H' ⟨rfl,e,hi2⟩
  rw[e]
  clear e H'
  obtain⟨c,e1,e2⟩:=strAt (row:=row) (i:=(i:Int)) (by lia) (by lia)
  rw[Int.toNat_natCast] at e1
  rw[gk n1 n2 e1] at q
  refine aI (λZ' H'=>Z'=[some (.str kd),some (.str z),some (.str row),some (.int i),none]/\H'=H/\kd ≠ "still") (aX (az bS (pv 0) aJ (aC _)) av av) ⟨_,rfl,rfl,_,rfl,dR (λe=>?_) λe=>aU ⟨rfl,rfl,λy=>e (by rw[y])⟩⟩ ?_
  ·obtain rfl:kd = "still" := V.str.inj e
   refine ay (aG aB) ?_
   rw[if_pos (.inr rfl),if_neg (by decide)] at q
   exact q
  rintro Z' H' ⟨rfl,e,n3⟩
  rw[e]
  clear e H'
  refine aI (λZ' H'=>Z'=[some (.str kd),some (.str z),some (.str row),some (.int i),none]/\H'=H/\kd ≠ "any" /\ kd ≠ "none") (aX (PW.pt (ie (az bS (pv 0) aJ (aC _)) (gj (az bS (pv 0) aJ (aC _))))) av av) ?_ ?_
  ·walk_at "rd"
   refine⟨rfl,dR (λe=>?_) λe=>⟨rfl,dR (λe'=>?_) λe'=>aU ⟨rfl,rfl,e,e'⟩⟩⟩
   ·subst e
    refine ay (aG (bH (PW.pt (ie (az bS (pv 0) aJ (aC _)) (gj (az ir (bw lD (pv 2) (pv 3) (λ_ _=>rfl)) (pv 1) rfl)))) aB bB)) ?_
    rw[if_pos (.inl rfl),if_pos rfl] at q
    walk_at "rd"
    exact⟨rfl,u6 q⟩
   ·subst e'
    refine ay (aG (bH (PW.pt (ie (az bS (pv 0) aJ (aC _)) (gj (az ir (bw lD (pv 2) (pv 3) (λ_ _=>rfl)) (pv 1) rfl)))) aB bB)) ?_
    rw[if_neg (by rintro (h|h) <;> exact absurd h (by decide)),if_pos rfl] at q
    walk_at "rd"
    refine⟨rfl,?_⟩
    rw[decide_eq_false (by decide)]
    refine kj ⟨bI (by lia),c,e2,?_⟩
    rw[PySem.StrLaws.found_one]
    refine jA (λh=>?_) λh=>?_
    ·rw[if_neg h] at q
     exact q
    ·rw[if_pos h] at q
     exact q
  rintro Z' H' ⟨rfl,e,n4,n5⟩
  rw[e]
  clear e H'
  rw[if_neg (λy=>y.elim n4 n3),if_neg n5] at q
  refine aI (λZ' H'=>Z'=[some (.str kd),some (.str z),some (.str row),some (.int i),none]/\H'=H/\c∈z.cps.toList) (aX (az ir (bw lD (pv 2) (pv 3) (λ_ _=>rfl)) (pv 1) rfl) av av) ?_ ?_
  ·walk_at "rd"
   refine⟨bI (by lia),c,e2,?_⟩
   rw[PySem.StrLaws.found_one]
   refine jA (λh=>?_) λh=>aU ⟨rfl,rfl,h⟩
   refine ay (aG bB) ?_
   rw[if_neg h] at q
   exact q
  rintro Z' H' ⟨rfl,e,hc⟩
  rw[e]
  clear e H'
  rw[if_pos hc] at q
  refine au (dW 4 yX (aW bZ (pv 3) aB)) ?_
  walk_at "rd"
  refine aI (λZ' H'=>H'=H/\∃j:Nat,Z'=[some (.str kd),some (.str z),some (.str row),some (.int i),some (.int (j:Int))]/\i<=j/\(if kd = "many" then (1:Int)+(ja z.cps.toList (row.cps.toList.drop (i+1)):Nat) else 1)=(j:Int)-i) (jO PassesOwn.never (PW.pt (ic (az bS (pv 0) aJ (aC _)) (ic (az gx (pv 4) (aK bf (by rfl) T.bU (by decide +kernel) (aa (pv 2) ai)) (aC _)) (gF (az ji (bw lD (pv 2) (pv 4) (λ_ _=>rfl)) (pv 1) rfl))))) av) ?_ ?_
  ·refine⟨λm Z' H'=>∃j:Nat,Z'=[some (.str kd),some (.str z),some (.str row),some (.int i),some (.int (j:Int))]/\H'=H/\i+1<=j/\j<=row.length/\m=row.length-j/\(kd ≠ "many" -> j=i+1)/\(kd = "many" -> i+1+ja z.cps.toList (row.cps.toList.drop (i+1))=j+ja z.cps.toList (row.cps.toList.drop j)),⟨_,i+1,rfl,rfl,Nat.le_refl _,hi2,rfl,λ_=>rfl,λ_=>rfl⟩,?_⟩
   rintro m Z' H' ⟨j,rfl,e,hj1,hj,rfl,hj2,hr⟩
   rw[e]
   clear e H'
   walk_at "rd"
   refine⟨rfl,dR (λhm=>?_) λhm=>⟨j,rfl,by lia,by rw[if_neg hm];have:=hj2 hm;lia⟩⟩
   have hr2:=hr hm
   refine⟨bI (by lia),dR (λh=>?_) λh=>?_⟩
   ·obtain⟨c2,e3,e4⟩:=strAt (row:=row) (i:=(j:Int)) (by lia) h
    rw[Int.toNat_natCast] at e3
    rw[qR (j:=j) e3] at hr2
    refine⟨bI (by lia),c2,e4,?_⟩
    rw[PySem.StrLaws.found_one]
    refine dR (λh2=>?_) λh2=>?_
    ·rw[if_pos h2] at hr2
     refine⟨_,λZ' H' y=>y,ay (dW 4 yX (aW bZ (pv 4) aB)) ?_⟩
     walk_at "rd"
     exact⟨row.length-(j+1),by lia,j+1,by simp,by lia,by lia,rfl,λy=>absurd hm y,λ_=>by lia⟩
    ·rw[if_neg h2] at hr2
     exact⟨j,rfl,by lia,by rw[if_pos hm];lia⟩
   ·have:row.cps.toList.drop j=[]:=List.drop_eq_nil_of_le (by rw[getL (i:=0)];lia)
    rw[this,ja] at hr2
    exact⟨j,rfl,by lia,by rw[if_pos hm];lia⟩
  rintro Z' H' ⟨e,j,rfl,hj,hd⟩
  rw[e]
  clear e H'
  refine ay (aG (aW jN (pv 4) (pv 3))) ?_
  walk_at "rd"
  rw[← hd]
  exact q
def sgn(c:Nat):Str:=⟨#[c]⟩
def fK (kd z:Str):List Str:=if kd = "word" ∨ kd = "end" then [z] else (bK.cps.toList.map sgn).filter λr=>decide (cR kd z r 0 ≠ .cu)
def NI(kd z:Str)(i:Nat):List Str:=((bK.cps.toList.take i).map sgn).filter λr=>decide (cR kd z r 0 ≠ .cu)
theorem vI{kd z:Str}{i c:Nat}(h:bK.cps.toList[i]?=some c):NI kd z (i+1)=NI kd z i++if cR kd z (sgn c) 0 ≠ .cu then [sgn c] else []:=by
 rw[NI,take_snoc h,List.map_append,List.filter_append]
 congr 1
 by_cases e:cR kd z (sgn c) 0 = .cu <;> simp[e]
theorem Hz{kd z:Str}{i:Nat}:(NI kd z i).length<=i:=by
 rw[NI]
 refine Nat.le_trans (List.length_filter_le _ _) ?_
 rw[List.length_map]
 exact List.length_take_le _ _
noncomputable def AS:Sp:=λvs H Q _=>∃(kd z:Str),vs=[.str kd,.str z]/\kd∈sorts/\z.length<=1000/\∀l H',H' l=some (.lst ((fK kd z).map V.str))->H l=none->ao H H'->Q (.ref l) H'
theorem PD (T:Txt K mg t):aZ P w K mg base c7 2 t.B3 t.Kv ["_law_kind","_law_arg"] AS:=by
 refine T.CV.ok Pe ?_ ?_
 walk_at "i"
 ·obtain⟨kd,z,rfl,hs,hz,q⟩:=h
  refine aI (λZ' H'=>Z'=[some (.str kd),some (.str z)]/\H'=H /\ ¬ (kd = "word" ∨ kd = "end")) (aX (PW.pt (ie (az bS (pv 0) aJ (aC _)) (gj (az bS (pv 0) aJ (aC _))))) av av) ?_ ?_
  ·walk_at "rd"
   refine⟨rfl,dR (λe=>?_) λe=>⟨rfl,dR (λe'=>?_) λe'=>aU ⟨rfl,rfl,λy=>y.elim e e'⟩⟩⟩
   ·refine ay (aG (bV (aa (pv 1) ai))) ⟨_,rfl,by show 1<=sizeLine;decide,λl hl=>q l _ ?_ hl (ao.upd hl)⟩
    rw[af,fK,if_pos (.inl e)]
    rfl
   ·refine ay (aG (bV (aa (pv 1) ai))) ⟨_,rfl,by show 1<=sizeLine;decide,λl hl=>q l _ ?_ hl (ao.upd hl)⟩
    rw[af,fK,if_pos (.inr e')]
    rfl
  rintro Z' H' ⟨rfl,e,hn⟩
  rw[e]
  clear e H'
  have hl94:bK.length=94:=by decide +kernel
  refine ay (@aG _ _ _ _ (@A6 _ (aq FA) _ ["_law_kind","_law_arg"] _ _ _ ("_law_sign") _ _ [("_law_kind",0),("_law_arg",1)] _ _ _ (by walk_at "ck") (@yM _ _ _ _ _ (@jW _ _ _ _ _ _ _ _ _ _ _ _ _ (xr T) hr.m rfl T.yt T.pJ.kp (T.pJ.binds (by walk_at "0")) .nil aE (by left))) (λ_ _ _ _=>by exact(@az _ _ _ _ _ _ _ _ iV (@aQ _ _ _ _ _ _ _ _ _ _ _ _ _ _ _ _ (GD T) hr.m rfl T.EK T.uH.kp (T.uH.binds (by walk_at "4")) .nil aE (aa (pv 0) (aa (pv 1) (aa (pv 2) (aa aB ai (by left)) (by left)) (by left)) (by left)) (by left) (by left) (by left)) bB (aC _))) (λ_ _ _ _=>by exact(pv 2)) (by left) (by left) (by left) (by left))) ⟨rfl,bK,rfl,zl (λi ys H2=>H2=H/\ys=(NI kd z i).map V.str) ⟨rfl,rfl⟩ (by rw[hl94];decide) ?_ ?_⟩
  ·rintro i c ys H2 hc hl ⟨rfl,rfl⟩
   have hi:i<bK.length:=by
    have:=(List.getElem?_eq_some_iff.mp hc).1
    simpa [Str.length] using this
   refine⟨_,rfl,_,rfl,_,rfl,kd,z,sgn c,0,rfl,hs,hz,by show 1<=1000;decide,Nat.zero_le _,?_⟩
   have hpl:=Hz (kd:=kd) (z:=z) (i:=i)
   refine⟨rfl,_,rfl,jA (λh=>⟨_,rfl,iQ hi (by rw[List.length_append,List.length_map];exact Nat.succ_le_succ hpl) ⟨rfl,?_⟩⟩) λh=>iQ hi (by rw[List.length_map];lia) ⟨rfl,?_⟩⟩
   ·rw[vI hc,if_pos h,List.map_append]
    rfl
   ·rw[vI hc,if_neg (λy=>y h),List.append_nil]
  ·rintro ys H2 hl ⟨rfl,rfl⟩ D hD
   refine q D _ ?_ hD (ao.upd hD)
   rw[af,fK,if_neg hn,NI,List.take_of_length_le (by simp[Str.length])]
def P6(H:Hp)(u:Addr)(ps:List (Str×Str)):Prop:=∃ts:List Addr,H u=some (.lst (ts.map V.ref))/\bO (λtr (p:Str×Str)=>H tr=some (.tup [.str p.1,.str p.2])) ts ps
theorem P6.same{H H':Hp}{u:Addr}{ps:List (Str×Str)}(h:P6 H u ps)(s:ao H H'):P6 H' u ps:=by
 obtain⟨ts,a,b⟩:=h
 exact⟨ts,s _ _ a,b.mono λ_ _ z=>s _ _ z⟩
def fY(ps:List (Str×Str))(n:Nat)(r:Str):List (Str×Str):=(ps.take n).filter λp=>decide (cR p.1 p.2 r 0 ≠ .cu)
def ig(ps:List (Str×Str))(n:Nat)(p:Str×Str):Bool:=(fK p.1 p.2).all λr=>!(fY ps n r).isEmpty
noncomputable def Ol(K:PySem.W.Frag):Sp:=λvs H Q _=>∃(u:Addr) (ps:List (Str×Str)) (p:Str×Str) (n:Nat),vs=[.ref u,.int n]/\P6 H u ps/\ps[n]?=some p/\(∀p∈ps,p.1∈sorts/\p.2.length<=1000)/\ps.length<=100/\∀H',ao H H'->Q (.bl (ig ps n p)) H'
theorem qd{ps:List (Str×Str)}{i:Nat}{p:Str×Str}{r:Str}(h:ps[i]?=some p):fY ps (i+1) r=fY ps i r++if cR p.1 p.2 r 0 ≠ .cu then [p] else []:=by
 rw[fY,take_snoc h,List.filter_append]
 congr 1
 by_cases e:cR p.1 p.2 r 0 = .cu <;> simp[e]
theorem yD{kd z r:Str}(hz:z.length<=1000)(h:r∈fK kd z):r.length<=1000:=by
 rw[fK] at h
 split at h
 ·rw[List.mem_singleton.mp h];exact hz
 ·obtain⟨c,_,rfl⟩:=List.mem_map.mp (List.mem_filter.mp h).1
  show 1<=1000
  decide
theorem NO (T:Txt K mg t):aZ P w K mg base c7 3 t.ES t.Lj ["_law_rules","_law_number"] (Ol K):=by
 refine T.EZ.ok qL ?_ ?_
 walk_at "i"
 ·obtain⟨u,ps,p,n,rfl,⟨ts,hu,hA⟩,hp,hok,hl,q⟩:=h
  have hn:n<ps.length:=(List.getElem?_eq_some_iff.mp hp).1
  obtain⟨tr,htr⟩:∃b,ts[n]?=some b:=⟨ts[n]'(by rw[hA.1];exact hn),List.getElem?_eq_getElem _⟩
  have hp2:=hA.2 n tr p htr hp
  obtain⟨k1,k2⟩:=hok p (List.mem_of_getElem? hp)
  refine au (yW (bw bq (pv 0) (pv 1) (λ_ _=>rfl)) (gZ rfl (bR (oJ 2 qL) (bR (oJ 3 qL) fH)))) ⟨_,rfl,_,rfl,u,_,n,_,rfl,rfl,aY.of hu,gi htr,tr,[.str p.1,.str p.2],rfl,fN.of hp2,rfl,_,_,rfl,_,_,rfl,rfl,?_⟩
  refine aI (λZ' H'=>(∃x y,Z'=[some (.ref u),some (.int n),some (.str p.1),some (.str p.2),x,y])/\ao H H'/\ig ps n p=true) (dO PassesOwn.never rfl (eB (aQ (PD T) hr.m rfl T.Rr T.CV.kp (T.CV.binds (by walk_at "2")) .nil aE (aa (pv 2) (aa (pv 3) ai)))) (eW (i:=4) qL.nd rfl (Or.inr rfl)) av) ?_ ?_
  ·refine⟨_,rfl,_,rfl,p.1,p.2,rfl,k1,k2,λlp H1 hlp nlp s1=>⟨lp,rfl,⟨_,aY.of hlp⟩,fR (xs:=(fK p.1 p.2).map V.str) (λi Z' H'=>(∃x y,Z'=[some (.ref u),some (.int n),some (.str p.1),some (.str p.2),x,y])/\ao H1 H'/\((fK p.1 p.2).take i).all (λr=>!(fY ps n r).isEmpty)=true) ⟨⟨_,_,rfl⟩,ao.refl _,rfl⟩ ?_ ?_ ?_⟩⟩
   ·rintro i Z' H' _ ⟨_,s2,_⟩
    exact aY.of (s2 _ _ hlp)
   ·rintro i xv Z' H2 hx ⟨⟨x,y,rfl⟩,s2,hall⟩
    rw[List.getElem?_map] at hx
    obtain⟨r,hr0,rfl⟩:=Option.map_eq_some_iff.mp hx
    have hrl:=yD k2 (List.mem_of_getElem? hr0)
    have s12:ao H H2:=s1.trans s2
    show At _ _ _ _ _
    refine au (@AO _ 5 _ (aq G5) _ ["_law_rules","_law_number","_law_kind","_law_arg","_law_piece","_law_ahead"] _ _ _ ("_law_one") _ _ _ _ [("_law_piece",4)] _ _ _ qL.nd rfl (Or.inl rfl) (by walk_at "ck") (@eB _ _ _ _ (@cW _ _ _ _ _ _ _ _ _ _ fJ (pv 0) gh (@cE _ _ _ (pv 1)))) (λ_ _ _ _=>by exact(@az _ _ _ _ _ _ _ _ iV (@aQ _ _ _ _ _ _ _ _ _ _ _ _ _ _ _ _ (GD T) hr.m rfl T.EK T.uH.kp (T.uH.binds (by walk_at "4")) .nil aE (aa (@bw _ _ _ _ _ _ _ (zK (K:=K) rfl) (pv 1) aB (λ_ _=>rfl)) (aa (@bw _ _ _ _ _ _ _ (zK (K:=K) rfl) (pv 1) aB (λ_ _=>rfl)) (aa (pv 0) (aa aB ai (by left)) (by left)) (by left)) (by left)) (by left) (by left) (by left)) bB (aC _))) (λ_ _ _ _=>by exact(pv 1)) (by left) (by left) (by left) (by left) (by left) (by left)) ⟨_,rfl,_,rfl,n,rfl,u,_,rfl,aY.of (s12 _ _ hu),λl2 h2=>?_⟩
    have htl:n<=(ts.map V.ref).length:=by rw[List.length_map,hA.1];lia
    rw[DL htl]
    refine⟨l2,rfl,⟨_,aY.of af⟩,vP (xs:=(ts.map V.ref).take n) (λi ys H3=>ao (upd H2 l2 (.lst ((ts.map V.ref).take n))) H3/\ys.length=(fY ps i r).length) ⟨ao.refl _,rfl⟩ (by rw[List.length_take,Nat.min_eq_left htl];exact Nat.lt_of_lt_of_le (Nat.lt_of_lt_of_le hn hl) (by decide)) ?_ ?_ ?_⟩
    ·rintro j ys H3 _ ⟨s3,_⟩
     exact aY.of (s3 _ _ af)
    ·rintro j xv ys H3 hx hyl ⟨s3,hy⟩
     have hj:j<n:=by
      have:=(List.getElem?_eq_some_iff.mp hx).1
      rw[List.length_take,Nat.min_eq_left htl] at this
      exact this
     rw[List.getElem?_take_of_lt hj,List.getElem?_map] at hx
     obtain⟨tj,htj,rfl⟩:=Option.map_eq_some_iff.mp hx
     have hpj:ps[j]?=some ps[j]:=List.getElem?_eq_getElem (by lia)
     generalize ps[j]=pj at hpj
     have hs3:ao H H3:=(s12.to h2).trans s3
     have htj2:=hs3 _ _ (hA.2 j tj pj htj hpj)
     obtain⟨j1,j2⟩:=hok pj (List.mem_of_getElem? hpj)
     have hj2:j<((ts.map V.ref).take n).length:=by rw[List.length_take,Nat.min_eq_left htl];exact hj
     refine⟨_,rfl,tj,_,0,_,rfl,rfl,fN.of htj2,bM (j:=0) rfl,_,rfl,tj,_,1,_,rfl,rfl,fN.of htj2,bM (j:=1) rfl,_,rfl,pj.1,pj.2,r,0,rfl,j1,j2,hrl,Nat.zero_le _,?_⟩
     refine⟨rfl,_,rfl,jA (λh=>⟨_,rfl,iQ hj2 (by rw[List.length_append];exact Nat.succ_le_succ hyl) ⟨s3,?_⟩⟩) λh=>iQ hj2 (by lia) ⟨s3,?_⟩⟩
     ·rw[qd hpj,if_pos h,List.length_append,List.length_append,hy]
      rfl
     ·rw[qd hpj,if_neg (λy=>y h),List.append_nil,hy]
    rintro ys H3 hyl ⟨s3,hy⟩ D hD
    rw[List.length_take,Nat.min_eq_left htl] at hy
    have s4:ao H1 (upd H3 D (.lst ys)):=((s2.to h2).trans s3).to hD
    show At _ _ _ _ _
    refine ay (aX (az bS (aK aP (by rfl) T.bU (by decide +kernel) (aa (pv 5) ai)) aB (aC _)) av av) ⟨_,rfl,D,_,rfl,.inl (aY.of af),rfl,_,rfl,dR (λh=>?_) λh=>aU ⟨⟨_,_,rfl⟩,s4,?_⟩⟩
    ·refine ay (aG j9) ?_
     have:=q _ (s1.trans s4)
     rw[show ig ps n p=false from ?_] at this
     ·exact this
     ·have h0:(fY ps n r).length=0:=by rw[← hy];exact Int.ofNat.inj (V.int.inj h)
      rw[ig,List.all_eq_false]
      exact⟨r,List.mem_of_getElem? hr0,by rw[List.length_eq_zero_iff.mp h0];decide⟩
    ·rw[take_snoc hr0,List.all_append,hall,Bool.true_and]
     cases e:fY ps n r with
     |nil=>rw[e] at hy;exact absurd (by rw[hy];rfl) h
     |cons a b=>simp[e]
   ·rintro Z' H' ⟨h1,s2,h3⟩
    rw[List.length_map,List.take_length] at h3
    exact⟨h1,s1.trans s2,h3⟩
  rintro Z' H' ⟨⟨x,y,rfl⟩,s1,hh⟩
  refine ay (aG j9) ?_
  have:=q H' s1
  rw[hh] at this
  exact this
def Du(H:Hp)(lm:Addr)(mm:List (Str×List (Str×Str))):Prop:=∃ts:List Addr,H lm=some (.lst (ts.map V.ref))/\bO (λtm (m:Str×List (Str×Str))=>∃u,H tm=some (.tup [.str m.1,.ref u])/\P6 H u m.2) ts mm
theorem Du.same{H H':Hp}{lm:Addr}{mm:List (Str×List (Str×Str))}(h:Du H lm mm)(s:ao H H'):Du H' lm mm:=let ⟨ts,a,b⟩:=h;⟨ts,s _ _ a,b.mono λ_ _ z=>let ⟨u,y1,y2⟩:=z;⟨u,s _ _ y1,y2.same s⟩⟩
def u9 (ps:List (Str×Str)) (n:Nat):Bool:=ig ps n (ps[n]?.getD ("",""))
def jX (nm:Str) (ps:List (Str×Str)) (k:Nat):List Str:=((List.range k).filter λn=>u9 ps n).map λn=>nm++Str.ofString " " ++ u7 n
def eu(mm:List (Str×List (Str×Str))):List Str:=mm.flatMap λm=>jX m.1 m.2 m.2.length
theorem Ju{nm:Str}{ps:List (Str×Str)}{k:Nat}(h:u9 ps k=false):jX nm ps (k+1)=jX nm ps k:=by
 rw[jX,List.range_succ,List.filter_append,List.map_append]
 simp[h,jX]
theorem Ck {nm:Str} {ps:List (Str×Str)} {k:Nat} (h:u9 ps k=true):jX nm ps (k+1)=jX nm ps k++[nm++Str.ofString " " ++ u7 k]:=by
 rw[jX,List.range_succ,List.filter_append,List.map_append]
 simp[h,jX]
theorem v8(nm:Str)(ps:List (Str×Str))(k:Nat):(jX nm ps k).length<=k:=by
 rw[jX,List.length_map]
 exact Nat.le_trans (List.length_filter_le _ _) (Nat.le_of_eq List.length_range)
theorem vR{mm:List (Str×List (Str×Str))}{m:Str×List (Str×Str)}:eu (mm++[m])=eu mm++jX m.1 m.2 m.2.length:=by
 rw[eu,List.flatMap_append]
 simp[eu]
theorem lR{B:Nat}:∀{mm:List (Str×List (Str×Str))},(∀m∈mm,m.2.length<=B)->(eu mm).length<=mm.length*B
 | [],_=>by simp[eu]
 |m::r,h=>by
  have h1:=lR (mm:=r) (λx hx=>h x (List.mem_cons_of_mem _ hx))
  have h2:=Nat.le_trans (v8 m.1 m.2 m.2.length) (h m List.mem_cons_self)
  show (jX m.1 m.2 m.2.length++eu r).length<=_
  rw[List.length_append,List.length_cons,Nat.succ_mul]
  lia
structure PU(mm:List (Str×List (Str×Str))):Prop where
 few:mm.length<=100
 ok:∀m∈mm,m.1.length<=1000/\m.2.length<=100/\∀p∈m.2,p.1∈sorts/\p.2.length<=1000
theorem w9{mm:List (Str×List (Str×Str))}(D:PU mm):((eu mm).map (·.length)).sum<=(eu mm).length*1003:=by
 refine nt _ λy hy=>?_
 obtain⟨m,hm,hy⟩:=List.mem_flatMap.mp hy
 obtain⟨n,hn,rfl⟩:=List.mem_map.mp hy
 have h1:=D.ok m hm
 have h2:=List.mem_range.mp (List.mem_filter.mp hn).1
 have h3:=mj (n:=n) (by lia)
 have e1:(Str.ofString " ").length=1:=by decide +kernel
 rw[Str.length_append,Str.length_append,e1]
 lia
noncomputable def Ni:Sp:=λvs H Q _=>∃(lm:Addr) (mm:List (Str×List (Str×Str))),vs=[.ref lm]/\Du H lm mm/\PU mm/\∀H',ao H H'->Q (.str (Str.join (Str.ofString "\n") (eu mm))) H'
theorem Em (T:Txt K mg t):aZ P w K mg base c7 4 t.Dp t.KS ["_law_modes_here"] Ni:=by
 refine T.uQ.ok qA ?_ ?_
 walk_at "i"
 ·obtain⟨lm,mm,rfl,⟨ts,hlm,hA⟩,hD,q⟩:=h
  refine au (dW 1 qA (bV ai)) ⟨by show 0<=sizeLine;decide,λlr hlr=>?_⟩
  have W0:sS H (upd H lr (.lst [])) lr []:=⟨af,hlr,ao.upd hlr⟩
  generalize upd H lr (.lst [])=H0 at W0
  refine aI (λZ' H'=>(∃x y z,Z'=[some (.ref lm),some (.ref lr),x,y,z])/\sS H H' lr (eu mm)) (dO PassesOwn.never rfl (eB (pv 0)) (gZ rfl (bR (oJ 2 qA) (bR (oJ 3 qA) fH))) av) ?_ ?_
  ·refine⟨_,rfl,lm,rfl,⟨_,aY.of (W0.same _ _ hlm)⟩,fR (xs:=ts.map V.ref) (λi Z' H'=>(∃x y z,Z'=[some (.ref lm),some (.ref lr),x,y,z])/\sS H H' lr (eu (mm.take i))) ⟨⟨_,_,_,rfl⟩,W0⟩ ?_ ?_ ?_⟩
   ·rintro n Z' H' _ ⟨_,W⟩
    exact aY.of (W.same _ _ hlm)
   ·rintro i xv Z' H2 hx ⟨⟨x,y,z,rfl⟩,W2⟩
    rw[List.getElem?_map] at hx
    obtain⟨tm,htm,rfl⟩:=Option.map_eq_some_iff.mp hx
    have hi:i<mm.length:=by rw[← hA.1];exact(List.getElem?_eq_some_iff.mp htm).1
    have hm:mm[i]?=some mm[i]:=List.getElem?_eq_getElem hi
    generalize mm[i]=m at hm
    obtain⟨u,t1,t2⟩:=hA.2 i tm m htm hm
    obtain⟨us,t3,t4⟩:=id t2
    obtain⟨k3,k2,k1⟩:=hD.ok m (List.mem_of_getElem? hm)
    have hlen:(eu (mm.take i)).length<=100*100:=by
     refine Nat.le_trans (lR (B:=100) λm' hm'=>(hD.ok m' (List.mem_of_mem_take hm')).2.1) (Nat.mul_le_mul_right _ (Nat.le_trans (List.length_take_le' _ _) hD.few))
    have eN:((((us.map V.ref).length:Nat):Int)).toNat=m.2.length:=by rw[Int.toNat_natCast,List.length_map,t4.1]
    refine⟨tm,[.str m.1,.ref u],rfl,fN.of (W2.same _ _ t1),rfl,_,_,rfl,_,_,rfl,rfl,?_⟩
    refine ay (dO PassesOwn.never rfl (jn rfl T.mz (aa (aK aP (by rfl) T.bU (by decide +kernel) (aa (pv 3) ai)) ai)) (oJ 4 qA) av) ⟨_,rfl,u,_,rfl,.inl (aY.of (W2.same _ _ t3)),_,rfl,by rw[List.length_map,t4.1];lia,by rw[List.length_map,t4.1];lia,iA (λk Z' H'=>(∃z,Z'=[some (.ref lm),some (.ref lr),some (.str m.1),some (.ref u),z])/\sS H H' lr (eu (mm.take i)++jX m.1 m.2 k)) ⟨⟨_,rfl⟩,by rw[show jX m.1 m.2 0=[] from rfl,List.append_nil];exact W2⟩ ?_ ?_⟩
    ·rintro k Z' H3 hk ⟨⟨z',rfl⟩,W3⟩
     rw[eN] at hk
     have hk100:k<100:=Nat.lt_of_lt_of_le hk k2
     have hl3:=v8 m.1 m.2 k
     have hpk:m.2[k]?=some m.2[k]:=List.getElem?_eq_getElem hk
     have hN:u9 m.2 k=ig m.2 k m.2[k]:=by rw[u9,hpk];rfl
     show At _ _ _ _ _
     rw[show (0:Int)+(k:Int)=(k:Int) from Int.zero_add _]
     refine ay (aX (iF (aQ (NO T) hr.m rfl T.P0 T.EZ.kp (T.EZ.binds (by walk_at "2")) .nil aE (aa (pv 3) (aa (pv 4) ai)))) av av) ⟨_,rfl,_,rfl,u,m.2,m.2[k],k,rfl,t2.same W3.same,hpk,k1,k2,λH4 s4=>?_⟩
     have W4:=W3.to s4
     rw[← hN]
     cases hp:u9 m.2 k with
     |false=>exact⟨_,rfl,kj (aU ⟨⟨_,rfl⟩,by rw[Ju hp];exact W4⟩)⟩
     |true =>
      refine⟨_,rfl,u6 ?_⟩
      have e1:(Str.ofString " ").length=1:=by decide +kernel
      have e2:=mj hk100
      refine ay (bG (c5 F.plainAttrs_list F.slot_list_append F.type_list_append cG (pv 1) (aa (aW cQ (aW cQ (pv 2) aJ) (d8 jx (by rfl) T.Gq (by decide +kernel) (aa (pv 4) ai))) ai))) ⟨_,rfl,.inl ⟨rfl,_,aY.of W4.at_⟩,_,rfl,_,_,rfl,rfl,bI (by lia),_,rfl,_,rfl,sR hk100,_,_,rfl,rfl,bI (by rw[Str.length_append];show _+(u7 k).length<=_;lia),lr,_,_,rfl,rfl,W4.at_,eV (by rw[List.length_map,List.length_append];lia),⟨_,rfl⟩,?_⟩
      rw[Ck hp,← List.append_assoc]
      exact W4.add
    ·rintro Z' H3 ⟨⟨z',rfl⟩,W3⟩
     rw[eN] at W3
     refine⟨⟨_,_,_,rfl⟩,?_⟩
     rw[take_snoc hm,vR]
     exact W3
   ·rintro Z' H' ⟨h1,h2⟩
    rw[List.length_map,hA.1,List.take_length] at h2
    exact⟨h1,h2⟩
  rintro Z' H' ⟨⟨x,y,z,rfl⟩,W⟩
  have hlen:(eu mm).length<=100*100:=Nat.le_trans (lR (B:=100) λm' hm'=>(hD.ok m' hm').2.1) (Nat.mul_le_mul_right _ hD.few)
  refine ay (aG (c5 F.plainAttrs_str F.slot_str_join F.type_str_join mH aJ (aa (pv 1) ai))) ⟨rfl,_,rfl,_,lr,eu mm,rfl,rfl,aY.of W.at_,?_,?_⟩
  ·have:=w9 hD
   have e1:(Str.ofString "\n").length=1:=by decide +kernel
   rw[e1]
   lia
  ·rw[join_eq]
   exact q _ W.same
theorem sJ{row:Str}{i:Nat}:∀{rs:List bu} {k m:Nat} {R:bu},rs[m]?=some R->eU R row i=true->(∀j R,j<m->rs[j]?=some R->eU R row i=false)->gE row i k rs=some (k+m)
 | [],k,m,R,h,_,_=>by cases h
 |R0::rs,k,0,R,h,hf,_=>by cases h;rw[gE,if_pos hf];rfl
 |R0::rs,k,m+1,R,h,hf,hn=>by
  rw[gE,if_neg (by rw[hn 0 R0 (by lia) rfl];exact Bool.false_ne_true),sJ (m:=m) h hf (λj R hj hR=>hn (j+1) R (by lia) hR)]
  congr 1
  lia
def oX (z:Nat) (p:Str×Str):bu:=⟨p.1,p.2,if bY p.1=true then "blue" else "",if bY p.1=true then "stay" else "push",if bY p.1=true then none else some z,""⟩
def mC(z:Nat)(ps:List (Str×Str)):List bu:=ps.map (oX z)
theorem o5{z:Nat}{p:Str×Str}{row:Str}{i:Nat}:eU (oX z p) row i=decide (cR p.1 p.2 row i ≠ .cu):=rfl
theorem sY{ps:List (Str×Str)}{n:Nat}{row:Str}:fY ps n row=[]↔∀j p,j<n->ps[j]?=some p->cR p.1 p.2 row 0 = .cu:=by
 rw[fY,List.filter_eq_nil_iff]
 constructor
 ·intro h j p hj hp
  have:=h p (List.mem_of_getElem? (by rw[List.getElem?_take_of_lt hj];exact hp))
  simpa using this
 ·intro h p hp
  obtain⟨j,hj⟩:=List.mem_iff_getElem?.mp hp
  have hjn:j<n:=by
   have:=(List.getElem?_eq_some_iff.mp hj).1
   rw[List.length_take] at this
   lia
  rw[List.getElem?_take_of_lt hjn] at hj
  simpa using h j p hjn hj
theorem AE{z:Nat}{ps:List (Str×Str)}{n:Nat}{p:Str×Str}{row:Str}(hp:ps[n]?=some p):firstM (mC z ps) row 0=some n↔cR p.1 p.2 row 0 ≠ .cu/\fY ps n row=[]:=by
 have hpr:(mC z ps)[n]?=some (oX z p):=by rw[mC,List.getElem?_map,hp];rfl
 constructor
 ·intro h
  obtain⟨_,R,h1,h2,h3⟩:=gJ (k:=0) h
  rw[Nat.sub_zero] at h1 h3
  rw[hpr] at h1
  cases h1
  rw[o5] at h2
  refine⟨of_decide_eq_true h2,sY.mpr λj q hj hq=>?_⟩
  have:=h3 j hj (oX z q) (by rw[mC,List.getElem?_map,hq];rfl)
  rw[o5] at this
  exact Classical.not_not.mp (of_decide_eq_false this)
 ·rintro⟨h1,h2⟩
  have:=sJ (row:=row) (i:=0) (k:=0) hpr (by rw[o5];exact decide_eq_true h1) (λj R hj hR=>by
   rw[mC,List.getElem?_map] at hR
   obtain⟨q,hq,rfl⟩:=Option.map_eq_some_iff.mp hR
   rw[o5]
   exact decide_eq_false (λy=>y (sY.mp h2 j q hj hq)))
  rw[Nat.zero_add] at this
  exact this
theorem Cj {z:Str}:cR "word" z z 0 ≠ .cu:=by
 rw[cR,if_neg (by decide),if_pos rfl,if_pos (by rw[List.drop_zero,List.take_of_length_le (by simp[Str.length])])]
 intro h
 cases h
theorem BG {kd z:Str} (h1:kd ≠ "end") (h2:kd ≠ "word"):cR kd z "" 0 = .cu:=by
 rw[cR,if_neg h1,if_neg h2]
 rfl
theorem Ia {z row:Str} (h:cR "end" z row 0 ≠ .cu):row.length=0:=by
 rw[cR,if_pos rfl] at h
 by_cases e:0=row.length
 ·exact e.symm
 ·rw[if_neg e] at h;exact absurd rfl h
theorem ne_iff{ps:List (Str×Str)}{n:Nat}{r:Str}:(!(fY ps n r).isEmpty)=true↔fY ps n r≠[]:=by
 cases fY ps n r <;> simp
theorem xP {z:Nat} {ps:List (Str×Str)} {n:Nat} {p:Str×Str} (hp:ps[n]?=some p) (he:p.1 = "end" -> p.2 = ""):gB (mC z ps) n=none↔ig ps n p=true:=by
 have hpr:(mC z ps)[n]?=some (oX z p):=by rw[mC,List.getElem?_map,hp];rfl
 rw[gB,hpr,ig,List.find?_eq_none,List.all_eq_true]
 simp only[ne_iff,decide_eq_true_eq,AE hp,Option.map_some,Option.some.injEq,Option.getD_some]
 by_cases hw:p.1 = "word"
 ·rw[if_pos (show (oX z p).sort = "word" from hw),fK,if_pos (.inl hw)]
  constructor
  ·intro h r hr e
   rw[List.mem_singleton.mp hr] at e
   exact h p.2 (List.mem_singleton.mpr rfl) ⟨by rw[hw];exact Cj,e⟩
  ·rintro h r hr ⟨_,e⟩
   rw[List.mem_singleton.mp hr] at e
   exact h p.2 (List.mem_singleton.mpr rfl) e
 ·rw[if_neg (show ¬ (oX z p).sort = "word" from hw)]
  by_cases hen:p.1 = "end"
  ·rw[fK,if_pos (.inr hen)]
   constructor
   ·intro h r hr e
    rw[List.mem_singleton.mp hr,he hen] at e
    exact h "" (by simp[cN]) ⟨by rw[hen,cR,if_pos rfl,if_pos (by decide +kernel)];exact(λy=>by cases y),e⟩
   ·rintro h r hr ⟨h1,e⟩
    rw[hen] at h1
    have hr0:r = "" := um (by
     have:=Ia h1
     rw[show (Str.ofString "").cps.toList=[] by decide +kernel]
     exact List.length_eq_zero_iff.mp (by simpa [Str.length] using this))
    rw[hr0] at e
    exact h p.2 (List.mem_singleton.mpr rfl) (by rw[he hen];exact e)
  ·rw[fK,if_neg (λy=>y.elim hw hen)]
   constructor
   ·intro h r hr e
    obtain⟨r1,r2⟩:=List.mem_filter.mp hr
    exact h r (List.mem_cons_of_mem _ r1) ⟨of_decide_eq_true r2,e⟩
   ·rintro h r hr ⟨h1,e⟩
    rcases List.mem_cons.mp hr with rfl|hr
    ·exact h1 (BG hen hw)
    ·exact h r (List.mem_filter.mpr ⟨hr,decide_eq_true h1⟩) e
theorem join_none:∀ps:List Str,(Str.join "" ps).cps.toList=(ps.map λp=>p.cps.toList).flatten
 | []=>by decide +kernel
 | [x]=>by simp[Str.join]
 |x::y::r=>by
  have ih:=join_none (y::r)
  show (x ++ "" ++ Str.join "" (y::r)).cps.toList=_
  rw[eT,eT,ih,show (Str.ofString "").cps.toList=[] from by decide +kernel]
  simp
theorem sF{c:Nat}{p:List Nat}(h:c∉p):p.filter (λx=>decide (x≠c))=p:=List.filter_eq_self.mpr λx hx=>decide_eq_true λz=>h (z ▸ hx)
theorem sr{c:Nat}:∀{ps:List (List Nat)},(∀p∈ps,c∉p)->(cI c ps).filter (λx=>decide (x≠c))=ps.flatten
 | [],_=>rfl
 | [x],h=>by rw[cI,sF (h x (by simp))];simp
 |x::y::r,h=>by
  rw[cI,List.filter_append,sF (h x (by simp)),List.filter_cons,if_neg (by simp),sr (λp hp=>h p (List.mem_cons_of_mem _ hp))]
  rfl
theorem Bw (x:Str) (c:Nat):(PySem.Txt.replace x ⟨#[c]⟩ "").cps.toList=x.cps.toList.filter λy=>decide (y≠c):=by
 rw[PySem.StrLaws.replace_one,join_none]
 have h1:=congrArg (λx:Str=>x.cps.toList) (PySem.StrLaws.join_split x ⟨#[c]⟩)
 simp only[eK] at h1
 conv=>rhs;rw[← h1]
 rw[sr]
 intro p hp
 obtain⟨q,hq,rfl⟩:=List.mem_map.mp hp
 exact PySem.StrLaws.split_free x c q hq
structure Sg(z:Str):Prop where
 pos:1<=z.length
 le:z.length<=100
 no:95∉z.cps.toList/\10∉z.cps.toList
theorem outs:∀k<93,1<=(((bK.cps.toList.drop 1).take k++bK.cps.toList.drop (2+k)).filter λy=>decide (y≠95)).length/\(((bK.cps.toList.drop 1).take k++bK.cps.toList.drop (2+k)).filter λy=>decide (y≠95)).length<=100/\10∉(bK.cps.toList.drop 1).take k++bK.cps.toList.drop (2+k):=by decide +kernel
theorem zC:bK.length=94:=by decide +kernel
theorem P1 {k:Nat} (hk:k<93):(PySem.Txt.slice bK (some 1) (some (1+(k:Int)))).length<=94/\(PySem.Txt.slice bK (some (2+(k:Int))) none).length<=94/\Sg (PySem.Txt.replace (PySem.Txt.slice bK (some 1) (some (1+(k:Int)))++PySem.Txt.slice bK (some (2+(k:Int))) none) "_" ""):=by
 have aL:=zC
 have e1:(PySem.Txt.slice bK (some 1) (some (1+(k:Int)))).cps.toList=_:=sG bK 1 k (by lia)
 have e2:=zg bK (2+k) (by lia)
 rw[show (((2+k:Nat):Int))=2+(k:Int) by lia] at e2
 have l1:=congrArg List.length e1
 have l2:=congrArg List.length e2
 rw[bT,List.length_take,List.length_drop,bT] at l1
 rw[bT,List.length_drop,bT] at l2
 have e3:=Bw (PySem.Txt.slice bK (some 1) (some (1+(k:Int)))++PySem.Txt.slice bK (some (2+(k:Int))) none) 95
 rw[eT,e1,e2] at e3
 obtain⟨o1,o2,o3⟩:=outs k hk
 rw[show ("_" : Str)=⟨#[95]⟩ by decide +kernel]
 refine⟨by lia,by lia,?_,?_,?_⟩
 ·rw[← bT,e3];exact o1
 ·rw[← bT,e3];exact o2
 ·rw[e3]
  exact⟨λz=>absurd rfl (of_decide_eq_true (List.mem_filter.mp z).2),λz=>o3 (List.mem_filter.mp z).1⟩
abbrev Dz:List Str:=["a","ab","ba","abc","c","b "," ","(","a(","'","aab","~"]
theorem Ip:∀x∈Dz,Sg x:=λx hx=>by
 have h:∀x∈Dz,1<=x.length/\x.length<=100/\95∉x.cps.toList/\10∉x.cps.toList:=by decide +kernel
 obtain⟨h1,h2,h3⟩:=h x hx
 exact⟨h1,h2,h3⟩
noncomputable def CW(K:PySem.W.Frag):Sp:=λvs H Q _=>∃(a:Addr) (ns:List Int) (b:Int),vs=[.ref a,.int b]/\aY K H a (ns.map V.int)/\ns.length<=63/\0<=b/\b<=50000/\∀z H',Sg z->ao H H'->Q (.str z) H'
theorem Ow (T:Txt K mg t):aZ P w K mg base c7 2 t.EA t.Kq ["_law_script","_law_k"] (CW K):=by
 refine T.Ek.ok t9 ?_ ?_
 walk_at "i"
 ·obtain⟨a,ns,b,rfl,hS,hl,hb0,hb1,q⟩:=h
  have aL:=zC
  refine au (dW 2 t9 (aQ (lV T) hr.m rfl T.lG T.iG.kp (T.iG.binds (by walk_at "3")) .nil aE (aa (pv 0) (aa (pv 1) (aa aB ai))))) ⟨_,rfl,_,rfl,a,ns,_,_,rfl,hS,hb0,(by lia),(by decide),(by decide),hl,λd H1 h0 h1 s1=>?_⟩
  refine aI (λZ' H'=>(∃x,Z'=[some (.ref a),some (.int b),x,none,none])/\H'=H1) (aX (az bS (pv 2) aB (aC _)) av av) ⟨_,rfl,rfl,_,rfl,dR (λh=>?_) (λh3=>aU ⟨⟨_,rfl⟩,rfl⟩)⟩ ?_
  ·refine au (dW 3 t9 (aQ (lV T) hr.m rfl T.lG T.iG.kp (T.iG.binds (by walk_at "3")) .nil aE (aa (pv 0) (aa (aW bZ (pv 1) aB) (aa aB ai))))) ⟨_,rfl,_,rfl,_,_,rfl,rfl,a,ns,_,_,rfl,hS.same s1,(by lia),(by lia),(by decide),(by decide),hl,λd2 H2 h5 h6 s2=>?_⟩
   obtain⟨k,rfl⟩:∃k:Nat,d2=k:=⟨d2.toNat,by lia⟩
   obtain⟨p1,p2,p3⟩:=P1 (k:=k) (by lia)
   refine ay (aG (Fb (by decide +kernel) (PF cQ (BD nq (jW (xr T) hr.m rfl T.yt T.pJ.kp (T.pJ.binds (by walk_at "0")) .nil aE) (cE (aW bZ aB (pv 3)))) (cW nq (jW (xr T) hr.m rfl T.yt T.pJ.kp (T.pJ.binds (by walk_at "0")) .nil aE) (cE (aW bZ aB (pv 3))) gh)))) ?_
   walk_at "rd"
   exact⟨rfl,_,rfl,bI (by lia),rfl,_,rfl,bI (by lia),bI (by lia),_,rfl,by rw[show (Str.ofString "").length=0 by decide +kernel,Str.length_append];lia,q _ _ p3 (s1.trans s2)⟩
  rintro Z' H' ⟨⟨x,rfl⟩,e⟩
  rw[e]
  clear e H'
  refine @au _ _ _ _ _ _ _ (@yJ _ _ 4 _ _ _ _ t9.nd rfl (Or.inl rfl) (@bV _ _ _ _ (@mq _ _ ["a","ab","ba","abc","c","b "," ","(","a(","'","aab","~"] rfl)) (by left) (by left)) ⟨by show 12<=sizeLine;decide,λl hl0=>?_⟩
  refine ay (aG (bw bq (pv 4) (aQ (lV T) hr.m rfl T.lG T.iG.kp (T.iG.binds (by walk_at "3")) .nil aE (aa (pv 0) (aa (aW bZ (pv 1) aB) (aa aB ai)))) (λ_ _=>rfl))) ⟨_,rfl,_,rfl,_,rfl,_,_,rfl,rfl,a,ns,_,_,rfl,(hS.same s1).same (ao.upd hl0),(by lia),(by lia),(by decide),(by decide),hl,λd2 H2 h5 h6 s2=>?_⟩
  obtain⟨x,hx,e⟩:=pick (xs:=Dz) h5 h6
  exact⟨l,_,_,_,rfl,rfl,aY.of (s2 _ _ af),e,q x _ (Ip x hx) ((s1.to hl0).trans s2)⟩
theorem xg{x:Str}(h:isName x=true):x.length<=8:=by
 unfold isName at h
 simp only[Bool.and_eq_true,decide_eq_true_eq] at h
 exact h.1.2
structure gC(p:Str×Str):Prop where
 sort:p.1∈sorts
 Bh:bare p.1->p.2 = ""
 sg:¬ bare p.1->Sg p.2
abbrev nms:List Str:=["base","b","word"]
structure iO(mm:List (Str×List (Str×Str))):Prop where
 pos:1<=mm.length
 three:mm.length<=3
 nm:mm.map (·.1)=nms.take mm.length
 six:∀m∈mm,m.2.length<=6
 pr:∀m∈mm,∀p∈m.2,gC p
abbrev full (mm:List (Str×List (Str×Str))):List (Str×List (Str×Str)):=mm++[(("zz" : Str),[])]
def ID (z:Nat) (m:Str×List (Str×Str)):aD:=⟨m.1,"red",mC z m.2⟩
def dc(mm:List (Str×List (Str×Str))):List aD:=(full mm).map (ID mm.length)
theorem gC.len{p:Str×Str}(h:gC p):p.2.length<=100:=by
 by_cases hb:bare p.1
 ·rw[h.Bh hb];decide +kernel
 ·exact(h.sg hb).le
theorem gC.rule{names:List Str}{z:Nat}{p:Str×Str}(hz:z<names.length)(h:gC p):iL names (oX z p):=by
 have key:(bY p.1=true/\oX z p=⟨p.1,p.2,"blue","stay",none,""⟩)∨(bY p.1=false/\oX z p=⟨p.1,p.2,"","push",some z,""⟩):=by
  unfold oX
  cases e:bY p.1
  ·exact .inr ⟨rfl,rfl⟩
  ·exact .inl ⟨rfl,rfl⟩
 have pat:oU p.1 p.2:=⟨h.sort,h.Bh,λhb=>⟨(h.sg hb).pos,Nat.le_trans (h.sg hb).le (by decide),(h.sg hb).no.1,(h.sg hb).no.2⟩⟩
 rcases key with ⟨e,k⟩|⟨e,k⟩
 ·rw[k]
  exact⟨pat,λ_=>show isName "blue" = true by decide +kernel,(λy=>by rw[show bY p.1=false from y] at e;cases e),show ("stay" : Str)∈qD by decide,λy=>absurd y (show ¬ lB "stay" by decide),λ_=>rfl,.inl rfl⟩
 ·rw[k]
  exact⟨pat,(λy=>by rw[show bY p.1=true from y] at e;cases e),λ_=>rfl,show ("push" : Str)∈qD by decide,λ_=>⟨z,rfl,hz⟩,λy=>absurd (Or.inl rfl) y,.inl rfl⟩
theorem jm(mm:List (Str×List (Str×Str))):(dc mm).length=mm.length+1:=by simp[dc]
theorem qw {mm:List (Str×List (Str×Str))} (L:iO mm):(dc mm).map (·.name)=nms.take mm.length++[("zz" : Str)]:=by
 rw[← L.nm]
 simp[dc,ID]
theorem Dg:∀n<4,(nms.take n++[("zz" : Str)]).Nodup/\∀x∈nms.take n++[("zz" : Str)],isName x=true:=by decide +kernel
theorem pL {mm:List (Str×List (Str×Str))} (L:iO mm) {m:aD} (h:m∈dc mm):∃ps:List (Str×Str),m.bC = "red" /\ m.rules=mC mm.length ps/\ps.length<=6/\∀p∈ps,gC p:=by
 obtain⟨q,hq,rfl⟩:=List.mem_map.mp h
 refine⟨q.2,rfl,rfl,?_⟩
 rcases List.mem_append.mp hq with z|z
 ·exact⟨L.six q z,L.pr q z⟩
 ·rw[List.mem_singleton.mp z]
  exact⟨Nat.zero_le _,λp hp=>absurd hp (by simp)⟩
theorem iO.fit{mm:List (Str×List (Str×Str))}(L:iO mm):Hr (dc mm):=by
 have h3:=L.three
 have hl:=jm mm
 have hn:=qw L
 obtain⟨n1,n2⟩:=Dg mm.length (by lia)
 refine⟨by lia,by lia,by rw[hn];exact n1,λm hm=>?_,λm hm=>?_,λm hm R hR=>?_⟩
 ·obtain⟨ps,e,_⟩:=pL L hm
  rw[e]
  exact⟨n2 _ (by rw[← hn];exact List.mem_map.mpr ⟨m,hm,rfl⟩),by decide +kernel⟩
 ·obtain⟨ps,_,e,h6,_⟩:=pL L hm
  rw[e,mC,List.length_map]
  lia
 ·obtain⟨ps,_,e,_,hp⟩:=pL L hm
  rw[e] at hR
  obtain⟨p,hp',rfl⟩:=List.mem_map.mp hR
  exact(hp p hp').rule (by rw[List.length_map];lia)
theorem qb{ms:List aD}{row:Str}(h:∀k,cK ms k row=none):∀n k,gH ms row n k=none
 |0,_=>rfl
 |n+1,k=>by rw[gH,h k];exact qb h n (k+1)
theorem B4{ms:List aD}(h:∀row k,cK ms k row=none):jD ms=none:=by
 have:∀rows,gX ms rows=none:=λrows=>by
  induction rows with
  |nil=>rfl
  |cons r t ih=>rw[gX,qb (h r)];exact ih
 exact this _
theorem HF{mm:List (Str×List (Str×Str))}{k:Nat}{m:aD}(h:(dc mm)[k]?=some m):(k<mm.length∨m.rules=[])/\∃ps,m.rules=mC mm.length ps:=by
 rw[dc,List.getElem?_map] at h
 obtain⟨q,hq,rfl⟩:=Option.map_eq_some_iff.mp h
 refine⟨?_,q.2,rfl⟩
 by_cases hk:k<mm.length
 ·exact .inl hk
 ·rw[List.getElem?_append_right (by lia)] at hq
  right
  obtain⟨hl,e⟩:=List.getElem?_eq_some_iff.mp hq
  rw[List.length_singleton] at hl
  rw[← e]
  simp[ID,mC,show k-mm.length=0 by lia]
theorem sP{mm:List (Str×List (Str×Str))}:jD (dc mm)=none:=by
 refine B4 λrow k=>Aw (λj R hR=>?_) _ _ _ (by show k<=bE [k];exact Nat.le_refl _)
 unfold cX at hR
 cases hm:(dc mm)[j]? with
 |none=>rw[hm] at hR;cases hR
 |some m =>
  rw[hm] at hR
  have hR:fX m.rules row=some R:=hR
  obtain⟨h1,ps,h2⟩:=HF hm
  unfold fX at hR
  obtain⟨R',e1,e2⟩:=Option.bind_eq_some_iff.mp hR
  have hRm:R'∈m.rules:=by
   obtain⟨n,_,g⟩:=Option.bind_eq_some_iff.mp e1
   exact List.mem_of_getElem? g
  split at e2
  ·cases e2
  ·rename_i he
   cases e2
   rw[h2] at hRm
   obtain⟨p,hp,rfl⟩:=List.mem_map.mp hRm
   have he:¬ bY p.1=true:=he
   refine⟨mm.length,.inl (if_neg he),if_neg he,?_⟩
   rcases h1 with h1|h1
   ·exact h1
   ·rw[h2] at h1
    have:ps=[]:=List.map_eq_nil_iff.mp h1
    rw[this] at hp;cases hp
theorem iO.free{mm:List (Str×List (Str×Str))}(L:iO mm)(r:Str)(hr:∀c∈r.cps.toList,c∈bK.cps.toList):m7 (dc mm) r :=
 ⟨L.fit.good,by rw[jm];have:=L.three;lia,λm hm R hR hb=>((L.fit.rule m hm R hR).pat.sg hb).1,xD sP,hr⟩
theorem iO.TQ{mm:List (Str×List (Str×Str))}(L:iO mm):PU (full mm):=by
 have h3:=L.three
 refine⟨by rw[List.length_append,List.length_singleton];lia,λm hm=>?_⟩
 have hn:=(Dg mm.length (by lia)).2
 rw[← L.nm] at hn
 rcases List.mem_append.mp hm with z|z
 ·have k:=hn m.1 (List.mem_append_left _ (List.mem_map.mpr ⟨m,z,rfl⟩))
  refine⟨Nat.le_trans (xg k) (by decide),Nat.le_trans (L.six m z) (by decide),λp hp=>⟨(L.pr m z p hp).sort,Nat.le_trans (L.pr m z p hp).len (by decide)⟩⟩
 ·rw[List.mem_singleton.mp z]
  exact⟨by decide +kernel,Nat.zero_le _,λp hp=>absurd hp (by simp)⟩
theorem JA{z:Nat}{nm:Str}{ps:List (Str×Str)}(h:∀p∈ps,gC p):kr (ID z (nm,ps)) ps.length=jX nm ps ps.length:=by
 unfold kr jX
 show ((List.range ps.length).filter λn=>(gB (mC z ps) n).isNone).map _=_
 congr 1
 refine List.filter_congr λn hn=>?_
 have hp:ps[n]?=some (ps[n]'(List.mem_range.mp hn)):=List.getElem?_eq_getElem _
 generalize ps[n]'(List.mem_range.mp hn)=p at hp
 have g:=h p (List.mem_of_getElem? hp)
 have:=xP (z:=z) hp λe=>g.Bh (.inr (.inr e))
 rw[show u9 ps n=ig ps n p by rw[u9,hp];rfl,Bool.eq_iff_iff,← this]
 exact Option.isNone_iff_eq_none
theorem iO.hid{mm:List (Str×List (Str×Str))}(L:iO mm):d7 (dc mm)=eu (full mm):=by
 unfold d7 eu dc
 rw[List.flatMap_map]
 have:∀m∈full mm,∀p∈m.2,gC p:=λm hm=>by
  rcases List.mem_append.mp hm with z|z
  ·exact L.pr m z
  ·rw[List.mem_singleton.mp z]
   exact λp hp=>absurd hp (by simp)
 generalize full mm=ms at this
 induction ms with
 |nil=>rfl
 |cons m r ih =>
  rw[List.flatMap_cons,List.flatMap_cons,ih λm hm=>this m (List.mem_cons_of_mem _ hm)]
  congr 1
  rw[show (ID mm.length m).rules.length=m.2.length from List.length_map _]
  exact JA (nm:=m.1) (this m List.mem_cons_self)
theorem iO.tells{mm:List (Str×List (Str×Str))}(L:iO mm):Tells (dc mm):=by
 have h3:=L.three
 refine⟨by rw[jm];lia,λm hm=>⟨L.fit.good.ok m hm,?_,Nat.le_trans (xg (L.fit.nm m hm).1) (by decide)⟩⟩
 exact Nat.le_trans (L.fit.six m hm) (by decide)
theorem EJ{H:Hp}{l:Addr}{xs ys:List V}(h:H l=some (.lst xs)){b:Addr}{zs:List V}(e:H b=some (.tup zs)):upd H l (.lst ys) b=some (.tup zs):=by
 rw[aj (λz=>by rw[z,h] at e;cases e)];exact e
structure Hs(H0 H:Hp)(l:Addr)(ps:List (Str×Str)):Prop where
 new:H0 l=none
 same:ao H0 H
 ex:∃ts:List Addr,H l=some (.lst (ts.map V.ref))/\bO (λtr (p:Str×Str)=>H tr=some (.tup [.str p.1,.str p.2])) ts ps
theorem Hs.to{H0 H H':Hp}{l:Addr}{ps:List (Str×Str)}(h:Hs H0 H l ps)(s:ao H H'):Hs H0 H' l ps:=by
 obtain⟨ts,h1,h2⟩:=h.ex
 exact⟨h.new,h.same.trans s,ts,s _ _ h1,h2.mono λ_ _ z=>s _ _ z⟩
theorem bO.FQ{α β:Type}{R:α->β->Prop}{as:List α}{bs:List β}{a:α}{b:β}(h:bO R as bs)(k:R a b):bO R (as++[a]) (bs++[b]):=by
 refine⟨by rw[List.length_append,List.length_append,h.1];rfl,λi x y hx hy=>?_⟩
 by_cases hi:i<as.length
 ·rw[List.getElem?_append_left hi] at hx
  rw[List.getElem?_append_left (by rw[← h.1];exact hi)] at hy
  exact h.2 i x y hx hy
 ·rw[List.getElem?_append_right (by lia)] at hx
  rw[List.getElem?_append_right (by rw[← h.1];lia),← h.1] at hy
  cases e:i-as.length with
  |zero=>rw[e] at hx hy;cases hx;cases hy;exact k
  |succ n=>rw[e] at hx;cases hx
theorem Hs.add{H0 H:Hp}{l p:Addr}{ps:List (Str×Str)}{ts:List Addr}{k z:Str}(h:Hs H0 H l ps)(h1:H l=some (.lst (ts.map V.ref)))(h2:bO (λtr (p:Str×Str)=>H tr=some (.tup [.str p.1,.str p.2])) ts ps)(hp:H p=some (.tup [.str k,.str z])):Hs H0 (upd H l (.lst (ts.map V.ref++[.ref p]))) l (ps++[(k,z)]) :=
 ⟨h.new,λb o hb=>by rw[aj (ak hb h.new)];exact h.same _ _ hb,ts++[p],by rw[af,List.map_append];rfl,(h2.mono λ_ _ z=>EJ h1 z).FQ (EJ h1 hp)⟩
structure Jc(H0 H:Hp)(l:Addr)(mm:List (Str×List (Str×Str))):Prop where
 new:H0 l=none
 same:ao H0 H
 ex:∃ts:List Addr,H l=some (.lst (ts.map V.ref))/\bO (λtm (m:Str×List (Str×Str))=>∃u,hid (λc=>c=l) H tm=some (.tup [.str m.1,.ref u])/\P6 (hid (λc=>c=l) H) u m.2) ts mm
theorem Jc.to{H0 H H':Hp}{l:Addr}{mm:List (Str×List (Str×Str))}(h:Jc H0 H l mm)(s:ao H H'):Jc H0 H' l mm:=by
 obtain⟨ts,h1,h2⟩:=h.ex
 exact⟨h.new,h.same.trans s,ts,s _ _ h1,h2.mono λ_ _ z=>let ⟨u,a,b⟩:=z;⟨u,aV s _ _ a,b.same (aV s)⟩⟩
theorem Jc.add{H0 H H1:Hp}{l p r:Addr}{mm:List (Str×List (Str×Str))}{ts:List Addr}{ps:List (Str×Str)}{nm:Str}(h:Jc H0 H l mm)(h1:H l=some (.lst (ts.map V.ref)))(h2:bO (λtm (m:Str×List (Str×Str))=>∃u,hid (λc=>c=l) H tm=some (.tup [.str m.1,.ref u])/\P6 (hid (λc=>c=l) H) u m.2) ts mm)(R:Hs H H1 r ps)(g:H1 p=none) :
  Jc H0 (upd (upd H1 p (.tup [.str nm,.ref r])) l (.lst (ts.map V.ref++[.ref p]))) l (mm++[(nm,ps)]):=by
 have s1:ao H (upd H1 p (.tup [.str nm,.ref r])):=R.same.to g
 have hl1:=R.same _ _ h1
 have npl:p≠l:=λz=>by rw[z,hl1] at g;cases g
 have nrl:r≠l:=λz=>by have:=R.new;rw[z,h1] at this;cases this
 obtain⟨us,r1,r2⟩:=R.ex
 have hS:hid (λc=>c=l) (upd (upd H1 p (.tup [.str nm,.ref r])) l (.lst (ts.map V.ref++[.ref p])))=hid (λc=>c=l) (upd H1 p (.tup [.str nm,.ref r])):=kP rfl
 refine⟨h.new,λb o hb=>?_,ts++[p],by rw[af,List.map_append];rfl,?_⟩
 ·rw[aj (ak hb h.new)]
  exact s1 _ _ (h.same _ _ hb)
 ·rw[hS]
  refine(h2.mono λ_ _ z=>let ⟨u,a,b⟩:=z;⟨u,aV s1 _ _ a,b.same (aV s1)⟩).FQ ⟨r,br af npl,us,br (ao.upd g _ _ r1) nrl,r2.mono λx y z=>?_⟩
  have z2:=ao.upd (o:=.tup [.str nm,.ref r]) g _ _ z
  exact br z2 λe=>by rw[e,ao.upd g _ _ hl1] at z2;cases z2
abbrev kds:List Str:=["word","one","none","many","any","word","still","end"]
theorem Kc:∀x∈kds,x∈sorts:=by decide +kernel
theorem HR {k:Str}:yi (.str k) ((["any","still","end"]:List Str).map V.str)=decide (bare k):=by
 rw[jR]
 simp[bare]
structure vA(mm:List (Str×List (Str×Str)))(n:Nat):Prop where
 len:mm.length=n
 nm:mm.map (·.1)=nms.take n
 six:∀m∈mm,m.2.length<=6
 pr:∀m∈mm,∀p∈m.2,gC p
theorem vA.add{mm:List (Str×List (Str×Str))}{n:Nat}{x:Str}{ps:List (Str×Str)}(h:vA mm n)(hx:nms[n]?=some x)(h6:ps.length<=6)(hp:∀p∈ps,gC p):vA (mm++[(x,ps)]) (n+1):=by
 refine⟨by rw[List.length_append,h.len];rfl,by rw[List.map_append,h.nm,take_snoc hx];rfl,λm hm=>?_,λm hm=>?_⟩ <;> rcases List.mem_append.mp hm with z|z
 ·exact h.six m z
 ·rw[List.mem_singleton.mp z];exact h6
 ·exact h.pr m z
 ·rw[List.mem_singleton.mp z];exact hp
noncomputable def GH(K:PySem.W.Frag):Sp:=λvs H Q _=>∃(a:Addr) (ns:List Int) (b:Int),vs=[.ref a,.int b]/\aY K H a (ns.map V.int)/\ns.length<=63/\0<=b/\b<=1000/\∀lm mm H',iO mm->Du H' lm (full mm)->ao H H'->Q (.ref lm) H'
theorem EI (T:Txt K mg t):aZ P w K mg base c7 3 t.Dd t.LH ["_law_script","_law_base"] (GH K):=by
 refine T.wI.ok l9 ?_ ?_
 walk_at "i"
 ·obtain⟨a,ns,b,rfl,hS,hl,hb0,hb1,q⟩:=h
  refine au (dW 2 l9 (bV ai)) ⟨by show 0<=sizeLine;decide,λlm hlm=>?_⟩
  have M0:Jc H (upd H lm (.lst [])) lm []:=⟨hlm,ao.upd hlm,[],af,rfl,λi x y h=>by cases h⟩
  generalize upd H lm (.lst [])=H0 at M0
  refine aI (λZ' H'=>(∃x y z u v,Z'=[some (.ref a),some (.int b),some (.ref lm),x,y,z,u,v])/\∃mm n,Jc H H' lm mm/\1<=n/\n<=3/\vA mm n) (dO PassesOwn.never rfl (jn rfl T.mz (aa (aW bZ aB (aQ (lV T) hr.m rfl T.lG T.iG.kp (T.iG.binds (by walk_at "3")) .nil aE (aa (pv 0) (aa (pv 1) (aa aB ai))))) ai)) (oJ 3 l9) av) ?_ ?_
  ·refine⟨_,rfl,_,rfl,a,ns,_,_,rfl,hS.same M0.same,hb0,(by lia),(by decide),(by decide),hl,λd H1 h0 h1 s1=>?_⟩
   obtain⟨dn,rfl⟩:∃dn:Nat,d=dn:=⟨d.toNat,by lia⟩
   refine⟨_,_,rfl,rfl,_,rfl,by lia,by lia,?_⟩
   rw[show ((1:Int)+(dn:Int)).toNat=dn+1 by lia]
   refine iA (n:=dn+1) (λi Z' H'=>(∃x y z u v,Z'=[some (.ref a),some (.int b),some (.ref lm),x,y,z,u,v])/\∃mm,Jc H H' lm mm/\vA mm i) ⟨⟨_,_,_,_,_,rfl⟩,[],M0.to s1,rfl,rfl,λm hm=>absurd hm (by simp),λm hm=>absurd hm (by simp)⟩ ?_ ?_
   ·rintro i Z' H2 hi ⟨⟨x,y,z,u,v,rfl⟩,mm,M2,L2⟩
    obtain⟨nx,hnx⟩:∃nx,nms[i]?=some nx:=⟨nms[i]'(by show i<3;lia),List.getElem?_eq_getElem _⟩
    show At _ _ _ _ _
    rw[show (0:Int)+(i:Int)=(i:Int) from Int.zero_add _]
    refine au (dW 4 l9 (bV ai)) ⟨by show 0<=sizeLine;decide,λlr hlr=>?_⟩
    have R0:Hs H2 (upd H2 lr (.lst [])) lr []:=⟨hlr,ao.upd hlr,[],af,rfl,λi x y h=>by cases h⟩
    generalize upd H2 lr (.lst [])=H3 at R0
    refine aI (λZ' H'=>(∃z u v,Z'=[some (.ref a),some (.int b),some (.ref lm),some (.int i),some (.ref lr),z,u,v])/\∃ps,Hs H2 H' lr ps/\ps.length<=6/\∀p∈ps,gC p) (dO PassesOwn.never rfl (jn rfl T.mz (aa (aQ (lV T) hr.m rfl T.lG T.iG.kp (T.iG.binds (by walk_at "3")) .nil aE (aa (pv 0) (aa (aW bZ (aW bZ (pv 1) aB) (pv 3)) (aa aB ai)))) ai)) (oJ 5 l9) av) ?_ ?_
    ·have hS3:=(hS.same M2.same).same R0.same
     refine⟨_,rfl,_,rfl,_,_,rfl,rfl,_,rfl,_,_,rfl,rfl,a,ns,_,_,rfl,hS3,(by lia),(by lia),(by decide),(by decide),hl,λe H4 h2 h3 s4=>?_⟩
     obtain⟨en,rfl⟩:∃en:Nat,e=en:=⟨e.toNat,by lia⟩
     refine⟨_,rfl,by lia,by lia,?_⟩
     rw[Int.toNat_natCast]
     refine iA (n:=en) (λk Z' H'=>(∃z u v,Z'=[some (.ref a),some (.int b),some (.ref lm),some (.int i),some (.ref lr),z,u,v])/\∃ps,Hs H2 H' lr ps/\ps.length=k/\∀p∈ps,gC p) ⟨⟨_,_,_,rfl⟩,[],R0.to s4,rfl,λp hp=>absurd hp (by simp)⟩ ?_ ?_
     ·rintro k Z' H5 hk ⟨⟨z,u,v,rfl⟩,ps,R5,hpl,hps⟩
      have hk7:k<7:=by lia
      show At _ _ _ _ _
      rw[show (0:Int)+(k:Int)=(k:Int) from Int.zero_add _]
      refine au (dW 6 l9 (aW bZ (aW bZ (aW bZ (pv 1) aB) (aW lQ aB (pv 3))) (aW lQ aB (pv 5)))) ?_
      walk_at "rd"
      refine⟨.inl ⟨by decide,by decide⟩,.inl ⟨by decide,by decide⟩,?_⟩
      have hS5:=(hS.same M2.same).same R5.same
      refine @au _ _ _ _ _ _ _ (@yJ _ _ 7 _ _ _ _ l9.nd rfl (Or.inl rfl) (@bw _ _ _ _ _ _ _ bq (@bV _ _ _ _ (@mq _ _ ["word","one","none","many","any","word","still","end"] rfl)) (@aQ _ _ _ _ _ _ _ _ _ _ _ _ _ _ _ _ (lV T) hr.m rfl T.lG T.iG.kp (T.iG.binds (by walk_at "3")) .nil aE (aa (pv 0) (aa (pv 6) (aa aB ai (by left)) (by left)) (by left)) (by left) (by left) (by left)) (λ_ _=>rfl)) (by left) (by left)) ⟨by show 8<=sizeLine;decide,λlk hlk=>⟨_,rfl,_,rfl,a,ns,_,_,rfl,hS5.same (ao.upd hlk),(by lia),(by lia),(by decide),(by decide),hl,λf H6 h4 h5 s6=>?_⟩⟩
      obtain⟨kd,hkd,ekd⟩:=pick (xs:=kds) h4 h5
      refine⟨lk,_,_,_,rfl,rfl,aY.of (s6 _ _ af),ekd,?_⟩
      have R6:=R5.to ((ao.upd hlk).trans s6)
      obtain⟨ts,t1,t2⟩:=R6.ex
      have htl:ts.length=k:=by rw[t2.1];exact hpl
      refine @ay _ _ _ _ _ _ (@bG _ _ _ _ (@c5 _ _ _ _ _ _ _ _ _ _ _ _ F.plainAttrs_list F.slot_list_append F.type_list_append cG (pv 4) (aa (@gc _ _ _ _ _ (aa (pv 7) (aa (@bH _ _ _ _ _ _ _ _ (@az _ _ _ _ _ _ _ _ fT (pv 7) (@bV _ _ _ _ (@mq _ _ ["any","still","end"] rfl)) rfl) aJ (@aQ _ _ _ _ _ _ _ _ _ _ _ _ _ _ _ _ (Ow T) hr.m rfl T.OC T.Ek.kp (T.Ek.binds (by walk_at "2")) .nil aE (aa (pv 0) (aa (@aW _ _ _ _ _ _ _ _ bZ (pv 6) aB) ai (by left)) (by left)) (by left) (by left) (by left))) ai (by left)) (by left))) ai (by left)) (by left) (by left) (by left) (by left) (by left)) (by left)) ⟨_,rfl,.inl ⟨rfl,_,aY.of t1⟩,_,rfl,_,rfl,by show 3<=sizeLine;decide,λlb hlb=>⟨lb,_,rfl,.inl (aY.of af),rfl,rfl,_,rfl,uf HR (dR (λhb=>?_) λhb=>?_)⟩⟩
      ·refine⟨by show 2<=sizeLine;decide,λp hp=>?_⟩
       have s7:=(ao.upd hlb (o:=.lst ((["any","still","end"]:List Str).map V.str))).to hp (o:=.tup [.str kd,.str (Str.ofString "")])
       refine⟨lr,_,_,rfl,rfl,s7 _ _ t1,eV (by rw[List.length_map];lia),⟨_,_,_,rfl⟩,ps++[(kd,("" : Str))],(R6.to s7).add (s7 _ _ t1) (t2.mono λ_ _ z=>s7 _ _ z) af,by rw[List.length_append,hpl];rfl,λp hp=>?_⟩
       rcases List.mem_append.mp hp with z|z
       ·exact hps p z
       ·rw[List.mem_singleton.mp z]
        exact⟨Kc kd hkd,λ_=>rfl,λy=>absurd hb y⟩
      ·refine⟨_,rfl,_,rfl,_,_,rfl,rfl,a,ns,_,rfl,(hS5.same ((ao.upd hlk).trans s6)).same (ao.upd hlb),hl,(by lia),(by lia),λz H8 hz s8=>⟨by show 2<=sizeLine;decide,λp hp=>?_⟩⟩
       have s7:=((ao.upd hlb (o:=.lst ((["any","still","end"]:List Str).map V.str))).trans s8).to hp (o:=.tup [.str kd,.str z])
       refine⟨lr,_,_,rfl,rfl,s7 _ _ t1,eV (by rw[List.length_map];lia),⟨_,_,_,rfl⟩,ps++[(kd,z)],(R6.to s7).add (s7 _ _ t1) (t2.mono λ_ _ z=>s7 _ _ z) af,by rw[List.length_append,hpl];rfl,λp hp=>?_⟩
       rcases List.mem_append.mp hp with z|z
       ·exact hps p z
       ·rw[List.mem_singleton.mp z]
        exact⟨Kc kd hkd,λy=>absurd y hb,λ_=>hz⟩
     ·rintro Z' H5 ⟨⟨z,u,v,rfl⟩,ps,R5,hpl,hps⟩
      exact⟨⟨_,_,_,rfl⟩,ps,R5,by lia,hps⟩
    rintro Z' H4 ⟨⟨z,u,v,rfl⟩,ps,R4,hpl,hps⟩
    obtain⟨ts,t1,t2⟩:=M2.ex
    have t1':=R4.same _ _ t1
    have htl:ts.length=mm.length:=t2.1
    have hml:=L2.len
    refine @ay _ _ _ _ _ _ (@bG _ _ _ _ (@c5 _ _ _ _ _ _ _ _ _ _ _ _ F.plainAttrs_list F.slot_list_append F.type_list_append cG (pv 2) (aa (@gc _ _ _ _ _ (aa (@bw _ _ _ _ _ _ _ bq (@bV _ _ _ _ (@mq _ _ ["base","b","word"] rfl)) (pv 3) (λ_ _=>rfl)) (aa (pv 4) ai (by left)) (by left))) ai (by left)) (by left) (by left) (by left) (by left) (by left)) (by left)) ⟨_,rfl,.inl ⟨rfl,_,aY.of t1'⟩,by show 3<=sizeLine;decide,λl7 g7=>?_⟩
    have s8:=R4.same.to g7 (o:=.lst (nms.map V.str))
    refine⟨_,rfl,l7,_,i,_,rfl,rfl,aY.of af,bM (j:=i) (by rw[List.getElem?_map,hnx];rfl),_,rfl,by show 2<=sizeLine;decide,λp gp=>⟨lm,_,_,rfl,rfl,(s8.to gp) _ _ t1,eV (by rw[List.length_map];lia),⟨_,_,_,_,_,rfl⟩,mm++[(nx,ps)],M2.add t1 t2 (R4.to (ao.upd g7)) gp,L2.add hnx hpl hps⟩⟩
   ·rintro Z' H2 ⟨h1,mm,M2,L2⟩
    exact⟨h1,mm,_,M2,by lia,by lia,L2⟩
  rintro Z' H1 ⟨⟨x,y,z,u,v,rfl⟩,mm,n,M1,n1,n3,L1⟩
  obtain⟨ts,t1,t2⟩:=M1.ex
  have hml:=L1.len
  have hL:iO mm:=⟨by lia,by lia,by rw[hml];exact L1.nm,L1.six,L1.pr⟩
  have htl:ts.length=mm.length:=t2.1
  refine ay (aG (aW nJ (pv 2) (bV (aa (gc (aa aJ (aa (bV ai) ai))) ai)))) ⟨_,rfl,by show 0<=sizeLine;decide,λl1 g1=>⟨by show 2<=sizeLine;decide,λp2 g2=>⟨by show 1<=sizeLine;decide,λl3 g3=>?_⟩⟩⟩
  have k1:upd H1 l1 (.lst []) l1=some (.lst []):=af
  have s1:ao H1 (upd H1 l1 (.lst [])):=ao.upd g1
  generalize upd H1 l1 (.lst [])=H2 at *
  have k2:upd H2 p2 (.tup [.str (Str.ofString "zz"),.ref l1]) p2=some (.tup [.str (Str.ofString "zz"),.ref l1]):=af
  have s2:ao H2 (upd H2 p2 (.tup [.str (Str.ofString "zz"),.ref l1])):=ao.upd g2
  generalize upd H2 p2 (.tup [.str (Str.ofString "zz"),.ref l1])=H3 at *
  have s3:ao H3 (upd H3 l3 (.lst [.ref p2])):=ao.upd g3
  refine⟨lm,l3,_,_,rfl,rfl,s3 _ _ (s2 _ _ (s1 _ _ t1)),af,bI (by rw[List.length_map,List.length_singleton];lia),λl4 g4=>?_⟩
  have s4:=s3.to g4 (o:=.lst (ts.map V.ref++[.ref p2]))
  have sA:=s1.trans (s2.trans s4)
  refine q l4 mm _ hL ⟨ts++[p2],by rw[af,List.map_append];rfl,(t2.mono λ_ _ z=>?_).FQ ⟨l1,s4 _ _ k2,[],s4 _ _ (s2 _ _ k1),rfl,λi x y h=>by cases h⟩⟩ (M1.same.trans sA)
  obtain⟨u,y1,y2⟩:=z
  exact⟨u,sA _ _ (aH _ _ y1),(y2.same aH).same sA⟩
theorem G2 (z:Str):(PySem.Txt.replace z " " "_").length=z.length:=by
 have:=congrArg List.length (jL z 32 95)
 rw[bT,jT,List.length_map,bT] at this
 rw[show ((" " : Str))=⟨#[32]⟩ from by decide +kernel,show (("_" : Str))=⟨#[95]⟩ from by decide +kernel]
 exact this
theorem rep1{b:Bool}{x:V}:(List.replicate (if b=true then (1:Int) else 0).toNat [x]).flatten=if b=true then [x] else []:=by cases b <;> rfl
theorem Uy{b:Bool}:-2 ^ 63<=(if b=true then (1:Int) else 0)/\(if b=true then (1:Int) else 0)<2 ^ 63/\1*(if b=true then (1:Int) else 0).toNat<=sizeLine:=by cases b <;> decide
theorem zB{x y:Str}:(!decide (V.str x=V.str y))=true↔x≠y:=by
 by_cases e:x=y
 ·subst e;simp
 ·have:V.str x≠V.str y:=λz=>e (V.str.inj z)
  simp[e,this]
theorem DR {names:List Str} {n:Str}:(Str.ofString "mode " ++ n++Str.ofString " red" : Str)=rowOf names (.mode n "red"):=by
 rw[← BY]
 refine jB ?_
 rw[eT,eT,eT,eT,eT,show (Str.ofString " red").cps.toList=(Str.ofString " ").cps.toList++(Str.ofString "red").cps.toList by decide +kernel]
 simp
theorem v5(c:Nat):∀(ws:List (List Nat)) (a b:List Nat),cI c (ws++[a++c::b])=cI c (ws++[a,b])
 | [],_,_=>rfl
 | [x],_,_=>rfl
 |x::y::r,a,b=>by
  show x++c::cI c ((y::r)++[a++c::b])=x++c::cI c ((y::r)++[a,b])
  rw[v5 c (y::r)]
theorem rM{ws:List Str}{x a b:Str}(h:x.cps.toList=a.cps.toList++32::b.cps.toList):Str.join ⟨#[32]⟩ (ws++[x])=Str.join ⟨#[32]⟩ (ws++[a,b]):=by
 refine jB ?_
 rw[eK,eK,List.map_append,List.map_append]
 show cI 32 (_++[x.cps.toList])=cI 32 (_++[a.cps.toList,b.cps.toList])
 rw[h]
 exact v5 32 _ _ _
theorem Iv {names:List Str} {z:Nat} {p:Str×Str} (he:bY p.1=true):Str.join ⟨#[32]⟩ (bP p.1 p.2++[Str.ofString "blue stay"])=rowOf names (.rule (oX z p)):=by
 rw[rM (a:=Str.ofString "blue") (b:=Str.ofString "stay") (by decide +kernel)]
 show _=Str.join _ (dI names (oX z p))
 unfold dI oX
 simp only[he,if_true,wF]
 rfl
theorem Jy {names:List Str} {z:Nat} {p:Str×Str} (he:¬ bY p.1=true) (hz:names.getD z "" = "zz"):Str.join ⟨#[32]⟩ (bP p.1 p.2++[Str.ofString "push zz"])=rowOf names (.rule (oX z p)):=by
 rw[rM (a:=Str.ofString "push") (b:=Str.ofString "zz") (by decide +kernel)]
 have e:oX z p=⟨p.1,p.2,"","push",some z,""⟩:=by unfold oX;rw[if_neg he,if_neg he,if_neg he]
 rw[e]
 show _=Str.join _ (bP p.1 p.2++((if bY p.1=true then [("" : Str)] else [])++([("push" : Str)]++([names.getD z ""]++if ("" : Str) = "" then [] else [("" : Str)]))))
 rw[if_neg he,hz,if_pos rfl]
 rfl
theorem Hw {k:Str}:yi (.str k) [.str (Str.ofString "still"),.str (Str.ofString "end")]=decide (¬ bY k=true):=by
 rw[show ([.str (Str.ofString "still"),.str (Str.ofString "end")]:List V)=(["still","end"]:List Str).map V.str from rfl,jR]
 unfold bY
 by_cases h:k = "still" ∨ k = "end" <;> simp[h]
theorem ve(s:Str):∀ys:List Str,(Str.join s ys).length<=(ys.map (·.length)).sum+ys.length*s.length
 | []=>Nat.le_trans (Nat.le_of_eq (show (Str.join s []).length=0 from rfl)) (Nat.zero_le _)
 | [x]=>by simp[Str.join]
 |x::y::r=>by
  have ih:=ve s (y::r)
  show (x++s++Str.join s (y::r)).length<=_
  rw[Str.length_append,Str.length_append,List.map_cons,List.sum_cons,List.length_cons,Nat.succ_mul]
  lia
theorem iO.OQ{mm:List (Str×List (Str×Str))}(L:iO mm):(Str.join ⟨#[10]⟩ (rowsOf (itemsOf (dc mm)))).length<=90000:=by
 have h3:=L.three
 have hi:=L.fit.len _ (Nat.le_refl _)
 rw[List.take_length,jm] at hi
 have h1:=ve ⟨#[10]⟩ (rowsOf (itemsOf (dc mm)))
 have h2:=nt (m:=1421) (rowsOf (itemsOf (dc mm))) (λy hy=>by
  rw[rowsOf] at hy
  obtain⟨it,hi,rfl⟩:=List.mem_map.mp hy
  obtain⟨i,e⟩:=List.mem_iff_getElem?.mp hi
  exact(jc L.fit.items e).2.1)
 rw[show (⟨#[10]⟩:Str).length=1 from rfl] at h1
 rw[show (rowsOf (itemsOf (dc mm))).length=(itemsOf (dc mm)).length from List.length_map _] at h1 h2
 lia
noncomputable def Hu:Sp:=λvs H Q _=>∃(lm:Addr) (mm:List (Str×List (Str×Str))),vs=[.ref lm]/\Du H lm (full mm)/\iO mm/\∀H',ao H H'->Q (.str (Str.join ⟨#[10]⟩ (rowsOf (itemsOf (dc mm))))) H'
theorem GW (T:Txt K mg t):aZ P w K mg base c7 1 t.FJ t.K9 ["_law_modes_here"] Hu:=by
 refine T.vB.ok l6 ?_ ?_
 walk_at "i"
 ·obtain⟨lm,mm,rfl,⟨ts,hlm,hA⟩,L,q⟩:=h
  have B:=L.fit
  obtain⟨names,hnames⟩:∃names,names=(dc mm).map (·.name):=⟨_,rfl⟩
  have h3:=L.three
  have hml:=jm mm
  have hz:names.getD mm.length "" = "zz" := by
   rw[hnames,qw L,List.getD_eq_getElem?_getD,List.getElem?_append_right (by rw[List.length_take];lia),List.length_take,show mm.length-min mm.length nms.length=0 by rw[show nms.length=3 from rfl];lia]
   rfl
  generalize hzz:mm.length=z at hz
  have hms:dc mm=(full mm).map (ID z):=by rw[← hzz];rfl
  have hnm:∀x∈names,isName x=true:=λx hx=>by
   rw[hnames] at hx
   obtain⟨m,hm,rfl⟩:=List.mem_map.mp hx
   exact(B.nm m hm).1
  have hitems:=B.Dh
  refine au (dW 1 l6 (bV ai)) ⟨by show 0<=sizeLine;decide,λlr hlr=>?_⟩
  have W0:sS H (upd H lr (.lst [])) lr []:=⟨af,hlr,ao.upd hlr⟩
  generalize upd H lr (.lst [])=H0 at W0
  refine aI (λZ' H'=>(∃x2 x3 x4 x5 x6,Z'=[some (.ref lm),some (.ref lr),x2,x3,x4,x5,x6])/\sS H H' lr ((itemsOf (dc mm)).map (rowOf names))) (dO PassesOwn.never rfl (eB (pv 0)) (gZ rfl (bR (oJ 2 l6) (bR (oJ 3 l6) fH))) av) ?_ ?_
  ·refine⟨_,rfl,lm,rfl,⟨_,aY.of (W0.same _ _ hlm)⟩,fR (xs:=ts.map V.ref) (λi Z' H'=>(∃x2 x3 x4 x5 x6,Z'=[some (.ref lm),some (.ref lr),x2,x3,x4,x5,x6])/\sS H H' lr ((itemsOf ((dc mm).take i)).map (rowOf names))) ⟨⟨_,_,_,_,_,rfl⟩,W0⟩ ?_ ?_ ?_⟩
   ·rintro i Z' H' _ ⟨_,W⟩
    exact aY.of (W.same _ _ hlm)
   ·rintro i xv Z' H1 hx ⟨⟨x2,x3,x4,x5,x6,rfl⟩,W1⟩
    rw[List.getElem?_map] at hx
    obtain⟨tm,htm,rfl⟩:=Option.map_eq_some_iff.mp hx
    have hi:i<(full mm).length:=by rw[← hA.1];exact(List.getElem?_eq_some_iff.mp htm).1
    have hm0:(full mm)[i]?=some (full mm)[i]:=List.getElem?_eq_getElem hi
    generalize (full mm)[i]=m at hm0
    have hm:(dc mm)[i]?=some (ID z m):=by rw[hms,List.getElem?_map,hm0];rfl
    have hmm:=List.mem_of_getElem? hm
    have hmi:i<(dc mm).length:=(List.getElem?_eq_some_iff.mp hm).1
    obtain⟨lu,t1,rs,t2,t3⟩:=hA.2 i tm m htm hm0
    have hgp:∀p∈m.2,gC p:=λp hp=>by
     rcases List.mem_append.mp (List.mem_of_getElem? hm0) with y|y
     ·exact L.pr m y p hp
     ·rw[List.mem_singleton.mp y] at hp;cases hp
    have n1:isName m.1=true:=(B.nm _ hmm).1
    have l1:=xg n1
    have r6:m.2.length<=12:=by have:=B.six _ hmm;rw[show (ID z m).rules.length=m.2.length from List.length_map _] at this;exact this
    have hil:=B.len i (by lia)
    refine⟨tm,[.str m.1,.ref lu],rfl,fN.of (W1.same _ _ t1),rfl,_,_,rfl,_,_,rfl,rfl,?_⟩
    have e5:(Str.ofString "mode ").length=5:=by decide +kernel
    have e4:(Str.ofString " red").length=4:=by decide +kernel
    refine au (bG (c5 F.plainAttrs_list F.slot_list_append F.type_list_append cG (pv 1) (aa (aW cQ (aW cQ aJ (pv 2)) aJ) ai))) ⟨_,rfl,.inl ⟨rfl,_,aY.of W1.at_⟩,_,rfl,_,_,rfl,rfl,bI (by show (Str.ofString "mode ").length+_<=_;lia),_,_,rfl,rfl,bI (by rw[Str.length_append];show (Str.ofString "mode ").length+_+(Str.ofString " red").length<=_;lia),lr,_,_,rfl,rfl,W1.at_,eV (by rw[List.length_map,List.length_map];lia),?_⟩
    rw[show (Str.ofString "mode " ++ m.1++Str.ofString " red" : Str)=rowOf names (.mode m.1 "red") from DR]
    have W2:=W1.add (x:=rowOf names (.mode m.1 "red"))
    generalize upd H1 lr _=H2 at W2
    refine ay (dO PassesOwn.never rfl (eB (pv 3)) (gZ rfl (bR (oJ 4 l6) (bR (oJ 5 l6) fH))) av) ⟨_,rfl,lu,rfl,⟨_,aY.of (W2.same _ _ t2)⟩,fR (xs:=rs.map V.ref) (λj Z' H'=>(∃x2 x3 x4 x5 x6,Z'=[some (.ref lm),some (.ref lr),x2,x3,x4,x5,x6])/\sS H H' lr ((itemsOf ((dc mm).take i)).map (rowOf names)++[rowOf names (.mode m.1 "red")]++(m.2.take j).map λp=>rowOf names (.rule (oX z p)))) ⟨⟨_,_,_,_,_,rfl⟩,by rw[List.take_zero,List.map_nil,List.append_nil];exact W2⟩ ?_ ?_ ?_⟩
    ·rintro j Z' H' _ ⟨_,W⟩
     exact aY.of (W.same _ _ t2)
    ·rintro j xv Z' H3 hx ⟨⟨y2,y3,y4,y5,y6,rfl⟩,W3⟩
     rw[List.getElem?_map] at hx
     obtain⟨tr,htr,rfl⟩:=Option.map_eq_some_iff.mp hx
     have hj:j<m.2.length:=by rw[← t3.1];exact(List.getElem?_eq_some_iff.mp htr).1
     have hpj:m.2[j]?=some m.2[j]:=List.getElem?_eq_getElem hj
     generalize m.2[j]=p at hpj
     have u1:=t3.2 j tr p htr hpj
     have GP:=hgp p (List.mem_of_getElem? hpj)
     have hsg:=GP.len
     refine⟨tr,[.str p.1,.str p.2],rfl,fN.of (W3.same _ _ u1),rfl,_,_,rfl,_,_,rfl,rfl,?_⟩
     show At _ _ _ [some (.ref lm),some (.ref lr),y2,y3,some (.str p.1),some (.str p.2),y6] H3
     have eR:(m.2.take (j+1)).map (λp=>rowOf names (.rule (oX z p)))=(m.2.take j).map (λp=>rowOf names (.rule (oX z p)))++[rowOf names (.rule (oX z p))]:=by rw[take_snoc hpj,List.map_append];rfl
     refine aI (λZ' H'=>∃l,H' l=some (.lst ((bP p.1 p.2).map V.str))/\ao H3 H'/\Z'=[some (.ref lm),some (.ref lr),y2,y3,some (.str p.1),some (.str p.2),some (.ref l)]) (dW 6 l6 (aW nJ (bV (aa (pv 4) ai)) (aW DW (bV (aa (wg (by decide +kernel) (pv 5)) ai)) (d8 BO (by rfl) T.M9 (by decide +kernel) (aa (ef iY (pv 5) aJ (aC _)) ai))))) ?_ ?_
     ·refine⟨_,rfl,by show 1<=sizeLine;decide,λl1 g1=>?_⟩
      have k1:upd H3 l1 (.lst [.str p.1]) l1=some (.lst [.str p.1]):=af
      have s1:ao H3 (upd H3 l1 (.lst [.str p.1])):=ao.upd g1
      generalize upd H3 l1 (.lst [.str p.1])=H4 at k1 s1
      have eq1:(Str.ofString "_").length=1:=by decide +kernel
      have eq2:(Str.ofString "'").length=1:=by decide +kernel
      have eq3:=G2 p.2
      refine⟨_,rfl,_,rfl,by rw[eq1];lia,_,rfl,bI (by rw[eq2,eq3];lia),by show 1<=sizeLine;decide,λl2 g2=>⟨_,rfl,rfl,.inr ⟨_,rfl,l2,_,_,rfl,rfl,af,Uy.1,Uy.2.1,Uy.2.2,λl3 g3=>?_⟩⟩⟩
      have eX:([V.str p.1]++if (!decide (V.str p.2=V.str (Str.ofString "")))=true then [V.str (Str.ofString "'" ++ PySem.Txt.replace p.2 (Str.ofString " ") (Str.ofString "_"))] else [])=(bP p.1 p.2).map V.str:=by
       unfold bP
       by_cases hb:bare p.1
       ·rw[if_pos hb,if_neg (λy=>zB.mp y (GP.Bh hb))];rfl
       ·have h1:=(GP.sg hb).pos
        rw[if_neg hb,if_pos (zB.mpr (λy=>by rw[y,show (Str.ofString "").length=0 by decide +kernel] at h1;lia))];rfl
      rw[rep1]
      have hX:(if (!decide (V.str p.2=V.str (Str.ofString "")))=true then [V.str (Str.ofString "'" ++ PySem.Txt.replace p.2 (Str.ofString " ") (Str.ofString "_"))] else []).length<=1:=by split <;> simp
      exact⟨l1,l3,_,_,rfl,rfl,ao.upd g3 _ _ (ao.upd g2 _ _ k1),af,bI (by rw[List.length_cons,List.length_nil];lia),λl4 g4=>⟨l4,by rw[af,eX],((s1.to g2).to g3).to g4,rfl⟩⟩
     rintro Z' H4 ⟨l,kl,s4,rfl⟩
     have W4:=W3.to s4
     have plen:=zN (s:=p.1) (z:=p.2)
     have psum:((bP p.1 p.2).map (·.length)).sum<=2*202:=by
      refine Nat.le_trans (nt (m:=202) _ λy hy=>(p9 hnm (GP.rule (z:=z) (names:=names) (by rw[hnames,List.length_map];lia)) y (List.mem_append_left _ hy)).l) (Nat.mul_le_mul_right _ plen.2)
     refine ay (bG (c5 F.plainAttrs_list F.slot_list_append F.type_list_append cG (pv 1) (aa (c5 F.plainAttrs_str F.slot_str_join F.type_str_join mH aJ (aa (aW nJ (pv 6) (bV (aa (bH (az fT (pv 4) (bV (aa aJ (aa aJ ai))) rfl) aJ aJ) ai))) ai)) ai))) ⟨_,rfl,.inl ⟨rfl,_,aY.of W4.at_⟩,rfl,_,rfl,_,rfl,by show 2<=sizeLine;decide,λlb gb=>⟨lb,_,rfl,.inl (aY.of af),rfl,rfl,_,rfl,uf Hw (dR (λhb=>?_) λhb=>?_)⟩⟩
     ·refine⟨by show 1<=sizeLine;decide,λl7 g7=>⟨l,l7,_,_,rfl,rfl,ao.upd g7 _ _ (ao.upd gb _ _ kl),af,bI (by rw[List.length_map,List.length_singleton];lia),λl8 g8=>?_⟩⟩
      have s8:=((s4.to gb (o:=.lst [.str (Str.ofString "still"),.str (Str.ofString "end")])).to g7 (o:=.lst [.str (Str.ofString "push zz")])).to2 (o:=.lst ((bP p.1 p.2).map V.str++[.str (Str.ofString "push zz")])) g8
      obtain⟨s8,k8⟩:=s8
      have W8:=W3.to s8
      refine⟨_,l8,bP p.1 p.2++[(Str.ofString "push zz")],rfl,rfl,aY.of (by rw[k8,List.map_append];rfl),?_,?_⟩
      ·rw[List.map_append,List.sum_append,List.length_append,List.length_singleton]
       have:([(Str.ofString "push zz")].map (·.length)).sum=7:=by decide +kernel
       rw[this,show (Str.ofString " ").length=1 from by decide +kernel]
       exact bI (by lia)
      ·rw[join_eq,show (Str.ofString " ")=⟨#[32]⟩ from by decide +kernel,Jy (names:=names) hb hz]
       refine⟨lr,_,_,rfl,rfl,W8.at_,eV (by simp only[List.length_map,List.length_append,List.length_cons,List.length_nil,List.length_take];lia),⟨_,_,_,_,_,rfl⟩,?_⟩
       rw[eR,← List.append_assoc]
       exact W8.add (x:=rowOf names (.rule (oX z p)))
     ·refine⟨by show 1<=sizeLine;decide,λl7 g7=>⟨l,l7,_,_,rfl,rfl,ao.upd g7 _ _ (ao.upd gb _ _ kl),af,bI (by rw[List.length_map,List.length_singleton];lia),λl8 g8=>?_⟩⟩
      have s8:=((s4.to gb (o:=.lst [.str (Str.ofString "still"),.str (Str.ofString "end")])).to g7 (o:=.lst [.str (Str.ofString "blue stay")])).to2 (o:=.lst ((bP p.1 p.2).map V.str++[.str (Str.ofString "blue stay")])) g8
      obtain⟨s8,k8⟩:=s8
      have W8:=W3.to s8
      refine⟨_,l8,bP p.1 p.2++[(Str.ofString "blue stay")],rfl,rfl,aY.of (by rw[k8,List.map_append];rfl),?_,?_⟩
      ·rw[List.map_append,List.sum_append,List.length_append,List.length_singleton]
       have:([(Str.ofString "blue stay")].map (·.length)).sum=9:=by decide +kernel
       rw[this,show (Str.ofString " ").length=1 from by decide +kernel]
       exact bI (by lia)
      ·rw[join_eq,show (Str.ofString " ")=⟨#[32]⟩ from by decide +kernel,Iv (names:=names) (z:=z) (Decidable.not_not.mp hb)]
       refine⟨lr,_,_,rfl,rfl,W8.at_,eV (by simp only[List.length_map,List.length_append,List.length_cons,List.length_nil,List.length_take];lia),⟨_,_,_,_,_,rfl⟩,?_⟩
       rw[eR,← List.append_assoc]
       exact W8.add (x:=rowOf names (.rule (oX z p)))
    ·rintro Z' H3 ⟨hZ,W3⟩
     refine⟨hZ,?_⟩
     rw[List.length_map,t3.1,List.take_length] at W3
     rw[take_snoc hm,gQ,gW,List.map_append,gg,List.map_cons,List.map_map,show (ID z m).rules=m.2.map (oX z) from rfl,List.map_map]
     rw[List.append_assoc] at W3
     exact W3
   ·rintro Z' H1 ⟨hZ,W1⟩
    rw[List.length_map,hA.1,show (full mm).length=(dc mm).length by rw[hms,List.length_map],List.take_length] at W1
    exact⟨hZ,W1⟩
  rintro Z' H1 ⟨⟨x2,x3,x4,x5,x6,rfl⟩,W1⟩
  have hGI:=B.items
  have hrows:rowsOf (itemsOf (dc mm))=(itemsOf (dc mm)).map (rowOf names):=by rw[rowsOf,gP,hnames]
  refine ay (aG (c5 F.plainAttrs_str F.slot_str_join F.type_str_join mH aJ (aa (pv 1) ai))) ⟨rfl,_,rfl,_,lr,_,rfl,rfl,aY.of W1.at_,?_,?_⟩
  ·have h5:=nt (m:=1421) ((itemsOf (dc mm)).map (rowOf names)) (λy hy=>by
    obtain⟨it,hi,rfl⟩:=List.mem_map.mp hy
    obtain⟨i,e⟩:=List.mem_iff_getElem?.mp hi
    have:=(jc hGI e).2.1
    rw[gP,← hnames] at this
    exact this)
   rw[show ("\n" : Str).length=1 from by decide +kernel]
   rw[List.length_map] at h5 ⊢
   have h6:(itemsOf (dc mm)).length*1421<=200*1421:=Nat.mul_le_mul_right _ hitems
   exact bI (by lia)
  ·rw[join_eq,show ((("\n" : Str)))=⟨#[10]⟩ from by decide +kernel,← hrows]
   exact q _ W1.same
theorem DU:∀c∈(Str.ofString "zz").cps.toList,c∈bK.cps.toList:=by decide +kernel
theorem iO.chain {mm:List (Str×List (Str×Str))} (L:iO mm) {r:Str} (h:r = "" ∨ r = "zz"):∃Gs,Chain (dc mm) [0] [r] Gs:=by
 have hr:r.length<=2/\∀c∈r.cps.toList,c∈bK.cps.toList:=by
  rcases h with rfl|rfl
  ·decide +kernel
  ·exact⟨by decide +kernel,DU⟩
 refine rL (λr hr=>L.free r hr) [r] [0] ⟨by simp,λx hx=>by rw[List.mem_singleton.mp hx,jm];lia⟩ (λy hy=>?_) ?_
 ·rw[List.mem_singleton.mp hy]
  exact⟨by lia,hr.2⟩
 ·rw[qQ]
  show 4*1+25*(r.length+0)+20*1<=20000
  lia
theorem iO.put {mm:List (Str×List (Str×Str))} (L:iO mm) {Gs:List bX} (hC:Chain (dc mm) [0] [("" : Str)] Gs):∃G Gm,Gs=[G]/\G.row = "" /\ Gm.map (·.row)=[("zz" : Str)]/\Gm.length=1/\jo (dc mm) Gs 0 1 [("zz" : Str)] 0 0 Gm 0 Gm:=by
 obtain⟨Gm,hm⟩:=L.chain (.inr rfl)
 match Gs,hC,Gm,hm with
 | [G],hC,[Gz],hm =>
  have e1:G.row = "" := hC.1
  have e2:Gz.row = "zz" := hm.1
  have hne:¬ G.row = "zz" := by rw[e1];decide
  have e3:fZ [G.row] [("zz" : Str)]=0:=if_neg hne
  refine⟨G,[Gz],rfl,e1,by rw[List.map_cons,e2];rfl,rfl,Nat.le_refl 1,e3.symm,e3.symm,hm,?_⟩
  exact⟨rfl,Nat.le_refl 1,λ_ _=>rfl,λ_ _=>rfl,λj h1 h2=>by exact absurd h2 (by simp at h1 ⊢;lia),λG h=>by cases h⟩
theorem Qm {x:Str} (h:x = ""):PySem.Txt.split (xT x 0 (Str.ofString "zz")) (Str.ofString "\n")=[("zz" : Str)]:=by
 rw[h]
 decide +kernel
theorem Du.off{H:Hp}{lm x0 C dx:Addr}{fs:List (Str×V)}{mm:List (Str×List (Str×Str))}(h:Du H lm mm)(hx:H x0=some (.ins C dx fs)):Du (hid (λc=>c=x0) H) lm mm:=by
 have kl:∀{b:Addr} {xs:List V},H b=some (.lst xs)->hid (λc=>c=x0) H b=some (.lst xs):=λh=>br h λz=>by rw[z,hx] at h;cases h
 have kt:∀{b:Addr} {xs:List V},H b=some (.tup xs)->hid (λc=>c=x0) H b=some (.tup xs):=λh=>br h λz=>by rw[z,hx] at h;cases h
 obtain⟨ts,h1,h2⟩:=h
 refine⟨ts,kl h1,h2.mono λ_ _ z=>?_⟩
 obtain⟨u,a,us,b,c⟩:=z
 exact⟨u,kt a,us,kl b,c.mono λ_ _ z=>kt z⟩
theorem nE.same{H H':Hp}{x0 dx:Addr}{v:V}{rs:List Str}(h:nE t H x0 dx v rs)(s:ao H H'):nE t H' x0 dx v rs:=by
 obtain⟨h1,h2⟩:=h
 refine⟨s _ _ h1,?_⟩
 rcases h2 with h2|⟨n,x,tt,ld,ms,Gs,e,D,r⟩
 ·exact .inl h2
 ·exact .inr ⟨n,x,tt,ld,ms,Gs,e,D.same s,r⟩
theorem qY {mm:List (Str×List (Str×Str))} (L:iO mm) {H:Hp} {x0 dx:Addr} {v:V} {r:Str} {Q:VK} {E:XK} (hr:r = "" ∨ r = "zz") (hD:nE t H x0 dx v [r]) (q:∀x tt ld Gs H',Chain (dc mm) [0] [r] Gs->lA t 0 H' x0 x tt ld (dc mm) Gs->H x=none->H tt=none->H ld=none->fV H H' x0->Q (.str "ok") H') :
  EV t [.ref x0,.str (Str.ofString "rules\n" ++ Str.join ⟨#[10]⟩ (rowsOf (itemsOf (dc mm))))] H Q E:=by
 obtain⟨Gs,hC⟩:=L.chain hr
 have e:=zc (dc mm)
 refine⟨x0,dx,v,_,itemsOf (dc mm),[r],Gs,rfl,hD,rfl,L.OQ,L.fit.items,L.fit.Dh,by rw[e];exact L.fit.good,by rw[e];exact sP,by rw[e];exact hC,by show 1<=1000;decide,?_⟩
 rw[e]
 exact λx tt ld H' D n1 n2 n3 ad=>q x tt ld Gs H' hC D n1 n2 n3 ad
theorem HJ{H H':Hp}{x0:Addr}(ad:fV H H' x0):ao (hid (λc=>c=x0) H) (hid (λc=>c=x0) H'):=λb o h =>
 have n:b≠x0:=cO (S:=λc=>c=x0) h
 br (ad _ _ (aH _ _ h) n) n
theorem IQ{H H' H2:Hp}{x0 x tt ld:Addr}(ad:fV H H' x0)(n1:H x=none)(n2:H tt=none)(n3:H ld=none)(k:∀b o,H' b=some o->b≠x->b≠tt->b≠ld->H2 b=some o):ao (hid (λc=>c=x0) H) (hid (λc=>c=x0) H2):=λb o h =>
 have n:b≠x0:=cO (S:=λc=>c=x0) h
 have h1:=aH _ _ h
 br (k _ _ (ad _ _ h1 n) (ak h1 n1) (ak h1 n2) (ak h1 n3)) n
noncomputable def Ab(K:PySem.W.Frag):Sp:=λvs H Q _=>∃(a:Addr) (ns:List Int),vs=[.ref a]/\aY K H a (ns.map V.int)/\ns.length<=63/\∀H',Q (.bl true) H'
theorem NQ {f:Addr} {fd:FuncData} (F:cT K "law" "law" EX f fd) (T:Txt K mg t) (hw:t.pr=w.params):aZ P w K mg base c7 13 f fd ["_law_script"] (Ab K):=by
 refine F.ok xO ?_ ?_
 walk_at "i"
 ·obtain⟨a,ns,rfl,hS,hl,q⟩:=h
  refine au (dW 1 xO (F6 T.IT (PL T) hr.m rfl T.C6 (T.MK.binds (by walk_at "1")) .nil aE)) (λx0 dx0 nx ndx ne=>⟨x0,dx0,rfl,af,rfl,?_⟩)
  have s1:ao H (hid (λc=>c=x0) (upd (upd (upd H dx0 (.own x0)) x0 (.ins t.dH dx0 [])) x0 (.ins t.dH dx0 [("scribe",.cu)]))):=λb o hb=>br (by rw[aj (ak hb nx),aj (ak hb nx),aj (ak hb ndx)];exact hb) (ak hb nx)
  have hx1:upd (upd (upd H dx0 (.own x0)) x0 (.ins t.dH dx0 [])) x0 (.ins t.dH dx0 [("scribe",.cu)]) x0=some (.ins t.dH dx0 [("scribe",.cu)]):=af
  generalize upd (upd (upd H dx0 (.own x0)) x0 (.ins t.dH dx0 [])) x0 (.ins t.dH dx0 [("scribe",.cu)])=H1 at s1 hx1
  have hS1:=hS.same s1
  refine au (dW 2 xO (aQ (EI T) hr.m rfl T.Gb T.wI.kp (T.wI.binds (by walk_at "2")) .nil aE (aa (pv 0) (aa aB ai)))) ⟨_,rfl,a,ns,100,rfl,hS1.same aH,hl,by decide,by decide,λlm mm H2 L hM s2=>?_⟩
  have hx2:=s2 _ _ hx1
  have hM2:=hM.off hx2
  have hS2:=hS1.same (aV s2)
  clear hM hS hS1 hx1
  have e6:(Str.ofString "rules\n").length=6:=by decide +kernel
  have e0:Cc (dc mm)=Str.join (Str.ofString "\n") (eu (full mm)):=by rw[Cc,L.hid]
  refine aI (λZ' H'=>Z'=[some (.ref a),some (.ref x0),some (.ref lm)]/\∃dx v,∃r:Str,(r = "" ∨ r = "zz")/\nE t H' x0 dx v [r]/\Du (hid (λc=>c=x0) H') lm (full mm)) (aX (az bS (aQ (lV T) hr.m rfl T.lG T.iG.kp (T.iG.binds (by walk_at "3")) .nil aE (aa (pv 0) (aa aB (aa aB ai)))) aB (aC _)) av av) ⟨_,rfl,a,ns,1,2,rfl,hS2.same aH,by decide,by decide,by decide,by decide,hl,λd H3 h0 h1 s3=>⟨rfl,_,rfl,dR (λh=>?_) λh=>aU ⟨rfl,dx0,.cu,"",.inl rfl,⟨s3 _ _ hx2,.inl ⟨rfl,rfl⟩⟩,hM2.same (aV s3)⟩⟩⟩ ?_
  ·have hx3:=s3 _ _ hx2
   have hM3:=hM2.same (aV s3)
   have hS3:=hS2.same (aV s3)
   refine ay (aX (PW.pt (ie (az iY (bz (pv 1) T.dX T.r8 (kY T hw) hr.m (T.mR.binds (by walk_at "2")) .nil aE (aa (aW cQ aJ (aQ (GW T) hr.m rfl T.Ew T.vB.kp (T.vB.binds (by walk_at "1")) .nil aE (aa (aQ (EI T) hr.m rfl T.Gb T.wI.kp (T.wI.binds (by walk_at "2")) .nil aE (aa (pv 0) (aa aB ai))) ai))) ai)) aJ (aC _)) (gj (az iY (bz (pv 1) T.dX T.r8 (rB T hw) hr.m (T.mR.binds (by walk_at "2")) .nil aE (aa aJ ai)) aJ (aC _))))) av av) ?_
   walk_at "rd"
   refine⟨dx0,_,hx3,rfl,a,ns,400,rfl,hS3.same aH,hl,by decide,by decide,λlm' mm' H4 L' hM' s4=>⟨lm',mm',rfl,hM',L',λH5 s5=>⟨_,rfl,bI (by have:=L'.OQ;lia),qY L' (.inl rfl) ⟨s5 _ _ (s4 _ _ hx3),.inl ⟨rfl,rfl⟩⟩ λx tt ld Gs H6 hC D n1 n2 n3 ad=>⟨rfl,jA (λz=>absurd rfl z) λ_=>?_⟩⟩⟩⟩
   obtain⟨dxd,hxd⟩:=D.ob
   obtain⟨G,Gm,rfl,e1,e2,e3,hCh⟩:=L'.put hC
   refine⟨dxd,_,hxd,rfl,x0,x,tt,ld,dc mm',_,G,_,0,0,Gm,0,Gm,rfl,D,L'.fit.good,rfl,by rw[e1];decide +kernel,Qm e1,by show 1<=50000;decide,by lia,by show 1<=50000;decide,(λz=>by cases z),hCh,e3,λH7 D7 k7=>⟨rfl,jA (λz=>absurd rfl z) λ_=>?_⟩⟩
   obtain⟨dx7,hx7⟩:=D7.ob
   exact aU ⟨rfl,dx7,.ref x,"zz",.inr rfl,⟨hx7,.inr ⟨1,x,tt,ld,dc mm',Gm,rfl,D7,e2.symm,by lia⟩⟩,(hM3.same (aV (s4.trans s5))).same (IQ ad n1 n2 n3 k7)⟩
  rintro Z' H3 ⟨rfl,dx,v,r,hr0,hD,hM3⟩
  refine aI (λZ' H'=>Z'=[some (.ref a),some (.ref x0),some (.ref lm)]/\∃x tt ld Gs,lA t 0 H' x0 x tt ld (dc mm) Gs/\Du H' lm (full mm)) (aX (PW.pt (ie (az iY (bz (pv 1) T.dX T.r8 (kY T hw) hr.m (T.mR.binds (by walk_at "2")) .nil aE (aa (aW cQ aJ (aQ (GW T) hr.m rfl T.Ew T.vB.kp (T.vB.binds (by walk_at "1")) .nil aE (aa (pv 2) ai))) ai)) aJ (aC _)) (gj (az iY (bz (pv 1) T.dX T.r8 (jb T hw) hr.m (T.mR.binds (by walk_at "2")) .nil aE (aa aJ ai)) (aQ (Em T) hr.m rfl T.Eh T.uQ.kp (T.uQ.binds (by walk_at "1")) .nil aE (aa (pv 2) ai)) (aC _))))) av av) ?_ ?_
  ·walk_at "rd"
   refine⟨dx,_,hD.1,rfl,lm,mm,rfl,hM3.same aH,L,λH4 s4=>⟨_,rfl,bI (by have:=L.OQ;lia),qY L hr0 (hD.same s4) λx tt ld Gs H5 hC D n1 n2 n3 ad=>⟨rfl,jA (λz=>absurd rfl z) λ_=>?_⟩⟩⟩
   have hM5:=((hM3.same (aV s4)).same (HJ ad)).same aH
   obtain⟨dxd,hxd⟩:=D.ob
   exact⟨dxd,_,hxd,rfl,x0,x,tt,ld,dc mm,Gs,_,0,rfl,D,.inr ⟨rfl,L.tells,λH6 s6=>⟨lm,full mm,rfl,hM5.same s6,L.TQ,λH7 s7=>⟨rfl,jA (λz=>absurd (by rw[e0]) z) λ_=>aU ⟨rfl,x,tt,ld,Gs,(D.same s6).same s7,(hM5.same s6).same s7⟩⟩⟩⟩⟩
  rintro Z' H4 ⟨rfl,x,tt,ld,Gs,D,hM4⟩
  refine ay (aG (EB (ef bS (bz (pv 1) T.dX T.r8 (jb T hw) hr.m (T.mR.binds (by walk_at "2")) .nil aE (aa aJ ai)) (aQ (Em T) hr.m rfl T.Eh T.uQ.kp (T.uQ.binds (by walk_at "1")) .nil aE (aa (pv 2) ai)) (aC _)) (yy (ef bS (bz (pv 1) T.dX T.r8 (jb T hw) hr.m (T.mR.binds (by walk_at "2")) .nil aE (aa aJ ai)) aJ (aC _))))) ?_
  walk_at "rd"
  obtain⟨dxd,hxd⟩:=D.ob
  exact⟨dxd,_,hxd,rfl,x0,x,tt,ld,dc mm,Gs,_,0,rfl,D,.inr ⟨rfl,L.tells,λH5 s5=>⟨lm,full mm,rfl,hM4.same s5,L.TQ,λH6 s6=>⟨rfl,dR (λ_=>⟨dxd,_,s6 _ _ (s5 _ _ hxd),rfl,x0,x,tt,ld,dc mm,Gs,_,0,rfl,(D.same s5).same s6,.inl ⟨rfl,λH7 s7=>⟨rfl,by rw[decide_eq_true rfl];exact q _⟩⟩⟩) λz=>absurd (by rw[e0]) z⟩⟩⟩⟩
end
theorem Sz{K:PySem.W.Frag}{pr:Params}{a:Addr}{kvs:List (Str×V)}{o:Obj}{es:Array DictEntry}{ep:Nat}(e:K.lookup a=some o)(n:(a == sysModules)=false)(h:o.ExactDict/\o.data = .dict es ep/\xR pr es.toList kvs)(nd:(kvs.map (·.1)).Nodup):Rv K pr a kvs:=⟨n,nd,o,es,ep,e,h⟩
theorem R9{K:PySem.W.Frag}{h:Heap}{mg:Str->Option Value}{x:Str}{u:Value}{v:V}(X:K.In h)(G:h.Ns mainGlobals mg)(e:PySem.W.nsIn K mainGlobals x=some (some u))(r:RelV v u):∃u,mg x=some u/\RelV v u:=⟨u,PySem.W.mg_of X G e,r⟩
theorem K2 {K:PySem.W.Frag} {a:Addr} {xs:List V} {o:Obj} {its:Array Value} {n:Nat} (e:K.lookup a=some o) (h:o.cls = .type "tuple" /\ o.data = .seq its n/\its.size<=sizeLine/\Vals xs its.toList):∀H,fN K H a xs:=λ_=>.inr ⟨o,its,n,e,h⟩
theorem all_mk {l:W.OpenLaw} {w:World} {K:W.Frag} {h:Heap} {mg:Str->Option Value} {fa f:Addr} {d:FuncData} {t:eS} (X:K.In h) (G:h.Ns mainGlobals mg) (hfa:mg "law" = some (.ref fa)) (T:Txt K mg t) (hw:t.pr=w.params) (a:W.nsIn K mainGlobals "law" = some (some (.ref f))) (F:cT K "law" "law" EX f d)
  : ∃fd:FuncData,(∀(s:Shared) (v:Value),BindsTo s fd ⟨[v],[]⟩ [("_law_script",v)])/\∀base:Heap,K.In base->base.Ns mainGlobals mg->aZ l.prog w K mg base c7 13 fa fd ["_law_script"] (Ab K):=by
 have e:=hfa.symm.trans (W.mg_of X G a)
 cases e
 exact⟨d,(by obtain⟨_,_,_,_,_,_,_,_,_,e,_⟩:=F.ex;rw[e];exact λs v=>.of_eq rfl),λbase _ _=>NQ F T hw⟩
theorem walk{l:W.OpenLaw}{q:Program}{loose:List Str}{XP:(Str->Option Value)->Heap->Prop}{YP:World->Heap->Prop}{d:DefRec}{K:Params->W.Frag}(hn:l.most=some 63)(hdf:d.params.defaults=[])
  (hY:∀(w:World) (h:Heap),YP w h->(K w.params).In h)
  (F:∀(w:World) (mg:Str->Option Value) (fa:Addr) (h:Heap),(K w.params).In h->h.Ns mainGlobals mg->mg d.name=some (.ref fa) ->
   ∃fd:FuncData,(∀(s:Shared) (u:Value),BindsTo s fd ⟨[u],[]⟩ [("_law_script",u)])/\∀base:Heap,(K w.params).In base->base.Ns mainGlobals mg->aZ l.prog w (K w.params) mg base c7 13 fa fd ["_law_script"] (Ab (K w.params))) :
  W.WalkO q loose XP YP l.row.toRowW d [] (λf vs=>PySem.call f vs) :=
 L2.HZ (n:=63) (k:=13) (x:="_law_script") (CX:=λ_=>c7) (sp:=λw=>Ab (K w.params)) hn (by decide) hdf ⟨rfl,by decide,by decide⟩ hY F (λ_ _ a ns hl _ hS=>⟨a,ns,rfl,hS,hl,λ_=>rfl⟩) λ_ _ _ _ _ z=>z
end K82
open PySem PySem.W PyProof.Rows
set_option maxRecDepth 100000 in
set_option maxHeartbeats 0 in
theorem PySem.Challenge.cw_tintrow_k82_hidden_rules_at_a_desk_holds : PySem.Challenge.rw_tintrow_k82_hidden_rules_at_a_desk.Holds := by
 w_on;o_law;k_head;(case hw=>w_witness2)
 k_fill
 refine K82.walk (l:=PySem.Challenge.rw_tintrow_k82_hidden_rules_at_a_desk) rfl rfl (λw h Y=>PySem.W.kIn_of Y) ?F
 case F =>
  intro w mg fa h KX G hmg
  apply K82.all_mk (t:=⟨_,_,_,_,_,_,_,_,_,_,_,_,_,_,_,_,_,_,_,_,_,_,_,_,_,_,_,_,_,_,_,_,_,_,_,_,_,_,_,_,_,_,_,_,_,_,_,_,_,_,_,_,_,_,_,_,_,_,_,_,_,_,_,_,_,_,_,_,_,_,_,_,_,_,_,_,_,_,_,_,_,_,_,_,_,_,_,_,_,_,_,_,_,_,_,_,_,_,_,_,_,_,_,_,_,_,_,_,_,_,_,_,_,_,_,_,_,_,_,_,_,_,_,_,_,_,_,_,_,_,_,_,_,_,_,_,_,_,_,_,_,_,_,_,_,_,_,_,_,_,_,_,_,_,_,_,_,_,_,_,_,_,_,_,_,_,_,_,_,_,_,_,_,_,_,_,_,_,_,_,_,_,_,_,_,_,_,_,_,_,_,_,_,_,_,_,_,_,_,_,_,_,_,_,_,_,_,_,_,_,_,_,_,_,_,_,_,_,_,_,_,_,_,_,_,_,_,_⟩) KX G hmg
  case hw=>rfl
  case a=>k_is
  case F=>apply L2.Dw <;> k_is
  case T =>
   constructor
   all_goals try (with_reducible refine PySem.W.mg_of KX G ?_;dsimp only;k_is)
   all_goals try (first | with_reducible apply L2.Meth.mk | with_reducible apply L2.Mk.mk | with_reducible apply L2.Ug.mk | with_reducible apply L2.lK.mk) <;> (try dsimp only) <;> k_is
   all_goals try (apply L2.Dw <;> (try dsimp only) <;> k_is)
   all_goals try (with_reducible refine PySem.W.mg_none_of KX G ?_;k_is)
   all_goals try (show PySem.W.findIn _ _ _=_;(try dsimp only);k_is)
   all_goals try (show PySem.W.kitOne _ _ _=_;(try dsimp only);kit_is)
   all_goals try (apply K82.R9 KX G;k_is;exact⟨_,rfl⟩)
   all_goals try (apply K82.K2;(dsimp only;k_is);exact⟨rfl,rfl,by show _<=sizeLine;decide,by repeat (first | exact .nil | refine .cons ⟨_,rfl⟩ ?_)⟩)
   case kH =>
    apply K82.Sz
    ·dsimp only
     k_is
    ·first | rfl | decide
    ·refine⟨?_,rfl,?_⟩
     ·constructor <;> first | rfl | exact⟨rfl,rfl⟩
     ·repeat (first | exact .nil | refine .cons rfl ?_)
    ·first | (show (["rules","put","cut","undo","redo","mark","drop","marks","row","tint","folds","never"]:List Str).Nodup;decide +kernel) | (dsimp only;decide +kernel)
   all_goals try (apply K82.K2;(dsimp only;k_is);exact⟨rfl,rfl,by show _<=sizeLine;decide,by repeat (first | exact .nil | refine .cons ⟨_,rfl⟩ ?_)⟩)
   all_goals (try dsimp only) <;> first | k_is | k_exc | kernel_rfl
