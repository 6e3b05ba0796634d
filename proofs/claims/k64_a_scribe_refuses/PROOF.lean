import PyProof.Rows.All
import Wide.All
import OpenK.AllK
import Wide.FinOn
import PyProof.EqAt
import PyProof.EqKinds
import PyProof.TupleCall
import PyProof.ListStr
import PyProof.EnumFor
import PyProof.EnumMake
import PyProof.EnumStmt
import PyProof.StrLawsTight
import PyProof.StrLawsReplace
import PyProof.StrCalls6
import PyProof.ToksMono
import PyProof.CompMap
import KE.KListMore
import PyProof.StationsW
import PyProof.RulesTry
import PyProof.ExcInit
import PyProof.ExcClass3
import OpenK.KOwn
import PyProof.ExcBaseAll.ValueError
import PyProof.RulesAs
import PyProof.NsDelKeeps
import KE.KIsAll
import PyProof.ExcArgsOwn
import PyProof.InstStoreFacts
import KE.KIntText
import PyProof.FString
import PyProof.ZipIter
import KE.KRevIter
import PyProof.ListRange
import KE.KDictOf
import PyProof.AttrMissHeap
import KE.KSortTup
import KE.KDictSum
import KE.KSortAsk
import KE.KEqDict
import PyProof.ReprStr
import PySem.Challenge.RW_tintrow_k64_a_scribe_refuses
set_option Elab.async false
set_option linter.all false
set_option autoImplicit true
set_option relaxedAutoImplicit true
set_option maxRecDepth 100000
def d6:=@List.length_map
def i4:=@List.getElem?_eq_getElem
def i5:=@List.getElem?_eq_some_iff
def o0:=@List.length_append
def u3:=@PySem.Heap.get?_push_of_some
def u8:=@List.mem_of_getElem?
def v3:=@PySem.wpAny_bind
def v6:=@List.mem_singleton
def x0:=@List.length_cons
def y0:=@List.mem_cons
def B1:=@List.getElem?_map
def B2:=@PySem.Heap.lt_size
def D1:=@List.mem_cons_of_mem
def M2:=@Nat.le_refl
def N0:=@List.length_take
def P2:=@List.map_append
def P3:=@List.size_toArray
def Q1:=@Option.map_eq_some_iff
def T0:=@Nat.ne_of_lt
def T1:=@PySem.wpAny_pure
def U2:=@List.length_drop
def X1:=@List.not_mem_nil
def X2:=@List.mem_append_right
def X3:=@List.getElem?_append_right
def X4:=@Bool.false_ne_true
def X5:=@Nat.zero_le
def X6:=@Nat.le_trans
def X7:=@PySem.W.KT.empty_app
def X8:=@Option.some.inj
def X9:=@List.mem_cons_self
def Y5:=@List.map_cons
def Y6:=@PySem.F.slot_list_append
def Y7:=@List.length_nil
def Y8:=@PySem.F.plainAttrs_list
def Y9:=@List.getElem?_append_left
def Z0:=@PySem.Heap.get?_push_size
def Z4:=@Nat.lt_of_lt_of_le
def Z8:=@PySem.strLen_append
def Z9:=@decide_eq_false
def aa0:=@PySem.F.type_list_append
def aa1:=@List.mem_append
def aa2:=@List.mem_map
def aa3:=@Ne.symm
def aa4:=@List.length_singleton
def aa5:=@Int.toNat_natCast
def aa6:=@PySem.Heap.get?_update_other
def aa7:=@List.mem_append_left
def aa8:=@decide_eq_true_eq
def aa9:=@Bool.and_eq_true
def ab0:=@List.mem_iff_getElem?
def ab1:=@PySem.wpAny_mono
def ab2:=@List.append_nil
def ab3:=@PySem.PassesOwn.never
def ab4:=@List.take_of_length_le
def ab5:=@List.getD_eq_getElem?_getD
def ab6:=@List.take_length
def ab7:=@List.getElem?_drop
def ab8:=@decide_eq_true
def ab9:=@List.lookup_cons
def ac0:=@PySem.sizeLine_eq
def ac1:=@congrArg
def ac2:=@Array.getElem?_eq_some_iff
def ac3:=@or_false
def ac4:=@PySem.F.plainAttrs_str
def ac5:=@Nat.le_add_right
def ac6:=@List.append_assoc
def ac7:=@List.getElem?_eq_none
def ac8:=@PyProof.Rows.callWith_type1
def ac9:=@PySem.W.kia_one
def ad0:=@PySem.mem_of_lookup
def ad1:=@PySem.Heap.get?_update_self
def ad2:=@List.nodup_append
def ad3:=@of_decide_eq_true
def ad4:=@Bool.eq_iff_iff
def ad5:=@List.getElem?_cons_zero
def ad6:=@Nat.lt_irrefl
def ad7:=@Option.map_some
def ad8:=@PySem.wpAny_Call_Name_kw
def ad9:=@List.getElem_mem
def ae0:=@PyProof.Rows.take_snoc
def ae1:=@List.length_reverse
def ae2:=@List.replicate_succ
def ae3:=@PySem.wpAny_truthy_bool
def ae4:=@PySem.wpAny_holding
def ae5:=@PySem.Obj.isFreed_of_fields
def ae6:=@PySem.F.slot_str_split
def ae7:=@List.take_append_of_le_length
def ae8:=@PySem.Heap.get?_none_of_le
def ae9:=@Nat.lt_of_succ_lt
def af0:=@Option.some.injEq
def af1:=@PySem.wpAny_loadPart_at
def af2:=@List.length_pos_iff
def af3:=@List.drop_eq_nil_of_le
def af4:=@Array.toList_inj
def af5:=@PySem.W.callWith_K
def af6:=@List.getLastD_eq_getLast?
def af7:=@List.dropLast_concat
def af8:=@Nat.min_eq_left
def af9:=@PySem.wpAny_loadPart'
def ag0:=@PySem.wpAny_passesOwn
def ag1:=@List.getElem?_cons_succ
def ag2:=@List.length_eq_zero_iff
def ag3:=@PySem.StrLaws.found_one
def ag4:=@List.drop_append_of_le_length
def ag5:=@PySem.call_meets
def ag6:=@PySem.Calls.callWith_builtin
def ag7:=@PySem.Calls.spliced_cons
def ag8:=@PySem.Obj.data_mapFields
def ag9:=@PySem.F.slot_str_startswith
def ah0:=@List.concat_eq_append
def ah1:=@List.eq_nil_or_concat
def ah2:=@List.find?_cons
def ah3:=@List.length_replicate
def ah4:=@List.nodup_cons
def ah5:=@PySem.W.methodCall_KW
def ah6:=@List.ext_getElem?
def ah7:=@List.flatten_cons
def ah8:=@List.sum_cons
def ah9:=@PySem.Str.length_append
def ai0:=@PySem.typeIs_str
def ai1:=@PySem.wpAny_call
def ai2:=@PySem.F.excBase_ValueError
def ai3:=@PySem.Calls.evalArgs_plain
def ai4:=@List.length_dropLast
def ai5:=@PySem.codeAny_call_builtin
def ai6:=@PySem.lookup_relabel_local
def ai7:=@PySem.Heap.size_push
def ai8:=@PySem.F.type_str_split
def ai9:=@Nat.lt_succ_self
def aj0:=@Array.length_toList
def aj1:=@List.take_succ_cons
def aj2:=@PySem.W.callWith_K0
def aj3:=@PySem.wpAny_isSubtype_exc
def aj4:=@List.map_map
def aj5:=@Nat.le_of_eq
def aj6:=@PySem.codeAny_mono
def aj7:=@Bool.false_eq_true
def aj8:=@PySem.Calls.Constant_str
def aj9:=@List.foldl_cons
def ak0:=@List.getElem?_take
def ak1:=@List.map_take
def ak2:=@List.mem_filterMap
def ak3:=@List.zip_cons_cons
def ak4:=@Nat.lt_of_le_of_lt
def ak5:=@LawfulBEq.eq_of_beq
def ak6:=@PySem.tupleKind_room_in1
def ak7:=@PySem.wpAny_execs_nil
def ak8:=@Sum.inr.inj
def ak9:=@Nat.ne_of_gt
def al0:=@Nat.sub_self
namespace L2
theorem Y10(_:True:=by (repeat intro _);rfl):True:=⟨⟩
theorem Y0(_:True:=by first|exact .inl rfl|exact .inr rfl|assumption):True:=⟨⟩
theorem Y1(_:True:=by decide):True:=⟨⟩
theorem Y2(_:True:=by intro _;rfl):True:=⟨⟩
theorem Y3(_:True:=by rfl):True:=⟨⟩
theorem Y4(_:True:=by exact Or.inl rfl):True:=⟨⟩
open PySem PySem.Spec PyProof.Rows
abbrev Key:=Sum Int Str
def vg:Key->Value->Bool
 |.inl k,v=>Value.isInt k v
 |.inr x,v=>Value.isStrOf x v
def Xm(w:World):Key->Int
 |.inl k=>hashInt k
 |.inr x=>hashStr w x
theorem cZ:∀{k:Key} {v:Value},vg k v=true->(∃i t,k=Sum.inl i/\v=Value.int i t)∨(∃x t,k=Sum.inr x/\v=Value.str x t)
 |.inl i,v,h=>by obtain⟨t,e⟩:=Value.isInt_shape (k:=i) (v:=v) h;exact .inl ⟨i,t,rfl,e⟩
 |.inr x,v,h=>by obtain⟨t,e⟩:=Value.isStrOf_shape (x:=x) (v:=v) h;exact .inr ⟨x,t,rfl,e⟩
def CZ(i:Int)(t:Tok):vg (.inl i) (.int i t)=true:=by simp[vg,Value.isInt]
def DC(x:Str)(t:Tok):vg (.inr x) (.str x t)=true:=by simp[vg,Value.isStrOf]
def QB(a b:Int):decide ((Sum.inl a:Key)=Sum.inl b)=(a == b):=by
 by_cases e:a=b
 ·subst e;simp
 ·have h:¬ (Sum.inl a:Key)=Sum.inl b:=λq=>e (Sum.inl.inj q);rw[Z9 h];exact(beq_eq_false_iff_ne.mpr e).symm
def Rt(a b:Str):decide ((Sum.inr a:Key)=Sum.inr b)=decide (a=b):=by
 by_cases e:a=b
 ·subst e;simp
 ·have h:¬ (Sum.inr a:Key)=Sum.inr b:=λq=>e (ak8 q);rw[Z9 h,Z9 e]
def Sv(a:Int)(b:Str):decide ((Sum.inl a:Key)=Sum.inr b)=false:=Z9 (λq=>nomatch q)
def Rv(a:Str)(b:Int):decide ((Sum.inr a:Key)=Sum.inl b)=false:=Z9 (λq=>nomatch q)
def cu(prog:Program)(w:World):PySem.KeyKind prog w Key where
 is:=vg
 hash:=Xm w
 inj:=λv a b ha hb=>by
  rcases cZ ha with ⟨i,t,rfl,rfl⟩|⟨x,t,rfl,rfl⟩
  ·rcases cZ hb with ⟨j,u,rfl,e⟩|⟨y,u,rfl,e⟩
   ·injection e with e1 _;rw[e1]
   ·exact nomatch e
  ·rcases cZ hb with ⟨j,u,rfl,e⟩|⟨y,u,rfl,e⟩
   ·exact nomatch e
   ·injection e with e1 _;rw[e1]
 byValue:=λk v h=>by rcases cZ h with ⟨i,t,rfl,rfl⟩|⟨x,t,rfl,rfl⟩ <;> rfl
 pyHash:=λhv h=>by
  rcases cZ hv with ⟨i,t,rfl,rfl⟩|⟨x,t,rfl,rfl⟩
  ·exact wpAny_pyHash_int h
  ·exact wpAny_pyHash_str h
 eqBool:=λhu hv h=>by
  rcases cZ hu with ⟨i,t,rfl,rfl⟩|⟨x,t,rfl,rfl⟩
  ·rcases cZ hv with ⟨j,u,rfl,rfl⟩|⟨y,u,rfl,rfl⟩
   ·rw[QB] at h;exact wpAny_eqBool_int h
   ·rw[Sv] at h;exact SeqAt.EqAt.int_str i t y u _ _ _ _ h
  ·rcases cZ hv with ⟨j,u,rfl,rfl⟩|⟨y,u,rfl,rfl⟩
   ·rw[Rv] at h;exact SeqAt.EqAt.str_int x t j u _ _ _ _ h
   ·rw[Rt] at h;exact wpAny_eqBool_str h
 «strs»:=λk x t v h=>by
  rcases cZ h with ⟨i,u,rfl,e⟩|⟨y,u,rfl,e⟩
  ·exact nomatch e
  ·injection e with e1 _
   subst e1;cases v <;> rfl
def yT(prog:Program)(w:World)(i:Int)(t:Tok):(cu prog w).is (.inl i) (.int i t)=true:=CZ i t
def yO(prog:Program)(w:World)(x:Str)(t:Tok):(cu prog w).is (.inr x) (.str x t)=true:=DC x t
inductive V where
 |cD | bl (b:Bool) | int (i:Int) | str (x:Str) | byt (b:Array UInt8) | D7 (b:UInt64) | ref (a:Addr) | ty (n:String)
 deriving DecidableEq
def RelV:V->Value->Prop
 |.cD,u=>u=Value.none
 |.bl b,u=>u=Value.bool b
 |.int i,u=>∃t,u=Value.int i t
 |.str x,u=>∃t,u=Value.str x t
 |.byt b,u=>∃t,u=Value.bytes b t
 |.D7 b,u=>∃t,u=Value.float b t
 |.ref a,u=>u=Value.ref a
 |.ty n,u=>u=Value.type n
abbrev Vals:List V->List Value->Prop:=Paired RelV
def Vals.length(r:Vals xs us):xs.length=us.length:=Paired.length r
theorem Vals.get:∀{xs:List V} {us:List Value} {i:Nat} {x:V},Vals xs us->xs[i]?=some x->∃u,us[i]?=some u/\RelV x u
 |_,_,_,_,.nil,e=>by simp at e
 |_,_,0,_,.cons r _,e=>by simp at e;subst e;exact⟨_,rfl,r⟩
 |_,_,i+1,x,.cons _ t,e=>by obtain⟨u,h1,h2⟩:=Vals.get (i:=i) (x:=x) t (by simpa using e);exact⟨u,by simpa using h1,h2⟩
theorem Vals.set(r:RelV x u):∀{xs:List V} {us:List Value} (i:Nat),Vals xs us->Vals (xs.set i x) (us.set i u)
 |_,_,_,.nil=>.nil
 |_,_,0,.cons _ t=>.cons r t
 |_,_,i+1,.cons q t=>.cons q (Vals.set r i t)
theorem Vals.append:∀{xs ys:List V} {us ws:List Value},Vals xs us->Vals ys ws->Vals (xs++ys) (us++ws)
 |_,_,_,_,.nil,s=>s
 |_,_,_,_,.cons r t,s=>.cons r (Vals.append t s)
theorem Vals.take:∀{xs:List V} {us:List Value} (n:Nat),Vals xs us->Vals (xs.take n) (us.take n)
 |_,_,0,_=>.nil
 |_,_,_+1,.nil=>.nil
 |_,_,n+1,.cons r t=>.cons r (Vals.take n t)
theorem Vals.drop:∀{xs:List V} {us:List Value} (n:Nat),Vals xs us->Vals (xs.drop n) (us.drop n)
 |_,_,0,r=>r
 |_,_,_+1,.nil=>.nil
 |_,_,n+1,.cons _ t=>Vals.drop n t
def jh:Option V->Option Value->Prop
 |some v,some u=>RelV v u
 |none,none=>True
 |_,_=>False
def KV{κ:Type}:List (κ×V)->List (κ×Value)->Prop:=Paired λ(p:κ×V) (q:κ×Value)=>p.1=q.1/\RelV p.2 q.2
def kV:Key->V
 |.inl i=>.int i
 |.inr x=>.str x
inductive HO where
  |lst (xs:List V)
  |tup (xs:List V)
  |dK (kvs:List (Key×V)) | dT (kvs:List (List Key×V))
  |set (S:Int->Bool) (n:Nat)
  |ins (C dx:Addr) (fs:List (Str×V))
  |own (x:Addr)
  |xd (fs:List (Str×V))
  |met (f x:Addr)
  |Wk (lo hi:Int)
  |nq (o:Obj) (u:HO)
  |Nd (ps:Array Value)
  |ext (φ:Heap->Prop)
abbrev Hp:=Addr->Option HO
def upd(H:Hp)(a:Addr)(o:HO):Hp:=λb=>if b=a then some o else H b
def af:upd H a o a=some o:=by unfold upd;rw[if_pos rfl]
def aj(h:b≠a):upd H a o b=H b:=by unfold upd;rw[if_neg h]
def eO:upd (upd H a o) a u=upd H a u:=by funext b;unfold upd;split <;> rfl
def cy{H:Hp}(h:H a=some o)(h':H b=some u)(d:o≠u):a≠b:=by intro e;subst e;rw[h] at h';exact d (X8 h')
def av{H:Hp}(h:H a=some o)(h':H b=none):a≠b:=by intro e;subst e;rw[h] at h';cases h'
section
variable (P:Program)(w:World)
def b9(H:Hp)(h:Heap)(a:Addr):HO->Prop
 |.lst xs=>xs.length<=sizeLine/\∃(its:List Value) (n:Nat),Vals xs its/\h.get? a=some { cls:=.type "list",data:=.seq its.toArray n }
 |.tup xs=>xs.length<=sizeLine/\∃its:List Value,Vals xs its/\IsTup h a its.toArray
 |.dK kvs=>kvs.length<=sizeLine/\(a == sysModules)=false/\∃vs,KV kvs vs/\h.DictOf (cu P w) a vs
 |.dT kvs=>kvs.length<=sizeLine/\(a == sysModules)=false/\∃xs:List (List Key×Addr×Value),
   Paired (λ(p:List Key×V) (q:List Key×Addr×Value)=>p.1=q.1/\H q.2.1=some (.tup (p.1.map kV))/\RelV p.2 q.2.2) kvs xs /\
   ∃o es ep,h.get? a=some o/\o.ExactDict/\o.data = .dict es ep/\es.toList=xs.map (entryOfKey (tupleKind (cu P w)))/\(xs.map (·.1)).Nodup
 |.set S n=>h.SetOf (intKind P w) a S n
 |.ins C dx fs=>H dx=some (.own a)/\fs.length<=1000/\dx≠a/\h.get? a=some (PySem.W.instObj C dx) /\
   ∃mA,h.Ns1 dx mA/\(∀f,jh (fs.lookup f) (mA f))/\PySem.Within mA (fs.map (·.1))
 |.own _=>∃o,h.get? a=some o
 |.xd fs=>∃mA,h.Ns1 a mA/\∀f,jh (fs.lookup f) (mA f)
 |.Wk lo hi=>∃t u v,h.get? a=some { cls:=.type "range",data:=.fields #[.int lo t,.int hi u,.int 1 v] }
 |.nq o u=>h.get? a=some o/\b9 H h a u
 |.Nd ps=>h.get? a=some { cls:=.none,data:=.fields ps }
 |.met f x=>h.get? a=some (PySem.W.methodObj (.ref f) (.ref x))
 |.ext φ=>φ h/\(∃o,h.get? a=some o)/\∀h1 h2:Heap,φ h1->(∀o,h1.get? a=some o->h2.get? a=some o)->φ h2
def kc(H:Hp)(h:Heap):Prop:=∀a o,H a=some o->b9 P w H h a o
end
section
variable {P:Program}{w:World}{H H':Hp}{h h':Heap}{a:Addr}{o:HO}
def b9.lt(x:b9 P w H h a o):a<h.objs.size:=by
 cases o with
 |lst xs=>obtain⟨_,_,_,_,e⟩:=x;exact B2 e
 |tup xs=>obtain⟨_,_,_,p⟩:=x;exact p.lt
 |dK kvs=>obtain⟨_,_,_,_,o,_,_,e,_⟩:=x;exact B2 e
 |dT kvs=>obtain⟨_,_,_,_,o,_,_,e,_⟩:=x;exact B2 e
 |set S n=>obtain⟨o,_,_,_,e,_⟩:=x;exact B2 e
 |ins C dx fs=>obtain⟨_,_,_,e,_⟩:=x;exact B2 e
 |own y=>obtain⟨_,e⟩:=x;exact B2 e
 |xd fs=>obtain⟨_,⟨_,_,_,e,_⟩,_⟩:=x;exact B2 e
 |Wk lo hi=>obtain⟨_,_,_,e⟩:=x;exact B2 e
 |nq ob u=>obtain⟨e,_⟩:=x;exact B2 e
 |Nd ps=>exact B2 (show h.get? a=some _ from x)
 |met f y=>exact B2 (show h.get? a=some _ from x)
 |ext φ=>obtain⟨_,⟨_,e⟩,_⟩:=x;exact B2 e
theorem Paired.Tw{α β:Type}{F G:α->β->Prop}:∀{l₁:List α} {l₂:List β},Paired F l₁ l₂->(∀a b,F a b->G a b)->Paired G l₁ l₂
 |_,_,.nil,_=>.nil
 |_,_,.cons r t,f=>.cons (f _ _ r) (Paired.Tw t f)
def b9.stay(x:b9 P w H h a o)(k:∀b u,(b=a∨H b=some (.own a))->h.get? b=some u->h'.get? b=some u)
  (ho:∀b,H b=some (.own a)->H' b=some (.own a)) (ht:∀b xs,H b=some (.tup xs)->H' b=some (.tup xs)):b9 P w H' h' a o:=by
 induction o with
 |lst xs=>obtain⟨z,its,n,r,e⟩:=x;exact⟨z,its,n,r,k _ _ (.inl rfl) e⟩
 |tup xs=>obtain⟨z,its,r,ob,e,c⟩:=x;exact⟨z,its,r,ob,k _ _ (.inl rfl) e,c⟩
 |dK kvs=>obtain⟨z,y,vs,r,ob,es,ep,e,c⟩:=x;exact⟨z,y,vs,r,ob,es,ep,k _ _ (.inl rfl) e,c⟩
 |dT kvs =>
  obtain⟨z,y,xs,r,ob,es,ep,e,c⟩:=x;exact⟨z,y,xs,Paired.Tw r λp q z=>⟨z.1,ht _ _ z.2.1,z.2.2⟩,ob,es,ep,k _ _ (.inl rfl) e,c⟩
 |set S n=>obtain⟨ob,es,ep,t,e,c⟩:=x;exact⟨ob,es,ep,t,k _ _ (.inl rfl) e,c⟩
 |ins C dx fs =>
  obtain⟨d,z,ne,e,mA,⟨od,es,ep,e2,c⟩,r⟩:=x;exact⟨ho _ d,z,ne,k _ _ (.inl rfl) e,mA,⟨od,es,ep,k _ _ (.inr d) e2,c⟩,r⟩
 |own y=>obtain⟨ob,e⟩:=x;exact⟨ob,k _ _ (.inl rfl) e⟩
 |xd fs=>obtain⟨mA,⟨od,es,ep,e,c⟩,r⟩:=x;exact⟨mA,⟨od,es,ep,k _ _ (.inl rfl) e,c⟩,r⟩
 |Wk lo hi=>obtain⟨t,u,v,e⟩:=x;exact⟨t,u,v,k _ _ (.inl rfl) e⟩
 |nq ob u ih=>obtain⟨e,q⟩:=x;exact⟨k _ _ (.inl rfl) e,ih q⟩
 |Nd ps =>
  have e:h.get? a=some { cls:=.none,data:=.fields ps }:=x;show h'.get? a=some { cls:=.none,data:=.fields ps };exact k a _ (.inl rfl) e
 |met f y =>
  have e:h.get? a=some (PySem.W.methodObj (.ref f) (.ref y)):=x;show h'.get? a=some (PySem.W.methodObj (.ref f) (.ref y));exact k a _ (.inl rfl) e
 |ext φ=>obtain⟨p,⟨o,e⟩,st⟩:=x;exact⟨st _ _ p λo q=>k _ _ (.inl rfl) q,⟨o,k _ _ (.inl rfl) e⟩,st⟩
def kc.lt(x:kc P w H h)(e:H a=some o):a<h.objs.size:=(x a o e).lt
def kc.fresh(x:kc P w H h)(e:h.objs.size<=a):H a=none:=by
 cases q:H a with
 |none=>rfl
 |some u=>exact absurd (Z4 (x.lt q) e) (ad6 _)
def kc.kept(x:kc P w H h)(k:∀b u,h.get? b=some u->h'.get? b=some u):kc P w H h':=λa o e =>
 (x a o e).stay (λb u _ q=>k b u q) (λ_ q=>q) λ_ _ q=>q
def kc.laid(x:kc P w H h)(k:∀b u,h.get? b=some u->h'.get? b=some u)(hp:h.objs.size<=a)(new:b9 P w (upd H a o) h' a o):kc P w (upd H a o) h':=λb u e=>by
 have hn:=x.fresh hp;by_cases hb:b=a
 ·subst hb;rw[af] at e;cases e;exact new
 ·rw[aj hb] at e;exact(x b u e).stay (λc v _ q=>k c v q) (λc q=>by rw[aj (av q hn)];exact q) λc xs q=>by rw[aj (av q hn)];exact q
end
def Rd(H:Hp)(a:Addr)(u:HO):Prop:=H a=some u∨∃o,H a=some (.nq o u)
def Rd.ok(r:Rd H a u)(x:kc P w H h):b9 P w H h a u:=by
 rcases r with r|⟨o,r⟩
 ·exact x a u r
 ·obtain⟨_,q⟩:=x a _ r;exact q
def Vn:Option HO->Prop
 |some (.lst _)=>True
 |some (.dK _)=>True
 |some (.dT _)=>True
 |some (.set _ _)=>True
 |some (.ins _ _ _)=>True
 |some (.ext _)=>True
 |_=>False
section
variable {P:Program}{w:World}{H:Hp}{h h':Heap}{x e:Addr}{o':HO}
def kc.write(ok:kc P w H h)(mu:Vn (H x))(he:e=x∨H e=some (.own x))(k:∀b u,b≠e->h.get? b=some u->h'.get? b=some u)(heo:∃u,h'.get? e=some u)
  (new:b9 P w (upd H x o') h' x o'):kc P w (upd H x o') h':=λb u q=>by
 have nown:∀c y,H c=some (.own y)->c≠x:=λc y r z=>by subst z;rw[r] at mu;exact mu
 have ntup:∀c xs,H c=some (.tup xs)->c≠x:=λc xs r z=>by subst z;rw[r] at mu;exact mu
 by_cases hb:b=x
 ·subst hb;rw[af] at q;cases q;exact new
 ·rw[aj hb] at q;by_cases hbe:b=e
  ·have q':H b=some (.own x):=by
    rcases he with z|z
    ·exact absurd (hbe.trans z) hb
    ·rw[hbe];exact z
   rw[q] at q';cases q';obtain⟨v,hv⟩:=heo;exact⟨v,by rw[hbe];exact hv⟩
  ·refine(ok b u q).stay (λc v hc r=>k c v ?_ r) (λc r=>by rw[aj (nown c b r)];exact r) λc xs r=>by rw[aj (ntup c xs r)];exact r
   rcases hc with rfl|hc
   ·exact hbe
   ·rintro rfl;rcases he with z|z
    ·exact nown c b hc z
    ·rw[hc] at z;cases z;exact hb rfl
end
structure Un(fs ex:List Addr)(H H':Hp)(h h':Heap):Prop where
 keep:∀b o,h.get? b=some o->H b=none->b∉fs->b∉ex->h'.get? b=some o
 slot:∀b o,h.get? b=some o->H b=none->b∈fs->b∉ex->∃sl,h'.get? b=some { o with slots:=sl }
 free:∀b o,h.get? b=some o->H b=none->b∉ex->H' b=none
 there:∀b o,h.get? b=some o->b∉ex->∃o',h'.get? b=some o'
 tups:∀b xs,H b=some (.tup xs)->H' b=some (.tup xs)
 oH:∀b o u,H b=some (.nq o u)->H' b=some (.nq o u)
 qW:∀b ps,H b=some (.Nd ps)->∃more,H' b=some (.Nd (ps++more))
section
variable {fs fs' ex ex':List Addr}{H H1 H2:Hp}{h h1 h2 h':Heap}{a x e:Addr}{o:HO}
def Un.any(u:Un fs ex H H1 h h1)(q:h.get? b=some ob)(n:H b=none)(hx:b∉ex):∃sl,h1.get? b=some { ob with slots:=sl }:=by
 by_cases hb:b∈fs
 ·exact u.slot b ob q n hb hx
 ·exact⟨ob.slots,u.keep b ob q n hb hx⟩
def Un.kept(k:∀b u,h.get? b=some u->h'.get? b=some u):Un fs ex H H h h' :=
 ⟨λb ob q _ _ _=>k b ob q,λb ob q _ _ _=>⟨ob.slots,k b ob q⟩,λ_ _ _ n _=>n,λb ob q _=>⟨ob,k b ob q⟩,λ_ _ q=>q,λ_ _ _ q=>q,λ_ ps q=>⟨#[],by rw[q];simp⟩⟩
def Un.refl:Un fs ex H H h h:=Un.kept λ_ _ q=>q
def Un.laid(k:∀b u,h.get? b=some u->h'.get? b=some u)(hp:h.objs.size<=a)(hn:H a=none):Un fs ex H (upd H a o) h h' where
 keep:=λb u q _ _ _=>k b u q
 slot:=λb u q _ _ _=>⟨u.slots,k b u q⟩
 free:=λb u q n _=>by rw[aj (T0 (Z4 (B2 q) hp))];exact n
 there:=λb u q _=>⟨u,k b u q⟩
 tups:=λb xs q=>by rw[aj (av q hn)];exact q
 oH:=λb u xs q=>by rw[aj (av q hn)];exact q
 qW:=λb ps q=>⟨#[],by rw[aj (av q hn),q];simp⟩
def Un.write(mu:Vn (H x))(he:e=x∨H e=some (.own x))(k:∀b u,b≠e->h.get? b=some u->h'.get? b=some u)(heo:∃u,h'.get? e=some u):Un fs ex H (upd H x o) h h':=by
 have hx:∀b,H b=none->b≠x:=λb n z=>by subst z;rw[n] at mu;exact mu
 have hb:∀b,H b=none->b≠e:=λb n z=>by
  subst z;rcases he with r|r
  ·exact hx b n r
  ·rw[n] at r;cases r
 have hm:∀b u,H b=some u -> ¬ Vn (some u)->b≠x:=λb u q nm z=>by subst z;rw[q] at mu;exact nm mu
 refine⟨λb u q n _ _=>k b u (hb b n) q,λb u q n _ _=>⟨u.slots,k b u (hb b n) q⟩,λb u q n _=>by rw[aj (hx b n)];exact n,λb u q _=>?_,
  λb xs q=>by rw[aj (hm b _ q λz=>z)];exact q,λb u xs q=>by rw[aj (hm b _ q λz=>z)];exact q,λb ps q=>⟨#[],by rw[aj (hm b _ q λz=>z),q];simp⟩⟩
 by_cases hbe:b=e
 ·subst hbe;exact heo
 ·exact⟨u,k b u hbe q⟩
end
def Wm(h:Heap)(H:Hp):List Addr:=(List.range h.objs.size).filter λa=>(H a).isSome
def wF(h:Heap)(H:Hp):Heap:=PySem.W.hideAll h (Wm h H)
def DN(h:Heap)(H:Hp):(wF h H).objs.size=h.objs.size:=PySem.W.hideAll_size _ _
def ED(e:h.get? b=some o)(n:H b=none):(wF h H).get? b=some o :=
 PySem.W.hideAll_get _ e λhm=>by have q:(H b).isSome=true:=(List.mem_filter.mp hm).2;rw[n] at q;simp at q
def Lb(e:(wF h H).get? b=some o):h.get? b=some o/\H b=none:=by
 have e':h.get? b=some o:=PySem.W.of_hideAll (Wm h H) e;refine⟨e',?_⟩;cases q:H b with
 |none=>rfl
 |some x =>
  have hm:b∈Wm h H:=List.mem_filter.mpr ⟨List.mem_range.mpr (B2 e'),by simp[q]⟩;have z:(wF h H).get? b=none:=PySem.W.hideAll_none (Wm h H) hm;rw[z] at e;cases e
def oR(g h:Heap)(L:Addr):List (Addr×Obj):=(List.range h.objs.size).filterMap λa=>if a=L∨(g.get? a).isSome=true then none else (h.get? a).map λo=>(a,o)
def gE(h1:a≠L)(h2:g.get? a=none)(h3:h.get? a=some o):(a,o)∈oR g h L :=
 ak2.mpr ⟨a,List.mem_range.mpr (B2 h3),by simp[h1,h2,h3]⟩
def tY(hp:p∈oR g h L):p.1≠L/\g.get? p.1=none/\h.get? p.1=some p.2:=by
 obtain⟨b,_,e⟩:=ak2.mp hp;split at e
 ·cases e
 ·rename_i hn;cases q:h.get? b with
  |none=>rw[q] at e;simp at e
  |some u =>
   rw[q] at e;simp only[ad7,af0] at e;subst e;refine⟨λz=>hn (.inl z),?_,q⟩;show g.get? b=none;cases r:g.get? b with
   |none=>rfl
   |some v=>exact(hn (.inr (by simp[r]))).elim
def yx:News g L h (oR g h L):=λp hp=>let ⟨a,b,c⟩:=tY hp;⟨c,a,b⟩
structure Mod(K:PySem.W.Frag)(mg:Str->Option Value)(base:Heap):Prop where
 rK:K.In base
 glob:base.Ns mainGlobals mg
 blt:∃mb,base.Ns builtinsNs mb/\∀x:Str,x ≠ "__name__" -> mb x=bootBuiltins x
 nolimit:base.NoLimit
structure Cx where
 prog:Program
 w:World
 K:PySem.W.Frag
 mg:Str->Option Value
 base:Heap
 A:Around
 N:List Str
 s₀:Shared
 H₀:Hp
 env:Env
 outer:List Env
 stack:List Env
 ex:List Addr
 fn:Str->Bool
 calm:Bool
 pn:List (Addr×Obj)
 xe:Value->Shared->Prop
def frs(l:List Env):List Addr:=l.filterMap (·.frame)
abbrev Cx.fs(X:Cx):List Addr:=frs X.outer
def Vq(sc:Scope)(x:Str):Prop:=sc.names.lookup x=some .local∨sc.names.lookup x=some .cell∨sc.names.lookup x=some .free
def Loc(sc:Scope)(x:Str):Prop:=sc.names.lookup x=some .local∨sc.names.lookup x=some .cell
def Look(env:Env)(h:Heap)(m:Str->Option Value)(x:Str)(u:Value):Prop :=
 (env.kindOf x=some .local/\m x=some u)∨((env.kindOf x=some .cell∨env.kindOf x=some .free)/\∃c,env.cells.lookup x=some c/\h.IsCell c (some u))
structure Cx.Ok(X:Cx):Prop where
 mod:Mod X.K X.mg X.base
 kind:X.env.scope.kind = .function
 glob:X.env.globals=mainGlobals
 blt:X.env.builtins=builtinsNs
 above:X.s₀.heap.objs.size<=X.env.locals
 inj:∀x y c,X.env.cells.lookup x=some c->X.env.cells.lookup y=some c->x=y
 has:∀x,(X.env.kindOf x=some .cell∨X.env.kindOf x=some .free)->∃c,X.env.cells.lookup x=some c
 TQ:∀x c,X.fn x=true->X.env.cells.lookup x=some c->X.s₀.heap.objs.size<=c
 hd:X.calm=true->X.A.handled=none
 frames:X.A.frames=some X.stack
 stk:X.stack=X.outer∨(X.stack=X.env::X.outer/\X.env.frame=some X.env.locals)
 Ws:∀b∈X.ex,b≠X.env.locals/\∀x c,X.env.cells.lookup x=some c->c≠b
 bs:∀b o,X.base.get? b=some o->X.s₀.heap.get? b=some o/\X.H₀ b=none
 Kq:X.base.objs.size<=X.s₀.heap.objs.size
 CI:∀b o,X.base.get? b=some o->b∉X.ex
 Ef:∀b∈X.ex,b∉X.fs
 qt:X.s₀.heap.FunFrames X.base X.outer
 Pc:∀b∈X.fs,X.H₀ b=none
structure Inv(X:Cx)(pins:List (Addr×Obj))(Z:List (Option V))(H:Hp)(s:Shared):Prop where
 ok:X.Ok
 os:s.os=X.s₀.os
 bare:AllBare s.gens
 base:Un X.fs X.ex X.H₀ H X.s₀.heap s.heap
 loc:∃m,s.heap.Ns X.env.locals m/\∀(i:Nat) (x:Str) (v:V),X.N[i]?=some x->Z[i]?=some (some v)->Vq X.env.scope x->∃u,RelV v u/\Look X.env s.heap m x u
 cell:∀x c,X.env.cells.lookup x=some c->∃v,s.heap.IsCell c v
 free:H X.env.locals=none
 iQ:∀x c,X.env.cells.lookup x=some c->H c=none
 pin:∀p∈X.pn++pins,s.heap.get? p.1=some p.2/\H p.1=none/\p.1≠X.env.locals/\p.1∉X.fs/\∀v,p.2.data ≠ .cell v
 hok:kc X.prog X.w H s.heap
 len:Z.length=X.N.length
section
variable {X:Cx}{pins:List (Addr×Obj)}{Z:List (Option V)}{H H':Hp}{s:Shared}{h':Heap}
def Cx.Ok.Xk(ok:X.Ok)(e:X.base.get? b=some o):b∉X.fs:=λhb=>by have:=(ok.qt.mem hb).1;rw[e] at this;cases this
def Inv.bs(I:Inv X pins Z H s):∀b o,X.base.get? b=some o->s.heap.get? b=some o/\H b=none:=λb o e =>
 ⟨I.base.keep b o (I.ok.bs b o e).1 (I.ok.bs b o e).2 (I.ok.Xk e) (I.ok.CI b o e),I.base.free b o (I.ok.bs b o e).1 (I.ok.bs b o e).2 (I.ok.CI b o e)⟩
def Inv.bk(I:Inv X pins Z H s):∀b o,X.base.get? b=some o->s.heap.get? b=some o:=λb o e=>(I.bs b o e).1
def Inv.mod(I:Inv X pins Z H s):Mod X.K X.mg X.base:=I.ok.mod
def Inv.iU(I:Inv X pins Z H s):X.K.In s.heap:=I.ok.mod.rK.keeps I.bk
def Inv.lt(I:Inv X pins Z H s):X.env.locals<s.heap.objs.size:=by obtain⟨_,hn,_⟩:=I.loc;exact hn.lt
def Inv.sz(I:Inv X pins Z H s):X.s₀.heap.objs.size<=s.heap.objs.size:=X6 I.ok.above (Nat.le_of_lt I.lt)
def Inv.Vd(I:Inv X pins Z H s)(h:s.heap.objs.size<=a):a∉X.fs:=λhb=>by obtain⟨_,o,ho,_⟩:=I.ok.qt.mem hb;exact absurd (Z4 (B2 ho) (X6 I.sz h)) (ad6 _)
def Inv.E4(I:Inv X pins Z H s):∀x c,X.env.cells.lookup x=some c->c≠X.env.locals:=λx c e z=>by obtain⟨v,o,ho,hd⟩:=I.cell x c e;obtain⟨m,⟨o',es,ep,ho',hd',_⟩,_⟩:=I.loc;rw[z,ho'] at ho;cases ho;rw[hd'] at hd;cases hd
def Inv.qt(I:Inv X pins Z H s):s.heap.FunFrames X.base X.outer:=by
 have all:∀(l:List Env),(∀b∈frs l,b∈X.fs)->X.s₀.heap.FunFrames X.base l->s.heap.FunFrames X.base l:=by
  intro l;induction l with
  |nil=>intro _ _;trivial
  |cons env r ih =>
   intro hs hl;obtain⟨hk,⟨L,o,hf,hn,ho,hd⟩,hr⟩:=hl;have hL:L∈X.fs:=hs L (by unfold frs;rw[List.filterMap_cons,hf];exact X9);obtain⟨sl,e⟩:=I.base.slot L o ho (I.ok.Pc L hL) hL λz=>I.ok.Ef L z hL;exact⟨hk,⟨L,_,hf,hn,e,hd⟩,ih (λb hb=>hs b (by unfold frs;rw[List.filterMap_cons,hf];exact D1 _ hb)) hr⟩
 exact all X.outer (λ_ hb=>hb) I.ok.qt
def Inv.stack(I:Inv X pins Z H s):s.heap.FunFrames X.base X.stack:=by
 rcases I.ok.stk with e|⟨e,hf⟩
 ·rw[e];exact I.qt
 ·rw[e];obtain⟨m,hn,_⟩:=I.loc;refine .cons (by rw[I.ok.kind];decide) hf hn ?_ I.qt;exact ae8 (X6 I.ok.Kq I.ok.above)
def Inv.pG(I:Inv X pins Z H s):∀b∈frs X.stack,b∈X.env.locals::X.fs:=λb hb=>by
 rcases I.ok.stk with e|⟨e,hf⟩
 ·rw[e] at hb;exact D1 _ hb
 ·rw[e] at hb;unfold frs at hb;rw[List.filterMap_cons,hf] at hb;exact hb
def Inv.rE(I:Inv X pins Z H s):∀b∈frs X.stack,H b=none:=λb hb=>by
 rcases y0.mp (I.pG b hb) with e|hb
 ·rw[e];exact I.free
 ·obtain⟨_,o,ho,_⟩:=I.ok.qt.mem hb;exact I.base.free b o ho (I.ok.Pc b hb) λz=>I.ok.Ef b z hb
def Inv.step{ch:List Addr}(I:Inv X pins Z H s)
  (hch:∀b∈ch,(b∈X.ex∨X.s₀.heap.objs.size<=b)/\b≠X.env.locals/\(∀x c,X.env.cells.lookup x=some c->c≠b)/\∀p∈X.pn++pins,p.1≠b)
  (keep:∀b o,b≠X.env.locals->b∉X.fs->b∉ch->s.heap.get? b=some o->H b=none->h'.get? b=some o)
  (slot:∀b o,b≠X.env.locals->b∈X.fs->b∉ch->s.heap.get? b=some o->H b=none->∃sl,h'.get? b=some { o with slots:=sl }) (free:∀b o,b∉ch->s.heap.get? b=some o->H b=none->H' b=none)
  (there:∀b o,b∉ch->s.heap.get? b=some o->∃o',h'.get? b=some o')
  (tups:∀b xs,H b=some (.tup xs)->H' b=some (.tup xs)) (oH:∀b o u,H b=some (.nq o u)->H' b=some (.nq o u)) (qW:∀b ps,H b=some (.Nd ps)->∃more,H' b=some (.Nd (ps++more)))
  (ns:∀m,s.heap.Ns X.env.locals m->h'.Ns X.env.locals m) (hok:kc X.prog X.w H' h') (hg:AllBare g') :
  Inv X pins Z H' { s with heap:=h',gens:=g',drawn:=d',toks:=t' }:=by
 have neL:∀b o,X.s₀.heap.get? b=some o->b≠X.env.locals:=λb o e=>T0 (Z4 (B2 e) I.ok.above);have neC:∀b o,X.s₀.heap.get? b=some o->b∉X.ex->b∉ch:=λb o e hx hb=>by
  rcases (hch b hb).1 with z|z
  ·exact hx z
  ·exact absurd (Z4 (B2 e) z) (ad6 _)
 have cellK:∀x c,X.env.cells.lookup x=some c->∀v,s.heap.IsCell c v->h'.IsCell c v:=λx c e v ⟨o,ho,hd⟩=>by
  have nch:c∉ch:=λz=>(hch c z).2.2.1 x c e rfl;by_cases hc:c∈X.fs
  ·obtain⟨sl,q⟩:=slot c o (I.E4 x c e) hc nch ho (I.iQ x c e);exact⟨_,q,hd⟩
  ·exact⟨o,keep c o (I.E4 x c e) hc nch ho (I.iQ x c e),hd⟩
 refine⟨I.ok,I.os,hg,⟨λb o e n hb hx=>?_,λb o e n hb hx=>?_,λb o e n hx=>?_,λb o e hx=>?_,λb xs e=>tups b xs (I.base.tups b xs e),λb o xs e=>oH b o xs (I.base.oH b o xs e),λb ps e=>?_⟩,?_,λx c e=>?_,?_,λx c e=>?_,λp hp=>?_,hok,I.len⟩
 ·exact keep b o (neL b o e) hb (neC b o e hx) (I.base.keep b o e n hb hx) (I.base.free b o e n hx)
 ·obtain⟨sl,e1⟩:=I.base.slot b o e n hb hx;obtain⟨sl',e2⟩:=slot b _ (neL b o e) hb (neC b o e hx) e1 (I.base.free b o e n hx);exact⟨sl',e2⟩
 ·obtain⟨o',e1⟩:=I.base.there b o e hx;exact free b o' (neC b o e hx) e1 (I.base.free b o e n hx)
 ·obtain⟨o',e1⟩:=I.base.there b o e hx;exact there b o' (neC b o e hx) e1
 ·obtain⟨m1,e1⟩:=I.base.qW b ps e;obtain⟨m2,e2⟩:=qW b _ e1;exact⟨m1++m2,by rw[e2,Array.append_assoc]⟩
 ·obtain⟨m,hn,hl⟩:=I.loc;refine⟨m,ns m hn,λi x v e1 e2 e3=>?_⟩;obtain⟨u,r,l⟩:=hl i x v e1 e2 e3;refine⟨u,r,?_⟩;rcases l with l|⟨k,c,e,z⟩
  ·exact .inl l
  ·exact .inr ⟨k,c,e,cellK x c e _ z⟩
 ·obtain⟨v,z⟩:=I.cell x c e;exact⟨v,cellK x c e v z⟩
 ·obtain⟨m,⟨o,_,_,ho,_⟩,_⟩:=I.loc;exact free _ o (λz=>(hch _ z).2.1 rfl) ho I.free
 ·obtain⟨v,o,ho,hd⟩:=I.cell x c e;exact free c o (λz=>(hch c z).2.2.1 x c e rfl) ho (I.iQ x c e)
 ·obtain⟨e,n,ne,nf,d⟩:=I.pin p hp;have nch:p.1∉ch:=λz=>(hch p.1 z).2.2.2 p hp rfl;exact⟨keep p.1 p.2 ne nf nch e n,free p.1 p.2 nch e n,ne,nf,d⟩
def Inv.un(I:Inv X pins Z H s)(u:Un X.fs [] H H' s.heap h')(hok:kc X.prog X.w H' h'):Inv X pins Z H' { s with heap:=h',toks:=t' }:=by
 obtain⟨m,⟨o,es,ep,ho,r⟩,_⟩:=id I.loc;obtain⟨sl,hL⟩:=u.any ho I.free (by simp);exact I.step (g':=s.gens) (d':=s.drawn) (ch:=[]) (λ_ z=>nomatch z) (λb o _ hb _ e n=>u.keep b o e n hb (by simp)) (λb o _ hb _ e n=>u.slot b o e n hb (by simp)) (λb o _ e n=>u.free b o e n (by simp)) (λb o _ e=>u.there b o e (by simp)) u.tups u.oH u.qW (λm' hm=>by obtain⟨o',es',ep',ho',r'⟩:=hm;rw[ho] at ho';cases ho';exact⟨_,es',ep',hL,r'⟩) hok I.bare
def Inv.call(I:Inv X pins Z H s)(u:Un (frs X.stack) ch H H' s.heap h')(hok:kc X.prog X.w H' h')(hg:AllBare g')
  (hch:∀b∈ch,(b∈X.ex∨X.s₀.heap.objs.size<=b)/\b≠X.env.locals/\(∀x c,X.env.cells.lookup x=some c->c≠b)/\∀p∈X.pn++pins,p.1≠b) :
  Inv X pins Z H' { s with heap:=h',gens:=g',drawn:=d',toks:=t' }:=by
 obtain⟨m,⟨o,es,ep,ho,r⟩,_⟩:=id I.loc;obtain⟨sl,hL⟩:=u.any ho I.free λz=>(hch _ z).2.1 rfl;exact I.step (ch:=ch) hch (λb o hL hb hc e n=>u.keep b o e n (λz=>(y0.mp (I.pG b z)).elim hL hb) hc) (λb o _ _ hc e n=>u.any e n hc) (λb o hc e n=>u.free b o e n hc) (λb o hc e=>u.there b o e hc) u.tups u.oH u.qW (λm' hm=>by obtain⟨o',es',ep',ho',r'⟩:=hm;rw[ho] at ho';cases ho';exact⟨_,es',ep',hL,r'⟩) hok hg
def Inv.turned(I:Inv X pins Z H s)(k:∀b o,b≠it->s.heap.get? b=some o->h'.get? b=some o)(hn:H it=none)(hL:it≠X.env.locals)
  (h1:it∈X.ex∨X.s₀.heap.objs.size<=it) (h2:∀x c,X.env.cells.lookup x=some c->c≠it) (h3:∀p∈X.pn++pins,p.1≠it):Inv X pins Z H { s with heap:=h',toks:=t' }:=by
 have nit:∀b u,H b=some u->b≠it:=λb u e z=>by rw[z,hn] at e;cases e
 refine I.step (g':=s.gens) (d':=s.drawn) (ch:=[it]) (λb hb=>?_) (λb o _ _ hc e _=>k b o (λz=>hc (by simp[z])) e) (λb o _ _ hc e _=>⟨o.slots,k b o (λz=>hc (by simp[z])) e⟩) (λ_ _ _ _ n=>n)
  (λb o hc e=>⟨o,k b o (λz=>hc (by simp[z])) e⟩) (λ_ _ e=>e) (λ_ _ _ e=>e) (λb ps e=>⟨#[],by rw[e];simp⟩) (λm hm=>?_) (λb u e=>?_) I.bare
 ·have e:b=it:=by simpa using hb
  subst e;exact⟨h1,hL,h2,h3⟩
 ·obtain⟨o,es,ep,ho,r⟩:=hm;exact⟨o,es,ep,k _ o (aa3 hL) ho,r⟩
 ·refine(I.hok b u e).stay (λc v hc q=>k c v ?_ q) (λ_ q=>q) λ_ _ q=>q;rcases hc with z|z
  ·rw[z];exact nit b u e
  ·exact nit c _ z
def Inv.tok(I:Inv X pins Z H s)(t:Nat):Inv X pins Z H { s with toks:=t }:=I.un (h':=s.heap) (t':=t) Un.refl I.hok
def Inv.kept(I:Inv X pins Z H s)(k:∀b u,s.heap.get? b=some u->h'.get? b=some u):Inv X pins Z H { s with heap:=h',toks:=t' }:=I.un (Un.kept k) (I.hok.kept k)
def Inv.laid(I:Inv X pins Z H s)(k:∀b u,s.heap.get? b=some u->h'.get? b=some u)(hp:s.heap.objs.size<=a)(new:b9 X.prog X.w (upd H a o) h' a o) :
  Inv X pins Z (upd H a o) { s with heap:=h',toks:=t' }:=I.un (Un.laid k hp (I.hok.fresh hp)) (I.hok.laid k hp new)
def Inv.write(I:Inv X pins Z H s)(mu:Vn (H x))(he:e=x∨H e=some (.own x))(k:∀b u,b≠e->s.heap.get? b=some u->h'.get? b=some u)(heo:∃u,h'.get? e=some u)
  (new:b9 X.prog X.w (upd H x o) h' x o):Inv X pins Z (upd H x o) { s with heap:=h',toks:=t' }:=I.un (Un.write mu he k heo) (I.hok.write mu he k heo new)
def Inv.iK(I:Inv X pins Z H s)(h:∀p∈pins',s.heap.get? p.1=some p.2/\H p.1=none/\p.1≠X.env.locals/\p.1∉X.fs/\∀v,p.2.data ≠ .cell v):Inv X pins' Z H s :=
 ⟨I.ok,I.os,I.bare,I.base,I.loc,I.cell,I.free,I.iQ,λp hp=>(aa1.mp hp).elim (λz=>I.pin p (aa7 _ z)) (h p),I.hok,I.len⟩
def sH{N:List Str}(hN:N.Nodup){i j:Nat}(a:N[i]?=some x)(b:N[j]?=some x):i=j:=by obtain⟨h1,e1⟩:=i5.mp a;obtain⟨h2,e2⟩:=i5.mp b;exact(List.getElem_inj hN).mp (e1.trans e2.symm)
def DH(I:Inv X pins Z H s)(hN:X.N.Nodup)(hi:X.N[i]?=some x)(hx:Loc X.env.scope x)(r:RelV v u)
  (h:∀s',Inv X pins (Z.set i (some v)) H s'->(∃a,Heap.SameBut a s.heap s'.heap/\(a=X.env.locals∨X.env.cells.lookup x=some a))->Q () s') (hf:autoParam (X.fn x=true∨X.env.scope.names.lookup x=some .local) L2.Y0._auto_1):wpAny M A (storeName X.env x u) Q E s:=by
 obtain⟨m,hn,hl⟩:=id I.loc;have hcls:(X.env.scope.kind == .class || (X.env.scope.kind == .module && X.env.locals != X.env.globals))=false:=by rw[I.ok.kind];rfl
 have hiZ:i<Z.length:=by rw[I.len];exact(i5.mp hi).1
 have E4:=I.E4;have tracked:∀{a:Addr} {h':Heap},(∃o,s.heap.get? a=some o/\H a=none)->Heap.SameBut a s.heap h'->kc X.prog X.w H h':=λ{a h'} ha hs b ob e=>by
  obtain⟨_,_,hfree⟩:=ha;refine(I.hok b ob e).stay (λc w' hc q=>(hs.2 c ?_).trans q) (λ_ q=>q) λ_ _ q=>q;rintro rfl;rcases hc with rfl|hc
  ·rw[hfree] at e;cases e
  ·rw[hfree] at hc;cases hc
 rcases hx with hk|hk
 ·refine wpAny_storeName_local hk hn (λh' hn' hs=>?_) hcls;obtain⟨oL,_,_,hoL,_⟩:=id hn;refine h _ ⟨I.ok,I.os,I.bare,⟨λb o e n hb hx=>?_,λb o e n hb hx=>?_,I.base.free,λb o e hx=>?_,I.base.tups,I.base.oH,I.base.qW⟩,⟨_,hn',λj y v' e1 e2 e3=>?_⟩,λy c e=>?_,I.free,I.iQ,λp hp=>?_,tracked ⟨oL,hoL,I.free⟩ hs,by simpa using I.len⟩ ⟨_,hs,.inl rfl⟩
  ·exact(hs.2 b (T0 (Z4 (B2 e) I.ok.above))).trans (I.base.keep b o e n hb hx)
  ·obtain⟨sl,e1⟩:=I.base.slot b o e n hb hx;exact⟨sl,(hs.2 b (T0 (Z4 (B2 e) I.ok.above))).trans e1⟩
  ·obtain⟨o',e1⟩:=I.base.there b o e hx;exact⟨o',(hs.2 b (T0 (Z4 (B2 e) I.ok.above))).trans e1⟩
  ·by_cases hj:j=i
   ·subst hj;rw[hi] at e1;cases e1;rw[List.getElem?_set_self hiZ] at e2;cases e2;exact⟨u,r,.inl ⟨hk,by simp⟩⟩
   ·rw[List.getElem?_set_ne (aa3 hj)] at e2;obtain⟨u',r',q⟩:=hl j y v' e1 e2 e3;refine⟨u',r',?_⟩;rcases q with ⟨k,e⟩|⟨k,c,e,z⟩
    ·refine .inl ⟨k,?_⟩;have:y≠x:=λe=>hj (sH hN e1 (e ▸ hi));simp[this,e]
    ·exact .inr ⟨k,c,e,z.sameBut hs (E4 y c e)⟩
  ·obtain⟨w',z⟩:=I.cell y c e;exact⟨w',z.sameBut hs (E4 y c e)⟩
  ·obtain⟨e,n,ne,nf,d⟩:=I.pin p hp;exact⟨(hs.2 p.1 ne).trans e,n,ne,nf,d⟩
 ·have hfn:X.fn x=true:=by
   rcases hf with z|z
   ·exact z
   ·rw[z] at hk;cases hk
  obtain⟨c,hc⟩:=I.ok.has x (.inl hk);obtain⟨w',z⟩:=I.cell x c hc;refine wpAny_storeName_cell I.ok.kind hk hc z (λh' hc' hs=>?_);obtain⟨oc,hoc,hocd⟩:=id z;refine h { s with heap:=h' } ⟨I.ok,I.os,I.bare,⟨λb o e n hb hx=>?_,λb o e n hb hx=>?_,I.base.free,λb o e hx=>?_,I.base.tups,I.base.oH,I.base.qW⟩,⟨m,hn.sameBut hs (aa3 (E4 x c hc)),λj y v' e1 e2 e3=>?_⟩,λy c' e=>?_,I.free,I.iQ,λp hp=>?_,tracked ⟨oc,hoc,I.iQ x c hc⟩ hs,by simpa using I.len⟩ ⟨c,hs,.inr hc⟩
  ·exact(hs.2 b (T0 (Z4 (B2 e) (I.ok.TQ x c hfn hc)))).trans (I.base.keep b o e n hb hx)
  ·obtain⟨sl,e1⟩:=I.base.slot b o e n hb hx;exact⟨sl,(hs.2 b (T0 (Z4 (B2 e) (I.ok.TQ x c hfn hc)))).trans e1⟩
  ·obtain⟨o',e1⟩:=I.base.there b o e hx;exact⟨o',(hs.2 b (T0 (Z4 (B2 e) (I.ok.TQ x c hfn hc)))).trans e1⟩
  ·by_cases hj:j=i
   ·subst hj;rw[hi] at e1;cases e1;rw[List.getElem?_set_self hiZ] at e2;cases e2;exact⟨u,r,.inr ⟨.inl hk,c,hc,hc'⟩⟩
   ·rw[List.getElem?_set_ne (aa3 hj)] at e2;obtain⟨u',r',q⟩:=hl j y v' e1 e2 e3;refine⟨u',r',?_⟩;rcases q with q|⟨k,c',e,z'⟩
    ·exact .inl q
    ·refine .inr ⟨k,c',e,z'.sameBut hs ?_⟩;rintro rfl;exact hj (sH hN e1 (I.ok.inj _ _ _ e hc ▸ hi))
  ·by_cases hcc:c'=c
   ·subst hcc;exact⟨_,hc'⟩
   ·obtain⟨w2,z2⟩:=I.cell y c' e;exact⟨w2,z2.sameBut hs hcc⟩
  ·obtain⟨e,n,ne,nf,d⟩:=I.pin p hp;refine⟨(hs.2 p.1 ?_).trans e,n,ne,nf,d⟩;intro q;rw[q,hoc] at e;have q':oc=p.2:=X8 e;exact d w' (by rw[← q'];exact hocd)
def oQ(I:Inv X pins Z H s)(hN:X.N.Nodup)(hi:X.N[i]?=some x)(hx:Loc X.env.scope x)(r:RelV v u)
  (h:∀s',Inv X pins (Z.set i (some v)) H s'->Q () s') (hf:autoParam (X.fn x=true∨X.env.scope.names.lookup x=some .local) L2.Y0._auto_1):wpAny M A (storeName X.env x u) Q E s :=
 DH I hN hi hx r (λs' I' _=>h s' I') hf
def Inv.xF(I:Inv X pins Z H s)(ho:s'.os=s.os)(u:Un (frs X.stack) ch H H' s.heap s'.heap)(hok:kc X.prog X.w H' s'.heap)(hg:AllBare s'.gens)
  (hch:∀b∈ch,(b∈X.ex∨X.s₀.heap.objs.size<=b)/\b≠X.env.locals/\(∀x c,X.env.cells.lookup x=some c->c≠b)/\∀p∈X.pn++pins,p.1≠b):Inv X pins Z H' s':=by
 obtain⟨h',g',d',t',o'⟩:=s';have e:o'=s.os:=ho;subst e;exact I.call (g':=g') (t':=t') (d':=d') u hok hg hch
end
abbrev XK:=Value->Option Addr->Hp->Prop
abbrev St:=List (Option V)
abbrev VK:=V->Hp->Prop
abbrev TE:=St->Hp->VK->Prop
abbrev TT:=St->Hp->(Bool->Hp->Prop)->Prop
abbrev TA:=St->Hp->(List V->Hp->Prop)->Prop
structure Ends where
 nx:St->Hp->Prop
 rt:VK
 bk:St->Hp->Prop:=λ_ _=>False
 ct:St->Hp->Prop:=λ_ _=>False
abbrev TS:=Ends->St->Hp->Prop
def EP(X:Cx)(pins:List (Addr×Obj))(Z:St)(Q:VK)(u:Value)(s':Shared):Prop:=∃v H',Inv X pins Z H' s'/\RelV v u/\Q v H'
def TP(X:Cx)(pins:List (Addr×Obj))(Z:St)(Q:Bool->Hp->Prop)(b:Bool)(s':Shared):Prop:=∃H',Inv X pins Z H' s'/\Q b H'
def AP(X:Cx)(pins:List (Addr×Obj))(Z:St)(Q:List V->Hp->Prop)(us:List Value)(s':Shared):Prop:=∃vs H',Inv X pins Z H' s'/\Vals vs us/\Q vs H'
def SP(X:Cx)(pins:List (Addr×Obj))(D:Ends)(f:Flow)(s':Shared):Prop :=
 match f with
 |.next=>∃Z' H',Inv X pins Z' H' s'/\D.nx Z' H'
 |.brk=>∃Z' H',Inv X pins Z' H' s'/\D.bk Z' H'
 |.cont=>∃Z' H',Inv X pins Z' H' s'/\D.ct Z' H'
 |.ret u=>∃v Z' H',Inv X pins Z' H' s'/\RelV v u/\D.rt v H'
def PE(X:Cx)(e:Expr)(t:TE):Prop :=
 ∀(pins:List (Addr×Obj)) (s:Shared) (Z:St) (H:Hp) (Q:VK),Inv X pins Z H s->t Z H Q->wpAny (model X.prog X.w) X.A (eval e X.env) (EP X pins Z Q) X.xe s
def PT(X:Cx)(e:Expr)(t:TT):Prop :=
 ∀(pins:List (Addr×Obj)) (s:Shared) (Z:St) (H:Hp) (Q:Bool->Hp->Prop),Inv X pins Z H s->t Z H Q->wpAny (model X.prog X.w) X.A (isTrue e X.env (eval e X.env)) (TP X pins Z Q) X.xe s
def PW(X:Cx)(e:Expr)(t:TT):Prop :=
 ∀(whole:Sem Value) (pins:List (Addr×Obj)) (s:Shared) (Z:St) (H:Hp) (Q:Bool->Hp->Prop),Inv X pins Z H s->t Z H Q->wpAny (model X.prog X.w) X.A (isTrue e X.env whole) (TP X pins Z Q) X.xe s
def PW.pt(h:PW X e t):PT X e t:=h _
def PA(X:Cx)(es:List Expr)(t:TA):Prop :=
 ∀(pos:Pos) (pins:List (Addr×Obj)) (s:Shared) (Z:St) (H:Hp) (Q:List V->Hp->Prop),Inv X pins Z H s->t Z H Q->wpAny (model X.prog X.w) X.A (spliced (backTo pos (starEach es X.env))) (AP X pins Z Q) X.xe s
def PS(X:Cx)(st:Stmt)(t:TS):Prop :=
 ∀(pins:List (Addr×Obj)) (s:Shared) (Z:St) (H:Hp) (D:Ends),Inv X pins Z H s->t D Z H->wpAny (model X.prog X.w) X.A (exec st X.env) (SP X pins D) X.xe s
def A3(X:Cx)(st:List Stmt)(t:TS):Prop :=
 ∀(pins:List (Addr×Obj)) (s:Shared) (Z:St) (H:Hp) (D:Ends),Inv X pins Z H s->t D Z H->wpAny (model X.prog X.w) X.A (execs st X.env) (SP X pins D) X.xe s
def cM{α:Type}{t:Sem α}{Q Q':α->Shared->Prop}{M:Model}{A:Around}{E:Value->Shared->Prop}{s:Shared}(h:wpAny M A t Q E s)(hQ:∀a s,Q a s->Q' a s):wpAny M A t Q' E s:=ab1 h hQ λ_ _ x=>x
section
variable {X:Cx}
inductive Kh(i:Nat)(Z:St)(H:Hp)(Q:VK):Prop|mk(v)(_:Z[i]?=some (some v))(_:Q v H)
def Kh_i{i:Nat}:Kh i Z H Q↔∃v,Z[i]?=some (some v)/\Q v H:=by constructor <;> intro h <;> obtain⟨v,h0,h1⟩:=h <;> exact⟨v,h0,h1⟩
def tC(v:V):TE:=λ_ H Q=>Q v H
def SG    (hN:X.N[i]?=some x) (hv:Vq X.env.scope x) (hd:autoParam ((x == ("__debug__" : Str))=false) L2.Y1._auto_1) (hcd:autoParam ((x == ("__classdict__" : Str))=false) L2.Y1._auto_1):PE X (.Name x pos) (Kh i):=by
 intro pins s Z H Q I h;obtain⟨v,e,h⟩:=h;obtain⟨m,hn,hl⟩:=I.loc;obtain⟨u,r,l⟩:=hl i x v hN e hv;have fin:EP X pins Z Q u s:=⟨v,H,I,r,h⟩
 rcases l with ⟨hk,hm⟩|⟨hk,c,hc,hcell⟩
 ·exact wpAny_Name (wpAny_loadName_local I.ok.kind hk hn hm fin) hd
 ·rcases hk with hk|hk
  ·exact wpAny_Name (wpAny_loadName_cell I.ok.kind hk hc hcell fin) hd
  ·exact wpAny_Name (wpAny_loadName_free I.ok.kind hk hc hcell fin hcd) hd
def ao:PE X (.Constant (.int i) j pos) (tC (.int i)):=λ_ _ _ H _ I h=>wpAny_Constant_int ⟨.int i,H,I.tok _,⟨_,rfl⟩,h⟩
def pq:PE X (.Constant (.bool b) j pos) (tC (.bl b)):=λ_ _ _ H _ I h=>Constant_bool ⟨.bl b,H,I,rfl,h⟩
def bL:PE X (.Constant .none j pos) (tC .cD):=λ_ _ _ H _ I h=>Constant_none ⟨.cD,H,I,rfl,h⟩
def aA:PE X (.Constant (.str x) j pos) (tC (.str x)):=λ_ _ _ H _ I h=>aj8 ⟨.str x,H,I.tok _,⟨_,rfl⟩,h⟩
def Gl(X:Cx)(x:Str):Prop:=X.env.kindOf x=some .globalImplicit
def iZ(I:Inv X pins Z H s)(hg:Gl X x)(hm:X.mg x=some u)(h:Q u s)
  (hd:autoParam ((x == ("__debug__" : Str))=false) L2.Y1._auto_1):wpAny (model X.prog X.w) X.A (eval (.Name x pos) X.env) Q E s :=
 Calls.Name_function_global I.ok.kind hg (Calls.loadGlobal_global (by rw[I.ok.glob];exact I.mod.glob.keeps I.bk) hm h) hd
def mh(I:Inv X pins Z H s)(hg:Gl X x)(hm:X.mg x=none)(hv:bootBuiltins x=some u)(h:Q u s)
  (hn:autoParam (x ≠ "__name__") L2.Y1._auto_1) (hd:autoParam ((x == ("__debug__" : Str))=false) L2.Y1._auto_1):wpAny (model X.prog X.w) X.A (eval (.Name x pos) X.env) Q E s:=by
 obtain⟨mb,h1,h2⟩:=I.mod.blt;exact Calls.Name_function_global I.ok.kind hg (Calls.loadGlobal_builtin (by rw[I.ok.glob];exact I.mod.glob.keeps I.bk) hm (by rw[I.ok.blt];exact h1.keeps I.bk) ((h2 x hn).trans hv) h) hd
def gj     (hg:Gl X x) (hm:X.mg x=some u) (r:RelV v u) (hd:autoParam ((x == ("__debug__" : Str))=false) L2.Y1._auto_1):PE X (.Name x pos) (tC v) :=
 λ_ _ _ H _ I h=>iZ I hg hm ⟨v,H,I,r,h⟩ hd
def wc     (hg:Gl X x) (hm:X.mg x=none) (hv:bootBuiltins x=some u) (r:RelV v u) (hn:autoParam (x ≠ "__name__") L2.Y1._auto_1) (hd:autoParam ((x == ("__debug__" : Str))=false) L2.Y1._auto_1):PE X (.Name x pos) (tC v) :=
 λ_ _ _ H _ I h=>mh I hg hm hv ⟨v,H,I,r,h⟩ hn hd
variable {a b:Expr}{ta tb:TE}{pos:Pos}
def PC(X:Cx)(op:CmpOp)(a b:Expr)(t:TE):Prop :=
 ∀(pins:List (Addr×Obj)) (s:Shared) (Z:St) (H:Hp) (Q:VK),Inv X pins Z H s->t Z H Q ->
  wpAny (model X.prog X.w) X.A (eval a X.env) (λv s₁=>wpAny (model X.prog X.w) X.A (eval b X.env) (λu s₂=>wpAny (model X.prog X.w) X.A (compareOp op v u) (EP X pins Z Q) X.xe s₂) X.xe s₁) X.xe s
def zj(b:Expr)(h:op ≠ .In)(h2:op ≠ .NotIn):behindInMarks op b=false:=by
 have e1:(op == CmpOp.In)=false:=by cases op <;> first | rfl | exact absurd rfl h
 have e2:(op == CmpOp.NotIn)=false:=by cases op <;> first | rfl | exact absurd rfl h2
 cases b <;> simp[behindInMarks,e1,e2]
def tB(t:TE):TT:=λZ H Q=>t Z H λx H1=>∃c,x = .bl c/\Q c H1
def GH(h:PC X op a b t)(h1:behindInMarks op b=false:=by first | exact zj _ (by decide) (by decide) | rfl):PT X (.Compare a [op] [b] pos) (tB t):=by intro pins s Z H Q I hw;refine wpAny_isTrue_Compare1 (cM (h pins s Z H _ I hw) λv s1 h1=>cM h1 λu s2 h2=>cM h2 λc s3 hY=>?_) h1;obtain⟨x,H1,I1,r1,q1⟩:=hY;obtain⟨d,rfl,q⟩:=q1;cases r1;exact ae3 ⟨H1,I1,q⟩
def eN(h:PE X e t)(he:autoParam (∀whole,isTrue e X.env whole=(do let v ← whole;standAt e.pos;holding [v] (truthy v))) L2.Y2._auto_1):PT X e (tB t):=by intro pins s Z H Q I hw;refine isTrue_plain (cM (h pins s Z H _ I hw) λv s1 hY=>?_) (he _);obtain⟨x,H1,I1,r1,q1⟩:=hY;obtain⟨d,rfl,q⟩:=q1;cases r1;exact ae3 ⟨H1,I1,q⟩
variable {tA tB':TT}{rest:List Expr}
def Vr(t u:TT):TT:=λZ H Q=>t Z H λc H1=>if c=true then u Z H1 Q else Q false H1
def tOr(t u:TT):TT:=λZ H Q=>t Z H λc H1=>if c=true then Q true H1 else u Z H1 Q
def T3(t:TT):TT:=λZ H Q=>t Z H λc H1=>Q (!c) H1
def i0(ha:PT X a tA):PW X (.BoolOp .And [a] pos) tA:=by
 intro wh pins s Z H Q I h;refine isTrue_and (cM (ha pins s Z H Q I h) λc s1 e=>?_);cases c with
 |true=>exact isTrue_and_nil e
 |false=>exact e
def gI(ha:PT X a tA):PW X (.BoolOp .Or [a] pos) tA:=by
 intro wh pins s Z H Q I h;refine isTrue_or (cM (ha pins s Z H Q I h) λc s1 e=>?_);cases c with
 |false=>exact isTrue_or_nil e
 |true=>exact e
def jS(ha:PT X a tA)(hb:PW X (.BoolOp .And (b::rest) pos) tB'):PW X (.BoolOp .And (a::b::rest) pos) (Vr tA tB'):=by
 intro wh pins s Z H Q I h;refine isTrue_and (cM (ha pins s Z H _ I h) λc s1  hZ=>?_);obtain⟨H1,I1,q1⟩:=hZ;cases c with
 |true=>exact hb wh pins s1 Z H1 Q I1 q1
 |false=>exact⟨H1,I1,q1⟩
def iX(ha:PT X a tA)(hb:PW X (.BoolOp .Or (b::rest) pos) tB'):PW X (.BoolOp .Or (a::b::rest) pos) (tOr tA tB'):=by
 intro wh pins s Z H Q I h;refine isTrue_or (cM (ha pins s Z H _ I h) λc s1  hZ=>?_);obtain⟨H1,I1,q1⟩:=hZ;cases c with
 |true=>exact⟨H1,I1,q1⟩
 |false=>exact hb wh pins s1 Z H1 Q I1 q1
def gQ(ha:PT X a tA):PT X (.UnaryOp .Not a pos) (T3 tA):=by intro pins s Z H Q I h;exact isTrue_not (ha pins s Z H (λc H1=>Q (!c) H1) I h)
def Mz(ta tb:TE):TE:=λZ H Q=>ta Z H λx H1=>∃c,x = .bl c/\if c=true then tb Z H1 Q else Q (.bl false) H1
def UC(ta tb:TE):TE:=λZ H Q=>ta Z H λx H1=>∃c,x = .bl c/\if c=true then Q (.bl true) H1 else tb Z H1 Q
def M3(ta:TE):TE:=λZ H Q=>ta Z H λx H1=>∃c,x = .bl c/\Q (.bl (!c)) H1
def nH(h:PE X a t):PE X (.BoolOp op [a] pos) t:=λpins s Z H Q I hw=>BoolOp_one (h pins s Z H Q I hw)
def wV(ha:PE X a ta)(hb:PE X (.BoolOp .And (b::rest) pos) tb):PE X (.BoolOp .And (a::b::rest) pos) (Mz ta tb):=by
 intro pins s Z H Q I h;refine BoolOp_and (cM (ha pins s Z H _ I h) λv s1  hZ=>?_);obtain⟨x,H1,I1,r1,q1⟩:=hZ;obtain⟨c,rfl,q1⟩:=q1;cases r1;refine ae3 ?_;cases c with
 |true=>exact hb pins s1 Z H1 Q I1 q1
 |false=>exact⟨.bl false,H1,I1,rfl,q1⟩
def L6(ha:PE X a ta)(hb:PE X (.BoolOp .Or (b::rest) pos) tb):PE X (.BoolOp .Or (a::b::rest) pos) (UC ta tb):=by
 intro pins s Z H Q I h;refine BoolOp_or (cM (ha pins s Z H _ I h) λv s1  hZ=>?_);obtain⟨x,H1,I1,r1,q1⟩:=hZ;obtain⟨c,rfl,q1⟩:=q1;cases r1;refine ae3 ?_;cases c with
 |false=>exact hb pins s1 Z H1 Q I1 q1
 |true=>exact⟨.bl true,H1,I1,rfl,q1⟩
def HH(ha:PE X a ta):PE X (.UnaryOp .Not a pos) (M3 ta):=by intro pins s Z H Q I h;refine UnaryOp_ (cM (ha pins s Z H _ I h) λv s1  hZ=>?_);obtain⟨x,H1,I1,r1,q1⟩:=hZ;obtain⟨c,rfl,q1⟩:=q1;cases r1;exact not_of (ae3 ⟨.bl (!c),H1,I1,rfl,q1⟩)
def tIf(t:TT)(ta tb:TE):TE:=λZ H Q=>t Z H λc H1=>if c=true then ta Z H1 Q else tb Z H1 Q
def cO{c:Expr}(hc:PT X c tA)(ha:PE X a ta)(hb:PE X b tb):PE X (.IfExp c a b pos) (tIf tA ta tb):=by
 intro pins s Z H Q I h;refine wpAny_IfExp (cM (hc pins s Z H _ I h) λd s1  hZ=>?_);obtain⟨H1,I1,q1⟩:=hZ;cases d with
 |true=>exact ha pins s1 Z H1 Q I1 q1
 |false=>exact hb pins s1 Z H1 Q I1 q1
end
def bq(K:PySem.W.Frag)(H:Hp)(a:Addr)(xs:List V):Prop :=
 Rd H a (.lst xs) ∨
  ∃(o:Obj) (its:Array Value) (n:Nat),K.lookup a=some o/\o.cls = .type "list" /\ o.dict=none/\o.data = .seq its n/\its.size<=sizeLine/\Vals xs its.toList
def fB(K:PySem.W.Frag)(H:Hp)(a:Addr)(xs:List V):Prop :=
 Rd H a (.tup xs) ∨
  ∃(o:Obj) (its:Array Value) (n:Nat),K.lookup a=some o/\o.cls = .type "tuple" /\ o.data = .seq its n/\its.size<=sizeLine/\Vals xs its.toList
def WB:Value->Option V
 |.none=>some .cD
 |.bool b=>some (.bl b)
 |.int i _=>some (.int i)
 |.str x _=>some (.str x)
 |.bytes b _=>some (.byt b)
 |.float b _=>some (.D7 b)
 |.ref a=>some (.ref a)
 |.type n=>some (.ty n)
 |_=>none
def RelV.abs(r:RelV x u):WB u=some x:=by
 cases x with
 |cD=>cases r;rfl
 |bl _=>cases r;rfl
 |int _=>obtain⟨t,rfl⟩:=r;rfl
 |str _=>obtain⟨t,rfl⟩:=r;rfl
 |byt _=>obtain⟨t,rfl⟩:=r;rfl
 |D7 _=>obtain⟨t,rfl⟩:=r;rfl
 |ref _=>cases r;rfl
 |ty _=>cases r;rfl
def RelV.inj(r:RelV x u)(q:RelV y u):x=y:=X8 (r.abs.symm.trans q.abs)
theorem Vals.inj:∀{xs ys:List V} {us:List Value},Vals xs us->Vals ys us->xs=ys
 |_,_,_,.nil,.nil=>rfl
 |_,_,_,.cons r t,.cons r' t'=>by rw[r.inj r',Vals.inj t t']
section
variable {X:Cx}{pins:List (Addr×Obj)}{Z:St}{H:Hp}{s:Shared}{a:Addr}{xs ys:List V}
def bq.of{K:PySem.W.Frag}(h:H a=some (.lst xs)):bq K H a xs:=.inl (.inl h)
def fB.of{K:PySem.W.Frag}(h:H a=some (.tup xs)):fB K H a xs:=.inl (.inl h)
def Inv.list(I:Inv X pins Z H s)(h:bq X.K H a xs):∃its:List Value,Vals xs its/\PlainL s.heap a its.toArray/\xs.length<=sizeLine:=by
 rcases h with h|⟨o,its,n,hk,hc,hd,hs,hz,r⟩
 ·obtain⟨z,its,n,r,e⟩:=h.ok I.hok;exact⟨its,r,⟨_,n,e,rfl,rfl,rfl⟩,z⟩
 ·refine⟨its.toList,r,⟨o,n,I.iU a o hk,hc,hd,by simpa using hs⟩,?_⟩;have e:=r.length;simp only[aj0] at e;lia
def Inv.tuple(I:Inv X pins Z H s)(h:fB X.K H a xs):∃its:List Value,Vals xs its/\IsTup s.heap a its.toArray/\xs.length<=sizeLine:=by
 rcases h with h|⟨o,its,n,hk,hc,hs,hz,r⟩
 ·obtain⟨z,its,r,p⟩:=h.ok I.hok;exact⟨its,r,p,z⟩
 ·refine⟨its.toList,r,⟨o,I.iU a o hk,hc,n,by simpa using hs⟩,?_⟩;have e:=r.length;simp only[aj0] at e;lia
def Inv.oK(I:Inv X pins Z H s)(h:bq X.K H a xs)(h':bq X.K H a ys):xs=ys:=by
 obtain⟨its,r,⟨o,n,e,_,_,d⟩,_⟩:=I.list h;obtain⟨its',r',⟨o',n',e',_,_,d'⟩,_⟩:=I.list h';rw[e] at e';cases e';rw[d] at d';injection d' with d1 _
 have:its=its':=by simpa using ac1 Array.toList d1
 subst this;exact r.inj r'
end
abbrev Cx.ug(X:Cx)(E:Value->Shared->Prop):Cx:={ X with xe:=E }
abbrev Cx.Wr(X:Cx):Cx:=X.ug λ_ _=>False
def Cx.Ok.ug{X:Cx}(ok:X.Ok)(E:Value->Shared->Prop):(X.ug E).Ok :=
 ⟨ok.mod,ok.kind,ok.glob,ok.blt,ok.above,ok.inj,ok.has,ok.TQ,ok.hd,ok.frames,ok.stk,ok.Ws,ok.bs,ok.Kq,ok.CI,ok.Ef,ok.qt,ok.Pc⟩
def Cx.Ok.lM{X:Cx}(ok:(X.ug E).Ok):X.Ok :=
 ⟨ok.mod,ok.kind,ok.glob,ok.blt,ok.above,ok.inj,ok.has,ok.TQ,ok.hd,ok.frames,ok.stk,ok.Ws,ok.bs,ok.Kq,ok.CI,ok.Ef,ok.qt,ok.Pc⟩
section
variable {X:Cx}{pins:List (Addr×Obj)}{Z:St}{H:Hp}{s:Shared}{E:Value->Shared->Prop}
def Inv.ug(I:Inv X pins Z H s)(E:Value->Shared->Prop):Inv (X.ug E) pins Z H s:=⟨I.ok.ug E,I.os,I.bare,I.base,I.loc,I.cell,I.free,I.iQ,I.pin,I.hok,I.len⟩
def Inv.lM(I:Inv (X.ug E) pins Z H s):Inv X pins Z H s:=⟨I.ok.lM,I.os,I.bare,I.base,I.loc,I.cell,I.free,I.iQ,I.pin,I.hok,I.len⟩
def SP.lM(h:SP (X.ug E) pins D f s'):SP X pins D f s':=by
 cases f with
 |next=>obtain⟨Z',H',I,q⟩:=h;exact⟨Z',H',I.lM,q⟩
 |brk=>obtain⟨Z',H',I,q⟩:=h;exact⟨Z',H',I.lM,q⟩
 |cont=>obtain⟨Z',H',I,q⟩:=h;exact⟨Z',H',I.lM,q⟩
 |ret u=>obtain⟨v,Z',H',I,r,q⟩:=h;exact⟨v,Z',H',I.lM,r,q⟩
def A3.Wr{st:List Stmt}(h:A3 X.Wr st t):A3 X st t:=λpins s Z H D I hw =>
 ab1 (h pins s Z H D (I.ug _) hw) (λ_ _ q=>q.lM) λ_ _ z=>False.elim z
end
section
variable {X:Cx}{st:Stmt}{rest:List Stmt}{t u:TS}{e:Expr}{te:TE}{pos:Pos}
def V5:TS:=λD Z H=>D.nx Z H
def Uy(t u:TS):TS:=λD Z H=>t { D with nx:=u D } Z H
def xM(h1:PS X st t)(h2:A3 X rest u):A3 X (st::rest) (Uy t u):=by
 intro pins s Z H D I h;refine wpAny_execs_cons (cM (h1 pins s Z H { D with nx:=u D } I h) λf s1 q=>?_);cases f with
 |next =>
  obtain⟨Z',H',I',q⟩:=q;exact h2 pins s1 Z' H' D I' q
 |ret v=>exact q
 |brk=>exact q
 |cont=>exact q
def J8(h1:PS X st t):A3 X [st] t:=by
 intro pins s Z H D I h;refine wpAny_execs_cons (cM (h1 pins s Z H D I h) λf s1 q=>?_);cases f with
 |next=>exact ak7 q
 |ret v=>exact q
 |brk=>exact q
 |cont=>exact q
def Inv.quiet(I:Inv X pins Z H s):interactive X.env=false:=by simp[interactive,I.ok.kind]
def Ow(te:TE):TS:=λD Z H=>te Z H λ_ H1=>D.nx Z H1
def aX(he:PE X e te)(hs:autoParam (swapsWith e none pos.line X.env=pure false) L2.Y3._auto_1):PS X (.Expr e pos) (Ow te):=by intro pins s Z H D I h;exact wpAny_Expr_any (cM (he pins s Z H _ I h) λv s1 ⟨x,H1,I1,r1,q1⟩=>⟨Z,H1,I1,q1⟩) I.quiet hs
def S4(te:TE):TS:=λD Z H=>te Z H D.rt
def aP(he:PE X e te):PS X (.Return (some e) pos) (S4 te):=by intro pins s Z H D I h;exact wpAny_Return_some (cM (he pins s Z H _ I h) λv s1 ⟨x,H1,I1,r1,q1⟩=>⟨x,Z,H1,I1,r1,q1⟩)
def Vx(c:TT)(t u:TS):TS:=λD Z H=>c Z H λb H1=>if b=true then t D Z H1 else u D Z H1
def aW(hc:PT X c tc)(ha:A3 X a t)(hb:A3 X b u):PS X (.If c a b pos) (Vx tc t u):=by
 intro pins s Z H D I h;refine wpAny_If (cM (hc pins s Z H _ I h) λd s1  hZ=>?_);obtain⟨H1,I1,q1⟩:=hZ;cases d with
 |true=>exact ha pins s1 Z H1 D I1 q1
 |false=>exact hb pins s1 Z H1 D I1 q1
end
abbrev TG:=V->St->Hp->(St->Hp->Prop)->Prop
abbrev S0:=List V->St->Hp->(St->Hp->Prop)->Prop
def PG(X:Cx)(target:Expr)(t:TG):Prop :=
 ∀(pins:List (Addr×Obj)) (s:Shared) (Z:St) (H:Hp) (v:V) (u:Value) (Q:St->Hp->Prop),Inv X pins Z H s->RelV v u->t v Z H Q ->
  wpAny (model X.prog X.w) X.A (assign target X.env u) (λ_ s'=>∃Z' H',Inv X pins Z' H' s'/\Q Z' H') X.xe s
def Wj(X:Cx)(ts:List Expr)(t:S0):Prop :=
 ∀(pins:List (Addr×Obj)) (s:Shared) (Z:St) (H:Hp) (vs:List V) (us:List Value) (Q:St->Hp->Prop),Inv X pins Z H s->Vals vs us->t vs Z H Q ->
  wpAny (model X.prog X.w) X.A (assignInOrder ((assignEach ts X.env).map (·.2)) us) (λ_ s'=>∃Z' H',Inv X pins Z' H' s'/\Q Z' H') X.xe s
abbrev SY:=V->V->V->Hp->(Hp->Prop)->Prop
def T4(X:Cx)(t:SY):Prop :=
 ∀(pins:List (Addr×Obj)) (s:Shared) (Z:St) (H:Hp) (o i v:V) (ov iv u:Value) (Q:Hp->Prop),Inv X pins Z H s->RelV o ov->RelV i iv->RelV v u->t o i v H Q ->
  wpAny (model X.prog X.w) X.A (setItem ov iv u) (λ_ s'=>∃H',Inv X pins Z H' s'/\Q H') X.xe s
abbrev Wi:=V->V->Hp->VK->Prop
def PIp(X:Cx)(op:Operator)(t:Wi):Prop :=
 ∀(pins:List (Addr×Obj)) (s:Shared) (Z:St) (H:Hp) (x y:V) (v u:Value) (Q:VK),Inv X pins Z H s->RelV x v->RelV y u->t x y H Q ->
  wpAny (model X.prog X.w) X.A (inplaceOp op v u) (EP X pins Z Q) X.xe s
section
variable {X:Cx}{pos:Pos}
def qQ(i:Nat):TG:=λv Z H Q=>Q (Z.set i (some v)) H
def rN(hN:X.N.Nodup)(hi:X.N[i]?=some x)(hx:Loc X.env.scope x)(hf:autoParam (X.fn x=true∨X.env.scope.names.lookup x=some .local) L2.Y0._auto_1):PG X (.Name x pos) (qQ i):=by intro pins s Z H v u Q I r h;exact wpAny_assign_Name (oQ I hN hi hx r (λs' I'=>⟨_,H,I',h⟩) hf)
def WT:S0:=λvs Z H Q=>vs=[]/\Q Z H
def Vf(t:TG)(u:S0):S0:=λvs Z H Q=>∃v r,vs=v::r/\t v Z H λZ' H'=>u r Z' H' Q
def oO:Wj X [] WT:=by intro pins s Z H vs us Q I r h;obtain⟨e,h⟩:=h;subst e;cases r;exact assignInOrder_nil ⟨Z,H,I,h⟩
def dz(h1:PG X e t)(h2:Wj X es u)
  (hs:autoParam ((assignEach (e::es) X.env).map (·.2)=assign e X.env::(assignEach es X.env).map (·.2)) L2.Y3._auto_1):Wj X (e::es) (Vf t u):=by
 intro pins s Z H vs us Q I r h;obtain⟨v,vr,e1,h⟩:=h;subst e1;cases r with
 |cons r rr =>
  rw[hs];refine assignInOrder_cons (cM (h1 pins s Z H _ _ _ I r h) λ_ s1  hZ=>?_);obtain⟨Z1,H1,I1,q1⟩:=hZ;exact h2 pins s1 Z1 H1 _ _ Q I1 rr q1
def Xc(K:PySem.W.Frag)(n:Nat)(t:S0):TG:=λv Z H Q=>∃a xs,v = .ref a/\fB K H a xs/\xs.length=n/\t xs Z H Q
def rR(hc:X.calm=true)(h:Wj X es t)
  (hn:autoParam ((assignEach es X.env).length=n) L2.Y3._auto_1) (hst:autoParam ((assignEach es X.env).findIdx? (·.1)=none) L2.Y3._auto_1):PG X (.Tuple es k pos) (Xc X.K n t):=by
 intro pins s Z H v u Q I r hw;obtain⟨a,xs,e1,hq,hl,hw⟩:=hw;subst e1;cases r;obtain⟨its,rv,ht,hz⟩:=I.tuple hq;refine assign_Tuple_tuple (I.ok.hd hc) ht (by simp[hn,← hl,rv.length]) hst λh' hx=>?_;have I1:Inv X pins Z H { s with heap:=h' }:=I.kept (t':=s.toks) λb o e=>hx b o (T0 (B2 e)) e;exact h pins _ Z H xs _ Q I1 (by simpa using rv) hw
def WG(to ti:TE)(t:SY):TG:=λv Z H Q=>to Z H λo H1=>ti Z H1 λi H2=>t o i v H2 λH3=>Q Z H3
def FF(ho:PE X o to)(hi:PE X i ti)(hs:T4 X t)
  (ha:autoParam (∀v,assign (.Subscript o i pos) X.env v=(do
   let ov ← holding [v] (eval o X.env);let iv ← holding [v,ov] (eval i X.env)
   standAt pos
   holding [v,ov,iv] (setItem ov iv v)
   release [v,ov,iv] [])) L2.Y2._auto_1):PG X (.Subscript o i pos) (WG to ti t):=by
 intro pins s Z H v u Q I r h;rw[ha];refine v3 (ae4 (cM (ho pins s Z H _ I h) λov s1  hZ=>?_));obtain⟨x,H1,I1,r1,q1⟩:=hZ;refine v3 (ae4 (cM (hi pins s1 Z H1 _ I1 q1) λiv s2  hZ=>?_));obtain⟨y,H2,I2,r2,q2⟩:=hZ;refine v3 (wpAny_standAt (v3 (ae4 (cM (hs pins s2 Z H2 x y v ov iv u _ I2 r1 r2 r q2) λ_ s3  hZ=>?_))));obtain⟨H3,I3,q3⟩:=hZ;exact wpAny_release ⟨Z,H3,I3,q3⟩
def HF(te:TE)(g:TG):TS:=λD Z H=>te Z H λx H1=>g x Z H1 D.nx
def F7(he:PE X e te)(hg:PG X tg g)(hs:autoParam (swapsWithSole [tg] e pos.line X.env=pure false) L2.Y3._auto_1)(hw:autoParam (swappedStores [tg] e X.env=pure none) L2.Y3._auto_1)
  (h1:autoParam ((assignEach [tg] X.env).map (·.2)=[assign tg X.env]) L2.Y3._auto_1):PS X (.Assign [tg] e pos) (HF te g):=by
 intro pins s Z H D I h;refine wpAny_Assign_stores (cM (he pins s Z H _ I h) λv s1 hY=>?_) hs hw;obtain⟨x,H1,I1,r1,q1⟩:=hY;rw[h1];exact cM (hg pins s1 Z H1 x v _ I1 r1 q1) λ_ s2 q=>q
def wm{i:Nat}{x:Str}{e:Expr}{te:TE}{pos':Pos}(hN:X.N.Nodup)(hi:X.N[i]?=some x)(hx:Loc X.env.scope x)(he:PE X e te)(hs:autoParam (swapsWith e (some (.Name x pos')) pos.line X.env=pure false) L2.Y3._auto_1)(hf:autoParam (X.fn x=true∨X.env.scope.names.lookup x=some .local) L2.Y0._auto_1) :
  PS X (.Assign [.Name x pos'] e pos) (HF te (qQ i)):=by
 intro pins s Z H D I h;refine wpAny_Assign_Name (cM (he pins s Z H _ I h) λv s1 hY=>?_) hs;obtain⟨y,H1,I1,r1,q1⟩:=hY;exact oQ I1 hN hi hx r1 (λs2 I2=>⟨_,H1,I2,q1⟩) hf
def Uj(i:Nat)(te:TE)(ti:Wi):TS:=λD Z H=>∃x,Z[i]?=some (some x)/\te Z H λy H1=>ti x y H1 λz H2=>D.nx (Z.set i (some z)) H2
def zy(hN:X.N.Nodup)(hi:X.N[i]?=some x)(hx:Loc X.env.scope x)(he:PE X e te)(ho:PIp X op ti)(hf:autoParam (X.fn x=true∨X.env.scope.names.lookup x=some .local) L2.Y0._auto_1) :
  PS X (.AugAssign (.Name x pos') op e pos) (Uj i te ti):=by
 intro pins s Z H D I h;obtain⟨v,e1,h⟩:=h;obtain⟨m,hn,hl⟩:=I.loc;have vis:Vq X.env.scope x:=by rcases hx with k|k;exact .inl k;exact .inr (.inl k)
 obtain⟨u,r,l⟩:=hl i x v hi e1 vis;refine wpAny_AugAssign_Name ?_;have go:wpAny (model X.prog X.w) X.A (eval e X.env) (λw s₂=>wpAny (model X.prog X.w) X.A (inplaceOp op u w) (λr s₃=>wpAny (model X.prog X.w) X.A (storeName X.env x r) (λ_=>SP X pins D .next) X.xe s₃) X.xe s₂) X.xe s:=by refine cM (he pins s Z H _ I h) λw s1  hZ=>?_;obtain⟨y,H1,I1,r1,q1⟩:=hZ;refine cM (ho pins s1 Z H1 v y u w _ I1 r r1 q1) λz s2  hZ=>?_;obtain⟨zv,H2,I2,r2,q2⟩:=hZ;exact oQ I2 hN hi hx r2 (λs3 I3=>⟨_,H2,I3,q2⟩) hf
 rcases l with ⟨hk,hm⟩|⟨hk,c,hc,hcell⟩
 ·exact wpAny_loadName_local I.ok.kind hk hn hm go
 ·rcases hk with hk|hk
  ·exact wpAny_loadName_cell I.ok.kind hk hc hcell go
  ·rcases hx with k|k
   ·have:X.env.scope.names.lookup x=some .free:=hk;rw[k] at this;cases this
   ·have:X.env.scope.names.lookup x=some .free:=hk;rw[k] at this;cases this
inductive ipI(f:Int->Int->Int)(x:V)(y:V)(H:Hp)(Q:VK):Prop|mk(i j)(_:x = .int i)(_:y = .int j)(_:Q (.int (f i j)) H)
def ipI_i{f:Int->Int->Int}{x:V}{y:V}:ipI f x y H Q↔∃i j,x = .int i/\y = .int j/\Q (.int (f i j)) H:=by constructor <;> intro h <;> obtain⟨i,j,h0,h1,h2⟩:=h <;> exact⟨i,j,h0,h1,h2⟩
def A1:PIp X .Add (ipI λi j=>i+j):=by intro pins s Z H x y v u Q I r1 r2 h;obtain⟨i,j,e1,e2,q⟩:=h;subst e1;subst e2;obtain⟨t,rfl⟩:=r1;obtain⟨t',rfl⟩:=r2;exact iadd_int ⟨.int _,H,I.tok _,⟨_,rfl⟩,q⟩
end
section
variable {X:Cx}{pos:Pos}
def RE(c:TT)(tb:TS):TS:=λD Z H=>∃W:Nat->St->Hp->Prop,(∃m,W m Z H)/\∀m Z H,W m Z H ->
 c Z H λb H1=>if b=true then ∃N:St->Hp->Prop,(∀Z' H',N Z' H'->∃m',m'<m/\W m' Z' H')/\tb { D with nx:=N,ct:=N,bk:=D.nx } Z H1 else D.nx Z H1
def oW(hp:PassesOwn (model X.prog X.w) X.A X.env X.xe)(hc:PT X c tc)(hb:A3 X body tb):PS X (.While c body [] pos) (RE tc tb):=by
 intro pins s Z H D I h;obtain⟨W,⟨m0,w0⟩,turn⟩:=h;refine wpAny_While (codeAny_whileLoop (λn s'=>∃Z' H',Inv X pins Z' H' s'/\W n Z' H') ?_ m0 ⟨Z,H,I,w0⟩);rintro n s1 ⟨Z1,H1,I1,w1⟩;refine ag0 hp (cM (hc pins s1 Z1 H1 _ I1 (turn n Z1 H1 w1)) λb s2  hZ=>?_);obtain⟨H2,I2,q2⟩:=hZ;cases b with
 |true =>
  obtain⟨N,hN,q2⟩:=q2;rw[if_pos rfl];refine ag0 hp (cM (hb pins s2 Z1 H2 _ I2 q2) λf s3 q3=>?_);cases f with
  |next =>
   obtain⟨Z3,H3,I3,n3⟩:=q3;obtain⟨m',hm,w3⟩:=hN Z3 H3 n3;exact⟨m',hm,Z3,H3,I3,w3⟩
  |cont =>
   obtain⟨Z3,H3,I3,n3⟩:=q3;obtain⟨m',hm,w3⟩:=hN Z3 H3 n3;exact⟨m',hm,Z3,H3,I3,w3⟩
  |brk=>exact q3
  |ret v=>exact q3
 |false =>
  rw[if_neg X4];exact ak7 ⟨Z1,H2,I2,q2⟩
end
structure It where
 go:Nat->Hp->Prop
 TV:Nat->Hp->V->Hp->Prop
 stop:Nat->Hp->Prop
def uh(X:Cx)(pins:List (Addr×Obj))(H:Hp)(b:Addr):Prop :=
 H b=none/\b≠X.env.locals/\b∉X.fs/\(b∈X.ex∨X.s₀.heap.objs.size<=b)/\(∀x c,X.env.cells.lookup x=some c->c≠b)/\∀p∈X.pn++pins,p.1≠b
def Inv.CJ(I:Inv X pins Z H s)(hb:s.heap.objs.size<=b)(hn:H' b=none):uh X pins H' b:=by
 refine⟨hn,ak9 (Z4 I.lt hb),I.Vd hb,.inr (X6 I.sz hb),λx c e z=>?_,λp hp z=>?_⟩
 ·obtain⟨v,q⟩:=I.cell x c e;exact absurd (Z4 q.lt (by rw[z];exact hb)) (ad6 _)
 ·exact absurd (Z4 (B2 (I.pin p hp).1) (by rw[z];exact hb)) (ad6 _)
structure Turn(P:Program)(w:World)(K:PySem.W.Frag)(tg:Expr)(J:It)(fp:List Addr)(it:Addr)(tn:Nat->Heap->Prop):Prop where
 mem:it∈fp
 obj:∀i h,tn i h->∀b∈fp,∃o,h.get? b=some o/\∀v,o.data ≠ .cell v
 keep:∀i h h',tn i h->(∀b∈fp,∀o,h.get? b=some o->h'.get? b=some o)->tn i h'
 item:∀(X:Cx),X.prog=P->X.w=w->X.K=K->X.calm=true->∀(i:Nat) (pins:List (Addr×Obj)) (s:Shared) (Z:St) (H:Hp) (E:Value->Shared->Prop),Inv X pins Z H s->(∀b∈fp,uh X pins H b)->tn i s.heap->J.go i H ->
  wpAny (model P w) X.A (pyNext (.ref it)) (λr s1=>∃u,r=some u /\
   wpAny (model P w) X.A (letOwnedTupleGo tg (.ref it) u) (λ_ s2=>∃x H',Inv X pins Z H' s2/\RelV x u/\J.TV i H x H'/\tn (i+1) s2.heap/\∀b∈fp,H' b=none) E s1) E s
 done:∀(X:Cx),X.prog=P->X.w=w->X.K=K->X.calm=true->∀(i:Nat) (pins:List (Addr×Obj)) (s:Shared) (Z:St) (H:Hp) (E:Value->Shared->Prop),Inv X pins Z H s->(∀b∈fp,uh X pins H b)->tn i s.heap->J.stop i H ->
  wpAny (model P w) X.A (pyNext (.ref it)) (λr s1=>r=none/\Inv X pins Z H s1) E s
 self:∀(A:Around) (i:Nat) (s:Shared) (Q:Value->Shared->Prop) (E:Value->Shared->Prop),tn i s.heap->Q (.ref it) s->wpAny (model P w) A (pyIter (.ref it)) Q E s
abbrev TI:=St->Hp->(It->Hp->Prop)->Prop
def Wx(X:Cx)(pins:List (Addr×Obj))(Z:St)(tg:Expr)(R:It->Hp->Prop)(itv:Value)(s2:Shared):Prop :=
 ∃(it:Addr) (fp:List Addr) (tn:Nat->Heap->Prop) (J:It) (H':Hp),itv = .ref it/\Inv X pins Z H' s2/\Turn X.prog X.w X.K tg J fp it tn/\tn 0 s2.heap/\(∀b∈fp,uh X pins H' b)/\R J H'
def PI(X:Cx)(tg iter:Expr)(wi:TI):Prop :=
 ∀(pins:List (Addr×Obj)) (s:Shared) (Z:St) (H:Hp) (R:It->Hp->Prop),Inv X pins Z H s->wi Z H R ->
  wpAny (model X.prog X.w) X.A (eval iter X.env) (λv s1=>wpAny (model X.prog X.w) X.A (pyIter v) (Wx X pins Z tg R) X.xe s1) X.xe s
def Hj(ho:s.heap.get? it=some o)(hc:o.cls = .type n)(hd:o.data = .fields vs)
  (hn:["enumerate","zip","dict_itemiterator","dict_reverseitemiterator","odict_iterator","itertools.zip_longest","itertools.pairwise"].contains n=false) (hQ:Q () s):wpAny M A (letOwnedTupleGo tg (.ref it) u) Q E s:=by
 unfold letOwnedTupleGo;cases tg <;> first
  |exact T1 hQ
  | (cases u <;> first
    |exact T1 hQ
    | (refine v3 (wpAny_load ho ?_)
       rw[hc,hd];show wpAny M A (if (["enumerate","zip","dict_itemiterator","dict_reverseitemiterator","odict_iterator","itertools.zip_longest","itertools.pairwise"].contains n && vs[0]? == some (rawInt _))=true then _ else _) Q E s;rw[if_neg (by intro h;rw[hn,Bool.false_and] at h;cases h)];exact T1 hQ))
def SM(K:PySem.W.Frag)(a:Addr):It :=
 ⟨λi H=>∃xs x,bq K H a xs/\xs[i]?=some x,λi H x H'=>H'=H/\∀xs,bq K H a xs->xs[i]?=some x,λi H=>∃xs,bq K H a xs/\xs.length<=i⟩
def OW(lo:Int)(n:Nat):It:=⟨λi _=>i<n,λi H x H'=>H'=H/\x = .int (lo+i),λi _=>n<=i⟩
def DM{P:Program}{w:World}{K:PySem.W.Frag}{tg:Expr}(a it:Addr):Turn P w K tg (SM K a) [it] it (λi h=>h.IsListIter it a i) where
 mem:=by simp
 obj:=λi h st b hb=>by
  have e:b=it:=by simpa using hb
  subst e;obtain⟨o,e,c,d⟩:=st;exact⟨o,e,λv z=>by rw[d] at z;cases z⟩
 keep:=λi h h' st k=>st.at λo e=>k it (by simp) o e
 item:=by intro X hP hw hK hc i pins s Z H E I hf st hg;subst hP hw hK;obtain⟨xs,x,hq,hx⟩:=hg;obtain⟨its,rv,p,hz⟩:=I.list hq;obtain⟨u,hu,ru⟩:=rv.get hx;obtain⟨f0,f1,f2,f3,f4,f5⟩:=hf it (by simp);refine wpAny_pyNext_list_item st p.isList (x:=u) (by simpa using hu) λh' st' sb=>?_;have I1:Inv X pins Z H { s with heap:=h' }:=I.turned (t':=s.toks) (λb o hb e=>(sb.2 b hb).trans e) f0 f1 f3 f4 f5;obtain⟨o,e,c,d⟩:=id st';exact⟨u,rfl,Hj (s:={ s with heap:=h' }) e c d (by decide) ⟨x,H,I1,ru,⟨rfl,λys hy=>by rw[I.oK hy hq];exact hx⟩,st',λb hb=>(hf b hb).1⟩⟩
 done:=by intro X hP hw hK hc i pins s Z H E I hf st hg;subst hP hw hK;obtain⟨xs,hq,hx⟩:=hg;obtain⟨its,rv,p,hz⟩:=I.list hq;obtain⟨f0,f1,f2,f3,f4,f5⟩:=hf it (by simp);have hl:=rv.length;exact wpAny_pyNext_list_end (I.ok.hd hc) st p.isList (by simp;lia) λh' eb=>⟨rfl,I.turned (t':=s.toks) (λb o hb e=>eb b o hb e) f0 f1 f3 f4 f5⟩
 self:=λ_ _ _ _ _ st h=>wpAny_pyIter_listiter st h
def AA{P:Program}{w:World}{K:PySem.W.Frag}{tg:Expr}(it:Addr)(lo:Int)(n:Nat):Turn P w K tg (OW lo n) [it] it (λi h=>IsRangeIter h it (lo+(i:Nat)*1) ((n:Int)-(i:Nat)) 1) where
 mem:=by simp
 obj:=λi h st b hb=>by
  have e:b=it:=by simpa using hb
  subst e;exact⟨_,st,λv z=>by have z':Data.fields _=Data.cell v:=z;cases z'⟩
 keep:=λi h h' st k=>k it (by simp) _ st
 item:=by intro X hP hw hK hc i pins s Z H E I hf st hg;subst hP hw hK;obtain⟨f0,f1,f2,f3,f4,f5⟩:=hf it (by simp);have W:=Walks.range (prog:=X.prog) (w:=X.w) (I.ok.hd hc) it lo 1 n;refine W.item i s _ _ hg st λv h' tk hv st' kk=>?_;obtain⟨t,rfl⟩:=hv;have I1:Inv X pins Z H { s with heap:=h',toks:=tk }:=I.turned (λb o hb e=>kk b o (by simpa using hb) e) f0 f1 f3 f4 f5;refine⟨_,rfl,Hj (s:={ s with heap:=h',toks:=tk }) (n:="range_iterator") st' rfl rfl (by decide) ⟨.int (lo+i),H,I1,⟨t,?_⟩,⟨rfl,rfl⟩,st',λb hb=>(hf b hb).1⟩⟩;rw[Int.mul_one]
 done:=by intro X hP hw hK hc i pins s Z H E I hf st hg;subst hP hw hK;obtain⟨f0,f1,f2,f3,f4,f5⟩:=hf it (by simp);exact wpAny_pyNext_range_end (I.ok.hd hc) st (by have:n<=i:=hg;lia) λh' eb=>⟨rfl,I.turned (t':=s.toks) (λb o hb e=>eb b o hb e) f0 f1 f3 f4 f5⟩
 self:=λ_ _ _ _ _ st h=>wpAny_pyIter_rangeiter st h
section
variable {X:Cx}{tg:Expr}
def TZ(K:PySem.W.Frag)(tl:TE):TI:=λZ H R=>tl Z H λx H1=>∃a,x = .ref a/\(∃xs,bq K H1 a xs)/\R (SM K a) H1
def gH{l:Expr}{tl:TE}(hl:PE X l tl):PI X tg l (TZ X.K tl):=by
 intro pins s Z H R I h;refine cM (hl pins s Z H _ I h) λv s1  hZ=>?_;obtain⟨x,H1,I1,r1,q1⟩:=hZ;obtain⟨a,e,⟨xs,hq⟩,q⟩:=q1;subst e;cases r1;obtain⟨its,rv,p,hz⟩:=I1.list hq;refine wpAny_pyIter_list p.isList ?_;refine⟨s1.heap.objs.size,[s1.heap.objs.size],_,_,H1,rfl,I1.kept (t':=s1.toks) λb o e=>u3 _ e,DM a _,⟨_,Z0 _ rfl,rfl,rfl⟩,λb hb=>?_,q⟩;have e:b=s1.heap.objs.size:=by simpa using hb
 subst e;exact I1.CJ (M2 _) (I1.hok.fresh (M2 _))
def Jb{lo hi:Int}(I:Inv X pins Z H s)(h1:-(2 ^ 62)<=lo)(h2:lo<2 ^ 62)(h3:-(2 ^ 62)<=hi)(h4:hi<2 ^ 62)
  (q:R (OW lo (hi-lo).toNat) H):wpAny (model X.prog X.w) X.A (pyIter (.ref s.heap.objs.size)) (Wx X pins Z tg R) E { s with heap:=s.heap.push { cls:=.type "range",data:=.fields #[.int lo t,.int hi u,.int 1 v] },toks:=tk }:=by
 refine wpAny_pyIter_range (IsRange.new ..) (small_one h1 h2 h3 h4) ?_;have I1:Inv X pins Z H { s with heap:=s.heap.push { cls:=.type "range",data:=.fields #[.int lo t,.int hi u,.int 1 v] },toks:=tk }:=I.kept λb o e=>u3 _ e;refine⟨(s.heap.push { cls:=.type "range",data:=.fields #[.int lo t,.int hi u,.int 1 v] }).objs.size,[(s.heap.push { cls:=.type "range",data:=.fields #[.int lo t,.int hi u,.int 1 v] }).objs.size],_,_,H,rfl,
  I1.kept (t':=tk) λb o e=>u3 _ e,AA _ lo (hi-lo).toNat,?_,λb hb=>?_,q⟩
 ·have e1:lo+((0:Nat):Int)*1=lo:=by simp
  have e2:(((hi-lo).toNat:Nat):Int)-((0:Nat):Int)=Builtin.Range.rangeSize lo hi 1:=by rw[rangeSize_one];split <;> lia
  show IsRangeIter _ _ (lo+((0:Nat):Int)*1) ((((hi-lo).toNat:Nat):Int)-((0:Nat):Int)) 1;rw[e1,e2];exact Z0 _ rfl
 ·have e:b=(s.heap.push { cls:=.type "range",data:=.fields #[.int lo t,.int hi u,.int 1 v] }).objs.size:=by simpa using hb
  subst e;exact I1.CJ (M2 _) (I1.hok.fresh (M2 _))
def U1(ta:TA):TI:=λZ H R=>ta Z H λvs H1=>∃j:Int,vs=[.int j] /\ -(2 ^ 62)<=j/\j<2 ^ 62/\R (OW 0 j.toNat) H1
def iw {a:Expr} {ta:TA} {p pos:Pos} (hg:Gl X "range") (hm:X.mg "range" = none) (ha:PA X [a] ta) (hs:autoParam (starEach [a] X.env=[(false,eval a X.env)]) L2.Y3._auto_1):PI X tg (.Call (.Name "range" p) [a] [] pos) (U1 ta):=by
 intro pins s Z H R I h;refine Call_ (mh I hg hm boot_range (ac8 (cM (ha pos pins s Z H _ I h) λus s1 hY=>?_) hs rfl));obtain⟨vs,H1,I1,r1,q1⟩:=hY;obtain⟨j,e,q1,q2,q⟩:=q1;subst e;cases r1 with
 |cons r rr =>
  cases rr;obtain⟨t,rfl⟩:=r;exact call_range_1 (Jb I1 (by lia) (by lia) q1 q2 (by simpa using q))
def WQ(wi:TI)(g:TG)(tb:TS):TS:=λD Z H=>wi Z H λJ H1=>∃W:Nat->Nat->St->Hp->Prop,(∃m,W 0 m Z H1)/\∀i m Z H,W i m Z H ->
 (J.stop i H/\D.nx Z H)∨(J.go i H/\∃N:St->Hp->Prop,(∀Z' H',N Z' H'->∃m',m'<m/\W (i+1) m' Z' H')/\∀x H',J.TV i H x H'->g x Z H' λZ2 H2=>tb { D with nx:=N,ct:=N,bk:=D.nx } Z2 H2)
def lS(fp:List Addr)(h:Heap):List (Addr×Obj):=fp.filterMap λb=>(h.get? b).map λo=>(b,o)
def iB(hb:b∈fp)(e:h.get? b=some o):(b,o)∈lS fp h:=ak2.mpr ⟨b,hb,by rw[e];rfl⟩
def p9(hp:p∈lS fp h):p.1∈fp/\h.get? p.1=some p.2:=by
 obtain⟨b,hb,e⟩:=ak2.mp hp;cases q:h.get? b with
 |none=>rw[q] at e;cases e
 |some o =>
  rw[q] at e;have e':(b,o)=p:=X8 e;subst e';exact⟨hb,q⟩
def Inv.pinned(I:Inv X pins Z H s)(hf:∀b∈fp,uh X pins H b)(ho:∀b∈fp,∃o,s.heap.get? b=some o/\∀v,o.data ≠ .cell v):Inv X (pins++lS fp s.heap) Z H s :=
 I.iK λp hp=>(aa1.mp hp).elim (λz=>I.pin p (X2 _ z)) λz=>by obtain⟨hb,e⟩:=p9 z;obtain⟨f0,f1,f2,_⟩:=hf p.1 hb;obtain⟨o,e',d⟩:=ho p.1 hb;rw[e] at e';cases e';exact⟨e,f0,f1,f2,d⟩
def Inv.t8(I:Inv X (pins++pl) Z H s):Inv X pins Z H s:=I.iK λp hp=>I.pin p (X2 _ (aa7 _ hp))
def SI(hp:PassesOwn (model X.prog X.w) X.A X.env X.xe)(hc:X.calm=true)(hi:PI X tg iter wi)(hg:PG X tg g)(hb:A3 X body tb)
  (hs:autoParam (∀x,foldedSetIterable iter X.env x=pure x) L2.Y2._auto_1):PS X (.For tg iter body [] pos) (WQ wi g tb):=by
 intro pins s Z H D I h;refine wpAny_For (cM (hi pins s Z H _ I h) λv s1 h1=>cM h1 λitv s2 h2=>?_) hs;obtain⟨it,fp,tn,J,H2,e,I2,T,st2,f2,W,⟨m0,w0⟩,turn⟩:=h2;subst e;have stat:∀{H':Hp},(∀b∈fp,H' b=none)->∀b∈fp,uh X pins H' b:=λhn b hb=>⟨hn b hb,(f2 b hb).2⟩
 refine codeAny_forLoop_any (λn s'=>∃i Z' H',Inv X pins Z' H' s'/\tn i s'.heap/\(∀b∈fp,H' b=none)/\W i n Z' H') ?_ m0 ⟨0,Z,H2,I2,st2,λb hb=>(f2 b hb).1,w0⟩;rintro n s3 ⟨i,Z3,H3,I3,st3,fr3,w3⟩;rcases turn i n Z3 H3 w3 with ⟨stop,qn⟩|⟨go,N,hN,step⟩
 ·refine ag0 hp (cM (T.done X rfl rfl rfl hc i pins s3 Z3 H3 X.xe I3 (stat fr3) st3 stop) λr s4 hY=>?_);obtain⟨hr,I4⟩:=hY;subst hr;exact ak7 ⟨Z3,H3,I4,qn⟩
 ·refine ag0 hp (cM (T.item X rfl rfl rfl hc i pins s3 Z3 H3 X.xe I3 (stat fr3) st3 go) λr s4 hY=>?_);obtain⟨u,hr,h4⟩:=hY;subst hr;refine ag0 hp (cM h4 λ_ s5  hZ=>?_);obtain⟨x,H5,I5,r5,y5,st5,fr5⟩:=hZ;have I5':=I5.pinned (stat fr5) (T.obj _ _ st5);refine ag0 hp (cM (hg _ s5 Z3 H5 x u _ I5' r5 (step x H5 y5)) λ_ s6  hZ=>?_);obtain⟨Z6,H6,I6,q6⟩:=hZ;refine ag0 hp (cM (hb _ s6 Z6 H6 _ I6 q6) λf s7 q7=>?_);have again:∀{Z7:St} {H7:Hp},Inv X (pins++lS fp s5.heap) Z7 H7 s7->N Z7 H7->∃m,m<n/\∃i Z' H',Inv X pins Z' H' s7/\tn i s7.heap/\(∀b∈fp,H' b=none)/\W i m Z' H':=λ{Z7 H7} I7 n7=>by obtain⟨m',hm,w7⟩:=hN Z7 H7 n7;refine⟨m',hm,i+1,Z7,H7,I7.t8,T.keep _ _ _ st5 λb hb o e=>(I7.pin (b,o) (X2 _ (X2 _ (iB hb e)))).1,λb hb=>?_,w7⟩;obtain⟨o,e,d⟩:=T.obj _ _ st5 b hb;exact(I7.pin (b,o) (X2 _ (X2 _ (iB hb e)))).2.1
  cases f with
  |next=>obtain⟨Z7,H7,I7,n7⟩:=q7;exact again I7 n7
  |cont=>obtain⟨Z7,H7,I7,n7⟩:=q7;exact again I7 n7
  |brk=>obtain⟨Z7,H7,I7,q7⟩:=q7;exact⟨Z7,H7,I7.t8,q7⟩
  |ret v=>obtain⟨x7,Z7,H7,I7,r7,q7⟩:=q7;exact⟨x7,Z7,H7,I7.t8,r7,q7⟩
end
def Jo{K:PySem.W.Frag}{g:TG}{tb:TS}{D:Ends}(Pv:Nat->St->Hp->Prop)(h0:Pv 0 Z H)(hl:∀i Z H,i<=xs.length->Pv i Z H->bq K H a xs)
  (hs:∀i x Z H,xs[i]?=some x->Pv i Z H->g x Z H λZ2 H2=>tb { D with nx:=Pv (i+1),ct:=Pv (i+1),bk:=D.nx } Z2 H2) (hd:∀Z H,Pv xs.length Z H->D.nx Z H) :
  ∃W:Nat->Nat->St->Hp->Prop,(∃m,W 0 m Z H)/\∀i m Z H,W i m Z H ->
   ((SM K a).stop i H/\D.nx Z H)∨((SM K a).go i H/\∃N:St->Hp->Prop,(∀Z' H',N Z' H'->∃m',m'<m/\W (i+1) m' Z' H')/\∀x H',(SM K a).TV i H x H'->g x Z H' λZ2 H2=>tb { D with nx:=N,ct:=N,bk:=D.nx } Z2 H2):=by
 refine⟨λi m Z H=>m=xs.length-i/\i<=xs.length/\Pv i Z H,⟨xs.length,by simp,X5 _,h0⟩,?_⟩;rintro i m Z H ⟨rfl,hi,p⟩;have q:=hl i Z H hi p;by_cases hlt:i<xs.length
 ·refine .inr ⟨⟨xs,xs[i],q,by simp[hlt]⟩,Pv (i+1),λZ' H' p'=>⟨xs.length-(i+1),by lia,rfl,hlt,p'⟩,λx H' y=>?_⟩;obtain⟨e,y⟩:=y;subst e;exact hs i x Z _ (y xs q) p
 ·have e:i=xs.length:=by lia
  subst e;exact .inl ⟨⟨xs,q,M2 _⟩,hd Z H p⟩
def CU{lo:Int}{g:TG}{tb:TS}{D:Ends}(Pv:Nat->St->Hp->Prop)(h0:Pv 0 Z H)
  (hs:∀i Z H,i<n->Pv i Z H->g (.int (lo+i)) Z H λZ2 H2=>tb { D with nx:=Pv (i+1),ct:=Pv (i+1),bk:=D.nx } Z2 H2) (hd:∀Z H,Pv n Z H->D.nx Z H) :
  ∃W:Nat->Nat->St->Hp->Prop,(∃m,W 0 m Z H)/\∀i m Z H,W i m Z H ->
   ((OW lo n).stop i H/\D.nx Z H)∨((OW lo n).go i H/\∃N:St->Hp->Prop,(∀Z' H',N Z' H'->∃m',m'<m/\W (i+1) m' Z' H')/\∀x H',(OW lo n).TV i H x H'->g x Z H' λZ2 H2=>tb { D with nx:=N,ct:=N,bk:=D.nx } Z2 H2):=by
 refine⟨λi m Z H=>m=n-i/\i<=n/\Pv i Z H,⟨n,by simp,X5 _,h0⟩,?_⟩;rintro i m Z H ⟨rfl,hi,p⟩;by_cases hlt:i<n
 ·refine .inr ⟨hlt,Pv (i+1),λZ' H' p'=>⟨n-(i+1),by lia,rfl,hlt,p'⟩,λx H' y=>?_⟩;obtain⟨e,y⟩:=y;subst e y;exact hs i Z _ hlt p
 ·have e:i=n:=by lia
  subst e;exact .inl ⟨M2 _,hd Z H p⟩
abbrev R2:=V->V->Hp->VK->Prop
def mZ(X:Cx)(f:Value->Value->Sem Value)(r:R2):Prop :=
 ∀(pins:List (Addr×Obj)) (s:Shared) (Z:St) (H:Hp) (x y:V) (v u:Value) (Q:VK),Inv X pins Z H s->RelV x v->RelV y u->r x y H Q ->
  wpAny (model X.prog X.w) X.A (f v u) (EP X pins Z Q) X.xe s
def WW(X:Cx)(f:Value->Sem Value)(r:V->Hp->VK->Prop):Prop :=
 ∀(pins:List (Addr×Obj)) (s:Shared) (Z:St) (H:Hp) (x:V) (v:Value) (Q:VK),Inv X pins Z H s->RelV x v->r x H Q ->
  wpAny (model X.prog X.w) X.A (f v) (EP X pins Z Q) X.xe s
def gR(X:Cx)(f:Value)(r:List V->Hp->VK->Prop):Prop :=
 ∀(pins:List (Addr×Obj)) (s:Shared) (Z:St) (H:Hp) (xs:List V) (us:List Value) (Q:VK),Inv X pins Z H s->Vals xs us->r xs H Q ->
  wpAny (model X.prog X.w) X.A (call f us) (EP X pins Z Q) X.xe s
def Xl(X:Cx)(r:V->Hp->(Bool->Hp->Prop)->Prop):Prop :=
 ∀(pins:List (Addr×Obj)) (s:Shared) (Z:St) (H:Hp) (x:V) (v:Value) (Q:Bool->Hp->Prop),Inv X pins Z H s->RelV x v->r x H Q ->
  wpAny (model X.prog X.w) X.A (truthy v) (TP X pins Z Q) X.xe s
def TN(r:R2)(ta tb:TE):TE:=λZ H Q=>ta Z H λx H1=>tb Z H1 λy H2=>r x y H2 Q
def tUn(r:V->Hp->VK->Prop)(ta:TE):TE:=λZ H Q=>ta Z H λx H1=>r x H1 Q
inductive rI(C:Int->Int->Prop)(g:Int->Int->V)(x:V)(y:V)(H:Hp)(Q:VK):Prop|mk(i j)(_:x = .int i)(_:y = .int j)(_:C i j)(_:Q (g i j) H)
def rI_i{C:Int->Int->Prop}{g:Int->Int->V}{x:V}{y:V}:rI C g x y H Q↔∃i j,x = .int i/\y = .int j/\C i j/\Q (g i j) H:=by constructor <;> intro h <;> obtain⟨i,j,h0,h1,h2,h3⟩:=h <;> exact⟨i,j,h0,h1,h2,h3⟩
inductive Mq(g:Int->Int->V)(x:V)(y:V)(H:Hp)(Q:VK):Prop|mk(i j)(_:x = .int i)(_:y = .int j)(_:Q (g i j) H)
def Mq_i{g:Int->Int->V}{x:V}{y:V}:Mq g x y H Q↔∃i j,x = .int i/\y = .int j/\Q (g i j) H:=by constructor <;> intro h <;> obtain⟨i,j,h0,h1,h2⟩:=h <;> exact⟨i,j,h0,h1,h2⟩
inductive rU(g:Int->V)(x:V)(H:Hp)(Q:VK):Prop|mk(i)(_:x = .int i)(_:Q (g i) H)
def rU_i{g:Int->V}{x:V}:rU g x H Q↔∃i,x = .int i/\Q (g i) H:=by constructor <;> intro h <;> obtain⟨i,h0,h1⟩:=h <;> exact⟨i,h0,h1⟩
section
variable {X:Cx}{a b c:Expr}{ta tb tc:TE}{pos:Pos}
def Qs(ha:PE X a ta)(hb:PE X b tb){R:V->V->Hp->Prop}(I:Inv X pins Z H s)
  (h:ta Z H λx H1=>tb Z H1 λy H2=>R x y H2)  {f:Value->Value->Sem Value}
  (hf:∀v u s2 x y H2,Inv X pins Z H2 s2->RelV x v->RelV y u->R x y H2->wpAny (model X.prog X.w) X.A (f v u) Q X.xe s2) :
  wpAny (model X.prog X.w) X.A (eval a X.env) (λv s₁=>wpAny (model X.prog X.w) X.A (eval b X.env) (λu s₂=>wpAny (model X.prog X.w) X.A (f v u) Q X.xe s₂) X.xe s₁) X.xe s:=by
 refine cM (ha pins s Z H _ I h) λv s1  hZ=>?_;obtain⟨x,H1,I1,r1,q1⟩:=hZ;refine cM (hb pins s1 Z H1 _ I1 q1) λu s2  hZ=>?_;obtain⟨y,H2,I2,r2,q2⟩:=hZ;exact hf v u s2 x y H2 I2 r1 r2 q2
def bh{op:Operator}{r:R2}(ho:mZ X (binaryOp op) r)(ha:PE X a ta)(hb:PE X b tb):PE X (.BinOp a op b pos) (TN r ta tb):=by intro pins s Z H Q I h;exact wpAny_BinOp (Qs ha hb I h λv u s2 x y H2 I2 rx ry q=>ho pins s2 Z H2 x y v u Q I2 rx ry q)
def jJ(ho:WW X (unaryOp op) r)(ha:PE X a ta):PE X (.UnaryOp op a pos) (tUn r ta):=by intro pins s Z H Q I h;exact UnaryOp_ (cM (ha pins s Z H _ I h) λv s1 ⟨x,H1,I1,r1,q1⟩=>ho pins s1 Z H1 x v Q I1 r1 q1)
def Vt{g:Int->Int->Int}
  (rule:∀(i j:Int) (t u:Tok) (s:Shared) (Q:Value->Shared->Prop) (E:Value->Shared->Prop),C i j->Q (.int (g i j) s.toks) { s with toks:=s.toks+1 }->wpAny (model X.prog X.w) X.A (f (.int i t) (.int j u)) Q E s) :
  mZ X f (rI C λi j=>.int (g i j)):=by
 intro pins s Z H x y v u Q I rx ry h;obtain⟨i,j,rfl,rfl,hc,q⟩:=h;obtain⟨t,rfl⟩:=rx;obtain⟨t',rfl⟩:=ry;exact rule i j t t' s _ _ hc ⟨.int (g i j),H,I.tok _,⟨_,rfl⟩,q⟩
def Ub{g:Int->Int->Int}
  (rule:∀(i j:Int) (t u:Tok) (s:Shared) (Q:Value->Shared->Prop) (E:Value->Shared->Prop),Q (.int (g i j) s.toks) { s with toks:=s.toks+1 }->wpAny (model X.prog X.w) X.A (f (.int i t) (.int j u)) Q E s) :
  mZ X f (Mq λi j=>.int (g i j)):=by
 intro pins s Z H x y v u Q I rx ry h;obtain⟨i,j,rfl,rfl,q⟩:=h;obtain⟨t,rfl⟩:=rx;obtain⟨t',rfl⟩:=ry;exact rule i j t t' s _ _ ⟨.int (g i j),H,I.tok _,⟨_,rfl⟩,q⟩
def PY{g:Int->Int->Bool}
  (rule:∀(i j:Int) (t u:Tok) (s:Shared) (Q:Value->Shared->Prop) (E:Value->Shared->Prop),Q (.bool (g i j)) s->wpAny (model X.prog X.w) X.A (f (.int i t) (.int j u)) Q E s) :
  mZ X f (Mq λi j=>.bl (g i j)):=by
 intro pins s Z H x y v u Q I rx ry h;obtain⟨i,j,rfl,rfl,q⟩:=h;obtain⟨t,rfl⟩:=rx;obtain⟨t',rfl⟩:=ry;exact rule i j t t' s _ _ ⟨.bl (g i j),H,I,rfl,q⟩
def WY(i j:Int):Prop:=0<j/\j<1073741824
def Xj(i j:Int):Prop:=0<=j/\j<=1000000/\i.natAbs<2 ^ 64
def TL(i j:Int):Prop:=(-(2 ^ 64)<i/\i<2 ^ 64)∨(-(2 ^ 64)<j/\j<2 ^ 64)
def TL.ok(h:TL i j):IntMulOk i j:=by
 rcases h with ⟨h1,h2⟩|⟨h1,h2⟩
 ·exact .of_left (intBits_le_64 h1 h2)
 ·exact .of_right (intBits_le_64 h1 h2)
def Aw(k:Nat):(0:Int)<=2 ^ k:=by rw[two_pow_cast];exact Int.natCast_nonneg _
def bX:mZ X (binaryOp .Add) (Mq λi j=>.int (i+j)):=Ub λ_ _ _ _ _ _ _ q=>add_int q
def nP:mZ X (binaryOp .Sub) (Mq λi j=>.int (i-j)):=Ub λ_ _ _ _ _ _ _ q=>sub_int q
def nK:mZ X (binaryOp .Mult) (rI TL λi j=>.int (i*j)):=Vt λ_ _ _ _ _ _ _ hc q=>mul_int q hc.ok
def Lw:mZ X (binaryOp .FloorDiv) (rI WY λi j=>.int (i / j)):=Vt λi j _ _ _ _ _ hc q=>by have h1:(0:Int)<j:=hc.1;have h2:j<1073741824:=hc.2;exact floordiv_int (by lia) (by rw[Int.fdiv_eq_ediv_of_nonneg i (by lia)];exact q) (.inl (PyProof.noPylong_small (by lia)))
def lX:mZ X (binaryOp .Mod) (rI (λ_ j=>0<j) λi j=>.int (i % j)):=Vt λi j _ _ _ _ _ hc q=>by have h1:(0:Int)<j:=hc;exact mod_int' (by lia) (by rw[Int.fmod_eq_emod_of_nonneg i (by lia)];exact q)
def Sd:mZ X (binaryOp .Pow) (rI Xj λi j=>.int (i ^ j.toNat)):=Vt λ_ _ _ _ _ _ _ hc q=>pow_int_small hc.1 hc.2.1 hc.2.2 q
def Qn:mZ X (binaryOp .RShift) (rI (λ_ j=>0<=j) λi j=>.int (i / 2 ^ j.toNat)):=Vt λi j _ _ _ _ _ hc q =>
 rshift_int hc (by rw[Int.fdiv_eq_ediv_of_nonneg i (Aw _)];exact q)
def unI{g:Int->Int}
  (rule:∀(i:Int) (t:Tok) (s:Shared) (Q:Value->Shared->Prop) (E:Value->Shared->Prop),Q (.int (g i) s.toks) { s with toks:=s.toks+1 }->wpAny (model X.prog X.w) X.A (f (.int i t)) Q E s) :
  WW X f (rU λi=>.int (g i)):=by
 intro pins s Z H x v Q I rx h;obtain⟨i,rfl,q⟩:=h;obtain⟨t,rfl⟩:=rx;exact rule i t s _ _ ⟨.int (g i),H,I.tok _,⟨_,rfl⟩,q⟩
def gW:WW X (unaryOp .USub) (rU λi=>.int (-i)):=unI λ_ _ _ _ _ q=>neg_int q
end
def Vu:V->V->Bool
 |.cD,.cD=>true | .cD,.int _=>true | .int _,.cD=>true | .cD,.bl _=>true | .bl _,.cD=>true | .cD,.str _=>true | .str _,.cD=>true
 |.int _,.int _=>true | .bl _,.bl _=>true | .str _,.str _=>true | .byt _,.byt _=>true
 |.int _,.str _=>true | .str _,.int _=>true | .bl _,.str _=>true | .str _,.bl _=>true
 |_,_=>false
inductive rEq(x:V)(y:V)(H:Hp)(Q:VK):Prop|mk(_:Vu x y=true)(_:Q (.bl (decide (x=y))) H)
def rEq_i{x:V}{y:V}:rEq x y H Q↔Vu x y=true/\Q (.bl (decide (x=y))) H:=by constructor <;> intro h <;> obtain⟨h0,h1⟩:=h <;> exact⟨h0,h1⟩
inductive rNe(x:V)(y:V)(H:Hp)(Q:VK):Prop|mk(_:Vu x y=true)(_:Q (.bl (!decide (x=y))) H)
def rNe_i{x:V}{y:V}:rNe x y H Q↔Vu x y=true/\Q (.bl (!decide (x=y))) H:=by constructor <;> intro h <;> obtain⟨h0,h1⟩:=h <;> exact⟨h0,h1⟩
def Bp:decide (V.int i=V.int j)=(i == j):=by rw[ad4];simp
def IX:decide (V.bl i=V.bl j)=(i == j):=by rw[ad4];simp
def BL:decide (V.str i=V.str j)=(i == j):=by rw[ad4];simp
def Ba:decide (V.byt i=V.byt j)=(i.toList == j.toList):=by rw[ad4];cases i;cases j;simp
section
variable {X:Cx}{a b c:Expr}{ta tb tc:TE}{pos:Pos}
def bY(I:Inv X pins Z H s)(q:Q (.bl k) H)(e:k=k'):EP X pins Z Q (.bool k') s:=by subst e;exact⟨.bl k,H,I,rfl,q⟩
def bN:mZ X (compareOp .Eq) rEq:=by
 intro pins s Z H x y v u Q I rx ry h;obtain⟨hs,q⟩:=h;cases x with
 |cD =>
  cases rx;cases y with
  |cD=>cases ry;exact PySem.EqNone.eq_none_none (bY I q (by simp))
  |bl j=>cases ry;exact PySem.EqNone.eq_none_bool (bY I q (by simp))
  |int j=>obtain⟨t',rfl⟩:=ry;exact PySem.EqNone.eq_none_int (bY I q (by simp))
  |str j=>obtain⟨t',rfl⟩:=ry;exact PySem.EqNone.eq_none_str (bY I q (by simp))
  |_=>exact absurd (show false=true from hs) X4
 |bl i =>
  cases rx;cases y with
  |cD=>cases ry;exact PySem.EqNone.eq_bool_none (bY I q (by simp))
  |bl j=>cases ry;exact eq_bool (bY I q IX)
  |str j=>obtain⟨t',rfl⟩:=ry;exact PySem.EqMixed.eq_bool_str (bY I q (by simp))
  |_=>exact absurd (show false=true from hs) X4
 |int i =>
  obtain⟨t,rfl⟩:=rx;cases y with
  |cD=>cases ry;exact PySem.EqNone.eq_int_none (bY I q (by simp))
  |int j=>obtain⟨t',rfl⟩:=ry;exact eq_int (bY I q Bp)
  |str j=>obtain⟨t',rfl⟩:=ry;exact PySem.EqMixed.eq_int_str (bY I q (by simp))
  |_=>exact absurd (show false=true from hs) X4
 |str i =>
  obtain⟨t,rfl⟩:=rx;cases y with
  |cD=>cases ry;exact PySem.EqNone.eq_str_none (bY I q (by simp))
  |bl j=>cases ry;exact PySem.EqMixed.eq_str_bool (bY I q (by simp))
  |int j=>obtain⟨t',rfl⟩:=ry;exact PySem.EqMixed.eq_str_int (bY I q (by simp))
  |str j=>obtain⟨t',rfl⟩:=ry;exact eq_str (bY I q BL)
  |_=>exact absurd (show false=true from hs) X4
 |byt i =>
  obtain⟨t,rfl⟩:=rx;cases y with
  |byt j=>obtain⟨t',rfl⟩:=ry;exact PySem.W.eq_bytes (bY I q Ba)
  |_=>exact absurd (show false=true from hs) X4
 |_=>cases y <;> exact absurd (show false=true from hs) X4
def kJ:mZ X (compareOp .NotEq) rNe:=by
 intro pins s Z H x y v u Q I rx ry h;obtain⟨hs,q⟩:=h;cases x with
 |cD =>
  cases rx;cases y with
  |cD=>cases ry;exact PySem.EqNone.ne_none_none (bY I q (by simp))
  |bl j=>cases ry;exact PySem.EqNone.ne_none_bool (bY I q (by simp))
  |int j=>obtain⟨t',rfl⟩:=ry;exact PySem.EqNone.ne_none_int (bY I q (by simp))
  |str j=>obtain⟨t',rfl⟩:=ry;exact PySem.EqNone.ne_none_str (bY I q (by simp))
  |_=>exact absurd (show false=true from hs) X4
 |bl i =>
  cases rx;cases y with
  |cD=>cases ry;exact PySem.EqNone.ne_bool_none (bY I q (by simp))
  |bl j=>cases ry;exact ne_bool (bY I q (ac1 not IX))
  |str j=>obtain⟨t',rfl⟩:=ry;exact PySem.EqMixed.ne_bool_str (bY I q (by simp))
  |_=>exact absurd (show false=true from hs) X4
 |int i =>
  obtain⟨t,rfl⟩:=rx;cases y with
  |cD=>cases ry;exact PySem.EqNone.ne_int_none (bY I q (by simp))
  |int j=>obtain⟨t',rfl⟩:=ry;exact ne_int (bY I q (ac1 not Bp))
  |str j=>obtain⟨t',rfl⟩:=ry;exact PySem.EqMixed.ne_int_str (bY I q (by simp))
  |_=>exact absurd (show false=true from hs) X4
 |str i =>
  obtain⟨t,rfl⟩:=rx;cases y with
  |cD=>cases ry;exact PySem.EqNone.ne_str_none (bY I q (by simp))
  |bl j=>cases ry;exact PySem.EqMixed.ne_str_bool (bY I q (by simp))
  |int j=>obtain⟨t',rfl⟩:=ry;exact PySem.EqMixed.ne_str_int (bY I q (by simp))
  |str j=>obtain⟨t',rfl⟩:=ry;exact ne_str (bY I q (ac1 not BL))
  |_=>exact absurd (show false=true from hs) X4
 |byt i =>
  obtain⟨t,rfl⟩:=rx;cases y with
  |byt j=>obtain⟨t',rfl⟩:=ry;exact PySem.W.ne_bytes (bY I q (ac1 not Ba))
  |_=>exact absurd (show false=true from hs) X4
 |_=>cases y <;> exact absurd (show false=true from hs) X4
def ie:mZ X (compareOp .Lt) (Mq λi j=>.bl (decide (i<j))):=PY λ_ _ _ _ _ _ _ q=>lt_int q
def j7:mZ X (compareOp .Gt) (Mq λi j=>.bl (decide (j<i))):=PY λ_ _ _ _ _ _ _ q=>gt_int q
def Ov:mZ X (compareOp .GtE) (Mq λi j=>.bl (decide (j<=i))):=PY λ_ _ _ _ _ _ _ q=>ge_int q
def ql:mZ X (compareOp .In) (λx y H Q=>∃i j,x = .str i/\y = .str j/\Q (.bl (!(Builtin.Str.occurrences j i 0 j.length 1).isEmpty)) H):=by intro pins s Z H x y v u Q I rx ry h;obtain⟨i,j,rfl,rfl,q⟩:=h;obtain⟨t,rfl⟩:=rx;obtain⟨t',rfl⟩:=ry;exact in_str (bY I q rfl)
def qA:mZ X (compareOp .Is) (λx y H Q=>y = .cD/\Q (.bl (decide (x = .cD))) H):=by
 intro pins s Z H x y v u Q I rx ry h;obtain⟨rfl,q⟩:=h;cases ry;refine is_none_gen (bY I q ?_);cases x <;> first
  | (cases rx;rfl)
  | (obtain⟨t,rfl⟩:=rx;rfl)
def iY:mZ X (compareOp .IsNot) (λx y H Q=>y = .cD/\Q (.bl (!decide (x = .cD))) H):=by
 intro pins s Z H x y v u Q I rx ry h;obtain⟨rfl,q⟩:=h;cases ry;refine isnot_none_gen (bY I q ?_);cases x <;> first
  | (cases rx;rfl)
  | (obtain⟨t,rfl⟩:=rx;rfl)
def vN:mZ X (compareOp .NotIn) (λx y H Q=>∃i j,x = .str i/\y = .str j/\Q (.bl (!(!(Builtin.Str.occurrences j i 0 j.length 1).isEmpty))) H):=by intro pins s Z H x y v u Q I rx ry h;obtain⟨i,j,rfl,rfl,q⟩:=h;obtain⟨t,rfl⟩:=rx;obtain⟨t',rfl⟩:=ry;exact notIn_str (bY I q rfl)
def aD(b:Expr)(h:autoParam (op ≠ .In) L2.Y1._auto_1)(h2:autoParam (op ≠ .NotIn) L2.Y1._auto_1):behindInMarks op b=false:=by
 have e1:(op == CmpOp.In)=false:=by cases op <;> first | rfl | exact absurd rfl h
 have e2:(op == CmpOp.NotIn)=false:=by cases op <;> first | rfl | exact absurd rfl h2
 cases b <;> simp[behindInMarks,e1,e2]
def cB{op:CmpOp}{r:R2}(ho:mZ X (compareOp op) r)(ha:PE X a ta)(hb:PE X b tb)(hm:behindInMarks op b=false):PE X (.Compare a [op] [b] pos) (TN r ta tb):=by intro pins s Z H Q I h;exact wpAny_Compare1 (Qs ha hb I h λv u s2 x y H2 I2 rx ry q=>ho pins s2 Z H2 x y v u Q I2 rx ry q) hm
def NV(t:TE):TT:=λZ H Q=>t Z H λx H'=>∃k,x = .bl k/\Q k H'
def aB(ho:mZ X (compareOp op) r)(ha:PE X a ta)(hb:PE X b tb)(hm:behindInMarks op b=false):PT X (.Compare a [op] [b] pos) (NV (TN r ta tb)):=by
 intro pins s Z H Q I h;refine wpAny_isTrue_Compare1 (cM (ha pins s Z H _ I h) λv s1 ⟨x,H1,I1,r1,q1⟩=>cM (hb pins s1 Z H1 _ I1 q1) λu s2 ⟨y,H2,I2,r2,q2⟩ =>
  cM (ho pins s2 Z H2 x y v u _ I2 r1 r2 q2) λc s3 ⟨z,H3,I3,r3,k,e,q3⟩=>?_) hm
 subst e;cases r3;exact ae3 ⟨H3,I3,q3⟩
def KH(K:PySem.W.Frag)(x:V)(H:Hp)(k:Bool):Prop :=
 match x with
 |.cD=>k=false
 |.bl b=>k=b
 |.int i=>k=(i != 0)
 |.str y=>y.length<=sizeLine/\k=((y.length:Int) != 0)
 |.byt y=>y.size<=sizeLine/\k=((y.size:Int) != 0)
 |.ref p=>(∃xs,bq K H p xs/\k = !xs.isEmpty)∨(∃xs,fB K H p xs/\k = !xs.isEmpty)∨∃kvs,H p=some (.dK kvs)/\k = !kvs.isEmpty
 |_=>False
def Aa(r:KV kvs vs):(!vs.isEmpty) = !kvs.isEmpty:=by cases r <;> rfl
def sS(r:Vals xs its):(!its.toArray.isEmpty) = !xs.isEmpty:=by cases r <;> simp
def nE:(sizeLine:Nat)<2 ^ 63:=by rw[ac0];decide
def F0:Xl X (λx H Q=>∃k,KH X.K x H k/\Q k H):=by
 intro pins s Z H x v Q I rx h;obtain⟨k,e,q⟩:=h;have hl:=nE;have hs:sizeLine=16777216:=ac0;cases x with
 |cD =>
  cases rx;have e':k=false:=e;subst e';exact truthy_none ⟨H,I,q⟩
 |bl b =>
  cases rx;have e':k=b:=e;subst e';exact ae3 ⟨H,I,q⟩
 |int i =>
  obtain⟨t,rfl⟩:=rx;have e':k=(i != 0):=e;subst e';exact PySem.P.truthy_int ⟨H,I,q⟩
 |str y =>
  obtain⟨t,rfl⟩:=rx;obtain⟨hy,e'⟩:y.length<=sizeLine/\k=((y.length:Int) != 0):=e;subst e';exact PySem.P.truthy_str (by lia) ⟨H,I.tok _,q⟩
 |byt y =>
  obtain⟨t,rfl⟩:=rx;obtain⟨hy,e'⟩:y.size<=sizeLine/\k=((y.size:Int) != 0):=e;subst e';exact PySem.W.truthy_bytes (by lia) ⟨H,I.tok _,q⟩
 |ref p =>
  cases rx;have e':(∃xs,bq X.K H p xs/\k = !xs.isEmpty)∨(∃xs,fB X.K H p xs/\k = !xs.isEmpty)∨∃kvs,H p=some (.dK kvs)/\k = !kvs.isEmpty:=e;rcases e' with ⟨xs,hx,e'⟩|⟨xs,hx,e'⟩|⟨kvs,hx,e'⟩
  ·subst e';obtain⟨its,r,pl,hz⟩:=I.list hx;have hlen:=r.length;exact wpAny_truthy_list pl.isList (by simp only[P3];lia) ⟨H,I.tok _,by rw[sS r];exact q⟩
  ·subst e';obtain⟨its,r,pl,hz⟩:=I.tuple hx;have hlen:=r.length;exact truthy_tuple pl (by simp only[P3];lia) ⟨H,I.tok _,by rw[sS r];exact q⟩
  ·subst e';obtain⟨hz,hS,vs,r,m⟩:kvs.length<=sizeLine/\(p == sysModules)=false/\∃vs,KV kvs vs/\s.heap.DictOf (cu X.prog X.w) p vs:=I.hok p _ hx;have hlen:kvs.length=vs.length:=Paired.length r;exact wpAny_truthy_dict hS m (by lia) ⟨H,I.tok _,by rw[Aa r];exact q⟩
 |_=>exact(show False from e).elim
def fY(ha:PE X a ta)(he:∀whole,isTrue a X.env whole=(do let v ← whole;standAt a.pos;holding [v] (truthy v))) :
  PT X a (λZ H Q=>ta Z H λx H'=>∃k,KH X.K x H' k/\Q k H'):=by
 intro pins s Z H Q I h;exact isTrue_plain (cM (ha pins s Z H _ I h) λv s1 ⟨x,H1,I1,r1,q1⟩=>F0 pins s1 Z H1 x v Q I1 r1 q1) (he _)
def iC:mZ X (binaryOp .Add) (λx y H Q=>∃i j,x = .str i/\y = .str j/\i.length+j.length<=sizeLine/\Q (.str (i++j)) H):=by intro pins s Z H x y v u Q I rx ry h;obtain⟨i,j,rfl,rfl,hz,q⟩:=h;obtain⟨t,rfl⟩:=rx;obtain⟨t',rfl⟩:=ry;exact add_str (λt' tk=>⟨.str (i++j),H,I.tok _,⟨_,rfl⟩,q⟩) hz
def vals1(r:Vals [x] us):∃u,us=[u]/\RelV x u:=by
 cases r with
 |cons r1 r2=>cases r2;exact⟨_,rfl,r1⟩
def vals2(r:Vals [x,y] us):∃u w',us=[u,w']/\RelV x u/\RelV y w':=by
 cases r with
 |cons r1 r2 =>
  cases r2 with
  |cons r3 r4=>cases r4;exact⟨_,_,rfl,r1,r3⟩
def CL (hc:X.calm=true):gR X (.builtin "max") (λxs H Q=>∃i j,xs=[.int i,.int j]/\Q (.int (if j>i then j else i)) H):=by
 intro pins s Z H xs us Q I r h;obtain⟨i,j,rfl,q⟩:=h;obtain⟨u,w',rfl,⟨t,rfl⟩,⟨t',rfl⟩⟩:=vals2 r;refine max_two_ints (I.ok.hd hc) λh' tk k=>⟨_,H,I.kept k,?_,q⟩
 by_cases hj:j>i
 ·rw[if_pos hj,if_pos hj];exact⟨_,rfl⟩
 ·rw[if_neg hj,if_neg hj];exact⟨_,rfl⟩
def mD:gR X (.type "int") (λxs H Q=>(∃i,xs=[.int i]/\Q (.int i) H)∨∃k,xs=[.bl k]/\Q (.int (if k then 1 else 0)) H):=by
 intro pins s Z H xs us Q I r h;rcases h with ⟨i,rfl,q⟩|⟨k,rfl,q⟩
 ·obtain⟨u,rfl,t,rfl⟩:=vals1 r;exact call_int_int ⟨.int i,H,I,⟨_,rfl⟩,q⟩
 ·obtain⟨u,rfl,r1⟩:=vals1 r;cases r1;exact call_int_bool ⟨.int (if k then 1 else 0),H,I.tok _,⟨_,rfl⟩,q⟩
end
structure AK(h:Heap)(x dx C:Addr)(mA:Str->Option Value):Prop where
 obj:h.get? x=some (PySem.W.instObj C dx)
 ns:h.Ns1 dx mA
 ne:dx≠x
def jZ{h:Heap}(n:h.Ns1 dx mA):∃od,h.get? dx=some od/\∀name,PySem.W.lookIn name od=some (mA name):=by
 obtain⟨o,es,ep,ho,hd,hk,_,hm⟩:=n;refine⟨o,ho,λname=>?_⟩;have e:=hm name;unfold nsFind findBy at e;rw[← Array.find?_toList] at e;unfold PySem.W.lookIn;rw[hd];dsimp only;split
 ·rename_i y q;rw[q] at e;exact ac1 some e
 ·rename_i q;rw[q] at e;have a:es.toList.any (·.refKey)=false:=by rw[List.any_eq_false];intro y hy;obtain⟨z,t,hkey⟩:=hk y (Array.mem_toList_iff.mp hy);simp[DictEntry.refKey,hkey]
  have a':¬ es.toList.any (·.refKey)=true:=by rw[a];exact X4
  rw[if_neg a'];exact ac1 some e
def AK.look(I:AK h x dx C mA):∃od,PySem.W.InstAt h x (PySem.W.instObj C dx) C (some od)/\∀name,PySem.W.lookIn name od=some (mA name) :=
 let ⟨od,ho,hl⟩:=jZ I.ns
 ⟨od,⟨I.obj,rfl,rfl,ho⟩,hl⟩
section
variable {prog:Program}{w:World}{A:Around}{E:Value->Shared->Prop}{s:Shared}{K:PySem.W.Frag}{x dx C f:Addr}{mA:Str->Option Value}{name:Str}{v:Value}
def get_map(X:K.In s.heap)(I:AK s.heap x dx C mA)(hg:PySem.W.plainGet K C name=true)(hh:PySem.W.hasDictIn K C=true)
  (ha:PySem.W.findIn K (.ref C) name=some none) (hv:mA name=some v) (hv':PySem.W.handedIn v=true) (h:Q v { s with toks:=s.toks+1 }) :
  wpAny (model prog w) A (getAttr (.ref x) name expr) Q E s:=by
 obtain⟨od,J,hl⟩:=I.look;exact PySem.W.get_value X J (PySem.W.plainGet_of hg).1 (PySem.W.findObj_own hh ha rfl (by rw[hl,hv])) hv' h
def IE(X:K.In s.heap)(I:AK s.heap x dx C mA)(hg:PySem.W.plainGet K C name=true)
  (hf:PySem.W.findIn K (.ref C) name=some (some (.ref f))) (ht:PySem.W.isFn K (.ref f)=true) (hv:mA name=none) (h:Q (.ref f,[.ref x]) s) :
  wpAny (model prog w) A (getMethod (.ref x) name pl) Q E s:=by
 obtain⟨od,J,hl⟩:=I.look;exact PySem.W.method_fn X J (PySem.W.plainGet_of hg).1 (PySem.W.plainGet_of hg).2 hf (beq_iff_eq.mp ht) (by show (PySem.W.lookIn name od).map (·.isSome)=some false;rw[hl,hv];rfl) h
def J7(X:K.In s.heap)(I:AK s.heap x dx C mA)
  (hs:PySem.W.findIn K (.ref C) "__setattr__" = some (some (.builtin "object.__setattr__"))) (hp:PySem.W.plainOver K C=true) (ht:PySem.W.takerIn K C name=some none) (hh:PySem.W.hasDictIn K C=true)
  (hw:PySem.Within mA ns) (hsz:ns.length<=sizeLine)
  (h:∀h',AK h' x dx C (λy=>if y=name then some v else mA y)->Heap.SameBut dx s.heap h'->Q () { s with heap:=h',toks:=s.toks+2 }) :
  wpAny (model prog w) A (setAttr (.ref x) name v) Q E s:=by
 obtain⟨od,J,hl⟩:=I.look;refine PySem.W.set_plain X J hs (PySem.W.osa_open (s:={ s with toks:=s.toks+1 }) (r:=none) X J hp ht λb=>?_);obtain⟨cd,hc,hd'⟩:=PySem.W.any_some hh;have hx:s.heap.get? x=some ⟨.ref C,some dx,.plain,#[]⟩:=I.obj;refine v3 (T1 (v3 (v3 (wpAny_loadPart hx (v3 (PySem.W.Looks.here (s:={ s with toks:=s.toks+1 }) (PySem.W.looks_clsIn X hc) ?_))))));rw[hd'];refine T1 (a:=some dx) (v3 (T1 (v3 ?_)));refine wpAny_nsSet1 (s:={ s with toks:=s.toks+1 }) I.ns λh' hn2 hs2=>?_;obtain⟨oD,esD,epD,hoD,hdD,hcD⟩:=hn2.count (PySem.Within.cons name v hw);refine v3 (wpAny_lookBehind hoD (by rw[hdD];exact pastItsLine_dict (X6 hcD (by rw[x0];lia))) ?_);exact T1 (h _ ⟨(hs2.2 _ (aa3 I.ne)).trans I.obj,hn2,I.ne⟩ hs2)
def yN(X:K.In s.heap)(hm:PySem.W.makesIn K C=true)
  (hi:PySem.W.findIn K (.ref C) "__init__" = some (some (.ref f))) (hf:PySem.W.typeIn K (.ref f)=some (.type "function"))
  (h:codeAny (model prog w) (A.under (.builtin "type.__call__" ⟨.ref C::vs,kw⟩)) (.call (.ref f) ⟨.ref (s.heap.objs.size+1)::vs,kw⟩) (PySem.W.InitBack (s.heap.objs.size+1) R)
   { s with heap:=(s.heap.push PySem.W.emptyDict).push (PySem.W.instObj C s.heap.objs.size) }) :
  codeAny (model prog w) A (.call (.ref C) ⟨vs,kw⟩) R s:=by
 obtain⟨hh,g,d,t,os⟩:=s;exact PySem.W.make_core (PySem.W.makes_of X hm) (PySem.W.looks_findIn X hi) (λself=>PySem.W.bind_fn X self hf) (.inl rfl) h
def CK(X:K.In s.heap)(hm:PySem.W.makesIn K C=true)
  (hi:PySem.W.findIn K (.ref C) "__init__" = some (some (.builtin "object.__init__")))
  (hb:∀self,PySem.W.Looks (model prog w) s.heap (bindSpecial (.builtin "object.__init__") self) (.builtin "object.__init__",[self]))
  (h:codeAny (model prog w) (A.under (.builtin "type.__call__" ⟨[.ref C],[]⟩)) (.call (.builtin "object.__init__") ⟨[.ref (s.heap.objs.size+1)],[]⟩) (PySem.W.InitBack (s.heap.objs.size+1) R)
   { s with heap:=(s.heap.push PySem.W.emptyDict).push (PySem.W.instObj C s.heap.objs.size) }) :
  codeAny (model prog w) A (.call (.ref C) ⟨[],[]⟩) R s:=by
 obtain⟨hh,g,d,t,os⟩:=s;exact PySem.W.make_core (PySem.W.makes_of X hm) (PySem.W.looks_findIn X hi) hb (.inr ⟨rfl,rfl⟩) h
end
def dj(f:Str)(v:V):List (Str×V)->List (Str×V)
 | []=>[(f,v)]
 | (g,x)::r=>if g=f then (g,v)::r else (g,x)::dj f v r
theorem qL(f g:Str)(v:V):∀fs:List (Str×V),(dj f v fs).lookup g=if g=f then some v else fs.lookup g
 | []=>by
  show List.lookup g [(f,v)]=_;by_cases h:g=f
  ·have hb:(g == f)=true:=beq_iff_eq.mpr h;simp only[List.lookup,hb,if_pos h]
  ·have hb:(g == f)=false:=beq_eq_false_iff_ne.mpr h;simp only[List.lookup,hb,if_neg h]
 | (k,x)::r=>by
  have ih:=qL f g v r;rw[show dj f v ((k,x)::r)=(if k=f then (k,v)::r else (k,x)::dj f v r) from rfl];by_cases hk:k=f
  ·rw[if_pos hk];by_cases h:g=k
   ·have hb:(g == k)=true:=beq_iff_eq.mpr h;simp only[List.lookup,hb,if_pos (h.trans hk)]
   ·have hb:(g == k)=false:=beq_eq_false_iff_ne.mpr h;simp only[List.lookup,hb,if_neg (λe:g=f=>h (e.trans hk.symm))]
  ·rw[if_neg hk];by_cases h:g=k
   ·have hb:(g == k)=true:=beq_iff_eq.mpr h;simp only[List.lookup,hb,if_neg (λe:g=f=>hk (h.symm.trans e))]
   ·have hb:(g == k)=false:=beq_eq_false_iff_ne.mpr h;simp only[List.lookup,hb];exact ih
theorem pO(f:Str)(v:V):∀fs:List (Str×V),f∈(dj f v fs).map (·.1)/\∀g,g∈fs.map (·.1)->g∈(dj f v fs).map (·.1)
 | []=>⟨by simp[dj],λg h=>by simp at h⟩
 | (k,x)::r=>by
  obtain⟨i1,i2⟩:=pO f v r;rw[show dj f v ((k,x)::r)=(if k=f then (k,v)::r else (k,x)::dj f v r) from rfl];by_cases hk:k=f
  ·rw[if_pos hk];subst hk;exact⟨by simp,λg h=>by simpa using h⟩
  ·rw[if_neg hk];refine⟨?_,λg h=>?_⟩
   ·rw[Y5];exact D1 _ i1
   ·rw[Y5] at h ⊢;rcases y0.mp h with e|e
    ·exact y0.mpr (.inl e)
    ·exact D1 _ (i2 g e)
theorem qM(f:Str)(v:V):∀fs:List (Str×V),(dj f v fs).length<=fs.length+1
 | []=>by simp[dj]
 | (k,x)::r=>by
  have ih:=qM f v r;rw[show dj f v ((k,x)::r)=(if k=f then (k,v)::r else (k,x)::dj f v r) from rfl];by_cases hk:k=f
  ·rw[if_pos hk,x0,x0];lia
  ·rw[if_neg hk,x0,x0];lia
def jh.some_of(r:jh (some v) o):∃u,o=some u/\RelV v u:=by
 cases o with
 |none=>exact(show False from r).elim
 |some u=>exact⟨u,rfl,r⟩
def jh.none_of(r:jh none o):o=none:=by
 cases o with
 |none=>rfl
 |some u=>exact(show False from r).elim
def vm(r:RelV v u):PySem.W.handedIn u=true:=by
 cases v with
 |cD=>cases (show u=Value.none from r);rfl
 |bl b=>cases (show u=Value.bool b from r);rfl
 |int i=>obtain⟨t,e⟩:=(show ∃t,u=Value.int i t from r);cases e;rfl
 |str x=>obtain⟨t,e⟩:=(show ∃t,u=Value.str x t from r);cases e;rfl
 |byt b=>obtain⟨t,e⟩:=(show ∃t,u=Value.bytes b t from r);cases e;rfl
 |D7 b=>obtain⟨t,e⟩:=(show ∃t,u=Value.float b t from r);cases e;rfl
 |ref a=>cases (show u=Value.ref a from r);rfl
 |ty n=>cases (show u=Value.type n from r);rfl
section
variable {P:Program}{w:World}{H H':Hp}{h h':Heap}{a C dx:Addr}{fs fs':List (Str×V)}
def rG(hok:kc P w H h)(e:H a=some (.ins C dx fs)):∃mA,AK h a dx C mA/\(∀f,jh (fs.lookup f) (mA f))/\PySem.Within mA (fs.map (·.1))/\fs.length<=1000/\H dx=some (.own a):=by
 obtain⟨d,z,ne,ob,mA,n,r,q⟩:=(show b9 P w H h a (.ins C dx fs) from hok a _ e)
 exact⟨mA,⟨ob,n,ne⟩,r,q,z,d⟩
end
structure ny(K:PySem.W.Frag)(C:Addr):Prop where
 pg:PySem.W.plainGet K C Str.empty=true
 hd:PySem.W.hasDictIn K C=true
 po:PySem.W.plainOver K C=true
 sa:PySem.W.findIn K (.ref C) "__setattr__" = some (some (.builtin "object.__setattr__"))
def ny.get{K:PySem.W.Frag}(c:ny K C)(f:Str):PySem.W.plainGet K C f=true:=c.pg
def bC(K:PySem.W.Frag)(C:Addr)(f:Str):Prop:=PySem.W.findIn K (.ref C) f=some none
def bC.Vg{K:PySem.W.Frag}(n:bC K C f):PySem.W.takerIn K C f=some none:=by unfold PySem.W.takerIn;rw[show PySem.W.findIn K (.ref C) f=some none from n];rfl
structure Meth(K:PySem.W.Frag)(C:Addr)(m:Str)(f:Addr):Prop where
 at_:PySem.W.findIn K (.ref C) m=some (some (.ref f))
 fn:PySem.W.isFn K (.ref f)=true
 kp:PySem.W.keepIn K (.ref f)=true
section
variable {X:Cx}{pins:List (Addr×Obj)}{Z:St}{H:Hp}{s:Shared}{a C dx:Addr}{fs:List (Str×V)}{f:Str}{v:V}{A:Around}{E:Value->Shared->Prop}
def rT(I:Inv X pins Z H s)(e:H a=some (.ins C dx fs))(c:ny X.K C)(n:bC X.K C f)(l:fs.lookup f=some v)
  (h:∀u s',Inv X pins Z H s'->RelV v u->Q u s'):wpAny (model X.prog X.w) A (getAttr (.ref a) f b) Q E s:=by
 obtain⟨mA,O,r,_,_,_⟩:=rG I.hok e;obtain⟨u,hu,ru⟩:=jh.some_of (v:=v) (o:=mA f) (by rw[← l];exact r f);exact get_map I.iU O (c.get f) c.hd n hu (vm ru) (h u _ (I.tok _) ru)
def kF(I:Inv X pins Z H s)(e:H a=some (.ins C dx fs))(c:ny X.K C)(k:Meth X.K C m g)(l:fs.lookup m=none)
  (h:Q (.ref g,[.ref a]) s):wpAny (model X.prog X.w) A (getMethod (.ref a) m pl) Q E s:=by
 obtain⟨mA,O,r,_,_,_⟩:=rG I.hok e;have hn:mA m=none:=jh.none_of (by rw[← l];exact r m);exact IE I.iU O (c.get m) k.at_ k.fn hn h
def tu(I:Inv X pins Z H s)(e:H a=some (.ins C dx fs))(c:ny X.K C)(n:bC X.K C f)(hl:fs.length<1000)(ry:RelV y u)
  (h:∀s',Inv X pins Z (upd H a (.ins C dx (dj f y fs))) s'->Q () s'):wpAny (model X.prog X.w) A (setAttr (.ref a) f u) Q E s:=by
 obtain⟨mA,O,r,wi,_,ho⟩:=rG I.hok e;have hz:(fs.map (·.1)).length<=sizeLine:=by rw[d6,ac0];lia
 refine J7 I.iU O c.sa c.po n.Vg c.hd wi hz λh' O' sb=>h _ ?_;have hd:∃o,h'.get? dx=some o:=let ⟨o,_,_,e',_⟩:=O'.ns;⟨o,e'⟩;refine I.write (x:=a) (e:=dx) (by rw[e];exact True.intro) (.inr ho) (λb q hb z=>(sb.2 b hb).trans z) hd ?_;refine⟨by rw[aj O.ne];exact ho,?_,O.ne,O'.obj,_,O'.ns,λg=>?_,λg hg=>?_⟩
 ·have:=qM f y fs;lia
 ·show jh ((dj f y fs).lookup g) (if g=f then some u else mA g);rw[qL];by_cases q:g=f
  ·rw[if_pos q,if_pos q];exact ry
  ·rw[if_neg q,if_neg q];exact r g
 ·by_cases q:g=f
  ·rw[q];exact(pO f y fs).1
  ·refine(pO f y fs).2 g (wi g λz=>hg ?_);show (if g=f then some u else mA g)=none;rw[if_neg q];exact z
def Inv.made(I:Inv X pins Z H s):Inv X pins Z (upd (upd H s.heap.objs.size (.own (s.heap.objs.size+1))) (s.heap.objs.size+1) (.ins C s.heap.objs.size []))
  { s with heap:=(s.heap.push PySem.W.emptyDict).push (PySem.W.instObj C s.heap.objs.size) }:=by
 have e1:(s.heap.push PySem.W.emptyDict).get? s.heap.objs.size=some PySem.W.emptyDict:=Z0 s.heap rfl;have e2:((s.heap.push PySem.W.emptyDict).push (PySem.W.instObj C s.heap.objs.size)).get? (s.heap.objs.size+1)=some (PySem.W.instObj C s.heap.objs.size):=by have:=Z0 (s.heap.push PySem.W.emptyDict) (o:=PySem.W.instObj C s.heap.objs.size) rfl;rwa [ai7] at this
 have e3:(s.heap.push PySem.W.emptyDict).Ns s.heap.objs.size (λ_=>none):=⟨PySem.W.emptyDict,#[],_,e1,rfl,(λe he=>absurd he (by simp)),λ_=>rfl⟩
 have I1:=I.laid (a:=s.heap.objs.size) (o:=.own (s.heap.objs.size+1)) (h':=s.heap.push PySem.W.emptyDict) (t':=s.toks) (λb u q=>u3 _ q) (M2 _) ⟨_,e1⟩;refine I1.laid (a:=s.heap.objs.size+1) (o:=.ins C s.heap.objs.size []) (t':=s.toks) (λb u q=>u3 _ q) (aj5 (ai7 _ _)) ?_;have ne:s.heap.objs.size≠s.heap.objs.size+1:=T0 (ai9 _);refine⟨by rw[aj ne,af],X5 _,ne,e2,λ_=>none,(Heap.Ns1.of_empty e3).at λo q=>u3 _ q,λ_=>True.intro,λy hy=>absurd rfl hy⟩
def Ct(hb:attributeBase e f env (eval e env)=eval e env)
  (h:wpAny (model prog w) A (eval e env) (λo s₁=>wpAny (model prog w) A (getAttr o f true) Q E s₁) E s):wpAny (model prog w) A (eval (.Attribute e f pos) env) Q E s :=
 Attribute_any_ h (by rw[arm_eval_Attribute,hb])
end
def Pk(K:PySem.W.Frag)(ta:TE)(f:Str):TE:=λZ H Q=>ta Z H λx H1=>∃a C dx fs v,x = .ref a/\H1 a=some (.ins C dx fs)/\ny K C/\bC K C f/\fs.lookup f=some v/\Q v H1
def Wz(K:PySem.W.Frag)(ta tv:TE)(f:Str):TS:=λD Z H=>tv Z H λy H1=>ta Z H1 λx H2=>∃a C dx fs,x = .ref a/\H2 a=some (.ins C dx fs)/\ny K C/\bC K C f/\fs.length<1000 /\
 D.nx Z (upd H2 a (.ins C dx (dj f y fs)))
def Uk(X:Cx)(op:Operator)(rd:V->V->Hp->VK->Prop):Prop :=
 ∀(pins:List (Addr×Obj)) (s:Shared) (Z:St) (H:Hp) (x y:V) (u v:Value) (Q:VK),Inv X pins Z H s->RelV x u->RelV y v->rd x y H Q->wpAny (model X.prog X.w) X.A (inplaceOp op u v) (EP X pins Z Q) X.xe s
def Kz(K:PySem.W.Frag)(ta tv:TE)(rd:V->V->Hp->VK->Prop)(f:Str):TS:=λD Z H=>ta Z H λx H1=>∃a C dx fs v,x = .ref a/\H1 a=some (.ins C dx fs)/\ny K C/\bC K C f/\fs.lookup f=some v /\
 tv Z H1 λy H2=>rd v y H2 λz H3=>∃dx' fs',H3 a=some (.ins C dx' fs')/\fs'.length<1000/\D.nx Z (upd H3 a (.ins C dx' (dj f z fs')))
section
variable {X:Cx}{o e value:Expr}{f:Str}{pos pos' tpos:Pos}{ta tv:TE}
def aJ(he:PE X e ta)(hb:attributeBase e f X.env (eval e X.env)=eval e X.env):PE X (.Attribute e f pos) (Pk X.K ta f):=by intro pins s Z H Q I h;refine Ct hb (cM (he pins s Z H _ I h) λu s1  hZ=>?_);obtain⟨x,H1,I1,rx,a,C,dx,fs,v,ex,ea,c,n,l,q⟩:=hZ;subst ex;obtain rfl:u=Value.ref a:=rx;exact rT I1 ea c n l λu' s2 I2 ru=>⟨v,H1,I2,ru,q⟩
def bT(ha:PE X o ta)(hv:PE X value tv)(hs:swapsWith value (some (.Attribute o f pos')) pos.line X.env=pure false):PS X (.Assign [.Attribute o f pos'] value pos) (Wz X.K ta tv f):=by intro pins s Z H D I h;refine plainObj_wpAny_Assign_Attribute (cM (hv pins s Z H _ I h) λu s1 ⟨y,H1,I1,ry,q⟩=>cM (ha pins s1 Z H1 _ I1 q) λov s2 hY=>?_) hs;obtain⟨x,H2,I2,rx,a,C,dx,fs,ex,ea,c,n,l,q2⟩:=hY;subst ex;obtain rfl:ov=Value.ref a:=rx;exact tu I2 ea c n l ry λs3 I3=>⟨Z,_,I3,q2⟩
def DL(ha:PE X o ta)(hv:PE X value tv)(hop:Uk X op rd):PS X (.AugAssign (.Attribute o f tpos) op value pos) (Kz X.K ta tv rd f):=by intro pins s Z H D I h;refine wpAny_AugAssign_AttributeAny (cM (ha pins s Z H _ I h) λov s1  hZ=>?_);obtain⟨x,H1,I1,rx,a,C,dx,fs,v,ex,ea,c,n,l,q⟩:=hZ;subst ex;obtain rfl:ov=Value.ref a:=rx;refine rT I1 ea c n l λu s2 I2 ru=>cM (hv pins s2 Z H1 _ I2 q) λw3 s3 ⟨y,H2,I3,ry,q3⟩=>cM (hop pins s3 Z H2 v y u w3 _ I3 ru ry q3) λw4 s4  hZ=>?_;obtain⟨z,H3,I4,rz,dx',fs',ea',l',q4⟩:=hZ;exact tu I4 ea' c n l' rz λs5 I5=>⟨Z,_,I5,q4⟩
inductive Xr(x:V)(y:V)(H:Hp)(Q:VK):Prop|mk(i j)(_:x = .int i)(_:y = .int j)(_:Q (.int (i+j)) H)
def Sn:Uk X .Add Xr:=by
 rintro pins s Z H x y u v Q I rx ry ⟨i,j,rfl,rfl,q⟩;obtain⟨t,rfl⟩:=(show ∃t,u=Value.int i t from rx)
 obtain⟨t',rfl⟩:=(show ∃t',v=Value.int j t' from ry)
 exact PyProof.Rows.iadd_int ⟨.int (i+j),H,I.tok _,⟨_,rfl⟩,q⟩
end
section
variable {X:Cx}{pins:List (Addr×Obj)}{Z:St}{H:Hp}{s:Shared}{A:Around}{E:Value->Shared->Prop}{Q:Value->Shared->Prop}{c:Value}{b:Bool}
inductive pL(K:PySem.W.Frag)(H:Hp):V->Value->Prop where
 |cD:pL K H .cD (.type "NoneType")
 |bl (x:Bool):pL K H (.bl x) (.type "bool")
 |int (i:Int):pL K H (.int i) (.type "int")
 |str (x:Str):pL K H (.str x) (.type "str")
 |D7 (x:UInt64):pL K H (.D7 x) (.type "float")
 |lst {a:Addr} {xs:List V} (e:H a=some (.lst xs)):pL K H (.ref a) (.type "list")
 |nq {a:Addr} {o:Obj} {xs:List V} (e:H a=some (.nq o (.lst xs))):pL K H (.ref a) (.type "list")
 |tup {a:Addr} {xs:List V} (e:H a=some (.tup xs)):pL K H (.ref a) (.type "tuple")
 |dK {a:Addr} {kvs:List (Key×V)} (e:H a=some (.dK kvs)):pL K H (.ref a) (.type "dict")
 |dT {a:Addr} {kvs:List (List Key×V)} (e:H a=some (.dT kvs)):pL K H (.ref a) (.type "dict")
 |ins {a C dx:Addr} {fs:List (Str×V)} (e:H a=some (.ins C dx fs)) (cl:ny K C) (ha:PySem.W.findIn K (.ref C) "__class__" = some (some (.builtin "object.__class__")))
   (hn:PySem.W.specialIn K (.builtin "object.__class__") "__get__" = some (some (.builtin "getset_descriptor.__get__"))) (htk:PySem.W.takesIn K (.builtin "object.__class__")=some true)
   (hm:PySem.W.mroIn K C (.type "object")=some true):pL K H (.ref a) (.ref C)
def Dq(I:Inv X pins Z H s)(rx:RelV x u)(ty:pL X.K H x t)(e:PySem.W.kitOne X.K t c=some b)(h:∀tk,Q (.bool b) { s with toks:=tk }) :
  wpAny (model X.prog X.w) A (call (.builtin "isinstance") [u,c]) Q E s:=by
 cases ty with
 |cD=>cases (show u=Value.none from rx);exact ac9 PySem.W.kitx_none I.iU True.intro e (λz=>nomatch z) h
 |bl y=>cases (show u=Value.bool y from rx);exact ac9 PySem.W.kitx_bool I.iU True.intro e (λz=>nomatch z) h
 |int i=>obtain⟨t,q⟩:=(show ∃t,u=Value.int i t from rx);cases q;exact ac9 PySem.W.kitx_int I.iU True.intro e (λz=>nomatch z) h
 |str y=>obtain⟨t,q⟩:=(show ∃t,u=Value.str y t from rx);cases q;exact ac9 PySem.W.kitx_str I.iU True.intro e (λz=>nomatch z) h
 |D7 y=>obtain⟨t,q⟩:=(show ∃t,u=Value.float y t from rx);cases q;exact ac9 PySem.W.kitx_float I.iU True.intro e (λz=>nomatch z) h
 | @lst a xs ea =>
  cases (show u=Value.ref a from rx);obtain⟨_,_,n,_,h1⟩:=(show b9 X.prog X.w H s.heap a (.lst xs) from I.hok a _ ea)
  exact ac9 PySem.W.kitx_list I.iU ⟨_,h1,rfl⟩ e (λz=>nomatch z) h
 | @nq a ob xs ea =>
  cases (show u=Value.ref a from rx);obtain⟨_,_,_,n,_,h1⟩:=(show b9 X.prog X.w H s.heap a (.nq ob (.lst xs)) from I.hok a _ ea)
  exact ac9 PySem.W.kitx_list I.iU ⟨_,h1,rfl⟩ e (λz=>nomatch z) h
 | @tup a xs ea =>
  cases (show u=Value.ref a from rx);obtain⟨_,_,_,p⟩:=(show b9 X.prog X.w H s.heap a (.tup xs) from I.hok a _ ea)
  obtain⟨o,h1,h2,_⟩:=p;exact ac9 PySem.W.kitx_tuple I.iU ⟨o,h1,h2⟩ e (λz=>nomatch z) h
 | @dK a kvs ea =>
  cases (show u=Value.ref a from rx);obtain⟨_,_,vs,_,p⟩:=(show b9 X.prog X.w H s.heap a (.dK kvs) from I.hok a _ ea)
  obtain⟨o,es,ep,h1,h2,_⟩:=p;exact ac9 PySem.W.kitx_dict I.iU ⟨o,h1,h2.1⟩ e (λz=>nomatch z) h
 | @dT a kvs ea =>
  cases (show u=Value.ref a from rx);obtain⟨_,_,xs,_,o,es,ep,h1,h2,_⟩:=(show b9 X.prog X.w H s.heap a (.dT kvs) from I.hok a _ ea)
  exact ac9 PySem.W.kitx_dict I.iU ⟨o,h1,h2.1⟩ e (λz=>nomatch z) h
 | @ins a C dx fs ea cl ha hn htk hm =>
  cases (show u=Value.ref a from rx);obtain⟨mA,O,_⟩:=rG I.hok ea;obtain⟨od,J,_⟩:=O.look;exact ac9 (PySem.W.kitx_own (cl.get _) cl.hd ha hn htk hm) I.iU J e (λz=>nomatch z) h
end
structure fh(k:Nat)(A:Around):Prop where
 hd:A.handled=none
 dp:A.depth+3*k+5<recursionLimit
 un:A.units+16*k+200<cLine
def fh.mono(r:fh k A)(h:j<=k):fh j A:=⟨r.hd,by have:=r.dp;lia,by have:=r.un;lia⟩
def fh.deeper(r:fh (k+1) A)(env:Env):fh k (A.deeper env) :=
 ⟨r.hd,by have:=r.dp;show A.depth+1+3*k+5<_;lia,by have:=r.un;show A.units+3+16*k+200<_;lia⟩
def z5 {A:Around}   :(A.under (.builtin "type.__call__" ⟨.ref C::us,kw⟩)).depth=A.depth+1:=by first | rfl | simp[Around.under,Code.weight,Code.isCreation,Code.isGuard,Code.isCaller,Code.frames,Code.isFrame,guardIds]
def A2 {A:Around}   :(A.under (.builtin "type.__call__" ⟨.ref C::us,kw⟩)).units=A.units+1:=by first | rfl | simp[Around.under,Code.cUnits,Code.frames,Code.isFrame]
def fh.make   (r:fh (k+1) A) (C:Addr) (us:List Value) (kw:List (Str×Value)):fh k (A.under (.builtin "type.__call__" ⟨.ref C::us,kw⟩)) :=
 ⟨r.hd,by have:=r.dp;rw[z5];lia,by have:=r.un;rw[A2];lia⟩
def fh.depth(r:fh k A):A.depth<recursionLimit:=by have:=r.dp;lia
def fh.units(r:fh k A):A.units+64<cLine:=by have:=r.un;lia
def Dy:TA:=λ_ H Q=>Q [] H
def ES(ta:TE)(tr:TA):TA:=λZ H Q=>ta Z H λx H1=>tr Z H1 λxs H2=>Q (x::xs) H2
section
variable {X:Cx}{e:Expr}{es:List Expr}{te:TE}{t:TA}{pos:Pos}
def ai:PA X [] Dy:=λ_ _ _ _ H Q I h=>Calls.spliced_nil ⟨[],H,I,.nil,h⟩
def aa(ha:PE X e te)(hr:PA X es t)(hs:autoParam (starEach (e::es) X.env=(false,eval e X.env)::starEach es X.env) L2.Y3._auto_1):PA X (e::es) (ES te t):=by intro pos pins s Z H Q I h;rw[hs];show wpAny _ _ (spliced ((false,eval e X.env)::backTo pos (starEach es X.env))) _ _ s;refine ag7 (cM (ha pins s Z H _ I h) λu s1  hZ=>?_);obtain⟨x,H1,I1,r1,q1⟩:=hZ;exact cM (hr pos pins s1 Z H1 _ I1 q1) λus s2 ⟨xs,H2,I2,r2,q2⟩=>⟨x::xs,H2,I2,.cons r1 r2,q2⟩
def U7(t:TA):TE:=λZ H Q=>t Z H λxs H1=>xs.length<=sizeLine/\∀p,H1 p=none->Q (.ref p) (upd H1 p (.tup xs))
def VI(t:TA):TE:=λZ H Q=>t Z H λxs H1=>xs.length<=sizeLine/\∀p,H1 p=none->Q (.ref p) (upd H1 p (.lst xs))
def br{x1}(h:PA X es t):PE X (.Tuple es x1 pos) (U7 t):=by intro pins s Z H Q I hq;refine wpAny_Tuple_spliced (cM (h pos pins s Z H _ I hq) λus s1 ⟨xs,H1,I1,r,z,q⟩=>⟨by rw[← r.length];exact z,?_⟩);have hf:H1 s1.heap.objs.size=none:=I1.hok.fresh (M2 _);refine⟨.ref s1.heap.objs.size,upd H1 s1.heap.objs.size (.tup xs),I1.laid (t':=s1.toks) (λb u e=>u3 _ e) (M2 _) ?_,rfl,q _ hf⟩;exact⟨z,us,r,⟨_,Z0 _ rfl,rfl,_,rfl⟩⟩
def bD(h:PA X es t):PE X (.List es pos) (VI t):=by intro pins s Z H Q I hq;refine wpAny_List_spliced (cM (h pos pins s Z H _ I hq) λus s1 ⟨xs,H1,I1,r,z,q⟩=>⟨by rw[← r.length];exact z,?_⟩);have hf:H1 s1.heap.objs.size=none:=I1.hok.fresh (M2 _);refine⟨.ref s1.heap.objs.size,upd H1 s1.heap.objs.size (.lst xs),I1.laid (t':=s1.toks) (λb u e=>u3 _ e) (M2 _) ?_,rfl,q _ hf⟩;exact⟨z,us,0,r,Z0 _ rfl⟩
end
abbrev Sp:=List V->Hp->VK->XK->Prop
abbrev ue:=List Env->Hp->Shared->XK->Value->Shared->Prop
structure Ab(P:Program)(w:World)(K:PySem.W.Frag)(mg:Str->Option Value)(base:Heap)(A:Around)(outer:List Env)(s:Shared)(H:Hp):Prop where
 frames:A.frames=some outer
 mod:Mod K mg base
 bs:∀b o,base.get? b=some o->s.heap.get? b=some o/\H b=none
 Kq:base.objs.size<=s.heap.objs.size
 qt:s.heap.FunFrames base outer
 Pc:∀b∈frs outer,H b=none
 hok:kc P w H s.heap
 bare:AllBare s.gens
def CE(outer:List Env)(P:Program)(w:World)(H:Hp)(s:Shared)(Q:VK)(u:Value)(s':Shared):Prop :=
 ∃v H',s'.os=s.os/\AllBare s'.gens/\Un (frs outer) [] H H' s.heap s'.heap/\kc P w H' s'.heap/\RelV v u/\Q v H'
def CR(CX:ue)(outer:List Env)(P:Program)(w:World)(H:Hp)(s:Shared)(Q:VK)(E:XK)(r:Result)(s':Shared):Prop :=
 match r with
 |.ok (.ret u)=>CE outer P w H s Q u s'
 |.ok _=>False
 |.error e=>CX outer H s E e s'
structure bw(P:Program)(w:World)(K:PySem.W.Frag)(mg:Str->Option Value)(base:Heap)(CX:ue)(k:Nat)(f:Addr)(fd:FuncData)(ps:List Str)(sp:Sp):Prop where
 len:∀vs H Q E,sp vs H Q E->vs.length=ps.length
 run:∀(A:Around) (outer:List Env) (s:Shared) (H:Hp) (args:Args) (us:List Value) (vs:List V) (Q:VK) (E:XK),fh k A->Ab P w K mg base A outer s H->BindsTo s fd args (ps.zip us)->Vals vs us->sp vs H Q E ->
  codeAny (model P w) A (.call (.ref f) args) (CR CX outer P w H s Q E) s
def Ab.make{K:PySem.W.Frag}(e:Ab P w K mg base A outer s H)(C:Addr)(us:List Value)(kw:List (Str×Value)) :
  Ab P w K mg base (A.under (.builtin "type.__call__" ⟨.ref C::us,kw⟩)) outer s H:=⟨by first | exact e.frames | (simpa [Around.under,Code.envs,Code.isFrame,pushEnvs] using e.frames),e.mod,e.bs,e.Kq,e.qt,e.Pc,e.hok,e.bare⟩
section
variable {X:Cx}{pins:List (Addr×Obj)}{Z:St}{H:Hp}{s s':Shared}
def Inv.Ja(I:Inv X pins Z H s):Ab X.prog X.w X.K X.mg X.base X.A X.stack s H :=
 ⟨I.ok.frames,I.ok.mod,I.bs,X6 I.ok.Kq I.sz,I.stack,I.rE,I.hok,I.bare⟩
def Inv.after(I:Inv X pins Z H s)(h:CE X.stack X.prog X.w H s Q u s'):EP X pins Z Q u s':=by obtain⟨v,H',os,bare,un,hok,r,q⟩:=h;obtain⟨hh,g,d,t,os'⟩:=s';obtain rfl:os'=s.os:=os;exact⟨v,H',I.call (h':=hh) (g':=g) (d':=d) (t':=t) (ch:=[]) un hok bare (λb z=>absurd z (by simp)),r,q⟩
end
def Ft(sp:Sp)(dvs:List V)(E:XK)(t:TA):TE:=λZ H Q=>t Z H λvs H1=>sp (vs++dvs) H1 Q E
def Eh(C:Addr)(m:Str)(sp:Sp)(dvs:List V)(E:XK)(ta:TE)(t:TA):TE:=λZ H Q=>ta Z H λx H1=>∃a dx fs,x = .ref a/\H1 a=some (.ins C dx fs)/\fs.lookup m=none /\
 t Z H1 λvs H2=>sp (x::(vs++dvs)) H2 Q E
def MN(C:Addr)(sp:Sp)(dvs:List V)(E:XK)(t:TA):TE:=λZ H Q=>t Z H λvs H1=>∀x dx,H1 x=none->H1 dx=none->dx≠x ->
 sp (.ref x::(vs++dvs)) (upd (upd H1 dx (.own x)) x (.ins C dx [])) (λv H2=>v = .cD/\Q (.ref x) H2) E
def Binds(K:PySem.W.Frag)(fd:FuncData)(ps:List Str)(ds:List Value):Prop :=
 ∀(s:Shared) (us:List Value),K.In s.heap->(us++ds).length=ps.length->BindsTo s fd ⟨us,[]⟩ (ps.zip (us++ds))
def Binds.all{K:PySem.W.Frag}(h:∀us:List Value,us.length=ps.length->bindArgs fd ⟨us,[]⟩=pure (ps.zip us)):Binds K fd ps []:=λs us _ hl=>by rw[ab2] at hl ⊢;exact .of_eq (h us hl)
def Passes(CX:ue)(X:Cx)(E:XK):Prop:=∀(pins:List (Addr×Obj)) (Z:St) (H:Hp) (s:Shared) (e:Value) (s':Shared),Inv X pins Z H s->CX X.stack H s E e s'->X.xe e s'
section
variable {X:Cx}{CX:ue}{k:Nat}{f C:Addr}{fd:FuncData}{ps:List Str}{sp:Sp}{dvs:List V}{ds:List Value}{E:XK}{x m:Str}{p pos apos:Pos}{e o:Expr}{es:List Expr}{ta:TE}{t:TA}
def vP(F:bw X.prog X.w X.K X.mg X.base CX k f fd ps sp)(hr:fh k X.A)(hb:Binds X.K fd ps ds)(hd:Vals dvs ds)(hx:Passes CX X E)
  (I:Inv X pins Z H s) (r:Vals vs us) (h:sp (vs++dvs) H Q E):wpAny (model X.prog X.w) X.A (call (.ref f) us) (EP X pins Z Q) X.xe s:=by
 have r2:Vals (vs++dvs) (us++ds):=r.append hd;have hl:(us++ds).length=ps.length:=by rw[← r2.length];exact F.len _ _ _ _ h
 refine ai1 (aj6 (F.run X.A X.stack s H ⟨us,[]⟩ (us++ds) (vs++dvs) Q E hr I.Ja (hb s us I.iU hl) r2 h) λr s' hq=>?_);cases r with
 |error e=>exact hx pins Z H s e s' I hq
 |ok fl =>
  cases fl with
  |ret u=>exact I.after hq
  |next=>exact False.elim hq
  |brk=>exact False.elim hq
  |cont=>exact False.elim hq
def aN(F:bw X.prog X.w X.K X.mg X.base CX k f fd ps sp)(hr:fh k X.A)(hg:Gl X x)(hm:X.mg x=some (.ref f))(hk:PySem.W.keepIn X.K (.ref f)=true)(hb:Binds X.K fd ps ds)(hd:Vals dvs ds)(hx:Passes CX X E)
  (ha:PA X (e::es) t) (hdb:autoParam ((x == ("__debug__" : Str))=false) L2.Y1._auto_1) (he:autoParam (starEach (e::es) X.env=(false,eval e X.env)::starEach es X.env) L2.Y3._auto_1) (hpl:autoParam ((backTo pos (starEach es X.env)).any (·.1)=false) L2.Y3._auto_1) :
  PE X (.Call (.Name x p) (e::es) [] pos) (Ft sp dvs E t):=by
 intro pins s Z H Q I h;refine ad8 (iZ I hg hm ?_ hdb);refine af5 (h₀:=X.base) I.ok.mod.rK hk (cM (ha pos pins s Z H _ I h) λus s1 ⟨vs,H1,I1,r,q⟩=>⟨I1.iU,?_⟩) he hpl;exact vP F hr hb hd hx I1 r q
def GK(F:bw X.prog X.w X.K X.mg X.base CX k f fd ps sp)(hr:fh k X.A)(hg:Gl X x)(hm:X.mg x=some (.ref f))(hk:PySem.W.keepIn X.K (.ref f)=true)(hb:Binds X.K fd ps ds)(hd:Vals dvs ds)(hx:Passes CX X E)
  (hdb:autoParam ((x == ("__debug__" : Str))=false) L2.Y1._auto_1):PE X (.Call (.Name x p) [] [] pos) (Ft sp dvs E Dy):=by
 intro pins s Z H Q I h;refine ad8 (iZ I hg hm ?_ hdb);exact aj2 I.iU hk (vP (us:=[]) F hr hb hd hx I .nil h)
def bB{pl:Sem Bool}(he:PE X o ta)(c:ny X.K C)(hm:Meth X.K C m f)(F:bw X.prog X.w X.K X.mg X.base CX k f fd ps sp)(hr:fh k X.A)(hb:Binds X.K fd ps ds)(hd:Vals dvs ds)(hx:Passes CX X E)(ha:PA X (e::es) t)
  (hst:autoParam (starEach (e::es) X.env=(false,eval e X.env)::starEach es X.env) L2.Y3._auto_1) (hpl:autoParam ((backTo pos (starEach es X.env)).any (·.1)=false) L2.Y3._auto_1)
  (ht:autoParam (eval (.Call (.Attribute o m apos) (e::es) [] pos) X.env=(do
   let ov ← eval o X.env
   standAt apos.atName
   let (f,first) ← holding [ov] (getMethod ov m pl)
   callWith pos f first (backTo pos (starEach (e::es) X.env)) (backToKw pos (keywordEach [] X.env)))) L2.Y3._auto_1) :
  PE X (.Call (.Attribute o m apos) (e::es) [] pos) (Eh C m sp dvs E ta t):=by
 intro pins s Z H Q I h;refine ah5 (pl:=pl) (cM (he pins s Z H _ I h) λu s1 hY=>?_) ht;obtain⟨x,H1,I1,rx,a,dx,fs,ex,ea,l,q⟩:=hY;subst ex;obtain rfl:u=Value.ref a:=rx;refine kF I1 ea c hm l ?_;refine af5 (first:=[.ref a]) (h₀:=X.base) I.ok.mod.rK hm.kp (cM (ha pos pins s1 Z H1 _ I1 q) λus s2 ⟨vs,H2,I2,r,q2⟩=>⟨I2.iU,?_⟩) hst hpl;exact vP (us:=.ref a::us) (vs:=.ref a::vs) F hr hb hd hx I2 (.cons rfl r) q2
def bx{pl:Sem Bool}(he:PE X o ta)(c:ny X.K C)(hm:Meth X.K C m f)(F:bw X.prog X.w X.K X.mg X.base CX k f fd ps sp)(hr:fh k X.A)(hb:Binds X.K fd ps ds)(hd:Vals dvs ds)(hx:Passes CX X E)
  (ht:autoParam (eval (.Call (.Attribute o m apos) [] [] pos) X.env=(do
   let ov ← eval o X.env
   standAt apos.atName
   let (f,first) ← holding [ov] (getMethod ov m pl)
   callWith pos f first (backTo pos (starEach [] X.env)) (backToKw pos (keywordEach [] X.env)))) L2.Y3._auto_1) :
  PE X (.Call (.Attribute o m apos) [] [] pos) (Eh C m sp dvs E ta Dy):=by
 intro pins s Z H Q I h;refine ah5 (pl:=pl) (cM (he pins s Z H _ I h) λu s1 hY=>?_) ht;obtain⟨x,H1,I1,rx,a,dx,fs,ex,ea,l,q⟩:=hY;subst ex;obtain rfl:u=Value.ref a:=rx;refine kF I1 ea c hm l ?_;exact aj2 (first:=[.ref a]) I1.iU hm.kp (vP (us:=[.ref a]) (vs:=[.ref a]) F hr hb hd hx I1 (.cons rfl .nil) q)
structure Mk(K:PySem.W.Frag)(C f:Addr):Prop where
 makes:PySem.W.makesIn K C=true
 init:PySem.W.findIn K (.ref C) "__init__" = some (some (.ref f))
 fn:PySem.W.isFn K (.ref f)=true
 kp:PySem.W.keepIn K (.ref C)=true
def GD(M:Mk X.K C f)(F:bw X.prog X.w X.K X.mg X.base CX k f fd ps sp)(hr:fh (k+1) X.A)(hb:Binds X.K fd ps ds)(hd:Vals dvs ds)
  (hx:Passes CX X E) (I:Inv X pins Z H s) (r:Vals vs us)
  (h:∀x dx,H x=none->H dx=none->dx≠x->sp (.ref x::(vs++dvs)) (upd (upd H dx (.own x)) x (.ins C dx [])) (λv H2=>v = .cD/\Q (.ref x) H2) E) :
  wpAny (model X.prog X.w) X.A (call (.ref C) us) (EP X pins Z Q) X.xe s:=by
 have hq:=h (s.heap.objs.size+1) s.heap.objs.size (I.hok.fresh (Nat.le_succ _)) (I.hok.fresh (M2 _)) (T0 (ai9 _));have I2:=Inv.made (C:=C) I;have r2:Vals (V.ref (s.heap.objs.size+1)::(vs++dvs)) (Value.ref (s.heap.objs.size+1)::(us++ds)):=.cons rfl (r.append hd);have hl:(Value.ref (s.heap.objs.size+1)::us++ds).length=ps.length:=by have e:=r2.length;rw[F.len _ _ _ _ hq] at e;exact e.symm
 refine ai1 (yN (f:=f) I.iU M.makes M.init (beq_iff_eq.mp M.fn) (aj6 (F.run _ X.stack _ _ ⟨Value.ref (s.heap.objs.size+1)::us,[]⟩ (Value.ref (s.heap.objs.size+1)::(us++ds)) _ _ E (hr.make C us [])
  (I2.Ja.make C us []) (hb _ (Value.ref (s.heap.objs.size+1)::us) I2.iU hl) r2 hq) λr s' hq'=>?_))
 cases r with
 |error e=>exact hx pins Z _ _ e s' I2 hq'
 |ok fl =>
  cases fl with
  |ret u =>
   obtain⟨v,H',I3,rv,ev,q3⟩:=I2.after hq';subst ev;exact⟨rv,⟨V.ref (s.heap.objs.size+1),H',I3,rfl,q3⟩⟩
  |next=>exact False.elim hq'
  |brk=>exact False.elim hq'
  |cont=>exact False.elim hq'
def dP(M:Mk X.K C f)(F:bw X.prog X.w X.K X.mg X.base CX k f fd ps sp)(hr:fh (k+1) X.A)(hg:Gl X x)(hm:X.mg x=some (.ref C))(hb:Binds X.K fd ps ds)(hd:Vals dvs ds)(hx:Passes CX X E)
  (ha:PA X (e::es) t) (hdb:autoParam ((x == ("__debug__" : Str))=false) L2.Y1._auto_1) (he:autoParam (starEach (e::es) X.env=(false,eval e X.env)::starEach es X.env) L2.Y3._auto_1) (hpl:autoParam ((backTo pos (starEach es X.env)).any (·.1)=false) L2.Y3._auto_1) :
  PE X (.Call (.Name x p) (e::es) [] pos) (MN C sp dvs E t):=by
 intro pins s Z H Q I h;refine ad8 (iZ I hg hm ?_ hdb);refine af5 (h₀:=X.base) I.ok.mod.rK M.kp (cM (ha pos pins s Z H _ I h) λus s1 ⟨vs,H1,I1,r,q⟩=>⟨I1.iU,?_⟩) he hpl;exact GD M F hr hb hd hx I1 r q
end
section
variable {X:Cx}{CX:ue}{k:Nat}{f C:Addr}{fd:FuncData}{ps ks:List Str}{sp:Sp}{E:XK}{x m:Str}{p pos apos kpos:Pos}{e o:Expr}{es:List Expr}{kws:List Keyword}{te ta:TE}{t tk:TA}{nm:Option Str}
variable {g:List Value->List Value->List Value}{gV:List V->List V->List V}
end
structure aF(N P:List Str)(sc:Scope):Prop where
 kind:sc.kind = .function
 co:sc.isCoroutine=false
 gen:sc.isGenerator=false
 nd:N.Nodup
 pre:N.take P.length=P
 par:∀x∈P,sc.names.lookup x=some .local∨sc.names.lookup x=some .cell
 Qk:∀y∈sc.names,y.2 ≠ .free
theorem u7{kindOf:Str->Option NameKind}:∀{binds:List (Str×Value)} {m:Str->Option Value},(∀v,(x,v)∉binds)->bindL kindOf binds m x=m x
 | [],_,_=>rfl
 | (n,v)::r,m,h=>by
  unfold bindL;rw[u7 λw hw=>h w (D1 _ hw)];split
  ·have:x≠n:=by rintro rfl;exact h v X9
   simp[this]
  ·rfl
theorem uJ{kindOf:Str->Option NameKind}:∀{binds:List (Str×Value)} {m:Str->Option Value},(∀v,(x,v)∉binds)->bindC kindOf binds m x=m x
 | [],_,_=>rfl
 | (n,v)::r,m,h=>by
  unfold bindC;rw[uJ λw hw=>h w (D1 _ hw)];split
  ·rfl
  ·have:x≠n:=by rintro rfl;exact h v X9
   simp[this]
theorem vC{kindOf:Str->Option NameKind}:∀{P:List Str} {vs:List Value} {i:Nat} {m:Str->Option Value},P.Nodup->P[i]?=some x->vs[i]?=some v->kindOf x=some .local ->
  bindL kindOf (P.zip vs) m x=some v
 | [],_,_,_,_,h,_,_=>by simp at h
 |_::_,[],_,_,_,_,h,_=>by simp at h
 |p::P,w::vs,0,m,nd,h1,h2,hk=>by simp at h1 h2;subst h1;subst h2;show bindL kindOf ((p,w)::P.zip vs) m p=_;unfold bindL;rw[u7 λv hv=>(ah4.mp nd).1 (List.of_mem_zip hv).1,if_pos hk];simp
 |p::P,w::vs,i+1,m,nd,h1,h2,hk=>by show bindL kindOf ((p,w)::P.zip vs) m x=_;unfold bindL;exact vC (i:=i) (ah4.mp nd).2 (by simpa using h1) (by simpa using h2) hk
theorem u9{kindOf:Str->Option NameKind}:∀{P:List Str} {vs:List Value} {i:Nat} {m:Str->Option Value},P.Nodup->P[i]?=some x->vs[i]?=some v->kindOf x≠some .local ->
  bindC kindOf (P.zip vs) m x=some v
 | [],_,_,_,_,h,_,_=>by simp at h
 |_::_,[],_,_,_,_,h,_=>by simp at h
 |p::P,w::vs,0,m,nd,h1,h2,hk=>by simp at h1 h2;subst h1;subst h2;show bindC kindOf ((p,w)::P.zip vs) m p=_;unfold bindC;rw[uJ λv hv=>(ah4.mp nd).1 (List.of_mem_zip hv).1,if_neg hk];simp
 |p::P,w::vs,i+1,m,nd,h1,h2,hk=>by show bindC kindOf ((p,w)::P.zip vs) m x=_;unfold bindC;exact u9 (i:=i) (ah4.mp nd).2 (by simpa using h1) (by simpa using h2) hk
def start(N:List Str)(vs:List V):St:=vs.map some++List.replicate (N.length-vs.length) none
def gM(CX:ue)(P:Program)(w:World)(K:PySem.W.Frag)(mg:Str->Option Value)(base:Heap)(N:List Str)(qual:Str)(scope:Scope)(f:Addr)(cd:Value)(A:Around)(outer:List Env)(s:Shared)(H:Hp)(E:XK):Cx where
 prog:=P
 w:=w
 K:=K
 mg:=mg
 base:=base
 A:=A.deeper (envOfC qual scope s.heap.objs.size f cd)
 N:=N
 s₀:=s
 H₀:=H
 env:=envOfC qual scope s.heap.objs.size f cd
 outer:=outer
 stack:=envOfC qual scope s.heap.objs.size f cd::outer
 ex:=[]
 calm:=true
 fn:=λ_=>true
 pn:=[]
 xe:=λe s'=>wpAny (model P w) (A.deeper (envOfC qual scope s.heap.objs.size f cd)) (leaving (envOfC qual scope s.heap.objs.size f cd) e) (λ_ s''=>CX outer H s E e s'') (λe' s''=>CX outer H s E e' s'') s'
def xX{sc:Scope}(h:sc.names.lookup x=some .cell):∃c,(cellsFrom n sc.names []).lookup x=some c:=by have q:=PySem.W.cellsFrom_some sc.names n [] (.inl h);exact Option.isSome_iff_exists.mp q
def DG{K:PySem.W.Frag}
  (S:aF N ps scope) (hd:A.handled=none) (e0:Ab P w K mg base A outer s H) (hl:vs.length=ps.length) (r:Vals vs us)
  (x:InCallC s s.heap.objs.size (bindL (envOfC qual scope s.heap.objs.size f cd).kindOf (ps.zip us) λ_=>none) (cellsFrom (s.heap.objs.size+1) scope.names []) (bindC (envOfC qual scope s.heap.objs.size f cd).kindOf (ps.zip us) λ_=>none) s1) :
  Inv (gM CX P w K mg base N qual scope f cd A outer s H E) [] (start N vs) H s1:=by
 have hpl:ps.length<=N.length:=by have:=ac1 List.length S.pre;rw[N0] at this;lia
 obtain⟨h1,tk,rfl,hk⟩:=x.done;have noA:∀b:Addr,b∉(gM CX P w K mg base N qual scope f cd A outer s H E).ex:=λb z=>absurd (show b∈([]:List Addr) from z) (by simp);refine⟨⟨e0.mod,S.kind,rfl,rfl,M2 _,λy z c h1 h2=>?_,λy hy=>?_,λy c _ h=>?_,λ_=>hd,Around.frames_deeper e0.frames,.inr ⟨rfl,rfl⟩,λb z=>absurd z (noA b),e0.bs,e0.Kq,λb _ _=>noA b,λb z=>absurd z (noA b),e0.qt,e0.Pc⟩,
  rfl,e0.bare,Un.kept hk,⟨_,x.toInCall.ns,λi y v h1 h2 h3=>?_⟩,λy c h=>⟨_,x.cell y c h⟩,e0.hok.fresh (M2 _),λy c h=>?_,λp hp=>absurd (show p∈([]:List (Addr×Obj)) from hp) (by simp),e0.hok.kept hk,?_⟩
 ·exact name_of_addr x.apart (ad0 h1) (ad0 h2)
 ·have hy:scope.names.lookup y=some .cell∨scope.names.lookup y=some .free:=hy;rcases hy with hy|hy
  ·exact xX hy
  ·exact absurd rfl (S.Qk _ (ad0 hy))
 ·exact Nat.le_of_lt (x.above y c (ad0 h))
 ·have hi:i<vs.length:=by
   unfold start at h2;by_cases hi:i<vs.length
   ·exact hi
   ·rw[X3 (by simpa using hi)] at h2;rw[List.getElem?_replicate] at h2;split at h2 <;> cases h2
  have ha:vs[i]?=some v:=by
   unfold start at h2;rw[Y9 (by simpa using hi),B1] at h2;cases e:vs[i]? with
   |none=>rw[e] at h2;cases h2
   |some a=>rw[e] at h2;cases h2;rfl
  obtain⟨u,hu,rv⟩:=r.get ha;have hp:ps[i]?=some y:=by rw[← S.pre,List.getElem?_take_of_lt (by lia)];exact h1
  have ndP:ps.Nodup:=by rw[← S.pre];exact S.nd.sublist (List.take_sublist _ _)
  refine⟨u,rv,?_⟩;rcases S.par y (u8 hp) with k|k
  ·exact .inl ⟨k,vC ndP hp hu k⟩
  ·obtain⟨c,e⟩:=xX (n:=s.heap.objs.size+1) k;refine .inr ⟨.inl k,c,e,?_⟩;have q:=x.cell y c e;rw[u9 ndP hp hu (by show scope.names.lookup y≠_;rw[k];decide)] at q;exact q
 ·exact e0.hok.fresh (Nat.le_of_lt (x.above y c (ad0 h)))
 ·unfold start;show _=N.length;rw[o0,d6,ah3];lia
def NG{K:PySem.W.Frag}{dV kV doc pm cdv ct oc:Value}
     (lk:K.lookup f=some ⟨oc,od,.func (PySem.W.fnOf name qual params body scope dV kV doc pm an cdv ct),osl⟩) (hcd:PySem.W.codeIn K cdv qual=true) (S:aF N ps scope)
  (len:∀vs H Q E,sp vs H Q E->vs.length=ps.length)
  (hbody:∀(A:Around) (outer:List Env) (s:Shared) (H:Hp) (vs:List V) (Q:VK) (E:XK),fh k (A.deeper (envOfC qual scope s.heap.objs.size f cdv))->sp vs H Q E ->
   ∃t,A3 (gM CX P w K mg base N qual scope f cdv A outer s H E) body t/\t { nx:=λ_ H'=>Q .cD H',rt:=Q } (start N vs) H) :
  bw P w K mg base CX (k+1) f (PySem.W.fnOf name qual params body scope dV kV doc pm an cdv ct) ps sp:=by
 refine⟨len,λA outer s H args us vs Q E hr e0 hb r hsp=>?_⟩;have hl:=len _ _ _ _ hsp;have KX:K.In s.heap:=e0.mod.rK.keeps λb o e=>(e0.bs b o e).1;have lim:s.heap.NoLimit:=e0.mod.nolimit.keeps λb o e=>(e0.bs b o e).1;have hkind:∀y∈ps.zip us,scope.names.lookup y.1=some .local∨(scope.names.lookup y.1=some .cell/\((cellsFrom (s.heap.objs.size+1) scope.names []).lookup y.1).isSome=true):=λ⟨n,v⟩ hy=>by
  rcases S.par n (List.of_mem_zip hy).1 with q|q
  ·exact .inl q
  ·exact .inr ⟨q,PySem.W.cellsFrom_some _ _ _ (.inl q)⟩
 refine codeAny_call_function hr.depth (KX _ _ lk) rfl S.co S.gen rfl (PySem.W.codeRec_of KX hcd) (hb _ _ _ _ ?_);refine wpAny_newFunctionEnv_cells S.kind hkind λenv he s1 x=>?_;subst he;refine⟨lim.keeps x.toInCall.keep,codeAny_func ?_⟩;obtain⟨t,ht,hq⟩:=hbody A outer s H vs Q E (hr.deeper _) hsp;have I:Inv (gM CX P w K mg base N qual scope f cdv A outer s H E) [] (start N vs) H s1:=DG S hr.hd e0 hl r x;refine ab1 (ht [] s1 (start N vs) H _ I hq) (λfl s' hs=>?_) λe s' hs=>hs;have fin:∀{Z':St} {H':Hp} {v:V} {u:Value},Inv (gM CX P w K mg base N qual scope f cdv A outer s H E) [] Z' H' s'->RelV v u->Q v H'->CE outer P w H s Q u s' :=
  λ{Z' H' v u} J rv q=>⟨v,H',J.os,J.bare,J.base,J.hok,rv,q⟩
 cases fl with
 |ret u =>
  obtain⟨v,Z',H',J,rv,q⟩:=hs;exact fin J rv q
 |next =>
  obtain⟨Z',H',J,q⟩:=hs;exact fin (v:=V.cD) (u:=Value.none) J rfl q
 |brk =>
  obtain⟨_,_,_,q⟩:=hs;exact False.elim q
 |cont =>
  obtain⟨_,_,_,q⟩:=hs;exact False.elim q
section
variable {X:Cx}{x:Str}{p pos:Pos}{e:Expr}{es:List Expr}{t:TA}{id T:String}{r:List V->Hp->VK->Prop}
def Wl(r:List V->Hp->VK->Prop)(t:TA):TE:=λZ H Q=>t Z H λvs H1=>r vs H1 Q
def aM (hc:gR X (.builtin id) r) (hg:Gl X x) (hm:X.mg x=none) (hv:bootBuiltins x=some (.builtin id)) (ha:PA X (e::es) t) (hn:autoParam (x ≠ "__name__") L2.Y1._auto_1) (hdb:autoParam ((x == ("__debug__" : Str))=false) L2.Y1._auto_1)
  (he:autoParam (starEach (e::es) X.env=(false,eval e X.env)::starEach es X.env) L2.Y3._auto_1) (hpl:autoParam ((backTo pos (starEach es X.env)).any (·.1)=false) L2.Y3._auto_1):PE X (.Call (.Name x p) (e::es) [] pos) (Wl r t):=by
 intro pins s Z H Q I h;refine ad8 (mh I hg hm hv ?_ hn hdb);exact PyProof.Rows.callWith_builtin1 (cM (ha pos pins s Z H _ I h) λus s1 ⟨vs,H1,I1,r1,q1⟩=>hc pins s1 Z H1 vs us Q I1 r1 q1) he hpl
def cQ (hc:gR X (.type T) r) (hg:Gl X x) (hm:X.mg x=none) (hv:bootBuiltins x=some (.type T)) (ha:PA X (e::es) t) (hn:autoParam (x ≠ "__name__") L2.Y1._auto_1) (hdb:autoParam ((x == ("__debug__" : Str))=false) L2.Y1._auto_1)
  (he:autoParam (starEach (e::es) X.env=(false,eval e X.env)::starEach es X.env) L2.Y3._auto_1) (hpl:autoParam ((backTo pos (starEach es X.env)).any (·.1)=false) L2.Y3._auto_1):PE X (.Call (.Name x p) (e::es) [] pos) (Wl r t):=by
 intro pins s Z H Q I h;refine ad8 (mh I hg hm hv ?_ hn hdb);exact ac8 (cM (ha pos pins s Z H _ I h) λus s1 ⟨vs,H1,I1,r1,q1⟩=>hc pins s1 Z H1 vs us Q I1 r1 q1) he hpl
end
end L2
namespace HT
open PySem PyProof.Rows
def lexLt:List Int->List Int->Bool
 | [],[]=>false
 | [],_::_=>true
 |_::_,[]=>false
 |x::xs,y::ys=>if x=y then lexLt xs ys else decide (x<y)
def AS(x y:Int)(xs ys:List Int):lexLt (x::xs) (y::ys)=if x=y then lexLt xs ys else decide (x<y):=rfl
def uq:lexLt [] []=false:=rfl
def sN(y:Int)(ys:List Int):lexLt [] (y::ys)=true:=rfl
def tS(x:Int)(xs:List Int):lexLt (x::xs) []=false:=rfl
def xH(A:Around)(s:Shared)(a:Int)(t:Tok)(c:Int)(u:Tok):∃e,SeqAt.EqAt A s (.int a t) (.int c u) e/\(e=true↔a=c) :=
 ⟨(a == c),SeqAt.EqAt.int_int a t c u,by simp⟩
def Ei(A:Around)(s:Shared)(a:Int)(t:Tok)(c:Int)(u:Tok)(prog:Program)(w:World)(E:Value->Shared->Prop)(Q:Value->Shared->Prop)(h:Q (.bool (decide (a<c))) s) :
  wpAny (model prog w) A (richCompare .Lt (.int a t) (.int c u)) Q E s :=
 (PyProof.Rows.lt_int h:wpAny (model prog w) A (compareOp .Lt (.int a t) (.int c u)) Q E s)
section
open PySem.SeqAt
open PySem.AutoSeq1 (wpAny_loadPart')
open PySem.MeetsSeq PySem.MeetsSeq2 PySem.MeetsSeq3
def uy(l b:Addr)(items items2:Array Value)(n n2:Nat)(dd dd2:Option Addr)(sl sl2:Array (Option Value))(ns ms:List Int)(hi:IntsAre items.toList ns)(hj:IntsAre items2.toList ms) :
  Meets (Builtin.«tuple.__lt__» ⟨[.ref l,.ref b],[]⟩)
   (λ_ R s=>s.heap.get? l=some { cls:=.type "tuple",dict:=dd,data:=.seq items n,slots:=sl }/\s.heap.get? b=some { cls:=.type "tuple",dict:=dd2,data:=.seq items2 n2,slots:=sl2 } /\
    R (.ok (.ret (.bool (lexLt ns ms)))) s) :=
 .of_wp λprog w A R s h=>by
  obtain⟨hp,g,d,tk,os⟩:=s;obtain⟨hl,hb,h⟩:=h;have f2:=AutoSeq1.sub_tuple_tuple;have z1:items.size=ns.length:=by rw[← hi.length];simp
  have z2:items2.size=ms.length:=by rw[← hj.length];simp
  wp_walk using af9 hl,af9 hb,wpAny_forIn_list _ (λrest b s'=>b.1=none/\s'=⟨hp,g,d,tk,os⟩/\∃(vs ws:List Value) (ns' ms':List Int),rest=vs.zip ws /\
   IntsAre vs ns'/\IntsAre ws ms'/\ns'.length+items2.size=ms'.length+items.size/\R (.ok (.ret (.bool (lexLt ns' ms')))) ⟨hp,g,d,tk,os⟩) _
  case turn =>
   rintro⟨y,x⟩ rest b s' ⟨hb',rfl,vs,ws,ns',ms',hz,hvi,hwi,hlen,hR⟩;cases hvi with
   |nil=>rw[List.zip_nil_left] at hz;cases hz
   |cons a t hvi' =>
    cases hwi with
    |nil=>rw[List.zip_nil_right] at hz;cases hz
    |cons c u hwi' =>
     rw[ak3] at hz;injection hz with hyx hrest
     injection hyx with hy hx
     subst hy hx;rw[AS] at hR;simp only[x0] at hlen;obtain⟨e,he,hiff⟩:=xH A.in1 ⟨hp,g,d,tk,os⟩ a t c u;refine v3 (he prog w _ _ ?_);cases e with
     |true =>
      rw[if_pos (hiff.mp rfl)] at hR
      wp_walk
      exact⟨rfl,rfl,_,_,_,_,hrest,hvi',hwi',by lia,hR⟩
     |false =>
      rw[if_neg (λq=>absurd (hiff.mpr q) X4)] at hR;have hri:=Ei A.in1 ⟨hp,g,d,tk,os⟩ a t c u prog w
      wp_walk using hri
      exact⟨_,rfl,by simpa using hR⟩
  case fin =>
   rintro⟨b1,b2⟩ s' ⟨hb',rfl,vs,ws,ns',ms',hz,hvi,hwi,hlen,hR⟩;simp only at hb';subst hb';have hv:lexLt ns' ms'=decide (items.size<items2.size):=by
    cases hvi with
    |nil =>
     cases hwi with
     |nil =>
      simp only[Y7] at hlen;rw[uq];exact(Z9 (by lia)).symm
     |cons c u hw =>
      simp only[Y7,x0] at hlen;rw[sN];exact(ab8 (by lia)).symm
    |cons a t hv =>
     cases hwi with
     |nil =>
      simp only[Y7,x0] at hlen;rw[tS];exact(Z9 (by lia)).symm
     |cons c u hw =>
      rw[ak3] at hz;cases hz
   rw[hv] at hR
   wp_walk
   exact⟨_,rfl,by simpa [Builtin.Tuple.tupleCompareSizes] using hR⟩
  case h =>
   exact⟨rfl,rfl,items.toList,items2.toList,ns,ms,rfl,hi,hj,by lia,h⟩
end
section
variable {prog:Program}{w:World}{A:Around}{E:Value->Shared->Prop}{s:Shared}
def zE(hl:IsTup s.heap l items)(hb:IsTup s.heap b items2)(hi:IntsAre items.toList ns)(hj:IntsAre items2.toList ms)
  (hu:A.units<cLine) (h:Q (.bool (lexLt ns ms)) s):wpAny (model prog w) A (compareOp .Lt (.ref l) (.ref b)) Q E s:=by
 obtain⟨⟨cls,dd,data,sl⟩,ho,hc,n,hd⟩:=id hl;obtain⟨⟨cls2,dd2,data2,sl2⟩,ho2,hc2,n2,hd2⟩:=id hb;simp only at hc hd hc2 hd2;subst hc hd hc2 hd2;exact richCompare_meets_room (op:=.Lt) ⟨_,ho,rfl⟩ ⟨_,ho2,rfl⟩ PySem.F.slot_tuple_lt PySem.F.entry_tuple_lt (PySem.F.args_tuple_lt_2 _ _) (uy l b items items2 n n2 dd dd2 sl sl2 ns ms hi hj)
  ⟨ho,ho2,show Value.bool (lexLt ns ms)≠Value.notImplemented/\Q (.bool (lexLt ns ms)) s from ⟨(λx=>nomatch x),h⟩⟩ hu
def xY(n d:Nat):Option Int->Nat
 |none=>d
 |some v=>if v<0 then (v+(n:Int)).toNat else min v.toNat n
def xE(n d:Nat):xY n d none=d:=rfl
def mR(n d k:Nat):xY n d (some (k:Int))=min k n:=by show (if (k:Int)<0 then ((k:Int)+(n:Int)).toNat else min (k:Int).toNat n)=min k n;rw[if_neg (by lia),aa5]
end
end HT
namespace L2
open PySem PySem.Spec PyProof.Rows
abbrev TO:=St->Hp->(Option Int->Hp->Prop)->Prop
def PO(X:Cx)(e:Option Expr)(t:TO):Prop :=
 ∀(pins:List (Addr×Obj)) (s:Shared) (Z:St) (H:Hp) (Q:Option Int->Hp->Prop),Inv X pins Z H s->t Z H Q ->
  wpAny (model X.prog X.w) X.A (evalPart e X.env) (λu s'=>∃o H',Inv X pins Z H' s'/\IsPart u o/\Q o H') X.xe s
def BG:TO:=λ_ H Q=>Q none H
def Mc(t:TE):TO:=λZ H Q=>t Z H λx H1=>∃i,x = .int i/\Q (some i) H1
def intsAre_of:∀{us:List Value},Vals (ns.map V.int) us->IntsAre us ns:=by
 induction ns with
 |nil=>intro us r;rw[List.map_nil] at r;cases r;exact .nil
 |cons n ns ih =>
  intro us r;rw[Y5] at r;cases r with
  |cons r1 r2 =>
   obtain⟨t,e⟩:=r1;subst e;exact .cons n t (ih r2)
section
variable {X:Cx}{e:Expr}{te:TE}{lo hi:Option Expr}{tl th:TO}{pos p2:Pos}
def mL:PO X none BG:=by intro pins s Z H Q I h;rw[evalPart_none];exact T1 ⟨none,H,I,.none,h⟩
def fk(h:PE X e te):PO X (some e) (Mc te):=by intro pins s Z H Q I hw;rw[evalPart_some];refine cM (h pins s Z H _ I hw) λu s1  hZ=>?_;obtain⟨x,H1,I1,r1,q1⟩:=hZ;obtain⟨i,rfl,q⟩:=q1;obtain⟨t,rfl⟩:=r1;exact⟨some i,H1,I1,.int i t,q⟩
def Xf(X:Cx)(r:V->Option Int->Option Int->Hp->VK->Prop):Prop :=
 ∀(pins:List (Addr×Obj)) (s:Shared) (Z:St) (H:Hp) (x:V) (v vl vu:Value) (lo hi:Option Int) (sl:Addr) (Q:VK),Inv X pins Z H s->RelV x v->s.heap.IsSliceOf sl vl vu .none->IsPart vl lo->IsPart vu hi->r x lo hi H Q ->
  ∃T id,typeLookup (.type T) "__getitem__" = pure (some (.builtin id))/\s.TypeIs v T/\wpAny (model X.prog X.w) X.A (getItem v (.ref sl)) (EP X pins Z Q) X.xe s
def tSl(r:V->Option Int->Option Int->Hp->VK->Prop)(te:TE)(tl th:TO):TE:=λZ H Q=>te Z H λx H1=>tl Z H1 λl H2=>th Z H2 λu H3=>r x l u H3 Q
def fW(hr:Xf X r)(he:PE X e te)(hl:PO X lo tl)(hu:PO X hi th):PE X (.Subscript e (.Slice lo hi none p2) pos) (tSl r te tl th):=by intro pins s Z H Q I h;refine Subscript_ (cM (he pins s Z H _ I h) λv s1  hZ=>?_);obtain⟨x,H1,I1,r1,q1⟩:=hZ;refine wpAny_Slice (cM (hl pins s1 Z H1 _ I1 q1) λvl s2 ⟨l,H2,I2,pl,q2⟩=>cM (hu pins s2 Z H2 _ I2 q2) λvu s3  hZ=>?_);obtain⟨u,H3,I3,pu,q3⟩:=hZ;rw[evalPart_none];refine T1 ?_;have I4:Inv X pins Z H3 { s3 with heap:=s3.heap.push { cls:=.type "slice",data:=.fields #[vl,vu,.none] } }:=I3.kept (t':=s3.toks) λb ob q=>u3 _ q;obtain⟨T,id,hT,ht,hg⟩:=hr pins { s3 with heap:=s3.heap.push { cls:=.type "slice",data:=.fields #[vl,vu,.none] } } Z H3 x v vl vu l u s3.heap.objs.size Q I4 r1 (Heap.IsSliceOf.new ..) pl pu q3;show wpAny (model X.prog X.w) X.A (subscriptTail e (.Slice lo hi none p2) v (.ref s3.heap.objs.size)) (EP X pins Z Q) X.xe { s3 with heap:=s3.heap.push { cls:=.type "slice",data:=.fields #[vl,vu,.none] } };exact tail_any (ops:=[.ref s3.heap.objs.size,v]) ht hT hg (by with_unfolding_all rfl)
def cH(xs:List V)(lo hi:Option Int):List V:=(xs.drop (HT.xY xs.length 0 lo)).take (HT.xY xs.length xs.length hi-HT.xY xs.length 0 lo)
def yt(xs:List V)(lo hi:Option Int):(cH xs lo hi).length<=xs.length:=by unfold cH;rw[N0,U2];lia
inductive WH(K:PySem.W.Frag)(x:V)(y:V)(H:Hp)(Q:VK):Prop|mk(a b ns ms)(_:x = .ref a)(_:y = .ref b)(_:fB K H a (ns.map V.int))(_:fB K H b (ms.map V.int))(_:Q (.bl (HT.lexLt ns ms)) H)
def PM(hu:X.A.units<cLine):mZ X (compareOp .Lt) (WH X.K):=by intro pins s Z H x y v u Q I rx ry h;obtain⟨a,b,ns,ms,rfl,rfl,ha,hb,q⟩:=h;cases rx;cases ry;obtain⟨its,r1,p1,_⟩:=I.tuple ha;obtain⟨its2,r2,p2,_⟩:=I.tuple hb;have i1:IntsAre its.toArray.toList ns:=intsAre_of r1;have i2:IntsAre its2.toArray.toList ms:=intsAre_of r2;exact HT.zE p1 p2 i1 i2 hu ⟨.bl (HT.lexLt ns ms),H,I,rfl,q⟩
end
def DS(n:Nat)(i:Int):Option Nat:=if 0<=i then (if i<n then some i.toNat else none) else if -(n:Int)<=i then some (i+n).toNat else none
def uv{α:Type}(xs:List α)(i:Int):Option α:=(DS xs.length i).bind λj=>xs[j]?
def Cq(h:DS n i=some j):seqIndex? i n=some j/\j<n /\ -(n:Int)<=i/\i<n:=by
 unfold DS at h;by_cases h0:0<=i
 ·rw[if_pos h0] at h;by_cases h1:i<n
  ·rw[if_pos h1] at h;have e:i.toNat=j:=X8 h;exact⟨by rw[seqIndex_of h0 h1,e],by lia,by lia,h1⟩
  ·rw[if_neg h1] at h;cases h
 ·rw[if_neg h0] at h;by_cases h1:-(n:Int)<=i
  ·rw[if_pos h1] at h;have e:(i+n).toNat=j:=X8 h;exact⟨by rw[seqIndex_neg (by lia) h1,e],by lia,h1,by lia⟩
  ·rw[if_neg h1] at h;cases h
def wX{α:Type}{xs:List α}{i:Int}{v:α}(h:uv xs i=some v):∃j,seqIndex? i xs.length=some j/\xs[j]?=some v/\j<xs.length /\ -(xs.length:Int)<=i/\i<xs.length:=by
 unfold uv at h;cases e:DS xs.length i with
 |none=>rw[e] at h;cases h
 |some j =>
  rw[e] at h;obtain⟨h1,h2,h3,h4⟩:=Cq e;exact⟨j,h1,h,h2,h3,h4⟩
def aO{α:Type}{xs:List α}{j:Nat}{v:α}(h:xs[j]?=some v):uv xs (j:Int)=some v:=by
 have hj:j<xs.length:=(i5.mp h).1;have e:DS xs.length (j:Int)=some j:=by unfold DS;rw[if_pos (by lia),if_pos (by lia)];simp
 unfold uv;rw[e];exact h
def J2(b:Expr):Prop:=∀o i,subscripted b false o i=operate [o,i] (getItem o i)
def Uo(X:Cx)(r:R2):Prop :=
 ∀(value slice:Expr) (pins:List (Addr×Obj)) (s:Shared) (Z:St) (H:Hp) (x y:V) (v u:Value) (Q:VK),Inv X pins Z H s->RelV x v->RelV y u->r x y H Q ->
  subscripted slice false v u=operate [v,u] (getItem v u)->wpAny (model X.prog X.w) X.A (subscriptTail value slice v u) (EP X pins Z Q) X.xe s
def SX(X:Cx)(id:String)(r:V->List V->Hp->VK->Prop):Prop :=
 ∀(pins:List (Addr×Obj)) (s:Shared) (Z:St) (H:Hp) (x:V) (xs:List V) (v:Value) (us:List Value) (Q:VK),Inv X pins Z H s->RelV x v->Vals xs us->r x xs H Q ->
  wpAny (model X.prog X.w) X.A (call (.builtin id) (v::us)) (EP X pins Z Q) X.xe s
section
variable {X:Cx}{a b:Expr}{ta tb:TE}{pos:Pos}
def aY{r:R2}(hr:Uo X r)(ha:PE X a ta)(hb:PE X b tb)(hs:J2 b):PE X (.Subscript a b pos) (TN r ta tb):=by intro pins s Z H Q I h;exact Subscript_ (Qs ha hb I h λv u s2 x y H2 I2 rx ry q=>hr a b pins s2 Z H2 x y v u Q I2 rx ry q (hs _ _))
inductive K9(K:PySem.W.Frag)(x:V)(y:V)(H:Hp)(Q:VK):Prop|mk(p xs i v)(_:x = .ref p)(_:y = .int i)(_:bq K H p xs)(_:uv xs i=some v)(_:Q v H)
def K9_i{K:PySem.W.Frag}{x:V}{y:V}:K9 K x y H Q↔∃p xs i v,x = .ref p/\y = .int i/\bq K H p xs/\uv xs i=some v/\Q v H:=by constructor <;> intro h <;> obtain⟨p,xs,i,v,h0,h1,h2,h3,h4⟩:=h <;> exact⟨p,xs,i,v,h0,h1,h2,h3,h4⟩
inductive VU(K:PySem.W.Frag)(x:V)(y:V)(H:Hp)(Q:VK):Prop|mk(p xs i v)(_:x = .ref p)(_:y = .int i)(_:fB K H p xs)(_:uv xs i=some v)(_:Q v H)
def VU_i{K:PySem.W.Frag}{x:V}{y:V}:VU K x y H Q↔∃p xs i v,x = .ref p/\y = .int i/\fB K H p xs/\uv xs i=some v/\Q v H:=by constructor <;> intro h <;> obtain⟨p,xs,i,v,h0,h1,h2,h3,h4⟩:=h <;> exact⟨p,xs,i,v,h0,h1,h2,h3,h4⟩
inductive UM(x:V)(y:V)(H:Hp)(Q:VK):Prop|mk(z i c)(_:x = .str z)(_:y = .int i)(_:z.length<=sizeLine)(_:uv z.cps.toList i=some c)(_:Q (.str ⟨#[c]⟩) H)
def UM_i{x:V}{y:V}:UM x y H Q↔∃z i c,x = .str z/\y = .int i/\z.length<=sizeLine/\uv z.cps.toList i=some c/\Q (.str ⟨#[c]⟩) H:=by constructor <;> intro h <;> obtain⟨z,i,c,h0,h1,h2,h3,h4⟩:=h <;> exact⟨z,i,c,h0,h1,h2,h3,h4⟩
def aQ:Uo X (K9 X.K):=by
 intro value slice pins s Z H x y v u Q I rx ry h hs;obtain⟨p,xs,i,z,rfl,rfl,hq,he,q⟩:=h;cases rx;obtain⟨t,rfl⟩:=ry;obtain⟨its,r,pl,hz⟩:=I.list hq;obtain⟨j,h1,h2,h3,h4,h5⟩:=wX he;obtain⟨w,ew,rw'⟩:=r.get h2;have hl:=r.length;have hn:=nE;have fin:EP X pins Z Q w s:=⟨z,H,I,rw',q⟩
 by_cases h0:0<=i
 ·have hj:i.toNat=j:=by rw[seqIndex_of h0 h5] at h1;exact X8 h1
  exact item_listR pl.isList h0 (by lia) (by rw[hj];simpa using ew) fin hs
 ·have hj:(i+(its.toArray.size:Int)).toNat=j:=by rw[seqIndex_neg (by lia) h4] at h1;rw[P3,← hl];exact X8 h1
  exact subscriptTail_builtinR (x:=w) pl.isList.typeIs slot_list_getitem.lookup
   (wpAny_getItem_list_neg (Q:=λr s'=>r=w/\EP X pins Z Q r s') pl.isList (by lia) (by rw[P3] <;> lia) (by lia) (by rw[hj];simpa using ew) ⟨rfl,fin⟩) hs
def cX:Uo X (VU X.K):=by
 intro value slice pins s Z H x y v u Q I rx ry h hs;obtain⟨p,xs,i,z,rfl,rfl,hq,he,q⟩:=h;cases rx;obtain⟨t,rfl⟩:=ry;obtain⟨its,r,pl,hz⟩:=I.tuple hq;obtain⟨j,h1,h2,h3,h4,h5⟩:=wX he;obtain⟨w,ew,rw'⟩:=r.get h2;have hl:=r.length;have hn:=nE;have fin:EP X pins Z Q w s:=⟨z,H,I,rw',q⟩
 exact subscriptTail_builtinR (x:=w) pl.typeIs slot_tuple_getitem.lookup
  (getItem_tuple (j:=j) (Q:=λr s'=>r=w/\EP X pins Z Q r s') pl (by lia) (by lia) (by rw[P3,← hl];exact h1) (by simpa using ew) ⟨rfl,fin⟩) hs
def v9:Uo X UM:=by
 intro value slice pins s Z H x y v u Q I rx ry h hs;obtain⟨z,i,c,rfl,rfl,hz,he,q⟩:=h;obtain⟨t,rfl⟩:=rx;obtain⟨t',rfl⟩:=ry;obtain⟨j,h1,h2,h3,h4,h5⟩:=wX he;have hl:z.cps.toList.length=z.length:=by simp[Str.length]
 rw[hl] at h1 h4 h5;have hn:=nE;exact tail_any (ai0 s z t) slot_str_getitem.lookup (getItem_str (c:=c) (by have e1:decide (i < -(2 ^ 63:Int))=false:=Z9 (by lia);have e2:decide (i ≥ 2 ^ 63)=false:=Z9 (by lia);rw[e1,e2,Bool.or_false]) (by rw[h1];simpa using h2) ⟨.str ⟨#[c]⟩,H,I.tok _,⟨_,rfl⟩,q⟩) hs
def zZ (its:List Value) (n j:Nat) (u:Value):Obj.mapSeq (·.setIfInBounds j u) { cls:=.type "list",data:=.seq its.toArray n } = { cls:=.type "list",data:=.seq (its.set j u).toArray n }:=by simp[Obj.mapSeq]
def Inv.lst(I:Inv X pins Z H s)(h:H p=some (.lst xs)) :
  ∃(its:List Value) (n:Nat),Vals xs its/\s.heap.get? p=some { cls:=.type "list",data:=.seq its.toArray n }/\xs.length<=sizeLine:=by
 obtain⟨z,its,n,r,e⟩:=I.hok p _ h;exact⟨its,n,r,e,z⟩
def Inv.To{its its':List Value}(I:Inv X pins Z H s)(h:H p=some (.lst xs))
  (ho:s.heap.get? p=some { cls:=.type "list",data:=.seq its.toArray n }) (hf:f { cls:=.type "list",data:=.seq its.toArray n } = { cls:=.type "list",data:=.seq its'.toArray n' }) (r:Vals ys its') (hz:ys.length<=sizeLine) (t:Nat) :
  Inv X pins Z (upd H p (.lst ys)) { s with heap:=s.heap.update p f,toks:=t }:=by
 have e:(s.heap.update p f).get? p=some { cls:=.type "list",data:=.seq its'.toArray n' }:=by rw[ad1 f ho (by rw[hf] <;> rfl),hf]
 refine I.write (x:=p) (e:=p) (by rw[h];trivial) (.inl rfl) (λb u hb q=>(aa6 _ _ (aa3 hb)).trans q) ⟨_,e⟩ ?_;exact⟨hz,its',n',r,e⟩
inductive Wf(o:V)(i:V)(v:V)(H:Hp)(Q:(Hp->Prop)):Prop|mk(p xs k j)(_:o = .ref p)(_:i = .int k)(_:H p=some (.lst xs))(_:DS xs.length k=some j)(_:Q (upd H p (.lst (xs.set j v))))
def set_list:T4 X Wf:=by
 intro pins s Z H o i v ov iv u Q I ro ri rv h;obtain⟨p,xs,k,j,rfl,rfl,hp,hj,q⟩:=h;cases ro;obtain⟨t,rfl⟩:=ri;obtain⟨its,n,r,ho,hz⟩:=I.lst hp;obtain⟨h1,h2,h3,h4⟩:=Cq hj;have hl:=r.length;have hn:=nE;have I':Inv X pins Z (upd H p (.lst (xs.set j v))) { s with heap:=s.heap.update p (Obj.mapSeq (·.setIfInBounds j u)) } :=
  I.To hp ho (zZ its n j u) (r.set rv j) (by rw[List.length_set];exact hz) s.toks
 by_cases h0:0<=k
 ·have hk:k.toNat=j:=by rw[seqIndex_of h0 h4] at h1;exact X8 h1
  exact PySem.W.ki_setAt ho h0 (by lia) (by rw[P3,← hl];exact h4) (by rw[hk];exact⟨_,I',q⟩)
 ·have hk:(k+(its.toArray.size:Int)).toNat=j:=by rw[seqIndex_neg (by lia) h3] at h1;rw[P3,← hl];exact X8 h1
  exact PySem.W.ki_setBack ho (by lia) (by rw[P3,← hl];exact h3) (by lia) (by rw[hk];exact⟨_,I',q⟩)
def vX(lo hi:Option Int)(n:Nat):(sliceBounds lo hi none n).1=((HT.xY n 0 lo:Nat):Int)/\(sliceBounds lo hi none n).2.1=((HT.xY n n hi:Nat):Int)/\(sliceBounds lo hi none n).2.2=1:=by
 refine⟨?_,?_,rfl⟩
 ·cases lo with
  |none=>simp[sliceBounds,HT.xY]
  |some i =>
   simp only[sliceBounds,HT.xY,Option.getD_none,show (1:Int)>0 by decide,if_true];by_cases h:i<0
   ·simp only[h,if_true] <;> lia
   ·simp only[h,if_false] <;> lia
 ·cases hi with
  |none=>simp[sliceBounds,HT.xY]
  |some i =>
   simp only[sliceBounds,HT.xY,Option.getD_none,show (1:Int)>0 by decide,if_true];by_cases h:i<0
   ·simp only[h,if_true] <;> lia
   ·simp only[h,if_false] <;> lia
def ux(its:List Value)(lo hi:Option Int):slicePick its.toArray lo hi none=((its.drop (HT.xY its.length 0 lo)).take (HT.xY its.length its.length hi-HT.xY its.length 0 lo)).toArray:=by obtain⟨h1,h2,h3⟩:=vX lo hi its.toArray.size;unfold slicePick;rw[h1,h2,h3];simp only[sliceRange_one,pick_run,P3] <;> rfl
inductive WC(K:PySem.W.Frag)(x:V)(lo:Option Int)(hi:Option Int)(H:Hp)(Q:VK):Prop|mk(a xs)(_:x = .ref a)(_:bq K H a xs)(_:∀p,H p=none->Q (.ref p) (upd H p (.lst (cH xs lo hi))))
def jF:Xf X (WC X.K):=by intro pins s Z H x v vl vu lo hi sl Q I rx hs pl pu h;obtain⟨a,xs,rfl,hx,q⟩:=h;cases rx;obtain⟨its,r,ht,hz⟩:=I.list hx;have hlen:=r.length;refine⟨"list",_,slot_list_getitem.lookup,ht.isList.typeIs,?_⟩;refine wpAny_getItem_list_slice ht.isList hs pl pu .none (by simp) ?_ (by rw[P3] <;> lia);rw[ux,← hlen];refine⟨.ref s.heap.objs.size,_,I.laid (t':=s.toks) (o:=.lst (cH xs lo hi)) (λb ob q=>u3 _ q) (M2 _) ?_,rfl,q _ (I.hok.fresh (M2 _))⟩;exact⟨X6 (yt xs lo hi) hz,_,0,(r.drop (HT.xY xs.length 0 lo)).take (HT.xY xs.length xs.length hi-HT.xY xs.length 0 lo),Z0 _ rfl⟩
def jn:V->Bool
 |.cD=>true
 |.bl _=>true
 |.int _=>true
 |.str _=>true
 |_=>false
def DO:V->V->Bool
 |.cD,.cD=>true
 |.bl a,.bl b=>a == b
 |.bl a,.int b=>(if a then 1 else 0) == b
 |.int a,.bl b=>a == (if b then 1 else 0)
 |.int a,.int b=>a == b
 |.str a,.str b=>a == b
 |_,_=>false
def z0(ry:RelV y u)(rx:RelV x v)(fy:jn y=true)(fx:jn x=true):SeqAt.EqAt A s u v (DO y x):=by
 cases y with
 |cD =>
  cases ry;cases x with
  |cD=>cases rx;exact SeqAt.EqAt.same _
  |bl b=>cases rx;exact SeqAt.EqAt.none_bool b
  |int b=>obtain⟨t,rfl⟩:=rx;exact SeqAt.EqAt.none_int b t
  |str b=>obtain⟨t,rfl⟩:=rx;exact SeqAt.EqAt.none_str b t
  |_=>exact absurd (show false=true from fx) X4
 |bl a =>
  cases ry;cases x with
  |cD=>cases rx;exact SeqAt.EqAt.bool_none a
  |bl b=>cases rx;exact SeqAt.EqAt.bool_bool a b
  |int b=>obtain⟨t,rfl⟩:=rx;exact SeqAt.EqAt.bool_int a b t
  |str b=>obtain⟨t,rfl⟩:=rx;exact SeqAt.EqAt.bool_str a b t
  |_=>exact absurd (show false=true from fx) X4
 |int a =>
  obtain⟨t',rfl⟩:=ry;cases x with
  |cD=>cases rx;exact SeqAt.EqAt.int_none a t'
  |bl b=>cases rx;exact SeqAt.EqAt.int_bool a t' b
  |int b=>obtain⟨t,rfl⟩:=rx;exact SeqAt.EqAt.int_int a t' b t
  |str b=>obtain⟨t,rfl⟩:=rx;exact SeqAt.EqAt.int_str a t' b t
  |_=>exact absurd (show false=true from fx) X4
 |str a =>
  obtain⟨t',rfl⟩:=ry;cases x with
  |cD=>cases rx;exact SeqAt.EqAt.str_none a t'
  |bl b=>cases rx;exact SeqAt.EqAt.str_bool a t' b
  |int b=>obtain⟨t,rfl⟩:=rx;exact SeqAt.EqAt.str_int a t' b t
  |str b=>obtain⟨t,rfl⟩:=rx;exact SeqAt.EqAt.str_str a t' b t
  |_=>exact absurd (show false=true from fx) X4
 |_=>exact absurd (show false=true from fy) X4
def z8(x:V)(u:Value):Bool:=match u with
 |.none=>DO .cD x
 |.bool b=>DO (.bl b) x
 |.int i _=>DO (.int i) x
 |.str z _=>DO (.str z) x
 |_=>false
def FO(r:RelV y u)(f:jn y=true):z8 x u=DO y x:=by
 cases y with
 |cD=>cases r;rfl
 |bl b=>cases r;rfl
 |int i=>obtain⟨t,rfl⟩:=r;rfl
 |str z=>obtain⟨t,rfl⟩:=r;rfl
 |_=>exact absurd (show false=true from f) X4
theorem oz:∀{xs:List V} {us:List Value},Vals xs us->xs.all jn=true->us.any (z8 x)=xs.any λy=>DO y x
 |_,_,.nil,_=>rfl
 |y::xs,u::us,.cons r t,f=>by rw[List.all_cons,aa9] at f;rw[List.any_cons,List.any_cons,FO r f.1,oz t f.2]
theorem kZ(rx:RelV x v)(fx:jn x=true):∀{xs:List V} {us:List Value},Vals xs us->xs.all jn=true->∀u∈us,SeqAt.EqAt A s u v (z8 x u)
 |_,_,.nil,_=>λu hu=>by cases hu
 |y::xs,u::us,.cons r t,f=>λu' hu=>by
  rw[List.all_cons,aa9] at f;rcases y0.mp hu with rfl|hu
  ·rw[FO r f.1];exact z0 r rx f.1 fx
  ·exact kZ rx fx t f.2 u' hu
def R3(x:V)(xs:List V):Bool:=xs.any λy=>DO y x
inductive WR(K:PySem.W.Frag)(neg:Bool)(x:V)(y:V)(H:Hp)(Q:VK):Prop|mk(p xs)(_:y = .ref p)(_:(bq K H p xs∨fB K H p xs))(_:jn x=true)(_:xs.all jn=true)(_:Q (.bl (if neg then !R3 x xs else R3 x xs)) H)
def WR_i{K:PySem.W.Frag}{neg:Bool}{x:V}{y:V}:WR K neg x y H Q↔∃p xs,y = .ref p/\(bq K H p xs∨fB K H p xs)/\jn x=true/\xs.all jn=true/\Q (.bl (if neg then !R3 x xs else R3 x xs)) H:=by constructor <;> intro h <;> obtain⟨p,xs,h0,h1,h2,h3,h4⟩:=h <;> exact⟨p,xs,h0,h1,h2,h3,h4⟩
def uH:mZ X (compareOp .In) (WR X.K false):=by
 intro pins s Z H x y v u Q I rx ry h;obtain⟨p,xs,rfl,hq,fx,fs,q⟩:=h;cases ry;rcases hq with hq|hq
 ·obtain⟨its,r,pl,hz⟩:=I.list hq;refine SeqAt.in_listAt (z8 x) pl.isList (λw hw=>kZ rx fx r fs w (by simpa using hw)) ⟨.bl _,H,I,rfl,?_⟩;rw[show its.toArray.any (z8 x)=its.any (z8 x) by simp,oz r fs];exact q
 ·obtain⟨its,r,pl,hz⟩:=I.tuple hq;refine SeqAt.in_tupleAt (z8 x) pl (λw hw=>kZ rx fx r fs w (by simpa using hw)) ⟨.bl _,H,I,rfl,?_⟩;rw[show its.toArray.any (z8 x)=its.any (z8 x) by simp,oz r fs];exact q
def oZ:mZ X (compareOp .NotIn) (WR X.K true):=by
 intro pins s Z H x y v u Q I rx ry h;obtain⟨p,xs,rfl,hq,fx,fs,q⟩:=h;cases ry;rcases hq with hq|hq
 ·obtain⟨its,r,pl,hz⟩:=I.list hq;refine SeqAt.notIn_listAt (z8 x) pl.isList (λw hw=>kZ rx fx r fs w (by simpa using hw)) ⟨.bl _,H,I,rfl,?_⟩;rw[show its.toArray.any (z8 x)=its.any (z8 x) by simp,oz r fs];exact q
 ·obtain⟨its,r,pl,hz⟩:=I.tuple hq;refine SeqAt.notIn_tupleAt (z8 x) pl (λw hw=>kZ rx fx r fs w (by simpa using hw)) ⟨.bl _,H,I,rfl,?_⟩;rw[show its.toArray.any (z8 x)=its.any (z8 x) by simp,oz r fs];exact q
def aS:gR X (.builtin "len") (λxs H Q=>∃p ys,xs=[.ref p]/\(bq X.K H p ys∨fB X.K H p ys)/\Q (.int ys.length) H):=by
 intro pins s Z H xs us Q I r h;obtain⟨p,ys,rfl,hq,q⟩:=h;obtain⟨u,rfl,rx⟩:=vals1 r;cases rx;have hn:=nE;rcases hq with hq|hq
 ·obtain⟨its,r',pl,hz⟩:=I.list hq;have hlen:=r'.length;exact Calls.call_len_list pl.isList (by simp only[P3] <;> lia) ⟨.int ys.length,H,I.tok _,⟨s.toks+1,by rw[P3,hlen]⟩,q⟩
 ·obtain⟨its,r',pl,hz⟩:=I.tuple hq;have hlen:=r'.length;exact len_tuple pl (by simp only[P3] <;> lia) ⟨.int ys.length,H,I.tok _,⟨s.toks+1,by rw[P3,hlen]⟩,q⟩
def bJ:gR X (.builtin "len") (λxs H Q=>∃z,xs=[.str z]/\z.length<=sizeLine/\Q (.int z.length) H):=by intro pins s Z H xs us Q I r h;obtain⟨z,rfl,hz,q⟩:=h;obtain⟨u,rfl,t,rfl⟩:=vals1 r;have hn:=nE;exact len_str (by lia) ⟨.int z.length,H,I.tok _,⟨_,rfl⟩,q⟩
def gG:gR X (.type "list") (λxs H Q=>∃p ys,xs=[.ref p]/\(bq X.K H p ys∨fB X.K H p ys)/\∀l,H l=none->Q (.ref l) (upd H l (.lst ys))):=by
 intro pins s Z H xs us Q I r h;obtain⟨p,ys,rfl,hq,q⟩:=h;obtain⟨u,rfl,rx⟩:=vals1 r;cases rx;have fin:∀(its:List Value),Vals ys its->ys.length<=sizeLine->∀(h':Heap) (c':Nat),(∀b o',s.heap.get? b=some o'->h'.get? b=some o') ->
   h'.get? s.heap.objs.size=some { cls:=.type "list",dict:=none,data:=.seq its.toArray c',slots:=#[] }->EP X pins Z Q (.ref s.heap.objs.size) { s with heap:=h' }:=λits r' hz h' c' kp e =>
  ⟨.ref s.heap.objs.size,_,I.laid (t':=s.toks) kp (M2 _) (show b9 X.prog X.w _ h' _ (.lst ys) from ⟨hz,its,c',r',e⟩),rfl,q _ (I.hok.fresh (M2 _))⟩
 rcases hq with hq|hq
 ·obtain⟨its,r',pl,hz⟩:=I.list hq;have hlen:=r'.length;obtain⟨o,ho,hc,n,hd⟩:=pl.isList;exact call_list_seq p (.inl rfl) ho hc hd (λh' c' kp e=>fin its r' hz h' c' kp e) (by simp only[P3] <;> lia)
 ·obtain⟨its,r',pl,hz⟩:=I.tuple hq;have hlen:=r'.length;obtain⟨o,ho,hc,n,hd⟩:=pl;exact call_list_seq p (.inr rfl) ho hc hd (λh' c' kp e=>fin its r' hz h' c' kp e) (by simp only[P3] <;> lia)
def uw:gR X (.type "tuple") (λxs H Q=>∃p ys,xs=[.ref p]/\((bq X.K H p ys/\∀l,H l=none->Q (.ref l) (upd H l (.tup ys)))∨(fB X.K H p ys/\Q (.ref p) H))):=by
 intro pins s Z H xs us Q I r h;obtain⟨p,ys,rfl,h⟩:=h;obtain⟨u,rfl,rx⟩:=vals1 r;cases rx;rcases h with ⟨hq,q⟩|⟨hq,q⟩
 ·obtain⟨its,r',pl,hz⟩:=I.list hq;have hlen:=r'.length;refine call_tuple_list pl.isList (λh' kp=>?_) (by simp only[P3] <;> lia);have I1:Inv X pins Z H { s with heap:=h' }:=I.kept (t':=s.toks) kp;have I2:Inv X pins Z (upd H h'.objs.size (.tup ys)) { s with heap:=h'.push { cls:=.type "tuple",data:=.seq its.toArray } } :=
   I1.laid (t':=s.toks) (λb o e=>u3 _ e) (M2 _) (show b9 X.prog X.w _ _ _ (.tup ys) from ⟨hz,its,r',IsTup.new _ _⟩)
  exact⟨.ref h'.objs.size,_,I2,rfl,q _ (I1.hok.fresh (M2 _))⟩
 ·obtain⟨its,r',pl,hz⟩:=I.tuple hq;exact call_tuple_same pl ⟨.ref p,H,I,rfl,q⟩
def Xe(K:PySem.W.Frag)(T:String)(x:V)(H:Hp):Prop:=match x with
 |.str _=>T = "str"
 |.int _=>T = "int"
 |.ref p=>(T = "list" /\ ∃xs,bq K H p xs)∨(T = "tuple" /\ ∃o,K.lookup p=some o/\o.cls = .type "tuple" /\ o.dict=none) ∨
   (T = "dict" /\ ((∃kvs,H p=some (.dK kvs))∨∃kvs,H p=some (.dT kvs)))∨(T = "set" /\ ∃S n,H p=some (.set S n))
 |_=>False
def Iw(I:Inv X pins Z H s)(r:RelV x v)(ty:Xe X.K T x H) :
  s.TypeIs v T/\∀a,v = .ref a->∃ob,s.heap.get? a=some ob/\ob.dict=none:=by
 cases x with
 |str z =>
  obtain⟨t,rfl⟩:=r;cases (show T = "str" from ty);exact⟨ai0 s z t,λ_ e=>nomatch e⟩
 |int i =>
  obtain⟨t,rfl⟩:=r;cases (show T = "int" from ty);exact⟨typeIs_int s i t,λ_ e=>nomatch e⟩
 |ref p =>
  cases r;rcases ty with ⟨rfl,xs,hq⟩|⟨rfl,o,hk,hc,hd⟩|⟨rfl,hk⟩|⟨rfl,S,n,hk⟩
  ·obtain⟨its,_,pl,_⟩:=I.list hq;refine⟨pl.isList.typeIs,λa e=>?_⟩;cases e;obtain⟨o,n,e,c,hd,_⟩:=pl;exact⟨o,e,hd⟩
  ·refine⟨⟨o,I.iU p o hk,hc⟩,λa e=>?_⟩;cases e;exact⟨o,I.iU _ o hk,hd⟩
  ·have z:∃o,s.heap.get? p=some o/\o.ExactDict:=by
    rcases hk with ⟨kvs,hk⟩|⟨kvs,hk⟩
    ·obtain⟨_,_,_,_,o,_,_,e,ex,_⟩:=I.hok p _ hk;exact⟨o,e,ex⟩
    ·obtain⟨_,_,_,_,o,_,_,e,ex,_⟩:=I.hok p _ hk;exact⟨o,e,ex⟩
   obtain⟨o,e,ex⟩:=z;refine⟨⟨o,e,ex.1⟩,λa e2=>?_⟩;cases e2;exact⟨o,e,ex.2.1⟩
  ·obtain⟨o,_,_,_,e,ex,_⟩:=I.hok p _ hk;refine⟨⟨o,e,ex.1⟩,λa e2=>?_⟩;cases e2;exact⟨o,e,ex.2.1⟩
 |_=>exact False.elim ty
def UP(K:PySem.W.Frag)(T:String)(r:V->List V->Hp->VK->Prop)(to:TE):TE:=λZ H Q=>to Z H λx H1=>Xe K T x H1/\r x [] H1 Q
def tBM(K:PySem.W.Frag)(T:String)(r:V->List V->Hp->VK->Prop)(to:TE)(t:TA):TE:=λZ H Q=>to Z H λx H1=>Xe K T x H1/\t Z H1 λxs H2=>r x xs H2 Q
variable {o e:Expr}{es:List Expr}{to:TE}{t:TA}{name:Str}{apos cpos:Pos}{T id:String}{r:V->List V->Hp->VK->Prop}
def zw (pa:PlainAttrs T) (slot:Slot T name id) (hty:typeOf (.builtin id)=pure (.type "method_descriptor")) (hm:SX X id r) (ho:PE X o to)
  (hbase:autoParam (attributeBase o name X.env (eval o X.env)=eval o X.env) L2.Y3._auto_1) (hline:autoParam ((apos.endLine == cpos.line)=true) L2.Y3._auto_1):PE X (.Call (.Attribute o name apos) [] [] cpos) (UP X.K T r to):=by
 intro pins s Z H Q I h;refine wpAny_Call_method0_late hbase hline (cM (ho pins s Z H _ I h) λv s1  hZ=>?_);obtain⟨x,H1,I1,r1,ty,q1⟩:=hZ;obtain⟨h1,h2⟩:=Iw I1 r1 ty;exact⟨T,id,pa,slot,hty,h1,h2,ag6 rfl (PySem.evalArgs_none (hm pins s1 Z H1 x [] v [] Q I1 r1 .nil q1))⟩
def dF (pa:PlainAttrs T) (slot:Slot T name id) (hty:typeOf (.builtin id)=pure (.type "method_descriptor")) (hm:SX X id r) (ho:PE X o to) (ha:PA X (e::es) t)
  (hbase:autoParam (attributeBase o name X.env (eval o X.env)=eval o X.env) L2.Y3._auto_1)
  (hfew:autoParam (((backTo cpos (starEach (e::es) X.env)).all (λx=>!x.1) && (backToKw cpos (keywordEach [] X.env)).all (λx=>x.1.isSome)
   && decide ((e::es).length+([]:List Keyword).length+(if ([]:List Keyword).isEmpty then 0 else 1)<30))=true) L2.Y3._auto_1)
  (hline:autoParam ((apos.endLine == cpos.line)=true) L2.Y3._auto_1) (hs:autoParam (starEach (e::es) X.env=(false,eval e X.env)::starEach es X.env) L2.Y3._auto_1) (hplain:autoParam ((backTo cpos (starEach es X.env)).any (·.1)=false) L2.Y3._auto_1) :
  PE X (.Call (.Attribute o name apos) (e::es) [] cpos) (tBM X.K T r to t):=by
 intro pins s Z H Q I h;refine wpAny_Call_method_late hbase hfew hline rfl (cM (ho pins s Z H _ I h) λv s1  hZ=>?_);obtain⟨x,H1,I1,r1,ty,q1⟩:=hZ;obtain⟨h1,h2⟩:=Iw I1 r1 ty;refine⟨T,id,pa,slot,hty,h1,h2,?_⟩;have hA:=ha cpos pins s1 Z H1 _ I1 q1;rw[hs] at hA ⊢;refine ag6 (by show (false || (backTo cpos (starEach es X.env)).any (·.1))=false;rw[hplain] <;> rfl) (ai3 ?_);exact cM hA λus s2 ⟨vs,H2,I2,r2,q2⟩=>hm pins s2 Z H2 x vs v us Q I2 r1 r2 q2
end
def Xi(X:Cx)(id:String)(r:V->List V->Hp->VK->Prop):Prop :=
 ∀(pins:List (Addr×Obj)) (s:Shared) (Z:St) (H:Hp) (x:V) (xs:List V) (v:Value) (us:List Value) (Q:VK),Inv X pins Z H s->RelV x v->Vals xs us->r x xs H Q ->
  wpAny (model X.prog X.w) X.A (call (.builtin id) (v::us)) (EP X pins Z Q) X.xe s
def Vals.one(h:Vals [x] us):∃u,us=[u]/\RelV x u:=by
 cases h with
 |cons r h=>
  cases h;exact⟨_,rfl,r⟩
def Vals.two(h:Vals [x,y] us):∃u v,us=[u,v]/\RelV x u/\RelV y v:=by
 cases h with
 |cons r h=>cases h with
  |cons q h=>
   cases h;exact⟨_,_,rfl,r,q⟩
theorem Vals.zero:∀{us:List Value},Vals [] us->us=[]
 |_,.nil=>rfl
def Vals.dropLast(h:Vals xs us):Vals xs.dropLast us.dropLast:=by
 induction h with
 |nil=>exact .nil
 |cons r t ih =>
  cases t with
  |nil=>exact .nil
  |cons q t'=>exact .cons r ih
theorem Vals.rep(h:Vals xs us):∀k:Nat,Vals (List.replicate k xs).flatten (List.replicate k us).flatten
 |0=>.nil
 |k+1=>by rw[ae2,ae2,ah7,ah7];exact Vals.append h (Vals.rep h k)
def zH{α:Type}(l:List α):l.eraseIdx (l.length-1)=l.dropLast:=by
 induction l with
 |nil=>rfl
 |cons a r ih =>
  cases r with
  |nil=>rfl
  |cons b r =>
   have e:(a::b::r).length-1=((b::r).length-1)+1:=by have h1:(a::b::r).length=r.length+2:=rfl;have h2:(b::r).length=r.length+1:=rfl;lia
   rw[e,List.eraseIdx_cons_succ,ih];all_goals rfl
theorem foldl_rep(its:List Value):∀(k:Nat) (acc:List Value),
  List.foldl (λx1 x2=>x1++x2) acc.toArray (List.replicate k its.toArray)=(acc++(List.replicate k its).flatten).toArray
 |0,acc=>by simp
 |k+1,acc=>by
  have e:acc.toArray++its.toArray=(acc++its).toArray:=by simp
  have e2:(acc++its)++(List.replicate k its).flatten=acc++(List.replicate (k+1) its).flatten:=by rw[ae2,ah7,ac6]
  rw[← e2,← foldl_rep its k (acc++its),← e,ae2,aj9]
section
variable {X:Cx}{pins:List (Addr×Obj)}{Z:St}{H:Hp}{s:Shared}{l b:Addr}{xs ys zs:List V}
def Inv.TJ{its its':List Value}(I:Inv X pins Z H s)(hH:H l=some (.lst xs))
  (e:s.heap.get? l=some { cls:=.type "list",data:=.seq its.toArray n }) (hf:f its.toArray=its'.toArray) (hv:Vals ys its') (hz:ys.length<=sizeLine) :
  Inv X pins Z (upd H l (.lst ys)) { s with heap:=s.heap.update l (Obj.mapSeq f),toks:=t' }:=by
 have q:=PySem.IsL.update e f;rw[hf] at q;refine I.write (x:=l) (e:=l) (by rw[hH];exact trivial) (.inl rfl) (λb' u hb hu=>(aa6 s.heap (Obj.mapSeq f) (aa3 hb)).trans hu) ⟨_,q⟩ ?_;exact⟨hz,its',_,hv,q⟩
def Inv.Hx(I:Inv X pins Z H s)(hv:Vals ys its)(hz:ys.length<=sizeLine) :
  Inv X pins Z (upd H s.heap.objs.size (.lst ys)) { s with heap:=s.heap.push { cls:=.type "list",data:=.seq its.toArray },toks:=t' } :=
 I.laid (λ_ _ q=>u3 _ q) (M2 _) ⟨hz,its,0,hv,Z0 _ rfl⟩
def Inv.fresh(I:Inv X pins Z H s):H s.heap.objs.size=none:=I.hok.fresh (M2 _)
def Inv.AL (I:Inv X pins Z H s) (hH:H l=some (.lst xs)):xs.length<=sizeLine/\∃(its:List Value) (n:Nat),Vals xs its/\xs.length=its.length/\s.heap.get? l=some { cls:=.type "list",data:=.seq its.toArray n }:=by obtain⟨z,its,n,r,e⟩:=I.hok l _ hH;exact⟨z,its,n,r,r.length,e⟩
def xw(h:n<=sizeLine):Builtin.List.listTooLong n=false:=by unfold Builtin.List.listTooLong;exact Z9 (by lia)
end
section
variable {X:Cx}
inductive KI(x:V)(vs:List V)(H:Hp)(Q:VK):Prop|mk(l xs y)(_:x = .ref l)(_:vs=[y])(_:H l=some (.lst xs))(_:xs.length<sizeLine)(_:Q .cD (upd H l (.lst (xs++[y]))))
def bZ:Xi X "list.append" KI:=by intro pins s Z H x vs v us Q I rx rv h;obtain⟨l,xs,y,rfl,rfl,hH,hz,q⟩:=h;cases rx;obtain⟨u,rfl,ru⟩:=rv.one;obtain⟨z,its,n,r,hl,e⟩:=I.AL hH;refine ag5 Y6 ⟨_,e,rfl⟩ F.entry_list_append (F.args_list_append_2 _ _) (PySem.list_append l its.toArray n u (by rw[P3];lia)) ⟨e,?_⟩;refine⟨.cD,_,I.TJ (its':=its++[u]) hH e (by simp) (r.append (.cons ru .nil)) ?_,rfl,q⟩;rw[o0,aa4];lia
inductive Kp(x:V)(vs:List V)(H:Hp)(Q:VK):Prop|mk(l b xs zs)(_:x = .ref l)(_:vs=[.ref b])(_:H l=some (.lst xs))(_:H b=some (.lst zs))(_:xs.length+zs.length<=sizeLine)(_:Q .cD (upd H l (.lst (xs++zs))))
def D5:Xi X "list.extend" Kp:=by
 intro pins s Z H x vs v us Q I rx rv h;obtain⟨l,b,xs,zs,rfl,rfl,hH,hB,hz,q⟩:=h;cases rx;obtain⟨u,rfl,ru⟩:=rv.one;cases ru;obtain⟨z,its,n,r,hl,e⟩:=I.AL hH;obtain⟨z2,its2,n2,r2,hl2,e2⟩:=I.AL hB;have hsz:its.toArray.size+its2.toArray.size<=sizeLine:=by rw[P3,P3];lia
 have hlong:¬ (!its.toArray.isEmpty && Builtin.List.listTooLong (its.toArray.size+its2.toArray.size))=true:=by rw[xw hsz,Bool.and_false];exact X4
 refine ag5 F.slot_list_extend ⟨_,e,rfl⟩ F.entry_list_extend (F.args_list_extend_2 _ _)
  (AutoSeq1.list_extend_list_list_0 l its.toArray n b its2.toArray n2 hlong (by rw[P3];lia) (by lia)) ⟨e,e2,?_⟩
 refine⟨.cD,_,I.TJ (its':=its++its2) hH e (by simp) (r.append r2) ?_,rfl,q⟩;rw[o0];lia
inductive WE(x:V)(vs:List V)(H:Hp)(Q:VK):Prop|mk(l xs y)(_:x = .ref l)(_:vs=[])(_:H l=some (.lst xs))(_:xs[xs.length-1]?=some y)(_:Q y (upd H l (.lst xs.dropLast)))
def zO:Xi X "list.pop" WE:=by
 intro pins s Z H x vs v us Q I rx rv h;obtain⟨l,xs,y,rfl,rfl,hH,hy,q⟩:=h;cases rx;have hus:=rv.zero;subst hus;obtain⟨z,its,n,r,hl,e⟩:=I.AL hH;obtain⟨u,hu,ru⟩:=r.get hy;have hy':its.toArray[its.toArray.size-1]?=some u:=by show its.toArray[its.length-1]?=some u;rw[← Array.getElem?_toList,← hl];exact hu
 refine ag5 F.slot_list_pop ⟨_,e,rfl⟩ F.entry_list_pop (F.args_list_pop_1 _) (MeetsSeq.list_pop_last l its.toArray n u hy' (by rw[P3];lia)) ⟨e,?_⟩;refine⟨y,_,I.TJ (its':=its.dropLast) hH e ?_ r.dropLast ?_,ru,q⟩
 ·show its.toArray.eraseIdxIfInBounds (its.toArray.size-1)=its.dropLast.toArray;rw[P3,List.eraseIdxIfInBounds_toArray,zH]
 ·rw[ai4];lia
inductive Xn(x:V)(y:V)(H:Hp)(Q:VK):Prop|mk(l b xs zs)(_:x = .ref l)(_:y = .ref b)(_:H l=some (.lst xs))(_:H b=some (.lst zs))(_:xs.length+zs.length<=sizeLine)(_:∀p,H p=none->Q (.ref p) (upd H p (.lst (xs++zs))))
def iD:mZ X (binaryOp .Add) Xn:=by
 intro pins s Z H x y v u Q I rx ry h;obtain⟨l,b,xs,zs,rfl,rfl,hH,hB,hz,q⟩:=h;cases rx;cases ry;obtain⟨z,its,n,r,hl,e⟩:=I.AL hH;obtain⟨z2,its2,n2,r2,hl2,e2⟩:=I.AL hB;refine PySem.P.add_list e e2 ?_ (by rw[P3,P3];lia);have ea:its.toArray++its2.toArray=(its++its2).toArray:=by simp
 rw[ea];exact⟨.ref _,_,I.Hx (t':=s.toks) (r.append r2) (by rw[o0];lia),rfl,q _ I.fresh⟩
inductive Xq(x:V)(y:V)(H:Hp)(Q:VK):Prop|mk(l k xs)(_:x = .ref l)(_:y = .int k)(_:H l=some (.lst xs))(_:-(2 ^ 63)<=k)(_:k<2 ^ 63)(_:xs.length*k.toNat<=sizeLine)(_:∀p,H p=none->Q (.ref p) (upd H p (.lst (List.replicate k.toNat xs).flatten)))
def len_rep{α:Type}(xs:List α)(k:Nat):(List.replicate k xs).flatten.length=k*xs.length:=by
 induction k with
 |zero=>simp
 |succ k ih=>rw[ae2,ah7,o0,ih,Nat.succ_mul,Nat.add_comm]
def sX:mZ X (binaryOp .Mult) Xq:=by
 intro pins s Z H x y v u Q I rx ry h;obtain⟨l,k,xs,rfl,rfl,hH,h1,h2,hz,q⟩:=h;cases rx;obtain⟨t,rfl⟩:=ry;obtain⟨z,its,n,r,hl,e⟩:=I.AL hH;have hlen:its.toArray.size*k.toNat<=sizeLine:=by rw[P3,← hl];exact hz
 have hcap:¬ its.toArray.size*k.toNat>(2 ^ 63-1) / 8:=by
  have:(sizeLine:Nat)<=(2 ^ 63-1) / 8:=by decide
  lia
 have hfit:¬ (!Builtin.List.listFitsIndex k)=true:=by rw[fitsIndex_both h1 h2];exact X4
 have hlong:¬ Builtin.List.listTooLong (its.toArray.size*k.toNat)=true:=by rw[xw hlen];exact X4
 have hnew:List.foldl (λx1 x2=>x1++x2) #[] (List.replicate (if its.toArray.isEmpty=true then 0 else k.toNat) its.toArray)=(List.replicate k.toNat its).flatten.toArray:=by
  have f0:∀m:Nat,List.foldl (λx1 x2=>x1++x2) #[] (List.replicate m its.toArray)=(List.replicate m its).flatten.toArray:=λm=>by have:=foldl_rep its m [];rw[List.nil_append] at this;exact this
  rw[f0];cases its with
  |nil=>simp
  |cons a r'=>rw[if_neg (by simp)]
 refine wpAny_binaryOp_repeat_ref (T:="list") (U:="int") (by decide) ⟨_,e,rfl⟩ (λs'=>typeIs_int s' k t) noFill_list_mul F.fills_int_mul F.slot_int_rmul repeat_list F.slot_int_index.lookup
  (ag5 F.slot_int_rmul (typeIs_int s k t) F.entry_int_rmul (F.args_int_rmul_2 _ _) (int___rmul___int_list k t l its.toArray n)
   ⟨e,rfl,⟨_,e,rfl⟩,ag5 F.slot_list_mul ⟨_,e,rfl⟩ F.entry_list_mul (F.args_list_mul_2 _ _) (AutoListH.list___mul___list_int_3 l its.toArray n k t hfit hcap hlong) ⟨e,?_⟩⟩)
 rw[hnew];exact⟨.ref _,_,I.Hx (t':=s.toks) (r.rep k.toNat) (by rw[len_rep,Nat.mul_comm];exact hz),rfl,q _ I.fresh⟩
end
section
variable {prog:Program}{w:World}{A:Around}{E:Value->Shared->Prop}{s:Shared}
set_option maxRecDepth 100000 in
end
section
variable {X:Cx}
end
end L2
namespace Att
open PySem PySem.W PySem.Calls PyProof.Rows
def rm:∀(ns:List Int) (vs:List Value),WellAll P h vs (ns.map WData.int)->IntsAre vs ns:=by
 intro ns;induction ns with
 |nil =>
  intro vs w;rw[List.map_nil] at w;cases w;exact .nil
 |cons n ns ih =>
  intro vs w;rw[Y5] at w;cases w with
  |cons a b =>
   cases a;exact .cons _ _ (ih _ b)
def D3{l:OpenLaw}(hn:l.most=some n)
  (hpre:l.row.toRowW.claim.pre args=true) (hwl:WellAll P h vals args) :
  ∃a vs ns,vals=[Value.ref a]/\args=[WData.list (ns.map WData.int)]/\h.get? a=some { cls:=.type "list",data:=.seq vs.toArray }/\IntsAre vs ns/\ns.length<=n:=by
 have hsh:WShape.hasAll [] args [.list .int]=true:=(pre_splitW hpre).1;have hc:l.pre.holds [] { args:=args }=true:=(pre_splitW hpre).2;obtain⟨d,r,rfl,h1,h2⟩:=hasAllW_cons hsh;obtain rfl:=hasAllW_nil h2;obtain⟨xs,rfl,h3⟩:=hasW_list h1;obtain⟨ns,rfl⟩:=items_int h3;have hlen:ns.length<=n:=by
  unfold OpenLaw.pre at hc;have h4:(WTm.not (.lt (.lit (.int (n:Int))) (.len (.arg 0)))).holds [] { args:=[.list (ns.map .int)] }=true:=by have h4:=(holds_andW hc).1;rw[hn] at h4;exact h4
  have h5:=condW_of h4 (w_not (w_lt w_lit (w_len_list (w_arg rfl))));rw[d6] at h5;refine Nat.le_of_not_lt λq=>?_;have q':(n:Int)<((ns.length:Nat):Int):=by lia
  first
   | (rw[ab8 q'] at h5;exact absurd h5 (by decide))
   | (simp at h5;lia)
 cases hwl with
 |cons w1 w2 =>
  cases w2;cases w1 with
  |list ho hall=>exact⟨_,_,ns,rfl,rfl,ho,rm ns _ hall,hlen⟩
def C9(l:OpenLaw)(args:List WData):l.row.toRowW.claim.post args (.bool true) args=true :=
 postW_of (r:=l.row.toRowW) (X:=(true == true))
  (show WShape.has [] (.bool true) .bool=true by first | rfl | decide | simp[WShape.has,WShape.arms,WShape.armsAll])
  (show (WTm.eq .res (.lit (.bool true))).value [] { args:=args,res:=some (.bool true),after:=args }=some (.bool (true == true)) from w_eq_bool (w_res rfl) w_lit) rfl
def xR{l:OpenLaw}
  (hn:l.most=some n) (hdf:d.params.defaults=[])
  (call:∀(w:World) (s₀ s₁:Shared) (mg mb:Str->Option Value) (fa:Addr) (o:Obj) (pm cd doc:Value) (a:Addr) (vs:List Value) (ns:List Int),
   Ground q loose [] XP w s₀ mg mb s₁.heap->YP w s₁.heap ->
   s₁.heap.get? fa=some o->o.data = .func (docDef d.name d.params d.body d.scope pm cd doc)->s₁.heap.CodeRec cd d.name->mg d.name=some (.ref fa) ->
   s₁.heap.get? a=some { cls:=.type "list",data:=.seq vs.toArray }->IntsAre vs ns->ns.length<=n->s₁.gens = #[] ->
   codeAny (model l.prog w) callerA (.call (.ref fa) ⟨[.ref a],[]⟩) (λr s'=>r = .ok (.ret (.bool true))/\OldK s₁.heap s'.heap/\s'.os=s₁.os/\AllBare s'.gens) s₁) :
  WalkO q loose XP YP l.row.toRowW d [] (λf vs=>PySem.call f vs):=by
 intro w s₀ s₁ mg mb G Y fa o pm cd doc dV kV ho hd hcd hD hmg hg args vals as hpre hlay hrd hwl hlo;obtain rfl:dV = .none:=Dflts.none hD hdf;obtain rfl:kV = .none:=Dflts.noKw hD;obtain⟨a,vs,ns,rfl,rfl,hobj,hints,hlen⟩:=D3 hn hpre hwl;refine enter_call (aj6 (call w s₀ s₁ mg mb fa o pm cd doc a vs ns G Y ho (fd_plain hd) hcd hmg hobj hints hlen hg) λr s' hq=>?_);obtain⟨rfl,h2,h3,h4⟩:=hq;exact⟨.inl ⟨.bool true,.bool true,[],rfl,λ_=>rfl,.bool true,C9 l _,λ_=>⟨List.Pairwise.nil,λ_ hm=>(nomatch hm)⟩⟩,h2,h3,h4⟩
section
variable {prog:Program}{w:World}{A:Around}{E:Value->Shared->Prop}{s:Shared}{K:Frag}
def lE(h:Heap):Heap:={ h with objs:=#[] }
def gr(h:Heap)(b:Addr):(lE h).get? b=none:=by
 cases e:(lE h).get? b with
 |none=>rfl
 |some o=>exact absurd (B2 e) (Nat.not_lt_zero _)
def EG(n:h.Ns L m):Fr (lE h) L h m :=
 ⟨n,λb o e=>(by rw[gr] at e;cases e),X5 _⟩
end
end Att
namespace L2
open PySem PySem.Spec PyProof.Rows
theorem u5:∀{vs:List Value} {ns:List Int},IntsAre vs ns->Vals (ns.map V.int) vs
 |_,_,.nil=>.nil
 |_,_,.cons n t h=>.cons ⟨t,rfl⟩ (u5 h)
def Sa(H:Hp):Prop:=∀b,H b=none∨∃o xs,H b=some (.nq o (.lst xs))
def Fg{K:PySem.W.Frag}
  (KX:K.In s₁.heap) (hns:s₁.heap.Ns mainGlobals mg) (hb:s₁.heap.Ns builtinsNs mb) (hbb:∀x:Str,x ≠ "__name__" -> mb x=bootBuiltins x) (hlim:s₁.heap.NoLimit) (hg:s₁.gens = #[])
  (ha:s₁.heap.get? a=some { cls:=.type "list",data:=.seq vs.toArray }) (hi:IntsAre vs ns) (hl:ns.length<=sizeLine) (hr:fh k callerA)
  (F:∀base:Heap,K.In base->base.Ns mainGlobals mg->bw P w K mg base CX k fa fd [x] sp) (hbind:∀(s:Shared) (u:Value),BindsTo s fd ⟨[u],[]⟩ [(x,u)])
  (hsp:∀H:Hp,Sa H->bq K H a (ns.map V.int)->sp [.ref a] H (λv _=>v = .bl true) λ_ _ _=>False)
  (hCX:∀H e s',CX [] H s₁ (λ_ _ _=>False) e s'->False) :
  codeAny (model P w) callerA (.call (.ref fa) ⟨[.ref a],[]⟩) (λr s'=>r = .ok (.ret (.bool true))/\OldK s₁.heap s'.heap/\s'.os=s₁.os/\AllBare s'.gens) s₁:=by
 have rv:=u5 hi;have lenV:=hi.length;have core:∀H:Hp,Sa H->bq K H a (ns.map V.int)->kc P w H s₁.heap->(∀b,H b≠none->b=a)->(H a≠none->K.lookup a=none) ->
   codeAny (model P w) callerA (.call (.ref fa) ⟨[.ref a],[]⟩) (λr s'=>r = .ok (.ret (.bool true))/\OldK s₁.heap s'.heap/\s'.os=s₁.os/\AllBare s'.gens) s₁:=by
  intro H hO hS hok hA hK;have base_of:∀{b:Addr} {o:Obj},s₁.heap.get? b=some o->H b=none->(wF s₁.heap H).get? b=some o:=λe n=>ED e n;have noA:∀{b:Addr} {o:Obj} {es:Array DictEntry} {ep:Nat},s₁.heap.get? b=some o->o.data = .dict es ep->H b=none:=λ{b o es ep} e d=>by
   cases q:H b with
   |none=>rfl
   |some u =>
    have e':b=a:=hA b (by rw[q];simp);subst e';rw[ha] at e;cases e;have d':Data.seq vs.toArray _=Data.dict es ep:=d;cases d'
  have nsK:∀{b:Addr} {m:Str->Option Value},s₁.heap.Ns b m->(wF s₁.heap H).Ns b m:=λ{b m} ⟨o,es,ep,e,d,r⟩=>⟨o,es,ep,base_of e (noA e d),d,r⟩
  have hKb:K.In (wF s₁.heap H):=λb o e=>base_of (KX b o e) (by
   cases q:H b with
   |none=>rfl
   |some u =>
    have e':b=a:=hA b (by rw[q];simp);subst e';rw[hK (by rw[q];simp)] at e;cases e)
  have hM:Mod K mg (wF s₁.heap H):=⟨hKb,nsK hns,⟨mb,nsK hb,hbb⟩,let ⟨mc,h1,h2⟩:=hlim;⟨mc,nsK h1,h2⟩⟩
  have e0:Ab P w K mg (wF s₁.heap H) callerA [] s₁ H:=⟨rfl,hM,λb o e=>Lb e,aj5 (DN _ _),trivial,λb hb=>absurd (show b∈([]:List Addr) from hb) (by simp),hok,.of_eq hg⟩
  refine aj6 ((F _ hKb (nsK hns)).run callerA [] s₁ H ⟨[.ref a],[]⟩ [.ref a] [.ref a] _ _ hr e0 (hbind s₁ (.ref a)) (.cons rfl .nil) (hsp H hO hS)) λr s' h=>?_;cases r with
  |error e=>exact(hCX H e s' h).elim
  |ok fl =>
   cases fl with
   |next=>exact False.elim h
   |brk=>exact False.elim h
   |cont=>exact False.elim h
   |ret u =>
    obtain⟨v,H',os,bare,un,hok',r',q⟩:=h;have q':v = .bl true:=q;subst q';obtain rfl:u=Value.bool true:=r';refine⟨rfl,OldK.of_keep λb o e=>?_,os,bare⟩;cases q:H b with
    |none=>exact un.keep b o e q (by intro z;exact absurd (show b∈([]:List Addr) from z) (by simp)) (by simp)
    |some u =>
     rcases hO b with z|⟨ob,xs,z⟩
     ·rw[q] at z;cases z
     ·have z2:=un.oH b ob _ z;obtain⟨e1,_⟩:=hok b _ z;obtain⟨e2,_⟩:=hok' b _ z2;rw[e] at e1;cases e1;exact e2
 cases hk:K.lookup a with
 |some o =>
  have e:=KX a o hk;rw[ha] at e;cases e;refine core (λ_=>none) (λ_=>.inl rfl) (.inr ⟨_,vs.toArray,_,hk,rfl,rfl,rfl,by rw[P3,lenV];exact hl,by simpa using rv⟩) (λb u z=>by have z':(none:Option HO)=some u:=z;cases z') (λb z=>absurd rfl z) λz=>absurd rfl z
 |none =>
  refine core (λb=>if b=a then some (.nq { cls:=.type "list",data:=.seq vs.toArray } (.lst (ns.map V.int))) else none) (λb=>?_) (.inl (.inr ⟨{ cls:=.type "list",data:=.seq vs.toArray },if_pos rfl⟩)) (λb u z=>?_) (λb z=>?_) λ_=>hk
  ·by_cases hb:b=a
   ·exact .inr ⟨_,_,if_pos hb⟩
   ·exact .inl (if_neg hb)
  ·by_cases hb:b=a
   ·have z':=(if_pos hb).symm.trans z;cases z';subst hb;exact⟨ha,by rw[d6];exact hl,vs,_,rv,ha⟩
   ·have z':=(if_neg hb).symm.trans z;cases z'
  ·by_cases hb:b=a
   ·exact hb
   ·exact absurd (if_neg hb) z
def Lc{l:PySem.W.OpenLaw}{K:Params->PySem.W.Frag}{CX:World->ue}{sp:World->Sp}
  (hn:l.most=some n) (hn2:n<=sizeLine) (hdf:d.params.defaults=[]) (hr:fh k callerA)
  (hY:∀(w:World) (h:Heap),YP w h->(K w.params).In h)
  (F:∀(w:World) (mg:Str->Option Value) (fa:Addr) (h:Heap),(K w.params).In h->h.Ns mainGlobals mg->mg d.name=some (.ref fa) ->
   ∃fd:FuncData,(∀(s:Shared) (u:Value),BindsTo s fd ⟨[u],[]⟩ [(x,u)]) /\
    ∀base:Heap,(K w.params).In base->base.Ns mainGlobals mg->bw l.prog w (K w.params) mg base (CX w) k fa fd [x] (sp w))
  (hsp:∀(w:World) (H:Hp) (a:Addr) (ns:List Int),ns.length<=n->Sa H->bq (K w.params) H a (ns.map V.int)->sp w [.ref a] H (λv _=>v = .bl true) λ_ _ _=>False)
  (hCX:∀(w:World) (H:Hp) (s:Shared) (e:Value) (s':Shared),CX w [] H s (λ_ _ _=>False) e s'->False) :
  PySem.W.WalkO q loose XP YP l.row.toRowW d [] (λf vs=>PySem.call f vs):=by
 refine Att.xR hn hdf λw s₀ s₁ mg mb fa o pm cd doc a vs ns G Y ho hd hcd hmg hobj hints hlen hg=>?_;have KX:=hY w _ Y;obtain⟨fd,hb,hF⟩:=F w mg fa _ KX G.T.g hmg;exact Fg KX G.T.g G.T.b G.T.builtins G.T.nolimit hg hobj hints (X6 hlen hn2) hr hF hb (λH hO hS=>hsp w H a ns hlen hO hS) λH e s'=>hCX w H s₁ e s'
noncomputable def inClass(s:Stmt)(j:Nat):Stmt:=match s with
 |.ClassDef _ _ _ body _ _ _ _ _ _ _=>body.getD j (.Pass ⟨0,0,0,0⟩)
 |_=>.Pass ⟨0,0,0,0⟩
def rM(s:Stmt):Arguments:=match s with
 |.FunctionDef _ a _ _ _ _ _ _ _ _=>a
 |_=>{ posonlyargs:=[],args:=[],vararg:=none,kwonlyargs:=[],kw_defaults:=[],kwarg:=none,defaults:=[] }
def mO(s:Stmt):List Stmt:=match s with
 |.FunctionDef _ _ b _ _ _ _ _ _ _=>b
 |_=>[]
def az(s:Stmt):Scope:=match s with
 |.FunctionDef _ _ _ _ _ _ sc _ _ _=>sc
 |_=>{ kind:=.function,names:=[],isGenerator:=false,isCoroutine:=false }
abbrev dM:ue:=λ_ _ _ _ _ _=>False
abbrev E0:XK:=λ_ _ _=>False
def aH:Passes dM X E0:=λ_ _ _ _ _ _ _ h=>h.elim
structure dh(K:PySem.W.Frag)(x qual:Str)(st:Stmt)(f:Addr)(fd:FuncData):Prop where
 ex:∃(oc:Value) (od:Option Addr) (kV doc pm:Value) (an:Option Addr) (cdv ct:Value) (osl:Array (Option Value)),
  fd=PySem.W.fnOf x qual (rM st) (mO st) (az st) .none kV doc pm an cdv ct/\K.lookup f=some ⟨oc,od,.func fd,osl⟩/\PySem.W.codeIn K cdv qual=true
 kp:PySem.W.keepIn K (.ref f)=true
section
variable {P:Program}{w:World}{K:PySem.W.Frag}{mg:Str->Option Value}{base:Heap}
def dh.ok{st:Stmt}(F:dh K x qual st f fd)(S:aF N ps (az st))(h:∀vs H Q E,sp vs H Q E->vs.length=ps.length/\∀(cdv:Value) (A:Around) (outer:List Env) (s:Shared),fh k (A.deeper (envOfC qual (az st) s.heap.objs.size f cdv))->∃t,A3 (gM dM P w K mg base N qual (az st) f cdv A outer s H E).Wr (mO st) t/\t { nx:=λ_ H'=>Q .cD H',rt:=Q } (start N vs) H):bw P w K mg base dM (k+1) f fd ps sp:=by obtain⟨oc,od,kV,doc,pm,an,cdv,ct,osl,rfl,lk,hcd⟩:=F.ex;refine NG lk hcd S (λvs H Q E z=>(h vs H Q E z).1) λA outer s H vs Q E hr hsp=>?_;obtain⟨t,h,q⟩:=(h vs H Q E hsp).2 cdv A outer s hr;exact⟨t,h.Wr,q⟩
def dh.binds{st:Stmt}(F:dh K x qual st f fd)
  (h:∀(kV doc pm:Value) (an:Option Addr) (cdv ct:Value) (us:List Value),us.length=ps.length->bindArgs (PySem.W.fnOf x qual (rM st) (mO st) (az st) .none kV doc pm an cdv ct) ⟨us,[]⟩=pure (ps.zip us)):Binds K fd ps []:=by
 obtain⟨oc,od,kV,doc,pm,an,cdv,ct,osl,rfl,lk,hcd⟩:=F.ex;exact .all (h kV doc pm an cdv ct)
abbrev Bz0(x qual:Str)(st:Stmt)(ps:List Str)(us:List Value):Prop:=∀(kV doc pm:Value) (an:Option Addr) (cdv ct:Value),bindArgs (PySem.W.fnOf x qual (rM st) (mO st) (az st) .none kV doc pm an cdv ct) ⟨us,[]⟩=pure (ps.zip us)
def dh.b0{st:Stmt}(F:dh K x qual st f fd)(h:autoParam (Bz0 x qual st ps []) L2.Y10._auto_1)(e:autoParam (ps.length=0) L2.Y3._auto_1):Binds K fd ps []:=F.binds λ_ _ _ _ _ _ us hl=>by rw[e] at hl;rcases us with _|_ <;> first|exact h ..|simp at hl
def dh.b1{st:Stmt}(F:dh K x qual st f fd)(h:autoParam (∀a:Value,Bz0 x qual st ps [a]) L2.Y10._auto_1)(e:autoParam (ps.length=1) L2.Y3._auto_1):Binds K fd ps []:=F.binds λ_ _ _ _ _ _ us hl=>by rw[e] at hl;rcases us with _|⟨a,_|_⟩ <;> first|exact h ..|simp at hl
def dh.b2{st:Stmt}(F:dh K x qual st f fd)(h:autoParam (∀a b:Value,Bz0 x qual st ps [a,b]) L2.Y10._auto_1)(e:autoParam (ps.length=2) L2.Y3._auto_1):Binds K fd ps []:=F.binds λ_ _ _ _ _ _ us hl=>by rw[e] at hl;rcases us with _|⟨a,_|⟨b,_|_⟩⟩ <;> first|exact h ..|simp at hl
def dh.b3{st:Stmt}(F:dh K x qual st f fd)(h:autoParam (∀a b c:Value,Bz0 x qual st ps [a,b,c]) L2.Y10._auto_1)(e:autoParam (ps.length=3) L2.Y3._auto_1):Binds K fd ps []:=F.binds λ_ _ _ _ _ _ us hl=>by rw[e] at hl;rcases us with _|⟨a,_|⟨b,_|⟨c,_|_⟩⟩⟩ <;> first|exact h ..|simp at hl
def dh.b4{st:Stmt}(F:dh K x qual st f fd)(h:autoParam (∀a b c d:Value,Bz0 x qual st ps [a,b,c,d]) L2.Y10._auto_1)(e:autoParam (ps.length=4) L2.Y3._auto_1):Binds K fd ps []:=F.binds λ_ _ _ _ _ _ us hl=>by rw[e] at hl;rcases us with _|⟨a,_|⟨b,_|⟨c,_|⟨d,_|_⟩⟩⟩⟩ <;> first|exact h ..|simp at hl
def dh.b5{st:Stmt}(F:dh K x qual st f fd)(h:autoParam (∀a b c d e:Value,Bz0 x qual st ps [a,b,c,d,e]) L2.Y10._auto_1)(e:autoParam (ps.length=5) L2.Y3._auto_1):Binds K fd ps []:=F.binds λ_ _ _ _ _ _ us hl=>by rw[e] at hl;rcases us with _|⟨a,_|⟨b,_|⟨c,_|⟨d,_|⟨e,_|_⟩⟩⟩⟩⟩ <;> first|exact h ..|simp at hl
def dh.b6{st:Stmt}(F:dh K x qual st f fd)(h:autoParam (∀a b c d e g:Value,Bz0 x qual st ps [a,b,c,d,e,g]) L2.Y10._auto_1)(e:autoParam (ps.length=6) L2.Y3._auto_1):Binds K fd ps []:=F.binds λ_ _ _ _ _ _ us hl=>by rw[e] at hl;rcases us with _|⟨a,_|⟨b,_|⟨c,_|⟨d,_|⟨e,_|⟨g,_|_⟩⟩⟩⟩⟩⟩ <;> first|exact h ..|simp at hl
def AG{st:Stmt}{kV doc pm cdv ct:Value}(l:K.lookup f=some ⟨oc,od,.func (PySem.W.fnOf x qual (rM st) (mO st) (az st) .none kV doc pm an cdv ct),osl⟩)
  (c:PySem.W.codeIn K cdv qual=true) (k:PySem.W.keepIn K (.ref f)=true):dh K x qual st f (PySem.W.fnOf x qual (rM st) (mO st) (az st) .none kV doc pm an cdv ct):=⟨⟨oc,od,kV,doc,pm,an,cdv,ct,osl,rfl,l,c⟩,k⟩
end
def jE(hr:fh k A):A.units+1<cLine:=ak4 (Nat.add_le_add_left (by decide:1<=64) _) hr.units
section
variable {X:Cx}
def pv (i:Nat)   (hN:autoParam (X.N[i]?=some x) L2.Y3._auto_1) (hv:Vq X.env.scope x:=by first | exact Or.inl rfl | exact Or.inr (Or.inl rfl) | exact Or.inr (Or.inr rfl)) (hd:autoParam ((x == ("__debug__" : Str))=false) L2.Y1._auto_1)
  (hcd:autoParam ((x == ("__classdict__" : Str))=false) L2.Y1._auto_1):PE X (.Name x pos) (Kh i):=SG hN hv hd hcd
end
def ji(h:B):if false=true then A else B:=by rw[if_neg X4];exact h
def kX(h:A):if true=true then A else B:=by rw[if_pos rfl];exact h
def ak(H H':Hp):Prop:=∀b o,H b=some o->H' b=some o
def ak.refl(H:Hp):ak H H:=λ_ _ h=>h
def ak.trans(a:ak H H1)(b:ak H1 H2):ak H H2:=λc o h=>b c o (a c o h)
def ak.free(e:ak H H')(h:H' l=Option.none):H l=Option.none:=by
 cases q:H l with
 |none=>rfl
 |some o =>
  rw[e l o q] at h;cases h
def ak.seq{K:PySem.W.Frag}(e:ak H H')(h:bq K H a xs):bq K H' a xs:=by
 rcases h with (h|⟨o,h⟩)|h
 ·exact .inl (.inl (e _ _ h))
 ·exact .inl (.inr ⟨o,e _ _ h⟩)
 ·exact .inr h
end L2
set_option maxHeartbeats 4000000
namespace PySem.W.Fast
def tw12049909754641278464:=0
def tw5864984871889189472:=0
def tw2063410514458527932:=0
def tw4693385776014728856:=0
def tw11586081787462867465:=0
def tw3046294755866794669:=0
def tw9655076570083691078:=0
def tw11426772311428087833:=0
def tw14226438178354461624:=0
def tw3819075311651160676:=0
def tw16946766426024555325:=0
def tw13666032886174273060:=0
def tw10952998562280761247:=0
def tw16169550619999723333:=0
def tw599025158179108756:=0
def tw17578850114867289563:=0
def tw7349890734302439854:=0
def tw4916500693634565382:=0
def tw7481271472013731327:=0
def tw11519288507465864370:=0
def tw18181736558049975311:=0
def tw10729922515929390549:=0
def tw8623789856501251859:=0
def tw12655473127303099210:=0
def tw11277161161811284161:=0
def tw2680775615612095754:=0
def tw7012833896343711614:=0
def tw17539053432690173985:=0
def tw7799591418287095225:=0
def tw2384221433557075557:=0
def tw5384762791051358437:=0
def tw10706671113379796360:=0
def tw5269606648077641571:=0
def tw17459050143077260710:=0
def tw1369768606917395917:=0
def tw15069442213941727698:=0
def tw2405416812054759664:=0
def tw10369243214107724599:=0
def tw5488476981557707617:=0
def tw18315934238975038715:=0
def tw15040065637741050669:=0
def tw8639131562606703699:=0
def tw12785927615830667048:=0
def tw9829243968899714512:=0
def tw16595820671242900683:=0
def tw17785908178088325857:=0
def tw8490750726400527845:=0
def tw15154514672358948024:=0
def tw1931896981609255243:=0
def tw12108323786994768912:=0
def tw12098131892935951131:=0
def tw3865837271428608501:=0
def tw8780311785715170348:=0
def tw5205708777875420360:=0
def tw16360797332740984379:=0
def tw1552433184348944053:=0
def tw6471055378484457537:=0
def tw3442953738944502649:=0
def tw2361134163267300020:=0
def tw2918064344010085441:=0
def tw1481440671193500491:=0
def tw15360842127474126777:=0
def tw16397176850693037237:=0
def tw10586171350789725867:=0
def tw11393671927947629752:=0
def tw8906842140565656171:=0
def tw14790638983168680502:=0
def tw6645320849987943343:=0
def tw9908892314280586195:=0
def tw3209413700396558483:=0
def tw12468369556078584942:=0
def tw803916898154618286:=0
def tw10055797339023774438:=0
def tw11176067294341640283:=0
def tw1364073855815313978:=0
def tw10538285172624346413:=0
def tw12049670304844505793:=0
def tw9998723247939900000:=0
def tw14770642368368143683:=0
def tw5563841720819473559:=0
def tw12307122294892750366:=0
def tw11400795688203949140:=0
def tw17384881269809978616:=0
def tw16823057832758538914:=0
def tw17151143004496319749:=0
def tw17466995751939670995:=0
def tw1289266280890808055:=0
def tw6048105292843810456:=0
def tw9901997512026614077:=0
def tw1215960598827201258:=0
def tw7179789386504774519:=0
def tw700597845303199120:=0
def tw9890810658515057616:=0
def tw1607404875176471916:=0
def tw17735411955567901370:=0
def tw4892339487986405484:=0
def tw81061548178557596:=0
def tw17286731973473539148:=0
def tw14847604044495689811:=0
def tw14671039836013661573:=0
def tw1921709451680747605:=0
def tw12840288519586321690:=0
def tw1675157069700153418:=0
def tw9628827274722550815:=0
def tw7857609800587257428:=0
def tw1025269545860937387:=0
def tw893145609620169049:=0
def tw10353253864795963467:=0
def tw244253076672026017:=0
def tw18174250437652857979:=0
def tw2720173759212747657:=0
def tw4357226140232534374:=0
def tw17573063408549077943:=0
def tw4322016501173673978:=0
def tw11271794956189696420:=0
def tw12711918102057189601:=0
def tw6132291783014685635:=0
def tw14419654173218872883:=0
def tw1008064342101477383:=0
def tw13276071485806844044:=0
def tw10313605749432276227:=0
def tw2017789993359828653:=0
def tw5430020706464492142:=0
def tw17855713387472174314:=0
def tw5242794425161712138:=0
def tw13195750328914735041:=0
def tw9885730637788717295:=0
def tw6246771705273259097:=0
def tw14129613868198710194:=0
def tw1428426415923118133:=0
def tw11710985249689041118:=0
def tw710579743717704820:=0
def tw6005250563170480923:=0
def tw13288912528106314576:=0
def tw12572490445136869672:=0
def tw2381329830194521271:=0
def tw13464514501783140203:=0
def tw13313775120363492560:=0
def tw344690221461182026:=0
def tw1956291518028095339:=0
def tw6411126559254169520:=0
def tw12543554786415399017:=0
def tw4065041006869883213:=0
def tw15852832081287432178:=0
def tw17075643025903504262:=0
def tw785615495226410201:=0
def tw2611741543889000639:=0
def tw4632827968075362371:=0
def tw12696096178258248926:=0
def tw10831768697708770003:=0
def tw9651459047302513441:=0
def tw16293830861913692986:=0
def tw10278361720685622717:=0
def tw12791328065921434204:=0
def tw8667720191782345201:=0
def tw8855677902649944360:=0
def tw11154080038494906575:=0
def tw17319353837175309537:=0
def tw2909089147238563180:=0
def tw11259069314818405821:=0
def tw16289981071678446150:=0
def tw15596097047892109471:=0
def tw7545449355325037809:=0
def tw11220981696116344840:=0
def tw14170057096949982604:=0
def tw15021222613002288365:=0
def tw11949291472251308193:=0
def tw127051408066213421:=0
def tw17195436129309748618:=0
def tw7652839443864786413:=0
def tw7318530500645900007:=0
def tw17752714748610038568:=0
def tw5607653409186946826:=0
def tw17633280459419159939:=0
def tw1812408923037590870:=0
def tw11407679559610035634:=0
def tw15554773829065607469:=0
def tw12198814091955416159:=0
def tw12300287602306058279:=0
def tw7537625517235085904:=0
def tw17753974305540114457:=0
def tw1021060936990066762:=0
def tw16225835336271593883:=0
def tw17636838314674438011:=0
def tw13576562991611742532:=0
def tw10423506406111139121:=0
def tw115934969137822890:=0
def tw15983886864107648295:=0
def tw17103175872643102463:=0
def tw4995785367959324444:=0
def tw11809172940392191018:=0
def tw5629263015722371878:=0
def tw13918419932706854228:=0
def tw8334235517405502848:=0
def tw18017525911240539203:=0
def tw10085493817015617669:=0
def tw1244214952988089322:=0
def tw18165350678478993878:=0
def tw17143402947949583572:=0
def tw11757601770269914365:=0
def tw10529449136820747084:=0
def tw371599266195914620:=0
def tw10173337217934294419:=0
def tw3297694044756318893:=0
def tw14059121283390582047:=0
def tw5514506888290875403:=0
def tw1100422063816392683:=0
def tw10011496139014759650:=0
def tw18109248819608355008:=0
def tw17865125157918760417:=0
def tw504459441380207982:=0
def tw5703540158648149260:=0
def tw16433979546568686439:=0
def tw1565592496968755770:=0
def tw9901193499027622612:=0
def tw9789058617586260886:=0
def tw4381287255498697190:=0
def tw515557478660001368:=0
def tw14355897360670806503:=0
def tw2499331795611634705:=0
def tw4215079496381675722:=0
def tw5857388422954678331:=0
def tw6320517273709903048:=0
def tw1230636946620169090:=0
def tw16129722016957182134:=0
def tw9216263314418891503:=0
def tw11796815755352108575:=0
def tw3852662051217632415:=0
def tw6747486055745532709:=0
def tw10094213916901635746:=0
def tw6226510711949089973:=0
def tw17972465854996806136:=0
def tw17559835574327226509:=0
def tw18054830889208685301:=0
def tw7783018865605694961:=0
def tw2794649560230221655:=0
def tw7109290993269953878:=0
def tw6855123469324686681:=0
def tw7826292459769689521:=0
def tw14778819203633355924:=0
def tw5560825611238267293:=0
def tw6707025229990151806:=0
def tw13998577631676950555:=0
def tw12391429281067427963:=0
def tw1893008424390356487:=0
def tw16998322156885637095:=0
def tw2358118997777780501:=0
def tw11785521445507688822:=0
def tw9013929024657924883:=0
def tw13582466932674445495:=0
def tw4242209800532280552:=0
def tw308898408334130399:=0
def tw3420372681444657847:=0
def tw3153634520989342997:=0
def tw6959535117295396262:=0
def tw5945896090409174821:=0
def tw12800300865730275565:=0
def tw12198047535656278183:=0
def tw2205620084851178217:=0
def tw12280250183121406023:=0
def tw9653289865286844377:=0
def tw16971574156343478409:=0
def tw1393814282655575764:=0
def tw6812556908106957921:=0
def tw6454050550488706793:=0
def tw17283624341629425469:=0
def tw8974114976920588456:=0
def tw17801516160520552758:=0
def tw195116176534169832:=0
def tw11261925998604905892:=0
def tw7318855520381814352:=0
def tw15374857305505910319:=0
def tw12310717036250253344:=0
def tw18309573308287392671:=0
def tw17483249339214154285:=0
def tw10915974101284060176:=0
def tw3554350234749086168:=0
def tw13644722811885814165:=0
def tw6080582829293840115:=0
def tw1030351130172811980:=0
def tw10057921196095284746:=0
def tw4649430587892554891:=0
def tw1387693815340620744:=0
def tw2620773727880509254:=0
def tw11239194768832230198:=0
def tw16799574007933378368:=0
def tw14694472629221879601:=0
def tw5666216948865603889:=0
def tw16484419353154417166:=0
def tw2305696974996634938:=0
def tw420673761810282416:=0
def tw4549949664061556427:=0
def tw14035981163579327184:=0
def tw6534837673966492721:=0
def tw5504706792929367613:=0
def tw4714731487633877151:=0
def tw3056123017411466622:=0
def tw1606754291760897676:=0
def tw16107786321054807273:=0
def tw2925024892283714890:=0
def tw8120845359925212929:=0
def tw10921901273075975414:=0
def tw2778397626964927784:=0
def tw14988713090802352845:=0
def tw8971040299648141833:=0
def tw5910834642240112513:=0
def tw10048666530443532555:=0
def tw8494062406882869805:=0
def tw4812767427131825359:=0
def tw5926749878891560669:=0
def tw10771700322637193740:=0
def tw12512106644351421958:=0
def tw4357459149755914152:=0
def tw4424417689977683435:=0
def tw11498557345369353421:=0
def tw6828936542489521883:=0
def tw11512938178768047606:=0
def tw15214508730160624644:=0
def tw6169016583241437138:=0
def tw10319311177636745286:=0
def tw11279828272707406331:=0
def tw4280063514104455579:=0
def tw10043016249882961813:=0
def tw16993080734195673351:=0
def tw10051950417815048235:=0
def tw14001162954033386713:=0
def tw8374126992022705467:=0
def tw11207741015562584300:=0
def tw16918693696143077554:=0
def tw16616594954247716363:=0
def tw668785486705974588:=0
def tw730165787559404794:=0
def tw6243626037105508442:=0
def tw5367098060068981405:=0
def tw12203953212134213875:=0
def tw302537511810340480:=0
def tw11328057555723824371:=0
def tw16912924799162468528:=0
def tw11142409983195551816:=0
def tw8955612536518453560:=0
def tw15375789761339487630:=0
def tw15506410724800297051:=0
def tw5377815307021202652:=0
def tw511092690545568197:=0
def tw6336361143851066564:=0
def tw10520009121857509210:=0
def tw2831698751015468272:=0
def tw16934694812163048558:=0
def tw12968452224185935586:=0
def tw17059891686789635801:=0
def tw7494682972050245388:=0
def tw16658479745805360949:=0
def tw14530843720576370627:=0
def tw987346897479666620:=0
def tw7593613477644666454:=0
def tw17000061769767476454:=0
def tw3278664080889581635:=0
def tw8023229388646631965:=0
def tw6478031858633323866:=0
def tw15523343229382052305:=0
def tw13656091366175385080:=0
def tw16175704724220102195:=0
def tw13078405826289252853:=0
def tw15735641374468810277:=0
def tw14037319531956817733:=0
def tw10847064944555571683:=0
def tw15548080313220107945:=0
def tw13919753410185458377:=0
def tw13482478384996332865:=0
def tw18327686092793629680:=0
def tw7427609890429094623:=0
def tw12931018797428018884:=0
def tw10200835586112188270:=0
def tw10104429931304669047:=0
def tw9791599703763279187:=0
def tw15244866285252249050:=0
def tw15306062991940288263:=0
def tw8446563587848082338:=0
def tw17977365495227377061:=0
def tw4169882441789163831:=0
def tw10619354796299924207:=0
def tw27076944674277471:=0
def tw236262763538826590:=0
def tw17696499577640734941:=0
def tw10333740152549218571:=0
def tw16539542582062867120:=0
def tw10382059014765955392:=0
def tw4892853260281597480:=0
def tw12675044298201958406:=0
def tw15529461215886806700:=0
def tw7970939706997733675:=0
def tw6138229012522524682:=0
def tw3990853648083052103:=0
def tw15158854019544959311:=0
def tw5929788684686594819:=0
def tw522830667238839850:=0
def tw11883052235213704445:=0
def tw18172703020661743243:=0
def tw2442691346224865436:=0
def tw835845130119039275:=0
def tw3856141480215975693:=0
def tw14937242253962707341:=0
def tw16522377728876854307:=0
def tw10117016840240798936:=0
def tw11013124809688473947:=0
def tw3821952747173613441:=0
def tw709093708940759898:=0
def tw17649697195133132892:=0
def tw10642071671433810149:=0
def tw9522021302076917018:=0
def tw16433503479792294415:=0
def tw10422393322245210679:=0
def tw1711896248481229615:=0
def tw138387239720824568:=0
def tw4468406189195582845:=0
def tw1902577195945613650:=0
def tw14622212547605000645:=0
def tw5938173020772801220:=0
def tw6238654098644571661:=0
def tw555637437755111745:=0
def tw6236611582810665579:=0
def tw15503289692465059536:=0
def tw9312259026249326863:=0
def tw6117568361410978843:=0
def tw11767011498322968533:=0
def tw7587443042427085604:=0
def tw1916663021400785014:=0
def tw17250280828057667825:=0
def tw14457697435821411998:=0
def tw7354023447038071687:=0
def tw17170844849654388222:=0
def tw8738900554621359103:=0
def tw4423643596298541508:=0
def tw17152706248045502568:=0
def tw1039212860349934236:=0
def tw11569232371903290202:=0
def tw9895276203255018784:=0
def tw15855856341010666417:=0
def tw15854035256720911512:=0
def tw7601961773729357330:=0
def tw6083517342271348030:=0
def tw9312744454194667907:=0
def tw7486807942040947666:=0
def tw2479130450393813108:=0
def tw11063895130607271910:=0
def tw673514794178951361:=0
def tw3084280914731540779:=0
def tw10484249800247297967:=0
def tw6497454924542361128:=0
def tw10403919407119659300:=0
def tw2606356015100760376:=0
def tw1581554503872059891:=0
def tw13526215223769776328:=0
def tw7723879242462950806:=0
def tw14309418333765756899:=0
def tw17874382948854979762:=0
def tw8415034653596277222:=0
def tw14791069090728695556:=0
def tw10599736993217224626:=0
def tw10930050799173303163:=0
def tw10341048097989599019:=0
def tw16413475674695134334:=0
def tw17293729454337605749:=0
def tw12254288856107532114:=0
def tw13834961696145541047:=0
def tw13499978779771860487:=0
def tw7507400161083414447:=0
def tw14897356037099268159:=0
def tw7561147005628655835:=0
def tw5042575832175393310:=0
def tw16792378214690710425:=0
def tw17828012500353736222:=0
def tw14907918837066509449:=0
def tw15855625725988816698:=0
def tw13328911895267539804:=0
def tw15608598728884638520:=0
def tw237710452061888115:=0
def tw17406324402494447849:=0
def tw17691908045403345308:=0
def tw17010798684223153136:=0
def tw14709472070379020063:=0
def tw14524641552308359836:=0
def tw6150791912767395553:=0
def tw11732236727703654710:=0
def tw6594367668905485238:=0
def tw8724375646796638760:=0
def tw12404466923701530936:=0
def tw5638789741421530262:=0
def tw17165321057444116233:=0
def tw18154496548133678483:=0
def tw1087840973158863544:=0
def tw10667560309469533037:=0
def tw15383113509323834955:=0
def tw13033255328588746047:=0
def tw10789806334899207457:=0
def tw17295348732914965042:=0
def tw119994194316326145:=0
def tw10498081933429330239:=0
def tw9829608463643452332:=0
def tw13922709344360545179:=0
def tw10460881562733764499:=0
def tw314100259874018986:=0
def tw6901194731497838042:=0
def tw6083899948208679493:=0
def tw10705814052768660617:=0
def tw8429893145472556261:=0
def tw5181426009235780427:=0
def tw9886181912437126435:=0
def tw4649589420840064356:=0
def tw11439790616201130122:=0
def tw12926831661244970730:=0
def tw18157927303612738680:=0
def tw15141110680054796983:=0
def tw2085578699285051558:=0
def tw3820923836259664918:=0
def tw16463934417293654753:=0
def tw16882557495295710894:=0
def tw5684748447165354533:=0
def tw10033476302473889614:=0
def tw7133118128155859655:=0
def tw5682129359673787305:=0
def tw15687521444347748610:=0
def tw14992467153230271965:=0
def tw17965951310590584968:=0
def tw3256622789994090676:=0
def tw10038789489403074241:=0
def tw5816841912415645031:=0
def tw1597322997473338673:=0
def tw5922543850900048286:=0
def tw10577373986170041417:=0
def tw12514455824145588537:=0
def tw12638653385042851245:=0
def tw16668918536735022266:=0
def tw11364818016944963701:=0
def tw5517495355967173430:=0
def tw6131143626032377950:=0
def tw5945305539711047630:=0
def tw6792648426713695806:=0
def tw6019379062377320815:=0
def tw6222173398702920908:=0
def tw15442463566603192146:=0
def tw15510934557865496499:=0
def tw17067707910313075021:=0
def tw438423830945012706:=0
def tw18011337719209657392:=0
def tw2585586492969652056:=0
def tw16520048157356437291:=0
def tw13784752764168378474:=0
def tw2743523556825085222:=0
def tw6718368872324989495:=0
def tw9159437509081316243:=0
def tw6000416496928295987:=0
def tw16827565269649548170:=0
def tw1805141697051250938:=0
def tw10127483670489674203:=0
def tw7027942188081020407:=0
def tw7375477073162180749:=0
def tw9584941911693574892:=0
def tw5817472182735597369:=0
def tw6880971845946604393:=0
def tw6277742810429076350:=0
def tw8011215532877376230:=0
def tw8006932327664564763:=0
def tw9932241313931727331:=0
def tw8488774555885467366:=0
def tw10237216548840991881:=0
def tw3198367533932602753:=0
def tw10672630495916081927:=0
def tw15822493244499733714:=0
def tw14260196921545897952:=0
def tw5598792779654133464:=0
def tw10062143851610276296:=0
def tw10121787064677795890:=0
def tw580192501582214351:=0
def tw10757067180332389264:=0
def tw15231013146013278955:=0
def tw12141359137354424732:=0
def tw15443449457072668597:=0
def tw9255103337741522483:=0
def tw9545662993141476611:=0
def tw4414987829716162356:=0
def tw12754156967188702117:=0
def tw5638731079893554767:=0
def tw8662807085760117611:=0
def tw10828624543603688276:=0
def tw8118927064949163039:=0
def tw865199982308219782:=0
def tw752896174310508986:=0
def tw13338995443365644901:=0
def tw14497355292156559914:=0
def tw9170879050747948927:=0
def tw2525953054357619877:=0
def tw9275188270911860312:=0
def tw5456673556379019799:=0
def tw4687404511334488216:=0
def tw11493761084708975886:=0
def tw7550331056664035236:=0
def tw18210166137385920504:=0
def tw11352668815494356898:=0
def tw14355602105981419101:=0
def tw794351246616784240:=0
def tw6332188212869378344:=0
def tw10200067054125599576:=0
def tw14951331475642646620:=0
def tw4028627239498061147:=0
def tw15356709423960825069:=0
def tw2715813134527514417:=0
def tw6721208679785837929:=0
def tw16824423674496064079:=0
def tw1164181117242859108:=0
def tw15938173705912627780:=0
def tw10509449152411268829:=0
def tw2699833661182265970:=0
def tw14432404056928496355:=0
def tw7233765187535751329:=0
def tw12450081071643748846:=0
def tw4707965533890955300:=0
def tw3053207206919668532:=0
def tw15824551281658845114:=0
def tw11776084778474568227:=0
def tw431547648108107035:=0
def tw16232795405310377754:=0
def tw17039642004541788932:=0
def tw13952462808553709877:=0
def tw16650353557412401389:=0
def tw712628465326208450:=0
def tw12732666360430891354:=0
def tw14464046692742090788:=0
def tw6404483043957018232:=0
def tw715674643276274459:=0
def tw6251230253545335201:=0
def tw16605293259401985908:=0
def tw3545767397423722776:=0
def tw6278769350874418856:=0
def tw3589207129221542528:=0
def tw10687055605961601282:=0
def tw305086169566749886:=0
def tw9116189527766491615:=0
def tw445732148657443781:=0
def tw17788163234408134285:=0
def tw11773882484292502210:=0
def tw4912144965044161332:=0
def tw2726459377342376045:=0
def tw10499695525680273560:=0
def tw14012483569182149346:=0
def tw15961763084941732906:=0
def tw8547227935846506783:=0
def tw16098299039230449420:=0
def tw10775827652704229052:=0
def tw5210457087936885851:=0
def tw5587460985029315549:=0
def tw9721826413228917260:=0
def tw4770547041888913933:=0
def tw15433660984039613517:=0
def tw12087721701679106221:=0
def tw6884305112897755149:=0
def tw10444087315443558689:=0
def tw16911392235195441857:=0
def tw17343558976377531291:=0
def tw15691284283171406872:=0
def tw14979544435385350620:=0
def tw18154022670567003300:=0
def tw7044520014436789868:=0
def tw821039512608056270:=0
def tw122527205252212085:=0
def tw18399251537446886473:=0
def tw16552021730516992485:=0
def tw5665038809447292049:=0
def tw9038574735672145202:=0
def tw15552077083908520517:=0
def tw2853303885608057626:=0
def tw7083290471997350836:=0
def tw7322214076501901957:=0
def tw8852251522856200965:=0
def tw7084990295593995637:=0
def tw7801394647518038937:=0
def tw1689878971663443080:=0
def tw3157553849431257646:=0
def tw14625880590133355639:=0
def tw6967811186147219290:=0
def tw17954623009170912320:=0
def tw7489131839587620498:=0
def tw1361402917337757140:=0
def tw1102385617607351963:=0
def tw13534313333894544126:=0
def tw10406103062227919786:=0
def tw11822101710918978912:=0
def tw14772211291775658447:=0
def tw3598826214208900514:=0
def tw14552652469939706541:=0
def tw2948090525494669615:=0
def tw5954130658687337629:=0
def tw15333777126378895113:=0
def tw10040031940143787990:=0
def tw8995388901969557793:=0
def tw17516735520199940630:=0
def tw9988492054916671767:=0
def tw17602665998674648481:=0
def tw6426994416967100501:=0
def tw4085360718492433089:=0
def tw15359343640663253756:=0
def tw6125655263390336742:=0
def tw6563330488668005887:=0
def tw17315798405119594797:=0
def tw10339749162188437183:=0
def tw13833701321362677814:=0
def tw17437160346844660439:=0
def tw11698634751487773383:=0
def tw16270763578160887700:=0
def tw8824866049141235316:=0
def tw10841669580368563738:=0
def tw9642137392154712600:=0
def tw3107014468144810606:=0
def tw1197853836211164768:=0
def tw10390154769631972664:=0
def tw11202686360612164144:=0
def tw392559115034136340:=0
def tw575655496702279880:=0
def tw8736454147476863356:=0
def tw4951636034239701461:=0
def tw914360732997768436:=0
def tw2626115010862201214:=0
def tw2975080544864377025:=0
def tw3915622015563911257:=0
def tw5204358266652258694:=0
def tw8774850317084981031:=0
def tw13700686349424013546:=0
def tw2485439043588753502:=0
def tw2643282661718312866:=0
def tw8218806752561739962:=0
def tw7400617783109320029:=0
def tw13717590223855099628:=0
def tw2563225625424184671:=0
def tw4473687594437234181:=0
def tw17524774109358063019:=0
def tw4574740874504795206:=0
def tw5682619551309930376:=0
def tw1509058610776174330:=0
def tw13955332356929802502:=0
def tw3363668344371290035:=0
def tw9055558562845119693:=0
def tw17501361733252559385:=0
def tw8426014433760433668:=0
def tw7280459204510119477:=0
def tw17789173440281673740:=0
def tw16874060147796810467:=0
def tw8388924632140004626:=0
def tw4818789714607419051:=0
def tw12366608975284743026:=0
def tw3313260270588159312:=0
def tw5180356113722357595:=0
def tw1930018205868551024:=0
def tw170494922671077321:=0
def tw4726627497625712074:=0
def tw4314724671598044514:=0
def tw497032376457558110:=0
end PySem.W.Fast
namespace L2
open PySem PySem.Spec PyProof.Rows
structure wW(sc csc:Scope)(N:List Str)(x:Str)(caps:List (Str×Nat)):Prop where
 cell:∀p∈csc.names,p.2 ≠ .cell
 kind:csc.kind = .function
 loc:∀p∈csc.names,p.2 = .local->csc.names.lookup p.1=some .local
 tg:csc.names.lookup x=some .local
 free:∀p∈csc.names,p.2 = .free->sc.names.lookup p.1=some .cell
 cap:∀p∈caps,N[p.2]?=some p.1/\csc.names.lookup p.1=some .free
 nd:(caps.map (·.1)++[x]).Nodup
def gw(env:Env):List (Str×NameKind)->List (Str×Addr)->List (Str×Addr)
 | [],cs=>cs
 | (n,k)::r,cs=>gw env r (if k == .free then (n,(env.cells.lookup n).getD 0)::cs else cs)
def nu(h:∀p∈sc.names,p.2 = .free->∃c,env.cells.lookup p.1=some c):closureFor sc env=pure (gw env sc.names []):=by
 obtain⟨kind,names,g,c⟩:=sc;simp only[closureFor];have aux:∀(l:List (Str×NameKind)) (cs:List (Str×Addr)),(∀p∈l,p.2 = .free->∃c,env.cells.lookup p.1=some c) ->
   (forIn l cs (λ(x:Str×NameKind) (r:List (Str×Addr))=>if (x.2 == NameKind.free)=true then (do let a ← cellOf env x.1;pure (ForInStep.yield ((x.1,a)::r))) else pure (ForInStep.yield r)):Sem (List (Str×Addr)))=pure (gw env l cs):=by
  intro l;induction l with
  |nil=>intro cs _;rfl
  |cons p r ih =>
   intro cs hp;obtain⟨n,k⟩:=p;rw[List.forIn_cons];have ih':=λcs=>ih cs (λq hq=>hp q (D1 _ hq));by_cases hk:(k == NameKind.free)=true
   ·obtain⟨c,e⟩:=hp (n,k) X9 (by simpa using hk);simp only[hk,if_true,cellOf,e,gw,pure_bind,Option.getD_some];exact ih' _
   ·have hk':(k == NameKind.free)=false:=by simpa using hk
    simp only[hk',if_false,gw,pure_bind,aj7];exact ih' _
 have:=aux names [] h;first
  | (rw[this];rfl)
  | (simp only[bind_pure];exact this)
  | (refine Eq.trans (bind_pure _) this)
theorem i9:∀(l:List (Str×NameKind)) (cs:List (Str×Addr)),(∀p∈l,p.2 = .free->∃c,env.cells.lookup p.1=some c)->(∀y c,cs.lookup y=some c->env.cells.lookup y=some c) ->
  ∀y c,(gw env l cs).lookup y=some c->env.cells.lookup y=some c
 | [],_,_,h2=>h2
 | (n,k)::r,cs,h1,h2=>by
  unfold gw;refine i9 r _ (λq hq=>h1 q (D1 _ hq)) ?_;by_cases hk:(k == NameKind.free)=true
  ·obtain⟨c,e⟩:=h1 (n,k) X9 (by simpa using hk);rw[if_pos hk];intro y c' h;rw[e] at h;rw[ab9] at h;cases hy:y == n with
   |true=>rw[hy] at h;simp at h;rw[ak5 hy,← h];exact e
   |false=>rw[hy] at h;exact h2 y c' h
  ·rw[if_neg hk];exact h2
theorem nB:∀(l:List (Str×NameKind)) (cs:List (Str×Addr)) (y:Str),((y,NameKind.free)∈l∨∃c,cs.lookup y=some c)->∃c,(gw env l cs).lookup y=some c
 | [],_,_,h=>by
  rcases h with h|h
  ·cases h
  ·exact h
 | (n,k)::r,cs,y,h=>by
  unfold gw;refine nB r _ y ?_;by_cases hk:(k == NameKind.free)=true
  ·rw[if_pos hk];by_cases hy:(y == n)=true
   ·exact .inr ⟨_,by rw[ab9,hy]⟩
   ·have hy':(y == n)=false:=by simpa using hy
    rcases h with h|⟨c,h⟩
    ·rcases y0.mp h with z|z
     ·cases z;simp at hy
     ·exact .inl z
    ·exact .inr ⟨c,by rw[ab9,hy'];exact h⟩
  ·rw[if_neg hk];rcases h with h|h
   ·rcases y0.mp h with z|z
    ·cases z;simp at hk
    ·exact .inl z
   ·exact .inr h
abbrev eE(X:Cx)(N':List Str)(csc:Scope)(C:Addr)(s2:Shared)(H2:Hp)(fp:List Addr):Cx :=
 { X with N:=N',s₀:=s2,H₀:=H2,env:=compEnvC csc (gw X.env csc.names []) C X.env,outer:=X.stack,ex:=fp,fn:=λ_=>false,pn:=[],xe:=λ_ _=>False }
def mS(caps:List (Str×Nat))(Z:St):St:=caps.map λp=>(Z[p.2]?).join
def xW(J:It)(caps:List (Str×Nat))(te:TE)(Z:St)(H1:Hp)(Q:VK):Prop:=∃W:Nat->Nat->List V->Hp->Prop,(∃m,W 0 m [] H1)/\∀i m ys H,W i m ys H ->
 (J.stop i H/\∀D,H D=none->Q (.ref D) (upd H D (.lst ys)))∨(J.go i H/\ys.length<sizeLine/\∀x H',J.TV i H x H'->te (mS caps Z++[some x]) H' λy H2=>∃m',m'<m/\W (i+1) m' (ys++[y]) H2)
def FH(caps:List (Str×Nat))(wi:TI)(te:TE):TE:=λZ H Q=>wi Z H λJ H1=>xW J caps te Z H1 Q
theorem kY{env:Env}(hk:env.scope.kind = .function):∀{names:List (Str×NameKind)} {x:Str},(∀p∈names,p.2 = .free->env.kindOf p.1=some .cell)->names.lookup x=some .free ->
  (names.map λ(n,k)=>if (k == NameKind.free && env.scope.kind == .function && env.kindOf n == some .cell) then (n,NameKind.cell) else (n,k)).lookup x=some .cell
 | [],_,_,h=>by simp at h
 | (n,k)::r,x,hf,h=>by
  have ih:=@kY env hk r x (λp hp=>hf p (D1 _ hp));show List.lookup x ((if (k == NameKind.free && env.scope.kind == .function && env.kindOf n == some .cell)=true then (n,NameKind.cell) else (n,k))::_)=_;cases hx:x == n with
  |true =>
   simp only[ab9,hx] at h;cases h;have:=hf (n,.free) X9 rfl;have hk':(env.scope.kind == ScopeKind.function)=true:=by rw[hk];rfl
   simp[ab9,hx,this,hk']
  |false =>
   simp only[ab9,hx] at h;by_cases hc:(k == NameKind.free && env.scope.kind == .function && env.kindOf n == some .cell)=true
   ·rw[if_pos hc];simp only[ab9,hx];exact ih h
   ·rw[if_neg hc];simp only[ab9,hx];exact ih h
theorem gx{env:Env}:∀{names:List (Str×NameKind)} {x:Str} {k':NameKind},
  (names.map λ(n,k)=>if (k == NameKind.free && env.scope.kind == .function && env.kindOf n == some .cell) then (n,NameKind.cell) else (n,k)).lookup x=some k'->(k' = .cell∨k' = .free)->(∀p∈names,p.2 ≠ .cell)->(x,NameKind.free)∈names
 | [],_,_,h,_,_=>by simp at h
 | (n,k)::r,x,k',h,hk,hn=>by
  have ih:=@gx env r x k';have h:List.lookup x ((if (k == NameKind.free && env.scope.kind == .function && env.kindOf n == some .cell)=true then (n,NameKind.cell) else (n,k))::(r.map λ(n,k)=>if (k == NameKind.free && env.scope.kind == .function && env.kindOf n == some .cell) then (n,NameKind.cell) else (n,k)))=some k':=h;cases hx:x == n with
  |true =>
   have e:x=n:=ak5 hx;subst e;by_cases hc:(k == NameKind.free && env.scope.kind == .function && env.kindOf x == some .cell)=true
   ·have:k = .free:=by simp only[aa9] at hc;simpa using hc.1.1
    subst this;exact X9
   ·rw[if_neg hc] at h;simp only[ab9,hx] at h;cases h;rcases hk with z|z
    ·exact absurd z (hn _ X9)
    ·subst z;exact X9
  |false =>
   refine D1 _ (ih ?_ hk λp hp=>hn p (D1 _ hp));by_cases hc:(k == NameKind.free && env.scope.kind == .function && env.kindOf n == some .cell)=true
   ·rw[if_pos hc] at h;simp only[ab9,hx] at h;exact h
   ·rw[if_neg hc] at h;simp only[ab9,hx] at h;exact h
section
variable {X:Cx}{pins:List (Addr×Obj)}{Z:St}{H:Hp}{s:Shared}
def iN(caps:List (Str×Nat))(Z:St):(mS caps Z).length=caps.length:=by simp[mS]
def se(I:Inv X pins Z H s)(ck:wW X.env.scope csc X.N x caps)(hf:∀b∈fp,uh X pins H b)
  (hfs:∀b∈fp,b<s.heap.objs.size) (hC:s.heap.objs.size<=C) (hk:∀b o,s.heap.get? b=some o->h4.get? b=some o) (hn:h4.Ns C m0) :
  Inv (eE X (caps.map (·.1)++[x]) csc C s H fp) [] (mS caps Z++[none]) H { s with heap:=h4,toks:=t4 }:=by
 have cellsOk:∀p∈csc.names,p.2 = .free->∃c,X.env.cells.lookup p.1=some c:=λp hp e=>I.ok.has p.1 (.inl (ck.free p hp e));have inX:∀y c,(gw X.env csc.names []).lookup y=some c->X.env.cells.lookup y=some c:=i9 _ _ cellsOk (λy c h=>by simp at h);have kf:∀p∈csc.names,p.2 = .free->X.env.kindOf p.1=some .cell:=ck.free;refine⟨⟨I.ok.mod,ck.kind,I.ok.glob,I.ok.blt,hC,λy z c h1 h2=>I.ok.inj y z c (inX y c h1) (inX z c h2),λy hy=>?_,λy c h=>(nomatch h),I.ok.hd,I.ok.frames,.inl rfl,λb hb=>⟨?_,λy c h=>?_⟩,?_,?_,?_,?_,I.stack,I.rE⟩,rfl,I.bare,Un.kept hk,⟨m0,hn,λi y v h1 h2 h3=>?_⟩,λy c h=>?_,I.hok.fresh hC,λy c h=>I.iQ y c (inX y c h),λp hp=>absurd hp (by simp),I.hok.kept hk,?_⟩
 ·have hy':(csc.names.map λ(n,k)=>if (k == NameKind.free && X.env.scope.kind == .function && X.env.kindOf n == some .cell) then (n,NameKind.cell) else (n,k)).lookup y=some .cell∨(csc.names.map λ(n,k)=>if (k == NameKind.free && X.env.scope.kind == .function && X.env.kindOf n == some .cell) then (n,NameKind.cell) else (n,k)).lookup y=some .free:=hy;refine nB _ _ y (.inl ?_);rcases hy' with z|z
  ·exact gx z (.inl rfl) ck.cell
  ·exact gx z (.inr rfl) ck.cell
 ·exact T0 (Z4 (hfs b hb) hC)
 ·exact(hf b hb).2.2.2.2.1 y c (inX y c h)
 ·exact λb o e=>I.bs b o e
 ·exact X6 I.ok.Kq I.sz
 ·intro b o e hb;rcases (hf b hb).2.2.2.1 with z|z
  ·exact I.ok.CI b o e z
  ·exact absurd (Z4 (B2 (I.ok.bs b o e).1) z) (ad6 _)
 ·intro b hb z;rcases y0.mp (I.pG b z) with e|e
  ·exact(hf b hb).2.1 e
  ·exact(hf b hb).2.2.1 e
 ·have hi:i<caps.length:=by
   by_cases hi:i<caps.length
   ·exact hi
   ·rw[X3 (by rw[iN];lia),iN] at h2;cases q:i-caps.length with
    |zero=>rw[q] at h2;simp at h2
    |succ k=>rw[q] at h2;simp at h2
  rw[Y9 (by rw[d6];exact hi),B1] at h1;rw[Y9 (by rw[iN];exact hi)] at h2;unfold mS at h2;rw[B1] at h2;cases e:caps[i]? with
  |none=>rw[e] at h1;cases h1
  |some p =>
   rw[e] at h1 h2;simp only[ad7,af0] at h1 h2;subst h1;obtain⟨hN,hfr⟩:=ck.cap p (u8 e);have h2':Z[p.2]?=some (some v):=by
    cases q:Z[p.2]? with
    |none=>rw[q] at h2;cases h2
    |some w=>rw[q] at h2;simp at h2;rw[h2]
   have hcX:X.env.scope.names.lookup p.1=some .cell:=ck.free (p.1,.free) (ad0 hfr) rfl;obtain⟨m,_,hl⟩:=I.loc;obtain⟨u,r,l⟩:=hl p.2 p.1 v hN h2' (.inr (.inl hcX));refine⟨u,r,?_⟩;rcases l with ⟨k,_⟩|⟨_,c,hc,z⟩
   ·have k':X.env.scope.names.lookup p.1=some .local:=k;rw[hcX] at k';cases k'
   ·obtain⟨c',hc'⟩:=nB (env:=X.env) csc.names [] p.1 (.inl (ad0 hfr));have:c'=c:=by have:=inX p.1 c' hc';rw[hc] at this;exact(X8 this).symm
    subst this;refine .inr ⟨.inl (kY I.ok.kind kf hfr),c',hc',?_⟩;obtain⟨o,ho,hd⟩:=z;exact⟨o,hk _ _ ho,hd⟩
 ·obtain⟨v,o,ho,hd⟩:=I.cell y c (inX y c h);exact⟨v,o,hk _ _ ho,hd⟩
 ·rw[o0,iN,o0,d6];rfl
end
def qF(J:Nat->Shared->Prop)
  (turn:∀n s,J n s->wpAny (model prog w) A (pyNext it) (λr s₁=>match r with
   |none=>R (.ok .next) s₁
   |some v=>wpAny (model prog w) A (letOwnedTupleGo target it v) (λ_ s₁=>wpAny (model prog w) A (assign target env v) (λ_ s₂=>wpAny (model prog w) A (eval elt env) (λx s₃ =>
     wpAny (model prog w) A (call (.builtin "list.append") [acc,x]) (λ_ s₄=>∃m,m<n/\J m s₄) (λ_ _=>False) s₃)
     (λ_ _=>False) s₂) (λ_ _=>False) s₁) (λ_ _=>False) s₁) (λ_ _=>False) s)
  (n:Nat) (h:J n s) :
  codeAny (model prog w) A (.compLoop (.ListComp elt [⟨target,iter,[],0⟩] scope pos) 0 it acc env) R s:=by
 refine codeAny_loop rfl J (λn s hI=>?_) n h;show wpAny _ _ ((compTurn (.ListComp elt [⟨target,iter,[],0⟩] scope pos) 0 it acc env).onRaise (λx=>do noteFrame x env;theTreesLotGoes x)) _ _ s;refine wpAny_noted ?_;rw[compTurn_list1];refine v3 (wpAny_standAt (v3 (ab1 (turn n s hI) (λr s₁ h₁=>?_) λ_ _ h'=>h'.elim)));cases r with
 |none=>exact T1 h₁
 |some v =>
  refine v3 (ab1 h₁ (λ_ s₁' h₁=>?_) λ_ _ h'=>h'.elim);exact v3 (ab1 h₁ (λ_ s₂ h₂=>v3 (v3 (ab1 h₂ (λx s₃ h₃=>v3 (ab1 h₃
   (λ_ s₄ h₄=>T1 (T1 ⟨rfl,h₄⟩)) λ_ _ h'=>h'.elim)) λ_ _ h'=>h'.elim))) λ_ _ h'=>h'.elim)
def zq{a b:Nat}(h:a<b):a≠b:=T0 h
def Kw(h:a<b):a≠b+1:=T0 (Nat.lt_succ_of_lt h)
def JY:a≠a+1:=T0 (ai9 a)
section
variable {X:Cx}
def vF(I:Inv X pins Z H s)
  (J:Inv (eE X N' csc C s H fp) pl Z' H' s') (hf:∀b∈fp,uh X pins H b) (hC:s.heap.objs.size<=C) (hD:s.heap.objs.size<=D) (hDC:D≠C) (hs:Heap.SameBut C s'.heap h') (hv:Vals ys its) (hz:ys.length<=sizeLine)
  (hd:s'.heap.get? D=some { cls:=.type "list",data:=.seq its.toArray n }) (hDn:H' D=none):Inv X pins Z (upd H' D (.lst ys)) { s' with heap:=h' }:=by
 have ne:∀b o,s.heap.get? b=some o->b≠C/\b≠D:=λb o e=>⟨T0 (Z4 (B2 e) hC),T0 (Z4 (B2 e) hD)⟩
 have u:Un (frs X.stack) fp H H' s.heap s'.heap:=J.base;have nDt:∀b o,H' b=some o->b≠D:=λb o e=>av e hDn;refine I.xF (s':={ s' with heap:=h' }) (ch:=fp) J.os ?_ ?_ J.bare λb hb=>⟨(hf b hb).2.2.2.1,(hf b hb).2.1,(hf b hb).2.2.2.2.1,(hf b hb).2.2.2.2.2⟩
 ·refine⟨λb o q n hb he=>?_,λb o q n hb he=>?_,λb o q n he=>?_,λb o q he=>?_,λb xs q=>?_,λb o xs q=>?_,λb ps q=>?_⟩
  ·exact(hs.2 b (ne b o q).1).trans (u.keep b o q n hb he)
  ·obtain⟨sl,e⟩:=u.slot b o q n hb he;exact⟨sl,(hs.2 b (ne b o q).1).trans e⟩
  ·rw[aj (ne b o q).2];exact u.free b o q n he
  ·obtain⟨o',e⟩:=u.there b o q he;exact⟨o',(hs.2 b (ne b o q).1).trans e⟩
  ·have:=u.tups b xs q;rw[aj (nDt b _ this)];exact this
  ·have:=u.oH b o xs q;rw[aj (nDt b _ this)];exact this
  ·obtain⟨more,this⟩:=u.qW b ps q;exact⟨more,by rw[aj (nDt b _ this)];exact this⟩
 ·intro b o e;by_cases hb:b=D
  ·subst hb;rw[af] at e;cases e;exact⟨hz,its,n,hv,(hs.2 b hDC).trans hd⟩
  ·rw[aj hb] at e;refine(J.hok b o e).stay (λc v hc q=>(hs.2 c ?_).trans q) (λc q=>by rw[aj (nDt c _ q)];exact q) λc xs q=>by rw[aj (nDt c _ q)];exact q
   have hfree:H' C=none:=J.free;rcases hc with z|z
   ·rw[z];exact av e hfree
   ·exact av z hfree
def i6{sc csc:Scope}{N:List Str}{elt iter:Expr}{x:Str}{px pos:Pos}{caps:List (Str×Nat)}{wi:TI}{te:TE}(ck:wW sc csc N x caps)(hi:PI X (.Name x px) iter wi)
  (he:∀C s2 H2 fp,PE (eE X (caps.map (·.1)++[x]) csc C s2 H2 fp) elt te) (hc:autoParam (X.calm=true) L2.Y3._auto_1) (hsc:autoParam (X.env.scope=sc) L2.Y3._auto_1) (hXN:autoParam (X.N=N) L2.Y3._auto_1) (hs:autoParam (∀x,foldedSetIterable iter X.env x=pure x) L2.Y2._auto_1) :
  PE X (.ListComp elt [⟨.Name x px,iter,[],0⟩] csc pos) (FH caps wi te):=by
 subst hsc hXN;intro pins s Z H Q I h;rw[eval_ListComp];have cellsOk:∀p∈csc.names,p.2 = .free->∃c,X.env.cells.lookup p.1=some c:=λp hp e=>I.ok.has p.1 (.inl (ck.free p hp e));refine wpAny_comprehension_free (use:=none) rfl hs (nu cellsOk) ck.kind ck.loc (cM (hi pins s Z H _ I h) λv s1 h1=>cM h1 λitv s2 h2=>?_);obtain⟨it,fp,tn,J,H2,e,I2,T,st2,f2,W,⟨m0,w0⟩,turn⟩:=h2;subst e;refine wpAny_newObj_type (wpAny_newFunctionEnv ck.cell (by intro y hy;simp at hy) (λh4 hns4 hsb4=>?_) ck.kind);dsimp only at hns4 hsb4 ⊢;generalize hD:s2.heap.objs.size=D at hns4 hsb4 ⊢;generalize hH2:s2.heap.push { cls:=.type "list",dict:=none,data:=.seq ([]:List Value).toArray }=G at hns4 hsb4 ⊢;have hGs:G.objs.size=D+1:=by rw[← hH2,ai7,hD]
 rw[hGs] at hns4 hsb4 ⊢;have lt2:∀b o,s2.heap.get? b=some o->b<D:=λb o e=>hD ▸ B2 e;have old:∀b o,s2.heap.get? b=some o->b≠D+1/\b≠D:=λb o e=>⟨Kw (lt2 b o e),zq (lt2 b o e)⟩
 have leD:s2.heap.objs.size<=D:=aj5 hD;have leD1:s2.heap.objs.size<=D+1:=Nat.le_succ_of_le leD;have keep4:∀b o,s2.heap.get? b=some o->h4.get? b=some o:=λb o e=>hsb4.extBut b o (old b o e).1 (u3 _ (hH2 ▸ u3 _ e));have hDo:h4.get? D=some { cls:=.type "list",data:=.seq ([]:List Value).toArray 0 }:=by refine hsb4.extBut D _ JY (u3 _ ?_);rw[← hH2,← hD];exact Z0 _ rfl
 have fps:∀b∈fp,b<s2.heap.objs.size:=λb hb=>by obtain⟨o,e,_⟩:=T.obj _ _ st2 b hb;exact B2 e
 have I4:∀t4,Inv (eE X (caps.map (·.1)++[x]) csc (D+1) s2 H2 fp) [] (mS caps Z++[none]) H2 { s2 with heap:=h4,toks:=t4 }:=λt4=>se (m0:=λx=>[].reverse.lookup x) I2 ck f2 fps leD1 keep4 hns4;have cellsLt:∀y c,(gw X.env csc.names []).lookup y=some c->c<D:=λy c e=>by obtain⟨v,o,ho,_⟩:=I2.cell y c (i9 _ _ cellsOk (λy c h=>by simp at h) y c e);exact lt2 c o ho
 have fsLt:∀b∈frs X.stack,b<D:=λb hb=>by obtain⟨_,o,ho,_⟩:=I2.stack.mem hb;exact lt2 b o ho
 have fpC:∀{pl:List (Addr×Obj)} {H':Hp},(∀p∈pl,p.1=D)->(∀b∈fp,H' b=none)->∀b∈fp,uh (eE X (caps.map (·.1)++[x]) csc (D+1) s2 H2 fp) pl H' b:=λ{pl H'} hpl hn b hb=>by
  have hb':b<D:=hD ▸ fps b hb;refine⟨hn b hb,Kw hb',?_,.inl hb,λy c e=>?_,λp hp=>?_⟩
  ·intro z;rcases y0.mp (I2.pG b z) with e|e
   ·exact(f2 b hb).2.1 e
   ·exact(f2 b hb).2.2.1 e
  ·exact(f2 b hb).2.2.2.2.1 y c (i9 _ _ cellsOk (λy c h=>by simp at h) y c e)
  ·have:p.1=D:=hpl p (by simpa using hp);rw[this];exact λz=>zq hb' z.symm
 have loop:∀t4,codeAny (model X.prog X.w) X.A (.compLoop (.ListComp elt [⟨.Name x px,iter,[],0⟩] csc pos) 0 (.ref it) (.ref D) (compEnvC csc (gw X.env csc.names []) (D+1) X.env))
   (compPost (model X.prog X.w) X.A X.xe none (EP X pins Z Q) (.ref D) (D+1)) { s2 with heap:=h4,toks:=t4 }:=by
  intro t4;refine qF (λn s'=>∃(i:Nat) (ys:List V) (its:List Value) (k:Nat) (Z':St) (H':Hp),Inv (eE X (caps.map (·.1)++[x]) csc (D+1) s2 H2 fp) [(D,{ cls:=.type "list",data:=.seq its.toArray k })] Z' H' s'/\tn i s'.heap/\(∀b∈fp,H' b=none)/\Vals ys its/\ys.length<=sizeLine/\W i n ys H'/\(∃z,Z'=mS caps Z++[z])) ?_ m0 ?_
  ·rintro n s3 ⟨i,ys,its,k,Z3,H3,I3,st3,fr3,hv,hz,w3,z3,rfl⟩;have pl1:∀p∈[((D,{ cls:=.type "list",data:=.seq its.toArray k }):Addr×Obj)],p.1=D:=λp hp=>by rw[v6.mp hp]
   rcases turn i n ys H3 w3 with ⟨stop,qn⟩|⟨go,hlt,step⟩
   ·refine ab1 (T.done (eE X (caps.map (·.1)++[x]) csc (D+1) s2 H2 fp) rfl rfl rfl hc i _ s3 _ H3 (λ_ _=>False) I3 (fpC pl1 fr3) st3 stop) (λr s4 hY=>?_) λ_ _ f=>f.elim;obtain⟨hr,I4'⟩:=hY;subst hr;obtain⟨m,hn,_⟩:=id I4'.loc;have pD:=I4'.pin (D,{ cls:=.type "list",data:=.seq its.toArray k }) (by simp);refine⟨m,hn,λh' hs'=>⟨.ref D,_,vF I2 I4' f2 leD1 leD JY hs' hv hz pD.1 pD.2.1,rfl,qn D pD.2.1⟩⟩
   ·refine ab1 (T.item (eE X (caps.map (·.1)++[x]) csc (D+1) s2 H2 fp) rfl rfl rfl hc i _ s3 _ H3 (λ_ _=>False) I3 (fpC pl1 fr3) st3 go) (λr s4 hY=>?_) λ_ _ f=>f.elim;obtain⟨u,hr,h4'⟩:=hY;subst hr;refine ab1 h4' (λ_ s4 hY=>?_) λ_ _ f=>f.elim;obtain⟨xv,H5,I5,r5,y5,st5,fr5⟩:=hY;have I5':=I5.pinned (fpC pl1 fr5) (T.obj _ _ st5);have hiN:(caps.map (·.1)++[x])[caps.length]?=some x:=by rw[X3 (by simp)];simp
    refine ab1 (rN (X:=eE X (caps.map (·.1)++[x]) csc (D+1) s2 H2 fp) (i:=caps.length) ck.nd hiN (.inl (ai6 ck.tg)) (.inr (ai6 ck.tg)) _ s4 _ H5 xv u _ I5' r5 (show qQ caps.length xv _ H5 (λZ6 H6=>Z6=mS caps Z++[some xv]/\H6=H5) from ⟨?_,rfl⟩)) (λ_ s6 ⟨Z6,H6,I6,hZ,hH⟩=>?_) λ_ _ f=>f.elim
    ·rw[List.set_append_right _ _ (by rw[iN];exact M2 _),iN,al0];rfl
    subst hZ hH;refine ab1 (he (D+1) s2 H2 fp _ s6 _ H6 _ I6 (step xv H6 y5)) (λw7 s7 hY=>?_) λ_ _ f=>f.elim;obtain⟨y,H7,I7,r7,m',hm,w8⟩:=hY;have pD:=I7.pin (D,{ cls:=.type "list",data:=.seq its.toArray k }) (by simp);have hll:=hv.length;refine ag5 Y6 ⟨_,pD.1,rfl⟩ F.entry_list_append (F.args_list_append_2 _ _) (PySem.list_append D its.toArray k w7 (by rw[P3];lia)) ⟨pD.1,?_⟩;have q:=PySem.IsL.update pD.1 (·.push w7);have hpush:its.toArray.push w7=(its++[w7]).toArray:=by simp
    rw[hpush] at q;obtain⟨k',q⟩:∃k',(s7.heap.update D (Obj.mapSeq (·.push w7))).get? D=some { cls:=.type "list",data:=.seq (its++[w7]).toArray k' }:=⟨_,q⟩
    have I7u:Inv (eE X (caps.map (·.1)++[x]) csc (D+1) s2 H2 fp) (lS fp s4.heap) _ H7 s7:=I7.iK λp hp=>I7.pin p (X2 _ (X2 _ hp));have pfp:∀p∈lS fp s4.heap,p.1<D:=λp hp=>hD ▸ fps p.1 (p9 hp).1;have I8:=I7u.turned (h':=s7.heap.update D (Obj.mapSeq (·.push w7))) (t':=s7.toks) (it:=D) (λb o hb e=>(aa6 s7.heap _ (aa3 hb)).trans e) pD.2.1 JY (.inr leD) (λy c e=>zq (cellsLt y c e)) (λp hp=>zq (pfp p (by simpa using hp)));refine⟨m',hm,i+1,ys++[y],its++[w7],k',_,H7,I8.iK λp hp=>?_,T.keep _ _ _ st5 λb hb o e=>(I8.pin (b,o) (X2 _ (iB hb e))).1,λb hb=>?_,hv.append (.cons r7 .nil),?_,w8,_,rfl⟩
    ·rw[v6.mp hp];exact⟨q,pD.2.1,pD.2.2.1,pD.2.2.2.1,λv=>by simp⟩
    ·obtain⟨o,e,d⟩:=T.obj _ _ st5 b hb;exact(I8.pin (b,o) (X2 _ (iB hb e))).2.1
    ·rw[o0,aa4];lia
  ·refine⟨0,[],[],0,_,H2,(I4 t4).iK λp hp=>?_,T.keep _ _ _ st2 λb hb o e=>keep4 b o e,λb hb=>(f2 b hb).1,.nil,X5 _,w0,_,rfl⟩;rw[v6.mp hp];refine⟨hDo,I2.hok.fresh leD,JY,λz=>absurd (fsLt D z) (ad6 _),λv=>by simp⟩
 exact codeAny_compStart_list (loop _) (T.self _ 0 _ _ _ (T.keep _ _ _ st2 λb hb o e=>keep4 b o e) (loop _))
end
section
variable {X:Cx}
def Am:∀{us:List Value},Vals (ys.map V.str) us->StrsAre us ys:=by
 induction ys with
 |nil=>intro us r;cases r;exact .nil
 |cons y r ih =>
  intro us h;cases h with
  |cons h t =>
   obtain⟨k,rfl⟩:=h;exact .cons _ _ (ih t)
inductive rJoin(K:PySem.W.Frag)(x:V)(vs:List V)(H:Hp)(Q:VK):Prop|mk(z p ys)(_:x = .str z)(_:vs=[.ref p])(_:bq K H p (ys.map V.str))(_:(ys.map (·.length)).sum+ys.length*z.length<=16777216)(_:Q (.str (Txt.join z ys)) H)
def rJoin_i{K:PySem.W.Frag}{x:V}{vs:List V}:rJoin K x vs H Q↔∃z p ys,x = .str z/\vs=[.ref p]/\bq K H p (ys.map V.str)/\(ys.map (·.length)).sum+ys.length*z.length<=16777216/\Q (.str (Txt.join z ys)) H:=by constructor <;> intro h <;> obtain⟨z,p,ys,h0,h1,h2,h3,h4⟩:=h <;> exact⟨z,p,ys,h0,h1,h2,h3,h4⟩
def wK:SX X "str.join" (rJoin X.K):=by intro pins s Z H x vs v us Q I rx rv h;obtain⟨z,p,ys,rfl,rfl,hq,hz,q⟩:=h;obtain⟨t,rfl⟩:=rx;obtain⟨u,rfl,ru⟩:=rv.one;cases ru;obtain⟨its,r,pl,_⟩:=I.list hq;exact PyProof.Rows.join_list pl.isList (by simpa using Am r) hz λt' k=>⟨.str _,H,I.tok _,⟨_,rfl⟩,q⟩
inductive yi(x:V)(vs:List V)(H:Hp)(Q:VK):Prop|mk(a b i)(_:x = .str a)(_:vs=[.str b,.int i])(_:Q (.bl (fromIndex a.length i+b.length<=a.length && Builtin.Str.subAt a b (fromIndex a.length i))) H)
def yi_i{x:V}{vs:List V}:yi x vs H Q↔∃a b i,x = .str a/\vs=[.str b,.int i]/\Q (.bl (fromIndex a.length i+b.length<=a.length && Builtin.Str.subAt a b (fromIndex a.length i))) H:=by constructor <;> intro h <;> obtain⟨a,b,i,h0,h1,h2⟩:=h <;> exact⟨a,b,i,h0,h1,h2⟩
def AV:SX X "str.startswith" yi:=by intro pins s Z H x vs v us Q I rx rv h;obtain⟨a,b,i,rfl,rfl,q⟩:=h;obtain⟨t,rfl⟩:=rx;obtain⟨u,w',rfl,ru,rw'⟩:=rv.two;obtain⟨t1,rfl⟩:=ru;obtain⟨t2,rfl⟩:=rw';exact call_gives ag9 (ai0 _ _ _) F.entry_str_startswith (F.args_str_startswith_3 _ _ _) (gives_str_startswith_from a b i t t1 t2) ⟨.bl _,H,I,rfl,q⟩
inductive xq(x:V)(vs:List V)(H:Hp)(Q:VK):Prop|mk(a b)(_:x = .str a)(_:vs=[.str b])(_:Q (.bl (0+b.length<=a.length && Builtin.Str.subAt a b 0)) H)
def xq_i{x:V}{vs:List V}:xq x vs H Q↔∃a b,x = .str a/\vs=[.str b]/\Q (.bl (0+b.length<=a.length && Builtin.Str.subAt a b 0)) H:=by constructor <;> intro h <;> obtain⟨a,b,h0,h1,h2⟩:=h <;> exact⟨a,b,h0,h1,h2⟩
def zY:SX X "str.startswith" xq:=by intro pins s Z H x vs v us Q I rx rv h;obtain⟨a,b,rfl,rfl,q⟩:=h;obtain⟨t,rfl⟩:=rx;obtain⟨u,rfl,ru⟩:=rv.one;obtain⟨t1,rfl⟩:=ru;exact call_gives ag9 (ai0 _ _ _) F.entry_str_startswith (F.args_str_startswith_2 _ _) (gives_str_startswith a b t t1) ⟨.bl _,H,I,rfl,q⟩
def tV(z:Str):List V:=z.cps.toList.map λc=>V.str ⟨#[c]⟩
def A6(h:ItemsOf (SignAt z) acc z.cps.size):Vals (tV z) acc.toList:=by
 obtain⟨hs,hi⟩:=h;have aux:∀(cs:List Nat) (us:List Value),us.length=cs.length->(∀(i:Nat) (v:Value),us[i]?=some v->∃c u,cs[i]?=some c/\v=Value.str ⟨#[c]⟩ u)->Vals (cs.map λc=>V.str ⟨#[c]⟩) us:=by
  intro cs;induction cs with
  |nil=>intro us hl _;cases us with
   |nil=>exact .nil
   |cons _ _=>cases hl
  |cons c r ih =>
   intro us hl h;cases us with
   |nil=>cases hl
   |cons u r' =>
    refine .cons ?_ (ih r' (by simpa using hl) λi v e=>h (i+1) v (by simpa using e));obtain⟨c',t,e,z⟩:=h 0 u rfl;simp at e;subst e;exact⟨t,z⟩
 refine aux _ _ (by simp[hs]) λi v e=>?_;obtain⟨c,u,e1,e2⟩:=hi i v (by simpa using e);exact⟨c,u,by simpa using e1,e2⟩
def A5 (hc:X.calm=true):gR X (.type "list") (λxs H Q=>∃z:Str,xs=[.str z]/\z.length<=sizeLine/\∀l,H l=none->Q (.ref l) (upd H l (.lst (tV z)))):=by intro pins s Z H xs us Q I r h;obtain⟨z,rfl,hz,q⟩:=h;obtain⟨u,rfl,rx⟩:=vals1 r;obtain⟨t,rfl⟩:=rx;refine PySem.call_list_str (I.ok.hd hc) z t (λh' tk acc' c' kp e hi=>?_) hz;have hv:=A6 hi;exact⟨.ref s.heap.objs.size,_,I.laid (t':=tk) kp (M2 _) (show b9 X.prog X.w _ h' _ (.lst (tV z)) from ⟨by simp only[tV,d6,aj0];exact hz,acc'.toList,c',hv,by simpa using e⟩),rfl,q _ (I.hok.fresh (M2 _))⟩
def yX:gR X (.builtin "isinstance") (λxs H Q=>∃x c cv t b,xs=[x,c]/\(c=V.ty cv∨False)/\pL X.K H x t/\PySem.W.kitOne X.K t (.type cv)=some b/\Q (.bl b) H):=by
 intro pins s Z H xs us Q I r h;obtain⟨x,c,cv,t,b,rfl,hc,ty,e,q⟩:=h;obtain⟨u,w',rfl,ru,rw'⟩:=vals2 r;rcases hc with rfl|hc
 ·cases rw';exact Dq I ru ty e λtk=>⟨.bl b,H,I.tok _,rfl,q⟩
 ·exact hc.elim
end
def At(X:Cx)(D:Ends)(sts:List Stmt)(Z:St)(H:Hp):Prop:=∀(pins:List (Addr×Obj)) (s:Shared),Inv X pins Z H s->wpAny (model X.prog X.w) X.A (execs sts X.env) (SP X pins D) X.xe s
section
variable {X:Cx}{D:Ends}{st:Stmt}{rest sts:List Stmt}{t:TS}{Z:St}{H:Hp}
def aq:A3 X sts (λD Z H=>At X D sts Z H):=λpins s Z H D I h=>h pins s I
def bu(h:D.nx Z H):At X D [] Z H:=λ_ _ I=>ak7 ⟨Z,H,I,h⟩
def au(h:PS X st t)(q:t { D with nx:=λZ H=>At X D rest Z H } Z H):At X D (st::rest) Z H:=λpins s I =>
 (xM h aq) pins s Z H D I q
def ay(h:PS X st t)(q:t D Z H):At X D [st] Z H:=λpins s I=>(J8 h) pins s Z H D I q
def wA(h:At X D sts Z H):∃t,A3 X sts t/\t D Z H:=⟨λD' Z' H'=>D'=D/\Z'=Z/\H'=H,λpins s Z' H' D' I ⟨e1,e2,e3⟩=>by subst e1 e2 e3;exact h pins s I,rfl,rfl,rfl⟩
end
def dI[Decidable c](h1:c->A)(h2:¬ c->B):if decide c=true then A else B:=by
 by_cases h:c
 ·rw[ab8 h];exact h1 h
 ·rw[Z9 h];exact h2 h
def lR[Decidable c](h1:¬ c->A)(h2:c->B):if (!decide c)=true then A else B:=by
 by_cases h:c
 ·rw[ab8 h];exact h2 h
 ·rw[Z9 h];exact h1 h
def Wq(h1:c=true->A)(h2:c=false->B):if c=true then A else B:=by
 cases c
 ·exact h2 rfl
 ·exact h1 rfl
def ak.upd{H:Hp}{p:Addr}{o:HO}(h:H p=none):ak H (upd H p o):=λb u e=>by rw[aj (av e h)];exact e
def ak.to(s:ak H H1)(h:H1 p=none):ak H (L2.upd H1 p o):=s.trans (ak.upd h)
def ak.to2(s:ak H0 H)(g:H p=none):ak H0 (L2.upd H p o)/\L2.upd H p o p=some o:=⟨s.to g,if_pos rfl⟩
def bq.same{K:PySem.W.Frag}(h:bq K H a xs)(e:ak H H'):bq K H' a xs:=e.seq h
section
variable {X:Cx}{C:Addr}{x:Str}{p pos:Pos}
def Gj(C:Addr):TE:=λ_ H Q=>∀x dx,H x=none->H dx=none->dx≠x->Q (.ref x) (upd (upd H dx (.own x)) x (.ins C dx []))
end
section
variable {X:Cx}{C:Addr}{x:Str}{p pos:Pos}
structure VS(K:PySem.W.Frag)(C:Addr):Prop where
 makes:PySem.W.makesIn K C=true
 init:PySem.W.findIn K (.ref C) "__init__" = some (some (.builtin "object.__init__"))
 kp:PySem.W.keepIn K (.ref C)=true
def sE (M:VS X.K C) (hg:Gl X x) (hm:X.mg x=some (.ref C)) (hdb:autoParam ((x == ("__debug__" : Str))=false) L2.Y1._auto_1):PE X (.Call (.Name x p) [] [] pos) (Gj C):=by
 intro pins s Z H Q I h;refine ad8 (iZ I hg hm ?_ hdb);refine aj2 I.iU M.kp (ai1 ?_);have hq:=h (s.heap.objs.size+1) s.heap.objs.size (I.hok.fresh (Nat.le_succ _)) (I.hok.fresh (M2 _)) (T0 (ai9 _));have I2:=Inv.made (C:=C) I;have Y:=PySem.W.makes_of (M:=model X.prog X.w) I.iU M.makes;refine CK I.iU M.makes M.init (λself=>PySem.W.Looks.of_pure (PySem.W.oi_bind self)) ?_;obtain⟨hh,g,d,t,os⟩:=s;have e2:((hh.push PySem.W.emptyDict).push (PySem.W.instObj C hh.objs.size)).get? (hh.objs.size+1)=some (PySem.W.instObj C hh.objs.size):=by have:=Z0 (hh.push PySem.W.emptyDict) (o:=PySem.W.instObj C hh.objs.size) rfl;rwa [ai7] at this
 have t1:PySem.W.Looks (model X.prog X.w) ((hh.push PySem.W.emptyDict).push (PySem.W.instObj C hh.objs.size)) (typeOf (.ref (hh.objs.size+1))) (.ref C):=(PySem.W.Looks.ld e2).andThen .now;have t2:PySem.W.Looks (model X.prog X.w) ((hh.push PySem.W.emptyDict).push (PySem.W.instObj C hh.objs.size)) (isInstance (.ref (hh.objs.size+1)) (.type "object")) true:=t1.andThen (Y.top.keeps λb o e=>u3 _ (u3 _ e));refine ai5 PySem.W.oi_plain PySem.W.entry_oi (@PySem.W.check_slot (model X.prog X.w) _ _ _ "object.__init__" "object" "__init__" (.ref (hh.objs.size+1)) [] [] _ PySem.W.oi_kind PySem.W.oi_split t2 (PySem.W.oi_args (.ref (hh.objs.size+1))) ?_);rw[PySem.W.oi_run];exact T1 ⟨rfl,⟨V.ref (hh.objs.size+1),_,I2,rfl,hq⟩⟩
end
section
variable {X:Cx}
inductive V0(x:V)(lo:Option Int)(hi:Option Int)(H:Hp)(Q:VK):Prop|mk(z)(_:x = .str z)(_:z.length<=sizeLine)(_:Q (.str (Txt.slice z lo hi)) H)
def V0_i{x:V}{lo:Option Int}{hi:Option Int}:V0 x lo hi H Q↔∃z,x = .str z/\z.length<=sizeLine/\Q (.str (Txt.slice z lo hi)) H:=by constructor <;> intro h <;> obtain⟨z,h0,h1,h2⟩:=h <;> exact⟨z,h0,h1,h2⟩
def part_of(h:IsPart v o):∃l:Option (Int×Tok),v=partValue l/\l.map (·.1)=o:=by
 cases h with
 |none=>exact⟨none,rfl,rfl⟩
 |int i t=>exact⟨some (i,t),rfl,rfl⟩
def zL:Xf X V0:=by intro pins s Z H x v vl vu lo hi sl Q I rx hs pl pu h;obtain⟨z,rfl,hz,q⟩:=h;obtain⟨t,rfl⟩:=rx;obtain⟨l,rfl,rfl⟩:=part_of pl;obtain⟨u,rfl,rfl⟩:=part_of pu;refine⟨"str",_,F.slot_str_getitem.lookup,ai0 _ _ _,wpAny_getItem_str_slice (l:=l) (u:=u) (st:=none) (by obtain⟨o,e,c,d⟩:=hs;exact⟨o,e,c,d⟩) rfl ?_⟩;exact post_val_or_str ⟨X6 (Txt.slice_le z _ _) hz,λt' k=>⟨.str _,H,I.tok _,⟨t',rfl⟩,q⟩⟩
end
section
variable {X:Cx}{D:Ends}{st:Stmt}{rest sts:List Stmt}{t:TS}{Z:St}{H:Hp}
def aI(R:St->Hp->Prop)(h:PS X st t)(q:t { D with nx:=R } Z H)(r:∀Z H,R Z H->At X D rest Z H):At X D (st::rest) Z H:=λpins s I =>
 (xM h (u:=λD' Z H=>D'=D/\R Z H) (λpins s Z H D' I ⟨e,z⟩=>by subst e;exact r Z H z pins s I)) pins s Z H D I (by
  have e:(λZ H=>D=D/\R Z H)=R:=by funext Z H;simp
  show t { D with nx:=λZ H=>D=D/\R Z H } Z H;rw[e];exact q)
def Qc{K:PySem.W.Frag} :
  (gM CX P w K mg base N qual scope f cd A outer s H E).K=K:=rfl
end
def nI{lo:Int}(Pv:Nat->List V->Hp->Prop)(h0:Pv 0 [] H)(hn:n<sizeLine)
  (hs:∀i ys H,i<n->ys.length=i->Pv i ys H->te (mS caps Z++[some (.int (lo+i))]) H λy H2=>∃m',m'<n-i/\m'=n-(i+1)/\i+1<=n/\(ys++[y]).length=i+1/\Pv (i+1) (ys++[y]) H2) (hd:∀ys H,ys.length=n->Pv n ys H->∀D,H D=none->Q (.ref D) (upd H D (.lst ys))) :
  xW (OW lo n) caps te Z H Q:=by
 refine⟨λi m ys H=>m=n-i/\i<=n/\ys.length=i/\Pv i ys H,⟨n,by simp,X5 _,rfl,h0⟩,?_⟩;rintro i m ys H ⟨rfl,hi,hl,p⟩;by_cases hlt:i<n
 ·refine .inr ⟨hlt,by lia,λx H' y=>?_⟩;obtain⟨e,y⟩:=y;subst e y;exact hs i ys _ hlt hl p
 ·have e:i=n:=by lia
  subst e;exact .inl ⟨M2 _,hd ys H hl p⟩
def ja{K:PySem.W.Frag}(Pv:Nat->List V->Hp->Prop)(h0:Pv 0 [] H)(hn:xs.length<sizeLine)
  (hq:∀i ys H,i<=xs.length->Pv i ys H->bq K H a xs)
  (hs:∀i x ys H,xs[i]?=some x->ys.length=i->Pv i ys H->te (mS caps Z++[some x]) H λy H2=>∃m',m'<xs.length-i/\m'=xs.length-(i+1)/\i+1<=xs.length/\(ys++[y]).length=i+1/\Pv (i+1) (ys++[y]) H2) (hd:∀ys H,ys.length=xs.length->Pv xs.length ys H->∀D,H D=none->Q (.ref D) (upd H D (.lst ys))) :
  xW (SM K a) caps te Z H Q:=by
 refine⟨λi m ys H=>m=xs.length-i/\i<=xs.length/\ys.length=i/\Pv i ys H,⟨xs.length,by simp,X5 _,rfl,h0⟩,?_⟩;rintro i m ys H ⟨rfl,hi,hl,p⟩;have q:=hq i ys H hi p;by_cases hlt:i<xs.length
 ·refine .inr ⟨⟨xs,xs[i],q,by simp[hlt]⟩,by lia,λx H' y=>?_⟩;obtain⟨e,y⟩:=y;subst e;exact hs i x ys _ (y xs q) hl p
 ·have e:i=xs.length:=by lia
  subst e;exact .inl ⟨⟨xs,q,M2 _⟩,hd ys H hl p⟩
def d7{n i:Nat}{ys:List V}{y:V}{R:Prop}(hi:i<n)(hl:ys.length=i)(r:R):∃m',m'<n-i/\m'=n-(i+1)/\i+1<=n/\(ys++[y]).length=i+1/\R :=
 ⟨n-(i+1),by lia,rfl,hi,by simp[hl],r⟩
def AO{α:Type}(xs:List α){i:Int}(h0:0<=i)(h1:i<xs.length):∃v,xs[i.toNat]?=some v/\uv xs i=some v:=by
 have h3:i.toNat<xs.length:=by lia
 refine⟨xs[i.toNat],i4 h3,?_⟩;have q:=aO (xs:=xs) (i4 h3);rw[Int.toNat_of_nonneg h0] at q;exact q
def sD(a:Int)(h:0<m):0<=a % m/\a % m<m:=⟨Int.emod_nonneg _ (by lia),Int.emod_lt_of_pos _ h⟩
def b7(h:n<=1000000):n<=sizeLine:=X6 h (by decide)
def eT(h:n<=1000000):n<sizeLine:=ak4 h (by decide)
def K5{K:PySem.W.Frag}(e:Z[i]?=some (some (.ref a)))(h:H a=some (.ins C dx fs))(c:ny K C)(n:bC K C f)(l:fs.lookup f=some v)(q:Q v H):Pk K (Kh i) f Z H Q :=
 ⟨_,e,a,C,dx,fs,v,rfl,h,c,n,l,q⟩
def Jr(J:It)(g:TG)(tb:TS)(D:Ends)(Z:St)(H1:Hp):Prop:=∃W:Nat->Nat->St->Hp->Prop,(∃m,W 0 m Z H1)/\∀i m Z H,W i m Z H ->
 (J.stop i H/\D.nx Z H)∨(J.go i H/\∃N:St->Hp->Prop,(∀Z' H',N Z' H'->∃m',m'<m/\W (i+1) m' Z' H')/\∀x H',J.TV i H x H'->g x Z H' λZ2 H2=>tb { D with nx:=N,ct:=N,bk:=D.nx } Z2 H2)
def VC(wi:TI)(g:TG)(tb:TS):TS:=λD Z H=>wi Z H λJ H1=>Jr J g tb D Z H1
def gk(hp:PassesOwn (model X.prog X.w) X.A X.env X.xe)(hc:X.calm=true)(hi:PI X tg iter wi)(hg:PG X tg g)(hb:A3 X body tb)
  (hs:autoParam (∀x,foldedSetIterable iter X.env x=pure x) L2.Y2._auto_1):PS X (.For tg iter body [] pos) (VC wi g tb):=SI hp hc hi hg hb hs
def kD{lo:Int}(Pv:Nat->St->Hp->Prop)(h0:Pv 0 Z H)
  (hs:∀i Z H,i<n->Pv i Z H->g (.int (lo+i)) Z H λZ2 H2=>tb { D with nx:=Pv (i+1),ct:=Pv (i+1),bk:=D.nx } Z2 H2) (hd:∀Z H,Pv n Z H->D.nx Z H):Jr (OW lo n) g tb D Z H:=CU Pv h0 hs hd
def jV{K:PySem.W.Frag}(Pv:Nat->St->Hp->Prop)(h0:Pv 0 Z H)(hl:∀i Z H,i<=xs.length->Pv i Z H->bq K H a xs)
  (hs:∀i x Z H,xs[i]?=some x->Pv i Z H->g x Z H λZ2 H2=>tb { D with nx:=Pv (i+1),ct:=Pv (i+1),bk:=D.nx } Z2 H2) (hd:∀Z H,Pv xs.length Z H->D.nx Z H):Jr (SM K a) g tb D Z H:=Jo Pv h0 hl hs hd
section
variable {κ:Type}[DecidableEq κ]
def fu(kvs:List (κ×V))(k:κ):Option V:=(kvs.find? λkv=>decide (kv.1=k)).map (·.2)
def putK(kvs:List (κ×V))(k:κ)(v:V):List (κ×V) :=
 if (kvs.any λkv=>decide (kv.1=k))=true then kvs.map (λkv=>if kv.1=k then (kv.1,v) else kv) else kvs++[(k,v)]
def xo:fu ([]:List (κ×V)) k=none:=rfl
def eV{p:κ×V}{r:List (κ×V)}{k:κ}(e:p.1=k):fu (p::r) k=some p.2:=by simp[fu,ah2,e]
def d9{p:κ×V}{r:List (κ×V)}{k:κ}(e:¬ p.1=k):fu (p::r) k=fu r k:=by simp[fu,ah2,e]
theorem ic(k:κ):∀kvs:List (κ×V),(kvs.any λkv=>decide (kv.1=k))=(fu kvs k).isSome
 | []=>rfl
 |p::r=>by
  rw[List.any_cons];by_cases e:p.1=k
  ·simp only[eV e,ab8 e,Bool.true_or,Option.isSome_some]
  ·rw[d9 e,Z9 e,Bool.false_or];exact ic k r
theorem xT(k j:κ)(y:V):∀kvs:List (κ×V),fu (kvs.map λkv=>if kv.1=k then (kv.1,y) else kv) j=(fu kvs j).map λx=>if j=k then y else x
 | []=>rfl
 |p::r=>by
  have ih:=xT k j y r;rw[Y5];by_cases h:p.1=k
  ·rw[if_pos h];by_cases e:p.1=j
   ·rw[eV (p:=(p.1,y)) e,eV e,ad7,if_pos (e.symm.trans h)]
   ·rw[d9 (p:=(p.1,y)) e,d9 e,ih]
  ·rw[if_neg h];by_cases e:p.1=j
   ·rw[eV (p:=p) e,eV e,ad7,if_neg (λz=>h (e.trans z))]
   ·rw[d9 (p:=p) e,d9 e,ih]
theorem vt(k j:κ)(y:V):∀kvs:List (κ×V),fu kvs k=none->fu (kvs++[(k,y)]) j=if j=k then some y else fu kvs j
 | [],_=>by
  by_cases e:k=j
  ·rw[if_pos e.symm];exact eV (p:=(k,y)) e
  ·rw[if_neg (λz=>e z.symm)];exact d9 (p:=(k,y)) e
 |p::r,hn=>by
  rw[List.cons_append];have hk:¬ p.1=k:=λz=>by rw[eV z] at hn;cases hn
  rw[d9 hk] at hn;have ih:=vt k j y r hn;by_cases e:p.1=j
  ·rw[eV e,eV e,if_neg (λz=>hk (e.trans z))]
  ·rw[d9 e,d9 e,ih]
def xQ(kvs:List (κ×V))(k j:κ)(y:V):fu (putK kvs k y) j=if j=k then some y else fu kvs j:=by
 unfold putK;by_cases a:(kvs.any λkv=>decide (kv.1=k))=true
 ·rw[if_pos a,xT];rw[ic] at a;by_cases e:j=k
  ·obtain⟨x,hx⟩:=Option.isSome_iff_exists.mp a;rw[if_pos e,e,hx,ad7,if_pos rfl]
  ·rw[if_neg e];cases fu kvs j with
   |none=>rfl
   |some x=>rw[ad7,if_neg e]
 ·rw[if_neg a];refine vt k j y kvs ?_;rw[ic] at a;cases q:fu kvs k with
  |none=>rfl
  |some x=>rw[q] at a;exact(a rfl).elim
def k6(kvs:List (κ×V))(k:κ)(v:V):(putK kvs k v).length<=kvs.length+1:=by
 unfold putK;split
 ·rw[d6];lia
 ·rw[o0,x0,Y7];lia
def JH{kvs:List (κ×V)}{k:κ}(v:V)(h:fu kvs k=none):putK kvs k v=kvs++[(k,v)]:=by unfold putK;rw[ic,h];exact if_neg (by decide)
def jh.pK(r:jh o u):o.isSome=u.isSome:=by
 cases o with
 |none=>cases u with
  |none=>rfl
  |some _=>exact(show False from r).elim
 |some _=>cases u with
  |none=>exact(show False from r).elim
  |some _=>rfl
def jh.getD(r:jh o u)(rd:RelV d d'):RelV (o.getD d) (u.getD d'):=by
 cases o with
 |none=>cases u with
  |none=>exact rd
  |some _=>exact(show False from r).elim
 |some _=>cases u with
  |none=>exact(show False from r).elim
  |some _=>exact r
def KV.val(r:KV kvs vs)(k:κ):jh (fu kvs k) (valueAt vs k):=by
 unfold KV at r;induction r with
 |nil=>exact True.intro
 | @cons p q ps qs h t ih =>
  obtain⟨h1,h2⟩:=h;by_cases e:p.1=k
  ·have e':q.1=k:=h1.symm.trans e;have b:valueAt (q::qs) k=some q.2:=by simp[valueAt,ah2,e']
   rw[eV e,b];exact h2
  ·have e':¬ q.1=k:=λz=>e (h1.trans z);have b:valueAt (q::qs) k=valueAt qs k:=by simp[valueAt,ah2,e']
   rw[d9 e,b];exact ih
def KV.any(r:KV kvs vs)(k:κ):(kvs.any λkv=>decide (kv.1=k))=vs.any λkv=>decide (kv.1=k):=by
 unfold KV at r;induction r with
 |nil=>rfl
 |cons h t ih=>rw[List.any_cons,List.any_cons,ih,h.1]
def KV.repl(r:KV kvs vs)(k:κ)(ry:RelV y u) :
  KV (kvs.map λkv=>if kv.1=k then (kv.1,y) else kv) (vs.map λkv=>if kv.1=k then (kv.1,u) else kv):=by
 unfold KV at r ⊢;induction r with
 |nil=>exact .nil
 | @cons p q ps qs h t ih =>
  rw[Y5,Y5];refine .cons ?_ ih;obtain⟨h1,h2⟩:=h;by_cases e:p.1=k
  ·rw[if_pos e,if_pos (h1.symm.trans e)];exact⟨h1,ry⟩
  ·rw[if_neg e,if_neg (λz=>e (h1.trans z))];exact⟨h1,h2⟩
def KV.put(r:KV kvs vs)(k:κ)(ry:RelV y u):KV (putK kvs k y) (stored vs k u):=by
 unfold putK stored;rw[r.any k];by_cases e:(vs.any λkv=>decide (kv.1=k))=true
 ·rw[if_pos e,if_pos e];exact r.repl k ry
 ·rw[if_neg e,if_neg e];exact Paired.snoc r ⟨rfl,ry⟩
def KV.keys{kvs:List (κ×V)}{vs:List (κ×Value)}(r:KV kvs vs):kvs.map (·.1)=vs.map (·.1):=by
 unfold KV at r;induction r with
 |nil=>rfl
 |cons h t ih=>rw[Y5,Y5,ih,h.1]
def KV.length{kvs:List (κ×V)}{vs:List (κ×Value)}(r:KV kvs vs):kvs.length=vs.length:=Paired.length r
end
def uL(r:RelV (kV k) u):(cu P w).is k u=true:=by
 cases k with
 |inl i=>obtain⟨t,e⟩:=(show ∃t,u=Value.int i t from r);subst e;exact yT P w i t
 |inr x=>obtain⟨t,e⟩:=(show ∃t,u=Value.str x t from r);subst e;exact yO P w x t
theorem vo:∀{ks:List Key} {us:List Value},Vals (ks.map kV) us->ItemsAre (cu P w) ks us
 | [],_,r=>by rw[List.map_nil] at r;cases r;exact .nil
 |k::ks,_,r=>by
  rw[Y5] at r;cases r with
  |cons h t=>exact .cons (uL h) (vo t)
abbrev KT(H:Hp):List (List Key×V)->List (List Key×Addr×Value)->Prop:=Paired λp q=>p.1=q.1/\H q.2.1=some (.tup (p.1.map kV))/\RelV p.2 q.2.2
def KT.val(r:KT H kvs xs)(k:List Key):jh (fu kvs k) ((atKey xs k).map (·.2)):=by
 induction r with
 |nil=>exact True.intro
 | @cons p q ps qs h t ih =>
  obtain⟨h1,_,h2⟩:=h;by_cases e:p.1=k
  ·have e':q.1=k:=h1.symm.trans e;have b:atKey (q::qs) k=some q.2:=by simp[atKey,ah2,e']
   rw[eV e,b];exact h2
  ·have e':¬ q.1=k:=λz=>e (h1.trans z);have b:atKey (q::qs) k=atKey qs k:=by simp[atKey,ah2,e']
   rw[d9 e,b];exact ih
def KT.repl(r:KT H kvs xs)(k:List Key)(ry:RelV y u) :
  KT H (kvs.map λkv=>if kv.1=k then (kv.1,y) else kv) (xs.map (putAt k u)):=by
 induction r with
 |nil=>exact .nil
 | @cons p q ps qs h t ih =>
  rw[Y5,Y5];refine .cons ?_ ih;obtain⟨h1,h2,h3⟩:=h;unfold putAt;by_cases e:p.1=k
  ·rw[if_pos e,if_pos (h1.symm.trans e)];exact⟨h1,h2,ry⟩
  ·rw[if_neg e,if_neg (λz=>e (h1.trans z))];exact⟨h1,h2,h3⟩
def KT.put(r:KT H kvs xs)(k:List Key)(hb:H b=some (.tup (k.map kV)))(ry:RelV y u) :
  KT H (putK kvs k y) (storedH xs k b u):=by
 have e:(kvs.any λkv=>decide (kv.1=k))=(atKey xs k).isSome:=by rw[ic,(r.val k).pK,Option.isSome_map]
 unfold putK storedH;rw[e];by_cases q:(atKey xs k).isSome=true
 ·rw[if_pos q,if_pos q];exact r.repl k ry
 ·rw[if_neg q,if_neg q];exact Paired.snoc r ⟨rfl,hb,ry⟩
def KT.keeps(r:KT H kvs xs)(ht:∀b ys,H b=some (.tup ys)->H' b=some (.tup ys)):KT H' kvs xs :=
 Paired.Tw r λ_ _ z=>⟨z.1,ht _ _ z.2.1,z.2.2⟩
section
variable {P:Program}{w:World}{H:Hp}{h:Heap}{a:Addr}
def NB(ok:kc P w H h)(e:Rd H a u):b9 P w H h a u:=e.ok ok
def qO(ok:kc P w H h)(e:Rd H a (.dK kvs)):kvs.length<=sizeLine/\(a == sysModules)=false/\∃vs,KV kvs vs/\h.DictOf (cu P w) a vs :=
 show b9 P w H h a (.dK kvs) from NB ok e
def yD(ok:kc P w H h)(e:H a=some (.dK kvs)):kvs.length<=sizeLine/\(a == sysModules)=false/\∃vs,KV kvs vs/\h.DictOf (cu P w) a vs:=qO ok (.inl e)
def sG(ok:kc P w H h)(e:H a=some (.tup (ks.map kV))):(tupleKind (cu P w)).is h ks a:=by
 obtain⟨_,its,r,o,h1,h2,n,h3⟩:=(show b9 P w H h a (.tup (ks.map kV)) from ok a _ e)
 exact⟨o,its.toArray,n,h1,h2,h3,by simpa using vo r⟩
def vf(ok:kc P w H h)(e:Rd H a (.dT kvs)):kvs.length<=sizeLine/\(a == sysModules)=false /\
  ∃xs,KT H kvs xs/\h.DictOfH (tupleKind (cu P w)) a xs:=by
 obtain⟨z,y,xs,r,o,es,ep,h1,h2,h3,h4,h5⟩:=(show b9 P w H h a (.dT kvs) from NB ok e)
 refine⟨z,y,xs,r,o,es,ep,h1,h2,h3,h4,λx hx=>?_,h5⟩;have all:∀{l:List (List Key×V)} {m:List (List Key×Addr×Value)},KT H l m->∀x∈m,(tupleKind (cu P w)).is h x.1 x.2.1:=by
  intro l m q;induction q with
  |nil=>intro x hx;exact nomatch hx
  | @cons p q ps qs hq t ih =>
   intro x hx;rcases y0.mp hx with e|hx
   ·subst e;exact sG ok (by rw[← hq.1];exact hq.2.1)
   ·exact ih x hx
 exact all r x hx
def Wb(ok:kc P w H h)(e:H a=some (.dT kvs)):kvs.length<=sizeLine/\(a == sysModules)=false /\
  ∃xs,KT H kvs xs/\h.DictOfH (tupleKind (cu P w)) a xs:=vf ok (.inl e)
end
def pJ(H:Hp)(a:Addr)(y:V)(r:Option V):Prop :=
 (∃kvs k,Rd H a (.dK kvs)/\y=kV k/\r=fu kvs k)∨∃kvs k b,Rd H a (.dT kvs)/\y = .ref b/\H b=some (.tup (k.map kV))/\r=fu kvs k
def Dt(H:Hp)(a:Addr)(y v:V)(H':Hp):Prop :=
 (∃kvs k,H a=some (.dK kvs)/\y=kV k/\kvs.length<sizeLine/\H'=upd H a (.dK (putK kvs k v))) ∨
 ∃kvs k b,H a=some (.dT kvs)/\y = .ref b/\H b=some (.tup (k.map kV))/\kvs.length<sizeLine/\H'=upd H a (.dT (putK kvs k v))
def pJ.k{k:Key}(e:H a=some (.dK kvs)):pJ H a (kV k) (fu kvs k):=.inl ⟨kvs,k,.inl e,rfl,rfl⟩
def Dt.k{k:Key}(e:H a=some (.dK kvs))(hl:kvs.length<sizeLine):Dt H a (kV k) v (upd H a (.dK (putK kvs k v))):=.inl ⟨kvs,k,e,rfl,hl,rfl⟩
section
variable {X:Cx}{pins:List (Addr×Obj)}{Z:St}{H:Hp}{s:Shared}{a:Addr}{y v:V}{u r:Value}{o:Option V}{A:Around}{E:Value->Shared->Prop}
def Inv.big(I:Inv X pins Z H s):sysModules<s.heap.objs.size:=by have h:mainGlobals<s.heap.objs.size:=(I.mod.glob.keeps I.bk).lt;exact Nat.lt_trans (by decide) h
def Dp(hu:A.units+1<cLine)(I:Inv X pins Z H s)(g:pJ H a y (some v))(ry:RelV y u)(h:∀w' s',Inv X pins Z H s'->RelV v w'->Q w' s') :
  wpAny (model X.prog X.w) A (getItem (.ref a) u) Q E s:=by
 rcases g with ⟨kvs,k,e,ey,l⟩|⟨kvs,k,b,e,ey,eb,l⟩
 ·subst ey;obtain⟨z,hd,vs,rel,dd⟩:=qO I.hok e;obtain⟨w',hw,rw'⟩:=jh.some_of (v:=v) (o:=valueAt vs k) (by rw[l];exact rel.val k);exact wpAny_getItem_of (uL ry) dd.mapOf hw (h w' _ (I.tok _) rw')
 ·subst ey;cases (show u=Value.ref b from ry);obtain⟨z,hd,xs,rel,dd⟩:=vf I.hok e;obtain⟨w',hw,rw'⟩:=jh.some_of (v:=v) (o:=(atKey xs k).map (·.2)) (by rw[l];exact rel.val k);obtain⟨p,hp,hp2⟩:=Q1.mp hw;refine wpAny_getItem_heap (ak6 hu) (sG I.hok eb) dd hp ?_;rw[hp2];exact h w' _ (I.tok _) rw'
def LA(hu:A.units+1<cLine)(I:Inv X pins Z H s)(g:pJ H a y o)(ry:RelV y u)(h:∀s',Inv X pins Z H s'->Q (.bool (!o.isSome)) s') :
  wpAny (model X.prog X.w) A (compareOp .NotIn u (.ref a)) Q E s:=by
 rcases g with ⟨kvs,k,e,ey,l⟩|⟨kvs,k,b,e,ey,eb,l⟩
 ·subst ey;obtain⟨z,hd,vs,rel,dd⟩:=qO I.hok e;refine wpAny_notIn_of (uL ry) hd dd.mapOf ?_;rw[← (rel.val k).pK,← l];exact h _ (I.tok _)
 ·subst ey;cases (show u=Value.ref b from ry);obtain⟨z,hd,xs,rel,dd⟩:=vf I.hok e;refine wpAny_notIn_heap (ak6 hu) (sG I.hok eb) hd dd ?_;have q:=(rel.val k).pK;rw[Option.isSome_map] at q;rw[← q,← l];exact h _ (I.tok _)
def B6(I:Inv X pins Z H s)(mu:Vn (H a))(hs:Heap.SameBut a s.heap h')(he:∃q,h'.get? a=some q)(new:b9 X.prog X.w (upd H a ob) h' a ob) :
  Inv X pins Z (upd H a ob) { s with heap:=h',toks:=t' } :=
 I.write (x:=a) (e:=a) mu (.inl rfl) (λb q hb z=>(hs.2 b hb).trans z) he new
def AJ(z:kvs.length<=sizeLine)(hd:(a == sysModules)=false)(rel:KV kvs vs)(dd:h'.DictOf (cu P w) a vs) :
  b9 P w H' h' a (.dK kvs):=⟨z,hd,vs,rel,dd⟩
def CP(hu:A.units+1<cLine)(I:Inv X pins Z H s)(g:Dt H a y v H')(ry:RelV y u)(rv:RelV v r)(h:∀s',Inv X pins Z H' s'->Q () s') :
  wpAny (model X.prog X.w) A (setItem (.ref a) u r) Q E s:=by
 rcases g with ⟨kvs,k,e,ey,l,eH⟩|⟨kvs,k,b,e,ey,eb,l,eH⟩
 ·subst ey eH;obtain⟨z,hd,vs,rel,dd⟩:=yD I.hok e;have hz:vs.length<=sizeLine:=by rw[← rel.length];exact z
  have hl:(putK kvs k v).length<=sizeLine:=by have:=k6 kvs k v;lia
  refine wpAny_setItem_pairs (hsz:=hz) (uL ry) dd λh' dd' hs=>h _ ?_;have he:∃q,h'.get? a=some q:=let ⟨q,_,_,hq,_⟩:=dd';⟨q,hq⟩;exact B6 I (by rw[e];exact True.intro) hs he (AJ hl hd (rel.put k rv) dd')
 ·subst ey eH;cases (show u=Value.ref b from ry);obtain⟨z,hd,xs,rel,dd⟩:=Wb I.hok e;have hz:xs.length<=sizeLine:=by rw[← Paired.length rel];exact z
  have hl:(putK kvs k v).length<=sizeLine:=by have:=k6 kvs k v;lia
  refine wpAny_setItem_heap (hsz:=hz) (ak6 hu) (sG I.hok eb) dd λh' dd' hs=>h _ ?_;obtain⟨q,es,ep,hq,h2,h3,h4,_,h5⟩:=dd';refine B6 I (by rw[e];exact True.intro) hs ⟨q,hq⟩ ⟨hl,hd,_,(rel.put k eb rv).keeps λc ys ec=>?_,q,es,ep,hq,h2,h3,h4,h5⟩;rw[aj (cy ec e (λz=>nomatch z))];exact ec
end
section
variable {X:Cx}{pins:List (Addr×Obj)}{Z:St}{H:Hp}{s:Shared}{a:Addr}{kvs:List (Key×V)}{k:Key}{u:Value}{A:Around}{E:Value->Shared->Prop}
def Va  (I:Inv X pins Z H s) (e:Rd H a (.dK kvs)) (h:∀t s',Inv X pins Z H s'->Q (.int kvs.length t) s'):wpAny (model X.prog X.w) A (call (.builtin "len") [.ref a]) Q E s:=by obtain⟨z,hd,vs,rel,dd⟩:=qO I.hok e;refine call_len_dict hd dd (by rw[← rel.length];rw[ac0] at z;lia) ?_;rw[← rel.length];exact h _ _ (I.tok _)
end
def VJ(i:Expr):Prop:=∀ov iv,subscripted i false ov iv=operate [ov,iv] (getItem ov iv)
def Ko{T id:String}
  (hl:typeLookup (.type T) "__getitem__" = pure (some (.builtin id))) (hs:VJ slice)
  (h:wpAny (model prog w) A (eval value env) (λo s₁=>wpAny (model prog w) A (eval slice env) (λi s₂=>s₂.TypeIs o T/\wpAny (model prog w) A (getItem o i) Q E s₂) E s₁) E s) :
  wpAny (model prog w) A (eval (.Subscript value slice pos) env) Q E s:=by
 refine Subscript_ (ab1 h (λo s₁ h₁=>ab1 h₁ (λi s₂ h₂=>?_) λ_ _ x=>x) λ_ _ x=>x);obtain⟨hT,h₂⟩:=h₂;unfold subscriptTail;refine v3 ?_;rw[getitemInPython_of_ne hT.not_modules];refine v3 (wpAny_specialOf hT hl ?_);have fin:wpAny (model prog w) A (subscripted slice false o i) (λr s₃=>wpAny (model prog w) A (letTemporaryGo value o r >>= λ_=>pure r) Q E s₃) E s₂:=by
  rw[hs o i];exact wpAny_operating (ab1 h₂ (λr s₃ h₃=>v3 (wpAny_letTemporaryGo (T1 h₃))) λ_ _ x=>x)
 first
  |exact T1 (v3 fin)
  |exact v3 (T1 (v3 fin))
  |exact v3 fin
def yg         (I:Inv X pins Z H s) (g:pJ H a y o):s.TypeIs (.ref a) "dict" := by
 rcases g with ⟨kvs,k,e,_,_⟩|⟨kvs,k,b,e,_,_,_⟩
 ·obtain⟨_,_,vs,_,dd⟩:=qO I.hok e;exact dd.typeIs
 ·obtain⟨_,_,xs,_,dd⟩:=vf I.hok e;exact dd.typeIs
def Wa(td ty:TE):TE:=λZ H Q=>td Z H λx H1=>ty Z H1 λy H2=>∃a v,x = .ref a/\pJ H2 a y (some v)/\Q v H2
def Lu(ty td:TE):TE:=λZ H Q=>ty Z H λy H1=>td Z H1 λx H2=>∃a o,x = .ref a/\pJ H2 a y o/\Q (.bl (!o.isSome)) H2
def UT(td ty tv:TE):TS:=λD Z H=>tv Z H λv H1=>td Z H1 λx H2=>ty Z H2 λy H3=>∃a H4,x = .ref a/\Dt H3 a y v H4/\D.nx Z H4
section
variable {X:Cx}{o i e value:Expr}{pos pos' tpos:Pos}{td ty tv:TE}
def Bk(hu:X.A.units+1<cLine)(ho:PE X o td)(hi:PE X i ty)(hs:VJ i):PE X (.Subscript o i pos) (Wa td ty):=by intro pins s Z H Q I h;refine Ko PySem.F.slot_dict_getitem.lookup hs (cM (ho pins s Z H _ I h) λu s1 ⟨x,H1,I1,rx,q1⟩=>cM (hi pins s1 Z H1 _ I1 q1) λiv s2  hZ=>?_);obtain⟨y,H2,I2,ry,a,v,ex,g,q2⟩:=hZ;subst ex;obtain rfl:u=Value.ref a:=rx;exact⟨yg I2 g,Dp hu I2 g ry λw' s3 I3 rw'=>⟨v,H2,I3,rw',q2⟩⟩
def uF(hu:X.A.units+1<cLine)(hi:PE X i ty)(ho:PE X o td):PC X .NotIn i o (Lu ty td):=by intro pins s Z H Q I h;refine cM (hi pins s Z H _ I h) λiv s1 ⟨y,H1,I1,ry,q1⟩=>cM (ho pins s1 Z H1 _ I1 q1) λu s2  hZ=>?_;obtain⟨x,H2,I2,rx,a,ov,ex,g,q2⟩:=hZ;subst ex;obtain rfl:u=Value.ref a:=rx;exact LA hu I2 g ry λs3 I3=>⟨.bl (!ov.isSome),H2,I3,rfl,q2⟩
def B5(hu:X.A.units+1<cLine)(ho:PE X o td)(hi:PE X i ty)(hv:PE X value tv)(hs:swapsWith value (some (.Subscript o i pos')) pos.line X.env=pure false) :
  PS X (.Assign [.Subscript o i pos'] value pos) (UT td ty tv):=by
 intro pins s Z H D I h;refine wpAny_Assign_Subscript (cM (hv pins s Z H _ I h) λr s1 ⟨v,H1,I1,rv,q1⟩=>cM (ho pins s1 Z H1 _ I1 q1) λu s2 ⟨x,H2,I2,rx,q2⟩=>cM (hi pins s2 Z H2 _ I2 q2) λiv s3 hY=>?_) hs;obtain⟨y,H3,I3,ry,a,H4,ex,g,q3⟩:=hY;subst ex;obtain rfl:u=Value.ref a:=rx;exact CP hu I3 g ry rv λs4 I4=>⟨Z,H4,I4,q3⟩
end
def E9    (h:Heap) (hb:sysModules<h.objs.size):b9 P w H (h.push { cls:=.type "dict",data:=.dict #[] }) h.objs.size (.dK []) :=
 ⟨X5 _,beq_eq_false_iff_ne.mpr (aa3 (T0 hb)),[],.nil,Heap.DictOf.new h⟩
def Sl:TE:=λ_ H Q=>∀p,H p=none->Q (.ref p) (upd H p (.dK []))
section
variable {X:Cx}{pos:Pos}
def zk:PE X (.Dict [] [] pos) Sl:=λpins s Z H Q I h =>
 wpAny_Dict_empty ⟨.ref s.heap.objs.size,_,I.laid (a:=s.heap.objs.size) (o:=.dK []) (t':=s.toks) (λ_ _ q=>u3 _ q) (M2 _) (E9 s.heap I.big),rfl,h _ (I.hok.fresh (M2 _))⟩
end
def lA(kvs more:List (Key×V)):List (Key×V):=more.foldl (λacc kv=>putK acc kv.1 kv.2) kvs
def KV.merge:∀{more:List (Key×V)} {rs:List (Key×Value)} {kvs:List (Key×V)} {vs:List (Key×Value)},KV more rs->KV kvs vs->KV (lA kvs more) (merged vs rs):=by
 intro more rs kvs vs r;unfold KV at r;induction r generalizing kvs vs with
 |nil=>intro q;exact q
 | @cons p q ps qs h t ih =>
  intro r0;have e:KV (putK kvs p.1 p.2) (stored vs q.1 q.2):=by have:=r0.put p.1 h.2;rw[← h.1];exact this
  exact ih e
theorem m9:∀(more kvs:List (Key×V)),(lA kvs more).length<=kvs.length+more.length
 | [],kvs=>by show kvs.length<=kvs.length+0;lia
 |p::r,kvs=>by have h1:=m9 r (putK kvs p.1 p.2);have h2:=k6 kvs p.1 p.2;show (lA (putK kvs p.1 p.2) r).length<=_;rw[x0];lia
structure M1(X:Cx)(o:Expr)(m:Str)(apos:Pos)(e:Expr)(cpos:Pos):Prop where
 base:attributeBase o m X.env (eval o X.env)=eval o X.env
 few:((backTo cpos (starEach [e] X.env)).all (λx=>!x.1) && (backToKw cpos (keywordEach [] X.env)).all (λx=>x.1.isSome)
  && decide (([e]:List Expr).length+([]:List Keyword).length+(if ([]:List Keyword).isEmpty then 0 else 1)<30))=true
 line:(apos.endLine == cpos.line)=true
 trees:backTo cpos (starEach [e] X.env)=[(false,eval e X.env)]
def IsD(H:Hp)(a:Addr):Prop:=(∃kvs,Rd H a (.dK kvs))∨∃kvs,Rd H a (.dT kvs)
def Q0(I:Inv X pins Z H s)(d:IsD H a) :
  s.TypeIs (.ref a) "dict" /\ (∀b,Value.ref a = .ref b->∃ob,s.heap.get? b=some ob/\ob.dict=none)/\(a == sysModules)=false:=by
 rcases d with ⟨kvs,e⟩|⟨kvs,e⟩
 ·obtain⟨_,hd,vs,_,dd⟩:=qO I.hok e;refine⟨dd.typeIs,λb q=>?_,hd⟩;cases q;obtain⟨ob,_,_,h1,h2,_⟩:=dd;exact⟨ob,h1,h2.2.1⟩
 ·obtain⟨_,hd,xs,_,dd⟩:=vf I.hok e;refine⟨dd.typeIs,λb q=>?_,hd⟩;cases q;obtain⟨ob,_,_,h1,h2,_⟩:=dd;exact⟨ob,h1,h2.2.1⟩
section
variable {X:Cx}{pins:List (Addr×Obj)}{Z:St}{H:Hp}{s:Shared}{a:Addr}{y d:V}{u r:Value}{o:Option V}{A:Around}{E:Value->Shared->Prop}
def QE(hu:A.units+1<cLine)(I:Inv X pins Z H s)(g:pJ H a y o)(ry:RelV y u)(h:∀w' s',Inv X pins Z H s'->RelV (o.getD .cD) w'->Q w' s') :
  wpAny (model X.prog X.w) A (call (.builtin "dict.get") [.ref a,u]) Q E s:=by
 rcases g with ⟨kvs,k,e,ey,l⟩|⟨kvs,k,b,e,ey,eb,l⟩
 ·subst ey;obtain⟨z,hd,vs,rel,dd⟩:=qO I.hok e;refine call_meetsIn PySem.F.slot_dict_get dd.typeIs PySem.F.entry_dict_get (PySem.F.args_dict_get_2 _ _) (meets_dict_get (cu X.prog X.w) a (uL ry) hd) ⟨_,dd.mapOf,h _ _ (I.tok _) ?_⟩;rw[l];exact(rel.val k).getD rfl
 ·subst ey;cases (show u=Value.ref b from ry);obtain⟨z,hd,xs,rel,dd⟩:=vf I.hok e;refine call_meetsIn PySem.F.slot_dict_get dd.typeIs PySem.F.entry_dict_get (PySem.F.args_dict_get_2 _ _) (meetsH_dict_get (tupleKind (cu X.prog X.w)) a b hd) ⟨ak6 hu,k,xs,sG I.hok eb,dd,h _ _ (I.tok _) ?_⟩;rw[l];exact(rel.val k).getD rfl
end
def Qj(td ty:TE):TE:=λZ H Q=>td Z H λx H1=>∃a,x = .ref a/\IsD H1 a/\ty Z H1 λy H2=>∃o,pJ H2 a y o/\Q (o.getD .cD) H2
section
variable {X:Cx}{o e f:Expr}{apos cpos:Pos}{td ty tx:TE}
def Ii (hu:X.A.units+1<cLine) (ho:PE X o td) (he:PE X e ty) (m:M1 X o "get" apos e cpos):PE X (.Call (.Attribute o "get" apos) [e] [] cpos) (Qj td ty):=by intro pins s Z H Q I h;refine wpAny_Call_method m.base m.few m.line PySem.F.plainAttrs_dict PySem.F.slot_dict_get PySem.F.type_dict_get (cM (ho pins s Z H _ I h) λu s1  hZ=>?_);obtain⟨x,H1,I1,rx,a,ex,d,q1⟩:=hZ;subst ex;obtain rfl:u=Value.ref a:=rx;obtain⟨t1,t2,_⟩:=Q0 I1 d;refine⟨t1,t2,?_⟩;rw[m.trees];refine ag6 rfl (ai3 (ag7 (cM (he pins s1 Z H1 _ I1 q1) λiv s2 ⟨y,H2,I2,ry,ov,g,q2⟩=>Calls.spliced_nil ?_)));exact QE hu I2 g ry λw' s3 I3 rw'=>⟨_,H2,I3,rw',q2⟩
end
section
variable {X:Cx}{pins:List (Addr×Obj)}{Z:St}{H:Hp}{s:Shared}{a:Addr}{kvs:List (Key×V)}{A:Around}{E:Value->Shared->Prop}
def JD  (I:Inv X pins Z H s) (e:Rd H a (.dK kvs)) (h:∀p s',H p=none->Inv X pins Z (upd H p (.dK kvs)) s'->Q (.ref p) s'):wpAny (model X.prog X.w) A (call (.type "dict") [.ref a]) Q E s:=by obtain⟨z,hd,vs,rel,dd⟩:=qO I.hok e;refine kt_call_dict hd dd (by rw[← rel.length];exact z) λh' dd' hs=>?_;refine h _ _ (I.hok.fresh (M2 _)) (I.laid (a:=s.heap.objs.size) (o:=.dK kvs) (t':=s.toks) (λb q hq=>?_) (M2 _) (AJ z (beq_eq_false_iff_ne.mpr (aa3 (T0 I.big))) rel dd'));exact(hs.2 b (T0 (B2 hq))).trans (u3 _ hq)
end
section
variable {X:Cx}{pins:List (Addr×Obj)}{Z:St}{H:Hp}{s:Shared}{a:Addr}{y:V}{u:Value}{A:Around}{E:Value->Shared->Prop}
end
section
variable {X:Cx}
def Dh:gR X (.builtin "len") (λxs H Q=>∃a kvs,xs=[V.ref a]/\H a=some (.dK kvs)/\Q (.int kvs.length) H):=by intro pins s Z H xs us Q I r h;obtain⟨a,kvs,rfl,ha,q⟩:=h;obtain⟨u,rfl,ru⟩:=vals1 r;cases ru;exact Va I (.inl ha) λt s' I'=>⟨.int kvs.length,H,I',⟨t,rfl⟩,q⟩
end
section
variable {κ:Type}[DecidableEq κ]
def HV{kvs:List (κ×V)}{k:κ}(h:fu kvs k=none):¬ k∈kvs.map (·.1):=by intro m;obtain⟨p,hp,e⟩:=aa2.mp m;have q:(kvs.any λkv=>decide (kv.1=k))=true:=List.any_eq_true.mpr ⟨p,hp,ab8 e⟩;rw[ic,h] at q;exact absurd q (by simp)
def Ka{kvs:List (κ×V)}{k:κ}{v:V}(h:fu kvs k=some v):k∈kvs.map (·.1):=by
 have q:(kvs.any λkv=>decide (kv.1=k))=true:=by rw[ic,h];all_goals rfl
 obtain⟨p,hp,e⟩:=List.any_eq_true.mp q;exact aa2.mpr ⟨p,hp,ad3 e⟩
end
section
variable {X:Cx}
inductive Em(x:V)(vs:List V)(H:Hp)(Q:VK):Prop|mk(a b:Str)(_:x = .str a)(_:vs=[.str b])(_:(b.length == 0)=false)(_:a.length+2<=sizeLine)(_:∀p,H p=none->Q (.ref p) (upd H p (.lst ((PySem.Txt.split a b).map V.str))))
def Em_i{x:V}{vs:List V}:Em x vs H Q↔∃a b:Str,x = .str a/\vs=[.str b]/\(b.length == 0)=false/\a.length+2<=sizeLine/\∀p,H p=none->Q (.ref p) (upd H p (.lst ((PySem.Txt.split a b).map V.str))):=by constructor <;> intro h <;> obtain⟨a,b,h0,h1,h2,h3,h4⟩:=h <;> exact⟨a,b,h0,h1,h2,h3,h4⟩
def DX:∀(n:Nat) (ys:List Str),Vals (ys.map V.str) (strsFrom n ys):=by
 intro n ys;rw[strsFrom_eq];have aux:∀(l:List (Str×Tok)),Vals ((l.map (·.1)).map V.str) (strValues l):=by
  intro l;induction l with
  |nil=>exact .nil
  |cons p r ih=>exact .cons ⟨p.2,rfl⟩ ih
 have:=aux (numbered n ys);rwa [numbered_texts] at this
def lH:SX X "str.split" Em:=by
 intro pins s Z H x vs v us Q I rx rv h;obtain⟨a,b,rfl,rfl,hb,hz,q⟩:=h;obtain⟨t,rfl⟩:=rx;obtain⟨u,rfl,ru⟩:=rv.one;obtain⟨t1,rfl⟩:=ru;have q0:=q s.heap.objs.size (I.hok.fresh (M2 _));have hle:=PyProof.Rows.split_le a b;cases h1:(decide (a.length<b.length) || decide (Builtin.Str.strKind a<Builtin.Str.strKind b))
 ·cases hf:(Builtin.Str.occurrences a b 0 a.length (a.length+1)).isEmpty
  ·have e:PySem.Txt.split a b=Builtin.Str.partsBetween a (Builtin.Str.occurrences a b 0 a.length (a.length+1)) b.length:=by unfold PySem.Txt.split;rw[if_neg (ne_true_of_eq_false h1),if_neg (ne_true_of_eq_false hf)]
   rw[e] at q0 hle;refine ag5 ae6 (ai0 _ _ _) F.entry_str_split (F.args_str_split_2 _ _) (meets_str_split_sep a b t t1 h1 hb hf (by lia) (by lia)) ?_;exact⟨.ref _,_,I.Hx (t':=_) (DX s.toks _) (by rw[d6];lia),rfl,q0⟩
  ·have e:PySem.Txt.split a b=[a]:=by unfold PySem.Txt.split;rw[if_neg (ne_true_of_eq_false h1),if_pos hf]
   rw[e] at q0;refine ag5 ae6 (ai0 _ _ _) F.entry_str_split (F.args_str_split_2 _ _) (meets_str_split_not_found a b t t1 h1 hb hf) ?_;exact⟨.ref _,_,I.Hx (ys:=[.str a]) (t':=s.toks) (.cons ⟨t,rfl⟩ .nil) (by show 1<=sizeLine;decide),rfl,q0⟩
 ·have e:PySem.Txt.split a b=[a]:=by unfold PySem.Txt.split;rw[if_pos h1]
  rw[e] at q0;refine ag5 ae6 (ai0 _ _ _) F.entry_str_split (F.args_str_split_2 _ _) (meets_str_split_cannot_occur a b t t1 h1) ?_;exact⟨.ref _,_,I.Hx (ys:=[.str a]) (t':=s.toks) (.cons ⟨t,rfl⟩ .nil) (by show 1<=sizeLine;decide),rfl,q0⟩
def xG:∀{us:List Value},Vals (bs.map V.bl) us->LSm.BoolsAre us bs:=by
 induction bs with
 |nil=>intro us r;cases r;exact .nil
 |cons y r ih =>
  intro us h;cases h with
  |cons h t =>
   cases h;exact .cons _ (ih t)
def CS (hc:X.calm=true):gR X (.builtin "all") (λxs H Q=>∃(p:Addr) (bs:List Bool),xs=[.ref p]/\bq X.K H p (bs.map V.bl)/\Q (.bl (bs.all id)) H):=by
 intro pins s Z H xs us Q I r h;obtain⟨p,bs,rfl,hq,q⟩:=h;obtain⟨u,rfl,rx⟩:=vals1 r;cases rx;obtain⟨its,r',pl,hz⟩:=I.list hq;have hb:=xG r';have hl:=pl.isList;have hlt:p<s.heap.objs.size:=by obtain⟨_,e,_⟩:=hl;exact B2 e
 refine call_all_walk (wpAny_pyIter_list hl ?_);refine⟨s.heap.objs.size,[s.heap.objs.size,p],[s.heap.objs.size],its.toArray.size,_,_,λi=>(bs[i]?).getD true,rfl,Walks.list (A:=X.A.in1) (I.ok.hd hc) _ p (T0 hlt) its.toArray,
  ⟨⟨_,Z0 _ rfl,rfl,rfl⟩,hl.push _⟩,λi v s' Q' E' hP hQ=>?_,λh' tk hk=>?_⟩
 ·obtain⟨b,e,rfl⟩:=hb.get i v (by simpa using hP);simp only[e,Option.getD_some] at hQ;exact ae3 hQ
 ·have e:((List.range its.toArray.size).all λi=>(bs[i]?).getD true)=bs.all id:=by rw[P3,hb.length];exact LSm.range_all bs
  rw[e];exact⟨.bl _,H,I.kept (t':=tk) (LSm.kept_iter hk),rfl,q⟩
end
def Wo(z:Str):It:=⟨λi _=>i<z.length,λi H x H'=>H'=H/\∃c,z.cps.toList[i]?=some c/\x = .str ⟨#[c]⟩,λi _=>z.length<=i⟩
section
variable {X:Cx}{tg:Expr}
def uK{P:Program}{w:World}{K:PySem.W.Frag}{x:Str}{px:Pos}(z:Str)(it:Addr)(St:Nat->Heap->Prop)(cl:∀i h,St i h->∃o,h.get? it=some o/\∀v,o.data ≠ .cell v)
  (fr:∀i h h',St i h->(∀o,h.get? it=some o->h'.get? it=some o)->St i h') (sf:∀(A:Around) (i:Nat) (s:Shared) (Q:Value->Shared->Prop) (E:Value->Shared->Prop),St i s.heap->Q (.ref it) s->wpAny (model P w) A (pyIter (.ref it)) Q E s)
  (W:∀A:Around,A.handled=none->Walks P w A it [it] [it] z.cps.size (SignAt z) St):Turn P w K (.Name x px) (Wo z) [it] it (λi h=>St i h/\i<=z.length) where
 mem:=by simp
 obj:=λi h st b hb=>by
  have e:b=it:=by simpa using hb
  subst e;exact cl i h st.1
 keep:=λi h h' st k=>⟨fr i h h' st.1 λo e=>k it (by simp) o e,st.2⟩
 item:=by intro X hP hw hK hc i pins s Z H E I hf st hg;subst hP hw hK;obtain⟨f0,f1,f2,f3,f4,f5⟩:=hf it (by simp);refine(W X.A (I.ok.hd hc)).item i s _ E hg st.1 λv h' tk hP st' hk=>?_;obtain⟨c,u,e1,rfl⟩:=hP;refine⟨_,rfl,?_⟩;show wpAny _ _ (pure ()) _ _ _;refine T1 ⟨.str ⟨#[c]⟩,H,I.turned (t':=tk) (λb o hb e=>hk b o (by simpa using hb) e) f0 f1 f3 f4 f5,⟨u,rfl⟩,⟨rfl,c,by simpa using e1,rfl⟩,⟨st',hg⟩,λb hb=>(hf b hb).1⟩
 done:=by intro X hP hw hK hc i pins s Z H E I hf st hg;subst hP hw hK;obtain⟨f0,f1,f2,f3,f4,f5⟩:=hf it (by simp);have e:i=z.cps.size:=Nat.le_antisymm st.2 hg;subst e;exact(W X.A (I.ok.hd hc)).done s _ E st.1 λh' tk hk=>⟨rfl,I.turned (t':=tk) (λb o hb e=>hk b o (by simpa using hb) e) f0 f1 f3 f4 f5⟩
 self:=λA i s Q E st h=>sf A i s Q E st.1 h
def WL(te:TE):TI:=λZ H R=>te Z H λx H1=>∃z:Str,x = .str z/\R (Wo z) H1
def RY(he:PE X e te):PI X (.Name x px) e (WL te):=by
 intro pins s Z H R I h;refine cM (he pins s Z H _ I h) λv s1  hZ=>?_;obtain⟨y,H1,I1,r1,q1⟩:=hZ;obtain⟨z,rfl,q⟩:=q1;obtain⟨t,rfl⟩:=r1;have fin:∀(o:Obj) (St:Nat->Heap->Prop),Turn X.prog X.w X.K (.Name x px) (Wo z) [s1.heap.objs.size] s1.heap.objs.size St->St 0 (s1.heap.push o)->Wx X pins Z (.Name x px) R (.ref s1.heap.objs.size) { s1 with heap:=s1.heap.push o }:=λo St T st=>by
  refine⟨s1.heap.objs.size,[s1.heap.objs.size],_,_,H1,rfl,I1.kept (t':=s1.toks) λb o e=>u3 _ e,T,st,λb hb=>?_,q⟩;have e:b=s1.heap.objs.size:=by simpa using hb
  subst e;exact I1.CJ (M2 _) (I1.hok.fresh (M2 _))
 have cl:∀ty (i:Nat) (h:Heap),h.IsStrIter s1.heap.objs.size ty z t i->∃o,h.get? s1.heap.objs.size=some o/\∀v,o.data ≠ .cell v:=λty i h st=>by obtain⟨o,e,c,d⟩:=st;exact⟨o,e,λv q=>by rw[d] at q;cases q⟩
 have fr:∀ty (i:Nat) (h h':Heap),h.IsStrIter s1.heap.objs.size ty z t i->(∀o,h.get? s1.heap.objs.size=some o->h'.get? s1.heap.objs.size=some o)->h'.IsStrIter s1.heap.objs.size ty z t i:=λty i h h' st k=>by obtain⟨o,e,r⟩:=st;exact⟨o,k o e,r⟩
 cases ha:z.cps.all (· < 128)
 ·exact wpAny_pyIter_wide ha (fin _ _ (uK z _ _ (cl _) (fr _) (λA i s Q E st h=>wpAny_pyIter_striter_wide st h) (λA hA=>Walks.strWide hA _ z t)) ⟨⟨_,Z0 _ rfl,rfl,rfl⟩,X5 _⟩)
 ·exact wpAny_pyIter_ascii ha (fin _ _ (uK z _ _ (cl _) (fr _) (λA i s Q E st h=>wpAny_pyIter_striter_ascii st h) (λA hA=>Walks.strAscii hA _ z t)) ⟨⟨_,Z0 _ rfl,rfl,rfl⟩,X5 _⟩)
def WJ(K:PySem.W.Frag)(a:Addr):It :=
 ⟨λi H=>∃xs x,bq K H a xs/\xs[i]?=some x,λi H x H'=>∃p v,H p=none/\x = .ref p/\H'=upd H p (.tup [.int i,v])/\∀xs,bq K H a xs->xs[i]?=some v,λi H=>∃xs,bq K H a xs/\xs.length<=i⟩
def C0{P:Program}{w:World}{K:PySem.W.Frag}{elts:List Expr}{x1}{pos:Pos}(a e it:Addr)(hne:e≠it):Turn P w K (.Tuple elts x1 pos) (WJ K a) [e,it] e (λi h=>∃old,IsEnum h e it i old/\h.IsListIter it a i) where
 mem:=by simp
 obj:=λi h st b hb=>by
  obtain⟨old,st,si⟩:=st;rcases y0.mp hb with z|z
  ·subst z;exact⟨_,st,λv q=>by cases q⟩
  ·have e:b=it:=by simpa using z
   subst e;obtain⟨o,e,c,d⟩:=si;exact⟨o,e,λv q=>by rw[d] at q;cases q⟩
 keep:=λi h h' st k=>by obtain⟨old,st,si⟩:=st;exact⟨old,k e (by simp) _ st,si.at λo q=>k it (by simp) o q⟩
 item:=by
  intro X hP hw hK hc i pins s Z H E I hf st hg;subst hP hw hK;obtain⟨old,st,si⟩:=st;obtain⟨xs,x,hq,hx⟩:=hg;obtain⟨its,rv,p,hz⟩:=I.list hq;obtain⟨u,hu,ru⟩:=rv.get hx;have f:=hf e (by simp);have g:=hf it (by simp);refine wpAny_pyNext_enum_item st si p.isList (x:=u) (by simpa using hu) hne λh1 eo si1 ht hsz hk=>?_;refine⟨_,rfl,wpAny_letOwnedTupleGo_enum (s:={ s with heap:=h1,toks:=s.toks+1 }) eo λh2 en sb=>?_⟩;have hs1:e≠s.heap.objs.size:=T0 (B2 st);have hs2:it≠s.heap.objs.size:=by obtain⟨o,q,_⟩:=si;exact T0 (B2 q)
  have k2:∀b o,b≠e->b≠it->s.heap.get? b=some o->h2.get? b=some o:=λb o n1 n2 q=>(sb.2 b n1).trans (hk b o n1 n2 q);have fresh:=I.hok.fresh (M2 s.heap.objs.size);have I1:Inv X pins Z (upd H s.heap.objs.size (.tup [.int i,x])) { s with heap:=h2,toks:=s.toks+1 }:=by
   refine I.step (g':=s.gens) (d':=s.drawn) (ch:=[e,it]) (λb hb=>?_) (λb o _ _ hc q _=>?_) (λb o _ _ hc q _=>?_) (λb o hc q n=>?_) (λb o hc q=>?_) (λb ys q=>?_) (λb o ys q=>?_) (λb ps q=>?_) (λm hm=>?_) (λb u' q=>?_) I.bare
   ·rcases y0.mp hb with z|z
    ·rw[z];exact⟨f.2.2.2.1,f.2.1,f.2.2.2.2.1,f.2.2.2.2.2⟩
    ·have z:b=it:=by simpa using z
     rw[z];exact⟨g.2.2.2.1,g.2.1,g.2.2.2.2.1,g.2.2.2.2.2⟩
   ·exact k2 b o (λz=>hc (by simp[z])) (λz=>hc (by simp[z])) q
   ·exact⟨o.slots,k2 b o (λz=>hc (by simp[z])) (λz=>hc (by simp[z])) q⟩
   ·rw[aj (T0 (B2 q))];exact n
   ·exact⟨o,k2 b o (λz=>hc (by simp[z])) (λz=>hc (by simp[z])) q⟩
   ·rw[aj (av q fresh)];exact q
   ·rw[aj (av q fresh)];exact q
   ·exact⟨#[],by rw[aj (av q fresh),q];simp⟩
   ·obtain⟨o,es,ep,ho,r⟩:=hm;exact⟨o,es,ep,k2 _ o (aa3 f.2.1) (aa3 g.2.1) ho,r⟩
   ·by_cases hb:b=s.heap.objs.size
    ·subst hb;rw[af] at q;cases q;refine⟨by show 2<=sizeLine;decide,[_,u],.cons ⟨_,rfl⟩ (.cons ru .nil),⟨_,(sb.2 _ (aa3 hs1)).trans ht,rfl,_,rfl⟩⟩
    ·rw[aj hb] at q;refine(I.hok b u' q).stay (λc v hc' r=>k2 c v ?_ ?_ r) (λc r=>by rw[aj (av r fresh)];exact r) λc ys r=>by rw[aj (av r fresh)];exact r
     ·rcases hc' with z|z
      ·rw[z];exact av q f.1
      ·exact av z f.1
     ·rcases hc' with z|z
      ·rw[z];exact av q g.1
      ·exact av z g.1
  refine⟨.ref s.heap.objs.size,_,I1,rfl,⟨_,x,fresh,rfl,rfl,λys hy=>by rw[I.oK hy hq];exact hx⟩,⟨_,en,?_⟩,λb hb=>?_⟩
  ·obtain⟨o,q,r⟩:=si1;exact⟨o,(sb.2 it (aa3 hne)).trans q,r⟩
  ·have hb':=(hf b hb).1;rcases y0.mp hb with z|z
   ·rw[aj (by rw[z];exact hs1)];exact hb'
   ·have z:b=it:=by simpa using z
    rw[aj (by rw[z];exact hs2)];exact hb'
 done:=by intro X hP hw hK hc i pins s Z H E I hf st hg;subst hP hw hK;obtain⟨old,st,si⟩:=st;obtain⟨xs,hq,hx⟩:=hg;obtain⟨its,rv,p,hz⟩:=I.list hq;obtain⟨f0,f1,f2,f3,f4,f5⟩:=hf it (by simp);have hl:=rv.length;exact wpAny_pyNext_enum_end (I.ok.hd hc) st si p.isList (by simp;lia) λh' eb=>⟨rfl,I.turned (t':=s.toks) (λb o hb e=>eb b o hb e) f0 f1 f3 f4 f5⟩
 self:=λ_ _ _ _ _ st h=>by obtain⟨old,st,si⟩:=st;exact wpAny_pyIter_enum st h
def Vo(K:PySem.W.Frag)(ta:TA):TI:=λZ H R=>ta Z H λvs H1=>∃a xs,vs=[.ref a]/\bq K H1 a xs/\R (WJ K a) H1
def BI      (hg:Gl X "enumerate") (hm:X.mg "enumerate" = none) (ha:PA X [a] ta) (hs:autoParam (starEach [a] X.env=[(false,eval a X.env)]) L2.Y3._auto_1) :
  PI X (.Tuple elts x1 tp) (.Call (.Name "enumerate" p) [a] [] pos) (Vo X.K ta):=by
 intro pins s Z H R I h;refine Call_ (mh I hg hm (show bootBuiltins "enumerate" = some (.type "enumerate") by decide +kernel) (ac8 (cM (ha pos pins s Z H _ I h) λus s1 hY=>?_) hs rfl));obtain⟨vs,H1,I1,r1,q1⟩:=hY;obtain⟨l,xs,rfl,hq,q⟩:=q1;obtain⟨u,rfl,ru⟩:=r1.one;cases ru;obtain⟨its,rv,pl,hz⟩:=I1.list hq;refine call_enumerate_list pl.isList λh' he hi hsz hk=>?_;refine wpAny_pyIter_enum (s:={ s1 with heap:=h' }) he ?_;refine⟨s1.heap.objs.size+1,[s1.heap.objs.size+1,s1.heap.objs.size],_,_,H1,rfl,I1.kept (t':=s1.toks) hk,C0 l _ _ (Nat.succ_ne_self _),⟨_,he,hi⟩,λb hb=>?_,q⟩;have hb':s1.heap.objs.size<=b:=by
  rcases y0.mp hb with z|z
  ·rw[z];exact Nat.le_succ _
  ·have z:b=s1.heap.objs.size:=by simpa using z
   rw[z];exact M2 _
 exact I1.CJ hb' (I1.hok.fresh hb')
end
def kE{x y:Str}(h:x.cps.toList=y.cps.toList):x=y:=by obtain⟨a⟩:=x;obtain⟨b⟩:=y;have:a=b:=af4.mp h;rw[this]
def dW(x y:Str):(x++y).cps.toList=x.cps.toList++y.cps.toList:=by show (x.cps++y.cps).toList=_;simp
def dZ(c:Nat):List (List Nat)->List Nat
 | []=>[]
 | [x]=>x
 |x::y::r=>x++c::dZ c (y::r)
theorem fK(c:Nat):∀ps:List Str,(Str.join ⟨#[c]⟩ ps).cps.toList=dZ c (ps.map λp=>p.cps.toList)
 | []=>rfl
 | [x]=>rfl
 |x::y::r=>by show (x++⟨#[c]⟩++Str.join ⟨#[c]⟩ (y::r)).cps.toList=x.cps.toList++c::dZ c ((y::r).map λp=>p.cps.toList);rw[dW,dW,fK c (y::r)];simp
theorem Cp:∀{a b r s:List Nat},c∉a->c∉b->a++c::r=b++c::s->a=b/\r=s
 | [],[],r,s,_,_,h=>⟨rfl,by simpa using h⟩
 | [],y::b,r,s,_,hb,h=>by simp at h;exact absurd (by simp[h.1]) hb
 |x::a,[],r,s,ha,_,h=>by simp at h;exact absurd (by simp[h.1]) ha
 |x::a,y::b,r,s,ha,hb,h=>by simp only[List.cons_append,List.cons.injEq] at h;obtain⟨e1,e2⟩:=Cp (λz=>ha (D1 _ z)) (λz=>hb (D1 _ z)) h.2;exact⟨by rw[h.1,e1],e2⟩
theorem uU:∀{ps qs:List (List Nat)},ps≠[]->qs≠[]->(∀p∈ps,c∉p)->(∀q∈qs,c∉q)->dZ c ps=dZ c qs->ps=qs
 | [],_,h,_,_,_,_=>absurd rfl h
 |_::_,[],_,h,_,_,_=>absurd rfl h
 | [x],[y],_,_,_,_,h=>by simp only[dZ] at h;rw[h]
 | [x],y::z::r,_,_,hx,_,h=>by simp only[dZ] at h;exact absurd (by rw[h];simp) (hx x (by simp))
 |x::z::r,[y],_,_,_,hy,h=>by simp only[dZ] at h;exact absurd (by rw[← h];simp) (hy y (by simp))
 |x::x2::r,y::y2::s,_,_,hx,hy,h=>by simp only[dZ] at h;obtain⟨e1,e2⟩:=Cp (hx x (by simp)) (hy y (by simp)) h;have:=uU (ps:=x2::r) (qs:=y2::s) (by simp) (by simp) (λp hp=>hx p (D1 _ hp)) (λq hq=>hy q (D1 _ hq)) e2;rw[e1,this]
def je(hn:ps≠[])(hf:∀p∈ps,c∉p.cps.toList):PySem.Txt.split (Str.join ⟨#[c]⟩ ps) ⟨#[c]⟩=ps:=by
 have h1:=PySem.StrLaws.join_split (Str.join ⟨#[c]⟩ ps) ⟨#[c]⟩;have h2:=PySem.StrLaws.split_free (Str.join ⟨#[c]⟩ ps) c;have h3:=PyProof.Rows.split_pos (Str.join ⟨#[c]⟩ ps) ⟨#[c]⟩;generalize PySem.Txt.split (Str.join ⟨#[c]⟩ ps) ⟨#[c]⟩=qs at h1 h2 h3;have h4:=ac1 (λx:Str=>x.cps.toList) h1;simp only[fK] at h4;have inj:∀{a b:List Str},(a.map λp=>p.cps.toList)=(b.map λp=>p.cps.toList)->a=b:=by
  intro a;induction a with
  |nil=>intro b h;cases b with
   |nil=>rfl
   |cons _ _=>cases h
  |cons x r ih =>
   intro b h;cases b with
   |nil=>cases h
   |cons y s =>
    simp only[Y5,List.cons.injEq] at h;rw[kE h.1,ih h.2]
 refine inj (uU (c:=c) ?_ ?_ ?_ ?_ h4)
 ·intro z;have:=ac1 List.length z;simp at this;rw[this] at h3;simp at h3
 ·intro z;have:=ac1 List.length z;simp at this;exact hn this
 ·intro p hp;obtain⟨q,hq,rfl⟩:=aa2.mp hp;exact h2 q hq
 ·intro p hp;obtain⟨q,hq,rfl⟩:=aa2.mp hp;exact hf q hq
def kW(c d:Nat)(l:List Nat):List Nat:=l.map λx=>if x=c then d else x
theorem qw:∀{l:List Nat},c∉l->kW c d l=l
 | [],_=>rfl
 |x::r,h=>by unfold kW;rw[Y5,if_neg (λz=>h (by simp[z]))];congr 1;exact qw λz=>h (D1 _ z)
theorem uR:∀{ps:List (List Nat)},(∀p∈ps,c∉p)->kW c d (dZ c ps)=dZ d ps
 | [],_=>rfl
 | [x],h=>qw (h x (by simp))
 |x::y::r,h=>by
  simp only[dZ];have e1:kW c d (x++c::dZ c (y::r))=kW c d x++d::kW c d (dZ c (y::r)):=by simp[kW]
  rw[e1,qw (h x (by simp)),uR (ps:=y::r) λp hp=>h p (D1 _ hp)]
def lP(x:Str)(c d:Nat):(PySem.Txt.replace x ⟨#[c]⟩ ⟨#[d]⟩).cps.toList=kW c d x.cps.toList:=by
 rw[PySem.StrLaws.replace_one,fK];have h1:=ac1 (λx:Str=>x.cps.toList) (PySem.StrLaws.join_split x ⟨#[c]⟩);simp only[fK] at h1;conv=>rhs;rw[← h1]
 rw[uR];intro p hp;obtain⟨q,hq,rfl⟩:=aa2.mp hp;exact PySem.StrLaws.split_free x c q hq
def CY(h:d∉l):kW d c (kW c d l)=l:=by
 induction l with
 |nil=>rfl
 |cons x r ih =>
  have hx:x≠d:=λz=>h (by simp[z]);have ih':=ih λz=>h (D1 _ z);unfold kW at *;simp only[Y5];rw[ih'];by_cases e:x=c
  ·subst e;simp
  ·rw[if_neg e,if_neg hx]
def VX{α:Type}{t:Sem α}{Q Q':α->Shared->Prop}{M:Model}{A:Around}{E E':Value->Shared->Prop}{s:Shared}(h:wpAny M A t Q E s)(hQ:∀a s,Q a s->Q' a s)(hE:∀a s,E a s->E' a s):wpAny M A t Q' E' s:=ab1 h hQ hE
section
variable {X:Cx}{o e:Expr}{to te:TE}{apos cpos pos p1 p2 p3 p4 p5:Pos}{j1 j2 j3:Nat}
inductive Cf(y z:Str)(x:V)(H:Hp)(Q:VK):Prop|mk(a:Str)(_:x = .str a)(_:a.length+(a.length+1)*z.length<=16777216)(_:Q (.str (PySem.Txt.replace a y z)) H)
def u6(hyz:(y == z)=false)(I:Inv X pins Z H s)
  (ho:wpAny (model X.prog X.w) X.A (eval o X.env) (λu s'=>1<=s'.toks/\EP X pins Z (λx H1=>Cf y z x H1 Q) u s') X.xe s)
  (hbase:autoParam (attributeBase o "replace" X.env (eval o X.env)=eval o X.env) L2.Y3._auto_1) (hline:autoParam ((apos.endLine == cpos.line)=true) L2.Y3._auto_1) :
  wpAny (model X.prog X.w) X.A (eval (.Call (.Attribute o "replace" apos) [.Constant (.str y) j1 p1,.Constant (.str z) j2 p2] [] cpos) X.env) (EP X pins Z Q) X.xe s:=by
 refine wpAny_Call_method_late hbase rfl hline rfl (cM ho λv s1  hZ=>?_);obtain⟨hk,x,H1,I1,r1,q1⟩:=hZ;obtain⟨a,rfl,hz,q⟩:=q1;obtain⟨t,rfl⟩:=r1;refine⟨"str","str.replace",ac4,F.slot_str_replace,F.type_str_replace,ai0 _ _ _,(λ_ e=>nomatch e),?_⟩;refine ag6 rfl (ai3 ?_);refine ag7 (aj8 (k:=j1) (pos:=p1) (ag7 (aj8 (k:=j2) (pos:=p2) (Calls.spliced_nil ?_))));exact SC.replace (u:=s1.toks) (v:=s1.toks+1) (ak9 hk) (Nat.succ_ne_zero _) JY hyz hz λt' k=>⟨.str _,H1,I1.tok _,⟨t',rfl⟩,q⟩
def zX(hyz:(y == z)=false)(he:PE X e te)
  (hbase:autoParam (attributeBase (.Subscript e (.Slice (some (.Constant (.int k) j3 p4)) none none p3) p5) "replace" X.env (eval (.Subscript e (.Slice (some (.Constant (.int k) j3 p4)) none none p3) p5) X.env)=eval (.Subscript e (.Slice (some (.Constant (.int k) j3 p4)) none none p3) p5) X.env) L2.Y3._auto_1)
  (hline:autoParam ((apos.endLine == cpos.line)=true) L2.Y3._auto_1) :
  PE X (.Call (.Attribute (.Subscript e (.Slice (some (.Constant (.int k) j3 p4)) none none p3) p5) "replace" apos) [.Constant (.str y) j1 p1,.Constant (.str z) j2 p2] [] cpos) (λZ H Q=>te Z H λx H1=>∃w:Str,x = .str w/\w.length<=sizeLine/\Cf y z (.str (PySem.Txt.slice w (some k) none)) H1 Q):=by
 intro pins s Z H Q I h;refine u6 hyz I ?_ hbase hline;refine Subscript_ (cM (he pins s Z H _ I h) λv s1  hZ=>?_);obtain⟨x,H1,I1,r1,w,hx,hw,q1⟩:=hZ;subst hx;obtain⟨t,rfl⟩:=r1;refine wpAny_Slice ?_;rw[evalPart_some];refine wpAny_Constant_int ?_;rw[evalPart_none];refine T1 ?_;refine T1 ?_;have I2:Inv X pins Z H1 { s1 with toks:=s1.toks+1 }:=I1.tok _;have I4:Inv X pins Z H1 { s1 with toks:=s1.toks+1,heap:=s1.heap.push { cls:=.type "slice",data:=.fields #[.int k s1.toks,.none,.none] } }:=I2.kept (t':=s1.toks+1) λb ob q=>u3 _ q;obtain⟨T,id,hT,ht,hg⟩:=zL (X:=X) pins { s1 with toks:=s1.toks+1,heap:=s1.heap.push { cls:=.type "slice",data:=.fields #[.int k s1.toks,.none,.none] } } Z H1 (.str w) (.str w t) (.int k s1.toks) .none (some k) none s1.heap.objs.size (λx H1=>Cf y z x H1 Q) I4 ⟨t,rfl⟩ (Heap.IsSliceOf.new ..) (.int k _) .none ⟨w,rfl,hw,q1⟩;have fin:=tail_any (value:=e) (slice:=.Slice (some (.Constant (.int k) j3 p4)) none none p3) (ops:=[.ref s1.heap.objs.size,.str w t]) ht hT hg (by with_unfolding_all rfl);exact VX (wpAny_toks_of (n:=1) (show 1<=s1.toks+1 by lia) fin) (λ_ _ q=>q) λ_ _ q=>q.2
def zc  (hyz:(y == z)=false) (ho:PE X o to) (hbase:autoParam (attributeBase o "replace" X.env (eval o X.env)=eval o X.env) L2.Y3._auto_1) (hline:autoParam ((apos.endLine == cpos.line)=true) L2.Y3._auto_1) :
  PE X (.BinOp (.Constant (.str q) j3 p3) .Add (.Call (.Attribute o "replace" apos) [.Constant (.str y) j1 p1,.Constant (.str z) j2 p2] [] cpos) pos)
   (λZ H Q=>to Z H λx H1=>Cf y z x H1 λv H2=>∃b:Str,v = .str b/\q.length+b.length<=sizeLine/\Q (.str (q++b)) H2):=by
 intro pins s Z H Q I h;refine wpAny_BinOp (aj8 ?_);have I2:Inv X pins Z H { s with toks:=s.toks+1 }:=I.tok _;refine cM (u6 (j1:=j1) (j2:=j2) (p1:=p1) (p2:=p2) (apos:=apos) (cpos:=cpos) hyz I2 (Q:=λv H2=>∃b:Str,v = .str b/\q.length+b.length<=sizeLine/\Q (.str (q++b)) H2)
  (VX (wpAny_toks_of (n:=1) (show 1<=s.toks+1 by lia) (ho pins _ Z H _ I2 h)) (λ_ _ q=>q) λ_ _ q=>q.2) hbase hline) λu s2 ⟨x,H2,I3,r,b,hx,hz,q2⟩=>?_
 subst hx;obtain⟨t,rfl⟩:=r;exact add_str (λt' tk=>⟨.str (q++b),H2,I3.tok _,⟨_,rfl⟩,q2⟩) hz
end
section
variable {X:Cx}
def ia    (hg:Gl X x) (h:∃u,X.mg x=some u/\RelV v u) (hd:autoParam ((x == ("__debug__" : Str))=false) L2.Y1._auto_1):PE X (.Name x pos) (tC v):=by obtain⟨u,e,r⟩:=h;exact gj hg e r hd
theorem GJ:∀{x:V},jn x=true->DO x x=true
 |.cD,_=>rfl
 |.bl b,_=>by simp[DO]
 |.int b,_=>by simp[DO]
 |.str b,_=>by simp[DO]
def HD(Pv:Nat->List V->Hp->Prop)(h0:Pv 0 [] H)(hn:z.length<sizeLine)
  (hs:∀i c ys H,z.cps.toList[i]?=some c->ys.length=i->Pv i ys H->te (mS caps Z++[some (.str ⟨#[c]⟩)]) H λy H2=>∃m',m'<z.length-i/\m'=z.length-(i+1)/\i+1<=z.length/\(ys++[y]).length=i+1/\Pv (i+1) (ys++[y]) H2) (hd:∀ys H,ys.length=z.length->Pv z.length ys H->∀D,H D=none->Q (.ref D) (upd H D (.lst ys))) :
  xW (Wo z) caps te Z H Q:=by
 refine⟨λi m ys H=>m=z.length-i/\i<=z.length/\ys.length=i/\Pv i ys H,⟨z.length,by simp,X5 _,rfl,h0⟩,?_⟩;rintro i m ys H ⟨rfl,hi,hl,p⟩;by_cases hlt:i<z.length
 ·refine .inr ⟨hlt,by lia,λx H' y=>?_⟩;obtain⟨e,c,e1,rfl⟩:=y;subst e;exact hs i c ys _ e1 hl p
 ·have e:i=z.length:=by lia
  subst e;exact .inl ⟨M2 _,hd ys H hl p⟩
def uS{K:PySem.W.Frag}(Pv:Nat->St->Hp->Prop)(h0:Pv 0 Z H)(hl:∀i Z H,i<=xs.length->Pv i Z H->bq K H a xs)
  (hs:∀i x p Z H,xs[i]?=some x->H p=none->Pv i Z H->g (.ref p) Z (upd H p (.tup [.int i,x])) λZ2 H2=>tb { D with nx:=Pv (i+1),ct:=Pv (i+1),bk:=D.nx } Z2 H2) (hd:∀Z H,Pv xs.length Z H->D.nx Z H):Jr (WJ K a) g tb D Z H:=by
 refine⟨λi m Z H=>m=xs.length-i/\i<=xs.length/\Pv i Z H,⟨xs.length,by simp,X5 _,h0⟩,?_⟩;rintro i m Z H ⟨rfl,hi,p⟩;have q:=hl i Z H hi p;by_cases hlt:i<xs.length
 ·refine .inr ⟨⟨xs,xs[i],q,by simp[hlt]⟩,Pv (i+1),λZ' H' p'=>⟨xs.length-(i+1),by lia,rfl,hlt,p'⟩,λx H' y=>?_⟩;obtain⟨pp,v,h1,rfl,rfl,h2⟩:=y;exact hs i v pp Z H (h2 xs q) h1 p
 ·have e:i=xs.length:=by lia
  subst e;exact .inl ⟨⟨xs,q,M2 _⟩,hd Z H p⟩
end
def fZ(H H':Hp)(p:Addr):Prop:=∀b o,H b=some o->b≠p->H' b=some o
def fZ.refl(H:Hp)(p:Addr):fZ H H p:=λ_ _ h _=>h
def fZ.trans(a:fZ H H1 p)(b:fZ H1 H2 p):fZ H H2 p:=λc o h n=>b c o (a c o h n) n
def fZ.same(a:fZ H H1 p)(b:ak H1 H2):fZ H H2 p:=λc o h n=>b c o (a c o h n)
def ak.JZ(a:ak H H1)(b:fZ H1 H2 p):fZ H H2 p:=λc o h n=>b c o (a c o h) n
def fZ.upd:fZ H (L2.upd H p o) p:=λb u h n=>by rw[aj n];exact h
section
variable {X:Cx}
def FP(ck:wW sc csc N x caps)(hi:PI X (.Name x px) iter wi)
  (he:∀C s2 H2 fp,PE (eE X (caps.map (·.1)++[x]) csc C s2 H2 fp) elt te) (hc:X.calm=true) (hsc:X.env.scope=sc) (hXN:X.N=N) (hs:∀x,foldedSetIterable iter X.env x=pure x)
       (I:Inv X pins Z H s) (h:FH caps wi te Z H Q) (use:Option (Value->Sem Unit)) (QQ:Value->Shared->Prop)
  (fin:∀(s2:Shared) (H2:Hp) (D C:Addr) (ys:List V) (H':Hp) (s4:Shared) (m:Str->Option Value),Inv X pins Z H2 s2->s2.heap.objs.size<=C->s2.heap.objs.size<=D->D≠C->s4.heap.Ns C m ->
   (∀h',Heap.SameBut C s4.heap h'->Inv X pins Z (upd H' D (.lst ys)) { s4 with heap:=h' })->H' C=none->Q (.ref D) (upd H' D (.lst ys)) ->
   compPost (model X.prog X.w) X.A X.xe use QQ (.ref D) C (.ok .next) s4) :
  wpAny (model X.prog X.w) X.A (comprehension (.ListComp elt [⟨.Name x px,iter,[],0⟩] csc pos) csc X.env ppos (newList []) false (eval iter X.env) use) QQ X.xe s:=by
 subst hsc hXN;have cellsOk:∀p∈csc.names,p.2 = .free->∃c,X.env.cells.lookup p.1=some c:=λp hp e=>I.ok.has p.1 (.inl (ck.free p hp e));refine wpAny_comprehension_free (use:=use) rfl hs (nu cellsOk) ck.kind ck.loc (cM (hi pins s Z H _ I h) λv s1 h1=>cM h1 λitv s2 h2=>?_);obtain⟨it,fp,tn,J,H2,e,I2,T,st2,f2,W,⟨m0,w0⟩,turn⟩:=h2;subst e;refine wpAny_newObj_type (wpAny_newFunctionEnv ck.cell (by intro y hy;simp at hy) (λh4 hns4 hsb4=>?_) ck.kind);dsimp only at hns4 hsb4 ⊢;generalize hD:s2.heap.objs.size=D at hns4 hsb4 ⊢;generalize hH2:s2.heap.push { cls:=.type "list",dict:=none,data:=.seq ([]:List Value).toArray }=G at hns4 hsb4 ⊢;have hGs:G.objs.size=D+1:=by rw[← hH2,ai7,hD]
 rw[hGs] at hns4 hsb4 ⊢;have lt2:∀b o,s2.heap.get? b=some o->b<D:=λb o e=>hD ▸ B2 e;have old:∀b o,s2.heap.get? b=some o->b≠D+1/\b≠D:=λb o e=>⟨Kw (lt2 b o e),zq (lt2 b o e)⟩
 have leD:s2.heap.objs.size<=D:=aj5 hD;have leD1:s2.heap.objs.size<=D+1:=Nat.le_succ_of_le leD;have keep4:∀b o,s2.heap.get? b=some o->h4.get? b=some o:=λb o e=>hsb4.extBut b o (old b o e).1 (u3 _ (hH2 ▸ u3 _ e));have hDo:h4.get? D=some { cls:=.type "list",data:=.seq ([]:List Value).toArray 0 }:=by refine hsb4.extBut D _ JY (u3 _ ?_);rw[← hH2,← hD];exact Z0 _ rfl
 have fps:∀b∈fp,b<s2.heap.objs.size:=λb hb=>by obtain⟨o,e,_⟩:=T.obj _ _ st2 b hb;exact B2 e
 have I4:∀t4,Inv (eE X (caps.map (·.1)++[x]) csc (D+1) s2 H2 fp) [] (mS caps Z++[none]) H2 { s2 with heap:=h4,toks:=t4 }:=λt4=>se (m0:=λx=>[].reverse.lookup x) I2 ck f2 fps leD1 keep4 hns4;have cellsLt:∀y c,(gw X.env csc.names []).lookup y=some c->c<D:=λy c e=>by obtain⟨v,o,ho,_⟩:=I2.cell y c (i9 _ _ cellsOk (λy c h=>by simp at h) y c e);exact lt2 c o ho
 have fsLt:∀b∈frs X.stack,b<D:=λb hb=>by obtain⟨_,o,ho,_⟩:=I2.stack.mem hb;exact lt2 b o ho
 have fpC:∀{pl:List (Addr×Obj)} {H':Hp},(∀p∈pl,p.1=D)->(∀b∈fp,H' b=none)->∀b∈fp,uh (eE X (caps.map (·.1)++[x]) csc (D+1) s2 H2 fp) pl H' b:=λ{pl H'} hpl hn b hb=>by
  have hb':b<D:=hD ▸ fps b hb;refine⟨hn b hb,Kw hb',?_,.inl hb,λy c e=>?_,λp hp=>?_⟩
  ·intro z;rcases y0.mp (I2.pG b z) with e|e
   ·exact(f2 b hb).2.1 e
   ·exact(f2 b hb).2.2.1 e
  ·exact(f2 b hb).2.2.2.2.1 y c (i9 _ _ cellsOk (λy c h=>by simp at h) y c e)
  ·have:p.1=D:=hpl p (by simpa using hp);rw[this];exact λz=>zq hb' z.symm
 have loop:∀t4,codeAny (model X.prog X.w) X.A (.compLoop (.ListComp elt [⟨.Name x px,iter,[],0⟩] csc pos) 0 (.ref it) (.ref D) (compEnvC csc (gw X.env csc.names []) (D+1) X.env))
   (compPost (model X.prog X.w) X.A X.xe use QQ (.ref D) (D+1)) { s2 with heap:=h4,toks:=t4 }:=by
  intro t4;refine qF (λn s'=>∃(i:Nat) (ys:List V) (its:List Value) (k:Nat) (Z':St) (H':Hp),Inv (eE X (caps.map (·.1)++[x]) csc (D+1) s2 H2 fp) [(D,{ cls:=.type "list",data:=.seq its.toArray k })] Z' H' s'/\tn i s'.heap/\(∀b∈fp,H' b=none)/\Vals ys its/\ys.length<=sizeLine/\W i n ys H'/\(∃z,Z'=mS caps Z++[z])) ?_ m0 ?_
  ·rintro n s3 ⟨i,ys,its,k,Z3,H3,I3,st3,fr3,hv,hz,w3,z3,rfl⟩;have pl1:∀p∈[((D,{ cls:=.type "list",data:=.seq its.toArray k }):Addr×Obj)],p.1=D:=λp hp=>by rw[v6.mp hp]
   rcases turn i n ys H3 w3 with ⟨stop,qn⟩|⟨go,hlt,step⟩
   ·refine ab1 (T.done (eE X (caps.map (·.1)++[x]) csc (D+1) s2 H2 fp) rfl rfl rfl hc i _ s3 _ H3 (λ_ _=>False) I3 (fpC pl1 fr3) st3 stop) (λr s4 hY=>?_) λ_ _ f=>f.elim;obtain⟨hr,I4'⟩:=hY;subst hr;obtain⟨m,hn,_⟩:=id I4'.loc;have pD:=I4'.pin (D,{ cls:=.type "list",data:=.seq its.toArray k }) (by simp);exact fin s2 H2 D (D+1) ys H3 s4 m I2 leD1 leD JY hn (λh' hs'=>vF I2 I4' f2 leD1 leD JY hs' hv hz pD.1 pD.2.1) I4'.free (qn D pD.2.1)
   ·refine ab1 (T.item (eE X (caps.map (·.1)++[x]) csc (D+1) s2 H2 fp) rfl rfl rfl hc i _ s3 _ H3 (λ_ _=>False) I3 (fpC pl1 fr3) st3 go) (λr s4 hY=>?_) λ_ _ f=>f.elim;obtain⟨u,hr,h4'⟩:=hY;subst hr;refine ab1 h4' (λ_ s4 hY=>?_) λ_ _ f=>f.elim;obtain⟨xv,H5,I5,r5,y5,st5,fr5⟩:=hY;have I5':=I5.pinned (fpC pl1 fr5) (T.obj _ _ st5);have hiN:(caps.map (·.1)++[x])[caps.length]?=some x:=by rw[X3 (by simp)];simp
    refine ab1 (rN (X:=eE X (caps.map (·.1)++[x]) csc (D+1) s2 H2 fp) (i:=caps.length) ck.nd hiN (.inl (ai6 ck.tg)) (.inr (ai6 ck.tg)) _ s4 _ H5 xv u _ I5' r5 (show qQ caps.length xv _ H5 (λZ6 H6=>Z6=mS caps Z++[some xv]/\H6=H5) from ⟨?_,rfl⟩)) (λ_ s6 ⟨Z6,H6,I6,hZ,hH⟩=>?_) λ_ _ f=>f.elim
    ·rw[List.set_append_right _ _ (by rw[iN];exact M2 _),iN,al0];rfl
    subst hZ hH;refine ab1 (he (D+1) s2 H2 fp _ s6 _ H6 _ I6 (step xv H6 y5)) (λw7 s7 hY=>?_) λ_ _ f=>f.elim;obtain⟨y,H7,I7,r7,m',hm,w8⟩:=hY;have pD:=I7.pin (D,{ cls:=.type "list",data:=.seq its.toArray k }) (by simp);have hll:=hv.length;refine ag5 Y6 ⟨_,pD.1,rfl⟩ F.entry_list_append (F.args_list_append_2 _ _) (PySem.list_append D its.toArray k w7 (by rw[P3];lia)) ⟨pD.1,?_⟩;have q:=PySem.IsL.update pD.1 (·.push w7);have hpush:its.toArray.push w7=(its++[w7]).toArray:=by simp
    rw[hpush] at q;obtain⟨k',q⟩:∃k',(s7.heap.update D (Obj.mapSeq (·.push w7))).get? D=some { cls:=.type "list",data:=.seq (its++[w7]).toArray k' }:=⟨_,q⟩
    have I7u:Inv (eE X (caps.map (·.1)++[x]) csc (D+1) s2 H2 fp) (lS fp s4.heap) _ H7 s7:=I7.iK λp hp=>I7.pin p (X2 _ (X2 _ hp));have pfp:∀p∈lS fp s4.heap,p.1<D:=λp hp=>hD ▸ fps p.1 (p9 hp).1;have I8:=I7u.turned (h':=s7.heap.update D (Obj.mapSeq (·.push w7))) (t':=s7.toks) (it:=D) (λb o hb e=>(aa6 s7.heap _ (aa3 hb)).trans e) pD.2.1 JY (.inr leD) (λy c e=>zq (cellsLt y c e)) (λp hp=>zq (pfp p (by simpa using hp)));refine⟨m',hm,i+1,ys++[y],its++[w7],k',_,H7,I8.iK λp hp=>?_,T.keep _ _ _ st5 λb hb o e=>(I8.pin (b,o) (X2 _ (iB hb e))).1,λb hb=>?_,hv.append (.cons r7 .nil),?_,w8,_,rfl⟩
    ·rw[v6.mp hp];exact⟨q,pD.2.1,pD.2.2.1,pD.2.2.2.1,λv=>by simp⟩
    ·obtain⟨o,e,d⟩:=T.obj _ _ st5 b hb;exact(I8.pin (b,o) (X2 _ (iB hb e))).2.1
    ·rw[o0,aa4];lia
  ·refine⟨0,[],[],0,_,H2,(I4 t4).iK λp hp=>?_,T.keep _ _ _ st2 λb hb o e=>keep4 b o e,λb hb=>(f2 b hb).1,.nil,X5 _,w0,_,rfl⟩;rw[v6.mp hp];refine⟨hDo,I2.hok.fresh leD,JY,λz=>absurd (fsLt D z) (ad6 _),λv=>by simp⟩
 exact codeAny_compStart_list (loop _) (T.self _ 0 _ _ _ (T.keep _ _ _ st2 λb hb o e=>keep4 b o e) (loop _))
def Bm{i:Nat}{y:Str}{sc csc:Scope}{N:List Str}{elt iter:Expr}{x:Str}{px pos pos' spos:Pos}{caps:List (Str×Nat)}{wi:TI}{te:TE}(hN:X.N.Nodup)(hiy:X.N[i]?=some y)(hy:Loc X.env.scope y)(ck:wW sc csc N x caps)(hi:PI X (.Name x px) iter wi)
  (he:∀C s2 H2 fp,PE (eE X (caps.map (·.1)++[x]) csc C s2 H2 fp) elt te) (hc:autoParam (X.calm=true) L2.Y3._auto_1) (hsc:autoParam (X.env.scope=sc) L2.Y3._auto_1) (hXN:autoParam (X.N=N) L2.Y3._auto_1) (hs:autoParam (∀x,foldedSetIterable iter X.env x=pure x) L2.Y2._auto_1)
  (hsw:autoParam (swapsWith (.ListComp elt [⟨.Name x px,iter,[],0⟩] csc pos) (some (.Name y pos')) spos.line X.env=pure true) L2.Y3._auto_1) (hf:autoParam (X.fn y=true∨X.env.scope.names.lookup y=some .local) L2.Y0._auto_1) :
  PS X (.Assign [.Name y pos'] (.ListComp elt [⟨.Name x px,iter,[],0⟩] csc pos) spos) (HF (FH caps wi te) (qQ i)):=by
 intro pins s Z H D I h;rw[exec_Assign_Name_used _ _ _ _ hsw];refine v3 (wpAny_standAt (v3 ?_));show wpAny _ X.A (do let _ ← comprehension (.ListComp elt [⟨.Name x px,iter,[],0⟩] csc pos) csc X.env _ (newList []) false (eval iter X.env) (some (assign (.Name y pos') X.env))) _ _ s;refine v3 (ab1 (FP ck hi he hc hsc hXN hs I h (some (assign (.Name y pos') X.env)) (λ_ s'=>SP X pins D .next s') ?_) (λ_ s' hq=>T1 (T1 hq)) λ_ _ e=>e);intro s2 H2 Dl C ys H' s4 m I2 leC leD nDC hns hI hfC q;have I0:Inv X pins Z (upd H' Dl (.lst ys)) s4:=hI s4.heap (Heap.SameBut.refl _ _);have hCD:C≠Dl:=aa3 nDC;have hHC:upd H' Dl (.lst ys) C=none:=by rw[aj hCD];exact hfC
 have hCL:C≠X.env.locals:=λz=>by have:=I2.lt;rw[← z] at this;exact absurd this (Nat.not_lt.mpr leC)
 have hCfs:C∉X.fs:=I2.Vd leC;have pinlt:∀p∈X.pn++pins,p.1≠C:=λp hp z=>by have:=(I2.pin p hp).1;have:=B2 this;rw[z] at this;exact absurd this (Nat.not_lt.mpr leC)
 have celllt:∀z c,X.env.cells.lookup z=some c->c≠C:=λz c e w=>by obtain⟨v,o,ho,_⟩:=I2.cell z c e;have:=B2 ho;rw[w] at this;exact absurd this (Nat.not_lt.mpr leC)
 obtain⟨oC,es,ep,eC,dC,rC⟩:=id hns;have I1:Inv X (pins++[(C,oC)]) Z (upd H' Dl (.lst ys)) s4:=I0.iK λp hp=>by
  rcases aa1.mp hp with hp|hp
  ·exact I0.pin p (X2 _ hp)
  ·rw[v6.mp hp];exact⟨eC,hHC,hCL,hCfs,λv z=>by rw[dC] at z;cases z⟩
 refine cM (rN (i:=i) (pos:=pos') hN hiy hy hf (pins++[(C,oC)]) s4 Z _ (.ref Dl) (.ref Dl) D.nx I1 rfl q) λ_ s5  hZ=>?_;obtain⟨Z5,H5,I5,q5⟩:=hZ;have pC:=I5.pin (C,oC) (by simp);refine⟨m,⟨oC,es,ep,pC.1,dC,rC⟩,λh' hs'=>?_⟩;have I6:Inv X pins Z5 H5 s5:=I5.iK λp hp=>I5.pin p (X2 _ (aa7 _ hp));exact⟨Z5,H5,I6.turned (h':=h') (t':=s5.toks) (it:=C) (λb o hb e=>(hs'.2 b hb).trans e) pC.2.1 hCL (.inr (X6 I2.sz leC)) celllt pinlt,q5⟩
def mJ{K:PySem.W.Frag}{e:Expr}{ta:TE}{f:Str}{pos:Pos}(he:PE X e ta)(hb:attributeBase e f X.env (eval e X.env)=eval e X.env)(hK:autoParam (X.K=K) L2.Y3._auto_1):PE X (.Attribute e f pos) (Pk K ta f):=by subst hK;exact aJ he hb
def yF{K:PySem.W.Frag}(hK:X.K=K):Uo X (K9 K):=by subst hK;exact aQ
end
section
variable {X:Cx}
def strsOf:List Expr->Option (List Str)
 | []=>some []
 |e::r=>match e with
  |.Constant (.str x) _ _=>(strsOf r).map (x :: ·)
  |_=>none
theorem wC:∀{es:List Expr} {xs:List Str},strsOf es=some xs->PA X es (λ_ H Q=>Q (xs.map V.str) H)
 | [],xs,h=>by have e:xs=[]:=(X8 h).symm;subst e;exact ai
 |e::r,xs,h=>by
  unfold strsOf at h;split at h
  ·rename_i x j p;obtain⟨ys,h1,h2⟩:=Q1.mp h;subst h2;exact aa (te:=tC (.str x)) (t:=λ_ H Q=>Q (ys.map V.str) H) aA (wC h1) rfl
  ·cases h
end
section
variable {X:Cx}
end
section
variable {X:Cx}
end
structure Kept(F ch:List Addr)(g h:Heap):Prop where
 keep:∀b o,g.get? b=some o->b∉F->b∉ch->h.get? b=some o
 slot:∀b o,g.get? b=some o->b∈F->b∉ch->∃sl,h.get? b=some { o with slots:=sl }
 there:∀b o,g.get? b=some o->∃u,h.get? b=some u
def Kept.trans{F c1 c2:List Addr}{g h k:Heap}(x:Kept F c1 g h)(y:Kept F c2 h k):Kept F (c1++c2) g k where
 keep b o e n1 n2:=y.keep b o (x.keep b o e n1 λz=>n2 (aa7 _ z)) n1 λz=>n2 (X2 _ z)
 slot b o e n1 n2:=by
  obtain⟨sl,e1⟩:=x.slot b o e n1 λz=>n2 (aa7 _ z);obtain⟨sl2,e2⟩:=y.slot b _ e1 n1 λz=>n2 (X2 _ z);exact⟨sl2,e2⟩
 there b o e:=let ⟨u,e1⟩:=x.there b o e;y.there b u e1
def Kept.one{F:List Addr}{h:Heap}{a:Addr}{o:Obj}{f:Obj->Obj}(e:h.get? a=some o)(nf:(f o).isFreed=false):Kept F [a] h (h.update a f) where
 keep b u q n1 n2:=by rw[aa6 _ _ (λz=>n2 (by simp[z]))];exact q
 slot b u q n1 n2:=⟨u.slots,by rw[aa6 _ _ (λz=>n2 (by simp[z]))];exact q⟩
 there b u q:=by
  by_cases z:b=a
  ·subst z;exact⟨_,ad1 _ e nf⟩
  ·exact⟨u,by rw[aa6 _ _ (aa3 z)];exact q⟩
def Kept.push:Kept F [] h (h.push o) :=
 ⟨λb u q _ _=>u3 _ q,λb u q _ _=>⟨u.slots,u3 _ q⟩,λb u q=>⟨u,u3 _ q⟩⟩
def Kept.slots(x:Heap.SlotsOnly F h k):Kept F [] h k :=
 ⟨λb u q n _=>(x.2.1 b n).trans q,λb u q _ _=>x.2.2 b u q,λb u q=>let ⟨sl,e⟩:=x.2.2 b u q;⟨_,e⟩⟩
def Kept.mono(x:Kept F c1 g h)(s:∀b∈c1,b∈c2):Kept F c2 g h :=
 ⟨λb o e n1 n2=>x.keep b o e n1 λz=>n2 (s b z),λb o e n1 n2=>x.slot b o e n1 λz=>n2 (s b z),x.there⟩
def Kept.frame(x:Kept [] ch g h)(F:List Addr):Kept F ch g h :=
 ⟨λb o e _ n=>x.keep b o e (by simp) n,λb o e _ n=>⟨o.slots,x.keep b o e (by simp) n⟩,x.there⟩
def Kept.un(x:Kept F ch g h):Un F ch H H g h :=
 ⟨λb o e _ n1 n2=>x.keep b o e n1 n2,λb o e _ n1 n2=>x.slot b o e n1 n2,λ_ _ _ n _=>n,λb o e _=>x.there b o e,λ_ _ e=>e,λ_ _ _ e=>e,λb ps e=>⟨#[],by rw[e];simp⟩⟩
def Kept.hok(x:Kept F ch g h)(k:kc P w H g)(hF:∀b∈F,H b=none)(hc:∀b∈ch,H b=none):kc P w H h:=λa o e=>by
 refine(k a o e).stay (λb u hb q=>x.keep b u q (λz=>?_) λz=>?_) (λ_ q=>q) λ_ _ q=>q
 ·rcases hb with y|y
  ·rw[y] at z;rw[hF a z] at e;cases e
  ·rw[hF b z] at y;cases y
 ·rcases hb with y|y
  ·rw[y] at z;rw[hc a z] at e;cases e
  ·rw[hc b z] at y;cases y
section
variable {M:Model}{A:Around}{E:Value->Shared->Prop}{s:Shared}{base:Heap}{env:Env}{outer:List Env}{L e:Addr}
def vE(hfr:A.frames=some (env::outer))(hl:s.heap.FunFrames base (env::outer))(hf:env.frame=some L)
  (he:s.heap.get? e=some oe) (hd:oe.data = .fields vs) (hsz:1<vs.size)
  (h:∀(h2:Heap) (T:Addr) (oT:Obj) (ts:Array Value),Kept (frs (env::outer)) [e] s.heap h2->s.heap.objs.size<=T->T≠e->h2.get? e=some (oe.mapFields (·.setIfInBounds 1 (.ref T)))->h2.get? T=some oT->oT.data = .fields ts->ts[3]?=some (rawInt L)->Q () { s with heap:=h2 }) :
  wpAny M A (do let a ← frameOf env;let pl ← entryPlaceOf L hn;let b ← EntryCells.newEntry head a .none (rawInt L) .none pl;setField (.ref e) 1 b) Q E s:=by
 have ef:e∉frs (env::outer):=λz=>by obtain⟨_,o,q,nf⟩:=hl.mem z;rw[he] at q;cases q;exact nf vs hd
 refine v3 (wpAny_frameOf_fun hfr hl hf λg1 so=>?_);have k1:Kept (frs (env::outer)) [] s.heap g1:=Kept.slots so;refine v3 (wpAny_entryPlaceOf λpl isp=>?_);unfold EntryCells.newEntry newFields;refine v3 (wpAny_newObj_type ?_ (isp.sizeOk5 _ _ _ _ _));have e1:g1.get? e=some oe:=k1.keep e oe he ef (by simp);generalize hO:({ cls:=.type "traceback",dict:=none,data:=.fields ([head,.ref L,.none,rawInt L,.none]++(if pl.isEmpty then List.replicate 6 Value.none else pl)).toArray }:Obj)=O;have dO:O.data = .fields ([head,.ref L,.none,rawInt L,.none]++(if pl.isEmpty then List.replicate 6 Value.none else pl)).toArray:=by rw[← hO]
 have fO:O.isFreed=false:=ae5 dO;have e2:(g1.push O).get? e=some oe:=u3 _ e1;have d3:=ag8 hd (·.setIfInBounds 1 (Value.ref g1.objs.size));have nT:g1.objs.size≠e:=ak9 (B2 e1);refine wpAny_setField e2 hd hsz (h _ g1.objs.size O _ ?_ ?_ nT (ad1 _ e2 (ae5 d3)) ?_ dO ?_)
 ·exact((k1.trans Kept.push).trans (Kept.one e2 (ae5 d3))).mono (by simp)
 ·exact aj5 so.1.symm
 ·rw[aa6 _ _ (aa3 nT)];exact Z0 g1 fO
 ·simp
end
structure jd(h:Heap)(e C:Addr)(d:Option Addr)(T:Addr)(fl:Value):Prop where
 ob:∃oe vs,h.get? e=some oe/\oe.cls = .ref C/\oe.dict=d/\oe.data = .fields vs/\vs[1]?=some (.ref T)
 ne:T≠e
 tb:∃oT ts,h.get? T=some oT/\oT.data = .fields ts/\ts[3]?=some fl
def mG(h:Heap)(e C:Addr)(d:Option Addr):Prop:=∃oe vs,h.get? e=some oe/\oe.cls = .ref C/\oe.dict=d/\oe.data = .fields vs/\vs[1]?=some .none
section
variable {M:Model}{A:Around}{E:Value->Shared->Prop}{s:Shared}{base:Heap}{env:Env}{outer:List Env}{L e C T:Addr}{d:Option Addr}
def G9(hfr:A.frames=some (env::outer))(hl:s.heap.FunFrames base (env::outer))(hf:env.frame=some L)(x:mG s.heap e C d)
  (h:∀(h2:Heap) (T:Addr),Kept (frs (env::outer)) [e] s.heap h2->s.heap.objs.size<=T->jd h2 e C d T (rawInt L)->Q () { s with heap:=h2 }):wpAny M A (noteFrame (.ref e) env) Q E s:=by
 obtain⟨oe,vs,h1,h2,h3,h4,h5⟩:=x;unfold noteFrame;simp only[hf];refine v3 (wpAny_field h1 h4 h5 ?_);rw[if_neg (by decide)];have sz:1<vs.size:=(ac2.mp h5).1;refine vE hfr hl hf h1 h4 sz λg T oT ts k n ne q1 q2 q3 q4=>h g T k n ⟨⟨_,_,q1,?_,?_,ag8 h4 _,?_⟩,ne,oT,ts,q2,q3,q4⟩
 ·rw[Obj.cls_mapFields];exact h2
 ·obtain⟨c,dd,dt,sl⟩:=oe;cases dt <;> exact h3
 ·simp[sz]
def Bb(hfr:A.frames=some (env::outer))(hl:s.heap.FunFrames base (env::outer))(hf:env.frame=some L)(x:jd s.heap e C d T .none)
  (h:∀(h2:Heap) (T2:Addr),Kept (frs (env::outer)) [T,e] s.heap h2->s.heap.objs.size<=T2->jd h2 e C d T2 (rawInt L)->Q () { s with heap:=h2 }):wpAny M A (noteFrame (.ref e) env) Q E s:=by
 obtain⟨⟨oe,vs,h1,h2,h3,h4,h5⟩,ne,oT,ts,t1,t2,t3⟩:=x;unfold noteFrame;simp only[hf];refine v3 (wpAny_field h1 h4 h5 ?_);rw[if_pos (by simp)];refine v3 (wpAny_field t1 t2 t3 ?_);rw[if_neg (by simp[rawInt])];have sT:3<ts.size:=(ac2.mp t3).1;refine v3 (wpAny_setField t1 t2 sT ?_);have dT:=ag8 t2 (·.setIfInBounds 3 Value.none);have kT:Kept (frs (env::outer)) [T] s.heap (s.heap.update T (Obj.mapFields (·.setIfInBounds 3 Value.none))):=Kept.one t1 (ae5 dT);have he2:(s.heap.update T (Obj.mapFields (·.setIfInBounds 3 Value.none))).get? e=some oe:=by rw[aa6 _ _ ne];exact h1
 have hl2:(s.heap.update T (Obj.mapFields (·.setIfInBounds 3 Value.none))).FunFrames base (env::outer):=hl.of_keeps λb o q nf=>⟨o,by rw[aa6 _ _ (λz=>by rw[← z,t1] at q;cases q;exact nf ts t2)];exact q,rfl⟩
 have sz:1<vs.size:=(ac2.mp h5).1;refine vE (s:={ s with heap:=s.heap.update T (Obj.mapFields (·.setIfInBounds 3 Value.none)) }) hfr hl2 hf he2 h4 sz λg T2 o2 ts2 k n ne2 q1 q2 q3 q4=>h g T2 (kT.trans k) ?_ ⟨⟨_,_,q1,?_,?_,ag8 h4 _,?_⟩,ne2,o2,ts2,q2,q3,q4⟩
 ·have n:(s.heap.update T (Obj.mapFields (·.setIfInBounds 3 Value.none))).objs.size<=T2:=n;rw[Heap.size_after_update] at n;exact n
 ·rw[Obj.cls_mapFields];exact h2
 ·obtain⟨c,dd,dt,sl⟩:=oe;cases dt <;> exact h3
 ·simp[sz]
def jG(x:jd s.heap e C d T fl)(h:∀h2:Heap,Kept [] [T] s.heap h2->jd h2 e C d T .none->Q () { s with heap:=h2 }):wpAny M A (setFlight (.ref e) none) Q E s:=by
 obtain⟨⟨oe,vs,h1,h2,h3,h4,h5⟩,ne,oT,ts,t1,t2,t3⟩:=x;have sT:3<ts.size:=(ac2.mp t3).1;unfold setFlight;refine v3 (wpAny_field h1 h4 h5 ?_);rw[if_pos (by simp)];have dT:=ag8 t2 (·.setIfInBounds 3 ((none:Option Addr).elim Value.none λf=>rawInt f));refine wpAny_setField t1 t2 sT (h _ (Kept.one t1 (ae5 dT)) ⟨⟨oe,vs,?_,h2,h3,h4,h5⟩,ne,_,_,ad1 _ t1 (ae5 dT),dT,?_⟩)
 ·rw[aa6 _ _ ne];exact h1
 ·simp[sT]
def leave_new(hfr:A.frames=some (env::outer))(hl:s.heap.FunFrames base (env::outer))(hf:env.frame=some L)(x:mG s.heap e C d)
  (h:∀(h2:Heap) (T:Addr),Kept (frs (env::outer)) [e,T] s.heap h2->s.heap.objs.size<=T->jd h2 e C d T .none->Q () { s with heap:=h2 }):wpAny M A (leaving env (.ref e)) Q E s:=by
 unfold leaving;refine v3 (G9 hfr hl hf x λg T k n y=>jG (s:={ s with heap:=g }) y λg2 k2 y2=>h g2 T (k.trans (k2.frame _)) n y2)
def Gx(hfr:A.frames=some (env::outer))(hl:s.heap.FunFrames base (env::outer))(hf:env.frame=some L)(x:jd s.heap e C d T .none)
  (h:∀(h2:Heap) (T2:Addr),Kept (frs (env::outer)) [T,e,T2] s.heap h2->s.heap.objs.size<=T2->jd h2 e C d T2 .none->Q () { s with heap:=h2 }):wpAny M A (leaving env (.ref e)) Q E s:=by
 unfold leaving;refine v3 (Bb hfr hl hf x λg T2 k n y=>jG (s:={ s with heap:=g }) y λg2 k2 y2=>h g2 T2 (k.trans (k2.frame _)) n y2)
end
def gq(e C:Addr)(d:Option Addr):HO:=.ext λh=>∃oe vs,h.get? e=some oe/\oe.cls = .ref C/\oe.dict=d/\oe.data = .fields vs/\1<vs.size
def wk(h1:h.get? e=some oe)(h2:oe.cls = .ref C)(h3:oe.dict=d)(h4:oe.data = .fields vs)(h5:1<vs.size):b9 P w H h e (gq e C d) :=
 ⟨⟨oe,vs,h1,h2,h3,h4,h5⟩,⟨oe,h1⟩,λg1 g2 ⟨o,v,q1,q2⟩ k=>⟨o,v,k o q1,q2⟩⟩
def jd.ok(x:jd h e C d T fl):b9 P w H h e (gq e C d):=by obtain⟨oe,vs,h1,h2,h3,h4,h5⟩:=x.ob;exact wk h1 h2 h3 h4 (ac2.mp h5).1
def Kept.TX(x:Kept F ch g h)(k:kc P w H g)(hF:∀b∈F,H b=none)(hc:∀b∈ch,b=e∨H b=none)(he:H e=some (gq e C d))(ok:b9 P w H h e (gq e C d)):kc P w H h:=λa o q=>by
 by_cases z:a=e
 ·subst z;rw[he] at q;cases q;exact ok
 refine(k a o q).stay (λb u hb r=>x.keep b u r (λy=>?_) λy=>?_) (λ_ r=>r) λ_ _ r=>r
 ·rcases hb with v|v
  ·rw[v] at y;rw[hF a y] at q;cases q
  ·rw[hF b y] at v;cases v
 ·rcases hc b y with n|n
  ·rcases hb with v|v
   ·exact z (v.symm.trans n)
   ·rw[n,he] at v;cases v
  ·rcases hb with v|v
   ·rw[v] at n;rw[n] at q;cases q
   ·rw[n] at v;cases v
def b9.there(x:b9 P w H h a o):∃ob,h.get? a=some ob:=by
 induction o with
 |lst xs=>obtain⟨_,_,_,_,e⟩:=x;exact⟨_,e⟩
 |tup xs=>obtain⟨_,_,_,p⟩:=x;obtain⟨ob,e,_⟩:=p;exact⟨ob,e⟩
 |dK kvs=>obtain⟨_,_,_,_,o,_,_,e,_⟩:=x;exact⟨o,e⟩
 |dT kvs=>obtain⟨_,_,_,_,o,_,_,e,_⟩:=x;exact⟨o,e⟩
 |set S n=>obtain⟨o,_,_,_,e,_⟩:=x;exact⟨o,e⟩
 |ins C dx fs=>obtain⟨_,_,_,e,_⟩:=x;exact⟨_,e⟩
 |own y=>exact x
 |xd fs=>obtain⟨_,⟨o,_,_,e,_⟩,_⟩:=x;exact⟨o,e⟩
 |met f y=>exact⟨_,x⟩
 |Wk lo hi=>obtain⟨_,_,_,e⟩:=x;exact⟨_,e⟩
 |nq o u _=>exact⟨o,x.1⟩
 |Nd ps=>exact⟨_,x⟩
 |ext φ=>exact x.2.1
def kc.new(k:kc P w H h)(e:h.get? a=none):H a=none:=by
 cases q:H a with
 |none=>rfl
 |some o =>
  obtain⟨ob,q2⟩:=(k a o q).there;rw[e] at q2;cases q2
def j9(P:Program)(w:World):ue:=λouter H s E ev s'=>∃(e C T:Addr) (d:Option Addr) (H':Hp),ev = .ref e/\jd s'.heap e C d T .none/\s'.os=s.os/\AllBare s'.gens/\Un (frs outer) [] H H' s.heap s'.heap/\kc P w H' s'.heap /\
 H' e=some (gq e C d)/\H' T=none/\s.heap.objs.size<=T/\s.heap.get? e=none/\E (.ref C) (some e) H'
section
variable {P:Program}{w:World}{K:PySem.W.Frag}{mg:Str->Option Value}{base:Heap}{N:List Str}{qual:Str}{scope:Scope}{f:Addr}{cd:Value}{A:Around}{outer:List Env}{s:Shared}{H:Hp}{E:XK}
def Ga(hfs:X.fs=frs outer)(hex:X.ex=[])(hH:X.H₀=H)(hs:X.s₀=s)(hP:X.prog=P)(hw:X.w=w)(J:Inv X pins Z H' s')(k:Kept (frs X.stack) ch s'.heap h2)(y:jd h2 e C d T2 .none)
  (he:H' e=some (gq e C d)) (l2:s'.heap.objs.size<=T2) (le:s.heap.get? e=none) (hch:∀b∈ch,(b=e∨H' b=none)/\s.heap.get? b=none) (hE:E (.ref C) (some e) H'):j9 P w outer H s E (.ref e) { s' with heap:=h2 }:=by
 subst hH hs hP hw;have ll:∀b o,X.s₀.heap.get? b=some o->b∉ch/\b≠X.env.locals:=λb o q=>by have lt:=B2 q;refine⟨(λz=>by rw[(hch b z).2] at q;cases q),λz=>?_⟩;have:=J.ok.above;rw[← z] at this;exact absurd this (Nat.not_le.mpr lt)
 have nst:∀b o,X.s₀.heap.get? b=some o->b∉frs outer->b∉frs X.stack:=λb o q n z=>by
  rcases y0.mp (J.pG b z) with y|y
  ·exact(ll b o q).2 y
  ·rw[hfs] at y;exact n y
 have hb:=J.base;rw[hfs,hex] at hb;refine⟨e,C,T2,d,H',rfl,y,J.os,J.bare,⟨λb o q n n1 n2=>?_,λb o q n n1 n2=>?_,λb o q n n2=>hb.free b o q n n2,λb o q n2=>?_,hb.tups,hb.oH,hb.qW⟩,k.TX J.hok J.rE (λb z=>(hch b z).1) he y.ok,he,J.hok.fresh l2,X6 J.sz l2,le,hE⟩
 ·exact k.keep b o (hb.keep b o q n n1 n2) (nst b o q n1) (ll b o q).1
 ·obtain⟨sl,q2⟩:=hb.slot b o q n n1 n2;by_cases z:b∈frs X.stack
  ·obtain⟨sl2,q3⟩:=k.slot b _ q2 z (ll b o q).1;exact⟨sl2,q3⟩
  ·exact⟨sl,k.keep b _ q2 z (ll b o q).1⟩
 ·obtain⟨u,q2⟩:=hb.there b o q n2;exact k.there b u q2
def nh:Passes (j9 P w) (gM (j9 P w) P w K mg base N qual scope f cd A outer s H E) E:=by
 rintro pins Z H1 s1 ev s' I ⟨e,C,T,d,H',rfl,fl,os,bare,un,hok,he,hT,lT,le,hE⟩;have J:=I.xF (ch:=[]) os un hok bare (by simp);refine Gx (base:=base) J.ok.frames J.stack rfl fl λh2 T2 k n y=>?_;have szJ:=J.sz;have back:∀b,s1.heap.get? b=none->s.heap.get? b=none:=λb z=>by
  cases q:s.heap.get? b with
  |none=>rfl
  |some o =>
   obtain⟨u,q2⟩:=I.base.there b o q (by show b∉[];simp);rw[z] at q2;cases q2
 refine Ga (X:=gM (j9 P w) P w K mg base N qual scope f cd A outer s H E) rfl rfl rfl rfl rfl rfl J k y he n (back e le) (λb hb=>?_) hE;simp only[y0,X1,ac3] at hb;rcases hb with z|z|z
 ·rw[z];exact⟨.inr hT,back T (ae8 lT)⟩
 ·rw[z];exact⟨.inl rfl,back e le⟩
 ·rw[z];exact⟨.inr (J.hok.fresh n),ae8 (X6 szJ n)⟩
def F6(I:Inv (gM (j9 P w) P w K mg base N qual scope f cd A outer s H E) pins Z H1 s1)(u:mG s1.heap e C d)(he:H1 e=some (gq e C d))(le:s.heap.get? e=none)(hE:E (.ref C) (some e) H1) :
  (gM (j9 P w) P w K mg base N qual scope f cd A outer s H E).xe (.ref e) s1:=by
 refine leave_new (base:=base) I.ok.frames I.stack rfl u λh2 T2 k n y=>?_;have szJ:=I.sz;refine Ga (X:=gM (j9 P w) P w K mg base N qual scope f cd A outer s H E) rfl rfl rfl rfl rfl rfl I k y he n le (λb hb=>?_) hE;simp only[y0,X1,ac3] at hb;rcases hb with z|z
 ·rw[z];exact⟨.inl rfl,le⟩
 ·rw[z];exact⟨.inr (I.hok.fresh n),ae8 (X6 szJ n)⟩
end
section
variable {X:Cx}{pins:List (Addr×Obj)}{Z:St}{H:Hp}{s:Shared}{h':Heap}
def Inv.Om(I:Inv X pins Z H s)(k:∀b u,s.heap.get? b=some u->h'.get? b=some u)(hp:s.heap.get? a=none)(new:b9 X.prog X.w (upd H a o) h' a o):Inv X pins Z (upd H a o) { s with heap:=h',toks:=t' }:=by
 have hn:H a=none:=I.hok.new hp;have ne:∀b u,s.heap.get? b=some u->b≠a:=λb u q z=>by rw[z,hp] at q;cases q
 have ne2:∀b u,H b=some u->b≠a:=λb u q=>av q hn;refine I.un ⟨λb u q _ _ _=>k b u q,λb u q _ _ _=>⟨u.slots,k b u q⟩,λb u q n _=>by rw[aj (ne b u q)];exact n,λb u q _=>⟨u,k b u q⟩,λb xs q=>by rw[aj (ne2 b _ q)];exact q,λb u xs q=>by rw[aj (ne2 b _ q)];exact q,λb ps q=>⟨#[],by rw[aj (ne2 b _ q),q];simp⟩⟩ λb u q=>?_;by_cases z:b=a
 ·subst z;rw[af] at q;cases q;exact new
 ·rw[aj z] at q;exact(I.hok b u q).stay (λc v _ r=>k c v r) (λc r=>by rw[aj (ne2 c _ r)];exact r) λc xs r=>by rw[aj (ne2 c _ r)];exact r
end
abbrev VE:List Value:=[.type "ValueError",.type "Exception",.type "BaseException",.type "object"]
structure ExcAt(h:Heap)(C:Addr)(bm:List Value)(Nn:Addr)(mN:Str->Option Value):Prop where
 ob:∃nm q bs hdct sn sub ab col dd k0 k1 k2 k3 k5,h.get? C=some (excClassObj nm q C Nn bs bm hdct sn sub ab col dd k0 k1 k2 k3 k5 "ValueError.__new__")
 ns:h.Ns Nn mN
 tail:OwnTail h VE bm
def ExcAt.keeps(x:ExcAt h C bm Nn mN)(k:∀b o,h.get? b=some o->h2.get? b=some o):ExcAt h2 C bm Nn mN :=
 ⟨let ⟨a1,a2,a3,a4,a5,a6,a7,a8,a9,b0,b1,b2,b3,b4,e⟩:=x.ob;⟨a1,a2,a3,a4,a5,a6,a7,a8,a9,b0,b1,b2,b3,b4,k _ _ e⟩,x.ns.keeps k,x.tail.keeps k⟩
def QV {K:PySem.W.Frag}   (rK:K.In h) (q:PySem.W.excIn K C VE "ValueError.__new__" = true):∃bm Nn mN,ExcAt h C bm Nn mN/\mN "__init__" = none:=by
 unfold PySem.W.excIn at q;split at q;next dd cd sl look =>
  split at q;next C2 bm c0 c1 c2 c3 nn c5 em es =>
   simp only[aa9,beq_iff_eq,Bool.not_eq_true'] at q;obtain⟨⟨⟨⟨⟨e1,e2⟩,del⟩,tl⟩,nsok⟩,noinit⟩:=q;subst e1 e2;have esl:sl = #[c0,c1,c2,c3,some (.builtin "ValueError.__new__"),c5]:=af4.mp es;obtain⟨f1,f2,f3,f4,f5,f6,f7,f8,f9,f10,f11⟩:=cd;have em:f3 = .ref C2::bm:=em;have del:f11=false:=del;subst em del esl;exact⟨bm,f4,_,⟨⟨_,_,_,_,_,_,_,_,_,_,_,_,_,_,rK _ _ look⟩,.of_isNs (PySem.W.isNs_of_in rK nsok),PySem.W.tail_of_in rK tl⟩,PySem.W.nsMap_none_of_in rK nsok noinit⟩
  next=>cases q
 next=>cases q
section
variable {P:Program}{w:World}{K:PySem.W.Frag}{mg:Str->Option Value}{base:Heap}{N:List Str}{qual:Str}{scope:Scope}{f:Addr}{cd:Value}{A:Around}{outer:List Env}{s:Shared}{H:Hp}{E:XK}
def fS       (hx:PySem.W.excIn K C VE "ValueError.__new__" = true) (hg:Gl (gM (j9 P w) P w K mg base N qual scope f cd A outer s H E) x) (hm:mg x=some (.ref C))
  (ha:PA (gM (j9 P w) P w K mg base N qual scope f cd A outer s H E) (e1::es) ta) (hd:autoParam ((x == ("__debug__" : Str))=false) L2.Y1._auto_1)
  (he:autoParam (starEach (e1::es) (gM (j9 P w) P w K mg base N qual scope f cd A outer s H E).env=(false,eval e1 (gM (j9 P w) P w K mg base N qual scope f cd A outer s H E).env)::starEach es (gM (j9 P w) P w K mg base N qual scope f cd A outer s H E).env) L2.Y3._auto_1)
  (hpl:autoParam ((backTo cpos (starEach (e1::es) (gM (j9 P w) P w K mg base N qual scope f cd A outer s H E).env)).any (·.1)=false) L2.Y3._auto_1) :
  PS (gM (j9 P w) P w K mg base N qual scope f cd A outer s H E) (.Raise (some (.Call (.Name x np) (e1::es) [] cpos)) none pos) (λ_ Z H1=>ta Z H1 λvs H2=>vs.length<=sizeLine/\∀e,H2 e=none->E (.ref C) (some e) (upd H2 e (gq e C none))):=by
 intro pins s1 Z H1 D I h;obtain⟨bm,Nn,mN,ex,ni⟩:=QV (h:=base) I.ok.mod.rK hx;obtain⟨nm,q,bs,hdct,sn,sub,ab,col,dd,k0,k1,k2,k3,k5,eC⟩:=ex.ob;refine wpAny_Raise_call_subT ai2 (C:=C) (nm:=nm) (q:=q) (N:=Nn) (bs:=bs) (bm:=bm) (hdct:=hdct) (sn:=sn) (sub:=sub) (ab:=ab) (col:=col) (dd:=dd) (k0:=k0) (k1:=k1) (k2:=k2) (k3:=k3) (k5:=k5) (mN:=mN) (ex.tail.hasType (by decide)) (I.ok.hd rfl) hpl ni ?_;refine cM (gj (pos:=np) hg hm (v:=.ref C) rfl hd pins s1 Z H1 (λv H'=>v = .ref C/\H'=H1) I ⟨rfl,rfl⟩) λu s2  hZ=>?_;obtain⟨v,H2,I2,r,e2,e3⟩:=hZ;subst e2 e3;refine⟨r,?_⟩;rw[he];show wpAny _ _ (evalArgs (.ref C) true ((false,eval e1 _)::backTo cpos (starEach es _)) []) _ _ s2;refine ai3 ?_;have hp:=ha cpos pins s2 Z H2 _ I2 h;rw[he] at hp;refine cM hp λus s3 ⟨vs,H3,I3,rv,sz,k⟩=>⟨rfl,by rw[← rv.length];exact sz,I3.bk _ _ eC,ex.ns.keeps I3.bk,ex.tail.keeps I3.bk,λg e md=>?_⟩
 obtain⟨t0,g1,_,_⟩:=md.there;have new:=I3.hok.new md.new;have I4:=I3.Om (h':=g) (t':=s3.toks) (o:=gq e C none) md.keeps md.new (wk g1 rfl rfl rfl (by show 1<6;decide));refine F6 I4 ⟨_,_,g1,rfl,rfl,rfl,rfl⟩ af ?_ (k e new);cases z:s.heap.get? e with
 |none=>rfl
 |some o =>
  obtain⟨u,z2⟩:=I3.base.there e o z (by show e∉[];simp);rw[md.new] at z2;cases z2
end
section
variable {M:Model}{A:Around}{E:Value->Shared->Prop}
def Dw{hp:Heap}{g:Array GenState}{dr:Drawn}{tk:Nat}{os:OsState}{e C C2 Nn N2:Addr}{bm bm2:List Value}{mN m2:Str->Option Value}{oe:Obj}{b:Bool}{Q:Bool->Shared->Prop}(x:ExcAt hp C bm Nn mN)(y:ExcAt hp C2 bm2 N2 m2)(he:hp.get? e=some oe)(hcls:oe.cls = .ref C)
  (hb:(Value.ref C::bm).contains (.ref C2)=b) (hq:Q b ⟨hp,g,dr,tk,os⟩):wpAny M A (excMatches (.ref e) (.ref C2)) Q E ⟨hp,g,dr,tk,os⟩:=by
 obtain⟨a1,a2,a3,a4,a5,a6,a7,a8,a9,b0,b1,b2,b3,b4,eC⟩:=x.ob;obtain⟨c1,c2,c3,c4,c5,c6,c7,c8,c9,d0,d1,d2,d3,d4,eD⟩:=y.ob;have base2:(Value.ref C2::bm2).contains (.type "BaseException")=true:=by rw[List.contains_cons,y.tail.hasType (b:=true) (by decide),Bool.or_true]
 have nt:=tc_notTuple;unfold excMatches;repeat (first
  | (with_reducible refine af1 he ?_;rw[hcls])
  |with_reducible refine af1 eD ?_
  | (with_reducible refine aj3 eD ?_;rw[base2])
  | (with_reducible refine aj3 eC ?_;rw[hb])
  |wp_step)
 cases b <;> (try wp_walk) <;> exact hq
end
section
variable {X:Cx}{pins pins':List (Addr×Obj)}{Z:St}{H:Hp}{s:Shared}
def W8(X:Cx)(pins:List (Addr×Obj))(Th:St->Addr->Addr->Hp->Prop)(ev:Value)(s':Shared):Prop :=
 ∃(e C T:Addr) (d:Option Addr) (Z:St) (H':Hp),ev = .ref e/\Inv X pins Z H' s'/\jd s'.heap e C d T .none/\H' e=some (gq e C d)/\H' T=none/\X.s₀.heap.objs.size<=T/\(∀p∈X.pn++pins,p.1≠T)/\Th Z C e H'
abbrev Cx.nC(X:Cx)(pins:List (Addr×Obj))(Th:St->Addr->Addr->Hp->Prop):Cx:={ X with pn:=X.pn++pins,xe:=W8 X pins Th }
def Cx.Ok.cast{X Y:Cx}(ok:X.Ok)(h1:Y.K=X.K)(h2:Y.mg=X.mg)(h3:Y.base=X.base)(h4:Y.env=X.env)(h5:Y.s₀=X.s₀)(h6:Y.H₀=X.H₀)(h7:Y.outer=X.outer)(h8:Y.stack=X.stack)(h9:Y.ex=X.ex)(h10:Y.fn=X.fn)(hd:Y.calm=true->Y.A.handled=none)(hf:Y.A.frames=some Y.stack):Y.Ok:=by obtain⟨P,w,K,mg,base,A,N,s0,H0,env,outer,stack,ex,fn,calm,pn,xe⟩:=Y;dsimp only at h1 h2 h3 h4 h5 h6 h7 h8 h9 h10;subst h1 h2 h3 h4 h5 h6 h7 h8 h9 h10;exact⟨ok.mod,ok.kind,ok.glob,ok.blt,ok.above,ok.inj,ok.has,ok.TQ,hd,hf,ok.stk,ok.Ws,ok.bs,ok.Kq,ok.CI,ok.Ef,ok.qt,ok.Pc⟩
def Inv.nC(I:Inv X pins Z H s)(Th:St->Addr->Addr->Hp->Prop):Inv (X.nC pins Th) [] Z H s :=
 ⟨I.ok.cast rfl rfl rfl rfl rfl rfl rfl rfl rfl rfl I.ok.hd I.ok.frames,I.os,I.bare,I.base,I.loc,I.cell,I.free,I.iQ,λp hp=>I.pin p (by simpa using hp),I.hok,I.len⟩
def Inv.tried(I:Inv (X.nC pins Th) pins' Z H s):Inv X pins Z H s :=
 ⟨I.ok.cast rfl rfl rfl rfl rfl rfl rfl rfl rfl rfl I.ok.hd I.ok.frames,I.os,I.bare,I.base,I.loc,I.cell,I.free,I.iQ,λp hp=>I.pin p (aa7 _ hp),I.hok,I.len⟩
abbrev Cx.held(X:Cx)(e:Addr):Cx:={ X with A:=X.A.mark (some (.ref e)),calm:=false,xe:=λ_ _=>False }
def Inv.held(I:Inv X pins Z H s)(e:Addr):Inv (X.held e) pins Z H s :=
 ⟨I.ok.cast rfl rfl rfl rfl rfl rfl rfl rfl rfl rfl (λz=>nomatch z) I.ok.frames,I.os,I.bare,I.base,I.loc,I.cell,I.free,I.iQ,I.pin,I.hok,I.len⟩
def Inv.SO(hd:X.calm=true->X.A.handled=none)(I:Inv (X.held e) pins Z H s):Inv X pins Z H s :=
 ⟨I.ok.cast rfl rfl rfl rfl rfl rfl rfl rfl rfl rfl hd I.ok.frames,I.os,I.bare,I.base,I.loc,I.cell,I.free,I.iQ,I.pin,I.hok,I.len⟩
def o7(CX:ue)(X:Cx)(Z:St)(E:XK):Prop:=∀(pins:List (Addr×Obj)) (H:Hp) (s:Shared) (e:Value) (s':Shared),Inv X pins Z H s->CX X.stack H s E e s'->X.xe e s'
def jc(hP:X.prog=P)(hw:X.w=w)(hE:∀C e H',E (.ref C) (some e) H'->Th Z C e H'):o7 (j9 P w) (X.nC pins Th) Z E:=by subst hP hw;rintro pins1 H1 s1 ev s' I ⟨e,C,T,d,H',rfl,fl,os,bare,un,hok,he,hT,lT,le,hE'⟩;have J:=I.xF (ch:=[]) os un hok bare (by simp);refine⟨e,C,T,d,Z,H',rfl,J.tried,fl,he,hT,X6 I.sz lT,λp hp z=>?_,hE _ _ _ hE'⟩;have:=(I.tried.pin p hp).1;have:=B2 this;rw[z] at this;exact absurd lT (Nat.not_le.mpr this)
def Inv.forget(I:Inv X pins Z H s)(hN:X.N.Nodup)(hi:X.N[i]?=some n)(hn:s.heap.Ns X.env.locals m)
  (hk:∀(j:Nat) (x:Str) (v:V),X.N[j]?=some x->Z[j]?=some (some v)->Vq X.env.scope x->∃u,RelV v u/\Look X.env s.heap m x u) (hn':h'.Ns X.env.locals (λx=>if x=n then v else m x)) (hs:Heap.SameBut X.env.locals s.heap h'):Inv X pins (Z.set i none) H { s with heap:=h',toks:=t' }:=by
 have E4:=I.E4;have nl:∀b o,X.s₀.heap.get? b=some o->b≠X.env.locals:=λb o q=>T0 (Z4 (B2 q) I.ok.above);refine⟨I.ok,I.os,I.bare,⟨λb o q a1 a2 a3=>(hs.2 b (nl b o q)).trans (I.base.keep b o q a1 a2 a3),λb o q a1 a2 a3=>?_,I.base.free,λb o q a1=>?_,I.base.tups,I.base.oH,I.base.qW⟩,⟨_,hn',λj y w' q1 q2 q3=>?_⟩,λy c q=>?_,I.free,I.iQ,λp hp=>?_,λb o q=>?_,by rw[List.length_set];exact I.len⟩
 ·obtain⟨sl,z⟩:=I.base.slot b o q a1 a2 a3;exact⟨sl,(hs.2 b (nl b o q)).trans z⟩
 ·obtain⟨u,z⟩:=I.base.there b o q a1;exact⟨u,(hs.2 b (nl b o q)).trans z⟩
 ·have hj:j≠i:=λz=>by
   rw[z] at q2;have:i<Z.length:=by rw[I.len];exact(i5.mp hi).1
   rw[List.getElem?_set_self this] at q2;cases q2
  rw[List.getElem?_set_ne (aa3 hj)] at q2;obtain⟨u,r,l⟩:=hk j y w' q1 q2 q3;refine⟨u,r,?_⟩;rcases l with ⟨k1,k2⟩|⟨k1,c,k2,k3⟩
  ·have:y≠n:=λz=>hj (sH hN q1 (z ▸ hi));exact .inl ⟨k1,by simp[this,k2]⟩
  ·exact .inr ⟨k1,c,k2,k3.sameBut hs (E4 y c k2)⟩
 ·obtain⟨w',z⟩:=I.cell y c q;exact⟨w',z.sameBut hs (E4 y c q)⟩
 ·obtain⟨a1,a2,a3,a4,a5⟩:=I.pin p hp;exact⟨(hs.2 p.1 a3).trans a1,a2,a3,a4,a5⟩
 ·refine(I.hok b o q).stay (λc u hc r=>(hs.2 c λz=>?_).trans r) (λ_ r=>r) λ_ _ r=>r;have fr:=I.free;rw[← z] at fr;rcases hc with y|y
  ·rw[y] at fr;rw[fr] at q;cases q
  ·rw[fr] at y;cases y
end
section
variable {X:Cx}{pins:List (Addr×Obj)}{Z:St}{H:Hp}{s:Shared}{h2:Heap}{e C T T2:Addr}{d:Option Addr}
def Inv.yr(I:Inv X pins Z H s)(q:s.heap.get? T=some o)(z:o.data = .fields vs):T≠X.env.locals/\∀x c,X.env.cells.lookup x=some c->c≠T:=by
 obtain⟨m,⟨o1,es,ep,q1,d1,_⟩,_⟩:=I.loc;refine⟨λy=>?_,λx c l y=>?_⟩
 ·rw[y,q1] at q;cases q;rw[d1] at z;cases z
 ·obtain⟨v,o2,q2,d2⟩:=I.cell x c l;rw[y,q] at q2;cases q2;rw[z] at d2;cases d2
def Inv.noted(hst:X.stack=X.env::X.outer)(I:Inv X pins Z H s)(fl:jd s.heap e C d T .none)(he:H e=some (gq e C d))(hT:H T=none)(lT:X.s₀.heap.objs.size<=T)(pT:∀p∈X.pn++pins,p.1≠T)
  (k:Kept (frs (X.env::X.outer)) [T,e] s.heap h2) (y:b9 X.prog X.w H h2 e (gq e C d)):Inv X pins Z H { s with heap:=h2 }:=by
 rw[← hst] at k;obtain⟨oT,ts,t1,t2,_⟩:=fl.tb;obtain⟨n1,n2⟩:=I.yr t1 t2;have nin:∀b,H b=none->b∉[T]->b∉[T,e]:=λb hb z w=>by
  simp only[y0,X1,ac3] at z w;rcases w with w|w
  ·exact z w
  ·rw[w,he] at hb;cases hb
 refine I.xF (s':={ s with heap:=h2 }) (ch:=[T]) rfl ⟨λb o q a1 a2 a3=>k.keep b o q a2 (nin b a1 a3),λb o q a1 a2 a3=>k.slot b o q a2 (nin b a1 a3),λ_ _ _ n _=>n,λb o q _=>k.there b o q,λ_ _ q=>q,λ_ _ _ q=>q,λb ps q=>⟨#[],by rw[q];simp⟩⟩ ?_ I.bare ?_
 ·refine k.TX I.hok I.rE (λb hb=>?_) he y;simp only[y0,X1,ac3] at hb;rcases hb with z|z
  ·rw[z];exact .inr hT
  ·exact .inl z
 ·intro b hb;rw[v6.mp hb];exact⟨.inr lT,n1,n2,pT⟩
def Inv.LO(I:Inv X pins Z H s)(q:s.heap.get? T=some o)(z:o.data = .fields vs)(hT:H T=none)(lT:X.s₀.heap.objs.size<=T)(pT:∀p∈X.pn++pins,p.1≠T)(k:Kept [] [T] s.heap h2):Inv X pins Z H { s with heap:=h2 }:=by
 obtain⟨n1,n2⟩:=I.yr q z;refine I.xF (s':={ s with heap:=h2 }) (ch:=[T]) rfl (k.frame _).un (k.hok I.hok (by simp) λb hb=>?_) I.bare λb hb=>?_
 ·rw[v6.mp hb];exact hT
 ·rw[v6.mp hb];exact⟨.inr lT,n1,n2,pT⟩
def FN(hst:X.stack=X.env::X.outer)(hfr:X.env.frame=some X.env.locals)(hN:X.N.Nodup)(hi:X.N[i]?=some n)(hloc:X.env.scope.names.lookup n=some .local)
  (hg:Gl (X.held e) x) (hm:X.mg x=some (.ref C2)) (hdb:(x == ("__debug__" : Str))=false) (hC:∃bm Nn mN,ExcAt X.base C bm Nn mN/\(Value.ref C::bm).contains (.ref C2)=true) (hC2:∃bm Nn mN,ExcAt X.base C2 bm Nn mN)
  (I:Inv X pins Z H s) (fl:jd s.heap e C d T .none) (he:H e=some (gq e C d)) (hT:H T=none) (lT:X.s₀.heap.objs.size<=T) (pT:∀p∈X.pn++pins,p.1≠T)
  (hs:At (X.held e) { nx:=λZ2 H2=>D.nx (Z2.set i none) H2,rt:=D.rt,bk:=λZ2 H2=>D.bk (Z2.set i none) H2,ct:=λZ2 H2=>D.ct (Z2.set i none) H2 } (b0::suite) (Z.set i (some (.ref e))) H) :
  wpAny (model X.prog X.w) X.A (noteFrame (.ref e) X.env) (λ_ s2=>wpAny (model X.prog X.w) X.A (setFlight (.ref e) none) (λ_ s3 =>
   wpAny (model X.prog X.w) X.A (handleBy (.ref e) X.env (.ExceptHandler (some (.Name x np)) (some n) (b0::suite) hpos::rest)) (SP X pins D) X.xe s3) X.xe s2) X.xe s:=by
 obtain⟨bm,Nn,mN,xC,sub⟩:=hC;obtain⟨bm2,N2,m2,xC2⟩:=hC2;have fs:s.heap.FunFrames X.base (X.env::X.outer):=hst ▸ I.stack;have ff:X.A.frames=some (X.env::X.outer):=by rw[I.ok.frames,hst]
 refine Bb (base:=X.base) ff fs hfr fl λg2 T2 k n2 y=>?_;have I2:=I.noted hst fl he hT lT pT k y.ok;have l2:X.s₀.heap.objs.size<=T2:=X6 I.sz n2;have h2T:H T2=none:=I.hok.fresh n2;have p2:∀p∈X.pn++pins,p.1≠T2:=λp hp z=>by have:=B2 (I.pin p hp).1;rw[z] at this;exact absurd n2 (Nat.not_le.mpr this)
 refine jG (s:={ s with heap:=g2 }) y λg3 k3 y3=>?_;obtain⟨oT2,ts2,u1,u2,_⟩:=y.tb;have I3:=I2.LO u1 u2 h2T l2 p2 k3;refine wpAny_handleBy_cons (codeAny_handlers_test ?_) (by intro q;cases q);refine ab1 (iZ (X:=X.held e) (pos:=np) (E:=λ_ _=>False) (Q:=λu s4=>u = .ref C2/\s4 = { s with heap:=g3 }) (I3.held e) hg hm ⟨rfl,rfl⟩ hdb) (λu s4 z=>?_) λ_ _ z=>z.elim;obtain⟨rfl,rfl⟩:=z;obtain⟨oe,vs,o1,o2,_⟩:=y3.ob;obtain⟨hp,gg,dr,tk,os⟩:=s;refine Dw (xC.keeps I3.bk) (xC2.keeps I3.bk) o1 o2 sub ?_;show codeAny _ _ _ _ _;refine codeAny_handlers_suite_as ?_;refine jG (s:=⟨g3,gg,dr,tk,os⟩) y3 λg4 k4 y4=>?_;obtain⟨oT3,ts3,w1,w2,_⟩:=y3.tb;have I4:=I3.LO w1 w2 h2T l2 p2 k4;refine oQ (X:=X.held e) (v:=.ref e) (I4.held e) hN hi (.inl hloc) rfl (λs5 I5=>?_) (.inr hloc);refine ab1 (hs pins s5 I5) (λfw s6 sp=>?_) λ_ _ z=>z.elim;have fin:∀{Z6:St} {H6:Hp} {Q:Unit->Shared->Prop},Inv (X.held e) pins Z6 H6 s6->(∀s7,Inv X pins (Z6.set i none) H6 s7->Q () s7)->wpAny (model X.prog X.w) X.A (do bindName X.env n .none;unbindBehindTheSuite X.env n hpos) Q X.xe s6:=λ{Z6 H6 Q} I6 q=>by obtain⟨m,hn,hk⟩:=I6.loc;exact wpAny_nameGoes_keeps hloc hn (by rw[I6.ok.kind];rfl) λh7 v hn7 hs7=>q _ ((I6.SO I.ok.hd).forget hN hi hn hk hn7 hs7)
 cases fw with
 |next=>obtain⟨Z6,H6,I6,q⟩:=sp;exact fin I6 λs7 I7=>⟨_,H6,I7,q⟩
 |brk=>obtain⟨Z6,H6,I6,q⟩:=sp;exact fin I6 λs7 I7=>⟨_,H6,I7,q⟩
 |cont=>obtain⟨Z6,H6,I6,q⟩:=sp;exact fin I6 λs7 I7=>⟨_,H6,I7,q⟩
 |ret u=>obtain⟨v,Z6,H6,I6,r,q⟩:=sp;exact fin I6 λs7 I7=>⟨v,_,H6,I7,r,q⟩
end
section
variable {X:Cx}
abbrev Ends.less(D:Ends)(i:Nat):Ends:={ nx:=λZ2 H2=>D.nx (Z2.set i none) H2,rt:=D.rt,bk:=λZ2 H2=>D.bk (Z2.set i none) H2,ct:=λZ2 H2=>D.ct (Z2.set i none) H2 }
def Me(X:Cx)(C C2:Addr):Prop:=∃bm Nn mN,ExcAt X.base C bm Nn mN/\(Value.ref C::bm).contains (.ref C2)=true
def R8(hst:X.stack=X.env::X.outer)(hfr:X.env.frame=some X.env.locals)(hN:X.N.Nodup)(hi:X.N[i]?=some n)(hloc:X.env.scope.names.lookup n=some .local)
  (hg:Gl X x) (hm:X.mg x=some (.ref C2)) (hdb:(x == ("__debug__" : Str))=false) (hC2:∃bm Nn mN,ExcAt X.base C2 bm Nn mN) :
  PS X (.Try body [.ExceptHandler (some (.Name x np)) (some n) (b0::suite) hpos] [] [] pos) (λD Z H=>∃Th,(∀pins,At (X.nC pins Th) D body Z H) /\
   ∀Z' C e H',Th Z' C e H'->Me X C C2/\At (X.held e) (D.less i) (b0::suite) (Z'.set i (some (.ref e))) H'):=by
 rintro pins s Z H D I ⟨Th,hb,hh⟩;refine wpAny_Try_except (ab1 (hb pins [] s (I.nC Th)) (λf s1 sp=>?_) λev s1 z=>?_)
 ·cases f with
  |next=>obtain⟨Z1,H1,I1,q⟩:=sp;exact ak7 ⟨Z1,H1,I1.tried,q⟩
  |brk=>obtain⟨Z1,H1,I1,q⟩:=sp;exact⟨Z1,H1,I1.tried,q⟩
  |cont=>obtain⟨Z1,H1,I1,q⟩:=sp;exact⟨Z1,H1,I1.tried,q⟩
  |ret u=>obtain⟨v,Z1,H1,I1,r,q⟩:=sp;exact⟨v,Z1,H1,I1.tried,r,q⟩
 ·obtain⟨e,C,T,d,Z1,H1,rfl,I1,fl,he,hT,lT,pT,th⟩:=z;obtain⟨tk,hs⟩:=hh Z1 C e H1 th;exact FN hst hfr hN hi hloc hg hm hdb tk hC2 I1 fl he hT lT pT hs
end
section
variable {X:Cx}{CX:ue}{k:Nat}{f C:Addr}{fd:FuncData}{ps:List Str}{sp:Sp}{dvs:List V}{ds:List Value}{x m:Str}{p pos apos:Pos}{e o:Expr}{es:List Expr}{ta:TE}{t:TA}
abbrev Uz(CX:ue)(X:Cx)(sp:Sp)(Z:St)(vs:List V)(H:Hp)(Q:VK):Prop:=∃E,o7 CX X Z E/\sp vs H Q E
def yp(F:bw X.prog X.w X.K X.mg X.base CX k f fd ps sp)(hr:fh k X.A)(hb:Binds X.K fd ps ds)(hd:Vals dvs ds)
  (I:Inv X pins Z H s) (r:Vals vs us) (h:Uz CX X sp Z (vs++dvs) H Q):wpAny (model X.prog X.w) X.A (call (.ref f) us) (EP X pins Z Q) X.xe s:=by
 obtain⟨E,hx,h⟩:=h;have r2:Vals (vs++dvs) (us++ds):=r.append hd;have hl:(us++ds).length=ps.length:=(F.len _ _ _ _ h ▸ r2.length).symm;refine ai1 (aj6 (F.run X.A X.stack s H ⟨us,[]⟩ _ _ Q E hr I.Ja (hb s us I.iU hl) r2 h) λy s' hq=>?_);match y,hq with
 |.error ev,hq=>exact hx pins H s ev s' I hq
 |.ok (.ret _),hq=>exact I.after hq
def JA(CX:ue)(X:Cx)(C:Addr)(m:Str)(sp:Sp)(dvs:List V)(ta:TE)(t:TA):TE:=λZ H Q=>ta Z H λx H1=>∃a dx fs,x = .ref a/\H1 a=some (.ins C dx fs)/\fs.lookup m=none/\t Z H1 λvs H2=>Uz CX X sp Z (x::(vs++dvs)) H2 Q
def oY(he:PE X o ta)(c:ny X.K C)(hm:Meth X.K C m f)(F:bw X.prog X.w X.K X.mg X.base CX k f fd ps sp)(hr:fh k X.A)(hb:Binds X.K fd ps ds)(hd:Vals dvs ds)(ha:PA X (e::es) t)
  (hst:autoParam (starEach (e::es) X.env=(false,eval e X.env)::starEach es X.env) L2.Y3._auto_1) (hpl:autoParam ((backTo pos (starEach es X.env)).any (·.1)=false) L2.Y3._auto_1)
  (ht:autoParam (eval (.Call (.Attribute o m apos) (e::es) [] pos) X.env=(do
   let ov ← eval o X.env
   standAt apos.atName
   let (f,first) ← holding [ov] (getMethod ov m pl)
   callWith pos f first (backTo pos (starEach (e::es) X.env)) (backToKw pos (keywordEach [] X.env)))) L2.Y3._auto_1) :
  PE X (.Call (.Attribute o m apos) (e::es) [] pos) (JA CX X C m sp dvs ta t):=λpins s Z H Q I h =>
 ah5 (pl:=pl) (cM (he pins s Z H _ I h) λu s1 ⟨x,H1,I1,rx,a,dx,fs,ex,ea,l,q⟩=>by subst ex;obtain rfl:u=Value.ref a:=rx;exact kF I1 ea c hm l (af5 (first:=[.ref a]) (h₀:=X.base) I.ok.mod.rK hm.kp (cM (ha pos pins s1 Z H1 _ I1 q) λus s2 ⟨vs,H2,I2,r,q2⟩=>⟨I2.iU,yp (us:=.ref a::us) (vs:=.ref a::vs) F hr hb hd I2 (.cons rfl r) q2⟩) hst hpl)) ht
end
section
variable {P:Program}{w:World}{K:PySem.W.Frag}{mg:Str->Option Value}{base:Heap}
def dh.A7{st:Stmt}(F:dh K x qual st f fd)(S:aF N ps (az st))(len:∀vs H Q E,sp vs H Q E->vs.length=ps.length)
  (hbody:∀(cdv:Value) (A:Around) (outer:List Env) (s:Shared) (H:Hp) (vs:List V) (Q:VK) (E:XK),fh k (A.deeper (envOfC qual (az st) s.heap.objs.size f cdv))->sp vs H Q E ->
   At (gM (j9 P w) P w K mg base N qual (az st) f cdv A outer s H E) { nx:=λ_ H'=>Q .cD H',rt:=Q } (mO st) (start N vs) H):bw P w K mg base (j9 P w) (k+1) f fd ps sp:=by
 obtain⟨oc,od,kV,doc,pm,an,cdv,ct,osl,rfl,lk,hcd⟩:=F.ex;exact NG lk hcd S len λA outer s H vs Q E hr hsp=>wA (hbody cdv A outer s H vs Q E hr hsp)
end
end L2
namespace L2
open PySem PySem.Spec PyProof.Rows PySem.W
structure nF(K:Frag)(C:Addr):Prop where
 ga:findIn K (.ref C) "__getattribute__" = some (some (.builtin "BaseException.__getattribute__"))
 gh:findIn K (.ref C) "__getattr__" = some none
 sub:mroIn K C (.type "BaseException")=some true
section
variable {prog:Program}{w:World}{A:Around}{E:Value->Shared->Prop}{s:Shared}{K:Frag}{x C:Addr}{ox:Obj}{od:Option Obj}{name:Str}
def DR    (G:nF K C) (X:K.In s.heap) (I:InstAt s.heap x ox C od) (q:Q () s):wpAny M A (checkBuiltinCall "BaseException.__getattribute__" ⟨[.ref x,nm],[]⟩) Q E s:=by
 obtain⟨h0,g,d,tt,os⟩:=s;have k1:builtinKind "BaseException.__getattribute__" = some .slot:=by decide +kernel
 have k2:splitId "BaseException.__getattribute__" = some ("BaseException","__getattribute__"):=by decide +kernel
 have k3:=F.args_bexc_ga (.ref x) nm;have LI:Looks M h0 (isInstance (.ref x) (.type "BaseException")) true:=I.type.andThen (looks_mroIn X G.sub);simp only[checkBuiltinCall,k1,k2];refine v3 (LI.at ?_);repeat (first | assumption | wp_step)
def GP{fill ex:Bool}(G:nF K C)(X:K.In s.heap)(I:InstAt s.heap x ox C od)
  (h:wpAny (model prog w) A.in1 (Builtin.«object.__getattribute__» ⟨[.ref x,.str name tk],[]⟩) (λfin s'=>match fin with
   |.done (.ret v)=>wpAny (model prog w) A (handedOut v) Q E s'
   |_=>False) (λ_ _=>False) s):wpAny (model prog w) A (getAttrBy (.ref x) (.str name tk) fill ex) Q E s:=by
 have X0:=X;have I0:=I;obtain⟨h0,g,d,tt,os⟩:=s;have f3:=(F.excAttr_ValueError).ga.bind (.ref x);have e0:(ex && onTheHeap (Value.builtin "BaseException.__getattribute__"))=false:=by cases ex <;> rfl
 have e2:(Value.builtin "BaseException.__getattribute__" == Value.builtin "object.__getattribute__")=false:=by decide +kernel
 have e1:(onTheHeap (Value.ref C) && Value.builtin "BaseException.__getattribute__" == Value.builtin "object.__getattribute__")=false:=by rw[e2];rfl
 unfold getAttrBy;refine ae4 (v3 (I.type.at (v3 ((looks_findIn X G.ga).at ?_))));dsimp only;rw[e1];unfold getAttrByItsOwn hookBefore callGetattribute boundAndCalled;rw[e0];refine v3 (show wpAny _ _ (if onTheHeap (Value.ref C)=true then typeLookup (.ref C) "__getattr__" else pure none) _ _ _ from ?_);refine((looks_findIn X G.gh).at ?_);simp only[aj7,if_false];refine v3 (wpAny_attempt (ae4 ?_));refine v3 ?_;rw[f3];refine T1 ?_;refine ai1 (ai5 (F.excAttr_ValueError).ga.plain F.entry_bexc_ga (DR (s:=⟨h0,g,d,tt,os⟩) G X0 I0 (ab1 h (λfin s' z=>?_) λ_ _ z=>z.elim)));rcases fin with (_ | _ | _ | _) | _ <;> first | exact z.elim | exact z
def DQ(G:nF K C)(X:K.In s.heap)(I:InstAt s.heap x ox C od)(hf:findObj K C od name=some (.value v))(hh:handedIn v=true)(h:Q v { s with toks:=s.toks+1 }) :
  wpAny (model prog w) A (getAttr (.ref x) name ex) Q E s:=by
 have L1:∀M,Looks M s.heap _ _:=λM=>looks_find (M:=M) X I hf;have L0:∀M,Looks M s.heap _ _:=λM=>I.type (M:=M);obtain⟨h0,g,d,tt,os⟩:=s;refine v3 (wpAny_mkText (GP (s:=⟨h0,g,d,tt+1,os⟩) G X I ?_));unfold Builtin.«object.__getattribute__»;refine v3 (T1 (v3 (T1 (v3 ((L0 _).at (v3 ((L1 _).at ?_)))))));refine T1 ?_;show wpAny _ _ (handedOut v) _ _ _;rw[handedOut_of hh];exact T1 h
def DB  (G:nF K C) (X:K.In s.heap) (I:InstAt s.heap x ox C od) (hm:mroIn K C (.type "object")=some true) (hf:findObj K C od "__class__" = some (.bind (.builtin "getset_descriptor.__get__") (.builtin "object.__class__")))
  (h:Q (some (.ref C)) { s with toks:=s.toks+1 }):wpAny (model prog w) A (getAttr? (.ref x) "__class__") Q E s:=by
 have L1:∀M,Looks M s.heap _ _:=λM=>looks_find (M:=M) X I hf;have L0:∀M,Looks M s.heap _ _:=λM=>I.type (M:=M);obtain⟨h0,g,d,tt,os⟩:=s;unfold getAttr? getAttrBy?;refine v3 (wpAny_mkText (v3 (wpAny_attempt (GP (s:=⟨h0,g,d,tt+1,os⟩) G X I ?_))));unfold Builtin.«object.__getattribute__»;refine v3 (T1 (v3 (T1 (v3 ((L0 _).at (v3 ((L1 _).at ?_)))))));refine v3 (ae4 (ai1 (class_get (s:=⟨h0,g,d,tt+1,os⟩) X I hm ?_)));refine T1 ?_;show wpAny _ _ (handedOut (.ref C)) _ _ _;exact T1 (T1 h)
def yV {cd:ClassData} (G:nF K C) (hc:clsIn K C=some cd) (hm:mroIn K C (.type "object")=some true) (ha:findIn K (.ref C) "__class__" = some (some (.builtin "object.__class__")))
  (hn:specialIn K (.builtin "object.__class__") "__get__" = some (some (.builtin "getset_descriptor.__get__"))) (htk:takesIn K (.builtin "object.__class__")=some true):KitX K (.ref x) (.ref C) (λh=>∃ox od,InstAt h x ox C od) where
 ty:=λ_ _ _ ⟨_,_,I⟩=>I.type
 it:=λ_ _ X _=>by
  unfold clsIn at hc;split at hc;next ho=>exact λA' Q' E' s' k q=>v3 (wpAny_loadPart (k _ _ (X _ _ ho)) (T1 q))
  next=>cases hc
 ne:=λh tp dd its n sl X htp=>by
  refine Bool.eq_false_iff.mpr λq=>?_;have e:C=tp:=Value.ref.inj (beq_iff_eq.mp q);unfold clsIn at hc;split at hc;next ho=>rw[e] at ho;have z:=(X _ _ ho).symm.trans htp;cases z
  next=>cases hc
 ca:=λX ⟨_,_,I⟩ k=>DB G X I hm (by unfold findObj;rw[hc];simp only[Option.bind_some,ha,hn,htk]) k
end
def AR(K:Frag)(C:Addr):Bool :=
 match K.lookup C with
 |some ⟨.type "type",_,.cls cd,sl⟩ =>
  match cd.mro,sl.toList with
  |.ref D::r,[_,_,_,_,some (.builtin m),_]=>(D == C && m == "ValueError.__new__") && (!cd.hasDel && (tailIn K VE r && nsOkIn K cd.ns))
  |_,_=>false
 |_=>false
def mj{K:Frag}(rK:K.In h)(q:AR K C=true):∃bm Nn mN,ExcAt h C bm Nn mN:=by
 unfold AR at q;split at q;next dd cd sl look =>
  split at q;next D r c0 c1 c2 c3 m c5 em es =>
   simp only[aa9,beq_iff_eq,Bool.not_eq_true'] at q;obtain⟨⟨e1,e2⟩,del,tl,nsok⟩:=q;subst e1 e2;have esl:sl = #[c0,c1,c2,c3,some (.builtin "ValueError.__new__"),c5]:=af4.mp es;obtain⟨f1,f2,f3,f4,f5,f6,f7,f8,f9,f10,f11⟩:=cd;have em:f3 = .ref D::r:=em;have del:f11=false:=del;subst em del esl;exact⟨r,f4,_,⟨_,_,_,_,_,_,_,_,_,_,_,_,_,_,rK _ _ look⟩,.of_isNs (isNs_of_in rK nsok),tail_of_in rK tl⟩
  next=>cases q
 next=>cases q
section
variable {prog:Program}{w:World}{A:Around}{E:Value->Shared->Prop}{h:Heap}{g:Array GenState}{d:Drawn}{t:Nat}{os:OsState}{K:Frag}{C fI:Addr}{oI:Obj}{bm:List Value}{Nn:Addr}{mN:Str->Option Value}{rest:List Value}
def wZ  (X:K.In h) (x:ExcAt h C bm Nn mN) (hi:findIn K (.ref C) "__init__" = some (some (.ref fI))) (hf:h.get? fI=some oI) (hfc:oI.cls = .type "function") (sz:rest.length<=sizeLine)
  (hq:∀h2 e,Heap.MadeExcOf h h2 e (.ref C) rest->wpAny (model prog w) A (call (.ref fI) (.ref e::rest)) (λr s2=>r = .none/\Q (.done (.ret (.ref e))) s2) E ⟨h2,g,d,t,os⟩) :
  wpAny (model prog w) A (Builtin.«type.__call__» ⟨.ref C::rest,[]⟩) Q E ⟨h,g,d,t,os⟩:=by
 obtain⟨a1,a2,a3,a4,a5,a6,a7,a8,a9,b0,b1,b2,b3,b4,eC⟩:=x.ob;have B:=ai2;repeat (first | with_reducible refine af1 eC ?_ | with_reducible refine wpAny_madeBy_exc eC ?_ | wp_step)
 refine codeAny_call_builtin_code (Code.quiet_builtin _ B.quiet) (wpAny_check_new_subU B (by decide) x.tail eC (codeAny_exc_new_subU B (by decide) B x.tail eC ?_ sz));show wpAny _ _ _ _ _ _;generalize e2:(h.push { cls:=.type "tuple",data:=.seq rest.toArray }).push { cls:=.ref C,data:=.fields #[.ref h.objs.size,.none,.none,.none,.bool false,.none] }=h2;have k:∀b o,h.get? b=some o->h2.get? b=some o:=λb o q=>by rw[← e2];exact u3 _ (u3 _ q)
 have ge:h2.get? (h.objs.size+1)=some { cls:=.ref C,data:=.fields #[.ref h.objs.size,.none,.none,.none,.bool false,.none] }:=by rw[← e2];heap_get
 have eC2:=k _ _ eC;have L:Looks (model prog w) h2 (typeLookup (.ref C) "__init__") (some (.ref fI)):=looks_findIn (λa o q=>k _ _ (X a o q)) hi;have self:(Value.ref C::bm).contains (.ref C)=true:=by simp
 unfold isInstance;repeat (first | with_reducible refine af1 ge ?_ | (with_reducible refine aj3 eC2 ?_;rw[self]) | wp_step)
 refine L.at ?_;refine ae4 (v3 ?_);unfold bindSpecial;refine v3 (wpAny_typeOf (T:="function") ⟨_,k _ _ hf,hfc⟩ ?_);rw[if_pos (by decide)];refine T1 (v3 (cM (hq h2 (h.objs.size+1) ⟨k,ae8 (Nat.le_succ _),h.objs.size,ge,ae8 (M2 _),?_⟩) λr s2 z=>?_))
 ·rw[← e2];exact u3 _ (Heap.get?_push_at rfl rfl)
 ·obtain⟨z1,z2⟩:=z;subst z1
  wp_walk
  exact z2
def JJ  (X:K.In h) (x:ExcAt h C bm Nn mN) (hi:findIn K (.ref C) "__init__" = some (some (.ref fI))) (hf:h.get? fI=some oI) (hfc:oI.cls = .type "function") (sz:rest.length<=sizeLine)
  (hq:∀h2 e,Heap.MadeExcOf h h2 e (.ref C) rest->wpAny (model prog w) (A.under (.builtin "type.__call__" ⟨.ref C::rest,[]⟩)) (call (.ref fI) (.ref e::rest)) (λr s2=>r = .none/\Q (.ref e) s2) E ⟨h2,g,d,t,os⟩) :
  wpAny (model prog w) A (call (.ref C) rest) Q E ⟨h,g,d,t,os⟩:=by
 obtain⟨a1,a2,a3,a4,a5,a6,a7,a8,a9,b0,b1,b2,b3,b4,eC⟩:=id x.ob;have f1:=tc_lookup;have f2:=tc_bind (.ref C);have hT:(⟨h,g,d,t,os⟩:Shared).TypeIs (.ref C) "type" := ⟨_,eC,rfl⟩
 refine ai1 (codeAny_of_tree (show wpAny _ _ (callAny (.ref C) _) _ _ _ from ?_));repeat (any_goals (first | assumption | with_reducible refine af1 eC ?_ | wp_step))
 exact⟨rfl,codeAny_call_builtin_at (Code.quiet_builtin _ (by decide +kernel)) entry_typeCall (wpAny_check_type_call_sub eC (wZ X x hi hf hfc sz hq))⟩
def DF(hh:A.handled=none)
  (h:wpAny M A x (λv s1=>∃e C bm Nn mN oe vs,v = .ref e/\ExcAt s1.heap C bm Nn mN/\s1.heap.get? e=some oe/\oe.cls = .ref C/\oe.data = .fields vs/\vs[1]?=some .none/\E (.ref e) s1) E s):wpAny M A (raiseStmt env (some x) none) Q E s:=by
 unfold raiseStmt;refine v3 (cM h λv s1  hZ=>?_);obtain⟨e,C,bm,Nn,mN,oe,vs,ev,xx,ge,gc,gd,g1,hE⟩:=hZ;subst ev;obtain⟨a1,a2,a3,a4,a5,a6,a7,a8,a9,b0,b1,b2,b3,b4,eC⟩:=xx.ob;have hb:(Value.ref C::bm).contains (.type "BaseException")=true:=by rw[List.contains_cons,xx.tail.hasType (b:=true) (by decide),Bool.or_true]
 obtain⟨oc,od,odt,osl⟩:=oe;dsimp only at gc gd;subst gc gd;obtain⟨hp,gg,dr,tk,os1⟩:=s1;have fl:∀{R:Value->Shared->Prop},R .none ⟨hp,gg,dr,tk,os1⟩->wpAny M A (field (.ref e) 1) R E ⟨hp,gg,dr,tk,os1⟩:=λr=>wpAny_field ge rfl g1 r;repeat (first | with_reducible refine af1 ge ?_ | with_reducible refine af1 eC ?_ | (with_reducible refine aj3 eC ?_;rw[hb]) | with_reducible refine fl ?_ | wp_step)
 exact wpAny_raiseNew_none hh hE
end
def yd   (self:Value) (t:OwnTail h VE bm):refuseLoop self "__setattr__" bm=pure ():=by
 induction t with
 |base=>exact PySem.F.store_ValueError.passes self
 |own _ _ _ _ ih=>rw[refuseLoop_ref];exact ih
section
variable {prog:Program}{w:World}{A:Around}{E:Value->Shared->Prop}{s:Shared}{K:Frag}{e C:Addr}{oe:Obj}{od:Option Obj}{bm:List Value}{Nn:Addr}{mN:Str->Option Value}{name:Str}{v:Value}{vs:Array Value}
def Cg   (X:K.In s.heap) (I:InstAt s.heap e oe C od) (x:ExcAt s.heap C bm Nn mN) (hn:findIn K (.ref C) name=some none) (hm:mroIn K C (.type "object")=some true)
  (h:wpAny (model prog w) A.in1 (Builtin.ObjectAttr.storeInOwnDict (.ref e) (.ref C) (.str name tk) name v false) (λfin s2=>match fin with | .done f=>R (.ok f) s2 | .again c=>c.quiet=true/\codeAny (model prog w) A c R s2) (λev s2=>R (.error ev) s2) s) :
  codeAny (model prog w) A (.call (.builtin "object.__setattr__") ⟨[.ref e,.str name tk,v],[]⟩) R s:=by
 have SF:=PySem.F.store_object;obtain⟨a1,a2,a3,a4,a5,a6,a7,a8,a9,b0,b1,b2,b3,b4,eC⟩:=x.ob;have sub:Looks (model prog w) s.heap (isInstance (.ref e) (.type "object")) true:=I.type.andThen (looks_mroIn X hm);refine ai5 SF.slot.plain SF.entry (@check_slot (model prog w) _ _ s "object.__setattr__" "object" "__setattr__" (.ref e) [.str name tk,v] [] _ SF.kind SF.split sub (SF.args (.ref e) (.str name tk) v) ?_);have pass:refuseLoop (.ref e) "__setattr__" (.ref C::bm)=pure ():=by rw[refuseLoop_ref];exact yd _ x.tail
 rw[osa_eq,refuse_eq];refine v3 (v3 (I.type.here (v3 ?_)));obtain⟨hp,g,dr,t,os⟩:=s;refine wpAny_mroOf_exc eC ?_;rw[pass];exact T1 (v3 (I.type.here (v3 ((looks_findIn X hn).here (v3 (T1 h))))))
def DJ      (X:K.In s.heap) (I:InstAt s.heap e oe C od) (x:ExcAt s.heap C bm Nn mN) (hs:findIn K (.ref C) "__setattr__" = some (some (.builtin "object.__setattr__")))
  (hn:findIn K (.ref C) name=some none) (hm:mroIn K C (.type "object")=some true) (hc:clsIn K C=some cd) (hh:cd.hasDict=true) (hd:oe.dict=some dx) (hda:oe.data = .fields vs) (hns:s.heap.Ns1 dx mA) (hw:Within mA ns) (sz:ns.length<=sizeLine)
  (h:∀h2 tk,h2.Ns1 dx (λy=>if y=name then some v else mA y)->Heap.SameBut dx s.heap h2->Q () { s with heap:=h2,toks:=tk }):wpAny (model prog w) A (setAttr (.ref e) name v) Q E s:=by
 obtain⟨oc,odt,oda,osl⟩:=oe;have cl:oc = .ref C:=I.cls;dsimp only at hd hda;subst cl hd hda;refine set_plain X I hs (Cg (s:={ s with toks:=s.toks+1 }) X I x hn hm ?_);refine v3 (T1 (v3 (v3 (wpAny_loadPart I.at_ (v3 (Looks.here (s:={ s with toks:=s.toks+1 }) (looks_clsIn X hc) ?_))))));rw[hh];refine T1 (a:=some dx) (v3 (T1 (v3 ?_)));refine wpAny_nsSet1 (s:={ s with toks:=s.toks+1 }) hns λh2 n2 s2=>?_;obtain⟨oD,esD,epD,hoD,hdD,hcD⟩:=n2.count (Within.cons name v hw);exact v3 (wpAny_lookBehind hoD (by rw[hdD];exact pastItsLine_dict (X6 hcD (by rw[x0];lia))) (T1 (h _ _ n2 s2)))
def AY   (X:K.In s.heap) (I:InstAt s.heap e oe C od) (x:ExcAt s.heap C bm Nn mN) (hs:findIn K (.ref C) "__setattr__" = some (some (.builtin "object.__setattr__")))
  (hn:findIn K (.ref C) name=some none) (hm:mroIn K C (.type "object")=some true) (hc:clsIn K C=some cd) (hh:cd.hasDict=true) (hd:oe.dict=none) (hda:oe.data = .fields vs)
  (h:∀h2 tk,h2.get? e=some { oe with dict:=some s.heap.objs.size }->h2.Ns1 s.heap.objs.size (λy=>if y=name then some v else none)->(∀b o,b≠e->s.heap.get? b=some o->h2.get? b=some o)->Q () { s with heap:=h2,toks:=tk }):wpAny (model prog w) A (setAttr (.ref e) name v) Q E s:=by
 obtain⟨oc,odt,oda,osl⟩:=oe;have cl:oc = .ref C:=I.cls;dsimp only at hd hda;subst cl hd hda;refine set_plain X I hs (Cg (s:={ s with toks:=s.toks+1 }) X I x hn hm ?_);refine v3 (T1 (v3 (v3 (wpAny_loadPart I.at_ (v3 (Looks.here (s:={ s with toks:=s.toks+1 }) (looks_clsIn X hc) ?_))))));rw[hh];have he1:=u3 { cls:=.type "dict",data:=.dict #[] } I.at_;have nes:e≠s.heap.objs.size:=T0 (B2 I.at_);refine v3 (wpAny_alloc' (v3 (wpAny_update' he1 (T1 ?_))));generalize e2:(Heap.update (Heap.push s.heap { cls:=.type "dict",data:=.dict #[] }) e λo=>{ cls:=o.cls,dict:=some s.heap.objs.size,data:=o.data,slots:=o.slots })=h1;have g1:h1.get? s.heap.objs.size=some { cls:=.type "dict",data:=.dict #[] }:=by rw[← e2];exact(Heap.get?_update_ne _ _ _ _ nes.symm).trans (Heap.get?_push_at rfl rfl)
 have n1:h1.Ns s.heap.objs.size (λ_=>none):=⟨_,#[],_,g1,rfl,λz hz=>absurd hz (by simp),λ_=>rfl⟩
 have ge:h1.get? e=some ⟨.ref C,some s.heap.objs.size,.fields vs,osl⟩:=by rw[← e2];exact ad1 _ he1 rfl
 refine v3 (T1 (v3 (wpAny_nsSet1 (Heap.Ns1.of_empty n1) λh2 n2 s2=>?_)));obtain⟨oD,esD,epD,hoD,hdD,hcD⟩:=n2.count (Within.cons name v Within.nil);refine v3 (wpAny_lookBehind hoD (by rw[hdD];exact pastItsLine_dict (X6 hcD (by rw[x0,Y7,ac0];lia))) (T1 ?_));exact h h2 _ ((s2.2 e nes).trans ge) n2 λb o nb q=>(s2.2 b (T0 (B2 q))).trans (by rw[← e2];exact(Heap.get?_update_ne _ _ _ _ nb).trans (u3 _ q))
end
def jw(e C:Addr)(d:Option Addr):HO:=.ext λh=>mG h e C d
def wH(u:mG h e C d):b9 P w H h e (jw e C d):=by obtain⟨oe,vs,g1,g2⟩:=id u;exact⟨u,⟨oe,g1⟩,λa b ⟨o,v,q1,q2⟩ k=>⟨o,v,k o q1,q2⟩⟩
structure ExcC(K:Frag)(C:Addr):Prop where
 at_:AR K C=true
 ge:nF K C
 sa:findIn K (.ref C) "__setattr__" = some (some (.builtin "object.__setattr__"))
 ob:mroIn K C (.type "object")=some true
 hd:hasDictIn K C=true
section
variable {X:Cx}{pins:List (Addr×Obj)}{Z:St}{H:Hp}{s:Shared}{e C dx:Addr}{d:Option Addr}{fs:List (Str×V)}{f:Str}{A:Around}{E:Value->Shared->Prop}
def vY(k:kc P w H h)(q:H dx=some (.xd fs)):∃mA,h.Ns1 dx mA/\∀g,jh (fs.lookup g) (mA g):=k dx _ q
def Dj(r:∀g,jh (fs.lookup g) (mA g)):Within mA (fs.map (·.1)):=by
 intro g hg;cases q:fs.lookup g with
 |none =>
  have:=jh.none_of (o:=mA g) (by rw[← q];exact r g);exact absurd this hg
 |some y=>exact List.mem_map_of_mem (ad0 q)
def Lp(I:Inv X pins Z H s)(he:H e=some o)(ho:o=gq e C (some dx)∨o=jw e C (some dx))(hx:H dx=some (.xd fs))(c:ExcC X.K C)(n:bC X.K C f)(l:fs.lookup f=some y)
  (h:∀u s',Inv X pins Z H s'->RelV y u->Q u s'):wpAny (model X.prog X.w) A (getAttr (.ref e) f b) Q E s:=by
 obtain⟨mA,n1,r⟩:=vY I.hok hx;obtain⟨u,hu,ru⟩:=jh.some_of (v:=y) (o:=mA f) (by rw[← l];exact r f);obtain⟨od,god,look⟩:=jZ n1;have ob:∃oe vs,s.heap.get? e=some oe/\oe.cls = .ref C/\oe.dict=some dx/\oe.data = .fields vs:=by
  rcases ho with z|z <;> subst z
  ·obtain⟨oe,vs,a1,a2,a3,a4,_⟩:=(I.hok e _ he).1;exact⟨oe,vs,a1,a2,a3,a4⟩
  ·obtain⟨oe,vs,a1,a2,a3,a4,_⟩:=(I.hok e _ he).1;exact⟨oe,vs,a1,a2,a3,a4⟩
 obtain⟨oe,vs,a1,a2,a3,a4⟩:=ob;have J:InstAt s.heap e oe C (some od):=⟨a1,a2,by unfold notCls;rw[a4],by rw[a3];exact god⟩
 exact DQ c.ge I.iU J (findObj_own c.hd n rfl (by rw[look,hu])) (vm ru) (h u _ (I.tok _) ru)
def Kf(I:Inv X pins Z H s)(he:H e=some (jw e C (some dx)))(hx:H dx=some (.xd fs))(c:ExcC X.K C)(n:bC X.K C f)(hl:fs.length<1000)(ry:RelV y u)
  (h:∀s',Inv X pins Z (upd H dx (.xd ((f,y)::fs))) s'->Q () s'):wpAny (model X.prog X.w) A (setAttr (.ref e) f u) Q E s:=by
 obtain⟨mA,n1,r⟩:=vY I.hok hx;obtain⟨od,god,look⟩:=jZ n1;obtain⟨oe,vs,a1,a2,a3,a4,a5⟩:=(I.hok e _ he).1;have J:InstAt s.heap e oe C (some od):=⟨a1,a2,by unfold notCls;rw[a4],by rw[a3];exact god⟩
 obtain⟨bm,Nn,mN,xx⟩:=mj I.iU c.at_;obtain⟨cd,hc,hh⟩:=any_some c.hd;refine DJ I.iU J xx c.sa n c.ob hc hh a3 a4 n1 (Dj r) (by rw[d6,ac0];lia) λh2 tk m2 sb=>h _ ?_;have ned:e≠dx:=λz=>by rw[z,hx] at he;cases he
 refine I.un ⟨λb o q a _ _=>(sb.2 b λz=>?_).trans q,λb o q a _ _=>⟨o.slots,(sb.2 b λz=>?_).trans q⟩,λb o q a _=>?_,λb o q _=>?_,λb xs q=>?_,λb o v q=>?_,λb ps q=>?_⟩ λb o q=>?_
 ·rw[z,hx] at a;cases a
 ·rw[z,hx] at a;cases a
 ·rw[aj (λz=>by rw[z,hx] at a;cases a)];exact a
 ·by_cases z:b=dx
  ·obtain⟨o2,_,_,g2,_⟩:=m2;exact⟨o2,z ▸ g2⟩
  ·exact⟨o,(sb.2 b z).trans q⟩
 ·rw[aj (λz=>by rw[z,hx] at q;cases q)];exact q
 ·rw[aj (λz=>by rw[z,hx] at q;cases q)];exact q
 ·exact⟨#[],by rw[aj (λz=>by rw[z,hx] at q;cases q),q];simp⟩
 ·by_cases z:b=dx
  ·subst z;rw[af] at q;cases q;refine⟨_,m2,λg=>?_⟩;rw[ab9];by_cases w:g=f
   ·subst w;simp only[beq_self_eq_true,if_true];exact ry
   ·rw[if_neg w,show (g == f)=false from beq_eq_false_iff_ne.mpr w];exact r g
  ·rw[aj z] at q;refine(I.hok b o q).stay (λcc v hcc rr=>(sb.2 cc λy=>?_).trans rr) (λcc rr=>?_) λcc xs rr=>?_
   ·rcases hcc with p|p
    ·exact z (p.symm.trans y)
    ·rw[y,hx] at p;cases p
   ·rw[aj (λy=>by rw[y,hx] at rr;cases rr)];exact rr
   ·rw[aj (λy=>by rw[y,hx] at rr;cases rr)];exact rr
def I9(I:Inv X pins Z H s)(he:H e=some (jw e C none))(c:ExcC X.K C)(n:bC X.K C f)(ry:RelV y u)
  (h:∀dx s',H dx=none->Inv X pins Z (upd (upd H dx (.xd [(f,y)])) e (jw e C (some dx))) s'->Q () s'):wpAny (model X.prog X.w) A (setAttr (.ref e) f u) Q E s:=by
 obtain⟨oe,vs,a1,a2,a3,a4,a5⟩:=(I.hok e _ he).1;have J:InstAt s.heap e oe C none:=⟨a1,a2,by unfold notCls;rw[a4],by rw[a3];trivial⟩
 obtain⟨bm,Nn,mN,xx⟩:=mj I.iU c.at_;obtain⟨cd,hc,hh⟩:=any_some c.hd;have fr:H s.heap.objs.size=none:=I.hok.fresh (M2 _);refine AY I.iU J xx c.sa n c.ob hc hh a3 a4 λh2 tk ge m2 k=>h s.heap.objs.size _ fr ?_;have ned:s.heap.objs.size≠e:=λz=>by rw[z,he] at fr;cases fr
 have old:∀{b o},s.heap.get? b=some o->b≠s.heap.objs.size:=λq=>T0 (B2 q);have ne2:∀{b o},H b=some o->b≠s.heap.objs.size:=λq z=>by rw[z,fr] at q;cases q
 have nee:∀{b},H b=none->b≠e:=λq z=>by rw[z,he] at q;cases q
 refine I.un ⟨λb o q a _ _=>k b o (nee a) q,λb o q a _ _=>⟨o.slots,k b o (nee a) q⟩,λb o q a _=>?_,λb o q _=>?_,λb xs q=>?_,λb o v q=>?_,λb ps q=>?_⟩ λb o q=>?_
 ·rw[aj (nee a),aj (old q)];exact a
 ·by_cases z:b=e
  ·exact⟨_,z ▸ ge⟩
  ·exact⟨o,k b o z q⟩
 ·rw[aj (λz=>by rw[z,he] at q;cases q),aj (ne2 q)];exact q
 ·rw[aj (λz=>by rw[z,he] at q;cases q),aj (ne2 q)];exact q
 ·exact⟨#[],by rw[aj (λz=>by rw[z,he] at q;cases q),aj (ne2 q),q];simp⟩
 ·by_cases z:b=e
  ·subst z;rw[af] at q;cases q;exact wH ⟨_,vs,ge,a2,rfl,a4,a5⟩
  ·rw[aj z] at q;by_cases z2:b=s.heap.objs.size
   ·rw[z2,af] at q;cases q;rw[z2];refine⟨_,m2,λg=>?_⟩;rw[ab9];by_cases w:g=f
    ·subst w;simp only[beq_self_eq_true,if_true];exact ry
    ·rw[if_neg w,show (g == f)=false from beq_eq_false_iff_ne.mpr w];trivial
   ·rw[aj z2] at q;refine(I.hok b o q).stay (λcc v hcc rr=>k cc v (λy=>?_) rr) (λcc rr=>?_) λcc xs rr=>?_
    ·rcases hcc with p|p
     ·exact z (p.symm.trans y)
     ·rw[y,he] at p;cases p
    ·rw[aj (λy=>by rw[y,he] at rr;cases rr),aj (ne2 rr)];exact rr
    ·rw[aj (λy=>by rw[y,he] at rr;cases rr),aj (ne2 rr)];exact rr
end
section
variable {X:Cx}{o value ex:Expr}{f:Str}{pos pos':Pos}{ta tv:TE}
def Ul(K:Frag)(ta:TE)(f:Str):TE:=λZ H Q=>ta Z H λx H1=>∃e C dx fs y ho,x = .ref e/\H1 e=some ho/\(ho=gq e C (some dx)∨ho=jw e C (some dx))/\H1 dx=some (.xd fs)/\ExcC K C/\bC K C f/\fs.lookup f=some y/\Q y H1
def oF(he:PE X ex ta)(hb:attributeBase ex f X.env (eval ex X.env)=eval ex X.env):PE X (.Attribute ex f pos) (Ul X.K ta f):=by intro pins s Z H Q I h;refine Ct hb (cM (he pins s Z H _ I h) λu s1  hZ=>?_);obtain⟨x,H1,I1,rx,e,C,dx,fs,y,ho,z1,z2,z3,z4,c,n,l,q⟩:=hZ;subst z1;obtain rfl:u=Value.ref e:=rx;exact Lp I1 z2 z3 z4 c n l λu2 s2 I2 ru=>⟨y,H1,I2,ru,q⟩
def Um(K:Frag)(ta tv:TE)(f:Str):TS:=λD Z H=>tv Z H λy H1=>ta Z H1 λx H2=>∃e C,x = .ref e/\ExcC K C/\bC K C f /\
 ((H2 e=some (jw e C none)/\∀dx,H2 dx=none->D.nx Z (upd (upd H2 dx (.xd [(f,y)])) e (jw e C (some dx)))) ∨
  ∃dx fs,H2 e=some (jw e C (some dx))/\H2 dx=some (.xd fs)/\fs.length<1000/\D.nx Z (upd H2 dx (.xd ((f,y)::fs))))
def Be(ha:PE X o ta)(hv:PE X value tv)(hs:swapsWith value (some (.Attribute o f pos')) pos.line X.env=pure false):PS X (.Assign [.Attribute o f pos'] value pos) (Um X.K ta tv f):=by
 intro pins s Z H D I h;refine plainObj_wpAny_Assign_Attribute (cM (hv pins s Z H _ I h) λu s1 ⟨y,H1,I1,ry,q⟩=>cM (ha pins s1 Z H1 _ I1 q) λov s2 hY=>?_) hs;obtain⟨x,H2,I2,rx,e,C,z1,c,n,q2⟩:=hY;subst z1;obtain rfl:ov=Value.ref e:=rx;rcases q2 with ⟨he,q3⟩|⟨dx,fs,he,hd,l,q3⟩
 ·exact I9 I2 he c n ry λdx s3 fr I3=>⟨Z,_,I3,q3 dx fr⟩
 ·exact Kf I2 he hd c n l ry λs3 I3=>⟨Z,_,I3,q3⟩
structure t7(K:Frag)(C:Addr):Prop extends ExcC K C where
 ca:findIn K (.ref C) "__class__" = some (some (.builtin "object.__class__"))
 cg:specialIn K (.builtin "object.__class__") "__get__" = some (some (.builtin "getset_descriptor.__get__"))
 ct:takesIn K (.builtin "object.__class__")=some true
def BE(I:Inv X pins Z H s)(he:H e=some (gq e C d))(hd:∀dx,d=some dx->∃fs,H dx=some (.xd fs))
  (k:t7 X.K C) (q:kitOne X.K (.ref C) c=some b) (h:∀tk,Q (.bool b) { s with toks:=tk }):wpAny (model X.prog X.w) A (call (.builtin "isinstance") [.ref e,c]) Q E s:=by
 obtain⟨oe,vs,a1,a2,a3,a4,_⟩:=(I.hok e _ he).1;obtain⟨cd,hc,_⟩:=any_some k.hd;refine kia_one (yV k.ge hc k.ob k.ca k.cg k.ct) I.iU ?_ q (λz=>nomatch z) h;cases d with
 |none=>exact⟨oe,none,a1,a2,by unfold notCls;rw[a4],by rw[a3];trivial⟩
 |some dx =>
  obtain⟨fs,hx⟩:=hd dx rfl;obtain⟨mA,n1,_⟩:=vY I.hok hx;obtain⟨od,god,_⟩:=jZ n1;exact⟨oe,some od,a1,a2,by unfold notCls;rw[a4],by rw[a3];exact god⟩
def mK:gR X (.builtin "isinstance") (λxs H Q=>∃e C d a b,xs=[.ref e,.ref a]/\H e=some (gq e C d)/\(∀dx,d=some dx->∃fs,H dx=some (.xd fs))/\t7 X.K C/\kitOne X.K (.ref C) (.ref a)=some b/\Q (.bl b) H):=by intro pins s Z H xs us Q I r h;obtain⟨e,C,d,a,b,rfl,he,hd,k,kk,q⟩:=h;obtain⟨u,w',rfl,ru,rw'⟩:=vals2 r;cases rw';cases ru;exact BE I he hd k kk λtk=>⟨.bl b,H,I.tok _,rfl,q⟩
def Ao:gR X (.builtin "isinstance") (λxs H Q=>∃e C d cv b,xs=[.ref e,.ty cv]/\H e=some (gq e C d)/\(∀dx,d=some dx->∃fs,H dx=some (.xd fs))/\t7 X.K C/\kitOne X.K (.ref C) (.type cv)=some b/\Q (.bl b) H):=by intro pins s Z H xs us Q I r h;obtain⟨e,C,d,a,b,rfl,he,hd,k,kk,q⟩:=h;obtain⟨u,w',rfl,ru,rw'⟩:=vals2 r;cases rw';cases ru;exact BE I he hd k kk λtk=>⟨.bl b,H,I.tok _,rfl,q⟩
end
def Inv.WU(I:Inv X pins Z H s)(he:H e=some (jw e C d)):Inv X pins Z (upd H e (gq e C d)) s:=by
 have ne:∀{b},H b=none->b≠e:=λq z=>by rw[z,he] at q;cases q
 refine I.un (h':=s.heap) (t':=s.toks) ⟨λb o q _ _ _=>q,λb o q _ _ _=>⟨o.slots,q⟩,λb o q a _=>by rw[aj (ne a)];exact a,λb o q _=>⟨o,q⟩,λb xs q=>?_,λb o v q=>?_,λb ps q=>?_⟩ λb o q=>?_
 ·rw[aj (λz=>by rw[z,he] at q;cases q)];exact q
 ·rw[aj (λz=>by rw[z,he] at q;cases q)];exact q
 ·exact⟨#[],by rw[aj (λz=>by rw[z,he] at q;cases q),q];simp⟩
 ·by_cases z:b=e
  ·subst z;rw[af] at q;cases q;obtain⟨oe,vs,a1,a2,a3,a4,a5⟩:=(I.hok b _ he).1;exact wk a1 a2 a3 a4 (ac2.mp a5).1
  ·rw[aj z] at q;refine(I.hok b o q).stay (λ_ _ _ r=>r) (λcc rr=>?_) λcc xs rr=>?_
   ·rw[aj (λy=>by rw[y,he] at rr;cases rr)];exact rr
   ·rw[aj (λy=>by rw[y,he] at rr;cases rr)];exact rr
section
variable {P:Program}{w:World}{K:PySem.W.Frag}{mg:Str->Option Value}{base:Heap}{N:List Str}{qual:Str}{scope:Scope}{f:Addr}{cd:Value}{A:Around}{outer:List Env}{s:Shared}{H:Hp}{E:XK}
def Du           (c:ExcC K C) (hi:findIn K (.ref C) "__init__" = some (some (.ref fI))) (hfn:isFn K (.ref fI)=true) (hkp:keepIn K (.ref C)=true)
  (F:bw P w K mg base dM k fI fd ps sp) (hb:Binds K fd ps []) (hr:fh (k+1) (gM (j9 P w) P w K mg base N qual scope f cd A outer s H E).A) (hg:Gl (gM (j9 P w) P w K mg base N qual scope f cd A outer s H E) x) (hm:mg x=some (.ref C))
  (ha:PA (gM (j9 P w) P w K mg base N qual scope f cd A outer s H E) (e1::es) ta) (hd:autoParam ((x == ("__debug__" : Str))=false) L2.Y1._auto_1)
  (he:autoParam (starEach (e1::es) (gM (j9 P w) P w K mg base N qual scope f cd A outer s H E).env=(false,eval e1 (gM (j9 P w) P w K mg base N qual scope f cd A outer s H E).env)::starEach es (gM (j9 P w) P w K mg base N qual scope f cd A outer s H E).env) L2.Y3._auto_1)
  (hpl:autoParam ((backTo cpos (starEach es (gM (j9 P w) P w K mg base N qual scope f cd A outer s H E).env)).any (·.1)=false) L2.Y3._auto_1) :
  PS (gM (j9 P w) P w K mg base N qual scope f cd A outer s H E) (.Raise (some (.Call (.Name x np) (e1::es) [] cpos)) none pos) (λ_ Z H1=>ta Z H1 λvs H2=>vs.length<=sizeLine/\∀e,H2 e=none->sp (.ref e::vs) (upd H2 e (jw e C none)) (λv H3=>v = .cD/\∃d,H3 e=some (jw e C d)/\E (.ref C) (some e) (upd H3 e (gq e C d))) E0):=by
 intro pins s1 Z H1 D I h;rw[arm_exec_Raise];refine v3 (wpAny_standAt (DF (I.ok.hd rfl) (v3 (ab1 (ad8 (iZ I hg hm (af5 (h₀:=base) I.ok.mod.rK hkp (cM (ha cpos pins s1 Z H1 _ I h) λus s3 ⟨vs,H3,I3,rv,sz,kk⟩=>⟨I3.iU,?_⟩) he hpl) hd)) (λv s4 h4=>v3 (wpAny_standAt (T1 h4))) λ_ _ z=>z))));obtain⟨bm,Nn,mN,xx⟩:=mj I3.iU c.at_;have lk:=beq_iff_eq.mp hfn;have fo:∃oI,s3.heap.get? fI=some oI/\oI.cls = .type "function" := by obtain⟨oI,l1,l2⟩:=Q1.mp lk;exact⟨oI,I3.iU _ _ l1,l2⟩
 obtain⟨oI,fo1,fo2⟩:=fo;obtain⟨hp,g,dr,t,os⟩:=s3;refine JJ I3.iU xx hi fo1 fo2 (show us.length<=sizeLine by rw[← rv.length];exact sz) λh2 e md=>?_;obtain⟨t0,g1,_,_⟩:=md.there;have new:=I3.hok.new md.new;have I4:=I3.Om (h':=h2) (t':=t) (o:=jw e C none) md.keeps md.new (wH ⟨_,_,g1,rfl,rfl,rfl,rfl⟩);have r2:Vals (V.ref e::vs) (Value.ref e::us):=.cons rfl rv;have hsp:=kk e new;have hl:(Value.ref e::us).length=ps.length:=(F.len _ _ _ _ hsp ▸ r2.length).symm;have bnd:=hb _ (Value.ref e::us) I4.iU (by rw[ab2];exact hl);rw[ab2] at bnd;refine ai1 (aj6 (F.run _ (gM (j9 P w) P w K mg base N qual scope f cd A outer s H E).stack _ _ ⟨Value.ref e::us,[]⟩ (Value.ref e::us) (V.ref e::vs) _ E0 (hr.make C us []) (I4.Ja.make C us []) bnd r2 hsp) λy s' hq=>?_);match y,hq with
 |.ok (.ret u),hq =>
  obtain⟨v,H5,I5,rv5,z1,d5,z2,z3⟩:=I4.after hq;subst z1;obtain⟨bm5,N5,m5,x5⟩:=mj I5.iU c.at_;refine⟨rv5,e,C,bm5,N5,m5,?_⟩;obtain⟨oe,ws,a1,a2,a3,a4,a5⟩:=(I5.hok e _ z2).1;refine⟨oe,ws,rfl,x5,a1,a2,a4,a5,F6 (I5.WU z2) ⟨oe,ws,a1,a2,a3,a4,a5⟩ af ?_ z3⟩;cases z:s.heap.get? e with
  |none=>rfl
  |some o =>
    obtain⟨u2,z4⟩:=I3.base.there e o z (by show e∉[];simp);rw[md.new] at z4;cases z4
end
section
variable {P:Program}{w:World}{K:Frag}{mg:Str->Option Value}{base:Heap}{CX:ue}{k:Nat}{f:Addr}{fd:FuncData}{ps:List Str}{sp:Sp}
end
section
variable {X:Cx}{CX:ue}{k:Nat}{f:Addr}{fd:FuncData}{ps:List Str}{sp:Sp}{x:Str}{p pos:Pos}{e:Expr}{es:List Expr}{t:TA}{E:XK}
end
section
variable {X:Cx}{pins:List (Addr×Obj)}{Z:St}{H:Hp}{s:Shared}{e C:Addr}{d:Option Addr}{A:Around}{E:Value->Shared->Prop}
def Inv.Xp(I:Inv X pins Z H s)(he:H e=some (jw e C d))(k:∀b o,b≠e->s.heap.get? b=some o->h2.get? b=some o)(u:mG h2 e C d):Inv X pins Z H { s with heap:=h2,toks:=t' }:=by
 have nee:∀{b},H b=none->b≠e:=λq z=>by rw[z,he] at q;cases q
 refine I.un ⟨λb o q a _ _=>k b o (nee a) q,λb o q a _ _=>⟨o.slots,k b o (nee a) q⟩,λ_ _ _ a _=>a,λb o q _=>?_,λ_ _ q=>q,λ_ _ _ q=>q,λb ps q=>⟨#[],by rw[q];simp⟩⟩ λb o q=>?_
 ·by_cases z:b=e
  ·obtain⟨oe,vs,g1,_⟩:=u;exact⟨oe,z ▸ g1⟩
  ·exact⟨o,k b o z q⟩
 ·by_cases z:b=e
  ·subst z;rw[he] at q;cases q;exact wH u
  ·refine(I.hok b o q).stay (λcc v hcc rr=>k cc v (λy=>?_) rr) (λ_ rr=>rr) λ_ _ rr=>rr;rcases hcc with p|p
   ·exact z (p.symm.trans y)
   ·rw[y,he] at p;cases p
def Er   (I:Inv X pins Z H s) (he:H e=some (jw e C d)) (c:ExcC X.K C) (hz:rest.length<=sizeLine) (h:∀s',Inv X pins Z H s'->Q .none s'):wpAny (model X.prog X.w) A (call (.builtin "ValueError.__init__") (.ref e::rest)) Q E s:=by
 obtain⟨bm,Nn,mN,xx⟩:=mj I.iU c.at_;obtain⟨a1,a2,a3,a4,a5,a6,a7,a8,a9,b0,b1,b2,b3,b4,eC⟩:=xx.ob;obtain⟨oe,vs,g1,g2,g3,g4,g5⟩:=(I.hok e _ he).1;have B:=ai2;have sz:1<vs.size:=(ac2.mp g5).1;have I0:=I;obtain⟨hp,g,dr,t,os⟩:=s;refine ai1 (ai5 B.init.plain B.initEntry (wpAny_check_init_subU B xx.tail eC g1 g2 ?_));unfold Builtin.«BaseException.__init__»;refine v3 (wpAny_newTuple (s:=⟨hp,g,dr,t,os⟩) ?_ hz);have ge:(hp.push { cls:=.type "tuple",data:=.seq rest.toArray }).get? e=some oe:=u3 _ g1;have v0:vs[0]?=some vs[0]:=Array.getElem?_eq_getElem (by lia);refine v3 (v3 (wpAny_field ge g4 v0 (v3 (wpAny_setField ge g4 (show 0<vs.size by lia) ?_))));have fin:Inv X pins Z H ⟨(hp.push { cls:=.type "tuple",data:=.seq rest.toArray }).update e (Obj.mapFields (·.setIfInBounds 0 (.ref hp.objs.size))),g,dr,t,os⟩:=by refine I0.Xp (t':=t) he (λb o nb q=>(Heap.get?_update_ne _ _ _ _ nb).trans (u3 _ q)) ?_;obtain⟨oc,od,oda,osl⟩:=oe;dsimp only at g2 g3 g4;subst g2 g3 g4;exact⟨_,_,ad1 _ ge rfl,rfl,rfl,rfl,by rw[Array.getElem?_setIfInBounds_ne (by decide)];exact g5⟩
 split
 ·exact wpAny_letGo (T1 (h _ fin))
 ·exact T1 (T1 (h _ fin))
end
section
variable {X:Cx}{T:Str}{tp apos pos:Pos}{e1:Expr}{es:List Expr}{t:TA}{D:Addr}
def E7  (hg:Gl X T) (hm:X.mg T=some (.ref D)) (hga:specialIn X.K (.ref D) "__getattribute__" = some (some (.builtin "type.__getattribute__"))) (hr:readsIn X.K D (.type "type")=true) (hf:findCls X.K (.ref D) (.type "type") "__init__" = some (.val (.builtin "ValueError.__init__")))
  (ha:PA X (e1::es) t) (hdb:autoParam ((T == ("__debug__" : Str))=false) L2.Y1._auto_1) (hst:autoParam (starEach (e1::es) X.env=(false,eval e1 X.env)::starEach es X.env) L2.Y3._auto_1) (hpl:autoParam ((backTo pos (starEach es X.env)).any (·.1)=false) L2.Y3._auto_1)
  (ht:autoParam (eval (.Call (.Attribute (.Name T tp) "__init__" apos) (e1::es) [] pos) X.env=(do
   let ov ← eval (.Name T tp) X.env
   standAt apos.atName
   let (f,first) ← holding [ov] (getMethod ov "__init__" pl)
   callWith pos f first (backTo pos (starEach (e1::es) X.env)) (backToKw pos (keywordEach [] X.env)))) L2.Y3._auto_1) :
  PE X (.Call (.Attribute (.Name T tp) "__init__" apos) (e1::es) [] pos) (λZ H Q=>t Z H λvs H1=>∃e C d rest,vs = .ref e::rest/\H1 e=some (jw e C d)/\ExcC X.K C/\rest.length<=sizeLine/\Q .cD H1):=by
 intro pins s Z H Q I h;refine methodCall_KW (pl:=pl) (iZ I hg hm ?_ hdb) ht;refine method_cls I.iU hga (cls_value I.iU hr hf (by decide +kernel) ?_);refine callWith_builtin1 (cM (ha pos pins _ Z H _ (I.tok _) h) λus s1 hY=>?_) hst hpl;obtain⟨vs,H1,I1,r,e,C,d,rest,z1,z2,c,z3,q⟩:=hY;subst z1;cases r with
 |cons r1 r2 =>
  cases r1;exact Er I1 z2 c (by rw[← r2.length];exact z3) λs2 I2=>⟨.cD,H1,I2,rfl,q⟩
end
def HE(rK:X.K.In X.base)(q:AR X.K C=true)(m:mroIn X.K C (.ref C2)=some true):Me X C C2:=by
 unfold AR at q;split at q;next dd cd sl look =>
  split at q;next D r c0 c1 c2 c3 mm c5 em es =>
   simp only[aa9,beq_iff_eq,Bool.not_eq_true'] at q;obtain⟨⟨e1,e2⟩,del,tl,nsok⟩:=q;subst e1 e2;have esl:sl = #[c0,c1,c2,c3,some (.builtin "ValueError.__new__"),c5]:=af4.mp es;have con:cd.mro.contains (.ref C2)=true:=by
    unfold mroIn clsIn at m;rw[look] at m;simp only[Option.bind_some] at m;split at m
    ·cases m
    ·exact X8 m
   obtain⟨f1,f2,f3,f4,f5,f6,f7,f8,f9,f10,f11⟩:=cd;have em:f3 = .ref D::r:=em;have del:f11=false:=del;subst em del esl;exact⟨r,f4,_,⟨⟨_,_,_,_,_,_,_,_,_,_,_,_,_,_,rK _ _ look⟩,.of_isNs (isNs_of_in rK nsok),tail_of_in rK tl⟩,con⟩
  next=>cases q
 next=>cases q
end L2
namespace L2
open PySem PySem.Spec PyProof.Rows
section
variable {X:Cx}{pins:List (Addr×Obj)}{Z:St}{H:Hp}{s:Shared}
end
def Cb(hst:X.stack=X.env::X.outer)(hfr:X.env.frame=some X.env.locals)(hN:X.N.Nodup)(hi:X.N[i]?=some n)(hloc:X.env.scope.names.lookup n=some .local)
  (hg:Gl X x) (hm:X.mg x=some (.ref C2)) (hdb:(x == ("__debug__" : Str))=false) (h2:AR X.K C2=true) :
  PS X (.Try body [.ExceptHandler (some (.Name x np)) (some n) (b0::suite) hpos] [] [] pos) (λD Z H=>∃Th,(∀pins,At (X.nC pins Th) D body Z H) /\
   ∀Z' C e H',Th Z' C e H'->AR X.K C=true/\PySem.W.mroIn X.K C (.ref C2)=some true/\At (X.held e) (D.less i) (b0::suite) (Z'.set i (some (.ref e))) H'):=λpins s Z H D I ⟨Th,hb,hh⟩ =>
 (R8 hst hfr hN hi hloc hg hm hdb (mj I.ok.mod.rK h2)) pins s Z H D I ⟨Th,hb,λZ' C e H' th=>let ⟨a,b,c⟩:=hh Z' C e H' th;⟨HE I.ok.mod.rK a b,c⟩⟩
section
variable {X:Cx}{e v1 v2:Expr}{es:List Expr}{te:TE}{pos:Pos}
abbrev TF:=St->Hp->Str->(Str->Hp->Prop)->Prop
def PF(X:Cx)(es:List Expr)(t:TF):Prop :=
 ∀(pins:List (Addr×Obj)) (s:Shared) (Z:St) (H:Hp) (acc:Str) (Q:Str->Hp->Prop),Inv X pins Z H s->t Z H acc Q->wpAny (model X.prog X.w) X.A (joinParts acc (evalEach es X.env)) (EP X pins Z (λv H'=>∃z,v = .str z/\Q z H')) X.xe s
def VZ:TF:=λ_ H acc Q=>acc.length<=sizeLine/\Q acc H
def Ut(x:Str)(t:TF):TF:=λZ H acc Q=>(acc++x).length<=sizeLine/\t Z H (acc++x) Q
def Vb(te:TE)(t:TF):TF:=λZ H acc Q=>te Z H λv H1=>∃x,((v = .str x/\x.length<=sizeLine)∨(∃i:Int,v = .int i/\i.natAbs.log2<1920/\x=PySem.Str.ofString (toString i)))/\(acc++x).length<=sizeLine/\t Z H1 (acc++x) Q
variable {t:TF}
def qu:PF X [] VZ:=λpins s Z H acc Q I h=>joinParts_nil (s:=s) ⟨.str acc,H,I.tok _,⟨_,rfl⟩,acc,rfl,h.2⟩ h.1
def kj(hr:PF X es t):PF X (.Constant (.str x) j p::es) (Ut x t):=by intro pins s Z H acc Q I h;show wpAny _ _ (joinParts acc (eval (.Constant (.str x) j p) X.env::evalEach es X.env)) _ _ s;refine joinParts_cons (cM (aA pins s Z H (λv H'=>v = .str x/\H'=H) I ⟨rfl,rfl⟩) λu s1  hZ=>?_);obtain⟨v,H1,I1,r1,e1,e2⟩:=hZ;subst e1 e2;obtain⟨tk,rfl⟩:=r1;exact⟨h.1,hr pins s1 Z _ _ Q I1 h.2⟩
def qx(he:PE X e te)(hr:PF X es t):PF X (.FormattedValue e (-1) none p::es) (Vb te t):=by
 intro pins s Z H acc Q I h;show wpAny _ _ (joinParts acc (eval (.FormattedValue e (-1) none p) X.env::evalEach es X.env)) _ _ s;refine joinParts_cons (FormattedValue_plain (cM (he pins s Z H _ I h) λu s1  hZ=>?_));obtain⟨v,H1,I1,r1,x,hx,hl,q⟩:=hZ;rcases hx with ⟨rfl,hz⟩|⟨i,rfl,hz,rfl⟩
 ·obtain⟨tk,rfl⟩:=r1;exact formatField_str (λt' tk'=>⟨hl,hr pins _ Z _ _ Q (I1.tok _) q⟩) hz
 ·obtain⟨tk,rfl⟩:=r1;exact formatField_int_small hz ⟨hl,hr pins _ Z _ _ Q (I1.tok _) q⟩
def mH(h:PF X (v1::v2::es) t):PE X (.JoinedStr (v1::v2::es) pos) (λZ H Q=>t Z H Str.empty λz H'=>Q (.str z) H'):=by intro pins s Z H Q I hq;refine JoinedStr_many (cM (h pins s Z H Str.empty _ I hq) λu s1 ⟨v,H1,I1,r1,z,e,q⟩=>⟨v,H1,I1,r1,by rw[e];exact q⟩)
end
end L2
namespace L2
open PySem PySem.Spec PyProof.Rows PySem.W
section
variable {X:Cx}
theorem vH:∀{as:List Addr} {us:List Value},Vals (as.map V.ref) us->us=as.map Value.ref
 | [],_,.nil=>rfl
 |a::as,_,.cons h t=>by cases h;rw[vH t];rfl
def zU:gR X (.builtin "isinstance") (λxs H Q=>∃(e C:Addr) (d:Option Addr) (p:Addr) (as:List Addr) (b:Bool),xs=[.ref e,.ref p]/\fB X.K H p (as.map V.ref)/\H e=some (gq e C d)/\(∀dx,d=some dx->∃fs,H dx=some (.xd fs))/\t7 X.K C/\kitAny X.K (.ref C) (as.map Value.ref)=some b/\Q (.bl b) H):=by
 intro pins s Z H xs us Q I r h;obtain⟨e,C,d,p,as,b,rfl,hp,he,hd,k,kk,q⟩:=h;obtain⟨u,w',rfl,ru,rw'⟩:=vals2 r;cases rw';cases ru;obtain⟨its,r1,⟨⟨oc,od,odt,osl⟩,g1,g2,n,g3⟩,_⟩:=I.tuple hp;obtain rfl:=vH r1;have g2:oc = .type "tuple" := g2;have g3:odt=_:=g3;subst g2 g3;obtain⟨oe,vs,a1,a2,a3,a4,_⟩:=(I.hok e _ he).1;obtain⟨cd,hc,_⟩:=any_some k.hd;refine kia_tup (yV k.ge hc k.ob k.ca k.cg k.ct) I.iU ?_ g1 kk (λz=>nomatch z) λtk=>⟨.bl b,H,I.tok _,rfl,q⟩
 cases d with
 |none=>exact⟨oe,none,a1,a2,by unfold notCls;rw[a4],by rw[a3];trivial⟩
 |some dx =>
  obtain⟨fs,hx⟩:=hd dx rfl;obtain⟨mA,n1,_⟩:=vY I.hok hx;obtain⟨od,god,_⟩:=jZ n1;exact⟨oe,some od,a1,a2,by unfold notCls;rw[a4],by rw[a3];exact god⟩
theorem qI{K:Frag}:∀{as:List Addr},(∀a∈as,kitOne K t (.ref a)=some false)->kitAny K t (as.map Value.ref)=some false
 | [],_=>rfl
 |a::as,h=>by rw[Y5,kitAny,h a (by simp)];exact qI λb hb=>h b (D1 _ hb)
end
end L2
namespace L2
open PySem PySem.Spec PyProof.Rows
section
variable {X:Cx}{pins:List (Addr×Obj)}{Z:St}{H:Hp}{s:Shared}
def pQ(xs ys:List V):Prop:=∀x∈xs,∀y∈ys,jn x=true/\jn y=true/\DO x y=decide (x=y)
def qU(p:pQ xs ys)(r1:Vals xs is)(r2:Vals ys js) :
  ∀j (h1:j<is.toArray.size) (h2:j<js.toArray.size),SeqAt.EqAt A s is.toArray[j] js.toArray[j] ((λj=>decide (xs[j]?=ys[j]?)) j):=by
 intro j h1 h2;have l1:=r1.length;have l2:=r2.length;have j1:j<xs.length:=by simpa [l1] using h1
 have j2:j<ys.length:=by simpa [l2] using h2
 have e1:=i4 j1;have e2:=i4 j2;obtain⟨u1,g1,q1⟩:=r1.get e1;obtain⟨u2,g2,q2⟩:=r2.get e2;have g1':is.toArray[j]=u1:=by simpa [i5] using (i5.mp g1).2
 have g2':js.toArray[j]=u2:=by simpa [i5] using (i5.mp g2).2
 rw[g1',g2'];obtain⟨f1,f2,f3⟩:=p _ (ad9 j1) _ (ad9 j2);have:=z0 (A:=A) (s:=s) q1 q2 f1 f2;rw[f3] at this;have e:decide (xs[j]?=ys[j]?)=decide (xs[j]=ys[j]):=by rw[e1,e2];simp
 show SeqAt.EqAt A s u1 u2 (decide (xs[j]?=ys[j]?));rw[e];exact this
def yR{xs ys:List V}(h:xs.length=ys.length):((List.range xs.length).all λj=>decide (xs[j]?=ys[j]?))=decide (xs=ys):=by
 rw[ad4,List.all_eq_true,aa8];constructor
 ·intro z;refine ah6 λj=>?_;by_cases hj:j<xs.length
  ·simpa using z j (List.mem_range.mpr hj)
  ·rw[ac7 (by lia),ac7 (by lia)]
 ·intro z j _;rw[z];simp
inductive UB(K:PySem.W.Frag)(x:V)(y:V)(H:Hp)(Q:VK):Prop|mk(a b xs ys)(_:x = .ref a)(_:y = .ref b)(_:bq K H a xs)(_:bq K H b ys)(_:pQ xs ys)(_:Q (.bl (!decide (xs=ys))) H)
def rL(hu:X.A.units<cLine):mZ X (compareOp .NotEq) (UB X.K):=by
 intro pins s Z H x y v u Q I rx ry h;obtain⟨a,b,xs,ys,rfl,rfl,ha,hb,hp,q⟩:=h;cases rx;cases ry;obtain⟨is,r1,p1,_⟩:=I.list ha;obtain⟨js,r2,p2,_⟩:=I.list hb;obtain⟨o1,n1,e1,c1,_,d1⟩:=p1;obtain⟨o2,n2,e2,c2,_,d2⟩:=p2;have l1:=r1.length;have l2:=r2.length;by_cases hl:xs.length=ys.length
 ·refine PySem.SeqAt.RcNeAt.lists (e:=λj=>decide (xs[j]?=ys[j]?)) ⟨o1,e1,c1,n1,d1⟩ ⟨o2,e2,c2,n2,d2⟩ (by simp[← l1,← l2,hl]) hu (qU hp r1 r2) _ _ _ _ ?_;have z:is.toArray.size=xs.length:=by simp[← l1]
  rw[z,yR hl];exact⟨.bl _,H,I,rfl,q⟩
 ·refine PySem.SeqAt.RcNeAt.lists_lengths ⟨o1,e1,c1,n1,d1⟩ ⟨o2,e2,c2,n2,d2⟩ (by simpa [← l1,← l2] using hl) hu _ _ _ _ ?_;rw[Z9 (λz=>hl (by rw[z]))] at q;exact⟨.bl true,H,I,rfl,q⟩
def rY{α β:Type}(f:α->Int)(g:β->Int)(xs:List α)(ys:List β):pQ (xs.map λx=>V.int (f x)) (ys.map λy=>V.int (g y)):=by intro x hx y hy;obtain⟨a,_,rfl⟩:=aa2.mp hx;obtain⟨b,_,rfl⟩:=aa2.mp hy;refine⟨rfl,rfl,?_⟩;show (f a == g b)=_;rw[ad4];simp
def nO(xs ys:List Str):pQ (xs.map V.str) (ys.map V.str):=by intro x hx y hy;obtain⟨a,_,rfl⟩:=aa2.mp hx;obtain⟨b,_,rfl⟩:=aa2.mp hy;refine⟨rfl,rfl,?_⟩;show (a == b)=_;rw[ad4];simp
end
section
variable {X:Cx}{pins:List (Addr×Obj)}{Z:St}{H:Hp}{s:Shared}
end
def qm(K:PySem.W.Frag)(H:Hp):Nat->V->V->Prop
 |0,x,y=>x=y/\(jn x=true∨∃a,x = .ref a)
 |n+1,x,y=>(x=y/\(jn x=true∨∃a,x = .ref a))∨∃a b xs ys,x = .ref a/\y = .ref b/\((bq K H a xs/\bq K H b ys)∨(fB K H a xs/\fB K H b ys))/\xs.length=ys.length/\∀(j:Nat) (x y:V),xs[j]?=some x->ys[j]?=some y->qm K H n x y
section
variable {X:Cx}{pins:List (Addr×Obj)}{Z:St}{H:Hp}{s:Shared}
def oG(ih:∀(x y:V) (u v:Value),RelV x u->RelV y v->qm X.K H n x y->SeqAt.EqAt A s u v true)(r1:Vals xs is)(r2:Vals ys js)(h:∀(j:Nat) (x y:V),xs[j]?=some x->ys[j]?=some y->qm X.K H n x y) :
  ∀j (h1:j<is.toArray.size) (h2:j<js.toArray.size),SeqAt.EqAt A s is.toArray[j] js.toArray[j] ((λ_=>true) j):=by
 intro j h1 h2;have l1:=r1.length;have l2:=r2.length;have j1:j<xs.length:=by simpa [l1] using h1
 have j2:j<ys.length:=by simpa [l2] using h2
 obtain⟨u1,g1,q1⟩:=r1.get (i4 j1);obtain⟨u2,g2,q2⟩:=r2.get (i4 j2);have g1':is.toArray[j]=u1:=by simpa [i5] using (i5.mp g1).2
 have g2':js.toArray[j]=u2:=by simpa [i5] using (i5.mp g2).2
 rw[g1',g2'];exact ih _ _ _ _ q1 q2 (h j _ _ (i4 j1) (i4 j2))
def BO(rx:RelV x u)(ry:RelV x v)(h:jn x=true∨∃a,x = .ref a):SeqAt.EqAt A s u v true:=by
 rcases h with f|⟨a,rfl⟩
 ·have:=z0 (A:=A) (s:=s) rx ry f f;rwa [GJ f] at this
 ·cases rx;cases ry;exact SeqAt.EqAt.same _
theorem uT(I:Inv X pins Z H s):∀(n:Nat) (A:Around) (x y:V) (u v:Value),A.units+n<cLine->RelV x u->RelV y v->qm X.K H n x y->SeqAt.EqAt A s u v true
 |0,A,x,y,u,v,_,rx,ry,⟨e,f⟩=>by subst e;exact BO rx ry f
 |n+1,A,x,y,u,v,hu,rx,ry,h=>by
  rcases h with ⟨e,f⟩|⟨a,b,xs,ys,rfl,rfl,hs,hl,hj⟩
  ·subst e;exact BO rx ry f
  ·cases rx;cases ry;by_cases ne:a=b
   ·subst ne;exact SeqAt.EqAt.same _
   have ih:=λx y u v=>uT I n A.in1 x y u v (by show A.units+1+n<cLine;lia);rcases hs with ⟨h1,h2⟩|⟨h1,h2⟩
   ·obtain⟨is,r1,p1,_⟩:=I.list h1;obtain⟨js,r2,p2,_⟩:=I.list h2;obtain⟨o1,n1,e1,c1,_,d1⟩:=p1;obtain⟨o2,n2,e2,c2,_,d2⟩:=p2;have sz:is.toArray.size=js.toArray.size:=by simp[← r1.length,← r2.length,hl]
    have:=SeqAt.EqAt.of_refs ne (SeqAt.RcAt.lists ⟨o1,e1,c1,n1,d1⟩ ⟨o2,e2,c2,n2,d2⟩ sz (by lia) (oG ih r1 r2 hj));have z:((List.range is.toArray.size).all λ_=>true)=true:=List.all_eq_true.mpr λ_ _=>rfl;rwa [z] at this
   ·obtain⟨is,r1,p1,_⟩:=I.tuple h1;obtain⟨js,r2,p2,_⟩:=I.tuple h2;obtain⟨o1,e1,c1,n1,d1⟩:=p1;obtain⟨o2,e2,c2,n2,d2⟩:=p2;have:=SeqAt.EqAt.of_refs ne (SeqAt.RcAt.tuples ⟨o1,e1,c1,n1,d1⟩ ⟨o2,e2,c2,n2,d2⟩ (by lia) (oG ih r1 r2 hj));have z:(((List.range (min is.toArray.size js.toArray.size)).all λ_=>true) && is.toArray.size == js.toArray.size)=true:=by simp[← r1.length,← r2.length,hl]
    rwa [z] at this
end
section
variable {X:Cx}
end
def hu4(hr:fh k A):A.units+4<cLine:=ak4 (Nat.add_le_add_left (by decide:4<=64) _) hr.units
end L2
namespace PySem
namespace F
def Dg:typeLookup (.type "list_reverseiterator") "__len__" = pure none:=by rw[typeLookup_type,builtinLookup_eq_fast];kernel_rfl
def HN:typeLookup (.type "list_reverseiterator") "__length_hint__" = pure (some (.builtin "list_reverseiterator.__length_hint__")):=by rw[typeLookup_type,builtinLookup_eq_fast];kernel_rfl
end F
section
variable {prog:Program}{w:World}{A:Around}{s:Shared}{R:Result->Shared->Prop}
variable {I:Addr}{fp wr:List Addr}{G:Array GenState->Array GenState->Prop}{n:Nat}{P:Nat->Value->Prop}{St:Nat->Shared->Prop}
def Af (W:WalksS prog w A.in1 I fp wr G n P St) (hT:∀i s,St i s->s.TypeIs (.ref I) "list_reverseiterator") (S:Addr) (res:Value) (c₀:Nat) (hst:St 0 s) (hSf:S∉fp) (hI:I∈fp)
  (hS:s.heap.get? S=some { cls:=.type "list",data:=.seq #[] c₀ })
  (hR:∀s' acc' c',Moved (S::wr) G s s'->s'.heap.get? S=some { cls:=.type "list",dict:=none,data:=.seq acc' c',slots:=#[] }->ItemsOf P acc' n->R (.ok (.ret res)) s') (hn:n<=sizeLine) :
  wpAny (model prog w) A.in1 (Builtin.List.listExtendWith (.ref S) (.ref I) res)
   (λfin s'=>match fin with | .done f=>R (.ok f) s' | .again c'=>c'.quiet=true/\codeAny (model prog w) A c' R s') (λe s'=>R (.error e) s') s:=by
 have hSI:S≠I:=λe=>hSf (e ▸ hI);unfold Builtin.List.listExtendWith;refine v3 (wpAny_typeOf (hT 0 _ hst) ?_);have h1:Builtin.List.listSameRef (.ref S) (.ref I)=false:=by simp[Builtin.List.listSameRef,hSI]
 rw[if_neg (by rw[h1];decide)];refine v3 (W.self 0 _ _ _ hst ?_);refine v3 (ae4 ?_);unfold Builtin.List.listLengthHint;refine v3 (wpAny_specialOf (hT 0 _ hst) F.Dg ?_);show wpAny _ A.in1 (specialOf (Value.ref I) (Str.ofString "__length_hint__") >>= _) _ _ _;refine v3 (wpAny_specialOf (hT 0 _ hst) F.HN ?_)
 (generalize hid:("list_reverseiterator.__length_hint__" : String)=id0;(fail_if_success (clear hid id0));wp_delta;rw[show splitId id0=some ("list_reverseiterator","__length_hint__") from by subst hid;decide +kernel];subst hid)
 refine v3 (wpAny_isInstance (b:=true) (hT 0 _ hst) (by rw[isSubtype_type];kernel_rfl) ?_);refine T1 ?_;rw[if_neg (by decide)];refine T1 ⟨plainId_quiet F.plain_extend_loop _,codeAny_extend_loopS W hn _ hSf _ n 0 _ _ _ rfl (X5 _) hst hS (ItemsOf.nil P) λs' acc' c' hm hS' hacc=>?_⟩;exact hR s' acc' c' hm hS' hacc
def Hh (W:WalksS prog w A.in1 I fp wr G n P St) (hT:∀i s,St i s->s.TypeIs (.ref I) "list_reverseiterator") (S:Addr) (hst:St 0 s) (hSf:S∉fp) (hI:I∈fp)
  (hS:s.heap.get? S=some { cls:=.type "list",data:=.seq #[] })
  (hR:∀s' acc' c',Moved (S::wr) G s s'->s'.heap.get? S=some { cls:=.type "list",dict:=none,data:=.seq acc' c',slots:=#[] }->ItemsOf P acc' n->R (.ok (.ret .none)) s') (hn:n<=sizeLine) :
  wpAny (model prog w) A.in1 (Builtin.«list.__init__» ⟨[.ref S,.ref I],[]⟩)
   (λfin s'=>match fin with | .done f=>R (.ok f) s' | .again c'=>c'.quiet=true/\codeAny (model prog w) A c' R s') (λe s'=>R (.error e) s') s:=by
 show wpAny _ A.in1 (Builtin.List.listItems (.ref S) >>= λold=>Builtin.List.listUpdate (.ref S) (λ_=>#[]) >>= λ_=>letGo old.toList.reverse >>= λ_=>Builtin.List.listExtendWith (.ref S) (.ref I) .none) _ _ s;refine v3 ?_;unfold Builtin.List.listItems;refine v3 (wpAny_seqItems hS rfl (T1 ?_));show wpAny _ A.in1 (updateSeq S (λ_=>#[]) >>= λ_=>letGo (#[]:Array Value).toList.reverse >>= λ_=>Builtin.List.listExtendWith (.ref S) (.ref I) .none) _ _ s;refine v3 (wpAny_updateSeq hS rfl ?_);have hS₂:=ad1 (Obj.mapSeq (λ_=>(#[]:Array Value))) hS rfl;have oth:∀b o,b≠S->s.heap.get? b=some o->(s.heap.update S (Obj.mapSeq (λ_=>(#[]:Array Value)))).get? b=some o :=
  λb o hb e=>(aa6 _ _ (aa3 hb)).trans e
 refine v3 (wpAny_letGo ?_);refine Af (hn:=hn) W hT S .none _ (W.frame 0 s _ s.toks hst (M2 _) λb hb o e=>oth b o (λh=>hSf (h ▸ hb)) e) hSf hI hS₂ λs' acc' c' hm hS' hacc=>?_;exact hR s' acc' c' (Moved.trans W.gtrans ((Moved.refl W.grefl).then_heap (M2 _) λb o hb e=>oth b o (λh=>hb (h ▸ X9)) e) hm) hS' hacc
end
section
variable {prog:Program}{w:World}{A:Around}{E:Value->Shared->Prop}{s:Shared}
def ur(hh:A.handled=none)(hne:l≠I)(hi:s.heap.IsRevIter I l ((items.size:Int)-1))(hl:s.heap.IsList l items)(hn:items.size<=sizeLine)
  (hQ:∀h' tk acc' c',(∀b o,b≠I->s.heap.get? b=some o->h'.get? b=some o)->h'.get? s.heap.objs.size=some { cls:=.type "list",dict:=none,data:=.seq acc' c',slots:=#[] } ->
   ItemsOf (λi v=>items[items.size-1-i]?=some v) acc' items.size->Q (.ref s.heap.objs.size) { s with heap:=h',toks:=tk }) :
  wpAny (model prog w) A (call (.type "list") [.ref I]) Q E s:=by
 have W:=(Walks.listRev (prog:=prog) (w:=w) (A:=A.in1.in1) hh I l hne items).toS;have lI:I<s.heap.objs.size:=by obtain⟨_,e,_⟩:=hi;exact B2 e
 have ll:l<s.heap.objs.size:=by obtain⟨_,e,_⟩:=hl;exact B2 e
 have hSf:s.heap.objs.size∉[I,l]:=λz=>by
  rcases y0.mp z with e|e
  ·exact ak9 lI e
  ·exact ak9 ll (v6.mp e)
 have hst:(0:Nat)<=items.size/\s.heap.IsRevIter I l ((items.size:Int)-1-((0:Nat):Int))/\s.heap.IsList l items:=⟨X5 _,by simpa using hi,hl⟩
 refine callType_codes (Q₁:=λobj s₁=>obj = .ref s.heap.objs.size/\s₁ = { s with heap:=s.heap.push { cls:=.type "list",data:=.seq #[] } }) F.called_list (F.typeCall_list_1 _) F.entry_list_init
  (code_list_new _ ⟨rfl,rfl⟩) λobj s₁ h₁=>?_
 obtain⟨rfl,rfl⟩:=h₁;have hS:(s.heap.push { cls:=.type "list",data:=.seq #[] }).get? s.heap.objs.size=some { cls:=.type "list",data:=.seq #[] }:=Z0 _ rfl;refine⟨⟨_,hS,rfl⟩,F.args_list_init_2 _ _,Hh (A:=A.in1) (hn:=hn) W (λi s st=>st.2.1.typeIs) _ (W.frame 0 s _ s.toks hst (M2 _) λb _ o e=>u3 _ e) hSf (by simp) hS λs' acc' c' hm hS' hacc=>?_⟩;rw[Moved.eq_with hm];refine⟨rfl,hQ s'.heap s'.toks acc' c' (λb o hb e=>?_) hS' hacc⟩;refine hm.heap b o (λhmem=>?_) (u3 _ e);rcases y0.mp hmem with z|z
 ·exact absurd (B2 e) (by rw[z];exact ad6 _)
 ·exact hb (v6.mp z)
end
end PySem
namespace L2
open PySem PySem.Spec PyProof.Rows
def Inv.Ld{ch:List Addr}(I:Inv X pins Z H s)(k:∀b o,b∉ch->s.heap.get? b=some o->h'.get? b=some o)(hn:∀b∈ch,H b=none)
  (hL:∀b∈ch,b≠X.env.locals) (h1:∀b∈ch,b∈X.ex∨X.s₀.heap.objs.size<=b) (h2:∀b∈ch,∀x c,X.env.cells.lookup x=some c->c≠b) (h3:∀b∈ch,∀p∈X.pn++pins,p.1≠b) :
  Inv X pins Z H { s with heap:=h',toks:=t' }:=by
 have nit:∀b u,H b=some u->b∉ch:=λb u e z=>by rw[hn b z] at e;cases e
 refine I.step (g':=s.gens) (d':=s.drawn) (ch:=ch) (λb hb=>⟨h1 b hb,hL b hb,h2 b hb,h3 b hb⟩) (λb o _ _ hc e _=>k b o hc e) (λb o _ _ hc e _=>⟨o.slots,k b o hc e⟩) (λ_ _ _ _ n=>n)
  (λb o hc e=>⟨o,k b o hc e⟩) (λ_ _ e=>e) (λ_ _ _ e=>e) (λb ps e=>⟨#[],by rw[e];simp⟩) (λm hm=>?_) (λb u e=>?_) I.bare
 ·obtain⟨o,es,ep,ho,r⟩:=hm;exact⟨o,es,ep,k _ o (λz=>hL _ z rfl) ho,r⟩
 ·refine(I.hok b u e).stay (λc v hc q=>k c v ?_ q) (λ_ q=>q) λ_ _ q=>q;rcases hc with z|z
  ·rw[z];exact nit b u e
  ·exact nit c _ z
def Ww(K:PySem.W.Frag)(a b:Addr):It :=
 ⟨λi H=>∃xs ys x y,bq K H a xs/\bq K H b ys/\xs[i]?=some x/\ys[i]?=some y,
  λi H x H'=>∃p v u,H p=none/\x = .ref p/\H'=upd H p (.tup [v,u])/\(∀xs,bq K H a xs->xs[i]?=some v)/\∀ys,bq K H b ys->ys[i]?=some u,
  λi H=>∃xs ys,bq K H a xs/\bq K H b ys/\(xs.length<=i∨ys.length<=i)⟩
def GX{P:Program}{w:World}{K:PySem.W.Frag}{elts:List Expr}{x1}{pos:Pos}(a b z TI TO i1 i2:Addr)(D:ZipApart z TI TO i1 i2 a b) :
  Turn P w K (.Tuple elts x1 pos) (Ww K a b) [z,TI,TO,i1,i2] z (λi h=>∃v u,IsZip h z TI TO .none/\IsPair h TI (.ref i1) (.ref i2)/\IsPair h TO v u/\h.IsListIter i1 a i/\h.IsListIter i2 b i) where
 mem:=by simp
 obj:=λi h st c hc=>by
  obtain⟨v,u,hz,hI,hO,h1,h2⟩:=st;simp only[y0,X1,ac3] at hc;rcases hc with e|e|e|e|e
  ·subst e;exact⟨_,hz,λv q=>by cases q⟩
  ·subst e;exact⟨_,hI,λv q=>by cases q⟩
  ·subst e;exact⟨_,hO,λv q=>by cases q⟩
  ·subst e;obtain⟨o,e,c,d⟩:=h1;exact⟨o,e,λv q=>by rw[d] at q;cases q⟩
  ·subst e;obtain⟨o,e,c,d⟩:=h2;exact⟨o,e,λv q=>by rw[d] at q;cases q⟩
 keep:=λi h h' st k=>by obtain⟨v,u,hz,hI,hO,h1,h2⟩:=st;exact⟨v,u,k z (by simp) _ hz,k TI (by simp) _ hI,k TO (by simp) _ hO,h1.at λo q=>k i1 (by simp) o q,h2.at λo q=>k i2 (by simp) o q⟩
 item:=by
  intro X hP hw hK hc i pins s Z H E I hf st hg;subst hP hw hK;obtain⟨v0,u0,hz,hI,hO,h1,h2⟩:=st;obtain⟨xs,ys,x,y,hq1,hq2,hx,hy⟩:=hg;obtain⟨is,r1,p1,z1⟩:=I.list hq1;obtain⟨js,r2,p2,z2⟩:=I.list hq2;obtain⟨u,hu,ru⟩:=r1.get hx;obtain⟨v,hv,rv⟩:=r2.get hy;have fz:=hf z (by simp);have fI:=hf TI (by simp);have fO:=hf TO (by simp);have f1:=hf i1 (by simp);have f2:=hf i2 (by simp);refine wpAny_pyNext_zip_item D hz hI hO h1 h2 p1.isList p2.isList (x:=u) (y:=v) (by simpa using hu) (by simpa using hv) λg1 gz gO ga gb gT hsz hk=>?_;refine⟨_,rfl,wpAny_letOwnedTupleGo_zip (s:={ s with heap:=g1 }) gz λg2 en sb=>?_⟩;have lz:z≠s.heap.objs.size:=T0 (B2 hz);have lI:TI≠s.heap.objs.size:=T0 (B2 hI);have lO:TO≠s.heap.objs.size:=T0 (B2 hO);have l1:i1≠s.heap.objs.size:=by obtain⟨o,q,_⟩:=h1;exact T0 (B2 q)
  have l2:i2≠s.heap.objs.size:=by obtain⟨o,q,_⟩:=h2;exact T0 (B2 q)
  have k2:∀c o,c∉[z,TI,TO,i1,i2]->s.heap.get? c=some o->g2.get? c=some o:=λc o n q=>by simp only[y0,X1,ac3,not_or] at n;exact(sb.2 c n.1).trans (hk c o n.1 n.2.2.1 n.2.2.2.1 n.2.2.2.2 q)
  have fresh:=I.hok.fresh (M2 s.heap.objs.size);have I1:Inv X pins Z (upd H s.heap.objs.size (.tup [x,y])) { s with heap:=g2 }:=by
   refine I.step (g':=s.gens) (d':=s.drawn) (t':=s.toks) (ch:=[z,TI,TO,i1,i2]) (λb hb=>?_) (λb o _ _ hc q _=>?_) (λb o _ _ hc q _=>?_) (λb o hc q n=>?_) (λb o hc q=>?_) (λb ys q=>?_) (λb o ys q=>?_) (λb ps q=>?_) (λm hm=>?_) (λb u' q=>?_) I.bare
   ·have f:=hf b hb;exact⟨f.2.2.2.1,f.2.1,f.2.2.2.2.1,f.2.2.2.2.2⟩
   ·exact k2 b o hc q
   ·exact⟨o.slots,k2 b o hc q⟩
   ·rw[aj (T0 (B2 q))];exact n
   ·exact⟨o,k2 b o hc q⟩
   ·rw[aj (av q fresh)];exact q
   ·rw[aj (av q fresh)];exact q
   ·exact⟨#[],by rw[aj (av q fresh),q];simp⟩
   ·obtain⟨o,es,ep,ho,r⟩:=hm;refine⟨o,es,ep,k2 _ o (λn=>?_) ho,r⟩;exact(hf _ n).2.1 rfl
   ·by_cases hb:b=s.heap.objs.size
    ·subst hb;rw[af] at q;cases q;refine⟨by show 2<=sizeLine;decide,[u,v],.cons ru (.cons rv .nil),⟨_,(sb.2 _ (aa3 lz)).trans gT,rfl,_,rfl⟩⟩
    ·rw[aj hb] at q;refine(I.hok b u' q).stay (λc v hc' r=>k2 c v (λn=>?_) r) (λc r=>by rw[aj (av r fresh)];exact r) λc ys r=>by rw[aj (av r fresh)];exact r
     have n0:=(hf c n).1;rcases hc' with e|e
     ·rw[e] at n0;rw[n0] at q;cases q
     ·rw[n0] at e;cases e
  refine⟨.ref s.heap.objs.size,_,I1,rfl,⟨_,x,y,fresh,rfl,rfl,λzs hs=>by rw[I.oK hs hq1];exact hx,λzs hs=>by rw[I.oK hs hq2];exact hy⟩,⟨u,v,en,?_,?_,?_,?_⟩,λc hc=>?_⟩
  ·exact(sb.2 TI D.TIz).trans (hk _ _ D.TIz D.TITO D.TIi1 D.TIi2 hI)
  ·exact(sb.2 TO D.TOz).trans gO
  ·obtain⟨o,q,r⟩:=ga;exact⟨o,(sb.2 i1 D.i1z).trans q,r⟩
  ·obtain⟨o,q,r⟩:=gb;exact⟨o,(sb.2 i2 D.i2z).trans q,r⟩
  ·have hb':=(hf c hc).1;simp only[y0,X1,ac3] at hc;rw[aj]
   ·exact hb'
   ·rcases hc with e|e|e|e|e <;> rw[e] <;> assumption
 done:=by
  intro X hP hw hK hc i pins s Z H E I hf st hg;subst hP hw hK;obtain⟨v0,u0,hz,hI,hO,h1,h2⟩:=st;obtain⟨xs,ys,hq1,hq2,hx⟩:=hg;obtain⟨is,r1,p1,z1⟩:=I.list hq1;obtain⟨js,r2,p2,z2⟩:=I.list hq2;have e1:=r1.length;have e2:=r2.length;refine wpAny_pyNext_zip_end (I.ok.hd hc) D hz hI hO h1 h2 p1.isList p2.isList (by rcases hx with h|h;(left;simp;lia);(right;simp;lia)) λh' eb=>⟨rfl,?_⟩
  refine I.Ld (t':=s.toks) (ch:=[z,TI,TO,i1,i2]) (λb o hb e=>?_) (λb hb=>(hf b hb).1) (λb hb=>(hf b hb).2.1) (λb hb=>(hf b hb).2.2.2.1) (λb hb=>(hf b hb).2.2.2.2.1) λb hb=>(hf b hb).2.2.2.2.2;simp only[y0,X1,ac3,not_or] at hb;exact eb b o hb.1 hb.2.2.1 hb.2.2.2.1 hb.2.2.2.2 e
 self:=λ_ _ _ _ _ st h=>by obtain⟨v,u,hz,hI,hO,h1,h2⟩:=st;exact wpAny_pyIter_zip hz h
def DW(h:l<n)(h':m<n):ZipApart (n+4) (n+2) (n+3) n (n+1) l m:=by constructor <;> (intro e;have e:(_:Nat)=_:=e;lia)
section
variable {X:Cx}
def Xb(K:PySem.W.Frag)(ta:TA):TI:=λZ H R=>ta Z H λvs H1=>∃a b xs ys,vs=[.ref a,.ref b]/\bq K H1 a xs/\bq K H1 b ys/\R (Ww K a b) H1
def QA      (hg:Gl X "zip") (hm:X.mg "zip" = none) (ha:PA X [a,b] ta) (hs:autoParam (starEach [a,b] X.env=(false,eval a X.env)::starEach [b] X.env) L2.Y3._auto_1) (hs2:autoParam ((backTo pos (starEach [b] X.env)).any (·.1)=false) L2.Y3._auto_1) :
  PI X (.Tuple elts x1 tp) (.Call (.Name "zip" p) [a,b] [] pos) (Xb X.K ta):=by
 intro pins s Z H R I h;refine Call_ (mh I hg hm (show bootBuiltins "zip" = some (.type "zip") by decide +kernel) (ac8 (cM (ha pos pins s Z H _ I h) λus s1 hY=>?_) hs hs2));obtain⟨vs,H1,I1,r1,q1⟩:=hY;obtain⟨l,m,xs,ys,rfl,hq1,hq2,q⟩:=q1;obtain⟨u,v,rfl,ru,rv⟩:=r1.two;cases ru;cases rv;obtain⟨is,_,p1,_⟩:=I1.list hq1;obtain⟨js,_,p2,_⟩:=I1.list hq2;refine call_zip_2 p1.isList p2.isList λh' hz hI hO h1 h2 hsz hk=>?_;refine wpAny_pyIter_zip (s:={ s1 with heap:=h' }) hz ?_;have ll:l<s1.heap.objs.size:=by obtain⟨_,e,_⟩:=p1.isList;exact B2 e
 have lm:m<s1.heap.objs.size:=by obtain⟨_,e,_⟩:=p2.isList;exact B2 e
 refine⟨s1.heap.objs.size+4,[s1.heap.objs.size+4,s1.heap.objs.size+2,s1.heap.objs.size+3,s1.heap.objs.size,s1.heap.objs.size+1],_,_,H1,rfl,I1.kept (t':=s1.toks) hk,GX l m _ _ _ _ _ (DW ll lm),⟨_,_,hz,hI,hO,h1,h2⟩,λb hb=>?_,q⟩;have hb':s1.heap.objs.size<=b:=by
  simp only[y0,X1,ac3] at hb;rcases hb with e|e|e|e|e <;> rw[e]
  ·exact ac5 _ _
  ·exact ac5 _ _
  ·exact ac5 _ _
  ·exact M2 _
  ·exact ac5 _ _
 exact I1.CJ hb' (I1.hok.fresh hb')
def G2{K:PySem.W.Frag}(Pv:Nat->St->Hp->Prop)(h0:Pv 0 Z H)(hl:∀i Z H,i<=xs.length->i<=ys.length->Pv i Z H->bq K H a xs/\bq K H b ys)
  (hs:∀i x y p Z H,xs[i]?=some x->ys[i]?=some y->H p=none->Pv i Z H->g (.ref p) Z (upd H p (.tup [x,y])) λZ2 H2=>tb { D with nx:=Pv (i+1),ct:=Pv (i+1),bk:=D.nx } Z2 H2)
  (hd:∀i Z H,(i=xs.length∨i=ys.length)->i<=xs.length->i<=ys.length->Pv i Z H->D.nx Z H):Jr (Ww K a b) g tb D Z H:=by
 refine⟨λi m Z H=>m=xs.length-i/\i<=xs.length/\i<=ys.length/\Pv i Z H,⟨xs.length,by simp,X5 _,X5 _,h0⟩,?_⟩;rintro i m Z H ⟨rfl,hi,hj,p⟩;obtain⟨q1,q2⟩:=hl i Z H hi hj p;by_cases h1:i<xs.length
 ·by_cases h2:i<ys.length
  ·refine .inr ⟨⟨xs,ys,xs[i],ys[i],q1,q2,by simp[h1],by simp[h2]⟩,Pv (i+1),λZ' H' p'=>⟨xs.length-(i+1),by lia,rfl,h1,h2,p'⟩,λx H' y=>?_⟩;obtain⟨pp,v,u,e1,rfl,rfl,e2,e3⟩:=y;exact hs i v u pp Z H (e2 xs q1) (e3 ys q2) e1 p
  ·exact .inl ⟨⟨xs,ys,q1,q2,.inr (by lia)⟩,hd i Z H (.inr (by lia)) hi hj p⟩
 ·exact .inl ⟨⟨xs,ys,q1,q2,.inl (by lia)⟩,hd i Z H (.inl (by lia)) hi hj p⟩
def FL(r:Vals xs is)(hi:ItemsOf (λi v=>is.toArray[is.toArray.size-1-i]?=some v) acc is.toArray.size):Vals xs.reverse acc.toList:=by
 have e:acc.toList=is.reverse:=by
  apply ah6;intro i;have hz:acc.size=is.length:=by have:=hi.1;simpa using this
  by_cases hlt:i<is.length
  ·have hi':i<acc.size:=by rw[hz];exact hlt
   have h2:=hi.2 i acc[i] (by simp[hi']);rw[List.getElem?_reverse hlt];have h2:is[is.length-1-i]?=some acc[i]:=by simpa using h2
   rw[h2];simp[hi']
  ·rw[ac7 (by simp;lia),ac7 (by simp;lia)]
 rw[e];clear e hi;induction r with
 |nil=>exact .nil
 |cons h t ih =>
  rw[List.reverse_cons,List.reverse_cons];exact ih.append (.cons h .nil)
def JR(K:PySem.W.Frag)(ta:TA):TE:=λZ H Q=>ta Z H λvs H1=>∃l xs,vs=[.ref l]/\bq K H1 l xs/\∀r,H1 r=none->Q (.ref r) (upd H1 r (.lst xs.reverse))
def rQ    (hc:X.calm=true) (hg:Gl X "list") (hm:X.mg "list" = none) (hg2:Gl X "reversed") (hm2:X.mg "reversed" = none) (ha:PA X [a] ta)
  (hs:autoParam (starEach [.Call (.Name "reversed" p2) [a] [] pos2] X.env=[(false,eval (.Call (.Name "reversed" p2) [a] [] pos2) X.env)]) L2.Y3._auto_1) (hs2:autoParam (starEach [a] X.env=[(false,eval a X.env)]) L2.Y3._auto_1) :
  PE X (.Call (.Name "list" p) [.Call (.Name "reversed" p2) [a] [] pos2] [] pos) (JR X.K ta):=by
 intro pins s Z H Q I h;refine Call_ (mh I hg hm (show bootBuiltins "list" = some (.type "list") by decide +kernel) (ac8 ?_ hs rfl));rw[hs];show wpAny _ _ (spliced [(false,eval (.Call (.Name "reversed" p2) [a] [] pos2) X.env)]) _ _ s;refine ag7 ?_;refine Call_ (mh I hg2 hm2 (show bootBuiltins "reversed" = some (.type "reversed") by decide +kernel) (ac8 (cM (ha pos2 pins s Z H _ I h) λus s1 hY=>?_) hs2 rfl));obtain⟨vs,H1,I1,r1,q1⟩:=hY;obtain⟨l,xs,rfl,hq,q⟩:=q1;obtain⟨u,rfl,ru⟩:=r1.one;cases ru;obtain⟨is,rv,pl,hz⟩:=I1.list hq;refine call_reversed_list pl.isList (Calls.spliced_nil ?_);have ll:l<s1.heap.objs.size:=by obtain⟨_,e,_⟩:=pl.isList;exact B2 e
 refine ur (I.ok.hd hc) (T0 ll) ⟨_,Z0 _ rfl,rfl,rfl⟩ (pl.isList.push _) (by have:=rv.length;simp;lia) λh' tk acc c kp e hi=>?_;have sz:(s1.heap.push (revObj l ((is.toArray.size:Int)-1))).objs.size=s1.heap.objs.size+1:=ai7 ..;have hlen:xs.length<=sizeLine:=hz;have k2:∀b u,s1.heap.get? b=some u->h'.get? b=some u:=λb u eb=>kp b u (T0 (B2 eb)) (u3 _ eb);have hp:s1.heap.objs.size<=(s1.heap.push (revObj l ((is.toArray.size:Int)-1))).objs.size:=by rw[sz];exact ac5 _ _
 refine⟨.ref _,_,I1.laid (t':=tk) (o:=.lst xs.reverse) k2 hp (show b9 X.prog X.w _ h' _ (.lst xs.reverse) from ⟨by rw[ae1];exact hlen,acc.toList,c,FL rv hi,by simpa using e⟩),rfl,q _ (I1.hok.fresh hp)⟩
end
end L2
namespace L2
open PySem PySem.Spec PyProof.Rows
variable {X:Cx}
inductive VT(K:PySem.W.Frag)(x:V)(y:V)(H:Hp)(Q:VK):Prop|mk(a b xs ys)(_:x = .ref a)(_:y = .ref b)(_:fB K H a xs)(_:fB K H b ys)(_:xs.length=ys.length)(_:pQ xs ys)(_:Q (.bl (decide (xs=ys))) H)
def LD(hu:X.A.units<cLine):mZ X (compareOp .Eq) (VT X.K):=by
 intro pins s Z H x y v u Q I rx ry h;obtain⟨a,b,xs,ys,rfl,rfl,ha,hb,hl,hp,q⟩:=h;cases rx;cases ry;obtain⟨is,r1,p1,_⟩:=I.tuple ha;obtain⟨js,r2,p2,_⟩:=I.tuple hb;obtain⟨o1,e1,c1,n1,d1⟩:=p1;obtain⟨o2,e2,c2,n2,d2⟩:=p2;have l1:=r1.length;have l2:=r2.length;refine PySem.SeqAt.eq_tupleAt (e:=λj=>decide (xs[j]?=ys[j]?)) ⟨o1,e1,c1,n1,d1⟩ ⟨o2,e2,c2,n2,d2⟩ hu (qU hp r1 r2) ?_;have z1:is.toArray.size=xs.length:=by simp[← l1]
 have z2:js.toArray.size=xs.length:=by simp[← l2,hl]
 rw[z1,z2,Nat.min_self,beq_self_eq_true,Bool.and_true,yR hl];exact⟨.bl _,H,I,rfl,q⟩
end L2
namespace L2
open PySem PySem.Spec PyProof.Rows
section
variable {prog:Program}{w:World}{A:Around}{E:Value->Shared->Prop}{s:Shared}
set_option maxRecDepth 100000 in
end
section
variable {X:Cx}
end
end L2
namespace HT
open PySem PyProof.Rows
def dY:List Int->List Int->Bool
 | [],[]=>false
 | [],_::_=>false
 |_::_,[]=>true
 |x::xs,y::ys=>if x=y then dY xs ys else decide (x>y)
def iH(x y:Int)(xs ys:List Int):dY (x::xs) (y::ys)=if x=y then dY xs ys else decide (x>y):=rfl
def uo:dY [] []=false:=rfl
def tQ(y:Int)(ys:List Int):dY [] (y::ys)=false:=rfl
def tX(x:Int)(xs:List Int):dY (x::xs) []=true:=rfl
def Gu(A:Around)(s:Shared)(a:Int)(t:Tok)(c:Int)(u:Tok)(prog:Program)(w:World)(E:Value->Shared->Prop)(Q:Value->Shared->Prop)(h:Q (.bool (decide (a>c))) s) :
  wpAny (model prog w) A (richCompare .Gt (.int a t) (.int c u)) Q E s :=
 (PyProof.Rows.gt_int h:wpAny (model prog w) A (compareOp .Gt (.int a t) (.int c u)) Q E s)
section
open PySem.SeqAt
open PySem.AutoSeq1 (wpAny_loadPart')
open PySem.MeetsSeq PySem.MeetsSeq2 PySem.MeetsSeq3
def uf(l b:Addr)(items items2:Array Value)(n n2:Nat)(dd dd2:Option Addr)(sl sl2:Array (Option Value))(ns ms:List Int)(hi:IntsAre items.toList ns)(hj:IntsAre items2.toList ms) :
  Meets (Builtin.«tuple.__gt__» ⟨[.ref l,.ref b],[]⟩)
   (λ_ R s=>s.heap.get? l=some { cls:=.type "tuple",dict:=dd,data:=.seq items n,slots:=sl }/\s.heap.get? b=some { cls:=.type "tuple",dict:=dd2,data:=.seq items2 n2,slots:=sl2 } /\
    R (.ok (.ret (.bool (dY ns ms)))) s) :=
 .of_wp λprog w A R s h=>by
  obtain⟨hp,g,d,tk,os⟩:=s;obtain⟨hl,hb,h⟩:=h;have f2:=AutoSeq1.sub_tuple_tuple;have z1:items.size=ns.length:=by rw[← hi.length];simp
  have z2:items2.size=ms.length:=by rw[← hj.length];simp
  wp_walk using af9 hl,af9 hb,wpAny_forIn_list _ (λrest b s'=>b.1=none/\s'=⟨hp,g,d,tk,os⟩/\∃(vs ws:List Value) (ns' ms':List Int),rest=vs.zip ws /\
   IntsAre vs ns'/\IntsAre ws ms'/\ns'.length+items2.size=ms'.length+items.size/\R (.ok (.ret (.bool (dY ns' ms')))) ⟨hp,g,d,tk,os⟩) _
  case turn =>
   rintro⟨y,x⟩ rest b s' ⟨hb',rfl,vs,ws,ns',ms',hz,hvi,hwi,hlen,hR⟩;cases hvi with
   |nil=>rw[List.zip_nil_left] at hz;cases hz
   |cons a t hvi' =>
    cases hwi with
    |nil=>rw[List.zip_nil_right] at hz;cases hz
    |cons c u hwi' =>
     rw[ak3] at hz;injection hz with hyx hrest
     injection hyx with hy hx
     subst hy hx;rw[iH] at hR;simp only[x0] at hlen;obtain⟨e,he,hiff⟩:=xH A.in1 ⟨hp,g,d,tk,os⟩ a t c u;refine v3 (he prog w _ _ ?_);cases e with
     |true =>
      rw[if_pos (hiff.mp rfl)] at hR
      wp_walk
      exact⟨rfl,rfl,_,_,_,_,hrest,hvi',hwi',by lia,hR⟩
     |false =>
      rw[if_neg (λq=>absurd (hiff.mpr q) X4)] at hR;have hri:=Gu A.in1 ⟨hp,g,d,tk,os⟩ a t c u prog w
      wp_walk using hri
      exact⟨_,rfl,by simpa using hR⟩
  case fin =>
   rintro⟨b1,b2⟩ s' ⟨hb',rfl,vs,ws,ns',ms',hz,hvi,hwi,hlen,hR⟩;simp only at hb';subst hb';have hv:dY ns' ms'=decide (items2.size<items.size):=by
    cases hvi with
    |nil =>
     cases hwi with
     |nil =>
      simp only[Y7] at hlen;rw[uo];exact(Z9 (by lia)).symm
     |cons c u hw =>
      simp only[Y7,x0] at hlen;rw[tQ];exact(Z9 (by lia)).symm
    |cons a t hv =>
     cases hwi with
     |nil =>
      simp only[Y7,x0] at hlen;rw[tX];exact(ab8 (by lia)).symm
     |cons c u hw =>
      rw[ak3] at hz;cases hz
   rw[hv] at hR
   wp_walk
   exact⟨_,rfl,by simpa [Builtin.Tuple.tupleCompareSizes] using hR⟩
  case h =>
   exact⟨rfl,rfl,items.toList,items2.toList,ns,ms,rfl,hi,hj,by lia,h⟩
end
section
variable {prog:Program}{w:World}{A:Around}{E:Value->Shared->Prop}{s:Shared}
def AB(hl:IsTup s.heap l items)(hb:IsTup s.heap b items2)(hi:IntsAre items.toList ns)(hj:IntsAre items2.toList ms)
  (hu:A.units<cLine) (h:Q (.bool (dY ns ms)) s):wpAny (model prog w) A (compareOp .Gt (.ref l) (.ref b)) Q E s:=by
 obtain⟨⟨cls,dd,data,sl⟩,ho,hc,n,hd⟩:=id hl;obtain⟨⟨cls2,dd2,data2,sl2⟩,ho2,hc2,n2,hd2⟩:=id hb;simp only at hc hd hc2 hd2;subst hc hd hc2 hd2;exact richCompare_meets_room (op:=.Gt) ⟨_,ho,rfl⟩ ⟨_,ho2,rfl⟩ PySem.F.slot_tuple_gt PySem.F.entry_tuple_gt (PySem.F.args_tuple_gt_2 _ _) (uf l b items items2 n n2 dd dd2 sl sl2 ns ms hi hj)
  ⟨ho,ho2,show Value.bool (dY ns ms)≠Value.notImplemented/\Q (.bool (dY ns ms)) s from ⟨(λx=>nomatch x),h⟩⟩ hu
end
end HT
namespace L2
open PySem PySem.Spec PyProof.Rows
variable {X:Cx}
theorem pA:∀{ns:List Int} {us:List Value},Vals (ns.map V.int) us->PyProof.Rows.IntsAre us ns
 | [],_,.nil=>.nil
 |n::ns,_,.cons h t=>by obtain⟨k,rfl⟩:=h;exact .cons _ _ (pA t)
inductive Vy(K:PySem.W.Frag)(x:V)(y:V)(H:Hp)(Q:VK):Prop|mk(a b ns ms)(_:x = .ref a)(_:y = .ref b)(_:fB K H a (ns.map V.int))(_:fB K H b (ms.map V.int))(_:Q (.bl (HT.dY ns ms)) H)
def Lj(hu:X.A.units<cLine):mZ X (compareOp .Gt) (Vy X.K):=by intro pins s Z H x y v u Q I rx ry h;obtain⟨a,b,ns,ms,rfl,rfl,ha,hb,q⟩:=h;cases rx;cases ry;obtain⟨is,r1,p1,_⟩:=I.tuple ha;obtain⟨js,r2,p2,_⟩:=I.tuple hb;exact HT.AB p1 p2 (pA (by simpa using r1)) (pA (by simpa using r2)) hu ⟨.bl _,H,I,rfl,q⟩
end L2
namespace HT
open PySem PyProof.Rows
section
open PySem.SeqAt
open PySem.AutoSeq1 (wpAny_loadPart')
open PySem.MeetsSeq PySem.MeetsSeq2 PySem.MeetsSeq3
end
section
variable {prog:Program}{w:World}{A:Around}{E:Value->Shared->Prop}{s:Shared}
end
end HT
namespace L2
open PySem PySem.Spec PyProof.Rows
variable {X:Cx}
end L2
namespace L2
open PySem PySem.Spec PyProof.Rows
section
variable {X:Cx}
def z6:gR X (.type "dict") (λxs H Q=>∃a kvs,xs=[V.ref a]/\H a=some (.dK kvs)/\∀p,H p=none->Q (.ref p) (upd H p (.dK kvs))):=by intro pins s Z H xs us Q I r h;obtain⟨a,kvs,rfl,ha,q⟩:=h;obtain⟨u,rfl,ru⟩:=vals1 r;cases ru;exact JD I (.inl ha) λp s' hp I'=>⟨.ref p,_,I',rfl,q p hp⟩
end
end L2
namespace L2
open PySem PySem.Spec PyProof.Rows
def sL:typeLookup (.type "list") "keys" = pure none:=by rw[typeLookup_type,builtinLookup_eq_fast];kernel_rfl
def nZ 
  (hx:s.heap.get? a=some o) (hc:o.cls = .type "list") (hdat:o.data = .seq xs k) (hd:o.dict=none) (hmiss:typeLookup (.type "list") name=pure none) (hname:(["__module__","__name__","__qualname__","__doc__","__annotations__"]:List Str).contains name=false) (hA:A.handled=none)
  (h:∀h' tk,(∀b o,s.heap.get? b=some o->h'.get? b=some o)->Q none { s with heap:=h',toks:=tk }) (hsz:name.length+100<=sizeLine:=by size_fits) :
  wpAny (model prog w) A (getAttr? (.ref a) name) Q E s:=by
 obtain⟨c,dct,dat,sl⟩:=o;simp only at hc hdat hd;subst hc hdat hd;obtain⟨hp,g,d,tk,os⟩:=s;have hT:∀tk',(⟨hp,g,d,tk',os⟩:Shared).TypeIs (.ref a) "list" := λ_=>⟨_,hx,rfl⟩
 have f1:=sub_AttributeError;have f3:=F.slot_list_getattribute.lookup;have f4:=F.slot_list_getattribute.bind (.ref a);have f5:=am_list_getattr_none;unfold getAttr? getAttrBy? getAttrBy;repeat (any_goals (first | assumption | exact hT _ | ((with_reducible show wpAny _ _ (call (Value.builtin "list.__getattribute__") _ _) _ _ _);refine ag5 F.slot_list_getattribute (hT _) am_entry_list_getattribute (F.args_list_getattribute_2 _ _) (meets_getattribute_miss_list a xs k sl name _ hmiss hname hsz) ⟨hx,hA,λh' tk' e hx'=>?_⟩) | wp_step))
 obtain⟨t',u',he⟩:=hx'.there;show wpAny _ _ (getattributeRaised _ _ _ _ _ _ _) _ _ _;unfold getattributeRaised;repeat (any_goals (first | assumption | wp_step))
 exact h _ _ hx'.of.keeps
def gY:entryFor table "dict.update.loop" = some Builtin.«dict.update.loop»:=entryFor_of_tree (by kernel_rfl)
def cY:plainId "dict.update.loop" = true:=by decide +kernel
section
variable {prog:Program}{w:World}{κ:Type}[DecidableEq κ]{knd:KeyKind prog w κ}{A:Around}{R:Result->Shared->Prop}
def zx(vs:List (κ×Value))(k:κ)(v:Value):(stored vs k v).length<=vs.length+1:=by
 unfold stored;split
 ·simp
 ·simp
def zB(vs:List (κ×Value)):∀rs:List (κ×Value),(merged vs rs).length<=vs.length+rs.length:=λrs=>by
 induction rs generalizing vs with
 |nil=>exact M2 _
 |cons kv r ih =>
  have h1:=ih (stored vs kv.1 kv.2);have h2:=zx vs kv.1 kv.2;show (merged (stored vs kv.1 kv.2) r).length<=vs.length+(r.length+1)
  lia
def Dz(hh:A.in1.handled=none)(hn:items.size=rs.length)(hb:rs.length<=1000)
  (d1:it≠D) (d2:l≠D) (d3:l≠it) :
  ∀(k i:Nat) (s:Shared),items.size-i=k->i<=items.size->s.heap.IsListIter it l i->s.heap.IsList l items ->
   (∀(j:Nat) (u:Value) (kv:κ×Value),items[j]?=some u->rs[j]?=some kv->∃p a,u = .ref p/\p≠D/\p≠it/\s.heap.IsTuple p #[a,kv.2]/\knd.is kv.1 a=true) ->
   s.heap.DictOf knd D (merged [] (rs.take i)) ->
   (∀s',s'.heap.DictOf knd D (merged [] rs)->(∀b o,b≠D->b≠it->s.heap.get? b=some o->s'.heap.get? b=some o)->s'.gens=s.gens->s'.drawn=s.drawn->s'.os=s.os->R (.ok (.ret .none)) s') ->
   codeAny (model prog w) A (.builtin "dict.update.loop" ⟨[.ref D,.ref it,rawInt (i:Int),.none],[]⟩) R s:=by
 intro k;induction k with
 |zero =>
  intro i s hk hi hit hl hp hd hR;have hin:i=items.size:=by lia
  refine codeAny_builtin gY ?_;rw[Around.under_plainId cY _];show wpAny _ A.in1 (pyNext (.ref it) >>= _) _ _ s;refine v3 (wpAny_pyNext_list_end hh hit hl (by rw[hin];simp) λh' hs=>?_);show wpAny _ A.in1 (Builtin.Dict.addKeywords D [] >>= _) _ _ _;refine v3 (T1 ?_);show wpAny _ A.in1 (ret Value.none) _ _ _;refine T1 (hR { s with heap:=h' } ?_ (λb o _ h2 e=>hs b o h2 e) rfl rfl rfl);rw[hin,hn,ab6] at hd;exact hd.extBut hs (aa3 d1)
 |succ k ih =>
  intro i s hk hi hit hl hp hd hR;have hlt:i<items.size:=by lia
  have hx:items[i]?=some items[i]:=by simp[hlt]
  have hkv:rs[i]?=some rs[i]:=i4 (by lia);refine codeAny_builtin gY ?_;rw[Around.under_plainId cY _];show wpAny _ A.in1 (pyNext (.ref it) >>= _) _ _ s;refine v3 (wpAny_pyNext_list_item hit hl hx λh' hit' hs=>?_);obtain⟨p,a,ep,pD,pI,tp,ha⟩:=hp i _ _ hx hkv;rw[ep];have tp':h'.IsTuple p #[a,(rs[i]).2]:=by obtain⟨o,e,c,n,d⟩:=tp;exact⟨o,(hs.2 p pI).trans e,c,n,d⟩
  have hd':h'.DictOf knd D (merged [] (rs.take i)):=hd.sameBut hs (aa3 d1);obtain⟨o,e,c,n,d⟩:=id tp';show wpAny _ A.in1 (holding [Value.ref p] _ >>= _) _ _ _;refine v3 (ae4 ?_);refine v3 ?_;unfold Builtin.Dict.pairItems;refine wpAny_tryCatch ?_;refine v3 (wpAny_typeOf (T:="tuple") ⟨o,e,c⟩ ?_);rw[if_pos (by decide)];unfold seqItems?;refine v3 (v3 (wpAny_load e ?_));rw[d];refine T1 (T1 ?_);show wpAny _ _ (holding [a,(rs[i]).2] (dictSet D a (rs[i]).2)) _ _ _;refine ae4 ?_;have hsz:(merged [] (rs.take i):List (κ×Value)).length<=sizeLine:=by have:=zB [] (rs.take i);rw[N0] at this;simp only[Y7] at this;have z:=ac0;lia
  refine wpAny_dictSet_pairs (s:={ s with heap:=h' }) (hsz:=hsz) ha hd' λh2 hd2 hs2=>?_;show wpAny _ A.in1 (again (.builtin "dict.update.loop" ⟨[.ref D,.ref it,rawInt ((i:Int)+1),.none],[]⟩)) _ _ _;refine T1 ⟨plainId_quiet cY _,?_⟩;have ei:((i:Int)+1)=((i+1:Nat):Int):=by lia
  rw[ei];refine ih (i+1) _ (by lia) hlt ?_ ?_ ?_ ?_ ?_
  ·obtain⟨o,e,r⟩:=hit';exact⟨o,(hs2.2 it d1).trans e,r⟩
  ·obtain⟨o,e,r⟩:=hl;exact⟨o,(hs2.2 l d2).trans ((hs.2 l d3).trans e),r⟩
  ·intro j u kv h1 h2;obtain⟨p',a',q1,q2,q3,⟨o,e,r⟩,q5⟩:=hp j u kv h1 h2;exact⟨p',a',q1,q2,q3,⟨o,(hs2.2 p' q2).trans ((hs.2 p' q3).trans e),r⟩,q5⟩
  ·rw[merged_take_succ _ _ _ _ hkv];exact hd2
  ·intro s' q1 q2 q3 q4 q5;exact hR s' q1 (λb o n1 n2 e=>q2 b o n1 n2 ((hs2.2 b n1).trans ((hs.2 b n2).trans e))) q3 q4 q5
end
section
variable {prog:Program}{w:World}{κ:Type}[DecidableEq κ]{knd:KeyKind prog w κ}{A:Around}{E:Value->Shared->Prop}{s:Shared}
def rA {l:Addr} {items:Array Value} {m:Nat} {rs:List (κ×Value)} {Q:Value->Shared->Prop} (hh:A.handled=none) (ho:s.heap.get? l=some { cls:=.type "list",data:=.seq items m })
  (hn:items.size=rs.length) (hb:rs.length<=1000)
  (hp:∀(j:Nat) (u:Value) (kv:κ×Value),items[j]?=some u->rs[j]?=some kv->∃p a,u = .ref p/\s.heap.IsTuple p #[a,kv.2]/\knd.is kv.1 a=true)
  (h:∀h' tk,h'.DictOf knd s.heap.objs.size (merged [] rs)->(∀b o,s.heap.get? b=some o->h'.get? b=some o)->Q (.ref s.heap.objs.size) { s with heap:=h',toks:=tk }) :
  wpAny (model prog w) A (call (.type "dict") [.ref l]) Q E s:=by
 refine callType_codes (Q₁:=λobj s₁=>obj = .ref s.heap.objs.size/\s₁ = { s with heap:=s.heap.push { cls:=.type "dict",data:=.dict #[] } }) F.kt_called_dict (F.kt_typeCall_dict_1 _) F.entry_dict_init (kt_code_dict_new _ ⟨rfl,rfl⟩) ?_;rintro obj s₁ ⟨rfl,rfl⟩;have hnew:(s.heap.push { cls:=.type "dict",data:=.dict #[] }).DictOf knd s.heap.objs.size []:=Heap.DictOf.new s.heap;have hlD:l<s.heap.objs.size:=B2 ho;have hl1:(s.heap.push { cls:=.type "dict",data:=.dict #[] }).get? l=some { cls:=.type "list",data:=.seq items m }:=u3 _ ho;refine⟨hnew.typeIs,F.args_dict_init_2 _ _,?_⟩;unfold Builtin.«dict.__init__»;refine v3 ?_;unfold Builtin.Dict.selfAndRest;refine v3 (wpAny_notOrdered_dict hnew.typeIs ?_);show wpAny _ _ (pure (s.heap.objs.size,[Value.ref l])) _ _ _;refine T1 ?_;show wpAny _ _ (Builtin.Dict.updateFrom "dict.__init__" s.heap.objs.size (.ref l) [] .none) _ _ _;unfold Builtin.Dict.updateFrom;refine v3 (wpAny_typeOf (T:="list") ⟨_,hl1,rfl⟩ ?_);rw[if_pos (by decide)];refine v3 (nZ (s:={ s with heap:=s.heap.push { cls:=.type "dict",data:=.dict #[] } }) hl1 rfl rfl rfl sL (by decide) (by simp[hh]) (λh1 t1 k1=>?_));rw[if_pos (show (none:Option Value).isNone=true from rfl)];refine v3 (wpAny_rule ?_);have hl2:=k1 _ _ hl1;have hD2:h1.DictOf knd s.heap.objs.size []:=by obtain⟨o,es,ep,e,r⟩:=hnew;exact⟨o,es,ep,k1 _ _ e,r⟩
 have big:s.heap.objs.size<h1.objs.size:=by obtain⟨o,es,ep,e,r⟩:=hD2;exact B2 e
 refine v3 (wpAny_pyIter_list (s:={ s with heap:=h1,toks:=t1 }) ⟨_,hl2,rfl,m,rfl⟩ ?_);refine T1 ⟨plainId_quiet cY _,?_⟩;refine Dz (knd:=knd) (by simp[hh]) hn hb (D:=s.heap.objs.size) (it:=h1.objs.size) (l:=l) (ak9 big) (T0 hlD) (T0 (Nat.lt_trans hlD big)) items.size 0 _ (by lia) (X5 _) ⟨_,Z0 _ rfl,rfl,rfl⟩ ⟨_,u3 _ hl2,rfl,m,rfl⟩ ?_ ?_ ?_
 ·intro j u kv e1 e2;obtain⟨p,a,q1,⟨o,q2,q3⟩,q4⟩:=hp j u kv e1 e2;have lp:p<s.heap.objs.size:=B2 q2;exact⟨p,a,q1,T0 lp,T0 (Nat.lt_trans lp big),⟨o,u3 _ (k1 _ _ (u3 _ q2)),q3⟩,q4⟩
 ·exact hD2.push _
 ·intro s' q1 q2 q3 q4 q5;obtain⟨h',g',d',tk',os'⟩:=s';cases q3;cases q4;cases q5;exact⟨rfl,h h' tk' q1 (λb o e=>q2 b o (T0 (B2 e)) (T0 (Nat.lt_trans (B2 e) big)) (u3 _ (k1 _ _ (u3 _ e))))⟩
end
section
theorem ye(ok:kc P w H h):∀(ps:List Addr) (kvs:List (Key×V)),ps.length=kvs.length->(∀(i:Nat) p kv,ps[i]?=some p->kvs[i]?=some kv->H p=some (.tup [kV kv.1,kv.2])) ->
  ∃rs:List (Key×Value),KV kvs rs/\∀(i:Nat) p kv,ps[i]?=some p->rs[i]?=some kv->∃a,h.IsTuple p #[a,kv.2]/\(cu P w).is kv.1 a=true
 | [],[],_,_=>⟨[],.nil,λi p kv e _=>by simp at e⟩
 |p::ps,kv::kvs,hl,hp=>by
  obtain⟨rs,r1,r2⟩:=ye ok ps kvs (by simpa using hl) (λi q kv' e1 e2=>hp (i+1) q kv' (by simpa using e1) (by simpa using e2));obtain⟨_,its,rv,tp⟩:=(show b9 P w H h p (.tup [kV kv.1,kv.2]) from ok p _ (hp 0 p kv rfl rfl))
  cases rv with
  |cons e1 rv=>cases rv with
   |cons e2 rv =>
    cases rv;rename_i a b;refine⟨(kv.1,b)::rs,.cons ⟨rfl,e2⟩ r1,λi q kv' h1 h2=>?_⟩;cases i with
    |zero =>
     simp only[ad5,af0] at h1 h2;subst h1 h2;exact⟨a,tp,uL e1⟩
    |succ i=>exact r2 i q kv' (by simpa using h1) (by simpa using h2)
 | [],_::_,hl,_=>by simp at hl
 |_::_,[],hl,_=>by simp at hl
variable {X:Cx}
inductive Qu(xs:List V)(H:Hp)(Q:VK):Prop|mk(l:Addr)(ps:List Addr)(kvs:List (Key×V))(_:xs=[V.ref l])(_:H l=some (.lst (ps.map V.ref)))(_:(ps.length=kvs.length/\∀(i:Nat) p kv,ps[i]?=some p->kvs[i]?=some kv->H p=some (.tup [kV kv.1,kv.2])))(_:kvs.length<=1000)(_:∀d,H d=none->Q (.ref d) (upd H d (.dK (lA [] kvs))))
def tT (hc:X.calm=true):gR X (.type "dict") Qu:=by
 intro pins s Z H xs us Q I r h;obtain⟨l,ps,kvs,rfl,hl,⟨hlen,hps⟩,hb,q⟩:=h;obtain⟨u,rfl,ru⟩:=vals1 r;cases ru;obtain⟨hz,its,n,rv,ho⟩:=(show b9 X.prog X.w H s.heap l (.lst (ps.map V.ref)) from I.hok l _ hl)
 obtain⟨rs,rk,hrs⟩:=ye I.hok ps kvs hlen hps;have l1:=rv.length;have l2:=rk.length;rw[d6] at l1;have z:=ac0;refine rA (knd:=cu X.prog X.w) (items:=its.toArray) (rs:=rs) (I.ok.hd hc) ho (by simp;lia) (by lia) (λj v kv e1 e2=>?_) λh' tk hd hk=>?_
 ·have e1:its[j]?=some v:=by simpa using e1
  have hj:j<ps.length:=by rw[l1];exact(i5.mp e1).1
  have ep:ps[j]?=some ps[j]:=i4 hj;obtain⟨v',g1,g2⟩:=rv.get (i:=j) (x:=V.ref ps[j]) (by rw[B1,ep];rfl);rw[e1] at g1;cases g1;cases (show v=Value.ref ps[j] from g2);obtain⟨a,t1,t2⟩:=hrs j _ _ ep e2;exact⟨_,a,rfl,t1,t2⟩
 ·have hz:(lA [] kvs).length<=sizeLine:=by have h1:=m9 kvs [];rw[Y7] at h1;lia
  exact⟨.ref s.heap.objs.size,_,I.laid (t':=tk) hk (M2 _) (AJ hz (beq_eq_false_iff_ne.mpr (aa3 (T0 I.big))) (rk.merge .nil) hd),rfl,q _ (I.hok.fresh (M2 _))⟩
end
end L2
namespace L2
open PySem PySem.Spec PyProof.Rows
section
variable {X:Cx}{pins:List (Addr×Obj)}{Z:St}{H:Hp}{s:Shared}{a:Addr}{kvs:List (Key×V)}{o:Obj}
def BV(H:Hp)(a:Addr):Prop:=∀o u,H a≠some (.nq o u)
def Inv.freeze(I:Inv X pins Z H s)(e:H a=some (.dK kvs))(ho:s.heap.get? a=some o):Inv X pins Z (upd H a (.nq o (.dK kvs))) s:=by
 have nb:∀{b u},H b=some u->u ≠ .dK kvs->b≠a:=λ{b u} q n z=>by rw[z,e] at q;cases q;exact n rfl
 have nn:∀{b},H b=none->b≠a:=λ{b} q z=>by rw[z,e] at q;cases q
 refine I.step (g':=s.gens) (d':=s.drawn) (t':=s.toks) (ch:=[]) (H':=upd H a (.nq o (.dK kvs))) (h':=s.heap) (λb hb=>by cases hb) (λb o n _ _ e _=>e) (λb o n _ _ e _=>⟨o.slots,e⟩) (λb o _ _ n=>by rw[aj (nn n)];exact n) (λb o _ e=>⟨o,e⟩) (λb xs q=>by rw[aj (nb q (by intro z;cases z))];exact q) (λb o u q=>by rw[aj (nb q (by intro z;cases z))];exact q) (λb ps q=>⟨#[],by rw[aj (nb q (by intro z;cases z)),q];simp⟩) (λm hm=>hm) (λb u q=>?_) I.bare;by_cases z:b=a
 ·rw[z,af] at q;cases q;rw[z];exact⟨ho,I.hok a _ e⟩
 ·rw[aj z] at q;exact(I.hok b u q).stay (λc v _ q=>q) (λc hc=>by rw[aj (nb hc (by intro z;cases z))];exact hc) (λc xs hc=>by rw[aj (nb hc (by intro z;cases z))];exact hc)
def Inv.Vh(I:Inv X pins Z H s)(e:H a=some (.dK kvs)):BV X.H₀ a:=λo u q=>by have:=I.base.oH a o u q;rw[e] at this;cases this
def Inv.WI(I:Inv X pins Z H s)(e:H a=some (.nq o (.dK kvs)))(nf:BV X.H₀ a):Inv X pins Z (upd H a (.dK kvs)) s:=by
 have nb:∀{b u},H b=some u->u ≠ .nq o (.dK kvs)->b≠a:=λ{b u} q n z=>by rw[z,e] at q;cases q;exact n rfl
 have nn:∀{b},H b=none->b≠a:=λ{b} q z=>by rw[z,e] at q;cases q
 refine⟨I.ok,I.os,I.bare,⟨I.base.keep,I.base.slot,λb ob q n hx=>?_,I.base.there,λb xs q=>?_,λb ob u q=>?_,λb ps q=>?_⟩,I.loc,I.cell,?_,λx c q=>?_,λp hp=>?_,λb u q=>?_,I.len⟩
 ·have:=I.base.free b ob q n hx;rw[aj (nn this)];exact this
 ·have:=I.base.tups b xs q;rw[aj (nb this (by intro z;cases z))];exact this
 ·have:=I.base.oH b ob u q;rw[aj (λz=>nf ob u (by rw[← z];exact q))];exact this
 ·obtain⟨more,q2⟩:=I.base.qW b ps q;exact⟨more,by rw[aj (nb q2 (by intro z;cases z))];exact q2⟩
 ·rw[aj (nn I.free)];exact I.free
 ·rw[aj (nn (I.iQ x c q))];exact I.iQ x c q
 ·obtain⟨p1,p2,p3⟩:=I.pin p hp;exact⟨p1,by rw[aj (nn p2)];exact p2,p3⟩
 ·by_cases z:b=a
  ·rw[z,af] at q;cases q;rw[z];exact(I.hok a _ e).2
  ·rw[aj z] at q;exact(I.hok b u q).stay (λc v _ q=>q) (λc hc=>by rw[aj (nb hc (by intro z;cases z))];exact hc) (λc xs hc=>by rw[aj (nb hc (by intro z;cases z))];exact hc)
end
def Xg(a:Addr)(o:Obj)(kvs:List (Key×V)):It :=
 ⟨λi H=>H a=some (.nq o (.dK kvs))/\i<kvs.length,λi H x H'=>H'=H/\∃kv,kvs[i]?=some kv/\x=kV kv.1,λi H=>H a=some (.nq o (.dK kvs))/\kvs.length<=i⟩
def MA(h:(cu P w).is k u=true):RelV (kV k) u:=by
 rcases cZ h with ⟨i,t,rfl,rfl⟩|⟨x,t,rfl,rfl⟩
 ·exact⟨t,rfl⟩
 ·exact⟨t,rfl⟩
def DY{P:Program}{w:World}{K:PySem.W.Frag}{tg:Expr}{es:Array DictEntry}{ep:Nat}(a it:Addr)(o:Obj)(kvs:List (Key×V))(hne:a≠it)(hd:o.data = .dict es ep):Turn P w K tg (Xg a o kvs) [it] it (λi h=>h.IsKeyIter it a i kvs.length ep) where
 mem:=by simp
 obj:=λi h st b hb=>by
  have e:b=it:=by simpa using hb
  subst e;obtain⟨o,e,c,d⟩:=st;exact⟨o,e,λv z=>by rw[d] at z;cases z⟩
 keep:=λi h h' st k=>st.at λo e=>k it (by simp) o e
 item:=by
  intro X hP hw hK hc i pins s Z H E I hf st hg;subst hP hw hK;obtain⟨hq,hi⟩:=hg;obtain⟨ho,z,hs,vs,rel,dd⟩:=(show b9 X.prog X.w H s.heap a (.nq o (.dK kvs)) from I.hok a _ hq)
  obtain⟨f0,f1,f2,f3,f4,f5⟩:=hf it (by simp);have hl:=rel.length;have da:s.heap.DictAt (cu X.prog X.w) a vs ep:=by obtain⟨o',es',ep',e',c',d',r'⟩:=dd;rw[ho] at e';cases e';rw[hd] at d';cases d';exact⟨o,es,ho,c',hd,r'⟩
  have W:=Walks.dictKeys (prog:=X.prog) (w:=X.w) (knd:=cu X.prog X.w) (I.ok.hd hc) it a hne vs ep;refine W.item i s _ _ (by lia) ⟨by rw[← hl];exact st,da⟩ λv h' tk hv st' kk=>?_;obtain⟨k,x,e1,e2⟩:=hv;have I1:Inv X pins Z H { s with heap:=h',toks:=tk }:=I.turned (λb o hb e=>kk b o (by simpa using hb) e) f0 f1 f3 f4 f5;obtain⟨oi,ei,ci,di⟩:=id st'.1;have hkv:kvs[i]?=some kvs[i]:=i4 hi;have ek:kvs[i].1=k:=by have:=ac1 (λl:List Key=>l[i]?) rel.keys;simp only[B1,hkv,e1,ad7] at this;exact X8 this
  exact⟨v,rfl,Hj (s:={ s with heap:=h',toks:=tk }) ei ci di (by decide) ⟨kV kvs[i].1,H,I1,by rw[ek];exact MA e2,⟨rfl,_,hkv,rfl⟩,by rw[hl];exact st'.1,λb hb=>(hf b hb).1⟩⟩
 done:=by
  intro X hP hw hK hc i pins s Z H E I hf st hg;subst hP hw hK;obtain⟨hq,hi⟩:=hg;obtain⟨ho,z,hs,vs,rel,dd⟩:=(show b9 X.prog X.w H s.heap a (.nq o (.dK kvs)) from I.hok a _ hq)
  obtain⟨f0,f1,f2,f3,f4,f5⟩:=hf it (by simp);have hl:=rel.length;have da:s.heap.DictAt (cu X.prog X.w) a vs ep:=by obtain⟨o',es',ep',e',c',d',r'⟩:=dd;rw[ho] at e';cases e';rw[hd] at d';cases d';exact⟨o,es,ho,c',hd,r'⟩
  refine wpAny_pyNext_dict_end (I.ok.hd hc) (by rw[← hl];exact st) da (by simp;lia) λh' eb=>⟨rfl,I.turned (t':=s.toks) (λb o hb e=>eb b o hb e) f0 f1 f3 f4 f5⟩
 self:=λ_ _ _ _ _ st h=>wpAny_pyIter_keyiter st h
section
variable {X:Cx}{tg:Expr}
def Ve(H0:Hp)(tl:TE):TI:=λZ H R=>tl Z H λx H1=>∃a kvs,x = .ref a/\H1 a=some (.dK kvs)/\∀o,BV H0 a->R (Xg a o kvs) (upd H1 a (.nq o (.dK kvs)))
def KG{l:Expr}{tl:TE}(hl:PE X l tl):PI X tg l (Ve X.H₀ tl):=by
 intro pins s Z H R I h;refine cM (hl pins s Z H _ I h) λv s1  hZ=>?_;obtain⟨x,H1,I1,r1,q1⟩:=hZ;obtain⟨a,kvs,e,hq,q⟩:=q1;subst e;cases r1;obtain⟨z,hs,vs,rel,dd⟩:=yD I1.hok hq;obtain⟨o,es,ep,eo,c,d,r⟩:=dd;refine wpAny_pyIter_dict (knd:=cu X.prog X.w) (kvs:=vs) hs ⟨o,es,eo,c,d,r⟩ ?_;have I2:=I1.freeze hq eo;have ne:a≠s1.heap.objs.size:=T0 (B2 eo);refine⟨s1.heap.objs.size,[s1.heap.objs.size],_,_,_,rfl,I2.kept (t':=s1.toks) λb o e=>u3 _ e,DY a _ o kvs ne d,⟨_,Z0 _ rfl,rfl,by rw[rel.length];rfl⟩,λb hb=>?_,q o (I1.Vh hq)⟩;have e:b=s1.heap.objs.size:=by simpa using hb
 subst e;exact I2.CJ (M2 _) (I2.hok.fresh (M2 _))
def Uq(H0:Hp)(te:TE):TE:=λZ H Q=>te Z H λv H'=>∃a o kvs,H' a=some (.nq o (.dK kvs))/\BV H0 a/\Q v (upd H' a (.dK kvs))
def Lo{e:Expr}{te:TE}(h:PE X e te):PE X e (Uq X.H₀ te):=λpins s Z H Q I q =>
 cM (h pins s Z H _ I q) λv s1 ⟨x,H1,I1,r1,a,o,kvs,q1,q2,q3⟩=>⟨x,_,I1.WI q1 q2,r1,q3⟩
end
def C6(Pv:Nat->List V->Hp->Prop)(h0:Pv 0 [] H)(hn:kvs.length<sizeLine)
  (hq:∀i ys H,i<=kvs.length->Pv i ys H->H a=some (.nq o (.dK kvs)))
  (hs:∀i kv ys H,kvs[i]?=some kv->ys.length=i->Pv i ys H->te (mS caps Z++[some (kV kv.1)]) H λy H2=>∃m',m'<kvs.length-i/\m'=kvs.length-(i+1)/\i+1<=kvs.length/\(ys++[y]).length=i+1/\Pv (i+1) (ys++[y]) H2) (hd:∀ys H,ys.length=kvs.length->Pv kvs.length ys H->∀D,H D=none->Q (.ref D) (upd H D (.lst ys))) :
  xW (Xg a o kvs) caps te Z H Q:=by
 refine⟨λi m ys H=>m=kvs.length-i/\i<=kvs.length/\ys.length=i/\Pv i ys H,⟨kvs.length,by simp,X5 _,rfl,h0⟩,?_⟩;rintro i m ys H ⟨rfl,hi,hl,p⟩;have q:=hq i ys H hi p;by_cases hlt:i<kvs.length
 ·refine .inr ⟨⟨q,hlt⟩,by lia,λx H' y=>?_⟩;obtain⟨e,kv,y1,y2⟩:=y;subst e y2;exact hs i kv ys _ y1 hl p
 ·have e:i=kvs.length:=by lia
  subst e;exact .inl ⟨⟨q,M2 _⟩,hd ys H hl p⟩
end L2
namespace L2
open PySem PySem.Spec PyProof.Rows
def zR:W.kas_sort 2=W.KasT.ask 1 0 (λb=>W.KasT.ret (if b=true then #[1,0] else #[0,1])):=by show W.KasT.ask 1 0 _=_;congr 1;funext b;cases b <;> rfl
section
variable {X:Cx}
inductive QU(K:PySem.W.Frag)(xs:List V)(H:Hp)(Q:VK):Prop|mk(p a b:Addr)(x1 y1 x2 y2:Int)(_:xs=[.ref p])(_:bq K H p [.ref a,.ref b])(_:fB K H a [.int x1,.int y1])(_:fB K H b [.int x2,.int y2])(_:∀l,H l=none->Q (.ref l) (upd H l (.lst (if HT.dY [x1,y1] [x2,y2]=true then [.ref b,.ref a] else [.ref a,.ref b]))))
def wB:gR X (.builtin "sorted") (QU X.K):=by
 intro pins s Z H xs us Q I r h;obtain⟨p,a,b,x1,y1,x2,y2,rfl,hp,ha,hb,q⟩:=h;obtain⟨u,rfl,rx⟩:=vals1 r;cases rx;obtain⟨its,r',pl,hz⟩:=I.list hp;obtain⟨ta,ra,pa,_⟩:=I.tuple ha;obtain⟨tb,rb,pb,_⟩:=I.tuple hb;cases r' with
 |cons e1 r1=>cases r1 with
  |cons e2 r2 =>
   cases r2;cases e1;cases e2;cases ra with
   |cons f1 s1=>cases s1 with
    |cons f2 s2 =>
     cases s2;obtain⟨t1,rfl⟩:=f1;obtain⟨t2,rfl⟩:=f2;cases rb with
     |cons g1 w1=>cases w1 with
      |cons g2 w2 =>
       cases w2;obtain⟨t3,rfl⟩:=g1;obtain⟨t4,rfl⟩:=g2;obtain⟨oa,ea,ca,na,da⟩:=pa;obtain⟨ob,eb,cb,nb,db⟩:=pb;obtain⟨m,hns,_⟩:=id I.loc;have nL:∀{c o xs n},s.heap.get? c=some o->o.data=Data.seq xs n->c≠X.env.locals:=λ{c o xs n} e d z=>by obtain⟨oL,es,ep,eL,dL,_⟩:=hns;rw[z,eL] at e;cases e;rw[dL] at d;cases d
       refine W.kat_sorted (h₀:=Att.lE s.heap) (L:=X.env.locals) (m:=m) (news:=oR (Att.lE s.heap) s.heap X.env.locals) (Att.EG hns) yx pl.isList (show 2<=2 by decide) (show 2<64 by decide) (λD e1 h' F N hlt=>?_);have kp:∀c o,c≠X.env.locals->s.heap.get? c=some o->h'.get? c=some o:=λc o n e=>(N (c,o) (D1 _ (gE n (Att.gr _ _) e))).1;have ea':=kp _ _ (nL ea da) ea;have eb':=kp _ _ (nL eb db) eb;refine W.kat_kind (fs:=[.int x1 t1,.int x2 t3]) (T:=.type "int") (.cons ea' ca da rfl (.cons eb' cb db rfl .nil)) (show 0<2 by decide) (λv hv=>?_) rfl ?_
       ·have:∃z t,v=Value.int z t:=by simp only[y0,X1,ac3] at hv;rcases hv with rfl|rfl <;> exact⟨_,_,rfl⟩
        obtain⟨z,t,rfl⟩:=this;exact λA' Q' E' s' _ h=>T1 h
       show W.KasT.kasWp _ (W.kas_sort 2) _ _;rw[zR];have fin:∀gt:Bool,gt=HT.dY [x1,y1] [x2,y2]->W.KasFin (Att.lE s.heap) X.env.locals m D e1 (List.map (λi=>[Value.ref a,Value.ref b].getD i Value.none) (if gt=true then #[1,0] else #[0,1]:Array Nat).toList) (λs3=>EP X pins Z Q (Value.ref D) s3) { s with heap:=h' }:=λgt hgt=>by
        have nD:=(N (D,_) (X9 ..)).2.1;have hD0:s.heap.get? D=none:=by
         cases e:s.heap.get? D with
         |none=>rfl
         |some o=>exact absurd (hlt (D,o) (gE nD (Att.gr _ _) e)) (ad6 _)
        refine W.KasFin.intro F N (W.UpdF.head λq hq=>T0 (hlt q hq)) (λh2 c F2 N2=>?_);have kp2:∀c o,c≠X.env.locals->s.heap.get? c=some o->h2.get? c=some o:=λc o n e=>(N2 (c,o) (D1 _ (gE n (Att.gr _ _) e))).1;have eD:=(N2 (D,_) (X9 ..)).1;have fD:H D=none:=I.hok.new hD0;have eout:List.map (λi=>[Value.ref a,Value.ref b].getD i Value.none) (if gt=true then #[1,0] else #[0,1]:Array Nat).toList=if gt=true then [Value.ref b,Value.ref a] else [Value.ref a,Value.ref b]:=by cases gt <;> rfl
        rw[eout] at eD;have hv:Vals (if HT.dY [x1,y1] [x2,y2]=true then [V.ref b,.ref a] else [.ref a,.ref b]) (if gt=true then [Value.ref b,Value.ref a] else [Value.ref a,Value.ref b]):=by
         rw[← hgt];cases gt
         ·exact .cons rfl (.cons rfl .nil)
         ·exact .cons rfl (.cons rfl .nil)
        have hlen:(if HT.dY [x1,y1] [x2,y2]=true then [V.ref b,.ref a] else [.ref a,.ref b]).length<=sizeLine:=by split <;> (show 2<=sizeLine;decide)
        have nDb:∀{b u},H b=some u->b≠D:=λ{b u} e z=>by rw[z,fD] at e;cases e
        refine(λI2=>?_) (I.step (g':=s.gens) (d':=s.drawn) (t':=s.toks) (ch:=[]) (H':=upd H D (.lst (if HT.dY [x1,y1] [x2,y2]=true then [V.ref b,.ref a] else [.ref a,.ref b]))) (h':=h2) (λb hb=>by cases hb) (λb o n _ _ e _=>kp2 b o n e) (λb o n _ _ e _=>⟨o.slots,kp2 b o n e⟩) (λb o _ e n=>?_) (λb o _ e=>?_) (λb xs e=>by rw[aj (nDb e)];exact e) (λb o u e=>by rw[aj (nDb e)];exact e) (λb ps e=>⟨#[],by rw[aj (nDb e),e];simp⟩) (λm' hm'=>?_) (λb u e=>?_) I.bare)
        ·exact⟨.ref D,_,I2,rfl,q D fD⟩
        ·rw[aj (λz=>?_)];exact n;rw[z] at e;rw[hD0] at e;cases e
        ·by_cases z:b=X.env.locals
         ·obtain⟨oL,es,ep,eL,_⟩:=F2.ns;exact⟨oL,by rw[z];exact eL⟩
         ·exact⟨o,kp2 b o z e⟩
        ·have em:m'=m:=by obtain⟨o1,es1,ep1,a1,d1,_,r1⟩:=hm';obtain⟨o2,es2,ep2,a2,d2,_,r2⟩:=hns;rw[a1] at a2;cases a2;rw[d1] at d2;cases d2;funext n;rw[← r1,← r2]
         rw[em];exact F2.ns
        ·by_cases z:b=D
         ·rw[z,af] at e;cases e;rw[z];exact⟨hlen,_,c,hv,eD⟩
         ·rw[aj z] at e;refine(I.hok b u e).stay (λc v hc q=>kp2 c v (λy=>?_) q) (λc hc=>by rw[aj (nDb hc)];exact hc) (λc xs hc=>by rw[aj (nDb hc)];exact hc);have fL:=I.free;rcases hc with hc|hc
          ·rw[← hc,y,fL] at e;cases e
          ·rw[y,fL] at hc;cases hc
       refine W.kat_lt eb' db ea' da ?_;refine W.kat_cons (wpAny_eqBool_int (W.kat_go (λe=>W.kat_yes (W.kat_cons (wpAny_eqBool_int (W.kat_go (λe2=>W.kat_yes (W.kat_nil ?_)) (λe2=>W.kat_no (W.kat_one _ _ (P.lt_int ?_))))))) (λe=>W.kat_no (oneLt_int ?_))))
       ·have e:(x2 == x1)=true:=e;have e2:(y2 == y1)=true:=e2;have z1:=ak5 e;have z2:=ak5 e2;exact fin false (by rw[z1,z2,HT.iH,if_pos rfl,HT.iH,if_pos rfl];rfl)
       ·have e:(x2 == x1)=true:=e;have e2:(y2 == y1)=false:=e2;have z1:=ak5 e;have z2:¬ y1=y2:=λz=>by rw[z] at e2;simp at e2
        exact fin (decide (y2<y1)) (by rw[z1,HT.iH,if_pos rfl,HT.iH,if_neg z2])
       ·have e:(x2 == x1)=false:=e;have z1:¬ x1=x2:=λz=>by rw[z] at e;simp at e
        exact fin (decide (x2<x1)) (by rw[HT.iH,if_neg z1])
end
end L2
namespace L2
open PySem PySem.Spec PyProof.Rows
theorem wQ:∀{xs:List V} {us:List Value},xs.length=us.length->(∀(j:Nat) x u,xs[j]?=some x->us[j]?=some u->RelV x u)->Vals xs us
 | [],[],_,_=>.nil
 |x::xs,u::us,hl,h=>.cons (h 0 x u rfl rfl) (wQ (by simpa using hl) λj y v e1 e2=>h (j+1) y v (by simpa using e1) (by simpa using e2))
 | [],_::_,hl,_=>by simp at hl
 |_::_,[],hl,_=>by simp at hl
section
variable {X:Cx}
end
def Ky{α:Type}(lt:Nat->Nat->Bool):W.KasT α->α
 |.ret a=>a
 |.ask i j k=>Ky lt (k (lt i j))
def eU{α:Type}(n:Nat)(P:α->Prop):W.KasT α->Prop
 |.ret a=>P a
 |.ask i j k=>i<n/\j<n/\∀b,eU n P (k b)
theorem eU.ev{α:Type}{n:Nat}{P:α->Prop}{lt:Nat->Nat->Bool}:∀{t:W.KasT α},eU n P t->P (Ky lt t)
 |.ret _,h=>h
 |.ask i j k,h=>eU.ev (t:=k (lt i j)) (h.2.2 _)
theorem eU.bind{α β:Type}{n:Nat}{P:α->Prop}{P':β->Prop}{f:α->W.KasT β}:∀{t:W.KasT α},eU n P t->(∀a,P a->eU n P' (f a))->eU n P' (t.bind f)
 |.ret _,h,g=>g _ h
 |.ask _ _ k,h,g=>⟨h.1,h.2.1,λb=>eU.bind (t:=k b) (h.2.2 b) g⟩
def fQ(n:Nat)(p:Array Nat):Prop:=p.toList.Perm (List.range n)
def fQ.lt(h:fQ n p)(hn:0<n)(k:Nat):p.getD k 0<n:=by
 by_cases hk:k<p.size
 ·have e:p.getD k 0=p[k]:=by simp[Array.getD,hk]
  rw[e];have:p[k]∈p.toList:=by simp
  exact List.mem_range.mp (h.mem_iff.mp this)
 ·have e:p.getD k 0=0:=by simp[Array.getD,hk]
  rw[e];exact hn
def fQ.to(h:fQ n p)(e:q.Perm p):fQ n q:=(Array.perm_iff_toList_perm.mp e).trans h
theorem sy(hn:0<n)(h:fQ n p):∀(f m:Nat),eU n (λ_=>True) (W.kas_asc p f m)
 |0,_=>trivial
 |f+1,m=>⟨h.lt hn _,h.lt hn _,λb=>by
  cases b with
  |true=>exact trivial
  |false=>exact sy hn h f (m+1)⟩
def lU(h:fQ n p)(i j:Nat):fQ n (W.kas_rev p i j):=h.to (mirror_perm _ _ _ _)
theorem mQ(hn:0<n):∀(f:Nat) (p:Array Nat) (m q:Nat),fQ n p->eU n (λr=>fQ n r.1) (W.kas_desc f p m q)
 |0,_,_,_,h=>h
 |f+1,p,m,q,h=>⟨h.lt hn _,h.lt hn _,λb=>by
  cases b with
  |true =>
   show eU n _ (if q>0 then W.kas_desc f (W.kas_rev p (m-(q+1)) m) (m+1) 0 else W.kas_desc f p (m+1) 0);split
   ·exact mQ hn f _ _ _ (lU h _ _)
   ·exact mQ hn f _ _ _ h
  |false=>exact⟨h.lt hn _,h.lt hn _,λd=>by
    cases d with
    |true=>exact h
    |false=>exact mQ hn f _ _ _ h⟩⟩
def vq(hn:0<n)(m k:Nat)(h:fQ n p):eU n (λr=>fQ n r.2) (W.kas_tail3 m k p) :=
 eU.bind (sy hn (lU h 0 m) _ _) λ_ _=>lU h 0 m
def nc(hn:0<n)(m k:Nat)(h:fQ n p):eU n (λr=>fQ n r.2) (W.kas_descPart m k p) :=
 eU.bind (mQ hn _ _ _ _ h) λr hr=>by
  split
  ·exact vq hn _ _ (lU hr _ _)
  ·exact vq hn _ _ hr
def zC(hn:0<n)(k:Nat)(h:fQ n p):eU n (λr=>fQ n r.2) (W.kas_count k p) :=
 eU.bind (sy hn h _ _) λm _=>by
  split
  ·exact h
  ·split
   ·exact⟨h.lt hn _,h.lt hn _,λb=>by
     cases b with
     |true=>exact h
     |false=>exact nc hn _ _ (lU h _ _)⟩
   ·exact nc hn _ _ h
theorem nY(hn:0<n)(h:fQ n p)(k:Nat):∀(f l r:Nat),eU n (λ_=>True) (W.kas_place p k f l r)
 |0,_,_=>trivial
 |f+1,l,r=>by
  show eU n _ (if l ≥ r then _ else _);split
  ·exact trivial
  ·exact⟨h.lt hn _,h.lt hn _,λb=>by
    cases b with
    |true=>exact nY hn h k f _ _
    |false=>exact nY hn h k f _ _⟩
theorem xP(hn:0<n):∀(f:Nat) (p:Array Nat) (k:Nat),fQ n p->eU n (fQ n) (W.kas_bin f p k)
 |0,_,_,h=>h
 |f+1,p,k,h=>eU.bind (nY hn h k _ _ _) λl _=>xP hn f _ _ (h.to (bubble_perm _ _ _))
def pH(hn:0<n):eU n (fQ n) (W.kas_sort n) :=
 eU.bind (zC hn n (p:=List.toArray (List.range n)) (by show (List.toArray (List.range n)).toList.Perm _;rw[List.toList_toArray])) λr hr=>by
  split
  ·exact xP hn _ _ _ hr
  ·exact hr
def Kc (names:List Str) (i j:Nat):Bool:=decide ((names.getD i "").cps.toList<(names.getD j "").cps.toList)
def fG (names:List Str):List Str:=if names.length<2 then names else (Ky (Kc names) (W.kas_sort names.length)).toList.map λi=>names.getD i ""
def fJ(names:List Str):(fG names).Perm names:=by
 unfold fG;split
 ·exact .refl _
 ·have h:fQ names.length (Ky (Kc names) (W.kas_sort names.length)):=(pH (by lia)).ev;have h2:((Ky (Kc names) (W.kas_sort names.length)).toList.map λi=>names.getD i "").Perm ((List.range names.length).map λi=>names.getD i ""):=h.map _;have e:((List.range names.length).map λi=>names.getD i "")=names:=by
   refine ah6 λj=>?_;rw[B1];by_cases hj:j<names.length
   ·rw[List.getElem?_range hj];simp[hj]
   ·rw[ac7 (by rw[List.length_range];lia),ac7 (by lia)];rfl
  rw[e] at h2;exact h2
section
variable {prog:Program}{w:World}{A:Around}{E:Value->Shared->Prop}
theorem Je{α:Type}{vs:List Value}{names:List Str}(hv:∀(j:Nat) x,names[j]?=some x->∃t,vs[j]?=some (Value.str x t)){P:α->Prop}:∀{t:W.KasT α} {Q:α->Shared->Prop} {s:Shared},eU names.length P t->Q (Ky (Kc names) t) s->t.kasWp (W.kas_ask prog w A oneType' vs) Q s
 |.ret _,_,_,_,h=>h
 |.ask i j k,Q,s,g,h=>by
  obtain⟨g1,g2,g3⟩:=g;have ei:names[i]?=some names[i]:=i4 g1;have ej:names[j]?=some names[j]:=i4 g2;obtain⟨t1,f1⟩:=hv i _ ei;obtain⟨t2,f2⟩:=hv j _ ej;show wpAny _ _ (keyLt' oneType' (vs.getD i Value.none) (vs.getD j Value.none)) _ _ s;rw[ab5,ab5,f1,f2];refine W.kas_lt_str ?_;have e:decide ((names[i]).cps.toList<(names[j]).cps.toList)=Kc names i j:=by unfold Kc;rw[ab5,ab5,ei,ej];rfl
  rw[e];exact Je hv (g3 _) h
def zS   {vs:List Value}   (ho:s.heap.get? a=some (seqObj "list" vs.toArray n)) (h2:vs.length<2)
  (h:∀h' c,h'.get? a=some (seqObj "list" vs.toArray c)->(∀b o,b≠a->s.heap.get? b=some o->h'.get? b=some o)->P (.done (.ret .none)) { s with heap:=h' }) :
  wpAny (model prog w) A (Builtin.«list.sort» ⟨[.ref a],[]⟩) P E s:=by
 have s1:=Heap.SameBut.update s.heap a (Obj.mapSeq λ_=>(#[]:Array Value));obtain⟨e1,ho1⟩:∃e1,(s.heap.update a (Obj.mapSeq λ_=>(#[]:Array Value))).get? a=some (seqObj "list" #[] e1):=⟨_,get?_update_seq ho λ_=>#[]⟩
 have zs:vs.length<=sizeLine:=by rw[ac0];lia
 rw[list_sort_plain];refine v3 (listItems_at ho rfl ?_);refine v3 (listUpdate_at ho rfl ?_ (by rw[P3];lia) (X5 _));refine v3 (seqEpoch_at ho1 rfl ?_);refine v3 (wpAny_newTuple ?_ (by show vs.length<=_;exact zs));refine v3 (wpAny_newList ?_ (X5 _));refine ae4 ?_;dsimp only;have hn2:vs.toArray.size<2:=by rw[P3];exact h2
 rw[if_pos hn2,if_pos hn2];refine v3 (T1 ?_);refine v3 (T1 ?_);have ho2:=u3 (seqObj "list" #[] 0) (u3 (seqObj "tuple" vs.toArray 0) ho1);refine v3 (seqEpoch_at ho2 rfl ?_);have eo:(arrOf (SortSt.mk' general' (vs.toArray.zip vs.toArray) #[] 7 none)).map (·.2)=vs.toArray:=by show (vs.toArray.zip vs.toArray).map (·.2)=vs.toArray;apply af4.mp;rw[Array.toList_map,Array.toList_zip];simp[List.map_snd_zip]
 dsimp only;rw[eo];refine v3 (listUpdate_at ho2 rfl ?_ (X5 _) (by rw[P3];lia));show wpAny _ _ (if _ then _ else _) _ _ _;simp only[bne_self_eq_false,aj7,if_false];obtain⟨c2,hc2⟩:∃c2,((((s.heap.update a (Obj.mapSeq λ_=>(#[]:Array Value))).push (seqObj "tuple" vs.toArray 0)).push (seqObj "list" #[] 0)).update a (Obj.mapSeq λ_=>vs.toArray)).get? a=some (seqObj "list" vs.toArray c2):=⟨_,get?_update_seq ho2 λ_=>vs.toArray⟩
 refine T1 (h _ c2 hc2 λb o hb e=>?_);exact((Heap.SameBut.update _ a _).2 b hb).trans (u3 _ (u3 _ ((s1.2 b hb).trans e)))
end
section
variable {X:Cx}
def Inv.CW(I:Inv X pins Z H s)(hns:s.heap.Ns X.env.locals m)(F2:h2.Ns X.env.locals m)(kp2:∀c o,c≠X.env.locals->s.heap.get? c=some o->h2.get? c=some o)
  (hD0:s.heap.get? D=none) (new:∀H',b9 X.prog X.w H' h2 D (.lst ys)):Inv X pins Z (upd H D (.lst ys)) { s with heap:=h2,toks:=t' }:=by
 have fD:H D=none:=I.hok.new hD0;have nDb:∀{b u},H b=some u->b≠D:=λ{b u} e z=>by rw[z,fD] at e;cases e
 refine I.step (g':=s.gens) (d':=s.drawn) (t':=t') (ch:=[]) (H':=upd H D (.lst ys)) (h':=h2) (λb hb=>by cases hb) (λb o n _ _ e _=>kp2 b o n e) (λb o n _ _ e _=>⟨o.slots,kp2 b o n e⟩) (λb o _ e n=>?_) (λb o _ e=>?_) (λb xs e=>by rw[aj (nDb e)];exact e) (λb o u e=>by rw[aj (nDb e)];exact e) (λb ps e=>⟨#[],by rw[aj (nDb e),e];simp⟩) (λm' hm'=>?_) (λb u e=>?_) I.bare
 ·rw[aj (λz=>?_)];exact n;rw[z] at e;rw[hD0] at e;cases e
 ·by_cases z:b=X.env.locals
  ·obtain⟨oL,es,ep,eL,_⟩:=F2;exact⟨oL,by rw[z];exact eL⟩
  ·exact⟨o,kp2 b o z e⟩
 ·have em:m'=m:=by obtain⟨o1,es1,ep1,a1,d1,_,r1⟩:=hm';obtain⟨o2,es2,ep2,a2,d2,_,r2⟩:=hns;rw[a1] at a2;cases a2;rw[d1] at d2;cases d2;funext n;rw[← r1,← r2]
  rw[em];exact F2
 ·by_cases z:b=D
  ·rw[z,af] at e;cases e;rw[z];exact new _
  ·rw[aj z] at e;refine(I.hok b u e).stay (λc v hc q=>kp2 c v (λy=>?_) q) (λc hc=>by rw[aj (nDb hc)];exact hc) (λc xs hc=>by rw[aj (nDb hc)];exact hc);have fL:=I.free;rcases hc with hc|hc
   ·rw[← hc,y,fL] at e;cases e
   ·rw[y,fL] at hc;cases hc
inductive TH(xs:List V)(H:Hp)(Q:VK):Prop|mk(a:Addr)(kvs:List (Key×V))(names:List Str)(_:xs=[.ref a])(_:H a=some (.dK kvs))(_:kvs.map (·.1)=names.map Sum.inr)(_:names.length<64)(_:∀l,H l=none->Q (.ref l) (upd H l (.lst ((fG names).map V.str))))
def wJ (hc:X.calm=true):gR X (.builtin "sorted") TH:=by
 intro pins s Z H xs us Q I r h;obtain⟨a,kvs,names,rfl,ha,hk,hn,q⟩:=h;obtain⟨u,rfl,ru⟩:=vals1 r;cases ru;obtain⟨z,hd,vs,rel,dd⟩:=yD I.hok ha;obtain⟨o,es,ep,eo,c,d,r'⟩:=dd;have hl:=rel.length;have hnl:names.length=kvs.length:=by have:=ac1 List.length hk;simpa using this.symm
 obtain⟨m,hns,_⟩:=id I.loc;refine W.kdu_sorted (h₀:=Att.lE s.heap) (L:=X.env.locals) (m:=m) (news:=oR (Att.lE s.heap) s.heap X.env.locals) (W.kdl_dict (knd:=cu X.prog X.w) (kvs:=vs) (ep:=ep) hd) (I.ok.hd hc) (Att.EG hns) yx ⟨o,es,eo,c,d,r'⟩ (by rw[← hl];exact z) λD h' tk ws F N hlt hwl hP=>?_;have hw:∀(j:Nat) x,names[j]?=some x->∃t,ws[j]?=some (Value.str x t):=λj x e=>by
  have hj:=(i5.mp e).1;have hj2:j<ws.length:=by lia
  have ew:ws[j]?=some ws[j]:=i4 hj2;obtain⟨k,y,f1,f2⟩:=hP j _ ew;have:=ac1 (λl:List Key=>l[j]?) (hk.symm.trans rel.keys);simp only[B1,e,f1,ad7] at this;have ek:(Sum.inr x:Key)=k:=X8 this;subst ek;obtain⟨t,ht⟩:=(show ∃t,ws[j]=Value.str x t from MA f2)
  exact⟨t,by rw[ew,ht]⟩
 have hwm:∀v∈ws,∃x t,v=Value.str x t:=λv hv=>by obtain⟨j,hj⟩:=ab0.mp hv;have hj1:=(i5.mp hj).1;have e:names[j]?=some (names[j]'(by lia)):=i4 _;obtain⟨t,ht⟩:=hw j _ e;rw[hj] at ht;exact⟨_,t,X8 ht⟩
 have nD:=(N (D,_) (X9 ..)).2.1;have hD0:s.heap.get? D=none:=by
  cases e:s.heap.get? D with
  |none=>rfl
  |some o=>exact absurd (hlt (D,o) (gE nD (Att.gr _ _) e)) (ad6 _)
 have hz:((fG names).map V.str).length<=sizeLine:=by rw[d6,(fJ names).length_eq,ac0];lia
 have fin:∀(h2:Heap) (out:List Value) (c2:Nat),h2.Ns X.env.locals m->(∀c o,c≠X.env.locals->s.heap.get? c=some o->h2.get? c=some o)->h2.get? D=some (seqObj "list" out.toArray c2)->Vals ((fG names).map V.str) out->EP X pins Z Q (Value.ref D) { s with heap:=h2,toks:=tk }:=λh2 out c2 f1 f2 f3 f4 =>
  ⟨.ref D,_,I.CW hns f1 f2 hD0 (λH'=>⟨hz,out,c2,f4,f3⟩),rfl,q D (I.hok.new hD0)⟩
 by_cases h2:ws.length<2
 ·have hD:=(N (D,_) (X9 ..)).1;refine wpAny_call_entry slot_list_sort ⟨_,hD,rfl⟩ entry_list_sort (zS (s:={ s with heap:=h',toks:=tk }) hD h2 λh3 c3 g1 g2=>⟨_,rfl,?_⟩) (args_list_sort _);refine fin h3 ws c3 (F.ns.at' λoo e=>g2 _ _ (aa3 nD) e) (λcc oo n e=>?_) g1 ?_
  ·have e1:=(N (cc,oo) (D1 _ (gE n (Att.gr _ _) e))).1;exact g2 _ _ (λy=>by rw[y,hD0] at e;cases e) e1
  ·have es:fG names=names:=by unfold fG;rw[if_pos (by lia)]
   rw[es];refine wQ (by rw[d6];lia) λj x u e1 e2=>?_;rw[B1] at e1;obtain⟨y,g3,rfl⟩:=Q1.mp e1;obtain⟨t,ht⟩:=hw j y g3;rw[e2] at ht;exact⟨t,X8 ht⟩
 ·have he:names.length=ws.length:=by lia
  refine W.kas_lsort (s:={ s with heap:=h',toks:=tk }) (T:=.type "str") (vs:=ws) F N (W.UpdF.head λqq hq=>T0 (hlt qq hq)) (by simp) (by lia) (by lia) (λe1 h _ _ v hv=>?_) (by decide) (λe1 h3 F3 N3=>?_)
  ·obtain⟨x,t,rfl⟩:=hwm v hv;exact λA' Q' E' s' _ h=>T1 h
  ·rw[← he];refine Je (P:=fQ names.length) hw (pH (by lia)) ?_;have hp:fQ names.length (Ky (Kc names) (W.kas_sort names.length)):=(pH (by lia)).ev;refine W.KasFin.intro F3 N3 (W.UpdF.head λqq hq=>T0 (hlt qq hq)) (λh4 c4 F4 N4=>?_);refine fin h4 _ c4 F4.ns (λcc oo n e=>(N4 (cc,oo) (D1 _ (gE n (Att.gr _ _) e))).1) (N4 (D,_) (X9 ..)).1 ?_;have es:fG names=(Ky (Kc names) (W.kas_sort names.length)).toList.map λi=>names.getD i "" := by unfold fG;rw[if_neg (by lia)]
   rw[es];refine wQ (by simp) λj x u e1 e2=>?_;rw[B1,B1] at e1;rw[B1] at e2;cases g:(Ky (Kc names) (W.kas_sort names.length)).toList[j]? with
   |none=>rw[g] at e2;cases e2
   |some i =>
    rw[g] at e1 e2;have hi:i<names.length:=List.mem_range.mp (hp.mem_iff.mp (u8 g));have ei:names[i]?=some names[i]:=i4 hi;obtain⟨t,ht⟩:=hw i _ ei;simp only[ad7,af0] at e1 e2;rw[ab5,ei] at e1;rw[ab5,ht] at e2;subst e1 e2;exact⟨t,rfl⟩
end
end L2
namespace L2
open PySem PySem.Spec PyProof.Rows
section
variable {X:Cx}
def LK(I:Inv X pins Z H s)(hu:A.units+1<cLine)(rb:KV kb vb) :
  ∀{ka:List (Key×V)} {va:List (Key×Value)},KV ka va->(∀kv∈ka,∃v',fu kb kv.1=some v'/\qm X.K H 1 kv.2 v')->W.KeqHits A s vb va true:=by
 intro ka va r;unfold KV at r;induction r with
 |nil=>intro _;exact .nil
 | @cons p q ps qs h t ih =>
  intro hh;obtain⟨v',e1,e2⟩:=hh p (X9 ..);obtain⟨w',hw,rw'⟩:=jh.some_of (v:=v') (o:=valueAt vb p.1) (by rw[← e1];exact rb.val p.1);obtain⟨qk,qv⟩:=q;have ek:p.1=qk:=h.1;subst ek;exact W.KeqHits.hit (e:=true) (b:=true) hw (uT I 1 A _ _ _ _ hu h.2 rw' e2) (ih λkv hk=>hh kv (D1 _ hk))
def E8(K:PySem.W.Frag)(H:Hp)(a b:Addr):Prop:=∃ka kb:List (Key×V),H a=some (.dK ka)/\H b=some (.dK kb)/\ka.length=kb.length/\∀kv∈ka,∃v',fu kb kv.1=some v'/\qm K H 1 kv.2 v'
inductive UJ(K:PySem.W.Frag)(x:V)(y:V)(H:Hp)(Q:VK):Prop|mk(a b)(_:x = .ref a)(_:y = .ref b)(_:E8 K H a b)(_:Q (.bl false) H)
def K3(hu:X.A.units+4<cLine):mZ X (compareOp .NotEq) (UJ X.K):=by
 intro pins s Z H x y v u Q I rx ry h;obtain⟨a,b,rfl,rfl,⟨ka,kb,ha,hb,hl,hh⟩,q⟩:=h;cases rx;cases ry;obtain⟨z1,m1,va,r1,d1⟩:=yD I.hok ha;obtain⟨z2,m2,vb,r2,d2⟩:=yD I.hok hb;have el:(!(va.length == vb.length && true))=false:=by rw[← r1.length,← r2.length,hl];simp
 refine W.keq_ne (r:=true) m1 m2 d1 d2 (by lia) (λ_=>LK I (by show X.A.units+1+1<cLine;lia) r2 r1 hh) ?_;rw[el];exact⟨.bl false,H,I,rfl,q⟩
def Ql(a b:Str):Nat:=(Builtin.Str.occurrences a b 0 a.length (a.length+1)).length
inductive Sz(x:V)(vs:List V)(H:Hp)(Q:VK):Prop|mk(a b)(_:x = .str a)(_:vs=[.str b])(_:Q (.int (Ql a b)) H)
def JS:SX X "str.count" Sz:=by intro pins s Z H x vs v us Q I rx rv h;obtain⟨a,b,rfl,rfl,q⟩:=h;obtain⟨t,rfl⟩:=rx;obtain⟨u,rfl,ru⟩:=rv.one;obtain⟨t1,rfl⟩:=ru;exact call_gives F.slot_str_count (ai0 _ _ _) F.entry_str_count (F.args_str_count_2 _ _) (gives_str_count a b t t1) ⟨.int _,H,I.tok _,⟨_,rfl⟩,q⟩
end
end L2
namespace L2
open PySem PySem.Spec PyProof.Rows
section
variable {X:Cx}{e:Expr}{es:List Expr}{te:TE}{t:TF}
def Ra(te:TE)(t:TF):TF:=λZ H acc Q=>te Z H λv H1=>∃x,v = .str x/\(reprText x).length<=sizeLine/\(acc++reprText x).length<=sizeLine/\t Z H1 (acc++reprText x) Q
def Cd(he:PE X e te)(hr:PF X es t):PF X (.FormattedValue e 114 none p::es) (Ra te t):=by intro pins s Z H acc Q I h;show wpAny _ _ (joinParts acc (eval (.FormattedValue e 114 none p) X.env::evalEach es X.env)) _ _ s;refine joinParts_cons (wpAny_FormattedValue_repr (cM (he pins s Z H _ I h) λu s1  hZ=>?_));obtain⟨v,H1,I1,r1,x,hx,hl,hl2,q⟩:=hZ;subst hx;obtain⟨tk,rfl⟩:=r1;exact wpAny_pyReprObj_str (formatField_str (λt' tk'=>⟨hl2,hr pins _ Z _ _ Q (I1.tok _) q⟩) hl) hl
end
section
variable {X:Cx}{o:Expr}{ta:TE}{m:Str}{apos pos:Pos}{f C:Addr}{fd:FuncData}{ps:List Str}{ds:List Value}{dvs:List V}{k:Nat}{CX:ue}{sp:Sp}
def vz(he:PE X o ta)(c:ny X.K C)(hm:Meth X.K C m f)(F:bw X.prog X.w X.K X.mg X.base CX k f fd ps sp)(hr:fh k X.A)(hb:Binds X.K fd ps ds)(hd:Vals dvs ds)
  (ht:autoParam (eval (.Call (.Attribute o m apos) [] [] pos) X.env=(do
   let ov ← eval o X.env
   standAt apos.atName
   let (f,first) ← holding [ov] (getMethod ov m pl)
   callWith pos f first (backTo pos (starEach [] X.env)) (backToKw pos (keywordEach [] X.env)))) L2.Y3._auto_1) :
  PE X (.Call (.Attribute o m apos) [] [] pos) (JA CX X C m sp dvs ta Dy):=λpins s Z H Q I h =>
 ah5 (pl:=pl) (cM (he pins s Z H _ I h) λu s1 ⟨x,H1,I1,rx,a,dx,fs,ex,ea,l,q⟩=>by subst ex;obtain rfl:u=Value.ref a:=rx;exact kF I1 ea c hm l (aj2 (first:=[.ref a]) I1.iU hm.kp (yp (us:=[.ref a]) (vs:=[.ref a]) F hr hb hd I1 (.cons rfl .nil) q))) ht
end
end L2
namespace L2
open PySem PySem.Spec PyProof.Rows
section
variable {X:Cx}{a b:PySem.Expr}{ta tb:TE}{pos:Pos}{rest:List PySem.Expr}
def P5(ha:PE X a ta)(hb:PE X (.BoolOp .Or (b::rest) pos) (λ_ H Q=>Q d H)):PE X (.BoolOp .Or (a::b::rest) pos) (λZ H Q=>ta Z H λx H1=>∃y,(∃k,KH X.K x H1 k/\y=if k=true then x else d)/\Q y H1):=by
 intro pins s Z H Q I h;refine BoolOp_or (cM (ha pins s Z H _ I h) λv s1  hZ=>?_);obtain⟨x,H1,I1,r1,q1⟩:=hZ;obtain⟨y,⟨k,hk,rfl⟩,q1⟩:=q1;refine cM (F0 pins s1 Z H1 x v (λc H2=>c=k/\H2=H1) I1 r1 ⟨k,hk,rfl,rfl⟩) λc s2 z=>?_;obtain⟨H2,I2,e1,e2⟩:=z;subst e1;subst e2;cases c with
 |false=>exact hb pins s2 Z H2 Q I2 q1
 |true=>exact⟨x,H2,I2,r1,q1⟩
end
end L2
namespace L2
open PySem PySem.Spec PyProof.Rows
section
variable {X:Cx}{CX:ue}{k:Nat}{f C:Addr}{fd:FuncData}{ps:List Str}{sp:Sp}{dvs:List V}{ds:List Value}{x m:Str}{p pos apos:Pos}{e o:Expr}{es:List Expr}{ta:TE}{t:TA}
def Tc(CX:ue)(X:Cx)(C:Addr)(sp:Sp)(dvs:List V)(t:TA):TE:=λZ H Q=>t Z H λvs H1=>∃E,o7 CX X Z E/\∀x dx,H1 x=none->H1 dx=none->dx≠x->sp (.ref x::(vs++dvs)) (upd (upd H1 dx (.own x)) x (.ins C dx [])) (λv H2=>v = .cD/\Q (.ref x) H2) E
def De(M:Mk X.K C f)(F:bw X.prog X.w X.K X.mg X.base CX k f fd ps sp)(hr:fh (k+1) X.A)(hb:Binds X.K fd ps ds)(hd:Vals dvs ds)
  (I:Inv X pins Z H s) (r:Vals vs us)
  (h:∃E,o7 CX X Z E/\∀x dx,H x=none->H dx=none->dx≠x->sp (.ref x::(vs++dvs)) (upd (upd H dx (.own x)) x (.ins C dx [])) (λv H2=>v = .cD/\Q (.ref x) H2) E) :
  wpAny (model X.prog X.w) X.A (call (.ref C) us) (EP X pins Z Q) X.xe s:=by
 obtain⟨E,hx,h⟩:=h;have hq:=h (s.heap.objs.size+1) s.heap.objs.size (I.hok.fresh (Nat.le_succ _)) (I.hok.fresh (M2 _)) (T0 (ai9 _));have I2:=Inv.made (C:=C) I;have r2:Vals (V.ref (s.heap.objs.size+1)::(vs++dvs)) (Value.ref (s.heap.objs.size+1)::(us++ds)):=.cons rfl (r.append hd);have hl:(Value.ref (s.heap.objs.size+1)::us++ds).length=ps.length:=by have e:=r2.length;rw[F.len _ _ _ _ hq] at e;exact e.symm
 refine ai1 (yN (f:=f) I.iU M.makes M.init (beq_iff_eq.mp M.fn) (aj6 (F.run _ X.stack _ _ ⟨Value.ref (s.heap.objs.size+1)::us,[]⟩ (Value.ref (s.heap.objs.size+1)::(us++ds)) _ _ E (hr.make C us [])
  (I2.Ja.make C us []) (hb _ (Value.ref (s.heap.objs.size+1)::us) I2.iU hl) r2 hq) λr s' hq'=>?_))
 cases r with
 |error e=>exact hx pins _ _ e s' I2 hq'
 |ok fl =>
  cases fl with
  |ret u =>
   obtain⟨v,H',I3,rv,ev,q3⟩:=I2.after hq';subst ev;exact⟨rv,⟨V.ref (s.heap.objs.size+1),H',I3,rfl,q3⟩⟩
  |next=>exact False.elim hq'
  |brk=>exact False.elim hq'
  |cont=>exact False.elim hq'
def F5(M:Mk X.K C f)(F:bw X.prog X.w X.K X.mg X.base CX k f fd ps sp)(hr:fh (k+1) X.A)(hg:Gl X x)(hm:X.mg x=some (.ref C))(hb:Binds X.K fd ps ds)(hd:Vals dvs ds)
  (ha:PA X (e::es) t) (hdb:autoParam ((x == ("__debug__" : Str))=false) L2.Y1._auto_1) (he:autoParam (starEach (e::es) X.env=(false,eval e X.env)::starEach es X.env) L2.Y3._auto_1) (hpl:autoParam ((backTo pos (starEach es X.env)).any (·.1)=false) L2.Y3._auto_1) :
  PE X (.Call (.Name x p) (e::es) [] pos) (Tc CX X C sp dvs t):=by
 intro pins s Z H Q I h;refine ad8 (iZ I hg hm ?_ hdb);refine af5 (h₀:=X.base) I.ok.mod.rK M.kp (cM (ha pos pins s Z H _ I h) λus s1 ⟨vs,H1,I1,r,q⟩=>⟨I1.iU,?_⟩) he hpl;exact De M F hr hb hd I1 r q
end
end L2
namespace L2
open PySem PySem.Spec PyProof.Rows
section
variable {X:Cx}
def Kd:mZ X (binaryOp .Mult) (λx y H Q=>∃i n,x = .str i/\y = .int n/\MulOk i n/\Q (.str (PySem.Txt.mul i n)) H):=by intro pins s Z H x y v u Q I rx ry h;obtain⟨i,n,rfl,rfl,hz,q⟩:=h;obtain⟨t,rfl⟩:=rx;obtain⟨t',rfl⟩:=ry;exact SB.mul hz (λt' tk=>⟨.str (PySem.Txt.mul i n),H,I.tok _,⟨_,rfl⟩,q⟩)
end
end L2
namespace L2
open PySem
def fh.m(r:fh k A)(h:autoParam (j<=k) L2.Y1._auto_1):fh j A:=r.mono h
def cR(i:Nat)(S:aF X.N P sc)(he:PE X e te)(hi:autoParam (X.N[i]?=some x) L2.Y3._auto_1)(hx:autoParam (Loc X.env.scope x) L2.Y4._auto_1)(hs:autoParam (swapsWith e (some (.Name x pos')) pos.line X.env=pure false) L2.Y3._auto_1)(hf:autoParam (X.fn x=true∨X.env.scope.names.lookup x=some .local) L2.Y0._auto_1):PS X (.Assign [.Name x pos'] e pos) (HF te (qQ i)):=wm S.nd hi hx he hs hf
def uc(i:Nat)(S:aF X.N P sc)(hi:autoParam (X.N[i]?=some x) L2.Y3._auto_1)(hx:autoParam (Loc X.env.scope x) L2.Y4._auto_1)(hf:autoParam (X.fn x=true∨X.env.scope.names.lookup x=some .local) L2.Y0._auto_1):PG X (.Name x pos) (qQ i):=rN S.nd hi hx hf
end L2
namespace K64
open PySem L2
set_option hygiene false
local macro_rules | `(tactic| walk_at "i")=>`(tactic| refine ⟨rfl,λ_ _ _ _ hr=>wA ?_⟩)
local macro_rules | `(tactic| walk_at "1")=>`(tactic| (intro _ _ _ _ _ _ us hl;obtain ⟨_,rfl⟩:=ls1 hl;rfl))
local macro_rules | `(tactic| walk_at "3")=>`(tactic| (intro _ _ _ _ _ _ us hl;obtain ⟨_,_,_,rfl⟩:=ls3 hl;rfl))
local macro_rules | `(tactic| left)=>`(tactic| walk_at "u")
local macro_rules | `(tactic| walk_at "sc")=>`(tactic| exact ⟨rfl,rfl,rfl,by decide +kernel,rfl,by decide +kernel,by decide +kernel⟩)
noncomputable def top(i:Nat):Stmt:=PySem.Challenge.pw_tintrow_k64_a_scribe_refuses.main.body.getD i (.Pass ⟨0,0,0,0⟩)
noncomputable abbrev Ml:Stmt:=inClass (top 4) 0
def Ph:aF ["self","ring","sign"] ["self","ring","sign"] (az Ml):=by walk_at "sc"
noncomputable abbrev Ju:Stmt:=top 13
def QZ:aF ["word"] ["word"] (az Ju):=by walk_at "sc"
noncomputable abbrev MZ:Stmt:=inClass (top 14) 0
def SS:aF ["self","pattern","colour","deed","goal","fold"] ["self","pattern","colour","deed","goal","fold"] (az MZ):=by walk_at "sc"
noncomputable abbrev Mw:Stmt:=inClass (top 15) 0
def RQ:aF ["self","name","colour","rules"] ["self","name","colour","rules"] (az Mw):=by walk_at "sc"
noncomputable abbrev LY:Stmt:=inClass (top 16) 0
def QW:aF ["self","modes"] ["self","modes"] (az LY):=by walk_at "sc"
noncomputable abbrev HP:Stmt:=top 17
def PN:aF ["rules"] ["rules"] (az HP):=by walk_at "sc"
noncomputable abbrev Jg:Stmt:=top 18
def P0:aF ["mode"] ["mode"] (az Jg):=by walk_at "sc"
noncomputable abbrev ON:Stmt:=top 19
def RC:aF ["rule"] ["rule"] (az ON):=by walk_at "sc"
noncomputable abbrev Na:Stmt:=inClass (top 21) 1
def QC:aF ["self"] ["self"] (az Na):=by walk_at "sc"
noncomputable abbrev Nx:Stmt:=inClass (top 22) 0
def Pp:aF ["self","text"] ["self","text"] (az Nx):=by walk_at "sc"
noncomputable abbrev N1:Stmt:=inClass (top 22) 1
def P6:aF ["self","row","at"] ["self","row","at"] (az N1):=by walk_at "sc"
noncomputable abbrev LV:Stmt:=inClass (top 22) 2
def Rf:aF ["self"] ["self"] (az LV):=by walk_at "sc"
noncomputable abbrev NX:Stmt:=inClass (top 23) 0
def Sj:aF ["self","signs"] ["self","signs"] (az NX):=by walk_at "sc"
noncomputable abbrev N7:Stmt:=inClass (top 23) 1
def Ss:aF ["self","row","at"] ["self","row","at"] (az N7):=by walk_at "sc"
noncomputable abbrev L3:Stmt:=inClass (top 23) 2
def S3:aF ["self"] ["self"] (az L3):=by walk_at "sc"
noncomputable abbrev Nt:Stmt:=inClass (top 24) 0
def Tq:aF ["self","signs"] ["self","signs"] (az Nt):=by walk_at "sc"
noncomputable abbrev M8:Stmt:=inClass (top 24) 1
def PX:aF ["self","row","at"] ["self","row","at"] (az M8):=by walk_at "sc"
noncomputable abbrev OT:Stmt:=inClass (top 24) 2
def Qh:aF ["self"] ["self"] (az OT):=by walk_at "sc"
noncomputable abbrev Oo:Stmt:=inClass (top 25) 0
def Qq:aF ["self","signs"] ["self","signs"] (az Oo):=by walk_at "sc"
noncomputable abbrev NK:Stmt:=inClass (top 25) 1
def zP:aF ["self","row","at","end"] ["self","row","at"] (az NK):=by walk_at "sc"
noncomputable abbrev Nm:Stmt:=inClass (top 25) 2
def Tf:aF ["self"] ["self"] (az Nm):=by walk_at "sc"
noncomputable abbrev Vi:Stmt:=inClass (top 26) 0
def VO:aF ["self","row","at"] ["self","row","at"] (az Vi):=by walk_at "sc"
noncomputable abbrev Ue:Stmt:=inClass (top 26) 1
def VW:aF ["self"] ["self"] (az Ue):=by walk_at "sc"
noncomputable abbrev Mi:Stmt:=inClass (top 27) 0
def Rb:aF ["self","row","at"] ["self","row","at"] (az Mi):=by walk_at "sc"
noncomputable abbrev OE:Stmt:=inClass (top 28) 0
def RP:aF ["self","row","at"] ["self","row","at"] (az OE):=by walk_at "sc"
noncomputable abbrev MP:Stmt:=top 31
def AU:aF ["rules","mode","row","at","number","rule"] ["rules","mode","row","at"] (az MP):=by walk_at "sc"
noncomputable abbrev OX:Stmt:=top 32
def QL:aF ["modes","rule"] ["modes","rule"] (az OX):=by walk_at "sc"
noncomputable abbrev O5:Stmt:=top 33
def vR:aF ["rules","found"] ["rules"] (az O5):=by walk_at "sc"
noncomputable abbrev En:Stmt:=top 34
def tN:aF ["rules","row","first","ring"] ["rules"] (az En):=by walk_at "sc"
noncomputable abbrev OP:Stmt:=top 35
def Pq:aF [] [] (az OP):=by walk_at "sc"
noncomputable abbrev ND:Stmt:=top 36
def sM:aF ["rules","first","row","ring","modes","rule"] ["rules","first","row"] (az ND):=by walk_at "sc"
noncomputable abbrev NF:Stmt:=top 37
def AM:aF ["rules","mode","row","number","rule"] ["rules","mode","row"] (az NF):=by walk_at "sc"
noncomputable abbrev L8:Stmt:=top 39
def lK:aF ["rules","modes","row","on","tints","marks","at","mode","number","rule"] ["rules","modes","row"] (az L8):=by walk_at "sc"
noncomputable abbrev OA:Stmt:=inClass (top 41) 0
def Ep:aF ["self","rules","modes","row","told"] ["self","rules","modes","row"] (az OA):=by walk_at "sc"
noncomputable abbrev OZ:Stmt:=inClass (top 42) 0
def GS:aF ["self","rules","rows"] ["self","rules","rows"] (az OZ):=by walk_at "sc"
noncomputable abbrev Jd:Stmt:=inClass (top 42) 1
def QO:aF ["self"] ["self"] (az Jd):=by walk_at "sc"
noncomputable abbrev Ma:Stmt:=inClass (top 42) 2
def WS:aF ["self","row"] ["self","row"] (az Ma):=by walk_at "sc"
noncomputable abbrev LM:Stmt:=inClass (top 42) 3
def W6:aF ["self","row"] ["self","row"] (az LM):=by walk_at "sc"
noncomputable abbrev OV:Stmt:=inClass (top 42) 4
def WA:aF ["self","row"] ["self","row"] (az OV):=by walk_at "sc"
noncomputable abbrev MC:Stmt:=inClass (top 42) 5
def pN:aF ["self","row","many","rows","taken","ahead","back","first","changed"] ["self","row","many","rows"] (az MC):=by walk_at "sc"
noncomputable abbrev O8:Stmt:=inClass (top 42) 6
def Ai:aF ["self","row","at","text","signs"] ["self","row","at","text"] (az O8):=by walk_at "sc"
noncomputable abbrev O9:Stmt:=inClass (top 42) 7
def Qx:aF ["self","row","at","row2","at2","left"] ["self","row","at","row2","at2"] (az O9):=by walk_at "sc"
noncomputable abbrev Nu:Stmt:=inClass (top 42) 9
def sJ:aF ["self","modes","rows","gone_rows","row","gone"] ["self","modes","rows"] (az Nu):=by walk_at "sc"
noncomputable abbrev NC:Stmt:=inClass (top 42) 10
def z7:aF ["self","row","at"] ["self","row"] (az NC):=by walk_at "sc"
noncomputable abbrev M0:Stmt:=inClass (top 42) 11
def Sx:aF ["self","row"] ["self","row"] (az M0):=by walk_at "sc"
noncomputable abbrev OQ:Stmt:=inClass (top 42) 12
def Xh:aF ["self","row"] ["self","row"] (az OQ):=by walk_at "sc"
noncomputable abbrev Pd:Stmt:=inClass (top 42) 13
def Gb:aF ["self","row"] ["self","row"] (az Pd):=by walk_at "sc"
noncomputable abbrev NW:Stmt:=inClass (top 42) 14
def Fq:aF ["self","row","at"] ["self","row","at"] (az NW):=by walk_at "sc"
noncomputable abbrev O0:Stmt:=inClass (top 42) 15
def PD:aF ["self","row","at","row2","at2"] ["self","row","at","row2","at2"] (az O0):=by walk_at "sc"
noncomputable abbrev L4:Stmt:=inClass (top 42) 16
def RW:aF ["self","row","many"] ["self","row","many"] (az L4):=by walk_at "sc"
noncomputable abbrev NJ:Stmt:=top 43
def tU:aF ["some","others","many","one","other"] ["some","others"] (az NJ):=by walk_at "sc"
noncomputable abbrev MY:Stmt:=top 44
def S8:aF ["some","others"] ["some","others"] (az MY):=by walk_at "sc"
noncomputable abbrev Nk:Stmt:=inClass (top 46) 0
def RH:aF ["self","row","taken","given","places"] ["self","row","taken","given","places"] (az Nk):=by walk_at "sc"
noncomputable abbrev Mn:Stmt:=inClass (top 47) 0
def Ia:aF ["self","rules","rows"] ["self","rules","rows"] (az Mn):=by walk_at "sc"
noncomputable abbrev Oa:Stmt:=inClass (top 47) 1
def Pg:aF ["self"] ["self"] (az Oa):=by walk_at "sc"
noncomputable abbrev E3:Stmt:=inClass (top 47) 3
def Q6:aF ["self"] ["self"] (az E3):=by walk_at "sc"
noncomputable abbrev Mv:Stmt:=inClass (top 47) 4
def zu:aF ["self","name","row","at","places"] ["self","name","row","at"] (az Mv):=by walk_at "sc"
noncomputable abbrev MG:Stmt:=inClass (top 47) 5
def Rw:aF ["self","name","places"] ["self","name"] (az MG):=by walk_at "sc"
noncomputable abbrev EB:Stmt:=inClass (top 47) 6
def qB:aF ["self","row","at","text","ahead","count"] ["self","row","at","text"] (az EB):=by walk_at "sc"
noncomputable abbrev Ng:Stmt:=inClass (top 47) 7
def zT:aF ["self","row","at","row2","at2","ahead","count"] ["self","row","at","row2","at2"] (az Ng):=by walk_at "sc"
noncomputable abbrev O6:Stmt:=inClass (top 47) 8
def JE:aF ["self","row","taken","many","given"] ["self","row","taken","many"] (az O6):=by walk_at "sc"
noncomputable abbrev Ou:Stmt:=inClass (top 47) 9
def zD:aF ["self","deed"] ["self"] (az Ou):=by walk_at "sc"
noncomputable abbrev NI:Stmt:=inClass (top 47) 10
def Ac:aF ["self","deed"] ["self"] (az NI):=by walk_at "sc"
noncomputable abbrev M4:Stmt:=top 48
def vZ:aF ["place","first","text","pieces","more","begin"] ["place","first","text"] (az M4):=by walk_at "sc"
noncomputable abbrev Mp:Stmt:=top 49
def WN:aF ["place","first","second"] ["place","first","second"] (az Mp):=by walk_at "sc"
noncomputable abbrev Vj:Stmt:=inClass (top 57) 0
def VR:aF ["self","row","text"] ["self","row","text"] (az Vj):=by walk_at "sc"
noncomputable abbrev U0:Stmt:=inClass (top 57) 1
def VM:aF ["self"] ["self"] (az U0):=by walk_at "sc"
noncomputable abbrev T8:Stmt:=inClass (top 57) 2
def VB:aF ["self"] ["self"] (az T8):=by walk_at "sc"
noncomputable abbrev VH:Stmt:=inClass (top 57) 3
def UX:aF ["self","good"] ["self","good"] (az VH):=by walk_at "sc"
noncomputable abbrev Vm:Stmt:=inClass (top 57) 4
def Ob:aF ["self","good","word"] ["self","good"] (az Vm):=by walk_at "sc"
noncomputable abbrev Vv:Stmt:=inClass (top 57) 5
def U3:aF ["self","words"] ["self","words"] (az Vv):=by walk_at "sc"
noncomputable abbrev Uw:Stmt:=inClass (top 57) 6
def Ur:aF ["self"] ["self"] (az Uw):=by walk_at "sc"
noncomputable abbrev UH:Stmt:=inClass (top 57) 7
def NY:aF ["self","word"] ["self"] (az UH):=by walk_at "sc"
noncomputable abbrev MW:Stmt:=top 58
def kC:aF ["text","rows","numbers","modes","nowhere","number","row","cursor","rules"] ["text"] (az MW):=by walk_at "sc"
noncomputable abbrev NQ:Stmt:=top 59
def vQ:aF ["rows","numbers","row","words"] ["rows"] (az NQ):=by walk_at "sc"
noncomputable abbrev EL:Stmt:=top 60
def zW:aF ["cursor","modes","name","colour"] ["cursor","modes"] (az EL):=by walk_at "sc"
noncomputable abbrev Pe:Stmt:=top 61
def pY:aF ["cursor","numbers","nowhere","pattern","colour","deed","goal","fold"] ["cursor","numbers","nowhere"] (az Pe):=by walk_at "sc"
noncomputable abbrev LL:Stmt:=top 62
def AE:aF ["cursor","kind","signs"] ["cursor"] (az LL):=by walk_at "sc"
noncomputable abbrev Nf:Stmt:=top 63
def zK:aF ["cursor","numbers","nowhere","place","name"] ["cursor","numbers","nowhere"] (az Nf):=by walk_at "sc"
noncomputable abbrev OO:Stmt:=top 65
def vO:aF ["_law_script","_law_k","_law_many","_law_cell","_law_left","_law_seed"] ["_law_script","_law_k","_law_many"] (az OO):=by walk_at "sc"
noncomputable abbrev Jt:Stmt:=top 66
def iG:aF ["_law_script","_law_some","_law_c","_law_way","_law_base","_law_deep","_law_quoted","_law_modes_here","_law_word"] ["_law_script"] (az Jt):=by walk_at "sc"
noncomputable abbrev N6:Stmt:=top 67
def ig:aF ["_law_modes_here","_law_texts","_law_name","_law_colour","_law_rules","_law_kind","_law_arg","_law_paint","_law_deed","_law_goal","_law_fold","_law_words"] ["_law_modes_here"] (az N6):=by walk_at "sc"
noncomputable abbrev Hu:Stmt:=top 68
def D8:aF ["_law_script","_law_k","_law_signs"] ["_law_script","_law_k"] (az Hu):=by walk_at "sc"
noncomputable abbrev Oz:Stmt:=top 69
def Es:aF ["_law_script","_law_k","_law_rows","_law_row_here"] ["_law_script","_law_k","_law_rows"] (az Oz):=by walk_at "sc"
noncomputable abbrev Oc:Stmt:=top 70
def Gp:aF ["_law_caught","_law_words"] ["_law_caught"] (az Oc):=by walk_at "sc"
noncomputable abbrev OH:Stmt:=top 71
def qp:aF ["_law_scribe","_law_way","_law_name","_law_first","_law_last","_law_caught","e"] ["_law_scribe","_law_way","_law_name","_law_first","_law_last"] (az OH):=by walk_at "sc"
noncomputable abbrev NH:Stmt:=top 72
def vW:aF ["_law_script","_law_k","_law_rows","_law_far","_law_row_here","_law_some"] ["_law_script","_law_k","_law_rows"] (az NH):=by walk_at "sc"
noncomputable abbrev OY:Stmt:=top 73
def lV:aF ["_law_script","_law_k","_law_scribe","_law_rows","_law_marks","_law_way","_law_bad","_law_good","_law_strange","_law_pair","_law_is_so"] ["_law_script","_law_k","_law_scribe","_law_rows","_law_marks"] (az OY):=by walk_at "sc"
noncomputable abbrev My:Stmt:=top 74
def sr:aF ["_law_script","_law_some","_law_caught","e"] ["_law_script"] (az My):=by walk_at "sc"
noncomputable abbrev BZ:Stmt:=top 75
def jt:aF ["_law_script","_law_rows","_law_scribe","_law_many","_law_k","_law_is_back","_law_later","_law_now","_law_marks"] ["_law_script"] (az BZ):=by walk_at "sc"
set_option genInjectivity false in
structure dU where
 dQ:Addr
 iF:Addr
 bK:Addr
 bM:Addr
 bV:Addr
 b8:Addr
 jf:Addr
 jk:Addr
 dX:Addr
 jC:Addr
 iE:Addr
 j6:Addr
 dw:Addr
 iu:Addr
 lD:Addr
 gS:Addr
 k9:Addr
 cj:Addr
 bf:Addr
 cJ:Addr
 aG:Addr
 cV:Addr
 CA:Addr
 NR:FuncData
 G3:Addr
 NP:FuncData
 Jh:Addr
 Mm:FuncData
 Jk:Addr
 N8:FuncData
 HX:Addr
 L5:FuncData
 HM:Addr
 OB:FuncData
 Fw:Addr
 MO:FuncData
 Ho:Addr
 O3:FuncData
 vv:Addr
 Bd:FuncData
 Hr:Addr
 Nh:FuncData
 BW:Addr
 Hz:FuncData
 BH:Addr
 Gr:FuncData
 EA:Addr
 Nv:FuncData
 Br:Addr
 Jv:FuncData
 BU:Addr
 JM:FuncData
 Fc:Addr
 OL:FuncData
 BR:Addr
 Gv:FuncData
 Bx:Addr
 Gn:FuncData
 Io:Addr
 N9:FuncData
 Bu:Addr
 JX:FuncData
 BS:Addr
 Fb:FuncData
 Lm:Addr
 SK:FuncData
 K7:Addr
 Rr:FuncData
 Cm:Addr
 Fy:FuncData
 Ck:Addr
 HR:FuncData
 GC:Addr
 Nl:FuncData
 IT:Addr
 OJ:FuncData
 Bo:Addr
 Jx:FuncData
 IC:Addr
 O1:FuncData
 Ge:Addr
 MQ:FuncData
 Iu:Addr
 OD:FuncData
 EF:Addr
 LP:FuncData
 HJ:Addr
 Oj:FuncData
 HL:Addr
 NL:FuncData
 BN:Addr
 EY:FuncData
 GI:Addr
 MR:FuncData
 LN:Addr
 UY:FuncData
 MF:Addr
 Wc:FuncData
 LX:Addr
 V7:FuncData
 Jf:Addr
 LR:FuncData
 Bl:Addr
 HU:FuncData
 JG:Addr
 Mx:FuncData
 Jy:Addr
 LU:FuncData
 G6:Addr
 NN:FuncData
 IG:Addr
 OC:FuncData
 Nc:Addr
 V4:FuncData
 Cs:Addr
 Hl:FuncData
 BJ:Addr
 Jm:FuncData
 Hg:Addr
 Pa:FuncData
 FW:Addr
 Mg:FuncData
 Ih:Addr
 Oe:FuncData
 HZ:Addr
 Og:FuncData
 JV:Addr
 OF:FuncData
 Bv:Addr
 JL:FuncData
 GL:Addr
 NO:FuncData
 ID:Addr
 M7:FuncData
 CC:Addr
 Jl:FuncData
 EH:Addr
 NT:FuncData
 B8:Addr
 GB:FuncData
 EI:Addr
 Nz:FuncData
 EZ:Addr
 MX:FuncData
 Cu:Addr
 Iz:FuncData
 Cc:Addr
 Im:FuncData
 IF:Addr
 Oq:FuncData
 MH:Addr
 Uv:FuncData
 RI:Addr
 UK:FuncData
 QT:Addr
 VA:FuncData
 QJ:Addr
 VG:FuncData
 R5:Addr
 Ug:FuncData
 RB:Addr
 UQ:FuncData
 Qe:Addr
 We:FuncData
 QY:Addr
 T7:FuncData
 PV:Addr
 VQ:FuncData
 ER:Addr
 Od:FuncData
 Ij:Addr
 Nb:FuncData
 Hy:Addr
 L7:FuncData
 FE:Addr
 Ni:FuncData
 EU:Addr
 MI:FuncData
 JQ:Addr
 M6:FuncData
 FQ:Addr
 OU:FuncData
 E2:Addr
 Ny:FuncData
 GY:Addr
 MM:FuncData
 Gz:Addr
 Ms:FuncData
 Gq:Addr
 LW:FuncData
 Fp:Addr
 Nj:FuncData
 GG:Addr
 OM:FuncData
 JI:Addr
 Oh:FuncData
 JK:Addr
 Mb:FuncData
 Ib:Addr
 Ol:FuncData
 ki:Addr
 rO:Addr
 v7:Addr
 rH:Addr
structure Txt(K:W.Frag)(mg:Str->Option Value)(t:dU):Prop where
 jQ:mg "TintError" = some (.ref t.dQ)
 yM:mg "NoRules" = some (.ref t.iF)
 vG:mg "Rings" = some (.ref t.bK)
 gD:mg "NoPlace" = some (.ref t.bM)
 lq:mg "Nothing" = some (.ref t.bV)
 nG:mg "NoMark" = some (.ref t.b8)
 AN:mg "NoLine" = some (.ref t.jf)
 yJ:mg "Rule" = some (.ref t.jk)
 yP:mg "Mode" = some (.ref t.dX)
 vB:mg "Rules" = some (.ref t.jC)
 Jc:mg "Word" = some (.ref t.iE)
 Km:mg "One" = some (.ref t.j6)
 yC:mg "Without" = some (.ref t.dw)
 EN:mg "Many" = some (.ref t.iu)
 K8:mg "Any" = some (.ref t.lD)
 CG:mg "Still" = some (.ref t.gS)
 KL:mg "End" = some (.ref t.k9)
 qT:mg "GoneRow" = some (.ref t.cj)
 rZ:mg "Tinted" = some (.ref t.bf)
 Hv:mg "Deed" = some (.ref t.cJ)
 tK:mg "Scribe" = some (.ref t.aG)
 zG:mg "Cursor" = some (.ref t.cV)
 NU:dh K "__init__" "Rings.__init__" Ml t.CA t.NR
 JO:dh K "__init__" "Rule.__init__" MZ t.Jh t.Mm
 Eu:dh K "__init__" "Mode.__init__" Mw t.Jk t.N8
 IZ:dh K "__init__" "Rules.__init__" LY t.HX t.L5
 Eg:dh K "eats" "Pattern.eats" Na t.vv t.Bd
 MU:dh K "__init__" "Word.__init__" Nx t.Hr t.Nh
 Mh:dh K "eaten" "Word.eaten" N1 t.BW t.Hz
 LZ:dh K "eats" "Word.eats" LV t.BH t.Gr
 MD:dh K "__init__" "One.__init__" NX t.EA t.Nv
 Ox:dh K "eaten" "One.eaten" N7 t.Br t.Jv
 Ot:dh K "eats" "One.eats" L3 t.BU t.JM
 Mu:dh K "__init__" "Without.__init__" Nt t.Fc t.OL
 OG:dh K "eaten" "Without.eaten" M8 t.BR t.Gv
 MJ:dh K "eats" "Without.eats" OT t.Bx t.Gn
 MK:dh K "__init__" "Many.__init__" Oo t.Io t.N9
 M5:dh K "eaten" "Many.eaten" NK t.Bu t.JX
 MT:dh K "eats" "Many.eats" Nm t.BS t.Fb
 UO:dh K "eaten" "Any.eaten" Vi t.Lm t.SK
 Vk:dh K "eats" "Any.eats" Ue t.K7 t.Rr
 Mf:dh K "eaten" "Still.eaten" Mi t.Cm t.Fy
 OS:dh K "eaten" "End.eaten" OE t.Ck t.HR
 Gk:dh K "__init__" "GoneRow.__init__" OA t.HL t.NL
 BX:dh K "__init__" "Tinted.__init__" OZ t.BN t.EY
 lQ:dh K "rows" "Tinted.rows" Jd t.GI t.MR
 F_q43:dh K "begin" "Tinted.begin" Ma t.LN t.UY
 F_q45:dh K "colours" "Tinted.colours" LM t.MF t.Wc
 F_q50:dh K "marks" "Tinted.marks" OV t.LX t.V7
 Cj:dh K "change" "Tinted.change" MC t.Jf t.LR
 Bh:dh K "put" "Tinted.put" O8 t.Bl t.HU
 NZ:dh K "cut" "Tinted.cut" O9 t.JG t.Mx
 Ew:dh K "go_over" "Tinted.go_over" Nu t.Jy t.LU
 Pb:dh K "go_on" "Tinted.go_on" NC t.G6 t.NN
 Bc:dh K "modes_ahead" "Tinted.modes_ahead" M0 t.IG t.OC
 F_q49:dh K "gone_row" "Tinted.gone_row" OQ t.Nc t.V4
 Cr:dh K "ask_row" "Tinted.ask_row" Pd t.Cs t.Hl
 qN:dh K "ask_place" "Tinted.ask_place" NW t.BJ t.Jm
 Mr:dh K "ask_places" "Tinted.ask_places" O0 t.Hg t.Pa
 Nq:dh K "ask_taken" "Tinted.ask_taken" L4 t.FW t.Mg
 MB:dh K "__init__" "Deed.__init__" Nk t.JV t.OF
 BK:dh K "__init__" "Scribe.__init__" Mn t.Bv t.JL
 vL:dh K "text" "Scribe.text" Oa t.GL t.NO
 Fd:dh K "marks" "Scribe.marks" E3 t.ID t.M7
 Bj:dh K "set_mark" "Scribe.set_mark" Mv t.CC t.Jl
 OR:dh K "drop_mark" "Scribe.drop_mark" MG t.EH t.NT
 Bt:dh K "put" "Scribe.put" EB t.B8 t.GB
 ML:dh K "cut" "Scribe.cut" Ng t.EI t.Nz
 O7:dh K "keep" "Scribe.keep" O6 t.EZ t.MX
 yh:dh K "undo" "Scribe.undo" Ou t.Cu t.Iz
 Ce:dh K "redo" "Scribe.redo" NI t.Cc t.Im
 Ux:dh K "__init__" "Cursor.__init__" Vj t.RI t.UK
 GA:dh K "more" "Cursor.more" U0 t.QT t.VA
 yb:dh K "peek" "Cursor.peek" T8 t.QJ t.VG
 zM:dh K "ask" "Cursor.ask" VH t.R5 t.Ug
 K2:dh K "take" "Cursor.take" Vm t.RB t.UQ
 EE:dh K "take_choice" "Cursor.take_choice" Vv t.Qe t.We
 Hf:dh K "take_name" "Cursor.take_name" Uw t.QY t.T7
 Up:dh K "take_signs" "Cursor.take_signs" UH t.PV t.VQ
 sR:dh K "is_name" "is_name" Ju t.G3 t.NP
 zV:mg "is_name" = some (.ref t.G3)
 GZ:dh K "copied_rules" "copied_rules" HP t.HM t.OB
 Pr:mg "copied_rules" = some (.ref t.HM)
 Gg:dh K "copied_mode" "copied_mode" Jg t.Fw t.MO
 Tj:mg "copied_mode" = some (.ref t.Fw)
 Eo:dh K "copied_rule" "copied_rule" ON t.Ho t.O3
 Qp:mg "copied_rule" = some (.ref t.Ho)
 xg:dh K "first_rule" "first_rule" MP t.GC t.Nl
 Ea:mg "first_rule" = some (.ref t.GC)
 yL:dh K "do_deed" "do_deed" OX t.IT t.OJ
 Hw:mg "do_deed" = some (.ref t.IT)
 uD:dh K "ask_rings" "ask_rings" O5 t.Bo t.Jx
 IY:mg "ask_rings" = some (.ref t.Bo)
 yc:dh K "ring_of" "ring_of" En t.IC t.O1
 HW:mg "ring_of" = some (.ref t.IC)
 GQ:dh K "short_rows" "short_rows" OP t.Ge t.MQ
 RS:mg "short_rows" = some (.ref t.Ge)
 ze:dh K "ring_from" "ring_from" ND t.Iu t.OD
 FJ:mg "ring_from" = some (.ref t.Iu)
 yE:dh K "idle_rule" "idle_rule" NF t.EF t.LP
 JT:mg "idle_rule" = some (.ref t.EF)
 Gy:dh K "gone_over" "gone_over" L8 t.HJ t.Oj
 Qd:mg "gone_over" = some (.ref t.HJ)
 xh:dh K "same_ahead" "same_ahead" NJ t.Ih t.Oe
 Iq:mg "same_ahead" = some (.ref t.Ih)
 Jq:dh K "same_back" "same_back" MY t.HZ t.Og
 Rq:mg "same_back" = some (.ref t.HZ)
 IJ:dh K "place_put" "place_put" M4 t.IF t.Oq
 Rj:mg "place_put" = some (.ref t.IF)
 F_q82:dh K "place_cut" "place_cut" Mp t.MH t.Uv
 Wv:mg "place_cut" = some (.ref t.MH)
 xB:dh K "read_rules" "read_rules" MW t.ER t.Od
 Ji:mg "read_rules" = some (.ref t.ER)
 Fx:dh K "mode_numbers" "mode_numbers" NQ t.Ij t.Nb
 Sg:mg "mode_numbers" = some (.ref t.Ij)
 EO:dh K "read_mode" "read_mode" EL t.Hy t.L7
 SW:mg "read_mode" = some (.ref t.Hy)
 IL:dh K "read_rule" "read_rule" Pe t.FE t.Ni
 P4:mg "read_rule" = some (.ref t.FE)
 Et:dh K "read_pattern" "read_pattern" LL t.EU t.MI
 R6:mg "read_pattern" = some (.ref t.EU)
 F9:dh K "read_goal" "read_goal" Nf t.JQ t.M6
 Ry:mg "read_goal" = some (.ref t.JQ)
 cN:dh K "_law_draw" "_law_draw" OO t.FQ t.OU
 fP:mg "_law_draw" = some (.ref t.FQ)
 FT:dh K "_law_modes" "_law_modes" Jt t.E2 t.Ny
 P8:mg "_law_modes" = some (.ref t.E2)
 Ie:dh K "_law_rules_text" "_law_rules_text" N6 t.GY t.MM
 SA:mg "_law_rules_text" = some (.ref t.GY)
 IP:dh K "_law_row" "_law_row" Hu t.Gz t.Ms
 RX:mg "_law_row" = some (.ref t.Gz)
 yW:dh K "_law_place" "_law_place" Oz t.Gq t.LW
 Gw:mg "_law_place" = some (.ref t.Gq)
 xu:dh K "_law_refusal" "_law_refusal" Oc t.Fp t.Nj
 F1:mg "_law_refusal" = some (.ref t.Fp)
 fN:dh K "_law_asked" "_law_asked" OH t.GG t.OM
 jv:mg "_law_asked" = some (.ref t.GG)
 Ey:dh K "_law_bad_place" "_law_bad_place" NH t.JI t.Oh
 Tv:mg "_law_bad_place" = some (.ref t.JI)
 Ej:dh K "_law_is_refused" "_law_is_refused" OY t.JK t.Mb
 QG:mg "_law_is_refused" = some (.ref t.JK)
 Eb:dh K "_law_rings" "_law_rings" My t.Ib t.Ol
 PR:mg "_law_rings" = some (.ref t.Ib)
 rF:ny K t.iE
 K4:Mk K t.iE t.Hr
 jP:bC K t.iE "wanted"
 Vl:Meth K t.iE "eaten" t.BW
 Ud:Meth K t.iE "eats" t.BH
 Ag:ny K t.j6
 Qi:Mk K t.j6 t.EA
 qV:bC K t.j6 "signs"
 UI:Meth K t.j6 "eaten" t.Br
 Ui:Meth K t.j6 "eats" t.BU
 nV:ny K t.dw
 z9:Mk K t.dw t.Fc
 kM:bC K t.dw "signs"
 Ua:Meth K t.dw "eaten" t.BR
 VN:Meth K t.dw "eats" t.Bx
 wG:ny K t.iu
 K1:Mk K t.iu t.Io
 oX:bC K t.iu "signs"
 UA:Meth K t.iu "eaten" t.Bu
 Vs:Meth K t.iu "eats" t.BS
 Qt:ny K t.lD
 Pz:VS K t.lD
 WD:Meth K t.lD "eaten" t.Lm
 Wu:Meth K t.lD "eats" t.K7
 F8:ny K t.gS
 E6:VS K t.gS
 T9:Meth K t.gS "eaten" t.Cm
 wu:Meth K t.gS "eats" t.vv
 Td:ny K t.k9
 RD:VS K t.k9
 UZ:Meth K t.k9 "eaten" t.Ck
 Au:Meth K t.k9 "eats" t.vv
 cG:ny K t.jk
 Bf:Mk K t.jk t.Jh
 fC:bC K t.jk "pattern"
 jM:bC K t.jk "colour"
 gy:bC K t.jk "deed"
 jy:bC K t.jk "goal"
 jI:bC K t.jk "fold"
 fR:ny K t.dX
 B3:Mk K t.dX t.Jk
 jA:bC K t.dX "name"
 jO:bC K t.dX "colour"
 fU:bC K t.dX "rules"
 iP:ny K t.jC
 ym:Mk K t.jC t.HX
 dc:bC K t.jC "modes"
 aZ:ny K t.cV
 Df:Mk K t.cV t.RI
 oU:bC K t.cV "row"
 jm:bC K t.cV "words"
 iL:bC K t.cV "at"
 LC:Meth K t.cV "more" t.QT
 AI:Meth K t.cV "peek" t.QJ
 D0:Meth K t.cV "ask" t.R5
 RU:Meth K t.cV "take" t.RB
 KP:Meth K t.cV "take_choice" t.Qe
 Le:Meth K t.cV "take_name" t.QY
 Wt:Meth K t.cV "take_signs" t.PV
 cK:ny K t.cj
 tO:Mk K t.cj t.HL
 dJ:bC K t.cj "signs"
 jY:bC K t.cj "before"
 qY:bC K t.cj "tints"
 iy:bC K t.cj "behind"
 pV:bC K t.cj "folded"
 aL:ny K t.bf
 uI:Mk K t.bf t.BN
 jq:bC K t.bf "rules"
 aV:bC K t.bf "gone_rows"
 nj:Meth K t.bf "rows" t.GI
 m_q43:Meth K t.bf "begin" t.LN
 m_q45:Meth K t.bf "colours" t.MF
 m_q50:Meth K t.bf "marks" t.LX
 Fe:Meth K t.bf "change" t.Jf
 OI:Meth K t.bf "put" t.Bl
 Vp:Meth K t.bf "cut" t.JG
 MS:Meth K t.bf "go_over" t.Jy
 UD:Meth K t.bf "go_on" t.G6
 Ht:Meth K t.bf "modes_ahead" t.IG
 m_q49:Meth K t.bf "gone_row" t.Nc
 O2:Meth K t.bf "ask_row" t.Cs
 vd:Meth K t.bf "ask_place" t.BJ
 V2:Meth K t.bf "ask_places" t.Hg
 Uu:Meth K t.bf "ask_taken" t.FW
 fq:ny K t.cJ
 J9:Mk K t.cJ t.JV
 nU:bC K t.cJ "row"
 kG:bC K t.cJ "taken"
 kr:bC K t.cJ "given"
 iV:bC K t.cJ "places_ahead"
 fM:bC K t.cJ "places_behind"
 aK:ny K t.aG
 uY:Mk K t.aG t.Bv
 bH:bC K t.aG "tinted"
 bI:bC K t.aG "places"
 fc:bC K t.aG "done"
 dN:bC K t.aG "undone"
 yq:Meth K t.aG "text" t.GL
 Oi:Meth K t.aG "marks" t.ID
 NS:Meth K t.aG "set_mark" t.CC
 U9:Meth K t.aG "drop_mark" t.EH
 Mj:Meth K t.aG "put" t.B8
 Vz:Meth K t.aG "cut" t.EI
 T5:Meth K t.aG "keep" t.EZ
 Js:Meth K t.aG "undo" t.Cu
 LQ:Meth K t.aG "redo" t.Cc
 qH:t7 K t.dQ
 uZ:t7 K t.bM
 jb:W.excIn K t.bM VE "ValueError.__new__" = true
 xr:t7 K t.b8
 uP:W.excIn K t.b8 VE "ValueError.__new__" = true
 ve:t7 K t.bV
 rW:W.excIn K t.bV VE "ValueError.__new__" = true
 gZ:t7 K t.bK
 sF:W.findIn K (.ref t.bK) "__init__" = some (some (.ref t.CA))/\W.isFn K (.ref t.CA)=true/\W.keepIn K (.ref t.bK)=true
 ko:bC K t.bK "ring"
 i8:bC K t.bK "sign"
 lF:W.mroIn K t.bM (.ref t.dQ)=some true
 mX:W.mroIn K t.b8 (.ref t.dQ)=some true
 lB:W.mroIn K t.bV (.ref t.dQ)=some true
 nX:W.mroIn K t.bK (.ref t.dQ)=some true
 kg:W.specialIn K (.ref t.dQ) "__getattribute__" = some (some (.builtin "type.__getattribute__"))/\W.readsIn K t.dQ (.type "type")=true/\W.findCls K (.ref t.dQ) (.type "type") "__init__" = some (.val (.builtin "ValueError.__init__"))
 nJ:W.kitOne K (.ref t.bM) (.ref t.bM)=some true
 pe:W.kitOne K (.ref t.bM) (.ref t.b8)=some false
 oj:W.kitOne K (.ref t.bM) (.ref t.bV)=some false
 qC:W.kitOne K (.ref t.bM) (.ref t.bK)=some false
 o5:W.kitOne K (.ref t.b8) (.ref t.bM)=some false
 pB:W.kitOne K (.ref t.b8) (.ref t.b8)=some true
 o6:W.kitOne K (.ref t.b8) (.ref t.bV)=some false
 rD:W.kitOne K (.ref t.b8) (.ref t.bK)=some false
 oh:W.kitOne K (.ref t.bV) (.ref t.bM)=some false
 oA:W.kitOne K (.ref t.bV) (.ref t.b8)=some false
 n6:W.kitOne K (.ref t.bV) (.ref t.bV)=some true
 pF:W.kitOne K (.ref t.bV) (.ref t.bK)=some false
 pW:W.kitOne K (.ref t.bK) (.ref t.bM)=some false
 rj:W.kitOne K (.ref t.bK) (.ref t.b8)=some false
 qj:W.kitOne K (.ref t.bK) (.ref t.bV)=some false
 ua:W.kitOne K (.ref t.bK) (.ref t.bK)=some true
 oE:W.kitOne K (.ref t.bM) (.ref t.jf)=some false
 nA:W.kitOne K (.ref t.bM) (.ref t.iF)=some false
 pX:W.kitOne K (.ref t.b8) (.ref t.jf)=some false
 ou:W.kitOne K (.ref t.b8) (.ref t.iF)=some false
 o9:W.kitOne K (.ref t.bV) (.ref t.jf)=some false
 om:W.kitOne K (.ref t.bV) (.ref t.iF)=some false
 rB:W.kitOne K (.ref t.bK) (.ref t.jf)=some false
 qy:W.kitOne K (.ref t.bK) (.ref t.iF)=some false
 kO:W.kitOne K (.ref t.bM) (.type "ValueError")=some true
 ly:W.kitOne K (.ref t.b8) (.type "ValueError")=some true
 kP:W.kitOne K (.ref t.bV) (.type "ValueError")=some true
 mY:W.kitOne K (.ref t.bK) (.type "ValueError")=some true
 KR:W.findIn K (.ref t.iE) "__class__" = some (some (.builtin "object.__class__"))
 Ll:W.mroIn K t.iE (.type "object")=some true
 Q8:W.findIn K (.ref t.j6) "__class__" = some (some (.builtin "object.__class__"))
 Q9:W.mroIn K t.j6 (.type "object")=some true
 Av:W.findIn K (.ref t.dw) "__class__" = some (some (.builtin "object.__class__"))
 AQ:W.mroIn K t.dw (.type "object")=some true
 LG:W.findIn K (.ref t.iu) "__class__" = some (some (.builtin "object.__class__"))
 Ln:W.mroIn K t.iu (.type "object")=some true
 Ti:W.findIn K (.ref t.lD) "__class__" = some (some (.builtin "object.__class__"))
 SV:W.mroIn K t.lD (.type "object")=some true
 G4:W.findIn K (.ref t.gS) "__class__" = some (some (.builtin "object.__class__"))
 IA:W.mroIn K t.gS (.type "object")=some true
 Px:W.findIn K (.ref t.k9) "__class__" = some (some (.builtin "object.__class__"))
 Q4:W.mroIn K t.k9 (.type "object")=some true
 wD:W.kitOne K (.type "list") (.type "list")=some true
 Ak:W.kitOne K (.type "str") (.type "str")=some true
 xS:∃u,mg "LETTERS" = some u/\RelV (.str "abcdefghijklmnopqrstuvwxyz") u
 pU:∃u,mg "LONGEST_NAME" = some u/\RelV (.int 8) u
 mw:∃u,mg "START" = some u/\RelV (.int 0) u
 DV:∃u,mg "SIGNS" = some u/\RelV (.str " !\"#$&'()*+,-./0123456789:;<=>?@ABCDEFGHIJKLMNOPQRSTUVWXYZ[\\]^_`abcdefghijklmnopqrstuvwxyz{|}~") u
 tZ:∃u,mg "MOST_MODES" = some u/\RelV (.int 12) u
 sj:∃u,mg "MOST_RULES" = some u/\RelV (.int 12) u
 wO:mg "PATTERNS" = some (.ref t.ki)
 xA:∀H,fB K H t.ki [.str "word",.str "one",.str "none",.str "many",.str "any",.str "still",.str "end"]
 Ds:mg "DEEDS" = some (.ref t.rO)
 JP:∀H,fB K H t.rO [.str "stay",.str "push",.str "pop",.str "into"]
 Dr:mg "GOING" = some (.ref t.v7)
 Jp:∀H,fB K H t.v7 [.str "push",.str "into"]
 CO:mg "FOLDS" = some (.ref t.rH)
 G5:∀H,fB K H t.rH [.str "open",.str "close"]
 wY:mg "ValueError" = none
 Us:mg "all" = none
 Az:mg "dict" = none
 qK:mg "enumerate" = none
 Cy:mg "int" = none
 dR:mg "isinstance" = none
 bW:mg "len" = none
 kh:mg "list" = none
 TY:mg "max" = none
 kq:mg "range" = none
 tW:mg "reversed" = none
 yy:mg "sorted" = none
 VF:mg "str" = none
 LH:mg "tuple" = none
 UG:mg "zip" = none
theorem ls0:∀{us:List Value},us.length=0->us=[]
 | [],_=>rfl
def lsS{us:List Value}(h:us.length=n+1):∃a t,us=a::t/\t.length=n:=by
 cases us with
 |nil=>cases h
 |cons a t=>exact⟨a,t,rfl,Nat.succ.inj h⟩
def lsN{us:List Value}(h:us.length=0):us=[]:=ag2.mp h
def ls1{us:List Value}(h:us.length=1):∃a0,us=[a0]:=by obtain⟨a0,t0,rfl,h0⟩:=lsS h;cases lsN h0;exact⟨a0,rfl⟩
theorem MV:∀{us:List Value},us.length=2->∃a0 a1,us=[a0,a1]
 | [a0,a1],_=>⟨a0,a1,rfl⟩
def ls3{us:List Value}(h:us.length=3):∃a0 a1 a2,us=[a0,a1,a2]:=by obtain⟨a0,t0,rfl,h0⟩:=lsS h;obtain⟨a1,t1,rfl,h1⟩:=lsS h0;obtain⟨a2,t2,rfl,h2⟩:=lsS h1;cases lsN h2;exact⟨a0,a1,a2,rfl⟩
def ls4{us:List Value}(h:us.length=4):∃a0 a1 a2 a3,us=[a0,a1,a2,a3]:=by obtain⟨a0,t0,rfl,h0⟩:=lsS h;obtain⟨a1,t1,rfl,h1⟩:=lsS h0;obtain⟨a2,t2,rfl,h2⟩:=lsS h1;obtain⟨a3,t3,rfl,h3⟩:=lsS h2;cases lsN h3;exact⟨a0,a1,a2,a3,rfl⟩
def ls5{us:List Value}(h:us.length=5):∃a0 a1 a2 a3 a4,us=[a0,a1,a2,a3,a4]:=by obtain⟨a0,t0,rfl,h0⟩:=lsS h;obtain⟨a1,t1,rfl,h1⟩:=lsS h0;obtain⟨a2,t2,rfl,h2⟩:=lsS h1;obtain⟨a3,t3,rfl,h3⟩:=lsS h2;obtain⟨a4,t4,rfl,h4⟩:=lsS h3;cases lsN h4;exact⟨a0,a1,a2,a3,a4,rfl⟩
def ls6{us:List Value}(h:us.length=6):∃a0 a1 a2 a3 a4 a5,us=[a0,a1,a2,a3,a4,a5]:=by obtain⟨a0,t0,rfl,h0⟩:=lsS h;obtain⟨a1,t1,rfl,h1⟩:=lsS h0;obtain⟨a2,t2,rfl,h2⟩:=lsS h1;obtain⟨a3,t3,rfl,h3⟩:=lsS h2;obtain⟨a4,t4,rfl,h4⟩:=lsS h3;obtain⟨a5,t5,rfl,h5⟩:=lsS h4;cases lsN h5;exact⟨a0,a1,a2,a3,a4,a5,rfl⟩
section
variable {P:Program}{w:World}{K:W.Frag}{mg:Str->Option Value}{base:Heap}{t:dU}
end
local macro_rules | `(tactic| walk_at "rd")=>`(tactic| simp only [$[$("L2.Uy L2.HF L2.tIf L2.NV L2.tB L2.TN L2.Wl L2.ES L2.Dy L2.Kh_i L2.tC L2.start L2.rI_i L2.Mq_i L2.qQ L2.Vx L2.Vr L2.tOr L2.T3 L2.U7 L2.VI L2.tUn L2.rU_i L2.rEq_i L2.rNe_i L2.WR_i L2.S4 L2.V5 L2.K9_i L2.VU_i L2.UM_i L2.Ft L2.Eh L2.MN L2.Gj L2.Ow L2.tBM L2.UP L2.Uj L2.ipI_i L2.Mz L2.UC L2.M3 L2.tSl L2.V0_i L2.Mc L2.BG L2.rJoin_i L2.yi_i L2.xq_i L2.Em_i L2.Qc L2.mS Option.join_some Option.join_none if_true if_false Bool.false_eq_true List.map_cons List.map_nil List.length_cons List.length_nil List.replicate List.cons_append List.nil_append List.append_nil List.getElem?_cons_zero List.getElem?_cons_succ List.set_cons_zero List.set_cons_succ Option.some.injEq exists_eq_left' exists_eq_left L2.V.int.injEq L2.V.str.injEq L2.V.ref.injEq L2.V.bl.injEq List.cons.injEq and_true true_and and_assoc exists_and_left exists_eq exists_const".splitOn.toArray.map (Lean.mkCIdent ·.toName)):ident],*])
local macro_rules | `(tactic| walk_at "ck")=>`(tactic| exact ⟨by decide +kernel,rfl,by decide +kernel,by decide +kernel,by decide +kernel,by decide +kernel,by decide +kernel⟩)
section
variable {P:Program}{w:World}{K:PySem.W.Frag}{mg:Str->Option Value}{base:Heap}{t:dU}
def isName (z:Str):Bool:=decide (1<=z.length) && decide (z.length<=8) && z.cps.toList.all λc=>decide (c∈(Str.ofString "abcdefghijklmnopqrstuvwxyz").cps.toList)
inductive Fo(vs:List V)(H:Hp)(Q:VK)(_:XK):Prop|mk(z:Str)(_:vs=[.str z])(_:z.length<=100000)(_:∀H',ak H H'->Q (.bl (isName z)) H')
def Aj (T:Txt K mg t):bw P w K mg base dM 1 t.G3 t.NP ["word"] Fo:=by
 refine T.sR.ok QZ λvs H Q E h=>?_;obtain⟨z,rfl,hz,q⟩:=h;walk_at "i";refine aI (λZ' H'=>Z'=[some (.str z)]/\H'=H/\1<=z.length/\z.length<=8) (aW (PW.pt (iX (aB ie (aM bJ (by rfl) T.bW (by decide +kernel) (aa (pv 0) ai)) ao (aD _)) (gI (aB j7 (aM bJ (by rfl) T.bW (by decide +kernel) (aa (pv 0) ai)) (ia rfl T.pU) (aD _))))) aq aq) ?_ ?_
 ·walk_at "rd";refine⟨b7 (by lia),dI (λh=>?_) (λh=>?_)⟩
  ·refine ay (aP pq) ?_;have:=q H (ak.refl H);rw[isName,Z9 (by lia)] at this;exact this
  ·refine⟨b7 (by lia),dI (λh=>?_) (λh=>bu ⟨rfl,rfl,by lia,by lia⟩)⟩;refine ay (aP pq) ?_;have:=q H (ak.refl H);rw[isName,Z9 (p:=z.length<=8) (by lia),Bool.and_false] at this;exact this
 rintro Z' H' ⟨rfl,e,h1,h2⟩;rw[e];clear e H';refine ay (aP (aM (CS rfl) (by rfl) T.Us (by decide +kernel) (aa (i6 (sc:=az Ju) (N:=["word"]) (x:="sign") (caps:=[]) (by walk_at "ck") (RY (pv 0)) (λ_ _ _ _=>(cB ql (pv 0) (ia rfl T.xS) rfl))) ai))) ?_;refine⟨_,rfl,z,rfl,HD (λi ys H2=>H2=H/\ys=(z.cps.toList.take i).map λc=>V.bl (decide (c∈(Str.ofString "abcdefghijklmnopqrstuvwxyz").cps.toList))) ⟨rfl,rfl⟩ (eT (by lia)) ?_ ?_⟩
 ·rintro i c ys H2 hc hl ⟨rfl,rfl⟩;have hi:i<z.length:=by have:=(i5.mp hc).1;simpa [Str.length] using this
  refine⟨_,rfl,_,_,rfl,rfl,?_⟩;rw[ag3];refine d7 hi hl ⟨rfl,?_⟩;rw[List.take_succ,hc,P2];rfl
 ·rintro ys H2 hl ⟨rfl,rfl⟩ D hD;refine⟨D,(z.cps.toList.map λc=>decide (c∈(Str.ofString "abcdefghijklmnopqrstuvwxyz").cps.toList)),rfl,bq.of (by rw[af,ab4 (by simp[Str.length]),aj4];rfl),?_⟩;have:=q _ (ak.upd (o:=.lst (((z.cps.toList.take z.length)).map λc=>V.bl (decide (c∈(Str.ofString "abcdefghijklmnopqrstuvwxyz").cps.toList)))) hD);rw[isName,ab8 h1,ab8 h2] at this;rw[List.all_map];exact this
def cf (row:Int) (lw:Addr) (i:Nat):List (Str×V):=[("row",.int row),("words",.ref lw),("at",.int i)]
structure oq(t:dU)(H:Hp)(p dx lw:Addr)(row:Int)(ws:List Str)(i:Nat):Prop where
 ob:H p=some (.ins t.cV dx (cf row lw i))
 ls:H lw=some (.lst (ws.map V.str))
 sz:ws.length<=1000/\∀w∈ws,w.length<=100000
def oq.ne(c:oq t H p dx lw row ws i):p≠lw:=cy c.ob c.ls (by intro z;cases z)
def oq.same(c:oq t H p dx lw row ws i)(s:ak H H'):oq t H' p dx lw row ws i:=⟨s _ _ c.ob,s _ _ c.ls,c.sz⟩
def pk (ws:List Str) (i:Nat):Str:=ws.getD i ""
def Nr(h:i<ws.length):pk ws i=ws[i]:=by simp[pk,h]
def O4   (h:ws.length<=i):pk ws i = "" := by unfold pk;rw[ab5,ac7 h];rfl
def oq.pkl(c:oq t H p dx lw row ws i):(pk ws i).length<=100000:=by
 by_cases h:i<ws.length
 ·rw[Nr h];exact c.sz.2 _ (ad9 h)
 ·rw[O4 (by lia)];decide
inductive Kv(t:dU)(vs:List V)(H:Hp)(Q:VK)(_:XK):Prop|mk(p dx:Addr)(row:Int)(text:Str)(_:vs=[.ref p,.int row,.str text])(_:H p=some (.ins t.cV dx []))(_:text.length<=100000)(_:(PySem.Txt.split text ⟨#[32]⟩).length<=1000)(_:∀lw H',H lw=none->oq t H' p dx lw row (PySem.Txt.split text ⟨#[32]⟩) 0->fZ H H' p->Q .cD H')
def UL (T:Txt K mg t):bw P w K mg base dM 1 t.RI t.UK ["self","row","text"] (Kv t):=by
 refine T.Ux.ok VR λvs H Q E h=>?_;obtain⟨p,dx,row,text,rfl,hp,hz,hn,q⟩:=h;walk_at "i";refine au (bT (pv 0) (pv 1) rfl) ⟨_,rfl,_,rfl,p,_,dx,[],rfl,hp,T.aZ,T.oU,by decide,?_⟩;refine au (bT (pv 0) (dF ac4 ae6 ai8 lH (pv 2) (aa aA ai)) rfl) ?_;refine⟨_,rfl,rfl,_,_,rfl,rfl,by decide,b7 (by lia),λlw hl=>⟨_,rfl,p,_,dx,[("row",.int row)],rfl,?_,T.aZ,T.jm,by show 1<1000;decide,?_⟩⟩
 ·rw[aj (av af hl)];exact af
 have npl:p≠lw:=av af hl;refine ay (bT (pv 0) ao rfl) ⟨_,rfl,p,_,dx,[("row",.int row),("words",.ref lw)],rfl,af,T.aZ,T.iL,by show 2<1000;decide,?_⟩;have hl0:H lw=none:=by rw[aj (aa3 npl)] at hl;exact hl
 refine q lw _ hl0 ⟨af,?_,hn,λw hw=>X6 (PyProof.Rows.part_short hw) hz⟩ λb o hb nb=>?_
 ·rw[aj (aa3 npl),aj (aa3 npl),af];rfl
 ·rw[aj nb,aj nb,aj (av hb hl0),aj nb];exact hb
inductive Q3(t:dU)(vs:List V)(H:Hp)(Q:VK)(_:XK):Prop|mk(p dx lw:Addr)(row:Int)(ws:List Str)(i:Nat)(_:vs=[.ref p])(_:oq t H p dx lw row ws i)(_:Q (.bl (decide (i<ws.length))) H)
def Co (T:Txt K mg t):bw P w K mg base dM 1 t.QT t.VA ["self"] (Q3 t):=by
 refine T.GA.ok VM λvs H Q E h=>?_;obtain⟨p,dx,lw,row,ws,i,rfl,C,q⟩:=h;walk_at "i";refine ay (aP (cB ie (aJ (pv 0) rfl) (aM aS (by rfl) T.bW (by decide +kernel) (aa (aJ (pv 0) rfl) ai)) (aD _))) ?_;simp only[S4,TN,Wl,ES,Dy];refine K5 rfl C.ob T.aZ T.iL rfl ?_;refine K5 rfl C.ob T.aZ T.jm rfl ?_;refine⟨_,_,rfl,.inl (bq.of C.ls),_,_,rfl,rfl,?_⟩;rw[d6];have e:decide ((i:Int)<(ws.length:Int))=decide (i<ws.length):=by simp
 show Q (.bl (decide ((i:Int)<(ws.length:Int)))) H;rw[e];exact q
inductive P7(t:dU)(vs:List V)(H:Hp)(Q:VK)(_:XK):Prop|mk(p dx lw:Addr)(row:Int)(ws:List Str)(i:Nat)(_:vs=[.ref p])(_:oq t H p dx lw row ws i)(_:Q (.str (pk ws i)) H)
def tR (T:Txt K mg t):bw P w K mg base dM 2 t.QJ t.VG ["self"] (P7 t):=by
 refine T.yb.ok VB λvs H Q E h=>?_;obtain⟨p,dx,lw,row,ws,i,rfl,C,q⟩:=h;walk_at "i";refine ay (aP (cO (eN (bx (pv 0) T.aZ T.LC (Co T) hr.m T.GA.b1 .nil aH)) (aY aQ (aJ (pv 0) rfl) (aJ (pv 0) rfl) (λ_ _=>rfl)) aA)) ?_;refine⟨_,rfl,p,dx,_,rfl,C.ob,rfl,p,dx,lw,row,ws,i,rfl,C,_,rfl,dI (λh=>?_) (λh=>?_)⟩
 ·refine K5 rfl C.ob T.aZ T.jm rfl ?_;refine K5 rfl C.ob T.aZ T.iL rfl ?_;refine⟨_,_,_,.str (pk ws i),rfl,rfl,bq.of C.ls,aO ?_,q⟩;rw[B1,i4 h,Nr h];rfl
 ·rw[O4 (by lia)] at q;exact q
inductive VV(vs:List V)(H:Hp)(Q:VK)(_:XK):Prop|mk(p:V)(_:vs=[p,.bl true])(_:Q .cD H)
def vD (T:Txt K mg t):bw P w K mg base dM 1 t.R5 t.Ug ["self","good"] VV:=by refine T.zM.ok UX λvs H Q E h=>?_;obtain⟨p,rfl,q⟩:=h;walk_at "i";refine ay (aW (gQ (eN (pv 1))) aq aq) ⟨_,rfl,true,rfl,ji (bu q)⟩
inductive RM(t:dU)(vs:List V)(H:Hp)(Q:VK)(_:XK):Prop|mk(p dx lw:Addr)(row:Int)(ws:List Str)(i:Nat)(_:vs=[.ref p,.bl true])(_:oq t H p dx lw row ws i)(_:∀H',oq t H' p dx lw row ws (i+1)->fZ H H' p->Q (.str (pk ws i)) H')
def Ip (T:Txt K mg t):bw P w K mg base dM 3 t.RB t.UQ ["self","good"] (RM t):=by
 refine T.K2.ok Ob λvs H Q E h=>?_;obtain⟨p,dx,lw,row,ws,i,rfl,C,q⟩:=h;walk_at "i";refine au (aX (bB (pv 0) T.aZ T.D0 (vD T) hr.m T.zM.b2 .nil aH (aa (pv 1) ai))) ⟨_,rfl,p,dx,_,rfl,C.ob,rfl,_,rfl,_,rfl,?_⟩;refine au (cR 2 Ob (bx (pv 0) T.aZ T.AI (tR T) hr.m T.yb.b1 .nil aH)) ⟨_,rfl,p,dx,_,rfl,C.ob,rfl,p,dx,lw,row,ws,i,rfl,C,?_⟩;refine au (DL (pv 0) ao Sn) ⟨_,rfl,p,_,dx,_,_,rfl,C.ob,T.aZ,T.iL,rfl,?_⟩;refine⟨_,_,rfl,rfl,dx,_,C.ob,by show 3<1000;decide,?_⟩;refine ay (aP (pv 2)) ⟨_,rfl,?_⟩;have C':oq t (upd H p (.ins t.cV dx (cf row lw (i+1)))) p dx lw row ws (i+1):=⟨af,by rw[aj (aa3 C.ne)];exact C.ls,C.sz⟩
 exact q _ C' fZ.upd
inductive Iv(K:PySem.W.Frag)(t:dU)(vs:List V)(H:Hp)(Q:VK)(_:XK):Prop|mk(p dx lw c:Addr)(cs:List Str)(row:Int)(ws:List Str)(i:Nat)(_:vs=[.ref p,.ref c])(_:oq t H p dx lw row ws i)(_:fB K H c (cs.map V.str))(_:pk ws i∈cs)(_:∀H',oq t H' p dx lw row ws (i+1)->fZ H H' p->Q (.str (pk ws i)) H')
def tE{cs:List Str}:R3 (.str x) (cs.map V.str)=decide (x∈cs):=by
 unfold R3;rw[List.any_map,ad4,List.any_eq_true,aa8];constructor
 ·rintro⟨y,hy,e⟩;have:(y == x)=true:=e;rw[← ak5 this];exact hy
 ·intro h;exact⟨x,h,by show (x == x)=true;simp⟩
def vh{cs:List Str}:(cs.map V.str).all jn=true:=by rw[List.all_map,List.all_eq_true];intro _ _;rfl
def BQ (T:Txt K mg t):bw P w K mg base dM 4 t.Qe t.We ["self","words"] (Iv K t):=by refine T.EE.ok U3 λvs H Q E h=>?_;obtain⟨p,dx,lw,c,cs,row,ws,i,rfl,C,hc,hin,q⟩:=h;walk_at "i";refine ay (aP (bB (pv 0) T.aZ T.RU (Ip T) hr.m T.K2.b2 .nil aH (aa (cB uH (bx (pv 0) T.aZ T.AI (tR T) hr.m T.yb.b1 .nil aH) (pv 1) rfl) ai))) ?_;refine⟨_,rfl,p,dx,_,rfl,C.ob,rfl,?_⟩;refine⟨_,rfl,p,dx,_,rfl,C.ob,rfl,p,dx,lw,row,ws,i,rfl,C,_,rfl,_,_,rfl,.inr hc,rfl,vh,?_⟩;rw[tE,ab8 hin];exact⟨p,dx,lw,row,ws,i,rfl,C,q⟩
inductive Pn(t:dU)(vs:List V)(H:Hp)(Q:VK)(_:XK):Prop|mk(p dx lw:Addr)(row:Int)(ws:List Str)(i:Nat)(_:vs=[.ref p])(_:oq t H p dx lw row ws i)(_:isName (pk ws i)=true)(_:∀H',oq t H' p dx lw row ws (i+1)->fZ H H' p->Q (.str (pk ws i)) H')
def BF (T:Txt K mg t):bw P w K mg base dM 4 t.QY t.T7 ["self"] (Pn t):=by refine T.Hf.ok Ur λvs H Q E h=>?_;obtain⟨p,dx,lw,row,ws,i,rfl,C,hin,q⟩:=h;walk_at "i";refine ay (aP (bB (pv 0) T.aZ T.RU (Ip T) hr.m T.K2.b2 .nil aH (aa (aN (Aj T) hr.m rfl T.zV T.sR.kp T.sR.b1 .nil aH (aa (bx (pv 0) T.aZ T.AI (tR T) hr.m T.yb.b1 .nil aH) ai)) ai))) ?_;refine⟨_,rfl,p,dx,_,rfl,C.ob,rfl,?_⟩;refine⟨_,rfl,p,dx,_,rfl,C.ob,rfl,p,dx,lw,row,ws,i,rfl,C,pk ws i,rfl,C.pkl,λH1 s1=>?_⟩;rw[hin];exact⟨p,dx,lw,row,ws,i,rfl,C.same s1,λH2 C2 a2=>q H2 C2 (s1.JZ a2)⟩
def jR (z:Str):Str:="'" ++ PySem.Txt.replace z " " "_"
def iz(z:Str):(jR z).cps.toList=39::kW 32 95 z.cps.toList:=by unfold jR;rw[dW,show ((" " : Str))=⟨#[32]⟩ from by decide +kernel,show (("_" : Str))=⟨#[95]⟩ from by decide +kernel,lP];rfl
inductive Kr(t:dU)(vs:List V)(H:Hp)(Q:VK)(_:XK):Prop|mk(p dx lw:Addr)(row:Int)(ws:List Str)(i:Nat)(z:Str)(_:vs=[.ref p])(_:oq t H p dx lw row ws i)(_:pk ws i=jR z)(_:1<=z.length)(_:z.length<=1000)(_:95∉z.cps.toList)(_:∀H',oq t H' p dx lw row ws (i+1)->fZ H H' p->Q (.str z) H')
def QI{w:Str}(h:1<=w.length):(PySem.Txt.slice w (some 1) none).cps.toList=w.cps.toList.drop 1:=by rw[PyProof.Rows.slice_from_eq (b:=(w.length:Int)) (by decide) (by lia) rfl];show (w.cps.toList.drop 1).take _=_;refine ab4 ?_;rw[U2,aj0];show w.length-1<=_;lia
def V3 (T:Txt K mg t):bw P w K mg base dM 4 t.PV t.VQ ["self"] (Kr t):=by
 refine T.Up.ok NY λvs H Q E h=>?_;obtain⟨p,dx,lw,row,ws,i,z,rfl,C,hw,hz1,hz2,hz3,q⟩:=h;walk_at "i";have hlen:(jR z).length=z.length+1:=by have:=ac1 List.length (iz z);simpa [Str.length,kW] using this
 refine au (cR 1 NY (bx (pv 0) T.aZ T.AI (tR T) hr.m T.yb.b1 .nil aH)) ⟨_,rfl,p,dx,_,rfl,C.ob,rfl,p,dx,lw,row,ws,i,rfl,C,?_⟩;rw[hw];refine au (aX (bB (pv 0) T.aZ T.RU (Ip T) hr.m T.K2.b2 .nil aH (aa (wV (cB j7 (aM bJ (by rfl) T.bW (by decide +kernel) (aa (pv 1) ai)) ao (aD _)) (nH (dF ac4 ag9 F.type_str_startswith zY (pv 1) (aa aA ai)))) ai))) ?_;refine⟨_,rfl,p,dx,_,rfl,C.ob,rfl,?_⟩;refine⟨_,rfl,_,rfl,b7 (by lia),_,_,rfl,rfl,_,rfl,?_⟩;rw[ab8 (by lia),if_pos rfl];refine⟨_,rfl,rfl,_,_,rfl,rfl,?_⟩;have hst:(decide (0+("'" : Str).length<=(jR z).length) && Builtin.Str.subAt (jR z) "'" 0)=true:=by
  have e1:("'" : Str).length=1:=by decide +kernel
  rw[aa9,aa8,e1];refine⟨by lia,?_⟩;unfold Builtin.Str.subAt;rw[beq_iff_eq,← af4,e1];have e2:=iz z;simp only[Array.toList_extract,List.extract_eq_take_drop,e2];rfl
 rw[hst];refine⟨p,dx,lw,row,ws,i,rfl,C,λH1 C1 a1=>?_⟩;refine ay (aP (zX (by decide +kernel) (pv 1))) ⟨_,rfl,_,rfl,b7 (by lia),_,rfl,?_,?_⟩
 ·have h1:(PySem.Txt.slice (jR z) (some 1) none).length<=1001:=X6 (PySem.Txt.slice_le _ _ _) (by lia);have h2:(" " : Str).length=1:=by decide +kernel
  rw[h2];lia
 ·have e:PySem.Txt.replace (PySem.Txt.slice (jR z) (some 1) none) "_" " " = z:=by refine kE ?_;rw[show ((" " : Str))=⟨#[32]⟩ from by decide +kernel,show (("_" : Str))=⟨#[95]⟩ from by decide +kernel,lP,QI (by lia),iz];exact CY hz3
  rw[e];exact q H1 C1 a1
end
local macro_rules | `(tactic| walk_at "u")=>`(tactic| first | rfl | decide | exact Or.inl rfl | exact Or.inr rfl | exact Or.inr (Or.inl rfl) | exact Or.inr (Or.inr rfl) | assumption | (intro _;rfl) | exact zj _ (by decide) (by decide))
section
variable {P:Program}{w:World}{K:PySem.W.Frag}{mg:Str->Option Value}{base:Heap}{t:dU}
def k8(sg:List Nat):List Nat->Nat
 | []=>0
 |c::r=>if c∈sg then 1+k8 sg r else 0
def gu(sort signs row:Str)(i:Nat):V :=
 if sort = "end" then (if i=row.length then .int 0 else .cD)
 else if sort = "word" then (if (row.cps.toList.drop i).take signs.length=signs.cps.toList then .int signs.length else .cD)
 else match row.cps.toList[i]? with
  |none=>.cD
  |some c =>
   if sort = "any" ∨ sort = "still" then .int (if sort = "any" then 1 else 0)
   else if sort = "none" then (if c∈signs.cps.toList then .cD else .int 1)
   else if c∈signs.cps.toList then .int (if sort = "many" then 1+k8 signs.cps.toList (row.cps.toList.drop (i+1)) else 1) else .cD
def getL{row:Str}{i:Nat}:row.cps.toList.length=row.length:=by simp[Str.length]
def strAt{row:Str}{i:Int}(h0:0<=i)(h1:i<row.length):∃c,row.cps.toList[i.toNat]?=some c/\uv row.cps.toList i=some c:=AO _ h0 (by rw[getL (i:=0)];exact h1)
inductive qR(C:Addr)(fl:Str->List (Str×V))(sort:Str)(vs:List V)(H:Hp)(Q:VK)(_:XK):Prop|mk(p dx:Addr)(signs row:Str)(i:Nat)(_:vs=[.ref p,.str row,.int i])(_:H p=some (.ins C dx (fl signs)))(_:signs.length<=1000)(_:row.length<=1000)(_:i<=row.length)(_:Q (gu sort signs row i) H)
inductive nR(b:Bool)(vs:List V)(H:Hp)(Q:VK)(_:XK):Prop|mk(p:V)(_:vs=[p])(_:Q (.bl b) H)
inductive wR(C:Addr)(f:Str)(vs:List V)(H:Hp)(Q:VK)(_:XK):Prop|mk(p dx:Addr)(z:Str)(_:vs=[.ref p,.str z])(_:H p=some (.ins C dx []))(_:Q .cD (upd H p (.ins C dx [(f,.str z)])))
def Ru (T:Txt K mg t):bw P w K mg base dM 1 t.Hr t.Nh ["self","text"] (wR t.iE "wanted"):=by refine T.MU.ok Pp λvs H Q E h=>?_;obtain⟨p,dx,z,rfl,hp,q⟩:=h;walk_at "i";refine ay (bT (pv 0) (pv 1) rfl) ?_;exact⟨_,rfl,_,rfl,p,_,dx,[],rfl,hp,T.rF,T.jP,by decide,q⟩
def Rn (T:Txt K mg t):bw P w K mg base dM 1 t.EA t.Nv ["self","signs"] (wR t.j6 "signs"):=by refine T.MD.ok Sj λvs H Q E h=>?_;obtain⟨p,dx,z,rfl,hp,q⟩:=h;walk_at "i";refine ay (bT (pv 0) (pv 1) rfl) ?_;exact⟨_,rfl,_,rfl,p,_,dx,[],rfl,hp,T.Ag,T.qV,by decide,q⟩
def QK (T:Txt K mg t):bw P w K mg base dM 1 t.Fc t.OL ["self","signs"] (wR t.dw "signs"):=by refine T.Mu.ok Tq λvs H Q E h=>?_;obtain⟨p,dx,z,rfl,hp,q⟩:=h;walk_at "i";refine ay (bT (pv 0) (pv 1) rfl) ?_;exact⟨_,rfl,_,rfl,p,_,dx,[],rfl,hp,T.nV,T.kM,by decide,q⟩
def SQ (T:Txt K mg t):bw P w K mg base dM 1 t.Io t.N9 ["self","signs"] (wR t.iu "signs"):=by refine T.MK.ok Qq λvs H Q E h=>?_;obtain⟨p,dx,z,rfl,hp,q⟩:=h;walk_at "i";refine ay (bT (pv 0) (pv 1) rfl) ?_;exact⟨_,rfl,_,rfl,p,_,dx,[],rfl,hp,T.wG,T.oX,by decide,q⟩
def EM (T:Txt K mg t):bw P w K mg base dM 1 t.vv t.Bd ["self"] (nR false):=by refine T.Eg.ok QC λvs H Q E h=>?_;obtain⟨p,rfl,q⟩:=h;walk_at "i";exact ay (aP pq) q
def Tr (T:Txt K mg t):bw P w K mg base dM 1 t.BH t.Gr ["self"] (nR true):=by refine T.LZ.ok Rf λvs H Q E h=>?_;obtain⟨p,rfl,q⟩:=h;walk_at "i";exact ay (aP pq) q
def SN (T:Txt K mg t):bw P w K mg base dM 1 t.BU t.JM ["self"] (nR true):=by refine T.Ot.ok S3 λvs H Q E h=>?_;obtain⟨p,rfl,q⟩:=h;walk_at "i";exact ay (aP pq) q
def QF (T:Txt K mg t):bw P w K mg base dM 1 t.Bx t.Gn ["self"] (nR true):=by refine T.MJ.ok Qh λvs H Q E h=>?_;obtain⟨p,rfl,q⟩:=h;walk_at "i";exact ay (aP pq) q
def S5 (T:Txt K mg t):bw P w K mg base dM 1 t.BS t.Fb ["self"] (nR true):=by refine T.MT.ok Tf λvs H Q E h=>?_;obtain⟨p,rfl,q⟩:=h;walk_at "i";exact ay (aP pq) q
def T6 (T:Txt K mg t):bw P w K mg base dM 1 t.K7 t.Rr ["self"] (nR true):=by refine T.Vk.ok VW λvs H Q E h=>?_;obtain⟨p,rfl,q⟩:=h;walk_at "i";exact ay (aP pq) q
def Dc{row sg:Str}{i:Nat}(hi:i<=row.length):(decide (fromIndex row.length (i:Int)+sg.length<=row.length) && Builtin.Str.subAt row sg (fromIndex row.length (i:Int)))=decide ((row.cps.toList.drop i).take sg.length=sg.cps.toList):=by
 have e:fromIndex row.length (i:Int)=i:=by unfold fromIndex;rw[if_neg (by lia)];lia
 rw[e];have e2:Builtin.Str.subAt row sg i=decide ((row.cps.toList.drop i).take sg.length=sg.cps.toList):=by unfold Builtin.Str.subAt;rw[ad4,beq_iff_eq,aa8];rw[← af4];simp[Array.toList_extract,List.extract_eq_take_drop]
 rw[e2,ad4,aa9,aa8,aa8];refine⟨λz=>z.2,λz=>⟨?_,z⟩⟩;have:=ac1 List.length z;rw[N0,U2,getL (i:=0),getL (i:=0)] at this;lia
def Tp (T:Txt K mg t):bw P w K mg base dM 1 t.BW t.Hz ["self","row","at"] (qR t.iE (λz=>[("wanted",.str z)]) "word"):=by
 refine T.Mh.ok P6 λvs H Q E h=>?_;obtain⟨p,dx,sg,row,i,rfl,hp,hs,hw,hi,q⟩:=h;walk_at "i";refine ay (aP (cO (eN (dF ac4 ag9 F.type_str_startswith AV (pv 1) (aa (aJ (pv 0) rfl) (aa (pv 2) ai)))) (aM bJ (by rfl) T.bW (by decide +kernel) (aa (aJ (pv 0) rfl) ai)) bL)) ?_;rw[gu,if_neg (by decide),if_pos rfl] at q;refine⟨_,rfl,rfl,_,rfl,p,_,dx,_,_,rfl,hp,T.rF,T.jP,rfl,_,rfl,_,_,_,rfl,rfl,_,rfl,?_⟩;rw[Dc hi];refine dI (λh=>?_) (λh=>?_)
 ·rw[if_pos h] at q;exact⟨_,rfl,p,_,dx,_,_,rfl,hp,T.rF,T.jP,rfl,_,rfl,b7 (by lia),q⟩
 ·rw[if_neg h] at q;exact q
def iJ {sort sg row:Str}  (h1:sort ≠ "end") (h2:sort ≠ "word") (e:row.cps.toList[i]?=some c):gu sort sg row i=if sort = "any" ∨ sort = "still" then .int (if sort = "any" then 1 else 0)
   else if sort = "none" then (if c∈sg.cps.toList then .cD else .int 1)
   else if c∈sg.cps.toList then .int (if sort = "many" then 1+k8 sg.cps.toList (row.cps.toList.drop (i+1)) else 1) else .cD:=by
 rw[gu,if_neg h1,if_neg h2,e]
def jg {sort sg row:Str}  (h1:sort ≠ "end") (h2:sort ≠ "word") (h:row.length<=i):gu sort sg row i = .cD:=by rw[gu,if_neg h1,if_neg h2,ac7 (by rw[getL (i:=0)];exact h)]
def Qo (T:Txt K mg t):bw P w K mg base dM 1 t.Br t.Jv ["self","row","at"] (qR t.j6 (λz=>[("signs",.str z)]) "one"):=by
 refine T.Ox.ok Ss λvs H Q E h=>?_;obtain⟨p,dx,sg,row,i,rfl,hp,hs,hw,hi,q⟩:=h;walk_at "i";refine ay (aP (cO (PW.pt (jS (aB ie (pv 2) (aM bJ (by rfl) T.bW (by decide +kernel) (aa (pv 1) ai)) (aD _)) (i0 (aB ql (aY v9 (pv 1) (pv 2) (λ_ _=>rfl)) (aJ (pv 0) rfl) rfl)))) ao bL)) ?_;walk_at "rd";refine⟨b7 (by lia),dI (λh=>?_) (λh=>?_)⟩
 ·obtain⟨c,e1,e2⟩:=strAt (row:=row) (i:=(i:Int)) (by lia) h;rw[aa5] at e1;refine⟨b7 (by lia),c,e2,⟨_,rfl,_,_,_,_,_,rfl,hp,T.Ag,T.qV,rfl,⟨sg,rfl,?_⟩⟩⟩;rw[ag3];rw[iJ (by decide) (by decide) e1,if_neg (by decide),if_neg (by decide)] at q;refine dI (λh=>?_) (λh=>?_)
  ·rw[if_pos h,if_neg (by decide)] at q;exact q
  ·rw[if_neg h] at q;exact q
 ·rw[jg (by decide) (by decide) (by lia)] at q;exact q
def RO (T:Txt K mg t):bw P w K mg base dM 1 t.BR t.Gv ["self","row","at"] (qR t.dw (λz=>[("signs",.str z)]) "none"):=by
 refine T.OG.ok PX λvs H Q E h=>?_;obtain⟨p,dx,sg,row,i,rfl,hp,hs,hw,hi,q⟩:=h;walk_at "i";refine ay (aP (cO (PW.pt (jS (aB ie (pv 2) (aM bJ (by rfl) T.bW (by decide +kernel) (aa (pv 1) ai)) (aD _)) (i0 (aB vN (aY v9 (pv 1) (pv 2) (λ_ _=>rfl)) (aJ (pv 0) rfl) rfl)))) ao bL)) ?_;walk_at "rd";refine⟨b7 (by lia),dI (λh=>?_) (λh=>?_)⟩
 ·obtain⟨c,e1,e2⟩:=strAt (row:=row) (i:=(i:Int)) (by lia) h;rw[aa5] at e1;refine⟨b7 (by lia),c,e2,⟨_,rfl,_,_,_,_,_,rfl,hp,T.nV,T.kM,rfl,⟨sg,rfl,?_⟩⟩⟩;rw[ag3];rw[iJ (by decide) (by decide) e1,if_neg (by decide),if_pos rfl] at q;refine lR (λh=>?_) (λh=>?_)
  ·rw[if_neg h] at q;exact q
  ·rw[if_pos h] at q;exact q
 ·rw[jg (by decide) (by decide) (by lia)] at q;exact q
def UU (T:Txt K mg t):bw P w K mg base dM 1 t.Lm t.SK ["self","row","at"] (qR t.lD (λz=>[]) "any"):=by
 refine T.UO.ok VO λvs H Q E h=>?_;obtain⟨p,dx,sg,row,i,rfl,hp,hs,hw,hi,q⟩:=h;walk_at "i";refine ay (aP (cO (aB ie (pv 2) (aM bJ (by rfl) T.bW (by decide +kernel) (aa (pv 1) ai)) (aD _)) ao bL)) ?_;walk_at "rd";refine⟨b7 (by lia),dI (λh=>?_) (λh=>?_)⟩
 ·obtain⟨c,e1,e2⟩:=strAt (row:=row) (i:=(i:Int)) (by lia) h;rw[aa5] at e1;rw[iJ (by decide) (by decide) e1,if_pos (by decide),if_pos rfl] at q;exact q
 ·rw[jg (by decide) (by decide) (by lia)] at q;exact q
def PL (T:Txt K mg t):bw P w K mg base dM 1 t.Cm t.Fy ["self","row","at"] (qR t.gS (λz=>[]) "still"):=by
 refine T.Mf.ok Rb λvs H Q E h=>?_;obtain⟨p,dx,sg,row,i,rfl,hp,hs,hw,hi,q⟩:=h;walk_at "i";refine ay (aP (cO (aB ie (pv 2) (aM bJ (by rfl) T.bW (by decide +kernel) (aa (pv 1) ai)) (aD _)) ao bL)) ?_;walk_at "rd";refine⟨b7 (by lia),dI (λh=>?_) (λh=>?_)⟩
 ·obtain⟨c,e1,e2⟩:=strAt (row:=row) (i:=(i:Int)) (by lia) h;rw[aa5] at e1;rw[iJ (by decide) (by decide) e1,if_pos (by decide),if_neg (by decide)] at q;exact q
 ·rw[jg (by decide) (by decide) (by lia)] at q;exact q
def P9 (T:Txt K mg t):bw P w K mg base dM 1 t.Ck t.HR ["self","row","at"] (qR t.k9 (λz=>[]) "end"):=by
 refine T.OS.ok RP λvs H Q E h=>?_;obtain⟨p,dx,sg,row,i,rfl,hp,hs,hw,hi,q⟩:=h;walk_at "i";refine ay (aP (cO (aB bN (pv 2) (aM bJ (by rfl) T.bW (by decide +kernel) (aa (pv 1) ai)) (aD _)) ao bL)) ?_;walk_at "rd";rw[gu,if_pos rfl] at q;refine⟨b7 (by lia),rfl,dI (λh=>?_) (λh=>?_)⟩
 ·rw[if_pos (by lia)] at q;exact q
 ·rw[if_neg (by lia)] at q;exact q
def yU{sg l:List Nat}(e:l[j]?=some c):k8 sg (l.drop j)=if c∈sg then 1+k8 sg (l.drop (j+1)) else 0:=by
 have hdrop:l.drop j=c::l.drop (j+1):=by rw[List.drop_eq_getElem?_toList_append,e];rfl
 rw[hdrop,k8]
def R7 (T:Txt K mg t):bw P w K mg base dM 1 t.Bu t.JX ["self","row","at"] (qR t.iu (λz=>[("signs",.str z)]) "many"):=by
 refine T.M5.ok zP λvs H Q E h=>?_;obtain⟨p,dx,sg,row,i,rfl,hp,hs,hw,hi,q⟩:=h;walk_at "i";have q':Q (if 0<k8 sg.cps.toList (row.cps.toList.drop i) then .int (k8 sg.cps.toList (row.cps.toList.drop i)) else .cD) H:=by
  by_cases h:i<row.length
  ·obtain⟨c,e1,e2⟩:=strAt (row:=row) (i:=(i:Int)) (by lia) (by lia);rw[aa5] at e1;rw[iJ (by decide) (by decide) e1,if_neg (by decide),if_neg (by decide),if_pos rfl] at q;rw[yU e1];by_cases h2:c∈sg.cps.toList
   ·rw[if_pos h2] at q ⊢;rw[if_pos (by lia)];exact q
   ·rw[if_neg h2] at q ⊢;exact q
  ·rw[jg (by decide) (by decide) (by lia)] at q;have:row.cps.toList.drop i=[]:=af3 (by rw[getL (i:=0)];lia);rw[this];exact q
 refine au (cR 3 zP (pv 2)) ?_;walk_at "rd";refine aI (λZ' H'=>H'=H/\Z'=[some (.ref p),some (.str row),some (.int i),some (.int ((i:Int)+k8 sg.cps.toList (row.cps.toList.drop i)))]) (oW ab3 (PW.pt (jS (aB ie (pv 3) (aM bJ (by rfl) T.bW (by decide +kernel) (aa (pv 1) ai)) (aD _)) (i0 (aB ql (aY v9 (pv 1) (pv 3) (λ_ _=>rfl)) (aJ (pv 0) rfl) rfl)))) aq) ?_ ?_
 ·refine⟨λm Z' H'=>∃j:Nat,Z'=[some (.ref p),some (.str row),some (.int i),some (.int (j:Int))]/\H'=H/\j<=row.length/\m=row.length-j/\i+k8 sg.cps.toList (row.cps.toList.drop i)=j+k8 sg.cps.toList (row.cps.toList.drop j),⟨_,i,rfl,rfl,hi,rfl,rfl⟩,?_⟩;rintro m Z' H' ⟨j,rfl,e,hj,rfl,hr⟩;rw[e];clear e H';walk_at "rd";refine⟨b7 (by lia),dI (λh=>?_) (λh=>?_)⟩
  ·obtain⟨c,e1,e2⟩:=strAt (row:=row) (i:=(j:Int)) (by lia) h;rw[aa5] at e1;rw[yU (j:=j) e1] at hr;refine⟨b7 (by lia),c,e2,⟨_,rfl,_,_,_,_,_,rfl,hp,T.wG,T.oX,rfl,⟨sg,rfl,?_⟩⟩⟩;rw[ag3];refine dI (λh2=>?_) (λh2=>?_)
   ·rw[if_pos h2] at hr;refine⟨_,λZ' H' z=>z,ay (zy (i:=3) zP.nd rfl (Or.inl rfl) ao A1) ?_⟩;walk_at "rd";exact⟨row.length-(j+1),by lia,j+1,by simp,by lia,rfl,by lia⟩
   ·rw[if_neg h2] at hr;refine⟨rfl,?_⟩;rw[show (i:Int)+(k8 sg.cps.toList (row.cps.toList.drop i):Nat)=(j:Int) by lia]
  ·have:row.cps.toList.drop j=[]:=af3 (by rw[getL (i:=0)];lia);rw[this,k8] at hr;lia
 rintro Z' H' ⟨e,rfl⟩;rw[e];clear e H';refine ay (aP (cO (aB j7 (pv 3) (pv 2) (aD _)) (bh nP (pv 3) (pv 2)) bL)) ?_;walk_at "rd";refine dI (λh=>?_) (λh=>?_)
 ·rw[if_pos (by lia)] at q';rw[show (i:Int)+(k8 sg.cps.toList (row.cps.toList.drop i):Nat)-i=k8 sg.cps.toList (row.cps.toList.drop i) by lia];exact q'
 ·rw[if_neg (by lia)] at q';exact q'
def nQ(sort sg row:Str)(i:Nat):(∃n:Int,gu sort sg row i = .int n)∨gu sort sg row i = .cD:=by
 unfold gu;repeat' split
 all_goals first | exact .inl ⟨_,rfl⟩ | exact .inr rfl
def bE (sort:Str):Bool:=!decide (sort = "still" ∨ sort = "end")
structure ya(P:Program)(w:World)(K:PySem.W.Frag)(mg:Str->Option Value)(base:Heap)(C fe fs:Addr)(de ds:FuncData)(sort:Str)(fl:Str->List (Str×V)):Prop where
 cl:ny K C
 me:Meth K C "eaten" fe
 ms:Meth K C "eats" fs
 ne:∀z,(fl z).lookup ("eaten" : Str)=none
 ns:∀z,(fl z).lookup ("eats" : Str)=none
 ge:bw P w K mg base dM 1 fe de ["self","row","at"] (qR C fl sort)
 be:Binds K de ["self","row","at"] []
 gs:bw P w K mg base dM 1 fs ds ["self"] (nR (bE sort))
 bs:Binds K ds ["self"] []
 ty:PySem.W.findIn K (.ref C) "__class__" = some (some (.builtin "object.__class__"))
 mr:PySem.W.mroIn K C (.type "object")=some true
def KW (T:Txt K mg t):ya P w K mg base t.iE t.BW t.BH t.Hz t.Gr "word" (λz=>[("wanted",.str z)]) :=
 ⟨T.rF,T.Vl,T.Ud,λ_=>by rfl,λ_=>by rfl,Tp T,T.Mh.binds (by walk_at "3"),by rw[show bE "word" = true by decide +kernel];exact Tr T,T.LZ.binds (by walk_at "1"),T.KR,T.Ll⟩
def Q5 (T:Txt K mg t):ya P w K mg base t.j6 t.Br t.BU t.Jv t.JM "one" (λz=>[("signs",.str z)]) :=
 ⟨T.Ag,T.UI,T.Ui,λ_=>by rfl,λ_=>by rfl,Qo T,T.Ox.binds (by walk_at "3"),by rw[show bE "one" = true by decide +kernel];exact SN T,T.Ot.binds (by walk_at "1"),T.Q8,T.Q9⟩
def zQ (T:Txt K mg t):ya P w K mg base t.dw t.BR t.Bx t.Gv t.Gn "none" (λz=>[("signs",.str z)]) :=
 ⟨T.nV,T.Ua,T.VN,λ_=>by rfl,λ_=>by rfl,RO T,T.OG.binds (by walk_at "3"),by rw[show bE "none" = true by decide +kernel];exact QF T,T.MJ.binds (by walk_at "1"),T.Av,T.AQ⟩
def KU (T:Txt K mg t):ya P w K mg base t.iu t.Bu t.BS t.JX t.Fb "many" (λz=>[("signs",.str z)]) :=
 ⟨T.wG,T.UA,T.Vs,λ_=>by rfl,λ_=>by rfl,R7 T,T.M5.binds (by walk_at "3"),by rw[show bE "many" = true by decide +kernel];exact S5 T,T.MT.binds (by walk_at "1"),T.LG,T.Ln⟩
def SE (T:Txt K mg t):ya P w K mg base t.lD t.Lm t.K7 t.SK t.Rr "any" (λz=>[]) :=
 ⟨T.Qt,T.WD,T.Wu,λ_=>by rfl,λ_=>by rfl,UU T,T.UO.binds (by walk_at "3"),by rw[show bE "any" = true by decide +kernel];exact T6 T,T.Vk.binds (by walk_at "1"),T.Ti,T.SV⟩
def Jz (T:Txt K mg t):ya P w K mg base t.gS t.Cm t.vv t.Fy t.Bd "still" (λz=>[]) :=
 ⟨T.F8,T.T9,T.wu,λ_=>by rfl,λ_=>by rfl,PL T,T.Mf.binds (by walk_at "3"),by rw[show bE "still" = false by decide +kernel];exact EM T,T.Eg.binds (by walk_at "1"),T.G4,T.IA⟩
def PB (T:Txt K mg t):ya P w K mg base t.k9 t.Ck t.vv t.HR t.Bd "end" (λz=>[]) :=
 ⟨T.Td,T.UZ,T.Au,λ_=>by rfl,λ_=>by rfl,P9 T,T.OS.binds (by walk_at "3"),by rw[show bE "end" = false by decide +kernel];exact EM T,T.Eg.binds (by walk_at "1"),T.Px,T.Q4⟩
structure bg where
 sort:Str
 signs:Str
 aU:Str
 bz:Str
 goal:Option Nat
 fold:Str
structure aE where
 name:Str
 aU:Str
 rules:List bg
abbrev sorts:List Str:=["word","one","none","many","any","still","end"]
abbrev bare (s:Str):Prop:=s = "any" ∨ s = "still" ∨ s = "end"
def iW (t:dU) (s:Str):Addr:=if s = "any" then t.lD else if s = "still" then t.gS else if s = "end" then t.k9 else if s = "word" then t.iE else if s = "one" then t.j6 else if s = "none" then t.dw else t.iu
def mU (s z:Str):List (Str×V):=if bare s then [] else if s = "word" then [("wanted",.str z)] else [("signs",.str z)]
def BY:iW t "any" = t.lD:=by rw[iW,if_pos rfl]
def uB:iW t "still" = t.gS:=by rw[iW,if_neg (by decide),if_pos rfl]
def Cz:iW t "end" = t.k9:=by rw[iW,if_neg (by decide),if_neg (by decide),if_pos rfl]
def yQ:iW t "word" = t.iE:=by rw[iW,if_neg (by decide),if_neg (by decide),if_neg (by decide),if_pos rfl]
def Bg:iW t "one" = t.j6:=by rw[iW,if_neg (by decide),if_neg (by decide),if_neg (by decide),if_neg (by decide),if_pos rfl]
def yG:iW t "none" = t.dw:=by rw[iW,if_neg (by decide),if_neg (by decide),if_neg (by decide),if_neg (by decide),if_neg (by decide),if_pos rfl]
def yo:iW t "many" = t.iu:=by rw[iW,if_neg (by decide),if_neg (by decide),if_neg (by decide),if_neg (by decide),if_neg (by decide),if_neg (by decide)]
def IB:mU "any" = λ_=>[]:=by funext z;rw[mU,if_pos (by decide)]
def yY:mU "still" = λ_=>[]:=by funext z;rw[mU,if_pos (by decide)]
def Hs:mU "end" = λ_=>[]:=by funext z;rw[mU,if_pos (by decide)]
def B0:mU "word" = λz=>([("wanted",.str z)]:List (Str×V)):=by funext z;rw[mU,if_neg (by decide),if_pos rfl]
def vj  (h:¬ bare s) (h2:s ≠ "word"):mU s=λz=>([("signs",.str z)]:List (Str×V)):=by funext z;rw[mU,if_neg h,if_neg h2]
def gB  (h:s∈sorts):s = "word" ∨ s = "one" ∨ s = "none" ∨ s = "many" ∨ s = "any" ∨ s = "still" ∨ s = "end" := by simpa using h
def Lx(T:Txt K mg t)(h:s∈sorts):∃fe fs de ds,ya P w K mg base (iW t s) fe fs de ds s (mU s):=by
 rcases gB h with rfl|rfl|rfl|rfl|rfl|rfl|rfl
 ·rw[yQ,B0];exact⟨_,_,_,_,KW T⟩
 ·rw[Bg,vj (by decide) (by decide)];exact⟨_,_,_,_,Q5 T⟩
 ·rw[yG,vj (by decide) (by decide)];exact⟨_,_,_,_,zQ T⟩
 ·rw[yo,vj (by decide) (by decide)];exact⟨_,_,_,_,KU T⟩
 ·rw[BY,IB];exact⟨_,_,_,_,SE T⟩
 ·rw[uB,yY];exact⟨_,_,_,_,Jz T⟩
 ·rw[Cz,Hs];exact⟨_,_,_,_,PB T⟩
def kL(t:dU)(H:Hp)(p:Addr)(s z:Str):Prop:=∃dx,H p=some (.ins (iW t s) dx (mU s z))
def jX:Option Nat->V
 |none=>.cD
 |some g=>.int g
def rf (p:Addr) (R:bg):List (Str×V):=[("pattern",.ref p),("colour",.str R.aU),("deed",.str R.bz),("goal",jX R.goal),("fold",.str R.fold)]
def mf (M:aE) (l:Addr):List (Str×V):=[("name",.str M.name),("colour",.str M.aU),("rules",.ref l)]
def dG(t:dU)(H:Hp)(r:Addr)(R:bg):Prop:=∃dx p,H r=some (.ins t.jk dx (rf p R))/\kL t H p R.sort R.signs
def kL.same(h:kL t H p s z)(e:ak H H'):kL t H' p s z:=by obtain⟨dx,x⟩:=h;exact⟨dx,e _ _ x⟩
def dG.same(h:dG t H r R)(e:ak H H'):dG t H' r R:=by obtain⟨dx,p,x,y⟩:=h;exact⟨dx,p,e _ _ x,y.same e⟩
def bO{α β:Type}(R:α->β->Prop)(as:List α)(bs:List β):Prop:=as.length=bs.length/\∀(i:Nat) a b,as[i]?=some a->bs[i]?=some b->R a b
def bO.nil{α β:Type}{R:α->β->Prop}:bO R [] []:=⟨rfl,λi a b h=>by simp at h⟩
def bO.mono{α β:Type}{R S:α->β->Prop}{as:List α}{bs:List β}(h:bO R as bs)(f:∀a b,R a b->S a b):bO S as bs:=⟨h.1,λi a b x y=>f a b (h.2 i a b x y)⟩
def dB{α:Type}{as:List α}{a x:α}{i:Nat}(h:(as++[a])[i]?=some x):as[i]?=some x∨(i=as.length/\x=a):=by
 by_cases hi:i<as.length
 ·rw[Y9 hi] at h;exact .inl h
 ·rw[X3 (by lia)] at h;have:i-as.length=0:=by
   cases e:i-as.length with
   |zero=>rfl
   |succ n=>rw[e] at h;simp at h
  rw[this] at h;simp at h;exact .inr ⟨by lia,h.symm⟩
def bO.snoc{α β:Type}{R:α->β->Prop}{as:List α}{bs:List β}{a:α}{b:β}(h:bO R as bs)(r:R a b):bO R (as++[a]) (bs++[b]):=by
 refine⟨by simp[h.1],λi x y hx hy=>?_⟩;have hl:=h.1;rcases dB hx with h1|⟨e1,rfl⟩
 ·rcases dB hy with h2|⟨e2,rfl⟩
  ·exact h.2 i x y h1 h2
  ·have:=(i5.mp h1).1;lia
 ·rcases dB hy with h2|⟨e2,rfl⟩
  ·have:=(i5.mp h2).1;lia
  ·exact r
def bO.at{α β:Type}{R:α->β->Prop}{as:List α}{bs:List β}(h:bO R as bs){i:Nat}{b:β}(e:bs[i]?=some b):∃a,as[i]?=some a/\R a b:=by
 have hi:=(i5.mp e).1;have hi2:i<as.length:=by rw[h.1];exact hi
 exact⟨as[i],i4 hi2,h.2 i _ _ (i4 hi2) e⟩
structure cE(t:dU)(H:Hp)(as ls:List Addr)(ms:List aE):Prop where
 la:as.length=ms.length
 ll:ls.length=ms.length
 nd:ls.Nodup
 ob:∀(i:Nat) a l m,as[i]?=some a->ls[i]?=some l->ms[i]?=some m->∃dx rs,H a=some (.ins t.dX dx (mf m l))/\H l=some (.lst (rs.map V.ref))/\bO (dG t H) rs m.rules
def cE.same(h:cE t H as ls ms)(e:ak H H'):cE t H' as ls ms :=
 ⟨h.la,h.ll,h.nd,λi a l m h1 h2 h3=>let ⟨dx,rs,x,y,z⟩:=h.ob i a l m h1 h2 h3;⟨dx,rs,e _ _ x,e _ _ y,z.mono λ_ _ r=>r.same e⟩⟩
def IsRules (t:dU) (H:Hp) (a:Addr) (ms:List aE):Prop:=∃dx lm as ls,H a=some (.ins t.jC dx [("modes",.ref lm)])/\H lm=some (.lst (as.map V.ref))/\cE t H as ls ms
def IsRules.same(h:IsRules t H a ms)(e:ak H H'):IsRules t H' a ms:=by obtain⟨dx,lm,as,ls,x,y,z⟩:=h;exact⟨dx,lm,as,ls,e _ _ x,e _ _ y,z.same e⟩
def gp(h1:H x=none)(h2:H dx=none):ak H (upd (upd (upd H dx o1) x o2) x o3):=λb o e=>by rw[aj (av e h1),aj (av e h1),aj (av e h2)];exact e
def bP(h1:H x=none)(h2:H dx=none):ak H (upd (upd H dx o1) x o2):=λb o e=>by rw[aj (av e h1),aj (av e h2)];exact e
inductive Lf(t:dU)(vs:List V)(H:Hp)(Q:VK)(_:XK):Prop|mk(x dx p:Addr)(R:bg)(_:vs=[.ref x,.ref p,.str R.aU,.str R.bz,jX R.goal,.str R.fold])(_:H x=some (.ins t.jk dx []))(_:Q .cD (upd H x (.ins t.jk dx (rf p R))))
def Ez (T:Txt K mg t):bw P w K mg base dM 1 t.Jh t.Mm ["self","pattern","colour","deed","goal","fold"] (Lf t):=by refine T.JO.ok SS λvs H Q E h=>?_;obtain⟨x,dx,p,R,rfl,hx,q⟩:=h;walk_at "i";refine au (bT (pv 0) (pv 1) rfl) ⟨_,rfl,_,rfl,x,_,dx,[],rfl,hx,T.cG,T.fC,by decide,?_⟩;refine au (bT (pv 0) (pv 2) rfl) ⟨_,rfl,_,rfl,x,_,dx,[("pattern",.ref p)],rfl,af,T.cG,T.jM,by show 1<1000;decide,?_⟩;refine au (bT (pv 0) (pv 3) rfl) ⟨_,rfl,_,rfl,x,_,dx,[("pattern",.ref p),("colour",.str R.aU)],rfl,af,T.cG,T.gy,by show 2<1000;decide,?_⟩;refine au (bT (pv 0) (pv 4) rfl) ⟨_,rfl,_,rfl,x,_,dx,[("pattern",.ref p),("colour",.str R.aU),("deed",.str R.bz)],rfl,af,T.cG,T.jy,by show 3<1000;decide,?_⟩;refine ay (bT (pv 0) (pv 5) rfl) ⟨_,rfl,_,rfl,x,_,dx,[("pattern",.ref p),("colour",.str R.aU),("deed",.str R.bz),("goal",jX R.goal)],rfl,af,T.cG,T.jI,by show 4<1000;decide,?_⟩;rw[eO,eO,eO,eO];exact q
inductive KJ(t:dU)(vs:List V)(H:Hp)(Q:VK)(_:XK):Prop|mk(x dx l:Addr)(n c:Str)(rs:List V)(_:vs=[.ref x,.str n,.str c,.ref l])(_:H x=some (.ins t.dX dx []))(_:H l=some (.lst rs))(_:∀l2 H',H l2=none->H' x=some (.ins t.dX dx (mf ⟨n,c,[]⟩ l2))->H' l2=some (.lst rs)->fZ H H' x->Q .cD H')
def GW (T:Txt K mg t):bw P w K mg base dM 1 t.Jk t.N8 ["self","name","colour","rules"] (KJ t):=by
 refine T.Eu.ok RQ λvs H Q E h=>?_;obtain⟨x,dx,l,n,c,rs,rfl,hx,hl,q⟩:=h;walk_at "i";have nlx:l≠x:=cy hl hx (by intro z;cases z);refine au (bT (pv 0) (pv 1) rfl) ⟨_,rfl,_,rfl,x,_,dx,[],rfl,hx,T.fR,T.jA,by decide,?_⟩;refine au (bT (pv 0) (pv 2) rfl) ⟨_,rfl,_,rfl,x,_,dx,[("name",.str n)],rfl,af,T.fR,T.jO,by show 1<1000;decide,?_⟩;refine ay (bT (pv 0) (cQ gG (by rfl) T.kh (by decide +kernel) (aa (pv 3) ai)) rfl) ⟨_,rfl,l,rs,rfl,.inl (bq.of (by rw[aj nlx,aj nlx];exact hl)),λl2 hl2=>?_⟩;have n2:x≠l2:=av af hl2;have hl0:H l2=none:=by rw[aj (aa3 n2),aj (aa3 n2)] at hl2;exact hl2
 refine⟨_,rfl,x,_,dx,[("name",.str n),("colour",.str c)],rfl,by rw[aj n2];exact af,T.fR,T.fU,by show 2<1000;decide,?_⟩;refine q l2 _ hl0 af (by rw[aj (aa3 n2)];exact af) λb o hb nb=>?_;rw[aj nb,aj (av hb hl0),aj nb,aj nb];exact hb
inductive II(t:dU)(vs:List V)(H:Hp)(Q:VK)(_:XK):Prop|mk(x dx l:Addr)(rs:List V)(_:vs=[.ref x,.ref l])(_:H x=some (.ins t.jC dx []))(_:H l=some (.lst rs))(_:∀l2 H',H l2=none->H' x=some (.ins t.jC dx [("modes",.ref l2)])->H' l2=some (.lst rs)->fZ H H' x->Q .cD H')
def Ff (T:Txt K mg t):bw P w K mg base dM 1 t.HX t.L5 ["self","modes"] (II t):=by refine T.IZ.ok QW λvs H Q E h=>?_;obtain⟨x,dx,l,rs,rfl,hx,hl,q⟩:=h;walk_at "i";refine ay (bT (pv 0) (cQ gG (by rfl) T.kh (by decide +kernel) (aa (pv 1) ai)) rfl) ⟨_,rfl,l,rs,rfl,.inl (bq.of hl),λl2 hl2=>?_⟩;have n2:x≠l2:=av hx hl2;refine⟨_,rfl,x,_,dx,[],rfl,by rw[aj n2];exact hx,T.iP,T.dc,by decide,?_⟩;refine q l2 _ hl2 af (by rw[aj (aa3 n2)];exact af) λb o hb nb=>?_;rw[aj nb,aj (av hb hl2)];exact hb
abbrev cC(s z:Str):List Str:=if bare s then [s] else [s,jR z]
structure wj(s z:Str):Prop where
 sort:s∈sorts
 Su:bare s->z = ""
 sg:¬ bare s->1<=z.length/\z.length<=200/\95∉z.cps.toList/\10∉z.cps.toList
def drop_cons{α:Type}{ws:List α}{i:Nat}{x:α}{r:List α}(h:ws.drop i=x::r):ws[i]?=some x/\ws.drop (i+1)=r:=by
 constructor
 ·have:=ac1 (λl=>l[0]?) h;simpa [ab7] using this
 ·rw[← List.drop_drop,h];rfl
def iI(h:ws.drop i=x::r):pk ws i=x:=by unfold pk;rw[ab5,(drop_cons h).1];rfl
def K0{ws:List Str}(h:ws.drop i=x::r):i<ws.length:=(i5.mp (drop_cons h).1).1
def yI{ws:List Str}(h:ws.drop i=[]):ws.length<=i:=List.drop_eq_nil_iff.mp h
inductive J5(t:dU)(vs:List V)(H:Hp)(Q:VK)(_:XK):Prop|mk(p dx lw:Addr)(row:Int)(ws:List Str)(i:Nat)(s z:Str)(rest:List Str)(_:vs=[.ref p])(_:oq t H p dx lw row ws i)(_:ws.drop i=cC s z++rest)(_:wj s z)(_:∀a H' j,kL t H' a s z->oq t H' p dx lw row ws j->ws.drop j=rest->fZ H H' p->Q (.ref a) H')
def Pj (T:Txt K mg t):bw P w K mg base dM 5 t.EU t.MI ["cursor"] (J5 t):=by
 refine T.Et.ok AE λvs H Q E h=>?_;obtain⟨p,dx,lw,row,ws,i,s,z,rest,rfl,C,hd,G,q⟩:=h;walk_at "i";have hk:pk ws i=s:=by
  by_cases hb:bare s
  ·rw[cC,if_pos hb] at hd;exact iI hd
  ·rw[cC,if_neg hb] at hd;exact iI hd
 refine au (cR 1 AE (bB (pv 0) T.aZ T.KP (BQ T) hr.m T.EE.b2 .nil aH (aa (gj rfl T.wO (v:=V.ref t.ki) rfl) ai))) ⟨_,rfl,p,dx,_,rfl,C.ob,rfl,p,dx,lw,t.ki,sorts,row,ws,i,rfl,C,T.xA _,by rw[hk];exact G.sort,λH1 C1 a1=>?_⟩;rw[hk];refine au (aW (aB bN (pv 1) aA (aD _)) aq aq) ⟨_,rfl,rfl,_,rfl,dI (λh=>?_) (λh1=>bu ?_)⟩
 ·have h:=V.str.inj h;subst h;refine ay (aP (sE T.Pz rfl T.K8)) λx dx' nx ndx ne=>?_;rw[cC,if_pos (by decide)] at hd;exact q x _ (i+1) ⟨dx',by rw[BY,IB];exact af⟩ (C1.same (bP nx ndx)) (drop_cons hd).2 (a1.same (bP nx ndx))
 refine au (aW (aB bN (pv 1) aA (aD _)) aq aq) ⟨_,rfl,rfl,_,rfl,dI (λh=>?_) (λh2=>bu ?_)⟩
 ·have h:=V.str.inj h;subst h;refine ay (aP (sE T.E6 rfl T.CG)) λx dx' nx ndx ne=>?_;rw[cC,if_pos (by decide)] at hd;exact q x _ (i+1) ⟨dx',by rw[uB,yY];exact af⟩ (C1.same (bP nx ndx)) (drop_cons hd).2 (a1.same (bP nx ndx))
 refine au (aW (aB bN (pv 1) aA (aD _)) aq aq) ⟨_,rfl,rfl,_,rfl,dI (λh=>?_) (λh3=>bu ?_)⟩
 ·have h:=V.str.inj h;subst h;refine ay (aP (sE T.RD rfl T.KL)) λx dx' nx ndx ne=>?_;rw[cC,if_pos (by decide)] at hd;exact q x _ (i+1) ⟨dx',by rw[Cz,Hs];exact af⟩ (C1.same (bP nx ndx)) (drop_cons hd).2 (a1.same (bP nx ndx))
 have nb:¬ bare s:=by
  rintro (e|e|e)
  ·exact h1 (by rw[e])
  ·exact h2 (by rw[e])
  ·exact h3 (by rw[e])
 rw[cC,if_neg nb] at hd;have hd2:=(drop_cons hd).2;obtain⟨z1,z2,z3,z4⟩:=G.sg nb;refine au (cR 2 AE (bx (pv 0) T.aZ T.Wt (V3 T) hr.m T.Up.b1 .nil aH)) ⟨_,rfl,p,dx,_,rfl,C1.ob,rfl,p,dx,lw,row,ws,i+1,z,rfl,C1,iI hd2,z1,by lia,z3,λH2 C2 a2=>?_⟩;have hd3:=(drop_cons hd2).2;have a3:=a1.trans a2;refine au (aW (aB bN (pv 1) aA (aD _)) aq aq) ⟨_,rfl,rfl,_,rfl,dI (λh=>?_) (λh4=>bu ?_)⟩
 ·have h:=V.str.inj h;subst h;refine ay (aP (dP T.K4 (Ru T) hr.m rfl T.Jc T.MU.b2 .nil aH (aa (pv 2) ai))) ⟨_,rfl,λx dx' nx ndx ne=>⟨x,dx',z,rfl,af,rfl,?_⟩⟩;exact q x _ (i+1+1) ⟨dx',by rw[yQ,B0];exact af⟩ (C2.same (gp nx ndx)) hd3 (a3.same (gp nx ndx))
 refine au (aW (aB bN (pv 1) aA (aD _)) aq aq) ⟨_,rfl,rfl,_,rfl,dI (λh=>?_) (λh5=>bu ?_)⟩
 ·have h:=V.str.inj h;subst h;refine ay (aP (dP T.Qi (Rn T) hr.m rfl T.Km T.MD.b2 .nil aH (aa (pv 2) ai))) ⟨_,rfl,λx dx' nx ndx ne=>⟨x,dx',z,rfl,af,rfl,?_⟩⟩;exact q x _ (i+1+1) ⟨dx',by rw[Bg,vj nb (by decide)];exact af⟩ (C2.same (gp nx ndx)) hd3 (a3.same (gp nx ndx))
 refine au (aW (aB bN (pv 1) aA (aD _)) aq aq) ⟨_,rfl,rfl,_,rfl,dI (λh=>?_) (λh6=>bu ?_)⟩
 ·have h:=V.str.inj h;subst h;refine ay (aP (dP T.z9 (QK T) hr.m rfl T.yC T.Mu.b2 .nil aH (aa (pv 2) ai))) ⟨_,rfl,λx dx' nx ndx ne=>⟨x,dx',z,rfl,af,rfl,?_⟩⟩;exact q x _ (i+1+1) ⟨dx',by rw[yG,vj nb (by decide)];exact af⟩ (C2.same (gp nx ndx)) hd3 (a3.same (gp nx ndx))
 have h:s = "many" := by
  rcases gB G.sort with e|e|e|e|e|e|e
  ·exact absurd (by rw[e]) h4
  ·exact absurd (by rw[e]) h5
  ·exact absurd (by rw[e]) h6
  ·exact e
  ·exact absurd (by rw[e]) h1
  ·exact absurd (by rw[e]) h2
  ·exact absurd (by rw[e]) h3
 subst h;refine ay (aP (dP T.K1 (SQ T) hr.m rfl T.EN T.MK.b2 .nil aH (aa (pv 2) ai))) ⟨_,rfl,λx dx' nx ndx ne=>⟨x,dx',z,rfl,af,rfl,?_⟩⟩;exact q x _ (i+1+1) ⟨dx',by rw[yo,vj nb (by decide)];exact af⟩ (C2.same (gp nx ndx)) hd3 (a3.same (gp nx ndx))
inductive Jw(t:dU)(vs:List V)(H:Hp)(Q:VK)(_:XK):Prop|mk(p dx lw d:Addr)(nw:V)(row:Int)(ws:List Str)(i g:Nat)(kvs:List (Key×V))(_:vs=[.ref p,.ref d,nw])(_:oq t H p dx lw row ws i)(_:H d=some (.dK kvs))(_:isName (pk ws i)=true)(_:fu kvs (.inr (pk ws i))=some (.int g))(_:∀H',oq t H' p dx lw row ws (i+1)->fZ H H' p->Q (.int g) H')
def Sk (T:Txt K mg t):bw P w K mg base dM 5 t.JQ t.M6 ["cursor","numbers","nowhere"] (Jw t):=by refine T.F9.ok zK λvs H Q E h=>?_;obtain⟨p,dx,lw,d,nw,row,ws,i,g,kvs,rfl,C,hd,hn,hv,q⟩:=h;walk_at "i";refine au (cR 3 zK (br (aa (aJ (pv 0) rfl) (aa (aJ (pv 0) rfl) ai)))) ?_;refine⟨_,rfl,_,_,_,_,_,rfl,C.ob,T.aZ,T.oU,rfl,?_⟩;refine⟨_,rfl,_,_,_,_,_,rfl,C.ob,T.aZ,T.iL,rfl,?_⟩;refine⟨by show 2<=sizeLine;decide,λpt hpt=>?_⟩;have s1:ak H (upd H pt (.tup [.int row,.int i])):=ak.upd hpt;have C1:=C.same s1;refine au (cR 4 zK (bx (pv 0) T.aZ T.Le (BF T) hr.m T.Hf.b1 .nil aH)) ⟨_,rfl,p,dx,_,rfl,C1.ob,rfl,p,dx,lw,row,ws,i,rfl,C1,hn,λH2 C2 a2=>?_⟩;have npd:d≠p:=cy hd C.ob (by intro z;cases z);have hd2:H2 d=some (.dK kvs):=a2 _ _ (s1 _ _ hd) npd;refine au (aW (GH (uF (jE hr) (pv 4) (pv 1))) aq aq) ⟨_,rfl,_,rfl,d,_,rfl,pJ.k (k:=.inr (pk ws i)) hd2,_,rfl,?_⟩;rw[hv];refine ji (bu ?_);refine ay (aP (Ii (jE hr) (pv 1) (pv 4) ⟨rfl,rfl,rfl,rfl⟩)) ⟨_,rfl,d,rfl,.inl ⟨kvs,.inl hd2⟩,_,rfl,_,pJ.k (k:=.inr (pk ws i)) hd2,?_⟩;rw[hv];exact q H2 C2 (s1.JZ a2)
abbrev vM:List Str:=["stay","push","pop","into"]
abbrev jD (d:Str):Prop:=d = "push" ∨ d = "into"
def qP(names:List Str):Option Nat->List Str
 |some g=>[names.getD g ""]
 |none=>[]
def vA:(qP names g).length<=1:=by cases g <;> simp[qP]
def cP (names:List Str) (R:bg):List Str:=cC R.sort R.signs++((if bE R.sort=true then [R.aU] else [])++([R.bz]++(qP names R.goal++if R.fold = "" then [] else [R.fold])))
structure fF(names:List Str)(R:bg):Prop where
 pat:wj R.sort R.signs
 col:bE R.sort=true->isName R.aU=true
 US:bE R.sort=false->R.aU = ""
 bz:R.bz∈vM
 goal:jD R.bz->∃g,R.goal=some g/\g<names.length
 ET:¬ jD R.bz->R.goal=none
 fold:R.fold = "" ∨ R.fold = "open" ∨ R.fold = "close"
def numsOf(names:List Str)(kvs:List (Key×V)):Prop:=∀(g:Nat) n,names[g]?=some n->fu kvs (.inr n)=some (.int g)
inductive EW(t:dU)(vs:List V)(H:Hp)(Q:VK)(_:XK):Prop|mk(p dx lw d:Addr)(nw:V)(row:Int)(ws:List Str)(kvs:List (Key×V))(names:List Str)(R:bg)(_:vs=[.ref p,.ref d,nw])(_:oq t H p dx lw row ws 0)(_:ws=cP names R)(_:H d=some (.dK kvs))(_:numsOf names kvs)(_:(∀n∈names,isName n=true))(_:fF names R)(_:∀r H',dG t H' r R->fZ H H' p->Q (.ref r) H')
def kL.JZ(h:kL t H a s z)(C:oq t H p dx lw row ws i)(e:fZ H H' p):kL t H' a s z:=by
 obtain⟨d,x⟩:=h;refine⟨d,e _ _ x (cy x C.ob λq=>?_)⟩;injection q with _ _ q
 unfold mU cf at q;split at q
 ·cases q
 ·split at q <;> simp at q
def RT (T:Txt K mg t):bw P w K mg base dM 6 t.FE t.Ni ["cursor","numbers","nowhere"] (EW t):=by
 refine T.IL.ok pY λvs H Q E h=>?_;obtain⟨p,dx,lw,d,nw,row,ws,kvs,names,R,rfl,C,hws,hd,hnum,hnm,G,q⟩:=h;walk_at "i";have npd:d≠p:=cy hd C.ob (by intro z;cases z);obtain⟨fe,fs,de,ds,PK⟩:=Lx (P:=P) (w:=w) (base:=base) T G.pat.sort;refine au (cR 3 pY (aN (Pj T) hr.m rfl T.R6 T.Et.kp T.Et.b1 .nil aH (aa (pv 0) ai))) ⟨_,rfl,p,dx,lw,row,ws,0,R.sort,R.signs,_,rfl,C,by rw[List.drop_zero,hws,cP],G.pat,λpa H1 j1 hp1 C1 hd1 a1=>?_⟩;refine aI (λZ' H'=>∃j,Z'=[some (.ref p),some (.ref d),some nw,some (.ref pa),some (.str R.aU),none,none,none]/\oq t H' p dx lw row ws j/\kL t H' pa R.sort R.signs/\fZ H H' p /\
  ws.drop j=R.bz::(qP names R.goal++if R.fold = "" then [] else [R.fold])) (cR 4 pY (cO (eN (bx (pv 3) PK.cl PK.ms PK.gs hr.m PK.bs .nil aH)) (bx (pv 0) T.aZ T.Le (BF T) hr.m T.Hf.b1 .nil aH) aA)) ?_ ?_
 ·obtain⟨dpa,hpa⟩:=hp1;refine⟨_,rfl,pa,dpa,_,rfl,hpa,PK.ns _,_,rfl,_,rfl,Wq (λh=>?_) (λh=>?_)⟩
  ·rw[if_pos h] at hd1;refine⟨_,rfl,p,dx,_,rfl,C1.ob,rfl,p,dx,lw,row,ws,j1,rfl,C1,by rw[iI hd1];exact G.col h,λH2 C2 a2=>?_⟩;rw[iI hd1];exact⟨j1+1,rfl,C2,kL.JZ ⟨dpa,hpa⟩ C1 a2,a1.trans a2,(drop_cons hd1).2⟩
  ·rw[h,if_neg (by decide)] at hd1;rw[G.US h];exact⟨j1,rfl,C1,⟨dpa,hpa⟩,a1,hd1⟩
 rintro Z' H2 ⟨j2,rfl,C2,hp2,a2,hd2⟩;refine au (cR 5 pY (bB (pv 0) T.aZ T.KP (BQ T) hr.m T.EE.b2 .nil aH (aa (gj rfl T.Ds (v:=V.ref t.rO) rfl) ai))) ⟨_,rfl,p,dx,_,rfl,C2.ob,rfl,p,dx,lw,t.rO,vM,row,ws,j2,rfl,C2,T.JP _,by rw[iI hd2];exact G.bz,λH3 C3 a3=>?_⟩;rw[iI hd2];have hp3:=hp2.JZ C2 a3;have a3:=a2.trans a3;have hd3:=(drop_cons hd2).2;refine aI (λZ' H'=>∃j,Z'=[some (.ref p),some (.ref d),some nw,some (.ref pa),some (.str R.aU),some (.str R.bz),some (jX R.goal),none]/\oq t H' p dx lw row ws j/\kL t H' pa R.sort R.signs/\fZ H H' p /\
  ws.drop j=if R.fold = "" then [] else [R.fold]) (cR 6 pY (cO (aB uH (pv 5) (gj rfl T.Dr (v:=V.ref t.v7) rfl) rfl) (aN (Sk T) hr.m rfl T.Ry T.F9.kp T.F9.b3 .nil aH (aa (pv 0) (aa (pv 1) (aa (pv 2) ai)))) bL)) ?_ ?_
 ·refine⟨_,rfl,_,_,rfl,.inr (T.Jp _),rfl,rfl,_,rfl,?_⟩;rw[show ([.str "push",.str "into"]:List V)=(["push","into"]:List Str).map V.str from rfl,tE];refine dI (λh=>?_) (λh=>?_)
  ·have h:jD R.bz:=by simpa using h
   obtain⟨g,eg,hg⟩:=G.goal h;rw[eg] at hd3 ⊢;have e:=iI hd3;have hgn:names[g]?=some (names.getD g ""):=by simp[hg]
   have hv:=hnum g _ hgn;have hin:isName (names.getD g "")=true:=hnm _ (u8 hgn);refine⟨_,rfl,_,rfl,_,rfl,p,dx,lw,d,nw,row,ws,j2+1,g,kvs,rfl,C3,a3 _ _ hd npd,by rw[e];exact hin,by rw[e];exact hv,λH4 C4 a4=>?_⟩;exact⟨_,rfl,C4,hp3.JZ C3 a4,a3.trans a4,(drop_cons hd3).2⟩
  ·have h:¬ jD R.bz:=by simpa using h
   rw[G.ET h] at hd3 ⊢;exact⟨_,rfl,C3,hp3,a3,hd3⟩
 rintro Z' H4 ⟨j4,rfl,C4,hp4,a4,hd4⟩;refine aI (λZ' H'=>∃j,Z'=[some (.ref p),some (.ref d),some nw,some (.ref pa),some (.str R.aU),some (.str R.bz),some (jX R.goal),some (.str R.fold)]/\oq t H' p dx lw row ws j/\kL t H' pa R.sort R.signs/\fZ H H' p /\
  ws.drop j=[]) (cR 7 pY (cO (eN (bx (pv 0) T.aZ T.LC (Co T) hr.m T.GA.b1 .nil aH)) (bB (pv 0) T.aZ T.KP (BQ T) hr.m T.EE.b2 .nil aH (aa (gj rfl T.CO (v:=V.ref t.rH) rfl) ai)) aA)) ?_ ?_
 ·refine⟨_,rfl,p,dx,_,rfl,C4.ob,rfl,p,dx,lw,row,ws,j4,rfl,C4,_,rfl,dI (λh=>?_) (λh=>?_)⟩
  ·have hf:R.fold ≠ "" := λz=>by rw[if_pos z] at hd4;have:=yI hd4;lia
   rw[if_neg hf] at hd4;refine⟨_,rfl,p,dx,_,rfl,C4.ob,rfl,p,dx,lw,t.rH,["open","close"],row,ws,j4,rfl,C4,T.G5 _,?_,λH5 C5 a5=>?_⟩
   ·rw[iI hd4];rcases G.fold with z|z|z
    ·exact absurd z hf
    ·rw[z];decide
    ·rw[z];decide
   ·rw[iI hd4];exact⟨_,rfl,C5,hp4.JZ C4 a5,a4.trans a5,(drop_cons hd4).2⟩
  ·have hf:R.fold = "" := by
    by_cases z:R.fold = ""
    ·exact z
    ·rw[if_neg z] at hd4;exact absurd (K0 hd4) h
   rw[if_pos hf] at hd4;rw[hf];exact⟨_,rfl,C4,hp4,a4,hd4⟩
 rintro Z' H5 ⟨j5,rfl,C5,hp5,a5,hd5⟩;have hj5:=yI hd5;refine au (aX (bB (pv 0) T.aZ T.D0 (vD T) hr.m T.zM.b2 .nil aH (aa (HH (bx (pv 0) T.aZ T.LC (Co T) hr.m T.GA.b1 .nil aH)) ai))) ⟨_,rfl,p,dx,_,rfl,C5.ob,rfl,⟨_,rfl,p,dx,_,rfl,C5.ob,rfl,p,dx,lw,row,ws,j5,rfl,C5,_,rfl,?_⟩⟩;rw[Z9 (by lia)];refine⟨_,rfl,?_⟩;refine ay (aP (dP T.Bf (Ez T) hr.m rfl T.yJ T.JO.b6 .nil aH (aa (pv 3) (aa (pv 4) (aa (pv 5) (aa (pv 6) (aa (pv 7) ai))))))) ⟨_,rfl,_,rfl,_,rfl,_,rfl,_,rfl,λx dx' nx ndx ne=>⟨x,dx',pa,R,rfl,af,rfl,?_⟩⟩;exact q x _ ⟨dx',pa,af,hp5.same (gp nx ndx)⟩ (a5.same (gp nx ndx))
inductive Item where
 |mode (n c:Str)
 |rule (R:bg)
def Item.words(names:List Str):Item->List Str
 |.mode n c=>["mode",n,c]
 |.rule R=>cP names R
def rowOf(names:List Str)(it:Item):Str:=Str.join ⟨#[32]⟩ (it.words names)
def jB(R:bg):List aE->List aE
 | []=>[]
 | [m]=>[{ m with rules:=m.rules++[R] }]
 |m::n::r=>m::jB R (n::r)
def stepI(ms:List aE):Item->List aE
 |.mode n c=>ms++[⟨n,c,[]⟩]
 |.rule R=>jB R ms
def foldI(its:List Item):List aE:=its.foldl stepI []
def xD:Item->List Str
 |.mode n _=>[n]
 |.rule _=>[]
def namesOf(its:List Item):List Str:=its.flatMap xD
structure gA(its:List Item):Prop where
 ne:its≠[]
 mode:∀(i:Nat) n c,its[i]?=some (.mode n c)->isName n=true/\isName c=true/\(namesOf (its.take i)).length<12/\n∉namesOf (its.take i)
 rule:∀(i:Nat) R,its[i]?=some (.rule R)->fF (namesOf its) R/\∃ms m,foldI (its.take i)=ms++[m]/\m.rules.length<12
theorem kH(R:bg)(m:aE):∀ms:List aE,jB R (ms++[m])=ms++[{ m with rules:=m.rules++[R] }]
 | []=>rfl
 | [x]=>rfl
 |x::y::r=>by show x::jB R (y::r++[m])=_;rw[kH R m (y::r)];rfl
theorem nv(R:bg):∀ms:List aE,(jB R ms).map (·.name)=ms.map (·.name)
 | []=>rfl
 | [x]=>rfl
 |x::y::r=>by show x.name::(jB R (y::r)).map (·.name)=_;rw[nv R (y::r)];rfl
def ae0{α:Type}{l:List α}{i:Nat}{x:α}(h:l[i]?=some x):l.take (i+1)=l.take i++[x]:=by rw[List.take_succ,h];rfl
def tw(its:List Item)(it:Item):foldI (its++[it])=stepI (foldI its) it:=by unfold foldI;rw[List.foldl_append];rfl
def kR(a b:List Item):namesOf (a++b)=namesOf a++namesOf b:=by unfold namesOf;rw[List.flatMap_append]
theorem jo:∀(its:List Item) (ms:List aE),(its.foldl stepI ms).map (·.name)=ms.map (·.name)++namesOf its
 | [],ms=>by simp[namesOf]
 |.mode n c::r,ms=>by rw[aj9,jo r];simp[stepI,namesOf,xD]
 |.rule R::r,ms=>by rw[aj9,jo r];simp[stepI,namesOf,xD,nv]
def tL(its:List Item):(foldI its).map (·.name)=namesOf its:=by unfold foldI;rw[jo];rfl
structure jW(x:Str):Prop where
 b:32∉x.cps.toList
 n:10∉x.cps.toList
 l:x.length<=202
def cz(x:Str):x.cps.toList.length=x.length:=by simp[Str.length]
def mF(h:isName x=true):jW x:=by
 unfold isName at h;simp only[aa9,aa8,List.all_eq_true] at h;obtain⟨⟨h1,h2⟩,h3⟩:=h;refine⟨λz=>?_,λz=>?_,by lia⟩
 ·exact absurd (h3 _ z) (by decide +kernel)
 ·exact absurd (h3 _ z) (by decide +kernel)
def za(h:z.length<=200)(h2:10∉z.cps.toList):jW (jR z):=by
 refine⟨λy=>?_,λy=>?_,?_⟩
 ·rw[iz] at y;rcases y0.mp y with y|y
  ·exact absurd y (by decide)
  ·unfold kW at y;obtain⟨c,_,e⟩:=aa2.mp y;split at e <;> lia
 ·rw[iz] at y;rcases y0.mp y with y|y
  ·exact absurd y (by decide)
  ·unfold kW at y;obtain⟨c,hc,e⟩:=aa2.mp y;split at e
   ·lia
   ·exact h2 (e ▸ hc)
 ·have:=ac1 List.length (iz z);rw[cz,x0,kW,d6,cz] at this;lia
def mq  (h:s∈sorts):jW s/\s ≠ "mode" := by rcases gB h with rfl|rfl|rfl|rfl|rfl|rfl|rfl <;> exact⟨⟨by decide +kernel,by decide +kernel,by decide +kernel⟩,by decide +kernel⟩
def CQ(G:wj s z):∀x∈cC s z,jW x:=by
 intro x hx;unfold cC at hx;split at hx
 ·rw[v6.mp hx];exact(mq G.sort).1
 ·rename_i hb;obtain⟨z1,z2,z3,z4⟩:=G.sg hb;rcases y0.mp hx with e|e
  ·rw[e];exact(mq G.sort).1
  ·rw[v6.mp e];exact za z2 z4
def sq(hn:∀n∈names,isName n=true)(G:fF names R):∀x∈cP names R,jW x:=by
 intro x hx;unfold cP at hx;simp only[aa1] at hx;rcases hx with hx|hx|hx|hx|hx
 ·exact CQ G.pat x hx
 ·split at hx
  ·rename_i h;rw[v6.mp hx];exact mF (G.col h)
  ·cases hx
 ·rw[v6.mp hx];have:=G.bz;simp only[y0,X1,ac3] at this;rcases this with e|e|e|e <;> rw[e] <;> exact⟨by decide +kernel,by decide +kernel,by decide +kernel⟩
 ·cases e:R.goal with
  |some g =>
   rw[e] at hx;rw[v6.mp hx];have hg:g<names.length:=by
    by_cases h:jD R.bz
    ·obtain⟨g',e',h'⟩:=G.goal h;rw[e] at e';cases e';exact h'
    ·rw[G.ET h] at e;cases e
   refine mF (hn _ ?_);have:names.getD g "" = names[g]:=by simp[hg]
   rw[this];exact ad9 hg
  |none=>rw[e] at hx;cases hx
 ·split at hx
  ·cases hx
  ·rw[v6.mp hx];rcases G.fold with e|e|e <;> rw[e] <;> exact⟨by decide +kernel,by decide +kernel,by decide +kernel⟩
def Bw:1<=(cC s z).length/\(cC s z).length<=2:=by
 unfold cC;split
 ·exact⟨by show 1<=1;decide,by show 1<=2;decide⟩
 ·exact⟨by show 1<=2;decide,by show 2<=2;decide⟩
def xy:1<=(cP names R).length/\(cP names R).length<=7:=by
 have h1:=Bw (s:=R.sort) (z:=R.signs);have h2:(if bE R.sort=true then [R.aU] else []).length<=1:=by split <;> simp
 have h3:=vA (names:=names) (g:=R.goal);have h4:(if R.fold = "" then [] else [R.fold]).length<=1:=by split <;> simp
 unfold cP;simp only[o0,x0,Y7];lia
def sA(G:gA its):∀n∈namesOf its,isName n=true:=by
 intro n hn;unfold namesOf at hn;obtain⟨it,h1,h2⟩:=List.mem_flatMap.mp hn;obtain⟨i,h3⟩:=ab0.mp h1;cases it with
 |mode a c =>
  have e:n=a:=v6.mp h2;rw[e];exact(G.mode i a c h3).1
 |rule R=>cases h2
def sP(G:gA its){i:Nat}(h:its[i]?=some it):(∀x∈it.words (namesOf its),jW x)/\it.words (namesOf its)≠[]/\(it.words (namesOf its)).length<=7:=by
 cases it with
 |mode n c =>
  obtain⟨h1,h2,_⟩:=G.mode i n c h;refine⟨λx hx=>?_,by simp[Item.words],by simp[Item.words]⟩;simp only[Item.words,y0,X1,ac3] at hx;rcases hx with e|e|e
  ·rw[e];exact⟨by decide +kernel,by decide +kernel,by decide +kernel⟩
  ·rw[e];exact mF h1
  ·rw[e];exact mF h2
 |rule R =>
  obtain⟨h1,_⟩:=G.rule i R h;have hl:=xy (names:=namesOf its) (R:=R);exact⟨sq (sA G) h1,λz=>by simp only[Item.words] at z;rw[z] at hl;simp at hl,hl.2⟩
theorem vc(hcd:d≠c):∀{ps:List (List Nat)},(∀p∈ps,d∉p)->d∉dZ c ps
 | [],_,z=>by cases z
 | [x],h,z=>h x (by simp) z
 |x::y::r,h,z=>by
  unfold dZ at z;rcases aa1.mp z with z|z
  ·exact h x (by simp) z
  ·rcases y0.mp z with z|z
   ·exact hcd z
   ·exact vc hcd (λp hp=>h p (D1 _ hp)) z
theorem pR:∀{ps:List (List Nat)},(∀p∈ps,p.length<=m)->(dZ c ps).length<=ps.length*(m+1)
 | [],_=>by simp[dZ]
 | [x],h=>by have:=h x (by simp);simp[dZ];lia
 |x::y::r,h=>by have h1:=h x (by simp);have h2:=pR (c:=c) (ps:=y::r) (λp hp=>h p (D1 _ hp));unfold dZ;rw[o0,x0,x0,Nat.succ_mul];lia
def kU(G:gA its){i:Nat}(h:its[i]?=some it):10∉(rowOf (namesOf its) it).cps.toList/\(rowOf (namesOf its) it).length<=1421/\PySem.Txt.split (rowOf (namesOf its) it) ⟨#[32]⟩=it.words (namesOf its):=by
 obtain⟨h1,h2,h3⟩:=sP G h;refine⟨?_,?_,je h2 λp hp=>(h1 p hp).b⟩
 ·unfold rowOf;rw[fK];refine vc (by decide) λp hp=>?_;obtain⟨x,hx,rfl⟩:=aa2.mp hp;exact(h1 x hx).n
 ·have h4:=pR (c:=32) (m:=202) (ps:=(it.words (namesOf its)).map λp=>p.cps.toList) (λp hp=>by obtain⟨x,hx,rfl⟩:=aa2.mp hp;rw[cz];exact(h1 x hx).l)
  rw[← fK,cz,d6] at h4;unfold rowOf;lia
def rowsOf(its:List Item):List Str:=its.map (rowOf (namesOf its))
def rP{i:Nat}(h:(rowsOf its)[i]?=some x):∃it,its[i]?=some it/\x=rowOf (namesOf its) it:=by unfold rowsOf at h;rw[B1] at h;obtain⟨it,h1,h2⟩:=Q1.mp h;exact⟨it,h1,h2.symm⟩
def zN(G:gA its):PySem.Txt.split (Str.join ⟨#[10]⟩ (rowsOf its)) ⟨#[10]⟩=rowsOf its:=by refine je (by unfold rowsOf;simpa using G.ne) λp hp=>?_;obtain⟨i,h⟩:=ab0.mp hp;obtain⟨it,h1,rfl⟩:=rP h;exact(kU G h1).1
def text_len(G:gA its)(hl:its.length<=200):(Str.join ⟨#[10]⟩ (rowsOf its)).length<=300000:=by
 have h4:=pR (c:=10) (m:=1421) (ps:=(rowsOf its).map λp=>p.cps.toList) (λp hp=>by obtain⟨x,hx,rfl⟩:=aa2.mp hp;obtain⟨i,h⟩:=ab0.mp hx;obtain⟨it,h1,rfl⟩:=rP h;rw[cz];exact(kU G h1).2.1)
 rw[← fK,cz,d6,rowsOf,d6] at h4;unfold rowsOf;lia
structure Nums(names:List Str)(kvs:List (Key×V)):Prop where
 has:numsOf names kvs
 not:∀n,n∉names->fu kvs (.inr n)=none
 len:kvs.length=names.length
def Nums.nil:Nums [] []:=⟨λg n h=>by simp at h,λ_ _=>rfl,rfl⟩
def Nums.put(N:Nums names kvs)(h:n∉names):Nums (names++[n]) (putK kvs (.inr n) (.int names.length)):=by
 refine⟨λg m e=>?_,λm hm=>?_,?_⟩
 ·rw[xQ];rcases dB e with e|⟨e1,e2⟩
  ·have:m≠n:=λz=>h (z ▸ u8 e);rw[if_neg (λz=>this (ak8 z))];exact N.has g m e
  ·rw[e2,if_pos rfl,e1]
 ·rw[xQ,if_neg (λz=>hm (by rw[ak8 z];simp))];exact N.not m λz=>hm (aa7 _ z)
 ·unfold putK;rw[ic,N.not n h,if_neg (by decide),o0,o0,N.len];rfl
inductive So(vs:List V)(H:Hp)(Q:VK)(_:XK):Prop|mk(a:Addr)(its:List Item)(_:vs=[.ref a])(_:H a=some (.lst ((rowsOf its).map V.str)))(_:gA its)(_:its.length<=200)(_:∀d kvs H',H' d=some (.dK kvs)->Nums (namesOf its) kvs->ak H H'->Q (.ref d) H')
def r9   (G:fF names R):∃x r,cP names R=x::r/\x ≠ "mode" := by
 unfold cP cC;split
 ·exact⟨R.sort,_,rfl,(mq G.pat.sort).2⟩
 ·exact⟨R.sort,_,rfl,(mq G.pat.sort).2⟩
def Tn (T:Txt K mg t):bw P w K mg base dM 1 t.Ij t.Nb ["rows"] So:=by
 refine T.Fx.ok vQ λvs H Q E h=>?_;obtain⟨a,its,rfl,ha,G,hlen,q⟩:=h;walk_at "i";have sp1:(" " : Str)=⟨#[32]⟩:=by decide +kernel
 refine au (cR 1 vQ zk) λd hd=>?_;refine aI (λZ' H'=>∃x y kvs,Z'=[some (.ref a),some (.ref d),x,y]/\H' d=some (.dK kvs)/\Nums (namesOf its) kvs/\ak H H') (gk ab3 rfl (gH (pv 0)) (uc 2 vQ) aq) ?_ ?_
 ·refine⟨_,rfl,a,rfl,⟨_,bq.of (by rw[aj (av ha hd)];exact ha)⟩,jV (xs:=(rowsOf its).map V.str) (λi Z' H'=>∃x y kvs,Z'=[some (.ref a),some (.ref d),x,y]/\H' d=some (.dK kvs)/\Nums (namesOf (its.take i)) kvs/\ak H H') ⟨_,_,[],rfl,af,Nums.nil,ak.upd hd⟩ ?_ ?_ ?_⟩
  ·rintro i Z' H' _ ⟨x,y,kvs,rfl,h1,h2,h3⟩;exact bq.of (h3 _ _ ha)
  ·rintro i xv Z' H1 hx ⟨x,y,kvs,rfl,h1,h2,s1⟩;rw[B1] at hx;obtain⟨row,hrow,rfl⟩:=Q1.mp hx;obtain⟨it,hit,rfl⟩:=rP hrow;obtain⟨g1,g2,g3⟩:=kU G hit;refine au (cR 3 vQ (dF ac4 ae6 ai8 lH (pv 2) (aa aA ai))) ⟨_,rfl,rfl,_,_,rfl,rfl,by decide,b7 (by lia),λlw hlw=>?_⟩;rw[sp1,g3];have s2:ak H1 (upd H1 lw (.lst ((it.words (namesOf its)).map V.str))):=ak.upd hlw;have hw:upd H1 lw (.lst ((it.words (namesOf its)).map V.str)) lw=some (.lst ((it.words (namesOf its)).map V.str)):=af;have hd2:=s2 _ _ h1;generalize upd H1 lw (.lst ((it.words (namesOf its)).map V.str))=H2 at s2 hw hd2;cases it with
   |mode n c =>
    obtain⟨m1,m2,m3,m4⟩:=G.mode i n c hit;refine ay (aW (PW.pt (jS (aB bN (aY aQ (pv 3) ao (λ_ _=>rfl)) aA (aD _)) (i0 (aB j7 (aM aS (by rfl) T.bW (by decide +kernel) (aa (pv 3) ai)) ao (aD _))))) aq aq) ⟨_,rfl,_,_,_,_,rfl,rfl,bq.of hw,aO (j:=0) rfl,rfl,_,rfl,dI (λ_=>?_) (λh=>absurd rfl h)⟩;refine⟨_,rfl,_,_,rfl,.inl (bq.of hw),_,_,rfl,rfl,_,rfl,dI (λ_=>?_) (λh=>absurd (by simp[Item.words]) h)⟩;refine ay (B5 (jE hr) (pv 1) (aY aQ (pv 3) ao (λ_ _=>rfl)) (aM Dh (by rfl) T.bW (by decide +kernel) (aa (pv 1) ai)) rfl) ⟨_,rfl,d,kvs,rfl,hd2,_,rfl,_,rfl,_,_,_,_,rfl,rfl,bq.of hw,aO (j:=1) rfl,d,_,rfl,Dt.k (k:=.inr n) hd2 ?_,?_⟩
    ·rw[h2.len];exact eT (by lia)
    ·refine⟨_,_,_,rfl,af,?_,λb o hb=>?_⟩
     ·rw[ae0 hit,kR,h2.len];exact h2.put m4
     ·rw[aj (av hb hd)];exact s2 _ _ (s1 _ _ hb)
   |rule R =>
    obtain⟨r1,_⟩:=G.rule i R hit;obtain⟨fw,fr,e1,e2⟩:=r9 r1;have hw':H2 lw=some (.lst (V.str fw::fr.map V.str)):=by rw[hw];simp only[Item.words];rw[e1];rfl
    refine ay (aW (PW.pt (jS (aB bN (aY aQ (pv 3) ao (λ_ _=>rfl)) aA (aD _)) (i0 (aB j7 (aM aS (by rfl) T.bW (by decide +kernel) (aa (pv 3) ai)) ao (aD _))))) aq aq) ⟨_,rfl,_,_,_,_,rfl,rfl,bq.of hw',aO (j:=0) rfl,rfl,_,rfl,dI (λh=>absurd (V.str.inj h) e2) (λ_=>bu ?_)⟩;refine⟨_,_,kvs,rfl,hd2,?_,s1.trans s2⟩;rw[ae0 hit,kR];show Nums (namesOf (its.take i)++[]) kvs;rw[ab2];exact h2
  ·rintro Z' H' ⟨x,y,kvs,rfl,h1,h2,h3⟩;refine⟨x,y,kvs,rfl,h1,?_,h3⟩;rw[d6,rowsOf,d6,ab6] at h2;exact h2
 rintro Z' H' ⟨x,y,kvs,rfl,h1,h2,h3⟩;exact ay (aP (pv 1)) ⟨_,rfl,q d kvs H' h1 h2 h3⟩
inductive Jj(t:dU)(vs:List V)(H:Hp)(Q:VK)(_:XK):Prop|mk(p dx lw lm:Addr)(row:Int)(n c:Str)(as ls:List Addr)(ms:List aE)(_:vs=[.ref p,.ref lm])(_:oq t H p dx lw row ["mode",n,c] 0)(_:isName n=true)(_:isName c=true)(_:H lm=some (.lst (as.map V.ref)))(_:cE t H as ls ms)(_:ms.length<12)(_:n∉ms.map (·.name))(_:∀m l2 dm H',H' m=some (.ins t.dX dm (mf ⟨n,c,[]⟩ l2))->H' l2=some (.lst [])->H l2=none->fZ H H' p->Q (.ref m) H')
def KO(h:H m=some (.ins t.dX dm (mf M l)))(C:oq t H p dx lw row ws i):m≠p:=cy h C.ob λq=>by
 injection q with _ _ q
 unfold mf cf at q;simp at q
def Tg (T:Txt K mg t):bw P w K mg base dM 5 t.Hy t.L7 ["cursor","modes"] (Jj t):=by
 refine T.EO.ok zW λvs H Q E h=>?_;obtain⟨p,dx,lw,lm,row,n,c,as,ls,ms,rfl,C,hn,hc,hlm,hM,hl12,hnn,q⟩:=h;walk_at "i";have nlp:lm≠p:=cy hlm C.ob (by intro z;cases z);refine au (aX (bB (pv 0) T.aZ T.D0 (vD T) hr.m T.zM.b2 .nil aH (aa (cB ie (aM aS (by rfl) T.bW (by decide +kernel) (aa (pv 1) ai)) (ia rfl T.tZ) (aD _)) ai))) ⟨_,rfl,p,dx,_,rfl,C.ob,rfl,_,rfl,_,_,rfl,.inl (bq.of hlm),_,_,rfl,rfl,?_⟩;dsimp only;rw[ab8 (by rw[d6,hM.la];lia)];refine⟨_,rfl,?_⟩;refine au (aX (bB (pv 0) T.aZ T.KP (BQ T) hr.m T.EE.b2 .nil aH (aa (br (aa aA ai)) ai))) ⟨_,rfl,p,dx,_,rfl,C.ob,rfl,by show 1<=sizeLine;decide,λpt hpt=>?_⟩;have s1:ak H (upd H pt (.tup [.str "mode"])):=ak.upd hpt;have C1:=C.same s1;refine⟨p,dx,lw,pt,["mode"],row,_,0,rfl,C1,fB.of af,v6.mpr rfl,λH2 C2 a2=>?_⟩;have a2:=s1.JZ a2;have hlm2:H2 lm=some (.lst (as.map V.ref)):=a2 _ _ hlm nlp;refine au (@aX _ _ _ _ (@bB _ _ _ _ _ _ _ _ _ _ _ _ _ _ _ _ _ _ _ _ (pv 0) T.aZ T.D0 (vD T) hr.m T.zM.b2 .nil aH (aa (@cB _ _ _ _ _ _ _ _ oZ (@bx _ _ _ _ _ _ _ _ _ _ _ _ _ _ _ _ _ (pv 0) T.aZ T.AI (tR T) hr.m T.yb.b1 .nil aH (by left)) (@i6 _ (az EL) _ ["cursor","modes","name","colour"] _ _ ("mode") _ _ [] _ _ (by walk_at "ck") (@gH _ _ _ _ (pv 1)) (λ_ _ _ _=>by exact(@mJ _ K _ _ _ _ (pv 0) rfl (by left))) (by left) (by left) (by left) (by left)) rfl) ai (by left)) (by left) (by left) (by left)) (by left)) ?_;refine⟨_,rfl,p,dx,_,rfl,C2.ob,rfl,⟨_,rfl,p,dx,_,rfl,C2.ob,rfl,p,dx,lw,row,_,0+1,rfl,C2,?_⟩⟩;refine⟨_,rfl,lm,rfl,⟨_,bq.of hlm2⟩,ja (xs:=as.map V.ref) (λi ys H'=>H'=H2/\ys=((ms.map (·.name)).take i).map V.str) ⟨rfl,rfl⟩ (eT (by rw[d6,hM.la];lia)) ?_ ?_ ?_⟩
 ·rintro i ys H' _ ⟨rfl,_⟩;exact bq.of hlm2
 ·rintro i xv ys H' hx hyl ⟨rfl,rfl⟩;rw[B1] at hx;obtain⟨a,ha,rfl⟩:=Q1.mp hx;have hi:i<as.length:=(i5.mp ha).1;obtain⟨m,hm⟩:∃m,ms[i]?=some m:=⟨ms[i]'(by rw[← hM.la];exact hi),i4 _⟩
  obtain⟨l,hll⟩:∃l,ls[i]?=some l:=⟨ls[i]'(by rw[hM.ll,← hM.la];exact hi),i4 _⟩
  obtain⟨dm,rs,o1,o2,o3⟩:=hM.ob i a l m ha hll hm;refine⟨_,rfl,a,t.dX,dm,_,_,rfl,a2 _ _ o1 (KO o1 C),T.fR,T.jA,rfl,?_⟩;refine d7 (by rw[d6];exact hi) hyl ⟨rfl,?_⟩;rw[ae0 (l:=ms.map (·.name)) (x:=m.name) (by rw[B1,hm];rfl),P2];rfl
 ·rintro ys H' hyl ⟨rfl,rfl⟩ D hD;have hall:(ms.map (·.name)).take (as.map V.ref).length=ms.map (·.name):=ab4 (by rw[d6,d6,hM.la];lia);rw[hall];have s3:ak H' (upd H' D (.lst ((ms.map (·.name)).map V.str))):=ak.upd hD;have C3:=C2.same s3;refine⟨D,_,rfl,.inl (bq.of af),rfl,vh,?_⟩;rw[if_pos rfl,tE,Z9 (p:=pk ["mode",n,c] (0+1)∈ms.map (·.name)) hnn];refine⟨_,rfl,?_⟩;refine au (cR 2 zW (bx (pv 0) T.aZ T.Le (BF T) hr.m T.Hf.b1 .nil aH)) ⟨_,rfl,p,dx,_,rfl,C3.ob,rfl,p,dx,lw,row,_,0+1,rfl,C3,hn,λH4 C4 a4=>?_⟩;refine au (cR 3 zW (bx (pv 0) T.aZ T.Le (BF T) hr.m T.Hf.b1 .nil aH)) ⟨_,rfl,p,dx,_,rfl,C4.ob,rfl,p,dx,lw,row,_,0+1+1,rfl,C4,hc,λH5 C5 a5=>?_⟩;have a5:=(a2.same s3).trans (a4.trans a5);refine au (aX (bB (pv 0) T.aZ T.D0 (vD T) hr.m T.zM.b2 .nil aH (aa (HH (bx (pv 0) T.aZ T.LC (Co T) hr.m T.GA.b1 .nil aH)) ai))) ⟨_,rfl,p,dx,_,rfl,C5.ob,rfl,⟨_,rfl,p,dx,_,rfl,C5.ob,rfl,p,dx,lw,row,_,0+1+1+1,rfl,C5,_,rfl,?_⟩⟩;refine⟨_,rfl,?_⟩;refine ay (aP (dP T.B3 (GW T) hr.m rfl T.yP T.Eu.b4 .nil aH (aa (pv 2) (aa (pv 3) (aa (bD ai) ai))))) ⟨_,rfl,_,rfl,by show 0<=sizeLine;decide,λl1 hl1=>?_⟩;intro x dm nx ndm ne;have nl1:l1≠x:=av af nx;have nl2:l1≠dm:=av af ndm;refine⟨x,dm,l1,n,c,[],rfl,af,by rw[aj nl1,aj nl2];exact af,λl2 H6 h1 h2 h3 h4=>⟨rfl,?_⟩⟩;have key:∀b o,H5 b=some o->b≠x/\b≠dm/\b≠l1:=λb o hb=>by
   have e1:b≠l1:=av hb hl1;have hb':upd H5 l1 (.lst []) b=some o:=by rw[aj e1];exact hb
   exact⟨av hb' nx,av hb' ndm,e1⟩
  have hadv:∀b o,H5 b=some o->H6 b=some o:=λb o hb=>by obtain⟨k1,k2,k3⟩:=key b o hb;refine h4 b o ?_ k1;rw[aj k1,aj k2,aj k3];exact hb
  refine q x l2 dm H6 h2 h3 ?_ λb o hb nb=>hadv b o (a5 b o hb nb);cases e:H l2 with
  |none=>rfl
  |some o =>
   by_cases z:l2=p
   ·have h5:=hadv p _ C5.ob;rw[z,h5] at h3;cases h3
   ·have h5:=a5 _ _ e z;obtain⟨k1,k2,k3⟩:=key _ _ h5;rw[aj k1,aj k2,aj k3,h5] at h1;cases h1
inductive Se(t:dU)(vs:List V)(H:Hp)(Q:VK)(_:XK):Prop|mk(its:List Item)(_:vs=[.str (Str.join ⟨#[10]⟩ (rowsOf its))])(_:gA its)(_:its.length<=200)(_:∀a H',IsRules t H' a (foldI its)->ak H H'->Q (.ref a) H')
def uE(its:List Item):(foldI its).length=(namesOf its).length:=by rw[← tL,d6]
def fZ.fresh(s:ak H H1)(h:H p=none)(a:fZ H1 H2 p):ak H H2:=λb o hb=>a b o (s b o hb) (av hb h)
def dG.pP(h:dG t H r R)(hl:H l=some (.lst xs)):dG t (upd H l o) r R:=by obtain⟨dx,p,x,⟨dp,y⟩⟩:=h;exact⟨dx,p,by rw[aj (cy x hl (by intro z;cases z))];exact x,dp,by rw[aj (cy y hl (by intro z;cases z))];exact y⟩
def cE.pP(h:cE t H as ls ms)(hl:H l=some (.lst xs))(hn:l∉ls):cE t (upd H l o) as ls ms :=
 ⟨h.la,h.ll,h.nd,λi a l' m h1 h2 h3=>by obtain⟨dx,rs,x,y,z⟩:=h.ob i a l' m h1 h2 h3;exact⟨dx,rs,by rw[aj (cy x hl (by intro z;cases z))];exact x,by rw[aj (show l'≠l from λe=>hn (e ▸ u8 h2))];exact y,z.mono λ_ _ r=>r.pP hl⟩⟩
def cE.alive(h:cE t H as ls ms)(hl:l∈ls):∃xs,H l=some (.lst xs):=by obtain⟨i,e⟩:=ab0.mp hl;have hi:=(i5.mp e).1;obtain⟨dx,rs,x,y,z⟩:=h.ob i _ l _ (i4 (by rw[h.la,← h.ll];exact hi)) e (i4 (by rw[← h.ll];exact hi));exact⟨_,y⟩
def cE.WM(h:cE t H as ls ms)(hm:H m=some (.ins t.dX dm (mf ⟨n,c,[]⟩ l)))(hl:H l=some (.lst []))(hn:l∉ls):cE t H (as++[m]) (ls++[l]) (ms++[⟨n,c,[]⟩]):=by
 refine⟨by simp[h.la],by simp[h.ll],?_,λi a l' m' h1 h2 h3=>?_⟩
 ·refine ad2.mpr ⟨h.nd,by simp,λa ha b hb=>?_⟩;rw[v6.mp hb];exact λe=>hn (e ▸ ha)
 ·have e1:=h.la;have e2:=h.ll;rcases dB h1 with h1|⟨i1,rfl⟩
  ·have:=(i5.mp h1).1;rcases dB h2 with h2|⟨i2,rfl⟩
   ·rcases dB h3 with h3|⟨i3,rfl⟩
    ·exact h.ob i a l' m' h1 h2 h3
    ·lia
   ·lia
  ·rcases dB h2 with h2|⟨i2,rfl⟩
   ·have:=(i5.mp h2).1;lia
   ·rcases dB h3 with h3|⟨i3,rfl⟩
    ·have:=(i5.mp h3).1;lia
    ·exact⟨dm,[],hm,hl,bO.nil⟩
def HG{l:List Addr}(h:l.Nodup){i j:Nat}(h1:l[i]?=some a)(h2:l[j]?=some a):i=j:=by obtain⟨i1,e1⟩:=i5.mp h1;obtain⟨j1,e2⟩:=i5.mp h2;exact(List.getElem_inj h).mp (e1.trans e2.symm)
def cE.Xo(h:cE t H as ls (ms++[m]))(hl:ls[ms.length]?=some l)(hH:H l=some (.lst (rs.map V.ref)))(hA:bO (dG t H) rs m.rules)(hr:dG t H r R) :
  cE t (upd H l (.lst (rs.map V.ref++[.ref r]))) as ls (ms++[{ m with rules:=m.rules++[R] }]):=by
 refine⟨by rw[h.la];simp,by rw[h.ll];simp,h.nd,λi a l' m' h1 h2 h3=>?_⟩;rcases dB h3 with h3|⟨i3,rfl⟩
 ·have hi:=(i5.mp h3).1;obtain⟨dx,rs',x,y,z⟩:=h.ob i a l' m' h1 h2 (by rw[Y9 hi];exact h3);refine⟨dx,rs',by rw[aj (cy x hH (by intro z;cases z))];exact x,?_,z.mono λ_ _ r=>r.pP hH⟩;rw[aj (λe=>?_)]
  ·exact y
  ·subst e;have:=HG h.nd h2 hl;lia
 ·subst i3;rw[hl] at h2;cases h2;obtain⟨dx,rs',x,y,z⟩:=h.ob _ a l m h1 hl (by simp);refine⟨dx,rs++[r],by rw[aj (cy x hH (by intro z;cases z))];exact x,by rw[af,P2];rfl,?_⟩;exact bO.snoc (hA.mono λ_ _ r=>r.pP hH) (hr.pP hH)
def uM{α β:Type}{f:α->β}{as:List α}{k:Nat}{a:α}(hl:as.length=k+1)(h:as[k]?=some a):uv (as.map f) (-1)=some (f a):=by
 unfold uv DS;rw[d6,hl];have e:((-1:Int)+((k+1:Nat):Int)).toNat=k:=by lia
 first
  | (rw[if_neg (by lia),if_pos (by lia)];simp only[Option.bind_some];rw[show (((k+1:Nat):Int)+(-1:Int)).toNat=k by lia,B1,h];rfl)
  | (rw[if_neg (by lia),if_pos (by lia)];simp only[Option.bind_some];rw[e,B1,h];rfl)
def Ec (T:Txt K mg t):bw P w K mg base dM 7 t.ER t.Od ["text"] (Se t):=by
 refine T.xB.ok kC λvs H Q E h=>?_;obtain⟨its,rfl,G,hlen,q⟩:=h;walk_at "i";have nl1:("\n" : Str)=⟨#[10]⟩:=by decide +kernel
 refine au (cR 1 kC (dF ac4 ae6 ai8 lH (pv 0) (aa aA ai))) ⟨_,rfl,rfl,_,_,rfl,rfl,by decide,b7 (by have:=text_len G hlen;lia),λlr hlr=>?_⟩;rw[nl1,zN G];have s1:ak H (upd H lr (.lst ((rowsOf its).map V.str))):=ak.upd hlr;have hr1:upd H lr (.lst ((rowsOf its).map V.str)) lr=some (.lst ((rowsOf its).map V.str)):=af;generalize upd H lr (.lst ((rowsOf its).map V.str))=H1 at s1 hr1;refine au (cR 2 kC (aN (Tn T) hr.m rfl T.Sg T.Fx.kp T.Fx.b1 .nil aH (aa (pv 1) ai))) ⟨_,rfl,lr,its,rfl,hr1,G,hlen,λd kvs H2 hd2 hN s2=>?_⟩;have hr2:=s2 _ _ hr1;have s2:=s1.trans s2;refine au (cR 3 kC (bD ai)) ⟨by show 0<=sizeLine;decide,λlm hlm=>?_⟩;have s3:ak H2 (upd H2 lm (.lst [])):=ak.upd hlm;have hm3:upd H2 lm (.lst []) lm=some (.lst []):=af;generalize upd H2 lm (.lst [])=H3 at s3 hm3;have hlm0:H lm=none:=s2.free hlm;have hr3:=s3 _ _ hr2;have hd3:=s3 _ _ hd2;have s3:=s2.trans s3;refine au (cR 4 kC (bD ai)) ⟨by show 0<=sizeLine;decide,λnw hnw=>?_⟩;have s4:ak H3 (upd H3 nw (.lst [])):=ak.upd hnw;have hw4:upd H3 nw (.lst []) nw=some (.lst []):=af;generalize upd H3 nw (.lst [])=H4 at s4 hw4;have hr4:=s4 _ _ hr3;have hd4:=s4 _ _ hd3;have hm4:=s4 _ _ hm3;have nmw:lm≠nw:=av hm3 hnw;have s4:=s3.trans s4;have nlr:lr≠lm:=av hr2 hlm;have nlrw:lr≠nw:=av hr3 hnw;refine aI (λZ' H'=>∃x5 x6 x7 x8 as ls,Z'=[some (.str (Str.join ⟨#[10]⟩ (rowsOf its))),some (.ref lr),some (.ref d),some (.ref lm),some (.ref nw),x5,x6,x7,x8]/\H' lm=some (.lst (as.map V.ref))/\H' nw=some (.lst [])/\cE t H' as ls (foldI its)/\ak H H') (gk ab3 rfl (BI rfl T.qK (aa (pv 1) ai)) (rR rfl (dz (uc 5 kC) (dz (uc 6 kC) oO))) aq) ?_ ?_
 ·refine⟨_,rfl,lr,_,rfl,bq.of hr4,uS (xs:=(rowsOf its).map V.str) (λi Z' H'=>∃x5 x6 x7 x8 as ls,Z'=[some (.str (Str.join ⟨#[10]⟩ (rowsOf its))),some (.ref lr),some (.ref d),some (.ref lm),some (.ref nw),x5,x6,x7,x8]/\H' lm=some (.lst (as.map V.ref))/\H' nw=some (.lst [])/\H' lr=some (.lst ((rowsOf its).map V.str))/\H' d=some (.dK kvs)/\cE t H' as ls (foldI (its.take i))/\lm∉ls/\nw∉ls/\lr∉ls/\(∀l∈ls,H l=none)/\ak H H') ?_ ?_ ?_ ?_⟩
  ·exact⟨_,_,_,_,[],[],rfl,hm4,hw4,hr4,hd4,⟨rfl,rfl,List.nodup_nil,λi a l m h=>by simp at h⟩,by simp,by simp,by simp,by simp,s4⟩
  ·rintro i Z' H' _ ⟨x5,x6,x7,x8,as,ls,rfl,h1,h2,h3,_⟩;exact bq.of h3
  ·rintro i xv pt Z' H5 hx hpt ⟨x5,x6,x7,x8,as,ls,rfl,hm5,hw5,hr5,hd5,hM,nl1',nl2',nl3',hfr,s5⟩;rw[B1] at hx;obtain⟨row,hrow,rfl⟩:=Q1.mp hx;obtain⟨it,hit,rfl⟩:=rP hrow;obtain⟨g1,g2,g3⟩:=kU G hit;obtain⟨w1,w2,w3⟩:=sP G hit;have s6:ak H5 (upd H5 pt (.tup [.int i,.str (rowOf (namesOf its) it)])):=ak.upd hpt;refine⟨pt,[.int i,.str (rowOf (namesOf its) it)],rfl,fB.of af,rfl,_,_,rfl,_,_,rfl,rfl,?_⟩;generalize upd H5 pt (.tup [.int i,.str (rowOf (namesOf its) it)])=H6 at s6;refine au (cR 7 kC (dP T.Df (UL T) hr.m rfl T.zG T.Ux.b3 .nil aH (aa (pv 5) (aa (pv 6) ai)))) ⟨_,rfl,_,rfl,λp dx np ndx ne=>⟨p,dx,i,_,rfl,af,by lia,by rw[g3];lia,λlw H7 hlw C7 a7=>⟨rfl,?_⟩⟩⟩;rw[g3] at C7;have s7:ak H5 H7:=λb o hb=>a7 b o (by rw[aj (av (s6 _ _ hb) np),aj (av (s6 _ _ hb) ndx)];exact s6 _ _ hb) (av (s6 _ _ hb) np);have hp5:H5 p=none:=s6.free np;have hm7:=s7 _ _ hm5;have hM7:=hM.same s7;have hml:as.length=(foldI (its.take i)).length:=hM.la;cases it with
   |mode n c =>
    obtain⟨m1,m2,m3,m4⟩:=G.mode i n c hit;refine ay (aW (PW.pt (iX (gQ (fY (pv 3) (λ_=>rfl))) (gI (aB bN (bx (pv 7) T.aZ T.AI (tR T) hr.m T.yb.b1 .nil aH) aA (aD _))))) aq aq) ⟨_,rfl,_,.inl ⟨_,bq.of hm7,rfl⟩,?_⟩;refine(λhb=>Wq (λ_=>kX hb) (λ_=>⟨_,rfl,p,dx,_,rfl,C7.ob,rfl,p,dx,lw,i,_,0,rfl,C7,rfl,_,rfl,dI (λ_=>hb) (λh=>absurd rfl h)⟩)) ?_;refine ay (aX (dF Y8 Y6 aa0 bZ (pv 3) (aa (aN (Tg T) hr.m rfl T.SW T.EO.kp T.EO.b2 .nil aH (aa (pv 7) (aa (pv 3) ai))) ai))) ⟨_,rfl,.inl ⟨rfl,_,bq.of hm7⟩,_,rfl,_,rfl,p,dx,lw,lm,i,n,c,as,ls,_,rfl,C7,m1,m2,hm7,hM7,by rw[uE];exact m3,by rw[tL];exact m4,λm l2 dm H8 e1 e2 e3 a8=>?_⟩;have s8:ak H5 H8:=fZ.fresh s7 hp5 a8;have hm8:=s8 _ _ hm5;have n1:lm≠l2:=av hm7 e3;have hn2:l2∉ls:=λz=>by obtain⟨xs,hx⟩:=hM7.alive z;rw[hx] at e3;cases e3
    refine⟨lm,_,_,rfl,rfl,hm8,eT (by rw[d6,hml,uE];lia),?_⟩;refine⟨_,_,_,_,as++[m],ls++[l2],rfl,by rw[af,P2];rfl,?_,?_,?_,?_,?_,?_,?_,?_,?_⟩
    ·rw[aj (aa3 nmw)];exact s8 _ _ hw5
    ·rw[aj nlr];exact s8 _ _ hr5
    ·rw[aj (cy hd5 hm5 (by intro z;cases z))];exact s8 _ _ hd5
    ·rw[ae0 hit,tw];exact cE.WM ((hM.same s8).pP hm8 nl1') (by rw[aj (cy e1 hm8 (by intro z;cases z))];exact e1) (by rw[aj (aa3 n1)];exact e2) hn2
    ·intro z;rcases aa1.mp z with z|z
     ·exact nl1' z
     ·exact n1 (v6.mp z)
    ·intro z;rcases aa1.mp z with z|z
     ·exact nl2' z
     ·exact av (s7 _ _ hw5) e3 (v6.mp z)
    ·intro z;rcases aa1.mp z with z|z
     ·exact nl3' z
     ·exact av (s7 _ _ hr5) e3 (v6.mp z)
    ·intro l hl;rcases aa1.mp hl with z|z
     ·exact hfr l z
     ·rw[v6.mp z];exact(s5.trans s7).free e3
    ·intro b o hb;rw[aj (av hb hlm0)];exact s8 _ _ (s5 _ _ hb)
   |rule R =>
    obtain⟨r1,ms,m,hms,hm12⟩:=G.rule i R hit;obtain⟨fw,fr,f1,f2⟩:=r9 r1;rw[hms] at hM hM7 hml;have hk:as.length=ms.length+1:=by rw[hml];simp
    obtain⟨a,ha⟩:∃a,as[ms.length]?=some a:=⟨as[ms.length]'(by lia),i4 _⟩
    obtain⟨l,hl⟩:∃l,ls[ms.length]?=some l:=⟨ls[ms.length]'(by rw[hM.ll];simp),i4 _⟩
    obtain⟨dm,rs,o1,o2,o3⟩:=hM.ob ms.length a l m ha hl (by simp);have o1':=s7 _ _ o1;have o2':=s7 _ _ o2;have hrl:rs.length<12:=by rw[o3.1];exact hm12
    have hl0:H l=none:=hfr l (u8 hl);have hnl:l∈ls:=u8 hl;refine ay (aW (PW.pt (iX (gQ (fY (pv 3) (λ_=>rfl))) (gI (aB bN (bx (pv 7) T.aZ T.AI (tR T) hr.m T.yb.b1 .nil aH) aA (aD _))))) aq aq) ⟨_,rfl,_,.inl ⟨_,bq.of hm7,rfl⟩,Wq (λh=>?_) (λ_=>?_)⟩
    ·exfalso;have:as≠[]:=λz=>by rw[z] at hk;simp at hk
     cases as with
     |nil=>exact this rfl
     |cons _ _=>simp at h
    refine⟨_,rfl,p,dx,_,rfl,C7.ob,rfl,p,dx,lw,i,_,0,rfl,C7,rfl,_,rfl,dI (λh=>?_) (λ_=>?_)⟩
    ·exfalso;refine f2 ?_;have h:=V.str.inj h;simp only[Item.words,f1] at h;exact h
    refine au (cR 8 kC (aJ (aY aQ (pv 3) (jJ gW ao) (λ_ _=>rfl)) rfl)) ⟨_,rfl,_,rfl,_,_,_,_,rfl,rfl,bq.of hm7,uM hk ha,a,t.dX,dm,_,_,rfl,o1',T.fR,T.fU,rfl,?_⟩;refine au (aX (bB (pv 7) T.aZ T.D0 (vD T) hr.m T.zM.b2 .nil aH (aa (cB ie (aM aS (by rfl) T.bW (by decide +kernel) (aa (pv 8) ai)) (ia rfl T.sj) (aD _)) ai))) ⟨_,rfl,p,dx,_,rfl,C7.ob,rfl,_,rfl,_,_,rfl,.inl (bq.of o2'),_,_,rfl,rfl,?_⟩;dsimp only;rw[ab8 (by rw[d6];lia)];refine⟨_,rfl,?_⟩;refine ay (aX (dF Y8 Y6 aa0 bZ (pv 8) (aa (aN (RT T) hr.m rfl T.P4 T.IL.kp T.IL.b3 .nil aH (aa (pv 7) (aa (pv 2) (aa (pv 4) ai)))) ai))) ⟨_,rfl,.inl ⟨rfl,_,bq.of o2'⟩,_,rfl,_,rfl,_,rfl,p,dx,lw,d,_,i,_,kvs,namesOf its,R,rfl,C7,rfl,s7 _ _ hd5,hN.has,sA G,r1,λr H8 hr8 a8=>?_⟩;have s8:ak H5 H8:=fZ.fresh s7 hp5 a8;have o2'':=s8 _ _ o2;refine⟨l,_,_,rfl,rfl,o2'',eT (by rw[d6];lia),?_⟩;refine⟨_,_,_,_,as,ls,rfl,?_,?_,?_,?_,?_,nl1',nl2',nl3',hfr,?_⟩
    ·rw[aj (show lm≠l from λz=>nl1' (z ▸ hnl))];exact s8 _ _ hm5
    ·rw[aj (show nw≠l from λz=>nl2' (z ▸ hnl))];exact s8 _ _ hw5
    ·rw[aj (show lr≠l from λz=>nl3' (z ▸ hnl))];exact s8 _ _ hr5
    ·rw[aj (cy hd5 o2 (by intro z;cases z))];exact s8 _ _ hd5
    ·rw[ae0 hit,tw,hms];show cE _ _ _ _ (jB R (ms++[m]));rw[kH];exact(hM.same s8).Xo hl o2'' (o3.mono λ_ _ r=>r.same s8) hr8
    ·intro b o hb;rw[aj (av hb hl0)];exact s8 _ _ (s5 _ _ hb)
  ·rintro Z' H' ⟨x5,x6,x7,x8,as,ls,rfl,h1,h2,h3,h4,h5,_,_,_,_,h6⟩;rw[d6,rowsOf,d6,ab6] at h5;exact⟨_,_,_,_,as,ls,rfl,h1,h2,h5,h6⟩
 rintro Z' H' ⟨x5,x6,x7,x8,as,ls,rfl,h1,h2,h5,h6⟩;refine au (aW (fY (pv 4) (λ_=>rfl)) aq aq) ⟨_,rfl,_,.inl ⟨_,bq.of h2,rfl⟩,ji (bu ?_)⟩;refine ay (aP (dP T.ym (Ff T) hr.m rfl T.vB T.IZ.b2 .nil aH (aa (pv 3) ai))) ⟨_,rfl,λx dx nx ndx ne=>⟨x,dx,lm,_,rfl,af,by rw[aj (av h1 nx),aj (av h1 ndx)];exact h1,λl2 H8 e1 e2 e3 e4=>⟨rfl,?_⟩⟩⟩;have s8:ak H' H8:=λb o hb=>e4 b o (by rw[aj (av hb nx),aj (av hb ndx)];exact hb) (av hb nx);exact q x H8 ⟨dx,l2,as,ls,e2,e3,h5.same s8⟩ (h6.trans s8)
def fX(R:bg)(row:Str)(i:Nat):Bool:=decide (gu R.sort R.signs row i ≠ .cD)
def gK(row:Str)(i:Nat):Nat->List bg->Option Nat
 |_,[]=>none
 |k,R::r=>if fX R row i=true then some k else gK row i (k+1) r
def firstM(rs:List bg)(row:Str)(i:Nat):Option Nat:=gK row i 0 rs
def GoodR(R:bg):Prop:=R.sort∈sorts/\R.signs.length<=200
def we(rs:List bg):Prop:=rs.length<=200/\∀R∈rs,GoodR R
def jH{α:Type}{l:List α}{i:Nat}{x:α}(h:l[i]?=some x):l.drop i=x::l.drop (i+1):=by rw[List.drop_eq_getElem?_toList_append,h];rfl
def Dm{rs:List bg}(h:rs[n]?=some R):gK row i k (rs.drop n)=if fX R row i=true then some k else gK row i (k+1) (rs.drop (n+1)):=by rw[jH h];rfl
def IsRules.mode(h:IsRules t H a ms){k:Nat}(hm:ms[k]?=some m) :
  ∃(dx lm:Addr) (as:List Addr) (b lr dm:Addr) (rs:List Addr),H a=some (.ins t.jC dx [("modes",.ref lm)])/\H lm=some (.lst (as.map V.ref))/\as.length=ms.length/\as[k]?=some b/\H b=some (.ins t.dX dm (mf m lr))/\H lr=some (.lst (rs.map V.ref))/\bO (dG t H) rs m.rules:=by
 obtain⟨dx,lm,as,ls,ha,hlm,hM⟩:=h;have hk:=(i5.mp hm).1;obtain⟨b,hb⟩:∃b,as[k]?=some b:=⟨as[k]'(by rw[hM.la];exact hk),i4 _⟩
 obtain⟨lr,hlr⟩:∃b,ls[k]?=some b:=⟨ls[k]'(by rw[hM.ll];exact hk),i4 _⟩
 obtain⟨dm,rs,o1,o2,o3⟩:=hM.ob k b lr m hb hlr hm;exact⟨dx,lm,as,b,lr,dm,rs,ha,hlm,hM.la,hb,o1,o2,o3⟩
def gP{as:List Addr}(h:as[k]?=some b):uv (as.map V.ref) ((k:Nat):Int)=some (.ref b):=aO (by rw[B1,h];rfl)
inductive Kn(t:dU)(vs:List V)(H:Hp)(Q:VK)(_:XK):Prop|mk(a:Addr)(ms:List aE)(m:aE)(k i:Nat)(row:Str)(_:vs=[.ref a,.int k,.str row,.int i])(_:IsRules t H a ms)(_:ms[k]?=some m)(_:we m.rules)(_:row.length<=1000)(_:i<=row.length)(_:∀H',ak H H'->Q (jX (firstM m.rules row i)) H')
def FZ (T:Txt K mg t):bw P w K mg base dM 2 t.GC t.Nl ["rules","mode","row","at"] (Kn t):=by
 refine T.xg.ok AU λvs H Q E h=>?_;obtain⟨a,ms,m,k,i,row,rfl,hR,hm,hok,hrow,hi,q⟩:=h;walk_at "i";obtain⟨dx,lm,as,b,lr,dm,rs,ha,hlm,hal,hb,hmo,hlr,hA⟩:=hR.mode hm;refine aI (λZ' H'=>(∃x y,Z'=[some (.ref a),some (.int k),some (.str row),some (.int i),x,y])/\ak H H'/\firstM m.rules row i=none) (gk ab3 rfl (BI rfl T.qK (aa (aJ (aY aQ (aJ (pv 0) rfl) (pv 1) (λ_ _=>rfl)) rfl) ai)) (rR rfl (dz (uc 4 AU) (dz (uc 5 AU) oO))) aq) ?_ ?_
 ·refine⟨_,rfl,_,_,_,_,_,rfl,ha,T.iP,T.dc,rfl,⟨_,rfl,_,_,_,_,rfl,rfl,bq.of hlm,gP hb,b,t.dX,dm,_,_,rfl,hmo,T.fR,T.fU,rfl,lr,_,rfl,bq.of hlr,uS (xs:=rs.map V.ref) (λn Z' H'=>(∃x y,Z'=[some (.ref a),some (.int k),some (.str row),some (.int i),x,y])/\ak H H'/\firstM m.rules row i=gK row i n (m.rules.drop n)) ⟨⟨_,_,rfl⟩,ak.refl H,rfl⟩ ?_ ?_ ?_⟩⟩
  ·rintro n Z' H' _ ⟨_,s1,_⟩;exact bq.of (s1 _ _ hlr)
  ·rintro n xv pt Z' H1 hx hpt ⟨⟨x,y,rfl⟩,s1,hf⟩;rw[B1] at hx;obtain⟨r,hr0,rfl⟩:=Q1.mp hx;obtain⟨R,hR1⟩:∃R,m.rules[n]?=some R:=⟨m.rules[n]'(by rw[← hA.1];exact(i5.mp hr0).1),i4 _⟩
   obtain⟨dr,pa,hr1,dp,hp1⟩:=hA.2 n r R hr0 hR1;obtain⟨g1,g2⟩:=hok.2 R (u8 hR1);obtain⟨fe,fs,de,ds,PK⟩:=Lx (P:=P) (w:=w) (base:=base) T g1;have s2:ak H (upd H1 pt (.tup [.int n,.ref r])):=s1.trans (ak.upd hpt);refine⟨pt,[.int n,.ref r],rfl,fB.of af,rfl,_,_,rfl,_,_,rfl,rfl,?_⟩;rw[Dm hR1] at hf;generalize upd H1 pt (.tup [.int n,.ref r])=H2 at s2;refine ay (aW (aB iY (bB (aJ (pv 5) rfl) PK.cl PK.me PK.ge hr.m PK.be .nil aH (aa (pv 2) (aa (pv 3) ai))) bL (aD _)) aq aq) (⟨_,rfl,_,_,_,_,_,rfl,(s2 _ _ hr1),T.cG,T.fC,rfl,⟨pa,dp,_,rfl,s2 _ _ hp1,PK.ne _,_,rfl,_,rfl,pa,dp,R.signs,row,i,rfl,s2 _ _ hp1,by lia,hrow,hi,rfl,_,rfl,lR (λh=>?_) (λh=>bu ⟨⟨_,_,rfl⟩,s2,?_⟩)⟩⟩)
   ·refine ay (aP (pv 4)) ⟨_,rfl,?_⟩;rw[if_pos (show fX R row i=true from ab8 h)] at hf;have:=q H2 s2;rw[hf] at this;exact this
   ·rw[if_neg (by rw[fX,Z9 (λz=>z h)];decide)] at hf;exact hf
  ·rintro Z' H' ⟨h1,h2,h3⟩;rw[d6,hA.1,List.drop_length] at h3;exact⟨h1,h2,h3⟩
 rintro Z' H' ⟨⟨x,y,rfl⟩,s1,hn⟩;refine ay (aP bL) ?_;have:=q H' s1;rw[hn] at this;exact this
def bS(n:Nat):V:=.int (n:Int)
def bQ(on:List Nat)(d:Str)(g:Option Nat):List Nat :=
 if d = "push" then on++[g.getD 0] else if d = "into" then on.dropLast++[g.getD 0] else if d = "pop" then (if on.length=1 then [0] else on.dropLast) else on
def ME(R:bg):Prop:=jD R.bz->∃g,R.goal=some g
theorem xO{α:Type}:∀(l:List α) (x:α),l≠[]->l.set (l.length-1) x=l.dropLast++[x]
 | [],_,h=>absurd rfl h
 | [a],x,_=>rfl
 |a::b::r,x,_=>by
  have:=xO (b::r) x (by simp);show a::(b::r).set ((b::r).length-1) x=a::((b::r).dropLast++[x])
  rw[this]
def K6(h:0<n):DS n (-1)=some (n-1):=by
 unfold DS;first
  | (rw[if_neg (by lia),if_pos (by lia)];congr 1;lia)
  | (rw[if_pos (by lia)];congr 1;lia)
inductive Te(t:dU)(vs:List V)(H:Hp)(Q:VK)(_:XK):Prop|mk(lo r:Addr)(on:List Nat)(R:bg)(_:vs=[.ref lo,.ref r])(_:H lo=some (.lst (on.map bS)))(_:dG t H r R)(_:on≠[])(_:on.length<=100000)(_:ME R)(_:Q .cD (upd H lo (.lst ((bQ on R.bz R.goal).map bS))))
def S6(h:H a=some o):upd H a o=H:=by
 funext b;by_cases e:b=a
 ·rw[e,af,h]
 ·rw[aj e]
def Gh (T:Txt K mg t):bw P w K mg base dM 1 t.IT t.OJ ["modes","rule"] (Te t):=by
 refine T.yL.ok QL λvs H Q E h=>?_;obtain⟨lo,r,on,R,rfl,hlo,⟨dr,pa,hr1,hp1⟩,hne,hlen,hg,q⟩:=h;walk_at "i";have nlr:r≠lo:=cy hr1 hlo (by intro z;cases z);have hpos:0<on.length:=by cases on with | nil=>exact absurd rfl hne | cons _ _=>simp
 refine ay (aW (aB bN (aJ (pv 1) rfl) aA (aD _)) aq aq) (⟨_,rfl,_,_,_,_,_,rfl,hr1,T.cG,T.gy,rfl,⟨rfl,_,rfl,dI (λh=>?_) (λh1=>?_)⟩⟩)
 ·have h:=V.str.inj h;obtain⟨g,eg⟩:=hg (.inl h);refine ay (aX (dF Y8 Y6 aa0 bZ (pv 0) (aa (aJ (pv 1) rfl) ai))) ⟨_,rfl,.inl ⟨rfl,_,bq.of hlo⟩,⟨_,rfl,_,_,_,_,_,rfl,hr1,T.cG,T.jy,rfl,⟨lo,_,_,rfl,rfl,hlo,eT (by rw[d6];lia),?_⟩⟩⟩;rw[bQ,if_pos h,eg,P2] at q;rw[eg];exact q
 ·have h1:R.bz ≠ "push" := λz=>h1 (by rw[z]);refine ay (aW (aB bN (aJ (pv 1) rfl) aA (aD _)) aq aq) (⟨_,rfl,_,_,_,_,_,rfl,hr1,T.cG,T.gy,rfl,⟨rfl,_,rfl,dI (λh=>?_) (λh2=>?_)⟩⟩)
  ·have h:=V.str.inj h;obtain⟨g,eg⟩:=hg (.inr h);refine ay (F7 (aJ (pv 1) rfl) (FF (pv 0) (jJ gW ao) set_list)) (⟨_,rfl,_,_,_,_,_,rfl,hr1,T.cG,T.jy,rfl,⟨_,rfl,_,rfl,lo,_,_,_,rfl,rfl,hlo,K6 (by rw[d6];exact hpos),?_⟩⟩);rw[bQ,if_neg h1,if_pos h,eg,P2] at q;rw[xO _ _ (by simpa using hne),eg,← List.map_dropLast];exact q
  ·have h2:R.bz ≠ "into" := λz=>h2 (by rw[z]);refine ay (aW (aB bN (aJ (pv 1) rfl) aA (aD _)) aq aq) (⟨_,rfl,_,_,_,_,_,rfl,hr1,T.cG,T.gy,rfl,⟨rfl,_,rfl,dI (λh=>?_) (λh3=>bu ?_)⟩⟩)
   ·have h:=V.str.inj h;rw[bQ,if_neg h1,if_neg h2,if_pos h] at q;obtain⟨y,hy⟩:∃y,(on.map bS)[(on.map bS).length-1]?=some y:=⟨_,i4 (by rw[d6];lia)⟩
    refine au (aX (zw Y8 F.slot_list_pop F.type_list_pop zO (pv 0))) ⟨_,rfl,.inl ⟨rfl,_,bq.of hlo⟩,lo,_,y,rfl,rfl,hlo,hy,?_⟩;refine ay (aW (gQ (fY (pv 0) (λ_=>rfl))) aq aq) ⟨_,rfl,_,.inl ⟨_,bq.of af,rfl⟩,?_⟩;rw[← List.map_dropLast];by_cases h1l:on.length=1
    ·rw[if_pos h1l] at q;have e:on.dropLast=[]:=List.eq_nil_of_length_eq_zero (by rw[ai4,h1l]);rw[e];refine kX (ay (aX (dF Y8 Y6 aa0 bZ (pv 0) (aa (ia rfl T.mw) ai))) ⟨_,rfl,.inl ⟨rfl,_,bq.of af⟩,lo,_,_,rfl,rfl,af,by decide,?_⟩);rw[eO];exact q
    ·rw[if_neg h1l] at q;have e:on.dropLast≠[]:=λz=>by have:=ac1 List.length z;rw[ai4] at this;simp at this;lia
     cases hd:on.dropLast with
     |nil=>exact absurd hd e
     |cons x r =>
      rw[hd] at q;exact ji (bu q)
   ·have h3:R.bz ≠ "pop" := λz=>h3 (by rw[z]);rw[bQ,if_neg h1,if_neg h2,if_neg h3,S6 hlo] at q;exact q
def Ls(h:on≠[]):bQ on d g≠[]:=by
 unfold bQ;split
 ·simp
 ·split
  ·simp
  ·split
   ·split
    ·simp
    ·intro z;have:=ac1 List.length z;rw[ai4] at this;cases on with
     |nil=>exact h rfl
     |cons x r =>
      cases r with
      |nil=>rename_i h1 _ ;simp at *
      |cons y r=>simp at this
   ·exact h
def ir{on:List Nat}(h:on.getLast?=some k):uv (on.map bS) (-1)=some (bS k):=by
 obtain⟨pre,rfl⟩:∃pre,on=pre++[k]:=by
  rcases ah1 on with rfl|⟨p,x,rfl⟩
  ·simp at h
  ·simp at h;exact⟨p,by rw[h,ah0]⟩
 exact uM (k:=pre.length) (by simp) (by simp)
structure cT(ms:List aE):Prop where
 pos:0<ms.length
 len:ms.length<=200
 ok:∀m∈ms,we m.rules
 bz:∀m∈ms,∀R∈m.rules,R.bz∈vM
 goal:∀m∈ms,∀R∈m.rules,jD R.bz->∃g,R.goal=some g/\g<ms.length
def cT.gd(G:cT ms)(h:m∈ms)(h2:R∈m.rules):ME R:=λz=>let ⟨g,e,_⟩:=G.goal m h R h2 z;⟨g,e⟩
def ju(ms:List aE)(on:List Nat):Prop:=on≠[]/\∀x∈on,x<ms.length
def ju.bz(G:cT ms)(h:ju ms on)(h1:m∈ms)(h2:R∈m.rules):ju ms (bQ on R.bz R.goal):=by
 refine⟨Ls h.1,λx hx=>?_⟩;unfold bQ at hx;split at hx
 ·rename_i e;obtain⟨g,eg,hg⟩:=G.goal m h1 R h2 (.inl e);rcases aa1.mp hx with hx|hx
  ·exact h.2 x hx
  ·rw[v6.mp hx,eg];exact hg
 ·split at hx
  ·rename_i e;obtain⟨g,eg,hg⟩:=G.goal m h1 R h2 (.inr e);rcases aa1.mp hx with hx|hx
   ·exact h.2 x (List.dropLast_subset _ hx)
   ·rw[v6.mp hx,eg];exact hg
  ·split at hx
   ·split at hx
    ·rw[v6.mp hx];exact G.pos
    ·exact h.2 x (List.dropLast_subset _ hx)
   ·exact h.2 x hx
def bU(on:List Nat):Nat:=on.getLastD 0
def jr(h:on≠[]):on.getLast?=some (bU on):=by unfold bU;rw[af6,List.getLast?_eq_some_getLast h];rfl
def oB(h:on≠[]):bU on∈on:=List.mem_of_getLast? (jr h)
def ju.mode(h:ju ms on):∃m,ms[bU on]?=some m:=⟨ms[bU on]'(h.2 _ (oB h.1)),i4 _⟩
def fE(rs:List bg)(row:Str)(i:Nat):Option bg:=(firstM rs row i).bind (rs[·]?)
def gF(rs:List bg)(row:Str):Option bg:=(fE rs row 0).bind λR=>if bE R.sort=true then none else some R
theorem jz:∀{rs:List bg} {k n:Nat},gK row i k rs=some n->k<=n/\∃R,rs[n-k]?=some R/\fX R row i=true/\∀j,j<n-k->∀R',rs[j]?=some R'->fX R' row i=false
 | [],k,n,h=>by cases h
 |R::r,k,n,h=>by
  rw[gK] at h;split at h
  ·rename_i hf;cases h;refine⟨M2 _,R,by rw[al0];rfl,hf,λj hj=>?_⟩;lia
  ·rename_i hf;obtain⟨h1,R',h2,h3,h4⟩:=jz h;have e:n-k=(n-(k+1))+1:=by lia
   refine⟨by lia,R',by rw[e,ag1];exact h2,h3,λj hj R'' hR=>?_⟩;cases j with
   |zero =>
    rw[ad5] at hR;cases hR;simpa using hf
   |succ j=>exact h4 j (by lia) R'' (by rw[ag1] at hR;exact hR)
def xm(h:firstM rs row i=some n):∃R,rs[n]?=some R/\fE rs row i=some R/\fX R row i=true:=by obtain⟨_,R,h2,h3,_⟩:=jz h;rw[Nat.sub_zero] at h2;exact⟨R,h2,by rw[fE,h];exact h2,h3⟩
inductive Tu(t:dU)(vs:List V)(H:Hp)(Q:VK)(_:XK):Prop|mk(a:Addr)(ms:List aE)(m:aE)(k:Nat)(row:Str)(_:vs=[.ref a,.int k,.str row])(_:IsRules t H a ms)(_:ms[k]?=some m)(_:we m.rules)(_:row.length<=1000)(_:∀H',ak H H'->(gF m.rules row=none->Q .cD H')/\∀R r,gF m.rules row=some R->dG t H r R->Q (.ref r) H')
def Ik (T:Txt K mg t):bw P w K mg base dM 3 t.EF t.LP ["rules","mode","row"] (Tu t):=by
 refine T.yE.ok AM λvs H Q E h=>?_;obtain⟨a,ms,m,k,row,rfl,hR,hm,hok,hrow,q⟩:=h;walk_at "i";refine au (cR 3 AM (aN (FZ T) hr.m rfl T.Ea T.xg.kp T.xg.b4 .nil aH (aa (pv 0) (aa (pv 1) (aa (pv 2) (aa ao ai)))))) ⟨_,rfl,_,rfl,_,rfl,a,ms,m,k,0,row,rfl,hR,hm,hok,hrow,by lia,λH1 s1=>?_⟩;obtain⟨dx,lm,as,b,lr,dm,rs,ha,hlm,hal,hb,hmo,hlr,hA⟩:=hR.mode hm;cases hf:firstM m.rules row 0 with
 |none =>
  have e:gF m.rules row=none:=by rw[gF,fE,hf];rfl
  exact au (aW (aB qA (pv 3) bL (aD _)) aq aq) ⟨_,rfl,rfl,_,rfl,dI (λ_=>ay (aP bL) ((q H1 s1).1 e)) (λh=>absurd rfl h)⟩
 |some n =>
  obtain⟨R,hn,hru,_⟩:=xm hf;obtain⟨r,hr0,hr1⟩:=hA.at hn;obtain⟨g1,g2⟩:=hok.2 R (u8 hn);obtain⟨fe,fs,de,ds,PK⟩:=Lx (P:=P) (w:=w) (base:=base) T g1;refine au (aW (aB qA (pv 3) bL (aD _)) aq aq) ⟨_,rfl,rfl,_,rfl,dI (λh=>by cases h) (λ_=>bu ?_)⟩;refine au (cR 4 AM (aY aQ (aJ (aY aQ (aJ (pv 0) rfl) (pv 1) (λ_ _=>rfl)) rfl) (pv 3) (λ_ _=>rfl))) (⟨_,rfl,_,_,_,_,_,rfl,(s1 _ _ ha),T.iP,T.dc,rfl,⟨_,rfl,_,_,_,_,rfl,rfl,bq.of (s1 _ _ hlm),gP hb,b,t.dX,dm,_,_,rfl,s1 _ _ hmo,T.fR,T.fU,rfl,_,rfl,_,_,_,_,rfl,rfl,bq.of (s1 _ _ hlr),gP hr0,?_⟩⟩);obtain⟨dr,pa,o1,dp,o2⟩:=id hr1;have e:gF m.rules row=if bE R.sort=true then none else some R:=by rw[gF,hru];rfl
  refine ay (aP (cO (eN (bx (aJ (pv 4) rfl) PK.cl PK.ms PK.gs hr.m PK.bs .nil aH)) bL (pv 4))) (⟨_,rfl,_,_,_,_,_,rfl,(s1 _ _ o1),T.cG,T.fC,rfl,⟨pa,dp,_,rfl,s1 _ _ o2,PK.ns _,_,rfl,_,rfl,Wq (λh=>?_) (λh=>⟨_,rfl,?_⟩)⟩⟩)
  ·rw[if_pos h] at e;exact(q H1 s1).1 e
  ·rw[if_neg (by rw[h];decide)] at e;exact(q H1 s1).2 R r e hr1
def cU(ms:List aE)(k:Nat)(row:Str):Option bg:=(ms[k]?).bind λm=>gF m.rules row
def dD(ms:List aE)(row:Str)(first:Nat):Nat->List Nat->List Nat->Option (List Nat)
 |0,_,_=>none
 |f+1,on,ring=>match cU ms (bU on) row with
  |none=>none
  |some R=>if R.bz = "pop" /\ on.length=1/\first≠0 then none else if bU (bQ on R.bz R.goal)=first then some (ring++[bU on]) else dD ms row first f (bQ on R.bz R.goal) (ring++[bU on])
def cI(ms:List aE)(first:Nat)(row:Str):Option (List Nat):=dD ms row first ms.length [first] []
def rV:(bQ on d g).length<=on.length+1:=by
 unfold bQ;split
 ·simp
 ·split
  ·simp
  ·split
   ·split
    ·simp
    ·simp;lia
   ·lia
def j8(h:gF rs row=some R):R∈rs:=by
 unfold gF at h;cases e:fE rs row 0 with
 |none=>rw[e] at h;cases h
 |some R' =>
  rw[e] at h;have:(if bE R'.sort=true then none else some R')=some R:=h;split at this
  ·cases this
  ·cases this;unfold fE at e;cases e2:firstM rs row 0 with
   |none=>rw[e2] at e;cases e
   |some n=>rw[e2] at e;exact u8 e
inductive Ad(t:dU)(vs:List V)(H:Hp)(Q:VK)(_:XK):Prop|mk(a:Addr)(ms:List aE)(first:Nat)(row:Str)(_:vs=[.ref a,.int first,.str row])(_:IsRules t H a ms)(_:cT ms)(_:first<ms.length)(_:row.length<=1000)(_:∀H',ak H H'->(cI ms first row=none->Q .cD H')/\∀ring l,cI ms first row=some ring->H' l=some (.lst (ring.map bS))->H l=none->Q (.ref l) H')
def EJ (T:Txt K mg t):bw P w K mg base dM 4 t.Iu t.OD ["rules","first","row"] (Ad t):=by
 refine T.ze.ok sM λvs H Q E h=>?_;obtain⟨a,ms,first,row,rfl,hR,G,hfirst,hrow,q⟩:=h;walk_at "i";refine au (cR 3 sM (bD ai)) ⟨by show 0<=sizeLine;decide,λlg hlg=>?_⟩;have s1:ak H (upd H lg (.lst [])):=ak.upd hlg;have hg1:upd H lg (.lst []) lg=some (.lst []):=af;generalize upd H lg (.lst [])=H1 at s1 hg1;refine au (cR 4 sM (bD (aa (pv 1) ai))) ⟨_,rfl,by show 1<=sizeLine;decide,λlo hlo=>?_⟩;have s2:ak H1 (upd H1 lo (.lst [.int first])):=ak.upd hlo;have ho2:upd H1 lo (.lst [.int first]) lo=some (.lst ([first].map bS)):=af;have hg2:=s2 _ _ hg1;have ngo:lg≠lo:=av hg1 hlo;have hlo0:H lo=none:=s1.free hlo;generalize upd H1 lo (.lst [.int first])=H2 at s2 ho2 hg2;have s2:=s1.trans s2;show At _ _ _ [some (.ref a),some (.int first),some (.str row),some (.ref lg),some (.ref lo),none] H2;obtain⟨dx,lm,as,ls,ha,hlm,hM⟩:=id hR;refine aI (λZ' H'=>(∃x,Z'=[some (.ref a),some (.int first),some (.str row),some (.ref lg),some (.ref lo),x])/\ak H H'/\cI ms first row=none) (oW ab3 (aB ie (aM aS (by rfl) T.bW (by decide +kernel) (aa (pv 3) ai)) (aM aS (by rfl) T.bW (by decide +kernel) (aa (aJ (pv 0) rfl) ai)) (aD _)) aq) ?_ ?_
 ·refine⟨λf Z' H'=>∃(on ring:List Nat),(∃x,Z'=[some (.ref a),some (.int first),some (.str row),some (.ref lg),some (.ref lo),x])/\H' lg=some (.lst (ring.map bS))/\H' lo=some (.lst (on.map bS))/\ak H H'/\f+ring.length=ms.length/\ju ms on/\on.length<=ring.length+1/\cI ms first row=dD ms row first f on ring,⟨ms.length,[first],[],⟨_,rfl⟩,hg2,ho2,s2,by simp,⟨by simp,by simpa using hfirst⟩,by simp,rfl⟩,?_⟩;rintro f Z' H3 ⟨on,ring,⟨x,rfl⟩,hg3,ho3,s3,hfl,hon,honl,hrec⟩;have hlen:=G.len;refine⟨_,rfl,_,_,rfl,.inl (bq.of hg3),⟨_,rfl,_,_,_,_,_,rfl,(s3 _ _ ha),T.iP,T.dc,rfl,⟨_,_,rfl,.inl (bq.of (s3 _ _ hlm)),_,_,rfl,rfl,_,rfl,dI (λh=>?_) (λh=>?_)⟩⟩⟩
  ·rw[d6,d6,hM.la] at h;obtain⟨f',rfl⟩:∃f',f=f'+1:=⟨f-1,by lia⟩
   obtain⟨m,hm⟩:=hon.mode;have hmm:=u8 hm;have hid:cU ms (bU on) row=gF m.rules row:=by rw[cU,hm];rfl
   rw[dD,hid] at hrec;refine⟨_,λZ' H' z=>z,?_⟩;obtain⟨dx',lm',as',b,lr,dm,rs,ha',hlm',hal',hb,hmo,hlr,hA⟩:=(hR.same s3).mode hm;cases hi0:gF m.rules row with
   |none =>
    rw[hi0] at hrec;refine au (cR 5 sM (aN (Ik T) hr.m rfl T.JT T.yE.kp T.yE.b3 .nil aH (aa (pv 0) (aa (aY aQ (pv 4) (jJ gW ao) (λ_ _=>rfl)) (aa (pv 2) ai))))) ⟨_,rfl,_,rfl,_,rfl,_,_,_,_,rfl,rfl,bq.of ho3,ir (jr hon.1),_,rfl,a,ms,m,bU on,row,rfl,hR.same s3,hm,G.ok m hmm,hrow,λH4 s4=>⟨λ_=>?_,(λR r e=>by rw[hi0] at e;cases e)⟩⟩;exact au (aW (aB qA (pv 5) bL (aD _)) aq aq) ⟨_,rfl,rfl,_,rfl,dI (λ_=>ay (aP bL) ((q H4 (s3.trans s4)).1 hrec)) (λh=>absurd rfl h)⟩
   |some R =>
    rw[hi0] at hrec;have hRm:=j8 hi0;refine au (cR 5 sM (aN (Ik T) hr.m rfl T.JT T.yE.kp T.yE.b3 .nil aH (aa (pv 0) (aa (aY aQ (pv 4) (jJ gW ao) (λ_ _=>rfl)) (aa (pv 2) ai))))) ⟨_,rfl,_,rfl,_,rfl,_,_,_,_,rfl,rfl,bq.of ho3,ir (jr hon.1),_,rfl,a,ms,m,bU on,row,rfl,hR.same s3,hm,G.ok m hmm,hrow,λH4 s4=>⟨(λe=>by rw[hi0] at e;cases e),λR' r e hr1=>?_⟩⟩;rw[hi0] at e;cases e;refine au (aW (aB qA (pv 5) bL (aD _)) aq aq) ⟨_,rfl,rfl,_,rfl,dI (λh=>by cases h) (λ_=>bu ?_)⟩;have hr4:=hr1.same s4;have hg4:=s4 _ _ hg3;have ho4:=s4 _ _ ho3;obtain⟨dr,pa,o1,hpat⟩:=id hr4;refine aI (λZ' H'=>Z'=[some (.ref a),some (.int first),some (.str row),some (.ref lg),some (.ref lo),some (.ref r)]/\H'=H4 /\ ¬ (R.bz = "pop" /\ on.length=1/\first≠0)) (aW (PW.pt (jS (aB bN (aJ (pv 5) rfl) aA (aD _)) (jS (aB bN (aM aS (by rfl) T.bW (by decide +kernel) (aa (pv 4) ai)) ao (aD _)) (i0 (aB kJ (pv 1) (ia rfl T.mw) (aD _)))))) aq aq) ?_ ?_
    ·refine⟨_,rfl,_,_,_,_,_,rfl,o1,T.cG,T.gy,rfl,⟨rfl,_,rfl,dI (λh1=>?_) (λh1=>bu ⟨rfl,rfl,λz=>h1 (by rw[z.1])⟩)⟩⟩;refine⟨_,rfl,_,_,rfl,.inl (bq.of ho4),rfl,_,rfl,dI (λh2=>?_) (λh2=>bu ⟨rfl,rfl,λz=>h2 (by rw[d6,z.2.1];rfl)⟩)⟩;refine⟨_,rfl,rfl,_,rfl,lR (λh3=>?_) (λh3=>bu ⟨rfl,rfl,λz=>z.2.2 (by have:=V.int.inj h3;lia)⟩)⟩;have h2:=V.int.inj h2;rw[d6] at h2;have hc:R.bz = "pop" /\ on.length=1/\first≠0:=⟨V.str.inj h1,by lia,λz=>h3 (by rw[z];rfl)⟩
     simp only[if_pos hc] at hrec;exact ay (aP bL) ((q H4 (s3.trans s4)).1 hrec)
    rintro Z' H' ⟨rfl,e,hnc⟩;rw[e];clear e H';simp only[if_neg hnc] at hrec;refine au (aX (dF Y8 Y6 aa0 bZ (pv 3) (aa (aY aQ (pv 4) (jJ gW ao) (λ_ _=>rfl)) ai))) ⟨_,rfl,.inl ⟨rfl,_,bq.of hg4⟩,_,rfl,_,rfl,_,_,_,_,rfl,rfl,bq.of ho4,ir (jr hon.1),lg,_,_,rfl,rfl,hg4,eT (by rw[d6];lia),?_⟩;have hg5:upd H4 lg (.lst (ring.map bS++[bS (bU on)])) lg=some (.lst ((ring++[bU on]).map bS)):=by rw[af,P2];rfl
    have ho5:upd H4 lg (.lst (ring.map bS++[bS (bU on)])) lo=some (.lst (on.map bS)):=by rw[aj (aa3 ngo)];exact ho4
    have hr5:dG t (upd H4 lg (.lst (ring.map bS++[bS (bU on)]))) r R:=hr4.pP hg4;have s5:ak H (upd H4 lg (.lst (ring.map bS++[bS (bU on)]))):=λb o hb=>by rw[aj (av hb hlg)];exact s4 _ _ (s3 _ _ hb)
    generalize upd H4 lg (.lst (ring.map bS++[bS (bU on)]))=H5 at hg5 ho5 hr5 s5;refine au (aX (aN (Gh T) hr.m rfl T.Hw T.yL.kp T.yL.b2 .nil aH (aa (pv 4) (aa (pv 5) ai)))) ⟨_,rfl,_,rfl,lo,r,on,R,rfl,ho5,hr5,hon.1,by lia,G.gd hmm hRm,?_⟩;have hon6:=hon.bz G hmm hRm;have hol6:(bQ on R.bz R.goal).length<=on.length+1:=rV;have hg6:upd H5 lo (.lst ((bQ on R.bz R.goal).map bS)) lg=some (.lst ((ring++[bU on]).map bS)):=by rw[aj ngo];exact hg5
    have s6:ak H (upd H5 lo (.lst ((bQ on R.bz R.goal).map bS))):=λb o hb=>by rw[aj (av hb hlo0)];exact s5 _ _ hb
    refine ay (aW (aB bN (aY aQ (pv 4) (jJ gW ao) (λ_ _=>rfl)) (pv 1) (aD _)) aq aq) ⟨_,rfl,_,rfl,_,_,_,_,rfl,rfl,bq.of af,ir (jr hon6.1),_,rfl,rfl,_,rfl,dI (λh=>?_) (λh=>bu ?_)⟩
    ·have h:bU (bQ on R.bz R.goal)=first:=by have:=V.int.inj h;lia
     rw[if_pos h] at hrec;exact ay (aP (pv 3)) ⟨_,rfl,(q _ s6).2 _ lg hrec hg6 hlg⟩
    ·have h:¬ bU (bQ on R.bz R.goal)=first:=λz=>h (by rw[← z];rfl);rw[if_neg h] at hrec;refine⟨f',by lia,_,_,⟨_,rfl⟩,hg6,af,s6,?_,hon6,?_,hrec⟩
     ·simp only[o0,x0,Y7];lia
     ·simp only[o0,x0,Y7];lia
  ·rw[d6,d6,hM.la] at h;have:f=0:=by lia
   subst this;exact⟨⟨_,rfl⟩,s3,hrec⟩
 rintro Z' H' ⟨⟨x,rfl⟩,s3,hn⟩;exact ay (aP bL) ((q H' s3).1 hn)
abbrev fT:Str:=" !\"#$&'()*+,-./0123456789:;<=>?@ABCDEFGHIJKLMNOPQRSTUVWXYZ[\\]^_`abcdefghijklmnopqrstuvwxyz{|}~"
def eu:List Str:="" :: fT.cps.toList.map λc=>(⟨#[c]⟩:Str)
inductive KC(vs:List V)(H:Hp)(Q:VK)(_:XK):Prop|mk(_:vs=[])(_:∀l H',H' l=some (.lst (eu.map V.str))->H l=none->ak H H'->Q (.ref l) H')
def PU(T:Txt K mg t):bw P w K mg base dM 1 t.Ge t.MQ [] KC:=by refine T.GQ.ok Pq λvs H Q E h=>?_;obtain⟨rfl,q⟩:=h;walk_at "i";refine ay (aP (bh iD (bD (aa aA ai)) (cQ (A5 rfl) (by rfl) T.kh (by decide +kernel) (aa (ia rfl T.DV) ai)))) ⟨by show 1<=sizeLine;decide,λl1 hl1=>⟨_,rfl,by decide +kernel,λl2 hl2=>?_⟩⟩;refine⟨l1,l2,_,_,rfl,rfl,ak.upd hl2 _ _ af,af,b7 (by simp only[tV,d6,x0,Y7];decide +kernel),λl hl=>?_⟩;refine q l _ ?_ (((ak.upd hl1).to hl2).free hl) (((ak.upd hl1).to hl2).to hl);rw[af,eu,Y5,aj4];rfl
def Dd:∀r∈eu,r.length<=1:=by
 intro r hr;rcases y0.mp hr with e|e
 ·rw[e];decide
 ·obtain⟨c,_,rfl⟩:=aa2.mp e;exact M2 1
def gn(ms:List aE)(row:Str):Nat->Nat->Option (List Nat)
 |0,_=>none
 |n+1,k=>match cI ms k row with
  |some r=>some r
  |none=>gn ms row n (k+1)
def fV(ms:List aE):List Str->Option (List Nat×Str)
 | []=>none
 |row::r=>match gn ms row ms.length 0 with
  |some ring=>some (ring,row)
  |none=>fV ms r
def gC(ms:List aE):Option (List Nat×Str):=fV ms eu
theorem oM:∀{n k:Nat},gn ms row n k=none->∀j,k<=j->j<k+n->cI ms j row=none
 |0,k,_,j,h1,h2=>by lia
 |n+1,k,h,j,h1,h2=>by
  rw[gn] at h;cases e:cI ms k row with
  |some r=>rw[e] at h;cases h
  |none =>
   rw[e] at h;by_cases z:j=k
   ·rw[z];exact e
   ·exact oM h j (by lia) (by lia)
theorem m7:∀{rows:List Str},fV ms rows=none->∀row∈rows,∀j,j<ms.length->cI ms j row=none
 | [],_,row,h,_,_=>by cases h
 |r::rs,h,row,hr,j,hj=>by
  rw[fV] at h;cases e:gn ms r ms.length 0 with
  |some r=>rw[e] at h;cases h
  |none =>
   rw[e] at h;rcases y0.mp hr with z|z
   ·rw[z];exact oM e j (X5 _) (by lia)
   ·exact m7 h row z j hj
def Ae(h:gC ms=none):∀row∈eu,∀j,j<ms.length->cI ms j row=none:=m7 h
def nameAt(ms:List aE)(k:Nat):Str:=match ms[k]? with
 |some m=>m.name
 |none=>""
def um (row:Str):V:=if row = "" then .cD else .str row
inductive RJ(t:dU)(vs:List V)(H:Hp)(Q:VK)(_:XK):Prop|mk(a:Addr)(ms:List aE)(_:vs=[.ref a])(_:IsRules t H a ms)(_:cT ms)(_:∀H',ak H H'->(gC ms=none->Q .cD H')/\∀ring row p l,gC ms=some (ring,row)->H' p=some (.tup [.ref l,um row])->H' l=some (.lst ((ring.map (nameAt ms)).map V.str))->Q (.ref p) H')
theorem xN(G:cT ms):∀{f:Nat} {on ring r:List Nat},ju ms on->(∀x∈ring,x<ms.length)->dD ms row first f on ring=some r->∀x∈r,x<ms.length
 |0,on,ring,r,_,_,h=>by cases h
 |f+1,on,ring,r,ho,hr,h=>by
  rw[dD] at h;obtain⟨m,hm⟩:=ho.mode;have hid:cU ms (bU on) row=gF m.rules row:=by rw[cU,hm];rfl
  rw[hid] at h;have h2:∀x∈ring++[bU on],x<ms.length:=λx hx=>by
   rcases aa1.mp hx with hx|hx
   ·exact hr x hx
   ·rw[v6.mp hx];exact ho.2 _ (oB ho.1)
  cases e:gF m.rules row with
  |none=>rw[e] at h;cases h
  |some R =>
   rw[e] at h;have h:(if R.bz = "pop" /\ on.length=1/\first≠0 then none else if bU (bQ on R.bz R.goal)=first then some (ring++[bU on]) else dD ms row first f (bQ on R.bz R.goal) (ring++[bU on]))=some r:=h;split at h
   ·cases h
   ·split at h
    ·cases h;exact h2
    ·exact xN G (ho.bz G (u8 hm) (j8 e)) h2 h
theorem uV:∀{f:Nat} {on ring r:List Nat},dD ms row first f on ring=some r->r.length<=ring.length+f
 |0,on,ring,r,h=>by cases h
 |f+1,on,ring,r,h=>by
  rw[dD] at h;cases e:cU ms (bU on) row with
  |none=>rw[e] at h;cases h
  |some R =>
   rw[e] at h;have h:(if R.bz = "pop" /\ on.length=1/\first≠0 then none else if bU (bQ on R.bz R.goal)=first then some (ring++[bU on]) else dD ms row first f (bQ on R.bz R.goal) (ring++[bU on]))=some r:=h;split at h
   ·cases h
   ·split at h
    ·cases h;simp
    ·have:=uV h;rw[o0,x0,Y7] at this;lia
def HK (T:Txt K mg t):bw P w K mg base dM 5 t.IC t.O1 ["rules"] (RJ t):=by
 refine T.yc.ok tN λvs H Q E h=>?_;obtain⟨a,ms,rfl,hR,G,q⟩:=h;walk_at "i";have hlen:=G.len;refine aI (λZ' H'=>(∃x y z,Z'=[some (.ref a),x,y,z])/\ak H H'/\gC ms=none) (gk ab3 rfl (gH (GK (PU T) hr.m rfl T.RS T.GQ.kp T.GQ.b0 .nil aH)) (uc 1 tN) aq) ?_ ?_
 ·refine⟨rfl,λl H1 hl1 hl0 s1=>⟨l,rfl,⟨_,bq.of hl1⟩,jV (xs:=eu.map V.str) (λi Z' H'=>(∃x y z,Z'=[some (.ref a),x,y,z])/\H' l=some (.lst (eu.map V.str))/\ak H H'/\gC ms=fV ms (eu.drop i)) ⟨⟨_,_,_,rfl⟩,hl1,s1,rfl⟩ ?_ ?_ ?_⟩⟩
  ·rintro i Z' H' _ ⟨_,h,_⟩;exact bq.of h
  ·rintro i xv Z' H2 hx ⟨⟨x,y,z,rfl⟩,hl2,s2,hrec⟩;rw[B1] at hx;obtain⟨row,hrow,rfl⟩:=Q1.mp hx;have hrl:=Dd row (u8 hrow);rw[jH hrow,fV] at hrec;obtain⟨dx,lm,as,ls,ha,hlm,hM⟩:=id hR;refine ay (gk ab3 rfl (iw rfl T.kq (aa (aM aS (by rfl) T.bW (by decide +kernel) (aa (aJ (pv 0) rfl) ai)) ai)) (uc 2 tN) aq) (⟨_,rfl,_,_,_,_,_,rfl,(s2 _ _ ha),T.iP,T.dc,rfl,⟨_,_,rfl,.inl (bq.of (s2 _ _ hlm)),(ms.length:Int),by rw[d6,hM.la],by lia,by lia,kD (n:=((ms.length:Nat):Int).toNat) (λk Z' H'=>(∃y z,Z'=[some (.ref a),some (.str row),y,z])/\H' l=some (.lst (eu.map V.str))/\ak H H'/\gn ms row ms.length 0=gn ms row (ms.length-k) k) ⟨⟨_,_,rfl⟩,hl2,s2,rfl⟩ ?_ ?_⟩⟩)
   ·rintro k Z' H3 hk ⟨⟨y,z,rfl⟩,hl3,s3,hrow3⟩;have hk':k<ms.length:=by lia
    rw[show ms.length-k=(ms.length-(k+1))+1 by lia,gn] at hrow3;cases hf:cI ms k row with
    |none =>
     rw[hf] at hrow3;refine au (cR 3 tN (aN (EJ T) hr.m rfl T.FJ T.ze.kp T.ze.b3 .nil aH (aa (pv 0) (aa (pv 2) (aa (pv 1) ai))))) ⟨_,rfl,_,rfl,_,rfl,a,ms,k,row,(by rw[Int.zero_add];rfl),hR.same s3,G,hk',by lia,λH4 s4=>⟨λ_=>?_,(λring lg e=>by rw[hf] at e;cases e)⟩⟩;exact ay (aW (aB iY (pv 3) bL (aD _)) aq aq) ⟨_,rfl,rfl,_,rfl,lR (λh=>absurd rfl h) (λ_=>bu ⟨⟨_,_,rfl⟩,s4 _ _ hl3,s3.trans s4,hrow3⟩)⟩
    |some ring =>
     rw[hf] at hrow3;have hrec:gC ms=some (ring,row):=by rw[hrec,hrow3]
     refine au (cR 3 tN (aN (EJ T) hr.m rfl T.FJ T.ze.kp T.ze.b3 .nil aH (aa (pv 0) (aa (pv 2) (aa (pv 1) ai))))) ⟨_,rfl,_,rfl,_,rfl,a,ms,k,row,(by rw[Int.zero_add];rfl),hR.same s3,G,hk',by lia,λH4 s4=>⟨(λe=>by rw[hf] at e;cases e),λring' lg e hlg hlg0=>?_⟩⟩;rw[hf] at e;cases e;have s4':=s3.trans s4;have hlt:∀x∈ring,x<ms.length:=xN G ⟨by simp,by simpa using hk'⟩ (by simp) hf;have hrl2:ring.length<1000000:=by have:=uV hf;simp only[Y7] at this;lia
     refine ay (aW (aB iY (pv 3) bL (aD _)) aq aq) ⟨_,rfl,rfl,_,rfl,lR (λ_=>?_) (λh=>by cases h)⟩;refine ay (@aP _ _ _ _ (@br _ _ _ _ _ (aa (@i6 _ (az En) _ ["rules","row","first","ring"] _ _ ("mode") _ _ [("rules",0)] _ _ (by walk_at "ck") (@gH _ _ _ _ (pv 3)) (λ_ _ _ _=>by exact(@mJ _ K _ _ _ _ (@aY _ _ _ _ _ _ _ (yF (K:=K) rfl) (@mJ _ K _ _ _ _ (pv 0) rfl (by left)) (pv 1) (λ_ _=>rfl)) rfl (by left))) (by left) (by left) (by left) (by left)) (aa (@cO _ _ _ _ _ _ _ _ (@fY _ _ _ (pv 1) (λ_=>rfl)) (pv 1) bL) ai (by left)) (by left)))) ⟨_,rfl,lg,rfl,⟨_,bq.of hlg⟩,ja (xs:=ring.map bS) (λi ys H5=>ys=((ring.take i).map (nameAt ms)).map V.str/\ak H4 H5) ⟨rfl,ak.refl H4⟩ (by rw[d6];exact Nat.lt_trans hrl2 (by decide)) ?_ ?_ ?_⟩
     ·rintro i ys H5 _ ⟨_,s5⟩;exact bq.of (s5 _ _ hlg)
     ·rintro i xv ys H5 hx hyl ⟨rfl,s5⟩;rw[B1] at hx;obtain⟨n,hn,rfl⟩:=Q1.mp hx;obtain⟨m,hm⟩:∃m,ms[n]?=some m:=⟨ms[n]'(hlt n (u8 hn)),i4 _⟩
      obtain⟨dx,lm,as,b,lr,dm,rs,ha,hlm,hal,hb,hmo,hlr,hA⟩:=(hR.same (s4'.trans s5)).mode hm;refine⟨_,rfl,_,_,_,_,_,rfl,ha,T.iP,T.dc,rfl,⟨_,rfl,_,_,_,_,rfl,rfl,bq.of hlm,gP hb,b,t.dX,dm,_,_,rfl,hmo,T.fR,T.jA,rfl,?_⟩⟩;have hi:=(i5.mp hn).1;refine d7 (by rw[d6];exact hi) hyl ⟨?_,s5⟩;rw[ae0 hn,P2,P2];show _=_++[V.str (nameAt ms n)]
      rw[nameAt,hm]
     ·rintro ys H5 hyl ⟨rfl,s5⟩ D hD;have e5:ring.take (ring.map bS).length=ring:=by rw[d6,ab6]
      rw[e5];have s6:ak H (upd H5 D (.lst ((ring.map (nameAt ms)).map V.str))):=(s4'.trans s5).to hD;have hD6:upd H5 D (.lst ((ring.map (nameAt ms)).map V.str)) D=some (.lst ((ring.map (nameAt ms)).map V.str)):=af;generalize upd H5 D (.lst ((ring.map (nameAt ms)).map V.str))=H6 at s6 hD6;by_cases h0:row = ""
      ·refine⟨_,rfl,false,⟨b7 (by lia),(by rw[h0];rfl)⟩,ji ⟨by show 2<=sizeLine;decide,λtp htp=>?_⟩⟩;exact(q _ (s6.to htp)).2 ring row tp D hrec (by rw[af,um,if_pos h0]) (ak.upd htp _ _ hD6)
      ·have hrl1:row.length≠0:=λz=>h0 (kE (by rw[show (Str.ofString "").cps.toList=[] from by decide +kernel];exact List.eq_nil_of_length_eq_zero (by rw[cz];exact z)));refine⟨_,rfl,true,⟨b7 (by lia),?_⟩,kX ⟨_,rfl,by show 2<=sizeLine;decide,λtp htp=>?_⟩⟩
       ·have:(row.length:Int)≠0:=by lia
        simpa using this
       ·exact(q _ (s6.to htp)).2 ring row tp D hrec (by rw[af,um,if_neg h0]) (ak.upd htp _ _ hD6)
   ·rintro Z' H3 ⟨⟨y,z,rfl⟩,hl3,s3,hrow3⟩;rw[aa5,al0] at hrow3;refine⟨⟨_,_,_,rfl⟩,hl3,s3,?_⟩;rw[hrec,hrow3];rfl
  ·rintro Z' H' ⟨h1,_,h2,h3⟩;rw[d6,List.drop_length] at h3;exact⟨h1,h2,h3⟩
 rintro Z' H' ⟨⟨x,y,z,rfl⟩,s1,hn⟩;exact ay (aP bL) ((q H' s1).1 hn)
def jx(R:bg)(row:Str)(i:Nat):Nat:=match gu R.sort R.signs row i with
 |.int n=>n.toNat
 |_=>0
structure Cfg where
 on:List Nat
 aR:List Str
 marks:List (Nat×Str)
def eS(ms:List aE)(k:Nat):Str:=match ms[k]? with
 |some m=>m.aU
 |none=>""
def gU(ms:List aE)(k:Nat):List bg:=match ms[k]? with
 |some m=>m.rules
 |none=>[]
def iS (c:Cfg) (R:bg) (row:Str):Cfg:=⟨bQ c.on R.bz R.goal,c.aR++List.replicate (jx R row c.aR.length) R.aU,if R.fold = "" then c.marks else c.marks++[(c.aR.length,R.fold)]⟩
def gX(ms:List aE)(row:Str)(c:Cfg):Option Cfg:=match fE (gU ms (bU c.on)) row c.aR.length with
 |some R=>some (iS c R row)
 |none=>if c.aR.length<row.length then some ⟨c.on,c.aR++[eS ms (bU c.on)],c.marks⟩ else none
def goN(ms:List aE)(row:Str):Nat->Cfg->Option Cfg
 |0,c=>match gX ms row c with
  |none=>some c
  |some _=>none
 |n+1,c=>match gX ms row c with
  |none=>some c
  |some c'=>goN ms row n c'
def sV(h:gX ms row c=some c')(g:goN ms row n c'=some d):goN ms row (n+1) c=some d:=by rw[goN,h];exact g
def wz(h:gX ms row c=none):goN ms row n c=some c:=by
 cases n with
 |zero=>rw[goN,h]
 |succ n=>rw[goN,h]
theorem sQ:∀{n m:Nat} {c d:Cfg},n<=m->goN ms row n c=some d->goN ms row m c=some d
 |0,m,c,d,_,h=>by
  rw[goN] at h;cases e:gX ms row c with
  |none=>rw[e] at h;cases h;exact wz e
  |some c'=>rw[e] at h;cases h
 |n+1,0,c,d,h0,_=>by lia
 |n+1,m+1,c,d,h0,h=>by
  rw[goN] at h ⊢;cases e:gX ms row c with
  |none=>rw[e] at h;exact h
  |some c'=>rw[e] at h;exact sQ (by lia) h
def cA(row:Str)(i:Nat):Str:=match row.cps.toList[i]? with
 |some c=>⟨#[c]⟩
 |none=>""
def BA {s sg row:Str}  (h1:s ≠ "end") (h2:s ≠ "word") (e:row.cps.toList[i]?=some c):gu s sg row i ≠ .cD↔((s = "any" ∨ s = "still")∨(s = "none" /\ c∉sg.cps.toList)∨(s ≠ "none" /\ c∈sg.cps.toList)):=by
 rw[iJ h1 h2 e];by_cases h3:s = "any" ∨ s = "still"
 ·rw[if_pos h3];exact⟨λ_=>.inl h3,λ_ z=>by cases z⟩
 ·rw[if_neg h3];by_cases h4:s = "none"
  ·rw[if_pos h4];by_cases h5:c∈sg.cps.toList
   ·rw[if_pos h5];exact⟨λz=>absurd rfl z,λz=>by rcases z with z|z|z;(exact absurd z h3);(exact absurd h5 z.2);(exact absurd h4 z.1)⟩
   ·rw[if_neg h5];exact⟨λ_=>.inr (.inl ⟨h4,h5⟩),λ_ z=>by cases z⟩
  ·rw[if_neg h4];by_cases h5:c∈sg.cps.toList
   ·rw[if_pos h5];exact⟨λ_=>.inr (.inr ⟨h4,h5⟩),λ_ z=>by cases z⟩
   ·rw[if_neg h5];exact⟨λz=>absurd rfl z,λz=>by rcases z with z|z|z;(exact absurd z h3);(exact absurd z.1 h4);(exact absurd z.2 h5)⟩
def zF(hi:i<=row.length)(h:fX R (cA row i) 0=true)(hs:R.sort∈sorts):fX R row i=true:=by
 unfold fX at h ⊢;rw[aa8] at h ⊢;have hl:=cz row;cases e:row.cps.toList[i]? with
 |none =>
  have hi2:i=row.length:=by have:=List.getElem?_eq_none_iff.mp e;lia
  have es:cA row i = "" := by unfold cA;rw[e]
  rw[es] at h;have ee:(Str.ofString "").cps.toList=[]:=by decide +kernel
  rcases gB hs with hs|hs|hs|hs|hs|hs|hs <;> rw[hs] at h ⊢
  ·rw[gu,if_neg (by decide),if_pos rfl] at h ⊢;rw[show (("" : Str)).cps.toList=[] from ee] at h;have:row.cps.toList.drop i=[]:=af3 (by lia);rw[this];exact h
  all_goals first
   | (exfalso;exact h (jg (by decide) (by decide) (by decide)))
   | (rw[gu,if_pos rfl,if_pos hi2];intro z;cases z)
 |some c =>
  have hi2:i<row.length:=by have:=(i5.mp e).1;lia
  have es:cA row i=⟨#[c]⟩:=by unfold cA;rw[e]
  rw[es] at h;have e0:(⟨#[c]⟩:Str).cps.toList[0]?=some c:=rfl;rcases gB hs with hs|hs|hs|hs|hs|hs|hs <;> rw[hs] at h ⊢
  ·rw[gu,if_neg (by decide),if_pos rfl] at h ⊢;have hd:=jH e;rw[hd];intro z;apply h;by_cases y:((⟨#[c]⟩:Str).cps.toList.drop 0).take R.signs.length=R.signs.cps.toList
   ·exfalso;have y':[c].take R.signs.length=R.signs.cps.toList:=y;have yl:=ac1 List.length y';rw[cz,N0] at yl;have:(c::row.cps.toList.drop (i+1)).take R.signs.length=R.signs.cps.toList:=by
     rw[← y'];cases hsl:R.signs.length with
     |zero=>rfl
     |succ n =>
      rw[hsl] at yl;have:n=0:=by simp at yl;lia
      subst this;rfl
    rw[if_pos this] at z;cases z
   ·rw[if_neg y]
  all_goals first
   | (rw[gu,if_pos rfl,if_neg (by show ¬ 0=1;decide)] at h;exact absurd rfl h)
   |exact(BA (by decide) (by decide) e).mpr ((BA (by decide) (by decide) e0).mp h)
def n8  (h:s∈sorts) (h2:bE s=false):s = "still" ∨ s = "end" := by
 rcases gB h with rfl|rfl|rfl|rfl|rfl|rfl|rfl;all_goals first
  |exact .inl rfl
  |exact .inr rfl
  | (exfalso;revert h2;decide +kernel)
def AW(hi:i<=row.length)(h:fX R row i=true)(hs:R.sort∈sorts)(h2:bE R.sort=false):fX R (cA row i) 0=true:=by
 unfold fX at h ⊢;rw[aa8] at h ⊢;have hl:=cz row;cases e:row.cps.toList[i]? with
 |none =>
  have hi2:i=row.length:=by have:=List.getElem?_eq_none_iff.mp e;lia
  have es:cA row i = "" := by unfold cA;rw[e]
  rw[es];rcases n8 hs h2 with hs|hs <;> rw[hs] at h ⊢
  ·exact absurd (jg (by decide) (by decide) (by lia)) h
  ·rw[gu,if_pos rfl,if_pos (by decide +kernel)];intro z;cases z
 |some c =>
  have hi2:i<row.length:=by have:=(i5.mp e).1;lia
  have es:cA row i=⟨#[c]⟩:=by unfold cA;rw[e]
  have e0:(⟨#[c]⟩:Str).cps.toList[0]?=some c:=rfl;rw[es];rcases n8 hs h2 with hs|hs <;> rw[hs] at h ⊢
  ·rw[iJ (by decide) (by decide) e0,if_pos (by decide)];intro z;cases z
  ·rw[gu,if_pos rfl,if_neg (by lia)] at h;exact absurd rfl h
theorem uA:∀{rs:List bg} {k n:Nat} {R:bg},rs[n]?=some R->fX R row i=true->(∀j,j<n->∀R',rs[j]?=some R'->fX R' row i=false)->gK row i k rs=some (k+n)
 | [],k,n,R,h,_,_=>by simp at h
 |R0::r,k,0,R,h,hf,_=>by rw[ad5] at h;cases h;rw[gK,if_pos hf];rfl
 |R0::r,k,n+1,R,h,hf,hn=>by have h0:=hn 0 (by lia) R0 rfl;rw[gK,if_neg (by rw[h0];decide),uA (rs:=r) (n:=n) h hf (λj hj R' hR=>hn (j+1) (by lia) R' hR)];congr 1;lia
def CH(hok:∀R∈rs,R.sort∈sorts)(hi:i<=row.length)(h:fE rs row i=some R)(h2:bE R.sort=false):gF rs (cA row i)=some R:=by
 unfold fE at h;cases e:firstM rs row i with
 |none=>rw[e] at h;cases h
 |some n =>
  rw[e] at h;obtain⟨_,R',g1,g2,g3⟩:=jz e;rw[Nat.sub_zero] at g1 g3;have:R'=R:=X8 (g1.symm.trans h);subst this;have hm:=u8 g1;have hf:firstM rs (cA row i) 0=some n:=by
   have:=uA (row:=cA row i) (i:=0) (k:=0) g1 (AW hi g2 (hok _ hm) h2) (λj hj R' hR=>by
    cases z:fX R' (cA row i) 0 with
    |false=>rfl
    |true =>
     have:=zF hi z (hok _ (u8 hR));rw[g3 j hj R' hR] at this;cases this)
   rw[Nat.zero_add] at this;exact this
  rw[gF,fE,hf];show (rs[n]?).bind _=_;rw[g1];show (if bE R'.sort=true then none else some R')=some R';rw[if_neg (by rw[h2];decide)]
theorem JW(sg:List Nat):∀l:List Nat,k8 sg l<=l.length
 | []=>M2 _
 |c::r=>by
  rw[k8];split
  ·have:=JW sg r;rw[x0];lia
  ·exact X5 _
def Qa(hi:i<=row.length)(h:gu s sg row i = .int n):i+n.toNat<=row.length:=by
 have hl:=cz row;by_cases h1:s = "end"
 ·rw[gu,if_pos h1] at h;split at h
  ·have:=V.int.inj h;lia
  ·cases h
 ·by_cases h2:s = "word"
  ·rw[gu,if_neg h1,if_pos h2] at h;split at h
   ·rename_i hw;have:=ac1 List.length hw;rw[N0,U2,cz,cz] at this;have:=V.int.inj h;lia
   ·cases h
  ·cases e:row.cps.toList[i]? with
   |none=>rw[gu,if_neg h1,if_neg h2,e] at h;cases h
   |some c =>
    have hi2:i<row.length:=by have:=(i5.mp e).1;lia
    have hr:=JW sg.cps.toList (row.cps.toList.drop (i+1));rw[U2] at hr;rw[iJ h1 h2 e] at h;split at h
    ·have:=V.int.inj h;split at this <;> lia
    ·split at h
     ·split at h
      ·cases h
      ·have:=V.int.inj h;lia
     ·split at h
      ·have:=V.int.inj h;split at this <;> lia
      ·cases h
def Fz(hs:R.sort∈sorts)(hi:i<=row.length):i+jx R row i<=row.length:=by
 unfold jx;rcases nQ R.sort R.signs row i with ⟨n,e⟩|e
 ·rw[e];exact Qa hi e
 ·rw[e];exact hi
def Li    (he:bE s=true) (hg:s = "word" -> 1<=sg.length) (h:gu s sg row i = .int n):1<=n:=by
 have h1:s ≠ "end" := λz=>by rw[z] at he;revert he;decide +kernel
 have h1':s ≠ "still" := λz=>by rw[z] at he;revert he;decide +kernel
 by_cases h2:s = "word"
 ·rw[gu,if_neg h1,if_pos h2] at h;split at h
  ·have:=V.int.inj h;have:=hg h2;lia
  ·cases h
 ·cases e:row.cps.toList[i]? with
  |none=>rw[gu,if_neg h1,if_neg h2,e] at h;cases h
  |some c =>
   rw[iJ h1 h2 e] at h;split at h
   ·rename_i h3;have:=V.int.inj h;rcases h3 with h3|h3
    ·rw[if_pos h3] at this;lia
    ·exact absurd h3 h1'
   ·split at h
    ·split at h
     ·cases h
     ·have:=V.int.inj h;lia
    ·split at h
     ·have:=V.int.inj h;split at this <;> lia
     ·cases h
def Kx(hs:R.sort∈sorts)(he:bE R.sort=true)(hg:¬ bare R.sort->1<=R.signs.length)(hf:fX R row i=true):1<=jx R row i:=by
 unfold fX at hf;rw[aa8] at hf;unfold jx;rcases nQ R.sort R.signs row i with ⟨n,e⟩|e
 ·have:=Li he (λz=>hg (by rw[z];decide)) e;rw[e];show 1<=n.toNat;lia
 ·exact absurd e hf
def GN(hs:R.sort∈sorts)(he:bE R.sort=false):jx R row i=0:=by
 unfold jx;rcases n8 hs he with h|h <;> rw[h]
 ·cases e:row.cps.toList[i]? with
  |none=>rw[gu,if_neg (by decide),if_neg (by decide),e]
  |some c=>rw[iJ (by decide) (by decide) e,if_pos (by decide),if_neg (by decide)];rfl
 ·rw[gu,if_pos rfl];split
  ·rename_i e;split at e <;> cases e;rfl
  ·rfl
def oN(r:List Nat)(k:Nat):bU (r++[k])=k:=by unfold bU;simp
def GO  :(Str.ofString "mode " ++ n++Str.ofString " " ++ c:Str)=rowOf names (.mode n c):=by
 refine kE ?_;unfold rowOf;rw[fK,dW,dW,dW];show _=(Str.ofString "mode").cps.toList++32::(n.cps.toList++32::c.cps.toList)
 have e1:(Str.ofString "mode ").cps.toList=(Str.ofString "mode").cps.toList++[32]:=by decide +kernel
 have e2:(Str.ofString " ").cps.toList=[32]:=by decide +kernel
 rw[e1,e2];simp
def gJ(m:aE):List Item:=.mode m.name m.aU::m.rules.map .rule
def itemsOf(ms:List aE):List Item:=ms.flatMap gJ
def iM(a b:List aE):itemsOf (a++b)=itemsOf a++itemsOf b:=by unfold itemsOf;rw[List.flatMap_append]
def iO(m:aE):itemsOf [m]=gJ m:=by unfold itemsOf;simp
def xJ(rs:List bg):namesOf (rs.map Item.rule)=[]:=by
 induction rs with
 |nil=>rfl
 |cons r t ih=>show xD (.rule r)++namesOf (t.map Item.rule)=[];rw[ih];rfl
def KN(m:aE):namesOf (gJ m)=[m.name]:=by show xD (.mode m.name m.aU)++namesOf (m.rules.map Item.rule)=_;rw[xJ];rfl
def iR(ms:List aE):namesOf (itemsOf ms)=ms.map (·.name):=by
 induction ms with
 |nil=>rfl
 |cons m r ih =>
  rw[show m::r=[m]++r from rfl,iM,kR,iO,KN,ih];rfl
def qX(rs:List bg):∀(ms:List aE) (m:aE),(rs.map Item.rule).foldl stepI (ms++[m])=ms++[{ m with rules:=m.rules++rs }]:=by
 induction rs with
 |nil=>intro ms m;simp
 |cons r t ih =>
  intro ms m;rw[Y5,aj9,show stepI (ms++[m]) (Item.rule r)=jB r (ms++[m]) from rfl,kH,ih];simp
def Ig(ms:List aE)(m:aE):(gJ m).foldl stepI ms=ms++[m]:=by rw[gJ,aj9];show (m.rules.map Item.rule).foldl stepI (ms++[⟨m.name,m.aU,[]⟩])=_;rw[qX];simp
def ow(ms:List aE):∀acc:List aE,(itemsOf ms).foldl stepI acc=acc++ms:=by
 induction ms with
 |nil=>intro acc;simp[itemsOf]
 |cons m r ih =>
  intro acc;rw[show m::r=[m]++r from rfl,iM,List.foldl_append,iO,Ig,ih];simp
def sW(ms:List aE):foldI (itemsOf ms)=ms:=by have:=ow ms [];simpa [foldI] using this
structure Dn(ms:List aE):Prop where
 pos:0<ms.length
 vU:ms.length<=12
 nd:(ms.map (·.name)).Nodup
 nm:∀m∈ms,isName m.name=true/\isName m.aU=true
 six:∀m∈ms,m.rules.length<=12
 rule:∀m∈ms,∀R∈m.rules,fF (ms.map (·.name)) R
theorem uW(B:Dn ms):∀n,n<=ms.length->∀(i:Nat) it,(itemsOf (ms.take n))[i]?=some it ->
  (∀nm c,it = .mode nm c->isName nm=true/\isName c=true/\(namesOf ((itemsOf (ms.take n)).take i)).length<12/\nm∉namesOf ((itemsOf (ms.take n)).take i)) /\
  (∀R,it = .rule R->fF (ms.map (·.name)) R/\∃ms' m,foldI ((itemsOf (ms.take n)).take i)=ms'++[m]/\m.rules.length<12)
 |0,_,i,it,h=>by simp[itemsOf] at h
 |n+1,hn,i,it,h=>by
  have hm:ms[n]?=some ms[n]:=i4 hn;have e:itemsOf (ms.take (n+1))=itemsOf (ms.take n)++gJ ms[n]:=by rw[ae0 hm,iM,iO]
  rw[e] at h ⊢;have hmm:=ad9 hn;have r6:=B.six _ hmm;have h4:=B.vU;by_cases hi:i<(itemsOf (ms.take n)).length
  ·rw[Y9 hi] at h;rw[ae7 (by lia)];exact uW B n (by lia) i it h
  ·rw[X3 (by lia)] at h;rw[show (itemsOf (ms.take n)++gJ ms[n]).take i=itemsOf (ms.take n)++(gJ ms[n]).take (i-(itemsOf (ms.take n)).length) by
    rw[List.take_append,ab4 (by lia)]]
   generalize i-(itemsOf (ms.take n)).length=j at h;cases j with
   |zero =>
    have h:Item.mode ms[n].name ms[n].aU=it:=by simpa [gJ] using h
    subst h;refine⟨λnm c e=>?_,(λR e=>by cases e)⟩;cases e;obtain⟨n1,n2⟩:=B.nm _ hmm;rw[List.take_zero,ab2,iR];refine⟨n1,n2,by rw[d6,N0];lia,λhmem=>?_⟩;rw[ak1] at hmem;have hnd:=B.nd;obtain⟨j,hj⟩:=ab0.mp hmem;have hjn:j<n:=by have:=(i5.mp hj).1;rw[N0] at this;lia
    rw[List.getElem?_take_of_lt hjn] at hj;have hk:(ms.map (·.name))[n]?=some ms[n].name:=by rw[B1,hm];rfl
    obtain⟨j1,e1⟩:=i5.mp hj;obtain⟨k1,e2⟩:=i5.mp hk;have:=(List.getElem_inj hnd).mp (e1.trans e2.symm);lia
   |succ j =>
    have h:(ms[n].rules.map Item.rule)[j]?=some it:=by simpa [gJ] using h
    rw[B1] at h;obtain⟨R0,hR0,rfl⟩:=Q1.mp h;refine⟨(λnm c e=>by cases e),λR e=>?_⟩;cases e;refine⟨B.rule _ hmm _ (u8 hR0),ms.take n,⟨ms[n].name,ms[n].aU,ms[n].rules.take j⟩,?_,?_⟩
    ·unfold foldI;rw[List.foldl_append,ow,List.nil_append];have:=Ig (ms.take n) ⟨ms[n].name,ms[n].aU,ms[n].rules.take j⟩;rw[← this];congr 1;rw[gJ,gJ,aj1,ak1]
    ·show (ms[n].rules.take j).length<12;have hj0:=(i5.mp hR0).1;rw[N0];lia
def Dn.items(B:Dn ms):gA (itemsOf ms):=by
 have h:=uW B ms.length (M2 _);rw[ab6] at h;refine⟨?_,λi n c e=>(h i _ e).1 n c rfl,λi R e=>?_⟩
 ·intro z;have:=iR ms;rw[z] at this;have hl:=ac1 List.length this;rw[d6] at hl;have:=B.pos;simp[namesOf] at hl;lia
 ·rw[iR];exact(h i _ e).2 R rfl
theorem Dn.len(B:Dn ms):∀n,n<=ms.length->(itemsOf (ms.take n)).length<=n*13
 |0,_=>by simp[itemsOf]
 |n+1,hn=>by have hm:ms[n]?=some ms[n]:=i4 hn;have ih:=B.len n (by lia);have h6:=B.six _ (ad9 hn);rw[ae0 hm,iM,iO,o0,gJ,x0,d6];lia
def Dn.Ax(B:Dn ms):(itemsOf ms).length<=200:=by have:=B.len ms.length (M2 _);rw[ab6] at this;have:=B.vU;lia
def Dn.good(B:Dn ms):cT ms:=by
 have h12:=B.vU;refine⟨B.pos,by lia,λm hm=>⟨by have:=B.six m hm;lia,λR hR=>?_⟩,λm hm R hR=>(B.rule m hm R hR).bz,λm hm R hR hg=>?_⟩
 ·have g:=(B.rule m hm R hR).pat;refine⟨g.sort,?_⟩;by_cases hb:bare R.sort
  ·rw[g.Su hb];decide +kernel
  ·exact(g.sg hb).2.1
 ·obtain⟨g,e,h⟩:=(B.rule m hm R hR).goal hg;exact⟨g,e,by rw[d6] at h;exact h⟩
def GM(H:Hp)(lk:Addr)(mk:List (Nat×Str)):Prop:=∃ps,H lk=some (.lst (ps.map V.ref))/\bO (λp m=>H p=some (.tup [bS m.1,.str m.2])) ps mk
def GM.same(h:GM H lk mk)(s:ak H H'):GM H' lk mk:=by obtain⟨ps,a,b⟩:=h;exact⟨ps,s _ _ a,b.mono λ_ _ e=>s _ _ e⟩
def GF(H0 H:Hp)(lk:Addr)(mk:List (Nat×Str)):Prop:=∃ps:List Addr,H lk=some (.lst (ps.map V.ref))/\bO (λp m=>H p=some (.tup [bS m.1,.str m.2])) ps mk/\∀p∈ps,H0 p=none
def GF.gm(h:GF H0 H lk mk):GM H lk mk:=by obtain⟨ps,a,b,_⟩:=h;exact⟨ps,a,b⟩
def GF.same(h:GF H0 H lk mk)(s:ak H H'):GF H0 H' lk mk:=by obtain⟨ps,a,b,c⟩:=h;exact⟨ps,s _ _ a,b.mono λ_ _ e=>s _ _ e,c⟩
def GF.pP(h:GF H0 H lk mk)(hl:H l=some (.lst xs))(hn:lk≠l):GF H0 (upd H l o) lk mk:=by obtain⟨ps,a,b,c⟩:=h;exact⟨ps,by rw[aj hn];exact a,b.mono λp m e=>by rw[aj (cy e hl (by intro z;cases z))];exact e,c⟩
structure Told(H:Hp)(tp lt lo lk:Addr)(d:Cfg):Prop where
 tp:H tp=some (.tup [.ref lt,.ref lo,.ref lk])
 lt:H lt=some (.lst (d.aR.map V.str))
 lo:H lo=some (.lst (d.on.map bS))
 lk:GM H lk d.marks
inductive Rh(t:dU)(vs:List V)(H:Hp)(Q:VK)(_:XK):Prop|mk(a lo:Addr)(ms:List aE)(on:List Nat)(row:Str)(n:Nat)(d:Cfg)(_:vs=[.ref a,.ref lo,.str row])(_:IsRules t H a ms)(_:cT ms)(_:H lo=some (.lst (on.map bS)))(_:ju ms on)(_:row.length<=1000)(_:on.length<=50000)(_:n<=40000)(_:goN ms row n ⟨on,[],[]⟩=some d)(_:∀tp lt lo' lk H',Told H' tp lt lo' lk d->GF H H' lk d.marks->H lt=none->H lo'=none->H lk=none->lt≠lo'->lt≠lk->lo'≠lk->ak H H'->Q (.ref tp) H')
theorem xZ{α:Type}(x:α):∀n:Nat,(List.replicate n [x]).flatten=List.replicate n x
 |0=>rfl
 |n+1=>by rw[ae2,ah7,xZ x n,ae2];rfl
def Kl(h:fX R row i=true):gu R.sort R.signs row i=bS (jx R row i):=by
 unfold fX at h;rw[aa8] at h;unfold jx;have hn:∀n:Int,gu R.sort R.signs row i = .int n->0<=n:=by
  intro n;unfold gu;intro e;repeat' split at e
  all_goals first
   | (have:=V.int.inj e;lia)
   |cases e
 rcases nQ R.sort R.signs row i with ⟨n,e⟩|e
 ·rw[e];have:=hn n e;show V.int n=V.int ((n.toNat:Nat):Int);rw[show ((n.toNat:Nat):Int)=n by lia]
 ·exact absurd e h
def Qg (T:Txt K mg t):bw P w K mg base dM 3 t.HJ t.Oj ["rules","modes","row"] (Rh t):=by
 refine T.Gy.ok lK λvs H Q E h=>?_;obtain⟨a,lh,ms,on,row,n,d,rfl,hR,G,hlh,hok,hrow,honl,hn,hgo,q⟩:=h;walk_at "i";refine au (cR 3 lK (cQ gG (by rfl) T.kh (by decide +kernel) (aa (pv 1) ai))) ⟨_,rfl,lh,_,rfl,.inl (bq.of hlh),λlo hlo=>?_⟩;have s1:ak H (upd H lo (.lst (on.map bS))):=ak.upd hlo;have ho1:upd H lo (.lst (on.map bS)) lo=some (.lst (on.map bS)):=af;generalize upd H lo (.lst (on.map bS))=H1 at s1 ho1;refine au (cR 4 lK (bD ai)) ⟨by show 0<=sizeLine;decide,λlt hlt=>?_⟩;have s2:ak H1 (upd H1 lt (.lst [])):=ak.upd hlt;have ht2:upd H1 lt (.lst []) lt=some (.lst []):=af;have ho2:=s2 _ _ ho1;have not_:lo≠lt:=av ho1 hlt;have hlt0:H lt=none:=s1.free hlt;generalize upd H1 lt (.lst [])=H2 at s2 ht2 ho2;have s2:=s1.trans s2;refine au (cR 5 lK (bD ai)) ⟨by show 0<=sizeLine;decide,λlk hlk=>?_⟩;have s3:ak H2 (upd H2 lk (.lst [])):=ak.upd hlk;have hk3:upd H2 lk (.lst []) lk=some (.lst []):=af;have ho3:=s3 _ _ ho2;have ht3:=s3 _ _ ht2;have nok:lo≠lk:=av ho2 hlk;have ntk:lt≠lk:=av ht2 hlk;have hlk0:H lk=none:=s2.free hlk;generalize upd H2 lk (.lst [])=H3 at s3 hk3 ho3 ht3;have s3:=s2.trans s3;show At _ _ _ [some (.ref a),some (.ref lh),some (.str row),some (.ref lo),some (.ref lt),some (.ref lk),none,none,none,none] H3;refine ay (oW ab3 (eN pq) aq) ⟨λm Z' H'=>∃c:Cfg,(∃x6 x7 x8 x9,Z'=[some (.ref a),some (.ref lh),some (.str row),some (.ref lo),some (.ref lt),some (.ref lk),x6,x7,x8,x9])/\H' lo=some (.lst (c.on.map bS))/\H' lt=some (.lst (c.aR.map V.str))/\GF H H' lk c.marks/\ju ms c.on/\c.aR.length<=row.length/\c.on.length+m<=on.length+n/\c.marks.length+m<=n/\goN ms row m c=some d/\ak H H',⟨n,⟨on,[],[]⟩,⟨_,_,_,_,rfl⟩,ho3,ht3,⟨[],hk3,bO.nil,by simp⟩,hok,X5 _,M2 _,by simp,hgo,s3⟩,?_⟩;rintro m Z' H4 ⟨c,⟨x6,x7,x8,x9,rfl⟩,ho4,ht4,hk4,hok4,htl4,hol4,hml4,hgo4,s4⟩;refine⟨true,rfl,kX ⟨_,λZ' H' z=>z,?_⟩⟩;refine au (cR 6 lK (aM aS (by rfl) T.bW (by decide +kernel) (aa (pv 4) ai))) ⟨_,rfl,_,_,rfl,.inl (bq.of ht4),?_⟩;rw[d6];show At _ _ _ [some (.ref a),some (.ref lh),some (.str row),some (.ref lo),some (.ref lt),some (.ref lk),some (.int c.aR.length),x7,x8,x9] H4;obtain⟨md,hm⟩:=hok4.mode;have hmm:=u8 hm;obtain⟨dx,lm,as,b,lr,dm,rs,ha,hlm,hal,hb,hmo,hlr,hA⟩:=(hR.same s4).mode hm;have hru:gU ms (bU c.on)=md.rules:=by rw[gU,hm]
 refine au (cR 7 lK (aY aQ (aJ (pv 0) rfl) (aY aQ (pv 3) (jJ gW ao) (λ_ _=>rfl)) (λ_ _=>rfl))) (⟨_,rfl,_,_,_,_,_,rfl,ha,T.iP,T.dc,rfl,⟨_,rfl,_,rfl,_,_,_,_,rfl,rfl,bq.of ho4,ir (jr hok4.1),_,_,_,_,rfl,rfl,bq.of hlm,gP hb,?_⟩⟩);refine au (cR 8 lK (aN (FZ T) hr.m rfl T.Ea T.xg.kp T.xg.b4 .nil aH (aa (pv 0) (aa (aY aQ (pv 3) (jJ gW ao) (λ_ _=>rfl)) (aa (pv 2) (aa (pv 6) ai)))))) ⟨_,rfl,_,rfl,_,rfl,_,_,_,_,rfl,rfl,bq.of ho4,ir (jr hok4.1),_,rfl,_,rfl,a,ms,md,bU c.on,c.aR.length,row,rfl,hR.same s4,hm,G.ok md hmm,hrow,htl4,λH5 s5=>?_⟩;have ho5:=s5 _ _ ho4;have ht5:=s5 _ _ ht4;have hk5:=hk4.same s5;have s5':=s4.trans s5;cases hf:firstM md.rules row c.aR.length with
 |none =>
  have hrn:fE (gU ms (bU c.on)) row c.aR.length=none:=by rw[hru,fE,hf];rfl
  refine ay (aW (aB iY (pv 8) bL (aD _)) aq aq) ⟨_,rfl,rfl,_,rfl,lR (λh=>absurd rfl h) (λ_=>?_)⟩;refine ay (aW (aB ie (pv 6) (aM bJ (by rfl) T.bW (by decide +kernel) (aa (pv 2) ai)) (aD _)) aq aq) ⟨_,rfl,_,rfl,_,rfl,b7 (by lia),_,_,rfl,rfl,_,rfl,dI (λh=>?_) (λh=>?_)⟩
  ·have hlt':c.aR.length<row.length:=by lia
   have hst:gX ms row c=some ⟨c.on,c.aR++[eS ms (bU c.on)],c.marks⟩:=by rw[gX,hrn];show (if c.aR.length<row.length then _ else _)=_;rw[if_pos hlt']
   have ecol:eS ms (bU c.on)=md.aU:=by rw[eS,hm]
   refine ay (aX (dF Y8 Y6 aa0 bZ (pv 4) (aa (aJ (pv 7) rfl) ai))) ⟨_,rfl,.inl ⟨rfl,_,bq.of ht5⟩,⟨_,rfl,_,_,_,_,_,rfl,(s5 _ _ hmo),T.fR,T.jO,rfl,⟨lt,_,_,rfl,rfl,ht5,eT (by rw[d6];lia),?_⟩⟩⟩;obtain⟨m',rfl⟩:∃m',m=m'+1:=by
    cases m with
    |zero=>rw[goN,hst] at hgo4;cases hgo4
    |succ m'=>exact⟨m',rfl⟩
   rw[goN,hst] at hgo4;refine⟨m',by lia,⟨c.on,c.aR++[eS ms (bU c.on)],c.marks⟩,⟨_,_,_,_,rfl⟩,?_,?_,hk5.pP ht5 (aa3 ntk),hok4,?_,?_,?_,hgo4,?_⟩
   ·rw[aj not_];exact ho5
   ·rw[af];show _=some (HO.lst ((c.aR++[eS ms (bU c.on)]).map V.str));rw[P2,ecol];rfl
   ·show (c.aR++[eS ms (bU c.on)]).length<=_;rw[o0,x0,Y7];lia
   ·show c.on.length+m'<=_;lia
   ·show c.marks.length+m'<=_;lia
   ·intro b o hb;rw[aj (av hb hlt0)];exact s5' _ _ hb
  ·have hst:gX ms row c=none:=by rw[gX,hrn];show (if c.aR.length<row.length then _ else _)=_;rw[if_neg (by lia)]
   have hd:d=c:=by rw[wz hst] at hgo4;exact(X8 hgo4).symm
   subst hd;refine ay (aP (br (aa (pv 4) (aa (pv 3) (aa (pv 5) ai))))) ⟨_,rfl,_,rfl,_,rfl,by show 3<=sizeLine;decide,λtp htp=>?_⟩;refine q tp lt lo lk _ ⟨af,?_,?_,(hk5.same (ak.upd htp)).gm⟩ (hk5.same (ak.upd htp)) hlt0 hlo hlk0 (aa3 not_) ntk nok (s5'.to htp)
   ·exact ak.upd htp _ _ ht5
   ·exact ak.upd htp _ _ ho5
 |some j =>
  obtain⟨R,hj,hruR,hfit⟩:=xm hf;have hRm:=u8 hj;obtain⟨g1,g2⟩:=(G.ok md hmm).2 R hRm;obtain⟨r,hr0,hr1⟩:=hA.at hj;obtain⟨fe,fs,de,ds,PK⟩:=Lx (P:=P) (w:=w) (base:=base) T g1;have hst:gX ms row c=some (iS c R row):=by rw[gX,hru,hruR]
  obtain⟨m',rfl⟩:∃m',m=m'+1:=by
   cases m with
   |zero=>rw[goN,hst] at hgo4;cases hgo4
   |succ m'=>exact⟨m',rfl⟩
  rw[goN,hst] at hgo4;have hr5:=hr1.same s5;have hel:=Fz (R:=R) (row:=row) g1 htl4;refine ay (aW (aB iY (pv 8) bL (aD _)) aq aq) ⟨_,rfl,rfl,_,rfl,lR (λ_=>?_) (λh=>by cases h)⟩;refine au (cR 9 lK (aY aQ (aJ (pv 7) rfl) (pv 8) (λ_ _=>rfl))) (⟨_,rfl,_,_,_,_,_,rfl,(s5 _ _ hmo),T.fR,T.fU,rfl,⟨_,rfl,_,_,_,_,rfl,rfl,bq.of (s5 _ _ hlr),gP hr0,?_⟩⟩);obtain⟨dr,pa,o1,dp,o2⟩:=id hr5;refine au (aX (dF Y8 F.slot_list_extend F.type_list_extend D5 (pv 4) (aa (bh sX (bD (aa (aJ (pv 9) rfl) ai)) (bB (aJ (pv 9) rfl) PK.cl PK.me PK.ge hr.m PK.be .nil aH (aa (pv 2) (aa (pv 6) ai)))) ai))) ⟨_,rfl,.inl ⟨rfl,_,bq.of ht5⟩,⟨_,rfl,_,_,_,_,_,rfl,o1,T.cG,T.jM,rfl,⟨by show 1<=sizeLine;decide,λl1 hl1=>?_⟩⟩⟩;have s6:ak H5 (upd H5 l1 (.lst [.str R.aU])):=ak.upd hl1;have hl6:upd H5 l1 (.lst [.str R.aU]) l1=some (.lst [.str R.aU]):=af;generalize upd H5 l1 (.lst [.str R.aU])=H6 at s6 hl6;refine⟨_,rfl,_,_,_,_,_,rfl,(s6 _ _ o1),T.cG,T.fC,rfl,⟨pa,dp,_,rfl,s6 _ _ o2,PK.ne _,_,rfl,_,rfl,pa,dp,R.signs,row,c.aR.length,rfl,s6 _ _ o2,by lia,hrow,htl4,?_⟩⟩;rw[Kl hfit];refine⟨l1,_,_,rfl,rfl,hl6,by lia,by lia,by rw[aa5];exact b7 (by simp only[x0,Y7];lia),λl2 hl2=>?_⟩;rw[aa5,xZ];have s7:ak H5 (upd H6 l2 (.lst (List.replicate (jx R row c.aR.length) (V.str R.aU)))):=s6.to hl2;have hl7:upd H6 l2 (.lst (List.replicate (jx R row c.aR.length) (V.str R.aU))) l2=some (.lst (List.replicate (jx R row c.aR.length) (V.str R.aU))):=af;generalize upd H6 l2 (.lst (List.replicate (jx R row c.aR.length) (V.str R.aU)))=H7 at s7 hl7;have ht7:=s7 _ _ ht5;have ho7:=s7 _ _ ho5;have hk7:=hk5.same s7;refine⟨lt,l2,_,_,rfl,rfl,ht7,hl7,b7 (by rw[d6,ah3];lia),?_⟩;have ht8:upd H7 lt (.lst (c.aR.map V.str++List.replicate (jx R row c.aR.length) (V.str R.aU))) lt=some (.lst ((iS c R row).aR.map V.str)):=by rw[af];show _=some (HO.lst ((c.aR++List.replicate (jx R row c.aR.length) R.aU).map V.str));rw[P2,List.map_replicate]
  have ho8:upd H7 lt (.lst (c.aR.map V.str++List.replicate (jx R row c.aR.length) (V.str R.aU))) lo=some (.lst (c.on.map bS)):=by rw[aj not_];exact ho7
  have hk8:GF H (upd H7 lt (.lst (c.aR.map V.str++List.replicate (jx R row c.aR.length) (V.str R.aU)))) lk c.marks:=hk7.pP ht7 (aa3 ntk);have hr8:dG t (upd H7 lt (.lst (c.aR.map V.str++List.replicate (jx R row c.aR.length) (V.str R.aU)))) r R:=(hr5.same s7).pP ht7;have s8:ak H (upd H7 lt (.lst (c.aR.map V.str++List.replicate (jx R row c.aR.length) (V.str R.aU)))):=λb o hb=>by rw[aj (av hb hlt0)];exact s7 _ _ (s5' _ _ hb)
  generalize upd H7 lt (.lst (c.aR.map V.str++List.replicate (jx R row c.aR.length) (V.str R.aU)))=H8 at ht8 ho8 hk8 hr8 s8;refine aI (λZ' H'=>(∃x7 x8,Z'=[some (.ref a),some (.ref lh),some (.str row),some (.ref lo),some (.ref lt),some (.ref lk),some (.int c.aR.length),x7,x8,some (.ref r)])/\H' lo=some (.lst (c.on.map bS))/\H' lt=some (.lst ((iS c R row).aR.map V.str))/\GF H H' lk (iS c R row).marks/\dG t H' r R/\ak H H') (aW (aB kJ (aJ (pv 9) rfl) aA (aD _)) aq aq) ?_ ?_
  ·obtain⟨dr8,pa8,o8,p8⟩:=id hr8;refine⟨_,rfl,_,_,_,_,_,rfl,o8,T.cG,T.jI,rfl,⟨rfl,_,rfl,lR (λh=>?_) (λh=>bu ⟨⟨_,_,rfl⟩,ho8,ht8,?_,hr8,s8⟩)⟩⟩
   ·have h:R.fold ≠ "" := λz=>h (by rw[z]);obtain⟨ps,hps,hAp,hfr⟩:=hk8;refine ay (aX (dF Y8 Y6 aa0 bZ (pv 5) (aa (br (aa (pv 6) (aa (aJ (pv 9) rfl) ai))) ai))) ⟨_,rfl,.inl ⟨rfl,_,bq.of hps⟩,_,rfl,⟨_,rfl,_,_,_,_,_,rfl,o8,T.cG,T.jI,rfl,⟨by show 2<=sizeLine;decide,λtp htp=>?_⟩⟩⟩;have s9:ak H8 (upd H8 tp (.tup [.int c.aR.length,.str R.fold])):=ak.upd htp;have hp9:upd H8 tp (.tup [.int c.aR.length,.str R.fold]) tp=some (.tup [.int c.aR.length,.str R.fold]):=af;generalize upd H8 tp (.tup [.int c.aR.length,.str R.fold])=H9 at s9 hp9;have hps9:=s9 _ _ hps;have hpl:ps.length<=100000:=by rw[hAp.1];lia
    refine⟨lk,_,_,rfl,rfl,hps9,eT (by rw[d6];lia),⟨_,_,rfl⟩,?_,?_,?_,?_,?_⟩
    ·rw[aj nok];exact s9 _ _ ho8
    ·rw[aj ntk];exact s9 _ _ ht8
    ·have em:(iS c R row).marks=c.marks++[(c.aR.length,R.fold)]:=if_neg h;rw[em];refine⟨ps++[tp],by rw[af,P2];rfl,bO.snoc (hAp.mono λp m e=>?_) ?_,λp hp=>?_⟩
     ·rw[aj (cy (s9 _ _ e) hps9 (by intro z;cases z))];exact s9 _ _ e
     ·rw[aj (cy hp9 hps9 (by intro z;cases z))];exact hp9
     ·rcases aa1.mp hp with hp|hp
      ·exact hfr p hp
      ·rw[v6.mp hp];exact s8.free htp
    ·exact(hr8.same s9).pP hps9
    ·intro b o hb;rw[aj (av hb hlk0)];exact s9 _ _ (s8 _ _ hb)
   ·have h:R.fold = "" := V.str.inj h;have em:(iS c R row).marks=c.marks:=if_pos h;rw[em];exact hk8
  rintro Z' H9 ⟨⟨y7,y8,rfl⟩,ho9,ht9,hk9,hr9,s9⟩;refine ay (aX (aN (Gh T) hr.m rfl T.Hw T.yL.kp T.yL.b2 .nil aH (aa (pv 3) (aa (pv 9) ai)))) ⟨_,rfl,_,rfl,lo,r,c.on,R,rfl,ho9,hr9,hok4.1,by lia,G.gd hmm hRm,?_⟩;have hdl:=rV (on:=c.on) (d:=R.bz) (g:=R.goal);refine⟨m',by lia,iS c R row,⟨_,_,_,_,rfl⟩,af,?_,hk9.pP ho9 (aa3 nok),hok4.bz G hmm hRm,?_,?_,?_,hgo4,?_⟩
  ·rw[aj (aa3 not_)];exact ht9
  ·show (c.aR++List.replicate _ _).length<=_;rw[o0,ah3];exact hel
  ·show (bQ c.on R.bz R.goal).length+m'<=_;lia
  ·show (if R.fold = "" then c.marks else c.marks++[(c.aR.length,R.fold)]).length+m'<=_;split
   ·lia
   ·rw[o0,x0,Y7];lia
  ·intro b o hb;rw[aj (av hb hlo)];exact s9 _ _ hb
def join_eq(sep:Str)(ys:List Str):PySem.Txt.join sep ys=Str.join sep ys:=ak5 (PyProof.Rows.join_plain_closes sep ys)
def pick{xs:List Str}{d:Int}(h0:0<=d)(h1:d<xs.length):∃x∈xs,uv (xs.map V.str) d=some (.str x):=by obtain⟨v,e1,e2⟩:=AO (xs.map V.str) h0 (by rw[d6];exact h1);rw[B1] at e1;obtain⟨x,e3,rfl⟩:=Q1.mp e1;exact⟨x,u8 e3,e2⟩
def yZ(h:b=c)(k:if c=true then A else B):if b=true then A else B:=by rw[h];exact k
inductive RL(K:PySem.W.Frag)(vs:List V)(H:Hp)(Q:VK)(_:XK):Prop|mk(a:Addr)(ns:List Int)(k m:Int)(_:vs=[.ref a,.int k,.int m])(_:bq K H a (ns.map V.int))(_:0<=k)(_:k<=100000)(_:0<m)(_:m<=1000000)(_:ns.length<=63)(_:∀d H',0<=d->d<m->ak H H'->Q (.int d) H')
def fH (T:Txt K mg t):bw P w K mg base dM 1 t.FQ t.OU ["_law_script","_law_k","_law_many"] (RL K):=by
 refine T.cN.ok vO λvs H Q E h=>?_;obtain⟨a,ns,k,m,rfl,hS,hk0,hk1,hm,hm1,hl,q⟩:=h;walk_at "i";refine aI (λZ' H'=>∃c:Int,Z'=[some (.ref a),some (.int k),some (.int m),some (.int c),none,none]/\(ns=[]->c=0)/\H'=H) (cR 3 vO (cO (aB j7 (aM aS (by rfl) T.bW (by decide +kernel) (aa (pv 0) ai)) ao (aD _)) (aY aQ (pv 0) (bh lX (pv 1) (aM aS (by rfl) T.bW (by decide +kernel) (aa (pv 0) ai))) (λ_ _=>rfl)) ao)) ?_ ?_
 ·refine⟨_,rfl,_,_,rfl,.inl hS,_,_,rfl,rfl,_,rfl,dI (λh=>?_) (λh=>⟨0,rfl,λ_=>rfl,rfl⟩)⟩;refine⟨_,rfl,_,rfl,_,rfl,_,_,rfl,.inl hS,_,_,rfl,rfl,h,?_⟩;obtain⟨h1,h2⟩:=sD k h;obtain⟨v,e1,e2⟩:=AO (ns.map V.int) h1 h2;rw[B1] at e1;obtain⟨c,e3,rfl⟩:=Q1.mp e1;exact⟨_,_,_,_,rfl,rfl,hS,e2,c,rfl,(λz=>by rw[z] at h;simp at h),rfl⟩
 rintro Z' H' ⟨c,rfl,hc0,e⟩;rw[e];clear e H';refine aI (λZ' H'=>∃x:Int,Z'=[some (.ref a),some (.int k),some (.int m),some (.int c),some (.int x),none]/\(ns=[]->x=0)/\H'=H) (cR 4 vO (bh Qn (pv 3) (bh bX (bh nK ao (bh Lw (pv 1) (aM (CL rfl) (by rfl) T.TY (by decide +kernel) (aa ao (aa (aM aS (by rfl) T.bW (by decide +kernel) (aa (pv 0) ai)) ai))))) ao))) ?_ ?_
 ·have hmx:(1:Int)<=(if ((ns.map V.int).length:Int)>1 then ((ns.map V.int).length:Int) else 1)/\(if ((ns.map V.int).length:Int)>1 then ((ns.map V.int).length:Int) else 1)<1073741824:=by rw[d6];split <;> lia
  refine⟨_,rfl,_,rfl,_,rfl,_,_,rfl,.inl hS,_,_,rfl,_,_,rfl,rfl,⟨by lia,hmx.2⟩,_,_,rfl,rfl,.inl ⟨by decide,by decide⟩,_,_,rfl,rfl,_,_,rfl,rfl,?_,_,rfl,λz=>?_,rfl⟩
  ·have:0<=k / (if ((ns.map V.int).length:Int)>1 then ((ns.map V.int).length:Int) else 1):=Int.ediv_nonneg hk0 (by lia);lia
  ·rw[hc0 z,Int.zero_ediv]
 rintro Z' H' ⟨x,rfl,hx0,e⟩;rw[e];clear e H';refine aI (λZ' H'=>(Z'=[some (.ref a),some (.int k),some (.int m),some (.int c),some (.int x),none])/\ak H H') (aW (PW.pt (jS (aB oZ (pv 4) (br (aa ao (aa (jJ gW ao) ai))) rfl) (i0 (aB bN (bh lX (aY aQ (pv 0) ao (λ_ _=>rfl)) ao) ao (aD _))))) aq aq) ?_ ?_
 ·refine⟨_,rfl,_,rfl,by show 2<=sizeLine;decide,λp hp=>⟨p,_,rfl,.inr (fB.of af),rfl,rfl,_,rfl,?_⟩⟩;have s1:ak H (upd H p (.tup [.int 0,.int (-1)])):=ak.upd hp;by_cases hin:R3 (V.int x) [.int 0,.int (-1)]=true
  ·refine yZ (c:=false) (by show (!R3 (V.int x) [.int 0,.int (-1)])=false;rw[hin];rfl) ?_;exact bu ⟨rfl,s1⟩
  ·refine yZ (c:=true) (by show (!R3 (V.int x) [.int 0,.int (-1)])=true;rw[Bool.not_eq_true] at hin;rw[hin];rfl) ?_;obtain⟨n0,r0,rfl⟩:∃n0 r0,ns=n0::r0:=by
    cases ns with
    |nil=>rw[hx0 rfl] at hin;exact absurd (by decide) hin
    |cons x r=>exact⟨x,r,rfl⟩
   have hS1:=hS.same s1;refine⟨_,rfl,_,_,_,_,rfl,rfl,hS1,aO (j:=0) rfl,_,_,rfl,rfl,(by show (0:Int)<2;decide),rfl,_,rfl,dI (λh2=>?_) (λh2=>bu ⟨rfl,s1⟩)⟩;have hd:=sD (x % 1048576) hm;exact ay (aP (bh lX (bh lX (pv 4) ao) (pv 2))) ⟨_,rfl,_,_,rfl,rfl,(by show (0:Int)<1048576;decide),_,rfl,_,_,rfl,rfl,hm,q _ _ hd.1 hd.2 s1⟩
 rintro Z' H' ⟨rfl,s1⟩;refine au (cR 5 vO (bh bX (bh bX (bh lX (pv 3) ao) (bh nK (bh nK ao (pv 1)) (pv 1))) ao)) ?_;walk_at "rd";refine⟨by decide,.inl ⟨by decide,by decide⟩,.inr ⟨by lia,by lia⟩,?_⟩;refine ay (aP (bh lX (bh lX (bh nK (bh lX (bh nK (pv 5) ao) ao) ao) ao) (pv 2))) ?_;walk_at "rd";have hd:=sD ((c % 1000003+31*k*k+1)*48271 % 999983*7919 % 524287) hm;exact⟨.inr ⟨by decide,by decide⟩,by decide,.inr ⟨by decide,by decide⟩,by decide,hm,q _ _ hd.1 hd.2 s1⟩
open Classical in
noncomputable def hid(S:Addr->Prop)(H:Hp):Hp:=λb=>if S b then none else H b
def aC:ak (hid S H) H:=λb o h=>by
 unfold hid at h;split at h
 ·cases h
 ·exact h
def bA(h:H b=some o)(n:¬ S b):hid S H b=some o:=by unfold hid;rw[if_neg n];exact h
def bR(h:hid S H b=some o):¬ S b:=λz=>by unfold hid at h;rw[if_pos z] at h;cases h
def aT(s:ak H H'):ak (hid S H) (hid S H'):=λb o h=>bA (s _ _ (aC _ _ h)) (bR h)
def oV(hl:S l):hid S (upd H l o)=hid S H:=by
 funext b;unfold hid;split
 ·rfl
 ·rename_i h;rw[aj (λz=>h (by rw[z];exact hl))]
def zf(h:∀b,S b->S' b):ak (hid S' H) (hid S H):=λb o e=>bA (aC _ _ e) (λz=>bR e (h b z))
def Ex(S:Addr->Prop)(H:Hp):Prop:=∀b,S b->∃o,H b=some o
def Ex.new{S:Addr->Prop}{H:Hp}(e:Ex S H){b:Addr}(h:H b=none):¬ S b:=λz=>by obtain⟨o,ho⟩:=e b z;rw[h] at ho;cases ho
def Ex.same(e:Ex S H)(s:ak H H'):Ex S H':=λb z=>let ⟨o,ho⟩:=e b z;⟨o,s _ _ ho⟩
def Ex.none(H:Hp):Ex (λ_=>False) H:=λ_ z=>z.elim
inductive Uh(t:dU)(vs:List V)(H:Hp)(Q:VK)(_:XK):Prop|mk(r:Addr)(S:Addr->Prop)(R:bg)(_:vs=[.ref r])(_:dG t (hid S H) r R)(_:Ex S H)(_:∀r' H',dG t (hid S H') r' R->ak H H'->Q (.ref r') H')
def Sw (T:Txt K mg t):bw P w K mg base dM 3 t.Ho t.O3 ["rule"] (Uh t):=by
 refine T.Eo.ok RC λvs H Q E h=>?_;obtain⟨r,S,R,rfl,⟨dr,pa,o1',hp⟩,hz,q⟩:=h;walk_at "i";have o1:=aC _ _ o1';refine ay (aP (dP T.Bf (Ez T) hr.m rfl T.yJ T.JO.b6 .nil aH (aa (aJ (pv 0) rfl) (aa (aJ (pv 0) rfl) (aa (aJ (pv 0) rfl) (aa (aJ (pv 0) rfl) (aa (aJ (pv 0) rfl) ai))))))) ?_;refine⟨_,rfl,_,_,_,_,_,rfl,o1,T.cG,T.fC,rfl,?_⟩;refine⟨_,rfl,_,_,_,_,_,rfl,o1,T.cG,T.jM,rfl,?_⟩;refine⟨_,rfl,_,_,_,_,_,rfl,o1,T.cG,T.gy,rfl,?_⟩;refine⟨_,rfl,_,_,_,_,_,rfl,o1,T.cG,T.jy,rfl,?_⟩;refine⟨_,rfl,_,_,_,_,_,rfl,o1,T.cG,T.jI,rfl,?_⟩;refine λx dx' nx ndx ne=>⟨x,dx',pa,R,rfl,af,rfl,?_⟩
 exact q x _ ⟨dx',pa,bA af (hz.new nx),hp.same (aT (gp nx ndx))⟩ (gp nx ndx)
inductive U8(t:dU)(vs:List V)(H:Hp)(Q:VK)(_:XK):Prop|mk(b l dm:Addr)(S:Addr->Prop)(m:aE)(rs:List Addr)(_:vs=[.ref b])(_:hid S H b=some (.ins t.dX dm (mf m l)))(_:hid S H l=some (.lst (rs.map V.ref)))(_:bO (dG t (hid S H)) rs m.rules)(_:Ex S H)(_:m.rules.length<=200)(_:∀b' l' dm' rs' H',hid S H' b'=some (.ins t.dX dm' (mf m l'))->hid S H' l'=some (.lst (rs'.map V.ref))->bO (dG t (hid S H')) rs' m.rules->H l'=none->ak H H'->Q (.ref b') H')
def Q7 (T:Txt K mg t):bw P w K mg base dM 4 t.Fw t.MO ["mode"] (U8 t):=by
 refine T.Gg.ok P0 λvs H Q E h=>?_;obtain⟨b,l,dm,S,m,rs,rfl,hb',hl',hA,hz,hlen,q⟩:=h;walk_at "i";have hb:=aC _ _ hb';have hl:=aC _ _ hl';refine ay (@aP _ _ _ _ (@dP _ _ _ _ _ _ _ _ _ _ _ _ _ _ _ _ _ T.B3 (GW T) hr.m rfl T.yP T.Eu.b4 .nil aH (aa (@aJ _ _ _ _ _ (pv 0) rfl) (aa (@aJ _ _ _ _ _ (pv 0) rfl) (aa (@i6 _ (az Jg) _ ["mode"] _ _ ("rule") _ _ [] _ _ (by walk_at "ck") (@gH _ _ _ _ (@aJ _ _ _ _ _ (pv 0) rfl)) (λ_ _ _ _=>by exact(@aN _ _ _ _ _ _ _ _ _ _ _ _ _ _ _ _ (Sw T) hr.m rfl T.Qp T.Eo.kp T.Eo.b1 .nil aH (aa (pv 0) ai (by left)) (by left) (by left) (by left))) (by left) (by left) (by left) (by left)) ai (by left)) (by left)) (by left)) (by left) (by left) (by left))) ?_;refine⟨_,rfl,_,_,_,_,_,rfl,hb,T.fR,T.jA,rfl,?_⟩;refine⟨_,rfl,_,_,_,_,_,rfl,hb,T.fR,T.jO,rfl,?_⟩;refine⟨_,rfl,_,_,_,_,_,rfl,hb,T.fR,T.fU,rfl,?_⟩;refine⟨l,rfl,⟨_,bq.of hl⟩,ja (xs:=rs.map V.ref) (λi ys H2=>∃rs2:List Addr,ys=rs2.map V.ref/\bO (dG t (hid S H2)) rs2 (m.rules.take i)/\ak H H2) ⟨[],rfl,bO.nil,ak.refl H⟩ (eT (by rw[d6,hA.1];lia)) ?_ ?_ ?_⟩
 ·rintro i ys H2 _ ⟨_,_,_,s2⟩;exact bq.of (s2 _ _ hl)
 ·rintro i xv ys H2 hx hyl ⟨rs2,rfl,hA2,s2⟩;rw[B1] at hx;obtain⟨r,hr0,rfl⟩:=Q1.mp hx;have hi:=(i5.mp hr0).1;have hRi:m.rules[i]?=some (m.rules[i]'(by rw[← hA.1];exact hi)):=i4 _;have hR:=hA.2 i r _ hr0 hRi;refine⟨_,rfl,r,S,_,rfl,hR.same (aT s2),hz.same s2,λr' H3 hr3 s3=>d7 (by rw[d6];exact hi) hyl ⟨rs2++[r'],by rw[P2];rfl,?_,s2.trans s3⟩⟩;rw[ae0 hRi];exact bO.snoc (hA2.mono λ_ _ y=>y.same (aT s3)) hr3
 ·rintro ys H2 hyl ⟨rs2,rfl,hA2,s2⟩ D hD;rw[d6,hA.1,ab6] at hA2;have s3:ak H (upd H2 D (.lst (rs2.map V.ref))):=s2.to hD;have hD3:upd H2 D (.lst (rs2.map V.ref)) D=some (.lst (rs2.map V.ref)):=af;have hA3:bO (dG t (hid S (upd H2 D (.lst (rs2.map V.ref))))) rs2 m.rules:=hA2.mono λ_ _ y=>y.same (aT (ak.upd hD));generalize upd H2 D (.lst (rs2.map V.ref))=H3 at s3 hD3 hA3;refine λx dx' nx ndx ne=>⟨x,dx',D,m.name,m.aU,_,rfl,af,bP nx ndx _ _ hD3,λl2 H4 e1 e2 e3 e4=>⟨rfl,?_⟩⟩
  have s4:ak H3 H4:=λb o hb=>e4 b o (bP nx ndx _ _ hb) (av hb nx);have hz3:=hz.same s3;have nxz:¬ S x:=hz3.new nx;have nlz:¬ S l2:=hz3.new ((bP nx ndx).free e1);exact q x l2 dx' rs2 H4 (bA e2 nxz) (bA e3 nlz) (hA3.mono λ_ _ y=>y.same (aT s4)) (s3.free ((bP nx ndx).free e1)) (s3.trans s4)
inductive Py(t:dU)(vs:List V)(H:Hp)(Q:VK)(_:XK):Prop|mk(a:Addr)(S:Addr->Prop)(ms:List aE)(_:vs=[.ref a])(_:IsRules t (hid S H) a ms)(_:Ex S H)(_:cT ms)(_:∀a' H',IsRules t (hid S H') a' ms->ak H H'->Q (.ref a') H')
def QX (T:Txt K mg t):bw P w K mg base dM 5 t.HM t.OB ["rules"] (Py t):=by
 refine T.GZ.ok PN λvs H Q E h=>?_;obtain⟨a,S,ms,rfl,⟨dx,lm,as,ls,ha',hlm',hM⟩,hz,G,q⟩:=h;walk_at "i";have ha:=aC _ _ ha';have hlm:=aC _ _ hlm';have hlen:=G.len;refine ay (@aP _ _ _ _ (@dP _ _ _ _ _ _ _ _ _ _ _ _ _ _ _ _ _ T.ym (Ff T) hr.m rfl T.vB T.IZ.b2 .nil aH (aa (@i6 _ (az HP) _ ["rules"] _ _ ("mode") _ _ [] _ _ (by walk_at "ck") (@gH _ _ _ _ (@aJ _ _ _ _ _ (pv 0) rfl)) (λ_ _ _ _=>by exact(@aN _ _ _ _ _ _ _ _ _ _ _ _ _ _ _ _ (Q7 T) hr.m rfl T.Tj T.Gg.kp T.Gg.b1 .nil aH (aa (pv 0) ai (by left)) (by left) (by left) (by left))) (by left) (by left) (by left) (by left)) ai (by left)) (by left) (by left) (by left))) ?_;refine⟨_,rfl,_,_,_,_,_,rfl,ha,T.iP,T.dc,rfl,?_⟩;refine⟨lm,rfl,⟨_,bq.of hlm⟩,ja (xs:=as.map V.ref) (λi ys H2=>∃as2 MV:List Addr,ys=as2.map V.ref/\cE t (hid S H2) as2 MV (ms.take i)/\ak H H2) ⟨[],[],rfl,⟨rfl,rfl,List.nodup_nil,λi a l m h=>by simp at h⟩,ak.refl H⟩ (eT (by rw[d6,hM.la];lia)) ?_ ?_ ?_⟩
 ·rintro i ys H2 _ ⟨_,_,_,_,s2⟩;exact bq.of (s2 _ _ hlm)
 ·rintro i xv ys H2 hx hyl ⟨as2,MV,rfl,hM2,s2⟩;rw[B1] at hx;obtain⟨b,hb,rfl⟩:=Q1.mp hx;have hi:=(i5.mp hb).1;have him:i<ms.length:=by rw[← hM.la];exact hi
  have hmi:ms[i]?=some ms[i]:=i4 him;obtain⟨l,hl⟩:∃l,ls[i]?=some l:=⟨ls[i]'(by rw[hM.ll];exact him),i4 _⟩
  obtain⟨dm,rs,o1,o2,o3⟩:=hM.ob i b l _ hb hl hmi;have sh:=aT (S:=S) s2;refine⟨_,rfl,b,l,dm,S,ms[i],rs,rfl,sh _ _ o1,sh _ _ o2,o3.mono λ_ _ y=>y.same sh,hz.same s2,(G.ok _ (ad9 him)).1,λb' l' dm' rs' H3 e1 e2 e3 e4 s3=>d7 (by rw[d6];exact hi) hyl ⟨as2++[b'],MV++[l'],by rw[P2];rfl,?_,s2.trans s3⟩⟩;have hM3:=hM2.same (aT s3);rw[ae0 hmi];refine⟨by rw[o0,o0,hM3.la];rfl,by rw[o0,o0,hM3.ll];rfl,?_,λj a' l'' m' h1 h2 h3=>?_⟩
  ·refine ad2.mpr ⟨hM3.nd,by simp,λx hx y hy=>?_⟩;rw[v6.mp hy];intro e;obtain⟨xs,hxs⟩:=hM2.alive hx;have hxs:=aC _ _ hxs;rw[e,e4] at hxs;cases hxs
  ·have k1:=hM3.la;have k2:=hM3.ll;rcases dB h1 with h1|⟨i1,rfl⟩
   ·have:=(i5.mp h1).1;rcases dB h2 with h2|⟨i2,rfl⟩
    ·rcases dB h3 with h3|⟨i3,rfl⟩
     ·exact hM3.ob j a' l'' m' h1 h2 h3
     ·lia
    ·lia
   ·rcases dB h2 with h2|⟨i2,rfl⟩
    ·have:=(i5.mp h2).1;lia
    ·rcases dB h3 with h3|⟨i3,rfl⟩
     ·have:=(i5.mp h3).1;lia
     ·exact⟨dm',rs',e1,e2,e3⟩
 ·rintro ys H2 hyl ⟨as2,MV,rfl,hM2,s2⟩ D hD;rw[d6,hM.la,ab6] at hM2;have s3:ak H (upd H2 D (.lst (as2.map V.ref))):=s2.to hD;have hD3:upd H2 D (.lst (as2.map V.ref)) D=some (.lst (as2.map V.ref)):=af;have hM3:cE t (hid S (upd H2 D (.lst (as2.map V.ref)))) as2 MV ms:=hM2.same (aT (ak.upd hD));generalize upd H2 D (.lst (as2.map V.ref))=H3 at s3 hD3 hM3;refine λx dx' nx ndx ne=>⟨x,dx',D,_,rfl,af,bP nx ndx _ _ hD3,λl2 H4 e1 e2 e3 e4=>⟨rfl,?_⟩⟩
  have s4:ak H3 H4:=λb o hb=>e4 b o (bP nx ndx _ _ hb) (av hb nx);have hz3:=hz.same s3;have nxz:¬ S x:=hz3.new nx;have nlz:¬ S l2:=hz3.new ((bP nx ndx).free e1);exact q x H4 ⟨dx',l2,as2,MV,bA e2 nxz,bA e3 nlz,hM3.same (aT s4)⟩ (s3.trans s4)
inductive Pf(t:dU)(vs:List V)(H:Hp)(Q:VK)(_:XK):Prop|mk(a:Addr)(ms:List aE)(_:vs=[.ref a])(_:IsRules t H a ms)(_:cT ms)(_:gC ms=none)(_:∀H',ak H H'->Q .cD H')
def QD (T:Txt K mg t):bw P w K mg base dM 6 t.Bo t.Jx ["rules"] (Pf t):=by refine T.uD.ok vR λvs H Q E h=>?_;obtain⟨a,ms,rfl,hR,G,hn,q⟩:=h;walk_at "i";refine au (cR 1 vR (aN (HK T) hr.m rfl T.HW T.yc.kp T.yc.b1 .nil aH (aa (pv 0) ai))) ⟨_,rfl,a,ms,rfl,hR,G,λH1 s1=>⟨λ_=>?_,(λring row p l e=>by rw[hn] at e;cases e)⟩⟩;exact ay (aW (aB iY (pv 1) bL (aD _)) aq aq) ⟨_,rfl,rfl,_,rfl,lR (λh=>absurd rfl h) (λ_=>bu (q H1 s1))⟩
structure bF where
 row:Str
 before:List Nat
 d:Cfg
def gf (row:Str) (lb lt lo lk:Addr):List (Str×V):=[("signs",.str row),("before",.ref lb),("tints",.ref lt),("behind",.ref lo),("folded",.ref lk)]
structure xj(t:dU)(H:Hp)(g dx lb lt lo lk:Addr)(G:bF):Prop where
 ob:H g=some (.ins t.cj dx (gf G.row lb lt lo lk))
 lb:H lb=some (.lst (G.before.map bS))
 lt:H lt=some (.lst (G.d.aR.map V.str))
 lo:H lo=some (.lst (G.d.on.map bS))
 lk:GM H lk G.d.marks
def eK(t:dU)(H:Hp)(g:Addr)(G:bF):Prop:=∃dx lb lt lo lk,xj t H g dx lb lt lo lk G
def eK.same(h:eK t H g G)(s:ak H H'):eK t H' g G :=
 let ⟨dx,lb,lt,lo,lk,e⟩:=h;⟨dx,lb,lt,lo,lk,s _ _ e.ob,s _ _ e.lb,s _ _ e.lt,s _ _ e.lo,e.lk.same s⟩
structure qS(ms:List aE)(G:bF):Prop where
 ok:ju ms G.before
 len:G.before.length<=20000
 row:G.row.length<=1000
 go:∃n,n<=30000/\goN ms G.row n ⟨G.before,[],[]⟩=some G.d
 ok2:ju ms G.d.on
 len2:G.d.on.length<=20000
 tl:G.d.aR.length=G.row.length
inductive Lg(t:dU)(vs:List V)(H:Hp)(Q:VK)(_:XK):Prop|mk(x dx a lb:Addr)(S:Addr->Prop)(ms:List aE)(G:bF)(_:vs=[.ref x,.ref a,.ref lb,.str G.row])(_:H x=some (.ins t.cj dx []))(_:IsRules t H a ms)(_:cT ms)(_:hid S H lb=some (.lst (G.before.map bS)))(_:Ex S H)(_:¬ S x)(_:qS ms G)(_:∀lt lo lk H',xj t (hid S H') x dx lb lt lo lk G->fZ H H' x->Q .cD H')
def IK (T:Txt K mg t):bw P w K mg base dM 4 t.HL t.NL ["self","rules","modes","row"] (Lg t):=by
 refine T.Gk.ok Ep λvs H Q E h=>?_;obtain⟨x,dx,a,lb,Sh,ms,G,rfl,hx,hR,GM_,hlb',hE,hxS,S,q⟩:=h;walk_at "i";have hlb:=aC _ _ hlb';obtain⟨n,hn,hgo⟩:=S.go;have hbl:=S.len;refine au (cR 4 Ep (aN (Qg T) hr.m rfl T.Qd T.Gy.kp T.Gy.b3 .nil aH (aa (pv 1) (aa (pv 2) (aa (pv 3) ai))))) ⟨_,rfl,_,rfl,_,rfl,a,lb,ms,G.before,G.row,n,G.d,rfl,hR,GM_,hlb,S.ok,S.row,by lia,by lia,hgo,λtp lt lo lk H1 D GF1 f1 f2 f3 n1 n2 n3 s1=>?_⟩;have hx1:=s1 _ _ hx;have nx:∀{b o},H1 b=some o->(∀C dx fs,o ≠ .ins C dx fs)->b≠x:=λ{b o} e h=>cy e hx1 (λz=>h _ _ _ z);have x1:tp≠x:=nx D.tp (by intro _ _ _ z;cases z);have x2:lt≠x:=nx D.lt (by intro _ _ _ z;cases z);have x3:lo≠x:=nx D.lo (by intro _ _ _ z;cases z);have x4:lb≠x:=nx (s1 _ _ hlb) (by intro _ _ _ z;cases z);refine au (bT (pv 0) (pv 3) rfl) ⟨_,rfl,_,rfl,x,_,dx,[],rfl,hx1,T.cK,T.dJ,by decide,?_⟩;refine au (bT (pv 0) (pv 2) rfl) ⟨_,rfl,_,rfl,x,_,dx,[("signs",.str G.row)],rfl,af,T.cK,T.jY,by show 1<1000;decide,?_⟩;refine au (bT (pv 0) (aY cX (pv 4) ao (λ_ _=>rfl)) rfl) ⟨_,rfl,_,_,_,_,rfl,rfl,fB.of (by rw[aj x1,aj x1];exact D.tp),aO (j:=0) rfl,_,rfl,x,_,dx,[("signs",.str G.row),("before",.ref lb)],rfl,af,T.cK,T.qY,by show 2<1000;decide,?_⟩;refine au (bT (pv 0) (aY cX (pv 4) ao (λ_ _=>rfl)) rfl) ⟨_,rfl,_,_,_,_,rfl,rfl,fB.of (by rw[aj x1,aj x1,aj x1];exact D.tp),aO (j:=1) rfl,_,rfl,x,_,dx,[("signs",.str G.row),("before",.ref lb),("tints",.ref lt)],rfl,af,T.cK,T.iy,by show 3<1000;decide,?_⟩;refine ay (bT (pv 0) (aY cX (pv 4) ao (λ_ _=>rfl)) rfl) ⟨_,rfl,_,_,_,_,rfl,rfl,fB.of (by rw[aj x1,aj x1,aj x1,aj x1];exact D.tp),aO (j:=2) rfl,_,rfl,x,_,dx,[("signs",.str G.row),("before",.ref lb),("tints",.ref lt),("behind",.ref lo)],rfl,af,T.cK,T.pV,by show 4<1000;decide,?_⟩;rw[eO,eO,eO,eO];obtain⟨ps,k1,k2⟩:=D.lk;have x5:lk≠x:=nx k1 (by intro _ _ _ z;cases z);obtain⟨ps',k1',k2',k3'⟩:=GF1;refine q lt lo lk _ ⟨bA af hxS,?_,?_,?_,ps',?_,⟨k2'.1,λi p m hp hm=>?_⟩⟩ λb o hb nb=>?_
 ·exact bA (by rw[aj x4];exact s1 _ _ hlb) (bR hlb')
 ·exact bA (by rw[aj x2];exact D.lt) (hE.new f1)
 ·exact bA (by rw[aj x3];exact D.lo) (hE.new f2)
 ·exact bA (by rw[aj x5];exact k1') (hE.new f3)
 ·have e:=k2'.2 i p m hp hm;exact bA (by rw[aj (nx e (by intro _ _ _ z;cases z))];exact e) (hE.new (k3' p (u8 hp)))
 ·rw[aj nb];exact s1 _ _ hb
def Chain(ms:List aE):List Nat->List Str->List bF->Prop
 |_,[],[]=>True
 |b,r::rs,G::Gs=>G.row=r/\G.before=b/\qS ms G/\Chain ms G.d.on rs Gs
 |_,_,_=>False
theorem Chain.len:∀{b:List Nat} {rs:List Str} {Gs:List bF},Chain ms b rs Gs->Gs.length=rs.length
 |_,[],[],_=>rfl
 |_,_::_,_::_,h=>by simp[h.2.2.2.len]
 |_,[],_::_,h=>h.elim
 |_,_::_,[],h=>h.elim
theorem Chain.rows:∀{b:List Nat} {rs:List Str} {Gs:List bF},Chain ms b rs Gs->Gs.map (·.row)=rs
 |_,[],[],_=>rfl
 |_,_::_,_::_,h=>by rw[Y5,h.1,h.2.2.2.rows]
 |_,[],_::_,h=>h.elim
 |_,_::_,[],h=>h.elim
def jT:List Nat->List bF->List Nat
 |b,[]=>b
 |_,G::Gs=>jT G.d.on Gs
def Ah{rs:List Str}{Gs:List bF}(hc:Chain ms b (rs.drop i) (Gs.drop i))(hr:rs[i]?=some r):∃G,Gs[i]?=some G/\G.row=r/\G.before=b/\qS ms G/\Chain ms G.d.on (rs.drop (i+1)) (Gs.drop (i+1)):=by
 rw[jH hr] at hc;cases e:Gs.drop i with
 |nil=>rw[e] at hc;exact hc.elim
 |cons G t =>
  rw[e] at hc;have hG:Gs[i]?=some G:=by have:=ac1 (λl=>l[0]?) e;simpa [ab7] using this
  have ht:Gs.drop (i+1)=t:=by rw[← List.drop_drop,e];rfl
  rw[ht];exact⟨G,hG,hc⟩
structure bG(t:dU)(H:Hp)(x dx a lg:Addr)(gs:List Addr)(ms:List aE)(Gs:List bF):Prop where
 ob:H x=some (.ins t.bf dx [("rules",.ref a),("gone_rows",.ref lg)])
 ru:IsRules t H a ms
 lg:H lg=some (.lst (gs.map V.ref))
 go:bO (eK t H) gs Gs
def bG.same{x dx a lg:Addr}(h:bG t H x dx a lg gs ms Gs)(s:ak H H'):bG t H' x dx a lg gs ms Gs:=⟨s _ _ h.ob,h.ru.same s,s _ _ h.lg,h.go.mono λ_ _ z=>z.same s⟩
inductive Ic(t:dU)(vs:List V)(H:Hp)(Q:VK)(_:XK):Prop|mk(x dx a lb lr:Addr)(S:Addr->Prop)(fs:List (Str×V))(ms:List aE)(b:List Nat)(rs:List Str)(Gs:List bF)(_:vs=[.ref x,.ref lb,.ref lr])(_:H x=some (.ins t.bf dx fs))(_:fs.lookup ("rules" : Str)=some (.ref a))(_:IsRules t H a ms)(_:cT ms)(_:hid S H lb=some (.lst (b.map bS)))(_:Ex S H)(_:H lr=some (.lst (rs.map V.str)))(_:rs.length<=100000)(_:Chain ms b rs Gs)(_:∀lg gs H',H' lg=some (.lst (gs.map V.ref))->bO (eK t (hid S H')) gs Gs->H lg=none->ak H H'->Q (.ref lg) H')
def Fj (T:Txt K mg t):bw P w K mg base dM 6 t.Jy t.LU ["self","modes","rows"] (Ic t):=by
 refine T.Ew.ok sJ λvs H Q E h=>?_;obtain⟨x,dx,a,lb,lr,S,fs,ms,b,rs,Gs,rfl,hx,hfs,hR,G,hlb,hE,hlr,hrl,hC,q⟩:=h;walk_at "i";have hGl:=hC.len;refine au (cR 3 sJ (bD ai)) ⟨by show 0<=sizeLine;decide,λlg hlg=>?_⟩;have s1:ak H (upd H lg (.lst [])):=ak.upd hlg;have hg1:upd H lg (.lst []) lg=some (.lst []):=af;generalize upd H lg (.lst [])=H1 at s1 hg1;obtain⟨S2,hS2⟩:∃S2:Addr->Prop,S2=λc=>S c∨c=lg:=⟨_,rfl⟩
 have hSl:S2 lg:=by rw[hS2];exact .inr rfl
 have hE2:∀{H':Hp} {xs:List V},ak H H'->H' lg=some (.lst xs)->Ex S2 H':=λ{H' xs} s' h' c hc=>by
  rw[hS2] at hc;rcases hc with hc|hc
  ·exact(hE.same s') c hc
  ·rw[hc];exact⟨_,h'⟩
 refine aI (λZ' H'=>∃gs,(∃x1 x4 x5,Z'=[some (.ref x),x1,some (.ref lr),some (.ref lg),x4,x5])/\H' lg=some (.lst (gs.map V.ref))/\bO (eK t (hid S H')) gs Gs/\ak H H') (gk ab3 rfl (gH (pv 2)) (uc 4 sJ) aq) ?_ ?_
 ·refine⟨_,rfl,lr,rfl,⟨_,bq.of (s1 _ _ hlr)⟩,jV (xs:=rs.map V.str) (λi Z' H'=>∃(gs:List Addr) (lb:Addr) (b:List Nat),(∃x4 x5,Z'=[some (.ref x),some (.ref lb),some (.ref lr),some (.ref lg),x4,x5])/\H' lg=some (.lst (gs.map V.ref))/\bO (eK t (hid S2 H')) gs (Gs.take i)/\hid S2 H' lb=some (.lst (b.map bS))/\Chain ms b (rs.drop i) (Gs.drop i)/\ak H H') ⟨[],lb,b,⟨_,_,rfl⟩,hg1,bO.nil,bA (s1 _ _ (aC _ _ hlb)) (by rw[hS2];rintro (z|z);(exact bR hlb z);(exact av (aC _ _ hlb) hlg z)),hC,s1⟩ ?_ ?_ ?_⟩
  ·rintro i Z' H' _ ⟨_,_,_,_,_,_,_,_,s2⟩;exact bq.of (s2 _ _ hlr)
  ·rintro i xv Z' H2 hxv ⟨gs,lb,b,⟨x4,x5,rfl⟩,hg2,hA2,hlb2,hC2,s2⟩;rw[B1] at hxv;obtain⟨r,hri,rfl⟩:=Q1.mp hxv;obtain⟨Gi,hGi,e1,e2,hS,hC3⟩:=Ah hC2 hri;subst e1 e2;have hi:=(i5.mp hri).1;have hEx:=hE2 s2 hg2;refine au (cR 5 sJ (dP T.tO (IK T) hr.m rfl T.qT T.Gk.b4 .nil aH (aa (aJ (pv 0) rfl) (aa (pv 1) (aa (pv 4) ai))))) (⟨_,rfl,_,_,_,_,_,rfl,(s2 _ _ hx),T.aL,T.jq,hfs,⟨_,rfl,_,rfl,λg dg ng ndg ne=>⟨g,dg,a,lb,S2,ms,Gi,rfl,af,(hR.same s2).same (bP ng ndg),G,(aT (bP ng ndg)) _ _ hlb2,hEx.same (bP ng ndg),hEx.new ng,hS,λlt lo lk H3 hG3 a3=>⟨rfl,?_⟩⟩⟩⟩);have s3:ak H2 H3:=λb o hb=>a3 b o (bP ng ndg _ _ hb) (av hb ng);have hg3:=s3 _ _ hg2;have hob:=aC _ _ hG3.ob;have ngl:g≠lg:=cy hob hg3 (by intro z;cases z);have hlen:gs.length<=100000:=by rw[hA2.1,N0];lia
   refine au (aX (dF Y8 Y6 aa0 bZ (pv 3) (aa (pv 5) ai))) ⟨_,rfl,.inl ⟨rfl,_,bq.of hg3⟩,_,rfl,lg,_,_,rfl,rfl,hg3,eT (by rw[d6];lia),?_⟩;refine ay (cR 1 sJ (aJ (pv 5) rfl)) ⟨_,rfl,g,t.cj,dg,_,_,rfl,(by rw[aj ngl];exact hob),T.cK,T.iy,rfl,?_⟩;refine⟨gs++[g],lo,Gi.d.on,⟨_,_,rfl⟩,by rw[af,P2];rfl,?_,?_,hC3,λb o hb=>?_⟩
   ·rw[ae0 hGi,oV hSl];exact bO.snoc (hA2.mono λ_ _ z=>z.same (aT s3)) ⟨dg,lb,lt,lo,lk,hG3⟩
   ·rw[oV hSl];exact hG3.lo
   ·rw[aj (av hb hlg)];exact s3 _ _ (s2 _ _ hb)
  ·rintro Z' H2 ⟨gs,lb,b,⟨x4,x5,rfl⟩,hg2,hA2,_,_,s2⟩;rw[d6,← hGl,ab6] at hA2;exact⟨gs,⟨_,_,_,rfl⟩,hg2,hA2.mono λ_ _ z=>z.same (zf (λc hc=>by rw[hS2];exact .inl hc)),s2⟩
 rintro Z' H2 ⟨gs,⟨x1,x4,x5,rfl⟩,hg2,hA2,s2⟩;exact ay (aP (pv 3)) ⟨_,rfl,q lg gs H2 hg2 hA2 hlg s2⟩
inductive J6(t:dU)(vs:List V)(H:Hp)(Q:VK)(_:XK):Prop|mk(x dx a lr:Addr)(S:Addr->Prop)(ms:List aE)(rs:List Str)(Gs:List bF)(_:vs=[.ref x,.ref a,.ref lr])(_:H x=some (.ins t.bf dx []))(_:¬ S x)(_:Ex S H)(_:IsRules t (hid (λc=>S c∨c=x) H) a ms)(_:cT ms)(_:gC ms=none)(_:H lr=some (.lst (rs.map V.str)))(_:rs.length<=100000)(_:Chain ms [0] rs Gs)(_:∀a' lg gs H',bG t (hid S H') x dx a' lg gs ms Gs->H lg=none->fZ H H' x->Q .cD H')
def QH (T:Txt K mg t):bw P w K mg base dM 7 t.BN t.EY ["self","rules","rows"] (J6 t):=by
 refine T.BX.ok GS λvs H Q E h=>?_;obtain⟨x,dx,a,lr,S,ms,rs,Gs,rfl,hx,hxS,hE,hR,G,hring,hlr,hrl,hC,q⟩:=h;walk_at "i";obtain⟨S2,hS2⟩:∃S2:Addr->Prop,S2=λc=>S c∨c=x:=⟨_,rfl⟩
 rw[← hS2] at hR;have hSx:S2 x:=by rw[hS2];exact .inr rfl
 have hE2:Ex S2 H:=λc hc=>by
  rw[hS2] at hc;rcases hc with hc|hc
  ·exact hE c hc
  ·rw[hc];exact⟨_,hx⟩
 have hle:∀c,S c->S2 c:=λc hc=>by rw[hS2];exact .inl hc
 refine au (aX (aN (QD T) hr.m rfl T.IY T.uD.kp T.uD.b1 .nil aH (aa (pv 1) ai))) ⟨_,rfl,a,ms,rfl,hR.same aC,G,hring,λH1 s1=>?_⟩;refine au (bT (pv 0) (aN (QX T) hr.m rfl T.Pr T.GZ.kp T.GZ.b1 .nil aH (aa (pv 1) ai)) rfl) ⟨_,rfl,a,S2,ms,rfl,hR.same (aT s1),hE2.same s1,G,λa' H2 hR2 s2=>?_⟩;have s2:=s1.trans s2;have hx2:=s2 _ _ hx;refine⟨_,rfl,x,_,dx,[],rfl,hx2,T.aL,T.jq,by decide,?_⟩;have hx3:upd H2 x (.ins t.bf dx (dj "rules" (.ref a') [])) x=some (.ins t.bf dx [("rules",.ref a')]):=af;have a3:fZ H (upd H2 x (.ins t.bf dx (dj "rules" (.ref a') []))) x:=s2.JZ fZ.upd;have nl:lr≠x:=cy (s2 _ _ hlr) hx2 (by intro z;cases z);have hlr3:upd H2 x (.ins t.bf dx (dj "rules" (.ref a') [])) lr=some (.lst (rs.map V.str)):=by rw[aj nl];exact s2 _ _ hlr
 have hH3:hid S2 (upd H2 x (.ins t.bf dx (dj "rules" (.ref a') [])))=hid S2 H2:=oV hSx;have hE3:Ex S (upd H2 x (.ins t.bf dx (dj "rules" (.ref a') []))):=λc hc=>by obtain⟨o,ho⟩:=(hE.same s2) c hc;exact⟨o,by rw[aj (λz=>hxS (by rw[← z];exact hc))];exact ho⟩
 rw[← hH3] at hR2;generalize upd H2 x (.ins t.bf dx (dj "rules" (.ref a') []))=H3 at hx3 a3 hlr3 hR2 hE3;refine ay (bT (pv 0) (bB (pv 0) T.aL T.MS (Fj T) hr.m T.Ew.b3 .nil aH (aa (bD (aa (ia rfl T.mw) ai)) (aa (pv 2) ai))) rfl) ⟨_,rfl,x,dx,_,rfl,hx3,rfl,by show 1<=sizeLine;decide,λlb hlb=>⟨_,rfl,x,dx,a',lb,lr,S,_,ms,[0],rs,Gs,rfl,ak.upd hlb _ _ hx3,rfl,(hR2.same aC).same (ak.upd hlb),G,bA af (hE3.new hlb),hE3.same (ak.upd hlb),ak.upd hlb _ _ hlr3,hrl,hC,λlg gs H4 hg4 hA4 f4 s4=>?_⟩⟩;have s34:ak H3 H4:=(ak.upd hlb).trans s4;have hx4:=s34 _ _ hx3;refine⟨_,rfl,x,_,dx,[("rules",.ref a')],rfl,hx4,T.aL,T.aV,by show 1<1000;decide,?_⟩;have h3n:H3 lg=none:=(ak.upd hlb).free f4;have nlg:lg≠x:=cy hg4 hx4 (by intro z;cases z);have hlg0:H lg=none:=by
  cases e:H lg with
  |none=>rfl
  |some o=>have:=a3 _ _ e nlg;rw[h3n] at this;cases this
 have sh:ak (hid S2 H4) (hid S (upd H4 x (.ins t.bf dx (dj "gone_rows" (.ref lg) [("rules",.ref a')])))):=λb o hb=>by have hb2:=bR hb;exact bA (by rw[aj (λz=>hb2 (by rw[z];exact hSx))];exact aC _ _ hb) (λz=>hb2 (hle b z))
 refine q a' lg gs _ ⟨bA af hxS,(hR2.same (aT s34)).same sh,bA (by rw[aj nlg];exact hg4) (hE3.new h3n),hA4.mono λg Gi hg=>?_⟩ hlg0 ?_
 ·obtain⟨dg,lb',lt,lo,lk,e⟩:=hg;have key:∀{b o},hid S H4 b=some o->b≠x->hid S (upd H4 x (.ins t.bf dx (dj "gone_rows" (.ref lg) [("rules",.ref a')]))) b=some o:=λ{b o} hb h=>bA (by rw[aj h];exact aC _ _ hb) (bR hb);have nk:∀{b o},hid S H4 b=some o->(∀C d fs,o ≠ .ins C d fs)->b≠x:=λ{b o} hb h=>cy (aC _ _ hb) hx4 (λz=>h _ _ _ z);obtain⟨ps,k1,k2⟩:=e.lk;refine⟨dg,lb',lt,lo,lk,key e.ob (cy (aC _ _ e.ob) hx4 (by intro z;injection z with _ _ z;cases z)),key e.lb (nk e.lb (by intro _ _ _ z;cases z)),key e.lt (nk e.lt (by intro _ _ _ z;cases z)),key e.lo (nk e.lo (by intro _ _ _ z;cases z)),ps,key k1 (nk k1 (by intro _ _ _ z;cases z)),k2.mono λp m h=>key h (nk h (by intro _ _ _ z;cases z))⟩
 ·intro b o hb nb;rw[aj nb];exact s34 _ _ (a3 _ _ hb nb)
inductive RA(t:dU)(vs:List V)(H:Hp)(Q:VK)(_:XK):Prop|mk(x dx a lg:Addr)(gs:List Addr)(ms:List aE)(Gs:List bF)(_:vs=[.ref x])(_:bG t H x dx a lg gs ms Gs)(_:Gs.length<=100000)(_:∀l H',H' l=some (.lst ((Gs.map (·.row)).map V.str))->H l=none->ak H H'->Q (.ref l) H')
def jL (T:Txt K mg t):bw P w K mg base dM 1 t.GI t.MR ["self"] (RA t):=by
 refine T.lQ.ok QO λvs H Q E h=>?_;obtain⟨x,dx,a,lg,gs,ms,Gs,rfl,I,hl,q⟩:=h;walk_at "i";refine ay (@aP _ _ _ _ (@i6 _ (az Jd) _ ["self"] _ _ ("gone") _ _ [] _ _ (by walk_at "ck") (@gH _ _ _ _ (@aJ _ _ _ _ _ (pv 0) rfl)) (λ_ _ _ _=>by exact(@mJ _ K _ _ _ _ (pv 0) rfl (by left))) (by left) (by left) (by left) (by left))) (⟨_,rfl,_,_,_,_,_,rfl,I.ob,T.aL,T.aV,rfl,⟨lg,rfl,⟨_,bq.of I.lg⟩,ja (xs:=gs.map V.ref) (λi ys H2=>ys=((Gs.take i).map (·.row)).map V.str/\H2=H) ⟨rfl,rfl⟩ (eT (by rw[d6,I.go.1];lia)) ?_ ?_ ?_⟩⟩)
 ·rintro i ys H2 _ ⟨_,rfl⟩;exact bq.of I.lg
 ·rintro i xv ys H2 hx hyl ⟨rfl,rfl⟩;rw[B1] at hx;obtain⟨g,hg,rfl⟩:=Q1.mp hx;have hi:=(i5.mp hg).1;have hGi:Gs[i]?=some (Gs[i]'(by rw[← I.go.1];exact hi)):=i4 _;obtain⟨dg,lb,lt,lo,lk,e⟩:=I.go.2 i g _ hg hGi;refine⟨_,rfl,_,_,_,_,_,rfl,e.ob,T.cK,T.dJ,rfl,(d7 (by rw[d6];exact hi) hyl ⟨?_,rfl⟩)⟩;rw[ae0 hGi,P2,P2];rfl
 ·rintro ys H2 hyl ⟨rfl,rfl⟩ D hD;have e5:Gs.take (gs.map V.ref).length=Gs:=by rw[d6,I.go.1,ab6]
  rw[e5];exact q D _ af hD (ak.upd hD)
inductive Gd(t:dU)(vs:List V)(H:Hp)(Q:VK)(_:XK):Prop|mk(x dx a lg:Addr)(gs:List Addr)(ms:List aE)(Gs:List bF)(i:Nat)(_:vs=[.ref x,.int i])(_:bG t H x dx a lg gs ms Gs)(_:i<Gs.length)(_:Q .cD H)
def Sq (T:Txt K mg t):bw P w K mg base dM 1 t.Cs t.Hl ["self","row"] (Gd t):=by refine T.Cr.ok Gb λvs H Q E h=>?_;obtain⟨x,dx,a,lg,gs,ms,Gs,i,rfl,I,hi,q⟩:=h;walk_at "i";have hl:=I.go.1;refine ay (aW (PW.pt (iX (aB ie (pv 1) ao (aD _)) (gI (aB Ov (pv 1) (aM aS (by rfl) T.bW (by decide +kernel) (aa (aJ (pv 0) rfl) ai)) (aD _))))) aq aq) ⟨_,rfl,_,_,rfl,rfl,_,rfl,dI (λh=>absurd h (by lia)) (λ_=>?_)⟩;exact⟨_,rfl,⟨_,rfl,_,_,_,_,_,rfl,I.ob,T.aL,T.aV,rfl,⟨_,_,rfl,.inl (bq.of I.lg),_,_,rfl,rfl,_,rfl,dI (λh=>absurd h (by rw[d6];lia)) (λ_=>bu q)⟩⟩⟩
def ez:List Str->List Str->Nat
 |x::xs,y::ys=>if x=y then ez xs ys+1 else 0
 |_,_=>0
theorem lZ:∀(xs ys:List Str),ez xs ys<=xs.length/\ez xs ys<=ys.length
 | [],ys=>⟨X5 _,X5 _⟩
 |_::_,[]=>⟨X5 _,X5 _⟩
 |x::xs,y::ys=>by
  have h:=lZ xs ys;rw[ez];by_cases e:x=y
  ·rw[if_pos e,x0,x0];lia
  ·rw[if_neg e];exact⟨X5 _,X5 _⟩
theorem n9:∀(xs ys:List Str),xs.take (ez xs ys)=ys.take (ez xs ys)
 | [],ys=>by simp[ez]
 |_::_,[]=>by simp[ez]
 |x::xs,y::ys=>by
  rw[ez];by_cases e:x=y
  ·rw[if_pos e,aj1,aj1,n9 xs ys,e]
  ·rw[if_neg e];rfl
def JF{xs ys:List Str}(h1:xs[i]?=some x)(h2:ys[i]?=some y):ez (xs.drop i) (ys.drop i)=if x=y then ez (xs.drop (i+1)) (ys.drop (i+1))+1 else 0:=by rw[jH h1,jH h2,ez]
def Dv{xs ys:List Str}(h:i=xs.length∨i=ys.length):ez (xs.drop i) (ys.drop i)=0:=by
 rcases h with h|h
 ·rw[h,List.drop_length,ez];intros;simp_all
 ·rw[h,List.drop_length];cases xs.drop ys.length <;> rfl
inductive Lh(vs:List V)(H:Hp)(Q:VK)(_:XK):Prop|mk(a b:Addr)(xs ys:List Str)(_:vs=[.ref a,.ref b])(_:H a=some (.lst (xs.map V.str)))(_:H b=some (.lst (ys.map V.str)))(_:∀H',ak H H'->Q (.int (ez xs ys:Nat)) H')
def FG (T:Txt K mg t):bw P w K mg base dM 1 t.Ih t.Oe ["some","others"] Lh:=by
 refine T.xh.ok tU λvs H Q E h=>?_;obtain⟨a,b,xs,ys,rfl,ha,hb,q⟩:=h;walk_at "i";refine au (cR 2 tU ao) ?_;refine aI (λZ' H'=>(∃x3 x4,Z'=[some (.ref a),some (.ref b),some (.int (ez xs ys:Nat)),x3,x4])/\ak H H') (gk ab3 rfl (QA rfl T.UG (aa (pv 0) (aa (pv 1) ai))) (rR rfl (dz (uc 3 tU) (dz (uc 4 tU) oO))) aq) ?_ ?_
 ·refine⟨_,rfl,_,rfl,a,b,_,_,rfl,bq.of ha,bq.of hb,G2 (xs:=xs.map V.str) (ys:=ys.map V.str) (λi Z' H'=>(∃x3 x4,Z'=[some (.ref a),some (.ref b),some (.int (i:Nat)),x3,x4])/\ak H H'/\ez xs ys=i+ez (xs.drop i) (ys.drop i)) ⟨⟨_,_,rfl⟩,ak.refl H,by simp⟩ ?_ ?_ ?_⟩
  ·rintro i Z' H' _ _ ⟨_,s1,_⟩;exact⟨bq.of (s1 _ _ ha),bq.of (s1 _ _ hb)⟩
  ·rintro i xv yv p Z' H1 hx hy hp ⟨⟨x3,x4,rfl⟩,s1,hn⟩;rw[B1] at hx hy;obtain⟨x,hx1,rfl⟩:=Q1.mp hx;obtain⟨y,hy1,rfl⟩:=Q1.mp hy;rw[JF hx1 hy1] at hn;have s2:ak H (upd H1 p (.tup [.str x,.str y])):=s1.trans (ak.upd hp);refine⟨p,[.str x,.str y],rfl,fB.of af,rfl,_,_,rfl,_,_,rfl,rfl,?_⟩;by_cases e:x=y
   ·rw[if_pos e] at hn;refine au (aW (aB kJ (pv 3) (pv 4) (aD _)) aq aq) ⟨_,rfl,_,rfl,rfl,_,rfl,yZ (c:=false) (by simp[e]) (bu ?_)⟩;refine ay (zy (i:=2) tU.nd rfl (Or.inl rfl) ao A1) ⟨_,rfl,_,_,rfl,rfl,⟨_,_,rfl⟩,s2,?_⟩;lia
   ·rw[if_neg e] at hn;refine au (aW (aB kJ (pv 3) (pv 4) (aD _)) aq aq) ⟨_,rfl,_,rfl,rfl,_,rfl,yZ (c:=true) (by simp[e]) ?_⟩;refine ay (aP (pv 2)) ⟨_,rfl,?_⟩;have:=q _ s2;rw[hn] at this;exact this
  ·rintro i Z' H1 hi h1 h2 ⟨⟨x3,x4,rfl⟩,s1,hn⟩;rw[d6,d6] at hi;rw[Dv hi] at hn;exact⟨⟨_,_,by rw[hn];rfl⟩,s1⟩
 rintro Z' H1 ⟨⟨x3,x4,rfl⟩,s1⟩;exact ay (aP (pv 2)) ⟨_,rfl,q _ s1⟩
inductive Ks(vs:List V)(H:Hp)(Q:VK)(_:XK):Prop|mk(a b:Addr)(xs ys:List Str)(_:vs=[.ref a,.ref b])(_:H a=some (.lst (xs.map V.str)))(_:H b=some (.lst (ys.map V.str)))(_:∀H',ak H H'->Q (.int (ez xs.reverse ys.reverse:Nat)) H')
def Sy (T:Txt K mg t):bw P w K mg base dM 2 t.HZ t.Og ["some","others"] Ks:=by
 refine T.Jq.ok S8 λvs H Q E h=>?_;obtain⟨a,b,xs,ys,rfl,ha,hb,q⟩:=h;walk_at "i";refine ay (aP (aN (FG T) hr.m rfl T.Iq T.xh.kp T.xh.b2 .nil aH (aa (rQ rfl rfl T.kh rfl T.tW (aa (pv 0) ai)) (aa (rQ rfl rfl T.kh rfl T.tW (aa (pv 1) ai)) ai)))) ⟨_,rfl,a,_,rfl,bq.of ha,λl1 h1=>⟨_,rfl,b,_,rfl,bq.of (ak.upd h1 _ _ hb),λl2 h2=>⟨l1,l2,xs.reverse,ys.reverse,rfl,?_,?_,λH' s'=>q H' (((ak.upd h1).trans (ak.upd h2)).trans s')⟩⟩⟩
 ·rw[List.map_reverse];exact ak.upd h2 _ _ af
 ·rw[List.map_reverse];exact af
theorem vK:∀{Gs:List bF} {j:Nat} {G:bF},Gs[j]?=some G->jT b (Gs.take (j+1))=G.d.on
 |G'::Gs,0,G,h=>by cases h;rfl
 |G'::Gs,j+1,G,h=>by rw[aj1,jT];exact vK (Gs:=Gs) (by simpa using h)
inductive Lv(t:dU)(vs:List V)(H:Hp)(Q:VK)(_:XK):Prop|mk(x dx a lg:Addr)(gs:List Addr)(S:Addr->Prop)(Gs:List bF)(i:Nat)(_:vs=[.ref x,.int i])(_:H x=some (.ins t.bf dx [("rules",.ref a),("gone_rows",.ref lg)]))(_:H lg=some (.lst (gs.map V.ref)))(_:bO (eK t (hid S H)) gs Gs)(_:Ex S H)(_:i<=Gs.length)(_:∀lb H',hid S H' lb=some (.lst ((jT [0] (Gs.take i)).map bS))->ak H H'->Q (.ref lb) H')
def Aq (T:Txt K mg t):bw P w K mg base dM 1 t.IG t.OC ["self","row"] (Lv t):=by
 refine T.Bc.ok Sx λvs H Q E h=>?_;obtain⟨x,dx,a,lg,gs,S,Gs,i,rfl,hx,hlg,hA,hE,hi,q⟩:=h;walk_at "i";refine ay (aP (cO (aB j7 (pv 1) ao (aD _)) (aJ (aY aQ (aJ (pv 0) rfl) (bh nP (pv 1) ao) (λ_ _=>rfl)) rfl) (bD (aa (ia rfl T.mw) ai)))) ⟨_,rfl,_,_,rfl,rfl,_,rfl,dI (λh=>?_) (λh=>?_)⟩
 ·obtain⟨j,rfl⟩:∃j,i=j+1:=⟨i-1,by lia⟩
  obtain⟨G,hG⟩:∃G,Gs[j]?=some G:=⟨Gs[j]'(by lia),i4 _⟩
  obtain⟨g,hg,dg,lb,lt,lo,lk,e⟩:=hA.at hG;have ej:((j+1:Nat):Int)-1=(j:Int):=by lia
  refine⟨_,rfl,_,_,_,_,_,rfl,hx,T.aL,T.aV,rfl,⟨_,rfl,_,_,rfl,rfl,?_⟩⟩;show K9 _ (.ref lg) (.int (((j+1:Nat):Int)-1)) H _;rw[ej];refine⟨_,_,_,_,rfl,rfl,bq.of hlg,gP hg,g,t.cj,dg,_,_,rfl,aC _ _ e.ob,T.cK,T.iy,rfl,?_⟩;refine q lo H ?_ (ak.refl H);rw[vK hG];exact e.lo
 ·have e0:i=0:=by lia
  subst e0;exact⟨by show 1<=sizeLine;decide,λlb hlb=>q lb _ (bA af (hE.new hlb)) (ak.upd hlb)⟩
inductive Lr(t:dU)(vs:List V)(H:Hp)(Q:VK)(_:XK):Prop|mk(x dx a lg:Addr)(gs:List Addr)(i k:Nat)(_:vs=[.ref x,.int i,.int k])(_:H x=some (.ins t.bf dx [("rules",.ref a),("gone_rows",.ref lg)]))(_:H lg=some (.lst (gs.map V.ref)))(_:i+k<=gs.length)(_:Q .cD H)
def Rx (T:Txt K mg t):bw P w K mg base dM 1 t.FW t.Mg ["self","row","many"] (Lr t):=by refine T.Nq.ok RW λvs H Q E h=>?_;obtain⟨x,dx,a,lg,gs,i,k,rfl,hx,hlg,hi,q⟩:=h;walk_at "i";refine ay (aW (PW.pt (iX (aB ie (pv 1) ao (aD _)) (iX (aB ie (pv 2) ao (aD _)) (gI (aB j7 (bh bX (pv 1) (pv 2)) (aM aS (by rfl) T.bW (by decide +kernel) (aa (aJ (pv 0) rfl) ai)) (aD _)))))) aq aq) ⟨_,rfl,_,_,rfl,rfl,_,rfl,dI (λh=>absurd h (by lia)) (λ_=>?_)⟩;refine⟨_,rfl,_,_,rfl,rfl,_,rfl,dI (λh=>absurd h (by lia)) (λ_=>?_)⟩;refine⟨_,rfl,_,rfl,_,_,rfl,rfl,⟨_,rfl,_,_,_,_,_,rfl,hx,T.aL,T.aV,rfl,⟨_,_,rfl,.inl (bq.of hlg),_,_,rfl,rfl,_,rfl,dI (λh=>absurd h (by rw[d6];lia)) (λ_=>bu q)⟩⟩⟩
structure pZ(ms:List aE)(Gs:List bF)(i k:Nat)(Gs':List bF):Prop where
 len:Gs'.length=Gs.length
 le:i+k<=Gs.length
 pre:∀j,j<i->Gs'[j]?=Gs[j]?
 suf:∀j,i+k<=j->Gs'[j]?=Gs[j]?
 mid:∀j,i<=j->j<i+k->∃G G',Gs[j]?=some G/\Gs'[j]?=some G'/\G'.row=G.row/\G'.before=jT [0] (Gs'.take j)/\G.before≠jT [0] (Gs'.take j)/\qS ms G'
 stop:∀G,Gs[i+k]?=some G->G.before=jT [0] (Gs'.take (i+k))
def lJ(Gs Gs':List bF)(n:Nat):List bF:=Gs'.take n++Gs.drop n
def Rl(hl:Gs'.length=Gs.length)(h:n<=Gs.length):(lJ Gs Gs' n)[n]?=Gs[n]?:=by rw[lJ,X3 (by rw[N0];lia),N0,ab7];congr 1;lia
def zd(hl:Gs'.length=Gs.length)(h:n<=Gs.length):(lJ Gs Gs' n).take n=Gs'.take n:=by
 have e:n=(Gs'.take n).length:=by rw[N0];lia
 rw[lJ];conv=>lhs;arg 1;rw[e]
 rw[List.take_left]
def wU(hl:Gs'.length=Gs.length)(h:n<=Gs.length):(lJ Gs Gs' n).length=Gs.length:=by rw[lJ,o0,N0,U2];lia
def J1(hl:Gs'.length=Gs.length)(h:n<Gs.length)(hG:Gs'[n]?=some G'):(lJ Gs Gs' n).set n G'=lJ Gs Gs' (n+1):=by
 have e:(Gs'.take n).length=n:=by rw[N0];lia
 rw[lJ,lJ,List.set_append_right _ _ (by rw[e];exact M2 _),e,al0,ae0 hG,ac6];congr 1;rw[jH (i4 h)];rfl
def pZ.first(h:pZ ms Gs i k Gs'):lJ Gs Gs' i=Gs:=by
 apply ah6;intro j;rw[lJ];have:=h.le;have:=h.len;by_cases hj:j<i
 ·rw[Y9 (by rw[N0];lia),ak0,if_pos hj,h.pre j hj]
 ·rw[X3 (by rw[N0];lia),N0,ab7];congr 1;lia
def pZ.last(h:pZ ms Gs i k Gs'):lJ Gs Gs' (i+k)=Gs':=by
 apply ah6;intro j;rw[lJ];have:=h.le;have:=h.len;by_cases hj:j<i+k
 ·rw[Y9 (by rw[N0];lia),ak0,if_pos hj]
 ·rw[X3 (by rw[N0];lia),N0,ab7,h.suf j (by lia)];congr 1;lia
def bO.put{α β:Type}{R:α->β->Prop}{xs:List α}{ys:List β}{n:Nat}{x:α}{y:β}(h:bO R xs ys)(r:R x y):bO R (xs.set n x) (ys.set n y):=by
 refine⟨by rw[List.length_set,List.length_set];exact h.1,λi a b ha hb=>?_⟩;rw[List.getElem?_set] at ha hb;by_cases e:n=i
 ·rw[if_pos e] at ha hb;split at ha
  ·split at hb
   ·cases ha;cases hb;exact r
   ·cases hb
  ·cases ha
 ·rw[if_neg e] at ha hb;exact h.2 i a b ha hb
theorem zm:∀{xs ys:List Nat},xs.map bS=ys.map bS->xs=ys
 | [],[],_=>rfl
 | [],_::_,h=>by simp at h
 |_::_,[],h=>by simp at h
 |x::xs,y::ys,h=>by
  rw[Y5,Y5] at h;injection h with h1 h2
  injection h1 with h1
  rw[zm h2,Int.ofNat_inj.mp h1]
def A4(xs ys:List Nat):pQ (xs.map bS) (ys.map bS):=rY (λn:Nat=>(n:Int)) (λn:Nat=>(n:Int)) xs ys
inductive RV(t:dU)(vs:List V)(H:Hp)(Q:VK)(_:XK):Prop|mk(x dx a lg:Addr)(gs:List Addr)(S:Addr->Prop)(ms:List aE)(Gs Gs':List bF)(i k:Nat)(_:vs=[.ref x,.int i])(_:H x=some (.ins t.bf dx [("rules",.ref a),("gone_rows",.ref lg)]))(_:IsRules t (hid S H) a ms)(_:cT ms)(_:H lg=some (.lst (gs.map V.ref)))(_:S lg)(_:bO (eK t (hid S H)) gs Gs)(_:Ex S H)(_:Gs.length<=100000)(_:pZ ms Gs i k Gs')(_:∀gs' H',H' lg=some (.lst (gs'.map V.ref))->bO (eK t (hid S H')) gs' Gs'->fZ H H' lg->Q (.int (k:Nat)) H')
def Si (T:Txt K mg t):bw P w K mg base dM 6 t.G6 t.NN ["self","row"] (RV t):=by
 refine T.Pb.ok z7 λvs H Q E h=>?_;obtain⟨x,dx,a,lg,gs,S,ms,Gs,Gs',i,k,rfl,hx,hR,G,hlg,hSl,hA,hE,hlen,O,q⟩:=h;walk_at "i";have hxl:x≠lg:=cy hx hlg (by intro z;cases z);have hl:=O.len;have hle:=O.le;refine au (cR 2 z7 (pv 1)) ⟨_,rfl,?_⟩;refine aI (λZ' H'=>∃gs',(∃x2,Z'=[some (.ref x),some (.int i),x2]/\x2=some (.int ((i+k:Nat):Int)))/\H' lg=some (.lst (gs'.map V.ref))/\bO (eK t (hid S H')) gs' Gs'/\fZ H H' lg) (oW ab3 (PW.pt (jS (aB ie (pv 2) (aM aS (by rfl) T.bW (by decide +kernel) (aa (aJ (pv 0) rfl) ai)) (aD _)) (i0 (aB (rL (ae9 (jE hr))) (aJ (aY aQ (aJ (pv 0) rfl) (pv 2) (λ_ _=>rfl)) rfl) (bB (pv 0) T.aL T.Ht (Aq T) hr.m T.Bc.b2 .nil aH (aa (pv 2) ai)) (aD _))))) aq) ?_ ?_
 ·refine⟨λm Z' H'=>∃(j:Nat) (gs':List Addr),Z'=[some (.ref x),some (.int i),some (.int ((i+j:Nat):Int))]/\j<=k/\m=k-j/\H' lg=some (.lst (gs'.map V.ref))/\bO (eK t (hid S H')) gs' (lJ Gs Gs' (i+j))/\fZ H H' lg,⟨k,0,gs,rfl,X5 _,rfl,hlg,(by rw[Nat.add_zero,O.first];exact hA),fZ.refl H lg⟩,?_⟩;rintro m Z' H1 ⟨j,gs1,rfl,hj,rfl,hlg1,hA1,a1⟩;have hx1:=a1 _ _ hx hxl;have s1:ak (hid S H) (hid S H1):=λb o hb=>bA (a1 _ _ (aC _ _ hb) (λz=>bR hb (by rw[z];exact hSl))) (bR hb);have hR1:=hR.same s1;have hE1:Ex S H1:=λb hb=>by
   by_cases e:b=lg
   ·rw[e];exact⟨_,hlg1⟩
   ·obtain⟨o,ho⟩:=hE b hb;exact⟨o,a1 _ _ ho e⟩
  have hg1:gs1.length=Gs.length:=by rw[hA1.1,wU hl (by lia)]
  refine⟨_,rfl,⟨_,rfl,_,_,_,_,_,rfl,hx1,T.aL,T.aV,rfl,⟨_,_,rfl,.inl (bq.of hlg1),_,_,rfl,rfl,_,rfl,dI (λh=>?_) (λh=>?_)⟩⟩⟩
  ·rw[d6] at h;have hlt:i+j<Gs.length:=by lia
   obtain⟨G0,hG0⟩:∃G0,Gs[i+j]?=some G0:=⟨Gs[i+j],i4 hlt⟩
   have hG1:(lJ Gs Gs' (i+j))[i+j]?=some G0:=by rw[Rl hl (by lia)];exact hG0
   obtain⟨g,hg,dg,lb,lt,lo,lk,e⟩:=hA1.at hG1;refine⟨_,rfl,_,_,_,_,_,rfl,hx1,T.aL,T.aV,rfl,⟨_,rfl,_,_,_,_,rfl,rfl,bq.of hlg1,gP hg,g,t.cj,dg,_,_,rfl,aC _ _ e.ob,T.cK,T.jY,rfl,?_⟩⟩;refine⟨_,rfl,x,dx,_,rfl,hx1,rfl,_,rfl,x,dx,a,lg,gs1,S,_,i+j,rfl,hx1,hlg1,hA1,hE1,(by rw[wU hl (by lia)];lia),λlb2 H2 hb2 s2=>?_⟩;rw[zd hl (by lia)] at hb2;refine⟨lb,lb2,_,_,rfl,rfl,bq.of (s2 _ _ (aC _ _ e.lb)),bq.of (aC _ _ hb2),A4 _ _,_,rfl,?_⟩;have hlg2:=s2 _ _ hlg1;have hx2:=s2 _ _ hx1;have hA2:bO (eK t (hid S H2)) gs1 (lJ Gs Gs' (i+j)):=hA1.mono λ_ _ z=>z.same (aT s2);have hE2:=hE1.same s2;have a2:fZ H H2 lg:=a1.same s2;refine lR (λhne=>?_) (λheq=>?_)
   ·have hjk:j<k:=by
     rcases Nat.lt_or_ge j k with z|z
     ·exact z
     ·exfalso;have ejk:j=k:=by lia
      subst ejk;exact hne (by rw[O.stop G0 hG0])
    obtain⟨G1,G',z1,hG',er,eb,_,hSt⟩:=O.mid (i+j) (by lia) (by lia);rw[hG0] at z1;cases z1;refine⟨_,λZ' H' z=>z,au (F7 (dP T.tO (IK T) hr.m rfl T.qT T.Gk.b4 .nil aH (aa (aJ (pv 0) rfl) (aa (bB (pv 0) T.aL T.Ht (Aq T) hr.m T.Bc.b2 .nil aH (aa (pv 2) ai)) (aa (aJ (aY aQ (aJ (pv 0) rfl) (pv 2) (λ_ _=>rfl)) rfl) ai)))) (FF (aJ (pv 0) rfl) (pv 2) set_list)) ?_⟩;refine⟨_,rfl,_,_,_,_,_,rfl,hx2,T.aL,T.jq,rfl,?_⟩;refine⟨_,rfl,x,dx,_,rfl,hx2,rfl,_,rfl,x,dx,a,lg,gs1,S,_,i+j,rfl,hx2,hlg2,hA2,hE2,(by rw[wU hl (by lia)];lia),λlb3 H3 hb3 s3=>?_⟩;rw[zd hl (by lia),← eb] at hb3;have hlg3:=s3 _ _ hlg2;have hx3:=s3 _ _ hx2;have hE3:=hE2.same s3;have s13:ak H1 H3:=s2.trans s3;refine⟨_,rfl,_,_,_,_,_,rfl,hx3,T.aL,T.aV,rfl,⟨_,rfl,_,_,_,_,rfl,rfl,bq.of hlg3,gP hg,g,t.cj,dg,_,_,rfl,s13 _ _ (aC _ _ e.ob),T.cK,T.dJ,rfl,?_⟩⟩;refine λg' dg' ng ndg ne=>⟨g',dg',a,lb3,S,ms,G',(by rw[er];rfl),af,((hR1.same aC).same s13).same (bP ng ndg),G,(aT (bP ng ndg)) _ _ hb3,hE3.same (bP ng ndg),hE3.new ng,hSt,λlt4 lo4 lk4 H4 hG4 a4=>⟨rfl,?_⟩⟩
    have s34:ak H3 H4:=λb o hb=>a4 b o (bP ng ndg _ _ hb) (av hb ng);have hlg4:=s34 _ _ hlg3;have hx4:=s34 _ _ hx3;have s14:ak H1 H4:=s13.trans s34;refine⟨_,rfl,_,_,_,_,_,rfl,hx4,T.aL,T.aV,rfl,⟨_,rfl,lg,_,_,i+j,rfl,rfl,hlg4,?_,?_⟩⟩
    ·have hz:(gs1.map V.ref).length=Gs.length:=by rw[d6];exact hg1
     rw[hz,DS,if_pos (by lia),if_pos (by lia),aa5]
    refine ay (zy (i:=2) z7.nd rfl (Or.inl rfl) ao A1) ⟨_,rfl,_,_,rfl,rfl,?_⟩;refine⟨k-(j+1),by lia,j+1,gs1.set (i+j) g',?_,by lia,rfl,?_,?_,?_⟩
    ·show [some (V.ref x),some (V.int i),some (V.int (((i+j:Nat):Int)+1))]=_;rw[show (((i+(j+1):Nat)):Int)=((i+j:Nat):Int)+1 by lia]
    ·rw[af,List.map_set]
    ·rw[oV hSl,show i+(j+1)=i+j+1 from rfl,← J1 hl hlt hG'];exact(hA1.mono λ_ _ z=>z.same (aT s14)).put ⟨dg',lb3,lt4,lo4,lk4,hG4⟩
    ·intro b o hb nb;rw[aj nb];exact s14 _ _ (a1 _ _ hb nb)
   ·have ejk:j=k:=by
     rcases Nat.lt_or_ge j k with z|z
     ·exfalso;obtain⟨G1,G',z1,hG',er,eb,hnb,hSt⟩:=O.mid (i+j) (by lia) (by lia);rw[hG0] at z1;cases z1;exact hnb (zm heq)
     ·lia
    subst ejk;rw[O.last] at hA2;exact⟨gs1,⟨_,rfl,rfl⟩,hlg2,hA2,a2⟩
  ·rw[d6] at h;have ej:j=k:=by have:=O.le;lia
   subst ej;rw[O.last] at hA1;exact⟨gs1,⟨_,rfl,rfl⟩,hlg1,hA1,a1⟩
 rintro Z' H1 ⟨gs1,⟨x2,rfl,rfl⟩,h1,h2,h3⟩;refine ay (aP (bh nP (pv 2) (pv 1))) ⟨_,rfl,_,rfl,_,_,rfl,rfl,?_⟩;have:=q gs1 H1 h1 h2 h3;rw[show (k:Int)=((i+k:Nat):Int)-(i:Int) by lia] at this;exact this
def A8{xs:List V}{i j:Nat}(hj:j<=xs.length)(h:i<=j):cH xs (some (i:Int)) (some (j:Int))=(xs.drop i).take (j-i):=by rw[cH,HT.mR,HT.mR,af8 hj,af8 (X6 h hj)]
def sC{xs:List V}{i:Nat}(h:i<=xs.length):cH xs (some (i:Int)) none=xs.drop i:=by rw[cH,HT.mR,HT.xE,af8 h,ab4 (by rw[U2];exact M2 _)]
def WZ{a n m x s:Nat}(h:n+m+n<=s):min a n+m+(n-x)<=s:=by lia
def PZ{xs:List V}{j:Nat}(hj:j<=xs.length):cH xs none (some (j:Int))=xs.take j:=by rw[cH,HT.mR,HT.xE,af8 hj];rfl
def apart(hx:H x=some (.ins C dx fs))(hb:H b=some o)(h:∀C' d' fs',o = .ins C' d' fs'->fs'.length≠fs.length):hid (λc=>c=x) H b=some o:=by refine bA hb λz=>?_;rw[z,hx] at hb;cases hb;exact h _ _ _ rfl rfl
def Fi(s z:Str):(mU s z).length<=1:=by
 rw[mU];by_cases b:bare s
 ·rw[if_pos b];exact X5 _
 ·rw[if_neg b];by_cases e:s = "word"
  ·rw[if_pos e];exact M2 _
  ·rw[if_neg e];exact M2 _
def IsRules.apart    (h:IsRules t H a ms) (hx:H x=some (.ins t.bf dx [("rules",.ref a'),("gone_rows",.ref lg)])):IsRules t (hid (λc=>c=x) H) a ms:=by
 obtain⟨d1,lm,as,ls,h1,h2,h3⟩:=h;refine⟨d1,lm,as,ls,K64.apart hx h1 (λ_ _ _ z=>by cases z;simp),K64.apart hx h2 (λ_ _ _ z=>by cases z),h3.la,h3.ll,h3.nd,λi a l m e1 e2 e3=>?_⟩;obtain⟨d2,rs,k1,k2,k3⟩:=h3.ob i a l m e1 e2 e3;refine⟨d2,rs,K64.apart hx k1 (λ_ _ _ z=>by cases z;simp[mf]),K64.apart hx k2 (λ_ _ _ z=>by cases z),k3.mono λr R hr=>?_⟩;obtain⟨d3,p,r1,d4,r2⟩:=hr;refine⟨d3,p,K64.apart hx r1 (λ_ _ _ z=>by cases z;simp[rf]),d4,K64.apart hx r2 (λ_ _ _ z=>?_)⟩;injection z with _ _ z
 rw[← z];have:=Fi R.sort R.signs;intro z;have z:(mU R.sort R.signs).length=2:=z;lia
def eK.apart    (h:eK t H g G) (hx:H x=some (.ins t.bf dx [("rules",.ref a'),("gone_rows",.ref lg)])):eK t (hid (λc=>c=x) H) g G:=by obtain⟨dg,lb,lt,lo,lk,e⟩:=h;obtain⟨ps,k1,k2⟩:=e.lk;exact⟨dg,lb,lt,lo,lk,K64.apart hx e.ob (λ_ _ _ z=>by cases z;simp[gf]),K64.apart hx e.lb (λ_ _ _ z=>by cases z),K64.apart hx e.lt (λ_ _ _ z=>by cases z),K64.apart hx e.lo (λ_ _ _ z=>by cases z),ps,K64.apart hx k1 (λ_ _ _ z=>by cases z),k2.mono λp m h=>K64.apart hx h (λ_ _ _ z=>by cases z)⟩
structure jK(ms:List aE)(Gs:List bF)(i k:Nat)(fs:List Str)(ah bk:Nat)(Gm:List bF)(c:Nat)(Gs':List bF):Prop where
 le:i+k<=Gs.length
 eah:ah=ez (((Gs.map (·.row)).drop i).take k) fs
 ebk:bk=ez ((((Gs.map (·.row)).drop i).take k).drop ah).reverse (fs.drop ah).reverse
 mid:Chain ms (jT [0] (Gs.take (i+ah))) ((fs.drop ah).take (fs.length-bk-ah)) Gm
 on:pZ ms (Gs.take (i+ah)++Gm++Gs.drop (i+k-bk)) (i+ah+Gm.length) c Gs'
def jK.small(h:jK ms Gs i k fs ah bk Gm c Gs'):ah<=k/\ah<=fs.length/\ah+bk<=k/\ah+bk<=fs.length/\Gm.length=fs.length-bk-ah:=by have h1:=lZ (((Gs.map (·.row)).drop i).take k) fs;have h2:=lZ ((((Gs.map (·.row)).drop i).take k).drop ah).reverse (fs.drop ah).reverse;have h3:=h.mid.len;have h4:=h.le;rw[← h.eah,N0,U2,d6] at h1;rw[← h.ebk,ae1,ae1,U2,U2,N0,U2,d6] at h2;rw[N0,U2] at h3;lia
def bO.take{α β:Type}{R:α->β->Prop}{xs:List α}{ys:List β}(h:bO R xs ys)(n:Nat):bO R (xs.take n) (ys.take n):=by
 refine⟨by rw[N0,N0,h.1],λi a b ha hb=>?_⟩;rw[ak0] at ha hb;by_cases e:i<n
 ·rw[if_pos e] at ha hb;exact h.2 i a b ha hb
 ·rw[if_neg e] at ha;cases ha
def bO.drop{α β:Type}{R:α->β->Prop}{xs:List α}{ys:List β}(h:bO R xs ys)(n:Nat):bO R (xs.drop n) (ys.drop n):=by refine⟨by rw[U2,U2,h.1],λi a b ha hb=>?_⟩;rw[ab7] at ha hb;exact h.2 _ a b ha hb
def bO.append{α β:Type}{R:α->β->Prop}{xs xs':List α}{ys ys':List β}(h:bO R xs ys)(h':bO R xs' ys'):bO R (xs++xs') (ys++ys'):=by
 refine⟨by rw[o0,o0,h.1,h'.1],λi a b ha hb=>?_⟩;have e:=h.1;by_cases hi:i<xs.length
 ·rw[Y9 hi] at ha;rw[Y9 (by lia)] at hb;exact h.2 i a b ha hb
 ·rw[X3 (by lia)] at ha;rw[X3 (by lia),← e] at hb;exact h'.2 _ a b ha hb
def BB:ak (hid S' (hid S H)) (hid (λc=>S c∨S' c) H):=λb o h=>by have h1:=bR h;have h2:=aC _ _ h;exact bA (aC _ _ h2) (λz=>z.elim (bR h2) h1)
inductive JN(t:dU)(vs:List V)(H:Hp)(Q:VK)(_:XK):Prop|mk(S:Addr->Prop)(x dx a lg lr:Addr)(gs:List Addr)(ms:List aE)(Gs:List bF)(i k:Nat)(fs:List Str)(ah bk:Nat)(Gm:List bF)(c:Nat)(Gs':List bF)(_:vs=[.ref x,.int i,.int k,.ref lr])(_:Ex S H)(_:bG t (hid S H) x dx a lg gs ms Gs)(_:cT ms)(_:H lr=some (.lst (fs.map V.str)))(_:Gs.length<=50000)(_:fs.length<=50000)(_:(k=Gs.length->fs≠[]))(_:jK ms Gs i k fs ah bk Gm c Gs')(_:∀lg' gs' H',bG t (hid S H') x dx a lg' gs' ms Gs'->H lg'=none->fZ H H' x->Q (.int ((Gm.length+c:Nat):Int)) H')
def AZ (T:Txt K mg t):bw P w K mg base dM 8 t.Jf t.LR ["self","row","many","rows"] (JN t):=by
 refine T.Cj.ok pN λvs H Q E h=>?_;obtain⟨S,x,dx,a,lg,lr,gs,ms,Gs,i,k,fs,ah,bk,Gm,c,Gs',rfl,hES,IS,GM_,hlr,hl1,hl2,hne,C,q⟩:=h;walk_at "i";have I:=IS.same aC;have hxS:¬ S x:=bR IS.ob;obtain⟨b1,b2,b3,b4,b5⟩:=C.small;have hle:=C.le;have hgl:=I.go.1;refine au (aX (bB (pv 0) T.aL T.Uu (Rx T) hr.m T.Nq.b3 .nil aH (aa (pv 1) (aa (pv 2) ai)))) ⟨_,rfl,x,dx,_,rfl,I.ob,rfl,_,rfl,_,rfl,x,dx,a,lg,gs,i,k,rfl,I.ob,I.lg,(by lia),?_⟩;refine aI (λZ' H'=>H'=H/\Z'=[some (.ref x),some (.int i),some (.int k),some (.ref lr),none,none,none,none,none]) (aW (PW.pt (jS (aB bN (pv 2) (aM aS (by rfl) T.bW (by decide +kernel) (aa (aJ (pv 0) rfl) ai)) (aD _)) (i0 (gQ (fY (pv 3) (λ_=>rfl)))))) aq aq) ?_ ?_
 ·refine⟨_,rfl,⟨_,rfl,_,_,_,_,_,rfl,I.ob,T.aL,T.aV,rfl,⟨_,_,rfl,.inl (bq.of I.lg),rfl,_,rfl,dI (λh=>?_) (λh=>bu ⟨rfl,rfl⟩)⟩⟩⟩;have hk:k=Gs.length:=by
   injection h with h
   rw[d6] at h;lia
  have hf:=hne hk;refine⟨_,rfl,true,.inl ⟨_,bq.of hlr,?_⟩,yZ (c:=false) rfl (bu ⟨rfl,rfl⟩)⟩;cases fs with
  |nil=>exact absurd rfl hf
  |cons _ _=>rfl
 rintro Z' H' ⟨eH,eZ⟩;rw[eH,eZ];clear eH eZ Z' H';refine au (cR 4 pN (fW jF (bx (pv 0) T.aL T.nj (jL T) hr.m T.lQ.b1 .nil aH) (fk (pv 1)) (fk (bh bX (pv 1) (pv 2))))) ⟨_,rfl,x,dx,_,rfl,I.ob,rfl,x,dx,a,lg,gs,ms,Gs,rfl,I,(by lia),λl1 H1 h1 f1 s1=>?_⟩;obtain⟨tk,htk⟩:∃tk,tk=((Gs.map (·.row)).drop i).take k:=⟨_,rfl⟩
 have ea:ah=ez tk fs:=by rw[htk];exact C.eah
 have eb:bk=ez (tk.drop ah).reverse (fs.drop ah).reverse:=by rw[htk];exact C.ebk
 have htl:tk.length=k:=by rw[htk,N0,U2,d6];lia
 refine⟨_,rfl,_,rfl,_,rfl,_,rfl,_,_,rfl,rfl,_,rfl,l1,_,rfl,bq.of h1,λl2 f2=>?_⟩;have e2:cH ((Gs.map (·.row)).map V.str) (some (i:Int)) (some ((i:Int)+(k:Int)))=tk.map V.str:=by rw[← Int.natCast_add,A8 (by rw[d6,d6];lia) (by lia),htk,ak1,List.map_drop];congr 1;lia
 have h2:upd H1 l2 (.lst (cH ((Gs.map (·.row)).map V.str) (some (i:Int)) (some ((i:Int)+(k:Int))))) l2=some (.lst (tk.map V.str)):=by rw[af,e2]
 have s2:ak H (upd H1 l2 (.lst (cH ((Gs.map (·.row)).map V.str) (some (i:Int)) (some ((i:Int)+(k:Int)))))):=s1.trans (ak.upd f2);generalize upd H1 l2 (.lst (cH ((Gs.map (·.row)).map V.str) (some (i:Int)) (some ((i:Int)+(k:Int)))))=H2 at h2 s2;refine au (cR 5 pN (aN (FG T) hr.m rfl T.Iq T.xh.kp T.xh.b2 .nil aH (aa (pv 4) (aa (pv 3) ai)))) ⟨_,rfl,_,rfl,l2,lr,tk,fs,rfl,h2,s2 _ _ hlr,λH3 s3'=>?_⟩;rw[← ea];have s3:=s2.trans s3';refine au (cR 6 pN (aN (Sy T) hr.m rfl T.Rq T.Jq.kp T.Jq.b2 .nil aH (aa (fW jF (pv 4) (fk (pv 5)) mL) (aa (fW jF (pv 3) (fk (pv 5)) mL) ai)))) ⟨_,rfl,_,rfl,_,rfl,l2,_,rfl,bq.of (s3' _ _ h2),λl4 f4=>⟨_,rfl,_,rfl,_,rfl,lr,_,rfl,bq.of (ak.upd f4 _ _ (s3 _ _ hlr)),λl5 f5=>⟨l4,l5,tk.drop ah,fs.drop ah,rfl,?_,?_,λH6 s6=>?_⟩⟩⟩
 ·rw[ak.upd f5 _ _ af,sC (by rw[d6];lia),List.map_drop]
 ·rw[af,sC (by rw[d6];lia),List.map_drop]
 rw[← eb];have s6:ak H H6:=((s3.trans (ak.upd f4)).trans (ak.upd f5)).trans s6;refine aI (λZ' H'=>H'=H6/\Z'=[some (.ref x),some (.int i),some (.int k),some (.ref lr),some (.ref l2),some (.int ah),some (.int bk),some (.int ((i+ah:Nat):Int)),none]) (cR 7 pN (bh bX (pv 1) (pv 5))) ⟨_,rfl,_,rfl,_,_,rfl,rfl,rfl,rfl⟩ ?_;rintro Z' H' ⟨eH,eZ⟩;rw[eH,eZ];clear eH eZ Z' H';have hx6:=s6 _ _ I.ob;have hlg6:=s6 _ _ I.lg;have hlr6:=s6 _ _ hlr;have hx6S:=(aT (S:=S) s6) _ _ IS.ob;have hR6:IsRules t (hid (λc=>S c∨c=x) H6) a ms:=((IS.ru.same (aT s6)).apart hx6S).same BB;have hA6:bO (eK t (hid (λc=>S c∨c=x) H6)) gs Gs:=IS.go.mono λ_ _ z=>((z.same (aT s6)).apart hx6S).same BB;have hE6:Ex (λc=>S c∨c=x) H6:=λb hb=>by
  rcases hb with hb|hb
  ·exact(hES.same s6) b hb
  ·rw[hb];exact⟨_,hx6⟩
 refine au (cR 8 pN (bB (pv 0) T.aL T.MS (Fj T) hr.m T.Ew.b3 .nil aH (aa (bB (pv 0) T.aL T.Ht (Aq T) hr.m T.Bc.b2 .nil aH (aa (pv 7) ai)) (aa (fW jF (pv 3) (fk (pv 5)) (fk (bh nP (aM aS (by rfl) T.bW (by decide +kernel) (aa (pv 3) ai)) (pv 6)))) ai)))) ⟨_,rfl,x,dx,_,rfl,hx6,rfl,_,rfl,x,dx,_,rfl,hx6,rfl,_,rfl,x,dx,a,lg,gs,λc=>S c∨c=x,Gs,i+ah,rfl,hx6,hlg6,hA6,hE6,(by lia),λlb H7 hb7 s7=>?_⟩;refine⟨_,rfl,_,rfl,_,rfl,_,rfl,_,_,rfl,.inl (bq.of (s7 _ _ hlr6)),_,rfl,_,_,rfl,rfl,_,rfl,lr,_,rfl,bq.of (s7 _ _ hlr6),λl8 f8=>?_⟩;have e8:cH (fs.map V.str) (some (ah:Int)) (some (((fs.map V.str).length:Int)-(bk:Int)))=((fs.drop ah).take (fs.length-bk-ah)).map V.str:=by rw[d6,show ((fs.length:Int)-(bk:Int))=((fs.length-bk:Nat):Int) by lia,A8 (by rw[d6];lia) (by lia),ak1,List.map_drop]
 have h8:upd H7 l8 (.lst (cH (fs.map V.str) (some (ah:Int)) (some (((fs.map V.str).length:Int)-(bk:Int))))) l8=some (.lst (((fs.drop ah).take (fs.length-bk-ah)).map V.str)):=by rw[af,e8]
 have s8:ak H6 (upd H7 l8 (.lst (cH (fs.map V.str) (some (ah:Int)) (some (((fs.map V.str).length:Int)-(bk:Int)))))):=s7.trans (ak.upd f8);have hb8:=(aT (S:=λc=>S c∨c=x) (ak.upd (o:=.lst (cH (fs.map V.str) (some (ah:Int)) (some (((fs.map V.str).length:Int)-(bk:Int))))) f8)) _ _ hb7;generalize upd H7 l8 (.lst (cH (fs.map V.str) (some (ah:Int)) (some (((fs.map V.str).length:Int)-(bk:Int)))))=H8 at h8 s8 hb8;refine⟨x,dx,a,lb,l8,λc=>S c∨c=x,_,ms,_,_,Gm,rfl,s8 _ _ hx6,rfl,(hR6.same aC).same s8,GM_,hb8,hE6.same s8,h8,(by rw[N0,U2];lia),C.mid,λlm gm H9 hm9 hA9 f9 s9=>?_⟩;have s9:ak H6 H9:=s8.trans s9;have hx9:=s9 _ _ hx6;have hlg9:=s9 _ _ hlg6;have hgm:gm.length=Gm.length:=hA9.1;refine au (bT (pv 0) (bh iD (bh iD (fW jF (aJ (pv 0) rfl) mL (fk (pv 7))) (pv 8)) (fW jF (aJ (pv 0) rfl) (fk (bh nP (bh bX (pv 1) (pv 2)) (pv 6))) mL)) rfl) (⟨_,rfl,_,_,_,_,_,rfl,hx9,T.aL,T.aV,rfl,⟨_,rfl,_,rfl,lg,_,rfl,bq.of hlg9,λp1 g1=>?_⟩⟩);have z1:(gs.map V.ref).length=Gs.length:=by rw[d6];exact hgl
 have z2:(gm.map V.ref).length=Gm.length:=by rw[d6];exact hgm
 have c1:cH (gs.map V.ref) none (some ((i+ah:Nat):Int))=(gs.take (i+ah)).map V.ref:=by rw[PZ (by rw[z1];lia),ak1]
 have c2:cH (gs.map V.ref) (some ((i:Int)+(k:Int)-(bk:Int))) none=(gs.drop (i+k-bk)).map V.ref:=by rw[show ((i:Int)+(k:Int)-(bk:Int))=((i+k-bk:Nat):Int) by lia,sC (by rw[z1];lia),List.map_drop]
 have sz:=ac0;refine⟨_,rfl,p1,lm,_,_,rfl,rfl,af,ak.upd g1 _ _ hm9,(by rw[c1,z2,d6,N0];lia),λp2 g2=>?_⟩;refine⟨_,rfl,_,_,_,_,_,rfl,(ak.upd g2 _ _ (ak.upd g1 _ _ hx9)),T.aL,T.aV,rfl,?_⟩;refine⟨_,rfl,_,rfl,_,_,rfl,rfl,_,rfl,_,_,rfl,rfl,_,rfl,lg,_,rfl,bq.of (ak.upd g2 _ _ (ak.upd g1 _ _ hlg9)),λp3 g3=>?_⟩;refine⟨p2,p3,_,_,rfl,rfl,ak.upd g3 _ _ af,af,?_,λlg' g4=>?_⟩
 ·rw[o0,c1,c2,z2,d6,d6,N0,U2];exact WZ (by lia)
 have e10:cH (gs.map V.ref) none (some ((i+ah:Nat):Int))++gm.map V.ref++cH (gs.map V.ref) (some ((i:Int)+(k:Int)-(bk:Int))) none=(gs.take (i+ah)++gm++gs.drop (i+k-bk)).map V.ref:=by rw[c1,c2,P2,P2]
 have s10:ak H9 (upd (upd (upd H9 p1 (.lst (cH (gs.map V.ref) none (some ((i+ah:Nat):Int))))) p2 (.lst (cH (gs.map V.ref) none (some ((i+ah:Nat):Int))++gm.map V.ref))) p3 (.lst (cH (gs.map V.ref) (some ((i:Int)+(k:Int)-(bk:Int))) none))):=((ak.upd g1).trans (ak.upd g2)).trans (ak.upd g3);revert g4;show upd (upd (upd H9 p1 (.lst (cH (gs.map V.ref) none (some ((i+ah:Nat):Int))))) p2 (.lst (cH (gs.map V.ref) none (some ((i+ah:Nat):Int))++gm.map V.ref))) p3 (.lst (cH (gs.map V.ref) (some ((i:Int)+(k:Int)-(bk:Int))) none)) lg'=none->_;generalize upd (upd (upd H9 p1 (.lst (cH (gs.map V.ref) none (some ((i+ah:Nat):Int))))) p2 (.lst (cH (gs.map V.ref) none (some ((i+ah:Nat):Int))++gm.map V.ref))) p3 (.lst (cH (gs.map V.ref) (some ((i:Int)+(k:Int)-(bk:Int))) none))=HA at s10;intro g4;have hx10:=s10 _ _ hx9;refine⟨_,rfl,x,_,dx,_,rfl,ak.upd g4 _ _ hx10,T.aL,T.aV,(by show 2<1000;decide),?_⟩;have hxl:x≠lg':=av hx10 g4;have hxB:upd (upd HA lg' (.lst (cH (gs.map V.ref) none (some ((i+ah:Nat):Int))++gm.map V.ref++cH (gs.map V.ref) (some ((i:Int)+(k:Int)-(bk:Int))) none))) x (.ins t.bf dx (dj "gone_rows" (.ref lg') [("rules",.ref a),("gone_rows",.ref lg)])) x=some (.ins t.bf dx [("rules",.ref a),("gone_rows",.ref lg')]):=af;have hlB:upd (upd HA lg' (.lst (cH (gs.map V.ref) none (some ((i+ah:Nat):Int))++gm.map V.ref++cH (gs.map V.ref) (some ((i:Int)+(k:Int)-(bk:Int))) none))) x (.ins t.bf dx (dj "gone_rows" (.ref lg') [("rules",.ref a),("gone_rows",.ref lg)])) lg'=some (.lst ((gs.take (i+ah)++gm++gs.drop (i+k-bk)).map V.ref)):=by rw[aj (aa3 hxl),af,e10]
 have kB:∀b o,HA b=some o->b≠x->upd (upd HA lg' (.lst (cH (gs.map V.ref) none (some ((i+ah:Nat):Int))++gm.map V.ref++cH (gs.map V.ref) (some ((i:Int)+(k:Int)-(bk:Int))) none))) x (.ins t.bf dx (dj "gone_rows" (.ref lg') [("rules",.ref a),("gone_rows",.ref lg)])) b=some o:=λb o hb nb=>by rw[aj nb,aj (av hb g4)];exact hb
 show At _ _ _ _ (upd (upd HA lg' (.lst (cH (gs.map V.ref) none (some ((i+ah:Nat):Int))++gm.map V.ref++cH (gs.map V.ref) (some ((i:Int)+(k:Int)-(bk:Int))) none))) x (.ins t.bf dx (dj "gone_rows" (.ref lg') [("rules",.ref a),("gone_rows",.ref lg)])));generalize upd (upd HA lg' (.lst (cH (gs.map V.ref) none (some ((i+ah:Nat):Int))++gm.map V.ref++cH (gs.map V.ref) (some ((i:Int)+(k:Int)-(bk:Int))) none))) x (.ins t.bf dx (dj "gone_rows" (.ref lg') [("rules",.ref a),("gone_rows",.ref lg)]))=HB at hxB hlB kB;have s9A:ak H9 HA:=s10;have hmA:=s9A _ _ hm9;have nmx:lm≠x:=cy hm9 hx9 (by intro z;cases z);have hmB:=kB _ _ hmA nmx;have sB:ak (hid (λc=>S c∨c=x) H9) (hid (λc=>(S c∨c=x)∨c=lg') HB):=λb o hb=>by
  have nb:=bR (S:=λc=>S c∨c=x) hb;have hbA:=s9A _ _ (aC _ _ hb);refine bA (kB b o hbA (λz=>nb (.inr z))) λz=>?_;rcases z with z|z
  ·exact nb z
  ·exact av hbA g4 z
 have hE:Ex (λc=>(S c∨c=x)∨c=lg') HB:=λb hb=>by
  rcases hb with (z|z)|z
  ·obtain⟨o,ho⟩:=(((hES.same s6).same s9).same s9A) b z;exact⟨o,kB b o ho (λy=>hxS (by rw[← y];exact z))⟩
  ·rw[z];exact⟨_,hxB⟩
  ·rw[z];exact⟨_,hlB⟩
 have hR9:IsRules t (hid (λc=>S c∨c=x) H9) a ms:=hR6.same (aT s9);have hG9:bO (eK t (hid (λc=>S c∨c=x) H9)) gs Gs:=hA6.mono λ_ _ z=>z.same (aT s9);have hGG:bO (eK t (hid (λc=>(S c∨c=x)∨c=lg') HB)) (gs.take (i+ah)++gm++gs.drop (i+k-bk)) (Gs.take (i+ah)++Gm++Gs.drop (i+k-bk)) :=
  (((hG9.take (i+ah)).append hA9).append (hG9.drop (i+k-bk))).mono λ_ _ z=>z.same sB
 refine ay (aP (bh bX (aM aS (by rfl) T.bW (by decide +kernel) (aa (pv 8) ai)) (bB (pv 0) T.aL T.UD (Si T) hr.m T.Pb.b2 .nil aH (aa (bh bX (pv 7) (aM aS (by rfl) T.bW (by decide +kernel) (aa (pv 8) ai))) ai)))) ⟨_,rfl,_,_,rfl,.inl (bq.of hmB),?_⟩;refine⟨_,rfl,x,dx,_,rfl,hxB,rfl,_,rfl,_,rfl,_,_,rfl,.inl (bq.of hmB),_,_,rfl,rfl,x,dx,a,lg',_,λc=>(S c∨c=x)∨c=lg',ms,_,Gs',i+ah+Gm.length,c,?_,hxB,hR9.same sB,GM_,hlB,.inr rfl,hGG,hE,?_,C.on,λgs2 HC h1 h2 a2=>?_⟩
 ·rw[z2];rfl
 ·rw[o0,o0,N0,U2];lia
 refine⟨_,_,rfl,rfl,?_⟩;have hxC:=a2 _ _ hxB hxl;have hlS:¬ S lg':=(((hES.same s6).same s9).same s9A).new g4;have:=q lg' gs2 HC ⟨bA hxC hxS,(hR9.same sB).same (λb o hb=>bA (a2 _ _ (aC _ _ hb) (λz=>bR hb (.inr z))) (λz=>bR hb (.inl (.inl z)))),bA h1 hlS,h2.mono λ_ _ z=>z.same (zf λc hc=>.inl (.inl hc))⟩ ?_ ?_
 ·rw[Int.natCast_add,← z2] at this;exact this
 ·exact((s6.trans s9).trans s9A).free g4
 ·intro b o hb nb;have hbA:=((s6.trans s9).trans s9A) _ _ hb;exact a2 _ _ (kB _ _ hbA nb) (av hbA g4)
def qS.one(h:qS ms G)(h':qS ms G')(e1:G.row=G'.row)(e2:G.before=G'.before):G=G':=by
 obtain⟨n,_,g⟩:=h.go;obtain⟨m,_,g'⟩:=h'.go;rw[← e1,← e2] at g';have x:=sQ (Nat.le_max_left n m) g;have y:=sQ (Nat.le_max_right n m) g';rw[x] at y;injection y with y
 cases G;cases G';simp_all
theorem Chain.one:∀{b:List Nat} {rs:List Str} {Gs Gs':List bF},Chain ms b rs Gs->Chain ms b rs Gs'->Gs=Gs'
 |_,[],[],[],_,_=>rfl
 |b,r::rs,G::Gs,G'::Gs',h,h'=>by have e:=h.2.2.1.one h'.2.2.1 (h.1.trans h'.1.symm) (h.2.1.trans h'.2.1.symm);subst e;rw[Chain.one h.2.2.2 h'.2.2.2]
 |_,[],[],_::_,_,h=>h.elim
 |_,[],_::_,_,h,_=>h.elim
 |_,_::_,[],_,h,_=>h.elim
 |_,_::_,_::_,[],_,h=>h.elim
theorem Chain.split:∀{b:List Nat} {rs:List Str} {Gs:List bF} (n:Nat),Chain ms b rs Gs->Chain ms b (rs.take n) (Gs.take n)/\Chain ms (jT b (Gs.take n)) (rs.drop n) (Gs.drop n)
 |_,rs,Gs,0,h=>⟨by rw[List.take_zero,List.take_zero];trivial,h⟩
 |_,[],[],n+1,h=>⟨trivial,trivial⟩
 |b,r::rs,G::Gs,n+1,h=>by obtain⟨h1,h2,h3,h4⟩:=h;obtain⟨k1,k2⟩:=Chain.split n h4;exact⟨⟨h1,h2,h3,k1⟩,k2⟩
 |_,[],_::_,_+1,h=>h.elim
 |_,_::_,[],_+1,h=>h.elim
def Chain.at(h:Chain ms b rs Gs)(hG:Gs[j]?=some G):rs[j]?=some G.row/\G.before=jT b (Gs.take j)/\qS ms G:=by
 have k:=(h.split j).2;rw[jH hG] at k;cases e:rs.drop j with
 |nil=>rw[e] at k;exact k.elim
 |cons r t =>
  rw[e] at k;refine⟨?_,k.2.1,k.2.2.1⟩;have:=ac1 (λl=>l[0]?) e;simp only[ab7,Nat.add_zero,ad5] at this;rw[this,k.1]
def i7:List bF->List bF->Nat
 |A::As,B::Bs=>if A.before=B.before then 0 else i7 As Bs+1
 |_,_=>0
theorem Ca:∀(As Bs:List bF),i7 As Bs<=As.length/\i7 As Bs<=Bs.length
 | [],_=>⟨X5 _,X5 _⟩
 |_::_,[]=>⟨X5 _,X5 _⟩
 |A::As,B::Bs=>by
  have h:=Ca As Bs;rw[i7];by_cases e:A.before=B.before
  ·rw[if_pos e];exact⟨X5 _,X5 _⟩
  ·rw[if_neg e,x0,x0];lia
theorem Bq:∀{As Bs:List bF} {j:Nat} {A B:bF},j<i7 As Bs->As[j]?=some A->Bs[j]?=some B->A.before≠B.before
 |A::As,B::Bs,0,A',B',h,h1,h2=>by cases h1;cases h2;rw[i7] at h;intro e;rw[if_pos e] at h;exact ad6 _ h
 |A::As,B::Bs,j+1,A',B',h,h1,h2=>by
  rw[i7] at h;by_cases e:A.before=B.before
  ·rw[if_pos e] at h;exact absurd h (Nat.not_lt_zero _)
  ·rw[if_neg e] at h;exact Bq (As:=As) (Bs:=Bs) (j:=j) (by lia) (by simpa using h1) (by simpa using h2)
 | [],_,j,_,_,h,_,_=>by rw[i7] at h;exact absurd h (Nat.not_lt_zero _);intros;simp_all
 |_::_,[],j,_,_,h,_,_=>by rw[i7] at h;exact absurd h (Nat.not_lt_zero _);intros;simp_all
theorem wg:∀{As Bs:List bF} {A B:bF},As[i7 As Bs]?=some A->Bs[i7 As Bs]?=some B->A.before=B.before
 |A::As,B::Bs,A',B',h1,h2=>by
  rw[i7] at h1 h2;by_cases e:A.before=B.before
  ·rw[if_pos e] at h1 h2;cases h1;cases h2;exact e
  ·rw[if_neg e] at h1 h2;exact wg (As:=As) (Bs:=Bs) (by simpa using h1) (by simpa using h2)
 | [],_,_,_,h1,_=>by simp at h1
 |_::_,[],_,_,_,h2=>by simp at h2
def DU(hA:Chain ms b rs As)(hB:Chain ms b' rs Bs):As.drop (i7 As Bs)=Bs.drop (i7 As Bs):=by
 have l1:=hA.len;have l2:=hB.len;by_cases hc:i7 As Bs<As.length
 ·obtain⟨A,eA⟩:∃A,As[i7 As Bs]?=some A:=⟨_,i4 hc⟩
  obtain⟨B,eB⟩:∃B,Bs[i7 As Bs]?=some B:=⟨_,i4 (by lia)⟩
  have e:=wg eA eB;rw[(hA.at eA).2.1,(hB.at eB).2.1] at e;have k1:=(hA.split (i7 As Bs)).2;have k2:=(hB.split (i7 As Bs)).2;rw[e] at k1;exact k1.one k2
 ·rw[af3 (by lia),af3 (by lia)]
def Xd{i f k b g g':Nat}(h:i+k<=g)(e:g'=i+f+(g-(i+k)))(hf:b<=f)(hk:b<=k):g'-(i+f-b)=g-(i+k-b):=by lia
def WO{i f k b g g':Nat}(h:i+k<=g)(e:g'=i+f+(g-(i+k)))(hf:b<=f)(hk:b<=k):g'=i+f-b+(g-(i+k-b)):=by lia
def ar2{a b k:Nat}(h:a+b<=k):a+(k-a-b)=k-b:=by lia
def ar3{i k b:Nat}:i+k-b-i=k-b:=by lia
def ar4{i a b f:Nat}(h:a+b<=f):i+a+(f-b-a)=i+f-b:=by lia
def ar5{i a b f n:Nat}(h:a+b<=f)(h2:i+f<=n):min (f-b-a) (n-(i+a))=f-b-a:=by lia
def nM(hC:Chain ms [0] rs Gs)(hle:i+k<=rs.length)(hC':Chain ms [0] (rs.take i++fs++rs.drop (i+k)) Gs') :
  ∃ah bk Gm c,jK ms Gs i k fs ah bk Gm c Gs'/\ah=ez ((rs.drop i).take k) fs/\bk=ez (((rs.drop i).take k).drop ah).reverse (fs.drop ah).reverse/\Gm.length=fs.length-bk-ah/\c=i7 (Gs'.drop (i+fs.length-bk)) (Gs.drop (i+k-bk))/\ah+bk<=k/\ah+bk<=fs.length:=by
 have hr:=hC.rows;have hl:=hC.len;have hl':=hC'.len;obtain⟨tk,htk⟩:∃tk,tk=(rs.drop i).take k:=⟨_,rfl⟩
 have htl:tk.length=k:=by rw[htk,N0,U2];lia
 obtain⟨ah,ea⟩:∃ah,ah=ez tk fs:=⟨_,rfl⟩
 obtain⟨bk,eb⟩:∃bk,bk=ez (tk.drop ah).reverse (fs.drop ah).reverse:=⟨_,rfl⟩
 have a1:=lZ tk fs;have a2:=lZ (tk.drop ah).reverse (fs.drop ah).reverse;rw[← ea] at a1;rw[← eb,ae1,ae1,U2,U2] at a2;have hF:ah+bk<=fs.length:=by lia
 have hK:ah+bk<=k:=by lia
 have hiK:i+ah<=rs.length:=X6 (Nat.add_le_add_left (X6 (ac5 _ _) hK) i) hle;have t1:tk.take ah=fs.take ah:=by rw[ea];exact n9 tk fs
 have t2:(tk.drop ah).reverse.take bk=(fs.drop ah).reverse.take bk:=by rw[eb];exact n9 _ _
 have t3:tk.drop (k-bk)=fs.drop (fs.length-bk):=by have:=ac1 List.reverse t2;rw[List.reverse_take,List.reverse_take,List.reverse_reverse,List.reverse_reverse,ae1,ae1,U2,U2,List.drop_drop,List.drop_drop,htl] at this;rw[show ah+(k-ah-bk)=k-bk from ar2 hK,show ah+(fs.length-ah-bk)=fs.length-bk from ar2 hF] at this;exact this
 have hdk:(rs.drop i).drop k=rs.drop (i+k):=List.drop_drop;have hri:rs.drop i=tk++rs.drop (i+k):=by rw[htk,← hdk,List.take_append_drop]
 have hrs:rs=rs.take i++(tk++rs.drop (i+k)):=by rw[← hri,List.take_append_drop]
 have hil:(rs.take i).length=i:=by rw[N0];lia
 have e1:(rs.take i++fs++rs.drop (i+k)).take (i+ah)=rs.take (i+ah):=by
  conv=>rhs;rw[hrs]
  rw[ac6];conv=>lhs;rw[List.take_append,hil,ab4 (by rw[hil];lia),show i+ah-i=ah by lia,ae7 a1.2]
  conv=>rhs;rw[List.take_append,hil,ab4 (by rw[hil];lia),show i+ah-i=ah by lia,ae7 (by lia)]
  rw[t1]
 have e2:(rs.take i++fs++rs.drop (i+k)).drop (i+fs.length-bk)=rs.drop (i+k-bk):=by
  conv=>rhs;rw[hrs]
  rw[ac6];conv=>lhs;rw[List.drop_append,hil,List.drop_of_length_le (by rw[hil];lia),show i+fs.length-bk-i=fs.length-bk from ar3,ag4 (by lia)]
  conv=>rhs;rw[List.drop_append,hil,List.drop_of_length_le (by rw[hil];lia),show i+k-bk-i=k-bk from ar3,ag4 (by rw[htl];exact Nat.sub_le _ _)]
  rw[t3]
 have e3:((rs.take i++fs++rs.drop (i+k)).drop (i+ah)).take (fs.length-bk-ah)=(fs.drop ah).take (fs.length-bk-ah):=by rw[ac6,List.drop_append,hil,List.drop_of_length_le (by rw[hil];exact ac5 _ _),show i+ah-i=ah from Nat.add_sub_cancel_left ..,ag4 a1.2,List.nil_append,ae7 (by rw[U2];lia)]
 obtain⟨p1,p2⟩:=hC.split (i+ah);obtain⟨p1',p2'⟩:=hC'.split (i+ah);rw[e1] at p1';have eG:=p1.one p1';obtain⟨m1,_⟩:=p2'.split (fs.length-bk-ah);rw[e3,← eG] at m1;obtain⟨_,q1⟩:=hC.split (i+k-bk);obtain⟨_,q1'⟩:=hC'.split (i+fs.length-bk);rw[e2] at q1';have hlr:(rs.take i++fs++rs.drop (i+k)).length=i+fs.length+(rs.length-(i+k)):=by rw[o0,o0,hil,U2]
 rw[hlr] at hl';have lm:((Gs'.drop (i+ah)).take (fs.length-bk-ah)).length=fs.length-bk-ah:=by rw[N0,U2];exact ar5 hF (by rw[hl'];exact ac5 _ _)
 have en:i+ah+(fs.length-bk-ah)=i+fs.length-bk:=ar4 hF;have lt:(Gs.take (i+ah)).length=i+ah:=by rw[N0];exact af8 (by rw[hl];exact hiK)
 have lG1:(Gs.take (i+ah)++(Gs'.drop (i+ah)).take (fs.length-bk-ah)).length=i+fs.length-bk:=by rw[o0,lm,lt];exact en
 have eG1:Gs.take (i+ah)++(Gs'.drop (i+ah)).take (fs.length-bk-ah)=Gs'.take (i+fs.length-bk):=by rw[eG,← en];exact List.take_add.symm
 have dl:=Ca (Gs'.drop (i+fs.length-bk)) (Gs.drop (i+k-bk));rw[U2,U2] at dl;have dd:=DU q1' q1;refine⟨ah,bk,(Gs'.drop (i+ah)).take (fs.length-bk-ah),_,⟨by rw[hl];exact hle,by rw[hr,← htk];exact ea,by rw[hr,← htk];exact eb,m1,?_⟩,by rw[← htk];exact ea,by rw[← htk];exact eb,lm,rfl,hK,hF⟩;rw[lm,en,eG1];have hle2:i+k<=Gs.length:=by rw[hl];exact hle
 have hl2:Gs'.length=i+fs.length+(Gs.length-(i+k)):=by rw[hl];exact hl'
 have hF2:bk<=fs.length:=X6 (Nat.le_add_left _ _) hF;have hK2:bk<=k:=X6 (Nat.le_add_left _ _) hK;have hGl:=WO hle2 hl2 hF2 hK2;have hGd:=Xd hle2 hl2 hF2 hK2;have lT:(Gs'.take (i+fs.length-bk)).length=i+fs.length-bk:=by rw[N0];exact af8 (by rw[hGl];exact ac5 _ _)
 refine⟨?_,?_,λj hj=>?_,λj hj=>?_,λj h1 h2=>?_,λG hG=>?_⟩
 ·rw[o0,lT,U2];first | exact hGl | exact hGl.symm | lia
 ·rw[o0,lT,U2];first | exact hGl | exact hGl.symm | lia
 ·rw[Y9 (by lia),ak0,if_pos hj]
 ·rw[X3 (by lia),lT];have:=ac1 (λl=>l[j-(i+fs.length-bk)-i7 (Gs'.drop (i+fs.length-bk)) (Gs.drop (i+k-bk))]?) dd;simp only[ab7] at this;rw[ab7];rw[show i+fs.length-bk+(i7 (Gs'.drop (i+fs.length-bk)) (Gs.drop (i+k-bk))+(j-(i+fs.length-bk)-i7 (Gs'.drop (i+fs.length-bk)) (Gs.drop (i+k-bk))))=j by lia] at this;rw[this];congr 1;lia
 ·obtain⟨d,rfl⟩:∃d,j=i+fs.length-bk+d:=⟨j-(i+fs.length-bk),by lia⟩
  obtain⟨A,hA⟩:∃A,Gs'[i+fs.length-bk+d]?=some A:=⟨_,i4 (by lia)⟩
  obtain⟨B,hB⟩:∃B,Gs[i+k-bk+d]?=some B:=⟨_,i4 (by lia)⟩
  have hA2:(Gs'.drop (i+fs.length-bk))[d]?=some A:=by rw[ab7];exact hA
  have hB2:(Gs.drop (i+k-bk))[d]?=some B:=by rw[ab7];exact hB
  obtain⟨x1,x2,x3⟩:=hC'.at hA;obtain⟨y1,_,_⟩:=q1.at hB2;obtain⟨w1,_,_⟩:=q1'.at hA2;refine⟨B,A,?_,hA,?_,x2,?_,x3⟩
  ·rw[X3 (by rw[lT];exact ac5 _ _),lT,Nat.add_sub_cancel_left];exact hB2
  ·rw[y1] at w1;injection w1 with w1
   exact w1.symm
  ·rw[← x2];exact λz=>Bq (by lia) hA2 hB2 z.symm
 ·rw[X3 (by lia),lT,Nat.add_sub_cancel_left] at hG;have hz:=(i5.mp hG).1;rw[U2] at hz;obtain⟨A,hA⟩:∃A,(Gs'.drop (i+fs.length-bk))[i7 (Gs'.drop (i+fs.length-bk)) (Gs.drop (i+k-bk))]?=some A:=⟨_,i4 (by rw[U2,hGd];exact hz)⟩
  have e:=wg hA hG;rw[ab7] at hA;rw[← e];exact(hC'.at hA).2.1
def JC(x:Str)(n:Nat):(PySem.Txt.slice x none (some (n:Int))).cps.toList=x.cps.toList.take n:=by
 by_cases h:n<=x.length
 ·have:=ak5 (PyProof.Rows.slice_closes_toL (x:=x) (j:=(n:Int)) (by lia) (by lia));rw[this];simp
 ·have e:PySem.Txt.slice x none (some (n:Int))=PySem.Txt.slice x none (some (x.length:Int)):=by
   have e2:PySem.Builtin.Str.strSliceIndices none (some (n:Int)) 1 x.length=PySem.Builtin.Str.strSliceIndices none (some (x.length:Int)) 1 x.length:=by
    have h0:¬ ((n:Int)<0):=by lia
    have h1:¬ ((x.length:Int)<0):=by lia
    have h2:(1:Int)>0:=by decide
    have h3:(x.length:Int)<=(n:Int):=by lia
    simp only[PySem.Builtin.Str.strSliceIndices,h0,h1,h2,if_false,if_true,Int.min_eq_right h3,Int.min_self]
   unfold PySem.Txt.slice;rw[e2]
  have:=ak5 (PyProof.Rows.slice_closes_toL (x:=x) (j:=(x.length:Int)) (by lia) (by lia));rw[ab4 (l:=x.cps.toList) (i:=n) (by rw[cz];lia),e,this];show ((x.cps.toList.drop (0:Int).toNat).take ((x.length:Int)-0).toNat)=_;exact ab4 (by show x.cps.toList.length<=_;rw[cz];lia)
def pS(x:Str)(j:Nat)(z:Str):Str:=PySem.Txt.slice x none (some (j:Int))++z++PySem.Txt.slice x (some (j:Int)) none
inductive Ar(t:dU)(vs:List V)(H:Hp)(Q:VK)(_:XK):Prop|mk(x dx a lg:Addr)(gs:List Addr)(ms:List aE)(Gs:List bF)(G:bF)(i j:Nat)(_:vs=[.ref x,.int i,.int j])(_:bG t H x dx a lg gs ms Gs)(_:Gs[i]?=some G)(_:j<=G.row.length)(_:G.row.length<=1000)(_:Q .cD H)
def FI (T:Txt K mg t):bw P w K mg base dM 2 t.BJ t.Jm ["self","row","at"] (Ar t):=by refine T.qN.ok Fq λvs H Q E h=>?_;obtain⟨x,dx,a,lg,gs,ms,Gs,G,i,j,rfl,I,hG,hj,hl,q⟩:=h;walk_at "i";have hi:=(i5.mp hG).1;have sz:=ac0;obtain⟨g,hg,dg,lb,lt,lo,lk,e⟩:=I.go.at hG;refine au (aX (bB (pv 0) T.aL T.O2 (Sq T) hr.m T.Cr.b2 .nil aH (aa (pv 1) ai))) ⟨_,rfl,x,dx,_,rfl,I.ob,rfl,_,rfl,x,dx,a,lg,gs,ms,Gs,i,rfl,I,hi,?_⟩;refine ay (aW (PW.pt (iX (aB ie (pv 2) ao (aD _)) (gI (aB j7 (pv 2) (aM bJ (by rfl) T.bW (by decide +kernel) (aa (aJ (aY aQ (aJ (pv 0) rfl) (pv 1) (λ_ _=>rfl)) rfl) ai)) (aD _))))) aq aq) ⟨_,rfl,_,_,rfl,rfl,_,rfl,dI (λh=>absurd h (by lia)) (λ_=>?_)⟩;exact⟨_,rfl,⟨_,rfl,_,_,_,_,_,rfl,I.ob,T.aL,T.aV,rfl,⟨_,rfl,_,_,_,_,rfl,rfl,bq.of I.lg,gP hg,g,t.cj,dg,_,_,rfl,e.ob,T.cK,T.dJ,rfl,_,rfl,b7 (by lia),_,_,rfl,rfl,_,rfl,dI (λh=>absurd h (by lia)) (λ_=>bu q)⟩⟩⟩
inductive U5(t:dU)(vs:List V)(H:Hp)(Q:VK)(_:XK):Prop|mk(S:Addr->Prop)(x dx a lg:Addr)(gs:List Addr)(ms:List aE)(Gs:List bF)(G:bF)(i j:Nat)(z:Str)(fs:List Str)(ah bk:Nat)(Gm:List bF)(c:Nat)(Gs':List bF)(_:vs=[.ref x,.int i,.int j,.str z])(_:Ex S H)(_:bG t (hid S H) x dx a lg gs ms Gs)(_:cT ms)(_:Gs[i]?=some G)(_:j<=G.row.length)(_:G.row.length<=1000)(_:z.length<=1000)(_:PySem.Txt.split (pS G.row j z) (Str.ofString "\n")=fs)(_:Gs.length<=50000)(_:fs.length<=50000)(_:fs≠[])(_:jK ms Gs i 1 fs ah bk Gm c Gs')(_:∀lg' gs' H',bG t (hid S H') x dx a lg' gs' ms Gs'->H lg'=none->fZ H H' x->Q (.int ((Gm.length+c:Nat):Int)) H')
def S7 (T:Txt K mg t):bw P w K mg base dM 9 t.Bl t.HU ["self","row","at","text"] (U5 t):=by
 refine T.Bh.ok Ai λvs H Q E h=>?_;obtain⟨S,x,dx,a,lg,gs,ms,Gs,G,i,j,z,fs,ah,bk,Gm,c,Gs',rfl,hES,IS,GM_,hG,hj,hl,hz,hfs,hl1,hl2,hne,C,q⟩:=h;walk_at "i";have I:=IS.same aC;have sz:=ac0;obtain⟨g,hg,dg,lb,lt,lo,lk,e⟩:=I.go.at hG;have b1:=PySem.Txt.slice_le G.row none (some (j:Int));have b2:=PySem.Txt.slice_le G.row (some (j:Int)) none;refine au (aX (bB (pv 0) T.aL T.vd (FI T) hr.m T.qN.b3 .nil aH (aa (pv 1) (aa (pv 2) ai)))) ⟨_,rfl,x,dx,_,rfl,I.ob,rfl,_,rfl,_,rfl,x,dx,a,lg,gs,ms,Gs,G,i,j,rfl,I,hG,hj,hl,?_⟩;refine au (cR 4 Ai (aJ (aY aQ (aJ (pv 0) rfl) (pv 1) (λ_ _=>rfl)) rfl)) (⟨_,rfl,_,_,_,_,_,rfl,I.ob,T.aL,T.aV,rfl,⟨_,rfl,_,_,_,_,rfl,rfl,bq.of I.lg,gP hg,g,t.cj,dg,_,_,rfl,e.ob,T.cK,T.dJ,rfl,?_⟩⟩);have l1:(PySem.Txt.slice G.row none (some (j:Int))++z).length<=2000:=by rw[Z8];lia
 have l2:(pS G.row j z).length<=3000:=by unfold pS;rw[Z8];lia
 refine ay (aP (bB (pv 0) T.aL T.Fe (AZ T) hr.m T.Cj.b4 .nil aH (aa (pv 1) (aa ao (aa (dF ac4 ae6 ai8 lH (bh iC (bh iC (fW zL (pv 4) mL (fk (pv 2))) (pv 3)) (fW zL (pv 4) (fk (pv 2)) mL)) (aa aA ai)) ai))))) ⟨_,rfl,x,dx,_,rfl,I.ob,rfl,_,rfl,_,rfl,_,rfl,_,rfl,_,rfl,(by lia),_,rfl,_,_,rfl,rfl,(by lia),_,rfl,_,rfl,_,rfl,_,rfl,(by lia),_,_,rfl,rfl,(by lia),rfl,pS G.row j z,Str.ofString "\n",rfl,rfl,rfl,(by lia),λp fp=>?_⟩;rw[hfs];have s1:ak H (upd H p (.lst (fs.map V.str))):=ak.upd fp;exact⟨S,x,dx,a,lg,p,gs,ms,Gs,i,1,fs,ah,bk,Gm,c,Gs',rfl,hES.same s1,IS.same (aT s1),GM_,af,hl1,hl2,(λ_=>hne),C,λlg' gs' H' I' f' a'=>q lg' gs' H' I' (s1.free f') (λb o hb nb=>a' b o (s1 _ _ hb) nb)⟩
def AF(x:Str)(i:Nat)(hi:i<=x.length):(PySem.Txt.slice x (some (i:Int)) none).cps.toList=x.cps.toList.drop i:=by have:=ak5 (PyProof.Rows.slice_closes_fromL (x:=x) (i:=(i:Int)) (b:=(x.length:Int)) (by lia) (by lia) rfl);rw[this];show (x.cps.toList.drop (i:Int).toNat).take ((x.length:Int)-(i:Int)).toNat=_;rw[aa5,ab4 (by rw[U2,cz];lia)]
def J4(h:j<=x.length):(pS x j z).cps.toList=x.cps.toList.take j++z.cps.toList++x.cps.toList.drop j:=by unfold pS;rw[dW,dW,JC,AF _ _ h]
def KS(B:List (List Nat)):List Nat:=B.flatMap λr=>10::r
def tF(h:F≠[]):dZ 10 (x::F)=x++10::dZ 10 F:=by
 cases F with
 |nil=>exact absurd rfl h
 |cons y r=>rfl
theorem vI:∀(x:List Nat) (B:List (List Nat)),dZ 10 (x::B)=x++KS B
 |x,[]=>by simp[dZ,KS]
 |x,b::B=>by have e:KS (b::B)=10::b++KS B:=rfl;rw[tF (by simp),vI b B,e];rfl
def dH:List Nat->List (List Nat)
 | []=>[[]]
 |c::r=>if c=10 then []::dH r else match dH r with
  | []=>[[c]]
  |x::xs=>(c::x)::xs
theorem j0:∀l:List Nat,dH l≠[]
 | []=>by simp[dH]
 |c::r=>by
  rw[dH];by_cases h:c=10
  ·rw[if_pos h];simp
  ·rw[if_neg h];cases dH r with
   |nil=>simp
   |cons x xs=>simp
theorem qD:∀l:List Nat,dZ 10 (dH l)=l
 | []=>rfl
 |c::r=>by
  have ih:=qD r;rw[dH];by_cases h:c=10
  ·rw[if_pos h,tF (j0 r),ih,h];rfl
  ·rw[if_neg h];cases e:dH r with
   |nil=>exact absurd e (j0 r)
   |cons x xs =>
    rw[e] at ih;show dZ 10 ((c::x)::xs)=_;rw[vI] at ih ⊢;rw[← ih];rfl
theorem sZ:∀(l:List Nat),∀x∈dH l,∀c∈x,c∈l/\c≠10
 | [],x,hx,c,hc=>by rw[dH,v6] at hx;rw[hx] at hc;cases hc
 |d::r,x,hx,c,hc=>by
  have ih:=sZ r;rw[dH] at hx;by_cases h:d=10
  ·rw[if_pos h] at hx;rcases y0.mp hx with z|z
   ·rw[z] at hc;cases hc
   ·have:=ih x z c hc;exact⟨D1 _ this.1,this.2⟩
  ·rw[if_neg h] at hx;cases e:dH r with
   |nil=>exact absurd e (j0 r)
   |cons y ys =>
    rw[e] at hx ih;have hx:x∈(d::y)::ys:=hx;rcases y0.mp hx with z|z
    ·rw[z] at hc;rcases y0.mp hc with w|w
     ·rw[w];exact⟨by simp,h⟩
     ·have:=ih y (by simp) c w;exact⟨D1 _ this.1,this.2⟩
    ·have:=ih x (D1 _ z) c hc;exact⟨D1 _ this.1,this.2⟩
theorem tD:∀l:List Nat,(dH l).length=l.count 10+1/\((dH l).map List.length).sum+l.count 10=l.length
 | []=>⟨rfl,rfl⟩
 |c::r=>by
  obtain⟨i1,i2⟩:=tD r;rw[dH];by_cases h:c=10
  ·subst h;rw[if_pos rfl,List.count_cons_self,x0,Y5,ah8,x0,Y7];lia
  ·rw[if_neg h,List.count_cons_of_ne h];cases e:dH r with
   |nil=>exact absurd e (j0 r)
   |cons x xs =>
    rw[e] at i1 i2;show ((c::x)::xs).length=_/\(((c::x)::xs).map List.length).sum+_=_;rw[x0] at i1 ⊢;rw[Y5,ah8] at i2 ⊢;rw[x0,x0];lia
def qG(s:Str):List Str:=(dH s.cps.toList).map λl=>⟨l.toArray⟩
def mC(s:Str):(qG s).map (λp=>p.cps.toList)=dH s.cps.toList:=by unfold qG;rw[aj4];exact List.map_id'' (λ_=>rfl) _
def zJ(s:Str):qG s≠[]:=by unfold qG;intro z;exact j0 _ (List.map_eq_nil_iff.mp z)
def KZ(h:x∈qG s):∀c∈x.cps.toList,c∈s.cps.toList/\c≠10:=λc hc=>by have:x.cps.toList∈(qG s).map (λp=>p.cps.toList):=List.mem_map_of_mem h;rw[mC] at this;exact sZ _ _ this c hc
def U4:Str.ofString "\n" = ⟨#[10]⟩:=by decide +kernel
def JU   (hn:ps≠[]) (hf:∀p∈ps,10∉p.cps.toList) (e:s.cps.toList=dZ 10 (ps.map λp=>p.cps.toList)):PySem.Txt.split s (Str.ofString "\n")=ps:=by have:s=Str.join ⟨#[10]⟩ ps:=kE (by rw[fK];exact e);rw[this,U4];exact je hn hf
def CV (s:Str):PySem.Txt.split s (Str.ofString "\n")=qG s:=JU (zJ s) (λp hp z=>(KZ hp 10 z).2 rfl) (by rw[mC,qD])
abbrev WV(rs:List Str):List (List Nat):=rs.map λp=>p.cps.toList
def tot(rs:List Str):Nat:=(rs.map λr=>r.length).sum
def jU(a:Str)(b:List Str):tot (a::b)=a.length+tot b:=by unfold tot;rw[Y5,ah8]
theorem BP:∀{rs:List Str} {r:Str},r∈rs->r.length<=tot rs
 |a::b,r,h=>by
  rw[jU];rcases y0.mp h with h|h
  ·rw[h];lia
  ·have:=BP h;lia
def DI(rs:List Str):tot rs=((WV rs).map List.length).sum:=by unfold tot WV;rw[aj4];exact ac1 List.sum (List.map_congr_left λx _=>(cz x).symm)
def By(s:Str):(qG s).length=s.cps.toList.count 10+1/\tot (qG s)+s.cps.toList.count 10=s.length:=by
 have h:=tD s.cps.toList;have e1:(qG s).length=(dH s.cps.toList).length:=by unfold qG;rw[d6]
 rw[DI];unfold WV;rw[mC,e1,← cz s];exact h
def Wg(p f:Nat×Nat)(m lz:Nat):Nat×Nat :=
 if p.1<f.1∨p.1=f.1/\p.2<f.2 then p else if p.1>f.1 then (p.1+m,p.2) else (f.1+m,(if m>0 then 0 else f.2)+lz+p.2-f.2)
def VP(rs:List Str)(p:Nat×Nat):Prop:=∃r,rs[p.1]?=some r/\p.2<=r.length
def m8(z:Str):Nat:=(qG z).length-1
def zl(z:Str):Nat:=((dH z.cps.toList).getLastD []).length
def w9(p f:Nat×Nat)(z:Str):Nat×Nat:=Wg p f (m8 z) (zl z)
abbrev fwd (d:Str):Prop:=d = "push" ∨ d = "into"
def zb(hd:fwd d):bU (bQ on d (some g))=g:=by
 unfold bQ bU;rcases hd with rfl|rfl
 ·rw[if_pos rfl,af6];simp
 ·rw[if_neg (by decide),if_pos rfl,af6];simp
theorem mz:∀(n:Nat) (l:List Nat),l.Nodup->(∀x∈l,x<n)->l.length<=n
 |0,l,_,h=>by
  cases l with
  |nil=>exact M2 _
  |cons x r=>exact absurd (h x (by simp)) (by lia)
 |n+1,l,hd,h=>by
  have h1:=mz n (l.erase n) (hd.erase n) λx hx=>by obtain⟨h2,h3⟩:=hd.mem_erase_iff.mp hx;have:=h x h3;lia
  rw[List.length_erase] at h1;split at h1 <;> lia
section
variable {ms:List aE}{row:Str}
def uX(ms:List aE)(row:Str)(a b:Nat):Prop:=∃R,cU ms a row=some R/\fwd R.bz/\R.goal=some b
def w6(ms:List aE)(row:Str):List Nat->Prop
 | []=>True
 | [_]=>True
 |a::b::r=>uX ms row a b/\w6 ms row (b::r)
def w6.tail(h:w6 ms row (a::r)):w6 ms row r:=by
 cases r with
 |nil=>trivial
 |cons b r=>exact h.2
theorem w6.suffix:∀{A B:List Nat},w6 ms row (A++B)->w6 ms row B
 | [],B,h=>h
 |a::A,B,h=>w6.suffix (A:=A) (w6.tail h)
theorem w6.snoc:∀{l:List Nat} {z g:Nat},w6 ms row (l++[z])->uX ms row z g->w6 ms row (l++[z]++[g])
 | [],z,g,_,h=>⟨h,trivial⟩
 | [a],z,g,h,h2=>⟨h.1,h2,trivial⟩
 |a::b::l,z,g,h,h2=>⟨h.1,w6.snoc (l:=b::l) h.2 h2⟩
def lC(hR:cU ms (bU on) row=some R)(hd:fwd R.bz)(hg:R.goal=some g)(hx:g=first∨dD ms row first fuel (bQ on R.bz R.goal) (ring++[bU on])≠none):dD ms row first (fuel+1) on ring≠none:=by
 have hdp:R.bz ≠ "pop" := by rcases hd with z|z <;> rw[z] <;> decide
 rw[dD,hR];show (if R.bz = "pop" /\ on.length=1/\first≠0 then none else if bU (bQ on R.bz R.goal)=first then some (ring++[bU on]) else dD ms row first fuel (bQ on R.bz R.goal) (ring++[bU on]))≠none;have ht:bU (bQ on R.bz R.goal)=g:=by rw[hg];exact zb hd
 rw[if_neg (λz=>hdp z.1),ht];by_cases z:g=first
 ·rw[if_pos z];intro w;cases w
 ·rw[if_neg z];exact hx.resolve_left z
theorem qo:∀(r:List Nat) (x z:Nat) (fuel:Nat) (on ring:List Nat),w6 ms row (x::r)->(x::r).getLast?=some z->uX ms row z first->bU on=x->(x::r).length<=fuel->dD ms row first fuel on ring≠none
 | [],x,z,fuel,on,ring,_,hl,hz,ht,hf=>by
  cases hl;obtain⟨R,h1,h2,h3⟩:=hz;obtain⟨f,rfl⟩:∃f,fuel=f+1:=⟨fuel-1,by rw[aa4] at hf;lia⟩
  exact lC (by rw[ht];exact h1) h2 h3 (.inl rfl)
 |y::r,x,z,fuel,on,ring,hp,hl,hz,ht,hf=>by
  obtain⟨⟨R,h1,h2,h3⟩,hp2⟩:=hp;rw[x0] at hf;obtain⟨f,rfl⟩:∃f,fuel=f+1:=⟨fuel-1,by lia⟩
  refine lC (by rw[ht];exact h1) h2 h3 (.inr ?_);exact qo r y z f _ _ hp2 (by rw[List.getLast?_cons_cons] at hl;exact hl) hz (by rw[h3];exact zb h2) (by lia)
def FU(ms:List aE)(row:Str):Nat->Nat->Prop
 |0,k=>cU ms k row=none
 |m+1,k=>∃g,uX ms row k g/\FU ms row m g
def Ay(ms:List aE)(row:Str):Nat->Nat->Prop
 |0,k=>∃R,cU ms k row=some R/\R.bz = "pop"
 |m+1,k=>∃g R,cU ms k row=some R/\R.bz = "into" /\ R.goal=some g/\Ay ms row m g
def uO  :bQ (us++[q]) "into" (some g)=us++[g]:=by rw[bQ,if_neg (by decide),if_pos rfl,af7];rfl
def t9 (us:List Nat) (k:Nat) (g:Option Nat):bQ (us++[k]) "pop" g=if us=[] then [0] else us:=by
 rw[bQ,if_neg (by decide),if_neg (by decide),if_pos rfl,af7];by_cases z:us=[]
 ·rw[if_pos z,if_pos (by rw[z];rfl)]
 ·rw[if_neg z,if_neg];have:=af2.mpr z;rw[o0,aa4];lia
def vp (on:List Nat) (g:Option Nat):bQ on "stay" g=on:=by rw[bQ,if_neg (by decide),if_neg (by decide),if_neg (by decide)]
def zh{A B:List Nat}{g k:Nat}{vis:List Nat}(h:vis++[k]=A++g::B):(g::B).getLast?=some k:=by
 have e:=ac1 List.getLast? h;rw[List.getLast?_append] at e;cases h2:(g::B).getLast? with
 |none=>rw[List.getLast?_eq_none_iff] at h2;cases h2
 |some z=>rw[List.getLast?_append,h2] at e;simpa using e.symm
theorem yf:∀(m q fuel:Nat) (us ring:List Nat),Ay ms row m q->us≠[]->bU us=first->m+1<=fuel->dD ms row first fuel (us++[q]) ring≠none
 |0,q,fuel,us,ring,⟨R,h1,h2⟩,hne,ht,hf=>by
  obtain⟨f,rfl⟩:∃f,fuel=f+1:=⟨fuel-1,by lia⟩
  have hl:(us++[q]).length≠1:=by have:=af2.mpr hne;rw[o0,aa4];lia
  rw[dD,oN,h1];show (if R.bz = "pop" /\ (us++[q]).length=1/\first≠0 then none else if bU (bQ (us++[q]) R.bz R.goal)=first then some _ else dD ms row first f (bQ (us++[q]) R.bz R.goal) _)≠none;rw[if_neg (λz=>hl z.2.1),h2,t9,if_neg hne,if_pos ht];intro w;cases w
 |m+1,q,fuel,us,ring,⟨g,R,h1,h2,h3,h4⟩,hne,ht,hf=>by
  obtain⟨f,rfl⟩:∃f,fuel=f+1:=⟨fuel-1,by lia⟩
  refine lC (by rw[oN];exact h1) (.inr h2) h3 (.inr ?_);rw[h2,h3,uO];exact yf m g f us _ h4 hne ht (by lia)
theorem qJ:∀(m q fuel:Nat) (ring:List Nat),Ay ms row m q->m+1<=fuel->dD ms row 0 fuel [q] ring≠none
 |0,q,fuel,ring,⟨R,h1,h2⟩,hf=>by
  obtain⟨f,rfl⟩:∃f,fuel=f+1:=⟨fuel-1,by lia⟩
  rw[dD,show bU [q]=q from rfl,h1];show (if R.bz = "pop" /\ [q].length=1/\(0:Nat)≠0 then none else if bU (bQ [q] R.bz R.goal)=0 then some _ else dD ms row 0 f (bQ [q] R.bz R.goal) _)≠none;rw[if_neg (λz=>z.2.2 rfl),h2,show bQ [q] "pop" R.goal=[0] from t9 [] q R.goal,if_pos (show bU [0]=0 from rfl)];intro w;cases w
 |m+1,q,fuel,ring,⟨g,R,h1,h2,h3,h4⟩,hf=>by
  obtain⟨f,rfl⟩:∃f,fuel=f+1:=⟨fuel-1,by lia⟩
  refine lC (on:=[q]) h1 (.inr h2) h3 (.inr ?_);have:bQ [q] R.bz R.goal=[g]:=by rw[h2,h3];exact uO (us:=[])
  rw[this];exact qJ m g f _ h4 (by lia)
def ends(G:cT ms)(hn:∀j,j<ms.length->cI ms j row=none):∀(f:Nat) (vis:List Nat) (k:Nat),w6 ms row (vis++[k])->(vis++[k]).Nodup->(∀x∈vis++[k],x<ms.length)->ms.length<=vis.length+1+f->f+1<=ms.length->∃m,m<=f/\(FU ms row m k∨Ay ms row m k):=by
 intro f;induction f with
 |zero =>
  intro vis k hp hd hlt hf hf2;have hk:=hlt k (by simp);cases hR:cU ms k row with
  |none=>exact⟨0,M2 _,.inl hR⟩
  |some R =>
   refine⟨0,M2 _,.inr ⟨R,hR,?_⟩⟩;obtain⟨hdd,hgo⟩:R.bz∈vM/\(jD R.bz->∃g,R.goal=some g/\g<ms.length):=by
    obtain⟨m,hm⟩:∃m,ms[k]?=some m:=⟨ms[k],i4 hk⟩
    have hid:cU ms k row=gF m.rules row:=by rw[cU,hm];rfl
    rw[hid] at hR;exact⟨G.bz m (u8 hm) R (j8 hR),G.goal m (u8 hm) R (j8 hR)⟩
   have hdd:R.bz = "stay" ∨ R.bz = "push" ∨ R.bz = "pop" ∨ R.bz = "into" := by simpa using hdd
   have nofw:¬ fwd R.bz:=λhfw=>by
    obtain⟨g,hg,hgl⟩:=hgo hfw;have hfg:uX ms row k g:=⟨R,hR,hfw,hg⟩
    by_cases hmem:g∈vis++[k]
    ·obtain⟨A,B,hAB⟩:=List.append_of_mem hmem;rw[hAB] at hp hd;have hlast:=zh hAB;have hB:(g::B).length<=ms.length:=mz _ _ (ad2.mp hd).2.1 λx hx=>hlt x (by rw[hAB];exact X2 _ hx);exact qo B g k ms.length [g] [] (w6.suffix hp) hlast hfg rfl hB (hn g hgl)
    ·have:=mz ms.length (vis++[k]++[g]) (ad2.mpr ⟨hd,by simp,λx hx y hy e=>hmem (by rw[v6.mp hy] at e;rw[← e];exact hx)⟩) λx hx=>by
      rcases aa1.mp hx with z|z
      ·exact hlt x z
      ·rw[v6.mp z];exact hgl
     rw[o0,o0,aa4,aa4] at this;lia
   rcases hdd with z|z|z|z
   ·exfalso;have:=hn k hk;rw[cI] at this;obtain⟨n',hn'⟩:∃n',ms.length=n'+1:=⟨ms.length-1,by lia⟩
    rw[hn',dD,show bU [k]=k from rfl,hR] at this;have this:(if R.bz = "pop" /\ [k].length=1/\k≠0 then none else if bU (bQ [k] R.bz R.goal)=k then some ([]++[k]) else dD ms row k n' (bQ [k] R.bz R.goal) ([]++[k]))=none:=this;rw[if_neg (λw=>by rw[z] at w;exact absurd w.1 (by decide)),z,vp,if_pos (show bU [k]=k from rfl)] at this;cases this
   ·exact absurd (.inl z) nofw
   ·exact z
   ·exact absurd (.inr z) nofw
 |succ f ih =>
  intro vis k hp hd hlt hf hf2;have hk:=hlt k (by simp);cases hR:cU ms k row with
  |none=>exact⟨0,X5 _,.inl hR⟩
  |some R =>
   obtain⟨hdd,hgo⟩:R.bz∈vM/\(jD R.bz->∃g,R.goal=some g/\g<ms.length):=by
    obtain⟨m,hm⟩:∃m,ms[k]?=some m:=⟨ms[k],i4 hk⟩
    have hid:cU ms k row=gF m.rules row:=by rw[cU,hm];rfl
    rw[hid] at hR;exact⟨G.bz m (u8 hm) R (j8 hR),G.goal m (u8 hm) R (j8 hR)⟩
   have hdd:R.bz = "stay" ∨ R.bz = "push" ∨ R.bz = "pop" ∨ R.bz = "into" := by simpa using hdd
   have go:fwd R.bz->∃g m,R.goal=some g/\m<=f/\(FU ms row m g∨Ay ms row m g):=λhfw=>by
    obtain⟨g,hg,hgl⟩:=hgo hfw;have hfg:uX ms row k g:=⟨R,hR,hfw,hg⟩
    by_cases hmem:g∈vis++[k]
    ·exfalso;obtain⟨A,B,hAB⟩:=List.append_of_mem hmem;rw[hAB] at hp hd;have hlast:=zh hAB;have hB:(g::B).length<=ms.length:=mz _ _ (ad2.mp hd).2.1 λx hx=>hlt x (by rw[hAB];exact X2 _ hx);exact qo B g k ms.length [g] [] (w6.suffix hp) hlast hfg rfl hB (hn g hgl)
    ·obtain⟨m,h1,h2⟩:=ih (vis++[k]) g (w6.snoc hp hfg) (ad2.mpr ⟨hd,by simp,λx hx y hy e=>hmem (by rw[v6.mp hy] at e;rw[← e];exact hx)⟩) (λx hx=>by
      rcases aa1.mp hx with z|z
      ·exact hlt x z
      ·rw[v6.mp z];exact hgl) (by rw[o0,aa4];lia) (by lia)
     exact⟨g,m,hg,h1,h2⟩
   rcases hdd with z|z|z|z
   ·exfalso;have:=hn k hk;rw[cI] at this;obtain⟨n',hn'⟩:∃n',ms.length=n'+1:=⟨ms.length-1,by lia⟩
    rw[hn',dD,show bU [k]=k from rfl,hR] at this;have this:(if R.bz = "pop" /\ [k].length=1/\k≠0 then none else if bU (bQ [k] R.bz R.goal)=k then some ([]++[k]) else dD ms row k n' (bQ [k] R.bz R.goal) ([]++[k]))=none:=this;rw[if_neg (λw=>by rw[z] at w;exact absurd w.1 (by decide)),z,vp,if_pos (show bU [k]=k from rfl)] at this;cases this
   ·obtain⟨g,m,hg,hm,h|h⟩:=go (.inl z)
    ·exact⟨m+1,by lia,.inl ⟨g,⟨R,hR,.inl z,hg⟩,h⟩⟩
    ·exfalso;obtain⟨n',hn'⟩:∃n',ms.length=n'+1:=⟨ms.length-1,by lia⟩
     have h0:=hn k hk;rw[cI,hn'] at h0;refine lC (on:=[k]) hR (.inl z) hg (.inr ?_) h0;have:bQ [k] R.bz R.goal=[k]++[g]:=by rw[z,hg,bQ,if_pos rfl];rfl
     rw[this];exact yf m g n' [k] _ h (by simp) rfl (by lia)
   ·exact⟨0,X5 _,.inr ⟨R,hR,z⟩⟩
   ·obtain⟨g,m,hg,hm,h|h⟩:=go (.inr z)
    ·exact⟨m+1,by lia,.inl ⟨g,⟨R,hR,.inr z,hg⟩,h⟩⟩
    ·exact⟨m+1,by lia,.inr ⟨g,R,hR,z,hg,h⟩⟩
end
def zA(h:on≠[]):∃r,on=r++[bU on]:=by
 rcases ah1 on with rfl|⟨p,x,rfl⟩
 ·exact absurd rfl h
 ·exact⟨p,by rw[ah0,oN]⟩
def uz  {d:Str}  (h:d = "push"):bQ on d (some g)=on++[g]:=by rw[bQ,if_pos h];rfl
def pM   {d:Str}  (h:d = "into"):bQ (r++[k]) d (some g)=r++[g]:=by rw[bQ,h,if_neg (by decide),if_pos rfl,af7];rfl
def uQ(ms:List aE)(row:Str)(c:Cfg):Prop:=∃R,fE (gU ms (bU c.on)) row c.aR.length=some R/\bE R.sort=false
def Still(ms:List aE)(row:Str):Nat->Cfg->Cfg->Prop
 |0,c,d=>c=d
 |n+1,c,d=>∃R,fE (gU ms (bU c.on)) row c.aR.length=some R/\bE R.sort=false/\Still ms row n (iS c R row) d
theorem Still.go:∀{n m:Nat} {c d e:Cfg},Still ms row n c d->goN ms row m d=some e->goN ms row (n+m) c=some e
 |0,m,c,d,e,h,g=>by rw[Nat.zero_add,show c=d from h];exact g
 |n+1,m,c,d,e,⟨R,h1,_,h3⟩,g=>by rw[show n+1+m=(n+m)+1 by lia];exact sV (by rw[gX,h1]) (h3.go g)
def AH(hs:R.sort∈sorts)(he:bE R.sort=false):(iS c R row).aR=c.aR:=by show c.aR++List.replicate (jx R row c.aR.length) R.aU=c.aR;rw[GN hs he];exact ab2 _
theorem Still.trans:∀{n m:Nat} {c d e:Cfg},Still ms row n c d->Still ms row m d e->Still ms row (n+m) c e
 |0,m,c,d,e,h,g=>by rw[Nat.zero_add,show c=d from h];exact g
 |n+1,m,c,d,e,⟨R,h1,h2,h3⟩,g=>by rw[show n+1+m=(n+m)+1 by lia];exact⟨R,h1,h2,h3.trans g⟩
structure oJ(ms:List aE)(row:Str):Prop where
 g:cT ms
 three:ms.length<=4
 sg:∀m∈ms,∀R∈m.rules,¬ bare R.sort->1<=R.signs.length
 nr:∀r∈eu,∀j,j<ms.length->cI ms j r=none
 row:∀c∈row.cps.toList,c∈fT.cps.toList
def oJ.short{row:Str}(G:oJ ms row)(i:Nat):cA row i∈eu:=by
 unfold cA;cases e:row.cps.toList[i]? with
 |none=>exact X9 ..
 |some c=>exact D1 _ (aa2.mpr ⟨c,G.row c (u8 e),rfl⟩)
def oJ.rule{row:Str}(G:oJ ms row)(hk:k<ms.length)(h:fE (gU ms k) row i=some R):∃m,ms[k]?=some m/\R∈m.rules/\R.sort∈sorts/\fX R row i=true:=by
 have hm:ms[k]?=some ms[k]:=i4 hk;rw[gU,hm] at h;have h:fE ms[k].rules row i=some R:=h;unfold fE at h;cases e:firstM ms[k].rules row i with
 |none=>rw[e] at h;cases h
 |some n =>
  rw[e] at h;obtain⟨_,R',g1,g2,_⟩:=jz e;rw[Nat.sub_zero] at g1;have:R'=R:=X8 (g1.symm.trans h);subst this;have hR:=u8 g1;exact⟨_,hm,hR,((G.g.ok _ (ad9 hk)).2 R' hR).1,g2⟩
def oJ.idle{row:Str}(G:oJ ms row)(hk:k<ms.length)(hi:i<=row.length)(h:fE (gU ms k) row i=some R)(he:bE R.sort=false):cU ms k (cA row i)=some R:=by have hm:ms[k]?=some ms[k]:=i4 hk;rw[gU,hm] at h;rw[cU,hm];exact CH (λR hR=>((G.g.ok _ (ad9 hk)).2 R hR).1) hi h he
def oJ.step{row:Str}(G:oJ ms row)(hok:ju ms c.on)(hi:c.aR.length<=row.length)(e:c.on=us++[k])(h:uQ ms row c):∃R,cU ms k (cA row c.aR.length)=some R/\Still ms row 1 c (iS c R row)/\(iS c R row).aR=c.aR/\ju ms (iS c R row).on/\(iS c R row).on=bQ (us++[k]) R.bz R.goal:=by
 obtain⟨R,h1,h2⟩:=h;have hk:bU c.on<ms.length:=hok.2 _ (oB hok.1);have ht:bU c.on=k:=by rw[e,oN]
 obtain⟨m,hm,hR,hs,_⟩:=G.rule hk h1;have h3:=G.idle hk hi h1 h2;rw[ht] at h3;exact⟨R,h3,⟨R,h1,h2,rfl⟩,AH hs h2,hok.bz G.g (u8 hm) hR,by rw[← e];rfl⟩
theorem WK(G:oJ ms row):∀(m k:Nat) (us:List Nat) (c:Cfg),FU ms (cA row c.aR.length) m k->c.on=us++[k]->ju ms c.on->c.aR.length<=row.length ->
  ∃n d,Still ms row n c d /\ ¬ uQ ms row d/\d.aR=c.aR/\ju ms d.on/\n<=m/\d.on.length<=c.on.length+m
 |m,k,us,c,h,e,hok,hi=>by
  by_cases hid:uQ ms row c
  ·obtain⟨R,r1,r2,r3,r4,r5⟩:=G.step hok hi e hid;cases m with
   |zero =>
    have h:cU ms k (cA row c.aR.length)=none:=h;rw[h] at r1;cases r1
   |succ m =>
    obtain⟨g,⟨R',h1,h2,h3⟩,h4⟩:=h;rw[r1] at h1;cases h1;rw[← r3] at h4;have hd:∃vs,(iS c R row).on=vs++[g]/\(iS c R row).on.length<=c.on.length+1:=by
     rw[r5,h3,e];rcases h2 with z|z
     ·exact⟨us++[k],by rw[uz z],by rw[uz z,o0];exact M2 _⟩
     ·exact⟨us,by rw[pM z],by rw[pM z,o0,o0];exact ac5 _ _⟩
    obtain⟨vs,d1,d2⟩:=hd;obtain⟨n,d,a1,a2,a3,a4,a5,a6⟩:=WK G m g vs (iS c R row) h4 d1 r4 (by rw[r3];exact hi);exact⟨1+n,d,r2.trans a1,a2,by rw[a3,r3],a4,by lia,by lia⟩
  ·exact⟨0,c,rfl,hid,rfl,hok,X5 _,ac5 _ _⟩
theorem phP(G:oJ ms row):∀(m k:Nat) (us:List Nat) (c:Cfg),Ay ms (cA row c.aR.length) m k->c.on=us++[k]->ju ms c.on->c.aR.length<=row.length ->
  (∃n d,Still ms row n c d /\ ¬ uQ ms row d/\d.aR=c.aR/\ju ms d.on/\n<=m/\d.on.length<=c.on.length)∨∃n d,Still ms row n c d/\d.on=(if us=[] then [0] else us)/\d.aR=c.aR/\ju ms d.on/\n<=m+1
 |m,k,us,c,h,e,hok,hi=>by
  by_cases hid:uQ ms row c
  ·obtain⟨R,r1,r2,r3,r4,r5⟩:=G.step hok hi e hid;cases m with
   |zero =>
    obtain⟨R',h1,h2⟩:=h;rw[r1] at h1;cases h1;exact .inr ⟨1,_,r2,by rw[r5,h2,t9],r3,r4,M2 _⟩
   |succ m =>
    obtain⟨g,R',h1,h2,h3,h4⟩:=h;rw[r1] at h1;cases h1;rw[← r3] at h4;have d1:(iS c R row).on=us++[g]:=by rw[r5,h3,pM h2]
    have d2:(iS c R row).on.length=c.on.length:=by rw[d1,e,o0,o0];rfl
    rcases phP G m g us (iS c R row) h4 d1 r4 (by rw[r3];exact hi) with ⟨n,d,a1,a2,a3,a4,a5,a6⟩|⟨n,d,a1,a2,a3,a4,a5⟩
    ·exact .inl ⟨1+n,d,r2.trans a1,a2,by rw[a3,r3],a4,by lia,by lia⟩
    ·exact .inr ⟨1+n,d,r2.trans a1,a2,by rw[a3,r3],a4,by lia⟩
  ·exact .inl ⟨0,c,rfl,hid,rfl,hok,X5 _,M2 _⟩
def V8(G:oJ ms row):∀(l:Nat) (c:Cfg),c.on.length=l->ju ms c.on->c.aR.length<=row.length ->
  ∃n d,Still ms row n c d /\ ¬ uQ ms row d/\d.aR=c.aR/\ju ms d.on/\n+4*d.on.length<=4*c.on.length+20:=by
 have h3:=G.three;have hpos:=G.g.pos;have one:∀i k,k<ms.length->∃m,m<=ms.length-1/\(FU ms (cA row i) m k∨Ay ms (cA row i) m k):=λi k hk=>ends G.g (G.nr _ (G.short i)) (ms.length-1) [] k trivial (by simp) (by simpa using hk) (by rw[Y7];lia) (by lia);intro l;induction l with
 |zero=>intro c h1 h2;exact absurd (ag2.mp h1) h2.1
 |succ l ih =>
  intro c hl hok hi;obtain⟨us,e⟩:=zA hok.1;have hk:bU c.on<ms.length:=hok.2 _ (oB hok.1);have el:c.on.length=us.length+1:=by rw[e,o0];rfl
  obtain⟨m,hm,h|h⟩:=one c.aR.length (bU c.on) hk
  ·obtain⟨n,d,a1,a2,a3,a4,a5,a6⟩:=WK G m _ us c h e hok hi;exact⟨n,d,a1,a2,a3,a4,by lia⟩
  ·rcases phP G m _ us c h e hok hi with ⟨n,d,a1,a2,a3,a4,a5,a6⟩|⟨n,d,a1,a2,a3,a4,a5⟩
   ·exact⟨n,d,a1,a2,a3,a4,by lia⟩
   ·by_cases z:us=[]
    ·rw[if_pos z] at a2;obtain⟨m0,hm0,h0|h0⟩:=one d.aR.length 0 hpos
     ·obtain⟨n2,d2,b1,b2,b3,b4,b5,b6⟩:=WK G m0 0 [] d h0 a2 a4 (by rw[a3];exact hi);rw[a2] at b6;have b6:d2.on.length<=1+m0:=b6;exact⟨n+n2,d2,a1.trans b1,b2,by rw[b3,a3],b4,by lia⟩
     ·exact absurd (G.nr _ (G.short d.aR.length) 0 hpos) (qJ m0 0 _ _ h0 (by lia))
    ·rw[if_neg z] at a2;obtain⟨n2,d2,b1,b2,b3,b4,b5⟩:=ih d (by rw[a2];lia) a4 (by rw[a3];exact hi);rw[a2] at b5;exact⟨n+n2,d2,a1.trans b1,b2,by rw[b3,a3],b4,by lia⟩
def Vw(G:oJ ms row):∀(D:Nat) (c:Cfg),row.length-c.aR.length=D->ju ms c.on->c.aR.length<=row.length ->
  ∃n d,goN ms row n c=some d/\d.aR.length=row.length/\ju ms d.on/\n+4*d.on.length<=4*c.on.length+25*D+20:=by
 intro D;induction D using Nat.strongRecOn with
 |ind D ih =>
  intro c hD hok hi;obtain⟨n1,c1,a1,a2,a3,a4,a5⟩:=V8 G _ c rfl hok hi;have hi1:c1.aR.length<=row.length:=by rw[a3];exact hi
  have hk:bU c1.on<ms.length:=a4.2 _ (oB a4.1);cases hr:fE (gU ms (bU c1.on)) row c1.aR.length with
  |none =>
   by_cases hlt:c1.aR.length<row.length
   ·have hst:gX ms row c1=some ⟨c1.on,c1.aR++[eS ms (bU c1.on)],c1.marks⟩:=by rw[gX,hr];show (if c1.aR.length<row.length then _ else _)=_;rw[if_pos hlt]
    have hl2:(c1.aR++[eS ms (bU c1.on)]).length=c1.aR.length+1:=by simp
    obtain⟨n2,d,b1,b2,b3,b4⟩:=ih (row.length-(c1.aR.length+1)) (by rw[a3] at hlt ⊢;lia) ⟨c1.on,c1.aR++[eS ms (bU c1.on)],c1.marks⟩ (by show row.length-(c1.aR++[eS ms (bU c1.on)]).length=_;rw[hl2]) a4 (by show (c1.aR++[eS ms (bU c1.on)]).length<=_;rw[hl2];lia);have b4:n2+4*d.on.length<=4*c1.on.length+25*(row.length-(c1.aR.length+1))+20:=b4;rw[a3] at hlt b4;exact⟨n1+(n2+1),d,a1.go (sV hst b1),b2,b3,by lia⟩
   ·have hst:gX ms row c1=none:=by rw[gX,hr];show (if c1.aR.length<row.length then _ else _)=_;rw[if_neg hlt]
    exact⟨n1+0,c1,a1.go (wz hst),by lia,a4,by lia⟩
  |some R =>
   obtain⟨m,hm,hR,hs,hf⟩:=G.rule hk hr;have hmm:=u8 hm;have he:bE R.sort=true:=by
    cases e:bE R.sort with
    |true=>rfl
    |false=>exact absurd ⟨R,hr,e⟩ a2
   have hst:gX ms row c1=some (iS c1 R row):=by rw[gX,hr]
   have e1:=Kx (i:=c1.aR.length) hs he (G.sg m hmm R hR) hf;have e2:=Fz (R:=R) (row:=row) (i:=c1.aR.length) hs hi1;have hl2:(iS c1 R row).aR.length=c1.aR.length+jx R row c1.aR.length:=by show (c1.aR++List.replicate _ _).length=_;rw[o0,ah3]
   have hw:(iS c1 R row).on.length<=c1.on.length+1:=rV;obtain⟨n2,d,b1,b2,b3,b4⟩:=ih (row.length-(iS c1 R row).aR.length) (by rw[hl2];rw[a3] at e1 e2 ⊢;lia) (iS c1 R row) rfl (a4.bz G.g hmm hR) (by rw[hl2];exact e2);rw[hl2] at b4;rw[a3] at e1 e2 b4;exact⟨n1+(n2+1),d,a1.go (sV hst b1),b2,b3,by lia⟩
theorem uG(hG:∀r:Str,(∀c∈r.cps.toList,c∈fT.cps.toList)->oJ ms r):∀(rs:List Str) (b:List Nat),ju ms b->(∀r∈rs,r.length<=1000/\∀c∈r.cps.toList,c∈fT.cps.toList)->4*b.length+25*tot rs+20*rs.length<=20000->∃Gs,Chain ms b rs Gs
 | [],_,_,_,_=>⟨[],trivial⟩
 |r::rs,b,hb,h,hl=>by rw[x0,jU] at hl;obtain⟨h1,h2⟩:=h r (by simp);obtain⟨n,d,g1,g2,g3,g4⟩:=Vw (hG r h2) r.length ⟨b,[],[]⟩ (by simp) hb (by simp);have g4:n+4*d.on.length<=4*b.length+25*r.length+20:=g4;obtain⟨Gs,k1⟩:=uG hG rs d.on g3 (λx hx=>h x (D1 _ hx)) (by lia);exact⟨⟨r,b,d⟩::Gs,rfl,rfl,⟨hb,by show b.length<=_;lia,h1,⟨n,by lia,g1⟩,g3,by show d.on.length<=_;lia,g2⟩,k1⟩
def cW(sp:List (Str×Nat×Nat))(ps:List Addr):List (Key×V):=List.zipWith (λx p=>((Sum.inr x.1:Key),V.ref p)) sp ps
structure QS(H:Hp)(d:Addr)(sp:List (Str×Nat×Nat))(ps:List Addr):Prop where
 len:ps.length=sp.length
 ob:H d=some (.dK (cW sp ps))
 pl:bO (λp (x:Str×Nat×Nat)=>H p=some (.tup [bS x.2.1,bS x.2.2])) ps sp
def QS.same(h:QS H d sp ps)(s:ak H H'):QS H' d sp ps:=⟨h.len,s _ _ h.ob,h.pl.mono λ_ _ e=>s _ _ e⟩
def DP(H:Hp)(d:Addr)(sp:List (Str×Nat×Nat)):Prop:=∃ps,QS H d sp ps
def DP.same(h:DP H d sp)(s:ak H H'):DP H' d sp:=by obtain⟨ps,a⟩:=h;exact⟨ps,a.same s⟩
abbrev cS(sp:List (Str×Nat×Nat)):List Str:=sp.map (·.1)
def jj(h:ps.length=sp.length):(cW sp ps).length=sp.length:=by unfold cW;rw[List.length_zipWith,h];simp
theorem rJ:∀{sp:List (Str×Nat×Nat)} {ps:List Addr},ps.length=sp.length->(cW sp ps).map (·.1)=(cS sp).map Sum.inr
 | [],[],_=>rfl
 |x::sp,p::ps,h=>by have ih:=rJ (sp:=sp) (ps:=ps) (by simpa using h);show Sum.inr x.1::(cW sp ps).map (·.1)=_;rw[ih];rfl
 | [],_::_,h=>by simp at h
 |_::_,[],h=>by simp at h
def M9{i:Nat}(h1:sp[i]?=some x)(h2:ps[i]?=some p):(cW sp ps)[i]?=some (Sum.inr x.1,V.ref p):=by unfold cW;rw[List.getElem?_zipWith,h1,h2]
theorem wI:∀{sp:List (Str×Nat×Nat)} {ps:List Addr},n∉cS sp->fu (cW sp ps) (Sum.inr n)=none
 | [],_,_=>by unfold cW;exact xo
 |x::sp,[],_=>xo
 |x::sp,p::ps,h=>by have hx:¬ (Sum.inr x.1:Key)=Sum.inr n:=λz=>h (by rw[ak8 z.symm];exact X9 ..);show fu ((Sum.inr x.1,V.ref p)::cW sp ps) _=none;rw[d9 hx];exact wI λz=>h (D1 _ z)
theorem v5:∀{sp:List (Str×Nat×Nat)} {ps:List Addr} {i:Nat} {x:Str×Nat×Nat} {p:Addr},(cS sp).Nodup->sp[i]?=some x->ps[i]?=some p->fu (cW sp ps) (Sum.inr x.1)=some (.ref p)
 | [],_,_,_,_,_,h,_=>by simp at h
 |_::_,[],_,_,_,_,_,h=>by simp at h
 |y::sp,q::ps,0,x,p,_,h1,h2=>by simp only[ad5,af0] at h1 h2;subst h1 h2;exact eV rfl
 |y::sp,q::ps,i+1,x,p,hn,h1,h2=>by simp only[ag1] at h1 h2;have hn:=ah4.mp hn;have hx:¬ (Sum.inr y.1:Key)=Sum.inr x.1:=λz=>hn.1 (by show y.1∈_;rw[ak8 z];exact aa2.mpr ⟨x,u8 h1,rfl⟩);show fu ((Sum.inr y.1,V.ref q)::cW sp ps) _=_;rw[d9 hx];exact v5 hn.2 h1 h2
def DZ(sp:List (Str×Nat×Nat))(n:Str)(v:Nat×Nat):List (Str×Nat×Nat):=if n∈cS sp then sp.map (λx=>if x.1=n then (n,v) else x) else sp++[(n,v)]
def IU(h:ps.length=sp.length):cW (sp++sp') (ps++ps')=cW sp ps++cW sp' ps':=by unfold cW;exact List.zipWith_append h.symm
theorem D9:∀{sp:List (Str×Nat×Nat)} {ps:List Addr},ps.length=sp.length->(cW sp ps).map (λkv=>if kv.1=Sum.inr n then (kv.1,V.ref p) else kv)=cW (sp.map λx=>if x.1=n then (n,v) else x) (List.zipWith (λ(x:Str×Nat×Nat) q=>if x.1=n then p else q) sp ps)
 | [],[],_=>rfl
 |x::sp,q::ps,h=>by
  have ih:=D9 (n:=n) (v:=v) (p:=p) (sp:=sp) (ps:=ps) (by simpa using h);show (if (Sum.inr x.1:Key)=Sum.inr n then (Sum.inr x.1,V.ref p) else (Sum.inr x.1,V.ref q))::(cW sp ps).map _=(Sum.inr (if x.1=n then (n,v) else x).1,V.ref (if x.1=n then p else q))::cW _ _;rw[ih];by_cases e:x.1=n
  ·rw[if_pos (by rw[e]),if_pos e,if_pos e,e]
  ·rw[if_neg (λz=>e (ak8 z)),if_neg e,if_neg e]
 | [],_::_,h=>by simp at h
 |_::_,[],h=>by simp at h
def Qz(h:QS H d sp ps)(hp:H p=some (.tup [bS v.1,bS v.2])) :
  ∃ps',ps'.length=(DZ sp n v).length/\putK (cW sp ps) (Sum.inr n) (.ref p)=cW (DZ sp n v) ps'/\bO (λp (x:Str×Nat×Nat)=>H p=some (.tup [bS x.2.1,bS x.2.2])) ps' (DZ sp n v):=by
 have hany:((cW sp ps).any λkv=>decide (kv.1=Sum.inr n))=decide (n∈cS sp):=by
  rw[ic];by_cases e:n∈cS sp
  ·rw[ab8 e];obtain⟨x,hx,rfl⟩:=aa2.mp e;cases q:fu (cW sp ps) (Sum.inr x.1) with
   |some y=>rfl
   |none =>
    have:=HV q;rw[rJ h.len] at this;exact absurd (aa2.mpr ⟨x.1,e,rfl⟩) this
  ·rw[Z9 e,wI e];rfl
 unfold putK;rw[hany];unfold DZ;by_cases e:n∈cS sp
 ·rw[if_pos (ab8 e),if_pos e];refine⟨_,?_,D9 h.len,?_,?_⟩
  ·rw[List.length_zipWith,d6,h.len];simp
  ·rw[List.length_zipWith,d6,h.len];simp
  ·intro i q x h1 h2;rw[B1] at h2;obtain⟨y,g1,rfl⟩:=Q1.mp h2;rw[List.getElem?_zipWith,g1] at h1;cases g2:ps[i]? with
   |none=>rw[g2] at h1;cases h1
   |some q' =>
    rw[g2] at h1;have h1:(if y.1=n then p else q')=q:=X8 h1;by_cases e2:y.1=n
    ·rw[if_pos e2] at h1 ⊢;rw[← h1];exact hp
    ·rw[if_neg e2] at h1 ⊢;rw[← h1];exact h.pl.2 i q' y g2 g1
 ·rw[if_neg e,if_neg (show ¬ decide (n∈cS sp)=true by simp[e])];exact⟨ps++[p],by simp[h.len],(IU (sp':=[(n,v)]) (ps':=[p]) h.len).symm,bO.snoc h.pl hp⟩
theorem yj:∀(kvs acc:List (Key×V)),((acc++kvs).map (·.1)).Nodup->lA acc kvs=acc++kvs
 | [],acc,_=>by rw[ab2];rfl
 |kv::r,acc,h=>by
  have hn:fu acc kv.1=none:=by
   cases q:fu acc kv.1 with
   |none=>rfl
   |some y =>
    have hm:=Ka q;rw[P2,Y5] at h;exact absurd rfl ((ad2.mp h).2.2 _ hm _ (X9 ..))
  show lA (putK acc kv.1 kv.2) r=_;rw[JH _ hn];have:=yj r (acc++[(kv.1,kv.2)]) (by simpa using h);rw[this];simp
def yu(h:ps.length=sp.length)(hn:(cS sp).Nodup):lA [] (cW sp ps)=cW sp ps:=by
 have:=yj (cW sp ps) [] (by rw[List.nil_append,rJ h];exact List.pairwise_map.mpr (hn.imp λh z=>h (ak8 z)))
 simpa using this
def CB(sp:List (Str×Nat×Nat))(n:Str):Nat×Nat:=((sp.find? λx=>decide (x.1=n)).map (·.2)).getD (0,0)
def yk{i:Nat}(hn:(cS sp).Nodup)(h:sp[i]?=some x):CB sp x.1=x.2:=by
 unfold CB;induction sp generalizing i with
 |nil=>simp at h
 |cons y sp ih =>
  cases i with
  |zero =>
   simp only[ad5,af0] at h;subst h;rw[List.find?_cons_of_pos (by simp)];rfl
  |succ i =>
   simp only[ag1] at h;have hn:=ah4.mp hn;rw[List.find?_cons_of_neg (by simp only[aa8];intro z;exact hn.1 (by show y.1∈_;rw[z];exact aa2.mpr ⟨x,u8 h,rfl⟩))]
   exact ih hn.2 h
def cF(sp:List (Str×Nat×Nat)):List (Str×Nat×Nat):=(fG (cS sp)).map λn=>(n,CB sp n)
def wo(sp:List (Str×Nat×Nat)):cS (cF sp)=fG (cS sp):=by unfold cF;show List.map _ (List.map _ _)=_;rw[aj4];exact List.map_id' _
def DK(hn:(cS sp).Nodup):(cS (cF sp)).Nodup:=by rw[wo];exact(fJ _).nodup_iff.mpr hn
def uN(h:n∈cS sp):∃(i:Nat) (x:Str×Nat×Nat),sp[i]?=some x/\x.1=n:=by obtain⟨x,hx,e⟩:=aa2.mp h;obtain⟨i,hi⟩:=ab0.mp hx;exact⟨i,x,hi,e⟩
def AD(hn:(cS sp).Nodup)(h:x∈cF sp):x∈sp:=by unfold cF at h;obtain⟨n,h1,rfl⟩:=aa2.mp h;obtain⟨i,y,h2,rfl⟩:=uN ((fJ _).mem_iff.mp h1);rw[yk hn h2];exact u8 h2
def w5(hn:(cS sp).Nodup)(h1:DP H a (cF sp))(h2:DP H b sp):E8 K H a b:=by
 obtain⟨ps,h1⟩:=h1;obtain⟨qs,h2⟩:=h2;have hl:(cF sp).length=sp.length:=by unfold cF;rw[d6,(fJ _).length_eq,d6]
 refine⟨_,_,h1.ob,h2.ob,by rw[jj h1.len,jj h2.len,hl],λkv hk=>?_⟩;obtain⟨i,hi⟩:=ab0.mp hk;have li:=(i5.mp hi).1;rw[jj h1.len] at li;have ex:(cF sp)[i]?=some (cF sp)[i]:=i4 li;have ep:ps[i]?=some (ps[i]'(by rw[h1.len];exact li)):=i4 _;rw[M9 ex ep] at hi;cases hi;obtain⟨j,hj⟩:=ab0.mp (AD hn (u8 ex));have lj:=(i5.mp hj).1;have eq:qs[j]?=some (qs[j]'(by rw[h2.len];exact lj)):=i4 _;refine⟨_,v5 hn hj eq,.inr ⟨_,_,_,_,rfl,rfl,.inr ⟨fB.of (h1.pl.2 i _ _ ep ex),fB.of (h2.pl.2 j _ _ eq hj)⟩,rfl,λk x y e1 e2=>?_⟩⟩;rw[e1] at e2;cases e2;have:x=bS (cF sp)[i].2.1∨x=bS (cF sp)[i].2.2:=by have:=u8 e1;simpa using this
 rcases this with rfl|rfl <;> exact⟨rfl,.inl rfl⟩
def RG(a b c d:Nat):HT.lexLt [(a:Int),b] [(c:Int),d]=decide (a<c∨a=c/\b<d):=by
 simp only[HT.lexLt];by_cases h1:(a:Int)=c
 ·rw[if_pos h1];have h1':a=c:=by lia
  by_cases h2:(b:Int)=d
  ·rw[if_pos h2];exact(Z9 (by lia)).symm
  ·rw[if_neg h2];exact decide_eq_decide.mpr (by lia)
 ·rw[if_neg h1];exact decide_eq_decide.mpr (by lia)
def SD{α:Type}{xs:List α}{v:α}(h:xs[xs.length-1]?=some v):uv xs (-1)=some v:=by
 have hl:=(i5.mp h).1;have e:DS xs.length (-1)=some (xs.length-1):=by unfold DS;rw[if_neg (by decide)];show (if _ then _ else _)=_;rw[if_pos (by lia)];congr 1;lia
 unfold uv;rw[e];exact h
abbrev U6(H:Hp)(p:Addr)(v:Nat×Nat):Prop:=H p=some (.tup [bS v.1,bS v.2])
def IQ:∃y,(qG z)[(qG z).length-1]?=some y/\y.length=zl z:=by
 have hn:=zJ z;have hl:0<(qG z).length:=af2.mpr hn;refine⟨(qG z)[(qG z).length-1]'(by lia),i4 _,?_⟩;unfold zl;have e:(dH z.cps.toList).getLastD []=((qG z)[(qG z).length-1]'(by lia)).cps.toList:=by rw[← mC,af6,List.getLast?_eq_getElem?,B1,d6,i4 (by lia)];rfl
 rw[e,cz]
inductive Sm(vs:List V)(H:Hp)(Q:VK)(_:XK):Prop|mk(S:Addr->Prop)(p f:Addr)(v w:Nat×Nat)(z:Str)(_:vs=[.ref p,.ref f,.str z])(_:Ex S H)(_:U6 (hid S H) p v)(_:U6 (hid S H) f w)(_:z.length<=1000)(_:v.1<=100000)(_:v.2<=100000)(_:w.1<=100000)(_:w.2<=100000)(_:∀p' H',U6 (hid S H') p' (w9 v w z)->ak H H'->Q (.ref p') H')
def PJ (T:Txt K mg t):bw P w K mg base dM 1 t.IF t.Oq ["place","first","text"] Sm:=by
 refine T.IJ.ok vZ λvs H Q E h=>?_;obtain⟨S,p,f,v,w,z,rfl,hE,hp0,hf0,hz,b1,b2,b3,b4,q⟩:=h;walk_at "i";have hp:=aC _ _ hp0;have hf:=aC _ _ hf0;have sz:=ac0;have e1:fB K H p ([(v.1:Int),(v.2:Int)].map V.int):=fB.of hp;have e2:fB K H f ([(w.1:Int),(w.2:Int)].map V.int):=fB.of hf;refine au (aW (aB (PM (ae9 (jE hr))) (pv 0) (pv 1) (aD _)) aq aq) ⟨_,rfl,_,rfl,p,f,_,_,rfl,rfl,e1,e2,_,rfl,?_⟩;rw[RG];refine dI (λh=>?_) (λh=>?_)
 ·refine ay (aP (pv 0)) ⟨_,rfl,q p H ?_ (ak.refl H)⟩;unfold w9 Wg;rw[if_pos h];exact hp0
 ·refine bu ?_;refine au (cR 3 vZ (dF ac4 ae6 ai8 lH (pv 2) (aa aA ai))) ⟨_,rfl,rfl,z,Str.ofString "\n",rfl,rfl,rfl,(by lia),λl hl=>?_⟩;rw[CV];have s1:ak H (upd H l (.lst ((qG z).map V.str))):=ak.upd hl;have hl1:upd H l (.lst ((qG z).map V.str)) l=some (.lst ((qG z).map V.str)):=af;generalize upd H l (.lst ((qG z).map V.str))=H1 at s1 hl1;have hn:0<(qG z).length:=af2.mpr (zJ z);have hsl:=(By z).1;have hcl:z.cps.toList.count 10<=z.length:=by rw[← cz];exact List.count_le_length
  refine au (cR 4 vZ (bh nP (aM aS (by rfl) T.bW (by decide +kernel) (aa (pv 3) ai)) ao)) ⟨_,rfl,l,_,rfl,.inl (bq.of hl1),_,_,rfl,rfl,?_⟩;have em:(((qG z).map V.str).length:Int)-1=(m8 z:Nat):=by unfold m8;rw[d6];lia
  show At _ _ _ [some (.ref p),some (.ref f),some (.str z),some (.ref l),some (.int ((((qG z).map V.str).length:Int)-1)),none] H1;rw[em];have hm:m8 z<=1000:=by unfold m8;lia
  refine au (aW (aB j7 (aY cX (pv 0) ao (λ_ _=>rfl)) (aY cX (pv 1) ao (λ_ _=>rfl)) (aD _)) aq aq) ⟨_,rfl,_,_,_,_,rfl,rfl,fB.of (s1 _ _ hp),aO (j:=0) rfl,_,rfl,_,_,_,_,rfl,rfl,fB.of (s1 _ _ hf),aO (j:=0) rfl,_,_,rfl,rfl,_,rfl,?_⟩;refine dI (λh2=>?_) (λh2=>?_)
  ·refine ay (aP (br (aa (bh bX (aY cX (pv 0) ao (λ_ _=>rfl)) (pv 4)) (aa (aY cX (pv 0) ao (λ_ _=>rfl)) ai)))) ⟨_,rfl,_,_,_,_,rfl,rfl,fB.of (s1 _ _ hp),aO (j:=0) rfl,_,rfl,_,_,rfl,rfl,_,rfl,_,_,_,_,rfl,rfl,fB.of (s1 _ _ hp),aO (j:=1) rfl,(by show 2<=sizeLine;decide),λp' hp'=>q p' _ ?_ (s1.trans (ak.upd hp'))⟩;have h2:v.1>w.1:=by lia
   unfold w9 Wg;rw[if_neg h,if_pos h2];exact bA af ((hE.same s1).new hp')
  ·have h2:¬ v.1>w.1:=by lia
   refine bu ?_;obtain⟨y,y1,y2⟩:=IQ (z:=z);have yl:y.length<=1000:=by have h3:=(By z).2;have:=BP (u8 y1);lia
   refine aI (λZ' H'=>∃b:Nat,b=(if m8 z>0 then 0 else w.2)/\Z'=[some (.ref p),some (.ref f),some (.str z),some (.ref l),some (.int (m8 z:Nat)),some (.int (b:Nat))]/\H'=H1) (cR 5 vZ (cO (aB j7 (pv 4) ao (aD _)) ao (aY cX (pv 1) ao (λ_ _=>rfl)))) ?_ ?_
   ·refine⟨_,rfl,_,_,rfl,rfl,_,rfl,dI (λh3=>?_) (λh3=>?_)⟩
    ·exact⟨0,by rw[if_pos (by lia)],rfl,rfl⟩
    ·exact⟨_,rfl,_,_,_,_,rfl,rfl,fB.of (s1 _ _ hf),aO (j:=1) rfl,w.2,by rw[if_neg (by lia)],rfl,rfl⟩
   rintro Z' H' ⟨b,hb,rfl,hH⟩;subst hH;have hb2:b<=100000:=by rw[hb];split <;> lia
   have hbw:¬ m8 z>0->b=w.2:=λe=>by rw[hb,if_neg e]
   have hvw:w.2<=v.2:=by lia
   refine ay (aP (br (aa (bh bX (aY cX (pv 1) ao (λ_ _=>rfl)) (pv 4)) (aa (bh nP (bh bX (bh bX (pv 5) (aM bJ (by rfl) T.bW (by decide +kernel) (aa (aY aQ (pv 3) (jJ gW ao) (λ_ _=>rfl)) ai))) (aY cX (pv 0) ao (λ_ _=>rfl))) (aY cX (pv 1) ao (λ_ _=>rfl))) ai)))) ⟨_,rfl,_,_,_,_,rfl,rfl,fB.of (s1 _ _ hf),aO (j:=0) rfl,_,rfl,_,_,rfl,rfl,_,rfl,_,rfl,_,rfl,_,_,_,_,rfl,rfl,bq.of hl1,SD (by rw[d6,B1,y1];rfl),_,rfl,b7 (by lia),_,_,rfl,rfl,_,rfl,_,_,_,_,rfl,rfl,fB.of (s1 _ _ hp),aO (j:=1) rfl,_,_,rfl,rfl,_,rfl,_,_,_,_,rfl,rfl,fB.of (s1 _ _ hf),aO (j:=1) rfl,_,_,rfl,rfl,(by show 2<=sizeLine;decide),λp' hp'=>q p' _ ?_ (s1.trans (ak.upd hp'))⟩;unfold w9 Wg;rw[if_neg h,if_neg h2,← hb];refine bA ?_ ((hE.same s1).new hp');show upd _ p' (.tup [.int ((w.1:Int)+(m8 z:Nat)),.int ((b:Int)+(y.length:Int)+(v.2:Int)-(w.2:Int))]) p'=some (.tup [bS (w.1+m8 z),bS (b+zl z+v.2-w.2)]);rw[af];have e3:((b:Int)+(y.length:Int)+(v.2:Int)-(w.2:Int))=((b+zl z+v.2-w.2:Nat):Int):=by lia
   rw[e3];rfl
def df (i:Nat) (lt lv d:Addr) (b:V):List (Str×V):=[("row",.int i),("taken",.ref lt),("given",.ref lv),("places_ahead",.ref d),("places_behind",b)]
inductive Lz(t:dU)(vs:List V)(H:Hp)(Q:VK)(_:XK):Prop|mk(x dx lt lv d:Addr)(i:Nat)(_:vs=[.ref x,.int i,.ref lt,.ref lv,.ref d])(_:H x=some (.ins t.cJ dx []))(_:Q .cD (upd H x (.ins t.cJ dx (df i lt lv d .cD))))
def Tt (T:Txt K mg t):bw P w K mg base dM 1 t.JV t.OF ["self","row","taken","given","places"] (Lz t):=by refine T.MB.ok RH λvs H Q E h=>?_;obtain⟨x,dx,lt,lv,d,i,rfl,hx,q⟩:=h;walk_at "i";refine au (bT (pv 0) (pv 1) rfl) ⟨_,rfl,_,rfl,x,_,dx,[],rfl,hx,T.fq,T.nU,by decide,?_⟩;refine au (bT (pv 0) (pv 2) rfl) ⟨_,rfl,_,rfl,x,_,dx,[("row",.int i)],rfl,af,T.fq,T.kG,by show 1<1000;decide,?_⟩;refine au (bT (pv 0) (pv 3) rfl) ⟨_,rfl,_,rfl,x,_,dx,[("row",.int i),("taken",.ref lt)],rfl,af,T.fq,T.kr,by show 2<1000;decide,?_⟩;refine au (bT (pv 0) (pv 4) rfl) ⟨_,rfl,_,rfl,x,_,dx,[("row",.int i),("taken",.ref lt),("given",.ref lv)],rfl,af,T.fq,T.iV,by show 3<1000;decide,?_⟩;refine ay (bT (pv 0) bL rfl) ⟨_,rfl,x,_,dx,[("row",.int i),("taken",.ref lt),("given",.ref lv),("places_ahead",.ref d)],rfl,af,T.fq,T.fM,by show 4<1000;decide,?_⟩;rw[eO,eO,eO,eO];exact q
def sf (tt d ld lu:Addr):List (Str×V):=[("tinted",.ref tt),("places",.ref d),("done",.ref ld),("undone",.ref lu)]
def wN(s:ak H H')(h:H n=none):ak (hid S H) (hid (λc=>S c∨c=n) H'):=λb o e=>bA (s _ _ (aC _ _ e)) (by
 rintro (z|z)
 ·exact bR e z
 ·exact av (aC _ _ e) h z)
def iA(hS:S n):ak (hid S H) (hid S (upd H n o)):=by rw[oV hS];exact ak.refl _
inductive Ku(t:dU)(vs:List V)(H:Hp)(Q:VK)(_:XK):Prop|mk(x dx a lr:Addr)(R:Addr->Prop)(ms:List aE)(rs:List Str)(Gs:List bF)(_:vs=[.ref x,.ref a,.ref lr])(_:H x=some (.ins t.aG dx []))(_:Ex R H)(_:IsRules t (hid (λc=>R c∨c=x) H) a ms)(_:cT ms)(_:gC ms=none)(_:H lr=some (.lst (rs.map V.str)))(_:rs.length<=100000)(_:Chain ms [0] rs Gs)(_:∀tt dt a' lg gs d ld lu H',bG t (hid (λc=>((R c∨c=x)∨c=ld)∨c=lu) H') tt dt a' lg gs ms Gs->H' x=some (.ins t.aG dx (sf tt d ld lu))->DP (hid (λc=>((R c∨c=x)∨c=ld)∨c=lu) H') d []->H' ld=some (.lst [])->H' lu=some (.lst [])->H ld=none->ld≠lu->H lu=none->fZ H H' x->Q .cD H')
def Tz (T:Txt K mg t):bw P w K mg base dM 9 t.Bv t.JL ["self","rules","rows"] (Ku t):=by
 refine T.BK.ok Ia λvs H Q E h=>?_;obtain⟨x,dx,a,lr,R,ms,rs,Gs,rfl,hx,hE,hR,G,hring,hlr,hrl,hC,q⟩:=h;walk_at "i";refine au (bT (pv 0) (dP T.uI (QH T) hr.m rfl T.rZ T.BX.b3 .nil aH (aa (pv 1) (aa (pv 2) ai))) rfl) ⟨_,rfl,_,rfl,λtt dt ntt ndt ne=>?_⟩;have s0:ak H (upd (upd H dt (.own tt)) tt (.ins t.bf dt [])):=bP ntt ndt;refine⟨tt,dt,a,lr,(λc=>R c∨c=x),ms,rs,Gs,rfl,af,(λz=>z.elim (λr=>by obtain⟨o,e⟩:=hE _ r;rw[ntt] at e;cases e) (λz=>av hx ntt z.symm)),(λb z=>z.elim (λr=>by obtain⟨o,e⟩:=hE _ r;exact⟨o,s0 _ _ e⟩) (λz=>by rw[show b=x from z];exact⟨_,s0 _ _ hx⟩)),hR.same (wN s0 ntt),G,hring,s0 _ _ hlr,hrl,hC,λa' lg gs H1 I1 f1 a1=>⟨rfl,?_⟩⟩;have s1:ak H H1:=fZ.fresh s0 ntt a1;have hx1:=s1 _ _ hx;clear a1 s0 f1;refine⟨_,rfl,x,_,dx,[],rfl,hx1,T.aK,T.bH,by decide,?_⟩;have hx2:upd H1 x (.ins t.aG dx (dj "tinted" (.ref tt) [])) x=some (.ins t.aG dx [("tinted",.ref tt)]):=af;have a2:fZ H (upd H1 x (.ins t.aG dx (dj "tinted" (.ref tt) []))) x:=s1.JZ fZ.upd;have I2:=I1.same (iA (n:=x) (o:=.ins t.aG dx (dj "tinted" (.ref tt) [])) (.inr rfl));generalize upd H1 x (.ins t.aG dx (dj "tinted" (.ref tt) []))=H2 at hx2 a2 I2;refine au (bT (pv 0) zk rfl) (λd hd=>⟨_,rfl,x,_,dx,[("tinted",.ref tt)],rfl,ak.upd hd _ _ hx2,T.aK,T.bI,by show 1<1000;decide,?_⟩);have ndx:d≠x:=λz=>by rw[z,hx2] at hd;cases hd
 have nRd:¬ (R d∨d=x):=λz=>z.elim (λr=>by obtain⟨o,e⟩:=hE _ r;rw[a2 _ _ e ndx] at hd;cases hd) ndx;have hx3:upd (upd H2 d (.dK [])) x (.ins t.aG dx (dj "places" (.ref d) [("tinted",.ref tt)])) x=some (.ins t.aG dx [("tinted",.ref tt),("places",.ref d)]):=af;have hd3:upd (upd H2 d (.dK [])) x (.ins t.aG dx (dj "places" (.ref d) [("tinted",.ref tt)])) d=some (.dK []):=by rw[aj ndx,af]
 have a3:fZ H (upd (upd H2 d (.dK [])) x (.ins t.aG dx (dj "places" (.ref d) [("tinted",.ref tt)]))) x:=λb o hb nb=>by rw[aj nb];exact ak.upd hd _ _ (a2 b o hb nb)
 have I3:=(I2.same (aT (ak.upd hd (o:=.dK [])))).same (iA (n:=x) (o:=.ins t.aG dx (dj "places" (.ref d) [("tinted",.ref tt)])) (.inr rfl));generalize upd (upd H2 d (.dK [])) x (.ins t.aG dx (dj "places" (.ref d) [("tinted",.ref tt)]))=H3 at hx3 hd3 a3 I3;refine au (bT (pv 0) (bD ai) rfl) ⟨by show 0<=sizeLine;decide,λld hld=>⟨_,rfl,x,_,dx,[("tinted",.ref tt),("places",.ref d)],rfl,ak.upd hld _ _ hx3,T.aK,T.fc,by show 2<1000;decide,?_⟩⟩;have nlx:ld≠x:=λz=>by rw[z,hx3] at hld;cases hld
 have hx4:upd (upd H3 ld (.lst [])) x (.ins t.aG dx (dj "done" (.ref ld) [("tinted",.ref tt),("places",.ref d)])) x=some (.ins t.aG dx [("tinted",.ref tt),("places",.ref d),("done",.ref ld)]):=af;have s34:ak (hid (λc=>R c∨c=x) H3) (hid (λc=>(R c∨c=x)∨c=ld) (upd (upd H3 ld (.lst [])) x (.ins t.aG dx (dj "done" (.ref ld) [("tinted",.ref tt),("places",.ref d)])))):=(wN (ak.upd hld) hld).trans (iA (.inl (.inr rfl)));have hl4:upd (upd H3 ld (.lst [])) x (.ins t.aG dx (dj "done" (.ref ld) [("tinted",.ref tt),("places",.ref d)])) ld=some (.lst []):=by rw[aj nlx,af]
 have a4:fZ H (upd (upd H3 ld (.lst [])) x (.ins t.aG dx (dj "done" (.ref ld) [("tinted",.ref tt),("places",.ref d)]))) x:=λb o hb nb=>by rw[aj nb];exact ak.upd hld _ _ (a3 b o hb nb)
 have I4:=I3.same s34;have hd4:=s34 _ _ (bA hd3 nRd);have hl0:H ld=none:=by
  cases e:H ld with
  |none=>rfl
  |some o=>have:=a3 _ _ e nlx;rw[hld] at this;cases this
 generalize upd (upd H3 ld (.lst [])) x (.ins t.aG dx (dj "done" (.ref ld) [("tinted",.ref tt),("places",.ref d)]))=H4 at hx4 hl4 a4 I4 hd4;clear s34;refine ay (bT (pv 0) (bD ai) rfl) ⟨by show 0<=sizeLine;decide,λlu hlu=>⟨_,rfl,x,_,dx,[("tinted",.ref tt),("places",.ref d),("done",.ref ld)],rfl,ak.upd hlu _ _ hx4,T.aK,T.dN,by show 3<1000;decide,?_⟩⟩;have nux:lu≠x:=λz=>by rw[z,hx4] at hlu;cases hlu
 have s45:ak (hid (λc=>(R c∨c=x)∨c=ld) H4) (hid (λc=>((R c∨c=x)∨c=ld)∨c=lu) (upd (upd H4 lu (.lst [])) x (.ins t.aG dx (sf tt d ld lu)))):=(wN (ak.upd hlu) hlu).trans (iA (.inl (.inl (.inr rfl))));have nlu:ld≠lu:=λz=>by rw[z,hlu] at hl4;cases hl4
 have hu0:H lu=none:=by
  cases e:H lu with
  |none=>rfl
  |some o=>have:=a4 _ _ e nux;rw[hlu] at this;cases this
 exact q tt dt a' lg gs d ld lu _ (I4.same s45) af ⟨[],rfl,s45 _ _ hd4,bO.nil⟩ (by show upd _ _ _ _=_;rw[aj nlx];exact ak.upd hlu _ _ hl4) (by show upd _ _ _ _=_;rw[aj nux,af]) hl0 nlu hu0 (λb o hb nb=>by show upd _ _ _ _=_;rw[aj nb];exact ak.upd hlu _ _ (a4 b o hb nb))
inductive Kg(t:dU)(vs:List V)(H:Hp)(Q:VK)(_:XK):Prop|mk(x dx tt d ld lu:Addr)(_:vs=[.ref x])(_:H x=some (.ins t.aG dx (sf tt d ld lu)))(_:Q (.ref tt) H)
def tG (T:Txt K mg t):bw P w K mg base dM 1 t.GL t.NO ["self"] (Kg t):=by refine T.vL.ok Pg λvs H Q E h=>?_;obtain⟨x,dx,tt,d,ld,lu,rfl,hx,q⟩:=h;walk_at "i";exact ay (aP (aJ (pv 0) rfl)) (⟨_,rfl,_,_,_,_,_,rfl,hx,T.aK,T.bH,rfl,q⟩)
inductive Hi(t:dU)(vs:List V)(H:Hp)(Q:VK)(_:XK):Prop|mk(x dx tt d ld lu:Addr)(sp:List (Str×Nat×Nat))(_:vs=[.ref x])(_:H x=some (.ins t.aG dx (sf tt d ld lu)))(_:DP H d sp)(_:(cS sp).Nodup)(_:sp.length<64)(_:∀d' H',DP H' d' (cF sp)->H d'=none->ak H H'->Q (.ref d') H')
def Ci{sp:List (Str×Nat×Nat)}(hx:sp[i]?=some x)(hl:pp.length=i):cW (sp.take (i+1)) (pp++[p])=cW (sp.take i) pp++[(Sum.inr x.1,V.ref p)]:=by have hi:=(i5.mp hx).1;rw[ae0 hx,IU (by rw[N0,hl];lia)];rfl
def Il (T:Txt K mg t):bw P w K mg base dM 1 t.ID t.M7 ["self"] (Hi t):=by
 refine T.Fd.ok Q6 λvs H Q E h=>?_;obtain⟨x,dx,tt,d,ld,lu,sp,rfl,hx,⟨ps,hd⟩,hn,h64,q⟩:=h;walk_at "i";have sz:=ac0;have hsl:(cF sp).length=sp.length:=by unfold cF;rw[d6,(fJ _).length_eq,d6]
 have hnl:(fG (cS sp)).length=sp.length:=by rw[(fJ _).length_eq,d6]
 refine ay (@aP _ _ _ _ (@cQ _ _ _ _ _ _ _ _ _ (@tT _ rfl) (by rfl) T.Az (by decide +kernel) (aa (@i6 _ (az E3) _ ["self"] _ _ ("name") _ _ [("self",0)] _ _ (by walk_at "ck") (@gH _ _ _ _ (@aM _ _ _ _ _ _ _ _ _ (@wJ _ rfl) (by rfl) T.yy (by decide +kernel) (aa (@aJ _ _ _ _ _ (pv 0) rfl) ai (by left)) (by left) (by left) (by left) (by left))) (λ_ _ _ _=>by exact(@br _ _ _ _ _ (aa (pv 1) (aa (@Bk _ _ _ _ _ _ (jE hr) (@mJ _ K _ _ _ _ (pv 0) rfl (by left)) (pv 1) (λ_ _=>rfl)) ai (by left)) (by left)))) (by left) (by left) (by left) (by left)) ai (by left)) (by left) (by left) (by left) (by left))) (⟨_,rfl,_,_,_,_,_,rfl,hx,T.aK,T.bI,rfl,⟨d,_,cS sp,rfl,hd.ob,rJ hd.len,by rw[d6];exact h64,λl hl=>⟨l,rfl,⟨_,bq.of af⟩,?_⟩⟩⟩);have s1:ak H (upd H l (.lst ((fG (cS sp)).map V.str))):=ak.upd hl;have hl1:upd H l (.lst ((fG (cS sp)).map V.str)) l=some (.lst ((fG (cS sp)).map V.str)):=af;generalize upd H l (.lst ((fG (cS sp)).map V.str))=H1 at s1 hl1;refine ja (xs:=(fG (cS sp)).map V.str) (λi ys H2=>∃qs pp:List Addr,ys=qs.map V.ref/\pp.length=i/\bO (λ(q:Addr) (kv:Key×V)=>H2 q=some (.tup [kV kv.1,kv.2])) qs (cW ((cF sp).take i) pp)/\bO (λp (y:Str×Nat×Nat)=>H2 p=some (.tup [bS y.2.1,bS y.2.2])) pp ((cF sp).take i)/\ak H1 H2) ⟨[],[],rfl,rfl,bO.nil,bO.nil,ak.refl H1⟩ (eT (by rw[d6];lia)) ?_ ?_ ?_
 ·rintro i ys H2 _ ⟨qs,pp,_,_,_,_,s2⟩;exact bq.of (s2 _ _ hl1)
 ·rintro i xv ys H2 hxv hyl ⟨qs,pp,rfl,hpl,hq2,hp2,s2⟩;rw[B1] at hxv;obtain⟨n,hni,rfl⟩:=Q1.mp hxv;have hi:=(i5.mp hni).1;have hsi:(cF sp)[i]?=some (n,CB sp n):=by unfold cF;rw[B1,hni];rfl
  obtain⟨j,y,hj,rfl⟩:=uN ((fJ _).mem_iff.mp (u8 hni));have lj:=(i5.mp hj).1;obtain⟨pj,ep⟩:∃pj,ps[j]?=some pj:=⟨_,i4 (by rw[hd.len];exact lj)⟩
  have hs12:=s1.trans s2;have hg:=pJ.k (k:=Sum.inr y.1) (hs12 _ _ hd.ob);rw[v5 hn hj ep] at hg;refine⟨_,rfl,_,rfl,x,t.aG,dx,_,_,rfl,hs12 _ _ hx,T.aK,T.bI,rfl,_,rfl,d,_,rfl,hg,by show 2<=sizeLine;decide,λp hp=>d7 (by rw[d6];exact hi) hyl ⟨qs++[p],pp++[pj],by rw[P2];rfl,by rw[o0,hpl];rfl,?_,?_,s2.trans (ak.upd hp)⟩⟩
  ·rw[Ci hsi hpl];exact bO.snoc (hq2.mono λ_ _ e=>ak.upd hp _ _ e) af
  ·rw[ae0 hsi];refine bO.snoc (hp2.mono λ_ _ e=>ak.upd hp _ _ e) ?_;have:=hd.pl.2 j _ _ ep hj;rw[yk hn hj];exact ak.upd hp _ _ (hs12 _ _ this)
 ·rintro ys H2 hyl ⟨qs,pp,rfl,hpl,hq2,hp2,s2⟩ D hD;rw[d6,hnl,← hsl,ab6] at hq2 hp2;rw[d6,hnl,← hsl] at hpl;have hnd:=DK hn;refine⟨D,qs,cW (cF sp) pp,rfl,af,(hq2.mono λ_ _ e=>ak.upd hD _ _ e),by rw[jj hpl];lia,λd' hd'=>?_⟩;rw[yu hpl hnd];have s3:=(ak.upd hD (o:=.lst (qs.map V.ref))).trans (ak.upd hd' (o:=.dK (cW (cF sp) pp)));exact q d' _ ⟨pp,hpl,af,hp2.mono λ_ _ e=>s3 _ _ e⟩ ((s1.trans (s2.trans (ak.upd hD))).free hd') (s1.trans (s2.trans s3))
inductive SJ(t:dU)(vs:List V)(H:Hp)(Q:VK)(_:XK):Prop|mk(S:Addr->Prop)(x dx tt d ld lu dt a lg:Addr)(gs:List Addr)(ms:List aE)(Gs:List bF)(G:bF)(sp:List (Str×Nat×Nat))(n:Str)(i j:Nat)(_:vs=[.ref x,.str n,.int i,.int j])(_:S x)(_:Ex S H)(_:H x=some (.ins t.aG dx (sf tt d ld lu)))(_:isName n=true)(_:bG t (hid S H) tt dt a lg gs ms Gs)(_:Gs[i]?=some G)(_:j<=G.row.length)(_:G.row.length<=1000)(_:DP (hid S H) d sp)(_:sp.length<64)(_:∀d' H',H' x=some (.ins t.aG dx (sf tt d' ld lu))->DP (hid S H') d' (DZ sp n (i,j))->fZ H H' x->Q .cD H')
def Qf (T:Txt K mg t):bw P w K mg base dM 4 t.CC t.Jl ["self","name","row","at"] (SJ t):=by
 refine T.Bj.ok zu λvs H Q E h=>?_;obtain⟨S,x,dx,tt,d,ld,lu,dt,a,lg,gs,ms,Gs,G,sp,n,i,j,rfl,hSx,hE,hx,hn,I,hG,hj,hl,⟨ps,hd⟩,h64,q⟩:=h;walk_at "i";have sz:=ac0;have nl:n.length<=8:=by unfold isName at hn;simp only[aa9,aa8] at hn;exact hn.1.2
 refine au (aW (gQ (eN (aN (Aj T) hr.m rfl T.zV T.sR.kp T.sR.b1 .nil aH (aa (pv 1) ai)))) aq aq) ⟨_,rfl,n,rfl,by lia,λH1 s1=>?_⟩;rw[hn];refine⟨_,rfl,ji (bu ?_)⟩;have I1:=(I.same (aT s1)).same aC;refine au (aX (bB (aJ (pv 0) rfl) T.aL T.vd (FI T) hr.m T.qN.b3 .nil aH (aa (pv 2) (aa (pv 3) ai)))) (⟨_,rfl,_,_,_,_,_,rfl,(s1 _ _ hx),T.aK,T.bH,rfl,⟨tt,dt,_,rfl,I1.ob,rfl,_,rfl,_,rfl,tt,dt,a,lg,gs,ms,Gs,G,i,j,rfl,I1,hG,hj,hl,?_⟩⟩);have hd1:=hd.same (aT s1);refine au (cR 4 zu (cQ z6 (by rfl) T.Az (by decide +kernel) (aa (aJ (pv 0) rfl) ai))) (⟨_,rfl,_,_,_,_,_,rfl,(s1 _ _ hx),T.aK,T.bI,rfl,⟨d,_,rfl,aC _ _ hd1.ob,λd' hd'=>?_⟩⟩);have s2:ak H1 (upd H1 d' (.dK (cW sp ps))):=ak.upd hd';have e2:upd H1 d' (.dK (cW sp ps)) d'=some (.dK (cW sp ps)):=af;generalize upd H1 d' (.dK (cW sp ps))=H2 at s2 e2;refine au (B5 (jE hr) (pv 4) (pv 1) (br (aa (pv 2) (aa (pv 3) ai))) rfl) ⟨_,rfl,_,rfl,by show 2<=sizeLine;decide,λp hp=>⟨_,rfl,_,rfl,d',_,rfl,Dt.k (k:=Sum.inr n) (ak.upd hp _ _ e2) (by rw[jj hd.len];lia),?_⟩⟩;have s12:=s1.trans s2;have hE2:=hE.same s12;have ndp:d'≠p:=av e2 hp;have hd0:H d'=none:=s1.free hd';have nS:¬ S d':=hE.new hd0;have nSp:¬ S p:=hE2.new hp;have ndx:d'≠x:=λz=>by rw[z,hx] at hd0;cases hd0
 have hpx:U6 (hid S (upd H2 p (.tup [bS i,bS j]))) p (i,j):=bA af nSp;have D2:QS (hid S (upd H2 p (.tup [bS i,bS j]))) d sp ps:=(hd1.same (aT s2)).same (aT (ak.upd hp));obtain⟨ps',l',k',a'⟩:=Qz (n:=n) D2 hpx;rw[k'];have hx3:=ak.upd hp (o:=.tup [bS i,bS j]) _ _ (s12 _ _ hx);have s13:ak H (upd H2 p (.tup [bS i,bS j])):=s12.trans (ak.upd hp);have hd3:upd H2 p (.tup [bS i,bS j]) d'=some (.dK (cW sp ps)):=ak.upd hp _ _ e2;show At _ _ _ _ (upd (upd H2 p (.tup [bS i,bS j])) d' (.dK (cW (DZ sp n (i,j)) ps')));generalize upd H2 p (.tup [bS i,bS j])=H3 at a' hx3 s13 hd3;refine ay (bT (pv 0) (pv 4) rfl) ⟨_,rfl,_,rfl,x,_,dx,_,rfl,(by rw[aj (aa3 ndx)];exact hx3),T.aK,T.bI,by show 4<1000;decide,?_⟩;refine q d' _ af ⟨ps',l',bA (by rw[aj ndx,af]) nS,a'.mono λb y e=>bA ?_ (bR e)⟩ λb o hb nb=>?_
 ·have e:=aC _ _ e;rw[aj (cy e hx3 (by intro z;cases z)),aj (cy e hd3 (by intro z;cases z))];exact e
 ·rw[aj nb,aj (av hb hd0)];exact s13 _ _ hb
inductive Ri(t:dU)(vs:List V)(H:Hp)(Q:VK)(_:XK):Prop|mk(S:Addr->Prop)(x dx tt d ld lu dt a lg lt:Addr)(gs:List Addr)(ms:List aE)(Gs:List bF)(ds:List V)(i:Nat)(m:Int)(_:vs=[.ref x,.int i,.ref lt,.int m])(_:S x)(_:S ld)(_:Ex S H)(_:H x=some (.ins t.aG dx (sf tt d ld lu)))(_:bG t (hid S H) tt dt a lg gs ms Gs)(_:Gs.length<=100000)(_:H ld=some (.lst ds))(_:ds.length<=100000)(_:∀dd kQ lv lu' H',H' x=some (.ins t.aG dx (sf tt d ld lu'))->H' ld=some (.lst (ds++[.ref dd]))->H' lu'=some (.lst [])->H' dd=some (.ins t.cJ kQ (df i lt lv d .cD))->H' lv=some (.lst (cH ((Gs.map (·.row)).map V.str) (some (i:Int)) (some ((i:Int)+m))))->H dd=none->H lv=none->H lu'=none->lu'≠lv->(∀b o,H b=some o->b≠x->b≠ld->H' b=some o)->Q .cD H')
def Q2 (T:Txt K mg t):bw P w K mg base dM 3 t.EZ t.MX ["self","row","taken","many"] (Ri t):=by
 refine T.O7.ok JE λvs H Q E h=>?_;obtain⟨S,x,dx,tt,d,ld,lu,dt,a,lg,lt,gs,ms,Gs,ds,i,m,rfl,hSx,hSl,hE,hx,I,hgl,hld,hdl,q⟩:=h;walk_at "i";have I0:=I.same aC;refine au (cR 4 JE (fW jF (bx (aJ (pv 0) rfl) T.aL T.nj (jL T) hr.m T.lQ.b1 .nil aH) (fk (pv 1)) (fk (bh bX (pv 1) (pv 3))))) (⟨_,rfl,_,_,_,_,_,rfl,hx,T.aK,T.bH,rfl,⟨tt,dt,_,rfl,I0.ob,rfl,tt,dt,a,lg,gs,ms,Gs,rfl,I0,hgl,λl1 H1 h1 f1 s1=>?_⟩⟩);refine⟨_,rfl,_,rfl,_,rfl,_,rfl,_,_,rfl,rfl,_,rfl,l1,_,rfl,bq.of h1,λlv flv=>?_⟩;have hv2:upd H1 lv (.lst (cH ((Gs.map (·.row)).map V.str) (some (i:Int)) (some ((i:Int)+m)))) lv=some (.lst (cH ((Gs.map (·.row)).map V.str) (some (i:Int)) (some ((i:Int)+m)))):=af;have s2:ak H (upd H1 lv (.lst (cH ((Gs.map (·.row)).map V.str) (some (i:Int)) (some ((i:Int)+m))))):=s1.trans (ak.upd flv);have flv0:H lv=none:=s1.free flv;generalize upd H1 lv (.lst (cH ((Gs.map (·.row)).map V.str) (some (i:Int)) (some ((i:Int)+m))))=H2 at hv2 s2;have hld2:=s2 _ _ hld;refine au (aX (dF Y8 Y6 aa0 bZ (aJ (pv 0) rfl) (aa (dP T.J9 (Tt T) hr.m rfl T.Hv T.MB.b5 .nil aH (aa (pv 1) (aa (pv 2) (aa (pv 4) (aa (aJ (pv 0) rfl) ai))))) ai))) (⟨_,rfl,_,_,_,_,_,rfl,(s2 _ _ hx),T.aK,T.fc,rfl,⟨.inl ⟨rfl,_,bq.of hld2⟩,_,rfl,_,rfl,_,rfl,_,rfl,x,t.aG,dx,_,_,rfl,s2 _ _ hx,T.aK,T.bI,rfl,λdd kQ ndd nddx ne=>⟨dd,kQ,lt,lv,d,i,rfl,af,rfl,?_⟩⟩⟩);rw[eO];have s3:ak H2 (upd (upd H2 kQ (.own dd)) dd (.ins t.cJ kQ (df i lt lv d .cD))):=bP ndd nddx;have hdd3:upd (upd H2 kQ (.own dd)) dd (.ins t.cJ kQ (df i lt lv d .cD)) dd=some (.ins t.cJ kQ (df i lt lv d .cD)):=af;generalize upd (upd H2 kQ (.own dd)) dd (.ins t.cJ kQ (df i lt lv d .cD))=H3 at s3 hdd3;have s23:=s2.trans s3;refine⟨ld,_,_,rfl,rfl,s3 _ _ hld2,eT (by lia),?_⟩;have nlx:ld≠x:=cy hld hx (by intro z;cases z);have hx4:upd H3 ld (.lst (ds++[.ref dd])) x=some (.ins t.aG dx (sf tt d ld lu)):=by rw[aj (aa3 nlx)];exact s23 _ _ hx
 refine ay (bT (pv 0) (bD ai) rfl) ⟨by show 0<=sizeLine;decide,λlu' hlu=>⟨_,rfl,x,_,dx,_,rfl,ak.upd hlu _ _ hx4,T.aK,T.dN,by show 4<1000;decide,?_⟩⟩;have nux:lu'≠x:=λz=>by rw[z,hx4] at hlu;cases hlu
 have nul:lu'≠ld:=λz=>by rw[z,af] at hlu;cases hlu
 have hlu3:H3 lu'=none:=by rw[aj nul] at hlu;exact hlu
 have ku:∀{b o},upd H3 ld (.lst (ds++[.ref dd])) b=some o->b≠x->upd (upd (upd H3 ld (.lst (ds++[.ref dd]))) lu' (.lst [])) x (.ins t.aG dx (dj "undone" (.ref lu') (sf tt d ld lu))) b=some o:=λ{b o} e n=>by rw[aj n];exact ak.upd hlu _ _ e
 have n1:dd≠x:=λz=>by rw[z,s2 _ _ hx] at ndd;cases ndd
 have n2:lv≠ld:=λz=>by rw[z,hld] at flv0;cases flv0
 have n3:lv≠x:=λz=>by rw[z,hx] at flv0;cases flv0
 exact q dd kQ lv lu' _ af (ku af nlx) (by rw[aj nux,af]) (ku (by rw[aj (cy hdd3 (s3 _ _ hld2) (by intro z;cases z))];exact hdd3) n1) (ku (by rw[aj n2];exact s3 _ _ hv2) n3) (s2.free ndd) flv0 (s23.free hlu3) (λz=>by rw[z,s3 _ _ hv2] at hlu3;cases hlu3) (λb o hb n1 n2=>ku (by rw[aj n2];exact s23 _ _ hb) n1)
structure SDone(t:dU)(S:Addr->Prop)(H H':Hp)(x dx tt dt a ld:Addr)(ms:List aE)(Gs Gs':List bF)(ds:List V)(sp':List (Str×Nat×Nat))(d:Addr)(i:Nat)(taken given:List V):Prop where
 ex:∃d' lu dd kQ lt lv lg gs,H' x=some (.ins t.aG dx (sf tt d' ld lu))/\bG t (hid (λc=>(S c∨c=dd)∨c=lu) H') tt dt a lg gs ms Gs'/\DP (hid (λc=>(S c∨c=dd)∨c=lu) H') d' sp'/\H' lu=some (.lst [])/\H' ld=some (.lst (ds++[.ref dd]))/\H' dd=some (.ins t.cJ kQ (df i lt lv d .cD))/\H' lt=some (.lst taken)/\H' lv=some (.lst given)/\H d'=none/\H dd=none/\H lt=none/\H lv=none/\H lu=none/\lt≠lu/\lv≠lu
 keep:∀b o,H b=some o->b≠x->b≠tt->b≠ld->H' b=some o
inductive JB(t:dU)(vs:List V)(H:Hp)(Q:VK)(_:XK):Prop|mk(S:Addr->Prop)(x dx tt d ld lu dt a lg:Addr)(gs:List Addr)(ms:List aE)(Gs:List bF)(G:bF)(sp:List (Str×Nat×Nat))(ds:List V)(i j:Nat)(z:Str)(fs:List Str)(ah bk:Nat)(Gm:List bF)(c:Nat)(Gs':List bF)(_:vs=[.ref x,.int i,.int j,.str z])(_:S x)(_:S ld)(_:Ex S H)(_:H x=some (.ins t.aG dx (sf tt d ld lu)))(_:bG t (hid S H) tt dt a lg gs ms Gs)(_:DP (hid S H) d sp)(_:(cS sp).Nodup)(_:sp.length<64)(_:(∀y∈sp,y.2.1<=100000/\y.2.2<=100000))(_:H ld=some (.lst ds))(_:ds.length<=100000)(_:cT ms)(_:Gs[i]?=some G)(_:j<=G.row.length)(_:G.row.length<=1000)(_:z.length<=1000)(_:PySem.Txt.split (pS G.row j z) (Str.ofString "\n")=fs)(_:Gs.length<=50000)(_:Gs'.length<=100000)(_:fs.length<=50000)(_:fs≠[])(_:jK ms Gs i 1 fs ah bk Gm c Gs')(_:∀H',SDone t S H H' x dx tt dt a ld ms Gs Gs' ds (sp.map λy=>(y.1,w9 y.2 (i,j) z)) d i (cH ((Gs.map (·.row)).map V.str) (some (i:Int)) (some ((i:Int)+1))) (cH ((Gs'.map (·.row)).map V.str) (some (i:Int)) (some ((i:Int)+((Ql z (Str.ofString "\n"):Int)+1))))->Q (.int ((Gm.length+c:Nat):Int)) H')
def Di(sp:List (Str×Nat×Nat))(f:Str×Nat×Nat->Nat×Nat):cS (sp.map λy=>(y.1,f y))=cS sp:=by show List.map _ (List.map _ _)=_;rw[aj4];rfl
def DE(h:H1 d=some (.dK kvs))(s:ak (upd H1 d (.nq o (.dK kvs))) H2):ak H1 (upd H2 d (.dK kvs)):=λb u e=>by
 by_cases z:b=d
 ·rw[z,h] at e;cases e;rw[z,af]
 ·rw[aj z];exact s _ _ (by rw[aj z];exact e)
def KA(h:H1 d=some (.dK kvs))(e:hid S H1 p=some (.tup xs)):hid S (upd H1 d (.nq o (.dK kvs))) p=some (.tup xs) :=
 bA (by rw[aj (cy (aC _ _ e) h (by intro z;cases z))];exact aC _ _ e) (bR e)
def Rm(h:Ex S H1):Ex S (upd H1 d u):=λb z=>by
 by_cases e:b=d
 ·exact⟨u,by rw[e,af]⟩
 ·obtain⟨o,ho⟩:=h b z;exact⟨o,by rw[aj e];exact ho⟩
def Qy (T:Txt K mg t):bw P w K mg base dM 10 t.B8 t.GB ["self","row","at","text"] (JB t):=by
 refine T.Bt.ok qB λvs H Q E h=>?_;obtain⟨S,x,dx,tt,d,ld,lu,dt,a,lg,gs,ms,Gs,G,sp,ds,i,j,z,fs,ah,bk,Gm,c,Gs',rfl,hSx,hSl,hE,hx,I,⟨ps,hd⟩,hn,h64,hb,hld,hdl,GM_,hG,hj,hl,hz,hfs,hl1,hl1',hl2,hne,C,q⟩:=h;walk_at "i";have sz:=ac0;have I0:=I.same aC;have hi:i<=50000:=by have:=(i5.mp hG).1;lia
 refine au (cR 4 qB (bx (aJ (pv 0) rfl) T.aL T.nj (jL T) hr.m T.lQ.b1 .nil aH)) (⟨_,rfl,_,_,_,_,_,rfl,hx,T.aK,T.bH,rfl,⟨tt,dt,_,rfl,I0.ob,rfl,tt,dt,a,lg,gs,ms,Gs,rfl,I0,by lia,λla H1 h1 f1 s1=>?_⟩⟩);have I1:=I.same (aT s1);refine au (cR 5 qB (bB (aJ (pv 0) rfl) T.aL T.OI (S7 T) hr.m T.Bh.b4 .nil aH (aa (pv 1) (aa (pv 2) (aa (pv 3) ai))))) (⟨_,rfl,_,_,_,_,_,rfl,(s1 _ _ hx),T.aK,T.bH,rfl,⟨tt,dt,_,rfl,aC _ _ I1.ob,rfl,_,rfl,_,rfl,_,rfl,S,tt,dt,a,lg,gs,ms,Gs,G,i,j,z,fs,ah,bk,Gm,c,Gs',rfl,hE.same s1,I1,GM_,hG,hj,hl,hz,hfs,hl1,hl2,hne,C,λlg' gs' H2 I2 f2 a2=>?_⟩⟩);have htt:=aC _ _ I.ob;have nS:¬ S tt:=bR I.ob;have k2:∀{b o},H b=some o->b≠tt->H2 b=some o:=λ{b o} e n=>a2 b o (s1 _ _ e) n;have nx:x≠tt:=λy=>nS (by rw[← y];exact hSx);have nl:ld≠tt:=λy=>nS (by rw[← y];exact hSl);have hx2:=k2 hx nx;have hld2:=k2 hld nl;have nla:la≠tt:=cy h1 (s1 _ _ htt) (by intro y;cases y);have hla2:=a2 _ _ h1 nla;have hE2:Ex S H2:=λb y=>let ⟨o,ho⟩:=hE b y;⟨o,k2 ho (λe=>nS (by rw[← e];exact y))⟩;have hd2:QS (hid S H2) d sp ps:=by refine⟨hd.len,bA (k2 (aC _ _ hd.ob) (cy (aC _ _ hd.ob) htt (by intro y;cases y))) (bR hd.ob),hd.pl.mono λp y e=>bA (k2 (aC _ _ e) (cy (aC _ _ e) htt (by intro y;cases y))) (bR e)⟩
 have fla:∀{b},H2 b=none->b≠tt->H b=none:=λ{b} e n=>by
  cases g:H b with
  |none=>rfl
  |some o=>rw[k2 g n] at e;cases e
 have tt2:=aC _ _ I2.ob;refine au (aX (bB (pv 0) T.aK T.T5 (Q2 T) hr.m T.O7.b4 .nil aH (aa (pv 1) (aa (fW jF (pv 4) (fk (pv 1)) (fk (bh bX (pv 1) ao))) (aa (bh bX (dF ac4 F.slot_str_count F.type_str_count JS (pv 3) (aa aA ai)) ao) ai))))) ⟨_,rfl,x,dx,_,rfl,hx2,rfl,_,rfl,_,rfl,_,rfl,_,rfl,_,rfl,_,_,rfl,rfl,_,rfl,la,_,rfl,bq.of hla2,λlt D7=>⟨_,rfl,rfl,z,Str.ofString "\n",rfl,rfl,_,_,rfl,rfl,?_⟩⟩;have s3:ak H2 (upd H2 lt (.lst (cH ((Gs.map (·.row)).map V.str) (some (i:Int)) (some ((i:Int)+1))))):=ak.upd D7;have hlt3:upd H2 lt (.lst (cH ((Gs.map (·.row)).map V.str) (some (i:Int)) (some ((i:Int)+1)))) lt=some (.lst (cH ((Gs.map (·.row)).map V.str) (some (i:Int)) (some ((i:Int)+1)))):=af;generalize upd H2 lt (.lst (cH ((Gs.map (·.row)).map V.str) (some (i:Int)) (some ((i:Int)+1))))=H3 at s3 hlt3;have flt0:H lt=none:=fla D7 (λy=>by rw[y,tt2] at D7;cases D7);refine⟨S,x,dx,tt,d,ld,lu,dt,a,lg',lt,gs',ms,Gs',ds,i,_,rfl,hSx,hSl,hE2.same s3,s3 _ _ hx2,I2.same (aT s3),hl1',s3 _ _ hld2,hdl,λdd kQ lv lu' H4 e1 e2 e3 e4 e5 e6 e7 e9 e10 e8=>?_⟩;have s34:∀{b o},H2 b=some o->b≠x->b≠ld->H4 b=some o:=λ{b o} e n1 n2=>e8 b o (s3 _ _ e) n1 n2;have sh:ak (hid S H2) (hid S H4):=λb o e=>bA (s34 (aC _ _ e) (λy=>bR e (by rw[y];exact hSx)) (λy=>bR e (by rw[y];exact hSl))) (bR e);have I4:=I2.same sh;have sh2:ak (hid S H2) (hid (λc=>(S c∨c=dd)∨c=lu') H4):=λb o e=>bA (aC _ _ (sh _ _ e)) (by
  have e0:=s3 _ _ (aC _ _ e);rintro ((y|y)|y)
  ·exact bR e y
  ·rw[y,e6] at e0;cases e0
  ·rw[y,e9] at e0;cases e0)
 have I4':=I2.same sh2;have zq:lt≠lu':=λy=>by rw[y,e9] at hlt3;cases hlt3
 have hd4:=hd2.same sh;have hE4:Ex S H4:=λb y=>by
  by_cases z1:b=x
  ·exact⟨_,by rw[z1];exact e1⟩
  ·by_cases z2:b=ld
   ·exact⟨_,by rw[z2];exact e2⟩
   ·obtain⟨o,ho⟩:=hE2 b y;exact⟨o,s34 ho z1 z2⟩
 have hlt4:H4 lt=some (.lst (cH ((Gs.map (·.row)).map V.str) (some (i:Int)) (some ((i:Int)+1)))):=e8 _ _ hlt3 (cy hlt3 (s3 _ _ hx2) (by intro y;cases y)) (λy=>by rw[y,hld] at flt0;cases flt0);have hob4:=aC _ _ hd4.ob;have fdd:H dd=none:=fla (s3.free e6) (λy=>by rw[y,s3 _ _ tt2] at e6;cases e6);have flu:H lu'=none:=fla (s3.free e9) (λy=>by rw[y,s3 _ _ tt2] at e9;cases e9);have flv:H lv=none:=fla (s3.free e7) (λy=>by rw[y,s3 _ _ tt2] at e7;cases e7);have k4:∀b o,H b=some o->b≠x->b≠tt->b≠ld->H4 b=some o:=λb o e n1 n2 n3=>s34 (k2 e n2) n1 n3;have tt4:=aC _ _ I4.ob;clear s34 sh sh2 e8 e6 e7 e9 s3 hlt3 I2 hd2 hE2 fla I1 I0 hla2 hx2 hld2;refine au (@bT _ _ _ _ _ _ _ _ (pv 0) (@cQ _ _ _ _ _ _ _ _ _ (@tT _ rfl) (by rfl) T.Az (by decide +kernel) (aa (@Lo _ _ _ (@i6 _ (az EB) _ ["self","row","at","text","ahead","count"] _ _ ("name") _ _ [("text",3),("row",1),("at",2),("self",0)] _ _ (by walk_at "ck") (@KG _ _ _ _ (@aJ _ _ _ _ _ (pv 0) rfl)) (λ_ _ _ _=>by exact(@br _ _ _ _ _ (aa (pv 4) (aa (@aN _ _ _ _ _ _ _ _ _ _ _ _ _ _ _ _ (PJ T) hr.m rfl T.Rj T.IJ.kp T.IJ.b3 .nil aH (aa (@Bk _ _ _ _ _ _ (jE hr) (@mJ _ K _ _ _ _ (pv 3) rfl (by left)) (pv 4) (λ_ _=>rfl)) (aa (@br _ _ _ _ _ (aa (pv 1) (aa (pv 2) ai (by left)) (by left))) (aa (pv 0) ai (by left)) (by left)) (by left)) (by left) (by left) (by left)) ai (by left)) (by left)))) (by left) (by left) (by left) (by left))) ai (by left)) (by left) (by left) (by left) (by left)) rfl) (⟨_,rfl,_,_,_,_,_,rfl,e1,T.aK,T.bI,rfl,⟨d,_,rfl,hob4,λo nf=>?_⟩⟩);have hsl:(sp.map λy=>(y.1,w9 y.2 (i,j) z)).length=sp.length:=d6 ..;refine C6 (λk ys H5=>∃qs pp:List Addr,ys=qs.map V.ref/\pp.length=k/\bO (λ(q:Addr) (kv:Key×V)=>H5 q=some (.tup [kV kv.1,kv.2])) qs (cW ((sp.map λy=>(y.1,w9 y.2 (i,j) z)).take k) pp)/\bO (λp (y:Str×Nat×Nat)=>hid S H5 p=some (.tup [bS y.2.1,bS y.2.2])) pp ((sp.map λy=>(y.1,w9 y.2 (i,j) z)).take k)/\ak (upd H4 d (.nq o (.dK (cW sp ps)))) H5) ⟨[],[],rfl,rfl,bO.nil,bO.nil,ak.refl _⟩ (eT (by rw[jj hd.len];lia)) ?_ ?_ ?_
 ·rintro k ys H5 _ ⟨qs,pp,_,_,_,_,s5⟩;exact s5 _ _ af
 ·rintro k kv ys H5 hkv hyl ⟨qs,pp,rfl,hpl,hq5,hp5,s5⟩;have hk:k<sp.length:=by rw[← jj hd.len];exact(i5.mp hkv).1
  have hy:sp[k]?=some sp[k]:=i4 hk;obtain⟨pk,ep⟩:∃pk,ps[k]?=some pk:=⟨_,i4 (by rw[hd.len];exact hk)⟩
  generalize sp[k]=y at hy;rw[M9 hy ep] at hkv;cases hkv;have hyk:(sp.map λy=>(y.1,w9 y.2 (i,j) z))[k]?=some (y.1,w9 y.2 (i,j) z):=by rw[B1,hy];rfl
  obtain⟨y1,y2⟩:=hb y (u8 hy);have hE5:Ex S H5:=(Rm hE4).same s5;have hx5:H5 x=some (.ins t.aG dx (sf tt d ld lu')):=s5 _ _ (by rw[aj (cy e1 hob4 (by intro y;cases y))];exact e1);have hpk:=(aT s5) _ _ (KA (o:=o) hob4 (hd4.pl.2 k _ _ ep hy));refine⟨_,rfl,_,rfl,x,t.aG,dx,_,_,rfl,hx5,T.aK,T.bI,rfl,_,rfl,d,_,rfl,.inl ⟨_,Sum.inr y.1,.inr ⟨o,s5 _ _ af⟩,rfl,(v5 hn hy ep).symm⟩,_,rfl,_,rfl,by show 2<=sizeLine;decide,λf hf=>⟨_,rfl,S,pk,f,y.2,(i,j),z,rfl,hE5.same (ak.upd hf),(aT (ak.upd hf)) _ _ hpk,bA af (hE5.new hf),hz,y1,y2,(by show i<=_;lia),(by show j<=_;lia),λp' H6 hp' s6=>⟨by show 2<=sizeLine;decide,λr hr'=>d7 (by rw[jj hd.len];exact hk) hyl ⟨qs++[r],pp++[p'],by rw[P2];rfl,by rw[o0,hpl];rfl,?_,?_,s5.trans ((ak.upd hf).trans (s6.trans (ak.upd hr')))⟩⟩⟩⟩
  ·rw[Ci hyk hpl];exact bO.snoc (hq5.mono λ_ _ e=>ak.upd hr' _ _ (s6 _ _ (ak.upd hf _ _ e))) af
  ·rw[ae0 hyk];exact bO.snoc (hp5.mono λ_ _ e=>(aT ((ak.upd hf).trans (s6.trans (ak.upd hr')))) _ _ e) ((aT (ak.upd hr')) _ _ hp')
 ·rintro ys H5 hyl ⟨qs,pp,rfl,hpl,hq5,hp5,s5⟩ D hD;rw[jj hd.len,← hsl,ab6] at hq5 hp5;rw[jj hd.len,← hsl] at hpl;have hnd:(cS (sp.map λy=>(y.1,w9 y.2 (i,j) z))).Nodup:=by rw[Di];exact hn
  have hd5:H5 d=some (.nq o (.dK (cW sp ps))):=s5 _ _ af;have ndD:d≠D:=av hd5 hD;refine⟨d,o,_,by rw[aj ndD];exact hd5,nf,D,qs,cW (sp.map λy=>(y.1,w9 y.2 (i,j) z)) pp,rfl,by rw[aj (aa3 ndD),af],⟨hq5.1,λk b kv g1 g2=>?_⟩,by rw[jj hpl,hsl];lia,λd' hd'=>?_⟩
  ·have e:=hq5.2 k b kv g1 g2;rw[aj (cy e hd5 (by intro y;cases y))];exact ak.upd hD _ _ e
  rw[yu hpl hnd];have s6:ak H4 (upd (upd H5 D (.lst (qs.map V.ref))) d (.dK (cW sp ps))):=DE hob4 (s5.trans (ak.upd hD));have hpp:bO (λp (y:Str×Nat×Nat)=>hid S (upd (upd H5 D (.lst (qs.map V.ref))) d (.dK (cW sp ps))) p=some (.tup [bS y.2.1,bS y.2.2])) pp (sp.map λy=>(y.1,w9 y.2 (i,j) z)):=hp5.mono λp y e=>bA (by rw[aj (cy (aC _ _ e) hd5 (by intro y;cases y))];exact ak.upd hD _ _ (aC _ _ e)) (bR e);generalize upd (upd H5 D (.lst (qs.map V.ref))) d (.dK (cW sp ps))=H6 at s6 hpp hd';have s7:ak H6 (upd H6 d' (.dK (cW (sp.map λy=>(y.1,w9 y.2 (i,j) z)) pp))):=ak.upd hd';have hd7:upd H6 d' (.dK (cW (sp.map λy=>(y.1,w9 y.2 (i,j) z)) pp)) d'=some (.dK (cW (sp.map λy=>(y.1,w9 y.2 (i,j) z)) pp)):=af;have hd4':H4 d'=none:=s6.free hd';generalize upd H6 d' (.dK (cW (sp.map λy=>(y.1,w9 y.2 (i,j) z)) pp))=H7 at s7 hd7;have s47:=s6.trans s7;refine⟨_,rfl,x,_,dx,_,rfl,s47 _ _ e1,T.aK,T.bI,by show 4<1000;decide,?_⟩;have ndx:d'≠x:=λy=>by rw[y,e1] at hd4';cases hd4'
  have nSd:¬ S d':=hE4.new hd4';have ku:∀{b u},H4 b=some u->b≠x->upd H7 x (.ins t.aG dx (dj "places" (.ref d') (sf tt d ld lu'))) b=some u:=λ{b u} e n=>by rw[aj n];exact s47 _ _ e
  have su:ak (hid S H7) (hid S (upd H7 x (.ins t.aG dx (dj "places" (.ref d') (sf tt d ld lu'))))):=iA hSx;have su2:ak (hid (λc=>(S c∨c=dd)∨c=lu') H7) (hid (λc=>(S c∨c=dd)∨c=lu') (upd H7 x (.ins t.aG dx (dj "places" (.ref d') (sf tt d ld lu'))))):=iA (.inl (.inl hSx));have dd7:=s47 _ _ e4;have lu7:=s47 _ _ e3;have more:∀{b:Addr} {o:HO},hid S H7 b=some o->(∀C y fs,o ≠ .ins C y fs)->(∀ys,o ≠ .lst ys)->hid (λc=>(S c∨c=dd)∨c=lu') H7 b=some o:=λ{b o} h n1 n2=>bA (aC _ _ h) (by
   have h:=aC _ _ h;rintro ((y|y)|y)
   ·exact bR (by assumption) y
   ·rw[y,dd7] at h;exact n1 _ _ _ (X8 h).symm
   ·rw[y,lu7] at h;exact n2 _ (X8 h).symm)
  refine ay (aP (pv 5)) ⟨_,rfl,q _ ⟨⟨d',lu',dd,kQ,lt,lv,lg',gs',af,(I4'.same (aT s47)).same su2,⟨pp,hpl,su2 _ _ (more (bA hd7 nSd) (λ_ _ _ z=>by cases z) (λ_ z=>by cases z)),hpp.mono λp y e=>su2 _ _ (more ((aT s7) _ _ e) (λ_ _ _ z=>by cases z) (λ_ z=>by cases z))⟩,ku e3 (λy=>by rw[y,e1] at e3;cases e3),ku e2 (λy=>by rw[y,e1] at e2;cases e2),ku e4 (λy=>?_),ku hlt4 (λy=>by rw[y,e1] at hlt4;cases hlt4),ku e5 (λy=>by rw[y,e1] at e5;cases e5),?_,fdd,flt0,flv,flu,zq,aa3 e10⟩,λb u e n1 n2 n3=>ku (k4 b u e n1 n2 n3) n1⟩⟩
  ·rw[y,hx] at fdd;cases fdd
  ·cases g:H d' with
   |none=>rfl
   |some u =>
    have:=k4 d' u g ndx (λy=>by rw[y,tt4] at hd4';cases hd4') (λy=>by rw[y,e2] at hd4';cases hd4');rw[hd4'] at this;cases this
def zp (R:bg):bg:={ R with aU:="" }
def xU (m:aE):aE:={ m with aU:="",rules:=m.rules.map zp }
theorem tH:∀(rs:List bg) (k:Nat),gK row i k (rs.map zp)=gK row i k rs
 | [],_=>rfl
 |R::r,k=>by rw[Y5,gK,gK,tH r (k+1)];rfl
def C8(rs:List bg)(row:Str)(i:Nat):fE (rs.map zp) row i=(fE rs row i).map zp:=by
 unfold fE;have e:firstM (rs.map zp) row i=firstM rs row i:=tH rs 0;rw[e];cases firstM rs row i with
 |none=>rfl
 |some n=>exact B1
def IM(ms:List aE)(k:Nat)(row:Str):cU (ms.map xU) k row=(cU ms k row).map zp:=by
 unfold cU;rw[B1];cases ms[k]? with
 |none=>rfl
 |some m =>
  show gF (m.rules.map zp) row=(gF m.rules row).map zp;unfold gF;rw[C8];cases fE m.rules row 0 with
  |none=>rfl
  |some R =>
   show (if bE R.sort=true then none else some (zp R))=Option.map zp (if bE R.sort=true then none else some R);split <;> rfl
theorem vJ(ms:List aE)(row:Str)(first:Nat):∀(f:Nat) (on ring:List Nat),dD (ms.map xU) row first f on ring=dD ms row first f on ring
 |0,_,_=>rfl
 |f+1,on,ring=>by
  rw[dD,dD,IM];cases cU ms (bU on) row with
  |none=>rfl
  |some R =>
   show (if R.bz = "pop" /\ on.length=1/\first≠0 then none else if bU (bQ on R.bz R.goal)=first then some (ring++[bU on]) else dD (ms.map xU) row first f (bQ on R.bz R.goal) (ring++[bU on]))=_;rw[vJ ms row first f]
def CN(ms:List aE):gC (ms.map xU)=gC ms:=by
 have h1:∀row n k,gn (ms.map xU) row n k=gn ms row n k:=by
  intro row n;induction n with
  |zero=>intro k;rfl
  |succ n ih =>
   intro k;rw[gn,gn,ih];have:cI (ms.map xU) k row=cI ms k row:=by unfold cI;rw[d6];exact vJ ms row k _ _ _
   rw[this]
 have h2:∀rows,fV (ms.map xU) rows=fV ms rows:=by
  intro rows;induction rows with
  |nil=>rfl
  |cons row r ih=>rw[fV,fV,d6,h1,ih]
 exact h2 _
def kK (c:Str):Prop:=c∈(["red","blue","green","plain","redder"]:List Str)
def kK.nm(h:kK c):isName c=true:=by
 have key:∀c∈(["red","blue","green","plain","redder"]:List Str),isName c=true:=by decide +kernel
 exact key c h
structure mV where
 c0:Str
 c1:Str
 c2:Str
 c3:Str
 c4:Str
structure mV.Ok(c:mV):Prop where
 h0:kK c.c0
 h1:kK c.c1
 h2:kK c.c2
 h3:kK c.c3
 h4:kK c.c4
abbrev q1 (c:Str):bg:=⟨"one","(",c,"push",some 1,"open"⟩
abbrev q2 (c:Str):bg:=⟨"word","\"",c,"push",some 2,""⟩
abbrev q3 (c:Str):bg:=⟨"many","ab",c,"stay",none,""⟩
abbrev q4 (c:Str):bg:=⟨"word","#",c,"into",some 3,""⟩
abbrev q5 (c:Str):bg:=⟨"one",")",c,"pop",none,"close"⟩
abbrev q6 (c:Str):bg:=⟨"word","\"",c,"pop",none,""⟩
abbrev q7:bg:=⟨"end","","","pop",none,""⟩
abbrev q8:bg:=⟨"end","","","into",some 0,""⟩
abbrev q9:bg:=⟨"still","","","push",some 1,"open"⟩
abbrev qa (c:Str):bg:=⟨"many","ab",c,"pop",none,"close"⟩
abbrev qb (c:Str):bg:=⟨"any","",c,"pop",none,""⟩
abbrev qc (c:Str):bg:=⟨"word","((",c,"push",some 1,"open"⟩
abbrev qd (c:Str):bg:=⟨"none","ab(\" ",c,"stay",none,""⟩
abbrev qe (c:Str):bg:=⟨"word"," (",c,"push",some 0,""⟩
abbrev qf (c:Str):bg:=⟨"one","\"",c,"into",some 1,"open"⟩
abbrev qg (c:Str):bg:=⟨"word","))",c,"pop",none,"close"⟩
abbrev qh (c:Str):bg:=⟨"word","#",c,"into",some 0,"close"⟩
abbrev qi (c:Str):bg:=⟨"one","\"",c,"pop",none,""⟩
def make(w:Nat)(c:mV):List aE :=
 if w=0 then [⟨"base",c.c0,[q1 c.c1,q2 c.c2,q3 c.c3,q4 c.c1]⟩,⟨"deep",c.c4,[q1 c.c1,q5 c.c1,q2 c.c2]⟩,⟨"text",c.c2,[q6 c.c2,q7]⟩,⟨"note",c.c4,[q8]⟩]
 else if w=1 then [⟨"base",c.c0,[q9]⟩,⟨"word",c.c1,[qa c.c3,qb c.c2]⟩]
 else [⟨"base",c.c0,[qc c.c1,qd c.c2,qe c.c4,qf c.c3]⟩,⟨"deep",c.c1,[qg c.c1,qh c.c4,qi c.c0]⟩]
def c00:mV:=⟨"","","","",""⟩
def FA(w:Nat)(c:mV):(make w c).map xU=make w c00:=by
 unfold make;split
 ·rfl
 ·split
  ·rfl
  ·rfl
def uC(w:Nat)(c:mV):gC (make w c)=none:=by
 rw[← CN,FA];unfold make;split
 ·decide +kernel
 ·split
  ·decide +kernel
  ·decide +kernel
def VD (s z:Str):Bool:=decide (s∈sorts) && (if bare s then decide (z = "") else decide (1<=z.length/\z.length<=200/\95∉z.cps.toList/\10∉z.cps.toList))
def iT(n:Nat)(R:bg):Bool:=VD R.sort R.signs && decide (R.bz∈vM) && (match R.goal with
 |some g=>decide (jD R.bz/\g<n)
 |none=>decide (¬ jD R.bz)) && decide (R.fold = "" ∨ R.fold = "open" ∨ R.fold = "close")
def qz   (h:iT names.length (zp R)=true) (hc:bE R.sort=true->kK R.aU) (h0:bE R.sort=false->R.aU = ""):fF names R:=by
 unfold iT at h;rw[aa9,aa9,aa9] at h;obtain⟨⟨⟨h1,h3⟩,h4⟩,h5⟩:=h;unfold VD at h1;rw[aa9] at h1;have h4:(match R.goal with
  |some g=>decide (jD R.bz/\g<names.length)
  |none=>decide (¬ jD R.bz))=true:=h4
 refine⟨⟨ad3 h1.1,λhb=>?_,λhb=>?_⟩,λhb=>(hc hb).nm,h0,ad3 h3,λhg=>?_,λhg=>?_,ad3 h5⟩
 ·have h2:=h1.2;rw[if_pos (show bare (zp R).sort from hb)] at h2;exact ad3 h2
 ·have h2:=h1.2;rw[if_neg (show ¬ bare (zp R).sort from hb)] at h2;exact ad3 h2
 ·cases e:R.goal with
  |some g=>rw[e] at h4;exact⟨g,rfl,(ad3 h4).2⟩
  |none=>rw[e] at h4;exact absurd hg (ad3 h4)
 ·cases e:R.goal with
  |some g=>rw[e] at h4;exact absurd (ad3 h4).1 hg
  |none=>rfl
def gi(w:Nat)(O:c.Ok):Dn (make w c):=by
 have g:∀{names:List Str} {R:bg} (k:Nat),names.length=k->iT k (zp R)=true->bE R.sort=true->kK R.aU->fF names R:=λk hk h1 h2 h3=>qz (by rw[hk];exact h1) (λ_=>h3) (λz=>by rw[h2] at z;cases z);have g0:∀{names:List Str} {R:bg} (k:Nat),names.length=k->iT k (zp R)=true->bE R.sort=false->R.aU = "" -> fF names R:=λk hk h1 h2 h3=>qz (by rw[hk];exact h1) (λz=>by rw[h2] at z;cases z) (λ_=>h3);unfold make;split
 ·refine⟨by show 0<4;decide,by show 4<=12;decide,by show (["base","deep","text","note"]:List Str).Nodup;decide +kernel,?_,?_,?_⟩
  ·intro m hm;simp only[y0,X1,ac3] at hm;rcases hm with rfl|rfl|rfl|rfl
   ·exact⟨show isName "base" = true by decide +kernel,O.h0.nm⟩
   ·exact⟨show isName "deep" = true by decide +kernel,O.h4.nm⟩
   ·exact⟨show isName "text" = true by decide +kernel,O.h2.nm⟩
   ·exact⟨show isName "note" = true by decide +kernel,O.h4.nm⟩
  ·intro m hm;simp only[y0,X1,ac3] at hm;rcases hm with rfl|rfl|rfl|rfl <;> simp
  ·intro m hm R hR;simp only[y0,X1,ac3] at hm;rcases hm with rfl|rfl|rfl|rfl
   ·simp only[y0,X1,ac3] at hR;rcases hR with rfl|rfl|rfl|rfl
    ·exact g 4 rfl (show iT 4 (q1 "")=true by decide +kernel) (show bE "one" = true by decide +kernel) O.h1
    ·exact g 4 rfl (show iT 4 (q2 "")=true by decide +kernel) (show bE "word" = true by decide +kernel) O.h2
    ·exact g 4 rfl (show iT 4 (q3 "")=true by decide +kernel) (show bE "many" = true by decide +kernel) O.h3
    ·exact g 4 rfl (show iT 4 (q4 "")=true by decide +kernel) (show bE "word" = true by decide +kernel) O.h1
   ·simp only[y0,X1,ac3] at hR;rcases hR with rfl|rfl|rfl
    ·exact g 4 rfl (show iT 4 (q1 "")=true by decide +kernel) (show bE "one" = true by decide +kernel) O.h1
    ·exact g 4 rfl (show iT 4 (q5 "")=true by decide +kernel) (show bE "one" = true by decide +kernel) O.h1
    ·exact g 4 rfl (show iT 4 (q2 "")=true by decide +kernel) (show bE "word" = true by decide +kernel) O.h2
   ·simp only[y0,X1,ac3] at hR;rcases hR with rfl|rfl
    ·exact g 4 rfl (show iT 4 (q6 "")=true by decide +kernel) (show bE "word" = true by decide +kernel) O.h2
    ·exact g0 4 rfl (show iT 4 q7=true by decide +kernel) (show bE "end" = false by decide +kernel) rfl
   ·simp only[y0,X1,ac3] at hR;rcases hR with rfl
    ·exact g0 4 rfl (show iT 4 q8=true by decide +kernel) (show bE "end" = false by decide +kernel) rfl
 ·split
  ·refine⟨by show 0<2;decide,by show 2<=12;decide,by show (["base","word"]:List Str).Nodup;decide +kernel,?_,?_,?_⟩
   ·intro m hm;simp only[y0,X1,ac3] at hm;rcases hm with rfl|rfl
    ·exact⟨show isName "base" = true by decide +kernel,O.h0.nm⟩
    ·exact⟨show isName "word" = true by decide +kernel,O.h1.nm⟩
   ·intro m hm;simp only[y0,X1,ac3] at hm;rcases hm with rfl|rfl <;> simp
   ·intro m hm R hR;simp only[y0,X1,ac3] at hm;rcases hm with rfl|rfl
    ·simp only[y0,X1,ac3] at hR;rcases hR with rfl
     ·exact g0 2 rfl (show iT 2 q9=true by decide +kernel) (show bE "still" = false by decide +kernel) rfl
    ·simp only[y0,X1,ac3] at hR;rcases hR with rfl|rfl
     ·exact g 2 rfl (show iT 2 (qa "")=true by decide +kernel) (show bE "many" = true by decide +kernel) O.h3
     ·exact g 2 rfl (show iT 2 (qb "")=true by decide +kernel) (show bE "any" = true by decide +kernel) O.h2
  ·refine⟨by show 0<2;decide,by show 2<=12;decide,by show (["base","deep"]:List Str).Nodup;decide +kernel,?_,?_,?_⟩
   ·intro m hm;simp only[y0,X1,ac3] at hm;rcases hm with rfl|rfl
    ·exact⟨show isName "base" = true by decide +kernel,O.h0.nm⟩
    ·exact⟨show isName "deep" = true by decide +kernel,O.h1.nm⟩
   ·intro m hm;simp only[y0,X1,ac3] at hm;rcases hm with rfl|rfl <;> simp
   ·intro m hm R hR;simp only[y0,X1,ac3] at hm;rcases hm with rfl|rfl
    ·simp only[y0,X1,ac3] at hR;rcases hR with rfl|rfl|rfl|rfl
     ·exact g 2 rfl (show iT 2 (qc "")=true by decide +kernel) (show bE "word" = true by decide +kernel) O.h1
     ·exact g 2 rfl (show iT 2 (qd "")=true by decide +kernel) (show bE "none" = true by decide +kernel) O.h2
     ·exact g 2 rfl (show iT 2 (qe "")=true by decide +kernel) (show bE "word" = true by decide +kernel) O.h4
     ·exact g 2 rfl (show iT 2 (qf "")=true by decide +kernel) (show bE "one" = true by decide +kernel) O.h3
    ·simp only[y0,X1,ac3] at hR;rcases hR with rfl|rfl|rfl
     ·exact g 2 rfl (show iT 2 (qg "")=true by decide +kernel) (show bE "word" = true by decide +kernel) O.h1
     ·exact g 2 rfl (show iT 2 (qh "")=true by decide +kernel) (show bE "word" = true by decide +kernel) O.h4
     ·exact g 2 rfl (show iT 2 (qi "")=true by decide +kernel) (show bE "one" = true by decide +kernel) O.h0
def FY(w:Nat)(c:mV):(make w c).length<=4:=by
 unfold make;split
 ·exact M2 _
 ·split
  ·show 2<=4;decide
  ·show 2<=4;decide
def DT(w:Nat)(O:c.Ok)(r:Str)(hr:∀c∈r.cps.toList,c∈fT.cps.toList):oJ (make w c) r :=
 ⟨(gi w O).good,FY w c,λm hm R hR hb=>(((gi w O).rule m hm R hR).pat.sg hb).1,Ae (uC w c),hr⟩
def bO.cL{α β:Type}{R:α->β->Prop}{a:α}{b:β}{as:List α}{bs:List β}(h:R a b)(t:bO R as bs):bO R (a::as) (b::bs):=by
 refine⟨by rw[x0,x0,t.1],λi x y hx hy=>?_⟩;cases i with
 |zero=>cases hx;cases hy;exact h
 |succ i=>exact t.2 i x y hx hy
def tupQ(R:bg):List V:=[.str R.sort,.str R.signs,.str R.aU,.str R.bz,jX R.goal,.str R.fold]
def TR(H:Hp)(p:Addr)(R:bg):Prop:=H p=some (.tup (tupQ R))
def TM(H:Hp)(tm:Addr)(m:aE):Prop:=∃lr ps,H tm=some (.tup [.str m.name,.str m.aU,.ref lr])/\H lr=some (.lst (ps.map V.ref))/\bO (TR H) ps m.rules
def TMs(H:Hp)(lm:Addr)(ms:List aE):Prop:=∃ts,H lm=some (.lst (ts.map V.ref))/\bO (TM H) ts ms
def TR.same(h:TR H p R)(s:ak H H'):TR H' p R:=s _ _ h
def TM.of(h:H' tm=some (.tup [.str m.name,.str m.aU,.ref lr]))(hl:H lr=some (.lst (ps.map V.ref)))(hr:bO (TR H) ps m.rules)(s:ak H H'):TM H' tm m :=
 ⟨lr,ps,h,s _ _ hl,hr.mono λ_ _ z=>z.same s⟩
def Sf  (h0:0<=d) (h1:d<5):∃c,kK c/\uv ((["red","blue","green","plain","redder"]:List Str).map V.str) d=some (.str c):=by
 obtain⟨n,rfl⟩:∃n:Nat,d=n:=⟨d.toNat,by lia⟩
 have:n=0∨n=1∨n=2∨n=3∨n=4:=by lia
 unfold kK;rcases this with rfl|rfl|rfl|rfl|rfl
 ·exact⟨"red",by simp,rfl⟩
 ·exact⟨"blue",by simp,rfl⟩
 ·exact⟨"green",by simp,rfl⟩
 ·exact⟨"plain",by simp,rfl⟩
 ·exact⟨"redder",by simp,rfl⟩
abbrev Cn(c:mV):List V:=[.str c.c0,.str c.c1,.str c.c2,.str c.c3,.str c.c4]
inductive KQ(K:PySem.W.Frag)(vs:List V)(H:Hp)(Q:VK)(_:XK):Prop|mk(a:Addr)(ns:List Int)(_:vs=[.ref a])(_:bq K H a (ns.map V.int))(_:ns.length<=63)(_:∀w c lm H',c.Ok->TMs H' lm (make w c)->ak H H'->Q (.ref lm) H')
def Qv (T:Txt K mg t):bw P w K mg base dM 2 t.E2 t.Ny ["_law_script"] (KQ K):=by
 refine T.FT.ok iG λvs H Q E h=>?_;obtain⟨a,ns,rfl,hS,hl,q⟩:=h;walk_at "i";refine @au _ _ _ _ _ _ _ (@wm _ _ 1 _ _ _ _ iG.nd rfl (Or.inr rfl) (@bD _ _ _ _ (@wC _ _ ["red","blue","green","plain","redder"] rfl)) (by left) (by left)) ⟨by show 5<=sizeLine;decide,λlo g0=>?_⟩;refine aI (λZ' H'=>∃c lc,mV.Ok c/\H' lc=some (.lst (Cn c))/\ak H H'/\Z'=[some (.ref a),some (.ref lo),some (.ref lc),none,none,none,none,none,none]) (@Bm _ 2 _ (az Jt) _ ["_law_script","_law_some","_law_c","_law_way","_law_base","_law_deep","_law_quoted","_law_modes_here","_law_word"] _ _ ("_law_k") _ _ _ _ [("_law_some",1),("_law_script",0)] _ _ iG.nd rfl (Or.inl rfl) (by walk_at "ck") (@iw _ _ _ _ _ _ rfl T.kq (aa ao ai (by left)) (by left)) (λ_ _ _ _=>by exact(@aY _ _ _ _ _ _ _ (yF (K:=K) rfl) (pv 0) (@aN _ _ _ _ _ _ _ _ _ _ _ _ _ _ _ _ (fH T) hr.m rfl T.fP T.cN.kp T.cN.b3 .nil aH (aa (pv 1) (aa (@bh _ _ _ _ _ _ _ _ bX ao (pv 2)) (aa ao ai (by left)) (by left)) (by left)) (by left) (by left) (by left)) (λ_ _=>rfl))) (by left) (by left) (by left) (by left) (by left) (by left)) ?_ ?_
 ·refine⟨5,rfl,by lia,by lia,nI (n:=5) (λi ys H'=>∃cs:List Str,ys=cs.map V.str/\cs.length=i/\(∀c∈cs,kK c)/\H' lo=some (.lst ((["red","blue","green","plain","redder"]:List Str).map V.str))/\ak H H') ⟨[],rfl,rfl,(λc h=>by cases h),af,ak.upd g0⟩ (by show 5<sizeLine;decide) ?_ ?_⟩
  ·rintro i ys H2 hi hyl ⟨cs,rfl,hcl,hcs,hlo,s2⟩;refine⟨_,rfl,_,rfl,_,rfl,_,_,rfl,rfl,a,ns,_,_,rfl,hS.same s2,(by lia),(by lia),(by decide),(by decide),hl,λe H3 g0 g1 s3=>?_⟩;obtain⟨c,hc,hat⟩:=Sf g0 g1;refine⟨_,_,_,_,rfl,rfl,bq.of (s3 _ _ hlo),hat,d7 hi hyl ⟨cs++[c],by rw[P2];rfl,by rw[o0,hcl];rfl,λy hy=>?_,s3 _ _ hlo,s2.trans s3⟩⟩;rcases aa1.mp hy with z|z
   ·exact hcs y z
   ·rw[v6.mp z];exact hc
  ·rintro ys H2 hyl ⟨cs,rfl,hcl,hcs,hlo,s2⟩ D hD;match cs,hcl,hcs with
   | [a0,a1,a2,a3,a4],_,hcs=>exact⟨⟨a0,a1,a2,a3,a4⟩,D,⟨hcs _ (by simp),hcs _ (by simp),hcs _ (by simp),hcs _ (by simp),hcs _ (by simp)⟩,af,s2.to hD,rfl⟩
 rintro Z' H1 ⟨c,lc,O,hc,s1,rfl⟩;refine aI (λZ' H'=>∃d:Nat,H' lc=some (.lst (Cn c))/\ak H H'/\Z'=[some (.ref a),some (.ref lo),some (.ref lc),some (.int d),none,none,none,none,none]) (cR 3 iG (aN (fH T) hr.m rfl T.fP T.cN.kp T.cN.b3 .nil aH (aa (pv 0) (aa ao (aa ao ai))))) ⟨_,rfl,a,ns,_,_,rfl,hS.same s1,(by lia),(by lia),(by decide),(by decide),hl,λd H2 g0 g1 s2=>⟨d.toNat,s2 _ _ hc,s1.trans s2,by rw[show (d.toNat:Int)=d by lia];rfl⟩⟩ ?_;rintro Z' H2 ⟨d,hc,s2,rfl⟩;refine aI (λZ' H'=>H' lc=some (.lst (Cn c))/\ak H H'/\Z'=[some (.ref a),some (.ref lo),some (.ref lc),some (.int d),none,none,none,none,none]) (aW (aB bN (pv 3) ao (aD _)) aq aq) ?_ ?_
 ·refine⟨_,rfl,rfl,_,rfl,dI (λh=>?_) (λh=>bu ⟨hc,s2,rfl⟩)⟩;refine aI (λZ' H'=>∃p0 p1 l0,TR H' p0 (q1 c.c1)/\TR H' p1 (q2 c.c2)/\H' l0=some (.lst [.ref p0,.ref p1])/\ak H2 H'/\Z'=[some (.ref a),some (.ref lo),some (.ref lc),some (.int d),some (.ref l0),none,none,none,none]) (cR 4 iG (bD (aa (br (aa aA (aa aA (aa (aY aQ (pv 2) ao (λ_ _=>rfl)) (aa aA (aa ao (aa aA ai))))))) (aa (br (aa aA (aa aA (aa (aY aQ (pv 2) ao (λ_ _=>rfl)) (aa aA (aa ao (aa aA ai))))))) ai)))) ⟨_,rfl,_,_,_,_,rfl,rfl,bq.of (hc),aO (j:=1) rfl,by show 6<=sizeLine;decide,λp0 g0=>⟨_,rfl,_,_,_,_,rfl,rfl,bq.of (ak.upd g0 _ _ (hc)),aO (j:=2) rfl,by show 6<=sizeLine;decide,λp1 g1=>⟨by show 2<=sizeLine;decide,λl0 g2=>⟨p0,p1,l0,ak.upd g2 _ _ (ak.upd g1 _ _ (af)),ak.upd g2 _ _ (af),af,((ak.upd g0).to g1).to g2,rfl⟩⟩⟩⟩ ?_;rintro Z' H3 ⟨a0,a1,b0,ra0,ra1,hb0,sH3,rfl⟩;have hc3:=sH3 _ _ hc;refine aI (λZ' H'=>∃p0 p1 l0,TR H' p0 (q3 c.c3)/\TR H' p1 (q4 c.c1)/\H' l0=some (.lst [.ref a0,.ref a1,.ref p0,.ref p1])/\ak H3 H'/\Z'=[some (.ref a),some (.ref lo),some (.ref lc),some (.int d),some (.ref l0),none,none,none,none]) (cR 4 iG (bh iD (pv 4) (bD (aa (br (aa aA (aa aA (aa (aY aQ (pv 2) ao (λ_ _=>rfl)) (aa aA (aa bL (aa aA ai))))))) (aa (br (aa aA (aa aA (aa (aY aQ (pv 2) ao (λ_ _=>rfl)) (aa aA (aa ao (aa aA ai))))))) ai))))) ⟨_,rfl,_,rfl,_,_,_,_,rfl,rfl,bq.of (hc3),aO (j:=3) rfl,by show 6<=sizeLine;decide,λp0 g0=>⟨_,rfl,_,_,_,_,rfl,rfl,bq.of (ak.upd g0 _ _ (hc3)),aO (j:=1) rfl,by show 6<=sizeLine;decide,λp1 g1=>⟨by show 2<=sizeLine;decide,λl1 g2=>⟨b0,l1,_,_,rfl,rfl,ak.upd g2 _ _ (ak.upd g1 _ _ (ak.upd g0 _ _ (hb0))),af,by show 4<=sizeLine;decide,λl0 g3=>⟨p0,p1,l0,ak.upd g3 _ _ (ak.upd g2 _ _ (ak.upd g1 _ _ (af))),ak.upd g3 _ _ (ak.upd g2 _ _ (af)),af,(((ak.upd g0).to g1).to g2).to g3,rfl⟩⟩⟩⟩⟩ ?_;rintro Z' H4 ⟨a2,a3,b1,ra2,ra3,hb1,sH4,rfl⟩;have hc4:=sH4 _ _ hc3;refine aI (λZ' H'=>∃p0 p1 l0,TR H' p0 (q1 c.c1)/\TR H' p1 (q5 c.c1)/\H' l0=some (.lst [.ref p0,.ref p1])/\ak H4 H'/\Z'=[some (.ref a),some (.ref lo),some (.ref lc),some (.int d),some (.ref b1),some (.ref l0),none,none,none]) (cR 5 iG (bD (aa (br (aa aA (aa aA (aa (aY aQ (pv 2) ao (λ_ _=>rfl)) (aa aA (aa ao (aa aA ai))))))) (aa (br (aa aA (aa aA (aa (aY aQ (pv 2) ao (λ_ _=>rfl)) (aa aA (aa bL (aa aA ai))))))) ai)))) ⟨_,rfl,_,_,_,_,rfl,rfl,bq.of (hc4),aO (j:=1) rfl,by show 6<=sizeLine;decide,λp0 g0=>⟨_,rfl,_,_,_,_,rfl,rfl,bq.of (ak.upd g0 _ _ (hc4)),aO (j:=1) rfl,by show 6<=sizeLine;decide,λp1 g1=>⟨by show 2<=sizeLine;decide,λl0 g2=>⟨p0,p1,l0,ak.upd g2 _ _ (ak.upd g1 _ _ (af)),ak.upd g2 _ _ (af),af,((ak.upd g0).to g1).to g2,rfl⟩⟩⟩⟩ ?_;rintro Z' H5 ⟨d0,d1,b2,rd0,rd1,hb2,sH5,rfl⟩;have hc5:=sH5 _ _ hc4;refine aI (λZ' H'=>∃p0 p1 l0,TR H' p0 (q6 c.c2)/\TR H' p1 (q7)/\H' l0=some (.lst [.ref p0,.ref p1])/\ak H5 H'/\Z'=[some (.ref a),some (.ref lo),some (.ref lc),some (.int d),some (.ref b1),some (.ref b2),some (.ref l0),none,none]) (cR 6 iG (bD (aa (br (aa aA (aa aA (aa (aY aQ (pv 2) ao (λ_ _=>rfl)) (aa aA (aa bL (aa aA ai))))))) (aa (br (aa aA (aa aA (aa aA (aa aA (aa bL (aa aA ai))))))) ai)))) ⟨_,rfl,_,_,_,_,rfl,rfl,bq.of (hc5),aO (j:=2) rfl,by show 6<=sizeLine;decide,λp0 g0=>⟨by show 6<=sizeLine;decide,λp1 g1=>⟨by show 2<=sizeLine;decide,λl0 g2=>⟨p0,p1,l0,ak.upd g2 _ _ (ak.upd g1 _ _ (af)),ak.upd g2 _ _ (af),af,((ak.upd g0).to g1).to g2,rfl⟩⟩⟩⟩ ?_;rintro Z' H6 ⟨e0,e1,b3,re0,re1,hb3,sH6,rfl⟩;have hc6:=sH6 _ _ hc5;have hb1:=sH6 _ _ (sH5 _ _ hb1);have hb2:=sH6 _ _ hb2;refine aI (λZ' H'=>∃t0 t1 t2 dl l0,H' t0=some (.tup [.str "base",.str c.c0,.ref b1])/\H' t1=some (.tup [.str "deep",.str c.c4,.ref dl])/\H' t2=some (.tup [.str "text",.str c.c2,.ref b3])/\H' dl=some (.lst [.ref d0,.ref d1,.ref a1])/\H' l0=some (.lst [.ref t0,.ref t1,.ref t2])/\ak H6 H'/\Z'=[some (.ref a),some (.ref lo),some (.ref lc),some (.int d),some (.ref b1),some (.ref b2),some (.ref b3),some (.ref l0),none]) (cR 7 iG (bD (aa (br (aa aA (aa (aY aQ (pv 2) ao (λ_ _=>rfl)) (aa (pv 4) ai)))) (aa (br (aa aA (aa (aY aQ (pv 2) ao (λ_ _=>rfl)) (aa (bh iD (pv 5) (bD (aa (aY aQ (pv 4) ao (λ_ _=>rfl)) ai))) ai)))) (aa (br (aa aA (aa (aY aQ (pv 2) ao (λ_ _=>rfl)) (aa (pv 6) ai)))) ai))))) ⟨_,rfl,_,_,_,_,rfl,rfl,bq.of (hc6),aO (j:=0) rfl,_,rfl,by show 3<=sizeLine;decide,λt0 g0=>⟨_,rfl,_,_,_,_,rfl,rfl,bq.of (ak.upd g0 _ _ (hc6)),aO (j:=4) rfl,_,rfl,_,rfl,_,_,_,_,rfl,rfl,bq.of (ak.upd g0 _ _ (hb1)),aO (j:=1) rfl,by show 1<=sizeLine;decide,λl1 g1=>⟨b2,l1,_,_,rfl,rfl,ak.upd g1 _ _ (ak.upd g0 _ _ (hb2)),af,by show 3<=sizeLine;decide,λdl g2=>⟨by show 3<=sizeLine;decide,λt1 g3=>⟨_,rfl,_,_,_,_,rfl,rfl,bq.of (ak.upd g3 _ _ (ak.upd g2 _ _ (ak.upd g1 _ _ (ak.upd g0 _ _ (hc6))))),aO (j:=2) rfl,_,rfl,by show 3<=sizeLine;decide,λt2 g4=>⟨by show 3<=sizeLine;decide,λl0 g5=>⟨t0,t1,t2,dl,l0,ak.upd g5 _ _ (ak.upd g4 _ _ (ak.upd g3 _ _ (ak.upd g2 _ _ (ak.upd g1 _ _ (af))))),ak.upd g5 _ _ (ak.upd g4 _ _ (af)),ak.upd g5 _ _ (af),ak.upd g5 _ _ (ak.upd g4 _ _ (ak.upd g3 _ _ (af))),af,(((((ak.upd g0).to g1).to g2).to g3).to g4).to g5,rfl⟩⟩⟩⟩⟩⟩⟩ ?_;rintro Z' H7 ⟨t0,t1,t2,dl,l0,ht0,ht1,ht2,hdl,hl0,s7,rfl⟩;have hc7:=s7 _ _ hc6;refine ay (aP (bh iD (pv 7) (bD (aa (br (aa aA (aa (aY aQ (pv 2) ao (λ_ _=>rfl)) (aa (bD (aa (br (aa aA (aa aA (aa aA (aa aA (aa ao (aa aA ai))))))) ai)) ai)))) ai)))) ⟨_,rfl,_,rfl,_,_,_,_,rfl,rfl,bq.of (hc7),aO (j:=4) rfl,by show 6<=sizeLine;decide,λf0 g0=>⟨by show 1<=sizeLine;decide,λl1 g1=>⟨by show 3<=sizeLine;decide,λt3 g2=>⟨by show 1<=sizeLine;decide,λl2 g3=>⟨l0,l2,_,_,rfl,rfl,ak.upd g3 _ _ (ak.upd g2 _ _ (ak.upd g1 _ _ (ak.upd g0 _ _ (hl0)))),af,by show 4<=sizeLine;decide,λlm g4=>?_⟩⟩⟩⟩⟩;have z:ak H7 _:=((((ak.upd g0).to g1).to g2).to g3).to (o:=.lst [.ref t0,.ref t1,.ref t2,.ref t3]) g4;have s67:=s7.trans z;have s57:=sH6.trans s67;have s47:=sH5.trans s57;have s37:=sH4.trans s47;refine q 0 c lm _ O ⟨[t0,t1,t2,t3],af,.cL (.of (z _ _ ht0) hb1 (.cL (ra0.same (sH4.trans (sH5.trans sH6))) (.cL (ra1.same (sH4.trans (sH5.trans sH6))) (.cL (ra2.same (sH5.trans sH6)) (.cL (ra3.same (sH5.trans sH6)) .nil)))) s67) (.cL (.of (z _ _ ht1) hdl (.cL (rd0.same (sH6.trans s7)) (.cL (rd1.same (sH6.trans s7)) (.cL (ra1.same ((sH4.trans (sH5.trans sH6)).trans s7)) .nil))) z) (.cL (.of (z _ _ ht2) hb3 (.cL re0 (.cL re1 .nil)) s67) (.cL (.of (H:=upd (upd H7 f0 (.tup (tupQ q8))) l1 (.lst [.ref f0])) (ak.upd g4 _ _ (ak.upd g3 _ _ (af))) af (.cL (ak.upd g1 _ _ (af)) .nil) (((ak.upd g2).to g3).to g4)) .nil)))⟩ (s2.trans (sH3.trans s37))
 rintro Z' H2 ⟨hc,s2,rfl⟩;refine aI (λZ' H'=>H' lc=some (.lst (Cn c))/\ak H H'/\Z'=[some (.ref a),some (.ref lo),some (.ref lc),some (.int d),none,none,none,none,none]) (aW (aB bN (pv 3) ao (aD _)) aq aq) ?_ ?_
 ·refine⟨_,rfl,rfl,_,rfl,dI (λh=>?_) (λh=>bu ⟨hc,s2,rfl⟩)⟩;refine aI (λZ' H'=>∃p0 p1 l0,TR H' p0 (qa c.c3)/\TR H' p1 (qb c.c2)/\H' l0=some (.lst [.ref p0,.ref p1])/\ak H2 H'/\Z'=[some (.ref a),some (.ref lo),some (.ref lc),some (.int d),none,none,none,none,some (.ref l0)]) (cR 8 iG (bD (aa (br (aa aA (aa aA (aa (aY aQ (pv 2) ao (λ_ _=>rfl)) (aa aA (aa bL (aa aA ai))))))) (aa (br (aa aA (aa aA (aa (aY aQ (pv 2) ao (λ_ _=>rfl)) (aa aA (aa bL (aa aA ai))))))) ai)))) ⟨_,rfl,_,_,_,_,rfl,rfl,bq.of (hc),aO (j:=3) rfl,by show 6<=sizeLine;decide,λp0 g0=>⟨_,rfl,_,_,_,_,rfl,rfl,bq.of (ak.upd g0 _ _ (hc)),aO (j:=2) rfl,by show 6<=sizeLine;decide,λp1 g1=>⟨by show 2<=sizeLine;decide,λl0 g2=>⟨p0,p1,l0,ak.upd g2 _ _ (ak.upd g1 _ _ (af)),ak.upd g2 _ _ (af),af,((ak.upd g0).to g1).to g2,rfl⟩⟩⟩⟩ ?_;rintro Z' H3 ⟨a0,a1,b0,ra0,ra1,hb0,sH3,rfl⟩;have hc3:=sH3 _ _ hc;refine ay (aP (bD (aa (br (aa aA (aa (aY aQ (pv 2) ao (λ_ _=>rfl)) (aa (bD (aa (br (aa aA (aa aA (aa aA (aa aA (aa ao (aa aA ai))))))) ai)) ai)))) (aa (br (aa aA (aa (aY aQ (pv 2) ao (λ_ _=>rfl)) (aa (pv 8) ai)))) ai)))) ⟨_,rfl,_,_,_,_,rfl,rfl,bq.of (hc3),aO (j:=0) rfl,by show 6<=sizeLine;decide,λf0 g0=>⟨by show 1<=sizeLine;decide,λl1 g1=>⟨by show 3<=sizeLine;decide,λt0 g2=>⟨_,rfl,_,_,_,_,rfl,rfl,bq.of (ak.upd g2 _ _ (ak.upd g1 _ _ (ak.upd g0 _ _ (hc3)))),aO (j:=1) rfl,_,rfl,by show 3<=sizeLine;decide,λt1 g3=>⟨by show 2<=sizeLine;decide,λlm g4=>?_⟩⟩⟩⟩⟩;have z:ak H3 _:=((((ak.upd g0).to g1).to g2).to g3).to (o:=.lst [.ref t0,.ref t1]) g4;refine q 1 c lm _ O ⟨[t0,t1],af,.cL (.of (H:=upd (upd H3 f0 (.tup (tupQ q9))) l1 (.lst [.ref f0])) (ak.upd g4 _ _ (ak.upd g3 _ _ (af))) af (.cL (ak.upd g1 _ _ (af)) .nil) (((ak.upd g2).to g3).to g4)) (.cL (.of (ak.upd g4 _ _ (af)) hb0 (.cL ra0 (.cL ra1 .nil)) z) .nil)⟩ (s2.trans (sH3.trans z))
 rintro Z' H2 ⟨hc,s2,rfl⟩;refine aI (λZ' H'=>∃p0 p1 l0,TR H' p0 (qc c.c1)/\TR H' p1 (qd c.c2)/\H' l0=some (.lst [.ref p0,.ref p1])/\ak H2 H'/\Z'=[some (.ref a),some (.ref lo),some (.ref lc),some (.int d),some (.ref l0),none,none,none,none]) (cR 4 iG (bD (aa (br (aa aA (aa aA (aa (aY aQ (pv 2) ao (λ_ _=>rfl)) (aa aA (aa ao (aa aA ai))))))) (aa (br (aa aA (aa aA (aa (aY aQ (pv 2) ao (λ_ _=>rfl)) (aa aA (aa bL (aa aA ai))))))) ai)))) ⟨_,rfl,_,_,_,_,rfl,rfl,bq.of (hc),aO (j:=1) rfl,by show 6<=sizeLine;decide,λp0 g0=>⟨_,rfl,_,_,_,_,rfl,rfl,bq.of (ak.upd g0 _ _ (hc)),aO (j:=2) rfl,by show 6<=sizeLine;decide,λp1 g1=>⟨by show 2<=sizeLine;decide,λl0 g2=>⟨p0,p1,l0,ak.upd g2 _ _ (ak.upd g1 _ _ (af)),ak.upd g2 _ _ (af),af,((ak.upd g0).to g1).to g2,rfl⟩⟩⟩⟩ ?_;rintro Z' H3 ⟨a0,a1,b0,ra0,ra1,hb0,sH3,rfl⟩;have hc3:=sH3 _ _ hc;refine aI (λZ' H'=>∃p0 p1 l0,TR H' p0 (qe c.c4)/\TR H' p1 (qf c.c3)/\H' l0=some (.lst [.ref a0,.ref a1,.ref p0,.ref p1])/\ak H3 H'/\Z'=[some (.ref a),some (.ref lo),some (.ref lc),some (.int d),some (.ref l0),none,none,none,none]) (cR 4 iG (bh iD (pv 4) (bD (aa (br (aa aA (aa aA (aa (aY aQ (pv 2) ao (λ_ _=>rfl)) (aa aA (aa ao (aa aA ai))))))) (aa (br (aa aA (aa aA (aa (aY aQ (pv 2) ao (λ_ _=>rfl)) (aa aA (aa ao (aa aA ai))))))) ai))))) ⟨_,rfl,_,rfl,_,_,_,_,rfl,rfl,bq.of (hc3),aO (j:=4) rfl,by show 6<=sizeLine;decide,λp0 g0=>⟨_,rfl,_,_,_,_,rfl,rfl,bq.of (ak.upd g0 _ _ (hc3)),aO (j:=3) rfl,by show 6<=sizeLine;decide,λp1 g1=>⟨by show 2<=sizeLine;decide,λl1 g2=>⟨b0,l1,_,_,rfl,rfl,ak.upd g2 _ _ (ak.upd g1 _ _ (ak.upd g0 _ _ (hb0))),af,by show 4<=sizeLine;decide,λl0 g3=>⟨p0,p1,l0,ak.upd g3 _ _ (ak.upd g2 _ _ (ak.upd g1 _ _ (af))),ak.upd g3 _ _ (ak.upd g2 _ _ (af)),af,(((ak.upd g0).to g1).to g2).to g3,rfl⟩⟩⟩⟩⟩ ?_;rintro Z' H4 ⟨a2,a3,b1,ra2,ra3,hb1,sH4,rfl⟩;have hc4:=sH4 _ _ hc3;refine aI (λZ' H'=>∃p0 p1 l0,TR H' p0 (qg c.c1)/\TR H' p1 (qh c.c4)/\H' l0=some (.lst [.ref p0,.ref p1])/\ak H4 H'/\Z'=[some (.ref a),some (.ref lo),some (.ref lc),some (.int d),some (.ref b1),some (.ref l0),none,none,none]) (cR 5 iG (bD (aa (br (aa aA (aa aA (aa (aY aQ (pv 2) ao (λ_ _=>rfl)) (aa aA (aa bL (aa aA ai))))))) (aa (br (aa aA (aa aA (aa (aY aQ (pv 2) ao (λ_ _=>rfl)) (aa aA (aa ao (aa aA ai))))))) ai)))) ⟨_,rfl,_,_,_,_,rfl,rfl,bq.of (hc4),aO (j:=1) rfl,by show 6<=sizeLine;decide,λp0 g0=>⟨_,rfl,_,_,_,_,rfl,rfl,bq.of (ak.upd g0 _ _ (hc4)),aO (j:=4) rfl,by show 6<=sizeLine;decide,λp1 g1=>⟨by show 2<=sizeLine;decide,λl0 g2=>⟨p0,p1,l0,ak.upd g2 _ _ (ak.upd g1 _ _ (af)),ak.upd g2 _ _ (af),af,((ak.upd g0).to g1).to g2,rfl⟩⟩⟩⟩ ?_;rintro Z' H5 ⟨d0,d1,b2,rd0,rd1,hb2,sH5,rfl⟩;have hc5:=sH5 _ _ hc4;have hb1:=sH5 _ _ hb1;refine ay (aP (bD (aa (br (aa aA (aa (aY aQ (pv 2) ao (λ_ _=>rfl)) (aa (pv 4) ai)))) (aa (br (aa aA (aa (aY aQ (pv 2) ao (λ_ _=>rfl)) (aa (bh iD (pv 5) (bD (aa (br (aa aA (aa aA (aa (aY aQ (pv 2) ao (λ_ _=>rfl)) (aa aA (aa bL (aa aA ai))))))) ai))) ai)))) ai)))) ⟨_,rfl,_,_,_,_,rfl,rfl,bq.of (hc5),aO (j:=0) rfl,_,rfl,by show 3<=sizeLine;decide,λt0 g0=>⟨_,rfl,_,_,_,_,rfl,rfl,bq.of (ak.upd g0 _ _ (hc5)),aO (j:=1) rfl,_,rfl,_,rfl,_,_,_,_,rfl,rfl,bq.of (ak.upd g0 _ _ (hc5)),aO (j:=0) rfl,by show 6<=sizeLine;decide,λf0 g1=>⟨by show 1<=sizeLine;decide,λl1 g2=>⟨b2,l1,_,_,rfl,rfl,ak.upd g2 _ _ (ak.upd g1 _ _ (ak.upd g0 _ _ (hb2))),af,by show 3<=sizeLine;decide,λdl g3=>⟨by show 3<=sizeLine;decide,λt1 g4=>⟨by show 2<=sizeLine;decide,λlm g5=>?_⟩⟩⟩⟩⟩⟩;have z:ak H5 _:=(((((ak.upd g0).to g1).to g2).to g3).to g4).to (o:=.lst [.ref t0,.ref t1]) g5;refine q 2 c lm _ O ⟨[t0,t1],af,.cL (.of (ak.upd g5 _ _ (ak.upd g4 _ _ (ak.upd g3 _ _ (ak.upd g2 _ _ (ak.upd g1 _ _ (af)))))) hb1 (.cL (ra0.same (sH4.trans sH5)) (.cL (ra1.same (sH4.trans sH5)) (.cL (ra2.same sH5) (.cL (ra3.same sH5) .nil)))) z) (.cL ⟨dl,[d0,d1,f0],ak.upd g5 _ _ (af),ak.upd g5 _ _ (ak.upd g4 _ _ (af)),.cL (rd0.same z) (.cL (rd1.same z) (.cL (ak.upd g5 _ _ (ak.upd g4 _ _ (ak.upd g3 _ _ (ak.upd g2 _ _ (af))))) .nil))⟩ .nil)⟩ (s2.trans (sH3.trans (sH4.trans (sH5.trans z))))
structure J0(H0 H:Hp)(l:Addr)(ws:List Str):Prop where
 at_:H l=some (.lst (ws.map V.str))
 new:H0 l=none
 same:ak H0 H
def J0.add(W:J0 H0 H l ws):J0 H0 (upd H l (.lst (ws.map V.str++[.str x]))) l (ws++[x]) :=
 ⟨by rw[af,P2];rfl,W.new,λb o hb=>by rw[aj (av hb W.new)];exact W.same _ _ hb⟩
def J0.to(W:J0 H0 H l ws)(s:ak H H'):J0 H0 H' l ws:=⟨s _ _ W.at_,W.new,W.same.trans s⟩
theorem An:∀(ys:List Str),(∀y∈ys,y.length<=m)->(ys.map (·.length)).sum<=ys.length*m
 | [],_=>by simp
 |x::r,h=>by have h1:=h x (by simp);have h2:=An r (λz hz=>h z (D1 _ hz));rw[Y5,ah8,x0,Nat.succ_mul];lia
def Fv (z:Str):(PySem.Txt.replace z " " "_").length=z.length:=by have:=ac1 List.length (lP z 32 95);rw[cz,kW,d6,cz] at this;rw[show ((" " : Str))=⟨#[32]⟩ from by decide +kernel,show (("_" : Str))=⟨#[95]⟩ from by decide +kernel];exact this
def t6  (h:isName x=true):x.length<=8/\x ≠ "" := by unfold isName at h;simp only[aa9,aa8] at h;refine⟨h.1.2,λz=>?_⟩;rw[z] at h;exact absurd h.1.1 (by decide)
def rep1{x:V}:(List.replicate (if b=true then (1:Int) else 0).toNat [x]).flatten=if b=true then [x] else []:=by cases b <;> rfl
def D6:-2 ^ 63<=(if b=true then (1:Int) else 0)/\(if b=true then (1:Int) else 0)<2 ^ 63/\1*(if b=true then (1:Int) else 0).toNat<=sizeLine:=by cases b <;> decide
def Mt{x:V}:(if b=true then [x] else []).length<=1:=by cases b <;> simp
def ne_iff:(!decide (V.str x=V.str y))=true↔x≠y:=by
 by_cases e:x=y
 ·subst e;simp
 ·have:V.str x≠V.str y:=λz=>e (V.str.inj z);simp[e,this]
def LB   (GR:fF names R):(([V.str R.sort]++(if (!decide (V.str R.signs=V.str (Str.ofString "")))=true then [V.str (Str.ofString "'" ++ PySem.Txt.replace R.signs (Str.ofString " ") (Str.ofString "_"))] else []))++(if (!decide (V.str R.aU=V.str (Str.ofString "")))=true then [V.str R.aU] else []))++[V.str R.bz]=(cC R.sort R.signs++((if bE R.sort=true then [R.aU] else [])++[R.bz])).map V.str:=by
 have e2:(if (!decide (V.str R.aU=V.str (Str.ofString "")))=true then [V.str R.aU] else [])=(if bE R.sort=true then [R.aU] else []).map V.str:=by
  by_cases he:bE R.sort=true
  ·rw[if_pos he,if_pos (ne_iff.mpr (t6 (GR.col he)).2)];rfl
  ·rw[if_neg he,if_neg (λz=>ne_iff.mp z (GR.US (by simpa using he)))];rfl
 have e1:([V.str R.sort]++(if (!decide (V.str R.signs=V.str (Str.ofString "")))=true then [V.str (Str.ofString "'" ++ PySem.Txt.replace R.signs (Str.ofString " ") (Str.ofString "_"))] else []))=(cC R.sort R.signs).map V.str:=by
  unfold cC;by_cases hb:bare R.sort
  ·rw[if_pos hb,if_neg (λz=>ne_iff.mp z (GR.pat.Su hb))];rfl
  ·have h1:=(GR.pat.sg hb).1;rw[if_neg hb,if_pos (ne_iff.mpr (λz=>by rw[z,show (Str.ofString "").length=0 by decide +kernel] at h1;lia))];rfl
 rw[e1,e2,P2,P2,ac6];rfl
inductive LF(vs:List V)(H:Hp)(Q:VK)(_:XK):Prop|mk(lm:Addr)(ms:List aE)(_:vs=[.ref lm])(_:TMs H lm ms)(_:Dn ms)(_:∀H',ak H H'->Q (.str (Str.join ⟨#[10]⟩ (rowsOf (itemsOf ms)))) H')
def RN (T:Txt K mg t):bw P w K mg base dM 1 t.GY t.MM ["_law_modes_here"] LF:=by
 refine T.Ie.ok ig λvs H Q E h=>?_;obtain⟨lm,ms,rfl,⟨ts,hlm,hA⟩,B,q⟩:=h;walk_at "i";obtain⟨names,hnames⟩:∃names,names=ms.map (·.name):=⟨_,rfl⟩
 have hnl:names.length=ms.length:=by rw[hnames,d6]
 have hnm:∀x∈names,isName x=true:=λx hx=>by rw[hnames] at hx;obtain⟨m,hm,rfl⟩:=aa2.mp hx;exact(B.nm m hm).1
 have hitems:=B.Ax;have h4:=B.vU;have hpos:=B.pos;refine au (cR 1 ig (bD ai)) ⟨by show 0<=sizeLine;decide,λlr hlr=>?_⟩;have W0:J0 H (upd H lr (.lst [])) lr []:=⟨af,hlr,ak.upd hlr⟩
 generalize upd H lr (.lst [])=H0 at W0;refine aI (λZ' H'=>(∃x2 x3 x4 x5 x6 x7 x8 x9 x10 x11,Z'=[some (.ref lm),some (.ref lr),x2,x3,x4,x5,x6,x7,x8,x9,x10,x11])/\J0 H H' lr ((itemsOf ms).map (rowOf names))) (gk ab3 rfl (gH (pv 0)) (rR rfl (dz (uc 2 ig) (dz (uc 3 ig) (dz (uc 4 ig) oO)))) aq) ?_ ?_
 ·refine⟨_,rfl,lm,rfl,⟨_,bq.of (W0.same _ _ hlm)⟩,jV (xs:=ts.map V.ref) (λi Z' H'=>(∃x2 x3 x4 x5 x6 x7 x8 x9 x10 x11,Z'=[some (.ref lm),some (.ref lr),x2,x3,x4,x5,x6,x7,x8,x9,x10,x11])/\J0 H H' lr ((itemsOf (ms.take i)).map (rowOf names))) ⟨⟨_,_,_,_,_,_,_,_,_,_,rfl⟩,W0⟩ ?_ ?_ ?_⟩
  ·rintro i Z' H' _ ⟨_,W⟩;exact bq.of (W.same _ _ hlm)
  ·rintro i xv Z' H1 hx ⟨⟨x2,x3,x4,x5,x6,x7,x8,x9,x10,x11,rfl⟩,W1⟩;rw[B1] at hx;obtain⟨tm,htm,rfl⟩:=Q1.mp hx;have hi:i<ms.length:=by rw[← hA.1];exact(i5.mp htm).1
   have hm:ms[i]?=some ms[i]:=i4 hi;generalize hmd:ms[i]=m at hm;obtain⟨lu,rs,t1,t2,t3⟩:=hA.2 i tm m htm hm;obtain⟨n1,n2⟩:=B.nm m (u8 hm);have r6:=B.six m (u8 hm);have l1:=(t6 n1).1;have l2:=(t6 n2).1;have hil:=B.len i (by lia);refine⟨tm,[.str m.name,.str m.aU,.ref lu],rfl,fB.of (W1.same _ _ t1),rfl,_,_,rfl,_,_,rfl,_,_,rfl,rfl,?_⟩;have e5:(Str.ofString "mode ").length=5:=by decide +kernel
   have e1:(Str.ofString " ").length=1:=by decide +kernel
   refine au (aX (dF Y8 Y6 aa0 bZ (pv 1) (aa (bh iC (bh iC (bh iC aA (pv 2)) aA) (pv 3)) ai))) ⟨_,rfl,.inl ⟨rfl,_,bq.of W1.at_⟩,_,rfl,_,_,rfl,rfl,b7 (by show (Str.ofString "mode ").length+_<=_;lia),_,_,rfl,rfl,b7 (by rw[ah9];show (Str.ofString "mode ").length+_+(Str.ofString " ").length<=_;lia),_,rfl,_,_,rfl,rfl,b7 (by rw[ah9,ah9];show (Str.ofString "mode ").length+_+(Str.ofString " ").length+_<=_;lia),lr,_,_,rfl,rfl,W1.at_,eT (by rw[d6,d6];lia),?_⟩;rw[show (Str.ofString "mode " ++ m.name++Str.ofString " " ++ m.aU:Str)=rowOf names (.mode m.name m.aU) from GO];have W2:=W1.add (x:=rowOf names (.mode m.name m.aU));generalize upd H1 lr _=H2 at W2;refine ay (gk ab3 rfl (gH (pv 4)) (rR rfl (dz (uc 5 ig) (dz (uc 6 ig) (dz (uc 7 ig) (dz (uc 8 ig) (dz (uc 9 ig) (dz (uc 10 ig) oO))))))) aq) ⟨_,rfl,lu,rfl,⟨_,bq.of (W2.same _ _ t2)⟩,jV (xs:=rs.map V.ref) (λj Z' H'=>(∃x2 x3 x4 x5 x6 x7 x8 x9 x10 x11,Z'=[some (.ref lm),some (.ref lr),x2,x3,x4,x5,x6,x7,x8,x9,x10,x11])/\J0 H H' lr ((itemsOf (ms.take i)).map (rowOf names)++[rowOf names (.mode m.name m.aU)]++(m.rules.take j).map λR=>rowOf names (.rule R))) ⟨⟨_,_,_,_,_,_,_,_,_,_,rfl⟩,by rw[List.take_zero,List.map_nil,ab2];exact W2⟩ ?_ ?_ ?_⟩
   ·rintro j Z' H' _ ⟨_,W⟩;exact bq.of (W.same _ _ t2)
   ·rintro j xv Z' H3 hx ⟨⟨y2,y3,y4,y5,y6,y7,y8,y9,y10,y11,rfl⟩,W3⟩;rw[B1] at hx;obtain⟨tr,htr,rfl⟩:=Q1.mp hx;have hj:j<m.rules.length:=by rw[← t3.1];exact(i5.mp htr).1
    have hRj:m.rules[j]?=some m.rules[j]:=i4 hj;generalize hRd:m.rules[j]=R at hRj;have u1:H tr=some (.tup (tupQ R)):=t3.2 j tr R htr hRj;have hRm:=u8 hRj;have GR:fF names R:=by rw[hnames];exact B.rule m (u8 hm) R hRm
    refine⟨tr,tupQ R,rfl,fB.of (W3.same _ _ u1),rfl,_,_,rfl,_,_,rfl,_,_,rfl,_,_,rfl,_,_,rfl,_,_,rfl,rfl,?_⟩;show At _ _ _ [some (.ref lm),some (.ref lr),y2,y3,y4,some (.str R.sort),some (.str R.signs),some (.str R.aU),some (.str R.bz),some (jX R.goal),some (.str R.fold),y11] H3;have hsg:R.signs.length<=200:=by
     by_cases hb:bare R.sort
     ·rw[GR.pat.Su hb];decide +kernel
     ·exact(GR.pat.sg hb).2.1
    refine aI (λZ' H'=>∃l,H' l=some (.lst ((cC R.sort R.signs++((if bE R.sort=true then [R.aU] else [])++[R.bz])).map V.str))/\ak H3 H'/\Z'=[some (.ref lm),some (.ref lr),y2,y3,y4,some (.str R.sort),some (.str R.signs),some (.str R.aU),some (.str R.bz),some (jX R.goal),some (.str R.fold),some (.ref l)]) (cR 11 ig (bh iD (bh iD (bh iD (bD (aa (pv 5) ai)) (bh sX (bD (aa (zc (by decide +kernel) (pv 6)) ai)) (cQ mD (by rfl) T.Cy (by decide +kernel) (aa (cB kJ (pv 6) aA (aD _)) ai)))) (bh sX (bD (aa (pv 7) ai)) (cQ mD (by rfl) T.Cy (by decide +kernel) (aa (cB kJ (pv 7) aA (aD _)) ai)))) (bD (aa (pv 8) ai)))) ?_ ?_
    ·refine⟨_,rfl,by show 1<=sizeLine;decide,λl1 g1=>?_⟩;have k1:upd H3 l1 (.lst [.str R.sort]) l1=some (.lst [.str R.sort]):=af;have s1:ak H3 (upd H3 l1 (.lst [.str R.sort])):=ak.upd g1;generalize upd H3 l1 (.lst [.str R.sort])=H4 at k1 s1;have eq1:(Str.ofString "_").length=1:=by decide +kernel
     have eq2:(Str.ofString "'").length=1:=by decide +kernel
     have eq3:=Fv R.signs;refine⟨_,rfl,_,rfl,by rw[eq1];lia,_,rfl,b7 (by rw[eq2,eq3];lia),by show 1<=sizeLine;decide,λl2 g2=>⟨_,rfl,rfl,.inr ⟨_,rfl,l2,_,_,rfl,rfl,af,D6.1,D6.2.1,D6.2.2,λl3 g3=>?_⟩⟩⟩;obtain⟨X,eX⟩:∃X,X=if (!decide (V.str R.signs=V.str (Str.ofString "")))=true then [V.str (Str.ofString "'" ++ PySem.Txt.replace R.signs (Str.ofString " ") (Str.ofString "_"))] else []:=⟨_,rfl⟩
     have hX:X.length<=1:=by rw[eX];exact Mt
     rw[rep1,← eX];refine⟨l1,l3,_,_,rfl,rfl,ak.upd g3 _ _ (ak.upd g2 _ _ k1),af,b7 (by rw[x0,Y7];lia),λl4 g4=>?_⟩;have sk:=((s1.to g2).to g3).to2 (o:=.lst ([V.str R.sort]++X)) g4;generalize upd (upd (upd H4 l2 _) l3 _) l4 (.lst ([V.str R.sort]++X))=H5 at sk ⊢;obtain⟨s4,k4⟩:=sk;refine⟨_,rfl,by show 1<=sizeLine;decide,λl5 g5=>⟨_,rfl,rfl,.inr ⟨_,rfl,l5,_,_,rfl,rfl,af,D6.1,D6.2.1,D6.2.2,λl6 g6=>?_⟩⟩⟩;obtain⟨Y,eY⟩:∃Y,Y=if (!decide (V.str R.aU=V.str (Str.ofString "")))=true then [V.str R.aU] else []:=⟨_,rfl⟩
     have hY:Y.length<=1:=by rw[eY];exact Mt
     rw[rep1,← eY];refine⟨l4,l6,_,_,rfl,rfl,ak.upd g6 _ _ (ak.upd g5 _ _ k4),af,b7 (by rw[o0,x0,Y7];lia),λl7 g7=>?_⟩;have sk:=((s4.to g5).to g6).to2 (o:=.lst (([V.str R.sort]++X)++Y)) g7;generalize upd (upd (upd H5 l5 _) l6 _) l7 (.lst (([V.str R.sort]++X)++Y))=H6 at sk ⊢;obtain⟨s7,k7⟩:=sk;refine⟨_,rfl,by show 1<=sizeLine;decide,λl8 g8=>⟨l7,l8,_,_,rfl,rfl,ak.upd g8 _ _ k7,af,b7 (by simp only[o0,x0,Y7];lia),λl9 g9=>⟨l9,by rw[af,eX,eY,LB GR],(s7.to g8).to g9,rfl⟩⟩⟩
    rintro Z' H4 ⟨l,kl,s4,rfl⟩;obtain⟨W,eW⟩:∃W,W=cC R.sort R.signs++((if bE R.sort=true then [R.aU] else [])++[R.bz]):=⟨_,rfl⟩
    have hW:W.length<=4:=by
     rw[eW,o0,o0];have:=Bw (s:=R.sort) (z:=R.signs);have:(if bE R.sort=true then [R.aU] else []).length<=1:=by split <;> simp
     rw[x0,Y7];lia
    rw[← eW] at kl;refine aI (λZ' H'=>∃l,H' l=some (.lst ((cP names R).map V.str))/\ak H3 H'/\Z'=[some (.ref lm),some (.ref lr),y2,y3,y4,some (.str R.sort),some (.str R.signs),some (.str R.aU),some (.str R.bz),some (jX R.goal),some (.str R.fold),some (.ref l)]) (cR 11 ig (bh iD (bh iD (pv 11) (bh sX (bD (aa (aY cX (aY aQ (pv 0) (P5 (pv 9) (nH ao)) (λ_ _=>rfl)) ao (λ_ _=>rfl)) ai)) (cQ mD (by rfl) T.Cy (by decide +kernel) (aa (cB iY (pv 9) bL (aD _)) ai)))) (bh sX (bD (aa (pv 10) ai)) (cQ mD (by rfl) T.Cy (by decide +kernel) (aa (cB kJ (pv 10) aA (aD _)) ai))))) ?_ ?_
    ·have hz:∃g0,g0<ms.length/\(∃k,KH K (jX R.goal) H4 k/\V.int ((g0:Nat):Int)=if k=true then jX R.goal else .int 0)/\(if (!decide (jX R.goal=V.cD))=true then [V.str (names.getD g0 "")] else [])=(qP names R.goal).map V.str:=by
      cases hg:R.goal with
      |none=>exact⟨0,hpos,⟨false,rfl,rfl⟩,rfl⟩
      |some g =>
       have hgl:g<ms.length:=by
        by_cases hgo:jD R.bz
        ·obtain⟨g',e,hg'⟩:=GR.goal hgo;rw[hg] at e;cases e;lia
        ·rw[GR.ET hgo] at hg;cases hg
       refine⟨g,hgl,⟨((g:Int) != 0),rfl,?_⟩,rfl⟩;by_cases e:g=0
       ·subst e;rfl
       ·rw[if_pos (by simpa using e)];rfl
     obtain⟨g0,hg0,hT,eG⟩:=hz;have hmg:ms[g0]?=some ms[g0]:=i4 hg0;obtain⟨tg,htg,lg,rg,v1,_,_⟩:=hA.at hmg;have hng:names.getD g0 "" = ms[g0].name:=by rw[hnames];simp[hg0]
     rw[hng] at eG;have s34:=W3.same.trans s4;refine⟨_,rfl,_,rfl,_,rfl,_,hT,_,_,_,_,rfl,rfl,bq.of (s34 _ _ hlm),gP htg,_,_,_,_,rfl,rfl,fB.of (s34 _ _ v1),aO (j:=0) rfl,by show 1<=sizeLine;decide,λl5 g5=>⟨_,rfl,rfl,.inr ⟨_,rfl,l5,_,_,rfl,rfl,af,D6.1,D6.2.1,D6.2.2,λl6 g6=>?_⟩⟩⟩;rw[rep1,eG];have hY:((qP names R.goal).map V.str).length<=1:=by rw[d6];exact vA
     refine⟨l,l6,_,_,rfl,rfl,ak.upd g6 _ _ (ak.upd g5 _ _ kl),af,b7 (by rw[d6];lia),λl7 g7=>?_⟩;have sk:=((s4.to g5).to g6).to2 (o:=.lst (W.map V.str++(qP names R.goal).map V.str)) g7;generalize upd (upd (upd H4 l5 _) l6 _) l7 (.lst (W.map V.str++(qP names R.goal).map V.str))=H6 at sk ⊢;obtain⟨s7,k7⟩:=sk;refine⟨_,rfl,by show 1<=sizeLine;decide,λl8 g8=>⟨_,rfl,rfl,.inr ⟨_,rfl,l8,_,_,rfl,rfl,af,D6.1,D6.2.1,D6.2.2,λl9 g9=>?_⟩⟩⟩;have eF:(if (!decide (V.str R.fold=V.str (Str.ofString "")))=true then [V.str R.fold] else [])=(if R.fold = "" then [] else [R.fold]).map V.str:=by
      by_cases e:R.fold = ""
      ·rw[if_pos e,if_neg (λz=>ne_iff.mp z e)];rfl
      ·rw[if_neg e,if_pos (ne_iff.mpr e)];rfl
     rw[rep1,eF];have hF:((if R.fold = "" then [] else [R.fold]).map V.str).length<=1:=by rw[d6];split <;> simp
     refine⟨l7,l9,_,_,rfl,rfl,ak.upd g9 _ _ (ak.upd g8 _ _ k7),af,b7 (by rw[o0,d6];lia),λla ga=>⟨la,?_,((s7.to g8).to g9).to ga,rfl⟩⟩;rw[af,eW,cP,← P2,← P2];simp only[ac6]
    rintro Z' H9 ⟨l,V9,s9,rfl⟩;have rl:=xy (names:=names) (R:=R);have W9:=W3.to s9;refine ay (aX (dF Y8 Y6 aa0 bZ (pv 1) (aa (dF ac4 F.slot_str_join F.type_str_join wK aA (aa (pv 11) ai)) ai))) ⟨_,rfl,.inl ⟨rfl,_,bq.of W9.at_⟩,rfl,_,rfl,_,l,_,rfl,rfl,bq.of V9,?_,?_⟩
    ·have h1:=An (m:=202) (cP names R) (λy hy=>(sq hnm GR y hy).l);rw[show (" " : Str).length=1 from by decide +kernel];have h2:(cP names R).length*202<=7*202:=Nat.mul_le_mul_right _ rl.2;exact b7 (by lia)
    ·rw[join_eq,show ((" " : Str))=⟨#[32]⟩ from by decide +kernel];refine⟨lr,_,_,rfl,rfl,W9.at_,eT (by simp only[d6,o0,x0,Y7,N0];lia),⟨_,_,_,_,_,_,_,_,_,_,rfl⟩,?_⟩;have e:(m.rules.take (j+1)).map (λR=>rowOf names (.rule R))=(m.rules.take j).map (λR=>rowOf names (.rule R))++[rowOf names (.rule R)]:=by rw[ae0 hRj,P2];rfl
     rw[e,← ac6];exact W9.add (x:=rowOf names (.rule R))
   ·rintro Z' H3 ⟨hZ,W3⟩;refine⟨hZ,?_⟩;rw[d6,t3.1,ab6] at W3;rw[ae0 hm,iM,iO,P2,gJ,Y5,aj4];rw[ac6] at W3;exact W3
  ·rintro Z' H1 ⟨hZ,W1⟩;rw[d6,hA.1,ab6] at W1;exact⟨hZ,W1⟩
 rintro Z' H1 ⟨⟨x2,x3,x4,x5,x6,x7,x8,x9,x10,x11,rfl⟩,W1⟩;have hGI:=B.items;have hrows:rowsOf (itemsOf ms)=(itemsOf ms).map (rowOf names):=by rw[rowsOf,iR,hnames]
 refine ay (aP (dF ac4 F.slot_str_join F.type_str_join wK aA (aa (pv 1) ai))) ⟨rfl,_,rfl,_,lr,_,rfl,rfl,bq.of W1.at_,?_,?_⟩
 ·have h5:=An (m:=1421) ((itemsOf ms).map (rowOf names)) (λy hy=>by obtain⟨it,hi,rfl⟩:=aa2.mp hy;obtain⟨i,e⟩:=ab0.mp hi;have:=(kU hGI e).2.1;rw[iR,← hnames] at this;exact this)
  rw[show ("\n" : Str).length=1 from by decide +kernel];rw[d6] at h5 ⊢;have h6:(itemsOf ms).length*1421<=200*1421:=Nat.mul_le_mul_right _ hitems;exact b7 (by lia)
 ·rw[join_eq,show ((("\n" : Str)))=⟨#[10]⟩ from by decide +kernel,← hrows];exact q _ W1.same
def xK{H:Hp}(hx:H x=some (.ins C dx ((k,v)::r)))(hy:H y=some (.ins C' dy ((k',v')::r')))(h:k≠k'):x≠y:=λz=>by rw[z,hy] at hx;cases hx;exact h rfl
inductive A9(t:dU)(vs:List V)(H:Hp)(Q:VK)(_:XK):Prop|mk(S:Addr->Prop)(x dx tt d ld lu dt a lg dd kQ lt lv da:Addr)(b:V)(gs:List Addr)(ms:List aE)(Gs:List bF)(ds us:List V)(i:Nat)(fs gv:List Str)(ah bk:Nat)(Gm:List bF)(c:Nat)(Gs':List bF)(_:vs=[.ref x])(_:S x)(_:S ld)(_:S lu)(_:S dd)(_:ld≠lu)(_:Ex S H)(_:H x=some (.ins t.aG dx (sf tt d ld lu)))(_:bG t (hid S H) tt dt a lg gs ms Gs)(_:H ld=some (.lst (ds++[.ref dd])))(_:H lu=some (.lst us))(_:us.length<=100000)(_:H dd=some (.ins t.cJ kQ (df i lt lv da b)))(_:H lt=some (.lst (fs.map V.str)))(_:lt≠ld)(_:lt≠lu)(_:H lv=some (.lst (gv.map V.str)))(_:lv≠ld)(_:lv≠lu)(_:cT ms)(_:Gs.length<=50000)(_:fs.length<=50000)(_:gv.length<=50000)(_:fs≠[])(_:jK ms Gs i gv.length fs ah bk Gm c Gs')(_:∀lg' gs' H',bG t (hid S H') tt dt a lg' gs' ms Gs'->H' x=some (.ins t.aG dx (sf tt da ld lu))->H' ld=some (.lst ds)->H' lu=some (.lst (us++[.ref dd]))->H' dd=some (.ins t.cJ kQ (df i lt lv da (.ref d)))->(∀b o,H b=some o->b≠x->b≠ld->b≠lu->b≠dd->b≠tt->H' b=some o)->Q (.int ((Gm.length+c:Nat):Int)) H')
def HY (T:Txt K mg t):bw P w K mg base dM 9 t.Cu t.Iz ["self"] (A9 t):=by
 refine T.yh.ok zD λvs H Q E h=>?_;obtain⟨S,x,dx,tt,d,ld,lu,dt,a,lg,dd,kQ,lt,lv,da,b,gs,ms,Gs,ds,us,i,fs,gv,ah,bk,Gm,c,Gs',rfl,hSx,hSl,hSu,hSd,nlu,hE,hx,I,hld,hlu,hul,hdd,hlt,nt1,nt2,hlv,nv1,nv2,hM,hG,hf,hgv,hne,hC,q⟩:=h;walk_at "i";have nxd:x≠dd:=xK hx hdd (by decide);have nxl:x≠ld:=λz=>by rw[z,hld] at hx;cases hx
 have nxu:x≠lu:=λz=>by rw[z,hlu] at hx;cases hx
 have ndl:dd≠ld:=λz=>by rw[z,hld] at hdd;cases hdd
 have ndu:dd≠lu:=λz=>by rw[z,hlu] at hdd;cases hdd
 have nS:¬ S tt:=bR I.ob;refine aI (λZ' H'=>Z'=[some (.ref x),none]/\H'=H) (aW (gQ (fY (aJ (pv 0) rfl) (λ_=>rfl))) aq aq) (⟨_,rfl,_,_,_,_,_,rfl,hx,T.aK,T.fc,rfl,⟨_,.inl ⟨_,bq.of hld,rfl⟩,?_⟩⟩) ?_
 ·rw[show (ds++[V.ref dd]).isEmpty=false by simp];exact ji (bu ⟨rfl,rfl⟩)
 rintro Z' H' ⟨rfl,e⟩;rw[e];clear e H';refine au (cR 1 zD (zw Y8 F.slot_list_pop F.type_list_pop zO (aJ (pv 0) rfl))) (⟨_,rfl,_,_,_,_,_,rfl,hx,T.aK,T.fc,rfl,⟨.inl ⟨rfl,_,bq.of hld⟩,ld,_,.ref dd,rfl,rfl,hld,by simp,?_⟩⟩);rw[af7];have k1:fZ H (upd H ld (.lst ds)) ld:=fZ.upd;have l1:upd H ld (.lst ds) ld=some (.lst ds):=af;have I1:=I.same (iA (n:=ld) (o:=.lst ds) hSl);generalize upd H ld (.lst ds)=H1 at *;have x1:=k1 _ _ hx nxl;have u1:=k1 _ _ hlu (aa3 nlu);have d1:=k1 _ _ hdd ndl;refine au (aX (dF Y8 Y6 aa0 bZ (aJ (pv 0) rfl) (aa (pv 1) ai))) (⟨_,rfl,_,_,_,_,_,rfl,x1,T.aK,T.dN,rfl,⟨.inl ⟨rfl,_,bq.of u1⟩,_,rfl,lu,_,_,rfl,rfl,u1,eT (by lia),?_⟩⟩);have k2:fZ H1 (upd H1 lu (.lst (us++[.ref dd]))) lu:=fZ.upd;have u2:upd H1 lu (.lst (us++[.ref dd])) lu=some (.lst (us++[.ref dd])):=af;have I2:=I1.same (iA (n:=lu) (o:=.lst (us++[.ref dd])) hSu);generalize upd H1 lu (.lst (us++[.ref dd]))=H2 at *;have x2:=k2 _ _ x1 nxu;have l2:=k2 _ _ l1 nlu;have d2:=k2 _ _ d1 ndu;refine au (bT (pv 1) (aJ (pv 0) rfl) rfl) (⟨_,rfl,_,_,_,_,_,rfl,x2,T.aK,T.bI,rfl,⟨_,rfl,dd,_,kQ,_,rfl,d2,T.fq,T.fM,by show 5<1000;decide,?_⟩⟩);have k3:fZ H2 (upd H2 dd (.ins t.cJ kQ (df i lt lv da (.ref d)))) dd:=fZ.upd;have d3:upd H2 dd (.ins t.cJ kQ (df i lt lv da (.ref d))) dd=some (.ins t.cJ kQ (df i lt lv da (.ref d))):=af;have I3:=I2.same (iA (n:=dd) (o:=.ins t.cJ kQ (df i lt lv da (.ref d))) hSd);show At _ _ _ _ (upd H2 dd (.ins t.cJ kQ (df i lt lv da (.ref d))));generalize upd H2 dd (.ins t.cJ kQ (df i lt lv da (.ref d)))=H3 at *;have x3:=k3 _ _ x2 nxd;refine au (bT (pv 0) (aJ (pv 1) rfl) rfl) (⟨_,rfl,_,_,_,_,_,rfl,d3,T.fq,T.iV,rfl,⟨_,rfl,x,_,dx,_,rfl,x3,T.aK,T.bI,by show 4<1000;decide,?_⟩⟩);have k4:fZ H3 (upd H3 x (.ins t.aG dx (sf tt da ld lu))) x:=fZ.upd;have x4:upd H3 x (.ins t.aG dx (sf tt da ld lu)) x=some (.ins t.aG dx (sf tt da ld lu)):=af;have I4:=I3.same (iA (n:=x) (o:=.ins t.aG dx (sf tt da ld lu)) hSx);show At _ _ _ _ (upd H3 x (.ins t.aG dx (sf tt da ld lu)));generalize upd H3 x (.ins t.aG dx (sf tt da ld lu))=H4 at *;have kk:∀b o,H b=some o->b≠x->b≠ld->b≠lu->b≠dd->H4 b=some o:=λb o e n1 n2 n3 n4=>k4 _ _ (k3 _ _ (k2 _ _ (k1 _ _ e n2) n3) n4) n1;have d4:=k4 _ _ d3 (aa3 nxd);have l4:=k4 _ _ (k3 _ _ l2 (aa3 ndl)) (aa3 nxl);have u4:=k4 _ _ (k3 _ _ u2 (aa3 ndu)) (aa3 nxu);have t4:=kk _ _ hlt (λz=>by rw[z,hx] at hlt;cases hlt) nt1 nt2 (λz=>by rw[z,hdd] at hlt;cases hlt);have v4:=kk _ _ hlv (λz=>by rw[z,hx] at hlv;cases hlv) nv1 nv2 (λz=>by rw[z,hdd] at hlv;cases hlv);have hE4:Ex S H4:=λb y=>by
  by_cases z1:b=x
  ·exact⟨_,by rw[z1];exact x4⟩
  ·by_cases z2:b=ld
   ·exact⟨_,by rw[z2];exact l4⟩
   ·by_cases z3:b=lu
    ·exact⟨_,by rw[z3];exact u4⟩
    ·by_cases z4:b=dd
     ·exact⟨_,by rw[z4];exact d4⟩
     ·obtain⟨o,ho⟩:=hE b y;exact⟨o,kk _ _ ho z1 z2 z3 z4⟩
 have hob:=aC _ _ I4.ob;refine ay (aP (bB (aJ (pv 0) rfl) T.aL T.Fe (AZ T) hr.m T.Cj.b4 .nil aH (aa (aJ (pv 1) rfl) (aa (aM aS (by rfl) T.bW (by decide +kernel) (aa (aJ (pv 1) rfl) ai)) (aa (aJ (pv 1) rfl) ai))))) (⟨_,rfl,_,_,_,_,_,rfl,x4,T.aK,T.bH,rfl,⟨tt,dt,_,rfl,hob,rfl,⟨_,rfl,_,_,_,_,_,rfl,d4,T.fq,T.nU,rfl,(⟨_,rfl,_,_,_,_,_,rfl,d4,T.fq,T.kr,rfl,⟨lv,_,rfl,.inl (bq.of v4),⟨_,rfl,_,_,_,_,_,rfl,d4,T.fq,T.kG,rfl,⟨S,tt,dt,a,lg,lt,gs,ms,Gs,i,gv.length,fs,ah,bk,Gm,c,Gs',by rw[d6];rfl,hE4,I4,hM,t4,hG,hf,λ_=>hne,hC,λlg' gs' H' I' _ a'=>?_⟩⟩⟩⟩)⟩⟩⟩);have nt:∀{b},S b->b≠tt:=λy z=>nS (z ▸ y);exact q lg' gs' H' I' (a' _ _ x4 (nt hSx)) (a' _ _ l4 (nt hSl)) (a' _ _ u4 (nt hSu)) (a' _ _ d4 (nt hSd)) λb o e n1 n2 n3 n4 n5=>a' _ _ (kk b o e n1 n2 n3 n4) n5
inductive BD(t:dU)(vs:List V)(H:Hp)(Q:VK)(_:XK):Prop|mk(S:Addr->Prop)(x dx tt d ld lu dt a lg dd kQ lt lv da db:Addr)(gs:List Addr)(ms:List aE)(Gs:List bF)(ds us:List V)(i:Nat)(fs gv:List Str)(ah bk:Nat)(Gm:List bF)(c:Nat)(Gs':List bF)(_:vs=[.ref x])(_:S x)(_:S ld)(_:S lu)(_:ld≠lu)(_:Ex S H)(_:H x=some (.ins t.aG dx (sf tt d ld lu)))(_:bG t (hid S H) tt dt a lg gs ms Gs)(_:H ld=some (.lst ds))(_:H lu=some (.lst (us++[.ref dd])))(_:ds.length<=100000)(_:H dd=some (.ins t.cJ kQ (df i lt lv da (.ref db))))(_:H lt=some (.lst (fs.map V.str)))(_:lt≠ld)(_:lt≠lu)(_:H lv=some (.lst (gv.map V.str)))(_:lv≠ld)(_:lv≠lu)(_:cT ms)(_:Gs.length<=50000)(_:fs.length<=50000)(_:gv.length<=50000)(_:gv≠[])(_:jK ms Gs i fs.length gv ah bk Gm c Gs')(_:∀lg' gs' H',bG t (hid S H') tt dt a lg' gs' ms Gs'->H' x=some (.ins t.aG dx (sf tt db ld lu))->H' ld=some (.lst (ds++[.ref dd]))->H' lu=some (.lst us)->(∀b o,H b=some o->b≠x->b≠ld->b≠lu->b≠tt->H' b=some o)->Q (.int ((Gm.length+c:Nat):Int)) H')
def SH (T:Txt K mg t):bw P w K mg base dM 9 t.Cc t.Im ["self"] (BD t):=by
 refine T.Ce.ok Ac λvs H Q E h=>?_;obtain⟨S,x,dx,tt,d,ld,lu,dt,a,lg,dd,kQ,lt,lv,da,db,gs,ms,Gs,ds,us,i,fs,gv,ah,bk,Gm,c,Gs',rfl,hSx,hSl,hSu,nlu,hE,hx,I,hld,hlu,hdl,hdd,hlt,nt1,nt2,hlv,nv1,nv2,hM,hG,hf,hgv,hne,hC,q⟩:=h;walk_at "i";have nxd:x≠dd:=xK hx hdd (by decide);have nxl:x≠ld:=λz=>by rw[z,hld] at hx;cases hx
 have nxu:x≠lu:=λz=>by rw[z,hlu] at hx;cases hx
 have ndl:dd≠ld:=λz=>by rw[z,hld] at hdd;cases hdd
 have ndu:dd≠lu:=λz=>by rw[z,hlu] at hdd;cases hdd
 have nS:¬ S tt:=bR I.ob;refine aI (λZ' H'=>Z'=[some (.ref x),none]/\H'=H) (aW (gQ (fY (aJ (pv 0) rfl) (λ_=>rfl))) aq aq) (⟨_,rfl,_,_,_,_,_,rfl,hx,T.aK,T.dN,rfl,⟨_,.inl ⟨_,bq.of hlu,rfl⟩,?_⟩⟩) ?_
 ·rw[show (us++[V.ref dd]).isEmpty=false by simp];exact ji (bu ⟨rfl,rfl⟩)
 rintro Z' H' ⟨rfl,e⟩;rw[e];clear e H';refine au (cR 1 Ac (zw Y8 F.slot_list_pop F.type_list_pop zO (aJ (pv 0) rfl))) (⟨_,rfl,_,_,_,_,_,rfl,hx,T.aK,T.dN,rfl,⟨.inl ⟨rfl,_,bq.of hlu⟩,lu,_,.ref dd,rfl,rfl,hlu,by simp,?_⟩⟩);rw[af7];have k1:fZ H (upd H lu (.lst us)) lu:=fZ.upd;have u1:upd H lu (.lst us) lu=some (.lst us):=af;have I1:=I.same (iA (n:=lu) (o:=.lst us) hSu);generalize upd H lu (.lst us)=H1 at *;have x1:=k1 _ _ hx nxu;have l1:=k1 _ _ hld nlu;have d1:=k1 _ _ hdd ndu;refine au (aX (dF Y8 Y6 aa0 bZ (aJ (pv 0) rfl) (aa (pv 1) ai))) (⟨_,rfl,_,_,_,_,_,rfl,x1,T.aK,T.fc,rfl,⟨.inl ⟨rfl,_,bq.of l1⟩,_,rfl,ld,_,_,rfl,rfl,l1,eT (by lia),?_⟩⟩);have k2:fZ H1 (upd H1 ld (.lst (ds++[.ref dd]))) ld:=fZ.upd;have l2:upd H1 ld (.lst (ds++[.ref dd])) ld=some (.lst (ds++[.ref dd])):=af;have I2:=I1.same (iA (n:=ld) (o:=.lst (ds++[.ref dd])) hSl);generalize upd H1 ld (.lst (ds++[.ref dd]))=H2 at *;have x2:=k2 _ _ x1 nxl;have u2:=k2 _ _ u1 (aa3 nlu);have d2:=k2 _ _ d1 ndl;refine au (bT (pv 0) (aJ (pv 1) rfl) rfl) (⟨_,rfl,_,_,_,_,_,rfl,d2,T.fq,T.fM,rfl,⟨_,rfl,x,_,dx,_,rfl,x2,T.aK,T.bI,by show 4<1000;decide,?_⟩⟩);have k4:fZ H2 (upd H2 x (.ins t.aG dx (sf tt db ld lu))) x:=fZ.upd;have x4:upd H2 x (.ins t.aG dx (sf tt db ld lu)) x=some (.ins t.aG dx (sf tt db ld lu)):=af;have I4:=I2.same (iA (n:=x) (o:=.ins t.aG dx (sf tt db ld lu)) hSx);show At _ _ _ _ (upd H2 x (.ins t.aG dx (sf tt db ld lu)));generalize upd H2 x (.ins t.aG dx (sf tt db ld lu))=H4 at *;have kk:∀b o,H b=some o->b≠x->b≠ld->b≠lu->H4 b=some o:=λb o e n1 n2 n3=>k4 _ _ (k2 _ _ (k1 _ _ e n3) n2) n1;have d4:=k4 _ _ d2 (aa3 nxd);have l4:=k4 _ _ l2 (aa3 nxl);have u4:=k4 _ _ u2 (aa3 nxu);have t4:=kk _ _ hlt (λz=>by rw[z,hx] at hlt;cases hlt) nt1 nt2;have v4:=kk _ _ hlv (λz=>by rw[z,hx] at hlv;cases hlv) nv1 nv2;have hE4:Ex S H4:=λb y=>by
  by_cases z1:b=x
  ·exact⟨_,by rw[z1];exact x4⟩
  ·by_cases z2:b=ld
   ·exact⟨_,by rw[z2];exact l4⟩
   ·by_cases z3:b=lu
    ·exact⟨_,by rw[z3];exact u4⟩
    ·obtain⟨o,ho⟩:=hE b y;exact⟨o,kk _ _ ho z1 z2 z3⟩
 have hob:=aC _ _ I4.ob;refine ay (aP (bB (aJ (pv 0) rfl) T.aL T.Fe (AZ T) hr.m T.Cj.b4 .nil aH (aa (aJ (pv 1) rfl) (aa (aM aS (by rfl) T.bW (by decide +kernel) (aa (aJ (pv 1) rfl) ai)) (aa (aJ (pv 1) rfl) ai))))) (⟨_,rfl,_,_,_,_,_,rfl,x4,T.aK,T.bH,rfl,⟨tt,dt,_,rfl,hob,rfl,⟨_,rfl,_,_,_,_,_,rfl,d4,T.fq,T.nU,rfl,(⟨_,rfl,_,_,_,_,_,rfl,d4,T.fq,T.kG,rfl,⟨lt,_,rfl,.inl (bq.of t4),⟨_,rfl,_,_,_,_,_,rfl,d4,T.fq,T.kr,rfl,⟨S,tt,dt,a,lg,lv,gs,ms,Gs,i,fs.length,gv,ah,bk,Gm,c,Gs',by rw[d6];rfl,hE4,I4,hM,v4,hG,hgv,λ_=>hne,hC,λlg' gs' H' I' _ a'=>?_⟩⟩⟩⟩)⟩⟩⟩);have nt:∀{b},S b->b≠tt:=λy z=>nS (z ▸ y);exact q lg' gs' H' I' (a' _ _ x4 (nt hSx)) (a' _ _ l4 (nt hSl)) (a' _ _ u4 (nt hSu)) λb o e n1 n2 n3 n5=>a' _ _ (kk b o e n1 n2 n3) n5
def Np(t:dU)(E:XK)(H:Hp):Prop:=∀e H',H e=none->H' e=some (gq e t.bM none)->ak H H'->E (.ref t.bM) (some e) H'
def Np.same(h:Np t E H)(s:ak H H1):Np t E H1:=λe H' he h1 h2=>h e H' (s.free he) h1 (s.trans h2)
abbrev jN(i:Int):Prop:=i.natAbs.log2<1000
def vV(h:jN i):(Str.ofString (toString i)).length<=1001:=by rw[ofString_length];exact int_text_length_le (by decide) h
def EX(Gs:List bF)(i:Int):Prop:=0<=i/\i<Gs.length
def v8(Gs:List bF)(i:Int):Nat:=match Gs[i.toNat]? with
 |some G=>G.row.length
 |none=>0
def lY(Gs:List bF)(i j:Int):Prop:=EX Gs i/\0<=j/\j<=v8 Gs i
inductive Dk(t:dU)(vs:List V)(H:Hp)(Q:VK)(E:XK):Prop|mk(x dx a lg:Addr)(gs:List Addr)(ms:List aE)(Gs:List bF)(i:Int)(_:vs=[.ref x,.int i])(_:bG t H x dx a lg gs ms Gs)(_:jN i)(_:(EX Gs i->Q .cD H))(_:(¬ EX Gs i->Np t E H))
def nN (T:Txt K mg t):bw P w K mg base (j9 P w) 2 t.Cs t.Hl ["self","row"] (Dk t):=by
 refine T.Cr.A7 Gb (λvs H Q E h=>?_) (λcdv A outer s H vs Q E hr h=>?_)
 ·obtain⟨x,dx,a,lg,gs,ms,Gs,i,rfl,_⟩:=h;rfl
 ·obtain⟨x,dx,a,lg,gs,ms,Gs,i,rfl,I,hf,q,qe⟩:=h;have hl:=I.go.1;have sz:=ac0;have hlen:=vV hf;have hw:(Str.ofString "there is no row ").length=16:=by decide +kernel
  have l2:(Str.empty++Str.ofString "there is no row " ++ Str.ofString (toString i)).length<=sizeLine:=by rw[X7,Z8];lia
  refine ay (aW (PW.pt (iX (aB ie (pv 1) ao (aD _)) (gI (aB Ov (pv 1) (aM aS (by rfl) T.bW (by decide +kernel) (aa (aJ (pv 0) rfl) ai)) (aD _))))) aq aq) ⟨_,rfl,_,_,rfl,rfl,_,rfl,dI (λh=>?_) (λh=>?_)⟩
  ·refine ay (fS T.jb rfl T.gD (aa (mH (kj (qx (pv 1) qu))) ai)) ⟨(by rw[X7];exact X6 (aj5 hw) (by lia)),_,rfl,_,.inr ⟨i,rfl,(by lia),rfl⟩,l2,l2,by show 1<=sizeLine;decide,λe he=>qe (λz=>by have:=z.1;lia) e _ he af (ak.upd he)⟩
  ·refine⟨_,rfl,⟨_,rfl,_,_,_,_,_,rfl,I.ob,T.aL,T.aV,rfl,⟨_,_,rfl,.inl (bq.of I.lg),_,_,rfl,rfl,_,rfl,dI (λh2=>?_) (λh2=>?_)⟩⟩⟩
   ·refine ay (fS T.jb rfl T.gD (aa (mH (kj (qx (pv 1) qu))) ai)) ⟨(by rw[X7];exact X6 (aj5 hw) (by lia)),_,rfl,_,.inr ⟨i,rfl,(by lia),rfl⟩,l2,l2,by show 1<=sizeLine;decide,λe he=>qe (λz=>by have:=z.2;rw[d6] at h2;lia) e _ he af (ak.upd he)⟩
   ·rw[d6] at h2;exact bu (q ⟨by lia,by lia⟩)
inductive yK(t:dU)(vs:List V)(H:Hp)(Q:VK)(E:XK):Prop|mk(x dx a lg:Addr)(gs:List Addr)(ms:List aE)(Gs:List bF)(i j:Int)(_:vs=[.ref x,.int i,.int j])(_:bG t H x dx a lg gs ms Gs)(_:(∀G∈Gs,G.row.length<=1000))(_:jN i)(_:jN j)(_:(lY Gs i j->Q .cD H))(_:(¬ lY Gs i j->Np t E H))
def dS (T:Txt K mg t):bw P w K mg base (j9 P w) 3 t.BJ t.Jm ["self","row","at"] (yK t):=by
 refine T.qN.A7 Fq (λvs H Q E h=>?_) (λcdv A outer s H vs Q E hr h=>?_)
 ·obtain⟨x,dx,a,lg,gs,ms,Gs,i,j,rfl,_⟩:=h;rfl
 ·obtain⟨x,dx,a,lg,gs,ms,Gs,i,j,rfl,I,hs,hfi,hfj,q,qe⟩:=h;have sz:=ac0;refine au (aX (bB (pv 0) T.aL T.O2 (nN T) hr.m T.Cr.b2 .nil nh (aa (pv 1) ai))) ⟨_,rfl,x,dx,_,rfl,I.ob,rfl,_,rfl,x,dx,a,lg,gs,ms,Gs,i,rfl,I,hfi,λhin=>?_,λhn=>qe (λz=>hn z.1)⟩;obtain⟨k,rfl⟩:∃k:Nat,i=k:=⟨i.toNat,by have:=hin.1;lia⟩
  have hk:k<Gs.length:=by have:=hin.2;lia
  obtain⟨G,hG⟩:∃G,Gs[k]?=some G:=⟨Gs[k],i4 hk⟩
  obtain⟨g,hg,dg,lb,lt,lo,lk,e⟩:=I.go.at hG;have hrl:v8 Gs (k:Int)=G.row.length:=by unfold v8;rw[aa5,hG]
  have hgl:=hs G (u8 hG);have li:=vV hfi;have lj:=vV hfj;have w1:(Str.ofString "there is no place ").length=18:=by decide +kernel
  have w2:(Str.ofString " in row ").length=8:=by decide +kernel
  refine ay (aW (PW.pt (iX (aB ie (pv 2) ao (aD _)) (gI (aB j7 (pv 2) (aM bJ (by rfl) T.bW (by decide +kernel) (aa (aJ (aY aQ (aJ (pv 0) rfl) (pv 1) (λ_ _=>rfl)) rfl) ai)) (aD _))))) aq aq) ⟨_,rfl,_,_,rfl,rfl,_,rfl,dI (λh=>?_) (λh=>?_)⟩
  ·exact ay (fS T.jb rfl T.gD (aa (mH (kj (qx (pv 2) (kj (qx (pv 1) qu))))) ai)) ⟨(by simp only[X7,Z8];lia),_,rfl,_,.inr ⟨j,rfl,(by lia),rfl⟩,(by simp only[X7,Z8];lia),(by simp only[X7,Z8];lia),_,rfl,_,.inr ⟨(k:Int),rfl,(by lia),rfl⟩,(by simp only[X7,Z8];lia),(by simp only[X7,Z8];lia),by show 1<=sizeLine;decide,λe he=>qe (λz=>by have:=z.2.1;lia) e _ he af (ak.upd he)⟩
  ·refine⟨_,rfl,⟨_,rfl,_,_,_,_,_,rfl,I.ob,T.aL,T.aV,rfl,⟨_,rfl,_,_,_,_,rfl,rfl,bq.of I.lg,gP hg,g,t.cj,dg,_,_,rfl,e.ob,T.cK,T.dJ,rfl,_,rfl,b7 (by lia),_,_,rfl,rfl,_,rfl,dI (λh2=>?_) (λh2=>bu (q ⟨hin,by lia,by rw[hrl];lia⟩))⟩⟩⟩;exact ay (fS T.jb rfl T.gD (aa (mH (kj (qx (pv 2) (kj (qx (pv 1) qu))))) ai)) ⟨(by simp only[X7,Z8];lia),_,rfl,_,.inr ⟨j,rfl,(by lia),rfl⟩,(by simp only[X7,Z8];lia),(by simp only[X7,Z8];lia),_,rfl,_,.inr ⟨(k:Int),rfl,(by lia),rfl⟩,(by simp only[X7,Z8];lia),(by simp only[X7,Z8];lia),by show 1<=sizeLine;decide,λe he=>qe (λz=>by have:=z.2.2;rw[hrl] at this;lia) e _ he af (ak.upd he)⟩
inductive sY(t:dU)(vs:List V)(H:Hp)(Q:VK)(E:XK):Prop|mk(x dx a lg:Addr)(gs:List Addr)(ms:List aE)(Gs:List bF)(i j i2 j2:Int)(_:vs=[.ref x,.int i,.int j,.int i2,.int j2])(_:bG t H x dx a lg gs ms Gs)(_:(∀G∈Gs,G.row.length<=1000))(_:jN i)(_:jN j)(_:jN i2)(_:jN j2)(_:(lY Gs i j->lY Gs i2 j2->HT.dY [i,j] [i2,j2]=true))(_:Np t E H)
def kN (T:Txt K mg t):bw P w K mg base (j9 P w) 4 t.Hg t.Pa ["self","row","at","row2","at2"] (sY t):=by
 refine T.Mr.A7 PD (λvs H Q E h=>?_) (λcdv A outer s H vs Q E hr h=>?_)
 ·obtain⟨x,dx,a,lg,gs,ms,Gs,i,j,i2,j2,rfl,_⟩:=h;rfl
 ·obtain⟨x,dx,a,lg,gs,ms,Gs,i,j,i2,j2,rfl,I,hs,h1,h2,h3,h4,hgt,qe⟩:=h;refine au (aX (bB (pv 0) T.aL T.vd (dS T) hr.m T.qN.b3 .nil nh (aa (pv 1) (aa (pv 2) ai)))) ⟨_,rfl,x,dx,_,rfl,I.ob,rfl,_,rfl,_,rfl,x,dx,a,lg,gs,ms,Gs,i,j,rfl,I,hs,h1,h2,λp1=>?_,λ_=>qe⟩;refine au (aX (bB (pv 0) T.aL T.vd (dS T) hr.m T.qN.b3 .nil nh (aa (pv 3) (aa (pv 4) ai)))) ⟨_,rfl,x,dx,_,rfl,I.ob,rfl,_,rfl,_,rfl,x,dx,a,lg,gs,ms,Gs,i2,j2,rfl,I,hs,h3,h4,λp2=>?_,λ_=>qe⟩;refine ay (aW (aB (Lj (ae9 (jE hr))) (br (aa (pv 1) (aa (pv 2) ai))) (br (aa (pv 3) (aa (pv 4) ai))) (aD _)) aq aq) ⟨_,rfl,_,rfl,by show 2<=sizeLine;decide,λt1 e1=>⟨_,rfl,_,rfl,by show 2<=sizeLine;decide,λt2 e2=>⟨t1,t2,[i,j],[i2,j2],rfl,rfl,fB.of (ak.upd e2 _ _ af),fB.of af,_,rfl,?_⟩⟩⟩;rw[hgt p1 p2];refine kX (ay (fS T.jb rfl T.gD (aa aA ai)) ⟨by show 1<=sizeLine;decide,λe he=>?_⟩);have s2:=(ak.upd (o:=.tup [.int i,.int j]) e1).trans (ak.upd (o:=.tup [.int i2,.int j2]) e2);exact(qe.same s2) e _ he af (ak.upd he)
def sU (T:Txt K mg t):bw P w K mg base (j9 P w) 5 t.JG t.Mx ["self","row","at","row2","at2"] (sY t):=by
 refine T.NZ.A7 Qx (λvs H Q E h=>?_) (λcdv A outer s H vs Q E hr h=>?_)
 ·obtain⟨x,dx,a,lg,gs,ms,Gs,i,j,i2,j2,rfl,_⟩:=h;rfl
 ·obtain⟨x,dx,a,lg,gs,ms,Gs,i,j,i2,j2,rfl,I,hs,h1,h2,h3,h4,hgt,qe⟩:=h;exact au (aX (bB (pv 0) T.aL T.V2 (kN T) hr.m T.Mr.b5 .nil nh (aa (pv 1) (aa (pv 2) (aa (pv 3) (aa (pv 4) ai)))))) ⟨_,rfl,x,dx,_,rfl,I.ob,rfl,_,rfl,_,rfl,_,rfl,_,rfl,x,dx,a,lg,gs,ms,Gs,i,j,i2,j2,rfl,I,hs,h1,h2,h3,h4,hgt,qe⟩
inductive La(t:dU)(vs:List V)(H:Hp)(Q:VK)(E:XK):Prop|mk(x dx a lg:Addr)(gs:List Addr)(ms:List aE)(Gs:List bF)(i j:Int)(z:Str)(_:vs=[.ref x,.int i,.int j,.str z])(_:bG t H x dx a lg gs ms Gs)(_:(∀G∈Gs,G.row.length<=1000))(_:jN i)(_:jN j)(_:¬ lY Gs i j)(_:Np t E H)
def sO (T:Txt K mg t):bw P w K mg base (j9 P w) 4 t.Bl t.HU ["self","row","at","text"] (La t):=by
 refine T.Bh.A7 Ai (λvs H Q E h=>?_) (λcdv A outer s H vs Q E hr h=>?_)
 ·obtain⟨x,dx,a,lg,gs,ms,Gs,i,j,z,rfl,_⟩:=h;rfl
 ·obtain⟨x,dx,a,lg,gs,ms,Gs,i,j,z,rfl,I,hs,h1,h2,hn,qe⟩:=h;exact au (aX (bB (pv 0) T.aL T.vd (dS T) hr.m T.qN.b3 .nil nh (aa (pv 1) (aa (pv 2) ai)))) ⟨_,rfl,x,dx,_,rfl,I.ob,rfl,_,rfl,_,rfl,x,dx,a,lg,gs,ms,Gs,i,j,rfl,I,hs,h1,h2,λp1=>absurd p1 hn,λ_=>qe⟩
def Rz(C:Addr)(E:XK)(H:Hp):Prop:=∀e H',H e=none->H' e=some (gq e C none)->ak H H'->E (.ref C) (some e) H'
def Rz.same(h:Rz C E H)(s:ak H H1):Rz C E H1:=λe H' he h1 h2=>h e H' (s.free he) h1 (s.trans h2)
inductive Ir(t:dU)(vs:List V)(H:Hp)(Q:VK)(E:XK):Prop|mk(x dx tt d ld lu dt a lg:Addr)(gs:List Addr)(ms:List aE)(Gs:List bF)(i j:Int)(z:Str)(_:vs=[.ref x,.int i,.int j,.str z])(_:H x=some (.ins t.aG dx (sf tt d ld lu)))(_:bG t H tt dt a lg gs ms Gs)(_:Gs.length<=100000)(_:(∀G∈Gs,G.row.length<=1000))(_:jN i)(_:jN j)(_:¬ lY Gs i j)(_:Rz t.bM E H)
def tM (T:Txt K mg t):bw P w K mg base (j9 P w) 10 t.B8 t.GB ["self","row","at","text"] (Ir t):=by
 refine T.Bt.A7 qB (λvs H Q E h=>?_) (λcdv A outer s H vs Q E hr h=>?_)
 ·obtain⟨x,dx,tt,d,ld,lu,dt,a,lg,gs,ms,Gs,i,j,z,rfl,_⟩:=h;rfl
 ·obtain⟨x,dx,tt,d,ld,lu,dt,a,lg,gs,ms,Gs,i,j,z,rfl,hx,I,hl,hs,h1,h2,hn,qe⟩:=h;refine au (cR 4 qB (bx (aJ (pv 0) rfl) T.aL T.nj (jL T) hr.m T.lQ.b1 .nil aH)) (⟨_,rfl,_,_,_,_,_,rfl,hx,T.aK,T.bH,rfl,⟨tt,dt,_,rfl,I.ob,rfl,tt,dt,a,lg,gs,ms,Gs,rfl,I,hl,λla H1 e1 f1 s1=>?_⟩⟩);have I1:=I.same s1;exact au (cR 5 qB (bB (aJ (pv 0) rfl) T.aL T.OI (sO T) hr.m T.Bh.b4 .nil nh (aa (pv 1) (aa (pv 2) (aa (pv 3) ai))))) (⟨_,rfl,_,_,_,_,_,rfl,(s1 _ _ hx),T.aK,T.bH,rfl,⟨tt,dt,_,rfl,I1.ob,rfl,_,rfl,_,rfl,_,rfl,tt,dt,a,lg,gs,ms,Gs,i,j,z,rfl,I1,hs,h1,h2,hn,qe.same s1⟩⟩)
inductive EC(t:dU)(vs:List V)(H:Hp)(Q:VK)(E:XK):Prop|mk(x dx tt d ld lu dt a lg:Addr)(gs:List Addr)(ms:List aE)(Gs:List bF)(i j i2 j2:Int)(_:vs=[.ref x,.int i,.int j,.int i2,.int j2])(_:H x=some (.ins t.aG dx (sf tt d ld lu)))(_:bG t H tt dt a lg gs ms Gs)(_:Gs.length<=100000)(_:(∀G∈Gs,G.row.length<=1000))(_:jN i)(_:jN j)(_:jN i2)(_:jN j2)(_:(lY Gs i j->lY Gs i2 j2->HT.dY [i,j] [i2,j2]=true))(_:Rz t.bM E H)
def rS (T:Txt K mg t):bw P w K mg base (j9 P w) 10 t.EI t.Nz ["self","row","at","row2","at2"] (EC t):=by
 refine T.ML.A7 zT (λvs H Q E h=>?_) (λcdv A outer s H vs Q E hr h=>?_)
 ·obtain⟨x,dx,tt,d,ld,lu,dt,a,lg,gs,ms,Gs,i,j,i2,j2,rfl,_⟩:=h;rfl
 ·obtain⟨x,dx,tt,d,ld,lu,dt,a,lg,gs,ms,Gs,i,j,i2,j2,rfl,hx,I,hl,hs,h1,h2,h3,h4,hn,qe⟩:=h;refine au (cR 5 zT (bx (aJ (pv 0) rfl) T.aL T.nj (jL T) hr.m T.lQ.b1 .nil aH)) (⟨_,rfl,_,_,_,_,_,rfl,hx,T.aK,T.bH,rfl,⟨tt,dt,_,rfl,I.ob,rfl,tt,dt,a,lg,gs,ms,Gs,rfl,I,hl,λla H1 e1 f1 s1=>?_⟩⟩);have I1:=I.same s1;exact au (cR 6 zT (bB (aJ (pv 0) rfl) T.aL T.Vp (sU T) hr.m T.NZ.b5 .nil nh (aa (pv 1) (aa (pv 2) (aa (pv 3) (aa (pv 4) ai)))))) (⟨_,rfl,_,_,_,_,_,rfl,(s1 _ _ hx),T.aK,T.bH,rfl,⟨tt,dt,_,rfl,I1.ob,rfl,_,rfl,_,rfl,_,rfl,_,rfl,tt,dt,a,lg,gs,ms,Gs,i,j,i2,j2,rfl,I1,hs,h1,h2,h3,h4,hn,qe.same s1⟩⟩)
inductive Hq(t:dU)(vs:List V)(H:Hp)(Q:VK)(E:XK):Prop|mk(x dx tt d ld lu dt a lg:Addr)(gs:List Addr)(ms:List aE)(Gs:List bF)(n:Str)(i j:Int)(_:vs=[.ref x,.str n,.int i,.int j])(_:H x=some (.ins t.aG dx (sf tt d ld lu)))(_:n.length<=1000)(_:((isName n=false/\(reprText n).length<=1000/\Rz t.b8 E H)∨(isName n=true/\bG t H tt dt a lg gs ms Gs/\(∀G∈Gs,G.row.length<=1000)/\jN i/\jN j /\ ¬ lY Gs i j/\Rz t.bM E H)))
def m6 (T:Txt K mg t):bw P w K mg base (j9 P w) 4 t.CC t.Jl ["self","name","row","at"] (Hq t):=by
 refine T.Bj.A7 zu (λvs H Q E h=>?_) (λcdv A outer s H vs Q E hr h=>?_)
 ·obtain⟨x,dx,tt,d,ld,lu,dt,a,lg,gs,ms,Gs,n,i,j,rfl,_⟩:=h;rfl
 ·obtain⟨x,dx,tt,d,ld,lu,dt,a,lg,gs,ms,Gs,n,i,j,rfl,hx,hnl,hc⟩:=h;have sz:=ac0;refine au (aW (gQ (eN (aN (Aj T) hr.m rfl T.zV T.sR.kp T.sR.b1 .nil aH (aa (pv 1) ai)))) aq aq) ⟨_,rfl,n,rfl,by lia,λH1 s1=>?_⟩;rcases hc with ⟨hn,hrl,qe⟩|⟨hn,I,hs,h1,h2,hnp,qe⟩
  ·rw[hn];refine⟨_,rfl,kX ?_⟩;have w1:(Str.ofString " is no name").length=11:=by decide +kernel
   exact ay (fS T.uP rfl T.nG (aa (mH (Cd (pv 1) (kj qu))) ai)) ⟨_,rfl,n,rfl,b7 (by lia),(by simp only[X7];lia),(by simp only[X7,Z8];lia),(by simp only[X7,Z8];lia),by show 1<=sizeLine;decide,λe he=>(qe.same s1) e _ he af (ak.upd he)⟩
  ·rw[hn];refine⟨_,rfl,ji (bu ?_)⟩;have I1:=I.same s1;exact au (aX (bB (aJ (pv 0) rfl) T.aL T.vd (dS T) hr.m T.qN.b3 .nil nh (aa (pv 2) (aa (pv 3) ai)))) (⟨_,rfl,_,_,_,_,_,rfl,(s1 _ _ hx),T.aK,T.bH,rfl,⟨tt,dt,_,rfl,I1.ob,rfl,_,rfl,_,rfl,tt,dt,a,lg,gs,ms,Gs,i,j,rfl,I1,hs,h1,h2,λy=>absurd y hnp,λ_=>qe.same s1⟩⟩)
inductive CM(t:dU)(vs:List V)(H:Hp)(Q:VK)(E:XK):Prop|mk(x dx tt d ld lu:Addr)(sp:List (Str×Nat×Nat))(n:Str)(_:vs=[.ref x,.str n])(_:H x=some (.ins t.aG dx (sf tt d ld lu)))(_:DP H d sp)(_:n∉cS sp)(_:(reprText n).length<=1000)(_:Rz t.b8 E H)
def lW (T:Txt K mg t):bw P w K mg base (j9 P w) 1 t.EH t.NT ["self","name"] (CM t):=by
 refine T.OR.A7 Rw (λvs H Q E h=>?_) (λcdv A outer s H vs Q E hr h=>?_)
 ·obtain⟨x,dx,tt,d,ld,lu,sp,n,rfl,_⟩:=h;rfl
 ·obtain⟨x,dx,tt,d,ld,lu,sp,n,rfl,hx,⟨ps,hd⟩,hn,hrl,qe⟩:=h;have sz:=ac0;refine au (aW (GH (uF (jE hr) (pv 1) (aJ (pv 0) rfl))) aq aq) ⟨_,rfl,_,rfl,x,t.aG,dx,_,_,rfl,hx,T.aK,T.bI,rfl,d,_,rfl,pJ.k (k:=Sum.inr n) hd.ob,_,rfl,?_⟩;rw[wI hn];have w1:(Str.ofString "no mark ").length=8:=by decide +kernel
  have w2:(Str.ofString " is set").length=7:=by decide +kernel
  exact kX (ay (fS T.uP rfl T.nG (aa (mH (kj (Cd (pv 1) (kj qu)))) ai)) ⟨(by simp only[X7];lia),_,rfl,n,rfl,b7 (by lia),(by simp only[X7,Z8];lia),(by simp only[X7,Z8];lia),(by simp only[X7,Z8];lia),by show 1<=sizeLine;decide,λe he=>qe e _ he af (ak.upd he)⟩)
inductive yz(t:dU)(und:Bool)(vs:List V)(H:Hp)(Q:VK)(E:XK):Prop|mk(x dx tt d ld lu:Addr)(_:vs=[.ref x])(_:H x=some (.ins t.aG dx (sf tt d ld lu)))(_:H (if und=true then ld else lu)=some (.lst []))(_:Rz t.bV E H)
def rq (T:Txt K mg t):bw P w K mg base (j9 P w) 9 t.Cu t.Iz ["self"] (yz t true):=by
 refine T.yh.A7 zD (λvs H Q E h=>?_) (λcdv A outer s H vs Q E hr h=>?_)
 ·obtain⟨x,dx,tt,d,ld,lu,rfl,_⟩:=h;rfl
 ·obtain⟨x,dx,tt,d,ld,lu,rfl,hx,hl,qe⟩:=h;refine au (aW (gQ (fY (aJ (pv 0) rfl) (λ_=>rfl))) aq aq) (⟨_,rfl,_,_,_,_,_,rfl,hx,T.aK,T.fc,rfl,⟨_,.inl ⟨_,bq.of hl,rfl⟩,kX ?_⟩⟩);exact ay (fS T.rW rfl T.lq (aa aA ai)) ⟨by show 1<=sizeLine;decide,λe he=>qe e _ he af (ak.upd he)⟩
def qZ (T:Txt K mg t):bw P w K mg base (j9 P w) 9 t.Cc t.Im ["self"] (yz t false):=by
 refine T.Ce.A7 Ac (λvs H Q E h=>?_) (λcdv A outer s H vs Q E hr h=>?_)
 ·obtain⟨x,dx,tt,d,ld,lu,rfl,_⟩:=h;rfl
 ·obtain⟨x,dx,tt,d,ld,lu,rfl,hx,hl,qe⟩:=h;refine au (aW (gQ (fY (aJ (pv 0) rfl) (λ_=>rfl))) aq aq) (⟨_,rfl,_,_,_,_,_,rfl,hx,T.aK,T.dN,rfl,⟨_,.inl ⟨_,bq.of hl,rfl⟩,kX ?_⟩⟩);exact ay (fS T.rW rfl T.lq (aa aA ai)) ⟨by show 1<=sizeLine;decide,λe he=>qe e _ he af (ak.upd he)⟩
structure XR(K:PySem.W.Frag)(t:dU)(C:Addr)(b1 b2 b3 b4:Bool):Prop where
 x:t7 K C
 v:PySem.W.kitOne K (.ref C) (.type "ValueError")=some true
 p:PySem.W.kitOne K (.ref C) (.ref t.bM)=some b1
 m:PySem.W.kitOne K (.ref C) (.ref t.b8)=some b2
 n:PySem.W.kitOne K (.ref C) (.ref t.bV)=some b3
 r:PySem.W.kitOne K (.ref C) (.ref t.bK)=some b4
 l:PySem.W.kitOne K (.ref C) (.ref t.jf)=some false
 u:PySem.W.kitOne K (.ref C) (.ref t.iF)=some false
def EK(T:Txt K mg t):XR K t t.bM true false false false:=⟨T.uZ,T.kO,T.nJ,T.pe,T.oj,T.qC,T.oE,T.nA⟩
def Ly(T:Txt K mg t):XR K t t.b8 false true false false:=⟨T.xr,T.ly,T.o5,T.pB,T.o6,T.rD,T.pX,T.ou⟩
def AX(T:Txt K mg t):XR K t t.bV false false true false:=⟨T.ve,T.kP,T.oh,T.oA,T.n6,T.pF,T.o9,T.om⟩
def Ek(T:Txt K mg t):XR K t t.bK false false false true:=⟨T.gZ,T.mY,T.pW,T.rj,T.qj,T.ua,T.rB,T.qy⟩
def Al(b:Bool)(x:Str):List Str:=if b=true then [x] else []
def Wn (b1 b2 b3 b4:Bool):List Str:=Al b1 "place" ++ Al b2 "mark" ++ Al b3 "nothing" ++ Al b4 "rings"
structure Wd(H0 H:Hp)(l:Addr)(ws:List Str):Prop where
 at_:H l=some (.lst (ws.map V.str))
 new:H0 l=none
 same:ak H0 H
def Wd.add(W:Wd H0 H l ws):Wd H0 (upd H l (.lst (ws.map V.str++[.str x]))) l (ws++[x]) :=
 ⟨by rw[af,P2];rfl,W.new,λb o hb=>by rw[aj (av hb W.new)];exact W.same _ _ hb⟩
inductive CT(K:PySem.W.Frag)(t:dU)(vs:List V)(H:Hp)(Q:VK)(_:XK):Prop|mk(e C:Addr)(d:Option Addr)(b1 b2 b3 b4:Bool)(wd:Str)(_:vs=[.ref e])(_:H e=some (gq e C d))(_:(∀dx,d=some dx->∃fs,H dx=some (.xd fs)))(_:XR K t C b1 b2 b3 b4)(_:Wn b1 b2 b3 b4=[wd])(_:∀H',ak H H'->Q (.str wd) H')
def wM(b:Bool)(x:Str):(Al b x).length<=1:=by cases b <;> simp[Al]
def Ed (T:Txt K mg t):bw P w K mg base dM 1 t.Fp t.Nj ["_law_caught"] (CT K t):=by
 refine T.xu.ok Gp λvs H Q E h=>?_;obtain⟨e,C,d,b1,b2,b3,b4,wd,rfl,he,hd,X,hw,q⟩:=h;walk_at "i";refine aI (λZ' H'=>Z'=[some (.ref e),none]/\H'=H) (aW (PW.pt (iX (aB qA (pv 0) bL (aD _)) (gI (gQ (eN (aM Ao (by rfl) T.dR (by decide +kernel) (aa (pv 0) (aa (wc (v:=V.ty "ValueError") (u:=Value.type "ValueError") rfl T.wY (by decide +kernel) rfl) ai)))))))) aq aq) ⟨_,rfl,rfl,_,rfl,dI (λz=>by cases z) λ_=>⟨_,rfl,e,C,d,"ValueError",true,rfl,he,hd,X.x,X.v,true,rfl,ji (bu ⟨rfl,rfl⟩)⟩⟩ ?_;rintro Z' H' ⟨rfl,z⟩;rw[z];clear z H';refine au (cR 1 Gp (bD ai)) ⟨by show 0<=sizeLine;decide,λl hl=>?_⟩;have W0:Wd H (upd H l (.lst [])) l []:=⟨af,hl,ak.upd hl⟩
 generalize upd H l (.lst [])=H0 at W0;have hd1:∀{ws H'},Wd H H' l ws->∀dx,d=some dx->∃fs,H' dx=some (.xd fs):=λW dx z=>let ⟨fs,y⟩:=hd dx z;⟨fs,W.same _ _ y⟩;refine aI (λZ' H'=>Z'=[some (.ref e),some (.ref l)]/\Wd H H' l (Al b1 "place")) (aW (eN (aM mK (by rfl) T.dR (by decide +kernel) (aa (pv 0) (aa (gj rfl T.gD (v:=V.ref _) rfl) ai)))) aq aq) ⟨_,rfl,e,C,d,t.bM,b1,rfl,W0.same _ _ he,hd1 W0,X.x,X.p,b1,rfl,?_⟩ ?_
 ·cases b1
  ·exact ji (bu ⟨rfl,W0⟩)
  ·exact kX (ay (aX (dF Y8 Y6 aa0 bZ (pv 1) (aa aA ai))) ⟨_,rfl,.inl ⟨rfl,_,bq.of W0.at_⟩,l,_,_,rfl,rfl,W0.at_,by show 0<sizeLine;decide,rfl,W0.add⟩)
 rintro Z' H1 ⟨rfl,W1⟩;have l1:=wM b1 "place";refine aI (λZ' H'=>Z'=[some (.ref e),some (.ref l)]/\Wd H H' l (Al b1 "place" ++ Al b2 "mark")) (aW (eN (aM mK (by rfl) T.dR (by decide +kernel) (aa (pv 0) (aa (gj rfl T.nG (v:=V.ref _) rfl) ai)))) aq aq) ⟨_,rfl,e,C,d,t.b8,b2,rfl,W1.same _ _ he,hd1 W1,X.x,X.m,b2,rfl,?_⟩ ?_
 ·cases b2
  ·exact ji (bu ⟨rfl,by rw[show Al false "mark" = [] from rfl,ab2];exact W1⟩)
  ·exact kX (ay (aX (dF Y8 Y6 aa0 bZ (pv 1) (aa aA ai))) ⟨_,rfl,.inl ⟨rfl,_,bq.of W1.at_⟩,l,_,_,rfl,rfl,W1.at_,eT (by rw[d6];lia),rfl,W1.add⟩)
 rintro Z' H2 ⟨rfl,W2⟩;have l2:=wM b2 "mark";refine aI (λZ' H'=>Z'=[some (.ref e),some (.ref l)]/\Wd H H' l (Al b1 "place" ++ Al b2 "mark" ++ Al b3 "nothing")) (aW (eN (aM mK (by rfl) T.dR (by decide +kernel) (aa (pv 0) (aa (gj rfl T.lq (v:=V.ref _) rfl) ai)))) aq aq) ⟨_,rfl,e,C,d,t.bV,b3,rfl,W2.same _ _ he,hd1 W2,X.x,X.n,b3,rfl,?_⟩ ?_
 ·cases b3
  ·exact ji (bu ⟨rfl,by rw[show Al false "nothing" = [] from rfl,ab2];exact W2⟩)
  ·exact kX (ay (aX (dF Y8 Y6 aa0 bZ (pv 1) (aa aA ai))) ⟨_,rfl,.inl ⟨rfl,_,bq.of W2.at_⟩,l,_,_,rfl,rfl,W2.at_,eT (by rw[d6,o0];lia),rfl,W2.add⟩)
 rintro Z' H3 ⟨rfl,W3⟩;have l3:=wM b3 "nothing";refine aI (λZ' H'=>Z'=[some (.ref e),some (.ref l)]/\Wd H H' l (Wn b1 b2 b3 b4)) (aW (eN (aM mK (by rfl) T.dR (by decide +kernel) (aa (pv 0) (aa (gj rfl T.vG (v:=V.ref _) rfl) ai)))) aq aq) ⟨_,rfl,e,C,d,t.bK,b4,rfl,W3.same _ _ he,hd1 W3,X.x,X.r,b4,rfl,?_⟩ ?_
 ·cases b4
  ·exact ji (bu ⟨rfl,by rw[Wn,show Al false "rings" = [] from rfl,ab2];exact W3⟩)
  ·exact kX (ay (aX (dF Y8 Y6 aa0 bZ (pv 1) (aa aA ai))) ⟨_,rfl,.inl ⟨rfl,_,bq.of W3.at_⟩,l,_,_,rfl,rfl,W3.at_,eT (by rw[d6,o0,o0];lia),rfl,W3.add⟩)
 rintro Z' H4 ⟨rfl,W4⟩;rw[hw] at W4;refine aI (λZ' H'=>Z'=[some (.ref e),some (.ref l)]/\Wd H H' l [wd]) (aW (eN (aM zU (by rfl) T.dR (by decide +kernel) (aa (pv 0) (aa (br (aa (gj rfl T.AN (v:=V.ref _) rfl) (aa (gj rfl T.yM (v:=V.ref _) rfl) ai))) ai)))) aq aq) ⟨_,rfl,by show 2<=sizeLine;decide,λtp htp=>⟨e,C,d,tp,[t.jf,t.iF],false,rfl,fB.of af,ak.upd htp _ _ (W4.same _ _ he),(λdx z=>let ⟨fs,y⟩:=hd1 W4 dx z;⟨fs,ak.upd htp _ _ y⟩),X.x,qI ?_,false,rfl,ji (bu ⟨rfl,⟨ak.upd htp _ _ W4.at_,W4.new,W4.same.to htp⟩⟩)⟩⟩ ?_
 ·intro a ha;simp only[y0,X1,ac3] at ha;rcases ha with rfl|rfl
  ·exact X.l
  ·exact X.u
 rintro Z' H5 ⟨rfl,W5⟩;exact ay (aP (cO (aB bN (aM aS (by rfl) T.bW (by decide +kernel) (aa (pv 1) ai)) ao (aD _)) (aY aQ (pv 1) ao (λ_ _=>rfl)) aA)) ⟨_,rfl,l,_,rfl,.inl (bq.of W5.at_),rfl,_,rfl,dI (λ_=>⟨_,rfl,l,_,0,_,rfl,rfl,bq.of W5.at_,aO (j:=0) rfl,q _ W5.same⟩) λz=>absurd rfl z⟩
def Why(Gs:List bF)(sp:List (Str×Nat×Nat))(ds us:List V)(w:Int)(nm:Str)(a b c d:Int)(wd:Str):Prop :=
 (w=0/\wd = "place" /\ jN a/\jN b /\ ¬ lY Gs a b)∨(w=1/\wd = "place" /\ jN a/\jN b/\jN c/\jN d/\(lY Gs a b->lY Gs c d->HT.dY [a,b] [c,d]=true))∨(w=2/\nm.length<=1000/\((isName nm=false/\wd = "mark" /\ (reprText nm).length<=1000)∨(isName nm=true/\wd = "place" /\ jN a/\jN b /\ ¬ lY Gs a b)))∨(w=3/\wd = "mark" /\ nm∉cS sp/\(reprText nm).length<=1000)∨(w=4/\wd = "nothing" /\ ds=[])∨(w=5/\wd = "nothing" /\ us=[])
structure Sb(t:dU)(H:Hp)(x:Addr)(Gs:List bF)(sp:List (Str×Nat×Nat))(ds us:List V):Prop where
 ex:∃dx tt d ld lu dt a lg gs ms,H x=some (.ins t.aG dx (sf tt d ld lu))/\bG t H tt dt a lg gs ms Gs/\DP H d sp/\H ld=some (.lst ds)/\H lu=some (.lst us)
 len:Gs.length<=100000
 rows:∀G∈Gs,G.row.length<=1000
inductive zg(t:dU)(vs:List V)(H:Hp)(Q:VK)(_:XK):Prop|mk(x t1 t2:Addr)(Gs:List bF)(sp:List (Str×Nat×Nat))(ds us:List V)(w:Int)(nm:Str)(a b c d:Int)(wd:Str)(_:vs=[.ref x,.int w,.str nm,.ref t1,.ref t2])(_:Sb t H x Gs sp ds us)(_:H t1=some (.tup [.int a,.int b]))(_:H t2=some (.tup [.int c,.int d]))(_:Why Gs sp ds us w nm a b c d wd)(_:∀H',ak H H'->Q (.str wd) H')
def LJ (t:dU) (C:Addr) (wd:Str):Prop:=(C=t.bM/\wd = "place")∨(C=t.b8/\wd = "mark")∨(C=t.bV/\wd = "nothing")
def yH(t:dU)(H:Hp)(wd:Str):XK:=λCv eo H'=>∃C e,Cv = .ref C/\eo=some e/\ak H H'/\H' e=some (gq e C none)/\LJ t C wd
def jl (T:Txt K mg t):bw P w K mg base dM 11 t.GG t.OM ["_law_scribe","_law_way","_law_name","_law_first","_law_last"] (zg t):=by
 refine T.fN.ok qp λvs H Q E h=>?_;obtain⟨x,t1,t2,Gs,sp,ds,us,wy,nm,i,j,k,l,wd,rfl,⟨⟨dx,tt,d,ld,lu,dt,a,lg,gs,ms,hx,I,hdp,hld,hlu⟩,hlen,hs⟩,h1,h2,hW,q⟩:=h;walk_at "i";refine au (cR 5 qp bL) ?_;show At _ _ _ [some (.ref x),some (.int wy),some (.str nm),some (.ref t1),some (.ref t2),some .cD,none] H;refine aI (λZ' H'=>ak H H'/\∃e C b1 b2 b3 b4 y,Z'=[some (.ref x),some (.int wy),some (.str nm),some (.ref t1),some (.ref t2),some (.ref e),y]/\H' e=some (gq e C none)/\XR K t C b1 b2 b3 b4/\Wn b1 b2 b3 b4=[wd]) (Cb (i:=6) rfl rfl qp.nd rfl rfl rfl T.jQ (by decide) T.qH.at_) ?_ ?_
 ·refine⟨λZ' C e H'=>Z'=[some (.ref x),some (.int wy),some (.str nm),some (.ref t1),some (.ref t2),some .cD,none]/\ak H H'/\H' e=some (gq e C none)/\LJ t C wd,λpins=>?_,?_⟩
  ·have E1:∀{C},LJ t C wd->Rz C (yH t H wd) H:=λhc e H' _ g2 g3=>⟨_,e,rfl,rfl,g3,g2,hc⟩
   have P1:∀(C e:Addr) (H':Hp),yH t H wd (Value.ref C) (some e) H'->[some (.ref x),some (.int wy),some (.str nm),some (.ref t1),some (.ref t2),some .cD,none]=([some (.ref x),some (.int wy),some (.str nm),some (.ref t1),some (.ref t2),some .cD,none]:St)/\ak H H'/\H' e=some (gq e C none)/\LJ t C wd:=by rintro C e H' ⟨C2,e2,z1,z2,h3⟩;cases z1;cases z2;exact⟨rfl,h3⟩
   rcases hW with ⟨rfl,hwd,f1,f2,hn⟩|⟨rfl,hwd,f1,f2,f3,f4,hn⟩|⟨rfl,hnl,hn⟩|⟨rfl,hwd,hn,hrl⟩|⟨rfl,hwd,rfl⟩|⟨rfl,hwd,rfl⟩
   ·refine ay (aW (aB bN (pv 1) ao (aD _)) aq aq) ⟨_,rfl,rfl,_,rfl,dI (λ_=>?_) (λz=>absurd rfl z)⟩;exact ay (aX (oY (pv 0) T.aK T.Mj (tM T) hr.m T.Bt.b4 .nil (aa (aY cX (pv 3) ao (λ_ _=>rfl)) (aa (aY cX (pv 3) ao (λ_ _=>rfl)) (aa aA ai))))) ⟨_,rfl,x,dx,_,rfl,hx,rfl,_,rfl,t1,_,0,_,rfl,rfl,fB.of h1,aO (j:=0) rfl,_,rfl,t1,_,1,_,rfl,rfl,fB.of h1,aO (j:=1) rfl,yH t H wd,jc rfl rfl P1,x,dx,tt,d,ld,lu,dt,a,lg,gs,ms,Gs,i,j,_,rfl,hx,I,hlen,hs,f1,f2,hn,E1 (.inl ⟨rfl,hwd⟩)⟩
   ·refine ay (aW (aB bN (pv 1) ao (aD _)) aq aq) ⟨_,rfl,rfl,_,rfl,dI (λz=>absurd (V.int.inj z) (by decide)) (λ_=>?_)⟩;refine ay (aW (aB bN (pv 1) ao (aD _)) aq aq) ⟨_,rfl,rfl,_,rfl,dI (λ_=>?_) (λz=>absurd rfl z)⟩;exact ay (aX (oY (pv 0) T.aK T.Vz (rS T) hr.m T.ML.b5 .nil (aa (aY cX (pv 3) ao (λ_ _=>rfl)) (aa (aY cX (pv 3) ao (λ_ _=>rfl)) (aa (aY cX (pv 4) ao (λ_ _=>rfl)) (aa (aY cX (pv 4) ao (λ_ _=>rfl)) ai)))))) ⟨_,rfl,x,dx,_,rfl,hx,rfl,_,rfl,t1,_,0,_,rfl,rfl,fB.of h1,aO (j:=0) rfl,_,rfl,t1,_,1,_,rfl,rfl,fB.of h1,aO (j:=1) rfl,_,rfl,t2,_,0,_,rfl,rfl,fB.of h2,aO (j:=0) rfl,_,rfl,t2,_,1,_,rfl,rfl,fB.of h2,aO (j:=1) rfl,yH t H wd,jc rfl rfl P1,x,dx,tt,d,ld,lu,dt,a,lg,gs,ms,Gs,i,j,k,l,rfl,hx,I,hlen,hs,f1,f2,f3,f4,hn,E1 (.inl ⟨rfl,hwd⟩)⟩
   ·refine ay (aW (aB bN (pv 1) ao (aD _)) aq aq) ⟨_,rfl,rfl,_,rfl,dI (λz=>absurd (V.int.inj z) (by decide)) (λ_=>?_)⟩;refine ay (aW (aB bN (pv 1) ao (aD _)) aq aq) ⟨_,rfl,rfl,_,rfl,dI (λz=>absurd (V.int.inj z) (by decide)) (λ_=>?_)⟩;refine ay (aW (aB bN (pv 1) ao (aD _)) aq aq) ⟨_,rfl,rfl,_,rfl,dI (λ_=>?_) (λz=>absurd rfl z)⟩;refine ay (aX (oY (pv 0) T.aK T.NS (m6 T) hr.m T.Bj.b4 .nil (aa (pv 2) (aa (aY cX (pv 3) ao (λ_ _=>rfl)) (aa (aY cX (pv 3) ao (λ_ _=>rfl)) ai))))) ⟨_,rfl,x,dx,_,rfl,hx,rfl,_,rfl,_,rfl,t1,_,0,_,rfl,rfl,fB.of h1,aO (j:=0) rfl,_,rfl,t1,_,1,_,rfl,rfl,fB.of h1,aO (j:=1) rfl,yH t H wd,jc rfl rfl P1,x,dx,tt,d,ld,lu,dt,a,lg,gs,ms,Gs,nm,i,j,rfl,hx,hnl,?_⟩;rcases hn with ⟨n1,hwd,n3⟩|⟨n1,hwd,f1,f2,n3⟩
    ·exact .inl ⟨n1,n3,E1 (.inr (.inl ⟨rfl,hwd⟩))⟩
    ·exact .inr ⟨n1,I,hs,f1,f2,n3,E1 (.inl ⟨rfl,hwd⟩)⟩
   ·refine ay (aW (aB bN (pv 1) ao (aD _)) aq aq) ⟨_,rfl,rfl,_,rfl,dI (λz=>absurd (V.int.inj z) (by decide)) (λ_=>?_)⟩;refine ay (aW (aB bN (pv 1) ao (aD _)) aq aq) ⟨_,rfl,rfl,_,rfl,dI (λz=>absurd (V.int.inj z) (by decide)) (λ_=>?_)⟩;refine ay (aW (aB bN (pv 1) ao (aD _)) aq aq) ⟨_,rfl,rfl,_,rfl,dI (λz=>absurd (V.int.inj z) (by decide)) (λ_=>?_)⟩;refine ay (aW (aB bN (pv 1) ao (aD _)) aq aq) ⟨_,rfl,rfl,_,rfl,dI (λ_=>?_) (λz=>absurd rfl z)⟩;exact ay (aX (oY (pv 0) T.aK T.U9 (lW T) hr.m T.OR.b2 .nil (aa (pv 2) ai))) ⟨_,rfl,x,dx,_,rfl,hx,rfl,_,rfl,yH t H wd,jc rfl rfl P1,x,dx,tt,d,ld,lu,sp,nm,rfl,hx,hdp,hn,hrl,E1 (.inr (.inl ⟨rfl,hwd⟩))⟩
   ·refine ay (aW (aB bN (pv 1) ao (aD _)) aq aq) ⟨_,rfl,rfl,_,rfl,dI (λz=>absurd (V.int.inj z) (by decide)) (λ_=>?_)⟩;refine ay (aW (aB bN (pv 1) ao (aD _)) aq aq) ⟨_,rfl,rfl,_,rfl,dI (λz=>absurd (V.int.inj z) (by decide)) (λ_=>?_)⟩;refine ay (aW (aB bN (pv 1) ao (aD _)) aq aq) ⟨_,rfl,rfl,_,rfl,dI (λz=>absurd (V.int.inj z) (by decide)) (λ_=>?_)⟩;refine ay (aW (aB bN (pv 1) ao (aD _)) aq aq) ⟨_,rfl,rfl,_,rfl,dI (λz=>absurd (V.int.inj z) (by decide)) (λ_=>?_)⟩;refine ay (aW (aB bN (pv 1) ao (aD _)) aq aq) ⟨_,rfl,rfl,_,rfl,dI (λ_=>?_) (λz=>absurd rfl z)⟩;exact ay (aX (vz (pv 0) T.aK T.Js (rq T) hr.m T.yh.b1 .nil)) ⟨_,rfl,x,dx,_,rfl,hx,rfl,yH t H wd,jc rfl rfl P1,x,dx,tt,d,ld,lu,rfl,hx,hld,E1 (.inr (.inr ⟨rfl,hwd⟩))⟩
   ·refine ay (aW (aB bN (pv 1) ao (aD _)) aq aq) ⟨_,rfl,rfl,_,rfl,dI (λz=>absurd (V.int.inj z) (by decide)) (λ_=>?_)⟩;refine ay (aW (aB bN (pv 1) ao (aD _)) aq aq) ⟨_,rfl,rfl,_,rfl,dI (λz=>absurd (V.int.inj z) (by decide)) (λ_=>?_)⟩;refine ay (aW (aB bN (pv 1) ao (aD _)) aq aq) ⟨_,rfl,rfl,_,rfl,dI (λz=>absurd (V.int.inj z) (by decide)) (λ_=>?_)⟩;refine ay (aW (aB bN (pv 1) ao (aD _)) aq aq) ⟨_,rfl,rfl,_,rfl,dI (λz=>absurd (V.int.inj z) (by decide)) (λ_=>?_)⟩;refine ay (aW (aB bN (pv 1) ao (aD _)) aq aq) ⟨_,rfl,rfl,_,rfl,dI (λz=>absurd (V.int.inj z) (by decide)) (λ_=>?_)⟩;exact ay (aX (vz (pv 0) T.aK T.LQ (qZ T) hr.m T.Ce.b1 .nil)) ⟨_,rfl,x,dx,_,rfl,hx,rfl,yH t H wd,jc rfl rfl P1,x,dx,tt,d,ld,lu,rfl,hx,hlu,E1 (.inr (.inr ⟨rfl,hwd⟩))⟩
  ·rintro Z' C e H3 ⟨rfl,s3,he,hc⟩;rcases hc with ⟨rfl,rfl⟩|⟨rfl,rfl⟩|⟨rfl,rfl⟩
   ·exact⟨T.uZ.at_,T.lF,ay (cR 5 qp (pv 6)) ⟨_,rfl,s3,e,_,_,_,_,_,_,rfl,he,EK T,rfl⟩⟩
   ·exact⟨T.xr.at_,T.mX,ay (cR 5 qp (pv 6)) ⟨_,rfl,s3,e,_,_,_,_,_,_,rfl,he,Ly T,rfl⟩⟩
   ·exact⟨T.ve.at_,T.lB,ay (cR 5 qp (pv 6)) ⟨_,rfl,s3,e,_,_,_,_,_,_,rfl,he,AX T,rfl⟩⟩
 rintro Z' H3 ⟨s3,e,C,b1,b2,b3,b4,y,rfl,he,X,hw⟩;exact ay (aP (aN (Ed T) hr.m rfl T.F1 T.xu.kp T.xu.b1 .nil aH (aa (pv 5) ai))) ⟨_,rfl,e,C,none,b1,b2,b3,b4,wd,rfl,he,(λdx z=>by cases z),X,hw,λH4 s4=>q H4 (s3.trans s4)⟩
def TU:List Nat:=[97,98,40,41,34,35,32]
def Qw:∀c∈TU,c∈fT.cps.toList:=by decide +kernel
def Pu:10∉TU:=by decide
def DA  (h0:0<=d) (h1:d<9):∃c,c∈TU/\uv (Str.ofString "ab()\"# (a").cps.toList d=some c:=by
 obtain⟨n,rfl⟩:∃n:Nat,d=n:=⟨d.toNat,by lia⟩
 have hn:n<9:=by lia
 have key:∀n:Nat,n<9->∃c,c∈TU/\uv (Str.ofString "ab()\"# (a").cps.toList (n:Int)=some c:=by
  intro n hn;have:n=0∨n=1∨n=2∨n=3∨n=4∨n=5∨n=6∨n=7∨n=8:=by lia
  rcases this with rfl|rfl|rfl|rfl|rfl|rfl|rfl|rfl|rfl
  ·exact⟨97,by decide,by decide +kernel⟩
  ·exact⟨98,by decide,by decide +kernel⟩
  ·exact⟨40,by decide,by decide +kernel⟩
  ·exact⟨41,by decide,by decide +kernel⟩
  ·exact⟨34,by decide,by decide +kernel⟩
  ·exact⟨35,by decide,by decide +kernel⟩
  ·exact⟨32,by decide,by decide +kernel⟩
  ·exact⟨40,by decide,by decide +kernel⟩
  ·exact⟨97,by decide,by decide +kernel⟩
 exact key n hn
theorem sI:∀(cs:List Nat),(Str.join "" (cs.map λc=>(⟨#[c]⟩:Str))).cps.toList=cs
 | []=>rfl
 | [c]=>rfl
 |c::d::r=>by have ih:=sI (d::r);show ((⟨#[c]⟩:Str) ++ "" ++ Str.join "" ((d::r).map λc=>(⟨#[c]⟩:Str))).cps.toList=_;rw[dW,ih,dW];rfl
theorem vn:∀(cs:List Nat),((cs.map λc=>(⟨#[c]⟩:Str)).map (·.length)).sum=cs.length
 | []=>rfl
 |c::r=>by rw[Y5,Y5,ah8,vn r,x0];show 1+r.length=_;lia
theorem CD:∀(l:List Str),(∀x∈l,x.length<=6)->(l.map (·.length)).sum<=l.length*6
 | [],_=>by simp
 |a::r,h=>by have h1:=h a (by simp);have h2:=CD r (λx hx=>h x (by simp[hx]));rw[Y5,ah8,x0];lia
structure qE(z:Str):Prop where
 le:z.length<=6
 ch:∀c∈z.cps.toList,c∈TU
inductive S9(K:PySem.W.Frag)(vs:List V)(H:Hp)(Q:VK)(_:XK):Prop|mk(a:Addr)(ns:List Int)(k:Int)(_:vs=[.ref a,.int k])(_:bq K H a (ns.map V.int))(_:ns.length<=63)(_:0<=k)(_:k<=90000)(_:∀z H',qE z->ak H H'->Q (.str z) H')
def Rk (T:Txt K mg t):bw P w K mg base dM 2 t.Gz t.Ms ["_law_script","_law_k"] (S9 K):=by
 refine T.IP.ok D8 λvs H Q E h=>?_;obtain⟨a,ns,k,rfl,hS,hl,hk0,hk1,q⟩:=h;walk_at "i";refine au (wm (i:=2) D8.nd rfl (Or.inr rfl) aA) ?_;refine ay (@aP _ _ _ _ (@dF _ _ _ _ _ _ _ _ _ _ _ _ ac4 F.slot_str_join F.type_str_join wK aA (aa (@i6 _ (az Hu) _ ["_law_script","_law_k","_law_signs"] _ _ ("_law_n") _ _ [("_law_signs",2),("_law_script",0),("_law_k",1)] _ _ (by walk_at "ck") (@iw _ _ _ _ _ _ rfl T.kq (aa (@aN _ _ _ _ _ _ _ _ _ _ _ _ _ _ _ _ (fH T) hr.m rfl T.fP T.cN.kp T.cN.b3 .nil aH (aa (pv 0) (aa (pv 1) (aa ao ai (by left)) (by left)) (by left)) (by left) (by left) (by left)) ai (by left)) (by left)) (λ_ _ _ _=>by exact(@aY _ _ _ _ _ _ _ v9 (pv 0) (@aN _ _ _ _ _ _ _ _ _ _ _ _ _ _ _ _ (fH T) hr.m rfl T.fP T.cN.kp T.cN.b3 .nil aH (aa (pv 1) (aa (@bh _ _ _ _ _ _ _ _ bX (@bh _ _ _ _ _ _ _ _ bX (pv 2) ao) (pv 3)) (aa ao ai (by left)) (by left)) (by left)) (by left) (by left) (by left)) (λ_ _=>rfl))) (by left) (by left) (by left) (by left)) ai (by left)) (by left) (by left) (by left) (by left) (by left))) ⟨rfl,_,rfl,_,rfl,a,ns,_,_,rfl,hS,hk0,(by lia),(by decide),(by decide),hl,λd H1 h0 h1 s1=>⟨d,rfl,by lia,by lia,nI (n:=d.toNat) (λi ys H'=>∃cs:List Nat,ys=(cs.map λc=>(⟨#[c]⟩:Str)).map V.str/\cs.length=i/\(∀c∈cs,c∈TU)/\ak H H') ⟨[],rfl,rfl,(λc h=>by cases h),s1⟩ (eT (by lia)) ?_ ?_⟩⟩
 ·rintro i ys H2 hi hyl ⟨cs,rfl,hcl,hcs,s2⟩;refine⟨_,rfl,_,rfl,_,rfl,_,_,rfl,rfl,_,rfl,_,_,rfl,rfl,a,ns,_,_,rfl,hS.same s2,(by lia),(by lia),(by decide),(by decide),hl,λe H3 g0 g1 s3=>?_⟩;obtain⟨c,hc,hat⟩:=DA g0 g1;refine⟨_,_,c,rfl,rfl,by decide,hat,d7 hi hyl ⟨cs++[c],by rw[P2,P2];rfl,by rw[o0,hcl];rfl,λy hy=>?_,s2.trans s3⟩⟩;rcases aa1.mp hy with z|z
  ·exact hcs y z
  ·rw[v6.mp z];exact hc
 ·rintro ys H2 hyl ⟨cs,rfl,hcl,hcs,s2⟩ D hD;refine⟨_,D,_,rfl,rfl,bq.of af,?_,?_⟩
  ·rw[vn,show (Str.ofString "").length=0 by decide +kernel];exact b7 (by lia)
  ·rw[join_eq];have ejs:=sI cs;refine q _ _ ⟨by rw[← cz,ejs];lia,λc hc=>?_⟩ (s2.to hD);rw[ejs] at hc;exact hcs c hc
def qE.nl(h:qE z):10∉z.cps.toList:=λy=>Pu (h.ch 10 y)
inductive EV(K:PySem.W.Frag)(vs:List V)(H:Hp)(Q:VK)(_:XK):Prop|mk(a lr:Addr)(ns:List Int)(b:Int)(rs:List Str)(_:vs=[.ref a,.int b,.ref lr])(_:bq K H a (ns.map V.int))(_:ns.length<=63)(_:0<=b)(_:b<=90000)(_:H lr=some (.lst (rs.map V.str)))(_:rs≠[])(_:rs.length<=1000)(_:(∀x∈rs,x.length<=1000))(_:∀p v H',VP rs v->U6 H' p v->H p=none->ak H H'->Q (.ref p) H')
def E5 (T:Txt K mg t):bw P w K mg base dM 2 t.Gq t.LW ["_law_script","_law_k","_law_rows"] (EV K):=by
 refine T.yW.ok Es λvs H Q E h=>?_;obtain⟨a,lr,ns,b,rs,rfl,hS,hl,hb0,hb1,hlr,hne,hrl,hrs,q⟩:=h;walk_at "i";have hpos:=af2.mpr hne;refine aI (λZ' H'=>∃i:Nat,i<rs.length/\ak H H'/\Z'=[some (.ref a),some (.int b),some (.ref lr),some (.int i)]) (cR 3 Es (aN (fH T) hr.m rfl T.fP T.cN.kp T.cN.b3 .nil aH (aa (pv 0) (aa (pv 1) (aa (aM aS (by rfl) T.bW (by decide +kernel) (aa (pv 2) ai)) ai))))) ⟨_,rfl,_,rfl,_,rfl,_,_,rfl,.inl (bq.of hlr),a,ns,_,_,rfl,hS,hb0,by lia,by rw[d6];lia,by rw[d6];lia,hl,λd H1 h0 h1 s1=>⟨d.toNat,by rw[d6] at h1;lia,s1,by rw[show (d.toNat:Int)=d by lia];rfl⟩⟩ ?_;rintro Z' H1 ⟨i,hi,s1,rfl⟩;obtain⟨r,hri⟩:∃r,rs[i]?=some r:=⟨rs[i],i4 hi⟩
 have hrl1:=hrs r (u8 hri);have hat:uv (rs.map V.str) (i:Int)=some (.str r):=aO (by rw[B1,hri];rfl);refine ay (aP (br (aa (pv 3) (aa (aN (fH T) hr.m rfl T.fP T.cN.kp T.cN.b3 .nil aH (aa (pv 0) (aa (bh bX (pv 1) ao) (aa (bh bX (aM bJ (by rfl) T.bW (by decide +kernel) (aa (aY aQ (pv 2) (pv 3) (λ_ _=>rfl)) ai)) ao) ai)))) ai)))) ⟨_,rfl,_,rfl,_,rfl,_,_,rfl,rfl,_,rfl,_,rfl,_,_,_,_,rfl,rfl,bq.of (s1 _ _ hlr),hat,_,rfl,b7 (by lia),_,_,rfl,rfl,a,ns,_,_,rfl,hS.same s1,by lia,by lia,by lia,by lia,hl,λd H2 h0 h2 s2=>⟨by show 2<=sizeLine;decide,λp hp=>?_⟩⟩;obtain⟨j,rfl⟩:∃j:Nat,d=j:=⟨d.toNat,by lia⟩
 exact q p (i,j) _ ⟨r,hri,by show j<=_;lia⟩ af ((s1.trans s2).free hp) ((s1.trans s2).to hp)
def UN(rs:List Str)(a b:Int):Prop:=∃r,0<=a/\rs[a.toNat]?=some r/\0<=b/\b<=r.length
inductive UE(K:PySem.W.Frag)(vs:List V)(H:Hp)(Q:VK)(_:XK):Prop|mk(a lr:Addr)(ns:List Int)(b:Int)(rs:List Str)(_:vs=[.ref a,.int b,.ref lr])(_:bq K H a (ns.map V.int))(_:ns.length<=63)(_:0<=b)(_:b<=50000)(_:H lr=some (.lst (rs.map V.str)))(_:rs≠[])(_:rs.length<=1000)(_:(∀x∈rs,x.length<=1000))(_:∀p i j H',¬ UN rs i j->jN i->jN j->H' p=some (.tup [.int i,.int j])->ak H H'->Q (.ref p) H')
def rX(h:i.natAbs<=10 ^ 40+9):jN i:=by
 have h2:(10 ^ 40+9:Nat)<2 ^ 200:=by decide +kernel
 show i.natAbs.log2<1000;by_cases h0:i.natAbs=0
 ·rw[h0];decide
 ·exact Z4 ((Nat.log2_lt h0).mpr (ak4 h h2)) (by decide)
def Rp (T:Txt K mg t):bw P w K mg base dM 2 t.JI t.Oh ["_law_script","_law_k","_law_rows"] (UE K):=by
 refine T.Ey.ok vW λvs H Q E h=>?_;obtain⟨a,lr,ns,b,rs,rfl,hS,hl,hb0,hb1,hlr,hne,hrl,hrs,q⟩:=h;walk_at "i";have hpos:=af2.mpr hne;refine au (cR 3 vW (bh bX (bh Sd ao ao) (aN (fH T) hr.m rfl T.fP T.cN.kp T.cN.b3 .nil aH (aa (pv 0) (aa (pv 1) (aa ao ai)))))) ⟨_,_,rfl,rfl,⟨by decide,by decide,by decide⟩,_,rfl,_,rfl,a,ns,_,_,rfl,hS,hb0,by lia,by decide,by decide,hl,λd H1 h0 h1 s1=>⟨_,_,rfl,rfl,?_⟩⟩;have hF1:(100000:Int)<(10:Int) ^ (40:Int).toNat+d:=by have:(100000:Int)<(10:Int) ^ (40:Int).toNat:=(by decide);lia
 have hF2:jN ((10:Int) ^ (40:Int).toNat+d):=rX (by have:((10:Int) ^ (40:Int).toNat)=(10 ^ 40:Nat):=(by decide);lia);have hF3:jN (-((10:Int) ^ (40:Int).toNat+d)):=by show (-((10:Int) ^ (40:Int).toNat+d)).natAbs.log2<1000;rw[Int.natAbs_neg];exact hF2
 show At _ _ _ [some (.ref a),some (.int b),some (.ref lr),some (.int ((10:Int) ^ (40:Int).toNat+d)),none,none] H1;generalize (10:Int) ^ (40:Int).toNat+d=F at *;refine au (cR 4 vW (aN (fH T) hr.m rfl T.fP T.cN.kp T.cN.b3 .nil aH (aa (pv 0) (aa (bh bX (pv 1) ao) (aa (aM aS (by rfl) T.bW (by decide +kernel) (aa (pv 2) ai)) ai))))) ⟨_,rfl,_,rfl,_,_,rfl,rfl,_,rfl,lr,_,rfl,.inl (bq.of (s1 _ _ hlr)),a,ns,_,_,rfl,hS.same s1,by lia,by lia,by rw[d6];lia,by rw[d6];lia,hl,λd2 H2 h2 h3 s2=>?_⟩;rw[d6] at h3;obtain⟨i,rfl⟩:∃i:Nat,d2=i:=⟨d2.toNat,by lia⟩
 have hi:i<rs.length:=by lia
 obtain⟨r,hri⟩:∃r,rs[i]?=some r:=⟨rs[i],i4 hi⟩
 have hrl1:=hrs r (u8 hri);have hat:uv (rs.map V.str) (i:Int)=some (.str r):=aO (by rw[B1,hri];rfl);have hlr2:=s2 _ _ (s1 _ _ hlr);refine aI (λZ' H'=>∃ls ps,H' ls=some (.lst (ps.map V.ref))/\bO (λp (v:Int×Int)=>H' p=some (.tup [.int v.1,.int v.2])) ps [(-1,0),((rs.map V.str).length,0),(F,0),(-F,0),(i,-1),(i,r.length+1),(i,F),(i,-F)]/\ak H2 H'/\Z'=[some (.ref a),some (.int b),some (.ref lr),some (.int F),some (.int i),some (.ref ls)]) (cR 5 vW (bD (aa (br (aa (jJ gW ao) (aa ao ai))) (aa (br (aa (aM aS (by rfl) T.bW (by decide +kernel) (aa (pv 2) ai)) (aa ao ai))) (aa (br (aa (pv 3) (aa ao ai))) (aa (br (aa (jJ gW (pv 3)) (aa ao ai))) (aa (br (aa (pv 4) (aa (jJ gW ao) ai))) (aa (br (aa (pv 4) (aa (bh bX (aM bJ (by rfl) T.bW (by decide +kernel) (aa (aY aQ (pv 2) (pv 4) (λ_ _=>rfl)) ai)) ao) ai))) (aa (br (aa (pv 4) (aa (pv 3) ai))) (aa (br (aa (pv 4) (aa (jJ gW (pv 3)) ai))) ai)))))))))) ?_ ?_
 ·walk_at "rd";refine⟨by decide,λp1 g1=>⟨_,.inl (bq.of (ak.upd g1 _ _ (hlr2))),by decide,λp2 g2=>⟨by decide,λp3 g3=>⟨by decide,λp4 g4=>⟨by decide,λp5 g5=>⟨_,bq.of (ak.upd g5 _ _ (ak.upd g4 _ _ (ak.upd g3 _ _ (ak.upd g2 _ _ (ak.upd g1 _ _ (hlr2)))))),_,hat,r,rfl,b7 (by lia),by decide,λp6 g6=>⟨by decide,λp7 g7=>⟨by decide,λp8 g8=>⟨by decide,λls gs=>?_⟩⟩⟩⟩⟩⟩⟩⟩⟩;exact⟨ls,[p1,p2,p3,p4,p5,p6,p7,p8],af,bO.cL (ak.upd gs _ _ (ak.upd g8 _ _ (ak.upd g7 _ _ (ak.upd g6 _ _ (ak.upd g5 _ _ (ak.upd g4 _ _ (ak.upd g3 _ _ (ak.upd g2 _ _ (af))))))))) (bO.cL (ak.upd gs _ _ (ak.upd g8 _ _ (ak.upd g7 _ _ (ak.upd g6 _ _ (ak.upd g5 _ _ (ak.upd g4 _ _ (ak.upd g3 _ _ (af)))))))) (bO.cL (ak.upd gs _ _ (ak.upd g8 _ _ (ak.upd g7 _ _ (ak.upd g6 _ _ (ak.upd g5 _ _ (ak.upd g4 _ _ (af))))))) (bO.cL (ak.upd gs _ _ (ak.upd g8 _ _ (ak.upd g7 _ _ (ak.upd g6 _ _ (ak.upd g5 _ _ (af)))))) (bO.cL (ak.upd gs _ _ (ak.upd g8 _ _ (ak.upd g7 _ _ (ak.upd g6 _ _ (af))))) (bO.cL (ak.upd gs _ _ (ak.upd g8 _ _ (ak.upd g7 _ _ (af)))) (bO.cL (ak.upd gs _ _ (ak.upd g8 _ _ (af))) (bO.cL (ak.upd gs _ _ (af)) (bO.nil)))))))),((((((((ak.upd g1).to g2).to g3).to g4).to g5).to g6).to g7).to g8).to gs,rfl⟩
 rintro Z' H3 ⟨ls,ps,hls,hA,s3,rfl⟩;have s13:=s1.trans (s2.trans s3);refine ay (aP (aY aQ (pv 5) (aN (fH T) hr.m rfl T.fP T.cN.kp T.cN.b3 .nil aH (aa (pv 0) (aa (bh bX (pv 1) ao) (aa ao ai)))) (λ_ _=>rfl))) ⟨_,rfl,_,rfl,_,rfl,_,_,rfl,rfl,a,ns,_,_,rfl,hS.same s13,by lia,by lia,by decide,by decide,hl,λe H4 h4 h5 s4=>?_⟩;obtain⟨k,rfl⟩:∃k:Nat,e=k:=⟨e.toNat,by lia⟩
 have hk:k<8:=by lia
 have hlm:(rs.map V.str).length=rs.length:=d6 ..;obtain⟨p,hp⟩:∃p,ps[k]?=some p:=⟨ps[k]'(by rw[hA.1];exact hk),i4 _⟩
 have fi:jN (i:Int):=rX (by have:(1000:Nat)<=10 ^ 40+9:=(by decide);lia);obtain⟨v,hv⟩:∃v,([(-1,0),((rs.map V.str).length,0),(F,0),(-F,0),(i,-1),(i,r.length+1),(i,F),(i,-F)]:List (Int×Int))[k]?=some v:=⟨_,i4 (by exact hk)⟩
 refine⟨ls,_,_,_,rfl,rfl,bq.of (s4 _ _ hls),gP hp,q p v.1 v.2 _ ?_ ?_ ?_ (s4 _ _ (hA.2 k p v hp hv)) (s13.trans s4)⟩;all_goals (have hm:=u8 hv;simp only[y0,X1,ac3] at hm)
 ·rintro⟨r',x1,x2,x3,x4⟩;rcases hm with rfl|rfl|rfl|rfl|rfl|rfl|rfl|rfl <;> simp only at x1 x2 x3 x4
  ·lia
  ·have:=(i5.mp x2).1;lia
  ·have:=(i5.mp x2).1;lia
  ·lia
  ·lia
  ·rw[aa5,hri] at x2;cases x2;lia
  ·rw[aa5,hri] at x2;cases x2;lia
  ·lia
 ·rcases hm with rfl | rfl | rfl | rfl | rfl | rfl | rfl | rfl <;> simp only <;> first | exact hF2 | exact hF3 | exact fi | exact rX (by have:(1001:Nat)<=10 ^ 40+9:=(by decide);lia)
 ·rcases hm with rfl | rfl | rfl | rfl | rfl | rfl | rfl | rfl <;> simp only <;> first | exact hF2 | exact hF3 | exact fi | exact rX (by have:(1001:Nat)<=10 ^ 40+9:=(by decide);lia)
def Ro(a b c d:Int):HT.dY [a,b] [c,d]=true↔a>c∨(a=c/\b>d):=by
 simp only[HT.dY];by_cases h:a=c
 ·rw[if_pos h];by_cases h2:b=d
  ·rw[if_pos h2];simp only[aj7,false_iff];lia
  ·rw[if_neg h2,decide_eq_true_iff];lia
 ·rw[if_neg h,decide_eq_true_iff];lia
def UR(h:Gs.map (·.row)=rs)(k:lY Gs i j):UN rs i j:=by
 obtain⟨⟨h1,h2⟩,h3,h4⟩:=k;have hi:i.toNat<Gs.length:=by lia
 obtain⟨G,hG⟩:∃G,Gs[i.toNat]?=some G:=⟨Gs[i.toNat],i4 hi⟩
 refine⟨G.row,h1,by rw[← h,B1,hG];rfl,h3,?_⟩;unfold v8 at h4;rw[hG] at h4;exact h4
def mE{n:Nat}(h:n<=100000):jN (n:Int):=rX (by rw[Int.natAbs_natCast];exact X6 h (by decide))
def xV(h1:rs.length<=1000)(h2:∀y∈rs,y.length<=1000)(h:VP rs v):v.1<=100000/\v.2<=100000:=by obtain⟨r,h3,h4⟩:=h;have h5:=(i5.mp h3).1;have h6:=h2 r (u8 h3);lia
abbrev VL:List Str:=["","abcdefghi","A","a1","a b","_"]
def R9:∀x∈VL,isName x=false/\(reprText x).length<=1000/\x.length<=1000/\x ≠ "a" := by decide +kernel
def Of:(reprText (Str.ofString "zz")).length<=1000/\Str.ofString "zz" ≠ "a" := by decide +kernel
def Sb.same(h:Sb t H x Gs sp ds us)(s:ak H H'):Sb t H' x Gs sp ds us:=by obtain⟨⟨dx,tt,d,ld,lu,dt,a,lg,gs,ms,h1,h2,h3,h4,h5⟩,h6,h7⟩:=h;exact⟨⟨dx,tt,d,ld,lu,dt,a,lg,gs,ms,s _ _ h1,h2.same s,h3.same s,s _ _ h4,s _ _ h5⟩,h6,h7⟩
inductive Ke(K:PySem.W.Frag) (t:dU)(vs:List V)(H:Hp)(Q:VK)(_:XK):Prop|mk(a x lr:Addr)(ns:List Int)(b:Int)(m:V)(rs:List Str)(Gs:List bF)(sp:List (Str×Nat×Nat))(ds us:List V)(_:vs=[.ref a,.int b,.ref x,.ref lr,m])(_:bq K H a (ns.map V.int))(_:ns.length<=63)(_:0<=b)(_:b<=10000)(_:Sb t H x Gs sp ds us)(_:H lr=some (.lst (rs.map V.str)))(_:Gs.map (·.row)=rs)(_:rs≠[])(_:rs.length<=1000)(_:(∀n∈cS sp,n = "a"))(_:∀H',ak H H'->Q (.bl true) H')
def Rc (T:Txt K mg t):bw P w K mg base dM 12 t.JK t.Mb ["_law_script","_law_k","_law_scribe","_law_rows","_law_marks"] (Ke K t):=by
 refine T.Ej.ok lV λvs H Q E h=>?_;obtain⟨a,x,lr,ns,b,m,rs,Gs,sp,ds,us,rfl,hS,hl,hb0,hb1,hB,hlr,hrs,hne,hrl,hnm,q⟩:=h;walk_at "i";have hrs1:∀y∈rs,y.length<=1000:=λy hy=>by rw[← hrs] at hy;obtain⟨G,hG,rfl⟩:=aa2.mp hy;exact hB.rows G hG
 refine au (cR 5 lV (aN (fH T) hr.m rfl T.fP T.cN.kp T.cN.b3 .nil aH (aa (pv 0) (aa (pv 1) (aa ao ai))))) ⟨_,rfl,_,rfl,a,ns,_,_,rfl,hS,hb0,by lia,by decide,by decide,hl,λwy H1 w0 w1 s1=>?_⟩;refine au (cR 6 lV (aN (Rp T) hr.m rfl T.Tv T.Ey.kp T.Ey.b3 .nil aH (aa (pv 0) (aa (bh bX (pv 1) ao) (aa (pv 3) ai))))) ⟨_,rfl,_,rfl,_,_,rfl,rfl,_,rfl,a,lr,ns,_,rs,rfl,hS.same s1,hl,by lia,by lia,s1 _ _ hlr,hne,hrl,hrs1,λpb i j H2 hij fi fj hpb s2=>?_⟩;have s12:=s1.trans s2;refine au (cR 7 lV (aN (E5 T) hr.m rfl T.Gw T.yW.kp T.yW.b3 .nil aH (aa (pv 0) (aa (bh bX (pv 1) ao) (aa (pv 3) ai))))) ⟨_,rfl,_,rfl,_,_,rfl,rfl,_,rfl,a,lr,ns,_,rs,rfl,hS.same s12,hl,by lia,by lia,s12 _ _ hlr,hne,hrl,hrs1,λpg v H3 hv hpg npg s3=>?_⟩;have s13:=s12.trans s3;refine @au _ _ _ _ _ _ _ (@wm _ _ 8 _ _ _ _ lV.nd rfl (Or.inl rfl) (@aY _ _ _ _ _ _ _ aQ (@bD _ _ _ _ (@wC _ _ ["","abcdefghi","A","a1","a b","_"] rfl)) (@aN _ _ _ _ _ _ _ _ _ _ _ _ _ _ _ _ (fH T) hr.m rfl T.fP T.cN.kp T.cN.b3 .nil aH (aa (pv 0) (aa (@bh _ _ _ _ _ _ _ _ bX (pv 1) ao) (aa ao ai (by left)) (by left)) (by left)) (by left) (by left) (by left)) (λ_ _=>rfl)) (by left) (by left)) ⟨by show 6<=sizeLine;decide,λlo ho=>⟨_,rfl,_,rfl,_,_,rfl,rfl,a,ns,_,_,rfl,(hS.same s13).same (ak.upd ho),by lia,by lia,by decide,by decide,hl,λe H4 e0 e1 s4=>?_⟩⟩;obtain⟨st,hst,hat⟩:=pick (xs:=VL) e0 e1;obtain⟨o1,o2,o3,o4⟩:=R9 st hst;refine⟨lo,_,_,_,rfl,rfl,bq.of (s4 _ _ af),hat,?_⟩;have s35:ak H3 H4:=(ak.upd ho).trans s4;have s5:ak H H4:=s13.trans s35;have hpb5:=s35 _ _ (s3 _ _ hpb);have hpg5:=s35 _ _ hpg;have hB5:=hB.same s5;have hS5:=hS.same s5;have hnb:¬ lY Gs i j:=λz=>hij (UR hrs z);have hvb:=xV hrl hrs1 hv;have fv1:jN (v.1:Int):=mE hvb.1;have fv2:jN (v.2:Int):=mE hvb.2;show At _ _ _ [some (.ref a),some (.int b),some (.ref x),some (.ref lr),some m,some (.int wy),some (.ref pb),some (.ref pg),some (.str st),none,none] H4;clear hat hpb hpg ho s4 hst;refine aI (λZ' H'=>Z'=[some (.ref a),some (.int b),some (.ref x),some (.ref lr),some m,some (.int wy),some (.ref pb),some (.ref pg),some (.str st),none,none]/\H'=H4/\wy≠0) (aW (aB bN (pv 5) ao (aD _)) aq aq) ⟨_,rfl,rfl,_,rfl,dI (λz=>?_) λz=>bu ⟨rfl,rfl,λy=>z (by rw[y])⟩⟩ ?_
 ·exact ay (aP (cB bN (aN (jl T) hr.m rfl T.jv T.fN.kp T.fN.b5 .nil aH (aa (pv 2) (aa ao (aa aA (aa (pv 6) (aa (pv 6) ai)))))) aA (aD _))) ⟨_,rfl,_,rfl,_,rfl,x,pb,pb,Gs,sp,ds,us,0,_,i,j,i,j,"place",rfl,hB5,hpb5,hpb5,.inl ⟨rfl,rfl,fi,fj,hnb⟩,λH5 s6=>⟨rfl,q _ (s5.trans s6)⟩⟩
 rintro Z' H' ⟨rfl,e',n0⟩;rw[e'];clear e' H';refine aI (λZ' H'=>Z'=[some (.ref a),some (.int b),some (.ref x),some (.ref lr),some m,some (.int wy),some (.ref pb),some (.ref pg),some (.str st),none,none]/\H'=H4/\wy≠1) (aW (aB bN (pv 5) ao (aD _)) aq aq) ⟨_,rfl,rfl,_,rfl,dI (λz=>?_) λz=>bu ⟨rfl,rfl,λy=>z (by rw[y])⟩⟩ ?_
 ·refine aI (λZ' H'=>∃tp q1 q2 c1 c2 c3 c4,H' tp=some (.tup [.ref q1,.ref q2])/\H' q1=some (.tup [.int c1,.int c2])/\H' q2=some (.tup [.int c3,.int c4])/\jN c1/\jN c2/\jN c3/\jN c4 /\ ¬ (lY Gs c1 c2/\lY Gs c3 c4)/\ak H4 H'/\Z'=[some (.ref a),some (.int b),some (.ref x),some (.ref lr),some m,some (.int wy),some (.ref pb),some (.ref pg),some (.str st),some (.ref tp),none]) (cR 9 lV (aY aQ (bD (aa (br (aa (pv 6) (aa (pv 7) ai))) (aa (br (aa (pv 7) (aa (pv 6) ai))) (aa (br (aa (pv 6) (aa (pv 6) ai))) ai)))) (aN (fH T) hr.m rfl T.fP T.cN.kp T.cN.b3 .nil aH (aa (pv 0) (aa (bh bX (pv 1) ao) (aa ao ai)))) (λ_ _=>rfl))) ?_ ?_
  ·refine⟨_,rfl,_,rfl,by show 2<=sizeLine;decide,λp1 g1=>⟨_,rfl,_,rfl,by show 2<=sizeLine;decide,λp2 g2=>⟨_,rfl,_,rfl,by show 2<=sizeLine;decide,λp3 g3=>⟨by show 3<=sizeLine;decide,λl4 g4=>?_⟩⟩⟩⟩;have k1:=ak.upd g4 (o:=.lst [.ref p1,.ref p2,.ref p3]) _ _ (ak.upd g3 (o:=.tup [.ref pb,.ref pb]) _ _ (ak.upd g2 (o:=.tup [.ref pg,.ref pb]) _ _ (af (H:=H4) (a:=p1) (o:=.tup [.ref pb,.ref pg]))));have k2:=ak.upd g4 (o:=.lst [.ref p1,.ref p2,.ref p3]) _ _ (ak.upd g3 (o:=.tup [.ref pb,.ref pb]) _ _ (af (a:=p2) (o:=.tup [.ref pg,.ref pb])));have k3:=ak.upd g4 (o:=.lst [.ref p1,.ref p2,.ref p3]) _ _ (af (a:=p3) (o:=.tup [.ref pb,.ref pb]));have k4:=af (H:=upd (upd (upd H4 p1 (.tup [.ref pb,.ref pg])) p2 (.tup [.ref pg,.ref pb])) p3 (.tup [.ref pb,.ref pb])) (a:=l4) (o:=.lst [.ref p1,.ref p2,.ref p3]);have s6:=(((ak.upd g1 (o:=.tup [.ref pb,.ref pg])).to g2 (o:=.tup [.ref pg,.ref pb])).to g3 (o:=.tup [.ref pb,.ref pb])).to g4 (o:=.lst [.ref p1,.ref p2,.ref p3]);generalize upd (upd (upd (upd H4 p1 (.tup [.ref pb,.ref pg])) p2 (.tup [.ref pg,.ref pb])) p3 (.tup [.ref pb,.ref pb])) l4 (.lst [.ref p1,.ref p2,.ref p3])=H6 at *;refine⟨_,rfl,_,rfl,_,_,rfl,rfl,a,ns,_,_,rfl,hS5.same s6,by lia,by lia,by decide,by decide,hl,λe H7 e0 e1 s7=>?_⟩;obtain⟨k,rfl⟩:∃k:Nat,e=k:=⟨e.toNat,by lia⟩
   have hb7:=s7 _ _ (s6 _ _ hpb5);have hg7:=s7 _ _ (s6 _ _ hpg5);have:k=0∨k=1∨k=2:=by lia
   rcases this with rfl|rfl|rfl
   ·exact⟨l4,_,_,_,rfl,rfl,bq.of (s7 _ _ k4),aO (j:=0) rfl,p1,pb,pg,i,j,v.1,v.2,s7 _ _ k1,hb7,hg7,fi,fj,fv1,fv2,λy=>hnb y.1,s6.trans s7,rfl⟩
   ·exact⟨l4,_,_,_,rfl,rfl,bq.of (s7 _ _ k4),aO (j:=1) rfl,p2,pg,pb,v.1,v.2,i,j,s7 _ _ k2,hg7,hb7,fv1,fv2,fi,fj,λy=>hnb y.2,s6.trans s7,rfl⟩
   ·exact⟨l4,_,_,_,rfl,rfl,bq.of (s7 _ _ k4),aO (j:=2) rfl,p3,pb,pb,i,j,i,j,s7 _ _ k3,hb7,hb7,fi,fj,fi,fj,λy=>hnb y.1,s6.trans s7,rfl⟩
  rintro Z' H6 ⟨tp,q1,q2,c1,c2,c3,c4,htp,hq1,hq2,f1,f2,f3,f4,hno,s6,rfl⟩;exact ay (aP (cB bN (aN (jl T) hr.m rfl T.jv T.fN.kp T.fN.b5 .nil aH (aa (pv 2) (aa ao (aa aA (aa (aY cX (pv 9) ao (λ_ _=>rfl)) (aa (aY cX (pv 9) ao (λ_ _=>rfl)) ai)))))) aA (aD _))) ⟨_,rfl,_,rfl,tp,_,0,_,rfl,rfl,fB.of htp,aO (j:=0) rfl,_,rfl,tp,_,1,_,rfl,rfl,fB.of htp,aO (j:=1) rfl,x,q1,q2,Gs,sp,ds,us,1,_,c1,c2,c3,c4,"place",rfl,hB5.same s6,hq1,hq2,.inr (.inl ⟨rfl,rfl,f1,f2,f3,f4,λy z=>absurd ⟨y,z⟩ hno⟩),λH7 s7=>⟨rfl,q _ (s5.trans (s6.trans s7))⟩⟩
 rintro Z' H' ⟨rfl,e',n1⟩;rw[e'];clear e' H';refine aI (λZ' H'=>Z'=[some (.ref a),some (.int b),some (.ref x),some (.ref lr),some m,some (.int wy),some (.ref pb),some (.ref pg),some (.str st),none,none]/\H'=H4/\wy≠2) (aW (aB bN (pv 5) ao (aD _)) aq aq) ⟨_,rfl,rfl,_,rfl,dI (λz=>?_) λz=>bu ⟨rfl,rfl,λy=>z (by rw[y])⟩⟩ ?_
 ·exact ay (aP (cB bN (aN (jl T) hr.m rfl T.jv T.fN.kp T.fN.b5 .nil aH (aa (pv 2) (aa ao (aa aA (aa (pv 6) (aa (pv 6) ai)))))) aA (aD _))) ⟨_,rfl,_,rfl,_,rfl,x,pb,pb,Gs,sp,ds,us,2,_,i,j,i,j,"place",rfl,hB5,hpb5,hpb5,.inr (.inr (.inl ⟨rfl,by decide +kernel,.inr ⟨by decide +kernel,rfl,fi,fj,hnb⟩⟩)),λH5 s6=>⟨rfl,q _ (s5.trans s6)⟩⟩
 rintro Z' H' ⟨rfl,e',n2⟩;rw[e'];clear e' H';refine aI (λZ' H'=>Z'=[some (.ref a),some (.int b),some (.ref x),some (.ref lr),some m,some (.int wy),some (.ref pb),some (.ref pg),some (.str st),none,none]/\H'=H4/\wy≠3) (aW (aB bN (pv 5) ao (aD _)) aq aq) ⟨_,rfl,rfl,_,rfl,dI (λz=>?_) λz=>bu ⟨rfl,rfl,λy=>z (by rw[y])⟩⟩ ?_
 ·refine ay (aP (cB bN (aN (jl T) hr.m rfl T.jv T.fN.kp T.fN.b5 .nil aH (aa (pv 2) (aa ao (aa (pv 8) (aa (aY aQ (bD (aa (pv 6) (aa (pv 7) ai))) (aN (fH T) hr.m rfl T.fP T.cN.kp T.cN.b3 .nil aH (aa (pv 0) (aa (bh bX (pv 1) ao) (aa ao ai)))) (λ_ _=>rfl)) (aa (pv 6) ai)))))) aA (aD _))) ⟨_,rfl,_,rfl,_,rfl,_,rfl,by show 2<=sizeLine;decide,λl4 g4=>?_⟩;have s6:=ak.upd g4 (o:=.lst [.ref pb,.ref pg]);refine⟨_,rfl,_,rfl,_,_,rfl,rfl,a,ns,_,_,rfl,hS5.same s6,by lia,by lia,by decide,by decide,hl,λe H7 e0 e1 s7=>?_⟩;obtain⟨k,rfl⟩:∃k:Nat,e=k:=⟨e.toNat,by lia⟩
  have hb7:=s7 _ _ (s6 _ _ hpb5);have hg7:=s7 _ _ (s6 _ _ hpg5);have fin:∀H8,ak H7 H8->Q (.bl true) H8:=λH8 s8=>q _ (s5.trans ((s6.trans s7).trans s8));have:k=0∨k=1:=by lia
  rcases this with rfl|rfl
  ·exact⟨l4,_,_,_,rfl,rfl,bq.of (s7 _ _ af),aO (j:=0) rfl,_,rfl,x,pb,pb,Gs,sp,ds,us,2,st,i,j,i,j,"mark",rfl,(hB5.same s6).same s7,hb7,hb7,.inr (.inr (.inl ⟨rfl,o3,.inl ⟨o1,rfl,o2⟩⟩)),λH8 s8=>⟨rfl,fin H8 s8⟩⟩
  ·exact⟨l4,_,_,_,rfl,rfl,bq.of (s7 _ _ af),aO (j:=1) rfl,_,rfl,x,pg,pb,Gs,sp,ds,us,2,st,v.1,v.2,i,j,"mark",rfl,(hB5.same s6).same s7,hg7,hb7,.inr (.inr (.inl ⟨rfl,o3,.inl ⟨o1,rfl,o2⟩⟩)),λH8 s8=>⟨rfl,fin H8 s8⟩⟩
 rintro Z' H' ⟨rfl,e',n3⟩;rw[e'];clear e' H';refine aI (λZ' H'=>Z'=[some (.ref a),some (.int b),some (.ref x),some (.ref lr),some m,some (.int wy),some (.ref pb),some (.ref pg),some (.str st),none,none]/\H'=H4/\wy≠4) (aW (aB bN (pv 5) ao (aD _)) aq aq) ⟨_,rfl,rfl,_,rfl,dI (λz=>?_) λz=>bu ⟨rfl,rfl,λy=>z (by rw[y])⟩⟩ ?_
 ·refine au (cR 10 lV (cB bN (aN (jl T) hr.m rfl T.jv T.fN.kp T.fN.b5 .nil aH (aa (pv 2) (aa ao (aa aA (aa (pv 7) (aa (pv 7) ai)))))) aA (aD _))) ⟨_,rfl,_,rfl,_,rfl,x,pg,pg,Gs,sp,ds,us,3,_,v.1,v.2,v.1,v.2,"mark",rfl,hB5,hpg5,hpg5,.inr (.inr (.inr (.inl ⟨rfl,rfl,λy=>Of.2 (hnm _ y),Of.1⟩))),λH5 s6=>⟨rfl,?_⟩⟩;exact ay (aP (wV (pv 10) (nH (cB bN (aN (jl T) hr.m rfl T.jv T.fN.kp T.fN.b5 .nil aH (aa (pv 2) (aa ao (aa (pv 8) (aa (pv 7) (aa (pv 7) ai)))))) aA (aD _))))) ⟨_,rfl,true,rfl,kX ⟨_,rfl,_,rfl,_,rfl,_,rfl,x,pg,pg,Gs,sp,ds,us,3,st,v.1,v.2,v.1,v.2,"mark",rfl,hB5.same s6,s6 _ _ hpg5,s6 _ _ hpg5,.inr (.inr (.inr (.inl ⟨rfl,rfl,λy=>o4 (hnm _ y),o2⟩))),λH6 s7=>⟨rfl,q _ (s5.trans (s6.trans s7))⟩⟩⟩
 rintro Z' H' ⟨rfl,e',n4⟩;rw[e'];clear e' H';refine aI (λZ' H'=>∃l8 q1 q2 c1 c2 c3 c4,H' l8=some (.lst [.ref q1,.ref q2])/\H' q1=some (.tup [.int c1,.int c2])/\H' q2=some (.tup [.int c3,.int c4])/\jN c1/\jN c2/\jN c3/\jN c4 /\ ¬ HT.dY [c1,c2] [c3,c4]=true/\ak H4 H'/\Z'=[some (.ref a),some (.int b),some (.ref x),some (.ref lr),some m,some (.int wy),some (.ref pb),some (.ref pg),some (.str st),some (.ref l8),none]) (cR 9 lV (aM wB (by rfl) T.yy (by decide +kernel) (aa (bD (aa (pv 7) (aa (aN (E5 T) hr.m rfl T.Gw T.yW.kp T.yW.b3 .nil aH (aa (pv 0) (aa (bh bX (pv 1) ao) (aa (pv 3) ai)))) ai))) ai))) ?_ ?_
 ·refine⟨_,rfl,_,rfl,_,rfl,_,_,rfl,rfl,_,rfl,a,lr,ns,_,rs,rfl,hS5,hl,by lia,by lia,s5 _ _ hlr,hne,hrl,hrs1,λp2 u H6 hu hp2 np2 s6=>⟨by show 2<=sizeLine;decide,λl7 g7=>?_⟩⟩;have s7:=ak.upd g7 (o:=.lst [.ref pg,.ref p2]);have hub:=xV hrl hrs1 hu;refine⟨l7,pg,p2,v.1,v.2,u.1,u.2,rfl,bq.of af,fB.of (s7 _ _ (s6 _ _ hpg5)),fB.of (s7 _ _ hp2),λl8 g8=>?_⟩;have hb8:=ak.upd g8 (o:=.lst (if HT.dY [(v.1:Int),v.2] [(u.1:Int),u.2]=true then [.ref p2,.ref pg] else [.ref pg,.ref p2])) _ _ (s7 _ _ (s6 _ _ hpg5));have hp8:=ak.upd g8 (o:=.lst (if HT.dY [(v.1:Int),v.2] [(u.1:Int),u.2]=true then [.ref p2,.ref pg] else [.ref pg,.ref p2])) _ _ (s7 _ _ hp2);by_cases hx:HT.dY [(v.1:Int),v.2] [(u.1:Int),u.2]=true
  ·refine⟨l8,p2,pg,u.1,u.2,v.1,v.2,by rw[af,if_pos hx],hp8,hb8,mE hub.1,mE hub.2,fv1,fv2,λy=>?_,(s6.to g7).to g8,rfl⟩;have h1:=(Ro _ _ _ _).mp hx;have h2:=(Ro _ _ _ _).mp y;lia
  ·exact⟨l8,pg,p2,v.1,v.2,u.1,u.2,by rw[af,if_neg hx],hb8,hp8,fv1,fv2,mE hub.1,mE hub.2,hx,(s6.to g7).to g8,rfl⟩
 rintro Z' H6 ⟨l8,q1,q2,c1,c2,c3,c4,hl8,hq1,hq2,f1,f2,f3,f4,hno,s6,rfl⟩;refine ay (aP (L6 (cB (LD (ae9 (jE hr))) (aY aQ (pv 9) ao (λ_ _=>rfl)) (aY aQ (pv 9) ao (λ_ _=>rfl)) (aD _)) (nH (cB bN (aN (jl T) hr.m rfl T.jv T.fN.kp T.fN.b5 .nil aH (aa (pv 2) (aa ao (aa aA (aa (aY aQ (pv 9) ao (λ_ _=>rfl)) (aa (aY aQ (pv 9) ao (λ_ _=>rfl)) ai)))))) aA (aD _))))) ⟨_,rfl,l8,_,0,_,rfl,rfl,bq.of hl8,aO (j:=0) rfl,_,rfl,l8,_,1,_,rfl,rfl,bq.of hl8,aO (j:=1) rfl,q1,q2,_,_,rfl,rfl,fB.of hq1,fB.of hq2,rfl,rY id id [c1,c2] [c3,c4],?_⟩;refine⟨_,rfl,dI (λ_=>q _ (s5.trans s6)) λhne2=>?_⟩;refine⟨_,rfl,_,rfl,l8,_,1,_,rfl,rfl,bq.of hl8,aO (j:=1) rfl,_,rfl,l8,_,0,_,rfl,rfl,bq.of hl8,aO (j:=0) rfl,x,q2,q1,Gs,sp,ds,us,1,_,c3,c4,c1,c2,"place",rfl,hB5.same s6,hq2,hq1,.inr (.inl ⟨rfl,rfl,f3,f4,f1,f2,λ_ _=>?_⟩),λH7 s7=>⟨rfl,q _ (s5.trans (s6.trans s7))⟩⟩;rw[Ro] at hno ⊢;have:¬ (c1=c3/\c2=c4):=λy=>hne2 (by rw[y.1,y.2]);lia
inductive Uc(t:dU)(vs:List V)(H:Hp)(Q:VK)(_:XK):Prop|mk(e)(l)(xs)(y)(_:vs=[.ref e,.ref l,y])(_:H e=some (jw e t.bK none))(_:H l=some (.lst xs))(_:∀tp l2 dx H1,H1=upd (upd H tp (.tup xs)) l2 (.lst xs)->H tp=none->H l2=none->l2≠tp->H1 dx=none->Q .cD (upd (upd (upd H1 dx (.xd [("ring",.ref l2)])) e (jw e t.bK (some dx))) dx (.xd [("sign",y),("ring",.ref l2)])))
def Pw (T:Txt K mg t):bw P w K mg base dM 1 t.CA t.NR ["self","ring","sign"] (Uc t):=by
 refine T.NU.ok Ph λvs H Q E h=>?_;obtain⟨e,l,xs,y,rfl,he,hl,q⟩:=h;walk_at "i";have nel:l≠e:=λz=>by rw[z,he] at hl;cases hl
 refine au (aX (E7 rfl T.jQ T.kg.1 T.kg.2.1 T.kg.2.2 (aa (pv 0) (aa (cQ uw rfl T.LH rfl (aa (pv 1) ai)) (aa (pv 2) ai))))) ?_;refine⟨_,rfl,_,rfl,l,xs,rfl,.inl ⟨bq.of hl,λtp ftp=>⟨_,rfl,e,t.bK,none,_,rfl,?_,T.gZ.toExcC,by show 2<=sizeLine;decide,?_⟩⟩⟩
 ·rw[aj (λz=>by rw[← z,he] at ftp;cases ftp)];exact he
 have hl1:upd H tp (.tup xs) l=some (.lst xs):=by rw[aj (λz=>by rw[← z,hl] at ftp;cases ftp)];exact hl
 have he1:upd H tp (.tup xs) e=some (jw e t.bK none):=by rw[aj (λz=>by rw[← z,he] at ftp;cases ftp)];exact he
 refine au (Be (pv 0) (cQ gG rfl T.kh rfl (aa (pv 1) ai)) rfl) ⟨_,rfl,l,xs,rfl,.inl (bq.of hl1),λl2 f2=>?_⟩;have n2:l2≠tp:=λz=>by rw[z,af] at f2;cases f2
 have f2':H l2=none:=by rw[aj n2] at f2;exact f2
 have he2:upd (upd H tp (.tup xs)) l2 (.lst xs) e=some (jw e t.bK none):=by rw[aj (λz=>by rw[← z,he1] at f2;cases f2)];exact he1
 refine⟨_,rfl,e,_,rfl,T.gZ.toExcC,T.ko,.inl ⟨he2,λdx fr=>?_⟩⟩;have ne:dx≠e:=λz=>by rw[z,he2] at fr;cases fr
 exact ay (Be (pv 0) (pv 2) rfl) ⟨_,rfl,_,rfl,e,_,rfl,T.gZ.toExcC,T.i8,.inr ⟨dx,_,af,by rw[aj ne,af],by show 1<1000;decide,q tp l2 dx _ rfl ftp f2' n2 fr⟩⟩
def Rg (t:dU) (E:XK) (H:Hp) (xs:List V) (y:V):Prop:=∀e dx l2 H',H' e=some (gq e t.bK (some dx))->H' dx=some (.xd [("sign",y),("ring",.ref l2)])->H' l2=some (.lst xs)->ak H H'->E (.ref t.bK) (some e) H'
def Rg.go(h:Rg t E H xs y)(hl:H l=some (.lst xs))(he:H e=none):Uc t [.ref e,.ref l,y] (upd H e (jw e t.bK none)) (λv H3=>v = .cD/\∃d,H3 e=some (jw e t.bK d)/\E (.ref t.bK) (some e) (upd H3 e (gq e t.bK d))) E0:=by
 have nl:l≠e:=av hl he;refine⟨e,l,xs,y,rfl,af,by rw[aj nl];exact hl,λtp l2 dx H1 hH1 ftp f2 n2 fd=>⟨rfl,some dx,?_,?_⟩⟩
 ·subst hH1;have e1:e≠tp:=λz=>by rw[← z,af] at ftp;cases ftp
  have e2:e≠l2:=λz=>by rw[← z,af] at f2;cases f2
  have ed:e≠dx:=λz=>by rw[← z,aj e2,aj e1,af] at fd;cases fd
  rw[aj ed,af]
 ·subst hH1;have e1:e≠tp:=λz=>by rw[← z,af] at ftp;cases ftp
  have e2:e≠l2:=λz=>by rw[← z,af] at f2;cases f2
  have ed:e≠dx:=λz=>by rw[← z,aj e2,aj e1,af] at fd;cases fd
  have d2:l2≠dx:=λz=>by rw[← z,af] at fd;cases fd
  have d1:dx≠tp:=λz=>by rw[aj (aa3 d2),z,af] at fd;cases fd
  have ftp':H tp=none:=by rw[aj (aa3 e1)] at ftp;exact ftp
  have f2':H l2=none:=by rw[aj (aa3 e2)] at f2;exact f2
  have fd':H dx=none:=by rw[aj (aa3 d2),aj d1,aj (aa3 ed)] at fd;exact fd
  refine h e dx l2 _ af (by rw[aj (aa3 ed),af]) ?_ λb o hb=>?_
  ·rw[aj (aa3 e2),aj d2,aj (aa3 e2),aj d2,af]
  ·have n1:=av hb he;have n3:=av hb ftp';have n4:=av hb f2';have n5:=av hb fd';rw[aj n1,aj n5,aj n1,aj n5,aj n4,aj n3,aj n1];exact hb
inductive Lq(t:dU)(vs:List V)(H:Hp)(Q:VK)(E:XK):Prop|mk(a:Addr)(ms:List aE)(_:vs=[.ref a])(_:IsRules t H a ms)(_:cT ms)(_:(gC ms=none->∀H',ak H H'->Q .cD H'))(_:∀ring row,gC ms=some (ring,row)->Rg t E H ((ring.map (nameAt ms)).map V.str) (um row))
def uu (T:Txt K mg t):bw P w K mg base (j9 P w) 6 t.Bo t.Jx ["rules"] (Lq t):=by
 refine T.uD.A7 vR (λvs H Q E h=>?_) (λcdv A outer s H vs Q E hr h=>?_)
 ·obtain⟨a,ms,rfl,_⟩:=h;rfl
 ·obtain⟨a,ms,rfl,hR,G,q1,q2⟩:=h;refine au (cR 1 vR (aN (HK T) hr.m rfl T.HW T.yc.kp T.yc.b1 .nil aH (aa (pv 0) ai))) ⟨_,rfl,a,ms,rfl,hR,G,λH1 s1=>⟨λhn=>?_,λring row p l hm hp hl=>?_⟩⟩
  ·exact ay (aW (aB iY (pv 1) bL (aD _)) aq aq) ⟨_,rfl,rfl,_,rfl,lR (λh=>absurd rfl h) (λ_=>bu (q1 hn H1 s1))⟩
  ·refine ay (aW (aB iY (pv 1) bL (aD _)) aq aq) ⟨_,rfl,rfl,_,rfl,lR (λ_=>?_) (λh=>by cases h)⟩;have g:Rg t E H1 ((ring.map (nameAt ms)).map V.str) (um row):=λe dx l2 H' h1 h2 h3 h4=>q2 ring row hm e dx l2 H' h1 h2 h3 (s1.trans h4);exact ay (Du T.gZ.toExcC T.sF.1 T.sF.2.1 T.sF.2.2 (Pw T) T.NU.b3 hr.m rfl T.vG (aa (aY cX (pv 1) ao (λ_ _=>rfl)) (aa (aY cX (pv 1) ao (λ_ _=>rfl)) ai))) ⟨_,rfl,_,_,_,_,rfl,rfl,fB.of hp,aO (j:=0) rfl,_,rfl,_,_,_,_,rfl,rfl,fB.of hp,aO (j:=1) rfl,by show 2<=sizeLine;decide,λe he=>g.go hl he⟩
inductive GV(t:dU)(vs:List V)(H:Hp)(Q:VK)(E:XK):Prop|mk(x dx a:Addr)(ms:List aE)(v:V)(ring:List Nat)(row:Str)(_:vs=[.ref x,.ref a,v])(_:H x=some (.ins t.bf dx []))(_:IsRules t H a ms)(_:cT ms)(_:gC ms=some (ring,row))(_:Rg t E H ((ring.map (nameAt ms)).map V.str) (um row))
def mW (T:Txt K mg t):bw P w K mg base (j9 P w) 7 t.BN t.EY ["self","rules","rows"] (GV t):=by
 refine T.BX.A7 GS (λvs H Q E h=>?_) (λcdv A outer s H vs Q E hr h=>?_)
 ·obtain⟨x,dx,a,ms,v,ring,row,rfl,_⟩:=h;rfl
 ·obtain⟨x,dx,a,ms,v,ring,row,rfl,hx,hR,G,hm,g⟩:=h;refine au (aX (aN (uu T) hr.m rfl T.IY T.uD.kp T.uD.b1 .nil nh (aa (pv 1) ai))) ⟨_,rfl,a,ms,rfl,hR,G,(λhn=>by rw[hm] at hn;cases hn),λring2 row2 hm2=>?_⟩;rw[hm] at hm2;have hm2:=X8 hm2;injection hm2 with e1 e2
  subst e1 e2;exact g
inductive Gf(t:dU)(vs:List V)(H:Hp)(Q:VK)(E:XK):Prop|mk(x dx a:Addr)(ms:List aE)(v:V)(ring:List Nat)(row:Str)(_:vs=[.ref x,.ref a,v])(_:H x=some (.ins t.aG dx []))(_:IsRules t H a ms)(_:cT ms)(_:gC ms=some (ring,row))(_:Rg t E H ((ring.map (nameAt ms)).map V.str) (um row))
def mT (T:Txt K mg t):bw P w K mg base (j9 P w) 9 t.Bv t.JL ["self","rules","rows"] (Gf t):=by
 refine T.BK.A7 Ia (λvs H Q E h=>?_) (λcdv A outer s H vs Q E hr h=>?_)
 ·obtain⟨x,dx,a,ms,v,ring,row,rfl,_⟩:=h;rfl
 ·obtain⟨x,dx,a,ms,v,ring,row,rfl,hx,hR,G,hm,g⟩:=h;exact au (bT (pv 0) (dP T.uI (mW T) hr.m rfl T.rZ T.BX.b3 .nil nh (aa (pv 1) (aa (pv 2) ai))) rfl) ⟨_,rfl,_,rfl,λtt dt ntt ndt ne=>⟨tt,dt,a,ms,v,ring,row,rfl,af,hR.same (bP ntt ndt),G,hm,λe dx2 l2 H' h1 h2 h3 h4=>g e dx2 l2 H' h1 h2 h3 ((bP ntt ndt).trans h4)⟩⟩
structure HS(ms:List aE):Prop where
 pos:0<ms.length/\ms.length<=12/\(ms.map (·.name)).Nodup
 ok:∀m∈ms,isName m.name=true/\isName m.aU=true/\m.rules.length<=12/\∀R∈m.rules,iT ms.length (zp R)=true/\(bE R.sort=true->R.aU∈(["red","blue","green","plain","redder"]:List Str))/\(bE R.sort=false->R.aU = "")
def HS.fit(h:HS ms):Dn ms :=
 ⟨h.pos.1,h.pos.2.1,h.pos.2.2,λm hm=>⟨(h.ok m hm).1,(h.ok m hm).2.1⟩,λm hm=>(h.ok m hm).2.2.1,λm hm R hR=>qz (by rw[d6];exact((h.ok m hm).2.2.2 R hR).1) ((h.ok m hm).2.2.2 R hR).2.1 ((h.ok m hm).2.2.2 R hR).2.2⟩
def W7:List aE:=[⟨"a","red",[⟨"still","","","push",some 1,""⟩]⟩,⟨"b","red",[⟨"still","","","pop",none,""⟩]⟩]
def Wy:List aE:=[⟨"a","red",[⟨"end","","","stay",none,""⟩]⟩]
def Xs:List aE:=[⟨"a","red",[⟨"any","","red","push",some 1,""⟩]⟩,⟨"b","x",[⟨"still","","","into",some 1,""⟩]⟩]
def Wh (ms:List aE) (z:Str):Prop:=z=Str.join ⟨#[10]⟩ (rowsOf (itemsOf ms))/\∃ring row,gC ms=some (ring,row)/\(ring≠[]/\ring.length<=1000)/\(row = "" ∨ row.length=1)
def Fl  (h:((gC ms).map λx=>decide (x.1≠[]/\x.1.length<=1000) && (decide (x.2=("" : Str)) || decide (x.2.length=1)))=some true):∃ring row,gC ms=some (ring,row)/\(ring≠[]/\ring.length<=1000)/\(row = "" ∨ row.length=1):=by
 cases e:gC ms with
 |none=>rw[e] at h;cases h
 |some x =>
  rw[e] at h;simp only[ad7,af0,aa9,Bool.or_eq_true,aa8] at h;exact⟨x.1,x.2,rfl,h⟩
def G7:HS W7/\Wh W7 "mode a red\nstill push b\nmode b red\nstill pop" := ⟨⟨by decide +kernel,by decide +kernel⟩,by decide +kernel,Fl (by decide +kernel)⟩
def G8:HS Wy/\Wh Wy "mode a red\nend stay" := ⟨⟨by decide +kernel,by decide +kernel⟩,by decide +kernel,Fl (by decide +kernel)⟩
def GU:HS Xs/\Wh Xs "mode a red\nany red push b\nmode b x\nstill into b" := ⟨⟨by decide +kernel,by decide +kernel⟩,by decide +kernel,Fl (by decide +kernel)⟩
abbrev Po:List Str:=["mode a red\nstill push b\nmode b red\nstill pop","mode a red\nend stay","mode a red\nany red push b\nmode b x\nstill into b"]
def Qm:∀z∈Po,∃ms,Dn ms/\Wh ms z:=λz hz=>by
 simp only[y0,X1,ac3] at hz;rcases hz with rfl|rfl|rfl
 ·exact⟨W7,G7.1.fit,G7.2⟩
 ·exact⟨Wy,G8.1.fit,G8.2⟩
 ·exact⟨Xs,GU.1.fit,GU.2⟩
def Xa (t:dU) (H:Hp):Hp->Addr->Prop:=λH' e=>ak H H'/\∃(row:Str) (dx l2:Addr) (xs:List V),xs≠[]/\xs.length<=100000/\(row = "" ∨ row.length=1)/\H' e=some (gq e t.bK (some dx))/\H' dx=some (.xd [("sign",um row),("ring",.ref l2)])/\H' l2=some (.lst xs)
inductive KY(K:PySem.W.Frag)(vs:List V)(H:Hp)(Q:VK)(_:XK):Prop|mk(a:Addr)(ns:List Int)(_:vs=[.ref a])(_:bq K H a (ns.map V.int))(_:ns.length<=63)(_:∀H',ak H H'->Q (.bl true) H')
def SR (T:Txt K mg t):bw P w K mg base dM 11 t.Ib t.Ol ["_law_script"] (KY K):=by
 refine T.Eb.ok sr λvs H Q E h=>?_;obtain⟨a,ns,rfl,hS,hl,q⟩:=h;walk_at "i";refine au (cR 1 sr (bD (aa aA (aa aA ai)))) ⟨by show 2<=sizeLine;decide,λls gs=>?_⟩;refine au (aX (dF Y8 Y6 aa0 bZ (pv 1) (aa aA ai))) ⟨_,rfl,.inl ⟨rfl,_,bq.of af⟩,ls,_,_,rfl,rfl,af,by show 2<sizeLine;decide,?_⟩;rw[eO];have hls:upd H ls (.lst (Po.map V.str)) ls=some (.lst (Po.map V.str)):=af;have s1:ak H (upd H ls (.lst (Po.map V.str))):=ak.upd gs;show At _ _ _ [some (.ref a),some (.ref ls),none,none] (upd H ls (.lst (Po.map V.str)));generalize upd H ls (.lst (Po.map V.str))=H1 at *;refine au (cR 2 sr bL) ?_;show At _ _ _ [some (.ref a),some (.ref ls),some .cD,none] H1;refine aI (λZ' H'=>∃e y,Z'=[some (.ref a),some (.ref ls),some (.ref e),y]/\Xa t H1 H' e) (Cb (i:=3) rfl rfl sr.nd rfl rfl rfl T.jQ (by decide) T.qH.at_) ?_ ?_
 ·refine⟨λZ' C e H'=>Z'=[some (.ref a),some (.ref ls),some .cD,none]/\C=t.bK/\Xa t H1 H' e,λpins=>?_,?_⟩
  ·refine ay (aX (F5 T.uY (mT T) hr.m rfl T.tK T.BK.b3 .nil (aa (aN (Ec T) hr.m rfl T.Ji T.xB.kp T.xB.b1 .nil aH (aa (aY aQ (pv 1) (aN (fH T) hr.m rfl T.fP T.cN.kp T.cN.b3 .nil aH (aa (pv 0) (aa ao (aa ao ai)))) (λ_ _=>rfl)) ai)) (aa (bD (aa aA ai)) ai)))) ⟨_,rfl,_,rfl,a,ns,_,_,rfl,hS.same s1,by decide,by decide,by decide,by decide,hl,λd H2 h0 h1 s2=>?_⟩;obtain⟨z,hz,hat⟩:=pick (xs:=Po) h0 h1;obtain⟨ms,B,hzt,ring,row,hm,hr0,hrow⟩:=Qm z hz;refine⟨ls,_,_,_,rfl,rfl,bq.of (s2 _ _ hls),hat,itemsOf ms,by rw[hzt];rfl,B.items,B.Ax,λr H3 hR s3=>⟨by show 1<=sizeLine;decide,λl4 g4=>?_⟩⟩;rw[sW] at hR;refine⟨λCv eo H'=>∃e,Cv = .ref t.bK/\eo=some e/\Xa t H1 H' e,jc rfl rfl (λC e H'=>?_),λx dx nx ndx ne=>⟨x,dx,r,ms,_,ring,row,rfl,af,(hR.same (ak.upd g4)).same (bP nx ndx),B.good,hm,λe dx2 l2 H' k1 k2 k3 k4=>⟨e,rfl,rfl,(s2.trans s3).trans ((ak.upd g4).trans ((bP nx ndx).trans k4)),row,dx2,l2,_,?_,?_,hrow,k1,k2,k3⟩⟩⟩
   ·rintro⟨e2,z1,z2,h3⟩;cases z1;cases z2;exact⟨rfl,rfl,h3⟩
   ·intro y;exact hr0.1 (List.map_eq_nil_iff.mp (List.map_eq_nil_iff.mp y))
   ·rw[d6,d6];exact X6 hr0.2 (by decide)
  ·rintro Z' C e H3 ⟨rfl,rfl,hX⟩;exact⟨T.gZ.at_,T.nX,ay (cR 2 sr (pv 3)) ⟨_,rfl,e,_,rfl,hX⟩⟩
 rintro Z' H3 ⟨e,y,rfl,s3,row,dx,l2,xs,hxs,hxl,hrow,he,hdx,hl2⟩;have hd:∀{H2:Hp},ak H3 H2->∀d',some dx=some d'->∃fs,H2 d'=some (.xd fs):=λs d' z=>by cases z;exact⟨_,s _ _ hdx⟩
 refine aI (λZ' H'=>Z'=[some (.ref a),some (.ref ls),some (.ref e),y]/\ak H3 H') (aW (PW.pt (iX (aB kJ (aN (Ed T) hr.m rfl T.F1 T.xu.kp T.xu.b1 .nil aH (aa (pv 2) ai)) aA (aD _)) (iX (gQ (eN (aM yX (by rfl) T.dR (by decide +kernel) (aa (oF (pv 2) rfl) (aa (wc (v:=V.ty "list") (u:=Value.type "list") rfl T.kh (by decide +kernel) rfl) ai))))) (gI (aB bN (aM aS (by rfl) T.bW (by decide +kernel) (aa (oF (pv 2) rfl) ai)) ao (aD _)))))) aq aq) ⟨_,rfl,e,_,some dx,false,false,false,true,"rings",rfl,he,hd (ak.refl _),Ek T,rfl,λH4 s4=>⟨rfl,_,rfl,lR (λz=>absurd rfl z) λ_=>?_⟩⟩ ?_
 ·refine⟨_,rfl,e,_,dx,_,_,_,rfl,s4 _ _ he,.inl rfl,s4 _ _ hdx,T.gZ.toExcC,T.ko,rfl,_,_,"list",_,true,rfl,.inl rfl,.lst (s4 _ _ hl2),T.wD,true,rfl,ji ⟨_,rfl,e,_,dx,_,_,_,rfl,s4 _ _ he,.inl rfl,s4 _ _ hdx,T.gZ.toExcC,T.ko,rfl,l2,_,rfl,.inl (bq.of (s4 _ _ hl2)),rfl,_,rfl,dI (λz=>?_) λ_=>bu ⟨rfl,s4⟩⟩⟩;have:=V.int.inj z;exact absurd (ag2.mp (by lia)) hxs
 rintro Z' H4 ⟨rfl,s4⟩;refine ay (aP (L6 (cB qA (oF (pv 2) rfl) bL (aD _)) (nH (wV (aM yX (by rfl) T.dR (by decide +kernel) (aa (oF (pv 2) rfl) (aa (wc (v:=V.ty "str") (u:=Value.type "str") rfl T.VF (by decide +kernel) rfl) ai))) (nH (cB bN (aM bJ (by rfl) T.bW (by decide +kernel) (aa (oF (pv 2) rfl) ai)) ao (aD _))))))) ⟨_,rfl,e,_,dx,_,_,_,rfl,s4 _ _ he,.inl rfl,s4 _ _ hdx,T.gZ.toExcC,T.i8,rfl,?_⟩;refine⟨rfl,_,rfl,?_⟩;have hq:=q _ (s1.trans (s3.trans s4));by_cases hr1:row = ""
 ·rw[show um row = .cD from if_pos hr1];exact dI (λ_=>hq) λz=>absurd rfl z
 ·have hl1:row.length=1:=hrow.resolve_left hr1;have hv:um row = .str row:=if_neg hr1;rw[hv];refine dI (λz=>by cases z) λ_=>?_;refine⟨_,rfl,e,_,dx,_,_,_,rfl,s4 _ _ he,.inl rfl,s4 _ _ hdx,T.gZ.toExcC,T.i8,rfl,_,_,"str",_,true,rfl,.inl rfl,by rw[hv];exact .str _,T.Ak,true,rfl,kX ⟨_,rfl,e,_,dx,_,_,_,rfl,s4 _ _ he,.inl rfl,s4 _ _ hdx,T.gZ.toExcC,T.i8,rfl,row,by rw[hv],b7 (by lia),rfl,?_⟩⟩;rw[hl1];exact hq
def zt:Nat->Str
 |0=>Str.ofString "a"
 |_=>Str.ofString "(\na"
def KD:Nat->Nat×Nat
 |0=>(0,0)
 |1=>(0,1)
 |_=>(1,2)
def fr(h:Str):Nat->Str
 |0=>h
 |_=>Str.ofString "a" ++ h
def HQ(h:Str):Nat->List Str
 |0=>[Str.ofString "a" ++ h]
 |_=>[Str.ofString "(",Str.ofString "a" ++ (Str.ofString "a" ++ h)]
def rws(h:Str)(r:List Str):Nat->List Str
 |0=>h::r
 |1=>(Str.ofString "a" ++ h)::r
 |_=>Str.ofString "(" :: (Str.ofString "a" ++ (Str.ofString "a" ++ h))::r
def zI(h:Str)(r:List Str)(hk:k<2):∃y,rws h r k=fr h k::r/\y=():=by
 match k,hk with
 |0,_=>exact⟨(),rfl,rfl⟩
 |1,_=>exact⟨(),rfl,rfl⟩
def lN(h:Str)(r:List Str)(hk:k<2):rws h r (k+1)=HQ h k++r:=by
 match k,hk with
 |0,_=>rfl
 |1,_=>rfl
def yw(x z:Str):(pS x 0 z).cps.toList=z.cps.toList++x.cps.toList:=by have:=J4 (x:=x) (z:=z) (j:=0) (X5 _);simpa using this
def tP{x y:Str}(hx:10∉x.cps.toList)(hy:10∉y.cps.toList):10∉(x++y).cps.toList:=by rw[dW];exact λz=>(aa1.mp z).elim hx hy
def El  (hn:10∉h.cps.toList)  (hk:k<2):PySem.Txt.split (pS (fr h k) 0 (zt k)) (Str.ofString "\n")=HQ h k:=by
 rw[show (Str.ofString "\n")=⟨#[10]⟩ by decide +kernel];have ha:10∉(Str.ofString "a").cps.toList:=by decide +kernel
 match k,hk with
 |0,_ =>
  have e:pS h 0 (Str.ofString "a")=Str.join ⟨#[10]⟩ [Str.ofString "a" ++ h]:=kE (by rw[yw,fK];show _=(Str.ofString "a" ++ h).cps.toList;rw[dW]);show PySem.Txt.split (pS h 0 (Str.ofString "a")) _=_;rw[e];exact je (by simp) λp hp=>by rw[v6.mp hp];exact tP ha hn
 |1,_ =>
  have e:pS (Str.ofString "a" ++ h) 0 (Str.ofString "(\na")=Str.join ⟨#[10]⟩ [Str.ofString "(",Str.ofString "a" ++ (Str.ofString "a" ++ h)]:=kE (by rw[yw,fK];show _=(Str.ofString "(").cps.toList++10::(Str.ofString "a" ++ (Str.ofString "a" ++ h)).cps.toList;rw[dW,dW,dW,show (Str.ofString "(\na").cps.toList=(Str.ofString "(").cps.toList++10::(Str.ofString "a").cps.toList by decide +kernel];simp)
  show PySem.Txt.split (pS (Str.ofString "a" ++ h) 0 (Str.ofString "(\na")) _=_;rw[e];refine je (by simp) λp hp=>?_;rcases y0.mp hp with rfl|hp
  ·decide +kernel
  ·rw[v6.mp hp];exact tP ha (tP ha hn)
def FD:∀k<2,(zt k).length<=1000/\w9 (KD k) (0,0) (zt k)=KD (k+1)/\Ql (zt k) (Str.ofString "\n")=k:=by decide +kernel
def vS(h:Str)(hk:k<2):(HQ h k).length=k+1:=by
 match k,hk with
 |0,_=>rfl
 |1,_=>rfl
def V1{xs:List V}{n:Nat}(hn:n<=xs.length):cH xs (some ((0:Nat):Int)) (some (n:Int))=xs.take n:=by rw[cH,HT.mR,HT.mR,Nat.zero_min,af8 hn];rfl
structure wL(rs:List Str):Prop where
 row:∀r∈rs,r.length<=100/\∀c∈r.cps.toList,c∈fT.cps.toList
 tot:tot rs<=200
 len:rs.length<=10
def nW(H:∀y∈h::r,qE y)(hl:(h::r).length<=4)(hk:k<=2):wL (rws h r k):=by
 have hb:∀y∈h::r,y.length<=6/\∀c∈y.cps.toList,c∈fT.cps.toList:=λy hy=>⟨(H y hy).le,λc hc=>Qw c ((H y hy).ch c hc)⟩
 have ht:=CD (h::r) (λy hy=>(hb y hy).1);obtain⟨h1,h2⟩:=hb h X9;have hr:∀y∈r,y.length<=100/\∀c∈y.cps.toList,c∈fT.cps.toList:=λy hy=>⟨X6 (hb y (D1 _ hy)).1 (by decide),(hb y (D1 _ hy)).2⟩
 have ka:(Str.ofString "a").length=1/\(∀c∈(Str.ofString "a").cps.toList,c∈fT.cps.toList)/\(Str.ofString "(").length=1/\∀c∈(Str.ofString "(").cps.toList,c∈fT.cps.toList:=by decide +kernel
 obtain⟨a1,a2,p1,p2⟩:=ka;have app:∀{y:Str},(∀c∈y.cps.toList,c∈fT.cps.toList)->∀c∈(Str.ofString "a" ++ y).cps.toList,c∈fT.cps.toList:=λhy c hc=>by rw[dW] at hc;exact(aa1.mp hc).elim (a2 c) (hy c)
 have e1:(Str.ofString "a" ++ h).length=1+h.length:=by rw[ah9,a1]
 have e2:(Str.ofString "a" ++ (Str.ofString "a" ++ h)).length=1+(1+h.length):=by rw[ah9,a1,e1]
 rw[Y5,ah8,x0] at ht;rw[x0] at hl;match k,hk with
 |0,_=>exact⟨λy hy=>by
   rcases y0.mp hy with rfl|hy
   ·exact⟨by lia,h2⟩
   ·exact hr y hy,by show tot (h::r)<=_;rw[jU];show h.length+(r.map λx=>x.length).sum<=_;lia,by show r.length+1<=10;lia⟩
 |1,_=>exact⟨λy hy=>by
   rcases y0.mp hy with rfl|hy
   ·exact⟨by lia,app h2⟩
   ·exact hr y hy,by show tot (_::r)<=_;rw[jU,e1];show _+(r.map λx=>x.length).sum<=_;lia,by show r.length+1<=10;lia⟩
 |2,_=>exact⟨λy hy=>by
   rcases y0.mp hy with rfl|hy
   ·exact⟨by lia,p2⟩
   rcases y0.mp hy with rfl|hy
   ·exact⟨by lia,app (app h2)⟩
   ·exact hr y hy,by show tot (_::_::r)<=_;rw[jU,jU,p1,e2];show _+(_+(r.map λx=>x.length).sum)<=_;lia,by show r.length+1+1<=10;lia⟩
def mP(w:Nat)(O:c.Ok)(H:∀y∈h::r,qE y)(hl:(h::r).length<=4)(hk:k<=2):∃Gs,Chain (make w c) [0] (rws h r k) Gs:=by have R:=nW H hl hk;have g:=(gi w O).pos;have t1:=R.tot;have t2:=R.len;exact uG (λr hr=>DT w O r hr) _ [0] ⟨by simp,λx hx=>by rw[v6.mp hx];exact g⟩ (λy hy=>⟨X6 (R.row y hy).1 (by decide),(R.row y hy).2⟩) (by show 4*1+_+_<=_;lia)
structure kI where
 dd:Addr
 kQ:Addr
 lt:Addr
 lv:Addr
 da:Addr
def Lk (t:dU) (S:Addr->Prop) (H:Hp) (h:Str) (r:List Str) (k:Nat) (b:V) (D:kI):Prop:=H D.dd=some (.ins t.cJ D.kQ (df 0 D.lt D.lv D.da b))/\hid S H D.lt=some (.lst ([fr h k].map V.str))/\hid S H D.lv=some (.lst ((HQ h k).map V.str))/\DP (hid S H) D.da [(Str.ofString "a",KD k)]
structure LS(K:PySem.W.Frag)(t:dU)(S:Addr->Prop)(H:Hp)(sc:Addr)(ns:List Int)(x dx tt dt a ld lu:Addr)(ms:List aE)(h:Str)(r:List Str)(m:Nat)(ds us:List kI):Prop where
 al:bq K (hid S H) sc (ns.map V.int)
 ob:∃d,H x=some (.ins t.aG dx (sf tt d ld lu))/\DP (hid S H) d [(Str.ofString "a",KD m)]
 ti:∃lg gs Gs,bG t (hid S H) tt dt a lg gs ms Gs/\Chain ms [0] (rws h r m) Gs
 sx:S x/\S ld/\S lu/\∀D∈ds++us,S D.dd
 ne:ld≠lu
 ex:Ex S H
 len:ds.length=m/\m<=2/\us.length<=10
 dn:H ld=some (.lst (ds.map λD=>.ref D.dd))
 un:H lu=some (.lst (us.map λD=>.ref D.dd))
 dd:∀(k:Nat) D,ds[k]?=some D->∃b,Lk t S H h r k b D
 ud:∀D us',us=us'++[D]->∃db,Lk t S H h r m (.ref db) D/\DP (hid S H) db [(Str.ofString "a",KD (m+1))]
 nd:((ds++us).map (·.dd)).Nodup
def LS.same(L:LS K t S H sc ns x dx tt dt a ld lu ms h r m ds us)(s:ak H H'):LS K t S H' sc ns x dx tt dt a ld lu ms h r m ds us:=by
 obtain⟨d,o1,o2⟩:=L.ob;obtain⟨lg,gs,Gs,i1,i2⟩:=L.ti;have dat:∀{k b D},Lk t S H h r k b D->Lk t S H' h r k b D:=λz=>⟨s _ _ z.1,aT s _ _ z.2.1,aT s _ _ z.2.2.1,z.2.2.2.same (aT s)⟩
 exact⟨L.al.same (aT s),⟨d,s _ _ o1,o2.same (aT s)⟩,⟨lg,gs,Gs,i1.same (aT s),i2⟩,L.sx,L.ne,L.ex.same s,L.len,s _ _ L.dn,s _ _ L.un,λk D e=>let ⟨b,z⟩:=L.dd k D e;⟨b,dat z⟩,λD us' e=>let ⟨db,z,y⟩:=L.ud D us' e;⟨db,dat z,y.same (aT s)⟩,L.nd⟩
def bq.BC(h:bq K H a xs)(f:∀o,H a=some o->(∃ys,o = .lst ys∨∃u,o = .nq u (.lst ys))->H' a=some o):bq K H' a xs:=by
 rcases h with (h|⟨o,h⟩)|h
 ·exact .inl (.inl (f _ h ⟨_,.inl rfl⟩))
 ·exact .inl (.inr ⟨o,f _ h ⟨_,.inr ⟨_,rfl⟩⟩⟩)
 ·exact .inr h
def DP.zo(h:DP H d sp)(f:∀b o,H b=some o->(∀C y fs,o ≠ .ins C y fs)->H' b=some o):DP H' d sp:=by obtain⟨ps,h1⟩:=h;exact⟨ps,h1.len,f _ _ h1.ob (λ_ _ _ z=>by cases z),h1.pl.mono λ_ _ e=>f _ _ e (λ_ _ _ z=>by cases z)⟩
def Lk.only(z:Lk t S H h r k b D)(g:H' D.dd=some (.ins t.cJ D.kQ (df 0 D.lt D.lv D.da b')))(f:∀b o,hid S H b=some o->(∀C y fs,o ≠ .ins C y fs)->hid S' H' b=some o):Lk t S' H' h r k b' D :=
 ⟨g,f _ _ z.2.1 (λ_ _ _ y=>by cases y),f _ _ z.2.2.1 (λ_ _ _ y=>by cases y),z.2.2.2.zo f⟩
def yS (p:Nat×Nat):cS [(Str.ofString "a",p)]=[Str.ofString "a"]:=rfl
def RZ:∀k≤2,(KD k).1<=100000/\(KD k).2<=100000:=by decide
structure Cw(w:Nat)(c:mV)(h:Str)(r:List Str):Prop where
 O:c.Ok
 rows:∀y∈h::r,qE y
 len:(h::r).length<=4
def LS.put(A:Cw w' c h r)(L:LS K t S H sc ns x dx tt dt a ld lu (make w' c) h r m ds [])(hm:m<2)
  (q:∀n S' lu' D H',LS K t S' H' sc ns x dx tt dt a ld lu' (make w' c) h r (m+1) (ds++[D]) []->(∀b o,hid S H b=some o->(∀C y fs,o ≠ .ins C y fs)->hid S' H' b=some o)->Q (.int n) H'):JB t [.ref x,.int 0,.int 0,.str (zt m)] H Q E:=by
 obtain⟨d,o1,o2⟩:=L.ob;obtain⟨lg,gs,Gs,i1,i2⟩:=L.ti;obtain⟨sx,sl,su,sd⟩:=L.sx;obtain⟨_,er,_⟩:=zI h r hm;obtain⟨Gs',i3⟩:=mP w' A.O A.rows A.len (k:=m+1) (by lia);have R:=nW A.rows A.len (k:=m) (by lia);have R':=nW A.rows A.len (k:=m+1) (by lia);obtain⟨z1,z2,z3⟩:=FD m hm;have hn:10∉h.cps.toList:=(A.rows h X9).nl;have en:rws h r (m+1)=(rws h r m).take 0++HQ h m++(rws h r m).drop (0+1):=by rw[lN h r hm,er];rfl
 have hrl:0+1<=(rws h r m).length:=by rw[er,x0];lia
 rw[en] at i3;obtain⟨ah,bk,Gm,cc,hC,_⟩:=nM i2 hrl i3;rw[← en] at i3;have eG:Gs.map (·.row)=rws h r m:=i2.rows;have eG':Gs'.map (·.row)=rws h r (m+1):=i3.rows;have lG:=i2.len;have lG':=i3.len;have R1:=R.len;have R2:=R'.len;obtain⟨G,hG⟩:∃G,Gs[0]?=some G:=⟨Gs[0]'(by lia),i4 _⟩
 have hGr:G.row=fr h m:=by have:=ac1 (λl=>l[0]?) eG;simp only[B1,hG,er] at this;exact X8 this
 have hGl:G.row.length<=1000:=by rw[hGr];exact X6 (R.row _ (by rw[er];exact X9)).1 (by decide)
 have hfl:=vS h hm;refine⟨S,x,dx,tt,d,ld,lu,dt,a,lg,gs,make w' c,Gs,G,[(Str.ofString "a",KD m)],ds.map λD=>.ref D.dd,0,0,zt m,HQ h m,ah,bk,Gm,cc,Gs',rfl,sx,sl,L.ex,o1,i1,o2,by rw[yS];decide,by show 1<64;decide,λy hy=>by rw[v6.mp hy];exact RZ m (by lia),L.dn,by rw[d6,L.len.1];lia,(gi w' A.O).good,hG,X5 _,hGl,z1,by rw[hGr];exact El hn hm,by lia,by lia,by lia,(λy=>by rw[y] at hfl;simp at hfl),hC,λH' D4=>?_⟩;obtain⟨⟨d',lu',dd,kQ,lt,lv,lg',gs',e1,e2,e3,e4,e5,e6,e7,e8,f1,f2,f3,f4,f5,n1,n2⟩,keep⟩:=D4;have nS:¬ S tt:=bR i1.ob;have htt:=aC _ _ i1.ob;have kp:∀b o,hid S H b=some o->(∀C y fs,o ≠ .ins C y fs)->hid (λc=>(S c∨c=dd)∨c=lu') H' b=some o:=λb o e n=>by
  have e':=aC _ _ e;have nb:=bR e;refine bA (keep b o e' (λz=>nb (z ▸ sx)) (λz=>by rw[z,htt] at e';exact n _ _ _ (X8 e').symm) (λz=>nb (z ▸ sl))) ?_;rintro ((y|y)|y)
  ·exact nb y
  ·rw[y,f2] at e';cases e'
  ·rw[y,f5] at e';cases e'
 have mk:∀{b xs},H' b=some (HO.lst xs)->H b=none->b≠lu'->hid (λc=>(S c∨c=dd)∨c=lu') H' b=some (.lst xs):=λ{b xs} e z nb=>bA e (by
  rintro ((y|y)|y)
  ·exact L.ex.new z y
  ·rw[y,e6] at e;cases e
  ·exact nb y)
 refine q _ (λc=>(S c∨c=dd)∨c=lu') lu' ⟨dd,kQ,lt,lv,d⟩ H' ⟨K64.bq.BC L.al λo e ho=>kp _ _ e (λC y fs z=>?_),⟨d',e1,?_⟩,⟨lg',gs',Gs',e2,i3⟩,⟨.inl (.inl sx),.inl (.inl sl),.inr rfl,λD hD=>?_⟩,λz=>?_,λb y=>?_,⟨by rw[o0,L.len.1];rfl,by lia,X5 _⟩,by rw[P2];exact e5,e4,λk D hD=>?_,(λD us' y=>by simp at y),?_⟩ kp
 ·obtain⟨ys,y|⟨u,y⟩⟩:=ho <;> rw[y] at z <;> cases z
 ·rw[← z2];exact e3
 ·rw[ab2] at hD;rcases aa1.mp hD with y|y
  ·exact .inl (.inl (sd D (aa7 _ y)))
  ·rw[v6.mp y];exact .inl (.inr rfl)
 ·have:=L.dn;rw[z,f5] at this;cases this
 ·rcases y with (y|y)|y
  ·by_cases y1:b=x
   ·exact⟨_,by rw[y1];exact e1⟩
   ·by_cases y2:b=ld
    ·exact⟨_,by rw[y2];exact e5⟩
    ·obtain⟨o,ho⟩:=L.ex b y;exact⟨o,keep b o ho y1 (λz=>nS (z ▸ y)) y2⟩
  ·exact⟨_,by rw[y];exact e6⟩
  ·exact⟨_,by rw[y];exact e4⟩
 ·by_cases hk:k<ds.length
  ·rw[Y9 hk] at hD;obtain⟨b,z⟩:=L.dd k D hD;have hSd:=sd D (aa7 _ (u8 hD));refine⟨b,z.only (keep _ _ z.1 (λy=>?_) (λy=>nS (y ▸ hSd)) (λy=>?_)) kp⟩
   ·exact xK z.1 o1 (by decide) y
   ·have:=z.1;rw[y,L.dn] at this;cases this
  ·rw[X3 (by lia)] at hD;have hk0:k-ds.length=0:=by have:=(i5.mp hD).1;rw[aa4] at this;lia
   rw[hk0] at hD;cases hD;have hkm:k=m:=by have:=L.len.1;lia
   subst hkm;refine⟨.cD,e6,?_,?_,o2.zo kp⟩
   ·have:=mk e7 f3 n1;rw[this];congr 2;rw[eG,show (some (((0:Nat):Int)+1))=some ((1:Nat):Int) from rfl,V1 (by rw[d6];lia),er];rfl
   ·have:=mk e8 f4 n2;rw[this];congr 2;rw[eG',z3,show (some (((0:Nat):Int)+(((k:Nat):Int)+1)))=some ((k+1:Nat):Int) by congr 1;lia,V1 (by rw[d6,lN h r hm,o0];lia),← ak1,lN h r hm,← hfl,List.take_left]
 ·rw[ab2,P2,ad2];have:=L.nd;rw[ab2] at this;refine⟨this,by simp,λy hy z hz=>?_⟩;rw[v6.mp hz];obtain⟨D,hD,rfl⟩:=aa2.mp hy;obtain⟨k,hk⟩:=ab0.mp hD;obtain⟨b,zz⟩:=L.dd k D hk;intro w;have:=zz.1;rw[w,f2] at this;cases this
def LS.Vc(A:Cw w' c h r)(L:LS K t S H sc ns x dx tt dt a ld lu (make w' c) h r (k+1) (ds++[D]) us)(hu:us.length<=5)
  (q:∀n H',LS K t S H' sc ns x dx tt dt a ld lu (make w' c) h r k ds (us++[D])->(∀b o,hid S H b=some o->(∀C y fs,o ≠ .ins C y fs)->hid S H' b=some o)->Q (.int n) H'):A9 t [.ref x] H Q E:=by
 obtain⟨d,o1,o2⟩:=L.ob;obtain⟨lg,gs,Gs,i1,i2⟩:=L.ti;obtain⟨sx,sl,su,sd⟩:=L.sx;obtain⟨ln1,ln2,ln3⟩:=L.len;have hm:k<2:=by lia
 have hdl:ds.length=k:=by rw[o0,aa4] at ln1;lia
 obtain⟨_,er,_⟩:=zI h r hm;obtain⟨Gs',i3⟩:=mP w' A.O A.rows A.len (k:=k) (by lia);have R:=nW A.rows A.len (k:=k) (by lia);have R':=nW A.rows A.len (k:=k+1) (by lia);have hfl:=vS h hm;have er':=lN h r hm;have en:rws h r k=(rws h r (k+1)).take 0++[fr h k]++(rws h r (k+1)).drop (0+(HQ h k).length):=by rw[er',Nat.zero_add,List.drop_left,er];rfl
 have hle:0+(HQ h k).length<=(rws h r (k+1)).length:=by rw[er',o0];lia
 rw[en] at i3;obtain⟨ah,bk,Gm,cc,hC,_⟩:=nM i2 hle i3;rw[← en] at i3;have lG:=i2.len;have R2:=R'.len;obtain⟨b,z⟩:=L.dd k D (by rw[X3 (by lia),hdl,al0];rfl);have hSd:S D.dd:=sd D (aa7 _ (X2 _ (v6.mpr rfl)));have zq:∀{l},S l->D.lt≠l:=λy e=>bR z.2.1 (e ▸ y);have nlv:∀{l},S l->D.lv≠l:=λy e=>bR z.2.2.1 (e ▸ y);refine⟨S,x,dx,tt,d,ld,lu,dt,a,lg,D.dd,D.kQ,D.lt,D.lv,D.da,b,gs,make w' c,Gs,ds.map λD=>.ref D.dd,us.map λD=>.ref D.dd,0,[fr h k],HQ h k,ah,bk,Gm,cc,Gs',rfl,sx,sl,su,hSd,L.ne,L.ex,o1,i1,by have:=L.dn;rw[P2] at this;exact this,L.un,by rw[d6];lia,z.1,aC _ _ z.2.1,zq sl,zq su,aC _ _ z.2.2.1,nlv sl,nlv su,(gi w' A.O).good,by lia,by show 1<=50000;decide,by lia,by simp,hC,λlg' gs' H' I' hx' hl' hu' hd' keep=>?_⟩;have nS:¬ S tt:=bR i1.ob;have htt:=aC _ _ i1.ob;have kp:∀b o,hid S H b=some o->(∀C y fs,o ≠ .ins C y fs)->hid S H' b=some o:=λb o e n=>by have e':=aC _ _ e;have nb:=bR e;exact bA (keep b o e' (λz=>nb (z ▸ sx)) (λz=>nb (z ▸ sl)) (λz=>nb (z ▸ su)) (λz=>nb (z ▸ hSd)) (λz=>by rw[z,htt] at e';exact n _ _ _ (X8 e').symm)) nb
 refine q _ H' ⟨bq.BC L.al λo e ho=>kp _ _ e (λC y fs zz=>?_),⟨D.da,hx',z.2.2.2.zo kp⟩,⟨lg',gs',Gs',I',i3⟩,⟨sx,sl,su,λD' hD=>?_⟩,L.ne,λb y=>?_,⟨hdl,by lia,by rw[o0,aa4];lia⟩,hl',by rw[P2];exact hu',λj D' hD=>?_,λD' us' y=>?_,?_⟩ kp
 ·obtain⟨ys,y|⟨u,y⟩⟩:=ho <;> rw[y] at zz <;> cases zz
 ·refine sd D' ?_;simp only[aa1,v6] at hD ⊢;rcases hD with y|y|y
  ·exact .inl (.inl y)
  ·exact .inr y
  ·exact .inl (.inr y)
 ·by_cases y1:b=x
  ·exact⟨_,by rw[y1];exact hx'⟩
  by_cases y2:b=ld
  ·exact⟨_,by rw[y2];exact hl'⟩
  by_cases y3:b=lu
  ·exact⟨_,by rw[y3];exact hu'⟩
  by_cases y4:b=D.dd
  ·exact⟨_,by rw[y4];exact hd'⟩
  obtain⟨o,ho⟩:=L.ex b y;exact⟨o,keep b o ho y1 y2 y3 y4 (λz=>nS (z ▸ y))⟩
 ·have hj:j<ds.length:=(i5.mp hD).1;have hD2:(ds++[D])[j]?=some D':=by rw[Y9 hj];exact hD
  obtain⟨b',z'⟩:=L.dd j D' hD2;have hS':=sd D' (aa7 _ (aa7 _ (u8 hD)));refine⟨b',z'.only (keep _ _ z'.1 (xK z'.1 o1 (by decide)) (λy=>?_) (λy=>?_) (λy=>?_) (λy=>nS (y ▸ hS'))) kp⟩
  ·have:=z'.1;rw[y,L.dn] at this;cases this
  ·have:=z'.1;rw[y,L.un] at this;cases this
  ·have hnd:=L.nd;rw[ac6,P2,ad2] at hnd;exact hnd.2.2 _ (aa2.mpr ⟨D',u8 hD,rfl⟩) D.dd (by simp) y
 ·obtain⟨_,e⟩:=List.append_inj' y rfl;cases e;exact⟨d,z.only hd' kp,o2.zo kp⟩
 ·refine(List.Perm.nodup_iff ?_).mp L.nd;rw[ac6];exact(List.Perm.append_left ds List.perm_append_comm).map _
def LS.WX(A:Cw w' c h r)(L:LS K t S H sc ns x dx tt dt a ld lu (make w' c) h r k ds [D])(hm:k<2)
  (q:∀n H',LS K t S H' sc ns x dx tt dt a ld lu (make w' c) h r (k+1) (ds++[D]) []->(∀b o,hid S H b=some o->(∀C y fs,o ≠ .ins C y fs)->hid S H' b=some o)->Q (.int n) H'):BD t [.ref x] H Q E:=by
 obtain⟨d,o1,o2⟩:=L.ob;obtain⟨lg,gs,Gs,i1,i2⟩:=L.ti;obtain⟨sx,sl,su,sd⟩:=L.sx;obtain⟨ln1,ln2,ln3⟩:=L.len;obtain⟨_,er,_⟩:=zI h r hm;obtain⟨Gs',i3⟩:=mP w' A.O A.rows A.len (k:=k+1) (by lia);have R:=nW A.rows A.len (k:=k) (by lia);have hfl:=vS h hm;have er':=lN h r hm;have en:rws h r (k+1)=(rws h r k).take 0++HQ h k++(rws h r k).drop (0+[fr h k].length):=by rw[er',er];rfl
 have hle:0+[fr h k].length<=(rws h r k).length:=by rw[er];show 0+1<=r.length+1;lia
 rw[en] at i3;obtain⟨ah,bk,Gm,cc,hC,_⟩:=nM i2 hle i3;rw[← en] at i3;have lG:=i2.len;have R2:=R.len;obtain⟨db,z,hdb⟩:=L.ud D [] rfl;have hSd:S D.dd:=sd D (X2 _ (v6.mpr rfl));have zq:∀{l},S l->D.lt≠l:=λy e=>bR z.2.1 (e ▸ y);have nlv:∀{l},S l->D.lv≠l:=λy e=>bR z.2.2.1 (e ▸ y);refine⟨S,x,dx,tt,d,ld,lu,dt,a,lg,D.dd,D.kQ,D.lt,D.lv,D.da,db,gs,make w' c,Gs,ds.map λD=>.ref D.dd,[],0,[fr h k],HQ h k,ah,bk,Gm,cc,Gs',rfl,sx,sl,su,L.ne,L.ex,o1,i1,L.dn,L.un,by rw[d6];lia,z.1,aC _ _ z.2.1,zq sl,zq su,aC _ _ z.2.2.1,nlv sl,nlv su,(gi w' A.O).good,by lia,by show 1<=50000;decide,by lia,(λy=>by rw[y] at hfl;simp at hfl),hC,λlg' gs' H' I' hx' hl' hu' keep=>?_⟩;have nS:¬ S tt:=bR i1.ob;have htt:=aC _ _ i1.ob;have kp:∀b o,hid S H b=some o->(∀C y fs,o ≠ .ins C y fs)->hid S H' b=some o:=λb o e n=>by have e':=aC _ _ e;have nb:=bR e;exact bA (keep b o e' (λz=>nb (z ▸ sx)) (λz=>nb (z ▸ sl)) (λz=>nb (z ▸ su)) (λz=>by rw[z,htt] at e';exact n _ _ _ (X8 e').symm)) nb
 have dk:∀{D':kI} {j b'},Lk t S H h r j b' D'->S D'.dd->Lk t S H' h r j b' D':=λ{D' j b'} z' hS'=>by
  refine z'.only (keep _ _ z'.1 (xK z'.1 o1 (by decide)) (λy=>?_) (λy=>?_) (λy=>nS (y ▸ hS'))) kp
  ·have:=z'.1;rw[y,L.dn] at this;cases this
  ·have:=z'.1;rw[y,L.un] at this;cases this
 refine q _ H' ⟨bq.BC L.al λo e ho=>kp _ _ e (λC y fs zz=>?_),⟨db,hx',hdb.zo kp⟩,⟨lg',gs',Gs',I',i3⟩,⟨sx,sl,su,λD' hD=>?_⟩,L.ne,λb y=>?_,⟨by rw[o0,aa4];lia,by lia,X5 _⟩,by rw[P2];exact hl',hu',λj D' hD=>?_,(λD' us' y=>by simp at y),?_⟩ kp
 ·obtain⟨ys,y|⟨u,y⟩⟩:=ho <;> rw[y] at zz <;> cases zz
 ·rw[ab2] at hD;exact sd D' hD
 ·by_cases y1:b=x
  ·exact⟨_,by rw[y1];exact hx'⟩
  by_cases y2:b=ld
  ·exact⟨_,by rw[y2];exact hl'⟩
  by_cases y3:b=lu
  ·exact⟨_,by rw[y3];exact hu'⟩
  obtain⟨o,ho⟩:=L.ex b y;exact⟨o,keep b o ho y1 y2 y3 (λz=>nS (z ▸ y))⟩
 ·by_cases hj:j<ds.length
  ·rw[Y9 hj] at hD;obtain⟨b',z'⟩:=L.dd j D' hD;exact⟨b',dk z' (sd D' (aa7 _ (u8 hD)))⟩
  ·rw[X3 (by lia)] at hD;have hj0:j-ds.length=0:=by have:=(i5.mp hD).1;rw[aa4] at this;lia
   rw[hj0] at hD;cases hD;have hjk:j=k:=by lia
   subst hjk;exact⟨_,dk z hSd⟩
 ·rw[ab2];exact L.nd
def LS.sb           (L:LS K t S H sc ns x dx tt dt a ld lu ms h r m ds us) (R:wL (rws h r m)):∃Gs,Sb t H x Gs [(Str.ofString "a",KD m)] (ds.map λD=>.ref D.dd) (us.map λD=>.ref D.dd)/\Gs.map (·.row)=rws h r m:=by
 obtain⟨d,o1,o2⟩:=L.ob;obtain⟨lg,gs,Gs,i1,i2⟩:=L.ti;have hl:=i2.len;have h10:=R.len;refine⟨Gs,⟨⟨dx,tt,d,ld,lu,dt,a,lg,gs,ms,o1,i1.same aC,o2.same aC,L.dn,L.un⟩,by lia,λG hG=>?_⟩,i2.rows⟩;have:G.row∈rws h r m:=by rw[← i2.rows];exact aa2.mpr ⟨G,hG,rfl⟩
 exact X6 (R.row _ this).1 (by decide)
def LS.UW(L:LS K t S H sc ns x dx tt dt a ld lu ms h r m ds us)(R:wL (rws h r m)):∃lg gs Gs,bG t H tt dt a lg gs ms Gs/\Gs.length<=100000/\Gs.map (·.row)=rws h r m:=by obtain⟨lg,gs,Gs,i1,i2⟩:=L.ti;have hl:=i2.len;have h10:=R.len;exact⟨lg,gs,Gs,i1.same aC,by lia,i2.rows⟩
def oS         (B:Sb t H x Gs sp ds us) (hw:(wy=4/\ds=[])∨(wy=5/\us=[])) (h1:H p1=some (.tup [.int 0,.int 0])) (h2:H p2=some (.tup [.int 0,.int 0])) (q:∀H',ak H H'->Q (.str (Str.ofString "nothing")) H'):zg t [.ref x,.int wy,.str (Str.ofString ""),.ref p1,.ref p2] H Q E :=
 ⟨x,p1,p2,Gs,sp,ds,us,wy,_,0,0,0,0,_,rfl,B,h1,h2,hw.elim (λy=>.inr (.inr (.inr (.inr (.inl ⟨y.1,rfl,y.2⟩))))) (λy=>.inr (.inr (.inr (.inr (.inr ⟨y.1,rfl,y.2⟩))))),q⟩
def QN:∀i:Nat,i<2->MulOk (Str.ofString "(\n") (i:Int)/\(PySem.Txt.mul (Str.ofString "(\n") (i:Int)).length+(Str.ofString "a").length<=sizeLine/\PySem.Txt.mul (Str.ofString "(\n") (i:Int)++Str.ofString "a" = zt i:=by
 intro i hi;match i,hi with
 |0,_=>exact⟨by unfold MulOk;decide +kernel,by decide +kernel,by decide +kernel⟩
 |1,_=>exact⟨by unfold MulOk;decide +kernel,by decide +kernel,by decide +kernel⟩
def J3 (p:Nat×Nat):cF [(Str.ofString "a",p)]=[(Str.ofString "a",p)]:=by rfl
inductive CF(K:PySem.W.Frag)(vs:List V)(H:Hp)(Q:VK)(_:XK):Prop|mk(a:Addr)(ns:List Int)(_:vs=[.ref a])(_:bq K H a (ns.map V.int))(_:ns.length<=63)(_:∀H',Q (.bl true) H')
def QM   (F:dh K "law" "law" BZ f fd) (T:Txt K mg t):bw P w K mg base dM 13 f fd ["_law_script"] (CF K):=by
 refine F.ok jt λvs H Q E h=>?_;obtain⟨sc,ns,rfl,hS,hl,q⟩:=h;walk_at "i";refine aI (λZ' H'=>∃(rs:List Str) (lr:Addr),rs≠[]/\rs.length<=4/\(∀r∈rs,qE r)/\H' lr=some (.lst (rs.map V.str))/\ak H H'/\Z'=[some (.ref sc),some (.ref lr),none,none,none,none,none,none,none]) (@Bm _ 1 _ (az BZ) _ ["_law_script","_law_rows","_law_scribe","_law_many","_law_k","_law_is_back","_law_later","_law_now","_law_marks"] _ _ ("_law_k") _ _ _ _ [("_law_script",0)] _ _ jt.nd rfl (Or.inl rfl) (by walk_at "ck") (@iw _ _ _ _ _ _ rfl T.kq (aa (@bh _ _ _ _ _ _ _ _ bX ao (@aN _ _ _ _ _ _ _ _ _ _ _ _ _ _ _ _ (fH T) hr.m rfl T.fP T.cN.kp T.cN.b3 .nil aH (aa (pv 0) (aa ao (aa ao ai (by left)) (by left)) (by left)) (by left) (by left) (by left))) ai (by left)) (by left)) (λ_ _ _ _=>by exact(@aN _ _ _ _ _ _ _ _ _ _ _ _ _ _ _ _ (Rk T) hr.m rfl T.RX T.IP.kp T.IP.b2 .nil aH (aa (pv 0) (aa (@bh _ _ _ _ _ _ _ _ bX ao (@bh _ _ _ _ _ _ _ _ nK ao (pv 1))) ai (by left)) (by left)) (by left) (by left) (by left))) (by left) (by left) (by left) (by left) (by left) (by left)) ?_ ?_
 ·refine⟨_,rfl,sc,ns,_,_,rfl,hS,(by decide),(by decide),(by decide),(by decide),hl,λd H1 h0 h1 s1=>⟨_,_,rfl,rfl,1+d,rfl,by lia,by lia,nI (n:=(1+d).toNat) (λi ys H'=>∃rs:List Str,ys=rs.map V.str/\rs.length=i/\(∀r∈rs,qE r)/\ak H H') ⟨[],rfl,rfl,(λc h=>by cases h),s1⟩ (eT (by lia)) ?_ ?_⟩⟩
  ·rintro i ys H2 hi hyl ⟨rs,rfl,hcl,hcs,s2⟩;refine⟨_,rfl,_,rfl,_,_,rfl,rfl,.inl ⟨by decide,by decide⟩,_,_,rfl,rfl,sc,ns,_,rfl,hS.same s2,hl,(by lia),(by lia),λz H3 hz s3=>d7 hi hyl ⟨rs++[z],by rw[P2];rfl,by rw[o0,hcl];rfl,λy hy=>?_,s2.trans s3⟩⟩;rcases aa1.mp hy with y'|y'
   ·exact hcs y y'
   ·rw[v6.mp y'];exact hz
  ·rintro ys H2 hyl ⟨rs,rfl,hcl,hcs,s2⟩ D hD;exact⟨rs,D,λz=>by rw[z] at hcl;simp at hcl;lia,by lia,hcs,af,s2.to hD,rfl⟩
 rintro Z' H1 ⟨rs,lr,hne,hr4,hrs,hlr,s1,rfl⟩;obtain⟨h,r,rfl⟩:∃h r,rs=h::r:=by
  cases rs with
  |nil=>exact absurd rfl hne
  |cons h r=>exact⟨h,r,rfl⟩
 refine au (cR 2 jt (dP T.uY (Tz T) hr.m rfl T.tK T.BK.b3 .nil aH (aa (aN (Ec T) hr.m rfl T.Ji T.xB.kp T.xB.b1 .nil aH (aa (aN (RN T) hr.m rfl T.SA T.Ie.kp T.Ie.b1 .nil aH (aa (aN (Qv T) hr.m rfl T.P8 T.FT.kp T.FT.b1 .nil aH (aa (pv 0) ai)) ai)) ai)) (aa (cQ gG (by rfl) T.kh (by decide +kernel) (aa (pv 1) ai)) ai)))) ⟨_,rfl,sc,ns,rfl,hS.same s1,hl,λw c lm H3 O hM s3=>⟨lm,make w c,rfl,hM,gi w O,λH4 s4=>⟨itemsOf (make w c),rfl,(gi w O).items,(gi w O).Ax,λru H5 hR s5=>⟨_,rfl,lr,_,rfl,.inl (bq.of (s5 _ _ (s4 _ _ (s3 _ _ hlr)))),λlh gh=>?_⟩⟩⟩⟩;rw[sW] at hR;have hlh:upd H5 lh (.lst ((h::r).map V.str)) lh=some (.lst ((h::r).map V.str)):=af;have s56:ak H5 (upd H5 lh (.lst ((h::r).map V.str))):=ak.upd gh;have s16:=((s3.trans s4).trans s5).trans s56;have hR6:=hR.same s56;refine λx dx nx ndx ne=>?_;generalize upd H5 lh (.lst ((h::r).map V.str))=H6 at *;have s6:ak H6 (upd (upd H6 dx (.own x)) x (.ins t.aG dx [])):=bP nx ndx;have A0:Cw w c h r:=⟨O,hrs,hr4⟩
 have RK:∀k,k<=2->wL (rws h r k):=λk hk=>nW hrs hr4 hk;obtain⟨Gs,hC⟩:=mP w O hrs hr4 (k:=0) (by lia);refine⟨x,dx,ru,lh,(λ_=>False),make w c,h::r,Gs,rfl,af,Ex.none _,hR6.same (λb o e=>bA (s6 _ _ e) (by
  rintro (z|z)
  ·exact z
  ·exact av e nx z)),(gi w O).good,uC w c,s6 _ _ hlh,X6 hr4 (by decide),hC,λtt dt a lg gs d ld lu H7 I7 hx7 hd7 hld7 hlu7 fld nlu flu a7=>⟨rfl,?_⟩⟩
 obtain⟨S,hSe⟩:∃S:Addr->Prop,S=λc=>((False∨c=x)∨c=ld)∨c=lu:=⟨_,rfl⟩
 rw[← hSe] at I7 hd7;have sx:S x:=by rw[hSe];exact .inl (.inl (.inr rfl))
 have sl:S ld:=by rw[hSe];exact .inl (.inr rfl)
 have su:S lu:=by rw[hSe];exact .inr rfl
 have kx:∀b o,H6 b=some o->hid S H7 b=some o:=λb o e=>by
  have nb:b≠x:=av e nx;refine bA (a7 _ _ (s6 _ _ e) nb) ?_;rw[hSe];rintro (((z|z)|z)|z)
  ·exact z
  ·exact nb z
  ·exact av (s6 _ _ e) fld z
  ·exact av (s6 _ _ e) flu z
 have hE7:Ex S H7:=λb y=>by
  rw[hSe] at y;rcases y with ((y|y)|y)|y
  ·exact y.elim
  ·exact⟨_,by rw[y];exact hx7⟩
  ·exact⟨_,by rw[y];exact hld7⟩
  ·exact⟨_,by rw[y];exact hlu7⟩
 have hrow:Gs.map (·.row)=h::r:=hC.rows;have hgl:=hC.len;have R0:=RK 0 (by lia);have hGr:∀G∈Gs,G.row.length<=1000:=λG hG=>X6 (R0.row _ (by show G.row∈h::r;rw[← hrow];exact aa2.mpr ⟨G,hG,rfl⟩)).1 (by decide);have lr7:=kx _ _ (s16 _ _ hlr);have al7:bq K (hid S H7) sc (ns.map V.int):=bq.BC ((hS.same s1).same s16) λo e _=>kx _ _ e;have B7:Sb t H7 x Gs [] [] []:=⟨⟨dx,tt,d,ld,lu,dt,a,lg,gs,make w c,hx7,I7.same aC,hd7.same aC,hld7,hlu7⟩,by show Gs.length<=100000;rw[hgl];exact X6 R0.len (by decide),hGr⟩
 clear a7 kx hR hR6 hM s6 fld flu hlr hlh nx ndx;refine aI (λZ' H'=>Z'=[some (.ref sc),some (.ref lr),some (.ref x),none,none,none,none,none,none]/\ak H7 H') (aW (PW.pt (iX (aB kJ (aN (jl T) hr.m rfl T.jv T.fN.kp T.fN.b5 .nil aH (aa (pv 2) (aa ao (aa aA (aa (br (aa ao (aa ao ai))) (aa (br (aa ao (aa ao ai))) ai)))))) aA (aD _)) (gI (aB kJ (aN (jl T) hr.m rfl T.jv T.fN.kp T.fN.b5 .nil aH (aa (pv 2) (aa ao (aa aA (aa (br (aa ao (aa ao ai))) (aa (br (aa ao (aa ao ai))) ai)))))) aA (aD _))))) aq aq) ?_ ?_
 ·walk_at "rd";refine⟨by decide,λp1 g1=>⟨by decide,λp2 g2=>oS ((B7.same (ak.upd g1)).same (ak.upd g2)) (.inl ⟨rfl,rfl⟩) (ak.upd g2 _ _ af) af λH2 s2=>⟨rfl,lR (λz=>absurd rfl z) λ_=>⟨by decide,λp3 g3=>⟨by decide,λp4 g4=>oS ((((B7.same (ak.upd g1)).same (ak.upd g2)).same s2).same ((ak.upd g3).to g4)) (.inr ⟨rfl,rfl⟩) (ak.upd g4 _ _ af) af λH3 s3=>⟨rfl,lR (λz=>absurd rfl z) λ_=>bu ⟨rfl,?_⟩⟩⟩⟩⟩⟩⟩;exact(((ak.upd g1).to g2).trans s2).trans (((ak.upd g3).to g4).trans s3)
 rintro Z' H8 ⟨rfl,s78⟩;obtain⟨G,hG⟩:∃G,Gs[0]?=some G:=⟨Gs[0]'(by rw[hgl];show 0<r.length+1;lia),i4 _⟩
 refine au (aX (bB (pv 2) T.aK T.NS (Qf T) hr.m T.Bj.b4 .nil aH (aa aA (aa ao (aa ao ai))))) ⟨_,rfl,x,dx,_,rfl,s78 _ _ hx7,rfl,S,x,dx,tt,d,ld,lu,dt,a,lg,gs,make w c,Gs,G,[],_,0,0,rfl,sx,hE7.same s78,s78 _ _ hx7,by decide +kernel,I7.same (aT s78),hG,X5 _,hGr G (u8 hG),hd7.same (aT s78),by decide,λd' H9 hx9 hd9 a9=>?_⟩;have s89:ak (hid S H8) (hid S H9):=λb o e=>bA (a9 _ _ (aC _ _ e) (λz=>bR e (z ▸ sx))) (bR e);have nxl:ld≠x:=λz=>by rw[z,hx7] at hld7;cases hld7
 have nxu:lu≠x:=λz=>by rw[z,hx7] at hlu7;cases hlu7
 have hE9:Ex S H9:=λb y=>by
  by_cases z:b=x
  ·exact⟨_,by rw[z];exact hx9⟩
  ·obtain⟨o,ho⟩:=hE7 b y;exact⟨o,a9 _ _ (s78 _ _ ho) z⟩
 have L9:LS K t S H9 sc ns x dx tt dt a ld lu (make w c) h r 0 [] []:=⟨(al7.same (aT s78)).same s89,⟨d',hx9,hd9⟩,⟨lg,gs,Gs,(I7.same (aT s78)).same s89,hC⟩,⟨sx,sl,su,λD hD=>absurd hD (by simp)⟩,nlu,hE9,⟨rfl,by decide,by decide⟩,a9 _ _ (s78 _ _ hld7) nxl,a9 _ _ (s78 _ _ hlu7) nxu,(λk D e=>by simp at e),(λD us' e=>by simp at e),List.nodup_nil⟩
 have lr9:hid S H9 lr=some (.lst ((h::r).map V.str)):=s89 _ _ (aT s78 _ _ lr7);clear hx9 hd9 a9 s89 hE9 hE7 hd7 hx7 hld7 hlu7 I7 al7 lr7 B7 hG hGr nlu nxl nxu;refine au (cR 3 jt (aN (fH T) hr.m rfl T.fP T.cN.kp T.cN.b3 .nil aH (aa (pv 0) (aa ao (aa ao ai))))) ⟨_,rfl,sc,ns,_,_,rfl,L9.al.same aC,by decide,by decide,by decide,by decide,hl,λdd H10 h0 h1 s10=>?_⟩;obtain⟨n,rfl⟩:∃n:Nat,dd=n:=⟨dd.toNat,by lia⟩
 have hn2:n<=2:=by lia
 refine aI (λZ' H'=>∃S lu ds y,LS K t S H' sc ns x dx tt dt a ld lu (make w c) h r n ds []/\hid S H' lr=some (.lst ((h::r).map V.str))/\Z'=[some (.ref sc),some (.ref lr),some (.ref x),some (.int n),y,none,none,none,none]) (gk ab3 rfl (iw rfl T.kq (aa (pv 3) ai)) (uc 4 jt) aq) ?_ ?_
 ·refine⟨_,rfl,n,rfl,by lia,by lia,?_⟩;rw[aa5];obtain⟨IV,hIV⟩:∃IV:Nat->St->Hp->Prop,IV=λi Z' H'=>∃S lu ds y,LS K t S H' sc ns x dx tt dt a ld lu (make w c) h r i ds []/\hid S H' lr=some (.lst ((h::r).map V.str))/\Z'=[some (.ref sc),some (.ref lr),some (.ref x),some (.int n),y,none,none,none,none]:=⟨_,rfl⟩
  refine kD (n:=n) IV (by rw[hIV];exact⟨S,lu,[],_,L9.same s10,aT s10 _ _ lr9,rfl⟩) ?_ ?_
  ·intro i Z' H11 hi hv;rw[hIV] at hv;obtain⟨S1,lu1,ds1,y1,L11,lr11,rfl⟩:=hv;obtain⟨d1,o1,_⟩:=L11.ob;show At _ _ _ _ _;rw[show (0:Int)+(i:Int)=(i:Int) from Int.zero_add _];have hi2:i<2:=by lia
   obtain⟨m1,m2,m3⟩:=QN i hi2;refine ay (aX (bB (pv 2) T.aK T.Mj (Qy T) hr.m T.Bt.b4 .nil aH (aa ao (aa ao (aa (bh iC (bh Kd aA (pv 4)) aA) ai))))) ?_;walk_at "rd";refine⟨dx,_,o1,rfl,m1,m2,?_⟩;rw[m3];exact L11.put A0 hi2 λnn S' lu' D H' L' kp=>by rw[hIV];exact⟨S',lu',_,_,L',kp _ _ lr11 (λ_ _ _ y=>by cases y),rfl⟩
  ·intro Z' H11 hv;rw[hIV] at hv;exact hv
 rintro Z' H11 ⟨S1,lu1,ds1,y1,L11,lr11,rfl⟩;have lr0:∀{S H'},hid S H' lr=some (.lst ((h::r).map V.str))->hid S H' lr=some (.lst ((rws h r 0).map V.str)):=λz=>z;have hdl:=L11.len.1;refine aI (λZ' H'=>∃bk:Bool,(bk=true->0<n)/\ak H11 H'/\Z'=[some (.ref sc),some (.ref lr),some (.ref x),some (.int n),y1,some (.bl bk),none,none,none]) (cR 5 jt (wV (cB j7 (pv 3) ao (aD _)) (nH (cB bN (aN (fH T) hr.m rfl T.fP T.cN.kp T.cN.b3 .nil aH (aa (pv 0) (aa ao (aa ao ai)))) ao (aD _))))) ?_ ?_
 ·walk_at "rd";exact dI (λhp=>⟨sc,ns,6,2,rfl,L11.al.same aC,by decide,by decide,by decide,by decide,hl,λd H' h0 h1 s'=>⟨rfl,_,λ_=>by lia,s',rfl⟩⟩) λ_=>⟨false,(λz=>by cases z),ak.refl _,rfl⟩
 rintro Z' H12 ⟨bk,hbk,s12,rfl⟩;have L12:=L11.same s12;have lr12:=aT s12 _ _ lr11;obtain⟨d12,o12,_⟩:=L12.ob;obtain⟨lg2,gs2,Gs2,I2,c2,r2⟩:=L12.UW (RK n hn2);refine au (cR 6 jt (bx (bx (pv 2) T.aK T.yq (tG T) hr.m T.vL.b1 .nil aH) T.aL T.nj (jL T) hr.m T.lQ.b1 .nil aH)) ⟨_,rfl,x,dx,_,rfl,o12,rfl,x,dx,tt,d12,ld,lu1,rfl,o12,tt,dt,_,rfl,I2.ob,rfl,tt,dt,a,lg2,gs2,make w c,Gs2,rfl,I2,c2,λl6 H13 e1 e2 s13=>?_⟩;rw[r2] at e1;have L13:=L12.same s13;have lr13:=aT s13 _ _ lr12;have l613:hid S1 H13 l6=some (.lst ((rws h r n).map V.str)):=bA e1 (L12.ex.new e2);clear L12 lr12 L11 lr11 e1 e2 o12 L9 lr9;show At _ _ _ [some (.ref sc),some (.ref lr),some (.ref x),some (.int n),y1,some (.bl bk),some (.ref l6),none,none] H13;obtain⟨R10,h10⟩:∃R10:St->Hp->Prop,R10=λZ' H'=>∃m ds us,LS K t S1 H' sc ns x dx tt dt a ld lu1 (make w c) h r m ds us/\hid S1 H' lr=some (.lst ((h::r).map V.str))/\hid S1 H' l6=some (.lst ((rws h r n).map V.str))/\((bk=false/\m=n/\us=[])∨(bk=true/\m+1=n/\∃D,us=[D]))/\Z'=[some (.ref sc),some (.ref lr),some (.ref x),some (.int n),y1,some (.bl bk),some (.ref l6),none,none]:=⟨_,rfl⟩
 refine aI R10 (aW (eN (pv 5)) aq aq) ⟨_,rfl,bk,rfl,?_⟩ ?_
 ·cases bk with
  |false=>exact ji (bu (by rw[h10];exact⟨n,ds1,[],L13,lr13,l613,.inl ⟨rfl,rfl,rfl⟩,rfl⟩))
  |true =>
   obtain⟨k,rfl⟩:∃k,n=k+1:=⟨n-1,by have:=hbk rfl;lia⟩
   obtain⟨ds',D,rfl⟩:∃ds' D,ds1=ds'++[D]:=by
    rcases ah1 ds1 with z|⟨p,z,e⟩
    ·rw[z] at hdl;simp at hdl
    ·exact⟨p,z,by rw[e,ah0]⟩
   obtain⟨d13,o13,_⟩:=L13.ob;refine kX (ay (aX (bx (pv 2) T.aK T.Js (HY T) hr.m T.yh.b1 .nil aH)) ?_);walk_at "rd";exact⟨dx,_,o13,rfl,L13.Vc A0 (by decide) λnn H' L' kp=>by rw[h10];exact⟨k,ds',[D],L',kp _ _ lr13 (λ_ _ _ y=>by cases y),kp _ _ l613 (λ_ _ _ y=>by cases y),.inr ⟨rfl,rfl,D,rfl⟩,rfl⟩⟩
 intro Z' H14 hv;rw[h10] at hv;obtain⟨m,ds,us,L14,lr14,l614,hbm,rfl⟩:=hv;clear h10;have hm2:m<=2:=L14.len.2.1;obtain⟨d14,o14,_⟩:=L14.ob;obtain⟨lg3,gs3,Gs3,I3,c3,r3⟩:=L14.UW (RK m hm2);refine au (cR 7 jt (bx (bx (pv 2) T.aK T.yq (tG T) hr.m T.vL.b1 .nil aH) T.aL T.nj (jL T) hr.m T.lQ.b1 .nil aH)) ⟨_,rfl,x,dx,_,rfl,o14,rfl,x,dx,tt,d14,ld,lu1,rfl,o14,tt,dt,_,rfl,I3.ob,rfl,tt,dt,a,lg3,gs3,make w c,Gs3,rfl,I3,c3,λl7 H15 e1 e2 s15=>?_⟩;rw[r3] at e1;have L15:=L14.same s15;have l715:hid S1 H15 l7=some (.lst ((rws h r m).map V.str)):=bA e1 (L14.ex.new e2);have lr15:=aT s15 _ _ lr14;have l615:=aT s15 _ _ l614;obtain⟨d15,o15,p15⟩:=L15.ob;refine au (cR 8 jt (bx (pv 2) T.aK T.Oi (Il T) hr.m T.Fd.b1 .nil aH)) ⟨_,rfl,x,dx,_,rfl,o15,rfl,x,dx,tt,d15,ld,lu1,_,rfl,o15,p15.same aC,by rw[yS];decide,by show 1<64;decide,λd8 H16 hd8 f8 s16'=>?_⟩;have L16:=L15.same s16';have l716:=aT s16' _ _ l715;have lr16:=aT s16' _ _ lr15;have l616:=aT s16' _ _ l615;clear L14 L15 lr14 lr15 l614 l615 l715 o14 o15 p15 e1 e2 L13 lr13 l613;show At _ _ _ [some (.ref sc),some (.ref lr),some (.ref x),some (.int n),y1,some (.bl bk),some (.ref l6),some (.ref l7),some (.ref d8)] H16;refine aI (λZ' H'=>ak H16 H'/\∃y,Z'=[some (.ref sc),some (.ref lr),some (.ref x),some (.int n),y,some (.bl bk),some (.ref l6),some (.ref l7),some (.ref d8)]) (gk ab3 rfl (iw rfl T.kq (aa ao ai)) (uc 4 jt) aq) ?_ ?_
 ·refine⟨8,rfl,by lia,by lia,kD (n:=8) (λi Z' H'=>ak H16 H'/\∃y,Z'=[some (.ref sc),some (.ref lr),some (.ref x),some (.int n),y,some (.bl bk),some (.ref l6),some (.ref l7),some (.ref d8)]) ⟨ak.refl _,_,rfl⟩ ?_ ?_⟩
  ·rintro i Z' H17 hi ⟨s17,y,rfl⟩;have L17:=L16.same s17;obtain⟨Gs4,B4,r4⟩:=L17.sb (RK m hm2);have R4:=RK m hm2;show At _ _ _ _ _;rw[show (0:Int)+(i:Int)=(i:Int) from Int.zero_add _];have l717:=s17 _ _ (aC _ _ l716);refine aI (λZ' H'=>Z'=[some (.ref sc),some (.ref lr),some (.ref x),some (.int n),some (.int i),some (.bl bk),some (.ref l6),some (.ref l7),some (.ref d8)]/\ak H17 H') (aW (gQ (eN (aN (Rc T) hr.m rfl T.QG T.Ej.kp T.Ej.b5 .nil aH (aa (pv 0) (aa (bh bX ao (bh nK ao (pv 4))) (aa (pv 2) (aa (pv 7) (aa (pv 8) ai)))))))) aq aq) ⟨_,rfl,_,rfl,_,_,rfl,rfl,.inl ⟨by decide,by decide⟩,_,_,rfl,rfl,_,rfl,_,rfl,_,rfl,sc,x,l7,ns,_,.ref d8,rws h r m,Gs4,_,_,_,rfl,L17.al.same aC,hl,by lia,by lia,B4,l717,r4,(λz=>?_),X6 R4.len (by decide),(λz hz=>by rw[yS] at hz;exact v6.mp hz),λH' s'=>⟨_,rfl,ji (bu ⟨rfl,s'⟩)⟩⟩ ?_
   ·have:=ac1 List.length z;match m,hm2,this with
    |0,_,z=>simp[rws] at z
    |1,_,z=>simp[rws] at z
    |2,_,z=>simp[rws] at z
   rintro Z' H18 ⟨rfl,s18⟩;have L18:=L17.same s18;obtain⟨d18,o18,p18⟩:=L18.ob;obtain⟨lg5,gs5,Gs5,I5,c5,r5⟩:=L18.UW (RK m hm2);refine ay (aW (PW.pt (iX (aB (rL (ae9 (jE hr))) (bx (bx (pv 2) T.aK T.yq (tG T) hr.m T.vL.b1 .nil aH) T.aL T.nj (jL T) hr.m T.lQ.b1 .nil aH) (pv 7) (aD _)) (gI (aB (K3 (hu4 hr)) (bx (pv 2) T.aK T.Oi (Il T) hr.m T.Fd.b1 .nil aH) (pv 8) (aD _))))) aq aq) ⟨_,rfl,x,dx,_,rfl,o18,rfl,x,dx,tt,d18,ld,lu1,rfl,o18,tt,dt,_,rfl,I5.ob,rfl,tt,dt,a,lg5,gs5,make w c,Gs5,rfl,I5,c5,λlw H19 e1 e2 s19=>?_⟩;rw[r5] at e1;refine⟨_,rfl,lw,l7,_,_,rfl,rfl,bq.of e1,bq.of (s19 _ _ (s18 _ _ l717)),nO _ _,_,rfl,yZ (show (!decide ((rws h r m).map V.str=(rws h r m).map V.str))=false by simp) (ji ?_)⟩;have hd19:=hd8.same (s17.trans (s18.trans s19));rw[J3] at hd19;refine⟨_,rfl,x,dx,_,rfl,s19 _ _ o18,rfl,x,dx,tt,d18,ld,lu1,_,rfl,s19 _ _ o18,(p18.same aC).same s19,by rw[yS];decide,by show 1<64;decide,λdm H20 hdm fm s20=>⟨_,rfl,dm,d8,rfl,rfl,w5 (by rw[yS];decide) hdm (hd19.same s20),_,rfl,ji (bu ⟨s17.trans (s18.trans (s19.trans s20)),_,rfl⟩)⟩⟩
  ·rintro Z' H17 hx;exact hx
 rintro Z' H17 ⟨s17,y,rfl⟩;have L17:=L16.same s17;have lr17:=aT s17 _ _ lr16;have l617:=aT s17 _ _ l616;clear L16 lr16 l616 l716 hd8;obtain⟨R19,h19⟩:∃R19:St->Hp->Prop,R19=λZ' H'=>∃ds,LS K t S1 H' sc ns x dx tt dt a ld lu1 (make w c) h r n ds []/\hid S1 H' lr=some (.lst ((h::r).map V.str))/\hid S1 H' l6=some (.lst ((rws h r n).map V.str))/\Z'=[some (.ref sc),some (.ref lr),some (.ref x),some (.int n),y,some (.bl bk),some (.ref l6),some (.ref l7),some (.ref d8)]:=⟨_,rfl⟩
 refine aI R19 (aW (eN (pv 5)) aq aq) ⟨_,rfl,bk,rfl,?_⟩ ?_
 ·rcases hbm with ⟨rfl,rfl,rfl⟩|⟨rfl,hmn,D,rfl⟩
  ·exact ji (bu (by rw[h19];exact⟨ds,L17,lr17,l617,rfl⟩))
  ·obtain⟨d17,o17,_⟩:=L17.ob;refine kX (ay (aX (bx (pv 2) T.aK T.LQ (SH T) hr.m T.Ce.b1 .nil aH)) ?_);walk_at "rd";exact⟨dx,_,o17,rfl,L17.WX A0 (by lia) λnn H' L' kp=>by rw[h19];exact⟨ds++[D],by rw[← hmn];exact L',kp _ _ lr17 (λ_ _ _ y=>by cases y),kp _ _ l617 (λ_ _ _ y=>by cases y),rfl⟩⟩
 intro Z' H18 hv;rw[h19] at hv;obtain⟨ds2,L18,lr18,l618,rfl⟩:=hv;clear h19;obtain⟨d18,o18,_⟩:=L18.ob;obtain⟨lg6,gs6,Gs6,I6,c6,r6⟩:=L18.UW (RK n hn2);refine aI (λZ' H'=>Z'=[some (.ref sc),some (.ref lr),some (.ref x),some (.int n),y,some (.bl bk),some (.ref l6),some (.ref l7),some (.ref d8)]/\ak H18 H') (aW (PW.pt (iX (aB (rL (ae9 (jE hr))) (bx (bx (pv 2) T.aK T.yq (tG T) hr.m T.vL.b1 .nil aH) T.aL T.nj (jL T) hr.m T.lQ.b1 .nil aH) (pv 6) (aD _)) (gI (aB kJ (aN (jl T) hr.m rfl T.jv T.fN.kp T.fN.b5 .nil aH (aa (pv 2) (aa ao (aa aA (aa (br (aa ao (aa ao ai))) (aa (br (aa ao (aa ao ai))) ai)))))) aA (aD _))))) aq aq) ⟨_,rfl,x,dx,_,rfl,o18,rfl,x,dx,tt,d18,ld,lu1,rfl,o18,tt,dt,_,rfl,I6.ob,rfl,tt,dt,a,lg6,gs6,make w c,Gs6,rfl,I6,c6,λlw H19 e1 e2 s19=>?_⟩ ?_
 ·rw[r6] at e1;refine⟨_,rfl,lw,l6,_,_,rfl,rfl,bq.of e1,bq.of (s19 _ _ (aC _ _ l618)),nO _ _,_,rfl,yZ (show (!decide ((rws h r n).map V.str=(rws h r n).map V.str))=false by simp) (ji ?_)⟩;obtain⟨Gs7,B7,_⟩:=(L18.same s19).sb (RK n hn2);walk_at "rd";exact⟨by decide,λp1 g1=>⟨by decide,λp2 g2=>oS ((B7.same (ak.upd g1)).same (ak.upd g2)) (.inr ⟨rfl,rfl⟩) (ak.upd g2 _ _ af) af λH2 s2=>⟨rfl,lR (λz=>absurd rfl z) λ_=>bu ⟨rfl,s19.trans (((ak.upd g1).to g2).trans s2)⟩⟩⟩⟩
 rintro Z' H19 ⟨rfl,s19⟩;have L19:=L18.same s19;have lr19:=aT s19 _ _ lr18;clear L18 lr18 l618 o18 I6;obtain⟨IW,hIW⟩:∃IW:Nat->St->Hp->Prop,IW=λi Z' H'=>∃k ds us y,k+i=n/\us.length=i/\LS K t S1 H' sc ns x dx tt dt a ld lu1 (make w c) h r k ds us/\hid S1 H' lr=some (.lst ((h::r).map V.str))/\Z'=[some (.ref sc),some (.ref lr),some (.ref x),some (.int n),y,some (.bl bk),some (.ref l6),some (.ref l7),some (.ref d8)]:=⟨_,rfl⟩
 refine aI (λZ' H'=>IW n Z' H') (gk ab3 rfl (iw rfl T.kq (aa (pv 3) ai)) (uc 4 jt) aq) ?_ ?_
 ·refine⟨_,rfl,n,rfl,by lia,by lia,?_⟩;rw[aa5];refine kD (n:=n) IW (by rw[hIW];exact⟨n,ds2,[],_,rfl,rfl,L19,lr19,rfl⟩) ?_ ?_
  ·intro i Z' H20 hi hv;rw[hIW] at hv;obtain⟨k,ds3,us3,y3,e1,e2,L20,lr20,rfl⟩:=hv;obtain⟨k,rfl⟩:∃k',k=k'+1:=⟨k-1,by lia⟩
   have hdl3:=L20.len.1;obtain⟨ds',D,rfl⟩:∃ds' D,ds3=ds'++[D]:=by
    rcases ah1 ds3 with z|⟨p,z,e⟩
    ·rw[z] at hdl3;simp at hdl3
    ·exact⟨p,z,by rw[e,ah0]⟩
   obtain⟨d20,o20,_⟩:=L20.ob;refine ay (aX (bx (pv 2) T.aK T.Js (HY T) hr.m T.yh.b1 .nil aH)) ?_;walk_at "rd";exact⟨dx,_,o20,rfl,L20.Vc A0 (by lia) λnn H' L' kp=>by rw[hIW];exact⟨k,ds',us3++[D],_,by lia,by rw[o0,e2];rfl,L',kp _ _ lr20 (λ_ _ _ y=>by cases y),rfl⟩⟩
  ·intro Z' H20 hv;exact hv
 intro Z' H20 hv;rw[hIW] at hv;obtain⟨k,ds3,us3,y3,e1,e2,L20,lr20,rfl⟩:=hv;obtain rfl:k=0:=by lia
 obtain rfl:ds3=[]:=ag2.mp L20.len.1;obtain⟨d20,o20,_⟩:=L20.ob;obtain⟨lg8,gs8,Gs8,I8,c8,r8⟩:=L20.UW (RK 0 (by lia));refine aI (λZ' H'=>Z'=[some (.ref sc),some (.ref lr),some (.ref x),some (.int n),y3,some (.bl bk),some (.ref l6),some (.ref l7),some (.ref d8)]/\ak H20 H') (aW (PW.pt (iX (aB (rL (ae9 (jE hr))) (bx (bx (pv 2) T.aK T.yq (tG T) hr.m T.vL.b1 .nil aH) T.aL T.nj (jL T) hr.m T.lQ.b1 .nil aH) (pv 1) (aD _)) (gI (aB kJ (aN (jl T) hr.m rfl T.jv T.fN.kp T.fN.b5 .nil aH (aa (pv 2) (aa ao (aa aA (aa (br (aa ao (aa ao ai))) (aa (br (aa ao (aa ao ai))) ai)))))) aA (aD _))))) aq aq) ⟨_,rfl,x,dx,_,rfl,o20,rfl,x,dx,tt,d20,ld,lu1,rfl,o20,tt,dt,_,rfl,I8.ob,rfl,tt,dt,a,lg8,gs8,make w c,Gs8,rfl,I8,c8,λlw H21 e3 e4 s21=>?_⟩ ?_
 ·rw[r8] at e3;refine⟨_,rfl,lw,lr,_,_,rfl,rfl,bq.of e3,bq.of (s21 _ _ (aC _ _ lr20)),nO _ _,_,rfl,yZ (show (!decide ((rws h r 0).map V.str=(h::r).map V.str))=false by simp[rws]) (ji ?_)⟩;obtain⟨Gs9,B9,_⟩:=(L20.same s21).sb (RK 0 (by lia));walk_at "rd";exact⟨by decide,λp1 g1=>⟨by decide,λp2 g2=>oS ((B9.same (ak.upd g1)).same (ak.upd g2)) (.inl ⟨rfl,rfl⟩) (ak.upd g2 _ _ af) af λH2 s2=>⟨rfl,lR (λz=>absurd rfl z) λ_=>bu ⟨rfl,s21.trans (((ak.upd g1).to g2).trans s2)⟩⟩⟩⟩
 rintro Z' H21 ⟨rfl,s21⟩;exact ay (aP (aN (SR T) hr.m rfl T.PR T.Eb.kp T.Eb.b1 .nil aH (aa (pv 0) ai))) ⟨_,rfl,sc,ns,rfl,(L20.al.same aC).same s21,hl,λH' _=>q H'⟩
end
def VY(X:K.In h)(G:h.Ns mainGlobals mg)(e:PySem.W.nsIn K mainGlobals x=some (some u))(r:RelV v u):∃u,mg x=some u/\RelV v u:=⟨u,PySem.W.mg_of X G e,r⟩
def V6       (e:K.lookup a=some o) (h:o.cls = .type "tuple" /\ o.data = .seq its n/\its.size<=sizeLine/\Vals xs its.toList):∀H,fB K H a xs:=λ_=>.inr ⟨o,its,n,e,h⟩
def all_mk {l:W.OpenLaw}        (X:K.In h) (G:h.Ns mainGlobals mg) (hfa:mg "law" = some (.ref fa)) (T:Txt K mg t) (a:W.nsIn K mainGlobals "law" = some (some (.ref f))) (F:dh K "law" "law" BZ f d)
  : ∃fd:FuncData,(∀(s:Shared) (v:Value),BindsTo s fd ⟨[v],[]⟩ [("_law_script",v)])/\∀base:Heap,K.In base->base.Ns mainGlobals mg->bw l.prog w K mg base dM 13 fa fd ["_law_script"] (CF K):=by
 have e:=hfa.symm.trans (W.mg_of X G a);cases e;exact⟨d,(by obtain⟨_,_,_,_,_,_,_,_,_,e,_⟩:=F.ex;rw[e];exact λs v=>.of_eq rfl),λbase _ _=>QM F T⟩
def walk{l:W.OpenLaw}{K:Params->W.Frag}(hn:l.most=some 63)(hdf:d.params.defaults=[])
  (hY:∀(w:World) (h:Heap),YP w h->(K w.params).In h)
  (F:∀(w:World) (mg:Str->Option Value) (fa:Addr) (h:Heap),(K w.params).In h->h.Ns mainGlobals mg->mg d.name=some (.ref fa) ->
   ∃fd:FuncData,(∀(s:Shared) (u:Value),BindsTo s fd ⟨[u],[]⟩ [("_law_script",u)])/\∀base:Heap,(K w.params).In base->base.Ns mainGlobals mg->bw l.prog w (K w.params) mg base dM 13 fa fd ["_law_script"] (CF (K w.params))) :
  W.WalkO q loose XP YP l.row.toRowW d [] (λf vs=>PySem.call f vs) :=
 L2.Lc (n:=63) (k:=13) (x:="_law_script") (CX:=λ_=>dM) (sp:=λw=>CF (K w.params)) hn (by decide) hdf ⟨rfl,by decide,by decide⟩ hY F (λ_ _ a ns hl _ hS=>⟨a,ns,rfl,hS,hl,λ_=>rfl⟩) λ_ _ _ _ _ z=>z
end K64
open PySem PySem.W PyProof.Rows
set_option maxRecDepth 100000 in
set_option maxHeartbeats 0 in
theorem PySem.Challenge.cw_tintrow_k64_a_scribe_refuses_holds : PySem.Challenge.rw_tintrow_k64_a_scribe_refuses.Holds := by
 w_on;o_law;k_head;(case hw=>w_witness2)
 k_fill
 refine K64.walk (l:=PySem.Challenge.rw_tintrow_k64_a_scribe_refuses) rfl rfl (λw h Y=>PySem.W.kIn_of Y) ?F;case F =>
  intro w mg fa h KX G hmg;apply K64.all_mk (t:=⟨_,_,_,_,_,_,_,_,_,_,_,_,_,_,_,_,_,_,_,_,_,_,_,_,_,_,_,_,_,_,_,_,_,_,_,_,_,_,_,_,_,_,_,_,_,_,_,_,_,_,_,_,_,_,_,_,_,_,_,_,_,_,_,_,_,_,_,_,_,_,_,_,_,_,_,_,_,_,_,_,_,_,_,_,_,_,_,_,_,_,_,_,_,_,_,_,_,_,_,_,_,_,_,_,_,_,_,_,_,_,_,_,_,_,_,_,_,_,_,_,_,_,_,_,_,_,_,_,_,_,_,_,_,_,_,_,_,_,_,_,_,_,_,_,_,_,_,_,_,_,_,_,_,_,_,_,_,_,_,_,_,_,_,_,_,_,_,_,_,_,_,_,_,_,_,_,_,_,_,_,_,_,_,_,_,_,_,_,_,_,_,_,_,_,_,_,_,_,_,_,_,_,_,_⟩) KX G hmg;case a=>k_is
  case F=>apply L2.AG <;> k_is
  case T =>
   constructor;all_goals try (with_reducible refine PySem.W.mg_of KX G ?_;dsimp only;k_is)
   all_goals try (first | with_reducible apply L2.Meth.mk | with_reducible apply L2.Mk.mk | with_reducible apply L2.VS.mk | with_reducible apply L2.ny.mk) <;> (try dsimp only) <;> k_is
   all_goals try (apply L2.AG <;> (try dsimp only) <;> k_is)
   all_goals try (with_reducible refine PySem.W.mg_none_of KX G ?_;k_is)
   all_goals try (show PySem.W.findIn _ _ _=_;(try dsimp only);k_is)
   all_goals try (show PySem.W.kitOne _ _ _=_;(try dsimp only);kit_is)
   all_goals try (apply K64.VY KX G;k_is;exact⟨_,rfl⟩)
   all_goals try (apply K64.V6;(dsimp only;k_is);exact⟨rfl,rfl,by show _<=sizeLine;decide,by repeat (first | exact .nil | refine .cons ⟨_,rfl⟩ ?_)⟩)
   all_goals try ((first | with_reducible apply L2.t7.mk | with_reducible apply L2.ExcC.mk) <;> (try with_reducible apply L2.ExcC.mk) <;> (try with_reducible apply L2.nF.mk) <;> (try dsimp only) <;> first | k_is | kernel_rfl)
   all_goals try (with_reducible refine And.intro ?_ (And.intro ?_ ?_) <;> (try dsimp only) <;> k_is)
   all_goals try (apply L2.AG <;> (try dsimp only) <;> k_is)
   all_goals (try dsimp only) <;> first | k_is | k_exc | kernel_rfl
