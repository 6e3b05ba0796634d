import PyProof.Rows.All
import KE.RegKIsAll
import KE.KxText
import KE.RegKSuper
import KE.KRevIter
import KE.KDictSum
import KE.KEqDict
import KE.LcSums
import KE.KDictOf
import KE.KSortAsk
import KE.KSortTup
import KE.KListMore
import KE.KIntText
import KE.KIsAll
import OpenK.KOwn
import PyProof.ReprStr
import PySem.Challenge.RW_tintrow_k81_lines_of_a_desk
set_option Elab.async false
set_option compiler.extract_closed false
set_option bootstrap.genMatcherCode false
set_option genSizeOf false
set_option linter.all false
set_option autoImplicit true
set_option relaxedAutoImplicit true
set_option maxRecDepth 100000
def d5:=@List.length_map
def d6:=@List.getElem?_eq_some_iff
def i4:=@List.getElem?_eq_getElem
def i5:=@List.length_append
def o0:=@List.map_append
def p0:=@List.mem_of_getElem?
def v3:=@List.getElem?_map
def v6:=@List.length_take
def x0:=@PySem.Heap.get?_push_of_some
def y0:=@PySem.wpAny_bind
def B1:=@List.mem_singleton
def B2:=@List.length_drop
def D1:=@Option.map_eq_some_iff
def N0:=@Nat.le_refl
def P2:=@PySem.Heap.lt_size
def P3:=@List.length_cons
def Q1:=@List.mem_cons_of_mem
def T0:=@PySem.strLen_append
def T1:=@List.size_toArray
def U2:=@List.getElem?_append_right
def X1:=@List.mem_append
def X2:=@PySem.wpAny_pure
def Z2:=@List.mem_append_right
def Z4:=@PySem.F.plainAttrs_list
def Z5:=@List.mem_cons
def Z6:=@Nat.ne_of_lt
def Z7:=@Bool.false_ne_true
def Z9:=@Nat.zero_le
def aa0:=@PySem.F.slot_list_append
def aa1:=@Option.some.inj
def aa2:=@List.getElem?_append_left
def aa3:=@PySem.F.type_list_append
def aa4:=@Ne.symm
def aa5:=@PySem.Heap.get?_push_size
def aa6:=@Nat.lt_of_succ_lt
def aa7:=@PySem.PassesOwn.never
def aa8:=@List.mem_append_left
def aa9:=@List.mem_map
def ab0:=@PySem.Heap.get?_update_other
def ab1:=@Nat.lt_of_lt_of_le
def ab2:=@decide_eq_false
def ab3:=@List.take_length
def ab4:=@decide_eq_true
def ab5:=@List.map_cons
def ab6:=@List.getElem?_drop
def ab7:=@List.mem_cons_self
def ab8:=@List.mem_iff_getElem?
def ab9:=@Int.toNat_natCast
def ac0:=@List.append_assoc
def ac1:=@List.take_of_length_le
def ac2:=@Nat.le_trans
def ac3:=@List.length_reverse
def ac4:=@decide_eq_true_eq
def ac5:=@PySem.W.KT.empty_app
def ac6:=@List.length_nil
def ac7:=@congrArg
def ac8:=@List.getD_eq_getElem?_getD
def ac9:=@List.map_take
def ad0:=@PySem.sizeLine_eq
def ad1:=@List.not_mem_nil
def ad2:=@List.append_nil
def ad3:=@PySem.wpAny_mono
def ad4:=@Bool.and_eq_true
def ad5:=@List.eq_nil_of_length_eq_zero
def ad6:=@List.map_drop
def ad7:=@List.getElem?_eq_none
def ad8:=@List.take_append_drop
def ad9:=@Nat.min_eq_left
def ae0:=@PyProof.Rows.callWith_type1
def ae2:=@PySem.F.plainAttrs_str
def ae3:=@List.lookup_cons
def ae4:=@Nat.le_add_right
def ae5:=@List.mem_of_mem_take
def ae6:=@PySem.Txt.slice_le
def ae7:=@List.getLastD_eq_getLast?
def ae8:=@List.take_append_of_le_length
def ae9:=@PySem.wpAny_holding
def af0:=@PySem.Heap.get?_update_self
def af1:=@List.getElem?_take_of_lt
def af2:=@List.length_replicate
def af3:=@List.nodup_append
def af4:=@PySem.wpAny_truthy_bool
def af5:=@Bool.eq_iff_iff
def af6:=@List.getElem?_cons_zero
def af7:=@Option.map_some
def af8:=@PySem.StrLaws.found_one
def af9:=@List.length_dropLast
def ag1:=@PySem.F.slot_str_split
def ag2:=@List.getElem_mem
def ag3:=@List.map_map
def ag4:=@Array.getElem?_eq_some_iff
def ag5:=@List.length_pos_iff
def ag6:=@List.replicate_succ
def ag8:=@PySem.mem_of_lookup
def ag9:=@PySem.wpAny_newObj_type
def ah0:=@Nat.lt_irrefl
def ah1:=@PySem.Obj.isFreed_of_fields
def ah2:=@List.getElem?_cons_succ
def ah3:=@List.length_eq_zero_iff
def ah4:=@Int.zero_add
def ah5:=@Option.some.injEq
def ah6:=@Array.length_toList
def ah7:=@List.map_eq_nil_iff
def ah8:=@List.nodup_cons
def ah9:=@PySem.Calls.callWith_builtin
def ai0:=@List.drop_eq_nil_of_le
def ai1:=@Array.toList_inj
def ai4:=@PySem.Calls.spliced_cons
def ai6:=@List.getElem?_reverse
def ai7:=@PySem.wpAny_Call_Name_kw
def ai8:=@PySem.Heap.size_push
def ai9:=@PySem.Around.under_plainId
def aj0:=@PySem.Calls.evalArgs_plain
def aj1:=@PySem.F.slot_list_pop
def aj3:=@List.ext_getElem?
def aj4:=@List.find?_cons
def aj5:=@PySem.wpAny_passesOwn
def aj6:=@Nat.sub_self
def aj7:=@Nat.add_sub_cancel_left
def aj8:=@PySem.F.type_str_split
def aj9:=@List.all_eq_true
def ak0:=@List.drop_append_of_le_length
def ak1:=@Nat.lt_succ_self
def ak2:=@List.drop_drop
def ak3:=@List.drop_zero
def ak5:=@List.drop_of_length_le
def ak6:=@Bool.false_eq_true
def ak7:=@Nat.lt_of_le_of_lt
def ak8:=@PySem.Obj.data_mapFields
def ak9:=@PySem.tupleKind_room_in1
def al0:=@PySem.F.slot_str_startswith
def al1:=@PySem.F.type_list_pop
def al2:=@List.concat_eq_append
def al3:=@List.eq_nil_or_concat
def al4:=@List.foldl_cons
def al5:=@List.length_singleton
def al7:=@Nat.le_succ
def al9:=@PySem.W.methodCall_KW
def am0:=@PySem.Calls.spliced_nil
def am1:=@List.flatten_cons
def am2:=@List.foldl_append
def am3:=@List.sum_cons
def am4:=@PySem.call_meets
def am5:=@PySem.plainId_quiet
def am6:=@PySem.typeIs_str
def am7:=@PySem.Heap.get?_none_of_le
def am8:=@List.getElem?_set_ne
def am9:=@List.mem_range
def an0:=@LawfulBEq.eq_of_beq
def an1:=@List.filter_cons
def an2:=@Option.bind_some
def an3:=@or_false
def an4:=@List.length_zipWith
def an5:=@List.map_congr_left
def an6:=@List.take_succ_cons
def an7:=@Nat.add_le_add_left
def an8:=@PySem.W.callWith_K0
def an9:=@Sum.inr.inj
def ao0:=@Nat.ne_of_gt
def ao1:=@List.getElem?_take
def ao2:=@List.mem_filter
def ao3:=@List.mem_filterMap
def ao4:=@List.nil_append
def ao5:=@PySem.W.callWith_K
def ao6:=@PySem.codeAny_builtin
def ao7:=@PySem.wpAny_execs_nil
def ao8:=@PySem.wpAny_field
def ao9:=@if_false
def ap0:=@Nat.le_of_eq
abbrev C5:=@if_neg
abbrev w4:=@if_pos
noncomputable abbrev PySem.Str.l(s:Str):=s.cps.toList
abbrev a9:=List PySem.Str
abbrev c6:=List PySem.Addr
abbrev c7:=List Nat
abbrev c8:=List PySem.Value
abbrev c9:=List Int
abbrev f7:=List (PySem.Addr×PySem.Obj)
abbrev g6:=PySem.Str->Option PySem.Value
abbrev n7:=Array PySem.Value
abbrev q0:=PySem.Addr->Prop
noncomputable section
local macro_rules|`(lay_quick $y*)=>return Lean.mkNullNode (<- ((List.range 1290).map (s!"o_{·+43}")++(y.toList.drop 1).map (toString ·.getId)).toArray.mapM λn=>`(command|def $(Lean.mkIdent (.mkStr `PySem.W.Fast s!"tw{(y[0]!.getId.str n).hash}")):ident:=trivial))
lay_quick dE env_41 heap_39 heap_46 heap_1333 sts_49 sts_71 sts_93 sts_115 sts_130 sts_145 sts_160 sts_175 sts_205 sts_241 sts_277 sts_313 sts_349 sts_378 sts_400 sts_427 sts_450 sts_473 sts_527 sts_587 sts_659 sts_715 sts_738 sts_954 sts_991 sts_1076 sts_1110 sts_1131 sts_1192 sts_1279 tree_47 tree_70 tree_92 tree_114 tree_129 tree_144 tree_159 tree_174 tree_204 tree_240 tree_276 tree_312 tree_348 tree_377 tree_399 tree_426 tree_449 tree_472 tree_526 tree_586 tree_658 tree_714 tree_737 tree_870 tree_950 tree_990 tree_1075 tree_1107 tree_1130 tree_1191 tree_1278 tree_1332 view_39
def PySem.W.Fast.tw13670369508130976617:=trivial
def PySem.W.Fast.tw11952201423057677683:=trivial
set_option maxHeartbeats 0 in
open_top dE for PySem.Challenge.rw_tintrow_k81_lines_of_a_desk
local macro_rules | `(tactic| lk)=>`(tactic| decide +kernel)
set_option hygiene false in
local macro_rules | `(tactic| left)=>`(tactic| first|rfl|decide|exact .inl rfl|exact .inr rfl|exact .inr (.inl rfl)|exact .inr (.inr rfl)|assumption|((repeat intro _);rfl)|exact yb _ (by decide) (by decide)|(intro y;cases y))
theorem cw(_:True:=by left):True:=⟨⟩
variable {us its bm:List PySem.Value}{w:PySem.World}{h h' h2 ap:PySem.Heap}{L C dx C2:PySem.Addr}{am:List (PySem.Addr×PySem.Obj)}{s s':PySem.Shared}{t':Nat}{ch fp:List PySem.Addr}{N ps:List PySem.Str}{M:PySem.Model}{A:PySem.Around}{pos pos' apos cpos px:PySem.Pos}{es ifs elts:List PySem.Expr}{tg iter value elt:PySem.Expr}{body:List PySem.Stmt}{prog:PySem.Program}{name qual:PySem.Str}{env:PySem.Env}{mg mN:PySem.Str->Option PySem.Value}{outer:List PySem.Env}{fd:PySem.FuncData}{sc scope csc:PySem.Scope}{items2:Array PySem.Value}{ms:c9}{caps:List (PySem.Str×Nat)}
namespace L2
theorem Y13(_:True:=by decide +kernel):True:=⟨⟩
open PySem PySem.Spec PyProof.Rows
abbrev Key:=Sum Int Str
noncomputable def vK:Key->Value->Bool
 |.inl k,v=>Value.isInt k v
 |.inr x,v=>Value.isStrOf x v
noncomputable def Za(w:World):Key->Int
 |.inl k=>hashInt k
 |.inr x=>hashStr w x
theorem dZ:∀{k:Key} {v:Value},vK k v=true->(∃i t,k=Sum.inl i/\v=Value.int i t)\/(∃x t,k=Sum.inr x/\v=Value.str x t)
 |.inl i,v,h=>by obtain⟨t,e⟩:=Value.isInt_shape (k:=i) (v:=v) h;exact .inl ⟨i,t,rfl,e⟩
 |.inr x,v,h=>by obtain⟨t,e⟩:=Value.isStrOf_shape (x:=x) (v:=v) h;exact .inr ⟨x,t,rfl,e⟩
def DH(i:Int)(t:Tok):vK (.inl i) (.int i t)=true:=by simp[vK,Value.isInt]
def Dg(x:Str)(t:Tok):vK (.inr x) (.str x t)=true:=by simp[vK,Value.isStrOf]
def Vf(a b:Int):decide ((Sum.inl a:Key)=Sum.inl b)=(a == b):=by
 by_cases e:a=b
 .subst e;simp
 .rw[ab2 (λq=>e (Sum.inl.inj q))];exact(beq_eq_false_iff_ne.mpr e).symm
def VI(a b:Str):decide ((Sum.inr a:Key)=Sum.inr b)=decide (a=b):=by
 by_cases e:a=b
 .subst e;simp
 .rw[ab2 (λq=>e (an9 q)),ab2 e]
def T6(a:Int)(b:Str):decide ((Sum.inl a:Key)=Sum.inr b)=false:=ab2 (λq=>nomatch q)
def VA(a:Str)(b:Int):decide ((Sum.inr a:Key)=Sum.inl b)=false:=ab2 (λq=>nomatch q)
def cJ(prog:Program)(w:World):KeyKind prog w Key where
 is:=vK
 hash:=Za w
 inj:=λv a b f d=>by
  rcases dZ f with ⟨i,t,rfl,rfl⟩|⟨x,t,rfl,rfl⟩
  .rcases dZ d with ⟨j,u,rfl,e⟩|⟨y,u,rfl,e⟩
   .injection e with e1 _;rw[e1]
   .exact nomatch e
  .rcases dZ d with ⟨j,u,rfl,e⟩|⟨y,u,rfl,e⟩
   .exact nomatch e
   .injection e with e1 _;rw[e1]
 byValue:=λk v h=>by rcases dZ h with ⟨i,t,rfl,rfl⟩|⟨x,t,rfl,rfl⟩ <;> rfl
 pyHash:=λc h=>by
  rcases dZ c with ⟨i,t,rfl,rfl⟩|⟨x,t,rfl,rfl⟩
  .exact wpAny_pyHash_int h
  .exact wpAny_pyHash_str h
 eqBool:=λg c h=>by
  rcases dZ g with ⟨i,t,rfl,rfl⟩|⟨x,t,rfl,rfl⟩
  .rcases dZ c with ⟨j,u,rfl,rfl⟩|⟨y,u,rfl,rfl⟩
   .rw[Vf] at h;exact wpAny_eqBool_int h
   .rw[T6] at h;exact SeqAt.EqAt.int_str i t y u _ _ _ _ h
  .rcases dZ c with ⟨j,u,rfl,rfl⟩|⟨y,u,rfl,rfl⟩
   .rw[VA] at h;exact SeqAt.EqAt.str_int x t j u _ _ _ _ h
   .rw[VI] at h;exact wpAny_eqBool_str h
 «strs»:=λk x t v h=>by
  rcases dZ h with ⟨i,u,rfl,e⟩|⟨y,u,rfl,e⟩
  .exact nomatch e
  .injection e with e1 _
   subst e1;cases v <;> rfl
def yX(prog:Program)(w:World)(i:Int)(t:Tok):(cJ prog w).is (.inl i) (.int i t)=true:=DH i t
def xP(prog:Program)(w:World)(x:Str)(t:Tok):(cJ prog w).is (.inr x) (.str x t)=true:=Dg x t
inductive V where
 |dj | bl (b:Bool) | int (i:Int) | str (x:Str) | byt (b:Array UInt8) | flt (b:UInt64) | ref (a:Addr) | ty (n:String)
 deriving DecidableEq
abbrev q7:=List V
def RelV:V->Value->Prop
 |.dj,u=>u=Value.none
 |.bl b,u=>u=Value.bool b
 |.int i,u=>∃t,u=Value.int i t
 |.str x,u=>∃t,u=Value.str x t
 |.byt b,u=>∃t,u=Value.bytes b t
 |.flt b,u=>∃t,u=Value.float b t
 |.ref a,u=>u=Value.ref a
 |.ty n,u=>u=Value.type n
abbrev Vals:q7->c8->Prop:=Paired RelV
def Vals.length(r:Vals xs us):xs.length=us.length:=Paired.length r
theorem Vals.get:∀{xs:q7} {us:c8} {i:Nat} {x:V},Vals xs us->xs[i]?=some x->∃u,us[i]?=some u/\RelV x u
 |_,_,_,_,.nil,e=>by simp at e
 |_,_,0,_,.cons r _,e=>by simp at e;subst e;exact⟨_,rfl,r⟩
 |_,_,i+1,x,.cons _ t,e=>by obtain⟨u,h1,h2⟩:=Vals.get (i:=i) (x:=x) t (by simpa using e);exact⟨u,by simpa using h1,h2⟩
theorem Vals.set(r:RelV x u):∀{xs:q7} {us:c8} (i:Nat),Vals xs us->Vals (xs.set i x) (us.set i u)
 |_,_,_,.nil=>.nil
 |_,_,0,.cons _ t=>.cons r t
 |_,_,i+1,.cons q t=>.cons q (Vals.set r i t)
def Vals.append{xs ys:q7}{us ws:c8}(a:Vals xs us)(b:Vals ys ws):Vals (xs++ys) (us++ws):=by induction a with|nil=>exact b|cons r _ i=>exact .cons r i
theorem Vals.take:∀{xs:q7} {us:c8} (n:Nat),Vals xs us->Vals (xs.take n) (us.take n)
 |_,_,0,_=>.nil
 |_,_,_+1,.nil=>.nil
 |_,_,n+1,.cons r t=>.cons r (Vals.take n t)
theorem Vals.drop:∀{xs:q7} {us:c8} (n:Nat),Vals xs us->Vals (xs.drop n) (us.drop n)
 |_,_,0,r=>r
 |_,_,_+1,.nil=>.nil
 |_,_,n+1,.cons _ t=>Vals.drop n t
def kC:Option V->Option Value->Prop
 |some v,some u=>RelV v u
 |none,none=>True
 |_,_=>False
def KV{κ:Type}:List (κ×V)->List (κ×Value)->Prop:=Paired λp q=>p.1=q.1/\RelV p.2 q.2
noncomputable def kV:Key->V
 |.inl i=>.int i
 |.inr x=>.str x
inductive HO where
  |lst (xs:q7)
  |tup (xs:q7)
  |dK (kvs:List (Key×V)) | dT (kvs:List (List Key×V))
  |set (S:Int->Bool) (n:Nat)
  |ins (C dx:Addr) (fs:List (Str×V))
  |own (x:Addr)
  |xd (fs:List (Str×V))
  |met (f x:Addr)
  |YS (lo hi:Int)
  |mC (o:Obj) (u:HO)
  |NN (ps:n7)
  |ext (φ:Heap->Prop)
noncomputable abbrev r6(x:List V):=some (HO.lst x)
noncomputable abbrev s0(C d:Addr)(f:List (Str×V)):=some (HO.ins C d f)
noncomputable abbrev t0(x:List V):=some (HO.tup x)
abbrev Hp:=Addr->Option HO
noncomputable def ag(H:Hp)(a:Addr)(o:HO):Hp:=λb=>if b=a then some o else H b
def aa:ag H a o a=some o:=by unfold ag;rw[w4 rfl]
def aj(h:b≠a):ag H a o b=H b:=by unfold ag;rw[C5 h]
def fV:ag (ag H a o) a u=ag H a u:=by funext b;unfold ag;split <;> rfl
def bL{H:Hp}(h:H a=some o)(h':H b=some u)(d:autoParam (o≠u) cw._auto_1):a≠b:=by intro e;subst e;rw[h] at h';exact d (aa1 h')
def au{H:Hp}(h:H a=some o)(h':H b=none):a≠b:=by intro e;subst e;rw[h] at h';cases h'
section
variable (P:Program)(w:World)
def dz(H:Hp)(h:Heap)(a:Addr):HO->Prop
 |.lst xs=>xs.length<=sizeLine/\∃its n,Vals xs its/\h.get? a=some { cls:=.type "list",data:=.seq its.toArray n }
 |.tup xs=>xs.length<=sizeLine/\∃its,Vals xs its/\IsTup h a its.toArray
 |.dK kvs=>kvs.length<=sizeLine/\(a == sysModules)=false/\∃vs,KV kvs vs/\h.DictOf (cJ P w) a vs
 |.dT kvs=>kvs.length<=sizeLine/\(a == sysModules)=false/\∃xs:List (List Key×Addr×Value),
   Paired (λp q=>p.1=q.1/\H q.2.1=t0 (p.1.map kV)/\RelV p.2 q.2.2) kvs xs /\
   ∃o es ep,h.get? a=some o/\o.ExactDict/\o.data = .dict es ep/\es.toList=xs.map (entryOfKey (tupleKind (cJ P w)))/\(xs.map (·.1)).Nodup
 |.set S n=>h.SetOf (intKind P w) a S n
 |.ins C dx fs=>H dx=some (.own a)/\fs.length<=1000/\dx≠a/\h.get? a=some (W.instObj C dx) /\
   ∃mA,h.Ns1 dx mA/\(∀f,kC (fs.lookup f) (mA f))/\PySem.Within mA (fs.map (·.1))
 |.own _=>∃o,h.get? a=some o
 |.xd fs=>∃mA,h.Ns1 a mA/\∀f,kC (fs.lookup f) (mA f)
 |.YS lo hi=>∃t u v,h.get? a=some { cls:=.type "range",data:=.fields #[.int lo t,.int hi u,.int 1 v] }
 |.mC o u=>h.get? a=some o/\dz H h a u
 |.NN ps=>h.get? a=some { cls:=.none,data:=.fields ps }
 |.met f x=>h.get? a=some (W.methodObj (.ref f) (.ref x))
 |.ext φ=>φ h/\(∃o,h.get? a=some o)/\∀h1 h2,φ h1->(∀o,h1.get? a=some o->h2.get? a=some o)->φ h2
def lR(H:Hp)(h:Heap):Prop:=∀a o,H a=some o->dz P w H h a o
end
section
variable {P:Program}{H H':Hp}{a:Addr}{o:HO}
def dz.lt(x:dz P w H h a o):a<h.objs.size:=by
 cases o with
 |lst xs=>obtain⟨_,_,_,_,e⟩:=x;exact P2 e
 |tup xs=>obtain⟨_,_,_,p⟩:=x;exact p.lt
 |dK kvs=>obtain⟨_,_,_,_,o,_,_,e,_⟩:=x;exact P2 e
 |dT kvs=>obtain⟨_,_,_,_,o,_,_,e,_⟩:=x;exact P2 e
 |set S n=>obtain⟨o,_,_,_,e,_⟩:=x;exact P2 e
 |ins C dx fs=>obtain⟨_,_,_,e,_⟩:=x;exact P2 e
 |own y=>obtain⟨_,e⟩:=x;exact P2 e
 |xd fs=>obtain⟨_,⟨_,_,_,e,_⟩,_⟩:=x;exact P2 e
 |YS lo hi=>obtain⟨_,_,_,e⟩:=x;exact P2 e
 |mC ob u=>obtain⟨e,_⟩:=x;exact P2 e
 |NN ps=>exact P2 (show h.get? a=some _ from x)
 |met f y=>exact P2 (show h.get? a=some _ from x)
 |ext φ=>obtain⟨_,⟨_,e⟩,_⟩:=x;exact P2 e
def Paired.Vg{α β:Type}{F G:α->β->Prop}{l:List α}{m:List β}(h:Paired F l m)(f:∀a b,F a b->G a b):Paired G l m:=by induction h with|nil=>exact .nil|cons r _ i=>exact .cons (f _ _ r) i
def dz.stay(x:dz P w H h a o)(k:∀b u,(b=a\/H b=some (.own a))->h.get? b=some u->h'.get? b=some u)
  (ho:∀b,H b=some (.own a)->H' b=some (.own a)) (ht:∀b xs,H b=t0 xs->H' b=t0 xs):dz P w H' h' a o:=by
 induction o with
 |lst xs=>obtain⟨z,j,n,r,e⟩:=x;exact⟨z,j,n,r,k _ _ (.inl rfl) e⟩
 |tup xs=>obtain⟨z,j,r,ob,e,c⟩:=x;exact⟨z,j,r,ob,k _ _ (.inl rfl) e,c⟩
 |dK kvs=>obtain⟨z,y,B,r,ob,g,i,e,c⟩:=x;exact⟨z,y,B,r,ob,g,i,k _ _ (.inl rfl) e,c⟩
 |dT kvs =>
  obtain⟨z,y,xs,r,ob,g,i,e,c⟩:=x;exact⟨z,y,xs,Paired.Vg r λp q z=>⟨z.1,ht _ _ z.2.1,z.2.2⟩,ob,g,i,k _ _ (.inl rfl) e,c⟩
 |set S n=>obtain⟨ob,g,i,t,e,c⟩:=x;exact⟨ob,g,i,t,k _ _ (.inl rfl) e,c⟩
 |ins C dx fs =>
  obtain⟨d,z,ne,e,l,⟨s,g,i,D,c⟩,r⟩:=x;exact⟨ho _ d,z,ne,k _ _ (.inl rfl) e,l,⟨s,g,i,k _ _ (.inr d) D,c⟩,r⟩
 |own y=>obtain⟨ob,e⟩:=x;exact⟨ob,k _ _ (.inl rfl) e⟩
 |xd fs=>obtain⟨l,⟨s,g,i,e,c⟩,r⟩:=x;exact⟨l,⟨s,g,i,k _ _ (.inl rfl) e,c⟩,r⟩
 |YS lo hi=>obtain⟨t,u,v,e⟩:=x;exact⟨t,u,v,k _ _ (.inl rfl) e⟩
 |mC ob u ih=>obtain⟨e,q⟩:=x;exact⟨k _ _ (.inl rfl) e,ih q⟩
 |NN ps =>
  show h'.get? a=some { cls:=.none,data:=.fields ps };exact k a _ (.inl rfl) x
 |met f y =>
  show h'.get? a=some (PySem.W.methodObj (.ref f) (.ref y));exact k a _ (.inl rfl) x
 |ext φ=>obtain⟨p,⟨o,e⟩,A⟩:=x;exact⟨A _ _ p λo q=>k _ _ (.inl rfl) q,⟨o,k _ _ (.inl rfl) e⟩,A⟩
def lR.lt(x:lR P w H h)(e:H a=some o):a<h.objs.size:=(x a o e).lt
def lR.fresh(x:lR P w H h)(e:h.objs.size<=a):H a=none:=by
 cases q:H a with
 |none=>rfl
 |some u=>exact absurd (ab1 (x.lt q) e) (ah0 _)
def lR.kept(x:lR P w H h)(k:∀b u,h.get? b=some u->h'.get? b=some u):lR P w H h':=λa o e =>
 (x a o e).stay (λb u _ q=>k b u q) (λ_ q=>q) λ_ _ q=>q
def lR.laid(x:lR P w H h)(k:∀b u,h.get? b=some u->h'.get? b=some u)(hp:h.objs.size<=a)(new:dz P w (ag H a o) h' a o):lR P w (ag H a o) h':=λb u e=>by
 have d:=x.fresh hp;by_cases f:b=a
 .subst f;rw[aa] at e;cases e;exact new
 .rw[aj f] at e;exact(x b u e).stay (λc v _ q=>k c v q) (λc q=>by rw[aj (au q d)];exact q) λc g q=>by rw[aj (au q d)];exact q
end
def Rd(H:Hp)(a:Addr)(u:HO):Prop:=H a=some u\/∃o,H a=some (.mC o u)
def Rd.ok(r:Rd H a u)(x:lR P w H h):dz P w H h a u:=by
 rcases r with r|⟨o,r⟩
 .exact x a u r
 .obtain⟨_,q⟩:=x a _ r;exact q
def Xn:Option HO->Prop
 |some (.lst _)=>True
 |some (.dK _)=>True
 |some (.dT _)=>True
 |some (.set _ _)=>True
 |some (.ins _ _ _)=>True
 |some (.ext _)=>True
 |_=>False
section
variable {P:Program}{H:Hp}{x e:Addr}{o':HO}
def lR.write(ok:lR P w H h)(mu:Xn (H x))(he:e=x\/H e=some (.own x))(k:∀b u,b≠e->h.get? b=some u->h'.get? b=some u)(heo:∃u,h'.get? e=some u)
  (new:dz P w (ag H x o') h' x o'):lR P w (ag H x o') h':=λb u q=>by
 have d:∀c y,H c=some (.own y)->c≠x:=λc y r z=>by subst z;rw[r] at mu;exact mu
 have f:∀c g,H c=t0 g->c≠x:=λc g r z=>by subst z;rw[r] at mu;exact mu
 by_cases i:b=x
 .subst i;rw[aa] at q;cases q;exact new
 .rw[aj i] at q;by_cases a:b=e
  .have l:H b=some (.own x):=by
    rcases he with z|z
    .exact absurd (a.trans z) i
    .exact a▸z
   rw[q] at l;cases l;obtain⟨v,n⟩:=heo;exact⟨v,a▸n⟩
  .refine(ok b u q).stay (λc v j r=>k c v ?_ r) (λc r=>by rw[aj (d c b r)];exact r) λc g r=>by rw[aj (f c g r)];exact r
   rcases j with rfl|j
   .exact a
   .rintro rfl;rcases he with z|z
    .exact d c b j z
    .rw[j] at z;cases z;exact i rfl
end
structure Un(fs ex:c6)(H H':Hp)(h h':Heap):Prop where
 keep:∀b o,h.get? b=some o->H b=none->b∉fs->b∉ex->h'.get? b=some o
 slot:∀b o,h.get? b=some o->H b=none->b∈fs->b∉ex->∃sl,h'.get? b=some { o with slots:=sl }
 free:∀b o,h.get? b=some o->H b=none->b∉ex->H' b=none
 there:∀b o,h.get? b=some o->b∉ex->∃o',h'.get? b=some o'
 tups:∀b xs,H b=t0 xs->H' b=t0 xs
 pR:∀b o u,H b=some (.mC o u)->H' b=some (.mC o u)
 rL:∀b ps,H b=some (.NN ps)->∃more,H' b=some (.NN (ps++more))
section
variable {fs fs' ex ex':c6}{H H1 H2:Hp}{h1:Heap}{a x e:Addr}{o:HO}
def Un.any(u:Un fs ex H H1 h h1)(q:h.get? b=some ob)(n:H b=none)(hx:b∉ex):∃sl,h1.get? b=some { ob with slots:=sl }:=by
 by_cases a:b∈fs
 .exact u.slot b ob q n a hx
 .exact⟨ob.slots,u.keep b ob q n a hx⟩
def Un.kept(k:∀b u,h.get? b=some u->h'.get? b=some u):Un fs ex H H h h' :=
 ⟨λb a q _ _ _=>k b a q,λb a q _ _ _=>⟨a.slots,k b a q⟩,λ_ _ _ n _=>n,λb a q _=>⟨a,k b a q⟩,λ_ _ q=>q,λ_ _ _ q=>q,λ_ c q=>⟨#[],by rw[q];simp⟩⟩
def Un.refl:Un fs ex H H h h:=Un.kept λ_ _ q=>q
def Un.laid(k:∀b u,h.get? b=some u->h'.get? b=some u)(hp:h.objs.size<=a)(hn:H a=none):Un fs ex H (ag H a o) h h' where
 keep:=λb u q _ _ _=>k b u q
 slot:=λb u q _ _ _=>⟨u.slots,k b u q⟩
 free:=λb u q n _=>by rw[aj (Z6 (ab1 (P2 q) hp))];exact n
 there:=λb u q _=>⟨u,k b u q⟩
 tups:=λb c q=>by rw[aj (au q hn)];exact q
 pR:=λb u c q=>by rw[aj (au q hn)];exact q
 rL:=λb d q=>⟨#[],by rw[aj (au q hn),q];simp⟩
def Un.write(mu:Xn (H x))(he:e=x\/H e=some (.own x))(k:∀b u,b≠e->h.get? b=some u->h'.get? b=some u)(heo:∃u,h'.get? e=some u):Un fs ex H (ag H x o) h h':=by
 have d:∀b,H b=none->b≠x:=λb n z=>by subst z;rw[n] at mu;exact mu
 have f:∀b,H b=none->b≠e:=λb n z=>by
  subst z;rcases he with r|r
  .exact d b n r
  .rw[n] at r;cases r
 have c:∀b u,H b=some u -> ¬Xn (some u)->b≠x:=λb u q g z=>by subst z;rw[q] at mu;exact g mu
 refine⟨λb u q n _ _=>k b u (f b n) q,λb u q n _ _=>⟨u.slots,k b u (f b n) q⟩,λb u q n _=>by rw[aj (d b n)];exact n,λb u q _=>?_,
  λb i q=>by rw[aj (c b _ q λz=>z)];exact q,λb u i q=>by rw[aj (c b _ q λz=>z)];exact q,λb j q=>⟨#[],by rw[aj (c b _ q λz=>z),q];simp⟩⟩
 by_cases a:b=e
 .subst a;exact heo
 .exact⟨u,k b u a q⟩
end
noncomputable def YT(h:Heap)(H:Hp):c6:=(List.range h.objs.size).filter λa=>(H a).isSome
def wZ(h:Heap)(H:Hp):Heap:=PySem.W.hideAll h (YT h H)
def DQ(h:Heap)(H:Hp):(wZ h H).objs.size=h.objs.size:=W.hideAll_size _ _
def Hr(e:h.get? b=some o)(n:H b=none):(wZ h H).get? b=some o :=
 W.hideAll_get _ e λa=>by have q:=(ao2.mp a).2;rw[n] at q;simp at q
def LY(e:(wZ h H).get? b=some o):h.get? b=some o/\H b=none:=by
 have a:h.get? b=some o:=PySem.W.of_hideAll (YT h H) e;refine⟨a,?_⟩;cases q:H b with
 |none=>rfl
 |some x =>
  have z:(wZ h H).get? b=none:=PySem.W.hideAll_none (YT h H) (ao2.mpr ⟨am9.mpr (P2 a),by simp[q]⟩);rw[z] at e;cases e
noncomputable def se(g h:Heap)(L:Addr):f7:=(List.range h.objs.size).filterMap λa=>if a=L\/(g.get? a).isSome=true then none else (h.get? a).map λo=>(a,o)
def mX(h1:a≠L)(h2:g.get? a=none)(h3:h.get? a=some o):(a,o)∈se g h L :=
 ao3.mpr ⟨a,am9.mpr (P2 h3),by simp[h1,h2,h3]⟩
def ue(hp:p∈se g h L):p.1≠L/\g.get? p.1=none/\h.get? p.1=some p.2:=by
 obtain⟨b,_,e⟩:=ao3.mp hp;split at e
 .cases e
 .rename_i a;cases q:h.get? b with
  |none=>rw[q] at e;simp at e
  |some u =>
   rw[q] at e;simp only[af7,ah5] at e;subst e;refine⟨λz=>a (.inl z),?_,q⟩;show g.get? b=none;cases r:g.get? b with
   |none=>rfl
   |some v=>exact(a (.inr (by simp[r]))).elim
def Fv:News g L h (se g h L):=λp d=>let ⟨a,b,c⟩:=ue d;⟨c,a,b⟩
structure Mod(K:PySem.W.Frag)(mg:g6)(ap:Heap):Prop where
 uF:K.In ap
 glob:ap.Ns mainGlobals mg
 blt:∃mb,ap.Ns builtinsNs mb/\∀x:Str,x ≠ "__name__" -> mb x=bootBuiltins x
 nolimit:ap.NoLimit
structure Cx where
 prog:Program
 w:World
 K:W.Frag
 mg:Str->Option Value
 ap:Heap
 A:Around
 N:a9
 s₀:Shared
 H₀:Hp
 env:Env
 outer:List Env
 stack:List Env
 ex:c6
 fn:Str->Bool
 aw:Bool
 pn:f7
 xe:Value->Shared->Prop
noncomputable def frs(l:List Env):c6:=l.filterMap (·.frame)
abbrev Cx.fs(X:Cx):c6:=frs X.outer
def X6(sc:Scope)(x:Str):Prop:=sc.names.lookup x=some .local\/sc.names.lookup x=some .cell\/sc.names.lookup x=some .free
def Loc(sc:Scope)(x:Str):Prop:=sc.names.lookup x=some .local\/sc.names.lookup x=some .cell
def Look(env:Env)(h:Heap)(m:g6)(x:Str)(u:Value):Prop :=
 (env.kindOf x=some .local/\m x=some u)\/((env.kindOf x=some .cell\/env.kindOf x=some .free)/\∃c,env.cells.lookup x=some c/\h.IsCell c (some u))
structure Cx.Ok(X:Cx):Prop where
 mod:Mod X.K X.mg X.ap
 kind:X.env.scope.kind = .function
 glob:X.env.globals=mainGlobals
 blt:X.env.builtins=builtinsNs
 above:X.s₀.heap.objs.size<=X.env.locals
 inj:∀x y c,X.env.cells.lookup x=some c->X.env.cells.lookup y=some c->x=y
 has:∀x,(X.env.kindOf x=some .cell\/X.env.kindOf x=some .free)->∃c,X.env.cells.lookup x=some c
 We:∀x c,X.fn x=true->X.env.cells.lookup x=some c->X.s₀.heap.objs.size<=c
 hd:X.aw=true->X.A.handled=none
 frames:X.A.frames=some X.stack
 stk:X.stack=X.outer\/(X.stack=X.env::X.outer/\X.env.frame=some X.env.locals)
 Zk:∀b∈X.ex,b≠X.env.locals/\∀x c,X.env.cells.lookup x=some c->c≠b
 bs:∀b o,X.ap.get? b=some o->X.s₀.heap.get? b=some o/\X.H₀ b=none
 MT:X.ap.objs.size<=X.s₀.heap.objs.size
 DY:∀b o,X.ap.get? b=some o->b∉X.ex
 HK:∀b∈X.ex,b∉X.fs
 qP:X.s₀.heap.FunFrames X.ap X.outer
 Rc:∀b∈X.fs,X.H₀ b=none
structure Inv(X:Cx)(am:f7)(Z:List (Option V))(H:Hp)(s:Shared):Prop where
 ok:X.Ok
 os:s.os=X.s₀.os
 ax:AllBare s.gens
 ap:Un X.fs X.ex X.H₀ H X.s₀.heap s.heap
 loc:∃m,s.heap.Ns X.env.locals m/\∀(i:Nat) (x:Str) (v:V),X.N[i]?=some x->Z[i]?=some (some v)->X6 X.env.scope x->∃u,RelV v u/\Look X.env s.heap m x u
 cell:∀x c,X.env.cells.lookup x=some c->∃v,s.heap.IsCell c v
 free:H X.env.locals=none
 je:∀x c,X.env.cells.lookup x=some c->H c=none
 pin:∀p∈X.pn++am,s.heap.get? p.1=some p.2/\H p.1=none/\p.1≠X.env.locals/\p.1∉X.fs/\∀v,p.2.data ≠ .cell v
 ba:lR X.prog X.w H s.heap
 len:Z.length=X.N.length
section
variable {X:Cx}{Z:List (Option V)}{H H':Hp}
def Cx.Ok.Zj(ok:X.Ok)(e:X.ap.get? b=some o):b∉X.fs:=λa=>by have:=(ok.qP.mem a).1;rw[e] at this;cases this
def Inv.bs(I:Inv X am Z H s):∀b o,X.ap.get? b=some o->s.heap.get? b=some o/\H b=none:=λb o e =>
 ⟨I.ap.keep b o (I.ok.bs b o e).1 (I.ok.bs b o e).2 (I.ok.Zj e) (I.ok.DY b o e),I.ap.free b o (I.ok.bs b o e).1 (I.ok.bs b o e).2 (I.ok.DY b o e)⟩
def Inv.bk(I:Inv X am Z H s):∀b o,X.ap.get? b=some o->s.heap.get? b=some o:=λb o e=>(I.bs b o e).1
def Inv.mod(I:Inv X am Z H s):Mod X.K X.mg X.ap:=I.ok.mod
def Inv.uG(I:Inv X am Z H s):X.K.In s.heap:=I.ok.mod.uF.keeps I.bk
def Inv.lt(I:Inv X am Z H s):X.env.locals<s.heap.objs.size:=by obtain⟨_,a,_⟩:=I.loc;exact a.lt
def Inv.sz(I:Inv X am Z H s):X.s₀.heap.objs.size<=s.heap.objs.size:=ac2 I.ok.above (Nat.le_of_lt I.lt)
def Inv.Xj(I:Inv X am Z H s)(h:s.heap.objs.size<=a):a∉X.fs:=λb=>by obtain⟨_,o,c,_⟩:=I.ok.qP.mem b;exact absurd (ab1 (P2 c) (ac2 I.sz h)) (ah0 _)
def Inv.HN(I:Inv X am Z H s):∀x c,X.env.cells.lookup x=some c->c≠X.env.locals:=λx c e z=>by obtain⟨v,o,d,f⟩:=I.cell x c e;obtain⟨m,⟨g,h,i,a,b,_⟩,_⟩:=I.loc;rw[z,a] at d;cases d;rw[b] at f;cases f
def Inv.qP(I:Inv X am Z H s):s.heap.FunFrames X.ap X.outer:=by
 have all:∀(l:List Env),(∀b∈frs l,b∈X.fs)->X.s₀.heap.FunFrames X.ap l->s.heap.FunFrames X.ap l:=by
  intro l;induction l with
  |nil=>intro _ _;trivial
  |cons env r ih =>
   intro f hl;obtain⟨g,⟨L,o,a,h,i,j⟩,hr⟩:=hl;have c:=f L (by unfold frs;exact List.filterMap_cons▸a▸ab7);obtain⟨n,e⟩:=I.ap.slot L o i (I.ok.Rc L c) c λz=>I.ok.HK L z c;exact⟨g,⟨L,_,a,h,e,j⟩,ih (λb d=>f b (by unfold frs;exact List.filterMap_cons▸a▸Q1 _ d)) hr⟩
 exact all X.outer (λ_ d=>d) I.ok.qP
def Inv.stack(I:Inv X am Z H s):s.heap.FunFrames X.ap X.stack:=by
 rcases I.ok.stk with e|⟨e,a⟩
 .exact e▸I.qP
 .rw[e];obtain⟨m,b,_⟩:=I.loc;refine .cons (by rw[I.ok.kind];decide) a b ?_ I.qP;exact am7 (ac2 I.ok.MT I.ok.above)
def Inv.sN(I:Inv X am Z H s):∀b∈frs X.stack,b∈X.env.locals::X.fs:=λb a=>by
 rcases I.ok.stk with e|⟨e,c⟩
 .rw[e] at a;exact Q1 _ a
 .rw[e] at a;unfold frs at a;rw[List.filterMap_cons,c] at a;exact a
def Inv.rS(I:Inv X am Z H s):∀b∈frs X.stack,H b=none:=λb a=>by
 rcases Z5.mp (I.sN b a) with e|a
 .exact e▸I.free
 .obtain⟨_,o,c,_⟩:=I.ok.qP.mem a;exact I.ap.free b o c (I.ok.Rc b a) λz=>I.ok.HK b z a
def Inv.step(I:Inv X am Z H s)
  (hch:∀b∈ch,(b∈X.ex\/X.s₀.heap.objs.size<=b)/\b≠X.env.locals/\(∀x c,X.env.cells.lookup x=some c->c≠b)/\∀p∈X.pn++am,p.1≠b)
  (keep:∀b o,b≠X.env.locals->b∉X.fs->b∉ch->s.heap.get? b=some o->H b=none->h'.get? b=some o)
  (slot:∀b o,b≠X.env.locals->b∈X.fs->b∉ch->s.heap.get? b=some o->H b=none->∃sl,h'.get? b=some { o with slots:=sl }) (free:∀b o,b∉ch->s.heap.get? b=some o->H b=none->H' b=none)
  (there:∀b o,b∉ch->s.heap.get? b=some o->∃o',h'.get? b=some o')
  (tups:∀b xs,H b=t0 xs->H' b=t0 xs) (pR:∀b o u,H b=some (.mC o u)->H' b=some (.mC o u)) (rL:∀b ps,H b=some (.NN ps)->∃more,H' b=some (.NN (ps++more)))
  (ns:∀m,s.heap.Ns X.env.locals m->h'.Ns X.env.locals m) (ba:lR X.prog X.w H' h') (hg:AllBare g') :
  Inv X am Z H' { s with heap:=h',gens:=g',drawn:=d',toks:=t' }:=by
 have A:∀b o,X.s₀.heap.get? b=some o->b≠X.env.locals:=λb o e=>Z6 (ab1 (P2 e) I.ok.above);have h:∀b o,X.s₀.heap.get? b=some o->b∉X.ex->b∉ch:=λb o e a t=>by
  rcases (hch b t).1 with z|z
  .exact a z
  .exact absurd (ab1 (P2 e) z) (ah0 _)
 have f:∀x c,X.env.cells.lookup x=some c->∀v,s.heap.IsCell c v->h'.IsCell c v:=λx c e v ⟨o,y,C⟩=>by
  have g:c∉ch:=λz=>(hch c z).2.2.1 x c e rfl;by_cases E:c∈X.fs
  .obtain⟨sl,q⟩:=slot c o (I.HN x c e) E g y (I.je x c e);exact⟨_,q,C⟩
  .exact⟨o,keep c o (I.HN x c e) E g y (I.je x c e),C⟩
 refine⟨I.ok,I.os,hg,⟨λb o e n t a=>?_,λb o e n t a=>by obtain⟨sl,j⟩:=I.ap.slot b o e n t a;obtain⟨D,B⟩:=slot b _ (A b o e) t (h b o e a) j (I.ap.free b o e n a);exact⟨D,B⟩,λb o e n a=>by obtain⟨o',j⟩:=I.ap.there b o e a;exact free b o' (h b o e a) j (I.ap.free b o e n a),λb o e a=>by obtain⟨o',j⟩:=I.ap.there b o e a;exact there b o' (h b o e a) j,λb xs e=>tups b xs (I.ap.tups b xs e),λb o xs e=>pR b o xs (I.ap.pR b o xs e),λb ps e=>by obtain⟨J,j⟩:=I.ap.rL b ps e;obtain⟨K,B⟩:=rL b _ j;exact⟨J++K,by rw[B,Array.append_assoc]⟩⟩,?_,λx c e=>by obtain⟨v,z⟩:=I.cell x c e;exact⟨v,f x c e v z⟩,by obtain⟨m,⟨o,_,_,y,_⟩,_⟩:=I.loc;exact free _ o (λz=>(hch _ z).2.1 rfl) y I.free,λx c e=>by obtain⟨v,o,y,C⟩:=I.cell x c e;exact free c o (λz=>(hch c z).2.2.1 x c e rfl) y (I.je x c e),λp F=>by obtain⟨e,n,ne,G,d⟩:=I.pin p F;have g:p.1∉ch:=λz=>(hch p.1 z).2.2.2 p F rfl;exact⟨keep p.1 p.2 ne G g e n,free p.1 p.2 g e n,ne,G,d⟩,ba,I.len⟩
 .exact keep b o (A b o e) t (h b o e a) (I.ap.keep b o e n t a) (I.ap.free b o e n a)
 .obtain⟨m,L,hl⟩:=I.loc;refine⟨m,ns m L,λi x v j B M=>?_⟩;obtain⟨u,r,l⟩:=hl i x v j B M;refine⟨u,r,?_⟩;rcases l with l|⟨k,c,e,z⟩
  .exact .inl l
  .exact .inr ⟨k,c,e,f x c e _ z⟩
def Inv.un(I:Inv X am Z H s)(u:Un X.fs [] H H' s.heap h')(ba:lR X.prog X.w H' h'):Inv X am Z H' { s with heap:=h',toks:=t' }:=by
 obtain⟨m,⟨o,l,p,g,r⟩,_⟩:=id I.loc;obtain⟨q,h⟩:=u.any g I.free (by simp);exact I.step (g':=s.gens) (d':=s.drawn) (ch:=[]) (λ_ z=>nomatch z) (λb o _ c _ e n=>u.keep b o e n c (by simp)) (λb o _ c _ e n=>u.slot b o e n c (by simp)) (λb o _ e n=>u.free b o e n (by simp)) (λb o _ e=>u.there b o e (by simp)) u.tups u.pR u.rL (λt i=>by obtain⟨v,d,f,a,j⟩:=i;rw[g] at a;cases a;exact⟨_,d,f,h,j⟩) ba I.ax
def Inv.call(I:Inv X am Z H s)(u:Un (frs X.stack) ch H H' s.heap h')(ba:lR X.prog X.w H' h')(hg:AllBare g')
  (hch:∀b∈ch,(b∈X.ex\/X.s₀.heap.objs.size<=b)/\b≠X.env.locals/\(∀x c,X.env.cells.lookup x=some c->c≠b)/\∀p∈X.pn++am,p.1≠b) :
  Inv X am Z H' { s with heap:=h',gens:=g',drawn:=d',toks:=t' }:=by
 obtain⟨m,⟨o,t,v,i,r⟩,_⟩:=id I.loc;obtain⟨y,f⟩:=u.any i I.free λz=>(hch _ z).2.1 rfl;exact I.step (ch:=ch) hch (λb o f j a e n=>u.keep b o e n (λz=>(Z5.mp (I.sN b z)).elim f j) a) (λb o _ _ a e n=>u.any e n a) (λb o a e n=>u.free b o e n a) (λb o a e=>u.there b o e a) u.tups u.pR u.rL (λA l=>by obtain⟨B,g,h,d,q⟩:=l;rw[i] at d;cases d;exact⟨_,g,h,f,q⟩) ba hg
def Inv.turned(I:Inv X am Z H s)(k:∀b o,b≠it->s.heap.get? b=some o->h'.get? b=some o)(hn:H it=none)(hL:it≠X.env.locals)
  (h1:it∈X.ex\/X.s₀.heap.objs.size<=it) (h2:∀x c,X.env.cells.lookup x=some c->c≠it) (h3:∀p∈X.pn++am,p.1≠it):Inv X am Z H { s with heap:=h',toks:=t' }:=by
 have d:∀b u,H b=some u->b≠it:=λb u e z=>by rw[z,hn] at e;cases e
 refine I.step (g':=s.gens) (d':=s.drawn) (ch:=[it]) (λb f=>?_) (λb o _ _ a e _=>k b o (λz=>a (by simp[z])) e) (λb o _ _ a e _=>⟨o.slots,k b o (λz=>a (by simp[z])) e⟩) (λ_ _ _ _ n=>n)
  (λb o a e=>⟨o,k b o (λz=>a (by simp[z])) e⟩) (λ_ _ e=>e) (λ_ _ _ e=>e) (λb l e=>⟨#[],by rw[e];simp⟩) (λm g=>?_) (λb u e=>?_) I.ax
 .have e:b=it:=by simpa using f
  subst e;exact⟨h1,hL,h2,h3⟩
 .obtain⟨o,h,i,j,r⟩:=g;exact⟨o,h,i,k _ o (aa4 hL) j,r⟩
 .refine(I.ba b u e).stay (λc v a q=>k c v ?_ q) (λ_ q=>q) λ_ _ q=>q;rcases a with z|z
  .exact z▸d b u e
  .exact d c _ z
def Inv.tok(I:Inv X am Z H s)(t:Nat):Inv X am Z H { s with toks:=t }:=I.un (h':=s.heap) (t':=t) Un.refl I.ba
def Inv.kept(I:Inv X am Z H s)(k:∀b u,s.heap.get? b=some u->h'.get? b=some u):Inv X am Z H { s with heap:=h',toks:=t' }:=I.un (Un.kept k) (I.ba.kept k)
def Inv.laid(I:Inv X am Z H s)(k:∀b u,s.heap.get? b=some u->h'.get? b=some u)(hp:s.heap.objs.size<=a)(new:dz X.prog X.w (ag H a o) h' a o) :
  Inv X am Z (ag H a o) { s with heap:=h',toks:=t' }:=I.un (Un.laid k hp (I.ba.fresh hp)) (I.ba.laid k hp new)
def Inv.write(I:Inv X am Z H s)(mu:Xn (H x))(he:e=x\/H e=some (.own x))(k:∀b u,b≠e->s.heap.get? b=some u->h'.get? b=some u)(heo:∃u,h'.get? e=some u)
  (new:dz X.prog X.w (ag H x o) h' x o):Inv X am Z (ag H x o) { s with heap:=h',toks:=t' }:=I.un (Un.write mu he k heo) (I.ba.write mu he k heo new)
def Inv.jZ(I:Inv X am Z H s)(h:∀p∈pins',s.heap.get? p.1=some p.2/\H p.1=none/\p.1≠X.env.locals/\p.1∉X.fs/\∀v,p.2.data ≠ .cell v):Inv X pins' Z H s :=
 ⟨I.ok,I.os,I.ax,I.ap,I.loc,I.cell,I.free,I.je,λp a=>(X1.mp a).elim (λz=>I.pin p (aa8 _ z)) (h p),I.ba,I.len⟩
def uc(hN:N.Nodup){i j:Nat}(a:N[i]?=some x)(b:N[j]?=some x):i=j:=by obtain⟨e,c⟩:=d6.mp a;obtain⟨f,d⟩:=d6.mp b;exact(List.getElem_inj hN).mp (c.trans d.symm)
def CT(I:Inv X am Z H s)(hN:X.N.Nodup)(hi:X.N[i]?=some x)(hx:Loc X.env.scope x)(r:RelV v u)
  (h:∀s',Inv X am (Z.set i (some v)) H s'->(∃a,Heap.SameBut a s.heap s'.heap/\(a=X.env.locals\/X.env.cells.lookup x=some a))->Q () s') (hf:autoParam (X.fn x=true\/X.env.scope.names.lookup x=some .local) cw._auto_1):wpAny M A (storeName X.env x u) Q E s:=by
 obtain⟨m,W,hl⟩:=id I.loc;have K:(X.env.scope.kind == .class || (X.env.scope.kind == .module && X.env.locals != X.env.globals))=false:=by rw[I.ok.kind];rfl
 have L:i<Z.length:=I.len▸(d6.mp hi).1
 have HN:=I.HN;have g:∀{a:Addr} {h':Heap},(∃o,s.heap.get? a=some o/\H a=none)->Heap.SameBut a s.heap h'->lR X.prog X.w H h':=λ{a h'} ha f b ob e=>by
  obtain⟨_,_,B⟩:=ha;refine(I.ba b ob e).stay (λc T t q=>(f.2 c ?_).trans q) (λ_ q=>q) λ_ _ q=>q;rintro rfl;rcases t with rfl|t
  .rw[B] at e;cases e
  .rw[B] at t;cases t
 rcases hx with D|D
 .refine wpAny_storeName_local D W (λh' Y f=>?_) K;obtain⟨oL,_,_,hoL,_⟩:=id W;refine h _ ⟨I.ok,I.os,I.ax,⟨λb o e n F hx=>(f.2 b (Z6 (ab1 (P2 e) I.ok.above))).trans (I.ap.keep b o e n F hx),λb o e n F hx=>by obtain⟨sl,l⟩:=I.ap.slot b o e n F hx;exact⟨sl,(f.2 b (Z6 (ab1 (P2 e) I.ok.above))).trans l⟩,I.ap.free,λb o e hx=>by obtain⟨o',l⟩:=I.ap.there b o e hx;exact⟨o',(f.2 b (Z6 (ab1 (P2 e) I.ok.above))).trans l⟩,I.ap.tups,I.ap.pR,I.ap.rL⟩,⟨_,Y,λj y v' l C e3=>?_⟩,λy c e=>by obtain⟨T,z⟩:=I.cell y c e;exact⟨T,z.sameBut f (HN y c e)⟩,I.free,I.je,λp hp=>by obtain⟨e,n,ne,nf,d⟩:=I.pin p hp;exact⟨(f.2 p.1 ne).trans e,n,ne,nf,d⟩,g ⟨oL,hoL,I.free⟩ f,by simpa using I.len⟩ ⟨_,f,.inl rfl⟩
  .by_cases G:j=i
   .subst G;rw[hi] at l;cases l;rw[List.getElem?_set_self L] at C;cases C;exact⟨u,r,.inl ⟨D,by simp⟩⟩
   .rw[am8 (aa4 G)] at C;obtain⟨u',r',q⟩:=hl j y v' l C e3;refine⟨u',r',?_⟩;rcases q with ⟨k,e⟩|⟨k,c,e,z⟩
    .refine .inl ⟨k,?_⟩;have:y≠x:=λe=>G (uc hN l (e ▸ hi));simp[this,e]
    .exact .inr ⟨k,c,e,z.sameBut f (HN y c e)⟩
 .have J:X.fn x=true:=by
   rcases hf with z|z
   .exact z
   .rw[z] at D;cases D
  obtain⟨c,t⟩:=I.ok.has x (.inl D);obtain⟨T,z⟩:=I.cell x c t;refine wpAny_storeName_cell I.ok.kind D t z (λh' O f=>?_);obtain⟨oc,P,R⟩:=id z;refine h { s with heap:=h' } ⟨I.ok,I.os,I.ax,⟨λb o e n F hx=>(f.2 b (Z6 (ab1 (P2 e) (I.ok.We x c J t)))).trans (I.ap.keep b o e n F hx),λb o e n F hx=>by obtain⟨sl,l⟩:=I.ap.slot b o e n F hx;exact⟨sl,(f.2 b (Z6 (ab1 (P2 e) (I.ok.We x c J t)))).trans l⟩,I.ap.free,λb o e hx=>by obtain⟨o',l⟩:=I.ap.there b o e hx;exact⟨o',(f.2 b (Z6 (ab1 (P2 e) (I.ok.We x c J t)))).trans l⟩,I.ap.tups,I.ap.pR,I.ap.rL⟩,⟨m,W.sameBut f (aa4 (HN x c t)),λj y v' l C e3=>?_⟩,λy U e=>?_,I.free,I.je,λp hp=>by obtain⟨e,n,ne,nf,d⟩:=I.pin p hp;refine⟨(f.2 p.1 ?_).trans e,n,ne,nf,d⟩;intro q;rw[q,P] at e;exact d T (by rw[<- (aa1 e)];exact R),g ⟨oc,P,I.je x c t⟩ f,by simpa using I.len⟩ ⟨c,f,.inr t⟩
  .by_cases G:j=i
   .subst G;rw[hi] at l;cases l;rw[List.getElem?_set_self L] at C;cases C;exact⟨u,r,.inr ⟨.inl D,c,t,O⟩⟩
   .rw[am8 (aa4 G)] at C;obtain⟨u',r',q⟩:=hl j y v' l C e3;refine⟨u',r',?_⟩;rcases q with q|⟨k,U,e,z'⟩
    .exact .inl q
    .refine .inr ⟨k,U,e,z'.sameBut f ?_⟩;rintro rfl;exact G (uc hN l (I.ok.inj _ _ _ e t ▸ hi))
  .by_cases S:U=c
   .subst S;exact⟨_,O⟩
   .obtain⟨w2,z2⟩:=I.cell y U e;exact⟨w2,z2.sameBut f S⟩
def qa(I:Inv X am Z H s)(hN:X.N.Nodup)(hi:X.N[i]?=some x)(hx:Loc X.env.scope x)(r:RelV v u)
  (h:∀s',Inv X am (Z.set i (some v)) H s'->Q () s') (hf:autoParam (X.fn x=true\/X.env.scope.names.lookup x=some .local) cw._auto_1):wpAny M A (storeName X.env x u) Q E s :=
 CT I hN hi hx r (λs' a _=>h s' a) hf
def Inv.yR(I:Inv X am Z H s)(ho:s'.os=s.os)(u:Un (frs X.stack) ch H H' s.heap s'.heap)(ba:lR X.prog X.w H' s'.heap)(hg:AllBare s'.gens)
  (hch:∀b∈ch,(b∈X.ex\/X.s₀.heap.objs.size<=b)/\b≠X.env.locals/\(∀x c,X.env.cells.lookup x=some c->c≠b)/\∀p∈X.pn++am,p.1≠b):Inv X am Z H' s':=by
 obtain⟨d,g',d',t',a⟩:=s';have e:=ho;subst e;exact I.call (g':=g') (t':=t') (d':=d') u ba hg hch
end
abbrev XK:=Value->Option Addr->Hp->Prop
abbrev St:=List (Option V)
end L2
variable {H H' H1 H2:L2.Hp}{Z:L2.St}{ys:List L2.V}
namespace L2
open PySem PySem.Spec PyProof.Rows
abbrev VK:=V->Hp->Prop
abbrev TE:=St->Hp->VK->Prop
abbrev TT:=St->Hp->(Bool->Hp->Prop)->Prop
abbrev TA:=St->Hp->(q7->Hp->Prop)->Prop
structure Ends where
 nx:St->Hp->Prop
 rt:VK
 bk:St->Hp->Prop:=λ_ _=>False
 ct:St->Hp->Prop:=λ_ _=>False
abbrev TS:=Ends->St->Hp->Prop
inductive EP(X:Cx)(am:f7)(Z:St)(Q:VK)(u:Value)(s':Shared):Prop|mk(v a)(_:Inv X am Z a s')(_:RelV v u)(_:Q v a)
inductive TP(X:Cx)(am:f7)(Z:St)(Q:Bool->Hp->Prop)(b:Bool)(s':Shared):Prop|mk(a)(_:Inv X am Z a s')(_:Q b a)
inductive AP(X:Cx)(am:f7)(Z:St)(Q:q7->Hp->Prop)(us:c8)(s':Shared):Prop|mk(a b)(_:Inv X am Z b s')(_:Vals a us)(_:Q a b)
inductive Nq(X:Cx)(am:f7)(R:St->Hp->Prop)(s:Shared):Prop|mk(b a)(_:Inv X am b a s)(_:R b a)
def SP(X:Cx)(am:f7)(D:Ends)(f:Flow)(s':Shared):Prop :=
 match f with
 |.next=>Nq X am D.nx s'
 |.brk=>Nq X am D.bk s'
 |.cont=>Nq X am D.ct s'
 |.ret u=>∃v b a,Inv X am b a s'/\RelV v u/\D.rt v a
def PE(X:Cx)(e:Expr)(t:TE):Prop :=
 ∀(a:f7) (s:Shared) (Z:St) (H:Hp) (Q:VK),Inv X a Z H s->t Z H Q->wpAny (model X.prog X.w) X.A (eval e X.env) (EP X a Z Q) X.xe s
def PT(X:Cx)(e:Expr)(t:TT):Prop :=
 ∀(a:f7) (s:Shared) (Z:St) (H:Hp) (Q:Bool->Hp->Prop),Inv X a Z H s->t Z H Q->wpAny (model X.prog X.w) X.A (isTrue e X.env (eval e X.env)) (TP X a Z Q) X.xe s
def PW(X:Cx)(e:Expr)(t:TT):Prop :=
 ∀(b:Sem Value) (a:f7) (s:Shared) (Z:St) (H:Hp) (Q:Bool->Hp->Prop),Inv X a Z H s->t Z H Q->wpAny (model X.prog X.w) X.A (isTrue e X.env b) (TP X a Z Q) X.xe s
def PW.pt(h:PW X e t):PT X e t:=h _
def PA(X:Cx)(es:List Expr)(t:TA):Prop :=
 ∀(b:Pos) (a:f7) (s:Shared) (Z:St) (H:Hp) (Q:q7->Hp->Prop),Inv X a Z H s->t Z H Q->wpAny (model X.prog X.w) X.A (spliced (backTo b (starEach es X.env))) (AP X a Z Q) X.xe s
def PS(X:Cx)(st:Stmt)(t:TS):Prop :=
 ∀(a:f7) (s:Shared) (Z:St) (H:Hp) (D:Ends),Inv X a Z H s->t D Z H->wpAny (model X.prog X.w) X.A (exec st X.env) (SP X a D) X.xe s
def AI(X:Cx)(st:List Stmt)(t:TS):Prop :=
 ∀(a:f7) (s:Shared) (Z:St) (H:Hp) (D:Ends),Inv X a Z H s->t D Z H->wpAny (model X.prog X.w) X.A (execs st X.env) (SP X a D) X.xe s
def dS{α:Type}{t:Sem α}{Q Q':α->Shared->Prop}{E:Value->Shared->Prop}(h:wpAny M A t Q E s)(hQ:∀a s,Q a s->Q' a s):wpAny M A t Q' E s:=ad3 h hQ λ_ _ x=>x
section
variable {X:Cx}
def LG(i:Nat)(σ:St)(H:Hp)(Q:VK):Prop:=match σ[i]? with|some (some v)=>Q v H|_=>False
def LG_i{i:Nat}:LG i Z H Q↔∃v,Z[i]?=some (some v)/\Q v H:=by unfold LG;rcases Z[i]? with _|_|v <;> simp
def tC(v:V):TE:=λ_ H Q=>Q v H
def Rq    (hN:X.N[i]?=some x) (hv:X6 X.env.scope x) (hd:autoParam ((x == ("__debug__" : Str))=false) cw._auto_1) (hcd:autoParam ((x == ("__classdict__" : Str))=false) cw._auto_1):PE X (.Name x pos) (LG i):=by
 intro f s Z H Q I h;obtain⟨v,e,h⟩:=LG_i.mp h;obtain⟨m,j,hl⟩:=I.loc;obtain⟨u,r,l⟩:=hl i x v hN e hv;have b:EP X f Z Q u s:=⟨v,H,I,r,h⟩
 rcases l with ⟨d,n⟩|⟨d,c,g,a⟩
 .exact wpAny_Name (wpAny_loadName_local I.ok.kind d j n b) hd
 .rcases d with d|d
  .exact wpAny_Name (wpAny_loadName_cell I.ok.kind d g a b) hd
  .exact wpAny_Name (wpAny_loadName_free I.ok.kind d g a b hcd) hd
def ai:PE X (.Constant (.int i) j pos) (tC (.int i)):=λ_ _ _ H _ I h=>wpAny_Constant_int ⟨.int i,H,I.tok _,⟨_,rfl⟩,h⟩
def k7:PE X (.Constant (.bool b) j pos) (tC (.bl b)):=λ_ _ _ H _ I h=>Constant_bool ⟨.bl b,H,I,rfl,h⟩
def cR:PE X (.Constant .none j pos) (tC .dj):=λ_ _ _ H _ I h=>Constant_none ⟨.dj,H,I,rfl,h⟩
def aZ:PE X (.Constant (.str x) j pos) (tC (.str x)):=λ_ _ _ H _ I h=>Calls.Constant_str ⟨.str x,H,I.tok _,⟨_,rfl⟩,h⟩
def Gl(X:Cx)(x:Str):Prop:=X.env.kindOf x=some .globalImplicit
def n6(I:Inv X am Z H s)(hg:Gl X x)(hm:X.mg x=some u)(h:Q u s)
  (hd:autoParam ((x == ("__debug__" : Str))=false) cw._auto_1):wpAny (model X.prog X.w) X.A (eval (.Name x pos) X.env) Q E s :=
 Calls.Name_function_global I.ok.kind hg (Calls.loadGlobal_global (I.ok.glob▸I.mod.glob.keeps I.bk) hm h) hd
def pF(I:Inv X am Z H s)(hg:Gl X x)(hm:X.mg x=none)(hv:bootBuiltins x=some u)(h:Q u s)
  (hn:autoParam (x ≠ "__name__") cw._auto_1) (hd:autoParam ((x == ("__debug__" : Str))=false) cw._auto_1):wpAny (model X.prog X.w) X.A (eval (.Name x pos) X.env) Q E s:=by
 obtain⟨c,a,b⟩:=I.mod.blt;exact Calls.Name_function_global I.ok.kind hg (Calls.loadGlobal_builtin (I.ok.glob▸I.mod.glob.keeps I.bk) hm (I.ok.blt▸a.keeps I.bk) ((b x hn).trans hv) h) hd
def jX     (hg:Gl X x) (hm:X.mg x=some u) (r:RelV v u) (hd:autoParam ((x == ("__debug__" : Str))=false) cw._auto_1):PE X (.Name x pos) (tC v) :=
 λ_ _ _ H _ I h=>n6 I hg hm ⟨v,H,I,r,h⟩ hd
variable {a b:Expr}{ta tb:TE}
def PC(X:Cx)(op:CmpOp)(a b:Expr)(t:TE):Prop :=
 ∀(c:f7) (s:Shared) (Z:St) (H:Hp) (Q:VK),Inv X c Z H s->t Z H Q ->
  wpAny (model X.prog X.w) X.A (eval a X.env) (λv d=>wpAny (model X.prog X.w) X.A (eval b X.env) (λu e=>wpAny (model X.prog X.w) X.A (compareOp op v u) (EP X c Z Q) X.xe e) X.xe d) X.xe s
def yb(b:Expr)(h:op ≠ .In)(h2:op ≠ .NotIn):behindInMarks op b=false:=by
 have a:(op == CmpOp.In)=false:=by cases op <;> first | rfl | exact absurd rfl h
 have c:(op == CmpOp.NotIn)=false:=by cases op <;> first | rfl | exact absurd rfl h2
 cases b <;> simp[behindInMarks,a,c]
inductive WD(P:Bool->Prop):V->Prop|mk{c:_}(_:P c):WD P (.bl c)
def WD_i{P:Bool->Prop}{x:V}:WD P x↔∃c,x = .bl c/\P c:=⟨λh=>by obtain@⟨c,h0⟩:=h;exact⟨c,rfl,h0⟩,λh=>by obtain⟨c,rfl,h0⟩:=h;exact⟨h0⟩⟩
def tB(t:TE):TT:=λZ H Q=>t Z H λx a=>WD (λc=>Q c a) x
def Al(h:PC X op a b t)(h1:autoParam (behindInMarks op b=false) cw._auto_1):PT X (.Compare a [op] [b] pos) (tB t):=by intro e s Z H Q I f;refine wpAny_isTrue_Compare1 (dS (h e s Z H _ I f) λv p h1=>dS h1 λu r g=>dS g λc w i=>?_) h1;obtain⟨x,j,l,n,o⟩:=i;obtain⟨d,rfl,q⟩:=WD_i.mp o;cases n;exact af4 ⟨j,l,q⟩
def gR(h:PE X e t)(he:autoParam (∀whole,isTrue e X.env whole=(do let v <- whole;standAt e.pos;holding [v] (truthy v))) cw._auto_1):PT X e (tB t):=by intro a s Z H Q I b;refine isTrue_plain (dS (h a s Z H _ I b) λv l c=>?_) (he _);obtain⟨x,f,g,i,j⟩:=c;obtain⟨d,rfl,q⟩:=WD_i.mp j;cases i;exact af4 ⟨f,g,q⟩
variable {tA tB':TT}{rest:List Expr}
def K8(t u:TT):TT:=λZ H Q=>t Z H λc a=>if c=true then u Z a Q else Q false a
def tOr(t u:TT):TT:=λZ H Q=>t Z H λc a=>if c=true then Q true a else u Z a Q
def Xp(t:TT):TT:=λZ H Q=>t Z H λc a=>Q (!c) a
def cX(ha:PT X a tA):PW X (.BoolOp .And [a] pos) tA:=by
 intro d b s Z H Q I h;refine isTrue_and (dS (ha b s Z H Q I h) λc f e=>?_);cases c with
 |true=>exact isTrue_and_nil e
 |false=>exact e
def jk(ha:PT X a tA):PW X (.BoolOp .Or [a] pos) tA:=by
 intro d b s Z H Q I h;refine isTrue_or (dS (ha b s Z H Q I h) λc f e=>?_);cases c with
 |false=>exact isTrue_or_nil e
 |true=>exact e
def dX(ha:PT X a tA)(hb:PW X (.BoolOp .And (b::rest) pos) tB'):PW X (.BoolOp .And (a::b::rest) pos) (K8 tA tB'):=by
 intro i d s Z H Q I h;refine isTrue_and (dS (ha d s Z H _ I h) λc j  l=>?_);obtain⟨e,f,g⟩:=l;cases c with
 |true=>exact hb i d j Z e Q f g
 |false=>exact⟨e,f,g⟩
def jz(ha:PT X a tA)(hb:PW X (.BoolOp .Or (b::rest) pos) tB'):PW X (.BoolOp .Or (a::b::rest) pos) (tOr tA tB'):=by
 intro i d s Z H Q I h;refine isTrue_or (dS (ha d s Z H _ I h) λc j  l=>?_);obtain⟨e,f,g⟩:=l;cases c with
 |true=>exact⟨e,f,g⟩
 |false=>exact hb i d j Z e Q f g
def g9(ha:PT X a tA):PT X (.UnaryOp .Not a pos) (Xp tA):=by intro b s Z H Q I h;exact isTrue_not (dS (ha b s Z H (λc d=>Q (!c) d) I h) λ_ _ z=>by obtain⟨d,e,f⟩:=z;exact⟨d,e,f⟩)
def NF(ta tb:TE):TE:=λZ H Q=>ta Z H λx a=>WD (λc=>if c=true then tb Z a Q else Q (.bl false) a) x
def Wm(ta tb:TE):TE:=λZ H Q=>ta Z H λx a=>WD (λc=>if c=true then Q (.bl true) a else tb Z a Q) x
def QA(ta:TE):TE:=λZ H Q=>ta Z H λx a=>WD (λc=>Q (.bl (!c)) a) x
def GD(h:PE X a t):PE X (.BoolOp op [a] pos) t:=λb s Z H Q I c=>BoolOp_one (h b s Z H Q I c)
def Rh(ha:PE X a ta)(hb:PE X (.BoolOp .And (b::rest) pos) tb):PE X (.BoolOp .And (a::b::rest) pos) (NF ta tb):=by
 intro d s Z H Q I h;refine BoolOp_and (dS (ha d s Z H _ I h) λv i  j=>?_);obtain⟨x,f,g,l,e⟩:=j;replace e:=WD_i.mp e;obtain⟨c,rfl,e⟩:=e;cases l;refine af4 ?_;cases c with
 |true=>exact hb d i Z f Q g e
 |false=>exact⟨.bl false,f,g,rfl,e⟩
def XT(ha:PE X a ta)(hb:PE X (.BoolOp .Or (b::rest) pos) tb):PE X (.BoolOp .Or (a::b::rest) pos) (Wm ta tb):=by
 intro d s Z H Q I h;refine BoolOp_or (dS (ha d s Z H _ I h) λv i  j=>?_);obtain⟨x,f,g,l,e⟩:=j;replace e:=WD_i.mp e;obtain⟨c,rfl,e⟩:=e;cases l;refine af4 ?_;cases c with
 |false=>exact hb d i Z f Q g e
 |true=>exact⟨.bl true,f,g,rfl,e⟩
def Ka(ha:PE X a ta):PE X (.UnaryOp .Not a pos) (QA ta):=by intro b s Z H Q I h;refine UnaryOp_ (dS (ha b s Z H _ I h) λv j  e=>?_);obtain⟨x,f,g,i,d⟩:=e;replace d:=WD_i.mp d;obtain⟨c,rfl,d⟩:=d;cases i;exact not_of (af4 ⟨.bl (!c),f,g,rfl,d⟩)
def tIf(t:TT)(ta tb:TE):TE:=λZ H Q=>t Z H λc a=>if c=true then ta Z a Q else tb Z a Q
def dc{c:Expr}(hc:PT X c tA)(ha:PE X a ta)(hb:PE X b tb):PE X (.IfExp c a b pos) (tIf tA ta tb):=by
 intro e s Z H Q I h;refine wpAny_IfExp (dS (hc e s Z H _ I h) λd f  l=>?_);obtain⟨g,i,j⟩:=l;cases d with
 |true=>exact ha e f Z g Q i j
 |false=>exact hb e f Z g Q i j
end
def aV(K:W.Frag)(H:Hp)(a:Addr)(xs:q7):Prop :=
 Rd H a (.lst xs) \/
  ∃(o:Obj) (b:n7) (n:Nat),K.lookup a=some o/\o.cls = .type "list" /\ o.dict=none/\o.data = .seq b n/\b.size<=sizeLine/\Vals xs b.toList
def bT(K:W.Frag)(H:Hp)(a:Addr)(xs:q7):Prop :=
 Rd H a (.tup xs) \/
  ∃(o:Obj) (b:n7) (n:Nat),K.lookup a=some o/\o.cls = .type "tuple" /\ o.data = .seq b n/\b.size<=sizeLine/\Vals xs b.toList
noncomputable def Zb:Value->Option V
 |.none=>some .dj
 |.bool b=>some (.bl b)
 |.int i _=>some (.int i)
 |.str x _=>some (.str x)
 |.bytes b _=>some (.byt b)
 |.float b _=>some (.flt b)
 |.ref a=>some (.ref a)
 |.type n=>some (.ty n)
 |_=>none
def RelV.abs(r:RelV x u):Zb u=some x:=by
 cases x with
 |dj=>cases r;rfl
 |bl _=>cases r;rfl
 |int _=>obtain⟨t,rfl⟩:=r;rfl
 |str _=>obtain⟨t,rfl⟩:=r;rfl
 |byt _=>obtain⟨t,rfl⟩:=r;rfl
 |flt _=>obtain⟨t,rfl⟩:=r;rfl
 |ref _=>cases r;rfl
 |ty _=>cases r;rfl
def RelV.inj(r:RelV x u)(q:RelV y u):x=y:=aa1 (r.abs.symm.trans q.abs)
def Vals.inj{xs ys:q7}{us:c8}(a:Vals xs us)(b:Vals ys us):xs=ys:=by induction a generalizing ys with|nil=>cases b;rfl|cons r _ i=>cases b with|cons q v=>rw[r.inj q,i v]
section
variable {X:Cx}{a:Addr}{xs:q7}
def aV.of{K:W.Frag}(h:H a=r6 xs):aV K H a xs:=.inl (.inl h)
def bT.of{K:W.Frag}(h:H a=t0 xs):bT K H a xs:=.inl (.inl h)
def Inv.list(I:Inv X am Z H s)(h:aV X.K H a xs):∃its:c8,Vals xs its/\PlainL s.heap a its.toArray/\xs.length<=sizeLine:=by
 rcases h with h|⟨o,its,n,b,c,d,f,g,r⟩
 .obtain⟨z,its,n,r,e⟩:=h.ok I.ba;exact⟨its,r,⟨_,n,e,rfl,rfl,rfl⟩,z⟩
 .refine⟨its.toList,r,⟨o,n,I.uG a o b,c,d,by simpa using f⟩,?_⟩;have e:=r.length;simp only[ah6] at e;lia
def Inv.tuple(I:Inv X am Z H s)(h:bT X.K H a xs):∃its:c8,Vals xs its/\IsTup s.heap a its.toArray/\xs.length<=sizeLine:=by
 rcases h with h|⟨o,its,n,b,c,d,f,r⟩
 .obtain⟨z,its,r,p⟩:=h.ok I.ba;exact⟨its,r,p,z⟩
 .refine⟨its.toList,r,⟨o,I.uG a o b,c,n,by simpa using d⟩,?_⟩;have e:=r.length;simp only[ah6] at e;lia
def Inv.qf(I:Inv X am Z H s)(h:aV X.K H a xs)(h':aV X.K H a ys):xs=ys:=by
 obtain⟨b,r,⟨o,n,e,_,_,d⟩,_⟩:=I.list h;obtain⟨its',g,⟨i,j,c,_,_,f⟩,_⟩:=I.list h';rw[e] at c;cases c;rw[d] at f;injection f with d1 _
 have:b=its':=by simpa using ac7 Array.toList d1
 subst this;exact r.inj g
end
noncomputable abbrev Cx.uP(X:Cx)(E:Value->Shared->Prop):Cx:={ X with xe:=E }
abbrev Cx.YJ(X:Cx):Cx:=X.uP λ_ _=>False
end L2
variable {X:L2.Cx}{te:L2.TE}
namespace L2
open PySem PySem.Spec PyProof.Rows
def Cx.Ok.uP(ok:X.Ok)(E:Value->Shared->Prop):(X.uP E).Ok :=
 ⟨ok.mod,ok.kind,ok.glob,ok.blt,ok.above,ok.inj,ok.has,ok.We,ok.hd,ok.frames,ok.stk,ok.Zk,ok.bs,ok.MT,ok.DY,ok.HK,ok.qP,ok.Rc⟩
def Cx.Ok.mQ(ok:(X.uP E).Ok):X.Ok :=
 ⟨ok.mod,ok.kind,ok.glob,ok.blt,ok.above,ok.inj,ok.has,ok.We,ok.hd,ok.frames,ok.stk,ok.Zk,ok.bs,ok.MT,ok.DY,ok.HK,ok.qP,ok.Rc⟩
section
variable {E:Value->Shared->Prop}
def Inv.uP(I:Inv X am Z H s)(E:Value->Shared->Prop):Inv (X.uP E) am Z H s:=⟨I.ok.uP E,I.os,I.ax,I.ap,I.loc,I.cell,I.free,I.je,I.pin,I.ba,I.len⟩
def Inv.mQ(I:Inv (X.uP E) am Z H s):Inv X am Z H s:=⟨I.ok.mQ,I.os,I.ax,I.ap,I.loc,I.cell,I.free,I.je,I.pin,I.ba,I.len⟩
def SP.mQ(h:SP (X.uP E) am D f s'):SP X am D f s':=by
 cases f with
 |next=>obtain⟨a,b,I,q⟩:=h;exact⟨a,b,I.mQ,q⟩
 |brk=>obtain⟨a,b,I,q⟩:=h;exact⟨a,b,I.mQ,q⟩
 |cont=>obtain⟨a,b,I,q⟩:=h;exact⟨a,b,I.mQ,q⟩
 |ret u=>obtain⟨v,a,b,I,r,q⟩:=h;exact⟨v,a,b,I.mQ,r,q⟩
def AI.YJ{st:List Stmt}(h:AI X.YJ st t):AI X st t:=λa s Z H D I b =>
 ad3 (h a s Z H D (I.uP _) b) (λ_ _ q=>q.mQ) λ_ _ z=>False.elim z
end
section
variable {st:Stmt}{rest:List Stmt}{t u:TS}{e:Expr}
def Yz(t u:TS):TS:=λD Z H=>t { D with nx:=u D } Z H
def yd(h1:PS X st t)(h2:AI X rest u):AI X (st::rest) (Yz t u):=by
 intro a s Z H D I h;refine wpAny_execs_cons (dS (h1 a s Z H { D with nx:=u D } I h) λf b q=>?_);cases f with
 |next =>
  obtain⟨c,d,e,q⟩:=q;exact h2 a b c d D e q
 |ret v=>exact q
 |brk=>exact q
 |cont=>exact q
def MA(h1:PS X st t):AI X [st] t:=by
 intro a s Z H D I h;refine wpAny_execs_cons (dS (h1 a s Z H D I h) λf b q=>?_);cases f with
 |next=>exact ao7 q
 |ret v=>exact q
 |brk=>exact q
 |cont=>exact q
def Inv.quiet(I:Inv X am Z H s):interactive X.env=false:=by simp[interactive,I.ok.kind]
def O6(te:TE):TS:=λD Z H=>te Z H λ_ a=>D.nx Z a
def aY(he:PE X e te)(hs:autoParam (swapsWith e none pos.line X.env=pure false) cw._auto_1):PS X (.Expr e pos) (O6 te):=by intro a s Z H D I h;exact wpAny_Expr_any (dS (he a s Z H _ I h) λv f ⟨x,b,c,g,d⟩=>⟨Z,b,c,d⟩) I.quiet hs
def Ui(te:TE):TS:=λD Z H=>te Z H D.rt
def aQ(he:PE X e te):PS X (.Return (some e) pos) (Ui te):=by intro a s Z H D I h;exact wpAny_Return_some (dS (he a s Z H _ I h) λv g ⟨x,b,c,d,f⟩=>⟨x,Z,b,c,d,f⟩)
def WJ(c:TT)(t u:TS):TS:=λD Z H=>c Z H λb a=>if b=true then t D Z a else u D Z a
def bq{c:Expr}{a b:List Stmt}{tc:TT}(hc:PT X c tc)(ha:AI X a t)(hb:AI X b u):PS X (.If c a b pos) (WJ tc t u):=by
 intro e s Z H D I h;refine wpAny_If (dS (hc e s Z H _ I h) λd f  l=>?_);obtain⟨g,i,j⟩:=l;cases d with
 |true=>exact ha e f Z g D i j
 |false=>exact hb e f Z g D i j
end
abbrev TG:=V->St->Hp->(St->Hp->Prop)->Prop
abbrev U4:=q7->St->Hp->(St->Hp->Prop)->Prop
def PG(X:Cx)(target:Expr)(t:TG):Prop :=
 ∀(a:f7) (s:Shared) (Z:St) (H:Hp) (v:V) (u:Value) (Q:St->Hp->Prop),Inv X a Z H s->RelV v u->t v Z H Q ->
  wpAny (model X.prog X.w) X.A (assign target X.env u) (λ_ d=>Nq X a Q d) X.xe s
def YQ(X:Cx)(ts:List Expr)(t:U4):Prop :=
 ∀(a:f7) (s:Shared) (Z:St) (H:Hp) (b:q7) (us:c8) (Q:St->Hp->Prop),Inv X a Z H s->Vals b us->t b Z H Q ->
  wpAny (model X.prog X.w) X.A (assignInOrder ((assignEach ts X.env).map (·.2)) us) (λ_ e=>Nq X a Q e) X.xe s
abbrev Vp:=V->V->V->Hp->(Hp->Prop)->Prop
def XW(X:Cx)(t:Vp):Prop :=
 ∀(a:f7) (s:Shared) (Z:St) (H:Hp) (o i v:V) (b c u:Value) (Q:Hp->Prop),Inv X a Z H s->RelV o b->RelV i c->RelV v u->t o i v H Q ->
  wpAny (model X.prog X.w) X.A (setItem b c u) (λ_ e=>∃d,Inv X a Z d e/\Q d) X.xe s
abbrev YK:=V->V->Hp->VK->Prop
def PIp(X:Cx)(op:Operator)(t:YK):Prop :=
 ∀(a:f7) (s:Shared) (Z:St) (H:Hp) (x y:V) (v u:Value) (Q:VK),Inv X a Z H s->RelV x v->RelV y u->t x y H Q ->
  wpAny (model X.prog X.w) X.A (inplaceOp op v u) (EP X a Z Q) X.xe s
def p9(i:Nat):TG:=λv Z H Q=>Q (Z.set i (some v)) H
def pQ(hN:X.N.Nodup)(hi:X.N[i]?=some x)(hx:Loc X.env.scope x)(hf:autoParam (X.fn x=true\/X.env.scope.names.lookup x=some .local) cw._auto_1):PG X (.Name x pos) (p9 i):=by intro a s Z H v u Q I r h;exact wpAny_assign_Name (qa I hN hi hx r (λc b=>⟨_,H,b,h⟩) hf)
def Zf:U4:=λa Z H Q=>a=[]/\Q Z H
def Xv(t:TG)(u:U4):U4:=λa Z H Q=>∃v r,a=v::r/\t v Z H λb c=>u r b c Q
def fU:YQ X [] Zf:=by intro a s Z H b us Q I r h;obtain⟨e,h⟩:=h;subst e;cases r;exact assignInOrder_nil ⟨Z,H,I,h⟩
def bF(h1:PG X e t)(h2:YQ X es u)
  (hs:autoParam ((assignEach (e::es) X.env).map (·.2)=assign e X.env::(assignEach es X.env).map (·.2)) cw._auto_1):YQ X (e::es) (Xv t u):=by
 intro a s Z H l us Q I r h;obtain⟨v,n,b,h⟩:=h;subst b;cases r with
 |cons r rr =>
  rw[hs];refine assignInOrder_cons (dS (h1 a s Z H _ _ _ I r h) λ_ c  d=>?_);obtain⟨f,g,i,j⟩:=d;exact h2 a c f g _ _ Q i rr j
def Zg(K:W.Frag)(n:Nat)(t:U4):TG:=λv Z H Q=>∃a b,v = .ref a/\bT K H a b/\b.length=n/\t b Z H Q
def iK(hc:X.aw=true)(h:YQ X es t)
  (hn:autoParam ((assignEach es X.env).length=n) cw._auto_1) (hst:autoParam ((assignEach es X.env).findIdx? (·.1)=none) cw._auto_1):PG X (.Tuple es k pos) (Zg X.K n t):=by
 intro c s Z H v u Q I r d;obtain⟨a,g,i,j,hl,d⟩:=d;subst i;cases r;obtain⟨l,f,p,y⟩:=I.tuple j;refine assign_Tuple_tuple (I.ok.hd hc) p (by simp[hn,<- hl,f.length]) hst λq w=>?_;exact h c _ Z H g _ Q (I.kept (t':=s.toks) λb o e=>w b o (Z6 (P2 e)) e) (by simpa using f) d
def ZA(to ti:TE)(t:Vp):TG:=λv Z H Q=>to Z H λo a=>ti Z a λi b=>t o i v b λc=>Q Z c
def wH(ho:PE X o to)(hi:PE X i ti)(hs:XW X t)
  (ha:autoParam (∀v,assign (.Subscript o i pos) X.env v=(do
   let ov <- holding [v] (eval o X.env);let iv <- holding [v,ov] (eval i X.env)
   standAt pos
   holding [v,ov,iv] (setItem ov iv v)
   release [v,ov,iv] [])) cw._auto_1):PG X (.Subscript o i pos) (ZA to ti t):=by
 intro a s Z H v u Q I r h;rw[ha];refine y0 (ae9 (dS (ho a s Z H _ I h) λov c  b=>?_));obtain⟨x,d,e,f,g⟩:=b;refine y0 (ae9 (dS (hi a c Z d _ e g) λiv j  b=>?_));obtain⟨y,l,n,p,q⟩:=b;refine y0 (wpAny_standAt (y0 (ae9 (dS (hs a j Z l x y v ov iv u _ n f p r q) λ_ B  b=>?_))));obtain⟨w,z,A⟩:=b;exact wpAny_release ⟨Z,w,z,A⟩
def Bc(te:TE)(g:TG):TS:=λD Z H=>te Z H λx a=>g x Z a D.nx
def jo(he:PE X e te)(hg:PG X tg g)(hs:autoParam (swapsWithSole [tg] e pos.line X.env=pure false) cw._auto_1)(hw:autoParam (swappedStores [tg] e X.env=pure none) cw._auto_1)
  (h1:autoParam ((assignEach [tg] X.env).map (·.2)=[assign tg X.env]) cw._auto_1):PS X (.Assign [tg] e pos) (Bc te g):=by
 intro a s Z H D I h;refine wpAny_Assign_stores (dS (he a s Z H _ I h) λv b c=>?_) hs hw;obtain⟨x,d,f,i,j⟩:=c;exact h1▸dS (hg a b Z d x v _ f i j) λ_ l q=>q
def lJ{i:Nat}{x:Str}{e:Expr}{te:TE}{pos':Pos}(hN:X.N.Nodup)(hi:X.N[i]?=some x)(hx:Loc X.env.scope x)(he:PE X e te)(hs:autoParam (swapsWith e (some (.Name x pos')) pos.line X.env=pure false) cw._auto_1)(hf:autoParam (X.fn x=true\/X.env.scope.names.lookup x=some .local) cw._auto_1) :
  PS X (.Assign [.Name x pos'] e pos) (Bc te (p9 i)):=by
 intro a s Z H D I h;refine wpAny_Assign_Name (dS (he a s Z H _ I h) λv l b=>?_) hs;obtain⟨y,c,d,f,g⟩:=b;exact qa d hN hi hx f (λn j=>⟨_,c,j,g⟩) hf
def YA(i:Nat)(te:TE)(ti:YK):TS:=λD Z H=>∃x,Z[i]?=some (some x)/\te Z H λy a=>ti x y a λz b=>D.nx (Z.set i (some z)) b
def Am(hN:X.N.Nodup)(hi:X.N[i]?=some x)(hx:Loc X.env.scope x)(he:PE X e te)(ho:PIp X op ti)(hf:autoParam (X.fn x=true\/X.env.scope.names.lookup x=some .local) cw._auto_1) :
  PS X (.AugAssign (.Name x pos') op e pos) (YA i te ti):=by
 intro a s Z H D I h;obtain⟨v,n,h⟩:=h;obtain⟨m,o,hl⟩:=I.loc;have f:X6 X.env.scope x:=by rcases hx with k|k;exact .inl k;exact .inr (.inl k)
 obtain⟨u,r,l⟩:=hl i x v hi n f;refine wpAny_AugAssign_Name ?_;have j:wpAny (model X.prog X.w) X.A (eval e X.env) (λw p=>wpAny (model X.prog X.w) X.A (inplaceOp op u w) (λr q=>wpAny (model X.prog X.w) X.A (storeName X.env x r) (λ_=>SP X a D .next) X.xe q) X.xe p) X.xe s:=by refine dS (he a s Z H _ I h) λw t  g=>?_;obtain⟨y,B,C,E,F⟩:=g;refine dS (ho a t Z B v y u w _ C r E F) λz Q  g=>?_;obtain⟨R,G,J,K,L⟩:=g;exact qa J hN hi hx K (λS M=>⟨_,G,M,L⟩) hf
 rcases l with ⟨b,O⟩|⟨b,c,P,d⟩
 .exact wpAny_loadName_local I.ok.kind b o O j
 .rcases b with b|b
  .exact wpAny_loadName_cell I.ok.kind b P d j
  .rcases hx with k|k
   .have:X.env.scope.names.lookup x=some .free:=b;rw[k] at this;cases this
   .have:X.env.scope.names.lookup x=some .free:=b;rw[k] at this;cases this
def ipI(f:Int->Int->Int):YK:=λx y H Q=>∃i j,x = .int i/\y = .int j/\Q (.int (f i j)) H
def AN:PIp X .Add (ipI λi j=>i+j):=by intro a s Z H x y v u Q I b c h;obtain⟨i,j,d,e,q⟩:=h;subst d;subst e;obtain⟨t,rfl⟩:=b;obtain⟨f,rfl⟩:=c;exact iadd_int ⟨.int _,H,I.tok _,⟨_,rfl⟩,q⟩
def SQ(c:TT)(tb:TS):TS:=λD Z H=>∃W:Nat->St->Hp->Prop,(∃m,W m Z H)/\∀m Z H,W m Z H ->
 c Z H λb a=>if b=true then ∃N:St->Hp->Prop,(∀d e,N d e->∃f,f<m/\W f d e)/\tb { D with nx:=N,ct:=N,bk:=D.nx } Z a else D.nx Z a
def jd(hp:PassesOwn (model X.prog X.w) X.A X.env X.xe)(hc:PT X c tc)(hb:AI X body tb):PS X (.While c body [] pos) (SQ tc tb):=by
 intro a s Z H D I h;obtain⟨W,⟨C,E⟩,turn⟩:=h;refine wpAny_While (codeAny_whileLoop (λn F=>∃t u,Inv X a t u F/\W n t u) ?_ C ⟨Z,H,I,E⟩);rintro n G ⟨g,x,J,K⟩;refine aj5 hp (dS (hc a G g x _ J (turn n g x K)) λb L  M=>?_);obtain⟨y,z,i⟩:=M;cases b with
 |true =>
  obtain⟨N,B,i⟩:=i;rw[w4 rfl];refine aj5 hp (dS (hb a L g y _ z i) λf O j=>?_);cases f with
  |next =>
   obtain⟨d,e,l,o⟩:=j;obtain⟨p,q,r⟩:=B d e o;exact⟨p,q,d,e,l,r⟩
  |cont =>
   obtain⟨d,e,l,o⟩:=j;obtain⟨p,q,r⟩:=B d e o;exact⟨p,q,d,e,l,r⟩
  |brk=>exact j
  |ret v=>exact j
 |false =>
  rw[C5 Z7];exact ao7 ⟨g,y,z,i⟩
structure It where
 go:Nat->Hp->Prop
 UO:Nat->Hp->V->Hp->Prop
 stop:Nat->Hp->Prop
def wk(X:Cx)(am:f7)(H:Hp)(b:Addr):Prop :=
 H b=none/\b≠X.env.locals/\b∉X.fs/\(b∈X.ex\/X.s₀.heap.objs.size<=b)/\(∀x c,X.env.cells.lookup x=some c->c≠b)/\∀p∈X.pn++am,p.1≠b
def Inv.CM(I:Inv X am Z H s)(hb:s.heap.objs.size<=b)(hn:H' b=none):wk X am H' b:=by
 refine⟨hn,ao0 (ab1 I.lt hb),I.Xj hb,.inr (ac2 I.sz hb),λx c e z=>by obtain⟨v,q⟩:=I.cell x c e;exact absurd (ab1 q.lt (z▸hb)) (ah0 _),λp a z=>absurd (ab1 (P2 (I.pin p a).1) (z▸hb)) (ah0 _)⟩
structure Turn(P:Program)(w:World)(K:W.Frag)(tg:Expr)(J:It)(fp:c6)(it:Addr)(tn:Nat->Heap->Prop):Prop where
 mem:it∈fp
 obj:∀i h,tn i h->∀b∈fp,∃o,h.get? b=some o/\∀v,o.data ≠ .cell v
 keep:∀i h h',tn i h->(∀b∈fp,∀o,h.get? b=some o->h'.get? b=some o)->tn i h'
 item:∀(X:Cx),X.prog=P->X.w=w->X.K=K->X.aw=true->∀(i:Nat) (am:f7) (s:Shared) (Z:St) (H:Hp) (E:Value->Shared->Prop),Inv X am Z H s->(∀b∈fp,wk X am H b)->tn i s.heap->J.go i H ->
  wpAny (model P w) X.A (pyNext (.ref it)) (λr s1=>∃u,r=some u /\
   wpAny (model P w) X.A (letOwnedTupleGo tg (.ref it) u) (λ_ s2=>∃x H',Inv X am Z H' s2/\RelV x u/\J.UO i H x H'/\tn (i+1) s2.heap/\∀b∈fp,H' b=none) E s1) E s
 done:∀(X:Cx),X.prog=P->X.w=w->X.K=K->X.aw=true->∀(i:Nat) (am:f7) (s:Shared) (Z:St) (H:Hp) (E:Value->Shared->Prop),Inv X am Z H s->(∀b∈fp,wk X am H b)->tn i s.heap->J.stop i H ->
  wpAny (model P w) X.A (pyNext (.ref it)) (λr s1=>r=none/\Inv X am Z H s1) E s
 self:∀(A:Around) (i:Nat) (s:Shared) (Q:Value->Shared->Prop) (E:Value->Shared->Prop),tn i s.heap->Q (.ref it) s->wpAny (model P w) A (pyIter (.ref it)) Q E s
abbrev TI:=St->Hp->(It->Hp->Prop)->Prop
def ZH(X:Cx)(am:f7)(Z:St)(tg:Expr)(R:It->Hp->Prop)(itv:Value)(s2:Shared):Prop :=
 ∃c d e J a,itv = .ref c/\Inv X am Z a s2/\Turn X.prog X.w X.K tg J d c e/\e 0 s2.heap/\(∀b∈d,wk X am a b)/\R J a
def PI(X:Cx)(tg iter:Expr)(wi:TI):Prop :=
 ∀a s Z H R,Inv X a Z H s->wi Z H R ->
  wpAny (model X.prog X.w) X.A (eval iter X.env) (λv b=>wpAny (model X.prog X.w) X.A (pyIter v) (ZH X a Z tg R) X.xe b) X.xe s
def JL(ho:s.heap.get? it=some o)(hc:o.cls = .type n)(hd:o.data = .fields vs)
  (hn:["enumerate","zip","dict_itemiterator","dict_reverseitemiterator","odict_iterator","itertools.zip_longest","itertools.pairwise"].contains n=false) (hQ:Q () s):wpAny M A (letOwnedTupleGo tg (.ref it) u) Q E s:=by
 unfold letOwnedTupleGo;cases tg <;> first
  |exact X2 hQ
  | (cases u <;> first
    |exact X2 hQ
    | (refine y0 (wpAny_load ho ?_)
       rw[hc,hd];show wpAny M A (if (["enumerate","zip","dict_itemiterator","dict_reverseitemiterator","odict_iterator","itertools.zip_longest","itertools.pairwise"].contains n && vs[0]? == some (rawInt _))=true then _ else _) Q E s;rw[C5 (by intro h;rw[hn,Bool.false_and] at h;cases h)];exact X2 hQ))
noncomputable def Q7(K:W.Frag)(a:Addr):It :=
 ⟨λi H=>∃b x,aV K H a b/\b[i]?=some x,λi H x c=>c=H/\∀b,aV K H a b->b[i]?=some x,λi H=>∃b,aV K H a b/\b.length<=i⟩
noncomputable def N5(lo:Int)(n:Nat):It:=⟨λi _=>i<n,λi H x a=>a=H/\x = .int (lo+i),λi _=>n<=i⟩
def DR{P:Program}{K:W.Frag}(a it:Addr):Turn P w K tg (Q7 K a) [it] it (λi h=>h.IsListIter it a i) where
 mem:=by simp
 obj:=λi h f b j=>by
  have e:b=it:=by simpa using j
  subst e;obtain⟨o,e,c,d⟩:=f;exact⟨o,e,λv z=>by rw[d] at z;cases z⟩
 keep:=λi h n f k=>f.at λo e=>k it (by simp) o e
 item:=by intro X t y A O i g s Z H E I q f B;subst t y A;obtain⟨Q,x,r,C⟩:=B;obtain⟨D,F,p,R⟩:=I.list r;obtain⟨u,S,T⟩:=F.get C;obtain⟨G,J,U,L,M,N⟩:=q it (by simp);refine wpAny_pyNext_list_item f p.isList (x:=u) (by simpa using S) λn l Y=>?_;obtain⟨o,e,c,d⟩:=id l;exact⟨u,rfl,JL (s:={ s with heap:=n }) e c d (by decide) ⟨x,H,I.turned (t':=s.toks) (λb o j e=>(Y.2 b j).trans e) G J L M N,T,⟨rfl,λys hy=>by rw[I.qf hy r];exact C⟩,l,λb j=>(q b j).1⟩⟩
 done:=by intro X t y A O i g s Z H E I q f B;subst t y A;obtain⟨Q,r,C⟩:=B;obtain⟨D,F,p,R⟩:=I.list r;obtain⟨G,J,U,L,M,N⟩:=q it (by simp);have hl:=F.length;exact wpAny_pyNext_list_end (I.ok.hd O) f p.isList (by simp;lia) λn eb=>⟨rfl,I.turned (t':=s.toks) (λb o j e=>eb b o j e) G J L M N⟩
 self:=λ_ _ _ _ _ f h=>wpAny_pyIter_listiter f h
def Be{P:Program}{K:W.Frag}(it:Addr)(lo:Int)(n:Nat):Turn P w K tg (N5 lo n) [it] it (λi h=>IsRangeIter h it (lo+(i:Nat)*1) ((n:Int)-(i:Nat)) 1) where
 mem:=by simp
 obj:=λi h a b d=>by
  have e:b=it:=by simpa using d
  subst e;exact⟨_,a,λv z=>by have F:=z;cases F⟩
 keep:=λi h g a k=>k it (by simp) _ a
 item:=by intro X l p q r i c s Z H E I j a u;subst l p q;obtain⟨x,y,G,A,B,C⟩:=j it (by simp);refine (Walks.range (prog:=X.prog) (w:=X.w) (I.ok.hd r) it lo 1 n).item i s _ _ u a λv g D J f L=>?_;obtain⟨t,rfl⟩:=J;refine⟨_,rfl,JL (s:={ s with heap:=g,toks:=D }) (n:="range_iterator") f rfl rfl (by decide) ⟨.int (lo+i),H,I.turned (λb o d e=>L b o (by simpa using d) e) x y A B C,⟨t,?_⟩,⟨rfl,rfl⟩,f,λb d=>(j b d).1⟩⟩;rw[Int.mul_one]
 done:=by intro X l p q r i c s Z H E I j a u;subst l p q;obtain⟨x,y,G,A,B,C⟩:=j it (by simp);exact wpAny_pyNext_range_end (I.ok.hd r) a (by have:n<=i:=u;lia) λg N=>⟨rfl,I.turned (t':=s.toks) (λb o d e=>N b o d e) x y A B C⟩
 self:=λ_ _ _ _ _ a h=>wpAny_pyIter_rangeiter a h
def XM(K:W.Frag)(tl:TE):TI:=λZ H R=>tl Z H λx b=>∃a,x = .ref a/\(∃c,aV K b a c)/\R (Q7 K a) b
def fF{l:Expr}{tl:TE}(hl:PE X l tl):PI X tg l (XM X.K tl):=by
 intro c s Z H R I h;refine dS (hl c s Z H _ I h) λv d  g=>?_;obtain⟨x,i,f,j,n⟩:=g;obtain⟨a,e,⟨w,r⟩,q⟩:=n;subst e;cases j;obtain⟨t,y,p,z⟩:=f.list r;refine wpAny_pyIter_list p.isList ?_;refine⟨d.heap.objs.size,[d.heap.objs.size],_,_,i,rfl,f.kept (t':=d.toks) λb o e=>x0 _ e,DR a _,⟨_,aa5 _ rfl,rfl,rfl⟩,λb u=>?_,q⟩;have e:b=d.heap.objs.size:=by simpa using u
 subst e;exact f.CM (N0 _) (f.ba.fresh (N0 _))
def Hs{lo hi:Int}(I:Inv X am Z H s)(h1:-(2 ^ 62)<=lo)(h2:lo<2 ^ 62)(h3:-(2 ^ 62)<=hi)(h4:hi<2 ^ 62)
  (q:R (N5 lo (hi-lo).toNat) H):wpAny (model X.prog X.w) X.A (pyIter (.ref s.heap.objs.size)) (ZH X am Z tg R) E { s with heap:=s.heap.push { cls:=.type "range",data:=.fields #[.int lo t,.int hi u,.int 1 v] },toks:=tk }:=by
 refine wpAny_pyIter_range (IsRange.new ..) (small_one h1 h2 h3 h4) ?_;have a:Inv X am Z H { s with heap:=s.heap.push { cls:=.type "range",data:=.fields #[.int lo t,.int hi u,.int 1 v] },toks:=tk }:=I.kept λb o e=>x0 _ e;refine⟨(s.heap.push { cls:=.type "range",data:=.fields #[.int lo t,.int hi u,.int 1 v] }).objs.size,[(s.heap.push { cls:=.type "range",data:=.fields #[.int lo t,.int hi u,.int 1 v] }).objs.size],_,_,H,rfl,
  a.kept (t':=tk) λb o e=>x0 _ e,Be _ lo (hi-lo).toNat,?_,λb c=>?_,q⟩
 .have d:lo+((0:Nat):Int)*1=lo:=by simp
  have f:(((hi-lo).toNat:Nat):Int)-((0:Nat):Int)=Builtin.Range.rangeSize lo hi 1:=by rw[rangeSize_one];split <;> lia
  show IsRangeIter _ _ (lo+((0:Nat):Int)*1) ((((hi-lo).toNat:Nat):Int)-((0:Nat):Int)) 1;rw[d,f];exact aa5 _ rfl
 .have e:b=(s.heap.push { cls:=.type "range",data:=.fields #[.int lo t,.int hi u,.int 1 v] }).objs.size:=by simpa using c
  subst e;exact a.CM (N0 _) (a.ba.fresh (N0 _))
def XF(ta:TA):TI:=λZ H R=>ta Z H λa b=>∃j,a=[.int j] /\ -(2 ^ 62)<=j/\j<2 ^ 62/\R (N5 0 j.toNat) b
def fm {a:Expr} {ta:TA} {p pos:Pos} (hg:Gl X "range") (hm:X.mg "range" = none) (ha:PA X [a] ta) (hs:autoParam (starEach [a] X.env=[(false,eval a X.env)]) cw._auto_1):PI X tg (.Call (.Name "range" p) [a] [] pos) (XF ta):=by
 intro b s Z H R I h;refine Call_ (pF I hg hm boot_range (ae0 (dS (ha pos b s Z H _ I h) λus l d=>?_) hs rfl));obtain⟨n,o,f,g,c⟩:=d;obtain⟨j,e,c,i,q⟩:=c;subst e;cases g with
 |cons r rr =>
  cases rr;obtain⟨t,rfl⟩:=r;exact call_range_1 (Hs f (by lia) (by lia) c i (by simpa using q))
def Y3(wi:TI)(g:TG)(tb:TS):TS:=λD Z H=>wi Z H λJ d=>∃W:Nat->Nat->St->Hp->Prop,(∃m,W 0 m Z d)/\∀i m Z H,W i m Z H ->
 (J.stop i H/\D.nx Z H)\/(J.go i H/\∃N:St->Hp->Prop,(∀b a,N b a->∃c,c<m/\W (i+1) c b a)/\∀x a,J.UO i H x a->g x Z a λZ2 e=>tb { D with nx:=N,ct:=N,bk:=D.nx } Z2 e)
noncomputable def qU(fp:c6)(h:Heap):f7:=fp.filterMap λb=>(h.get? b).map λo=>(b,o)
def iX(hb:b∈fp)(e:h.get? b=some o):(b,o)∈qU fp h:=ao3.mpr ⟨b,hb,by rw[e];rfl⟩
def vF(hp:p∈qU fp h):p.1∈fp/\h.get? p.1=some p.2:=by
 obtain⟨b,a,e⟩:=ao3.mp hp;cases q:h.get? b with
 |none=>rw[q] at e;cases e
 |some o =>
  rw[q] at e;have c:=aa1 e;subst c;exact⟨a,q⟩
def Inv.pinned(I:Inv X am Z H s)(hf:∀b∈fp,wk X am H b)(ho:∀b∈fp,∃o,s.heap.get? b=some o/\∀v,o.data ≠ .cell v):Inv X (am++qU fp s.heap) Z H s :=
 I.jZ λp f=>(X1.mp f).elim (λz=>I.pin p (Z2 _ z)) λz=>by obtain⟨a,e⟩:=vF z;obtain⟨g,h,i,_⟩:=hf p.1 a;obtain⟨o,c,d⟩:=ho p.1 a;rw[e] at c;cases c;exact⟨e,g,h,i,d⟩
def Inv.tE(I:Inv X (am++pl) Z H s):Inv X am Z H s:=I.jZ λp a=>I.pin p (Z2 _ (aa8 _ a))
def Sz(hp:PassesOwn (model X.prog X.w) X.A X.env X.xe)(hc:X.aw=true)(hi:PI X tg iter wi)(hg:PG X tg g)(hb:AI X body tb)
  (hs:autoParam (∀x,foldedSetIterable iter X.env x=pure x) cw._auto_1):PS X (.For tg iter body [] pos) (Y3 wi g tb):=by
 intro a s Z H D I h;refine wpAny_For (dS (hi a s Z H _ I h) λv s1 h1=>dS h1 λitv s2 h2=>?_) hs;obtain⟨it,y,S,J,H2,e,I2,T,L,U,W,⟨m0,w0⟩,turn⟩:=h2;subst e;have c:∀{H':Hp},(∀b∈y,H' b=none)->∀b∈y,wk X a H' b:=λhn b hb=>⟨hn b hb,(U b hb).2⟩
 refine codeAny_forLoop_any (λn Y=>∃i z H',Inv X a z H' Y/\S i Y.heap/\(∀b∈y,H' b=none)/\W i n z H') ?_ m0 ⟨0,Z,H2,I2,L,λb hb=>(U b hb).1,w0⟩;rintro n s3 ⟨i,B,K,I3,C,E,w3⟩;rcases turn i n B K w3 with ⟨F,qn⟩|⟨go,N,hN,step⟩
 .refine aj5 hp (dS (T.done X rfl rfl rfl hc i a s3 B K X.xe I3 (c E) C F) λr s4 M=>?_);obtain⟨hr,I4⟩:=M;subst hr;exact ao7 ⟨B,K,I4,qn⟩
 .refine aj5 hp (dS (T.item X rfl rfl rfl hc i a s3 B K X.xe I3 (c E) C go) λr s4 M=>?_);obtain⟨u,hr,h4⟩:=M;subst hr;refine aj5 hp (dS h4 λ_ s5  O=>?_);obtain⟨x,H5,I5,r5,y5,t,P⟩:=O;refine aj5 hp (dS (hg _ s5 B H5 x u _ (I5.pinned (c P) (T.obj _ _ t)) r5 (step x H5 y5)) λ_ s6  O=>?_);obtain⟨Z6,H6,I6,q6⟩:=O;refine aj5 hp (dS (hb _ s6 Z6 H6 _ I6 q6) λf R q=>?_);have j:∀{Z7:St} {l:Hp},Inv X (a++qU y s5.heap) Z7 l R->N Z7 l->∃m,m<n/\∃i z H',Inv X a z H' R/\S i R.heap/\(∀b∈y,H' b=none)/\W i m z H':=λ{Z7 l} p G=>by obtain⟨m',hm,w7⟩:=hN Z7 l G;refine⟨m',hm,i+1,Z7,l,p.tE,T.keep _ _ _ t λb hb o e=>(p.pin (b,o) (Z2 _ (Z2 _ (iX hb e)))).1,λb hb=>?_,w7⟩;obtain⟨o,e,d⟩:=T.obj _ _ t b hb;exact(p.pin (b,o) (Z2 _ (Z2 _ (iX hb e)))).2.1
  cases f with
  |next=>obtain⟨Z7,l,p,G⟩:=q;exact j p G
  |cont=>obtain⟨Z7,l,p,G⟩:=q;exact j p G
  |brk=>obtain⟨Z7,l,p,q⟩:=q;exact⟨Z7,l,p.tE,q⟩
  |ret v=>obtain⟨x7,Z7,l,p,r7,q⟩:=q;exact⟨x7,Z7,l,p.tE,r7,q⟩
def J3{K:W.Frag}{g:TG}{tb:TS}{D:Ends}(Pv:Nat->St->Hp->Prop)(h0:Pv 0 Z H)(hl:∀i Z H,i<=xs.length->Pv i Z H->aV K H a xs)
  (hs:∀i x Z H,xs[i]?=some x->Pv i Z H->g x Z H λZ2 H2=>tb { D with nx:=Pv (i+1),ct:=Pv (i+1),bk:=D.nx } Z2 H2) (hd:∀Z H,Pv xs.length Z H->D.nx Z H) :
  ∃W:Nat->Nat->St->Hp->Prop,(∃m,W 0 m Z H)/\∀i m Z H,W i m Z H ->
   ((Q7 K a).stop i H/\D.nx Z H)\/((Q7 K a).go i H/\∃N:St->Hp->Prop,(∀Z' H',N Z' H'->∃m',m'<m/\W (i+1) m' Z' H')/\∀x H',(Q7 K a).UO i H x H'->g x Z H' λZ2 H2=>tb { D with nx:=N,ct:=N,bk:=D.nx } Z2 H2):=by
 refine⟨λi m Z H=>m=xs.length-i/\i<=xs.length/\Pv i Z H,⟨xs.length,by simp,Z9 _,h0⟩,?_⟩;rintro i m Z H ⟨rfl,c,p⟩;have q:=hl i Z H c p;by_cases b:i<xs.length
 .refine .inr ⟨⟨xs,xs[i],q,by simp[b]⟩,Pv (i+1),λZ' H' d=>⟨xs.length-(i+1),by lia,rfl,b,d⟩,λx H' y=>?_⟩;obtain⟨e,y⟩:=y;subst e;exact hs i x Z _ (y xs q) p
 .have e:i=xs.length:=by lia
  subst e;exact .inl ⟨⟨xs,q,N0 _⟩,hd Z H p⟩
def Du{lo:Int}{g:TG}{tb:TS}{D:Ends}(Pv:Nat->St->Hp->Prop)(h0:Pv 0 Z H)
  (hs:∀i Z H,i<n->Pv i Z H->g (.int (lo+i)) Z H λZ2 H2=>tb { D with nx:=Pv (i+1),ct:=Pv (i+1),bk:=D.nx } Z2 H2) (hd:∀Z H,Pv n Z H->D.nx Z H) :
  ∃W:Nat->Nat->St->Hp->Prop,(∃m,W 0 m Z H)/\∀i m Z H,W i m Z H ->
   ((N5 lo n).stop i H/\D.nx Z H)\/((N5 lo n).go i H/\∃N:St->Hp->Prop,(∀Z' H',N Z' H'->∃m',m'<m/\W (i+1) m' Z' H')/\∀x H',(N5 lo n).UO i H x H'->g x Z H' λZ2 H2=>tb { D with nx:=N,ct:=N,bk:=D.nx } Z2 H2):=by
 refine⟨λi m Z H=>m=n-i/\i<=n/\Pv i Z H,⟨n,by simp,Z9 _,h0⟩,?_⟩;rintro i m Z H ⟨rfl,c,p⟩;by_cases a:i<n
 .refine .inr ⟨a,Pv (i+1),λZ' H' b=>⟨n-(i+1),by lia,rfl,a,b⟩,λx H' y=>?_⟩;obtain⟨e,y⟩:=y;subst e y;exact hs i Z _ a p
 .have e:i=n:=by lia
  subst e;exact .inl ⟨N0 _,hd Z H p⟩
abbrev R2:=V->V->Hp->VK->Prop
def mL(X:Cx)(f:Value->Value->Sem Value)(r:R2):Prop :=
 ∀a s Z H x y v u Q,Inv X a Z H s->RelV x v->RelV y u->r x y H Q ->
  wpAny (model X.prog X.w) X.A (f v u) (EP X a Z Q) X.xe s
def Zd(X:Cx)(f:Value->Sem Value)(r:V->Hp->VK->Prop):Prop :=
 ∀a s Z H x v Q,Inv X a Z H s->RelV x v->r x H Q ->
  wpAny (model X.prog X.w) X.A (f v) (EP X a Z Q) X.xe s
def gS(X:Cx)(f:Value)(r:q7->Hp->VK->Prop):Prop :=
 ∀a s Z H b us Q,Inv X a Z H s->Vals b us->r b H Q ->
  wpAny (model X.prog X.w) X.A (call f us) (EP X a Z Q) X.xe s
def Y9(X:Cx)(r:V->Hp->(Bool->Hp->Prop)->Prop):Prop :=
 ∀a s Z H x v Q,Inv X a Z H s->RelV x v->r x H Q ->
  wpAny (model X.prog X.w) X.A (truthy v) (TP X a Z Q) X.xe s
def Wf(r:R2)(ta tb:TE):TE:=λZ H Q=>ta Z H λx a=>tb Z a λy b=>r x y b Q
def tUn(r:V->Hp->VK->Prop)(ta:TE):TE:=λZ H Q=>ta Z H λx a=>r x a Q
inductive rI(C:Int->Int->Prop)(g:Int->Int->V):V->V->Hp->VK->Prop|mk{i j:_}{H Q:_}(_:C i j)(_:Q (g i j) H):rI C g (.int i) (.int j) H Q
def rI_i{C:Int->Int->Prop}{g:Int->Int->V}{x:V}{y:V}:rI C g x y H Q↔∃i j,x = .int i/\y = .int j/\C i j/\Q (g i j) H:=⟨λh=>by obtain@⟨i,j,_,_,h0,h1⟩:=h;exact⟨i,j,rfl,rfl,h0,h1⟩,λh=>by obtain⟨i,j,rfl,rfl,h0,h1⟩:=h;exact⟨h0,h1⟩⟩
inductive Ra(g:Int->Int->V):V->V->Hp->VK->Prop|mk{i j:_}{H Q:_}(_:Q (g i j) H):Ra g (.int i) (.int j) H Q
def Ra_i{g:Int->Int->V}{x:V}{y:V}:Ra g x y H Q↔∃i j,x = .int i/\y = .int j/\Q (g i j) H:=⟨λh=>by obtain@⟨i,j,_,_,h0⟩:=h;exact⟨i,j,rfl,rfl,h0⟩,λh=>by obtain⟨i,j,rfl,rfl,h0⟩:=h;exact⟨h0⟩⟩
inductive rU(g:Int->V):V->Hp->VK->Prop|mk{i:_}{H Q:_}(_:Q (g i) H):rU g (.int i) H Q
section
variable {a b c:Expr}{ta tb tc:TE}
def T8(ha:PE X a ta)(hb:PE X b tb){R:V->V->Hp->Prop}(I:Inv X am Z H s)
  (h:ta Z H λx H1=>tb Z H1 λy H2=>R x y H2)  {f:Value->Value->Sem Value}
  (hf:∀v u s2 x y H2,Inv X am Z H2 s2->RelV x v->RelV y u->R x y H2->wpAny (model X.prog X.w) X.A (f v u) Q X.xe s2) :
  wpAny (model X.prog X.w) X.A (eval a X.env) (λv s₁=>wpAny (model X.prog X.w) X.A (eval b X.env) (λu s₂=>wpAny (model X.prog X.w) X.A (f v u) Q X.xe s₂) X.xe s₁) X.xe s:=by
 refine dS (ha am s Z H _ I h) λv d  c=>?_;obtain⟨x,H1,e,g,i⟩:=c;refine dS (hb am d Z H1 _ e i) λu s2  c=>?_;obtain⟨y,H2,j,l,n⟩:=c;exact hf v u s2 x y H2 j g l n
def aK{op:Operator}{r:R2}(ho:mL X (binaryOp op) r)(ha:PE X a ta)(hb:PE X b tb):PE X (.BinOp a op b pos) (Wf r ta tb):=by intro c s Z H Q I h;exact wpAny_BinOp (T8 ha hb I h λv u d x y e f g i q=>ho c d Z e x y v u Q f g i q)
def iQ{op:UnaryOp}{r:V->Hp->VK->Prop}(ho:Zd X (unaryOp op) r)(ha:PE X a ta):PE X (.UnaryOp op a pos) (tUn r ta):=by intro b s Z H Q I h;exact UnaryOp_ (dS (ha b s Z H _ I h) λv c ⟨x,d,e,f,g⟩=>ho b c Z d x v Q e f g)
def YM{C:Int->Int->Prop}{g:Int->Int->Int}
  (rule:∀(i j:Int) (t u:Tok) (s:Shared) (Q:Value->Shared->Prop) (E:Value->Shared->Prop),C i j->Q (.int (g i j) s.toks) { s with toks:=s.toks+1 }->wpAny (model X.prog X.w) X.A (f (.int i t) (.int j u)) Q E s) :
  mL X f (rI C λi j=>.int (g i j)):=by
 intro a s Z H x y v u Q I b c h;obtain@⟨i,j,_,_,d,q⟩:=h;obtain⟨t,rfl⟩:=b;obtain⟨e,rfl⟩:=c;exact rule i j t e s _ _ d ⟨.int (g i j),H,I.tok _,⟨_,rfl⟩,q⟩
def Xe{g:Int->Int->Int}
  (rule:∀(i j:Int) (t u:Tok) (s:Shared) (Q:Value->Shared->Prop) (E:Value->Shared->Prop),Q (.int (g i j) s.toks) { s with toks:=s.toks+1 }->wpAny (model X.prog X.w) X.A (f (.int i t) (.int j u)) Q E s) :
  mL X f (Ra λi j=>.int (g i j)):=by
 intro a s Z H x y v u Q I b c h;obtain@⟨i,j,_,_,q⟩:=h;obtain⟨t,rfl⟩:=b;obtain⟨d,rfl⟩:=c;exact rule i j t d s _ _ ⟨.int (g i j),H,I.tok _,⟨_,rfl⟩,q⟩
def UH{g:Int->Int->Bool}
  (rule:∀(i j:Int) (t u:Tok) (s:Shared) (Q:Value->Shared->Prop) (E:Value->Shared->Prop),Q (.bool (g i j)) s->wpAny (model X.prog X.w) X.A (f (.int i t) (.int j u)) Q E s) :
  mL X f (Ra λi j=>.bl (g i j)):=by
 intro a s Z H x y v u Q I b c h;obtain@⟨i,j,_,_,q⟩:=h;obtain⟨t,rfl⟩:=b;obtain⟨d,rfl⟩:=c;exact rule i j t d s _ _ ⟨.bl (g i j),H,I,rfl,q⟩
def YV(i j:Int):Prop:=0<j/\j<1073741824
def UK(i j:Int):Prop:=(-(2 ^ 64)<i/\i<2 ^ 64)\/(-(2 ^ 64)<j/\j<2 ^ 64)
def UK.ok(h:UK i j):IntMulOk i j:=by
 rcases h with ⟨a,b⟩|⟨a,b⟩
 .exact .of_left (intBits_le_64 a b)
 .exact .of_right (intBits_le_64 a b)
def A8(k:Nat):(0:Int)<=2 ^ k:=by rw[two_pow_cast];exact Int.natCast_nonneg _
def bh:mL X (binaryOp .Add) (Ra λi j=>.int (i+j)):=Xe λ_ _ _ _ _ _ _ q=>add_int q
def cQ:mL X (binaryOp .Sub) (Ra λi j=>.int (i-j)):=Xe λ_ _ _ _ _ _ _ q=>sub_int q
def jN:mL X (binaryOp .Mult) (rI UK λi j=>.int (i*j)):=YM λ_ _ _ _ _ _ _ a q=>mul_int q a.ok
def Mu:mL X (binaryOp .FloorDiv) (rI YV λi j=>.int (i / j)):=YM λi j _ _ _ _ _ a q=>by have b:=a.1;have c:=a.2;exact floordiv_int (by lia) (by rw[Int.fdiv_eq_ediv_of_nonneg i (by lia)];exact q) (.inl (PyProof.noPylong_small (by omega)))
def kE:mL X (binaryOp .Mod) (rI (λ_ j=>0<j) λi j=>.int (i % j)):=YM λi j _ _ _ _ _ a q=>by exact mod_int' (by lia) (by rw[Int.fmod_eq_emod_of_nonneg i (by lia)];exact q)
def VQ:mL X (binaryOp .RShift) (rI (λ_ j=>0<=j) λi j=>.int (i / 2 ^ j.toNat)):=YM λi j _ _ _ _ _ a q =>
 rshift_int a (by rw[Int.fdiv_eq_ediv_of_nonneg i (A8 _)];exact q)
def unI{g:Int->Int}
  (rule:∀(i:Int) (t:Tok) (s:Shared) (Q:Value->Shared->Prop) (E:Value->Shared->Prop),Q (.int (g i) s.toks) { s with toks:=s.toks+1 }->wpAny (model X.prog X.w) X.A (f (.int i t)) Q E s) :
  Zd X f (rU λi=>.int (g i)):=by
 intro a s Z H x v Q I b h;obtain@⟨i,_,_,q⟩:=h;obtain⟨t,rfl⟩:=b;exact rule i t s _ _ ⟨.int (g i),H,I.tok _,⟨_,rfl⟩,q⟩
def fT:Zd X (unaryOp .USub) (rU λi=>.int (-i)):=unI λ_ _ _ _ _ q=>neg_int q
end
noncomputable def Yo:V->V->Bool
 |.dj,.dj=>true | .dj,.int _=>true | .int _,.dj=>true | .dj,.bl _=>true | .bl _,.dj=>true | .dj,.str _=>true | .str _,.dj=>true
 |.int _,.int _=>true | .bl _,.bl _=>true | .str _,.str _=>true | .byt _,.byt _=>true
 |.int _,.str _=>true | .str _,.int _=>true | .bl _,.str _=>true | .str _,.bl _=>true
 |_,_=>false
inductive rEq(x:V)(y:V)(H:Hp)(Q:VK):Prop|mk(_:Yo x y=true)(_:Q (.bl (decide (x=y))) H)
def rEq_i{x:V}{y:V}:rEq x y H Q↔Yo x y=true/\Q (.bl (decide (x=y))) H:=by constructor <;> intro h <;> obtain⟨a,b⟩:=h <;> exact⟨a,b⟩
inductive rNe(x:V)(y:V)(H:Hp)(Q:VK):Prop|mk(_:Yo x y=true)(_:Q (.bl (!decide (x=y))) H)
def Bj:decide (V.int i=V.int j)=(i == j):=by rw[af5];simp
def G7:decide (V.bl i=V.bl j)=(i == j):=by rw[af5];simp
def CJ:decide (V.str i=V.str j)=(i == j):=by rw[af5];simp
def BC:decide (V.byt i=V.byt j)=(i.toList == j.toList):=by rw[af5];cases i;cases j;simp
section
variable {a b c:Expr}{ta tb tc:TE}
def cH(I:Inv X am Z H s)(q:Q (.bl k) H)(e:k=k'):EP X am Z Q (.bool k') s:=by subst e;exact⟨.bl k,H,I,rfl,q⟩
def cC:mL X (compareOp .Eq) rEq:=by
 intro e s Z H x y v u Q I d a h;obtain⟨c,q⟩:=h;cases x with
 |dj =>
  cases d;cases y with
  |dj=>cases a;exact EqNone.eq_none_none (cH I q (by simp))
  |bl j=>cases a;exact EqNone.eq_none_bool (cH I q (by simp))
  |int j=>obtain⟨b,rfl⟩:=a;exact EqNone.eq_none_int (cH I q (by simp))
  |str j=>obtain⟨b,rfl⟩:=a;exact EqNone.eq_none_str (cH I q (by simp))
  |_=>exact absurd (show false=true from c) Z7
 |bl i =>
  cases d;cases y with
  |dj=>cases a;exact EqNone.eq_bool_none (cH I q (by simp))
  |bl j=>cases a;exact eq_bool (cH I q G7)
  |str j=>obtain⟨b,rfl⟩:=a;exact EqMixed.eq_bool_str (cH I q (by simp))
  |_=>exact absurd (show false=true from c) Z7
 |int i =>
  obtain⟨t,rfl⟩:=d;cases y with
  |dj=>cases a;exact EqNone.eq_int_none (cH I q (by simp))
  |int j=>obtain⟨b,rfl⟩:=a;exact eq_int (cH I q Bj)
  |str j=>obtain⟨b,rfl⟩:=a;exact EqMixed.eq_int_str (cH I q (by simp))
  |_=>exact absurd (show false=true from c) Z7
 |str i =>
  obtain⟨t,rfl⟩:=d;cases y with
  |dj=>cases a;exact EqNone.eq_str_none (cH I q (by simp))
  |bl j=>cases a;exact EqMixed.eq_str_bool (cH I q (by simp))
  |int j=>obtain⟨b,rfl⟩:=a;exact EqMixed.eq_str_int (cH I q (by simp))
  |str j=>obtain⟨b,rfl⟩:=a;exact eq_str (cH I q CJ)
  |_=>exact absurd (show false=true from c) Z7
 |byt i =>
  obtain⟨t,rfl⟩:=d;cases y with
  |byt j=>obtain⟨b,rfl⟩:=a;exact W.eq_bytes (cH I q BC)
  |_=>exact absurd (show false=true from c) Z7
 |_=>cases y <;> exact absurd (show false=true from c) Z7
def tX:mL X (compareOp .NotEq) rNe:=by
 intro e s Z H x y v u Q I d a h;obtain⟨c,q⟩:=h;cases x with
 |dj =>
  cases d;cases y with
  |dj=>cases a;exact EqNone.ne_none_none (cH I q (by simp))
  |bl j=>cases a;exact EqNone.ne_none_bool (cH I q (by simp))
  |int j=>obtain⟨b,rfl⟩:=a;exact EqNone.ne_none_int (cH I q (by simp))
  |str j=>obtain⟨b,rfl⟩:=a;exact EqNone.ne_none_str (cH I q (by simp))
  |_=>exact absurd (show false=true from c) Z7
 |bl i =>
  cases d;cases y with
  |dj=>cases a;exact EqNone.ne_bool_none (cH I q (by simp))
  |bl j=>cases a;exact ne_bool (cH I q (ac7 not G7))
  |str j=>obtain⟨b,rfl⟩:=a;exact EqMixed.ne_bool_str (cH I q (by simp))
  |_=>exact absurd (show false=true from c) Z7
 |int i =>
  obtain⟨t,rfl⟩:=d;cases y with
  |dj=>cases a;exact EqNone.ne_int_none (cH I q (by simp))
  |int j=>obtain⟨b,rfl⟩:=a;exact ne_int (cH I q (ac7 not Bj))
  |str j=>obtain⟨b,rfl⟩:=a;exact EqMixed.ne_int_str (cH I q (by simp))
  |_=>exact absurd (show false=true from c) Z7
 |str i =>
  obtain⟨t,rfl⟩:=d;cases y with
  |dj=>cases a;exact EqNone.ne_str_none (cH I q (by simp))
  |bl j=>cases a;exact EqMixed.ne_str_bool (cH I q (by simp))
  |int j=>obtain⟨b,rfl⟩:=a;exact EqMixed.ne_str_int (cH I q (by simp))
  |str j=>obtain⟨b,rfl⟩:=a;exact ne_str (cH I q (ac7 not CJ))
  |_=>exact absurd (show false=true from c) Z7
 |byt i =>
  obtain⟨t,rfl⟩:=d;cases y with
  |byt j=>obtain⟨b,rfl⟩:=a;exact W.ne_bytes (cH I q (ac7 not BC))
  |_=>exact absurd (show false=true from c) Z7
 |_=>cases y <;> exact absurd (show false=true from c) Z7
def fX:mL X (compareOp .Lt) (Ra λi j=>.bl (decide (i<j))):=UH λ_ _ _ _ _ _ _ q=>lt_int q
def j9:mL X (compareOp .Gt) (Ra λi j=>.bl (decide (j<i))):=UH λ_ _ _ _ _ _ _ q=>gt_int q
def xS:mL X (compareOp .GtE) (Ra λi j=>.bl (decide (j<=i))):=UH λ_ _ _ _ _ _ _ q=>ge_int q
def kP:mL X (compareOp .In) (λx y H Q=>∃i j,x = .str i/\y = .str j/\Q (.bl (!(Builtin.Str.occurrences j i 0 j.length 1).isEmpty)) H):=by intro a s Z H x y v u Q I b c h;obtain⟨i,j,rfl,rfl,q⟩:=h;obtain⟨t,rfl⟩:=b;obtain⟨d,rfl⟩:=c;exact in_str (cH I q rfl)
def we:mL X (compareOp .Is) (λx y H Q=>y = .dj/\Q (.bl (decide (x = .dj))) H):=by
 intro a s Z H x y v u Q I b c h;obtain⟨rfl,q⟩:=h;cases c;refine is_none_gen (cH I q ?_);cases x <;> first
  | (cases b;rfl)
  | (obtain⟨t,rfl⟩:=b;rfl)
def nR:mL X (compareOp .IsNot) (λx y H Q=>y = .dj/\Q (.bl (!decide (x = .dj))) H):=by
 intro a s Z H x y v u Q I b c h;obtain⟨rfl,q⟩:=h;cases c;refine isnot_none_gen (cH I q ?_);cases x <;> first
  | (cases b;rfl)
  | (obtain⟨t,rfl⟩:=b;rfl)
def w9:mL X (compareOp .NotIn) (λx y H Q=>∃i j,x = .str i/\y = .str j/\Q (.bl (!(!(Builtin.Str.occurrences j i 0 j.length 1).isEmpty))) H):=by intro a s Z H x y v u Q I b c h;obtain⟨i,j,rfl,rfl,q⟩:=h;obtain⟨t,rfl⟩:=b;obtain⟨d,rfl⟩:=c;exact notIn_str (cH I q rfl)
def aE(b:Expr)(h:autoParam (op ≠ .In) cw._auto_1)(h2:autoParam (op ≠ .NotIn) cw._auto_1):behindInMarks op b=false:=by
 have a:(op == CmpOp.In)=false:=by cases op <;> first | rfl | exact absurd rfl h
 have c:(op == CmpOp.NotIn)=false:=by cases op <;> first | rfl | exact absurd rfl h2
 cases b <;> simp[behindInMarks,a,c]
def eW{op:CmpOp}{r:R2}(ho:mL X (compareOp op) r)(ha:PE X a ta)(hb:PE X b tb)(hm:behindInMarks op b=false):PE X (.Compare a [op] [b] pos) (Wf r ta tb):=by intro c s Z H Q I h;exact wpAny_Compare1 (T8 ha hb I h λv u d x y e f g i q=>ho c d Z e x y v u Q f g i q) hm
def aA{op:CmpOp}{r:R2}(ho:mL X (compareOp op) r)(ha:PE X a ta)(hb:PE X b tb)(hm:behindInMarks op b=false):PT X (.Compare a [op] [b] pos) (tB (Wf r ta tb)):=by
 intro d s Z H Q I h;refine wpAny_isTrue_Compare1 (dS (ha d s Z H _ I h) λv f ⟨x,g,i,j,l⟩=>dS (hb d f Z g _ i l) λu n ⟨y,o,p,q,t⟩ =>
  dS (ho d n Z o x y v u _ p j q t) λc D ⟨z,w,A,B,e⟩=>?_) hm
 obtain⟨k,rfl,C⟩:=WD_i.mp e;cases B;exact af4 ⟨w,A,C⟩
def WI(K:W.Frag)(x:V)(H:Hp)(k:Bool):Prop :=
 match x with
 |.dj=>k=false
 |.bl b=>k=b
 |.int i=>k=(i != 0)
 |.str y=>y.length<=sizeLine/\k=((y.length:Int) != 0)
 |.byt y=>y.size<=sizeLine/\k=((y.size:Int) != 0)
 |.ref p=>(∃a,aV K H p a/\k = !a.isEmpty)\/(∃a,bT K H p a/\k = !a.isEmpty)\/∃c,H p=some (.dK c)/\k = !c.isEmpty
 |_=>False
def Ac(r:KV kvs vs):(!vs.isEmpty) = !kvs.isEmpty:=by cases r <;> rfl
def tO(r:Vals xs its):(!its.toArray.isEmpty) = !xs.isEmpty:=by cases r <;> simp
def o7:(sizeLine:Nat)<2 ^ 63:=by rw[ad0];decide
def TR:Y9 X (λx H Q=>∃k,WI X.K x H k/\Q k H):=by
 intro o s Z H x v Q I g h;obtain⟨k,e,q⟩:=h;have B:=ad0;cases x with
 |dj =>
  cases g;have a:=e;subst a;exact truthy_none ⟨H,I,q⟩
 |bl b =>
  cases g;have a:=e;subst a;exact af4 ⟨H,I,q⟩
 |int i =>
  obtain⟨t,rfl⟩:=g;have a:=e;subst a;exact P.truthy_int ⟨H,I,q⟩
 |str y =>
  obtain⟨t,rfl⟩:=g;obtain⟨z,a⟩:y.length<=sizeLine/\k=((y.length:Int) != 0):=e;subst a;exact P.truthy_str (by lia) ⟨H,I.tok _,q⟩
 |byt y =>
  obtain⟨t,rfl⟩:=g;obtain⟨z,a⟩:y.size<=sizeLine/\k=((y.size:Int) != 0):=e;subst a;exact W.truthy_bytes (by lia) ⟨H,I.tok _,q⟩
 |ref p =>
  cases g;have a:=e;rcases a with ⟨f,j,a⟩|⟨f,j,a⟩|⟨c,j,a⟩
  .subst a;obtain⟨l,r,n,u⟩:=I.list j;have d:=r.length;exact wpAny_truthy_list n.isList (by simp only[T1];lia) ⟨H,I.tok _,by rw[tO r];exact q⟩
  .subst a;obtain⟨l,r,n,u⟩:=I.tuple j;have d:=r.length;exact truthy_tuple n (by simp only[T1];lia) ⟨H,I.tok _,by rw[tO r];exact q⟩
  .subst a;obtain⟨u,A,vs,r,m⟩:c.length<=sizeLine/\(p == sysModules)=false/\∃vs,KV c vs/\s.heap.DictOf (cJ X.prog X.w) p vs:=I.ba p _ j;have d:=Paired.length r;exact wpAny_truthy_dict A m (by lia) ⟨H,I.tok _,by rw[Ac r];exact q⟩
 |_=>exact(show False from e).elim
def gc(ha:PE X a ta)(he:∀whole,isTrue a X.env whole=(do let v <- whole;standAt a.pos;holding [v] (truthy v))) :
  PT X a (λZ H Q=>ta Z H λx H'=>∃k,WI X.K x H' k/\Q k H'):=by
 intro b s Z H Q I h;exact isTrue_plain (dS (ha b s Z H _ I h) λv c ⟨x,d,e,f,g⟩=>TR b c Z d x v Q e f g) (he _)
def bY:mL X (binaryOp .Add) (λx y H Q=>∃i j,x = .str i/\y = .str j/\i.length+j.length<=sizeLine/\Q (.str (i++j)) H):=by intro a s Z H x y v u Q I b c h;obtain⟨i,j,rfl,rfl,d,q⟩:=h;obtain⟨t,rfl⟩:=b;obtain⟨e,rfl⟩:=c;exact add_str (λe f=>⟨.str (i++j),H,I.tok _,⟨_,rfl⟩,q⟩) d
def vals1(r:Vals [x] us):∃u,us=[u]/\RelV x u:=by
 cases r with
 |cons r1 r2=>cases r2;exact⟨_,rfl,r1⟩
def vals2(r:Vals [x,y] us):∃u w',us=[u,w']/\RelV x u/\RelV y w':=by
 cases r with
 |cons r1 r2 =>
  cases r2 with
  |cons r3 r4=>cases r4;exact⟨_,_,rfl,r1,r3⟩
def CV (hc:X.aw=true):gS X (.builtin "max") (λxs H Q=>∃i j,xs=[.int i,.int j]/\Q (.int (if j>i then j else i)) H):=by
 intro b s Z H xs us Q I r h;obtain⟨i,j,rfl,q⟩:=h;obtain⟨u,c,rfl,⟨t,rfl⟩,⟨d,rfl⟩⟩:=vals2 r;refine max_two_ints (I.ok.hd hc) λe f k=>⟨_,H,I.kept k,?_,q⟩
 by_cases a:j>i
 .rw[w4 a,w4 a];exact⟨_,rfl⟩
 .rw[C5 a,C5 a];exact⟨_,rfl⟩
def CW:gS X (.type "int") (λxs H Q=>(∃i,xs=[.int i]/\Q (.int i) H)\/∃k,xs=[.bl k]/\Q (.int (if k then 1 else 0)) H):=by
 intro a s Z H xs us Q I r h;rcases h with ⟨i,rfl,q⟩|⟨k,rfl,q⟩
 .obtain⟨u,rfl,t,rfl⟩:=vals1 r;exact call_int_int ⟨.int i,H,I,⟨_,rfl⟩,q⟩
 .obtain⟨u,rfl,b⟩:=vals1 r;cases b;exact call_int_bool ⟨.int (if k then 1 else 0),H,I.tok _,⟨_,rfl⟩,q⟩
end
structure z8(h:Heap)(x dx C:Addr)(mA:g6):Prop where
 obj:h.get? x=some (W.instObj C dx)
 ns:h.Ns1 dx mA
 ne:dx≠x
def vJ(n:h.Ns1 dx mA):∃od,h.get? dx=some od/\∀name,W.lookIn name od=some (mA name):=by
 obtain⟨o,c,p,d,f,g,_,i⟩:=n;refine⟨o,d,λname=>?_⟩;have e:=i name;unfold nsFind findBy at e;rw[<- Array.find?_toList] at e;unfold W.lookIn;rw[f];dsimp only;split
 .rename_i y q;rw[q] at e;exact ac7 some e
 .rename_i q;rw[q] at e;have a:c.toList.any (·.refKey)=false:=by rw[List.any_eq_false];intro y j;obtain⟨z,t,b⟩:=g y (Array.mem_toList_iff.mp j);simp[DictEntry.refKey,b]
  have l:¬c.toList.any (·.refKey)=true:=a▸Z7
  rw[C5 l];exact ac7 some e
def z8.look(I:z8 h x dx C mA):∃od,W.InstAt h x (W.instObj C dx) C (some od)/\∀name,W.lookIn name od=some (mA name) :=
 let ⟨od,ho,hl⟩:=vJ I.ns
 ⟨od,⟨I.obj,rfl,rfl,ho⟩,hl⟩
section
variable {E:Value->Shared->Prop}{K:PySem.W.Frag}{x f:Addr}{mA:g6}{v:Value}
def get_map(X:K.In s.heap)(I:z8 s.heap x dx C mA)(hg:W.plainGet K C name=true)(hh:W.hasDictIn K C=true)
  (ha:W.findIn K (.ref C) name=some none) (hv:mA name=some v) (hv':W.handedIn v=true) (h:Q v { s with toks:=s.toks+1 }) :
  wpAny (model prog w) A (getAttr (.ref x) name expr) Q E s:=by
 obtain⟨a,J,hl⟩:=I.look;exact W.get_value X J (W.plainGet_of hg).1 (W.findObj_own hh ha rfl (by rw[hl,hv])) hv' h
def FE(X:K.In s.heap)(I:z8 s.heap x dx C mA)(hg:W.plainGet K C name=true)
  (hf:W.findIn K (.ref C) name=some (some (.ref f))) (ht:W.isFn K (.ref f)=true) (hv:mA name=none) (h:Q (.ref f,[.ref x]) s) :
  wpAny (model prog w) A (getMethod (.ref x) name pl) Q E s:=by
 obtain⟨a,J,hl⟩:=I.look;exact W.method_fn X J (W.plainGet_of hg).1 (W.plainGet_of hg).2 hf (beq_iff_eq.mp ht) (by show (W.lookIn name a).map (·.isSome)=some false;rw[hl,hv];rfl) h
def LL(X:K.In s.heap)(I:z8 s.heap x dx C mA)
  (hs:W.findIn K (.ref C) "__setattr__" = some (some (.builtin "object.__setattr__"))) (hp:W.plainOver K C=true) (ht:W.takerIn K C name=some none) (hh:W.hasDictIn K C=true)
  (hw:Within mA ns) (hsz:ns.length<=sizeLine)
  (h:∀h',z8 h' x dx C (λy=>if y=name then some v else mA y)->Heap.SameBut dx s.heap h'->Q () { s with heap:=h',toks:=s.toks+2 }) :
  wpAny (model prog w) A (setAttr (.ref x) name v) Q E s:=by
 obtain⟨o,J,hl⟩:=I.look;refine W.set_plain X J hs (W.osa_open (s:={ s with toks:=s.toks+1 }) (r:=none) X J hp ht λb=>?_);obtain⟨p,i,d⟩:=W.any_some hh;refine y0 (X2 (y0 (y0 (wpAny_loadPart I.obj (y0 (W.Looks.here (s:={ s with toks:=s.toks+1 }) (W.looks_clsIn X i) ?_))))));rw[d];refine X2 (a:=some dx) (y0 (X2 (y0 ?_)));refine wpAny_nsSet1 (s:={ s with toks:=s.toks+1 }) I.ns λh' hn2 c=>?_;obtain⟨q,l,n,e,f,g⟩:=hn2.count (Within.cons name v hw);refine y0 (wpAny_lookBehind e (f▸pastItsLine_dict (ac2 g (by rw[P3];lia))) ?_);exact X2 (h _ ⟨(c.2 _ (aa4 I.ne)).trans I.obj,hn2,I.ne⟩ c)
def Ii(X:K.In s.heap)(hm:W.makesIn K C=true)
  (hi:W.findIn K (.ref C) "__init__" = some (some (.ref f))) (hf:W.typeIn K (.ref f)=some (.type "function"))
  (h:codeAny (model prog w) (A.under (.builtin "type.__call__" ⟨.ref C::vs,kw⟩)) (.call (.ref f) ⟨.ref (s.heap.objs.size+1)::vs,kw⟩) (W.InitBack (s.heap.objs.size+1) R)
   { s with heap:=(s.heap.push W.emptyDict).push (W.instObj C s.heap.objs.size) }) :
  codeAny (model prog w) A (.call (.ref C) ⟨vs,kw⟩) R s:=by
 obtain⟨b,g,d,t,c⟩:=s;exact W.make_core (W.makes_of X hm) (W.looks_findIn X hi) (λa=>W.bind_fn X a hf) (.inl rfl) h
def Ec(X:K.In s.heap)(hm:W.makesIn K C=true)
  (hi:W.findIn K (.ref C) "__init__" = some (some (.builtin "object.__init__")))
  (hb:∀self,W.Looks (model prog w) s.heap (bindSpecial (.builtin "object.__init__") self) (.builtin "object.__init__",[self]))
  (h:codeAny (model prog w) (A.under (.builtin "type.__call__" ⟨[.ref C],[]⟩)) (.call (.builtin "object.__init__") ⟨[.ref (s.heap.objs.size+1)],[]⟩) (W.InitBack (s.heap.objs.size+1) R)
   { s with heap:=(s.heap.push W.emptyDict).push (W.instObj C s.heap.objs.size) }) :
  codeAny (model prog w) A (.call (.ref C) ⟨[],[]⟩) R s:=by
 obtain⟨a,g,d,t,b⟩:=s;exact W.make_core (W.makes_of X hm) (W.looks_findIn X hi) hb (.inr ⟨rfl,rfl⟩) h
end
noncomputable def dQ(f:Str)(v:V):List (Str×V)->List (Str×V)
 | []=>[(f,v)]
 | (g,x)::r=>if g=f then (g,v)::r else (g,x)::dQ f v r
theorem rm(f g:Str)(v:V):∀fs:List (Str×V),(dQ f v fs).lookup g=if g=f then some v else fs.lookup g
 | []=>by
  show List.lookup g [(f,v)]=_;by_cases h:g=f
  .simp only[List.lookup,beq_iff_eq.mpr h,w4 h]
  .simp only[List.lookup,beq_eq_false_iff_ne.mpr h,C5 h]
 | (k,x)::r=>by
  rw[show dQ f v ((k,x)::r)=(if k=f then (k,v)::r else (k,x)::dQ f v r) from rfl];by_cases a:k=f
  .rw[w4 a];by_cases h:g=k
   .simp only[List.lookup,beq_iff_eq.mpr h,w4 (h.trans a)]
   .simp only[List.lookup,beq_eq_false_iff_ne.mpr h,C5 (λe:g=f=>h (e.trans a.symm))]
  .rw[C5 a];by_cases h:g=k
   .simp only[List.lookup,beq_iff_eq.mpr h,C5 (λe:g=f=>a (h.symm.trans e))]
   .simp only[List.lookup,(beq_eq_false_iff_ne.mpr h)];exact (rm f g v r)
theorem qC(f:Str)(v:V):∀fs:List (Str×V),f∈(dQ f v fs).map (·.1)/\∀g,g∈fs.map (·.1)->g∈(dQ f v fs).map (·.1)
 | []=>⟨by simp[dQ],λg h=>by simp at h⟩
 | (k,x)::r=>by
  obtain⟨i1,i2⟩:=qC f v r;rw[show dQ f v ((k,x)::r)=(if k=f then (k,v)::r else (k,x)::dQ f v r) from rfl];by_cases a:k=f
  .rw[w4 a];subst a;exact⟨by simp,λg h=>by simpa using h⟩
  .rw[C5 a];refine⟨ab5▸Q1 _ i1,λg h=>?_⟩
   .rw[ab5] at h ⊢;rcases Z5.mp h with e|e
    .exact Z5.mpr (.inl e)
    .exact Q1 _ (i2 g e)
theorem qZ(f:Str)(v:V):∀fs:List (Str×V),(dQ f v fs).length<=fs.length+1
 | []=>by simp[dQ]
 | (k,x)::r=>by
  have ih:=qZ f v r;rw[show dQ f v ((k,x)::r)=(if k=f then (k,v)::r else (k,x)::dQ f v r) from rfl];by_cases a:k=f
  .rw[w4 a,P3,P3];lia
  .rw[C5 a,P3,P3];lia
def kC.some_of(r:kC (some v) o):∃u,o=some u/\RelV v u:=by
 cases o with
 |none=>exact(show False from r).elim
 |some u=>exact⟨u,rfl,r⟩
def kC.none_of(r:kC none o):o=none:=by
 cases o with
 |none=>rfl
 |some u=>exact(show False from r).elim
def D9(r:RelV v u):W.handedIn u=true:=by
 cases v with
 |dj=>cases (show u=Value.none from r);rfl
 |bl b=>cases (show u=Value.bool b from r);rfl
 |int i=>obtain⟨t,e⟩:=(show ∃t,u=Value.int i t from r);cases e;rfl
 |str x=>obtain⟨t,e⟩:=(show ∃t,u=Value.str x t from r);cases e;rfl
 |byt b=>obtain⟨t,e⟩:=(show ∃t,u=Value.bytes b t from r);cases e;rfl
 |flt b=>obtain⟨t,e⟩:=(show ∃t,u=Value.float b t from r);cases e;rfl
 |ref a=>cases (show u=Value.ref a from r);rfl
 |ty n=>cases (show u=Value.type n from r);rfl
section
variable {P:Program}{a:Addr}{fs fs':List (Str×V)}
def wA(ba:lR P w H h)(e:H a=s0 C dx fs):∃mA,z8 h a dx C mA/\(∀f,kC (fs.lookup f) (mA f))/\Within mA (fs.map (·.1))/\fs.length<=1000/\H dx=some (.own a):=by
 obtain⟨d,z,ne,b,mA,n,r,q⟩:=(show dz P w H h a (.ins C dx fs) from ba a _ e)
 exact⟨mA,⟨b,n,ne⟩,r,q,z,d⟩
end
structure pH(K:W.Frag)(C:Addr):Prop where
 pg:W.plainGet K C Str.empty=true
 hd:W.hasDictIn K C=true
 po:W.plainOver K C=true
 sa:W.findIn K (.ref C) "__setattr__" = some (some (.builtin "object.__setattr__"))
def pH.get{K:W.Frag}(c:pH K C)(f:Str):W.plainGet K C f=true:=c.pg
def b8(K:W.Frag)(C:Addr)(f:Str):Prop:=W.findIn K (.ref C) f=some none
def b8.WS{K:W.Frag}(n:b8 K C f):W.takerIn K C f=some none:=by unfold W.takerIn;rw[show W.findIn K (.ref C) f=some none from n];rfl
structure Meth(K:W.Frag)(C:Addr)(m:Str)(f:Addr):Prop where
 at_:W.findIn K (.ref C) m=some (some (.ref f))
 fn:W.isFn K (.ref f)=true
 kp:W.keepIn K (.ref f)=true
section
variable {a:Addr}{fs:List (Str×V)}{f:Str}{v:V}{E:Value->Shared->Prop}
def sR(I:Inv X am Z H s)(e:H a=s0 C dx fs)(c:pH X.K C)(n:b8 X.K C f)(l:fs.lookup f=some v)
  (h:∀u s',Inv X am Z H s'->RelV v u->Q u s'):wpAny (model X.prog X.w) A (getAttr (.ref a) f b) Q E s:=by
 obtain⟨g,O,r,_,_,_⟩:=wA I.ba e;obtain⟨u,i,d⟩:=kC.some_of (v:=v) (o:=g f) (l▸r f);exact get_map I.uG O (c.get f) c.hd n i (D9 d) (h u _ (I.tok _) d)
def mh(I:Inv X am Z H s)(e:H a=s0 C dx fs)(c:pH X.K C)(k:Meth X.K C m g)(l:fs.lookup m=none)
  (h:Q (.ref g,[.ref a]) s):wpAny (model X.prog X.w) A (getMethod (.ref a) m pl) Q E s:=by
 obtain⟨b,O,r,_,_,_⟩:=wA I.ba e;exact FE I.uG O (c.get m) k.at_ k.fn (kC.none_of (l▸r m)) h
def tS(I:Inv X am Z H s)(e:H a=s0 C dx fs)(c:pH X.K C)(n:b8 X.K C f)(hl:fs.length<1000)(ry:RelV y u)
  (h:∀s',Inv X am Z (ag H a (.ins C dx (dQ f y fs))) s'->Q () s'):wpAny (model X.prog X.w) A (setAttr (.ref a) f u) Q E s:=by
 obtain⟨i,O,r,j,_,l⟩:=wA I.ba e;have p:(fs.map (·.1)).length<=sizeLine:=by rw[d5,ad0];lia
 refine LL I.uG O c.sa c.po n.WS c.hd j p λt d v=>h _ ?_;have B:∃o,t.get? dx=some o:=let ⟨o,_,_,e',_⟩:=d.ns;⟨o,e'⟩;refine I.write (x:=a) (e:=dx) (e▸True.intro) (.inr l) (λb q D z=>(v.2 b D).trans z) B ?_;refine⟨by rw[aj O.ne];exact l,by have:=qZ f y fs;lia,O.ne,d.obj,_,d.ns,λg=>?_,λg F=>?_⟩
 .show kC ((dQ f y fs).lookup g) (if g=f then some u else i g);rw[rm];by_cases q:g=f
  .rw[w4 q,w4 q];exact ry
  .rw[C5 q,C5 q];exact r g
 .by_cases q:g=f
  .exact q▸(qC f y fs).1
  .refine(qC f y fs).2 g (j g λz=>F ?_);show (if g=f then some u else i g)=none;rw[C5 q];exact z
def Inv.made(I:Inv X am Z H s):Inv X am Z (ag (ag H s.heap.objs.size (.own (s.heap.objs.size+1))) (s.heap.objs.size+1) (.ins C s.heap.objs.size []))
  { s with heap:=(s.heap.push W.emptyDict).push (W.instObj C s.heap.objs.size) }:=by
 have c:(s.heap.push W.emptyDict).get? s.heap.objs.size=some W.emptyDict:=aa5 s.heap rfl;have d:((s.heap.push W.emptyDict).push (W.instObj C s.heap.objs.size)).get? (s.heap.objs.size+1)=some (W.instObj C s.heap.objs.size):=by have:=aa5 (s.heap.push W.emptyDict) (o:=W.instObj C s.heap.objs.size) rfl;rwa [ai8] at this
 refine (I.laid (a:=s.heap.objs.size) (o:=.own (s.heap.objs.size+1)) (h':=s.heap.push W.emptyDict) (t':=s.toks) (λb u q=>x0 _ q) (N0 _) ⟨_,c⟩).laid (a:=s.heap.objs.size+1) (o:=.ins C s.heap.objs.size []) (t':=s.toks) (λb u q=>x0 _ q) (ap0 (ai8 _ _)) ?_;have ne:s.heap.objs.size≠s.heap.objs.size+1:=Z6 (ak1 _);refine⟨by rw[aj ne,aa],Z9 _,ne,d,λ_=>none,(Heap.Ns1.of_empty ⟨W.emptyDict,#[],_,c,rfl,(λe g=>absurd g (by simp)),λ_=>rfl⟩).at λo q=>x0 _ q,λ_=>True.intro,λy i=>absurd rfl i⟩
def Lx(hb:attributeBase e f env (eval e env)=eval e env)
  (h:wpAny (model prog w) A (eval e env) (λo s₁=>wpAny (model prog w) A (getAttr o f true) Q E s₁) E s):wpAny (model prog w) A (eval (.Attribute e f pos) env) Q E s :=
 Attribute_any_ h (by rw[arm_eval_Attribute,hb])
end
inductive isF(K:W.Frag)(f:Str):V->Hp->VK->Prop|mk{a C dx fs v:_}{H Q:_}(_:H a=s0 C dx fs)(_:pH K C)(_:b8 K C f)(_:fs.lookup f=some v)(_:Q v H):isF K f (.ref a) H Q
def isF_i{K:W.Frag}{f:Str}{x:V}:isF K f x H Q↔∃a C dx fs v,x = .ref a/\H a=s0 C dx fs/\pH K C/\b8 K C f/\fs.lookup f=some v/\Q v H:=⟨λh=>by obtain@⟨a,C,dx,fs,v,_,_,h0,h1,h2,h3,h4⟩:=h;exact⟨a,C,dx,fs,v,rfl,h0,h1,h2,h3,h4⟩,λh=>by obtain⟨a,C,dx,fs,v,rfl,h0,h1,h2,h3,h4⟩:=h;exact⟨h0,h1,h2,h3,h4⟩⟩
def U6(K:W.Frag)(ta:TE)(f:Str):TE:=λZ H Q=>ta Z H λx a=>isF K f x a Q
def YZ(K:W.Frag)(ta tv:TE)(f:Str):TS:=λD Z H=>tv Z H λy d=>ta Z d λx b=>∃a C c fs,x = .ref a/\b a=s0 C c fs/\pH K C/\b8 K C f/\fs.length<1000 /\
 D.nx Z (ag b a (.ins C c (dQ f y fs)))
def XX(X:Cx)(op:Operator)(rd:V->V->Hp->VK->Prop):Prop :=
 ∀a s Z H x y u v Q,Inv X a Z H s->RelV x u->RelV y v->rd x y H Q->wpAny (model X.prog X.w) X.A (inplaceOp op u v) (EP X a Z Q) X.xe s
def Li(K:W.Frag)(ta tv:TE)(rd:V->V->Hp->VK->Prop)(f:Str):TS:=λD Z H=>ta Z H λx d=>∃a C g fs v,x = .ref a/\d a=s0 C g fs/\pH K C/\b8 K C f/\fs.lookup f=some v /\
 tv Z d λy h=>rd v y h λz e=>∃c b,e a=s0 C c b/\b.length<1000/\D.nx Z (ag e a (.ins C c (dQ f z b)))
section
variable {o e:Expr}{f:Str}{tpos:Pos}{ta tv:TE}
def aM(he:PE X e ta)(hb:attributeBase e f X.env (eval e X.env)=eval e X.env):PE X (.Attribute e f pos) (U6 X.K ta f):=by intro b s Z H Q I h;refine Lx hb (dS (he b s Z H _ I h) λu w  d=>?_);obtain⟨x,g,i,j,w0⟩:=d;obtain⟨a,C,y,fs,v,o,p,c,n,l,q⟩:=isF_i.mp w0;subst o;obtain rfl:u=Value.ref a:=j;exact sR i p c n l λz A r t=>⟨v,g,r,t,q⟩
def b6(ha:PE X o ta)(hv:PE X value tv)(hs:swapsWith value (some (.Attribute o f pos')) pos.line X.env=pure false):PS X (.Assign [.Attribute o f pos'] value pos) (YZ X.K ta tv f):=by intro b s Z H D I h;refine plainObj_wpAny_Assign_Attribute (dS (hv b s Z H _ I h) λu d ⟨y,e,g,i,q⟩=>dS (ha b d Z e _ g q) λj B p=>?_) hs;obtain⟨x,E,r,t,a,C,F,fs,v,w,c,n,l,z⟩:=p;subst v;obtain rfl:j=Value.ref a:=t;exact tS r w c n l i λG A=>⟨Z,_,A,z⟩
def Ds(ha:PE X o ta)(hv:PE X value tv)(hop:XX X op rd):PS X (.AugAssign (.Attribute o f tpos) op value pos) (Li X.K ta tv rd f):=by intro b s Z H D I h;refine wpAny_AugAssign_AttributeAny (dS (ha b s Z H _ I h) λg U  d=>?_);obtain⟨x,i,j,p,a,C,W,fs,v,r,t,c,n,l,q⟩:=d;subst r;obtain rfl:g=Value.ref a:=p;refine sR j t c n l λu w A B=>dS (hv b w Z i _ A q) λE F ⟨y,G,J,L,M⟩=>dS (hop b F Z G v y u E _ J B L M) λY s4  d=>?_;obtain⟨z,H3,N,O,P,Q,e,R,S⟩:=d;exact tS N e c n R O λs5 T=>⟨Z,_,T,S⟩
inductive Y6(x:V)(y:V)(H:Hp)(Q:VK):Prop|mk(i j)(_:x = .int i)(_:y = .int j)(_:Q (.int (i+j)) H)
def Uu:XX X .Add Y6:=by
 rintro a s Z H x y u v Q I c d ⟨i,j,rfl,rfl,q⟩;obtain⟨t,rfl⟩:=(show ∃t,u=Value.int i t from c)
 obtain⟨b,rfl⟩:=(show ∃b,v=Value.int j b from d)
 exact PyProof.Rows.iadd_int ⟨.int (i+j),H,I.tok _,⟨_,rfl⟩,q⟩
end
structure gI(k:Nat)(A:Around):Prop where
 hd:A.handled=none
 dp:A.depth+3*k+5<recursionLimit
 un:A.units+16*k+200<cLine
def gI.mono(r:gI k A)(h:j<=k):gI j A:=⟨r.hd,by have:=r.dp;lia,by have:=r.un;lia⟩
def gI.deeper(r:gI (k+1) A)(env:Env):gI k (A.deeper env) :=
 ⟨r.hd,by have:=r.dp;show A.depth+1+3*k+5<_;lia,by have:=r.un;show A.units+3+16*k+200<_;lia⟩
def AU    :(A.under (.builtin "type.__call__" ⟨.ref C::us,kw⟩)).depth=A.depth+1:=by first | rfl | simp[Around.under,Code.weight,Code.isCreation,Code.isGuard,Code.isCaller,Code.frames,Code.isFrame,guardIds]
def zM    :(A.under (.builtin "type.__call__" ⟨.ref C::us,kw⟩)).units=A.units+1:=by first | rfl | simp[Around.under,Code.cUnits,Code.frames,Code.isFrame]
def gI.make   (r:gI (k+1) A) (C:Addr) (us:c8) (kw:List (Str×Value)):gI k (A.under (.builtin "type.__call__" ⟨.ref C::us,kw⟩)) :=
 ⟨r.hd,by have:=r.dp;rw[AU];lia,by have:=r.un;rw[zM];lia⟩
def gI.depth(r:gI k A):A.depth<recursionLimit:=by have:=r.dp;lia
def gI.units(r:gI k A):A.units+64<cLine:=by have:=r.un;lia
def qw:TA:=λ_ H Q=>Q [] H
def vm(ta:TE)(tr:TA):TA:=λZ H Q=>ta Z H λx a=>tr Z a λb c=>Q (x::b) c
section
variable {e:Expr}{t:TA}
def bu:PA X [] qw:=λ_ _ _ _ H Q I h=>am0 ⟨[],H,I,.nil,h⟩
def ao(ha:PE X e te)(hr:PA X es t)(hs:autoParam (starEach (e::es) X.env=(false,eval e X.env)::starEach es X.env) cw._auto_1):PA X (e::es) (vm te t):=by intro b a s Z H Q I h;rw[hs];show wpAny _ _ (spliced ((false,eval e X.env)::backTo b (starEach es X.env))) _ _ s;refine ai4 (dS (ha a s Z H _ I h) λu c  d=>?_);obtain⟨x,f,g,i,j⟩:=d;exact dS (hr b a c Z f _ g j) λus r ⟨l,n,o,p,q⟩=>⟨x::l,n,o,.cons i p,q⟩
def Wy(t:TA):TE:=λZ H Q=>t Z H λa b=>a.length<=sizeLine/\∀p,b p=none->Q (.ref p) (ag b p (.tup a))
def WM(t:TA):TE:=λZ H Q=>t Z H λa b=>a.length<=sizeLine/\∀p,b p=none->Q (.ref p) (ag b p (.lst a))
def bG{x1}(h:PA X es t):PE X (.Tuple es x1 pos) (Wy t):=by intro a s Z H Q I g;refine wpAny_Tuple_spliced (dS (h pos a s Z H _ I g) λus c ⟨i,d,f,r,z,q⟩=>⟨r.length▸z,?_⟩);refine⟨.ref c.heap.objs.size,ag d c.heap.objs.size (.tup i),f.laid (t':=c.toks) (λb u e=>x0 _ e) (N0 _) ?_,rfl,q _ (f.ba.fresh (N0 _))⟩;exact⟨z,us,r,⟨_,aa5 _ rfl,rfl,_,rfl⟩⟩
def bM(h:PA X es t):PE X (.List es pos) (WM t):=by intro a s Z H Q I g;refine wpAny_List_spliced (dS (h pos a s Z H _ I g) λus c ⟨i,d,f,r,z,q⟩=>⟨r.length▸z,?_⟩);refine⟨.ref c.heap.objs.size,ag d c.heap.objs.size (.lst i),f.laid (t':=c.toks) (λb u e=>x0 _ e) (N0 _) ?_,rfl,q _ (f.ba.fresh (N0 _))⟩;exact⟨z,us,0,r,aa5 _ rfl⟩
end
abbrev Sp:=q7->Hp->VK->XK->Prop
end L2
variable {wi:L2.TI}{sp:L2.Sp}
namespace L2
open PySem PySem.Spec PyProof.Rows
abbrev vR:=List Env->Hp->Shared->XK->Value->Shared->Prop
structure AW(P:Program)(w:World)(K:W.Frag)(mg:g6)(ap:Heap)(A:Around)(outer:List Env)(s:Shared)(H:Hp):Prop where
 frames:A.frames=some outer
 mod:Mod K mg ap
 bs:∀b o,ap.get? b=some o->s.heap.get? b=some o/\H b=none
 MT:ap.objs.size<=s.heap.objs.size
 qP:s.heap.FunFrames ap outer
 Rc:∀b∈frs outer,H b=none
 ba:lR P w H s.heap
 ax:AllBare s.gens
end L2
variable {CX:L2.vR}
namespace L2
open PySem PySem.Spec PyProof.Rows
def CE(outer:List Env)(P:Program)(w:World)(H:Hp)(s:Shared)(Q:VK)(u:Value)(s':Shared):Prop :=
 ∃v a,s'.os=s.os/\AllBare s'.gens/\Un (frs outer) [] H a s.heap s'.heap/\lR P w a s'.heap/\RelV v u/\Q v a
def CR(CX:vR)(outer:List Env)(P:Program)(w:World)(H:Hp)(s:Shared)(Q:VK)(E:XK)(r:Result)(s':Shared):Prop :=
 match r with
 |.ok (.ret u)=>CE outer P w H s Q u s'
 |.ok _=>False
 |.error e=>CX outer H s E e s'
structure bE(P:Program)(w:World)(K:W.Frag)(mg:g6)(ap:Heap)(CX:vR)(k:Nat)(f:Addr)(fd:FuncData)(ps:a9)(sp:Sp):Prop where
 len:∀vs H Q E,sp vs H Q E->vs.length=ps.length
 run:∀(A:Around) (outer:List Env) (s:Shared) (H:Hp) (args:Args) (us:c8) (vs:q7) (Q:VK) (E:XK),gI k A->AW P w K mg ap A outer s H->BindsTo s fd args (ps.zip us)->Vals vs us->sp vs H Q E ->
  codeAny (model P w) A (.call (.ref f) args) (CR CX outer P w H s Q E) s
def AW.make{K:W.Frag}(e:AW P w K mg ap A outer s H)(C:Addr)(us:c8)(kw:List (Str×Value)) :
  AW P w K mg ap (A.under (.builtin "type.__call__" ⟨.ref C::us,kw⟩)) outer s H:=⟨by first | exact e.frames | (simpa [Around.under,Code.envs,Code.isFrame,pushEnvs] using e.frames),e.mod,e.bs,e.MT,e.qP,e.Rc,e.ba,e.ax⟩
def Inv.Uy(I:Inv X am Z H s):AW X.prog X.w X.K X.mg X.ap X.A X.stack s H :=
 ⟨I.ok.frames,I.ok.mod,I.bs,ac2 I.ok.MT I.sz,I.stack,I.rS,I.ba,I.ax⟩
def Inv.after(I:Inv X am Z H s)(h:CE X.stack X.prog X.w H s Q u s'):EP X am Z Q u s':=by obtain⟨v,c,os,ax,un,ba,r,q⟩:=h;obtain⟨e,g,d,t,a⟩:=s';obtain rfl:a=s.os:=os;exact⟨v,c,I.call (h':=e) (g':=g) (d':=d) (t':=t) (ch:=[]) un ba ax (λb z=>absurd z (by simp)),r,q⟩
def IF(sp:Sp)(dvs:q7)(E:XK)(t:TA):TE:=λZ H Q=>t Z H λa b=>sp (a++dvs) b Q E
inductive YX(C:Addr)(m:Str):V->Hp->Prop->Prop|mk{a dx fs:_}{H P:_}(_:H a=s0 C dx fs)(_:fs.lookup m=none)(_:P):YX C m (.ref a) H P
def YX_i{m:Str}{x:V}{P:Prop}:YX C m x H P↔∃a dx fs,x = .ref a/\H a=s0 C dx fs/\fs.lookup m=none/\P:=⟨λh=>by obtain@⟨a,dx,fs,_,_,h0,h1,h2⟩:=h;exact⟨a,dx,fs,rfl,h0,h1,h2⟩,λh=>by obtain⟨a,dx,fs,rfl,h0,h1,h2⟩:=h;exact⟨h0,h1,h2⟩⟩
def IA(C:Addr)(m:Str)(sp:Sp)(dvs:q7)(E:XK)(ta:TE)(t:TA):TE:=λZ H Q=>ta Z H λx a=>YX C m x a (t Z a λb c=>sp (x::(b++dvs)) c Q E)
def Nr(C:Addr)(sp:Sp)(dvs:q7)(E:XK)(t:TA):TE:=λZ H Q=>t Z H λc b=>∀x a,b x=none->b a=none->a≠x ->
 sp (.ref x::(c++dvs)) (ag (ag b a (.own x)) x (.ins C a [])) (λv d=>v = .dj/\Q (.ref x) d) E
def Binds(K:W.Frag)(fd:FuncData)(ps:a9)(ds:c8):Prop :=
 ∀s us,K.In s.heap->(us++ds).length=ps.length->BindsTo s fd ⟨us,[]⟩ (ps.zip (us++ds))
def Binds.all{K:W.Frag}(h:∀us:c8,us.length=ps.length->bindArgs fd ⟨us,[]⟩=pure (ps.zip us)):Binds K fd ps []:=λs us _ hl=>by rw[ad2] at hl ⊢;exact .of_eq (h us hl)
def Passes(CX:vR)(X:Cx)(E:XK):Prop:=∀a Z H s e b,Inv X a Z H s->CX X.stack H s E e b->X.xe e b
section
variable {k:Nat}{f:Addr}{dvs:q7}{ds:c8}{E:XK}{x m:Str}{p:Pos}{e o:Expr}{ta:TE}{t:TA}
def wO(F:bE X.prog X.w X.K X.mg X.ap CX k f fd ps sp)(hr:gI k X.A)(hb:Binds X.K fd ps ds)(hd:Vals dvs ds)(hx:Passes CX X E)
  (I:Inv X am Z H s) (r:Vals vs us) (h:sp (vs++dvs) H Q E):wpAny (model X.prog X.w) X.A (call (.ref f) us) (EP X am Z Q) X.xe s:=by
 have b:=r.append hd;have hl:(us++ds).length=ps.length:=b.length▸F.len _ _ _ _ h
 refine wpAny_call (codeAny_mono (F.run X.A X.stack s H ⟨us,[]⟩ (us++ds) (vs++dvs) Q E hr I.Uy (hb s us I.uG hl) b h) λr c a=>?_);cases r with
 |error e=>exact hx am Z H s e c I a
 |ok fl =>
  cases fl with
  |ret u=>exact I.after a
  |next=>exact False.elim a
  |brk=>exact False.elim a
  |cont=>exact False.elim a
def aS(F:bE X.prog X.w X.K X.mg X.ap CX k f fd ps sp)(hr:gI k X.A)(hg:Gl X x)(hm:X.mg x=some (.ref f))(hk:W.keepIn X.K (.ref f)=true)(hb:Binds X.K fd ps ds)(hd:Vals dvs ds)(hx:Passes CX X E)
  (ha:PA X (e::es) t) (hdb:autoParam ((x == ("__debug__" : Str))=false) cw._auto_1) (he:autoParam (starEach (e::es) X.env=(false,eval e X.env)::starEach es X.env) cw._auto_1) (hpl:autoParam ((backTo pos (starEach es X.env)).any (·.1)=false) cw._auto_1) :
  PE X (.Call (.Name x p) (e::es) [] pos) (IF sp dvs E t):=by
 intro a s Z H Q I h;refine ai7 (n6 I hg hm ?_ hdb);refine ao5 (h₀:=X.ap) I.ok.mod.uF hk (dS (ha pos a s Z H _ I h) λus c ⟨d,g,b,r,q⟩=>⟨b.uG,?_⟩) he hpl;exact wO F hr hb hd hx b r q
def Hl(F:bE X.prog X.w X.K X.mg X.ap CX k f fd ps sp)(hr:gI k X.A)(hg:Gl X x)(hm:X.mg x=some (.ref f))(hk:W.keepIn X.K (.ref f)=true)(hb:Binds X.K fd ps ds)(hd:Vals dvs ds)(hx:Passes CX X E)
  (hdb:autoParam ((x == ("__debug__" : Str))=false) cw._auto_1):PE X (.Call (.Name x p) [] [] pos) (IF sp dvs E qw):=by
 intro a s Z H Q I h;refine ai7 (n6 I hg hm ?_ hdb);exact an8 I.uG hk (wO (us:=[]) F hr hb hd hx I .nil h)
def bw{pl:Sem Bool}(he:PE X o ta)(c:pH X.K C)(hm:Meth X.K C m f)(F:bE X.prog X.w X.K X.mg X.ap CX k f fd ps sp)(hr:gI k X.A)(hb:Binds X.K fd ps ds)(hd:Vals dvs ds)(hx:Passes CX X E)(ha:PA X (e::es) t)
  (hst:autoParam (starEach (e::es) X.env=(false,eval e X.env)::starEach es X.env) cw._auto_1) (hpl:autoParam ((backTo pos (starEach es X.env)).any (·.1)=false) cw._auto_1)
  (ht:autoParam (eval (.Call (.Attribute o m apos) (e::es) [] pos) X.env=(do
   let ov <- eval o X.env
   standAt apos.atName
   let (f,first) <- holding [ov] (getMethod ov m pl)
   callWith pos f first (backTo pos (starEach (e::es) X.env)) (backToKw pos (keywordEach [] X.env)))) cw._auto_1) :
  PE X (.Call (.Attribute o m apos) (e::es) [] pos) (IA C m sp dvs E ta t):=by
 intro b s Z H Q I h;refine al9 (pl:=pl) (dS (he b s Z H _ I h) λu i j=>?_) ht;obtain⟨x,n,d,p,w0⟩:=j;obtain⟨a,B,fs,v,y,l,q⟩:=YX_i.mp w0;subst v;obtain rfl:u=Value.ref a:=p;refine mh d y c hm l ?_;refine ao5 (first:=[.ref a]) (h₀:=X.ap) I.ok.mod.uF hm.kp (dS (ha pos b i Z n _ d q) λus D ⟨vs,G,g,r,z⟩=>⟨g.uG,?_⟩) hst hpl;exact wO (us:=.ref a::us) (vs:=.ref a::vs) F hr hb hd hx g (.cons rfl r) z
def bR{pl:Sem Bool}(he:PE X o ta)(c:pH X.K C)(hm:Meth X.K C m f)(F:bE X.prog X.w X.K X.mg X.ap CX k f fd ps sp)(hr:gI k X.A)(hb:Binds X.K fd ps ds)(hd:Vals dvs ds)(hx:Passes CX X E)
  (ht:autoParam (eval (.Call (.Attribute o m apos) [] [] pos) X.env=(do
   let ov <- eval o X.env
   standAt apos.atName
   let (f,first) <- holding [ov] (getMethod ov m pl)
   callWith pos f first (backTo pos (starEach [] X.env)) (backToKw pos (keywordEach [] X.env)))) cw._auto_1) :
  PE X (.Call (.Attribute o m apos) [] [] pos) (IA C m sp dvs E ta qw):=by
 intro b s Z H Q I h;refine al9 (pl:=pl) (dS (he b s Z H _ I h) λu n e=>?_) ht;obtain⟨x,p,d,g,w0⟩:=e;obtain⟨a,r,fs,i,j,l,q⟩:=YX_i.mp w0;subst i;obtain rfl:u=Value.ref a:=g;refine mh d j c hm l ?_;exact an8 (first:=[.ref a]) d.uG hm.kp (wO (us:=[.ref a]) (vs:=[.ref a]) F hr hb hd hx d (.cons rfl .nil) q)
structure Mk(K:W.Frag)(C f:Addr):Prop where
 makes:W.makesIn K C=true
 init:W.findIn K (.ref C) "__init__" = some (some (.ref f))
 fn:W.isFn K (.ref f)=true
 kp:W.keepIn K (.ref C)=true
def G4(M:Mk X.K C f)(F:bE X.prog X.w X.K X.mg X.ap CX k f fd ps sp)(hr:gI (k+1) X.A)(hb:Binds X.K fd ps ds)(hd:Vals dvs ds)
  (hx:Passes CX X E) (I:Inv X am Z H s) (r:Vals vs us)
  (h:∀x dx,H x=none->H dx=none->dx≠x->sp (.ref x::(vs++dvs)) (ag (ag H dx (.own x)) x (.ins C dx [])) (λv H2=>v = .dj/\Q (.ref x) H2) E) :
  wpAny (model X.prog X.w) X.A (call (.ref C) us) (EP X am Z Q) X.xe s:=by
 have c:=h (s.heap.objs.size+1) s.heap.objs.size (I.ba.fresh (al7 _)) (I.ba.fresh (N0 _)) (Z6 (ak1 _));have b:=Inv.made (C:=C) I;have d:Vals (V.ref (s.heap.objs.size+1)::(vs++dvs)) (Value.ref (s.heap.objs.size+1)::(us++ds)):=.cons rfl (r.append hd);have hl:(Value.ref (s.heap.objs.size+1)::us++ds).length=ps.length:=by have e:=d.length;rw[F.len _ _ _ _ c] at e;exact e.symm
 refine wpAny_call (Ii (f:=f) I.uG M.makes M.init (beq_iff_eq.mp M.fn) (codeAny_mono (F.run _ X.stack _ _ ⟨Value.ref (s.heap.objs.size+1)::us,[]⟩ (Value.ref (s.heap.objs.size+1)::(us++ds)) _ _ E (hr.make C us [])
  (b.Uy.make C us []) (hb _ (Value.ref (s.heap.objs.size+1)::us) b.uG hl) d c) λr g a=>?_))
 cases r with
 |error e=>exact hx am Z _ _ e g b a
 |ok fl =>
  cases fl with
  |ret u =>
   obtain⟨v,i,j,l,ev,n⟩:=b.after a;subst ev;exact⟨l,⟨V.ref (s.heap.objs.size+1),i,j,rfl,n⟩⟩
  |next=>exact False.elim a
  |brk=>exact False.elim a
  |cont=>exact False.elim a
def fj(M:Mk X.K C f)(F:bE X.prog X.w X.K X.mg X.ap CX k f fd ps sp)(hr:gI (k+1) X.A)(hg:Gl X x)(hm:X.mg x=some (.ref C))(hb:Binds X.K fd ps ds)(hd:Vals dvs ds)(hx:Passes CX X E)
  (ha:PA X (e::es) t) (hdb:autoParam ((x == ("__debug__" : Str))=false) cw._auto_1) (he:autoParam (starEach (e::es) X.env=(false,eval e X.env)::starEach es X.env) cw._auto_1) (hpl:autoParam ((backTo pos (starEach es X.env)).any (·.1)=false) cw._auto_1) :
  PE X (.Call (.Name x p) (e::es) [] pos) (Nr C sp dvs E t):=by
 intro a s Z H Q I h;refine ai7 (n6 I hg hm ?_ hdb);refine ao5 (h₀:=X.ap) I.ok.mod.uF M.kp (dS (ha pos a s Z H _ I h) λus c ⟨d,g,b,r,q⟩=>⟨b.uG,?_⟩) he hpl;exact G4 M F hr hb hd hx b r q
end
structure aI(N P:a9)(sc:Scope):Prop where
 kind:autoParam (sc.kind = .function) cw._auto_1
 co:autoParam (sc.isCoroutine=false) cw._auto_1
 gen:autoParam (sc.isGenerator=false) cw._auto_1
 nd:autoParam N.Nodup L2.Y13._auto_1
 pre:autoParam (N.take P.length=P) cw._auto_1
 par:autoParam (∀x∈P,sc.names.lookup x=some .local\/sc.names.lookup x=some .cell) L2.Y13._auto_1
 TX:autoParam (∀y∈sc.names,y.2 ≠ .free) L2.Y13._auto_1
theorem v7{kindOf:Str->Option NameKind}:∀{binds:List (Str×Value)} {m:g6},(∀v,(x,v)∉binds)->bindL kindOf binds m x=m x
 | [],_,_=>rfl
 | (n,v)::r,m,h=>by
  unfold bindL;rw[v7 λw hw=>h w (Q1 _ hw)];split
  .have:x≠n:=by rintro rfl;exact h v ab7
   simp[this]
  .rfl
theorem vD{kindOf:Str->Option NameKind}:∀{binds:List (Str×Value)} {m:g6},(∀v,(x,v)∉binds)->bindC kindOf binds m x=m x
 | [],_,_=>rfl
 | (n,v)::r,m,h=>by
  unfold bindC;rw[vD λw hw=>h w (Q1 _ hw)];split
  .rfl
  .have:x≠n:=by rintro rfl;exact h v ab7
   simp[this]
theorem vX{kindOf:Str->Option NameKind}:∀{P:a9} {vs:c8} {i:Nat} {m:g6},P.Nodup->P[i]?=some x->vs[i]?=some v->kindOf x=some .local ->
  bindL kindOf (P.zip vs) m x=some v
 | [],_,_,_,_,h,_,_=>by simp at h
 |_::_,[],_,_,_,_,h,_=>by simp at h
 |p::P,w::vs,0,m,nd,h1,h2,hk=>by simp at h1 h2;subst h1;subst h2;show bindL kindOf ((p,w)::P.zip vs) m p=_;unfold bindL;rw[v7 λv hv=>(ah8.mp nd).1 (List.of_mem_zip hv).1,w4 hk];simp
 |p::P,w::vs,i+1,m,nd,h1,h2,hk=>by show bindL kindOf ((p,w)::P.zip vs) m x=_;unfold bindL;exact vX (i:=i) (ah8.mp nd).2 (by simpa using h1) (by simpa using h2) hk
theorem uS{kindOf:Str->Option NameKind}:∀{P:a9} {vs:c8} {i:Nat} {m:g6},P.Nodup->P[i]?=some x->vs[i]?=some v->kindOf x≠some .local ->
  bindC kindOf (P.zip vs) m x=some v
 | [],_,_,_,_,h,_,_=>by simp at h
 |_::_,[],_,_,_,_,h,_=>by simp at h
 |p::P,w::vs,0,m,nd,h1,h2,hk=>by simp at h1 h2;subst h1;subst h2;show bindC kindOf ((p,w)::P.zip vs) m p=_;unfold bindC;rw[vD λv hv=>(ah8.mp nd).1 (List.of_mem_zip hv).1,C5 hk];simp
 |p::P,w::vs,i+1,m,nd,h1,h2,hk=>by show bindC kindOf ((p,w)::P.zip vs) m x=_;unfold bindC;exact uS (i:=i) (ah8.mp nd).2 (by simpa using h1) (by simpa using h2) hk
noncomputable def start(N:a9)(vs:q7):St:=vs.map some++List.replicate (N.length-vs.length) none
noncomputable def kW(CX:vR)(P:Program)(w:World)(K:W.Frag)(mg:g6)(ap:Heap)(N:a9)(qual:Str)(scope:Scope)(f:Addr)(cd:Value)(A:Around)(outer:List Env)(s:Shared)(H:Hp)(E:XK):Cx where
 prog:=P
 w:=w
 K:=K
 mg:=mg
 ap:=ap
 A:=A.deeper (envOfC qual scope s.heap.objs.size f cd)
 N:=N
 s₀:=s
 H₀:=H
 env:=envOfC qual scope s.heap.objs.size f cd
 outer:=outer
 stack:=envOfC qual scope s.heap.objs.size f cd::outer
 ex:=[]
 aw:=true
 fn:=λ_=>true
 pn:=[]
 xe:=λe b=>wpAny (model P w) (A.deeper (envOfC qual scope s.heap.objs.size f cd)) (leaving (envOfC qual scope s.heap.objs.size f cd) e) (λ_ a=>CX outer H s E e a) (λc a=>CX outer H s E c a) b
def yf(h:sc.names.lookup x=some .cell):∃c,(cellsFrom n sc.names []).lookup x=some c:=by exact Option.isSome_iff_exists.mp (W.cellsFrom_some sc.names n [] (.inl h))
def Dp{K:W.Frag}
  (S:aI N ps scope) (hd:A.handled=none) (e0:AW P w K mg ap A outer s H) (hl:vs.length=ps.length) (r:Vals vs us)
  (x:InCallC s s.heap.objs.size (bindL (envOfC qual scope s.heap.objs.size f cd).kindOf (ps.zip us) λ_=>none) (cellsFrom (s.heap.objs.size+1) scope.names []) (bindC (envOfC qual scope s.heap.objs.size f cd).kindOf (ps.zip us) λ_=>none) s1) :
  Inv (kW CX P w K mg ap N qual scope f cd A outer s H E) [] (start N vs) H s1:=by
 have F:ps.length<=N.length:=by have:=ac7 List.length S.pre;rw[v6] at this;lia
 obtain⟨t,J,rfl,C⟩:=x.done;have g:∀b,b∉(kW CX P w K mg ap N qual scope f cd A outer s H E).ex:=λb z=>absurd (show b∈([]:c6) from z) (by simp);refine⟨⟨e0.mod,S.kind,rfl,rfl,N0 _,λy z c t d=>?_,λy j=>?_,λy c _ h=>?_,λ_=>hd,Around.frames_deeper e0.frames,.inr ⟨rfl,rfl⟩,λb z=>absurd z (g b),e0.bs,e0.MT,λb _ _=>g b,λb z=>absurd z (g b),e0.qP,e0.Rc⟩,
  rfl,e0.ax,Un.kept C,⟨_,x.toInCall.ns,λi y v t d L=>?_⟩,λy c h=>⟨_,x.cell y c h⟩,e0.ba.fresh (N0 _),λy c h=>?_,λp l=>absurd (show p∈([]:f7) from l) (by simp),e0.ba.kept C,?_⟩
 .exact name_of_addr x.apart (ag8 t) (ag8 d)
 .rcases j with j|j
  .exact yf j
  .exact absurd rfl (S.TX _ (ag8 j))
 .exact Nat.le_of_lt (x.above y c (ag8 h))
 .have B:i<vs.length:=by
   unfold start at d;by_cases B:i<vs.length
   .exact B
   .rw[U2 (by simpa using B)] at d;rw[List.getElem?_replicate] at d;split at d <;> cases d
  have G:vs[i]?=some v:=by
   unfold start at d;rw[aa2 (by simpa using B),v3] at d;cases e:vs[i]? with
   |none=>rw[e] at d;cases d
   |some a=>rw[e] at d;cases d;rfl
  obtain⟨u,D,I⟩:=r.get G;have l:ps[i]?=some y:=by rw[<- S.pre,af1 (by lia)];exact t
  have o:=S.pre▸S.nd.sublist (List.take_sublist _ _)
  refine⟨u,I,?_⟩;rcases S.par y (p0 l) with k|k
  .exact .inl ⟨k,vX o l D k⟩
  .obtain⟨c,e⟩:=yf (n:=s.heap.objs.size+1) k;refine .inr ⟨.inl k,c,e,?_⟩;have q:=x.cell y c e;rw[uS o l D (by show scope.names.lookup y≠_;rw[k];decide)] at q;exact q
 .exact e0.ba.fresh (Nat.le_of_lt (x.above y c (ag8 h)))
 .unfold start;show _=N.length;rw[i5,d5,af2];lia
def Qu{K:W.Frag}{dV kV doc pm cdv ct oc:Value}
     (lk:K.lookup f=some ⟨oc,od,.func (W.fnOf name qual params body scope dV kV doc pm an cdv ct),osl⟩) (hcd:W.codeIn K cdv qual=true) (S:aI N ps scope)
  (len:∀vs H Q E,sp vs H Q E->vs.length=ps.length)
  (hbody:∀(A:Around) (outer:List Env) (s:Shared) (H:Hp) (vs:q7) (Q:VK) (E:XK),gI k (A.deeper (envOfC qual scope s.heap.objs.size f cdv))->sp vs H Q E ->
   ∃t,AI (kW CX P w K mg ap N qual scope f cdv A outer s H E) body t/\t { nx:=λ_ H'=>Q .dj H',rt:=Q } (start N vs) H) :
  bE P w K mg ap CX (k+1) f (W.fnOf name qual params body scope dV kV doc pm an cdv ct) ps sp:=by
 refine⟨len,λA outer s H p us vs Q E hr d B r g=>?_⟩;have z:K.In s.heap:=d.mod.uF.keeps λb o e=>(d.bs b o e).1;have a:∀y∈ps.zip us,scope.names.lookup y.1=some .local\/(scope.names.lookup y.1=some .cell/\((cellsFrom (s.heap.objs.size+1) scope.names []).lookup y.1).isSome=true):=λ⟨n,v⟩ C=>by
  rcases S.par n (List.of_mem_zip C).1 with q|q
  .exact .inl q
  .exact .inr ⟨q,W.cellsFrom_some _ _ _ (.inl q)⟩
 refine codeAny_call_function hr.depth (z _ _ lk) rfl S.co S.gen rfl (W.codeRec_of z hcd) (B _ _ _ _ ?_);refine wpAny_newFunctionEnv_cells S.kind a λD F s1 x=>?_;subst F;refine⟨(d.mod.nolimit.keeps λb o e=>(d.bs b o e).1).keeps x.toInCall.keep,codeAny_func ?_⟩;obtain⟨t,G,L⟩:=hbody A outer s H vs Q E (hr.deeper _) g;have I:Inv (kW CX P w K mg ap N qual scope f cdv A outer s H E) [] (start N vs) H s1:=Dp S hr.hd d (len _ _ _ _ g) r x;refine ad3 (G [] s1 (start N vs) H _ I L) (λM s' c=>?_) λe s' c=>c;have h:∀{i:St} {H':Hp} {v:V} {u:Value},Inv (kW CX P w K mg ap N qual scope f cdv A outer s H E) [] i H' s'->RelV v u->Q v H'->CE outer P w H s Q u s' :=
  λ{i H' v u} J l q=>⟨v,H',J.os,J.ax,J.ap,J.ba,l,q⟩
 cases M with
 |ret u =>
  obtain⟨v,i,H',J,l,q⟩:=c;exact h J l q
 |next =>
  obtain⟨i,H',J,q⟩:=c;exact h (v:=V.dj) (u:=Value.none) J rfl q
 |brk =>
  obtain⟨_,_,_,q⟩:=c;exact False.elim q
 |cont =>
  obtain⟨_,_,_,q⟩:=c;exact False.elim q
section
variable {x:Str}{p:Pos}{e:Expr}{t:TA}{id T:String}{r:q7->Hp->VK->Prop}
def Wj(r:q7->Hp->VK->Prop)(t:TA):TE:=λZ H Q=>t Z H λa b=>r a b Q
def sY (hc:gS X (.builtin id) r) (hg:Gl X x) (hm:X.mg x=none) (hv:bootBuiltins x=some (.builtin id)) (ha:PA X (e::es) t) (hn:autoParam (x ≠ "__name__") cw._auto_1) (hdb:autoParam ((x == ("__debug__" : Str))=false) cw._auto_1)
  (he:autoParam (starEach (e::es) X.env=(false,eval e X.env)::starEach es X.env) cw._auto_1) (hpl:autoParam ((backTo pos (starEach es X.env)).any (·.1)=false) cw._auto_1):PE X (.Call (.Name x p) (e::es) [] pos) (Wj r t):=by
 intro a s Z H Q I h;refine ai7 (pF I hg hm hv ?_ hn hdb);exact PyProof.Rows.callWith_builtin1 (dS (ha pos a s Z H _ I h) λus b ⟨c,d,f,g,i⟩=>hc a b Z d c us Q f g i) he hpl
def nZ (hc:gS X (.type T) r) (hg:Gl X x) (hm:X.mg x=none) (hv:bootBuiltins x=some (.type T)) (ha:PA X (e::es) t) (hn:autoParam (x ≠ "__name__") cw._auto_1) (hdb:autoParam ((x == ("__debug__" : Str))=false) cw._auto_1)
  (he:autoParam (starEach (e::es) X.env=(false,eval e X.env)::starEach es X.env) cw._auto_1) (hpl:autoParam ((backTo pos (starEach es X.env)).any (·.1)=false) cw._auto_1):PE X (.Call (.Name x p) (e::es) [] pos) (Wj r t):=by
 intro a s Z H Q I h;refine ai7 (pF I hg hm hv ?_ hn hdb);exact ae0 (dS (ha pos a s Z H _ I h) λus b ⟨c,d,f,g,i⟩=>hc a b Z d c us Q f g i) he hpl
end
end L2
namespace HT
open PySem PyProof.Rows
noncomputable def lex(f:Int->Int->Bool):c9->c9->Bool
 | [],[]=>f 0 0
 | [],_::_=>f 0 1
 |_::_,[]=>f 1 0
 |x::xs,y::ys=>if x=y then lex f xs ys else f x y
abbrev lexLt:=lex λa b=>decide (a<b)
abbrev gY:=lex λa b=>decide (a>b)
abbrev lexLe:=lex λa b=>decide (a<=b)
def FT(f:Int->Int->Bool)(x y:Int)(xs ys:c9):lex f (x::xs) (y::ys)=if x=y then lex f xs ys else f x y:=rfl
def JE(A:Around)(s:Shared)(a:Int)(t:Tok)(c:Int)(u:Tok):∃e,SeqAt.EqAt A s (.int a t) (.int c u) e/\(e=true↔a=c) :=
 ⟨(a == c),SeqAt.EqAt.int_int a t c u,by simp⟩
def Wk(op:CmpOp)(f:Int->Int->Bool):Prop:=∀A s a t c u b w E Q,Q (.bool (f a c)) s->wpAny (model b w) A (richCompare op (.int a t) (.int c u)) Q E s
section
open PySem.SeqAt
open PySem.AutoSeq1 (wpAny_loadPart')
open PySem.MeetsSeq PySem.MeetsSeq2 PySem.MeetsSeq3
set_option maxHeartbeats 4000000 in
def sF{B:Builtin}{f:Int->Int->Bool}(mm:B=Builtin.«tuple.__lt__» /\ (f=λa b=>decide (a<b))/\Wk .Lt f\/B=Builtin.«tuple.__gt__» /\ (f=λa b=>decide (a>b))/\Wk .Gt f\/B=Builtin.«tuple.__le__» /\ (f=λa b=>decide (a<=b))/\Wk .LtE f)
  (l b:Addr) (items items2:n7) (n n2:Nat) (dd dd2:Option Addr) (sl sl2:Array (Option Value)) (ns ms:c9) (hi:IntsAre items.toList ns) (hj:IntsAre items2.toList ms) :
  Meets (B ⟨[.ref l,.ref b],[]⟩)
   (λ_ R s=>s.heap.get? l=some { cls:=.type "tuple",dict:=dd,data:=.seq items n,slots:=sl }/\s.heap.get? b=some { cls:=.type "tuple",dict:=dd2,data:=.seq items2 n2,slots:=sl2 } /\
    R (.ok (.ret (.bool (lex f ns ms)))) s):=by
 refine .of_wp λz w A R s h=>?_;rcases mm with ⟨rfl,H,p⟩|⟨rfl,H,p⟩|⟨rfl,H,p⟩;all_goals
  obtain⟨I,g,d,J,K⟩:=s;obtain⟨hl,O,h⟩:=h;have Q:=AutoSeq1.sub_tuple_tuple;have S:items.size=ns.length:=by rw[<- hi.length];simp
  have T:items2.size=ms.length:=by rw[<- hj.length];simp
  wp_walk using wpAny_loadPart' hl,wpAny_loadPart' O,wpAny_forIn_list _ (λC b N=>b.1=none/\N=⟨I,g,d,J,K⟩/\∃L M j o,C=L.zip M /\
   IntsAre L j/\IntsAre M o/\j.length+items2.size=o.length+items.size/\R (.ok (.ret (.bool (lex f j o)))) ⟨I,g,d,J,K⟩) _
  case turn =>
   rintro⟨y,x⟩ C b N ⟨F,rfl,L,M,j,o,r,G,v,i,D⟩;cases G with
   |nil=>rw[List.zip_nil_left] at r;cases r
   |cons a t hvi' =>
    cases v with
    |nil=>rw[List.zip_nil_right] at r;cases r
    |cons c u hwi' =>
     rw[List.zip_cons_cons] at r;injection r with hyx hrest
     injection hyx with hy hx
     subst hy hx;rw[FT] at D;simp only[P3] at i;obtain⟨e,P,E⟩:=JE A.in1 ⟨I,g,d,J,K⟩ a t c u;refine y0 (P z w _ _ ?_);cases e with
     |true =>
      rw[w4 (E.mp rfl)] at D
      wp_walk
      exact⟨rfl,rfl,_,_,_,_,hrest,hvi',hwi',by lia,D⟩
     |false =>
      rw[C5 (λq=>absurd (E.mpr q) Z7)] at D;have p:=p A.in1 ⟨I,g,d,J,K⟩ a t c u z w
      wp_walk using p
      exact⟨_,rfl,by simpa using D⟩
  case fin =>
   rintro⟨U,W⟩ N ⟨F,rfl,L,M,j,o,r,G,v,i,D⟩;simp only at F;subst F;have hv:lex f j o=f items.size items2.size:=by
    subst H;cases G with
    |nil=>cases v <;> (simp only[ac6,P3] at i;simp only[lex,decide_eq_decide];lia)
    |cons a t hv =>
     cases v with
     |nil=>simp only[ac6,P3] at i;simp only[lex,decide_eq_decide];lia
     |cons c u hw=>rw[List.zip_cons_cons] at r;cases r
   rw[hv] at D
   wp_walk
   exact⟨_,rfl,by subst H;simpa [Builtin.Tuple.tupleCompareSizes] using D⟩
  case h =>
   exact⟨rfl,rfl,items.toList,items2.toList,ns,ms,rfl,hi,hj,by lia,h⟩
end
section
variable {E:Value->Shared->Prop}
def mR{id:String}(mm:B=Builtin.«tuple.__lt__» /\ (f=λa b=>decide (a<b))/\Wk .Lt f\/B=Builtin.«tuple.__gt__» /\ (f=λa b=>decide (a>b))/\Wk .Gt f\/B=Builtin.«tuple.__le__» /\ (f=λa b=>decide (a<=b))/\Wk .LtE f)
  (slot:Slot "tuple" (cmpInfo op).2.1 id) (en:entryFor table id=some B) (ar:argsOk id ⟨[.ref l,.ref b],[]⟩) (hl:IsTup s.heap l items) (hb:IsTup s.heap b items2) (hi:IntsAre items.toList ns) (hj:IntsAre items2.toList ms)
  (hu:A.units<cLine) (h:Q (.bool (lex f ns ms)) s):wpAny (model prog w) A (richCompare op (.ref l) (.ref b)) Q E s:=by
 obtain⟨⟨u,v,o,y⟩,p,q,n,r⟩:=_root_.id hl;obtain⟨⟨t,g,i,j⟩,c,d,z,e⟩:=_root_.id hb;simp only at q r d e;subst q r d e;exact richCompare_meets_room (op:=op) ⟨_,p,rfl⟩ ⟨_,c,rfl⟩ slot en ar (sF mm l b items items2 n z v g y j ns ms hi hj)
  ⟨p,c,show Value.bool (lex f ns ms)≠Value.notImplemented/\Q (.bool (lex f ns ms)) s from ⟨(λx=>nomatch x),h⟩⟩ hu
def tM(hl:IsTup s.heap l items)(hb:IsTup s.heap b items2)(hi:IntsAre items.toList ns)(hj:IntsAre items2.toList ms)
  (hu:A.units<cLine) (h:Q (.bool (lexLt ns ms)) s):wpAny (model prog w) A (compareOp .Lt (.ref l) (.ref b)) Q E s :=
 mR (op:=.Lt) (.inl ⟨rfl,rfl,λ_ _ _ _ _ _ _ _ _ _ h=>PyProof.Rows.lt_int h⟩) F.slot_tuple_lt F.entry_tuple_lt (F.args_tuple_lt_2 _ _) hl hb hi hj hu h
def tF(hl:IsTup s.heap l items)(hb:IsTup s.heap b items2)(hi:IntsAre items.toList ns)(hj:IntsAre items2.toList ms)
  (hu:A.units<cLine) (h:Q (.bool (gY ns ms)) s):wpAny (model prog w) A (compareOp .Gt (.ref l) (.ref b)) Q E s :=
 mR (op:=.Gt) (.inr (.inl ⟨rfl,rfl,λ_ _ _ _ _ _ _ _ _ _ h=>PyProof.Rows.gt_int h⟩)) F.slot_tuple_gt F.entry_tuple_gt (F.args_tuple_gt_2 _ _) hl hb hi hj hu h
def Ad(hl:IsTup s.heap l items)(hb:IsTup s.heap b items2)(hi:IntsAre items.toList ns)(hj:IntsAre items2.toList ms)
  (hu:A.units<cLine) (h:Q (.bool (lexLe ns ms)) s):wpAny (model prog w) A (compareOp .LtE (.ref l) (.ref b)) Q E s :=
 mR (op:=.LtE) (.inr (.inr ⟨rfl,rfl,λ_ _ _ _ _ _ _ _ _ _ h=>PyProof.Rows.le_int h⟩)) F.slot_tuple_le F.entry_tuple_le (F.args_tuple_le_2 _ _) hl hb hi hj hu h
noncomputable def iW(n d:Nat):Option Int->Nat
 |none=>d
 |some v=>if v<0 then (v+(n:Int)).toNat else min v.toNat n
def ye(n d:Nat):iW n d none=d:=rfl
def nO(n d k:Nat):iW n d (some (k:Int))=min k n:=by show (if (k:Int)<0 then ((k:Int)+n).toNat else min (k:Int).toNat n)=min k n;rw[C5 (by lia),ab9]
end
end HT
namespace L2
open PySem PySem.Spec PyProof.Rows
abbrev TO:=St->Hp->(Option Int->Hp->Prop)->Prop
def PO(X:Cx)(e:Option Expr)(t:TO):Prop :=
 ∀a s Z H Q,Inv X a Z H s->t Z H Q ->
  wpAny (model X.prog X.w) X.A (evalPart e X.env) (λu c=>∃o b,Inv X a Z b c/\IsPart u o/\Q o b) X.xe s
def Co:TO:=λ_ H Q=>Q none H
inductive isI(P:Int->Prop):V->Prop|mk{i:_}(_:P i):isI P (.int i)
def isI_i{P:Int->Prop}{x:V}:isI P x↔∃i,x = .int i/\P i:=⟨λh=>by obtain@⟨i,h0⟩:=h;exact⟨i,rfl,h0⟩,λh=>by obtain⟨i,rfl,h0⟩:=h;exact⟨h0⟩⟩
def N6(t:TE):TO:=λZ H Q=>t Z H λx a=>isI (λi=>Q (some i) a) x
def intsAre_of:∀{us:c8},Vals (ns.map V.int) us->IntsAre us ns:=by
 induction ns with
 |nil=>intro us r;rw[List.map_nil] at r;cases r;exact .nil
 |cons n ns ih =>
  intro us r;rw[ab5] at r;cases r with
  |cons r1 r2 =>
   obtain⟨t,e⟩:=r1;subst e;exact .cons n t (ih r2)
section
variable {e:Expr}{lo hi:Option Expr}{tl th:TO}{p2:Pos}
def cP:PO X none Co:=by intro a s Z H Q I h;rw[evalPart_none];exact X2 ⟨none,H,I,.none,h⟩
def bO(h:PE X e te):PO X (some e) (N6 te):=by intro a s Z H Q I b;rw[evalPart_some];refine dS (h a s Z H _ I b) λu l  c=>?_;obtain⟨x,d,f,g,j⟩:=c;obtain⟨i,rfl,q⟩:=isI_i.mp j;obtain⟨t,rfl⟩:=g;exact⟨some i,d,f,.int i t,q⟩
def YR(X:Cx)(r:V->Option Int->Option Int->Hp->VK->Prop):Prop :=
 ∀a s Z H x v b c d e f Q,Inv X a Z H s->RelV x v->s.heap.IsSliceOf f b c .none->IsPart b d->IsPart c e->r x d e H Q ->
  ∃T g,typeLookup (.type T) "__getitem__" = pure (some (.builtin g))/\s.TypeIs v T/\wpAny (model X.prog X.w) X.A (getItem v (.ref f)) (EP X a Z Q) X.xe s
def tSl(r:V->Option Int->Option Int->Hp->VK->Prop)(te:TE)(tl th:TO):TE:=λZ H Q=>te Z H λx a=>tl Z a λl b=>th Z b λu c=>r x l u c Q
def bS{r:V->Option Int->Option Int->Hp->VK->Prop}(hr:YR X r)(he:PE X e te)(hl:PO X lo tl)(hu:PO X hi th):PE X (.Subscript e (.Slice lo hi none p2) pos) (tSl r te tl th):=by intro a s Z H Q I h;refine Subscript_ (dS (he a s Z H _ I h) λv j  g=>?_);obtain⟨x,n,o,p,t⟩:=g;refine wpAny_Slice (dS (hl a j Z n _ o t) λd y ⟨l,z,B,C,D⟩=>dS (hu a y Z z _ B D) λf c  g=>?_);obtain⟨u,i,E,F,G⟩:=g;rw[evalPart_none];refine X2 ?_;obtain⟨T,O,K,L,M⟩:=hr a { c with heap:=c.heap.push { cls:=.type "slice",data:=.fields #[d,f,.none] } } Z i x v d f l u c.heap.objs.size Q (E.kept (t':=c.toks) λb N q=>x0 _ q) p (Heap.IsSliceOf.new ..) C F G;show wpAny (model X.prog X.w) X.A (subscriptTail e (.Slice lo hi none p2) v (.ref c.heap.objs.size)) (EP X a Z Q) X.xe { c with heap:=c.heap.push { cls:=.type "slice",data:=.fields #[d,f,.none] } };exact tail_any (ops:=[.ref c.heap.objs.size,v]) L K M (by with_unfolding_all rfl)
def b9(xs:q7)(lo hi:Option Int):q7:=(xs.drop (HT.iW xs.length 0 lo)).take (HT.iW xs.length xs.length hi-HT.iW xs.length 0 lo)
def qW(xs:q7)(lo hi:Option Int):(b9 xs lo hi).length<=xs.length:=by unfold b9;rw[v6,B2];lia
inductive CF(f:c9->c9->Bool)(K:W.Frag)(x:V)(y:V)(H:Hp)(Q:VK):Prop|mk(a b ns ms)(_:x = .ref a)(_:y = .ref b)(_:bT K H a (ns.map V.int))(_:bT K H b (ms.map V.int))(_:Q (.bl (f ns ms)) H)
def xu(hf:∀{s a b xs ys ns ms Q E},IsTup s.heap a xs->IsTup s.heap b ys->IntsAre xs.toList ns->IntsAre ys.toList ms->Q (.bool (f ns ms)) s->wpAny (model X.prog X.w) X.A (compareOp op (.ref a) (.ref b)) Q E s):mL X (compareOp op) (CF f X.K):=by intro c s Z H x y v u Q I e g h;obtain⟨a,b,ns,ms,rfl,rfl,i,j,q⟩:=h;cases e;cases g;obtain⟨l,n,o,_⟩:=I.tuple i;obtain⟨d,p,r,_⟩:=I.tuple j;exact hf o r (intsAre_of n) (intsAre_of p) ⟨.bl (f ns ms),H,I,rfl,q⟩
def S1(hu:X.A.units<cLine):mL X (compareOp .Lt) (CF HT.lexLt X.K):=xu λa b c d q=>HT.tM a b c d hu q
def nN(hu:X.A.units<cLine):mL X (compareOp .Gt) (CF HT.gY X.K):=xu λa b c d q=>HT.tF a b c d hu q
def Bo(hu:X.A.units<cLine):mL X (compareOp .LtE) (CF HT.lexLe X.K):=xu λa b c d q=>HT.Ad a b c d hu q
end
noncomputable def zG(n:Nat)(i:Int):Option Nat:=if 0<=i then (if i<n then some i.toNat else none) else if -n<=i then some (i+n).toNat else none
def oE{α:Type}(xs:List α)(i:Int):Option α:=(zG xs.length i).bind λj=>xs[j]?
def BE(h:zG n i=some j):seqIndex? i n=some j/\j<n /\ -(n:Int)<=i/\i<n:=by
 unfold zG at h;by_cases b:0<=i
 .rw[w4 b] at h;by_cases a:i<n
  .rw[w4 a] at h;exact⟨by rw[seqIndex_of b a,(aa1 h)],by lia,by lia,a⟩
  .rw[C5 a] at h;cases h
 .rw[C5 b] at h;by_cases a:-(n:Int)<=i
  .rw[w4 a] at h;exact⟨by rw[seqIndex_neg (by lia) a,(aa1 h)],by lia,a,by lia⟩
  .rw[C5 a] at h;cases h
def wc{α:Type}{xs:List α}{i:Int}{v:α}(h:oE xs i=some v):∃j,seqIndex? i xs.length=some j/\xs[j]?=some v/\j<xs.length /\ -(xs.length:Int)<=i/\i<xs.length:=by
 unfold oE at h;cases e:zG xs.length i with
 |none=>rw[e] at h;cases h
 |some j =>
  rw[e] at h;obtain⟨a,b,c,d⟩:=BE e;exact⟨j,a,h,b,c,d⟩
def aB{α:Type}{xs:List α}{j:Nat}{v:α}(h:xs[j]?=some v):oE xs (j:Int)=some v:=by
 have a:=(d6.mp h).1;have e:zG xs.length (j:Int)=some j:=by unfold zG;rw[w4 (by lia),w4 (by lia)];simp
 unfold oE;exact e▸h
def M3(b:Expr):Prop:=∀o i,subscripted b false o i=operate [o,i] (getItem o i)
def Wg(X:Cx)(r:R2):Prop :=
 ∀c a b s Z H x y v u Q,Inv X b Z H s->RelV x v->RelV y u->r x y H Q ->
  subscripted a false v u=operate [v,u] (getItem v u)->wpAny (model X.prog X.w) X.A (subscriptTail c a v u) (EP X b Z Q) X.xe s
def Su(X:Cx)(id:String)(r:V->q7->Hp->VK->Prop):Prop :=
 ∀a s Z H x b v us Q,Inv X a Z H s->RelV x v->Vals b us->r x b H Q ->
  wpAny (model X.prog X.w) X.A (call (.builtin id) (v::us)) (EP X a Z Q) X.xe s
section
variable {a b:Expr}{ta tb:TE}
def aC{r:R2}(hr:Wg X r)(ha:PE X a ta)(hb:PE X b tb)(hs:autoParam (M3 b) cw._auto_1):PE X (.Subscript a b pos) (Wf r ta tb):=by intro c s Z H Q I h;exact Subscript_ (T8 ha hb I h λv u d x y e f g i q=>hr a b c d Z e x y v u Q f g i q (hs _ _))
inductive LP(K:W.Frag):V->V->Hp->VK->Prop|mk{p xs i v:_}{H Q:_}(_:aV K H p xs)(_:oE xs i=some v)(_:Q v H):LP K (.ref p) (.int i) H Q
inductive RW(K:W.Frag):V->V->Hp->VK->Prop|mk{p xs i v:_}{H Q:_}(_:bT K H p xs)(_:oE xs i=some v)(_:Q v H):RW K (.ref p) (.int i) H Q
inductive XE:V->V->Hp->VK->Prop|mk{z i c:_}{H Q:_}(_:z.length<=sizeLine)(_:oE z.l i=some c)(_:Q (.str ⟨#[c]⟩) H):XE (.str z) (.int i) H Q
def XE_i{x:V}{y:V}:XE x y H Q↔∃z i c,x = .str z/\y = .int i/\z.length<=sizeLine/\oE z.l i=some c/\Q (.str ⟨#[c]⟩) H:=⟨λh=>by obtain@⟨z,i,c,_,_,h0,h1,h2⟩:=h;exact⟨z,i,c,rfl,rfl,h0,h1,h2⟩,λh=>by obtain⟨z,i,c,rfl,rfl,h0,h1,h2⟩:=h;exact⟨h0,h1,h2⟩⟩
def aU:Wg X (LP X.K):=by
 intro d e a s Z H x y v u Q I C D h o;obtain@⟨p,N,i,z,_,_,E,F,q⟩:=h;cases C;obtain⟨t,rfl⟩:=D;obtain⟨f,r,g,O⟩:=I.list E;obtain⟨j,c,G,P,J,L⟩:=wc F;obtain⟨w,A,l⟩:=r.get G;have hl:=r.length;have R:=o7;have b:EP X a Z Q w s:=⟨z,H,I,l,q⟩
 by_cases B:0<=i
 .have n:i.toNat=j:=by rw[seqIndex_of B L] at c;exact aa1 c
  exact item_listR g.isList B (by lia) (by rw[n];simpa using A) b o
 .have n:(i+(f.toArray.size:Int)).toNat=j:=by rw[seqIndex_neg (by lia) J] at c;exact T1▸hl▸aa1 c
  exact subscriptTail_builtinR (x:=w) g.isList.typeIs slot_list_getitem.lookup
   (wpAny_getItem_list_neg (Q:=λr M=>r=w/\EP X a Z Q r M) g.isList (by lia) (by rw[T1] <;> lia) (by lia) (by rw[n];simpa using A) ⟨rfl,b⟩) o
def aO:Wg X (RW X.K):=by
 intro b c a s Z H x y v u Q I g l h n;obtain@⟨p,G,i,z,_,_,o,A,q⟩:=h;cases g;obtain⟨t,rfl⟩:=l;obtain⟨B,r,f,J⟩:=I.tuple o;obtain⟨j,C,D,L,M,N⟩:=wc A;obtain⟨w,E,d⟩:=r.get D;have O:=o7;have e:EP X a Z Q w s:=⟨z,H,I,d,q⟩
 exact subscriptTail_builtinR (x:=w) f.typeIs slot_tuple_getitem.lookup
  (getItem_tuple (j:=j) (Q:=λr F=>r=w/\EP X a Z Q r F) f (by lia) (by lia) (T1▸r.length▸C) (by simpa using E) ⟨rfl,e⟩) n
def lC:Wg X XE:=by
 intro a b d s Z H x y v u Q I f g h l;obtain@⟨z,i,c,_,_,B,n,q⟩:=h;obtain⟨t,rfl⟩:=f;obtain⟨C,rfl⟩:=g;obtain⟨j,e,o,D,p,r⟩:=wc n;have hl:z.l.length=z.length:=by simp[Str.length]
 rw[hl] at e p r;have E:=o7;exact tail_any (am6 s z t) slot_str_getitem.lookup (getItem_str (c:=c) (by have w:decide (i < -(2 ^ 63:Int))=false:=ab2 (by lia);have A:decide (i ≥ 2 ^ 63)=false:=ab2 (by lia);rw[w,A,Bool.or_false]) (by rw[e];simpa using o) ⟨.str ⟨#[c]⟩,H,I.tok _,⟨_,rfl⟩,q⟩) l
def zT (its:c8) (n j:Nat) (u:Value):Obj.mapSeq (·.setIfInBounds j u) { cls:=.type "list",data:=.seq its.toArray n } = { cls:=.type "list",data:=.seq (its.set j u).toArray n }:=by simp[Obj.mapSeq]
def Inv.lst(I:Inv X am Z H s)(h:H p=r6 xs) :
  ∃(its:c8) (n:Nat),Vals xs its/\s.heap.get? p=some { cls:=.type "list",data:=.seq its.toArray n }/\xs.length<=sizeLine:=by
 obtain⟨z,its,n,r,e⟩:=I.ba p _ h;exact⟨its,n,r,e,z⟩
def Inv.Sb(I:Inv X am Z H s)(h:H p=r6 xs)
  (ho:s.heap.get? p=some { cls:=.type "list",data:=.seq its.toArray n }) (hf:f { cls:=.type "list",data:=.seq its.toArray n } = { cls:=.type "list",data:=.seq its'.toArray n' }) (r:Vals ys its') (hz:ys.length<=sizeLine) (t:Nat) :
  Inv X am Z (ag H p (.lst ys)) { s with heap:=s.heap.update p f,toks:=t }:=by
 have e:(s.heap.update p f).get? p=some { cls:=.type "list",data:=.seq its'.toArray n' }:=by rw[af0 f ho (by rw[hf] <;> rfl),hf]
 refine I.write (x:=p) (e:=p) (by rw[h];trivial) (.inl rfl) (λb u a q=>(ab0 _ _ (aa4 a)).trans q) ⟨_,e⟩ ?_;exact⟨hz,its',n',r,e⟩
inductive Yt(o:V)(i:V)(v:V)(H:Hp)(Q:(Hp->Prop)):Prop|mk(p xs k j)(_:o = .ref p)(_:i = .int k)(_:H p=r6 xs)(_:zG xs.length k=some j)(_:Q (ag H p (.lst (xs.set j v))))
def set_list:XW X Yt:=by
 intro a s Z H o i v E F u Q I y z A h;obtain⟨p,B,k,j,rfl,rfl,f,C,q⟩:=h;cases y;obtain⟨t,rfl⟩:=z;obtain⟨b,n,r,d,D⟩:=I.lst f;obtain⟨c,G,g,l⟩:=BE C;have hl:=r.length;have J:=o7;have w:=
  I.Sb f d (zT b n j u) (r.set A j) (by rw[List.length_set];exact D) s.toks
 by_cases x:0<=k
 .have e:k.toNat=j:=by rw[seqIndex_of x l] at c;exact aa1 c
  exact W.ki_setAt d x (by lia) (T1▸hl▸l) (e▸⟨_,w,q⟩)
 .have e:(k+(b.toArray.size:Int)).toNat=j:=by rw[seqIndex_neg (by lia) g] at c;exact T1▸hl▸aa1 c
  exact W.ki_setBack d (by lia) (T1▸hl▸g) (by lia) (e▸⟨_,w,q⟩)
def wW(lo hi:Option Int)(n:Nat):(sliceBounds lo hi none n).1=((HT.iW n 0 lo:Nat):Int)/\(sliceBounds lo hi none n).2.1=((HT.iW n n hi:Nat):Int)/\(sliceBounds lo hi none n).2.2=1:=by
 refine⟨?_,?_,rfl⟩
 .cases lo with
  |none=>simp[sliceBounds,HT.iW]
  |some i =>
   simp only[sliceBounds,HT.iW,Option.getD_none,show (1:Int)>0 by decide,if_true];by_cases h:i<0
   .simp only[h,if_true] <;> lia
   .simp only[h,ao9] <;> lia
 .cases hi with
  |none=>simp[sliceBounds,HT.iW]
  |some i =>
   simp only[sliceBounds,HT.iW,Option.getD_none,show (1:Int)>0 by decide,if_true];by_cases h:i<0
   .simp only[h,if_true] <;> lia
   .simp only[h,ao9] <;> lia
def uJ(its:c8)(lo hi:Option Int):slicePick its.toArray lo hi none=((its.drop (HT.iW its.length 0 lo)).take (HT.iW its.length its.length hi-HT.iW its.length 0 lo)).toArray:=by obtain⟨a,b,c⟩:=wW lo hi its.toArray.size;unfold slicePick;rw[a,b,c];simp only[sliceRange_one,pick_run,T1] <;> rfl
inductive Y5(K:W.Frag):V->Option Int->Option Int->Hp->VK->Prop|mk{a xs:_}{lo hi H Q:_}(_:aV K H a xs)(_:∀p,H p=none->Q (.ref p) (ag H p (.lst (b9 xs lo hi)))):Y5 K (.ref a) lo hi H Q
def cZ:YR X (Y5 X.K):=by intro g s Z H x v y z e f A Q I j l n p h;obtain@⟨a,c,_,_,_,_,t,q⟩:=h;cases j;obtain⟨u,r,i,w⟩:=I.list t;have d:=r.length;refine⟨"list",_,slot_list_getitem.lookup,i.isList.typeIs,?_⟩;refine wpAny_getItem_list_slice i.isList l n p .none (by simp) ?_ (by rw[T1] <;> lia);rw[uJ,<- d];refine⟨.ref s.heap.objs.size,_,I.laid (t':=s.toks) (o:=.lst (b9 c e f)) (λb B q=>x0 _ q) (N0 _) ?_,rfl,q _ (I.ba.fresh (N0 _))⟩;exact⟨ac2 (qW c e f) w,_,0,(r.drop (HT.iW c.length 0 e)).take (HT.iW c.length c.length f-HT.iW c.length 0 e),aa5 _ rfl⟩
noncomputable def jy:V->Bool
 |.dj=>true
 |.bl _=>true
 |.int _=>true
 |.str _=>true
 |_=>false
noncomputable def D0:V->V->Bool
 |.dj,.dj=>true
 |.bl a,.bl b=>a == b
 |.bl a,.int b=>(if a then 1 else 0) == b
 |.int a,.bl b=>a == (if b then 1 else 0)
 |.int a,.int b=>a == b
 |.str a,.str b=>a == b
 |_,_=>false
def Ax(ry:RelV y u)(rx:RelV x v)(fy:jy y=true)(fx:jy x=true):SeqAt.EqAt A s u v (D0 y x):=by
 cases y with
 |dj =>
  cases ry;cases x with
  |dj=>cases rx;exact SeqAt.EqAt.same _
  |bl b=>cases rx;exact SeqAt.EqAt.none_bool b
  |int b=>obtain⟨t,rfl⟩:=rx;exact SeqAt.EqAt.none_int b t
  |str b=>obtain⟨t,rfl⟩:=rx;exact SeqAt.EqAt.none_str b t
  |_=>exact absurd (show false=true from fx) Z7
 |bl a =>
  cases ry;cases x with
  |dj=>cases rx;exact SeqAt.EqAt.bool_none a
  |bl b=>cases rx;exact SeqAt.EqAt.bool_bool a b
  |int b=>obtain⟨t,rfl⟩:=rx;exact SeqAt.EqAt.bool_int a b t
  |str b=>obtain⟨t,rfl⟩:=rx;exact SeqAt.EqAt.bool_str a b t
  |_=>exact absurd (show false=true from fx) Z7
 |int a =>
  obtain⟨c,rfl⟩:=ry;cases x with
  |dj=>cases rx;exact SeqAt.EqAt.int_none a c
  |bl b=>cases rx;exact SeqAt.EqAt.int_bool a c b
  |int b=>obtain⟨t,rfl⟩:=rx;exact SeqAt.EqAt.int_int a c b t
  |str b=>obtain⟨t,rfl⟩:=rx;exact SeqAt.EqAt.int_str a c b t
  |_=>exact absurd (show false=true from fx) Z7
 |str a =>
  obtain⟨c,rfl⟩:=ry;cases x with
  |dj=>cases rx;exact SeqAt.EqAt.str_none a c
  |bl b=>cases rx;exact SeqAt.EqAt.str_bool a c b
  |int b=>obtain⟨t,rfl⟩:=rx;exact SeqAt.EqAt.str_int a c b t
  |str b=>obtain⟨t,rfl⟩:=rx;exact SeqAt.EqAt.str_str a c b t
  |_=>exact absurd (show false=true from fx) Z7
 |_=>exact absurd (show false=true from fy) Z7
def zL(x:V)(u:Value):Bool:=match u with
 |.none=>D0 .dj x
 |.bool b=>D0 (.bl b) x
 |.int i _=>D0 (.int i) x
 |.str z _=>D0 (.str z) x
 |_=>false
def EL(r:RelV y u)(f:jy y=true):zL x u=D0 y x:=by
 cases y with
 |dj=>cases r;rfl
 |bl b=>cases r;rfl
 |int i=>obtain⟨t,rfl⟩:=r;rfl
 |str z=>obtain⟨t,rfl⟩:=r;rfl
 |_=>exact absurd (show false=true from f) Z7
theorem pX:∀{xs:q7} {us:c8},Vals xs us->xs.all jy=true->us.any (zL x)=xs.any λy=>D0 y x
 |_,_,.nil,_=>rfl
 |y::xs,u::us,.cons r t,f=>by rw[List.all_cons,ad4] at f;rw[List.any_cons,List.any_cons,EL r f.1,pX t f.2]
theorem nc(rx:RelV x v)(fx:jy x=true):∀{xs:q7} {us:c8},Vals xs us->xs.all jy=true->∀u∈us,SeqAt.EqAt A s u v (zL x u)
 |_,_,.nil,_=>λu hu=>by cases hu
 |y::xs,u::us,.cons r t,f=>λu' hu=>by
  rw[List.all_cons,ad4] at f;rcases Z5.mp hu with rfl|hu
  .rw[EL r f.1];exact Ax r rx f.1 fx
  .exact nc rx fx t f.2 u' hu
def Mz(x:V)(xs:q7):Bool:=xs.any λy=>D0 y x
inductive Zc(K:W.Frag)(neg:Bool)(x:V):V->Hp->VK->Prop|mk{p xs:_}{H Q:_}(_:(aV K H p xs\/bT K H p xs))(_:jy x=true)(_:xs.all jy=true)(_:Q (.bl (if neg then !Mz x xs else Mz x xs)) H):Zc K neg x (.ref p) H Q
def iA:mL X (compareOp .In) (Zc X.K false):=by
 intro e s Z H x y v u Q I f i h;obtain@⟨p,l,_,_,b,g,fs,q⟩:=h;cases i;rcases b with b|b
 .obtain⟨a,r,c,j⟩:=I.list b;refine SeqAt.in_listAt (zL x) c.isList (λw d=>nc f g r fs w (by simpa using d)) ⟨.bl _,H,I,rfl,?_⟩;rw[show a.toArray.any (zL x)=a.any (zL x) by simp,pX r fs];exact q
 .obtain⟨a,r,c,j⟩:=I.tuple b;refine SeqAt.in_tupleAt (zL x) c (λw d=>nc f g r fs w (by simpa using d)) ⟨.bl _,H,I,rfl,?_⟩;rw[show a.toArray.any (zL x)=a.any (zL x) by simp,pX r fs];exact q
def mj:mL X (compareOp .NotIn) (Zc X.K true):=by
 intro e s Z H x y v u Q I f i h;obtain@⟨p,l,_,_,b,g,fs,q⟩:=h;cases i;rcases b with b|b
 .obtain⟨a,r,c,j⟩:=I.list b;refine SeqAt.notIn_listAt (zL x) c.isList (λw d=>nc f g r fs w (by simpa using d)) ⟨.bl _,H,I,rfl,?_⟩;rw[show a.toArray.any (zL x)=a.any (zL x) by simp,pX r fs];exact q
 .obtain⟨a,r,c,j⟩:=I.tuple b;refine SeqAt.notIn_tupleAt (zL x) c (λw d=>nc f g r fs w (by simpa using d)) ⟨.bl _,H,I,rfl,?_⟩;rw[show a.toArray.any (zL x)=a.any (zL x) by simp,pX r fs];exact q
def aD:gS X (.builtin "len") (λxs H Q=>∃p ys,xs=[.ref p]/\(aV X.K H p ys\/bT X.K H p ys)/\Q (.int ys.length) H):=by
 intro f s Z H xs us Q I r h;obtain⟨p,ys,rfl,b,q⟩:=h;obtain⟨u,rfl,g⟩:=vals1 r;cases g;have j:=o7;rcases b with b|b
 .obtain⟨c,d,e,i⟩:=I.list b;have a:=d.length;exact Calls.call_len_list e.isList (by simp only[T1] <;> lia) ⟨.int ys.length,H,I.tok _,⟨s.toks+1,by rw[T1,a]⟩,q⟩
 .obtain⟨c,d,e,i⟩:=I.tuple b;have a:=d.length;exact len_tuple e (by simp only[T1] <;> lia) ⟨.int ys.length,H,I.tok _,⟨s.toks+1,by rw[T1,a]⟩,q⟩
def bz:gS X (.builtin "len") (λxs H Q=>∃z,xs=[.str z]/\z.length<=sizeLine/\Q (.int z.length) H):=by intro a s Z H xs us Q I r h;obtain⟨z,rfl,b,q⟩:=h;obtain⟨u,rfl,t,rfl⟩:=vals1 r;have c:=o7;exact len_str (by lia) ⟨.int z.length,H,I.tok _,⟨_,rfl⟩,q⟩
def eV:gS X (.type "list") (λxs H Q=>∃p ys,xs=[.ref p]/\(aV X.K H p ys\/bT X.K H p ys)/\∀l,H l=none->Q (.ref l) (ag H l (.lst ys))):=by
 intro g s Z H xs us Q I r h;obtain⟨p,ys,rfl,i,q⟩:=h;obtain⟨u,rfl,C⟩:=vals1 r;cases C;have j:∀a,Vals ys a->ys.length<=sizeLine->∀c d,(∀b B,s.heap.get? b=some B->c.get? b=some B) ->
   c.get? s.heap.objs.size=some { cls:=.type "list",dict:=none,data:=.seq a.toArray d,slots:=#[] }->EP X g Z Q (.ref s.heap.objs.size) { s with heap:=c }:=λa f t c d kp e =>
  ⟨.ref s.heap.objs.size,_,I.laid (t':=s.toks) kp (N0 _) (show dz X.prog X.w _ c _ (.lst ys) from ⟨t,a,d,f,e⟩),rfl,q _ (I.ba.fresh (N0 _))⟩
 rcases i with i|i
 .obtain⟨a,f,x,t⟩:=I.list i;have v:=f.length;obtain⟨o,y,z,n,A⟩:=x.isList;exact call_list_seq p (.inl rfl) y z A (λc d kp e=>j a f t c d kp e) (by simp only[T1] <;> lia)
 .obtain⟨a,f,x,t⟩:=I.tuple i;have v:=f.length;obtain⟨o,y,z,n,A⟩:=x;exact call_list_seq p (.inr rfl) y z A (λc d kp e=>j a f t c d kp e) (by simp only[T1] <;> lia)
def Zh(K:W.Frag)(T:String)(x:V)(H:Hp):Prop:=match x with
 |.str _=>T = "str"
 |.int _=>T = "int"
 |.ref p=>(T = "list" /\ ∃b,aV K H p b)\/(T = "tuple" /\ ∃o,K.lookup p=some o/\o.cls = .type "tuple" /\ o.dict=none) \/
   (T = "dict" /\ ((∃a,H p=some (.dK a))\/∃a,H p=some (.dT a)))\/(T = "set" /\ ∃S n,H p=some (.set S n))
 |_=>False
def JQ(I:Inv X am Z H s)(r:RelV x v)(ty:Zh X.K T x H) :
  s.TypeIs v T/\∀a,v = .ref a->∃ob,s.heap.get? a=some ob/\ob.dict=none:=by
 cases x with
 |str z =>
  obtain⟨t,rfl⟩:=r;cases (show T = "str" from ty);exact⟨am6 s z t,λ_ e=>nomatch e⟩
 |int i =>
  obtain⟨t,rfl⟩:=r;cases (show T = "int" from ty);exact⟨typeIs_int s i t,λ_ e=>nomatch e⟩
 |ref p =>
  cases r;rcases ty with ⟨rfl,w,l⟩|⟨rfl,o,b,q,f⟩|⟨rfl,b⟩|⟨rfl,S,n,b⟩
  .obtain⟨u,_,j,_⟩:=I.list l;refine⟨j.isList.typeIs,λa e=>?_⟩;cases e;obtain⟨o,n,e,c,f,_⟩:=j;exact⟨o,e,f⟩
  .refine⟨⟨o,I.uG p o b,q⟩,λa e=>?_⟩;cases e;exact⟨o,I.uG _ o b,f⟩
  .have z:∃o,s.heap.get? p=some o/\o.ExactDict:=by
    rcases b with ⟨g,b⟩|⟨g,b⟩
    .obtain⟨_,_,_,_,o,_,_,e,d,_⟩:=I.ba p _ b;exact⟨o,e,d⟩
    .obtain⟨_,_,_,_,o,_,_,e,d,_⟩:=I.ba p _ b;exact⟨o,e,d⟩
   obtain⟨o,e,d⟩:=z;refine⟨⟨o,e,d.1⟩,λa h=>?_⟩;cases h;exact⟨o,e,d.2.1⟩
  .obtain⟨o,_,_,_,e,d,_⟩:=I.ba p _ b;refine⟨⟨o,e,d.1⟩,λa h=>?_⟩;cases h;exact⟨o,e,d.2.1⟩
 |_=>exact False.elim ty
def Wo(K:W.Frag)(T:String)(r:V->q7->Hp->VK->Prop)(to:TE):TE:=λZ H Q=>to Z H λx a=>Zh K T x a/\r x [] a Q
def tBM(K:W.Frag)(T:String)(r:V->q7->Hp->VK->Prop)(to:TE)(t:TA):TE:=λZ H Q=>to Z H λx a=>Zh K T x a/\t Z a λb c=>r x b c Q
variable {o e:Expr}{to:TE}{t:TA}{T id:String}{r:V->q7->Hp->VK->Prop}
def qD (pa:PlainAttrs T) (slot:Slot T name id) (hty:typeOf (.builtin id)=pure (.type "method_descriptor")) (hm:Su X id r) (ho:PE X o to)
  (hbase:autoParam (attributeBase o name X.env (eval o X.env)=eval o X.env) cw._auto_1) (hline:autoParam ((apos.endLine == cpos.line)=true) cw._auto_1):PE X (.Call (.Attribute o name apos) [] [] cpos) (Wo X.K T r to):=by
 intro a s Z H Q I h;refine wpAny_Call_method0_late hbase hline (dS (ho a s Z H _ I h) λv d  e=>?_);obtain⟨x,f,b,c,g,i⟩:=e;obtain⟨j,l⟩:=JQ b c g;exact⟨T,id,pa,slot,hty,j,l,ah9 rfl (PySem.evalArgs_none (hm a d Z f x [] v [] Q b c .nil i))⟩
def cV (pa:PlainAttrs T) (slot:Slot T name id) (hty:typeOf (.builtin id)=pure (.type "method_descriptor")) (hm:Su X id r) (ho:PE X o to) (ha:PA X (e::es) t)
  (hbase:autoParam (attributeBase o name X.env (eval o X.env)=eval o X.env) cw._auto_1)
  (hfew:autoParam (((backTo cpos (starEach (e::es) X.env)).all (λx=>!x.1) && (backToKw cpos (keywordEach [] X.env)).all (λx=>x.1.isSome)
   && decide ((e::es).length+([]:List Keyword).length+(if ([]:List Keyword).isEmpty then 0 else 1)<30))=true) cw._auto_1)
  (hline:autoParam ((apos.endLine == cpos.line)=true) cw._auto_1) (hs:autoParam (starEach (e::es) X.env=(false,eval e X.env)::starEach es X.env) cw._auto_1) (hplain:autoParam ((backTo cpos (starEach es X.env)).any (·.1)=false) cw._auto_1) :
  PE X (.Call (.Attribute o name apos) (e::es) [] cpos) (tBM X.K T r to t):=by
 intro a s Z H Q I h;refine wpAny_Call_method_late hbase hfew hline rfl (dS (ho a s Z H _ I h) λv f  g=>?_);obtain⟨x,i,b,c,j,l⟩:=g;obtain⟨n,p⟩:=JQ b c j;refine⟨T,id,pa,slot,hty,n,p,?_⟩;have d:=ha cpos a f Z i _ b l;rw[hs] at d ⊢;refine ah9 (by show (false || (backTo cpos (starEach es X.env)).any (·.1))=false;rw[hplain] <;> rfl) (aj0 ?_);exact dS d λus q ⟨u,w,y,z,A⟩=>hm a q Z w x u v us Q y c z A
end
def Y8(X:Cx)(id:String)(r:V->q7->Hp->VK->Prop):Prop :=
 ∀a s Z H x b v us Q,Inv X a Z H s->RelV x v->Vals b us->r x b H Q ->
  wpAny (model X.prog X.w) X.A (call (.builtin id) (v::us)) (EP X a Z Q) X.xe s
def Vals.one(h:Vals [x] us):∃u,us=[u]/\RelV x u:=by
 cases h with
 |cons r h=>
  cases h;exact⟨_,rfl,r⟩
def Vals.two(h:Vals [x,y] us):∃u v,us=[u,v]/\RelV x u/\RelV y v:=by
 cases h with
 |cons r h=>cases h with
  |cons q h=>
   cases h;exact⟨_,_,rfl,r,q⟩
theorem Vals.zero:∀{us:c8},Vals [] us->us=[]
 |_,.nil=>rfl
def Vals.dropLast(h:Vals xs us):Vals xs.dropLast us.dropLast:=by
 induction h with
 |nil=>exact .nil
 |cons r t ih =>
  cases t with
  |nil=>exact .nil
  |cons q t'=>exact .cons r ih
theorem Vals.rep(h:Vals xs us):∀k:Nat,Vals (List.replicate k xs).flatten (List.replicate k us).flatten
 |0=>.nil
 |k+1=>ag6▸ag6▸am1▸am1▸Vals.append h (Vals.rep h k)
def z7{α:Type}(l:List α):l.eraseIdx (l.length-1)=l.dropLast:=by
 induction l with
 |nil=>rfl
 |cons a r ih =>
  cases r with
  |nil=>rfl
  |cons b r =>
   have e:(a::b::r).length-1=((b::r).length-1)+1:=by have c:(a::b::r).length=r.length+2:=rfl;have d:(b::r).length=r.length+1:=rfl;lia
   rw[e,List.eraseIdx_cons_succ,ih];all_goals rfl
theorem foldl_rep(its:c8):∀(k:Nat) (acc:c8),
  List.foldl (λx1 x2=>x1++x2) acc.toArray (List.replicate k its.toArray)=(acc++(List.replicate k its).flatten).toArray
 |0,acc=>by simp
 |k+1,acc=>by
  have e:acc.toArray++its.toArray=(acc++its).toArray:=by simp
  have a:(acc++its)++(List.replicate k its).flatten=acc++(List.replicate (k+1) its).flatten:=by rw[ag6,am1,ac0]
  rw[<- a,<- foldl_rep its k (acc++its),<- e,ag6,al4]
section
variable {l b:Addr}{xs zs:q7}
def Inv.SD(I:Inv X am Z H s)(hH:H l=r6 xs)
  (e:s.heap.get? l=some { cls:=.type "list",data:=.seq its.toArray n }) (hf:f its.toArray=its'.toArray) (hv:Vals ys its') (hz:ys.length<=sizeLine) :
  Inv X am Z (ag H l (.lst ys)) { s with heap:=s.heap.update l (Obj.mapSeq f),toks:=t' }:=by
 have q:=IsL.update e f;rw[hf] at q;refine I.write (x:=l) (e:=l) (hH▸trivial) (.inl rfl) (λc u a b=>(ab0 s.heap (Obj.mapSeq f) (aa4 a)).trans b) ⟨_,q⟩ ?_;exact⟨hz,its',_,hv,q⟩
def Inv.JS(I:Inv X am Z H s)(hv:Vals ys its)(hz:ys.length<=sizeLine) :
  Inv X am Z (ag H s.heap.objs.size (.lst ys)) { s with heap:=s.heap.push { cls:=.type "list",data:=.seq its.toArray },toks:=t' } :=
 I.laid (λ_ _ q=>x0 _ q) (N0 _) ⟨hz,its,0,hv,aa5 _ rfl⟩
def Inv.fresh(I:Inv X am Z H s):H s.heap.objs.size=none:=I.ba.fresh (N0 _)
def Inv.AG (I:Inv X am Z H s) (hH:H l=r6 xs):xs.length<=sizeLine/\∃(its:c8) (n:Nat),Vals xs its/\xs.length=its.length/\s.heap.get? l=some { cls:=.type "list",data:=.seq its.toArray n }:=by obtain⟨z,its,n,r,e⟩:=I.ba l _ hH;exact⟨z,its,n,r,r.length,e⟩
def zu(h:n<=sizeLine):Builtin.List.listTooLong n=false:=by unfold Builtin.List.listTooLong;exact ab2 (by lia)
end
inductive Mb:V->q7->Hp->VK->Prop|mk{l xs y:_}{H Q:_}(_:H l=r6 xs)(_:xs.length<sizeLine)(_:Q .dj (ag H l (.lst (xs++[y])))):Mb (.ref l) [y] H Q
def bW:Y8 X "list.append" Mb:=by intro b s Z H x i v us Q I d f h;obtain@⟨l,j,y,_,_,c,o,q⟩:=h;cases d;obtain⟨u,rfl,g⟩:=f.one;obtain⟨z,a,n,r,hl,e⟩:=I.AG c;refine am4 aa0 ⟨_,e,rfl⟩ F.entry_list_append (F.args_list_append_2 _ _) (list_append l a.toArray n u (by rw[T1];lia)) ⟨e,?_⟩;refine⟨.dj,_,I.SD (its':=a++[u]) c e (by simp) (r.append (.cons g .nil)) ?_,rfl,q⟩;rw[i5,al5];lia
inductive MR:V->q7->Hp->VK->Prop|mk{l b xs zs:_}{H Q:_}(_:H l=r6 xs)(_:H b=r6 zs)(_:xs.length+zs.length<=sizeLine)(_:Q .dj (ag H l (.lst (xs++zs)))):MR (.ref l) [.ref b] H Q
def CY:Y8 X "list.extend" MR:=by
 intro g s Z H x C v us Q I j o h;obtain@⟨l,b,D,E,_,_,i,p,G,q⟩:=h;cases j;obtain⟨u,rfl,t⟩:=o.one;cases t;obtain⟨z,c,n,r,hl,e⟩:=I.AG i;obtain⟨J,a,w,y,A,B⟩:=I.AG p;have f:c.toArray.size+a.toArray.size<=sizeLine:=by rw[T1,T1];lia
 have d:¬(!c.toArray.isEmpty && Builtin.List.listTooLong (c.toArray.size+a.toArray.size))=true:=by rw[zu f,Bool.and_false];exact Z7
 refine am4 F.slot_list_extend ⟨_,e,rfl⟩ F.entry_list_extend (F.args_list_extend_2 _ _)
  (AutoSeq1.list_extend_list_list_0 l c.toArray n b a.toArray w d (by rw[T1];lia) (by lia)) ⟨e,B,?_⟩
 refine⟨.dj,_,I.SD (its':=c++a) i e (by simp) (r.append y) ?_,rfl,q⟩;rw[i5];omega
inductive Y0:V->q7->Hp->VK->Prop|mk{l xs y:_}{H Q:_}(_:H l=r6 xs)(_:xs[xs.length-1]?=some y)(_:Q y (ag H l (.lst xs.dropLast))):Y0 (.ref l) [] H Q
def qJ:Y8 X "list.pop" Y0:=by
 intro d s Z H x t v us Q I g i h;obtain@⟨l,w,y,_,_,f,j,q⟩:=h;cases g;have b:=i.zero;subst b;obtain⟨z,a,n,r,hl,e⟩:=I.AG f;obtain⟨u,o,p⟩:=r.get j;have c:a.toArray[a.toArray.size-1]?=some u:=by show a.toArray[a.length-1]?=some u;rw[<- Array.getElem?_toList,<- hl];exact o
 refine am4 aj1 ⟨_,e,rfl⟩ F.entry_list_pop (F.args_list_pop_1 _) (MeetsSeq.list_pop_last l a.toArray n u c (by rw[T1];lia)) ⟨e,?_⟩;refine⟨y,_,I.SD (its':=a.dropLast) f e (by show a.toArray.eraseIdxIfInBounds (a.toArray.size-1)=a.dropLast.toArray;rw[T1,List.eraseIdxIfInBounds_toArray,z7]) r.dropLast (by rw[af9];lia),p,q⟩
inductive YW:V->V->Hp->VK->Prop|mk{l b xs zs:_}{H Q:_}(_:H l=r6 xs)(_:H b=r6 zs)(_:xs.length+zs.length<=sizeLine)(_:∀p,H p=none->Q (.ref p) (ag H p (.lst (xs++zs)))):YW (.ref l) (.ref b) H Q
def gM:mL X (binaryOp .Add) YW:=by
 intro d s Z H x y v u Q I f g h;obtain@⟨l,b,A,B,_,_,i,j,C,q⟩:=h;cases f;cases g;obtain⟨z,c,n,r,hl,e⟩:=I.AG i;obtain⟨D,a,E,o,p,t⟩:=I.AG j;refine P.add_list e t ?_ (by rw[T1,T1];lia);have w:c.toArray++a.toArray=(c++a).toArray:=by simp
 exact w▸⟨.ref _,_,I.JS (t':=s.toks) (r.append o) (by rw[i5];lia),rfl,q _ I.fresh⟩
inductive ZK:V->V->Hp->VK->Prop|mk{l k xs:_}{H Q:_}(_:H l=r6 xs)(_:-(2 ^ 63)<=k)(_:k<2 ^ 63)(_:xs.length*k.toNat<=sizeLine)(_:∀p,H p=none->Q (.ref p) (ag H p (.lst (List.replicate k.toNat xs).flatten))):ZK (.ref l) (.int k) H Q
def len_rep{α:Type}(xs:List α)(k:Nat):(List.replicate k xs).flatten.length=k*xs.length:=by
 induction k with
 |zero=>simp
 |succ k ih=>rw[ag6,am1,i5,ih,Nat.succ_mul,Nat.add_comm]
def EW:mL X (binaryOp .Mult) ZK:=by
 intro p s Z H x y v u Q I A B h;obtain@⟨l,k,K,_,_,C,D,E,w,q⟩:=h;cases A;obtain⟨t,rfl⟩:=B;obtain⟨z,b,n,r,hl,e⟩:=I.AG C;have d:b.toArray.size*k.toNat<=sizeLine:=T1▸hl▸w
 have f:¬b.toArray.size*k.toNat>(2 ^ 63-1) / 8:=by
  have:(sizeLine:Nat)<=(2 ^ 63-1) / 8:=by decide
  lia
 have g:¬(!Builtin.List.listFitsIndex k)=true:=by rw[fitsIndex_both D E];exact Z7
 have c:¬Builtin.List.listTooLong (b.toArray.size*k.toNat)=true:=by rw[zu d];exact Z7
 have i:List.foldl (λj o=>j++o) #[] (List.replicate (if b.toArray.isEmpty=true then 0 else k.toNat) b.toArray)=(List.replicate k.toNat b).flatten.toArray:=by
  have G:∀m,List.foldl (λj o=>j++o) #[] (List.replicate m b.toArray)=(List.replicate m b).flatten.toArray:=λm=>by have:=foldl_rep b m [];rw[ao4] at this;exact this
  rw[G];cases b with
  |nil=>simp
  |cons a r'=>rw[C5 (by simp)]
 refine wpAny_binaryOp_repeat_ref (T:="list") (U:="int") (by decide) ⟨_,e,rfl⟩ (λJ=>typeIs_int J k t) noFill_list_mul F.fills_int_mul F.slot_int_rmul repeat_list F.slot_int_index.lookup
  (am4 F.slot_int_rmul (typeIs_int s k t) F.entry_int_rmul (F.args_int_rmul_2 _ _) (int___rmul___int_list k t l b.toArray n)
   ⟨e,rfl,⟨_,e,rfl⟩,am4 F.slot_list_mul ⟨_,e,rfl⟩ F.entry_list_mul (F.args_list_mul_2 _ _) (AutoListH.list___mul___list_int_3 l b.toArray n k t g f c) ⟨e,?_⟩⟩)
 exact i▸⟨.ref _,_,I.JS (t':=s.toks) (r.rep k.toNat) (by rw[len_rep,Nat.mul_comm];exact w),rfl,q _ I.fresh⟩
end L2
namespace Att
open PySem PySem.W PySem.Calls PyProof.Rows
def rK:∀(ns:c9) (vs:c8),WellAll P h vs (ns.map WData.int)->IntsAre vs ns:=by
 intro ns;induction ns with
 |nil =>
  intro vs w;rw[List.map_nil] at w;cases w;exact .nil
 |cons n ns ih =>
  intro vs w;rw[ab5] at w;cases w with
  |cons a b =>
   cases a;exact .cons _ _ (ih _ b)
def Eg{l:OpenLaw}(hn:l.most=some n)
  (hpre:l.row.toRowW.claim.pre args=true) (hwl:WellAll P h vals args) :
  ∃a vs ns,vals=[Value.ref a]/\args=[WData.list (ns.map WData.int)]/\h.get? a=some { cls:=.type "list",data:=.seq vs.toArray }/\IntsAre vs ns/\ns.length<=n:=by
 have g:l.pre.holds [] { args:=args }=true:=(pre_splitW hpre).2;obtain⟨d,r,rfl,i,j⟩:=hasAllW_cons ((pre_splitW hpre).1);obtain rfl:=hasAllW_nil j;obtain⟨s,rfl,o⟩:=hasW_list i;obtain⟨ns,rfl⟩:=items_int o;have b:ns.length<=n:=by
  unfold OpenLaw.pre at g;have c:(WTm.not (.lt (.lit (.int (n:Int))) (.len (.arg 0)))).holds [] { args:=[.list (ns.map .int)] }=true:=by have c:=(holds_andW g).1;rw[hn] at c;exact c
  have e:=condW_of c (w_not (w_lt w_lit (w_len_list (w_arg rfl))));rw[d5] at e;refine Nat.le_of_not_lt λq=>?_;have p:(n:Int)<((ns.length:Nat):Int):=by omega
  first
   | (rw[ab4 p] at e;exact absurd e (by decide))
   | (simp at e;lia)
 cases hwl with
 |cons w1 w2 =>
  cases w2;cases w1 with
  |list ho hall=>exact⟨_,_,ns,rfl,rfl,ho,rK ns _ hall,b⟩
def CN(l:OpenLaw)(args:List WData):l.row.toRowW.claim.post args (.bool true) args=true :=
 postW_of (r:=l.row.toRowW) (X:=(true == true))
  (show WShape.has [] (.bool true) .bool=true by first | rfl | decide | simp[WShape.has,WShape.arms,WShape.armsAll])
  (show (WTm.eq .res (.lit (.bool true))).value [] { args:=args,res:=some (.bool true),after:=args }=some (.bool (true == true)) from w_eq_bool (w_res rfl) w_lit) rfl
def yJ{l:OpenLaw}
  (hn:l.most=some n) (hdf:d.params.defaults=[])
  (call:∀(w:World) (s₀ s₁:Shared) (mg mb:g6) (fa:Addr) (o:Obj) (pm cd doc:Value) (a:Addr) (vs:c8) (ns:c9),
   Ground q loose [] XP w s₀ mg mb s₁.heap->YP w s₁.heap ->
   s₁.heap.get? fa=some o->o.data = .func (docDef d.name d.params d.body d.scope pm cd doc)->s₁.heap.CodeRec cd d.name->mg d.name=some (.ref fa) ->
   s₁.heap.get? a=some { cls:=.type "list",data:=.seq vs.toArray }->IntsAre vs ns->ns.length<=n->s₁.gens = #[] ->
   codeAny (model l.prog w) callerA (.call (.ref fa) ⟨[.ref a],[]⟩) (λr s'=>r = .ok (.ret (.bool true))/\OldK s₁.heap s'.heap/\s'.os=s₁.os/\AllBare s'.gens) s₁) :
  WalkO q loose XP YP l.row.toRowW d [] (λf vs=>PySem.call f vs):=by
 intro w s₀ s₁ mg mb G Y fa o pm cd doc v kV x y h p i z s t I c u A j B;obtain rfl:v = .none:=Dflts.none p hdf;obtain rfl:kV = .none:=Dflts.noKw p;obtain⟨a,vs,ns,rfl,rfl,e,b,g⟩:=Eg hn c j;refine enter_call (codeAny_mono (call w s₀ s₁ mg mb fa o pm cd doc a vs ns G Y x (fd_plain y) h i e b g z) λr s' C=>?_);obtain⟨rfl,D,E,F⟩:=C;exact⟨.inl ⟨.bool true,.bool true,[],rfl,λ_=>rfl,.bool true,CN l _,λ_=>⟨List.Pairwise.nil,λ_ H=>(nomatch H)⟩⟩,D,E,F⟩
section
variable {E:Value->Shared->Prop}{K:Frag}
noncomputable def tV(h:Heap):Heap:={ h with objs:=#[] }
def lq(h:Heap)(b:Addr):(tV h).get? b=none:=by
 cases e:(tV h).get? b with
 |none=>rfl
 |some o=>exact absurd (P2 e) (Nat.not_lt_zero _)
def UM(n:h.Ns L m):Fr (tV h) L h m :=
 ⟨n,λb o e=>(by rw[lq] at e;cases e),Z9 _⟩
end
end Att
namespace L2
open PySem PySem.Spec PyProof.Rows
theorem v5:∀{vs:c8} {ns:c9},IntsAre vs ns->Vals (ns.map V.int) vs
 |_,_,.nil=>.nil
 |_,_,.cons n t h=>.cons ⟨t,rfl⟩ (v5 h)
def Vd(H:Hp):Prop:=∀b,H b=none\/∃o a,H b=some (.mC o (.lst a))
def KS{K:W.Frag}
  (KX:K.In s₁.heap) (hns:s₁.heap.Ns mainGlobals mg) (hb:s₁.heap.Ns builtinsNs mb) (hbb:∀x:Str,x ≠ "__name__" -> mb x=bootBuiltins x) (hlim:s₁.heap.NoLimit) (hg:s₁.gens = #[])
  (ha:s₁.heap.get? a=some { cls:=.type "list",data:=.seq vs.toArray }) (hi:IntsAre vs ns) (hl:ns.length<=sizeLine) (hr:gI k callerA)
  (F:∀ap:Heap,K.In ap->ap.Ns mainGlobals mg->bE P w K mg ap CX k fa fd [x] sp) (hbind:∀(s:Shared) (u:Value),BindsTo s fd ⟨[u],[]⟩ [(x,u)])
  (hsp:∀H:Hp,Vd H->aV K H a (ns.map V.int)->sp [.ref a] H (λv _=>v = .bl true) λ_ _ _=>False)
  (hCX:∀H e s',CX [] H s₁ (λ_ _ _=>False) e s'->False) :
  codeAny (model P w) callerA (.call (.ref fa) ⟨[.ref a],[]⟩) (λr s'=>r = .ok (.ret (.bool true))/\OldK s₁.heap s'.heap/\s'.os=s₁.os/\AllBare s'.gens) s₁:=by
 have B:=v5 hi;have g:∀H,Vd H->aV K H a (ns.map V.int)->lR P w H s₁.heap->(∀b,H b≠none->b=a)->(H a≠none->K.lookup a=none) ->
   codeAny (model P w) callerA (.call (.ref fa) ⟨[.ref a],[]⟩) (λr s'=>r = .ok (.ret (.bool true))/\OldK s₁.heap s'.heap/\s'.os=s₁.os/\AllBare s'.gens) s₁:=by
  intro H C G ba D I;have c:∀{b:Addr} {o:Obj},s₁.heap.get? b=some o->H b=none->(wZ s₁.heap H).get? b=some o:=λe n=>Hr e n;have y:∀{b:Addr} {o:Obj} {j:Array DictEntry} {ep:Nat},s₁.heap.get? b=some o->o.data = .dict j ep->H b=none:=λ{b o j ep} e d=>by
   cases q:H b with
   |none=>rfl
   |some u =>
    have A:=D b (by rw[q];simp);subst A;rw[ha] at e;cases e;have J:=d;cases J
  have f:∀{b:Addr} {m:g6},s₁.heap.Ns b m->(wZ s₁.heap H).Ns b m:=λ{b m} ⟨o,j,ep,e,d,r⟩=>⟨o,j,ep,c e (y e d),d,r⟩
  have l:K.In (wZ s₁.heap H):=λb o e=>c (KX b o e) (by
   cases q:H b with
   |none=>rfl
   |some u =>
    have A:=D b (by rw[q];simp);subst A;rw[I (by rw[q];simp)] at e;cases e)
  have M:AW P w K mg (wZ s₁.heap H) callerA [] s₁ H:=⟨rfl,⟨l,f hns,⟨mb,f hb,hbb⟩,let ⟨mc,h1,h2⟩:=hlim;⟨mc,f h1,h2⟩⟩,λb o e=>LY e,ap0 (DQ _ _),trivial,λb hb=>absurd (show b∈([]:c6) from hb) (by simp),ba,.of_eq hg⟩
  refine codeAny_mono ((F _ l (f hns)).run callerA [] s₁ H ⟨[.ref a],[]⟩ [.ref a] [.ref a] _ _ hr M (hbind s₁ (.ref a)) (.cons rfl .nil) (hsp H C G)) λr s' h=>?_;cases r with
  |error e=>exact(hCX H e s' h).elim
  |ok fl =>
   cases fl with
   |next=>exact False.elim h
   |brk=>exact False.elim h
   |cont=>exact False.elim h
   |ret u =>
    obtain⟨v,T,os,ax,un,p,N,q⟩:=h;have O:=q;subst O;obtain rfl:u=Value.bool true:=N;refine⟨rfl,OldK.of_keep λb o e=>?_,os,ax⟩;cases q:H b with
    |none=>exact un.keep b o e q (by intro z;exact absurd (show b∈([]:c6) from z) (by simp)) (by simp)
    |some u =>
     rcases C b with z|⟨Q,U,z⟩
     .rw[q] at z;cases z
     .obtain⟨E,_⟩:=ba b _ z;obtain⟨S,_⟩:=p b _ (un.pR b Q _ z);rw[e] at E;cases E;exact S
 cases hk:K.lookup a with
 |some o =>
  have e:=KX a o hk;rw[ha] at e;cases e;refine g (λ_=>none) (λ_=>.inl rfl) (.inr ⟨_,vs.toArray,_,hk,rfl,rfl,rfl,T1▸hi.length▸hl,by simpa using B⟩) (λb u z=>by have t:=z;cases t) (λb z=>absurd rfl z) λz=>absurd rfl z
 |none =>
  refine g (λb=>if b=a then some (.mC { cls:=.type "list",data:=.seq vs.toArray } (.lst (ns.map V.int))) else none) (λb=>?_) (.inl (.inr ⟨{ cls:=.type "list",data:=.seq vs.toArray },w4 rfl⟩)) (λb u z=>?_) (λb z=>?_) λ_=>hk
  .by_cases hb:b=a
   .exact .inr ⟨_,_,w4 hb⟩
   .exact .inl (C5 hb)
  .by_cases hb:b=a
   .have t:=(w4 hb).symm.trans z;cases t;subst hb;exact⟨ha,by rw[d5];exact hl,vs,_,B,ha⟩
   .have t:=(C5 hb).symm.trans z;cases t
  .by_cases hb:b=a
   .exact hb
   .exact absurd (C5 hb) z
def LD{l:W.OpenLaw}{K:Params->W.Frag}{CX:World->vR}{sp:World->Sp}
  (hn:l.most=some n) (hn2:n<=sizeLine) (hdf:d.params.defaults=[]) (hr:gI k callerA)
  (hY:∀(w:World) (h:Heap),YP w h->(K w.params).In h)
  (F:∀(w:World) (mg:g6) (fa:Addr) (h:Heap),(K w.params).In h->h.Ns mainGlobals mg->mg d.name=some (.ref fa) ->
   ∃fd:FuncData,(∀(s:Shared) (u:Value),BindsTo s fd ⟨[u],[]⟩ [(x,u)]) /\
    ∀ap:Heap,(K w.params).In ap->ap.Ns mainGlobals mg->bE l.prog w (K w.params) mg ap (CX w) k fa fd [x] (sp w))
  (hsp:∀(w:World) (H:Hp) (a:Addr) (ns:c9),ns.length<=n->Vd H->aV (K w.params) H a (ns.map V.int)->sp w [.ref a] H (λv _=>v = .bl true) λ_ _ _=>False)
  (hCX:∀(w:World) (H:Hp) (s:Shared) (e:Value) (s':Shared),CX w [] H s (λ_ _ _=>False) e s'->False) :
  W.WalkO q loose XP YP l.row.toRowW d [] (λf vs=>call f vs):=by
 refine Att.yJ hn hdf λw I t mg J fa o L M y a vs ns G Y N O z p j i c A=>?_;have r:=hY w _ Y;obtain⟨fd,B,C⟩:=F w mg fa _ r G.T.g p;exact KS r G.T.g G.T.b G.T.builtins G.T.nolimit A j i (ac2 c hn2) hr C B (λH D E=>hsp w H a ns c D E) λH e s'=>hCX w H t e s'
noncomputable def inClass(s:Stmt)(j:Nat):Stmt:=match s with
 |.ClassDef _ _ _ body _ _ _ _ _ _ _=>body.getD j (.Pass ⟨0,0,0,0⟩)
 |_=>.Pass ⟨0,0,0,0⟩
noncomputable def rV(s:Stmt):Arguments:=match s with
 |.FunctionDef _ a _ _ _ _ _ _ _ _=>a
 |_=>{ posonlyargs:=[],args:=[],vararg:=none,kwonlyargs:=[],kw_defaults:=[],kwarg:=none,defaults:=[] }
noncomputable def nP(s:Stmt):List Stmt:=match s with
 |.FunctionDef _ _ b _ _ _ _ _ _ _=>b
 |_=>[]
noncomputable def az(s:Stmt):Scope:=match s with
 |.FunctionDef _ _ _ _ _ _ sc _ _ _=>sc
 |_=>{ kind:=.function,names:=[],isGenerator:=false,isCoroutine:=false }
abbrev dJ:vR:=λ_ _ _ _ _ _=>False
abbrev E0:XK:=λ_ _ _=>False
def aH:Passes dJ X E0:=λ_ _ _ _ _ _ _ h=>h.elim
structure dI(K:W.Frag)(x qual:Str)(st:Stmt)(f:Addr)(fd:FuncData):Prop where
 ex:∃(oc:Value) (od:Option Addr) (kV doc pm:Value) (an:Option Addr) (cdv ct:Value) (osl:Array (Option Value)),
  fd=W.fnOf x qual (rV st) (nP st) (az st) .none kV doc pm an cdv ct/\K.lookup f=some ⟨oc,od,.func fd,osl⟩/\W.codeIn K cdv qual=true
 kp:W.keepIn K (.ref f)=true
section
variable {P:Program}{K:PySem.W.Frag}
def dI.ok{st:Stmt}(F:dI K x qual st f fd)(S:aI N ps (az st))(h:∀vs H Q E,sp vs H Q E->vs.length=ps.length/\∀(cdv:Value) (A:Around) (outer:List Env) (s:Shared),gI k (A.deeper (envOfC qual (az st) s.heap.objs.size f cdv))->∃t,AI (kW dJ P w K mg ap N qual (az st) f cdv A outer s H E).YJ (nP st) t/\t { nx:=λ_ H'=>Q .dj H',rt:=Q } (start N vs) H):bE P w K mg ap dJ (k+1) f fd ps sp:=by obtain⟨g,i,kV,c,j,l,cdv,n,d,rfl,e,a⟩:=F.ex;refine Qu e a S (λvs H Q E z=>(h vs H Q E z).1) λA outer s H vs Q E hr b=>?_;obtain⟨t,h,q⟩:=(h vs H Q E b).2 cdv A outer s hr;exact⟨t,h.YJ,q⟩
def dI.binds{st:Stmt}(F:dI K x qual st f fd)
  (h:∀(kV doc pm:Value) (an:Option Addr) (cdv ct:Value) (us:c8),us.length=ps.length->bindArgs (W.fnOf x qual (rV st) (nP st) (az st) .none kV doc pm an cdv ct) ⟨us,[]⟩=pure (ps.zip us)):Binds K fd ps []:=by
 obtain⟨c,d,kV,doc,pm,an,cdv,ct,a,rfl,e,b⟩:=F.ex;exact .all (h kV doc pm an cdv ct)
abbrev Bz0(x qual:Str)(st:Stmt)(ps:a9)(us:c8):Prop:=∀kV doc pm an cdv ct,bindArgs (W.fnOf x qual (rV st) (nP st) (az st) .none kV doc pm an cdv ct) ⟨us,[]⟩=pure (ps.zip us)
def dI.b0{st:Stmt}(F:dI K x qual st f fd)(h:autoParam (Bz0 x qual st ps []) cw._auto_1)(e:autoParam (ps.length=0) cw._auto_1):Binds K fd ps []:=F.binds λ_ _ _ _ _ _ us hl=>by rw[e] at hl;rcases us with _|_ <;> first|exact h ..|simp at hl
def dI.b1{st:Stmt}(F:dI K x qual st f fd)(h:autoParam (∀a:Value,Bz0 x qual st ps [a]) cw._auto_1)(e:autoParam (ps.length=1) cw._auto_1):Binds K fd ps []:=F.binds λ_ _ _ _ _ _ us hl=>by rw[e] at hl;rcases us with _|⟨a,_|_⟩ <;> first|exact h ..|simp at hl
def dI.b2{st:Stmt}(F:dI K x qual st f fd)(h:autoParam (∀a b:Value,Bz0 x qual st ps [a,b]) cw._auto_1)(e:autoParam (ps.length=2) cw._auto_1):Binds K fd ps []:=F.binds λ_ _ _ _ _ _ us hl=>by rw[e] at hl;rcases us with _|⟨a,_|⟨b,_|_⟩⟩ <;> first|exact h ..|simp at hl
def dI.b3{st:Stmt}(F:dI K x qual st f fd)(h:autoParam (∀a b c:Value,Bz0 x qual st ps [a,b,c]) cw._auto_1)(e:autoParam (ps.length=3) cw._auto_1):Binds K fd ps []:=F.binds λ_ _ _ _ _ _ us hl=>by rw[e] at hl;rcases us with _|⟨a,_|⟨b,_|⟨c,_|_⟩⟩⟩ <;> first|exact h ..|simp at hl
def dI.b4{st:Stmt}(F:dI K x qual st f fd)(h:autoParam (∀a b c d:Value,Bz0 x qual st ps [a,b,c,d]) cw._auto_1)(e:autoParam (ps.length=4) cw._auto_1):Binds K fd ps []:=F.binds λ_ _ _ _ _ _ us hl=>by rw[e] at hl;rcases us with _|⟨a,_|⟨b,_|⟨c,_|⟨d,_|_⟩⟩⟩⟩ <;> first|exact h ..|simp at hl
def dI.b5{st:Stmt}(F:dI K x qual st f fd)(h:autoParam (∀a b c d e:Value,Bz0 x qual st ps [a,b,c,d,e]) cw._auto_1)(e:autoParam (ps.length=5) cw._auto_1):Binds K fd ps []:=F.binds λ_ _ _ _ _ _ us hl=>by rw[e] at hl;rcases us with _|⟨a,_|⟨b,_|⟨c,_|⟨d,_|⟨e,_|_⟩⟩⟩⟩⟩ <;> first|exact h ..|simp at hl
def dI.b6{st:Stmt}(F:dI K x qual st f fd)(h:autoParam (∀a b c d e g:Value,Bz0 x qual st ps [a,b,c,d,e,g]) cw._auto_1)(e:autoParam (ps.length=6) cw._auto_1):Binds K fd ps []:=F.binds λ_ _ _ _ _ _ us hl=>by rw[e] at hl;rcases us with _|⟨a,_|⟨b,_|⟨c,_|⟨d,_|⟨e,_|⟨g,_|_⟩⟩⟩⟩⟩⟩ <;> first|exact h ..|simp at hl
def Ar{st:Stmt}{kV doc pm cdv ct:Value}(l:K.lookup f=some ⟨oc,od,.func (W.fnOf x qual (rV st) (nP st) (az st) .none kV doc pm an cdv ct),osl⟩)
  (c:W.codeIn K cdv qual=true) (k:W.keepIn K (.ref f)=true):dI K x qual st f (W.fnOf x qual (rV st) (nP st) (az st) .none kV doc pm an cdv ct):=⟨⟨oc,od,kV,doc,pm,an,cdv,ct,osl,rfl,l,c⟩,k⟩
end
def cS(hr:gI k A):A.units+1<cLine:=ak7 (an7 (by decide:1<=64) _) hr.units
def pv (i:Nat) {x:Str} {pos:Pos} (hN:autoParam (X.N[i]?=some x) cw._auto_1) (hv:autoParam (X6 X.env.scope x) cw._auto_1) (hd:autoParam ((x == ("__debug__" : Str))=false) cw._auto_1)
  (hcd:autoParam ((x == ("__classdict__" : Str))=false) cw._auto_1):PE X (.Name x pos) (LG i):=Rq hN hv hd hcd
def mH{A B:Prop}(h:B):if false=true then A else B:=by rw[C5 Z7];exact h
def zA{A B:Prop}(h:A):if true=true then A else B:=by rw[w4 rfl];exact h
def af(H H':Hp):Prop:=∀b o,H b=some o->H' b=some o
def af.refl(H:Hp):af H H:=λ_ _ h=>h
def af.trans(a:af H H1)(b:af H1 H2):af H H2:=λc o h=>b c o (a c o h)
def af.free(e:af H H')(h:H' l=Option.none):H l=Option.none:=by
 cases q:H l with
 |none=>rfl
 |some o =>
  rw[e l o q] at h;cases h
def af.seq{K:W.Frag}(e:af H H')(h:aV K H a xs):aV K H' a xs:=by
 rcases h with (h|⟨o,h⟩)|h
 .exact .inl (.inl (e _ _ h))
 .exact .inl (.inr ⟨o,e _ _ h⟩)
 .exact .inr h
end L2
set_option maxHeartbeats 4000000
namespace L2
open PySem PySem.Spec PyProof.Rows
structure adB(sc csc:Scope)(N xs:a9)(caps:List (Str×Nat)):Prop where
 cell:∀p∈csc.names,p.2 ≠ .cell
 kind:csc.kind = .function
 loc:∀p∈csc.names,p.2 = .local->csc.names.lookup p.1=some .local
 tg:∀x∈xs,csc.names.lookup x=some .local
 free:∀p∈csc.names,p.2 = .free->sc.names.lookup p.1=some .cell
 cap:∀p∈caps,N[p.2]?=some p.1/\csc.names.lookup p.1=some .free
 nd:(caps.map (·.1)++xs).Nodup
abbrev oN(sc csc:Scope)(N:a9)(x:Str)(caps:List (Str×Nat)):Prop:=adB sc csc N [x] caps
noncomputable def iS(env:Env):List (Str×NameKind)->List (Str×Addr)->List (Str×Addr)
 | [],cs=>cs
 | (n,k)::r,cs=>iS env r (if k == .free then (n,(env.cells.lookup n).getD 0)::cs else cs)
def uK(h:∀p∈sc.names,p.2 = .free->∃c,env.cells.lookup p.1=some c):closureFor sc env=pure (iS env sc.names []):=by
 obtain⟨o,names,g,c⟩:=sc;simp only[closureFor];have f:∀l b,(∀p∈l,p.2 = .free->∃c,env.cells.lookup p.1=some c) ->
   (forIn l b (λx r=>if (x.2 == NameKind.free)=true then (do let a <- cellOf env x.1;pure (ForInStep.yield ((x.1,a)::r))) else pure (ForInStep.yield r)):Sem (List (Str×Addr)))=pure (iS env l b):=by
  intro l;induction l with
  |nil=>intro b _;rfl
  |cons p r ih =>
   intro b s;obtain⟨n,k⟩:=p;rw[List.forIn_cons];have d:=λb=>ih b (λq t=>s q (Q1 _ t));by_cases i:(k == NameKind.free)=true
   .obtain⟨c,e⟩:=s (n,k) ab7 (by simpa using i);simp only[i,if_true,cellOf,e,iS,pure_bind,Option.getD_some];exact d _
   .have j:(k == NameKind.free)=false:=by simpa using i
    simp only[j,ao9,iS,pure_bind,ak6];exact d _
 have:=f names [] h;first
  | (rw[this];rfl)
  | (simp only[bind_pure];exact this)
  | (refine Eq.trans (bind_pure _) this)
theorem nW:∀(l:List (Str×NameKind)) (cs:List (Str×Addr)),(∀p∈l,p.2 = .free->∃c,env.cells.lookup p.1=some c)->(∀y c,cs.lookup y=some c->env.cells.lookup y=some c) ->
  ∀y c,(iS env l cs).lookup y=some c->env.cells.lookup y=some c
 | [],_,_,h2=>h2
 | (n,k)::r,cs,h1,h2=>by
  unfold iS;refine nW r _ (λq hq=>h1 q (Q1 _ hq)) ?_;by_cases hk:(k == NameKind.free)=true
  .obtain⟨c,e⟩:=h1 (n,k) ab7 (by simpa using hk);rw[w4 hk];intro y a h;rw[e] at h;rw[ae3] at h;cases hy:y == n with
   |true=>rw[hy] at h;simp at h;rw[an0 hy,<- h];exact e
   |false=>rw[hy] at h;exact h2 y a h
  .rw[C5 hk];exact h2
theorem pq:∀(l:List (Str×NameKind)) (cs:List (Str×Addr)) (y:Str),((y,NameKind.free)∈l\/∃c,cs.lookup y=some c)->∃c,(iS env l cs).lookup y=some c
 | [],_,_,h=>by
  rcases h with h|h
  .cases h
  .exact h
 | (n,k)::r,cs,y,h=>by
  unfold iS;refine pq r _ y ?_;by_cases hk:(k == NameKind.free)=true
  .rw[w4 hk];by_cases hy:(y == n)=true
   .exact .inr ⟨_,by rw[ae3,hy]⟩
   .have hy':(y == n)=false:=by simpa using hy
    rcases h with h|⟨c,h⟩
    .rcases Z5.mp h with z|z
     .cases z;simp at hy
     .exact .inl z
    .exact .inr ⟨c,by rw[ae3,hy'];exact h⟩
  .rw[C5 hk];rcases h with h|h
   .rcases Z5.mp h with z|z
    .cases z;simp at hk
    .exact .inl z
   .exact .inr h
abbrev fJ(X:Cx)(N':a9)(csc:Scope)(C:Addr)(s2:Shared)(H2:Hp)(fp:c6):Cx :=
 { X with N:=N',s₀:=s2,H₀:=H2,env:=compEnvC csc (iS X.env csc.names []) C X.env,outer:=X.stack,ex:=fp,fn:=λ_=>false,pn:=[],xe:=λ_ _=>False }
noncomputable def nv(caps:List (Str×Nat))(Z:St):St:=caps.map λp=>(Z[p.2]?).join
def yz(J:It)(caps:List (Str×Nat))(te:TE)(Z:St)(H1:Hp)(Q:VK):Prop:=∃W:Nat->Nat->q7->Hp->Prop,(∃m,W 0 m [] H1)/\∀i m a H,W i m a H ->
 (J.stop i H/\∀D,H D=none->Q (.ref D) (ag H D (.lst a)))\/(J.go i H/\a.length<sizeLine/\∀x b,J.UO i H x b->te (nv caps Z++[some x]) b λy d=>∃c,c<m/\W (i+1) c (a++[y]) d)
def Qw(caps:List (Str×Nat))(wi:TI)(te:TE):TE:=λZ H Q=>wi Z H λJ a=>yz J caps te Z a Q
theorem nq{env:Env}(hk:env.scope.kind = .function):∀{names:List (Str×NameKind)} {x:Str},(∀p∈names,p.2 = .free->env.kindOf p.1=some .cell)->names.lookup x=some .free ->
  (names.map λ(n,k)=>if (k == NameKind.free && env.scope.kind == .function && env.kindOf n == some .cell) then (n,NameKind.cell) else (n,k)).lookup x=some .cell
 | [],_,_,h=>by simp at h
 | (n,k)::r,x,hf,h=>by
  have ih:=@nq env hk r x (λp c=>hf p (Q1 _ c));show List.lookup x ((if (k == NameKind.free && env.scope.kind == .function && env.kindOf n == some .cell)=true then (n,NameKind.cell) else (n,k))::_)=_;cases hx:x == n with
  |true =>
   simp only[ae3,hx] at h;cases h;have:=hf (n,.free) ab7 rfl;have a:(env.scope.kind == ScopeKind.function)=true:=by rw[hk];rfl
   simp[ae3,hx,this,a]
  |false =>
   simp only[ae3,hx] at h;by_cases b:(k == NameKind.free && env.scope.kind == .function && env.kindOf n == some .cell)=true
   .rw[w4 b];simp only[ae3,hx];exact ih h
   .rw[C5 b];simp only[ae3,hx];exact ih h
theorem ia{env:Env}:∀{names:List (Str×NameKind)} {x:Str} {k':NameKind},
  (names.map λ(n,k)=>if (k == NameKind.free && env.scope.kind == .function && env.kindOf n == some .cell) then (n,NameKind.cell) else (n,k)).lookup x=some k'->(k' = .cell\/k' = .free)->(∀p∈names,p.2 ≠ .cell)->(x,NameKind.free)∈names
 | [],_,_,h,_,_=>by simp at h
 | (n,k)::r,x,k',h,hk,hn=>by
  have h:List.lookup x ((if (k == NameKind.free && env.scope.kind == .function && env.kindOf n == some .cell)=true then (n,NameKind.cell) else (n,k))::(r.map λ(n,k)=>if (k == NameKind.free && env.scope.kind == .function && env.kindOf n == some .cell) then (n,NameKind.cell) else (n,k)))=some k':=h;cases hx:x == n with
  |true =>
   have e:x=n:=an0 hx;subst e;by_cases a:(k == NameKind.free && env.scope.kind == .function && env.kindOf x == some .cell)=true
   .have:k = .free:=by simp only[ad4] at a;simpa using a.1.1
    subst this;exact ab7
   .rw[C5 a] at h;simp only[ae3,hx] at h;cases h;rcases hk with z|z
    .exact absurd z (hn _ ab7)
    .subst z;exact ab7
  |false =>
   refine Q1 _ ((@ia env r x k') ?_ hk λp b=>hn p (Q1 _ b));by_cases a:(k == NameKind.free && env.scope.kind == .function && env.kindOf n == some .cell)=true
   .rw[w4 a] at h;simp only[ae3,hx] at h;exact h
   .rw[C5 a] at h;simp only[ae3,hx] at h;exact h
def kR(caps:List (Str×Nat))(Z:St):(nv caps Z).length=caps.length:=by simp[nv]
def ahO(I:Inv X am Z H s)(ck:adB X.env.scope csc X.N xs caps)(hf:∀b∈fp,wk X am H b)
  (hfs:∀b∈fp,b<s.heap.objs.size) (hC:s.heap.objs.size<=C) (hk:∀b o,s.heap.get? b=some o->h4.get? b=some o) (hn:h4.Ns C m0) :
  Inv (fJ X (caps.map (·.1)++xs) csc C s H fp) [] (nv caps Z++xs.map λ_=>none) H { s with heap:=h4,toks:=t4 }:=by
 have d:∀y c,(iS X.env csc.names []).lookup y=some c->X.env.cells.lookup y=some c:=nW _ _ (λp D e=>I.ok.has p.1 (.inl (ck.free p D e))) (λy c h=>by simp at h);refine⟨⟨I.ok.mod,ck.kind,I.ok.glob,I.ok.blt,hC,λy z c g a=>I.ok.inj y z c (d y c g) (d z c a),λy O=>?_,λy c h=>(nomatch h),I.ok.hd,I.ok.frames,.inl rfl,λb j=>⟨?_,λy c h=>?_⟩,?_,?_,?_,?_,I.stack,I.rS⟩,rfl,I.ax,Un.kept hk,⟨m0,hn,λi y v g a R=>?_⟩,λy c h=>?_,I.ba.fresh hC,λy c h=>I.je y c (d y c h),λp D=>absurd D (by simp),I.ba.kept hk,?_⟩
 .have E:(csc.names.map λ(n,k)=>if (k == NameKind.free && X.env.scope.kind == .function && X.env.kindOf n == some .cell) then (n,NameKind.cell) else (n,k)).lookup y=some .cell\/(csc.names.map λ(n,k)=>if (k == NameKind.free && X.env.scope.kind == .function && X.env.kindOf n == some .cell) then (n,NameKind.cell) else (n,k)).lookup y=some .free:=O;refine pq _ _ y (.inl ?_);rcases E with z|z
  .exact ia z (.inl rfl) ck.cell
  .exact ia z (.inr rfl) ck.cell
 .exact Z6 (ab1 (hfs b j) hC)
 .exact(hf b j).2.2.2.2.1 y c (d y c h)
 .exact λb o e=>I.bs b o e
 .exact ac2 I.ok.MT I.sz
 .intro b o e j;rcases (hf b j).2.2.2.1 with z|z
  .exact I.ok.DY b o e z
  .exact absurd (ab1 (P2 (I.ok.bs b o e).1) z) (ah0 _)
 .intro b j z;rcases Z5.mp (I.sN b z) with e|e
  .exact(hf b j).2.1 e
  .exact(hf b j).2.2.1 e
 .have B:i<caps.length:=by
   by_cases B:i<caps.length
   .exact B
   .rw[U2 (by rw[kR];lia),kR] at a;rw[v3] at a;cases q:xs[i-caps.length]? with
    |none=>rw[q] at a;cases a
    |some k=>rw[q] at a;cases a
  rw[aa2 (by rw[d5];exact B),v3] at g;rw[aa2 (by rw[kR];exact B)] at a;unfold nv at a;rw[v3] at a;cases e:caps[i]? with
  |none=>rw[e] at g;cases g
  |some p =>
   rw[e] at g a;simp only[af7,ah5] at g a;subst g;obtain⟨P,t⟩:=ck.cap p (p0 e);have F:Z[p.2]?=some (some v):=by
    cases q:Z[p.2]? with
    |none=>rw[q] at a;cases a
    |some w=>rw[q] at a;simp at a;rw[a]
   have x:X.env.scope.names.lookup p.1=some .cell:=ck.free (p.1,.free) (ag8 t) rfl;obtain⟨m,_,hl⟩:=I.loc;obtain⟨u,r,l⟩:=hl p.2 p.1 v P F (.inr (.inl x));refine⟨u,r,?_⟩;rcases l with ⟨k,_⟩|⟨_,c,Q,z⟩
   .have L:X.env.scope.names.lookup p.1=some .local:=k;rw[x] at L;cases L
   .obtain⟨G,A⟩:=pq (env:=X.env) csc.names [] p.1 (.inl (ag8 t));have:G=c:=by have:=d p.1 G A;rw[Q] at this;exact(aa1 this).symm
    subst this;refine .inr ⟨.inl (nq I.ok.kind ck.free t),G,A,?_⟩;obtain⟨o,J,K⟩:=z;exact⟨o,hk _ _ J,K⟩
 .obtain⟨v,o,J,K⟩:=I.cell y c (d y c h);exact⟨v,o,hk _ _ J,K⟩
 .rw[i5,kR,i5,d5,d5]
noncomputable def tst(ifs:List Expr)(env:Env):Sem Bool:=forIn ifs true λc r=>if r=true then do let ok <- isTrue c env (eval c env);pure (ForInStep.yield ok) else pure (ForInStep.yield r)
def zF(J:Nat->Shared->Prop)
  (turn:∀n s,J n s->wpAny (model prog w) A (pyNext it) (λr s₁=>match r with
   |none=>R (.ok .next) s₁
   |some v=>wpAny (model prog w) A (letOwnedTupleGo target it v) (λ_ s₁=>wpAny (model prog w) A (assign target env v) (λ_ s₂=>wpAny (model prog w) A (tst ifs env) (λok s₂=>if ok=true then wpAny (model prog w) A (eval elt env) (λx s₃ =>
     wpAny (model prog w) A (call (.builtin "list.append") [acc,x]) (λ_ s₄=>∃m,m<n/\J m s₄) (λ_ _=>False) s₃)
     (λ_ _=>False) s₂ else ∃m,m<n/\J m s₂) (λ_ _=>False) s₂) (λ_ _=>False) s₁) (λ_ _=>False) s₁) (λ_ _=>False) s)
  (n:Nat) (h:J n s) :
  codeAny (model prog w) A (.compLoop (.ListComp elt [⟨target,iter,ifs,0⟩] scope pos) 0 it acc env) R s:=by
 refine codeAny_loop rfl J (λn s d=>?_) n h;show wpAny _ _ ((compTurn (.ListComp elt [⟨target,iter,ifs,0⟩] scope pos) 0 it acc env).onRaise (λx=>do noteFrame x env;theTreesLotGoes x)) _ _ s;refine wpAny_noted ?_;rw[compTurn_list];refine y0 (wpAny_standAt (y0 (ad3 (turn n s d) (λr s₁ b=>?_) λ_ _ a=>a.elim)));cases r with
 |none=>exact X2 b
 |some v =>
  refine y0 (ad3 b (λ_ e b=>?_) λ_ _ a=>a.elim);refine y0 (ad3 b (λ_ s₂ f=>y0 (ad3 f (λok s₃ c=>?_) λ_ _ a=>a.elim)) λ_ _ a=>a.elim);cases ok with
  |false=>exact X2 ⟨rfl,c⟩
  |true =>
   exact y0 (y0 (ad3 c (λx s₃ c=>y0 (ad3 c
    (λ_ s₄ g=>X2 (X2 ⟨rfl,g⟩)) λ_ _ a=>a.elim)) λ_ _ a=>a.elim))
def CI{a b:Nat}(h:a<b):a≠b:=Z6 h
def Ws(h:a<b):a≠b+1:=Z6 (Nat.lt_succ_of_lt h)
def Wd:a≠a+1:=Z6 (ak1 a)
def Ea(I:Inv X am Z H s)
  (J:Inv (fJ X N' csc C s H fp) pl Z' H' s') (hf:∀b∈fp,wk X am H b) (hC:s.heap.objs.size<=C) (hD:s.heap.objs.size<=D) (hDC:D≠C) (hs:Heap.SameBut C s'.heap h') (hv:Vals ys its) (hz:ys.length<=sizeLine)
  (hd:s'.heap.get? D=some { cls:=.type "list",data:=.seq its.toArray n }) (hDn:H' D=none):Inv X am Z (ag H' D (.lst ys)) { s' with heap:=h' }:=by
 have ne:∀b o,s.heap.get? b=some o->b≠C/\b≠D:=λb o e=>⟨Z6 (ab1 (P2 e) hC),Z6 (ab1 (P2 e) hD)⟩
 have u:=J.ap;have a:∀b o,H' b=some o->b≠D:=λb o e=>au e hDn;refine I.yR (s':={ s' with heap:=h' }) (ch:=fp) J.os ?_ ?_ J.ax λb d=>⟨(hf b d).2.2.2.1,(hf b d).2.1,(hf b d).2.2.2.2.1,(hf b d).2.2.2.2.2⟩
 .refine⟨λb o q n d g=>(hs.2 b (ne b o q).1).trans (u.keep b o q n d g),λb o q n d g=>by obtain⟨l,e⟩:=u.slot b o q n d g;exact⟨l,(hs.2 b (ne b o q).1).trans e⟩,λb o q n g=>by rw[aj (ne b o q).2];exact u.free b o q n g,λb o q g=>by obtain⟨p,e⟩:=u.there b o q g;exact⟨p,(hs.2 b (ne b o q).1).trans e⟩,λb i q=>by have:=u.tups b i q;rw[aj (a b _ this)];exact this,λb o i q=>by have:=u.pR b o i q;rw[aj (a b _ this)];exact this,λb j q=>by obtain⟨h,this⟩:=u.rL b j q;exact⟨h,by rw[aj (a b _ this)];exact this⟩⟩
 .intro b o e;by_cases d:b=D
  .subst d;rw[aa] at e;cases e;exact⟨hz,its,n,hv,(hs.2 b hDC).trans hd⟩
  .rw[aj d] at e;refine(J.ba b o e).stay (λc v r q=>(hs.2 c ?_).trans q) (λc q=>by rw[aj (a c _ q)];exact q) λc i q=>by rw[aj (a c _ q)];exact q
   have f:=J.free;rcases r with z|z
   .exact z▸au e f
   .exact au z f
def Xx(X:Cx)(ifs:List Expr)(t:TT):Prop:=∀a s Z H Q,Inv X a Z H s->t Z H Q->wpAny (model X.prog X.w) X.A (tst ifs X.env) (TP X a Z Q) X.xe s
def Bm:Xx X [] (λ_ H Q=>Q true H):=λ_ _ _ H _ I h=>wpAny_tests_nil ⟨H,I,h⟩
def Mw(h:PT X c t):Xx X [c] t:=λp s Z H Q I q=>wpAny_tests_one (h p s Z H Q I q)
def Bq(J:It)(caps:List (Str×Nat))(tt:TT)(te:TE)(Z:St)(H1:Hp)(Q:VK):Prop:=∃W:Nat->Nat->q7->Hp->Prop,(∃m,W 0 m [] H1)/\∀i m a H,W i m a H ->
 (J.stop i H/\∀D,H D=none->Q (.ref D) (ag H D (.lst a)))\/(J.go i H/\a.length<sizeLine/\∀x d,J.UO i H x d->tt (nv caps Z++[some x]) d λb e=>if b=true then te (nv caps Z++[some x]) e λy f=>∃c,c<m/\W (i+1) c (a++[y]) f else ∃c,c<m/\W (i+1) c a e)
def rR(caps:List (Str×Nat))(wi:TI)(tt:TT)(te:TE):TE:=λZ H Q=>wi Z H λJ a=>Bq J caps tt te Z a Q
def afO(J:It)(n:Nat)(caps:List (Str×Nat))(g:TG)(tt:TT)(te:TE)(Z:St)(H1:Hp)(Q:VK):Prop:=∃W:Nat->Nat->q7->Hp->Prop,(∃m,W 0 m [] H1)/\∀i m a H,W i m a H ->
 (J.stop i H/\∀D,H D=none->Q (.ref D) (ag H D (.lst a)))\/(J.go i H/\a.length<sizeLine/\∀x e,J.UO i H x e->∀f:St,f.length=n->g x (nv caps Z++f) e λd l=>∃h:St,h.length=n/\d=nv caps Z++h/\tt d l λb j=>if b=true then te d j λy o=>∃c,c<m/\W (i+1) c (a++[y]) o else ∃c,c<m/\W (i+1) c a j)
def aes(ck:adB sc csc N xs caps)(hi:PI X tg iter wi)(hg:∀C s2 H2 fp,PG (fJ X (caps.map (·.1)++xs) csc C s2 H2 fp) tg g)
  (ht:∀C s2 H2 fp,Xx (fJ X (caps.map (·.1)++xs) csc C s2 H2 fp) ifs tt) (he:∀C s2 H2 fp,PE (fJ X (caps.map (·.1)++xs) csc C s2 H2 fp) elt te) (hc:X.aw=true) (hsc:X.env.scope=sc) (hXN:X.N=N) (hs:∀x,foldedSetIterable iter X.env x=pure x)
       (I:Inv X am Z H s)  (hcw:∀J H1,CW' J H1->afO J xs.length caps g tt te Z H1 Q) (h:wi Z H CW') (use:Option (Value->Sem Unit)) (QQ:Value->Shared->Prop)
  (fin:∀(s2:Shared) (H2:Hp) (D C:Addr) (ys:q7) (H':Hp) (s4:Shared) (m:g6),Inv X am Z H2 s2->s2.heap.objs.size<=C->s2.heap.objs.size<=D->D≠C->s4.heap.Ns C m ->
   (∀h',Heap.SameBut C s4.heap h'->Inv X am Z (ag H' D (.lst ys)) { s4 with heap:=h' })->H' C=none->Q (.ref D) (ag H' D (.lst ys)) ->
   compPost (model X.prog X.w) X.A X.xe use QQ (.ref D) C (.ok .next) s4) :
  wpAny (model X.prog X.w) X.A (comprehension (.ListComp elt [⟨tg,iter,ifs,0⟩] csc pos) csc X.env ppos (newList []) false (eval iter X.env) use) QQ X.xe s:=by
 subst hsc hXN;have l:∀p∈csc.names,p.2 = .free->∃c,X.env.cells.lookup p.1=some c:=λp B e=>I.ok.has p.1 (.inl (ck.free p B e));refine wpAny_comprehension_free (use:=use) rfl hs (uK l) ck.kind ck.loc (dS (hi am s Z H _ I h) λv s1 h1=>dS h1 λitv s2 h2=>?_);obtain⟨it,fp,tn,J,H2,e,I2,T,st2,f2,hW⟩:=h2;obtain⟨W,⟨m0,w0⟩,turn⟩:=hcw _ _ hW;subst e;refine wpAny_newObj_type (wpAny_newFunctionEnv ck.cell (by intro y hy;simp at hy) (λh4 E t=>?_) ck.kind);dsimp only at E t ⊢;generalize hD:s2.heap.objs.size=D at E t ⊢;generalize hH2:s2.heap.push { cls:=.type "list",dict:=none,data:=.seq ([]:c8).toArray }=G at E t ⊢;have hGs:G.objs.size=D+1:=by rw[<- hH2,ai8,hD]
 rw[hGs] at E t ⊢;have U:∀b o,s2.heap.get? b=some o->b<D:=λb o e=>hD ▸ P2 e;have old:∀b o,s2.heap.get? b=some o->b≠D+1/\b≠D:=λb o e=>⟨Ws (U b o e),CI (U b o e)⟩
 have M:s2.heap.objs.size<=D:=ap0 hD;have O:s2.heap.objs.size<=D+1:=Nat.le_succ_of_le M;have K:∀b o,s2.heap.get? b=some o->h4.get? b=some o:=λb o e=>t.extBut b o (old b o e).1 (x0 _ (hH2 ▸ x0 _ e));have hDo:h4.get? D=some { cls:=.type "list",data:=.seq ([]:c8).toArray 0 }:=by refine t.extBut D _ Wd (x0 _ ?_);rw[<- hH2,<- hD];exact aa5 _ rfl
 have fps:∀b∈fp,b<s2.heap.objs.size:=λb j=>by obtain⟨o,e,_⟩:=T.obj _ _ st2 b j;exact P2 e
 have P:∀y c,(iS X.env csc.names []).lookup y=some c->c<D:=λy c e=>by obtain⟨v,o,ho,_⟩:=I2.cell y c (nW _ _ l (λy c h=>by simp at h) y c e);exact U c o ho
 have fsLt:∀b∈frs X.stack,b<D:=λb j=>by obtain⟨_,o,ho,_⟩:=I2.stack.mem j;exact U b o ho
 have fpC:∀{pl:f7} {H':Hp},(∀p∈pl,p.1=D)->(∀b∈fp,H' b=none)->∀b∈fp,wk (fJ X (caps.map (·.1)++xs) csc (D+1) s2 H2 fp) pl H' b:=λ{pl H'} hpl hn b j=>by
  have hb':b<D:=hD ▸ fps b j;refine⟨hn b j,Ws hb',?_,.inl j,λy c e=>?_,λp B=>?_⟩
  .intro z;rcases Z5.mp (I2.sN b z) with e|e
   .exact(f2 b j).2.1 e
   .exact(f2 b j).2.2.1 e
  .exact(f2 b j).2.2.2.2.1 y c (nW _ _ l (λy c h=>by simp at h) y c e)
  .have:p.1=D:=hpl p (by simpa using B);rw[this];exact λz=>CI hb' z.symm
 have loop:∀t4,codeAny (model X.prog X.w) X.A (.compLoop (.ListComp elt [⟨tg,iter,ifs,0⟩] csc pos) 0 (.ref it) (.ref D) (compEnvC csc (iS X.env csc.names []) (D+1) X.env))
   (compPost (model X.prog X.w) X.A X.xe use QQ (.ref D) (D+1)) { s2 with heap:=h4,toks:=t4 }:=by
  intro t4;refine zF (λn s'=>∃(i:Nat) (ys:q7) (a:c8) (k:Nat) (Z':St) (H':Hp),Inv (fJ X (caps.map (·.1)++xs) csc (D+1) s2 H2 fp) [(D,{ cls:=.type "list",data:=.seq a.toArray k })] Z' H' s'/\tn i s'.heap/\(∀b∈fp,H' b=none)/\Vals ys a/\ys.length<=sizeLine/\W i n ys H'/\(∃z:St,z.length=xs.length/\Z'=nv caps Z++z)) ?_ m0 ?_
  .rintro n s3 ⟨i,ys,a,k,Z3,H3,I3,st3,fr3,hv,hz,w3,z3,hz3,rfl⟩;have pl1:∀p∈[((D,{ cls:=.type "list",data:=.seq a.toArray k }):Addr×Obj)],p.1=D:=λp B=>by rw[B1.mp B]
   rcases turn i n ys H3 w3 with ⟨stop,qn⟩|⟨go,hlt,step⟩
   .refine ad3 (T.done (fJ X (caps.map (·.1)++xs) csc (D+1) s2 H2 fp) rfl rfl rfl hc i _ s3 _ H3 (λ_ _=>False) I3 (fpC pl1 fr3) st3 stop) (λr s4 R=>?_) λ_ _ f=>f.elim;obtain⟨hr,Y⟩:=R;subst hr;obtain⟨m,hn,_⟩:=id Y.loc;have L:=Y.pin (D,{ cls:=.type "list",data:=.seq a.toArray k }) (by simp);exact fin s2 H2 D (D+1) ys H3 s4 m I2 O M Wd hn (λh' hs'=>Ea I2 Y f2 O M Wd hs' hv hz L.1 L.2.1) Y.free (qn D L.2.1)
   .refine ad3 (T.item (fJ X (caps.map (·.1)++xs) csc (D+1) s2 H2 fp) rfl rfl rfl hc i _ s3 _ H3 (λ_ _=>False) I3 (fpC pl1 fr3) st3 go) (λr s4 R=>?_) λ_ _ f=>f.elim;obtain⟨u,hr,h4'⟩:=R;subst hr;refine ad3 h4' (λ_ s4 R=>?_) λ_ _ f=>f.elim;obtain⟨xv,H5,I5,r5,y5,S,fr5⟩:=R;refine ad3 (hg (D+1) s2 H2 fp _ s4 _ H5 xv u _ (I5.pinned (fpC pl1 fr5) (T.obj _ _ S)) r5 (step xv H5 y5 z3 hz3)) (λ_ s6 R=>?_) λ_ _ f=>f.elim;obtain⟨Z6,H6,I6,ws,hws,hZ,p6⟩:=R;subst hZ;refine ad3 (ht (D+1) s2 H2 fp _ s6 _ H6 _ I6 p6) (λok s6 R=>?_) λ_ _ f=>f.elim;obtain⟨H6,I6,q6⟩:=R;cases ok with
    |false =>
     obtain⟨m',hm,w8⟩:=q6;refine⟨m',hm,i+1,ys,a,k,_,H6,I6.jZ λp B=>?_,T.keep _ _ _ S λb j o e=>(I6.pin (b,o) (Z2 _ (Z2 _ (iX j e)))).1,λb j=>?_,hv,hz,w8,ws,hws,rfl⟩
     .rw[B1.mp B];exact (I6.pin (D,{ cls:=.type "list",data:=.seq a.toArray k }) (by simp))
     .obtain⟨o,e,d⟩:=T.obj _ _ S b j;exact(I6.pin (b,o) (Z2 _ (Z2 _ (iX j e)))).2.1
    |true =>
    refine ad3 (he (D+1) s2 H2 fp _ s6 _ H6 _ I6 q6) (λw7 s7 R=>?_) λ_ _ f=>f.elim;obtain⟨y,H7,I7,r7,m',hm,w8⟩:=R;have L:=I7.pin (D,{ cls:=.type "list",data:=.seq a.toArray k }) (by simp);have hll:=hv.length;refine am4 aa0 ⟨_,L.1,rfl⟩ F.entry_list_append (F.args_list_append_2 _ _) (PySem.list_append D a.toArray k w7 (by rw[T1];lia)) ⟨L.1,?_⟩;have q:=PySem.IsL.update L.1 (·.push w7);have hpush:a.toArray.push w7=(a++[w7]).toArray:=by simp
    rw[hpush] at q;obtain⟨k',q⟩:∃k',(s7.heap.update D (Obj.mapSeq (·.push w7))).get? D=some { cls:=.type "list",data:=.seq (a++[w7]).toArray k' }:=⟨_,q⟩
    have I7u:Inv (fJ X (caps.map (·.1)++xs) csc (D+1) s2 H2 fp) (qU fp s4.heap) _ H7 s7:=I7.jZ λp B=>I7.pin p (Z2 _ (Z2 _ B));have pfp:∀p∈qU fp s4.heap,p.1<D:=λp B=>hD ▸ fps p.1 (vF B).1;have I8:=I7u.turned (h':=s7.heap.update D (Obj.mapSeq (·.push w7))) (t':=s7.toks) (it:=D) (λb o j e=>(ab0 s7.heap _ (aa4 j)).trans e) L.2.1 Wd (.inr M) (λy c e=>CI (P y c e)) (λp B=>CI (pfp p (by simpa using B)));refine⟨m',hm,i+1,ys++[y],a++[w7],k',_,H7,I8.jZ λp B=>?_,T.keep _ _ _ S λb j o e=>(I8.pin (b,o) (Z2 _ (iX j e))).1,λb j=>?_,hv.append (.cons r7 .nil),?_,w8,ws,hws,rfl⟩
    .rw[B1.mp B];exact⟨q,L.2.1,L.2.2.1,L.2.2.2.1,λv=>by simp⟩
    .obtain⟨o,e,d⟩:=T.obj _ _ S b j;exact(I8.pin (b,o) (Z2 _ (iX j e))).2.1
    .rw[i5,al5];lia
  .refine⟨0,[],[],0,_,H2,((λt4=>ahO (m0:=λx=>[].reverse.lookup x) I2 ck f2 fps O K E) t4).jZ λp B=>?_,T.keep _ _ _ st2 λb j o e=>K b o e,λb j=>(f2 b j).1,.nil,Z9 _,w0,_,d5 _,rfl⟩;rw[B1.mp B];refine⟨hDo,I2.ba.fresh M,Wd,λz=>absurd (fsLt D z) (ah0 _),λv=>by simp⟩
 exact codeAny_compStart_list (loop _) (T.self _ 0 _ _ _ (T.keep _ _ _ st2 λb j o e=>K b o e) (loop _))
def yg(ck:oN sc csc N x caps)(hi:PI X (.Name x px) iter wi)
  (ht:∀C s2 H2 fp,Xx (fJ X (caps.map (·.1)++[x]) csc C s2 H2 fp) ifs tt) (he:∀C s2 H2 fp,PE (fJ X (caps.map (·.1)++[x]) csc C s2 H2 fp) elt te) (hc:X.aw=true) (hsc:X.env.scope=sc) (hXN:X.N=N) (hs:∀x,foldedSetIterable iter X.env x=pure x)
       (I:Inv X am Z H s) (h:rR caps wi tt te Z H Q) (use:Option (Value->Sem Unit)) (QQ:Value->Shared->Prop)
  (fin:∀(s2:Shared) (H2:Hp) (D C:Addr) (ys:q7) (H':Hp) (s4:Shared) (m:g6),Inv X am Z H2 s2->s2.heap.objs.size<=C->s2.heap.objs.size<=D->D≠C->s4.heap.Ns C m ->
   (∀h',Heap.SameBut C s4.heap h'->Inv X am Z (ag H' D (.lst ys)) { s4 with heap:=h' })->H' C=none->Q (.ref D) (ag H' D (.lst ys)) ->
   compPost (model X.prog X.w) X.A X.xe use QQ (.ref D) C (.ok .next) s4) :
  wpAny (model X.prog X.w) X.A (comprehension (.ListComp elt [⟨.Name x px,iter,ifs,0⟩] csc pos) csc X.env ppos (newList []) false (eval iter X.env) use) QQ X.xe s:=by
 have c:(caps.map (·.1)++[x])[caps.length]?=some x:=by rw[U2 (by simp)];simp
 have a:=ck.tg x ab7;refine aes (g:=p9 caps.length) ck hi (λC s2 H2 fp=>pQ ck.nd c (.inl (lookup_relabel_local a)) (.inr (lookup_relabel_local a))) ht he hc hsc hXN hs I (λJ o ⟨W,d,b⟩=>⟨W,d,λi m ys H f=>(b i m ys H f).imp id λ⟨go,hl,j⟩=>⟨go,hl,λy H' l p n=>?_⟩⟩) h use QQ fin;obtain⟨z,rfl⟩:=List.length_eq_one_iff.mp n;have e:(nv caps Z++[z]).set caps.length (some y)=nv caps Z++[some y]:=by rw[List.set_append_right _ _ (by rw[kR];exact N0 _),kR,Nat.sub_self];rfl
 exact⟨[some y],rfl,e,by rw[e];exact j y H' l⟩
def FN(ck:oN sc csc N x caps)(hi:PI X (.Name x px) iter wi)
  (ht:∀C s2 H2 fp,Xx (fJ X (caps.map (·.1)++[x]) csc C s2 H2 fp) ifs tt) (he:∀C s2 H2 fp,PE (fJ X (caps.map (·.1)++[x]) csc C s2 H2 fp) elt te) (hc:X.aw=true) (hsc:X.env.scope=sc) (hXN:X.N=N) (hs:∀x,foldedSetIterable iter X.env x=pure x) :
  PE X (.ListComp elt [⟨.Name x px,iter,ifs,0⟩] csc pos) (rR caps wi tt te):=λb s Z H Q I h=>by
 rw[eval_ListComp];exact yg ck hi ht he hc hsc hXN hs I h none _ λs2 H2 D C f g i m _ _ _ _ c d _ q=>⟨m,c,λe a=>⟨.ref D,_,d e a,rfl,q⟩⟩
def iM{sc csc:Scope}{N:a9}{elt iter:Expr}{x:Str}{px pos:Pos}{caps:List (Str×Nat)}{wi:TI}{te:TE}(ck:oN sc csc N x caps)(hi:PI X (.Name x px) iter wi)
  (he:∀C s2 H2 fp,PE (fJ X (caps.map (·.1)++[x]) csc C s2 H2 fp) elt te) (hc:autoParam (X.aw=true) cw._auto_1) (hsc:autoParam (X.env.scope=sc) cw._auto_1) (hXN:autoParam (X.N=N) cw._auto_1) (hs:autoParam (∀x,foldedSetIterable iter X.env x=pure x) cw._auto_1) :
  PE X (.ListComp elt [⟨.Name x px,iter,[],0⟩] csc pos) (Qw caps wi te):=FN ck hi (λ_ _ _ _=>Bm) he hc hsc hXN hs
def AK{ys:a9}:∀{us:c8},Vals (ys.map V.str) us->StrsAre us ys:=by
 induction ys with
 |nil=>intro us r;cases r;exact .nil
 |cons y r ih =>
  intro us h;cases h with
  |cons h t =>
   obtain⟨k,rfl⟩:=h;exact .cons _ _ (ih t)
inductive rJoin(K:W.Frag)(x:V)(vs:q7)(H:Hp)(Q:VK):Prop|mk(z p ys)(_:x = .str z)(_:vs=[.ref p])(_:aV K H p (ys.map V.str))(_:(ys.map (·.length)).sum+ys.length*z.length<=16777216)(_:Q (.str (Txt.join z ys)) H)
def CK:Su X "str.join" (rJoin X.K):=by intro a s Z H x j v us Q I b c h;obtain⟨z,p,l,rfl,rfl,d,e,q⟩:=h;obtain⟨t,rfl⟩:=b;obtain⟨u,rfl,f⟩:=c.one;cases f;obtain⟨g,r,i,_⟩:=I.list d;exact PyProof.Rows.join_list i.isList (by simpa using AK r) e λn k=>⟨.str _,H,I.tok _,⟨_,rfl⟩,q⟩
inductive yC:V->q7->Hp->VK->Prop|mk{a b i:_}{H Q:_}(_:Q (.bl (fromIndex a.length i+b.length<=a.length && Builtin.Str.subAt a b (fromIndex a.length i))) H):yC (.str a) [.str b,.int i] H Q
def zS:Su X "str.startswith" yC:=by intro d s Z H x n v us Q I e f h;obtain@⟨a,b,i,_,_,q⟩:=h;obtain⟨t,rfl⟩:=e;obtain⟨u,o,rfl,g,c⟩:=f.two;obtain⟨j,rfl⟩:=g;obtain⟨l,rfl⟩:=c;exact call_gives al0 (am6 _ _ _) F.entry_str_startswith (F.args_str_startswith_3 _ _ _) (gives_str_startswith_from a b i t j l) ⟨.bl _,H,I,rfl,q⟩
inductive zk:V->q7->Hp->VK->Prop|mk{a b:_}{H Q:_}(_:Q (.bl (0+b.length<=a.length && Builtin.Str.subAt a b 0)) H):zk (.str a) [.str b] H Q
def zX:Su X "str.startswith" zk:=by intro c s Z H x i v us Q I d e h;obtain@⟨a,b,_,_,q⟩:=h;obtain⟨t,rfl⟩:=d;obtain⟨u,rfl,f⟩:=e.one;obtain⟨g,rfl⟩:=f;exact call_gives al0 (am6 _ _ _) F.entry_str_startswith (F.args_str_startswith_2 _ _) (gives_str_startswith a b t g) ⟨.bl _,H,I,rfl,q⟩
def uy(z:Str):q7:=z.l.map λc=>V.str ⟨#[c]⟩
def zY(h:ItemsOf (SignAt z) acc z.cps.size):Vals (uy z) acc.toList:=by
 obtain⟨d,f⟩:=h;have b:∀(a:c7) (us:c8),us.length=a.length->(∀(i:Nat) (v:Value),us[i]?=some v->∃c u,a[i]?=some c/\v=Value.str ⟨#[c]⟩ u)->Vals (a.map λc=>V.str ⟨#[c]⟩) us:=by
  intro a;induction a with
  |nil=>intro us hl _;cases us with
   |nil=>exact .nil
   |cons _ _=>cases hl
  |cons c r ih =>
   intro us hl h;cases us with
   |nil=>cases hl
   |cons u r' =>
    refine .cons ?_ (ih r' (by simpa using hl) λi v e=>h (i+1) v (by simpa using e));obtain⟨l,t,e,z⟩:=h 0 u rfl;simp at e;subst e;exact⟨t,z⟩
 refine b _ _ (by simp[d]) λi v e=>?_;obtain⟨c,u,g,j⟩:=f i v (by simpa using e);exact⟨c,u,by simpa using g,j⟩
def Ae (hc:X.aw=true):gS X (.type "list") (λxs H Q=>∃z:Str,xs=[.str z]/\z.length<=sizeLine/\∀l,H l=none->Q (.ref l) (ag H l (.lst (uy z)))):=by intro b s Z H xs us Q I r h;obtain⟨z,rfl,c,q⟩:=h;obtain⟨u,rfl,d⟩:=vals1 r;obtain⟨t,rfl⟩:=d;refine call_list_str (I.ok.hd hc) z t (λf g a i kp e j=>?_) c;exact⟨.ref s.heap.objs.size,_,I.laid (t':=g) kp (N0 _) (show dz X.prog X.w _ f _ (.lst (uy z)) from ⟨by simp only[uy,d5,ah6];exact c,a.toList,i,zY j,by simpa using e⟩),rfl,q _ (I.ba.fresh (N0 _))⟩
def At(X:Cx)(D:Ends)(sts:List Stmt)(Z:St)(H:Hp):Prop:=∀a s,Inv X a Z H s->wpAny (model X.prog X.w) X.A (execs sts X.env) (SP X a D) X.xe s
section
variable {D:Ends}{st:Stmt}{rest sts:List Stmt}{t:TS}
def ay:AI X sts (λD Z H=>At X D sts Z H):=λa s Z H D I h=>h a s I
def bg(h:D.nx Z H):At X D [] Z H:=λ_ _ I=>ao7 ⟨Z,H,I,h⟩
def ak(h:PS X st t)(q:t { D with nx:=λZ H=>At X D rest Z H } Z H):At X D (st::rest) Z H:=λa s I =>
 (yd h ay) a s Z H D I q
def av(h:PS X st t)(q:t D Z H):At X D [st] Z H:=λa s I=>(MA h) a s Z H D I q
def wm(h:let Y:=X;let E:=D;At Y E sts Z H):∃t,AI X sts t/\t D Z H:=⟨λb c d=>b=D/\c=Z/\d=H,λa s c d b I ⟨e,f,g⟩=>by subst e f g;exact h a s I,rfl,rfl,rfl⟩
end
def dM[Decidable c]{A B:Prop}(h1:c->A)(h2:¬c->B):if decide c=true then A else B:=by
 by_cases h:c
 .rw[ab4 h];exact h1 h
 .rw[ab2 h];exact h2 h
def mq[Decidable c]{A B:Prop}(h1:¬c->A)(h2:c->B):if (!decide c)=true then A else B:=by
 by_cases h:c
 .rw[ab4 h];exact h2 h
 .rw[ab2 h];exact h1 h
def xM{A B:Prop}(h1:c=true->A)(h2:c=false->B):if c=true then A else B:=by
 cases c
 .exact h2 rfl
 .exact h1 rfl
def af.ag{p:Addr}{o:HO}(h:H p=none):af H (ag H p o):=λb u e=>by rw[aj (au e h)];exact e
def af.to(s:af H H1)(h:H1 p=none):af H (L2.ag H1 p o):=s.trans (af.ag h)
def aV.ae{K:W.Frag}(h:aV K H a xs)(e:af H H'):aV K H' a xs:=e.seq h
section
variable {x:Str}{p:Pos}
def Ke(C:Addr):TE:=λ_ H Q=>∀x a,H x=none->H a=none->a≠x->Q (.ref x) (ag (ag H a (.own x)) x (.ins C a []))
end
section
variable {x:Str}{p:Pos}
structure Yr(K:W.Frag)(C:Addr):Prop where
 makes:W.makesIn K C=true
 init:W.findIn K (.ref C) "__init__" = some (some (.builtin "object.__init__"))
 kp:W.keepIn K (.ref C)=true
def tW (M:Yr X.K C) (hg:Gl X x) (hm:X.mg x=some (.ref C)) (hdb:autoParam ((x == ("__debug__" : Str))=false) cw._auto_1):PE X (.Call (.Name x p) [] [] pos) (Ke C):=by
 intro f s Z H Q I h;refine ai7 (n6 I hg hm ?_ hdb);refine an8 I.uG M.kp (wpAny_call ?_);have i:=h (s.heap.objs.size+1) s.heap.objs.size (I.ba.fresh (al7 _)) (I.ba.fresh (N0 _)) (Z6 (ak1 _));refine Ec I.uG M.makes M.init (λc=>W.Looks.of_pure (W.oi_bind c)) ?_;obtain⟨a,g,d,t,r⟩:=s;have l:((a.push W.emptyDict).push (W.instObj C a.objs.size)).get? (a.objs.size+1)=some (W.instObj C a.objs.size):=by have:=aa5 (a.push W.emptyDict) (o:=W.instObj C a.objs.size) rfl;rwa [ai8] at this
 have n:W.Looks (model X.prog X.w) ((a.push W.emptyDict).push (W.instObj C a.objs.size)) (typeOf (.ref (a.objs.size+1))) (.ref C):=(W.Looks.ld l).andThen .now;have q:W.Looks (model X.prog X.w) ((a.push W.emptyDict).push (W.instObj C a.objs.size)) (isInstance (.ref (a.objs.size+1)) (.type "object")) true:=n.andThen ((W.makes_of (M:=model X.prog X.w) I.uG M.makes).top.keeps λb o e=>x0 _ (x0 _ e));refine codeAny_call_builtin W.oi_plain W.entry_oi (@W.check_slot (model X.prog X.w) _ _ _ "object.__init__" "object" "__init__" (.ref (a.objs.size+1)) [] [] _ W.oi_kind W.oi_split q (W.oi_args (.ref (a.objs.size+1))) ?_);rw[W.oi_run];exact X2 ⟨rfl,⟨V.ref (a.objs.size+1),_,Inv.made (C:=C) I,rfl,i⟩⟩
end
inductive WG:V->Option Int->Option Int->Hp->VK->Prop|mk{z:_}{lo hi H Q:_}(_:z.length<=sizeLine)(_:Q (.str (Txt.slice z lo hi)) H):WG (.str z) lo hi H Q
def part_of(h:IsPart v o):∃l:Option (Int×Tok),v=partValue l/\l.map (·.1)=o:=by
 cases h with
 |none=>exact⟨none,rfl,rfl⟩
 |int i t=>exact⟨some (i,t),rfl,rfl⟩
def ko:YR X WG:=by intro a s Z H x v p r w y A Q I b f g i h;obtain@⟨z,_,_,_,_,j,q⟩:=h;obtain⟨t,rfl⟩:=b;obtain⟨l,rfl,rfl⟩:=part_of g;obtain⟨u,rfl,rfl⟩:=part_of i;refine⟨"str",_,F.slot_str_getitem.lookup,am6 _ _ _,wpAny_getItem_str_slice (l:=l) (u:=u) (st:=none) (by obtain⟨o,e,c,d⟩:=f;exact⟨o,e,c,d⟩) rfl ?_⟩;exact post_val_or_str ⟨ac2 (Txt.slice_le z _ _) j,λn k=>⟨.str _,H,I.tok _,⟨n,rfl⟩,q⟩⟩
section
variable {D:Ends}{st:Stmt}{rest sts:List Stmt}{t:TS}
def aF(R:St->Hp->Prop)(h:PS X st t)(q:t { D with nx:=R } Z H)(r:∀Z H,R Z H->At X D rest Z H):At X D (st::rest) Z H:=λa s I =>
 (yd h (u:=λb Z H=>b=D/\R Z H) (λa s Z H b I ⟨e,z⟩=>by subst e;exact r Z H z a s I)) a s Z H D I (by
  have e:(λZ H=>D=D/\R Z H)=R:=by funext Z H;simp
  show t { D with nx:=λZ H=>D=D/\R Z H } Z H;rw[e];exact q)
def aG(W:(St->Hp->Prop)->Prop)(h:PS X st t)(q:t { D with nx:=λZ H=>∀C:St->Hp->Prop,W C->C Z H } Z H)(r:W (At X D rest)):At X D (st::rest) Z H:=aF _ h q λ_ _ a=>a _ r
end
def tT{lo:Int}(Pv:Nat->q7->Hp->Prop)(h0:Pv 0 [] H)(hn:n<sizeLine)
  (hs:∀i ys H,i<n->ys.length=i->Pv i ys H->te (nv caps Z++[some (.int (lo+i))]) H λy H2=>∃m',m'<n-i/\m'=n-(i+1)/\i+1<=n/\(ys++[y]).length=i+1/\Pv (i+1) (ys++[y]) H2) (hd:∀ys H,ys.length=n->Pv n ys H->∀D,H D=none->Q (.ref D) (ag H D (.lst ys))) :
  yz (N5 lo n) caps te Z H Q:=by
 refine⟨λi m ys H=>m=n-i/\i<=n/\ys.length=i/\Pv i ys H,⟨n,by simp,Z9 _,rfl,h0⟩,?_⟩;rintro i m ys H ⟨rfl,b,hl,p⟩;by_cases a:i<n
 .refine .inr ⟨a,by lia,λx c y=>?_⟩;obtain⟨e,y⟩:=y;subst e y;exact hs i ys _ a hl p
 .have e:i=n:=by lia
  subst e;exact .inl ⟨N0 _,hd ys H hl p⟩
def ie{K:W.Frag}(Pv:Nat->q7->Hp->Prop)(h0:Pv 0 [] H)(hn:xs.length<sizeLine)
  (hq:∀i ys H,i<=xs.length->Pv i ys H->aV K H a xs)
  (hs:∀i x ys H,xs[i]?=some x->ys.length=i->Pv i ys H->te (nv caps Z++[some x]) H λy H2=>∃m',m'<xs.length-i/\m'=xs.length-(i+1)/\i+1<=xs.length/\(ys++[y]).length=i+1/\Pv (i+1) (ys++[y]) H2) (hd:∀ys H,ys.length=xs.length->Pv xs.length ys H->∀D,H D=none->Q (.ref D) (ag H D (.lst ys))) :
  yz (Q7 K a) caps te Z H Q:=by
 refine⟨λi m ys H=>m=xs.length-i/\i<=xs.length/\ys.length=i/\Pv i ys H,⟨xs.length,by simp,Z9 _,rfl,h0⟩,?_⟩;rintro i m ys H ⟨rfl,c,hl,p⟩;have q:=hq i ys H c p;by_cases b:i<xs.length
 .refine .inr ⟨⟨xs,xs[i],q,by simp[b]⟩,by lia,λx d y=>?_⟩;obtain⟨e,y⟩:=y;subst e;exact hs i x ys _ (y xs q) hl p
 .have e:i=xs.length:=by lia
  subst e;exact .inl ⟨⟨xs,q,N0 _⟩,hd ys H hl p⟩
def fQ(hi:i<n)(hl:ys.length=i)(r:R):∃m',m'<n-i/\m'=n-(i+1)/\i+1<=n/\(ys++[y]).length=i+1/\R :=
 ⟨n-(i+1),by lia,rfl,hi,by simp[hl],r⟩
def AE{α:Type}(xs:List α){i:Int}(h0:0<=i)(h1:i<xs.length):∃v,xs[i.toNat]?=some v/\oE xs i=some v:=by
 have a:i.toNat<xs.length:=by lia
 refine⟨xs[i.toNat],i4 a,?_⟩;have q:=aB (xs:=xs) (i4 a);rw[Int.toNat_of_nonneg h0] at q;exact q
def sX(a:Int)(h:0<m):0<=a % m/\a % m<m:=⟨Int.emod_nonneg _ (by lia),Int.emod_lt_of_pos _ h⟩
def bK(h:n<=1000000):n<=sizeLine:=ac2 h (by decide)
def cL(h:n<=1000000):n<sizeLine:=ak7 h (by decide)
def Ms{K:W.Frag}(e:Z[i]?=some (some (.ref a)))(h:H a=s0 C dx fs)(c:pH K C)(n:b8 K C f)(l:fs.lookup f=some v)(q:Q v H):U6 K (LG i) f Z H Q :=
 LG_i.mpr ⟨_,e,h,c,n,l,q⟩
def DJ(J:It)(g:TG)(tb:TS)(D:Ends)(Z:St)(H1:Hp):Prop:=∃W:Nat->Nat->St->Hp->Prop,(∃m,W 0 m Z H1)/\∀i m Z H,W i m Z H ->
 (J.stop i H/\D.nx Z H)\/(J.go i H/\∃N:St->Hp->Prop,(∀b a,N b a->∃c,c<m/\W (i+1) c b a)/\∀x a,J.UO i H x a->g x Z a λZ2 d=>tb { D with nx:=N,ct:=N,bk:=D.nx } Z2 d)
def Ye(wi:TI)(g:TG)(tb:TS):TS:=λD Z H=>wi Z H λJ a=>DJ J g tb D Z a
def dD(hp:PassesOwn (model X.prog X.w) X.A X.env X.xe)(hc:X.aw=true)(hi:PI X tg iter wi)(hg:PG X tg g)(hb:AI X body tb)
  (hs:autoParam (∀x,foldedSetIterable iter X.env x=pure x) cw._auto_1):PS X (.For tg iter body [] pos) (Ye wi g tb):=Sz hp hc hi hg hb hs
def fH{lo:Int}(Pv:Nat->St->Hp->Prop)(h0:Pv 0 Z H)
  (hs:∀i Z H,i<n->Pv i Z H->g (.int (lo+i)) Z H λZ2 H2=>tb { D with nx:=Pv (i+1),ct:=Pv (i+1),bk:=D.nx } Z2 H2) (hd:∀Z H,Pv n Z H->D.nx Z H):DJ (N5 lo n) g tb D Z H:=Du Pv h0 hs hd
def jw{K:PySem.W.Frag}(Pv:Nat->St->Hp->Prop)(h0:Pv 0 Z H)(hl:∀i Z H,i<=xs.length->Pv i Z H->aV K H a xs)
  (hs:∀i x Z H,xs[i]?=some x->Pv i Z H->g x Z H λZ2 H2=>tb { D with nx:=Pv (i+1),ct:=Pv (i+1),bk:=D.nx } Z2 H2) (hd:∀Z H,Pv xs.length Z H->D.nx Z H):DJ (Q7 K a) g tb D Z H:=J3 Pv h0 hl hs hd
section
variable {κ:Type}[DecidableEq κ]
noncomputable def fP(kvs:List (κ×V))(k:κ):Option V:=(kvs.find? λa=>decide (a.1=k)).map (·.2)
noncomputable def putK(kvs:List (κ×V))(k:κ)(v:V):List (κ×V) :=
 if (kvs.any λa=>decide (a.1=k))=true then kvs.map (λa=>if a.1=k then (a.1,v) else a) else kvs++[(k,v)]
noncomputable def jY(kvs:List (κ×V))(k:κ):List (κ×V):=kvs.filter λa=>decide (a.1≠k)
def ym:fP ([]:List (κ×V)) k=none:=rfl
def fK{p:κ×V}{r:List (κ×V)}{k:κ}(e:p.1=k):fP (p::r) k=some p.2:=by simp[fP,aj4,e]
def fk{p:κ×V}{r:List (κ×V)}{k:κ}(e:¬p.1=k):fP (p::r) k=fP r k:=by simp[fP,aj4,e]
theorem iC(k:κ):∀kvs:List (κ×V),(kvs.any λkv=>decide (kv.1=k))=(fP kvs k).isSome
 | []=>rfl
 |p::r=>by
  rw[List.any_cons];by_cases e:p.1=k
  .simp only[fK e,ab4 e,Bool.true_or,Option.isSome_some]
  .rw[fk e,ab2 e,Bool.false_or];exact iC k r
theorem zE(k j:κ)(y:V):∀kvs:List (κ×V),fP (kvs.map λkv=>if kv.1=k then (kv.1,y) else kv) j=(fP kvs j).map λx=>if j=k then y else x
 | []=>rfl
 |p::r=>by
  have ih:=zE k j y r;rw[ab5];by_cases h:p.1=k
  .rw[w4 h];by_cases e:p.1=j
   .rw[fK (p:=(p.1,y)) e,fK e,af7,w4 (e.symm.trans h)]
   .rw[fk (p:=(p.1,y)) e,fk e,ih]
  .rw[C5 h];by_cases e:p.1=j
   .rw[fK (p:=p) e,fK e,af7,C5 (λz=>h (e.trans z))]
   .rw[fk (p:=p) e,fk e,ih]
theorem uZ(k j:κ)(y:V):∀kvs:List (κ×V),fP kvs k=none->fP (kvs++[(k,y)]) j=if j=k then some y else fP kvs j
 | [],_=>by
  by_cases e:k=j
  .rw[w4 e.symm];exact fK (p:=(k,y)) e
  .rw[C5 (λz=>e z.symm)];exact fk (p:=(k,y)) e
 |p::r,hn=>by
  rw[List.cons_append];have hk:¬p.1=k:=λz=>by rw[fK z] at hn;cases hn
  rw[fk hk] at hn;by_cases e:p.1=j
  .rw[fK e,fK e,C5 (λz=>hk (e.trans z))]
  .rw[fk e,fk e,(uZ k j y r hn)]
def yi(kvs:List (κ×V))(k j:κ)(y:V):fP (putK kvs k y) j=if j=k then some y else fP kvs j:=by
 unfold putK;by_cases a:(kvs.any λb=>decide (b.1=k))=true
 .rw[w4 a,zE];rw[iC] at a;by_cases e:j=k
  .obtain⟨x,c⟩:=Option.isSome_iff_exists.mp a;rw[w4 e,e,c,af7,w4 rfl]
  .rw[C5 e];cases fP kvs j with
   |none=>rfl
   |some x=>rw[af7,C5 e]
 .rw[C5 a];refine uZ k j y kvs ?_;rw[iC] at a;cases q:fP kvs k with
  |none=>rfl
  |some x=>rw[q] at a;exact(a rfl).elim
def nF(kvs:List (κ×V))(k:κ)(v:V):(putK kvs k v).length<=kvs.length+1:=by
 unfold putK;split
 .rw[d5];lia
 .rw[i5,P3,ac6];lia
def yM{kvs:List (κ×V)}{k:κ}(v:V)(h:fP kvs k=none):putK kvs k v=kvs++[(k,v)]:=by unfold putK;rw[iC,h];exact C5 (by decide)
def kC.kZ(r:kC o u):o.isSome=u.isSome:=by
 cases o with
 |none=>cases u with
  |none=>rfl
  |some _=>exact(show False from r).elim
 |some _=>cases u with
  |none=>exact(show False from r).elim
  |some _=>rfl
def kC.getD(r:kC o u)(rd:RelV d d'):RelV (o.getD d) (u.getD d'):=by
 cases o with
 |none=>cases u with
  |none=>exact rd
  |some _=>exact(show False from r).elim
 |some _=>cases u with
  |none=>exact(show False from r).elim
  |some _=>exact r
def KV.val(r:KV kvs vs)(k:κ):kC (fP kvs k) (valueAt vs k):=by
 unfold KV at r;induction r with
 |nil=>exact True.intro
 | @cons p q ps qs h t ih =>
  obtain⟨c,d⟩:=h;by_cases e:p.1=k
  .have b:valueAt (q::qs) k=some q.2:=by simp[valueAt,aj4,(c.symm.trans e)]
   rw[fK e,b];exact d
  .have a:¬q.1=k:=λz=>e (c.trans z);have b:valueAt (q::qs) k=valueAt qs k:=by simp[valueAt,aj4,a]
   rw[fk e,b];exact ih
def KV.any(r:KV kvs vs)(k:κ):(kvs.any λkv=>decide (kv.1=k))=vs.any λkv=>decide (kv.1=k):=by
 unfold KV at r;induction r with
 |nil=>rfl
 |cons h t ih=>rw[List.any_cons,List.any_cons,ih,h.1]
def KV.repl(r:KV kvs vs)(k:κ)(ry:RelV y u) :
  KV (kvs.map λkv=>if kv.1=k then (kv.1,y) else kv) (vs.map λkv=>if kv.1=k then (kv.1,u) else kv):=by
 unfold KV at r ⊢;induction r with
 |nil=>exact .nil
 | @cons p q ps qs h t ih =>
  rw[ab5,ab5];refine .cons ?_ ih;obtain⟨a,b⟩:=h;by_cases e:p.1=k
  .rw[w4 e,w4 (a.symm.trans e)];exact⟨a,ry⟩
  .rw[C5 e,C5 (λz=>e (a.trans z))];exact⟨a,b⟩
def KV.put(r:KV kvs vs)(k:κ)(ry:RelV y u):KV (putK kvs k y) (stored vs k u):=by
 unfold putK stored;rw[r.any k];by_cases e:(vs.any λa=>decide (a.1=k))=true
 .rw[w4 e,w4 e];exact r.repl k ry
 .rw[C5 e,C5 e];exact Paired.snoc r ⟨rfl,ry⟩
def KV.drop(r:KV kvs vs)(k:κ):KV (jY kvs k) (without vs k):=by
 unfold KV at r ⊢;unfold jY without;induction r with
 |nil=>exact .nil
 | @cons p q ps qs h t ih =>
  obtain⟨c,d⟩:=h;rw[an1,an1];by_cases e:p.1=k
  .have a:¬decide (p.1≠k)=true:=by simp[e]
   have b:¬decide (q.1≠k)=true:=by simp[c.symm.trans e]
   rw[C5 a,C5 b];exact ih
  .have f:¬q.1=k:=λz=>e (c.trans z);have a:decide (p.1≠k)=true:=by simp[e]
   have b:decide (q.1≠k)=true:=by simp[f]
   rw[w4 a,w4 b];exact .cons ⟨c,d⟩ ih
def KV.keys{kvs:List (κ×V)}{vs:List (κ×Value)}(r:KV kvs vs):kvs.map (·.1)=vs.map (·.1):=by
 unfold KV at r;induction r with
 |nil=>rfl
 |cons h t ih=>rw[ab5,ab5,ih,h.1]
def KV.length(r:KV kvs vs):kvs.length=vs.length:=Paired.length r
def Kz(kvs:List (κ×V))(k:κ):(jY kvs k).length<=kvs.length:=List.length_filter_le _ _
end
def qY(r:RelV (kV k) u):(cJ P w).is k u=true:=by
 cases k with
 |inl i=>obtain⟨t,e⟩:=(show ∃t,u=Value.int i t from r);subst e;exact yX P w i t
 |inr x=>obtain⟨t,e⟩:=(show ∃t,u=Value.str x t from r);subst e;exact xP P w x t
theorem vS:∀{ks:List Key} {us:c8},Vals (ks.map kV) us->ItemsAre (cJ P w) ks us
 | [],_,r=>by rw[List.map_nil] at r;cases r;exact .nil
 |k::ks,_,r=>by
  rw[ab5] at r;cases r with
  |cons h t=>exact .cons (qY h) (vS t)
abbrev KT(H:Hp):List (List Key×V)->List (List Key×Addr×Value)->Prop:=Paired λp q=>p.1=q.1/\H q.2.1=t0 (p.1.map kV)/\RelV p.2 q.2.2
def KT.val(r:KT H kvs xs)(k:List Key):kC (fP kvs k) ((atKey xs k).map (·.2)):=by
 induction r with
 |nil=>exact True.intro
 | @cons p q ps qs h t ih =>
  obtain⟨c,_,d⟩:=h;by_cases e:p.1=k
  .have b:atKey (q::qs) k=some q.2:=by simp[atKey,aj4,(c.symm.trans e)]
   rw[fK e,b];exact d
  .have a:¬q.1=k:=λz=>e (c.trans z);have b:atKey (q::qs) k=atKey qs k:=by simp[atKey,aj4,a]
   rw[fk e,b];exact ih
def KT.repl(r:KT H kvs xs)(k:List Key)(ry:RelV y u) :
  KT H (kvs.map λkv=>if kv.1=k then (kv.1,y) else kv) (xs.map (putAt k u)):=by
 induction r with
 |nil=>exact .nil
 | @cons p q ps qs h t ih =>
  rw[ab5,ab5];refine .cons ?_ ih;obtain⟨a,b,c⟩:=h;unfold putAt;by_cases e:p.1=k
  .rw[w4 e,w4 (a.symm.trans e)];exact⟨a,b,ry⟩
  .rw[C5 e,C5 (λz=>e (a.trans z))];exact⟨a,b,c⟩
def KT.put(r:KT H kvs xs)(k:List Key)(hb:H b=t0 (k.map kV))(ry:RelV y u) :
  KT H (putK kvs k y) (storedH xs k b u):=by
 have e:(kvs.any λa=>decide (a.1=k))=(atKey xs k).isSome:=by rw[iC,(r.val k).kZ,Option.isSome_map]
 unfold putK storedH;rw[e];by_cases q:(atKey xs k).isSome=true
 .rw[w4 q,w4 q];exact r.repl k ry
 .rw[C5 q,C5 q];exact Paired.snoc r ⟨rfl,hb,ry⟩
def KT.keeps(r:KT H kvs xs)(ht:∀b ys,H b=t0 ys->H' b=t0 ys):KT H' kvs xs :=
 Paired.Vg r λ_ _ z=>⟨z.1,ht _ _ z.2.1,z.2.2⟩
section
variable {P:Program}{a:Addr}
def Nm(ok:lR P w H h)(e:Rd H a u):dz P w H h a u:=e.ok ok
def pY(ok:lR P w H h)(e:Rd H a (.dK kvs)):kvs.length<=sizeLine/\(a == sysModules)=false/\∃vs,KV kvs vs/\h.DictOf (cJ P w) a vs :=
 show dz P w H h a (.dK kvs) from Nm ok e
def t7(ok:lR P w H h)(e:H a=some (.dK kvs)):kvs.length<=sizeLine/\(a == sysModules)=false/\∃vs,KV kvs vs/\h.DictOf (cJ P w) a vs:=pY ok (.inl e)
def qG(ok:lR P w H h)(e:H a=t0 (ks.map kV)):(tupleKind (cJ P w)).is h ks a:=by
 obtain⟨_,b,r,o,c,d,n,f⟩:=(show dz P w H h a (.tup (ks.map kV)) from ok a _ e)
 exact⟨o,b.toArray,n,c,d,f,by simpa using vS r⟩
def tH(ok:lR P w H h)(e:Rd H a (.dT kvs)):kvs.length<=sizeLine/\(a == sysModules)=false /\
  ∃xs,KT H kvs xs/\h.DictOfH (tupleKind (cJ P w)) a xs:=by
 obtain⟨z,y,xs,r,o,c,d,f,g,i,j,n⟩:=(show dz P w H h a (.dT kvs) from Nm ok e)
 refine⟨z,y,xs,r,o,c,d,f,g,i,j,λx b=>?_,n⟩;have all:∀{l:List (List Key×V)} {m:List (List Key×Addr×Value)},KT H l m->∀x∈m,(tupleKind (cJ P w)).is h x.1 x.2.1:=by
  intro l m q;induction q with
  |nil=>intro x b;exact nomatch b
  | @cons p q ps qs hq t ih =>
   intro x b;rcases Z5.mp b with e|b
   .subst e;exact qG ok (hq.1▸hq.2.1)
   .exact ih x b
 exact all r x b
def WA(ok:lR P w H h)(e:H a=some (.dT kvs)):kvs.length<=sizeLine/\(a == sysModules)=false /\
  ∃xs,KT H kvs xs/\h.DictOfH (tupleKind (cJ P w)) a xs:=tH ok (.inl e)
end
def om(H:Hp)(a:Addr)(y:V)(r:Option V):Prop :=
 (∃c k,Rd H a (.dK c)/\y=kV k/\r=fP c k)\/∃c k b,Rd H a (.dT c)/\y = .ref b/\H b=t0 (k.map kV)/\r=fP c k
def xA(H:Hp)(a:Addr)(y v:V)(H':Hp):Prop :=
 (∃c k,H a=some (.dK c)/\y=kV k/\c.length<sizeLine/\H'=ag H a (.dK (putK c k v))) \/
 ∃c k b,H a=some (.dT c)/\y = .ref b/\H b=t0 (k.map kV)/\c.length<sizeLine/\H'=ag H a (.dT (putK c k v))
def om.k{k:Key}(e:H a=some (.dK kvs)):om H a (kV k) (fP kvs k):=.inl ⟨kvs,k,.inl e,rfl,rfl⟩
def xA.k{k:Key}(e:H a=some (.dK kvs))(hl:kvs.length<sizeLine):xA H a (kV k) v (ag H a (.dK (putK kvs k v))):=.inl ⟨kvs,k,e,rfl,hl,rfl⟩
section
variable {a:Addr}{y v:V}{u r:Value}{o:Option V}{E:Value->Shared->Prop}
def Inv.big(I:Inv X am Z H s):sysModules<s.heap.objs.size:=by exact Nat.lt_trans (by decide) ((I.mod.glob.keeps I.bk).lt)
def CZ(hu:A.units+1<cLine)(I:Inv X am Z H s)(g:om H a y (some v))(ry:RelV y u)(h:∀w' s',Inv X am Z H s'->RelV v w'->Q w' s') :
  wpAny (model X.prog X.w) A (getItem (.ref a) u) Q E s:=by
 rcases g with ⟨f,k,e,i,l⟩|⟨f,k,b,e,i,r,l⟩
 .subst i;obtain⟨z,t,x,c,j⟩:=pY I.ba e;obtain⟨w',n,d⟩:=kC.some_of (v:=v) (o:=valueAt x k) (l▸c.val k);exact wpAny_getItem_of (qY ry) j.mapOf n (h w' _ (I.tok _) d)
 .subst i;cases (show u=Value.ref b from ry);obtain⟨z,t,B,c,j⟩:=tH I.ba e;obtain⟨w',n,d⟩:=kC.some_of (v:=v) (o:=(atKey B k).map (·.2)) (l▸c.val k);obtain⟨p,C,q⟩:=D1.mp n;refine wpAny_getItem_heap (ak9 hu) (qG I.ba r) j C ?_;exact q▸h w' _ (I.tok _) d
def K6(hu:A.units+1<cLine)(I:Inv X am Z H s)(g:om H a y o)(ry:RelV y u)(h:∀s',Inv X am Z H s'->Q (.bool (!o.isSome)) s') :
  wpAny (model X.prog X.w) A (compareOp .NotIn u (.ref a)) Q E s:=by
 rcases g with ⟨d,k,e,f,l⟩|⟨d,k,b,e,f,n,l⟩
 .subst f;obtain⟨z,i,p,c,j⟩:=pY I.ba e;refine wpAny_notIn_of (qY ry) i j.mapOf ?_;rw[<- (c.val k).kZ,<- l];exact h _ (I.tok _)
 .subst f;cases (show u=Value.ref b from ry);obtain⟨z,i,r,c,j⟩:=tH I.ba e;refine wpAny_notIn_heap (ak9 hu) (qG I.ba n) i j ?_;have q:=(c.val k).kZ;rw[Option.isSome_map] at q;exact q▸l▸h _ (I.tok _)
def xD(I:Inv X am Z H s)(mu:Xn (H a))(hs:Heap.SameBut a s.heap h')(he:∃q,h'.get? a=some q)(new:dz X.prog X.w (ag H a ob) h' a ob) :
  Inv X am Z (ag H a ob) { s with heap:=h',toks:=t' } :=
 I.write (x:=a) (e:=a) mu (.inl rfl) (λb q c z=>(hs.2 b c).trans z) he new
def wu(z:kvs.length<=sizeLine)(hd:(a == sysModules)=false)(rel:KV kvs vs)(dd:h'.DictOf (cJ P w) a vs) :
  dz P w H' h' a (.dK kvs):=⟨z,hd,vs,rel,dd⟩
def Dr(hu:A.units+1<cLine)(I:Inv X am Z H s)(g:xA H a y v H')(ry:RelV y u)(rv:RelV v r)(h:∀s',Inv X am Z H' s'->Q () s') :
  wpAny (model X.prog X.w) A (setItem (.ref a) u r) Q E s:=by
 rcases g with ⟨d,k,e,n,l,o⟩|⟨d,k,b,e,n,C,l,o⟩
 .subst n o;obtain⟨z,p,G,f,t⟩:=t7 I.ba e;have x:G.length<=sizeLine:=f.length▸z
  have hl:(putK d k v).length<=sizeLine:=by have:=nF d k v;lia
  refine wpAny_setItem_pairs (hsz:=x) (qY ry) t λD i B=>h _ ?_;have J:∃q,D.get? a=some q:=let ⟨q,_,_,j,_⟩:=i;⟨q,j⟩;exact xD I (e▸True.intro) B J (wu hl p (f.put k rv) i)
 .subst n o;cases (show u=Value.ref b from ry);obtain⟨z,p,K,f,t⟩:=WA I.ba e;have x:K.length<=sizeLine:=by rw[<- Paired.length f];exact z
  have hl:(putK d k v).length<=sizeLine:=by have:=nF d k v;lia
  refine wpAny_setItem_heap (hsz:=x) (ak9 hu) (qG I.ba C) t λD i B=>h _ ?_;obtain⟨q,L,M,j,N,O,P,_,R⟩:=i;refine xD I (e▸True.intro) B ⟨q,j⟩ ⟨hl,p,_,(f.put k C rv).keeps λc S F=>?_,q,L,M,j,N,O,P,R⟩;rw[aj (bL F e (λz=>nomatch z))];exact F
end
section
variable {a:Addr}{kvs:List (Key×V)}{k:Key}{u:Value}{E:Value->Shared->Prop}
def X7(I:Inv X am Z H s)(e:H a=some (.dK kvs))(ry:RelV (kV k) u)(l:fP kvs k=some v)(hm:more=[]\/∃x,more=[x])
  (h:∀w' s',Inv X am Z (ag H a (.dK (jY kvs k))) s'->RelV v w'->Q w' s'):wpAny (model X.prog X.w) A (call (.builtin "dict.pop") (.ref a::u::more)) Q E s:=by
 obtain⟨z,j,f,b,g⟩:=t7 I.ba e;obtain⟨w',n,d⟩:=kC.some_of (v:=v) (o:=valueAt f k) (l▸b.val k);have p:(keyPart u).isSome=true:=by
  cases k with
  |inl i=>obtain⟨t,q⟩:=(show ∃t,u=Value.int i t from ry);subst q;rfl
  |inr x=>obtain⟨t,q⟩:=(show ∃t,u=Value.str x t from ry);subst q;rfl
 have r:argsOk "dict.pop" ⟨.ref a::u::more,[]⟩:=by
  rcases hm with q|⟨x,q⟩
  .subst q;exact F.args_dict_pop_2 _ _
  .subst q;exact F.args_dict_pop_3 _ _ _
 refine call_meetsIn F.slot_dict_pop g.typeIs F.entry_dict_pop r (meets_dict_pop_there (cJ X.prog X.w) a (qY ry) more hm p)
  ⟨f,w',g,b.length▸z,n,λy c B=>h w' _ ?_ d⟩
 have C:∃q,y.get? a=some q:=let ⟨q,_,_,hq,_⟩:=c;⟨q,hq⟩;exact xD I (e▸True.intro) B C (wu (ac2 (Kz kvs k) z) j (b.drop k) c)
def WR  (I:Inv X am Z H s) (e:Rd H a (.dK kvs)) (h:∀t s',Inv X am Z H s'->Q (.int kvs.length t) s'):wpAny (model X.prog X.w) A (call (.builtin "len") [.ref a]) Q E s:=by obtain⟨z,c,f,b,d⟩:=pY I.ba e;refine call_len_dict c d (by rw[<- b.length];rw[ad0] at z;lia) ?_;exact b.length▸h _ _ (I.tok _)
end
def XO(i:Expr):Prop:=∀a b,subscripted i false a b=operate [a,b] (getItem a b)
def LS{T id:String}
  (hl:typeLookup (.type T) "__getitem__" = pure (some (.builtin id))) (hs:XO slice)
  (h:wpAny (model prog w) A (eval value env) (λo s₁=>wpAny (model prog w) A (eval slice env) (λi s₂=>s₂.TypeIs o T/\wpAny (model prog w) A (getItem o i) Q E s₂) E s₁) E s) :
  wpAny (model prog w) A (eval (.Subscript value slice pos) env) Q E s:=by
 refine Subscript_ (ad3 h (λo s₁ e=>ad3 e (λi s₂ b=>?_) λ_ _ x=>x) λ_ _ x=>x);obtain⟨c,b⟩:=b;unfold subscriptTail;refine y0 ?_;rw[getitemInPython_of_ne c.not_modules];refine y0 (wpAny_specialOf c hl ?_);have a:wpAny (model prog w) A (subscripted slice false o i) (λr d=>wpAny (model prog w) A (letTemporaryGo value o r >>= λ_=>pure r) Q E d) E s₂:=by
  rw[hs o i];exact wpAny_operating (ad3 b (λr d f=>y0 (wpAny_letTemporaryGo (X2 f))) λ_ _ x=>x)
 first
  |exact X2 (y0 a)
  |exact y0 (X2 (y0 a))
  |exact y0 a
def yN         (I:Inv X am Z H s) (g:om H a y o):s.TypeIs (.ref a) "dict" := by
 rcases g with ⟨c,k,e,_,_⟩|⟨c,k,b,e,_,_,_⟩
 .obtain⟨_,_,f,_,d⟩:=pY I.ba e;exact d.typeIs
 .obtain⟨_,_,h,_,d⟩:=tH I.ba e;exact d.typeIs
def X4(td ty:TE):TE:=λZ H Q=>td Z H λx c=>ty Z c λy b=>∃a v,x = .ref a/\om b a y (some v)/\Q v b
def Lk(ty td:TE):TE:=λZ H Q=>ty Z H λy c=>td Z c λx b=>∃a o,x = .ref a/\om b a y o/\Q (.bl (!o.isSome)) b
def WQ(td ty tv:TE):TS:=λD Z H=>tv Z H λv c=>td Z c λx d=>ty Z d λy e=>∃a b,x = .ref a/\xA e a y v b/\D.nx Z b
section
variable {o i e:Expr}{tpos:Pos}{td ty tv:TE}
def pV(hu:X.A.units+1<cLine)(ho:PE X o td)(hi:PE X i ty)(hs:XO i):PE X (.Subscript o i pos) (X4 td ty):=by intro b s Z H Q I h;refine LS F.slot_dict_getitem.lookup hs (dS (ho b s Z H _ I h) λu e ⟨x,f,j,l,n⟩=>dS (hi b e Z f _ j n) λB C  p=>?_);obtain⟨y,q,d,r,a,v,t,g,w⟩:=p;subst t;obtain rfl:u=Value.ref a:=l;exact⟨yN d g,CZ hu d g r λD E z c=>⟨v,q,z,c,w⟩⟩
def vo(hu:X.A.units+1<cLine)(hi:PE X i ty)(ho:PE X o td):PC X .NotIn i o (Lk ty td):=by intro b s Z H Q I h;refine dS (hi b s Z H _ I h) λz c ⟨y,d,e,f,j⟩=>dS (ho b c Z d _ e j) λu B  l=>?_;obtain⟨x,n,p,q,a,r,t,g,v⟩:=l;subst t;obtain rfl:u=Value.ref a:=q;exact K6 hu p g f λC w=>⟨.bl (!r.isSome),n,w,rfl,v⟩
def pS(hu:X.A.units+1<cLine)(ho:PE X o td)(hi:PE X i ty)(hv:PE X value tv)(hs:swapsWith value (some (.Subscript o i pos')) pos.line X.env=pure false) :
  PS X (.Assign [.Subscript o i pos'] value pos) (WQ td ty tv):=by
 intro b s Z H D I h;refine wpAny_Assign_Subscript (dS (hv b s Z H _ I h) λr c ⟨v,d,e,f,j⟩=>dS (ho b c Z d _ e j) λu l ⟨x,n,p,q,t⟩=>dS (hi b l Z n _ p t) λJ K w=>?_) hs;obtain⟨y,L,z,B,a,C,E,g,F⟩:=w;subst E;obtain rfl:u=Value.ref a:=q;exact Dr hu z g B f λM G=>⟨Z,C,G,F⟩
end
def KD    (h:Heap) (hb:sysModules<h.objs.size):dz P w H (h.push { cls:=.type "dict",data:=.dict #[] }) h.objs.size (.dK []) :=
 ⟨Z9 _,beq_eq_false_iff_ne.mpr (aa4 (Z6 hb)),[],.nil,Heap.DictOf.new h⟩
def T5:TE:=λ_ H Q=>∀p,H p=none->Q (.ref p) (ag H p (.dK []))
def kN:PE X (.Dict [] [] pos) T5:=λb s Z H Q I h =>
 wpAny_Dict_empty ⟨.ref s.heap.objs.size,_,I.laid (a:=s.heap.objs.size) (o:=.dK []) (t':=s.toks) (λ_ _ q=>x0 _ q) (N0 _) (KD s.heap I.big),rfl,h _ (I.ba.fresh (N0 _))⟩
def m9(kvs more:List (Key×V)):List (Key×V):=more.foldl (λa b=>putK a b.1 b.2) kvs
def KV.merge:∀{more:List (Key×V)} {rs:List (Key×Value)} {kvs:List (Key×V)} {vs:List (Key×Value)},KV more rs->KV kvs vs->KV (m9 kvs more) (merged vs rs):=by
 intro more rs kvs vs r;unfold KV at r;induction r generalizing kvs vs with
 |nil=>intro q;exact q
 | @cons p q ps qs h t ih =>
  intro a;have e:KV (putK kvs p.1 p.2) (stored vs q.1 q.2):=by have:=a.put p.1 h.2;exact h.1▸this
  exact ih e
theorem oH:∀(more kvs:List (Key×V)),(m9 kvs more).length<=kvs.length+more.length
 | [],kvs=>by show kvs.length<=kvs.length+0;lia
 |p::r,kvs=>by have h1:=oH r (putK kvs p.1 p.2);have a:=nF kvs p.1 p.2;show (m9 (putK kvs p.1 p.2) r).length<=_;rw[P3];lia
structure M1(X:Cx)(o:Expr)(m:Str)(apos:Pos)(e:Expr)(cpos:Pos):Prop where
 ap:attributeBase o m X.env (eval o X.env)=eval o X.env
 few:((backTo cpos (starEach [e] X.env)).all (λx=>!x.1) && (backToKw cpos (keywordEach [] X.env)).all (λx=>x.1.isSome)
  && decide (([e]:List Expr).length+([]:List Keyword).length+(if ([]:List Keyword).isEmpty then 0 else 1)<30))=true
 line:(apos.endLine == cpos.line)=true
 trees:backTo cpos (starEach [e] X.env)=[(false,eval e X.env)]
def YU(H:Hp)(a:Addr):Prop:=(∃b,Rd H a (.dK b))\/∃b,Rd H a (.dT b)
def EO(I:Inv X am Z H s)(d:YU H a) :
  s.TypeIs (.ref a) "dict" /\ (∀b,Value.ref a = .ref b->∃ob,s.heap.get? b=some ob/\ob.dict=none)/\(a == sysModules)=false:=by
 rcases d with ⟨f,e⟩|⟨f,e⟩
 .obtain⟨_,g,j,_,c⟩:=pY I.ba e;refine⟨c.typeIs,λb q=>?_,g⟩;cases q;obtain⟨ob,_,_,h,i,_⟩:=c;exact⟨ob,h,i.2.1⟩
 .obtain⟨_,g,l,_,c⟩:=tH I.ba e;refine⟨c.typeIs,λb q=>?_,g⟩;cases q;obtain⟨ob,_,_,h,i,_⟩:=c;exact⟨ob,h,i.2.1⟩
section
variable {a:Addr}{y d:V}{u r:Value}{o:Option V}{E:Value->Shared->Prop}
def RE(hu:A.units+1<cLine)(I:Inv X am Z H s)(g:om H a y o)(ry:RelV y u)(h:∀w' s',Inv X am Z H s'->RelV (o.getD .dj) w'->Q w' s') :
  wpAny (model X.prog X.w) A (call (.builtin "dict.get") [.ref a,u]) Q E s:=by
 rcases g with ⟨f,k,e,i,l⟩|⟨f,k,b,e,i,n,l⟩
 .subst i;obtain⟨z,j,q,c,d⟩:=pY I.ba e;refine call_meetsIn F.slot_dict_get d.typeIs F.entry_dict_get (F.args_dict_get_2 _ _) (meets_dict_get (cJ X.prog X.w) a (qY ry) j) ⟨_,d.mapOf,h _ _ (I.tok _) ?_⟩;exact l▸(c.val k).getD rfl
 .subst i;cases (show u=Value.ref b from ry);obtain⟨z,j,p,c,d⟩:=tH I.ba e;refine call_meetsIn F.slot_dict_get d.typeIs F.entry_dict_get (F.args_dict_get_2 _ _) (meetsH_dict_get (tupleKind (cJ X.prog X.w)) a b j) ⟨ak9 hu,k,p,qG I.ba n,d,h _ _ (I.tok _) ?_⟩;exact l▸(c.val k).getD rfl
end
def RS(td ty:TE):TE:=λZ H Q=>td Z H λx b=>∃a,x = .ref a/\YU b a/\ty Z b λy c=>∃o,om c a y o/\Q (o.getD .dj) c
def Up(td ty:TE):TE:=λZ H Q=>td Z H λx c=>∃a,x = .ref a/\YU c a/\ty Z c λy d=>∃b k v,d a=some (.dK b)/\y=kV k/\fP b k=some v/\Q v (ag d a (.dK (jY b k)))
section
variable {o e f:Expr}{td ty tx:TE}
def KG (hu:X.A.units+1<cLine) (ho:PE X o td) (he:PE X e ty) (m:M1 X o "get" apos e cpos):PE X (.Call (.Attribute o "get" apos) [e] [] cpos) (RS td ty):=by intro b s Z H Q I h;refine wpAny_Call_method m.ap m.few m.line F.plainAttrs_dict F.slot_dict_get F.type_dict_get (dS (ho b s Z H _ I h) λu i  j=>?_);obtain⟨x,l,f,n,a,p,d,q⟩:=j;subst p;obtain rfl:u=Value.ref a:=n;obtain⟨r,t,_⟩:=EO f d;refine⟨r,t,?_⟩;rw[m.trees];refine ah9 rfl (aj0 (ai4 (dS (he b i Z l _ f q) λD E ⟨y,v,w,z,G,g,B⟩=>am0 ?_)));exact RE hu w g z λJ K C c=>⟨_,v,C,c,B⟩
def xR (ho:PE X o td) (he:PE X e ty) (m:M1 X o "pop" apos e cpos):PE X (.Call (.Attribute o "pop" apos) [e] [] cpos) (Up td ty):=by intro b s Z H Q I h;refine wpAny_Call_method m.ap m.few m.line F.plainAttrs_dict F.slot_dict_pop F.type_dict_pop (dS (ho b s Z H _ I h) λu g  i=>?_);obtain⟨x,j,f,n,a,p,d,q⟩:=i;subst p;obtain rfl:u=Value.ref a:=n;obtain⟨r,t,_⟩:=EO f d;refine⟨r,t,?_⟩;rw[m.trees];refine ah9 rfl (aj0 (ai4 (dS (he b g Z j _ f q) λG J ⟨y,K,w,z,A,k,v,B,C,l,D⟩=>am0 ?_)));subst C;exact X7 w B z l (.inl rfl) λL M E c=>⟨v,_,E,c,D⟩
end
section
variable {a:Addr}{kvs:List (Key×V)}{E:Value->Shared->Prop}
def JI  (I:Inv X am Z H s) (e:Rd H a (.dK kvs)) (h:∀p s',H p=none->Inv X am Z (ag H p (.dK kvs)) s'->Q (.ref p) s'):wpAny (model X.prog X.w) A (call (.type "dict") [.ref a]) Q E s:=by obtain⟨z,g,l,c,i⟩:=pY I.ba e;refine kt_call_dict g i (c.length▸z) λn d j=>?_;refine h _ _ (I.ba.fresh (N0 _)) (I.laid (a:=s.heap.objs.size) (o:=.dK kvs) (t':=s.toks) (λb q f=>?_) (N0 _) (wu z (beq_eq_false_iff_ne.mpr (aa4 (Z6 I.big))) c d));exact(j.2 b (Z6 (P2 f))).trans (x0 _ f)
end
def Eb:gS X (.builtin "len") (λxs H Q=>∃a kvs,xs=[V.ref a]/\H a=some (.dK kvs)/\Q (.int kvs.length) H):=by intro b s Z H xs us Q I r h;obtain⟨a,kvs,rfl,c,q⟩:=h;obtain⟨u,rfl,d⟩:=vals1 r;cases d;exact WR I (.inl c) λt f e=>⟨.int kvs.length,H,e,⟨t,rfl⟩,q⟩
section
variable {κ:Type}[DecidableEq κ]
def HW{kvs:List (κ×V)}{k:κ}(h:fP kvs k=none):¬k∈kvs.map (·.1):=by intro m;obtain⟨p,a,e⟩:=aa9.mp m;have q:(kvs.any λb=>decide (b.1=k))=true:=List.any_eq_true.mpr ⟨p,a,ab4 e⟩;rw[iC,h] at q;exact absurd q (by simp)
def LO{kvs:List (κ×V)}{k:κ}{v:V}(h:fP kvs k=some v):k∈kvs.map (·.1):=by
 have q:(kvs.any λa=>decide (a.1=k))=true:=by rw[iC,h];all_goals rfl
 obtain⟨p,b,e⟩:=List.any_eq_true.mp q;exact aa9.mpr ⟨p,b,of_decide_eq_true e⟩
def DX{p:κ×V}{r:List (κ×V)}{k:κ}(e:p.1=k):jY (p::r) k=jY r k:=by unfold jY;rw[an1,C5 (by simp[e])]
def D8{p:κ×V}{r:List (κ×V)}{k:κ}(e:¬p.1=k):jY (p::r) k=p::jY r k:=by unfold jY;rw[an1,w4 (by simp[e])]
end
inductive Kh(x:V)(vs:q7)(H:Hp)(Q:VK):Prop|mk(a b:Str)(_:x = .str a)(_:vs=[.str b])(_:(b.length == 0)=false)(_:a.length+2<=sizeLine)(_:∀p,H p=none->Q (.ref p) (ag H p (.lst ((Txt.split a b).map V.str))))
def DV:∀(n:Nat) (ys:a9),Vals (ys.map V.str) (strsFrom n ys):=by
 intro n ys;rw[strsFrom_eq];have a:∀l,Vals ((l.map (·.1)).map V.str) (strValues l):=by
  intro l;induction l with
  |nil=>exact .nil
  |cons p r ih=>exact .cons ⟨p.2,rfl⟩ ih
 have:=a (numbered n ys);rwa [numbered_texts] at this
def kM:Su X "str.split" Kh:=by
 intro g s Z H x o v us Q I j l h;obtain⟨a,b,rfl,rfl,i,p,q⟩:=h;obtain⟨t,rfl⟩:=j;obtain⟨u,rfl,n⟩:=l.one;obtain⟨d,rfl⟩:=n;have c:=q s.heap.objs.size (I.ba.fresh (N0 _));have f:=PyProof.Rows.split_le a b;cases h1:(decide (a.length<b.length) || decide (Builtin.Str.strKind a<Builtin.Str.strKind b))
 .cases hf:(Builtin.Str.occurrences a b 0 a.length (a.length+1)).isEmpty
  .have e:Txt.split a b=Builtin.Str.partsBetween a (Builtin.Str.occurrences a b 0 a.length (a.length+1)) b.length:=by unfold Txt.split;rw[C5 (ne_true_of_eq_false h1),C5 (ne_true_of_eq_false hf)]
   rw[e] at c f;refine am4 ag1 (am6 _ _ _) F.entry_str_split (F.args_str_split_2 _ _) (meets_str_split_sep a b t d h1 i hf (by lia) (by lia)) ?_;exact⟨.ref _,_,I.JS (t':=_) (DV s.toks _) (by rw[d5];lia),rfl,c⟩
  .have e:Txt.split a b=[a]:=by unfold Txt.split;rw[C5 (ne_true_of_eq_false h1),w4 hf]
   rw[e] at c;refine am4 ag1 (am6 _ _ _) F.entry_str_split (F.args_str_split_2 _ _) (meets_str_split_not_found a b t d h1 i hf) ?_;exact⟨.ref _,_,I.JS (ys:=[.str a]) (t':=s.toks) (.cons ⟨t,rfl⟩ .nil) (by show 1<=sizeLine;decide),rfl,c⟩
 .have e:Txt.split a b=[a]:=by unfold Txt.split;rw[w4 h1]
  rw[e] at c;refine am4 ag1 (am6 _ _ _) F.entry_str_split (F.args_str_split_2 _ _) (meets_str_split_cannot_occur a b t d h1) ?_;exact⟨.ref _,_,I.JS (ys:=[.str a]) (t':=s.toks) (.cons ⟨t,rfl⟩ .nil) (by show 1<=sizeLine;decide),rfl,c⟩
def yP:∀{us:c8},Vals (bs.map V.bl) us->LSm.BoolsAre us bs:=by
 induction bs with
 |nil=>intro us r;cases r;exact .nil
 |cons y r ih =>
  intro us h;cases h with
  |cons h t =>
   cases h;exact .cons _ (ih t)
def Ef (hc:X.aw=true):gS X (.builtin "all") (λxs H Q=>∃(p:Addr) (bs:List Bool),xs=[.ref p]/\aV X.K H p (bs.map V.bl)/\Q (.bl (bs.all id)) H):=by
 intro d s Z H xs us Q I r h;obtain⟨p,bs,rfl,j,q⟩:=h;obtain⟨u,rfl,l⟩:=vals1 r;cases l;obtain⟨a,n,o,y⟩:=I.list j;have f:=yP n;have hl:=o.isList;have c:p<s.heap.objs.size:=by obtain⟨_,e,_⟩:=hl;exact P2 e
 refine call_all_walk (wpAny_pyIter_list hl ?_);refine⟨s.heap.objs.size,[s.heap.objs.size,p],[s.heap.objs.size],a.toArray.size,_,_,λi=>(bs[i]?).getD true,rfl,Walks.list (A:=X.A.in1) (I.ok.hd hc) _ p (Z6 c) a.toArray,
  ⟨⟨_,aa5 _ rfl,rfl,rfl⟩,hl.push _⟩,λi v z B C t g=>?_,λD w x=>?_⟩
 .obtain⟨b,e,rfl⟩:=f.get i v (by simpa using t);simp only[e,Option.getD_some] at g;exact af4 g
 .have e:((List.range a.toArray.size).all λi=>(bs[i]?).getD true)=bs.all id:=T1▸f.length▸LSm.range_all bs
  exact e▸⟨.bl _,H,I.kept (t':=w) (LSm.kept_iter x),rfl,q⟩
def YN(z:Str):It:=⟨λi _=>i<z.length,λi H x a=>a=H/\∃c,z.l[i]?=some c/\x = .str ⟨#[c]⟩,λi _=>z.length<=i⟩
def vd{P:Program}{K:W.Frag}{x:Str}(z:Str)(it:Addr)(St:Nat->Heap->Prop)(cl:∀i h,St i h->∃o,h.get? it=some o/\∀v,o.data ≠ .cell v)
  (fr:∀i h h',St i h->(∀o,h.get? it=some o->h'.get? it=some o)->St i h') (sf:∀(A:Around) (i:Nat) (s:Shared) (Q:Value->Shared->Prop) (E:Value->Shared->Prop),St i s.heap->Q (.ref it) s->wpAny (model P w) A (pyIter (.ref it)) Q E s)
  (W:∀A:Around,A.handled=none->Walks P w A it [it] [it] z.cps.size (SignAt z) St):Turn P w K (.Name x px) (YN z) [it] it (λi h=>St i h/\i<=z.length) where
 mem:=by simp
 obj:=λi h a b d=>by
  have e:b=it:=by simpa using d
  subst e;exact cl i h a.1
 keep:=λi h h' a k=>⟨fr i h h' a.1 λo e=>k it (by simp) o e,a.2⟩
 item:=by intro X f n p q i g s Z H E I j a l;subst f n p;obtain⟨r,t,J,y,B,C⟩:=j it (by simp);refine(W X.A (I.ok.hd q)).item i s _ E l a.1 λv h' D f F G=>?_;obtain⟨c,u,L,rfl⟩:=f;refine⟨_,rfl,?_⟩;show wpAny _ _ (pure ()) _ _ _;refine X2 ⟨.str ⟨#[c]⟩,H,I.turned (t':=D) (λb o d e=>G b o (by simpa using d) e) r t y B C,⟨u,rfl⟩,⟨rfl,c,by simpa using L,rfl⟩,⟨F,l⟩,λb d=>(j b d).1⟩
 done:=by intro X f n p q i g s Z H E I j a l;subst f n p;obtain⟨r,t,J,y,B,C⟩:=j it (by simp);have e:=Nat.le_antisymm a.2 l;subst e;exact(W X.A (I.ok.hd q)).done s _ E a.1 λh' D G=>⟨rfl,I.turned (t':=D) (λb o d e=>G b o (by simpa using d) e) r t y B C⟩
 self:=λA i s Q E a h=>sf A i s Q E a.1 h
def Y4(te:TE):TI:=λZ H R=>te Z H λx a=>∃z,x = .str z/\R (YN z) a
def Tc(he:PE X e te):PI X (.Name x px) e (Y4 te):=by
 intro g s Z H R I h;refine dS (he g s Z H _ I h) λv a  D=>?_;obtain⟨y,F,n,G,J⟩:=D;obtain⟨z,rfl,q⟩:=J;obtain⟨t,rfl⟩:=G;have l:∀o St,Turn X.prog X.w X.K (.Name x px) (YN z) [a.heap.objs.size] a.heap.objs.size St->St 0 (a.heap.push o)->ZH X g Z (.Name x px) R (.ref a.heap.objs.size) { a with heap:=a.heap.push o }:=λo St T f=>by
  refine⟨a.heap.objs.size,[a.heap.objs.size],_,_,F,rfl,n.kept (t':=a.toks) λb o e=>x0 _ e,T,f,λb L=>?_,q⟩;have e:b=a.heap.objs.size:=by simpa using L
  subst e;exact n.CM (N0 _) (n.ba.fresh (N0 _))
 have B:∀j (i:Nat) (h:Heap),h.IsStrIter a.heap.objs.size j z t i->∃o,h.get? a.heap.objs.size=some o/\∀v,o.data ≠ .cell v:=λj i h f=>by obtain⟨o,e,c,d⟩:=f;exact⟨o,e,λv q=>by rw[d] at q;cases q⟩
 have C:∀j (i:Nat) (h p:Heap),h.IsStrIter a.heap.objs.size j z t i->(∀o,h.get? a.heap.objs.size=some o->p.get? a.heap.objs.size=some o)->p.IsStrIter a.heap.objs.size j z t i:=λj i h p f k=>by obtain⟨o,e,r⟩:=f;exact⟨o,k o e,r⟩
 cases ha:z.cps.all (· < 128)
 .exact wpAny_pyIter_wide ha (l _ _ (vd z _ _ (B _) (C _) (λA i s Q E f h=>wpAny_pyIter_striter_wide f h) (λA u=>Walks.strWide u _ z t)) ⟨⟨_,aa5 _ rfl,rfl,rfl⟩,Z9 _⟩)
 .exact wpAny_pyIter_ascii ha (l _ _ (vd z _ _ (B _) (C _) (λA i s Q E f h=>wpAny_pyIter_striter_ascii f h) (λA u=>Walks.strAscii u _ z t)) ⟨⟨_,aa5 _ rfl,rfl,rfl⟩,Z9 _⟩)
def Zr(K:W.Frag)(a:Addr):It :=
 ⟨λi H=>∃b x,aV K H a b/\b[i]?=some x,λi H x c=>∃p v,H p=none/\x = .ref p/\c=ag H p (.tup [.int i,v])/\∀b,aV K H a b->b[i]?=some v,λi H=>∃b,aV K H a b/\b.length<=i⟩
def Inv.aak{u v:Value}{x y:V}{g2:Heap}(I:Inv X am Z H s)(l:∀b∈ch,wk X am H b)(m:∀b∈ch,∃o,s.heap.get? b=some o/\∀v,o.data≠.cell v)(N:∀c o,c∉ch->s.heap.get? c=some o->g2.get? c=some o)(ru:RelV x u)(rv:RelV y v)(T:IsPair g2 s.heap.objs.size u v):Inv X am Z (ag H s.heap.objs.size (.tup [x,y])) { s with heap:=g2,toks:=t' }/\H s.heap.objs.size=none/\∀b∈ch,ag H s.heap.objs.size (.tup [x,y]) b=none:=by
 have e:=I.ba.fresh (N0 s.heap.objs.size);refine⟨I.step (g':=s.gens) (d':=s.drawn) (ch:=ch) (λb g=>by have f:=l b g;exact⟨f.2.2.2.1,f.2.1,f.2.2.2.2.1,f.2.2.2.2.2⟩) (λb o _ _ j q _=>N b o j q) (λb o _ _ j q _=>⟨o.slots,N b o j q⟩) (λb o j q n=>by rw[aj (Z6 (P2 q))];exact n) (λb o j q=>⟨o,N b o j q⟩) (λb O q=>by rw[aj (au q e)];exact q) (λb o O q=>by rw[aj (au q e)];exact q) (λb ps q=>⟨#[],by rw[aj (au q e),q];simp⟩) (λm hm=>by obtain⟨o,es,ep,ho,r⟩:=hm;exact⟨o,es,ep,N _ o (λn=>(l _ n).2.1 rfl) ho,r⟩) (λb u' q=>?_) I.ax,e,λb j=>?_⟩
 .by_cases g:b=s.heap.objs.size
  .subst g;rw[aa] at q;cases q;exact⟨by show 2<=sizeLine;decide,[u,v],.cons ru (.cons rv .nil),⟨_,T,rfl,_,rfl⟩⟩
  .rw[aj g] at q;refine(I.ba b u' q).stay (λc v i r=>N c v (λn=>?_) r) (λc r=>by rw[aj (au r e)];exact r) λc O r=>by rw[aj (au r e)];exact r
   have f:=(l c n).1;rcases i with d|d
   .rw[d] at f;rw[f] at q;cases q
   .rw[f] at d;cases d
 .obtain⟨o,q,_⟩:=m b j;rw[aj (Z6 (P2 q))];exact(l b j).1
def DO{P:Program}{K:W.Frag}{x1}(a e it:Addr)(hne:e≠it):Turn P w K (.Tuple elts x1 pos) (Zr K a) [e,it] e (λi h=>∃old,IsEnum h e it i old/\h.IsListIter it a i) where
 mem:=by simp
 obj:=λi h j b t=>by
  obtain⟨old,j,y⟩:=j;rcases Z5.mp t with z|z
  .subst z;exact⟨_,j,λv q=>by cases q⟩
  .have e:b=it:=by simpa using z
   subst e;obtain⟨o,e,c,d⟩:=y;exact⟨o,e,λv q=>by rw[d] at q;cases q⟩
 keep:=λi h h' j k=>by obtain⟨old,j,y⟩:=j;exact⟨old,k e (by simp) _ j,y.at λo q=>k it (by simp) o q⟩
 item:=by
  intro X L M N l i A s Z H E I B j O;subst L M N;obtain⟨old,j,y⟩:=j;obtain⟨xs,x,J,Q⟩:=O;obtain⟨R,S,p,hz⟩:=I.list J;obtain⟨u,hu,ru⟩:=S.get Q;refine wpAny_pyNext_enum_item j y p.isList (x:=u) (by simpa using hu) hne λh1 eo T ht hsz hk=>?_;refine⟨_,rfl,wpAny_letOwnedTupleGo_enum (s:={ s with heap:=h1,toks:=s.toks+1 }) eo λh2 en U=>?_⟩;obtain⟨c,d,f⟩:=I.aak (t':=s.toks+1) B (λb t=>by
   rcases Z5.mp t with z|z
   .subst z;exact⟨_,j,λv q=>by cases q⟩
   .have e:b=it:=by simpa using z
    subst e;obtain⟨o,e,c,d⟩:=y;exact⟨o,e,λv q=>by rw[d] at q;cases q⟩) (λb o n q=>by simp only[Z5,ad1,an3,not_or] at n;exact(U.2 b n.1).trans (hk b o n.1 n.2 q)) (show RelV (.int i) _ from ⟨_,rfl⟩) ru ((U.2 _ (aa4 (Z6 (P2 j)))).trans ht)
  exact⟨.ref s.heap.objs.size,_,c,rfl,⟨_,x,d,rfl,rfl,λys hy=>by rw[I.qf hy J];exact Q⟩,⟨_,en,by obtain⟨o,q,r⟩:=T;exact⟨o,(U.2 it (aa4 hne)).trans q,r⟩⟩,f⟩
 done:=by intro X L M N l i A s Z H E I B j O;subst L M N;obtain⟨old,j,y⟩:=j;obtain⟨xs,J,Q⟩:=O;obtain⟨R,S,p,hz⟩:=I.list J;obtain⟨f0,f1,f2,f3,f4,f5⟩:=B it (by simp);have hl:=S.length;exact wpAny_pyNext_enum_end (I.ok.hd l) j y p.isList (by simp;lia) λh' eb=>⟨rfl,I.turned (t':=s.toks) (λb o t e=>eb b o t e) f0 f1 f3 f4 f5⟩
 self:=λ_ _ _ _ _ j h=>by obtain⟨old,j,y⟩:=j;exact wpAny_pyIter_enum j h
def Xl(K:W.Frag)(ta:TA):TI:=λZ H R=>ta Z H λc b=>∃a d,c=[.ref a]/\aV K b a d/\R (Zr K a) b
def wG      (hg:Gl X "enumerate") (hm:X.mg "enumerate" = none) (ha:PA X [a] ta) (hs:autoParam (starEach [a] X.env=[(false,eval a X.env)]) cw._auto_1) :
  PI X (.Tuple elts x1 tp) (.Call (.Name "enumerate" p) [a] [] pos) (Xl X.K ta):=by
 intro d s Z H R I h;refine Call_ (pF I hg hm (show bootBuiltins "enumerate" = some (.type "enumerate") by lk) (ae0 (dS (ha pos d s Z H _ I h) λus c i=>?_) hs rfl));obtain⟨D,j,f,n,o⟩:=i;obtain⟨l,E,rfl,r,q⟩:=o;obtain⟨u,rfl,t⟩:=n.one;cases t;obtain⟨v,F,w,G⟩:=f.list r;refine call_enumerate_list w.isList λx g y A B=>?_;refine wpAny_pyIter_enum (s:={ c with heap:=x }) g ?_;refine⟨c.heap.objs.size+1,[c.heap.objs.size+1,c.heap.objs.size],_,_,j,rfl,f.kept (t':=c.toks) B,DO l _ _ (Nat.succ_ne_self _),⟨_,g,y⟩,λb C=>?_,q⟩;have e:c.heap.objs.size<=b:=by
  rcases Z5.mp C with z|z
  .exact z▸al7 _
  .have z:b=c.heap.objs.size:=by simpa using z
   exact z▸N0 _
 exact f.CM e (f.ba.fresh e)
def i8{x y:Str}(h:x.l=y.l):x=y:=by obtain⟨a⟩:=x;obtain⟨b⟩:=y;have:a=b:=ai1.mp h;rw[this]
def dF(x y:Str):(x++y).l=x.l++y.l:=by show (x.cps++y.cps).toList=_;simp
noncomputable def d9(c:Nat):List c7->c7
 | []=>[]
 | [x]=>x
 |x::y::r=>x++c::d9 c (y::r)
theorem fZ(c:Nat):∀ps:a9,(Str.join ⟨#[c]⟩ ps).l=d9 c (ps.map λp=>p.l)
 | []=>rfl
 | [x]=>rfl
 |x::y::r=>by show (x++⟨#[c]⟩++Str.join ⟨#[c]⟩ (y::r)).l=x.l++c::d9 c ((y::r).map λp=>p.l);rw[dF,dF,fZ c (y::r)];simp[Str.l]
theorem BS:∀{a b r s:c7},c∉a->c∉b->a++c::r=b++c::s->a=b/\r=s
 | [],[],r,s,_,_,h=>⟨rfl,by simpa using h⟩
 | [],y::b,r,s,_,hb,h=>by simp at h;exact absurd (by simp[h.1]) hb
 |x::a,[],r,s,ha,_,h=>by simp at h;exact absurd (by simp[h.1]) ha
 |x::a,y::b,r,s,ha,hb,h=>by simp only[List.cons_append,List.cons.injEq] at h;obtain⟨e1,e2⟩:=BS (λz=>ha (Q1 _ z)) (λz=>hb (Q1 _ z)) h.2;exact⟨by rw[h.1,e1],e2⟩
theorem v8:∀{ps qs:List c7},ps≠[]->qs≠[]->(∀p∈ps,c∉p)->(∀q∈qs,c∉q)->d9 c ps=d9 c qs->ps=qs
 | [],_,h,_,_,_,_=>absurd rfl h
 |_::_,[],_,h,_,_,_=>absurd rfl h
 | [x],[y],_,_,_,_,h=>by simp only[d9] at h;rw[h]
 | [x],y::z::r,_,_,hx,_,h=>by simp only[d9] at h;exact absurd (by rw[h];simp) (hx x (by simp))
 |x::z::r,[y],_,_,_,hy,h=>by simp only[d9] at h;exact absurd (by rw[<- h];simp) (hy y (by simp))
 |x::x2::r,y::y2::s,_,_,hx,hy,h=>by simp only[d9] at h;obtain⟨e1,e2⟩:=BS (hx x (by simp)) (hy y (by simp)) h;have:=v8 (ps:=x2::r) (qs:=y2::s) (by simp) (by simp) (λp a=>hx p (Q1 _ a)) (λq b=>hy q (Q1 _ b)) e2;rw[e1,this]
def pe(hn:ps≠[])(hf:∀p∈ps,c∉p.l):Txt.split (Str.join ⟨#[c]⟩ ps) ⟨#[c]⟩=ps:=by
 have g:=StrLaws.join_split (Str.join ⟨#[c]⟩ ps) ⟨#[c]⟩;have i:=StrLaws.split_free (Str.join ⟨#[c]⟩ ps) c;have d:=PyProof.Rows.split_pos (Str.join ⟨#[c]⟩ ps) ⟨#[c]⟩;generalize Txt.split (Str.join ⟨#[c]⟩ ps) ⟨#[c]⟩=qs at g i d;have j:=ac7 (λx=>x.l) g;simp only[fZ] at j;have inj:∀{a b:a9},(a.map λp=>p.l)=(b.map λp=>p.l)->a=b:=by
  intro a;induction a with
  |nil=>intro b h;cases b with
   |nil=>rfl
   |cons _ _=>cases h
  |cons x r ih =>
   intro b h;cases b with
   |nil=>cases h
   |cons y s =>
    simp only[ab5,List.cons.injEq] at h;rw[i8 h.1,ih h.2]
 refine inj (v8 (c:=c) (by intro z;have:=ac7 List.length z;simp at this;rw[this] at d;simp at d) (by intro z;have:=ac7 List.length z;simp at this;exact hn this) (by intro p e;obtain⟨q,f,rfl⟩:=aa9.mp e;exact i q f) (by intro p e;obtain⟨q,f,rfl⟩:=aa9.mp e;exact hf q f) j)
noncomputable def oq(c d:Nat)(l:c7):c7:=l.map λx=>if x=c then d else x
theorem n9:∀{l:c7},c∉l->oq c d l=l
 | [],_=>rfl
 |x::r,h=>by unfold oq;rw[ab5,C5 (λz=>h (by simp[z]))];congr 1;exact n9 λz=>h (Q1 _ z)
theorem vA:∀{ps:List c7},(∀p∈ps,c∉p)->oq c d (d9 c ps)=d9 d ps
 | [],_=>rfl
 | [x],h=>n9 (h x (by simp))
 |x::y::r,h=>by
  simp only[d9];have e1:oq c d (x++c::d9 c (y::r))=oq c d x++d::oq c d (d9 c (y::r)):=by simp[oq]
  rw[e1,n9 (h x (by simp)),vA (ps:=y::r) λp a=>h p (Q1 _ a)]
def m5(x:Str)(c d:Nat):(Txt.replace x ⟨#[c]⟩ ⟨#[d]⟩).l=oq c d x.l:=by
 rw[StrLaws.replace_one,fZ];have a:=ac7 (λx=>x.l) (StrLaws.join_split x ⟨#[c]⟩);simp only[fZ] at a;conv=>rhs;rw[<- a]
 rw[vA];intro p b;obtain⟨q,e,rfl⟩:=aa9.mp b;exact StrLaws.split_free x c q e
def Dj(h:d∉l):oq d c (oq c d l)=l:=by
 induction l with
 |nil=>rfl
 |cons x r ih =>
  unfold oq at *;simp only[ab5];rw[(ih λz=>h (Q1 _ z))];by_cases e:x=c
  .subst e;simp
  .rw[C5 e,C5 (λz=>h (by simp[z]))]
def Zs{α:Type}{t:Sem α}{Q Q':α->Shared->Prop}{E E':Value->Shared->Prop}(h:wpAny M A t Q E s)(hQ:∀a s,Q a s->Q' a s)(hE:∀a s,E a s->E' a s):wpAny M A t Q' E' s:=ad3 h hQ hE
section
variable {o e:Expr}{to:TE}{p1 p2 p3 p4 p5:Pos}{j1 j2 j3:Nat}
inductive JM(y:Str)(z:Str):V->Hp->VK->Prop|mk{a:Str}{H Q:_}(_:a.length+(a.length+1)*z.length<=16777216)(_:Q (.str (Txt.replace a y z)) H):JM y z (.str a) H Q
def DN(hyz:(y == z)=false)(I:Inv X am Z H s)
  (ho:wpAny (model X.prog X.w) X.A (eval o X.env) (λu s'=>1<=s'.toks/\EP X am Z (λx H1=>JM y z x H1 Q) u s') X.xe s)
  (hbase:autoParam (attributeBase o "replace" X.env (eval o X.env)=eval o X.env) cw._auto_1) (hline:autoParam ((apos.endLine == cpos.line)=true) cw._auto_1) :
  wpAny (model X.prog X.w) X.A (eval (.Call (.Attribute o "replace" apos) [.Constant (.str y) j1 p1,.Constant (.str z) j2 p2] [] cpos) X.env) (EP X am Z Q) X.xe s:=by
 refine wpAny_Call_method_late hbase rfl hline rfl (dS ho λv b  c=>?_);obtain⟨d,x,H1,f,g,h⟩:=c;obtain@⟨a,_,_,i,q⟩:=h;obtain⟨t,rfl⟩:=g;refine⟨"str","str.replace",ae2,F.slot_str_replace,F.type_str_replace,am6 _ _ _,(λ_ e=>nomatch e),?_⟩;refine ah9 rfl (aj0 ?_);refine ai4 (Calls.Constant_str (k:=j1) (pos:=p1) (ai4 (Calls.Constant_str (k:=j2) (pos:=p2) (am0 ?_))));exact SC.replace (u:=b.toks) (v:=b.toks+1) (ao0 d) (Nat.succ_ne_zero _) Wd hyz i λj k=>⟨.str _,H1,f.tok _,⟨j,rfl⟩,q⟩
def Ba(hyz:(y == z)=false)(he:PE X e te)
  (hbase:autoParam (attributeBase (.Subscript e (.Slice (some (.Constant (.int k) j3 p4)) none none p3) p5) "replace" X.env (eval (.Subscript e (.Slice (some (.Constant (.int k) j3 p4)) none none p3) p5) X.env)=eval (.Subscript e (.Slice (some (.Constant (.int k) j3 p4)) none none p3) p5) X.env) cw._auto_1)
  (hline:autoParam ((apos.endLine == cpos.line)=true) cw._auto_1) :
  PE X (.Call (.Attribute (.Subscript e (.Slice (some (.Constant (.int k) j3 p4)) none none p3) p5) "replace" apos) [.Constant (.str y) j1 p1,.Constant (.str z) j2 p2] [] cpos) (λZ H Q=>te Z H λx H1=>∃w:Str,x = .str w/\w.length<=sizeLine/\JM y z (.str (Txt.slice w (some k) none)) H1 Q):=by
 intro c s Z H Q I h;refine DN hyz I ?_ hbase hline;refine Subscript_ (dS (he c s Z H _ I h) λv a  f=>?_);obtain⟨x,H1,g,i,w,j,l,o⟩:=f;subst j;obtain⟨t,rfl⟩:=i;refine wpAny_Slice ?_;rw[evalPart_some];refine wpAny_Constant_int ?_;rw[evalPart_none];refine X2 ?_;refine X2 ?_;have p:Inv X c Z H1 { a with toks:=a.toks+1 }:=g.tok _;have r:Inv X c Z H1 { a with toks:=a.toks+1,heap:=a.heap.push { cls:=.type "slice",data:=.fields #[.int k a.toks,.none,.none] } }:=p.kept (t':=a.toks+1) λb C q=>x0 _ q;obtain⟨T,D,u,A,B⟩:=ko (X:=X) c { a with toks:=a.toks+1,heap:=a.heap.push { cls:=.type "slice",data:=.fields #[.int k a.toks,.none,.none] } } Z H1 (.str w) (.str w t) (.int k a.toks) .none (some k) none a.heap.objs.size (λx H1=>JM y z x H1 Q) r ⟨t,rfl⟩ (Heap.IsSliceOf.new ..) (.int k _) .none ⟨l,o⟩;exact Zs (wpAny_toks_of (n:=1) (show 1<=a.toks+1 by lia) (tail_any (value:=e) (slice:=.Slice (some (.Constant (.int k) j3 p4)) none none p3) (ops:=[.ref a.heap.objs.size,.str w t]) A u B (by with_unfolding_all rfl))) (λ_ _ q=>q) λ_ _ q=>q.2
end
def iF    (hg:Gl X x) (h:∃u,X.mg x=some u/\RelV v u) (hd:autoParam ((x == ("__debug__" : Str))=false) cw._auto_1):PE X (.Name x pos) (tC v):=by obtain⟨u,e,r⟩:=h;exact jX hg e r hd
def EI(Pv:Nat->q7->Hp->Prop)(h0:Pv 0 [] H)(hn:z.length<sizeLine)
  (hs:∀i c ys H,z.l[i]?=some c->ys.length=i->Pv i ys H->te (nv caps Z++[some (.str ⟨#[c]⟩)]) H λy H2=>∃m',m'<z.length-i/\m'=z.length-(i+1)/\i+1<=z.length/\(ys++[y]).length=i+1/\Pv (i+1) (ys++[y]) H2) (hd:∀ys H,ys.length=z.length->Pv z.length ys H->∀D,H D=none->Q (.ref D) (ag H D (.lst ys))) :
  yz (YN z) caps te Z H Q:=by
 refine⟨λi m ys H=>m=z.length-i/\i<=z.length/\ys.length=i/\Pv i ys H,⟨z.length,by simp,Z9 _,rfl,h0⟩,?_⟩;rintro i m ys H ⟨rfl,d,hl,p⟩;by_cases a:i<z.length
 .refine .inr ⟨a,by lia,λx f y=>?_⟩;obtain⟨e,c,b,rfl⟩:=y;subst e;exact hs i c ys _ b hl p
 .have e:i=z.length:=by lia
  subst e;exact .inl ⟨N0 _,hd ys H hl p⟩
def qK{K:PySem.W.Frag}(Pv:Nat->St->Hp->Prop)(h0:Pv 0 Z H)(hl:∀i Z H,i<=xs.length->Pv i Z H->aV K H a xs)
  (hs:∀i x p Z H,xs[i]?=some x->H p=none->Pv i Z H->g (.ref p) Z (ag H p (.tup [.int i,x])) λZ2 H2=>tb { D with nx:=Pv (i+1),ct:=Pv (i+1),bk:=D.nx } Z2 H2) (hd:∀Z H,Pv xs.length Z H->D.nx Z H):DJ (Zr K a) g tb D Z H:=by
 refine⟨λi m Z H=>m=xs.length-i/\i<=xs.length/\Pv i Z H,⟨xs.length,by simp,Z9 _,h0⟩,?_⟩;rintro i m Z H ⟨rfl,c,p⟩;have q:=hl i Z H c p;by_cases b:i<xs.length
 .refine .inr ⟨⟨xs,xs[i],q,by simp[b]⟩,Pv (i+1),λn d f=>⟨xs.length-(i+1),by lia,rfl,b,f⟩,λx d y=>?_⟩;obtain⟨h,v,j,rfl,rfl,l⟩:=y;exact hs i v h Z H (l xs q) j p
 .have e:i=xs.length:=by lia
  subst e;exact .inl ⟨⟨xs,q,N0 _⟩,hd Z H p⟩
def fY(H H':Hp)(p:Addr):Prop:=∀b o,H b=some o->b≠p->H' b=some o
def fY.refl(H:Hp)(p:Addr):fY H H p:=λ_ _ h _=>h
def fY.trans(a:fY H H1 p)(b:fY H1 H2 p):fY H H2 p:=λc o h n=>b c o (a c o h n) n
def fY.ae(a:fY H H1 p)(b:af H1 H2):fY H H2 p:=λc o h n=>b c o (a c o h n)
def af.K3(a:af H H1)(b:fY H1 H2 p):fY H H2 p:=λc o h n=>b c o (a c o h) n
def fY.ag:fY H (L2.ag H p o) p:=λb u h n=>by rw[aj n];exact h
def zb(hN:X.N.Nodup)(hiy:X.N[i]?=some y)(hy:Loc X.env.scope y)(ck:oN sc csc N x caps)(hi:PI X (.Name x px) iter wi)
  (ht:∀C s2 H2 fp,Xx (fJ X (caps.map (·.1)++[x]) csc C s2 H2 fp) ifs tt) (he:∀C s2 H2 fp,PE (fJ X (caps.map (·.1)++[x]) csc C s2 H2 fp) elt te) (hc:X.aw=true) (hsc:X.env.scope=sc) (hXN:X.N=N) (hs:∀x,foldedSetIterable iter X.env x=pure x)
  (hsw:swapsWith (.ListComp elt [⟨.Name x px,iter,ifs,0⟩] csc pos) (some (.Name y pos')) spos.line X.env=pure true) (hf:X.fn y=true\/X.env.scope.names.lookup y=some .local) :
  PS X (.Assign [.Name y pos'] (.ListComp elt [⟨.Name x px,iter,ifs,0⟩] csc pos) spos) (Bc (rR caps wi tt te) (p9 i)):=by
 intro a s Z H D I h;rw[exec_Assign_Name_used _ _ _ _ hsw];refine y0 (wpAny_standAt (y0 ?_));show wpAny _ X.A (do let _ <- comprehension (.ListComp elt [⟨.Name x px,iter,ifs,0⟩] csc pos) csc X.env _ (newList []) false (eval iter X.env) (some (assign (.Name y pos') X.env))) _ _ s;refine y0 (ad3 (yg ck hi ht he hc hsc hXN hs I h (some (assign (.Name y pos') X.env)) (λ_ O=>SP X a D .next O) ?_) (λ_ O T=>X2 (X2 T)) λ_ _ e=>e);intro s2 H2 Dl C u B s4 m l d U E F W G q;have P:Inv X a Z (ag B Dl (.lst u)) s4:=W s4.heap (Heap.SameBut.refl _ _);have J:=aa4 E;have K:ag B Dl (.lst u) C=none:=by rw[aj J];exact G
 have n:C≠X.env.locals:=λz=>by have:=l.lt;rw[<- z] at this;exact absurd this (Nat.not_lt.mpr d)
 have r:=l.Xj d;have j:∀p∈X.pn++a,p.1≠C:=λp f z=>by have:=(l.pin p f).1;have:=P2 this;rw[z] at this;exact absurd this (Nat.not_lt.mpr d)
 have g:∀z c,X.env.cells.lookup z=some c->c≠C:=λz c e w=>by obtain⟨v,o,Y,_⟩:=l.cell z c e;have:=P2 Y;rw[w] at this;exact absurd this (Nat.not_lt.mpr d)
 obtain⟨t,es,ep,eC,Q,rC⟩:=id F;have I1:Inv X (a++[(C,t)]) Z (ag B Dl (.lst u)) s4:=P.jZ λp f=>by
  rcases X1.mp f with f|f
  .exact P.pin p (Z2 _ f)
  .rw[B1.mp f];exact⟨eC,K,n,r,λv z=>by rw[Q] at z;cases z⟩
 refine dS (pQ (i:=i) (pos:=pos') hN hiy hy hf (a++[(C,t)]) s4 Z _ (.ref Dl) (.ref Dl) D.nx I1 rfl q) λ_ s5  hZ=>?_;obtain⟨Z5,R,L,q5⟩:=hZ;have S:=L.pin (C,t) (by simp);refine⟨m,⟨t,es,ep,S.1,Q,rC⟩,λh' M=>?_⟩;exact⟨Z5,R,(L.jZ λp f=>L.pin p (Z2 _ (aa8 _ f))).turned (h':=h') (t':=s5.toks) (it:=C) (λb o hb e=>(M.2 b hb).trans e) S.2.1 n (.inr (ac2 l.sz d)) g j,q5⟩
def B3{i:Nat}{y:Str}{sc csc:Scope}{N:a9}{elt iter:Expr}{x:Str}{px pos pos' spos:Pos}{caps:List (Str×Nat)}{wi:TI}{te:TE}(hN:X.N.Nodup)(hiy:X.N[i]?=some y)(hy:Loc X.env.scope y)(ck:oN sc csc N x caps)(hi:PI X (.Name x px) iter wi)
  (he:∀C s2 H2 fp,PE (fJ X (caps.map (·.1)++[x]) csc C s2 H2 fp) elt te) (hc:autoParam (X.aw=true) cw._auto_1) (hsc:autoParam (X.env.scope=sc) cw._auto_1) (hXN:autoParam (X.N=N) cw._auto_1) (hs:autoParam (∀x,foldedSetIterable iter X.env x=pure x) cw._auto_1)
  (hsw:autoParam (swapsWith (.ListComp elt [⟨.Name x px,iter,[],0⟩] csc pos) (some (.Name y pos')) spos.line X.env=pure true) cw._auto_1) (hf:autoParam (X.fn y=true\/X.env.scope.names.lookup y=some .local) cw._auto_1) :
  PS X (.Assign [.Name y pos'] (.ListComp elt [⟨.Name x px,iter,[],0⟩] csc pos) spos) (Bc (Qw caps wi te) (p9 i)):=zb hN hiy hy ck hi (λ_ _ _ _=>Bm) he hc hsc hXN hs hsw hf
def kc{K:W.Frag}{e:Expr}{ta:TE}{f:Str}{pos:Pos}(he:PE X e ta)(hb:attributeBase e f X.env (eval e X.env)=eval e X.env)(hK:autoParam (X.K=K) cw._auto_1):PE X (.Attribute e f pos) (U6 K ta f):=by subst hK;exact aM he hb
def Gq{K:W.Frag}(hK:X.K=K):Wg X (LP K):=by subst hK;exact aU
noncomputable def strsOf:List Expr->Option a9
 | []=>some []
 |e::r=>match e with
  |.Constant (.str x) _ _=>(strsOf r).map (x :: ·)
  |_=>none
theorem j6:∀{es:List Expr} {xs:a9},strsOf es=some xs->PA X es (λ_ H Q=>Q (xs.map V.str) H)
 | [],xs,h=>by have e:=(aa1 h).symm;subst e;exact bu
 |e::r,xs,h=>by
  unfold strsOf at h;split at h
  .rename_i x j p;obtain⟨a,b,c⟩:=D1.mp h;subst c;exact ao (te:=tC (.str x)) (t:=λ_ H Q=>Q (a.map V.str) H) aZ (j6 b) rfl
  .cases h
def q8(hi:i<n)(hl:ys.length<=i+1)(r:R):∃m',m'<n-i/\m'=n-(i+1)/\i+1<=n/\ys.length<=i+1/\R:=⟨n-(i+1),by lia,rfl,hi,hl,r⟩
def zp{K:W.Frag}(Pv:Nat->q7->Hp->Prop)(h0:Pv 0 [] H)(hn:xs.length<sizeLine)
  (hq:∀i ys H,i<=xs.length->Pv i ys H->aV K H a xs)
  (hs:∀i x ys H,xs[i]?=some x->ys.length<=i->Pv i ys H->tt (nv caps Z++[some x]) H λb H2=>if b=true then te (nv caps Z++[some x]) H2 λy H3=>∃m',m'<xs.length-i/\m'=xs.length-(i+1)/\i+1<=xs.length/\(ys++[y]).length<=i+1/\Pv (i+1) (ys++[y]) H3
   else ∃m',m'<xs.length-i/\m'=xs.length-(i+1)/\i+1<=xs.length/\ys.length<=i+1/\Pv (i+1) ys H2) (hd:∀ys H,ys.length<=xs.length->Pv xs.length ys H->∀D,H D=none->Q (.ref D) (ag H D (.lst ys))) :
  Bq (Q7 K a) caps tt te Z H Q:=by
 refine⟨λi m ys H=>m=xs.length-i/\i<=xs.length/\ys.length<=i/\Pv i ys H,⟨xs.length,by simp,Z9 _,Z9 _,h0⟩,?_⟩;rintro i m ys H ⟨rfl,d,hl,p⟩;have q:=hq i ys H d p;by_cases c:i<xs.length
 .refine .inr ⟨⟨xs,xs[i],q,by simp[c]⟩,by lia,λx f y=>?_⟩;obtain⟨e,y⟩:=y;subst e;exact hs i x ys _ (y xs q) hl p
 .have e:i=xs.length:=by lia
  subst e;exact .inl ⟨⟨xs,q,N0 _⟩,hd ys H hl p⟩
structure Kept(F ch:c6)(g h:Heap):Prop where
 keep:∀b o,g.get? b=some o->b∉F->b∉ch->h.get? b=some o
 slot:∀b o,g.get? b=some o->b∈F->b∉ch->∃sl,h.get? b=some { o with slots:=sl }
 there:∀b o,g.get? b=some o->∃u,h.get? b=some u
def Kept.trans{F c1 c2:c6}{g k:Heap}(x:Kept F c1 g h)(y:Kept F c2 h k):Kept F (c1++c2) g k where
 keep b o e n1 n2:=y.keep b o (x.keep b o e n1 λz=>n2 (aa8 _ z)) n1 λz=>n2 (Z2 _ z)
 slot b o e n1 n2:=by
  obtain⟨f,a⟩:=x.slot b o e n1 λz=>n2 (aa8 _ z);obtain⟨c,d⟩:=y.slot b _ a n1 λz=>n2 (Z2 _ z);exact⟨c,d⟩
 there b o e:=let ⟨u,a⟩:=x.there b o e;y.there b u a
def Kept.one{F:c6}{a:Addr}{o:Obj}{f:Obj->Obj}(e:h.get? a=some o)(nf:(f o).isFreed=false):Kept F [a] h (h.update a f) where
 keep b u q n1 n2:=by rw[ab0 _ _ (λz=>n2 (by simp[z]))];exact q
 slot b u q n1 n2:=⟨u.slots,by rw[ab0 _ _ (λz=>n2 (by simp[z]))];exact q⟩
 there b u q:=by
  by_cases z:b=a
  .subst z;exact⟨_,af0 _ e nf⟩
  .exact⟨u,by rw[ab0 _ _ (aa4 z)];exact q⟩
def Kept.push:Kept F [] h (h.push o) :=
 ⟨λb u q _ _=>x0 _ q,λb u q _ _=>⟨u.slots,x0 _ q⟩,λb u q=>⟨u,x0 _ q⟩⟩
def Kept.slots(x:Heap.SlotsOnly F h k):Kept F [] h k :=
 ⟨λb u q n _=>(x.2.1 b n).trans q,λb u q _ _=>x.2.2 b u q,λb u q=>let ⟨sl,e⟩:=x.2.2 b u q;⟨_,e⟩⟩
def Kept.mono(x:Kept F c1 g h)(s:∀b∈c1,b∈c2):Kept F c2 g h :=
 ⟨λb o e a c=>x.keep b o e a λz=>c (s b z),λb o e a c=>x.slot b o e a λz=>c (s b z),x.there⟩
def Kept.frame(x:Kept [] ch g h)(F:c6):Kept F ch g h :=
 ⟨λb o e _ n=>x.keep b o e (by simp) n,λb o e _ n=>⟨o.slots,x.keep b o e (by simp) n⟩,x.there⟩
def Kept.un(x:Kept F ch g h):Un F ch H H g h :=
 ⟨λb o e _ a c=>x.keep b o e a c,λb o e _ a c=>x.slot b o e a c,λ_ _ _ n _=>n,λb o e _=>x.there b o e,λ_ _ e=>e,λ_ _ _ e=>e,λb d e=>⟨#[],by rw[e];simp⟩⟩
def Kept.ba(x:Kept F ch g h)(k:lR P w H g)(hF:∀b∈F,H b=none)(hc:∀b∈ch,H b=none):lR P w H h:=λa o e=>by
 refine(k a o e).stay (λb u c q=>x.keep b u q (λz=>?_) λz=>?_) (λ_ q=>q) λ_ _ q=>q
 .rcases c with y|y
  .rw[y] at z;rw[hF a z] at e;cases e
  .rw[hF b z] at y;cases y
 .rcases c with y|y
  .rw[y] at z;rw[hc a z] at e;cases e
  .rw[hc b z] at y;cases y
section
variable {E:Value->Shared->Prop}{e:Addr}
def vq(hfr:A.frames=some (env::outer))(hl:s.heap.FunFrames ap (env::outer))(hf:env.frame=some L)
  (he:s.heap.get? e=some oe) (hd:oe.data = .fields vs) (hsz:1<vs.size)
  (h:∀(h2:Heap) (T:Addr) (oT:Obj) (ts:n7),Kept (frs (env::outer)) [e] s.heap h2->s.heap.objs.size<=T->T≠e->h2.get? e=some (oe.mapFields (·.setIfInBounds 1 (.ref T)))->h2.get? T=some oT->oT.data = .fields ts->ts[3]?=some (rawInt L)->Q () { s with heap:=h2 }) :
  wpAny M A (do let a <- frameOf env;let pl <- entryPlaceOf L hn;let b <- EntryCells.newEntry head a .none (rawInt L) .none pl;setField (.ref e) 1 b) Q E s:=by
 have p:e∉frs (env::outer):=λz=>by obtain⟨_,o,q,r⟩:=hl.mem z;rw[he] at q;cases q;exact r vs hd
 refine y0 (wpAny_frameOf_fun hfr hl hf λg1 f=>?_);have g:Kept (frs (env::outer)) [] s.heap g1:=Kept.slots f;refine y0 (wpAny_entryPlaceOf λpl c=>?_);unfold EntryCells.newEntry newFields;refine y0 (ag9 ?_ (c.sizeOk5 _ _ _ _ _));have i:g1.get? e=some oe:=g.keep e oe he p (by simp);generalize hO:({ cls:=.type "traceback",dict:=none,data:=.fields ([head,.ref L,.none,rawInt L,.none]++(if pl.isEmpty then List.replicate 6 Value.none else pl)).toArray }:Obj)=O;have j:O.data = .fields ([head,.ref L,.none,rawInt L,.none]++(if pl.isEmpty then List.replicate 6 Value.none else pl)).toArray:=by rw[<- hO]
 have d:(g1.push O).get? e=some oe:=x0 _ i;have l:=ak8 hd (·.setIfInBounds 1 (Value.ref g1.objs.size));have n:=ao0 (P2 i);refine wpAny_setField d hd hsz (h _ g1.objs.size O _ (((g.trans Kept.push).trans (Kept.one d (ah1 l))).mono (by simp)) (ap0 f.1.symm) n (af0 _ d (ah1 l)) (by rw[ab0 _ _ (aa4 n)];exact aa5 g1 (ah1 j)) j (by simp))
end
structure jH(h:Heap)(e C:Addr)(d:Option Addr)(T:Addr)(fl:Value):Prop where
 ob:∃oe vs,h.get? e=some oe/\oe.cls = .ref C/\oe.dict=d/\oe.data = .fields vs/\vs[1]?=some (.ref T)
 ne:T≠e
 tb:∃oT ts,h.get? T=some oT/\oT.data = .fields ts/\ts[3]?=some fl
def wj(h:Heap)(e C:Addr)(d:Option Addr):Prop:=∃a b,h.get? e=some a/\a.cls = .ref C/\a.dict=d/\a.data = .fields b/\b[1]?=some .none
section
variable {E:Value->Shared->Prop}{e T:Addr}{d:Option Addr}
def JD(hfr:A.frames=some (env::outer))(hl:s.heap.FunFrames ap (env::outer))(hf:env.frame=some L)(x:wj s.heap e C d)
  (h:∀(h2:Heap) (T:Addr),Kept (frs (env::outer)) [e] s.heap h2->s.heap.objs.size<=T->jH h2 e C d T (rawInt L)->Q () { s with heap:=h2 }):wpAny M A (noteFrame (.ref e) env) Q E s:=by
 obtain⟨i,j,b,h2,l,a,f⟩:=x;unfold noteFrame;simp only[hf];refine y0 (ao8 b a f ?_);rw[C5 (by decide)];have sz:=(ag4.mp f).1;refine vq hfr hl hf b a sz λg T o p k n ne q r t u=>h g T k n ⟨⟨_,_,q,by rw[Obj.cls_mapFields];exact h2,by obtain⟨c,w,v,y⟩:=i;cases v <;> exact l,ak8 a _,by simp[sz]⟩,ne,o,p,r,t,u⟩
def CC(hfr:A.frames=some (env::outer))(hl:s.heap.FunFrames ap (env::outer))(hf:env.frame=some L)(x:jH s.heap e C d T .none)
  (h:∀(h2:Heap) (T2:Addr),Kept (frs (env::outer)) [T,e] s.heap h2->s.heap.objs.size<=T2->jH h2 e C d T2 (rawInt L)->Q () { s with heap:=h2 }):wpAny M A (noteFrame (.ref e) env) Q E s:=by
 obtain⟨⟨oe,y,t,h2,B,i,u⟩,ne,R,v,a,f,w⟩:=x;unfold noteFrame;simp only[hf];refine y0 (ao8 t i u ?_);rw[w4 (by simp)];refine y0 (ao8 a f w ?_);rw[C5 (by simp[rawInt])];refine y0 (wpAny_setField a f ((ag4.mp w).1) ?_);have G:Kept (frs (env::outer)) [T] s.heap (s.heap.update T (Obj.mapFields (·.setIfInBounds 3 Value.none))):=Kept.one a (ah1 (ak8 f (·.setIfInBounds 3 Value.none)));have j:(s.heap.update T (Obj.mapFields (·.setIfInBounds 3 Value.none))).get? e=some oe:=by rw[ab0 _ _ ne];exact t
 have sz:=(ag4.mp u).1;refine vq (s:={ s with heap:=s.heap.update T (Obj.mapFields (·.setIfInBounds 3 Value.none)) }) hfr (hl.of_keeps λb o q H=>⟨o,by rw[ab0 _ _ (λz=>by rw[<- z,a] at q;cases q;exact H v f)];exact q,rfl⟩) hf j i sz λg T2 I p k n r J K N O=>h g T2 (G.trans k) (by have n:=n;rw[Heap.size_after_update] at n;exact n) ⟨⟨_,_,J,by rw[Obj.cls_mapFields];exact h2,by obtain⟨c,S,P,U⟩:=oe;cases P <;> exact B,ak8 i _,by simp[sz]⟩,r,I,p,K,N,O⟩
def jV(x:jH s.heap e C d T fl)(h:∀h2:Heap,Kept [] [T] s.heap h2->jH h2 e C d T .none->Q () { s with heap:=h2 }):wpAny M A (setFlight (.ref e) none) Q E s:=by
 obtain⟨⟨n,o,c,h2,p,g,i⟩,ne,t,q,a,j,r⟩:=x;have l:=(ag4.mp r).1;unfold setFlight;refine y0 (ao8 c g i ?_);rw[w4 (by simp)];have b:=ak8 j (·.setIfInBounds 3 ((none:Option Addr).elim Value.none λf=>rawInt f));refine wpAny_setField a j l (h _ (Kept.one a (ah1 b)) ⟨⟨n,o,by rw[ab0 _ _ ne];exact c,h2,p,g,i⟩,ne,_,_,af0 _ a (ah1 b),b,by simp[l]⟩)
def leave_new(hfr:A.frames=some (env::outer))(hl:s.heap.FunFrames ap (env::outer))(hf:env.frame=some L)(x:wj s.heap e C d)
  (h:∀(h2:Heap) (T:Addr),Kept (frs (env::outer)) [e,T] s.heap h2->s.heap.objs.size<=T->jH h2 e C d T .none->Q () { s with heap:=h2 }):wpAny M A (leaving env (.ref e)) Q E s:=by
 unfold leaving;refine y0 (JD hfr hl hf x λg T k n y=>jV (s:={ s with heap:=g }) y λa b c=>h a T (k.trans (b.frame _)) n c)
def Kw(hfr:A.frames=some (env::outer))(hl:s.heap.FunFrames ap (env::outer))(hf:env.frame=some L)(x:jH s.heap e C d T .none)
  (h:∀(h2:Heap) (T2:Addr),Kept (frs (env::outer)) [T,e,T2] s.heap h2->s.heap.objs.size<=T2->jH h2 e C d T2 .none->Q () { s with heap:=h2 }):wpAny M A (leaving env (.ref e)) Q E s:=by
 unfold leaving;refine y0 (CC hfr hl hf x λg T2 k n y=>jV (s:={ s with heap:=g }) y λa b c=>h a T2 (k.trans (b.frame _)) n c)
end
noncomputable def jQ(e C:Addr)(d:Option Addr):HO:=.ext λh=>∃a b,h.get? e=some a/\a.cls = .ref C/\a.dict=d/\a.data = .fields b/\1<b.size
def CD(h1:h.get? e=some oe)(h2:oe.cls = .ref C)(h3:oe.dict=d)(h4:oe.data = .fields vs)(h5:1<vs.size):dz P w H h e (jQ e C d) :=
 ⟨⟨oe,vs,h1,h2,h3,h4,h5⟩,⟨oe,h1⟩,λc f ⟨o,v,a,b⟩ k=>⟨o,v,k o a,b⟩⟩
def jH.ok(x:jH h e C d T fl):dz P w H h e (jQ e C d):=by obtain⟨i,j,a,b,c,f,g⟩:=x.ob;exact CD a b c f (ag4.mp g).1
def Kept.YC(x:Kept F ch g h)(k:lR P w H g)(hF:∀b∈F,H b=none)(hc:∀b∈ch,b=e\/H b=none)(he:H e=some (jQ e C d))(ok:dz P w H h e (jQ e C d)):lR P w H h:=λa o q=>by
 by_cases z:a=e
 .subst z;rw[he] at q;cases q;exact ok
 refine(k a o q).stay (λb u c r=>x.keep b u r (λy=>?_) λy=>?_) (λ_ r=>r) λ_ _ r=>r
 .rcases c with v|v
  .rw[v] at y;rw[hF a y] at q;cases q
  .rw[hF b y] at v;cases v
 .rcases hc b y with n|n
  .rcases c with v|v
   .exact z (v.symm.trans n)
   .rw[n,he] at v;cases v
  .rcases c with v|v
   .rw[v] at n;rw[n] at q;cases q
   .rw[n] at v;cases v
def dz.there(x:dz P w H h a o):∃ob,h.get? a=some ob:=by
 induction o with
 |lst xs=>obtain⟨_,_,_,_,e⟩:=x;exact⟨_,e⟩
 |tup xs=>obtain⟨_,_,_,p⟩:=x;obtain⟨ob,e,_⟩:=p;exact⟨ob,e⟩
 |dK kvs=>obtain⟨_,_,_,_,o,_,_,e,_⟩:=x;exact⟨o,e⟩
 |dT kvs=>obtain⟨_,_,_,_,o,_,_,e,_⟩:=x;exact⟨o,e⟩
 |set S n=>obtain⟨o,_,_,_,e,_⟩:=x;exact⟨o,e⟩
 |ins C dx fs=>obtain⟨_,_,_,e,_⟩:=x;exact⟨_,e⟩
 |own y=>exact x
 |xd fs=>obtain⟨_,⟨o,_,_,e,_⟩,_⟩:=x;exact⟨o,e⟩
 |met f y=>exact⟨_,x⟩
 |YS lo hi=>obtain⟨_,_,_,e⟩:=x;exact⟨_,e⟩
 |mC o u _=>exact⟨o,x.1⟩
 |NN ps=>exact⟨_,x⟩
 |ext φ=>exact x.2.1
def lR.new(k:lR P w H h)(e:h.get? a=none):H a=none:=by
 cases q:H a with
 |none=>rfl
 |some o =>
  obtain⟨c,b⟩:=(k a o q).there;rw[e] at b;cases b
def qX(P:Program)(w:World):vR:=λa H s E ev b=>∃e C T d c,ev = .ref e/\jH b.heap e C d T .none/\b.os=s.os/\AllBare b.gens/\Un (frs a) [] H c s.heap b.heap/\lR P w c b.heap /\
 c e=some (jQ e C d)/\c T=none/\s.heap.objs.size<=T/\s.heap.get? e=none/\E (.ref C) (some e) c
section
variable {P:Program}{K:PySem.W.Frag}{f:Addr}{cd:Value}{E:XK}
def Jy(hfs:X.fs=frs outer)(hex:X.ex=[])(hH:X.H₀=H)(hs:X.s₀=s)(hP:X.prog=P)(hw:X.w=w)(J:Inv X am Z H' s')(k:Kept (frs X.stack) ch s'.heap h2)(y:jH h2 e C d T2 .none)
  (he:H' e=some (jQ e C d)) (l2:s'.heap.objs.size<=T2) (le:s.heap.get? e=none) (hch:∀b∈ch,(b=e\/H' b=none)/\s.heap.get? b=none) (hE:E (.ref C) (some e) H'):qX P w outer H s E (.ref e) { s' with heap:=h2 }:=by
 subst hH hs hP hw;have f:∀b o,X.s₀.heap.get? b=some o->b∉ch/\b≠X.env.locals:=λb o q=>by refine⟨(λz=>by rw[(hch b z).2] at q;cases q),λz=>?_⟩;have:=J.ok.above;rw[<- z] at this;exact absurd this (Nat.not_le.mpr (P2 q))
 have j:∀b o,X.s₀.heap.get? b=some o->b∉frs outer->b∉frs X.stack:=λb o q n z=>by
  rcases Z5.mp (J.sN b z) with y|y
  .exact(f b o q).2 y
  .rw[hfs] at y;exact n y
 have a:=J.ap;rw[hfs,hex] at a;refine⟨e,C,T2,d,H',rfl,y,J.os,J.ax,⟨λb o q n g c=>k.keep b o (a.keep b o q n g c) (j b o q g) (f b o q).1,λb o q n g c=>?_,λb o q n c=>a.free b o q n c,λb o q c=>by obtain⟨u,h⟩:=a.there b o q c;exact k.there b u h,a.tups,a.pR,a.rL⟩,k.YC J.ba J.rS (λb z=>(hch b z).1) he y.ok,he,J.ba.fresh l2,ac2 J.sz l2,le,hE⟩
 .obtain⟨l,h⟩:=a.slot b o q n g c;by_cases z:b∈frs X.stack
  .obtain⟨i,p⟩:=k.slot b _ h z (f b o q).1;exact⟨i,p⟩
  .exact⟨l,k.keep b _ h z (f b o q).1⟩
def tD:Passes (qX P w) (kW (qX P w) P w K mg ap N qual scope f cd A outer s H E) E:=by
 rintro g Z D l ev F I ⟨e,C,T,d,G,rfl,p,r,ax,un,ba,t,v,x,h,B⟩;have J:=I.yR (ch:=[]) r un ba ax (by simp);refine Kw (ap:=ap) J.ok.frames J.stack rfl p λL M k n y=>?_;have a:∀b,l.heap.get? b=none->s.heap.get? b=none:=λb z=>by
  cases q:s.heap.get? b with
  |none=>rfl
  |some o =>
   obtain⟨u,i⟩:=I.ap.there b o q (by show b∉[];simp);rw[z] at i;cases i
 refine Jy (X:=kW (qX P w) P w K mg ap N qual scope f cd A outer s H E) rfl rfl rfl rfl rfl rfl J k y t n (a e h) (λb j=>?_) B;simp only[Z5,ad1,an3] at j;rcases j with z|z|z
 .exact z▸⟨.inr v,a T (am7 x)⟩
 .rw[z];exact⟨.inl rfl,a e h⟩
 .exact z▸⟨.inr (J.ba.fresh n),am7 (ac2 J.sz n)⟩
def SY(I:Inv (kW (qX P w) P w K mg ap N qual scope f cd A outer s H E) am Z H1 s1)(u:wj s1.heap e C d)(he:H1 e=some (jQ e C d))(le:s.heap.get? e=none)(hE:E (.ref C) (some e) H1) :
  (kW (qX P w) P w K mg ap N qual scope f cd A outer s H E).xe (.ref e) s1:=by
 refine leave_new (ap:=ap) I.ok.frames I.stack rfl u λg h k n y=>?_;refine Jy (X:=kW (qX P w) P w K mg ap N qual scope f cd A outer s H E) rfl rfl rfl rfl rfl rfl I k y he n le (λb c=>?_) hE;simp only[Z5,ad1,an3] at c;rcases c with z|z
 .rw[z];exact⟨.inl rfl,le⟩
 .exact z▸⟨.inr (I.ba.fresh n),am7 (ac2 I.sz n)⟩
end
def Inv.W2(I:Inv X am Z H s)(k:∀b u,s.heap.get? b=some u->h'.get? b=some u)(hp:s.heap.get? a=none)(new:dz X.prog X.w (ag H a o) h' a o):Inv X am Z (ag H a o) { s with heap:=h',toks:=t' }:=by
 have ne:∀b u,s.heap.get? b=some u->b≠a:=λb u q z=>by rw[z,hp] at q;cases q
 have d:∀b u,H b=some u->b≠a:=λb u q=>au q (I.ba.new hp);refine I.un ⟨λb u q _ _ _=>k b u q,λb u q _ _ _=>⟨u.slots,k b u q⟩,λb u q n _=>by rw[aj (ne b u q)];exact n,λb u q _=>⟨u,k b u q⟩,λb e q=>by rw[aj (d b _ q)];exact q,λb u e q=>by rw[aj (d b _ q)];exact q,λb g q=>⟨#[],by rw[aj (d b _ q),q];simp⟩⟩ λb u q=>?_;by_cases z:b=a
 .subst z;rw[aa] at q;cases q;exact new
 .rw[aj z] at q;exact(I.ba b u q).stay (λc v _ r=>k c v r) (λc r=>by rw[aj (d c _ r)];exact r) λc e r=>by rw[aj (d c _ r)];exact r
noncomputable abbrev VE:c8:=[.type "ValueError",.type "Exception",.type "BaseException",.type "object"]
structure ExcAt(h:Heap)(C:Addr)(bm:c8)(Nn:Addr)(mN:g6):Prop where
 ob:∃nm q bs hdct sn sub ab col dd k0 k1 k2 k3 k5,h.get? C=some (excClassObj nm q C Nn bs bm hdct sn sub ab col dd k0 k1 k2 k3 k5 "ValueError.__new__")
 ns:h.Ns Nn mN
 tail:OwnTail h VE bm
def ExcAt.keeps(x:ExcAt h C bm Nn mN)(k:∀b o,h.get? b=some o->h2.get? b=some o):ExcAt h2 C bm Nn mN:=by obtain⟨a,c,d,f,g,i,j,l,n,p,q,r,s,t,e⟩:=x.ob;exact⟨⟨a,c,d,f,g,i,j,l,n,p,q,r,s,t,k _ _ e⟩,x.ns.keeps k,x.tail.keeps k⟩
def VZ {K:W.Frag}   (uF:K.In h) (q:W.excIn K C VE "ValueError.__new__" = true):∃bm Nn mN,ExcAt h C bm Nn mN/\mN "__init__" = none:=by
 unfold W.excIn at q;split at q;next dd cd sl look =>
  split at q;next C2 bm c0 c1 c2 c3 nn c5 f es =>
   simp only[ad4,beq_iff_eq,Bool.not_eq_true'] at q;obtain⟨⟨⟨⟨⟨g,i⟩,c⟩,j⟩,b⟩,a⟩:=q;subst g i;have d:=ai1.mp es;obtain⟨p,r,l,n,s,t,u,v,w,o,e⟩:=cd;have f:=f;have c:=c;subst f c d;exact⟨bm,n,_,⟨⟨_,_,_,_,_,_,_,_,_,_,_,_,_,_,uF _ _ look⟩,.of_isNs (W.isNs_of_in uF b),W.tail_of_in uF j⟩,W.nsMap_none_of_in uF b a⟩
  next=>cases q
 next=>cases q
section
variable {P:Program}{K:PySem.W.Frag}{f:Addr}{cd:Value}{E:XK}
def iT       (hx:W.excIn K C VE "ValueError.__new__" = true) (hg:Gl (kW (qX P w) P w K mg ap N qual scope f cd A outer s H E) x) (hm:mg x=some (.ref C))
  (ha:PA (kW (qX P w) P w K mg ap N qual scope f cd A outer s H E) (e1::es) ta) (hd:autoParam ((x == ("__debug__" : Str))=false) cw._auto_1)
  (he:autoParam (starEach (e1::es) (kW (qX P w) P w K mg ap N qual scope f cd A outer s H E).env=(false,eval e1 (kW (qX P w) P w K mg ap N qual scope f cd A outer s H E).env)::starEach es (kW (qX P w) P w K mg ap N qual scope f cd A outer s H E).env) cw._auto_1)
  (hpl:autoParam ((backTo cpos (starEach (e1::es) (kW (qX P w) P w K mg ap N qual scope f cd A outer s H E).env)).any (·.1)=false) cw._auto_1) :
  PS (kW (qX P w) P w K mg ap N qual scope f cd A outer s H E) (.Raise (some (.Call (.Name x np) (e1::es) [] cpos)) none pos) (λ_ Z H1=>ta Z H1 λvs H2=>vs.length<=sizeLine/\∀e,H2 e=none->E (.ref C) (some e) (ag H2 e (jQ e C none))):=by
 intro a p Z H1 D I h;obtain⟨bm,t,mN,d,y⟩:=VZ (h:=ap) I.ok.mod.uF hx;obtain⟨nm,q,bs,hdct,sn,sub,ab,col,dd,k0,k1,k2,k3,k5,B⟩:=d.ob;refine wpAny_Raise_call_subT F.excBase_ValueError (C:=C) (nm:=nm) (q:=q) (N:=t) (bs:=bs) (bm:=bm) (hdct:=hdct) (sn:=sn) (sub:=sub) (ab:=ab) (col:=col) (dd:=dd) (k0:=k0) (k1:=k1) (k2:=k2) (k3:=k3) (k5:=k5) (mN:=mN) (d.tail.hasType (by decide)) (I.ok.hd rfl) hpl y ?_;refine dS (jX (pos:=np) hg hm (v:=.ref C) rfl hd a p Z H1 (λv G=>v = .ref C/\G=H1) I ⟨rfl,rfl⟩) λu i  J=>?_;obtain⟨v,H2,L,r,M,O⟩:=J;subst M O;refine⟨r,?_⟩;rw[he];show wpAny _ _ (evalArgs (.ref C) true ((false,eval e1 _)::backTo cpos (starEach es _)) []) _ _ i;refine aj0 ?_;have j:=ha cpos a i Z H2 _ L h;rw[he] at j;refine dS j λus Q ⟨vs,T,b,R,sz,k⟩=>⟨rfl,R.length▸sz,b.bk _ _ B,d.ns.keeps b.bk,d.tail.keeps b.bk,λg e c=>?_⟩
 obtain⟨U,l,_,_⟩:=c.there;refine SY (b.W2 (h':=g) (t':=Q.toks) (o:=jQ e C none) c.keeps c.new (CD l rfl rfl rfl (by show 1<6;decide))) ⟨_,_,l,rfl,rfl,rfl,rfl⟩ aa ?_ (k e (b.ba.new c.new));cases z:s.heap.get? e with
 |none=>rfl
 |some o =>
  obtain⟨u,n⟩:=b.ap.there e o z (by show e∉[];simp);rw[c.new] at n;cases n
end
section
variable {E:Value->Shared->Prop}
def C8{hp:Heap}{g:Array GenState}{dr:Drawn}{tk:Nat}{os:OsState}{e Nn N2:Addr}{bm2:c8}{m2:g6}{oe:Obj}{b:Bool}{Q:Bool->Shared->Prop}(x:ExcAt hp C bm Nn mN)(y:ExcAt hp C2 bm2 N2 m2)(he:hp.get? e=some oe)(hcls:oe.cls = .ref C)
  (hb:(Value.ref C::bm).contains (.ref C2)=b) (hq:Q b ⟨hp,g,dr,tk,os⟩):wpAny M A (excMatches (.ref e) (.ref C2)) Q E ⟨hp,g,dr,tk,os⟩:=by
 obtain⟨f,h,i,j,l,n,o,p,q,r,s,t,u,v,d⟩:=x.ob;obtain⟨w,z,B,D,F,G,H,I,J,K,L,N,O,P,c⟩:=y.ob;have a:(Value.ref C2::bm2).contains (.type "BaseException")=true:=by rw[List.contains_cons,y.tail.hasType (b:=true) (by decide),Bool.or_true]
 have R:=tc_notTuple;unfold excMatches;repeat (first
  | (with_reducible refine wpAny_loadPart_at he ?_;rw[hcls])
  |with_reducible refine wpAny_loadPart_at c ?_
  | (with_reducible refine wpAny_isSubtype_exc c ?_;rw[a])
  | (with_reducible refine wpAny_isSubtype_exc d ?_;rw[hb])
  |wp_step)
 cases b <;> (try wp_walk) <;> exact hq
end
section
variable {pins':f7}
def Zw(X:Cx)(am:f7)(Th:St->Addr->Addr->Hp->Prop)(ev:Value)(s':Shared):Prop :=
 ∃e C T d Z a,ev = .ref e/\Inv X am Z a s'/\jH s'.heap e C d T .none/\a e=some (jQ e C d)/\a T=none/\X.s₀.heap.objs.size<=T/\(∀p∈X.pn++am,p.1≠T)/\Th Z C e a
noncomputable abbrev Cx.oK(X:Cx)(am:f7)(Th:St->Addr->Addr->Hp->Prop):Cx:={ X with pn:=X.pn++am,xe:=Zw X am Th }
def Cx.Ok.cast{Y:Cx}(ok:X.Ok)(h1:Y.K=X.K)(h2:Y.mg=X.mg)(h3:Y.ap=X.ap)(h4:Y.env=X.env)(h5:Y.s₀=X.s₀)(h6:Y.H₀=X.H₀)(h7:Y.outer=X.outer)(h8:Y.stack=X.stack)(h9:Y.ex=X.ex)(h10:Y.fn=X.fn)(hd:Y.aw=true->Y.A.handled=none)(hf:Y.A.frames=some Y.stack):Y.Ok:=by obtain⟨P,w,K,mg,ap,A,N,a,b,env,outer,stack,ex,fn,aw,c,d⟩:=Y;dsimp only at h1 h2 h3 h4 h5 h6 h7 h8 h9 h10;subst h1 h2 h3 h4 h5 h6 h7 h8 h9 h10;exact⟨ok.mod,ok.kind,ok.glob,ok.blt,ok.above,ok.inj,ok.has,ok.We,hd,hf,ok.stk,ok.Zk,ok.bs,ok.MT,ok.DY,ok.HK,ok.qP,ok.Rc⟩
def Inv.oK(I:Inv X am Z H s)(Th:St->Addr->Addr->Hp->Prop):Inv (X.oK am Th) [] Z H s :=
 ⟨I.ok.cast rfl rfl rfl rfl rfl rfl rfl rfl rfl rfl I.ok.hd I.ok.frames,I.os,I.ax,I.ap,I.loc,I.cell,I.free,I.je,λp a=>I.pin p (by simpa using a),I.ba,I.len⟩
def Inv.tried(I:Inv (X.oK am Th) pins' Z H s):Inv X am Z H s :=
 ⟨I.ok.cast rfl rfl rfl rfl rfl rfl rfl rfl rfl rfl I.ok.hd I.ok.frames,I.os,I.ax,I.ap,I.loc,I.cell,I.free,I.je,λp a=>I.pin p (aa8 _ a),I.ba,I.len⟩
noncomputable abbrev Cx.held(X:Cx)(e:Addr):Cx:={ X with A:=X.A.mark (some (.ref e)),aw:=false,xe:=λ_ _=>False }
def Inv.held(I:Inv X am Z H s)(e:Addr):Inv (X.held e) am Z H s :=
 ⟨I.ok.cast rfl rfl rfl rfl rfl rfl rfl rfl rfl rfl (λz=>nomatch z) I.ok.frames,I.os,I.ax,I.ap,I.loc,I.cell,I.free,I.je,I.pin,I.ba,I.len⟩
def Inv.VF(hd:X.aw=true->X.A.handled=none)(I:Inv (X.held e) am Z H s):Inv X am Z H s :=
 ⟨I.ok.cast rfl rfl rfl rfl rfl rfl rfl rfl rfl rfl hd I.ok.frames,I.os,I.ax,I.ap,I.loc,I.cell,I.free,I.je,I.pin,I.ba,I.len⟩
def zh(CX:vR)(X:Cx)(Z:St)(E:XK):Prop:=∀a H s e b,Inv X a Z H s->CX X.stack H s E e b->X.xe e b
def nH(hP:X.prog=P)(hw:X.w=w)(hE:∀C e H',E (.ref C) (some e) H'->Th Z C e H'):zh (qX P w) (X.oK am Th) Z E:=by subst hP hw;rintro a l n ev o I ⟨e,C,T,d,H',rfl,f,g,ax,un,ba,h,i,c,q,b⟩;refine⟨e,C,T,d,Z,H',rfl,(I.yR (ch:=[]) g un ba ax (by simp)).tried,f,h,i,ac2 I.sz c,λp j z=>?_,hE _ _ _ b⟩;have:=(I.tried.pin p j).1;have:=P2 this;rw[z] at this;exact absurd c (Nat.not_le.mpr this)
def Inv.forget(I:Inv X am Z H s)(hN:X.N.Nodup)(hi:X.N[i]?=some n)(hn:s.heap.Ns X.env.locals m)
  (hk:∀(j:Nat) (x:Str) (v:V),X.N[j]?=some x->Z[j]?=some (some v)->X6 X.env.scope x->∃u,RelV v u/\Look X.env s.heap m x u) (hn':h'.Ns X.env.locals (λx=>if x=n then v else m x)) (hs:Heap.SameBut X.env.locals s.heap h'):Inv X am (Z.set i none) H { s with heap:=h',toks:=t' }:=by
 have HN:=I.HN;have t:∀b o,X.s₀.heap.get? b=some o->b≠X.env.locals:=λb o q=>Z6 (ab1 (P2 q) I.ok.above);refine⟨I.ok,I.os,I.ax,⟨λb o q a e d=>(hs.2 b (t b o q)).trans (I.ap.keep b o q a e d),λb o q a e d=>by obtain⟨F,z⟩:=I.ap.slot b o q a e d;exact⟨F,(hs.2 b (t b o q)).trans z⟩,I.ap.free,λb o q a=>by obtain⟨u,z⟩:=I.ap.there b o q a;exact⟨u,(hs.2 b (t b o q)).trans z⟩,I.ap.tups,I.ap.pR,I.ap.rL⟩,⟨_,hn',λj y w B f D=>?_⟩,λy c q=>by obtain⟨w,z⟩:=I.cell y c q;exact⟨w,z.sameBut hs (HN y c q)⟩,I.free,I.je,λp E=>by obtain⟨a,e,d,J,K⟩:=I.pin p E;exact⟨(hs.2 p.1 d).trans a,e,d,J,K⟩,λb o q=>?_,by rw[List.length_set];exact I.len⟩
 .have C:j≠i:=λz=>by
   rw[z] at f;have:i<Z.length:=I.len▸(d6.mp hi).1
   rw[List.getElem?_set_self this] at f;cases f
  rw[am8 (aa4 C)] at f;obtain⟨u,r,l⟩:=hk j y w B f D;refine⟨u,r,?_⟩;rcases l with ⟨A,g⟩|⟨A,c,g,G⟩
  .have:y≠n:=λz=>C (uc hN B (z ▸ hi));exact .inl ⟨A,by simp[this,g]⟩
  .exact .inr ⟨A,c,g,G.sameBut hs (HN y c g)⟩
 .refine(I.ba b o q).stay (λc u L r=>(hs.2 c λz=>?_).trans r) (λ_ r=>r) λ_ _ r=>r;have h:=I.free;rw[<- z] at h;rcases L with y|y
  .rw[y] at h;rw[h] at q;cases q
  .rw[h] at y;cases y
end
section
variable {e T T2:Addr}{d:Option Addr}
def Inv.zl(I:Inv X am Z H s)(q:s.heap.get? T=some o)(z:o.data = .fields vs):T≠X.env.locals/\∀x c,X.env.cells.lookup x=some c->c≠T:=by
 obtain⟨m,⟨f,g,h,d,e,_⟩,_⟩:=I.loc;refine⟨λy=>?_,λx c l y=>?_⟩
 .rw[y,d] at q;cases q;rw[e] at z;cases z
 .obtain⟨v,i,a,b⟩:=I.cell x c l;rw[y,q] at a;cases a;rw[z] at b;cases b
def Inv.noted(hst:X.stack=X.env::X.outer)(I:Inv X am Z H s)(fl:jH s.heap e C d T .none)(he:H e=some (jQ e C d))(hT:H T=none)(lT:X.s₀.heap.objs.size<=T)(pT:∀p∈X.pn++am,p.1≠T)
  (k:Kept (frs (X.env::X.outer)) [T,e] s.heap h2) (y:dz X.prog X.w H h2 e (jQ e C d)):Inv X am Z H { s with heap:=h2 }:=by
 rw[<- hst] at k;obtain⟨t,u,i,j,_⟩:=fl.tb;obtain⟨l,r⟩:=I.zl i j;have c:∀b,H b=none->b∉[T]->b∉[T,e]:=λb a z w=>by
  simp only[Z5,ad1,an3] at z w;rcases w with w|w
  .exact z w
  .rw[w,he] at a;cases a
 refine I.yR (s':={ s with heap:=h2 }) (ch:=[T]) rfl ⟨λb o q f g h=>k.keep b o q g (c b f h),λb o q f g h=>k.slot b o q g (c b f h),λ_ _ _ n _=>n,λb o q _=>k.there b o q,λ_ _ q=>q,λ_ _ _ q=>q,λb v q=>⟨#[],by rw[q];simp⟩⟩ ?_ I.ax (by intro b a;rw[B1.mp a];exact⟨.inr lT,l,r,pT⟩)
 .refine k.YC I.ba I.rS (λb a=>?_) he y;simp only[Z5,ad1,an3] at a;rcases a with z|z
  .exact z▸.inr hT
  .exact .inl z
def Inv.Oz(I:Inv X am Z H s)(q:s.heap.get? T=some o)(z:o.data = .fields vs)(hT:H T=none)(lT:X.s₀.heap.objs.size<=T)(pT:∀p∈X.pn++am,p.1≠T)(k:Kept [] [T] s.heap h2):Inv X am Z H { s with heap:=h2 }:=by
 obtain⟨c,d⟩:=I.zl q z;refine I.yR (s':={ s with heap:=h2 }) (ch:=[T]) rfl (k.frame _).un (k.ba I.ba (by simp) λb a=>by rw[B1.mp a];exact hT) I.ax λb a=>by rw[B1.mp a];exact⟨.inr lT,c,d,pT⟩
def HX(hst:X.stack=X.env::X.outer)(hfr:X.env.frame=some X.env.locals)(hN:X.N.Nodup)(hi:X.N[i]?=some n)(hloc:X.env.scope.names.lookup n=some .local)
  (hg:Gl (X.held e) x) (hm:X.mg x=some (.ref C2)) (hdb:(x == ("__debug__" : Str))=false) (hC:∃bm Nn mN,ExcAt X.ap C bm Nn mN/\(Value.ref C::bm).contains (.ref C2)=true) (hC2:∃bm Nn mN,ExcAt X.ap C2 bm Nn mN)
  (I:Inv X am Z H s) (fl:jH s.heap e C d T .none) (he:H e=some (jQ e C d)) (hT:H T=none) (lT:X.s₀.heap.objs.size<=T) (pT:∀p∈X.pn++am,p.1≠T)
  (hs:At (X.held e) { nx:=λZ2 H2=>D.nx (Z2.set i none) H2,rt:=D.rt,bk:=λZ2 H2=>D.bk (Z2.set i none) H2,ct:=λZ2 H2=>D.ct (Z2.set i none) H2 } (b0::suite) (Z.set i (some (.ref e))) H) :
  wpAny (model X.prog X.w) X.A (noteFrame (.ref e) X.env) (λ_ s2=>wpAny (model X.prog X.w) X.A (setFlight (.ref e) none) (λ_ s3 =>
   wpAny (model X.prog X.w) X.A (handleBy (.ref e) X.env (.ExceptHandler (some (.Name x np)) (some n) (b0::suite) hpos::rest)) (SP X am D) X.xe s3) X.xe s2) X.xe s:=by
 obtain⟨bm,Nn,mN,S,o⟩:=hC;obtain⟨U,N2,m2,t⟩:=hC2;have fs:=hst ▸ I.stack;have W:X.A.frames=some (X.env::X.outer):=by rw[I.ok.frames,hst]
 refine CC (ap:=X.ap) W fs hfr fl λY T2 k B y=>?_;have I2:=I.noted hst fl he hT lT pT k y.ok;have K:=ac2 I.sz B;have h:=I.ba.fresh B;have L:∀p∈X.pn++am,p.1≠T2:=λp M z=>by have:=P2 (I.pin p M).1;rw[z] at this;exact absurd B (Nat.not_le.mpr this)
 refine jV (s:={ s with heap:=Y }) y λO k3 F=>?_;obtain⟨oT2,ts2,u1,u2,_⟩:=y.tb;have j:=I2.Oz u1 u2 h K L k3;refine wpAny_handleBy_cons (codeAny_handlers_test ?_) (by intro q;cases q);refine ad3 (n6 (X:=X.held e) (pos:=np) (E:=λ_ _=>False) (Q:=λu P=>u = .ref C2/\P = { s with heap:=O }) (j.held e) hg hm ⟨rfl,rfl⟩ hdb) (λu P z=>?_) λ_ _ z=>z.elim;obtain⟨rfl,rfl⟩:=z;obtain⟨oe,vs,o1,o2,_⟩:=F.ob;obtain⟨M,gg,dr,tk,os⟩:=s;refine C8 (S.keeps j.bk) (t.keeps j.bk) o1 o2 o ?_;show codeAny _ _ _ _ _;refine codeAny_handlers_suite_as ?_;refine jV (s:=⟨O,gg,dr,tk,os⟩) F λg4 k4 y4=>?_;obtain⟨oT3,ts3,w1,w2,_⟩:=F.tb;refine qa (X:=X.held e) (v:=.ref e) ((j.Oz w1 w2 h K L k4).held e) hN hi (.inl hloc) rfl (λs5 I5=>?_) (.inr hloc);refine ad3 (hs am s5 I5) (λfw s6 l=>?_) λ_ _ z=>z.elim;have c:∀{Z6:St} {a:Hp} {Q:Unit->Shared->Prop},Inv (X.held e) am Z6 a s6->(∀g,Inv X am (Z6.set i none) a g->Q () g)->wpAny (model X.prog X.w) X.A (do bindName X.env n .none;unbindBehindTheSuite X.env n hpos) Q X.xe s6:=λ{Z6 a Q} b q=>by obtain⟨m,R,hk⟩:=b.loc;exact wpAny_nameGoes_keeps hloc R (by rw[b.ok.kind];rfl) λh7 v G J=>q _ ((b.VF I.ok.hd).forget hN hi R hk G J)
 cases fw with
 |next=>obtain⟨Z6,a,b,q⟩:=l;exact c b λg f=>⟨_,a,f,q⟩
 |brk=>obtain⟨Z6,a,b,q⟩:=l;exact c b λg f=>⟨_,a,f,q⟩
 |cont=>obtain⟨Z6,a,b,q⟩:=l;exact c b λg f=>⟨_,a,f,q⟩
 |ret u=>obtain⟨v,Z6,a,b,r,q⟩:=l;exact c b λg f=>⟨v,_,a,f,r,q⟩
end
noncomputable abbrev Ends.less(D:Ends)(i:Nat):Ends:={ nx:=λZ2 H2=>D.nx (Z2.set i none) H2,rt:=D.rt,bk:=λZ2 H2=>D.bk (Z2.set i none) H2,ct:=λZ2 H2=>D.ct (Z2.set i none) H2 }
def Pg(X:Cx)(C C2:Addr):Prop:=∃a b c,ExcAt X.ap C a b c/\(Value.ref C::a).contains (.ref C2)=true
def R1(hst:X.stack=X.env::X.outer)(hfr:X.env.frame=some X.env.locals)(hN:X.N.Nodup)(hi:X.N[i]?=some n)(hloc:X.env.scope.names.lookup n=some .local)
  (hg:Gl X x) (hm:X.mg x=some (.ref C2)) (hdb:(x == ("__debug__" : Str))=false) (hC2:∃bm Nn mN,ExcAt X.ap C2 bm Nn mN) :
  PS X (.Try body [.ExceptHandler (some (.Name x np)) (some n) (b0::suite) hpos] [] [] pos) (λD Z H=>∃Th,(∀am,At (X.oK am Th) D body Z H) /\
   ∀Z' C e H',Th Z' C e H'->Pg X C C2/\At (X.held e) (D.less i) (b0::suite) (Z'.set i (some (.ref e))) H'):=by
 rintro am s Z H D I ⟨Th,h,j⟩;refine wpAny_Try_except (ad3 (h am [] s (I.oK Th)) (λf l g=>?_) λev l z=>by obtain⟨e,C,T,d,a,b,rfl,c,o,p,t,w,y,A⟩:=z;obtain⟨B,E⟩:=j a C e b A;exact HX hst hfr hN hi hloc hg hm hdb B hC2 c o p t w y E)
 .cases f with
  |next=>obtain⟨a,b,c,q⟩:=g;exact ao7 ⟨a,b,c.tried,q⟩
  |brk=>obtain⟨a,b,c,q⟩:=g;exact⟨a,b,c.tried,q⟩
  |cont=>obtain⟨a,b,c,q⟩:=g;exact⟨a,b,c.tried,q⟩
  |ret u=>obtain⟨v,a,b,c,r,q⟩:=g;exact⟨v,a,b,c.tried,r,q⟩
section
variable {k:Nat}{f:Addr}{dvs:q7}{ds:c8}{x m:Str}{p:Pos}{e o:Expr}{ta:TE}{t:TA}
abbrev Yu(CX:vR)(X:Cx)(sp:Sp)(Z:St)(vs:q7)(H:Hp)(Q:VK):Prop:=∃E,zh CX X Z E/\sp vs H Q E
def yF(F:bE X.prog X.w X.K X.mg X.ap CX k f fd ps sp)(hr:gI k X.A)(hb:Binds X.K fd ps ds)(hd:Vals dvs ds)
  (I:Inv X am Z H s) (r:Vals vs us) (h:Yu CX X sp Z (vs++dvs) H Q):wpAny (model X.prog X.w) X.A (call (.ref f) us) (EP X am Z Q) X.xe s:=by
 obtain⟨E,b,h⟩:=h;have a:=r.append hd;refine wpAny_call (codeAny_mono (F.run X.A X.stack s H ⟨us,[]⟩ _ _ Q E hr I.Uy (hb s us I.uG ((F.len _ _ _ _ h ▸ a.length).symm)) a h) λy c hq=>?_);match y,hq with
 |.error ev,hq=>exact b am H s ev c I hq
 |.ok (.ret _),hq=>exact I.after hq
def E9(CX:vR)(X:Cx)(C:Addr)(m:Str)(sp:Sp)(dvs:q7)(ta:TE)(t:TA):TE:=λZ H Q=>ta Z H λx a=>YX C m x a (t Z a λb c=>Yu CX X sp Z (x::(b++dvs)) c Q)
def sI(he:PE X o ta)(c:pH X.K C)(hm:Meth X.K C m f)(F:bE X.prog X.w X.K X.mg X.ap CX k f fd ps sp)(hr:gI k X.A)(hb:Binds X.K fd ps ds)(hd:Vals dvs ds)(ha:PA X (e::es) t)
  (hst:autoParam (starEach (e::es) X.env=(false,eval e X.env)::starEach es X.env) cw._auto_1) (hpl:autoParam ((backTo pos (starEach es X.env)).any (·.1)=false) cw._auto_1)
  (ht:autoParam (eval (.Call (.Attribute o m apos) (e::es) [] pos) X.env=(do
   let ov <- eval o X.env
   standAt apos.atName
   let (f,first) <- holding [ov] (getMethod ov m pl)
   callWith pos f first (backTo pos (starEach (e::es) X.env)) (backToKw pos (keywordEach [] X.env)))) cw._auto_1) :
  PE X (.Call (.Attribute o m apos) (e::es) [] pos) (E9 CX X C m sp dvs ta t):=λb s Z H Q I h =>
 al9 (pl:=pl) (dS (he b s Z H _ I h) λu i ⟨x,j,d,n,w0⟩=>by obtain⟨a,w1,fs,rfl,v,l,q⟩:=YX_i.mp w0;obtain rfl:u=Value.ref a:=n;exact mh d v c hm l (ao5 (first:=[.ref a]) (h₀:=X.ap) I.ok.mod.uF hm.kp (dS (ha pos b i Z j _ d q) λus B ⟨vs,D,g,r,y⟩=>⟨g.uG,yF (us:=.ref a::us) (vs:=.ref a::vs) F hr hb hd g (.cons rfl r) y⟩) hst hpl)) ht
end
section
variable {P:Program}{K:PySem.W.Frag}
def dI.Ma{st:Stmt}(F:dI K x qual st f fd)(S:aI N ps (az st))(len:∀vs H Q E,sp vs H Q E->vs.length=ps.length)
  (hbody:∀(cdv:Value) (A:Around) (outer:List Env) (s:Shared) (H:Hp) (vs:q7) (Q:VK) (E:XK),gI k (A.deeper (envOfC qual (az st) s.heap.objs.size f cdv))->sp vs H Q E ->
   At (kW (qX P w) P w K mg ap N qual (az st) f cdv A outer s H E) { nx:=λ_ H'=>Q .dj H',rt:=Q } (nP st) (start N vs) H):bE P w K mg ap (qX P w) (k+1) f fd ps sp:=by
 obtain⟨g,h,kV,c,i,j,cdv,l,d,rfl,e,a⟩:=F.ex;exact Qu e a S len λA outer s H vs Q E hr b=>wm (hbody cdv A outer s H vs Q E hr b)
end
end L2
namespace L2
open PySem PySem.Spec PyProof.Rows PySem.W
structure qL(K:Frag)(C:Addr):Prop where
 ga:findIn K (.ref C) "__getattribute__" = some (some (.builtin "BaseException.__getattribute__"))
 gh:findIn K (.ref C) "__getattr__" = some none
 sub:mroIn K C (.type "BaseException")=some true
section
variable {E:Value->Shared->Prop}{K:Frag}{x:Addr}{ox:Obj}{od:Option Obj}
def DG    (G:qL K C) (X:K.In s.heap) (I:InstAt s.heap x ox C od) (q:Q () s):wpAny M A (checkBuiltinCall "BaseException.__getattribute__" ⟨[.ref x,nm],[]⟩) Q E s:=by
 obtain⟨a,g,d,f,h⟩:=s;have b:builtinKind "BaseException.__getattribute__" = some .slot:=by lk
 have c:splitId "BaseException.__getattribute__" = some ("BaseException","__getattribute__"):=by lk
 have e:Looks M a (isInstance (.ref x) (.type "BaseException")) true:=I.type.andThen (looks_mroIn X G.sub);simp only[checkBuiltinCall,b,c];refine y0 (e.at ?_);repeat (first | assumption | wp_step)
def SK{fill ex:Bool}(G:qL K C)(X:K.In s.heap)(I:InstAt s.heap x ox C od)
  (h:wpAny (model prog w) A.in1 (Builtin.«object.__getattribute__» ⟨[.ref x,.str name tk],[]⟩) (λfin s'=>match fin with
   |.done (.ret v)=>wpAny (model prog w) A (handedOut v) Q E s'
   |_=>False) (λ_ _=>False) s):wpAny (model prog w) A (getAttrBy (.ref x) (.str name tk) fill ex) Q E s:=by
 obtain⟨c,g,d,e,f⟩:=s;have j:(ex && onTheHeap (Value.builtin "BaseException.__getattribute__"))=false:=by cases ex <;> rfl
 have l:(Value.builtin "BaseException.__getattribute__" == Value.builtin "object.__getattribute__")=false:=by lk
 have n:(onTheHeap (Value.ref C) && Value.builtin "BaseException.__getattribute__" == Value.builtin "object.__getattribute__")=false:=by rw[l];rfl
 unfold getAttrBy;refine ae9 (y0 (I.type.at (y0 ((looks_findIn X G.ga).at ?_))));dsimp only;rw[n];unfold getAttrByItsOwn hookBefore callGetattribute boundAndCalled;rw[j];refine y0 (show wpAny _ _ (if onTheHeap (Value.ref C)=true then typeLookup (.ref C) "__getattr__" else pure none) _ _ _ from ?_);refine((looks_findIn X G.gh).at ?_);simp only[ak6,ao9];refine y0 (wpAny_attempt (ae9 ?_));refine y0 ?_;rw[(F.excAttr_ValueError).ga.bind (.ref x)];refine X2 ?_;refine wpAny_call (codeAny_call_builtin (F.excAttr_ValueError).ga.plain F.entry_bexc_ga (DG (s:=⟨c,g,d,e,f⟩) G X I (ad3 h (λfin s' z=>?_) λ_ _ z=>z.elim)));rcases fin with (_ | _ | _ | _) | _ <;> first | exact z.elim | exact z
def DI  (G:qL K C) (X:K.In s.heap) (I:InstAt s.heap x ox C od) (hm:mroIn K C (.type "object")=some true) (hf:findObj K C od "__class__" = some (.bind (.builtin "getset_descriptor.__get__") (.builtin "object.__class__")))
  (h:Q (some (.ref C)) { s with toks:=s.toks+1 }):wpAny (model prog w) A (getAttr? (.ref x) "__class__") Q E s:=by
 have e:∀M,Looks M s.heap _ _:=λM=>looks_find (M:=M) X I hf;obtain⟨a,g,d,b,c⟩:=s;unfold getAttr? getAttrBy?;refine y0 (wpAny_mkText (y0 (wpAny_attempt (SK (s:=⟨a,g,d,b+1,c⟩) G X I ?_))));unfold Builtin.«object.__getattribute__»;refine y0 (X2 (y0 (X2 (y0 (((λM=>I.type (M:=M)) _).at (y0 ((e _).at ?_)))))));refine y0 (ae9 (wpAny_call (class_get (s:=⟨a,g,d,b+1,c⟩) X I hm ?_)));refine X2 ?_;show wpAny _ _ (handedOut (.ref C)) _ _ _;exact X2 (X2 h)
def Hg {cd:ClassData} (G:qL K C) (hc:clsIn K C=some cd) (hm:mroIn K C (.type "object")=some true) (ha:findIn K (.ref C) "__class__" = some (some (.builtin "object.__class__")))
  (hn:specialIn K (.builtin "object.__class__") "__get__" = some (some (.builtin "getset_descriptor.__get__"))) (htk:takesIn K (.builtin "object.__class__")=some true):KitX K (.ref x) (.ref C) (λh=>∃ox od,InstAt h x ox C od) where
 ty:=λ_ _ _ ⟨_,_,I⟩=>I.type
 it:=λ_ _ X _=>by
  unfold clsIn at hc;split at hc;next ho=>exact λc d f g k q=>y0 (wpAny_loadPart (k _ _ (X _ _ ho)) (X2 q))
  next=>cases hc
 ne:=λh tp i b n j X a=>by
  refine Bool.eq_false_iff.mpr λq=>?_;have e:=Value.ref.inj (beq_iff_eq.mp q);unfold clsIn at hc;split at hc;next ho=>rw[e] at ho;have z:=(X _ _ ho).symm.trans a;cases z
  next=>cases hc
 ca:=λX ⟨_,_,I⟩ k=>DI G X I hm (by unfold findObj;rw[hc];simp only[an2,ha,hn,htk]) k
end
def AV(K:Frag)(C:Addr):Bool :=
 match K.lookup C with
 |some ⟨.type "type",_,.cls cd,sl⟩ =>
  match cd.mro,sl.toList with
  |.ref D::r,[_,_,_,_,some (.builtin m),_]=>(D == C && m == "ValueError.__new__") && (!cd.hasDel && (tailIn K VE r && nsOkIn K cd.ns))
  |_,_=>false
 |_=>false
def MP{K:Frag}(uF:K.In h)(q:AV K C=true):∃bm Nn mN,ExcAt h C bm Nn mN:=by
 unfold AV at q;split at q;next dd cd sl look =>
  split at q;next D r c0 c1 c2 c3 m c5 e es =>
   simp only[ad4,beq_iff_eq,Bool.not_eq_true'] at q;obtain⟨⟨f,g⟩,a,i,b⟩:=q;subst f g;have c:=ai1.mp es;obtain⟨o,p,j,l,s,t,u,v,w,n,d⟩:=cd;have e:=e;have a:=a;subst e a c;exact⟨r,l,_,⟨_,_,_,_,_,_,_,_,_,_,_,_,_,_,uF _ _ look⟩,.of_isNs (isNs_of_in uF b),tail_of_in uF i⟩
  next=>cases q
 next=>cases q
structure Tf(K:Frag)(C:Addr):Prop where
 at_:AV K C=true
 ge:qL K C
 sa:findIn K (.ref C) "__setattr__" = some (some (.builtin "object.__setattr__"))
 ob:mroIn K C (.type "object")=some true
 hd:hasDictIn K C=true
section
variable {e:Addr}{d:Option Addr}{fs:List (Str×V)}{f:Str}{E:Value->Shared->Prop}
def UI(k:lR P w H h)(q:H dx=some (.xd fs)):∃mA,h.Ns1 dx mA/\∀g,kC (fs.lookup g) (mA g):=k dx _ q
end
section
variable {o ex:Expr}{f:Str}{ta tv:TE}
structure Dq(K:Frag)(C:Addr):Prop extends Tf K C where
 ca:findIn K (.ref C) "__class__" = some (some (.builtin "object.__class__"))
 cg:specialIn K (.builtin "object.__class__") "__get__" = some (some (.builtin "getset_descriptor.__get__"))
 ct:takesIn K (.builtin "object.__class__")=some true
def LK(I:Inv X am Z H s)(he:H e=some (jQ e C d))(hd:∀dx,d=some dx->∃fs,H dx=some (.xd fs))
  (k:Dq X.K C) (q:kitOne X.K (.ref C) c=some b) (h:∀tk,Q (.bool b) { s with toks:=tk }):wpAny (model X.prog X.w) A (call (.builtin "isinstance") [.ref e,c]) Q E s:=by
 obtain⟨f,t,g,i,j,l,_⟩:=(I.ba e _ he).1;obtain⟨u,n,_⟩:=any_some k.hd;refine kia_one (Hg k.ge n k.ob k.ca k.cg k.ct) I.uG ?_ q (λz=>nomatch z) h;cases d with
 |none=>exact⟨f,none,g,i,by unfold notCls;rw[l],by rw[j];trivial⟩
 |some dx =>
  obtain⟨fs,o⟩:=hd dx rfl;obtain⟨v,p,_⟩:=UI I.ba o;obtain⟨r,a,_⟩:=vJ p;exact⟨f,some r,g,i,by unfold notCls;rw[l],j▸a⟩
def vV:gS X (.builtin "isinstance") (λxs H Q=>∃e C d a b,xs=[.ref e,.ref a]/\H e=some (jQ e C d)/\(∀dx,d=some dx->∃fs,H dx=some (.xd fs))/\Dq X.K C/\kitOne X.K (.ref C) (.ref a)=some b/\Q (.bl b) H):=by intro f s Z H xs us Q I r h;obtain⟨e,C,d,a,b,rfl,g,i,k,j,q⟩:=h;obtain⟨u,n,rfl,l,c⟩:=vals2 r;cases c;cases l;exact LK I g i k j λo=>⟨.bl b,H,I.tok _,rfl,q⟩
end
def EE(uF:X.K.In X.ap)(q:AV X.K C=true)(m:mroIn X.K C (.ref C2)=some true):Pg X C C2:=by
 unfold AV at q;split at q;next dd cd sl look =>
  split at q;next D r c0 c1 c2 c3 mm c5 f es =>
   simp only[ad4,beq_iff_eq,Bool.not_eq_true'] at q;obtain⟨⟨g,h⟩,a,i,b⟩:=q;subst g h;have c:=ai1.mp es;have d:cd.mro.contains (.ref C2)=true:=by
    unfold mroIn clsIn at m;rw[look] at m;simp only[an2] at m;split at m
    .cases m
    .exact aa1 m
   obtain⟨o,p,j,l,s,t,u,v,w,n,e⟩:=cd;have f:=f;have a:=a;subst f a c;exact⟨r,l,_,⟨⟨_,_,_,_,_,_,_,_,_,_,_,_,_,_,uF _ _ look⟩,.of_isNs (isNs_of_in uF b),tail_of_in uF i⟩,d⟩
  next=>cases q
 next=>cases q
end L2
namespace L2
open PySem PySem.Spec PyProof.Rows
def Ci(hst:X.stack=X.env::X.outer)(hfr:X.env.frame=some X.env.locals)(hN:X.N.Nodup)(hi:X.N[i]?=some n)(hloc:X.env.scope.names.lookup n=some .local)
  (hg:Gl X x) (hm:X.mg x=some (.ref C2)) (hdb:(x == ("__debug__" : Str))=false) (h2:AV X.K C2=true) :
  PS X (.Try body [.ExceptHandler (some (.Name x np)) (some n) (b0::suite) hpos] [] [] pos) (λD Z H=>∃Th,(∀am,At (X.oK am Th) D body Z H) /\
   ∀Z' C e H',Th Z' C e H'->AV X.K C=true/\W.mroIn X.K C (.ref C2)=some true/\At (X.held e) (D.less i) (b0::suite) (Z'.set i (some (.ref e))) H'):=λam s Z H D I ⟨Th,d,f⟩ =>
 (R1 hst hfr hN hi hloc hg hm hdb (MP I.ok.mod.uF h2)) am s Z H D I ⟨Th,d,λZ' C e H' g=>let ⟨a,b,c⟩:=f Z' C e H' g;⟨EE I.ok.mod.uF a b,c⟩⟩
section
variable {e v1 v2:Expr}
abbrev TF:=St->Hp->Str->(Str->Hp->Prop)->Prop
def PF(X:Cx)(es:List Expr)(t:TF):Prop :=
 ∀a s Z H b Q,Inv X a Z H s->t Z H b Q->wpAny (model X.prog X.w) X.A (joinParts b (evalEach es X.env)) (EP X a Z (λv c=>∃z,v = .str z/\Q z c)) X.xe s
def Yx:TF:=λ_ H a Q=>a.length<=sizeLine/\Q a H
def XG(x:Str)(t:TF):TF:=λZ H a Q=>(a++x).length<=sizeLine/\t Z H (a++x) Q
def XS(te:TE)(t:TF):TF:=λZ H a Q=>te Z H λv b=>∃x,((v = .str x/\x.length<=sizeLine)\/(∃i,v = .int i/\i.natAbs.log2<1920/\x=Str.ofString (toString i)))/\(a++x).length<=sizeLine/\t Z b (a++x) Q
variable {t:TF}
def w6:PF X [] Yx:=λb s Z H a Q I h=>joinParts_nil (s:=s) ⟨.str a,H,I.tok _,⟨_,rfl⟩,a,rfl,h.2⟩ h.1
def qE(hr:PF X es t):PF X (.Constant (.str x) j p::es) (XG x t):=by intro a s Z H b Q I h;show wpAny _ _ (joinParts b (eval (.Constant (.str x) j p) X.env::evalEach es X.env)) _ _ s;refine joinParts_cons (dS (aZ a s Z H (λv c=>v = .str x/\c=H) I ⟨rfl,rfl⟩) λu d  e=>?_);obtain⟨v,n,f,g,i,l⟩:=e;subst i l;obtain⟨o,rfl⟩:=g;exact⟨h.1,hr a d Z _ _ Q f h.2⟩
def qS(he:PE X e te)(hr:PF X es t):PF X (.FormattedValue e (-1) none p::es) (XS te t):=by
 intro a s Z H b Q I h;show wpAny _ _ (joinParts b (eval (.FormattedValue e (-1) none p) X.env::evalEach es X.env)) _ _ s;refine joinParts_cons (FormattedValue_plain (dS (he a s Z H _ I h) λu o  g=>?_));obtain⟨v,r,d,f,x,j,hl,q⟩:=g;rcases j with ⟨rfl,c⟩|⟨i,rfl,c,rfl⟩
 .obtain⟨l,rfl⟩:=f;exact formatField_str (λw n=>⟨hl,hr a _ Z _ _ Q (d.tok _) q⟩) c
 .obtain⟨l,rfl⟩:=f;exact formatField_int_small c ⟨hl,hr a _ Z _ _ Q (d.tok _) q⟩
def rZ(h:PF X (v1::v2::es) t):PE X (.JoinedStr (v1::v2::es) pos) (λZ H Q=>t Z H Str.empty λz H'=>Q (.str z) H'):=by intro a s Z H Q I b;refine JoinedStr_many (dS (h a s Z H Str.empty _ I b) λu g ⟨v,c,d,f,z,e,q⟩=>⟨v,c,d,f,e▸q⟩)
end
end L2
namespace L2
open PySem PySem.Spec PyProof.Rows
def qV(xs ys:q7):Prop:=∀x∈xs,∀y∈ys,jy x=true/\jy y=true/\D0 x y=decide (x=y)
def rF(p:qV xs ys)(r1:Vals xs is)(r2:Vals ys js) :
  ∀j (h1:j<is.toArray.size) (h2:j<js.toArray.size),SeqAt.EqAt A s is.toArray[j] js.toArray[j] ((λj=>decide (xs[j]?=ys[j]?)) j):=by
 intro j h1 h2;have c:j<xs.length:=by simpa [r1.length] using h1
 have d:j<ys.length:=by simpa [r2.length] using h2
 have f:=i4 c;have g:=i4 d;obtain⟨u1,l,n⟩:=r1.get f;obtain⟨u2,o,q⟩:=r2.get g;have a:is.toArray[j]=u1:=by simpa [d6] using (d6.mp l).2
 have b:js.toArray[j]=u2:=by simpa [d6] using (d6.mp o).2
 rw[a,b];obtain⟨r,t,u⟩:=p _ (ag2 c) _ (ag2 d);have:=Ax (A:=A) (s:=s) n q r t;rw[u] at this;have e:decide (xs[j]?=ys[j]?)=decide (xs[j]=ys[j]):=by rw[f,g];simp
 show SeqAt.EqAt A s u1 u2 (decide (xs[j]?=ys[j]?));exact e▸this
def yL(h:xs.length=ys.length):((List.range xs.length).all λj=>decide (xs[j]?=ys[j]?))=decide (xs=ys):=by
 rw[af5,aj9,ac4];constructor
 .intro z;refine aj3 λj=>?_;by_cases a:j<xs.length
  .simpa using z j (am9.mpr a)
  .rw[ad7 (by lia),ad7 (by lia)]
 .intro z j _;rw[z];simp
inductive Wv(K:W.Frag):V->V->Hp->VK->Prop|mk{a b xs ys:_}{H Q:_}(_:aV K H a xs)(_:aV K H b ys)(_:qV xs ys)(_:Q (.bl (decide (xs=ys))) H):Wv K (.ref a) (.ref b) H Q
inductive Yy(K:W.Frag):V->V->Hp->VK->Prop|mk{a b xs ys:_}{H Q:_}(_:aV K H a xs)(_:aV K H b ys)(_:qV xs ys)(_:Q (.bl (!decide (xs=ys))) H):Yy K (.ref a) (.ref b) H Q
def jU(hu:X.A.units<cLine):mL X (compareOp .Eq) (Wv X.K):=by
 intro f s Z H x y v u Q I G J h;obtain@⟨a,b,c,g,_,_,L,M,N,q⟩:=h;cases G;cases J;obtain⟨O,i,P,_⟩:=I.list L;obtain⟨S,l,R,_⟩:=I.list M;obtain⟨n,o,p,r,_,t⟩:=P;obtain⟨w,B,C,D,_,E⟩:=R;have d:=i.length;have F:=l.length;by_cases hl:c.length=g.length
 .refine SeqAt.eq_listAt (e:=λj=>decide (c[j]?=g[j]?)) ⟨n,p,r,o,t⟩ ⟨w,C,D,B,E⟩ (by simp[<- d,<- F,hl]) hu (rF N i l) ?_;have z:O.toArray.size=c.length:=by simp[<- d]
  rw[z,yL hl];exact⟨.bl _,H,I,rfl,q⟩
 .refine SeqAt.eq_list_lengthsAt ⟨n,p,r,o,t⟩ ⟨w,C,D,B,E⟩ (by simpa [<- d,<- F] using hl) hu ?_;rw[ab2 (λz=>hl (by rw[z]))] at q;exact⟨.bl false,H,I,rfl,q⟩
def lW(hu:X.A.units<cLine):mL X (compareOp .NotEq) (Yy X.K):=by
 intro f s Z H x y v u Q I G J h;obtain@⟨a,b,c,g,_,_,L,M,N,q⟩:=h;cases G;cases J;obtain⟨O,i,P,_⟩:=I.list L;obtain⟨S,l,R,_⟩:=I.list M;obtain⟨n,o,p,r,_,t⟩:=P;obtain⟨w,B,C,D,_,E⟩:=R;have d:=i.length;have F:=l.length;by_cases hl:c.length=g.length
 .refine SeqAt.RcNeAt.lists (e:=λj=>decide (c[j]?=g[j]?)) ⟨n,p,r,o,t⟩ ⟨w,C,D,B,E⟩ (by simp[<- d,<- F,hl]) hu (rF N i l) _ _ _ _ ?_;have z:O.toArray.size=c.length:=by simp[<- d]
  rw[z,yL hl];exact⟨.bl _,H,I,rfl,q⟩
 .refine SeqAt.RcNeAt.lists_lengths ⟨n,p,r,o,t⟩ ⟨w,C,D,B,E⟩ (by simpa [<- d,<- F] using hl) hu _ _ _ _ ?_;rw[ab2 (λz=>hl (by rw[z]))] at q;exact⟨.bl true,H,I,rfl,q⟩
def AY{α β:Type}(f:α->Int)(g:β->Int)(xs:List α)(ys:List β):qV (xs.map λx=>V.int (f x)) (ys.map λy=>V.int (g y)):=by intro x c y d;obtain⟨a,_,rfl⟩:=aa9.mp c;obtain⟨b,_,rfl⟩:=aa9.mp d;refine⟨rfl,rfl,?_⟩;show (f a == g b)=_;rw[af5];simp
def pG(xs ys:a9):qV (xs.map V.str) (ys.map V.str):=by intro x c y d;obtain⟨a,_,rfl⟩:=aa9.mp c;obtain⟨b,_,rfl⟩:=aa9.mp d;refine⟨rfl,rfl,?_⟩;show (a == b)=_;rw[af5];simp
end L2
namespace PySem
namespace F
def DE:typeLookup (.type "list_reverseiterator") "__len__" = pure none:=by rw[typeLookup_type,builtinLookup_eq_fast];kernel_rfl
def HF:typeLookup (.type "list_reverseiterator") "__length_hint__" = pure (some (.builtin "list_reverseiterator.__length_hint__")):=by rw[typeLookup_type,builtinLookup_eq_fast];kernel_rfl
end F
section
variable {R:Result->Shared->Prop}
variable {I:Addr}{wr:c6}{G:Array GenState->Array GenState->Prop}{n:Nat}{P:Nat->Value->Prop}{St:Nat->Shared->Prop}
def AD (W:WalksS prog w A.in1 I fp wr G n P St) (hT:∀i s,St i s->s.TypeIs (.ref I) "list_reverseiterator") (S:Addr) (res:Value) (c₀:Nat) (hst:St 0 s) (hSf:S∉fp) (hI:I∈fp)
  (hS:s.heap.get? S=some { cls:=.type "list",data:=.seq #[] c₀ })
  (hR:∀s' acc' c',Moved (S::wr) G s s'->s'.heap.get? S=some { cls:=.type "list",dict:=none,data:=.seq acc' c',slots:=#[] }->ItemsOf P acc' n->R (.ok (.ret res)) s') (hn:n<=sizeLine) :
  wpAny (model prog w) A.in1 (Builtin.List.listExtendWith (.ref S) (.ref I) res)
   (λfin s'=>match fin with | .done f=>R (.ok f) s' | .again c'=>c'.quiet=true/\codeAny (model prog w) A c' R s') (λe s'=>R (.error e) s') s:=by
 have c:S≠I:=λe=>hSf (e ▸ hI);unfold Builtin.List.listExtendWith;refine y0 (wpAny_typeOf (hT 0 _ hst) ?_);have g:Builtin.List.listSameRef (.ref S) (.ref I)=false:=by simp[Builtin.List.listSameRef,c]
 rw[C5 (by rw[g];decide)];refine y0 (W.self 0 _ _ _ hst ?_);refine y0 (ae9 ?_);unfold Builtin.List.listLengthHint;refine y0 (wpAny_specialOf (hT 0 _ hst) F.DE ?_);show wpAny _ A.in1 (specialOf (Value.ref I) (Str.ofString "__length_hint__") >>= _) _ _ _;refine y0 (wpAny_specialOf (hT 0 _ hst) F.HF ?_)
 (generalize hid:("list_reverseiterator.__length_hint__" : String)=id0;(fail_if_success (clear hid id0));wp_delta;rw[show splitId id0=some ("list_reverseiterator","__length_hint__") from by subst hid;lk];subst hid)
 refine y0 (wpAny_isInstance (b:=true) (hT 0 _ hst) (by rw[isSubtype_type];kernel_rfl) ?_);refine X2 ?_;rw[C5 (by decide)];refine X2 ⟨am5 F.plain_extend_loop _,codeAny_extend_loopS W hn _ hSf _ n 0 _ _ _ rfl (Z9 _) hst hS (ItemsOf.nil P) λs' acc' c' h d a=>?_⟩;exact hR s' acc' c' h d a
def GU (W:WalksS prog w A.in1 I fp wr G n P St) (hT:∀i s,St i s->s.TypeIs (.ref I) "list_reverseiterator") (S:Addr) (hst:St 0 s) (hSf:S∉fp) (hI:I∈fp)
  (hS:s.heap.get? S=some { cls:=.type "list",data:=.seq #[] })
  (hR:∀s' acc' c',Moved (S::wr) G s s'->s'.heap.get? S=some { cls:=.type "list",dict:=none,data:=.seq acc' c',slots:=#[] }->ItemsOf P acc' n->R (.ok (.ret .none)) s') (hn:n<=sizeLine) :
  wpAny (model prog w) A.in1 (Builtin.«list.__init__» ⟨[.ref S,.ref I],[]⟩)
   (λfin s'=>match fin with | .done f=>R (.ok f) s' | .again c'=>c'.quiet=true/\codeAny (model prog w) A c' R s') (λe s'=>R (.error e) s') s:=by
 show wpAny _ A.in1 (Builtin.List.listItems (.ref S) >>= λg=>Builtin.List.listUpdate (.ref S) (λ_=>#[]) >>= λ_=>letGo g.toList.reverse >>= λ_=>Builtin.List.listExtendWith (.ref S) (.ref I) .none) _ _ s;refine y0 ?_;unfold Builtin.List.listItems;refine y0 (wpAny_seqItems hS rfl (X2 ?_));show wpAny _ A.in1 (updateSeq S (λ_=>#[]) >>= λ_=>letGo (#[]:n7).toList.reverse >>= λ_=>Builtin.List.listExtendWith (.ref S) (.ref I) .none) _ _ s;refine y0 (wpAny_updateSeq hS rfl ?_);have a:∀b o,b≠S->s.heap.get? b=some o->(s.heap.update S (Obj.mapSeq (λ_=>(#[]:n7)))).get? b=some o :=
  λb o c e=>(ab0 _ _ (aa4 c)).trans e
 refine y0 (wpAny_letGo ?_);refine AD (hn:=hn) W hT S .none _ (W.frame 0 s _ s.toks hst (N0 _) λb c o e=>a b o (λh=>hSf (h ▸ c)) e) hSf hI (af0 (Obj.mapSeq (λ_=>(#[]:n7))) hS rfl) λs' acc' c' p l d=>?_;exact hR s' acc' c' (Moved.trans W.gtrans ((Moved.refl W.grefl).then_heap (N0 _) λb o c e=>a b o (λh=>c (h ▸ ab7)) e) p) l d
end
section
variable {E:Value->Shared->Prop}
def uM(hh:A.handled=none)(hne:l≠I)(hi:s.heap.IsRevIter I l ((items.size:Int)-1))(hl:s.heap.IsList l items)(hn:items.size<=sizeLine)
  (hQ:∀h' tk acc' c',(∀b o,b≠I->s.heap.get? b=some o->h'.get? b=some o)->h'.get? s.heap.objs.size=some { cls:=.type "list",dict:=none,data:=.seq acc' c',slots:=#[] } ->
   ItemsOf (λi v=>items[items.size-1-i]?=some v) acc' items.size->Q (.ref s.heap.objs.size) { s with heap:=h',toks:=tk }) :
  wpAny (model prog w) A (call (.type "list") [.ref I]) Q E s:=by
 have W:=(Walks.listRev (prog:=prog) (w:=w) (A:=A.in1.in1) hh I l hne items).toS;have r:I<s.heap.objs.size:=by obtain⟨_,e,_⟩:=hi;exact P2 e
 have t:l<s.heap.objs.size:=by obtain⟨_,e,_⟩:=hl;exact P2 e
 have f:s.heap.objs.size∉[I,l]:=λz=>by
  rcases Z5.mp z with e|e
  .exact ao0 r e
  .exact ao0 t (B1.mp e)
 refine callType_codes (Q₁:=λa j=>a = .ref s.heap.objs.size/\j = { s with heap:=s.heap.push { cls:=.type "list",data:=.seq #[] } }) F.called_list (F.typeCall_list_1 _) F.entry_list_init
  (code_list_new _ ⟨rfl,rfl⟩) λa j u=>?_
 obtain⟨rfl,rfl⟩:=u;have n:(s.heap.push { cls:=.type "list",data:=.seq #[] }).get? s.heap.objs.size=some { cls:=.type "list",data:=.seq #[] }:=aa5 _ rfl;refine⟨⟨_,n,rfl⟩,F.args_list_init_2 _ _,GU (A:=A.in1) (hn:=hn) W (λi s x=>x.2.1.typeIs) _ (W.frame 0 s _ s.toks ⟨Z9 _,by simpa using hi,hl⟩ (N0 _) λb _ o e=>x0 _ e) f (by simp) n λp acc' c' q h c=>?_⟩;rw[Moved.eq_with q];refine⟨rfl,hQ p.heap p.toks acc' c' (λb o y e=>?_) h c⟩;refine q.heap b o (λd=>?_) (x0 _ e);rcases Z5.mp d with z|z
 .exact absurd (P2 e) (z▸ah0 _)
 .exact y (B1.mp z)
end
end PySem
namespace L2
open PySem PySem.Spec PyProof.Rows
def Inv.K4(I:Inv X am Z H s)(k:∀b o,b∉ch->s.heap.get? b=some o->h'.get? b=some o)(hn:∀b∈ch,H b=none)
  (hL:∀b∈ch,b≠X.env.locals) (h1:∀b∈ch,b∈X.ex\/X.s₀.heap.objs.size<=b) (h2:∀b∈ch,∀x c,X.env.cells.lookup x=some c->c≠b) (h3:∀b∈ch,∀p∈X.pn++am,p.1≠b) :
  Inv X am Z H { s with heap:=h',toks:=t' }:=by
 have d:∀b u,H b=some u->b∉ch:=λb u e z=>by rw[hn b z] at e;cases e
 refine I.step (g':=s.gens) (d':=s.drawn) (ch:=ch) (λb f=>⟨h1 b f,hL b f,h2 b f,h3 b f⟩) (λb o _ _ a e _=>k b o a e) (λb o _ _ a e _=>⟨o.slots,k b o a e⟩) (λ_ _ _ _ n=>n)
  (λb o a e=>⟨o,k b o a e⟩) (λ_ _ e=>e) (λ_ _ _ e=>e) (λb l e=>⟨#[],by rw[e];simp⟩) (λm g=>?_) (λb u e=>?_) I.ax
 .obtain⟨o,h,i,j,r⟩:=g;exact⟨o,h,i,k _ o (λz=>hL _ z rfl) j,r⟩
 .refine(I.ba b u e).stay (λc v a q=>k c v ?_ q) (λ_ q=>q) λ_ _ q=>q;rcases a with z|z
  .exact z▸d b u e
  .exact d c _ z
def Inv.aly(I:Inv X am Z H s)(h:bT X.K H a xs)(h':bT X.K H a ys):xs=ys:=by
 obtain⟨b,r,⟨o,e,_,n,d⟩,_⟩:=I.tuple h;obtain⟨its',g,⟨i,c,_,j,f⟩,_⟩:=I.tuple h';rw[e] at c;cases c;rw[d] at f;injection f with d1 _
 have:b=its':=by simpa using ac7 Array.toList d1
 subst this;exact r.inj g
section
variable {E:Value->Shared->Prop}{xs ys:n7}{l1 l2 z TI TO i1 i2:Addr}{k:Nat}{a b:Value}{t:Bool}
def aaa(t:Bool)(h:Heap)(i b:Addr)(k:Nat):Prop:=cond t (h.IsTupleIter i b k) (h.IsListIter i b k)
def aac(t:Bool)(h:Heap)(b:Addr)(ys:n7):Prop:=cond t (h.IsTuple b ys) (h.IsList b ys)
def aad(t:Bool)(K:W.Frag)(H:Hp)(b:Addr)(ys:q7):Prop:=cond t (bT K H b ys) (aV K H b ys)
def adj(hh:A.handled=none)(hit:s.heap.IsTupleIter i2 l2 k)(hl:s.heap.IsTuple l2 ys)(hQ:∀x,ys[k]?=some x->∀h',h'.IsTupleIter i2 l2 (k+1)->Heap.SameBut i2 s.heap h'->Q x { s with heap:=h' })
  (hE:ys[k]?=none->∀h' e,Heap.ExtBut i2 s.heap h'->(∃o,h'.get? e=some o/\o.cls = .type "StopIteration")->E (.ref e) { s with heap:=h' }):wpAny (model prog w) A (Builtin.SmallTypes.nextOf (.ref i2)) Q E s:=by
 obtain⟨o,b,e,a⟩:=id hit;obtain⟨f,c,_,g,d⟩:=hl;unfold Builtin.SmallTypes.nextOf;refine y0 (wpAny_callSpecial?_slot (name:=Str.ofString "__next__") hit.typeIs F.slot_tuple_iterator_next (wpAny_call_entry F.slot_tuple_iterator_next hit.typeIs F.entry_tuple_iterator_next ?_ (F.args_tuple_iterator_next_1 _)));show wpAny _ _ (field (.ref i2) 0 >>= _) _ _ s;refine y0 (ao8 b a (x:=.ref l2) rfl ?_);show wpAny _ _ (if (Value.ref l2 == Value.none)=true then _ else _) _ _ s;rw[C5 (show ¬((Value.ref l2 == Value.none)=true) from Z7)];show wpAny _ _ (field (.ref i2) 1 >>= _) _ _ s;refine y0 (ao8 b a (x:=.int k 0) rfl ?_);show wpAny _ _ (seqItems? (.ref l2) >>= _) _ _ s;refine y0 (wpAny_seqItems c d ?_);simp only[ab9];cases hx:ys[k]? with
 |some x=>refine y0 (wpAny_setField b a (by simp) (X2 ⟨x,rfl,X2 (hQ _ hx _ ?_ (Heap.SameBut.update ..))⟩));exact⟨_,af0 _ b (ah1 (ak8 a _)),(Obj.cls_mapFields ..).trans e,by rw[ak8 a];simp[rawInt]⟩
 |none =>
  refine y0 (wpAny_rule (y0 (wpAny_setField b a (by simp) ?_)));show wpAny _ _ (newExc (.type "StopIteration") [] >>= _) _ _ _;refine y0 ?_;simp only[newExc,newTuple];refine y0 (wpAny_newObj_type ?_ (by size_fits));refine y0 (m:=firstArgMember _ _) (wpAny_of_eq (a:=Value.none) rfl ?_);refine wpAny_newObj_type ?_ (by size_fits);simp only[raiseNew];refine y0 (wpAny_handled ?_);rw[show A.in1.handled=none from hh];exact y0 (X2 (wpAny_throw (hE hx _ _ (((Heap.SameBut.update ..).extBut.push _).push _) ⟨_,aa5 _ rfl,rfl⟩)))
def aep(hh:A.handled=none)(D:ZipApart z TI TO i1 i2 l1 l2)(hz:IsZip s.heap z TI TO .none)(hTI:IsPair s.heap TI (.ref i1) (.ref i2))(hTO:IsPair s.heap TO a b)(h1:s.heap.IsListIter i1 l1 k)(h2:aaa t s.heap i2 l2 k)(hl1:s.heap.IsList l1 xs)(hl2:aac t s.heap l2 ys)
  (hQ:∀x y,xs[k]?=some x->ys[k]?=some y->∀h',IsZip h' z TI TO (rawInt s.heap.objs.size)->IsPair h' TO x y->h'.IsListIter i1 l1 (k+1)->aaa t h' i2 l2 (k+1)->IsPair h' s.heap.objs.size x y ->
   (∀c o,c≠z->c≠TO->c≠i1->c≠i2->s.heap.get? c=some o->h'.get? c=some o)->Q (some (.ref s.heap.objs.size)) { s with heap:=h' })
  (hN:xs[k]?=none\/ys[k]?=none->∀h',(∀c o,c≠z->c≠TO->c≠i1->c≠i2->s.heap.get? c=some o->h'.get? c=some o)->Q none { s with heap:=h' }):wpAny (model prog w) A (pyNext (.ref z)) Q E s:=by
 cases t with
 |false =>
  cases e:xs[k]? with
  |none=>exact wpAny_pyNext_zip_end hh D hz hTI hTO h1 h2 hl1 hl2 (.inl e) (hN (.inl e))
  |some x=>cases f:ys[k]? with
   |none=>exact wpAny_pyNext_zip_end hh D hz hTI hTO h1 h2 hl1 hl2 (.inr f) (hN (.inr f))
   |some y=>exact wpAny_pyNext_zip_item D hz hTI hTO h1 h2 hl1 hl2 e f λg c d u v n _=>hQ x y e f g c d u v n
 |true =>
 have d:s.TypeIs (.ref z) "zip" := ⟨_,hz,rfl⟩
 unfold pyNext;refine y0 (wpAny_attempt (wpAny_callSpecial?_slot (name:=Str.ofString "__next__") d F.slot_zip_next (wpAny_call_entry F.slot_zip_next d F.entry_zip_next ?_ (F.args_zip_next_1 _))));show wpAny _ _ (field (.ref z) 2 >>= _) _ _ _;refine y0 (ao8 hz rfl (x:=.bool false) rfl ?_);show wpAny _ _ (field (.ref z) 3 >>= _) _ _ _;refine y0 (ao8 hz rfl (x:=.ref TI) rfl ?_);refine y0 (wpAny_seqItems hTI rfl ?_);show wpAny _ _ (Builtin.SmallTypes.ownedTupleIsFree (.ref z) >>= _) _ _ _;refine y0 ?_;unfold Builtin.SmallTypes.ownedTupleIsFree;refine y0 (ao8 hz rfl (x:=.none) rfl (X2 ?_));simp only[if_true];refine y0 (wpAny_rule ?_);refine y0 (ao8 hz rfl (x:=.ref TO) rfl ?_);refine y0 (wpAny_setField_rec hz (by simp) λh₁ u g=>?_);replace u:IsZip h₁ z TI TO .ellipsis:=u;refine y0 ?_;simp only[List.zipIdx_cons,List.zipIdx_nil,List.forIn_cons,List.forIn_nil];refine y0 (y0 (wpAny_onRaise ?_));show wpAny _ _ (Builtin.SmallTypes.nextOf (.ref i1) >>= _) _ _ _;cases hx:xs[k]? with
 |none =>
  refine y0 (wpAny_nextOf_list_end hh (h1.extBut g.extBut D.i1z) (hl1.extBut g.extBut D.l1z) hx λy e f B=>?_);obtain⟨C,c,j⟩:=B;have q:IsZip y z TI TO .ellipsis:=f _ _ D.i1z.symm u;have p:e≠z:=λx=>by subst x;rw[q] at c;cases c;simp at j
  exact wpAny_setField_rec q (by simp) λG _ i=>y0 (wpAny_isInstance (T:="StopIteration") (b:=true) ⟨C,i.extBut _ _ p c,j⟩ isSubtype_stop (X2 (hN (.inl hx) _ λc o r _ F _ x=>i.extBut _ _ r (f _ _ F (g.extBut _ _ r x)))))
 |some x =>
 refine y0 (wpAny_nextOf_list_item (h1.extBut g.extBut D.i1z) (hl1.extBut g.extBut D.l1z) hx λh₂ P h=>X2 ?_);have q:IsPair h₂ TO a b:=h.extBut _ _ D.TOi1 (g.extBut _ _ D.TOz hTO);refine y0 (wpAny_seqItems q rfl ?_);refine y0 (wpAny_updateSeq_pair q λh₃ j i=>?_);replace j:IsPair h₃ TO x b:=j;refine y0 (wpAny_letGo (X2 ?_));refine y0 (y0 (wpAny_onRaise ?_));show wpAny _ _ (Builtin.SmallTypes.nextOf (.ref i2) >>= _) _ _ _;refine y0 (adj hh ((((show s.heap.IsTupleIter i2 l2 k from h2).extBut g.extBut D.i2z).extBut h.extBut D.i12.symm).extBut i.extBut D.TOi2.symm) ((((show s.heap.IsTuple l2 ys from hl2).extBut g.extBut D.l2z).extBut h.extBut D.l2i1).extBut i.extBut D.l2TO) (λy hy h₄ R l=>X2 ?_) λhy L e f B=>?_)
 .have r:IsPair h₄ TO x b:=l.extBut _ _ D.TOi2 j;refine y0 (wpAny_seqItems r rfl ?_);refine y0 (wpAny_updateSeq_pair r λd f n=>?_);replace f:IsPair d TO x y:=f;refine y0 (wpAny_letGo (X2 (X2 ?_)));refine y0 (wpAny_seqItems f rfl ?_);refine y0 (wpAny_newTuple ?_);have H:d.objs.size=s.heap.objs.size:=by rw[n.1,l.1,i.1,h.1,g.1]
  have I:IsZip d z TI TO .ellipsis:=n.extBut _ _ D.TOz.symm (l.extBut _ _ D.i2z.symm (i.extBut _ _ D.TOz.symm (h.extBut _ _ D.i1z.symm u)));have t:=P2 I;show wpAny _ _ (Builtin.SmallTypes.ownedTupleHandOut (.ref z) (.ref d.objs.size) >>= _) _ _ _;refine y0 ?_;unfold Builtin.SmallTypes.ownedTupleHandOut;refine y0 (wpAny_setField_rec (show IsZip (d.push { cls:=.type "tuple",data:=.seq #[x,y] }) z TI TO .ellipsis from x0 _ I) (by simp) λh₇ C F=>?_);refine wpAny_setField_rec (show IsZip h₇ z TI TO (rawInt d.objs.size) from C) (by simp) λL p G=>?_;replace p:IsZip L z TI TO (rawInt d.objs.size):=p;have up:∀c o,c≠z->d.get? c=some o->L.get? c=some o:=λc o B e=>G.extBut _ _ B (F.extBut _ _ B (x0 _ e));have M:IsPair L d.objs.size x y:=G.extBut _ _ (ao0 t) (F.extBut _ _ (ao0 t) (aa5 _ rfl));rw[H] at p M;refine X2 ⟨_,rfl,?_⟩;rw[H];exact X2 (hQ x y hx hy L p (up _ _ D.TOz f) ((((P.extBut i.extBut D.TOi1.symm).extBut l.extBut D.i12).extBut n.extBut D.TOi1.symm).at λo e=>up _ o D.i1z e) ((R.extBut n.extBut D.TOi2.symm).at λo e=>up _ o D.i2z e) M λc o B O T U e=>up c o B (n.extBut _ _ O (l.extBut _ _ U (i.extBut _ _ O (h.extBut _ _ T (g.extBut _ _ B e))))))
 .obtain⟨C,c,m⟩:=B;have q:IsZip L z TI TO .ellipsis:=f _ _ D.i2z.symm (i.extBut _ _ D.TOz.symm (h.extBut _ _ D.i1z.symm u));have p:e≠z:=λx=>by subst x;rw[q] at c;cases c;simp at m
  exact wpAny_setField_rec q (by simp) λM _ v=>y0 (wpAny_isInstance (T:="StopIteration") (b:=true) ⟨C,v.extBut _ _ p c,m⟩ isSubtype_stop (X2 (hN (.inr hy) _ λc o r N F O x=>v.extBut _ _ r (f _ _ O (i.extBut _ _ N (h.extBut _ _ F (g.extBut _ _ r x)))))))
noncomputable abbrev ajz (h:Heap) (l1:Addr):Heap:=h.push { cls:=.type "list_iterator",data:=.fields #[.ref l1,.int 0 0] }
abbrev akb (h:Heap) (l1 l2:Addr):Heap:=(ajz h l1).push { cls:=.type "tuple_iterator",data:=.fields #[.ref l2,.int 0 0] }
abbrev akC (h:Heap) (l1 l2:Addr):Heap:=(akb h l1 l2).push { cls:=.type "tuple",data:=.seq #[.ref h.objs.size,.ref (ajz h l1).objs.size] }
abbrev ajw (h:Heap) (l1 l2:Addr):Heap:=(akC h l1 l2).push { cls:=.type "tuple",data:=.seq #[.none,.none] }
abbrev afs (h:Heap) (l1 l2:Addr):Heap:=(ajw h l1 l2).push { cls:=.type "zip",data:=.fields #[.none,.bool false,.bool false,.ref (akb h l1 l2).objs.size,.ref (akC h l1 l2).objs.size] }
def aic(hl1:s.heap.IsList l1 xs)(hl2:aac t s.heap l2 ys)
  (h:∀h',IsZip h' (s.heap.objs.size+4) (s.heap.objs.size+2) (s.heap.objs.size+3) .none->IsPair h' (s.heap.objs.size+2) (.ref s.heap.objs.size) (.ref (s.heap.objs.size+1)) ->
   IsPair h' (s.heap.objs.size+3) .none .none->h'.IsListIter s.heap.objs.size l1 0->aaa t h' (s.heap.objs.size+1) l2 0 ->
   (∀c o,s.heap.get? c=some o->h'.get? c=some o)->Q (.ref (s.heap.objs.size+4)) { s with heap:=h' }) :
  wpAny (model prog w) A (call (.type "zip") [.ref l1,.ref l2]) Q E s:=by
 cases t with
 |false=>exact call_zip_2 hl1 hl2 λg a b c d e _=>h g a b c d e
 |true =>
 refine callType_new F.called_zip (by decide) (F.typeCall_zip_2 _ _) (F.newCall_zip_2 _ _) (λa=>F.args_object_init_3 a _ _) F.entry_zip_new
  (.of_wp (S:=λ_ R s=>s.heap.IsList l1 xs/\s.heap.IsTuple l2 ys/\R (.ok (.ret (.ref (ajw s.heap l1 l2).objs.size))) { s with heap:=afs s.heap l1 l2 }) λf w A R s h=>by
   obtain⟨i,g,d,j,l⟩:=s;obtain⟨a,b,h⟩:=h;have n:=sub_zip;have c:Heap.IsList (Shared.heap ⟨i,g,d,j,l⟩) l1 xs:=a;have e:Heap.IsTuple (Shared.heap ⟨i.push { cls:=.type "list_iterator",data:=.fields #[.ref l1,.int 0 0] },g,d,j,l⟩) l2 ys:=Heap.IsTuple.push b _
   wp_walk using wpAny_pyIter_list c,wpAny_pyIter_tuple e
   exact⟨_,rfl,h⟩) ⟨hl1,hl2,?_⟩
 have b:(ajz s.heap l1).objs.size=s.heap.objs.size+1:=ai8 ..;have d:(akb s.heap l1 l2).objs.size=s.heap.objs.size+2:=by rw[ai8,b]
 have e:(akC s.heap l1 l2).objs.size=s.heap.objs.size+3:=by rw[ai8,d]
 have f:(ajw s.heap l1 l2).objs.size=s.heap.objs.size+4:=by rw[ai8,e]
 have i:(afs s.heap l1 l2).get? (ajw s.heap l1 l2).objs.size=some _:=aa5 _ rfl;have j:(afs s.heap l1 l2).get? (akC s.heap l1 l2).objs.size=some _:=x0 _ (aa5 _ rfl);have l:(afs s.heap l1 l2).get? (akb s.heap l1 l2).objs.size=some _:=x0 _ (x0 _ (aa5 _ rfl));have g2:(afs s.heap l1 l2).get? (ajz s.heap l1).objs.size=some _:=x0 _ (x0 _ (x0 _ (aa5 _ rfl)));show _/\_;rw[d,e,f] at i;rw[b,d] at l;rw[e] at j;rw[b] at g2;rw[f];exact⟨⟨_,i,rfl⟩,h _ i l j ⟨_,x0 _ (x0 _ (x0 _ (x0 _ (aa5 _ rfl)))),rfl,rfl⟩ ⟨_,g2,rfl,rfl⟩ λc o x=>x0 _ (x0 _ (x0 _ (x0 _ (x0 _ x))))⟩
end
def Inv.aam(t:Bool){b:Addr}(I:Inv X am Z H s)(h:aad t X.K H b ys):∃is,Vals ys is/\aac t s.heap b is.toArray/\ys.length<=sizeLine/\∀zs,aad t X.K H b zs->zs=ys:=by
 cases t with
 |false=>obtain⟨c,d,e,f⟩:=I.list h;exact⟨c,d,e.isList,f,λzs g=>I.qf g h⟩
 |true=>obtain⟨c,d,e,f⟩:=I.tuple h;exact⟨c,d,e,f,λzs g=>I.aly g h⟩
def Zi(t:Bool)(K:W.Frag)(a b:Addr):It :=
 ⟨λi H=>∃c d x y,aV K H a c/\aad t K H b d/\c[i]?=some x/\d[i]?=some y,
  λi H x e=>∃p v u,H p=none/\x = .ref p/\e=ag H p (.tup [v,u])/\(∀c,aV K H a c->c[i]?=some v)/\∀d,aad t K H b d->d[i]?=some u,
  λi H=>∃c d,aV K H a c/\aad t K H b d/\(c.length<=i\/d.length<=i)⟩
def aaf{t:Bool}{i b:Addr}(e:aaa t h i b k):∃o,h.get? i=some o/\(∀v,o.data≠.cell v)/\∀g:Heap,g.get? i=some o->aaa t g i b k:=by cases t <;>(obtain⟨o,e,c,d⟩:=e;exact⟨o,e,λv q=>(by rw[d] at q;cases q),λg f=>⟨o,f,c,d⟩⟩)
def aai{t:Bool}{z TI TO i1 i2 a b:Addr}(A:∃v u,IsZip h z TI TO .none/\IsPair h TI (.ref i1) (.ref i2)/\IsPair h TO v u/\h.IsListIter i1 a k/\aaa t h i2 b k):∀b∈[z,TI,TO,i1,i2],∃o,h.get? b=some o/\∀v,o.data≠.cell v:=by
 intro b j;obtain⟨v,u,p,t,B,C,F⟩:=A;simp only[Z5,ad1,an3] at j;rcases j with e|e|e|e|e <;> subst e
 .exact⟨_,p,λv q=>by cases q⟩
 .exact⟨_,t,λv q=>by cases q⟩
 .exact⟨_,B,λv q=>by cases q⟩
 .obtain⟨o,e,c,d⟩:=C;exact⟨o,e,λv q=>by rw[d] at q;cases q⟩
 .obtain⟨o,e,c,_⟩:=aaf F;exact⟨o,e,c⟩
def KY(t:Bool){P:Program}{K:W.Frag}{x1}(a b z TI TO i1 i2:Addr)(D:ZipApart z TI TO i1 i2 a b) :
  Turn P w K (.Tuple elts x1 pos) (Zi t K a b) [z,TI,TO,i1,i2] z (λi h=>∃v u,IsZip h z TI TO .none/\IsPair h TI (.ref i1) (.ref i2)/\IsPair h TO v u/\h.IsListIter i1 a i/\aaa t h i2 b i) where
 mem:=by simp
 obj:=λi h A=>aai A
 keep:=λi h h' A k=>by obtain⟨v,u,p,t,B,C,F⟩:=A;obtain⟨o,e,_,f⟩:=aaf F;exact⟨v,u,k z (by simp) _ p,k TI (by simp) _ t,k TO (by simp) _ B,C.at λo q=>k i1 (by simp) o q,f _ (k i2 (by simp) o e)⟩
 item:=by
  intro X R S T j i L s Z H E I l A U;subst R S T;have m:=aai A;obtain⟨_,_,p,n,B,C,F⟩:=A;obtain⟨xs,O,x,y,G,J,Q,hy⟩:=U;obtain⟨is,Y,c,_⟩:=I.list G;obtain⟨js,r,d,_,J⟩:=I.aam t J;obtain⟨u,hu,ru⟩:=Y.get Q;obtain⟨v,hv,rv⟩:=r.get hy;refine aep (I.ok.hd j) D p n B C F c.isList d (λ_ _ e f g1 gz gO ga gb gT hk=>?_) λn=>by simp[hu,hv] at n
  simp only[List.getElem?_toArray,hu,hv,Option.some.injEq] at e f;subst e f;refine⟨_,rfl,wpAny_letOwnedTupleGo_zip (s:={ s with heap:=g1 }) gz λg2 en M=>?_⟩;obtain⟨o,e,f⟩:=I.aak (t':=s.toks) l m (λc o n q=>by simp only[Z5,ad1,an3,not_or] at n;exact(M.2 c n.1).trans (hk c o n.1 n.2.2.1 n.2.2.2.1 n.2.2.2.2 q)) ru rv ((M.2 _ (aa4 (Z6 (P2 p)))).trans gT)
  exact⟨.ref s.heap.objs.size,_,o,rfl,⟨_,x,y,e,rfl,rfl,λzs g=>by rw[I.qf g G];exact Q,λzs g=>by rw[J zs g];exact hy⟩,⟨u,v,en,(M.2 TI D.TIz).trans (hk _ _ D.TIz D.TITO D.TIi1 D.TIi2 n),(M.2 TO D.TOz).trans gO,by obtain⟨o,q,r⟩:=ga;exact⟨o,(M.2 i1 D.i1z).trans q,r⟩,by obtain⟨o,q,_,r⟩:=aaf gb;exact r _ ((M.2 i2 D.i2z).trans q)⟩,f⟩
 done:=by
  intro X R S T j i L s Z H E I l A U;subst R S T;obtain⟨_,_,p,n,B,C,F⟩:=A;obtain⟨xs,O,G,J,Q⟩:=U;obtain⟨is,Y,c,_⟩:=I.list G;obtain⟨js,r,d,_⟩:=I.aam t J;have a:=Y.length;have b:=r.length;refine aep (I.ok.hd j) D p n B C F c.isList d (λx y e f=>?_) λ_ h' eb=>⟨rfl,?_⟩
  .simp only[List.getElem?_toArray] at e f;have:=(d6.mp e).1;have:=(d6.mp f).1;lia
  refine I.K4 (t':=s.toks) (ch:=[z,TI,TO,i1,i2]) (λb o g e=>?_) (λb g=>(l b g).1) (λb g=>(l b g).2.1) (λb g=>(l b g).2.2.2.1) (λb g=>(l b g).2.2.2.2.1) λb g=>(l b g).2.2.2.2.2;simp only[Z5,ad1,an3,not_or] at g;exact eb b o g.1 g.2.2.1 g.2.2.2.1 g.2.2.2.2 e
 self:=λ_ _ _ _ _ A h=>by obtain⟨v,u,p,t,B,C,F⟩:=A;exact wpAny_pyIter_zip p h
def DF(h:l<n)(h':m<n):ZipApart (n+4) (n+2) (n+3) n (n+1) l m:=by constructor <;> (intro e;lia)
def ZI(t:Bool)(K:W.Frag)(ta:TA):TI:=λZ H R=>ta Z H λd c=>∃a b e f,d=[.ref a,.ref b]/\aV K c a e/\aad t K c b f/\R (Zi t K a b) c
def V3(t:Bool)(hg:Gl X "zip") (hm:X.mg "zip" = none) (ha:PA X [a,b] ta) (hs:autoParam (starEach [a,b] X.env=(false,eval a X.env)::starEach [b] X.env) cw._auto_1) (hs2:autoParam ((backTo pos (starEach [b] X.env)).any (·.1)=false) cw._auto_1) :
  PI X (.Tuple elts x1 tp) (.Call (.Name "zip" p) [a,b] [] pos) (ZI t X.K ta):=by
 intro d s Z H R I h;refine Call_ (pF I hg hm (show bootBuiltins "zip" = some (.type "zip") by lk) (ae0 (dS (ha pos d s Z H _ I h) λus c w=>?_) hs hs2));obtain⟨O,x,f,y,z⟩:=w;obtain⟨l,m,P,Q,rfl,i,j,q⟩:=z;obtain⟨u,v,rfl,A,B⟩:=y.two;cases A;cases B;obtain⟨S,_,n,_⟩:=f.list i;obtain⟨T,_,o,_⟩:=f.aam t j;refine aic n.isList o λC r D E F G L=>?_;refine wpAny_pyIter_zip (s:={ c with heap:=C }) r ?_;have M:l<c.heap.objs.size:=by obtain⟨_,e,_⟩:=n.isList;exact P2 e
 have N:m<c.heap.objs.size:=by cases t <;>(obtain⟨_,e,_⟩:=o;exact P2 e)
 refine⟨c.heap.objs.size+4,[c.heap.objs.size+4,c.heap.objs.size+2,c.heap.objs.size+3,c.heap.objs.size,c.heap.objs.size+1],_,_,x,rfl,f.kept (t':=c.toks) L,KY t l m _ _ _ _ _ (DF M N),⟨_,_,r,D,E,F,G⟩,λb t=>?_,q⟩;have g:c.heap.objs.size<=b:=by
  simp only[Z5,ad1,an3] at t;rcases t with e|e|e|e|e <;> rw[e]
  .exact ae4 _ _
  .exact ae4 _ _
  .exact ae4 _ _
  .exact N0 _
  .exact ae4 _ _
 exact f.CM g (f.ba.fresh g)
def EH{K:W.Frag}(Pv:Nat->St->Hp->Prop)(h0:Pv 0 Z H)(hl:∀i Z H,i<=xs.length->i<=ys.length->Pv i Z H->aV K H a xs/\aV K H b ys)
  (hs:∀i x y p Z H,xs[i]?=some x->ys[i]?=some y->H p=none->Pv i Z H->g (.ref p) Z (ag H p (.tup [x,y])) λZ2 H2=>tb { D with nx:=Pv (i+1),ct:=Pv (i+1),bk:=D.nx } Z2 H2)
  (hd:∀i Z H,(i=xs.length\/i=ys.length)->i<=xs.length->i<=ys.length->Pv i Z H->D.nx Z H):DJ (Zi false K a b) g tb D Z H:=by
 refine⟨λi m Z H=>m=xs.length-i/\i<=xs.length/\i<=ys.length/\Pv i Z H,⟨xs.length,by simp,Z9 _,Z9 _,h0⟩,?_⟩;rintro i m Z H ⟨rfl,e,f,p⟩;obtain⟨c,d⟩:=hl i Z H e f p;by_cases h:i<xs.length
 .by_cases j:i<ys.length
  .refine .inr ⟨⟨xs,ys,xs[i],ys[i],c,d,by simp[h],by simp[j]⟩,Pv (i+1),λt l n=>⟨xs.length-(i+1),by lia,rfl,h,j,n⟩,λx l y=>?_⟩;obtain⟨o,v,u,q,rfl,rfl,r,s⟩:=y;exact hs i v u o Z H (r xs c) (s ys d) q p
  .exact .inl ⟨⟨xs,ys,c,d,.inr (by lia)⟩,hd i Z H (.inr (by lia)) e f p⟩
 .exact .inl ⟨⟨xs,ys,c,d,.inl (by lia)⟩,hd i Z H (.inl (by lia)) e f p⟩
def G3(r:Vals xs is)(hi:ItemsOf (λi v=>is.toArray[is.toArray.size-1-i]?=some v) acc is.toArray.size):Vals xs.reverse acc.toList:=by
 have e:acc.toList=is.reverse:=by
  apply aj3;intro i;have d:acc.size=is.length:=by have:=hi.1;simpa using this
  by_cases a:i<is.length
  .have b:i<acc.size:=d▸a
   have c:=hi.2 i acc[i] (by simp[b]);rw[ai6 a];have c:is[is.length-1-i]?=some acc[i]:=by simpa using c
   rw[c];simp[b]
  .rw[ad7 (by simp;lia),ad7 (by simp;lia)]
 rw[e];clear e hi;induction r with
 |nil=>exact .nil
 |cons h t ih =>
  rw[List.reverse_cons,List.reverse_cons];exact ih.append (.cons h .nil)
def Ek(K:W.Frag)(ta:TA):TE:=λZ H Q=>ta Z H λc a=>∃l b,c=[.ref l]/\aV K a l b/\∀r,a r=none->Q (.ref r) (ag a r (.lst b.reverse))
def sW    (hc:X.aw=true) (hg:Gl X "list") (hm:X.mg "list" = none) (hg2:Gl X "reversed") (hm2:X.mg "reversed" = none) (ha:PA X [a] ta)
  (hs:autoParam (starEach [.Call (.Name "reversed" p2) [a] [] pos2] X.env=[(false,eval (.Call (.Name "reversed" p2) [a] [] pos2) X.env)]) cw._auto_1) (hs2:autoParam (starEach [a] X.env=[(false,eval a X.env)]) cw._auto_1) :
  PE X (.Call (.Name "list" p) [.Call (.Name "reversed" p2) [a] [] pos2] [] pos) (Ek X.K ta):=by
 intro f s Z H Q I h;refine Call_ (pF I hg hm (show bootBuiltins "list" = some (.type "list") by lk) (ae0 ?_ hs rfl));rw[hs];show wpAny _ _ (spliced [(false,eval (.Call (.Name "reversed" p2) [a] [] pos2) X.env)]) _ _ s;refine ai4 ?_;refine Call_ (pF I hg2 hm2 (show bootBuiltins "reversed" = some (.type "reversed") by lk) (ae0 (dS (ha pos2 f s Z H _ I h) λus d A=>?_) hs2 rfl));obtain⟨N,O,i,B,C⟩:=A;obtain⟨l,j,rfl,D,q⟩:=C;obtain⟨u,rfl,E⟩:=B.one;cases E;obtain⟨t,v,n,F⟩:=i.list D;refine call_reversed_list n.isList (am0 ?_);have G:l<d.heap.objs.size:=by obtain⟨_,e,_⟩:=n.isList;exact P2 e
 refine uM (I.ok.hd hc) (Z6 G) ⟨_,aa5 _ rfl,rfl,rfl⟩ (n.isList.push _) (by have:=v.length;simp;lia) λx J r c kp e L=>?_;have z:d.heap.objs.size<=(d.heap.push (revObj l ((t.toArray.size:Int)-1))).objs.size:=by rw[(ai8 ..)];exact ae4 _ _
 refine⟨.ref _,_,i.laid (t':=J) (o:=.lst j.reverse) (λb u y=>kp b u (Z6 (P2 y)) (x0 _ y)) z (show dz X.prog X.w _ x _ (.lst j.reverse) from ⟨by rw[ac3];exact F,r.toList,c,G3 v L,by simpa using e⟩),rfl,q _ (i.ba.fresh z)⟩
end L2
namespace L2
open PySem PySem.Spec PyProof.Rows
def uU(h:Vals (ns.map V.int) us):PyProof.Rows.IntsAre us ns:=by have:=intsAre_of h;simpa using this
def o5:gS X (.type "dict") (λxs H Q=>∃a kvs,xs=[V.ref a]/\H a=some (.dK kvs)/\∀p,H p=none->Q (.ref p) (ag H p (.dK kvs))):=by intro b s Z H xs us Q I r h;obtain⟨a,kvs,rfl,c,q⟩:=h;obtain⟨u,rfl,d⟩:=vals1 r;cases d;exact JI I (.inl c) λp g e f=>⟨.ref p,_,f,rfl,q p e⟩
def uh:typeLookup (.type "list") "keys" = pure none:=by rw[typeLookup_type,builtinLookup_eq_fast];kernel_rfl
def oO 
  (hx:s.heap.get? a=some o) (hc:o.cls = .type "list") (hdat:o.data = .seq xs k) (hd:o.dict=none) (hmiss:typeLookup (.type "list") name=pure none) (hname:(["__module__","__name__","__qualname__","__doc__","__annotations__"]:a9).contains name=false) (hA:A.handled=none)
  (h:∀h' tk,(∀b o,s.heap.get? b=some o->h'.get? b=some o)->Q none { s with heap:=h',toks:=tk }) (hsz:name.length+100<=sizeLine:=by size_fits) :
  wpAny (model prog w) A (getAttr? (.ref a) name) Q E s:=by
 obtain⟨c,l,n,p⟩:=o;simp only at hc hdat hd;subst hc hdat hd;obtain⟨q,g,d,tk,r⟩:=s;have j:∀f,(⟨q,g,d,f,r⟩:Shared).TypeIs (.ref a) "list" := λ_=>⟨_,hx,rfl⟩
 have t:=sub_AttributeError;have u:=F.slot_list_getattribute.lookup;have v:=F.slot_list_getattribute.bind (.ref a);have x:=am_list_getattr_none;unfold getAttr? getAttrBy? getAttrBy;repeat (any_goals (first | assumption | exact j _ | ((with_reducible show wpAny _ _ (call (Value.builtin "list.__getattribute__") _ _) _ _ _);refine am4 F.slot_list_getattribute (j _) am_entry_list_getattribute (F.args_list_getattribute_2 _ _) (meets_getattribute_miss_list a xs k p name _ hmiss hname hsz) ⟨hx,hA,λh' f e i=>?_⟩) | wp_step))
 obtain⟨y,z,B⟩:=i.there;show wpAny _ _ (getattributeRaised _ _ _ _ _ _ _) _ _ _;unfold getattributeRaised;repeat (any_goals (first | assumption | wp_step))
 exact h _ _ i.of.keeps
def iE:entryFor table "dict.update.loop" = some Builtin.«dict.update.loop»:=entryFor_of_tree (by kernel_rfl)
def dY:plainId "dict.update.loop" = true:=by lk
section
variable {κ:Type}[DecidableEq κ]{knd:KeyKind prog w κ}{R:Result->Shared->Prop}
def Bf(vs:List (κ×Value))(k:κ)(v:Value):(stored vs k v).length<=vs.length+1:=by
 unfold stored;split
 .simp
 .simp
def A1(vs:List (κ×Value)):∀rs:List (κ×Value),(merged vs rs).length<=vs.length+rs.length:=λrs=>by
 induction rs generalizing vs with
 |nil=>exact N0 _
 |cons kv r ih =>
  have a:=ih (stored vs kv.1 kv.2);have b:=Bf vs kv.1 kv.2;show (merged (stored vs kv.1 kv.2) r).length<=vs.length+(r.length+1)
  lia
def DZ(hh:A.in1.handled=none)(hn:items.size=rs.length)(hb:rs.length<=1000)
  (d1:it≠D) (d2:l≠D) (d3:l≠it) :
  ∀(k i:Nat) (s:Shared),items.size-i=k->i<=items.size->s.heap.IsListIter it l i->s.heap.IsList l items ->
   (∀(j:Nat) (u:Value) (kv:κ×Value),items[j]?=some u->rs[j]?=some kv->∃p a,u = .ref p/\p≠D/\p≠it/\s.heap.IsTuple p #[a,kv.2]/\knd.is kv.1 a=true) ->
   s.heap.DictOf knd D (merged [] (rs.take i)) ->
   (∀s',s'.heap.DictOf knd D (merged [] rs)->(∀b o,b≠D->b≠it->s.heap.get? b=some o->s'.heap.get? b=some o)->s'.gens=s.gens->s'.drawn=s.drawn->s'.os=s.os->R (.ok (.ret .none)) s') ->
   codeAny (model prog w) A (.builtin "dict.update.loop" ⟨[.ref D,.ref it,rawInt (i:Int),.none],[]⟩) R s:=by
 intro k;induction k with
 |zero =>
  intro i s S U h hl G B H;have q:i=items.size:=by lia
  refine ao6 iE ?_;rw[ai9 dY _];show wpAny _ A.in1 (pyNext (.ref it) >>= _) _ _ s;refine y0 (wpAny_pyNext_list_end hh h hl (by rw[q];simp) λt g=>?_);show wpAny _ A.in1 (Builtin.Dict.addKeywords D [] >>= _) _ _ _;refine y0 (X2 ?_);show wpAny _ A.in1 (ret Value.none) _ _ _;refine X2 (H { s with heap:=t } ?_ (λb o _ C e=>g b o C e) rfl rfl rfl);rw[q,hn,ab3] at B;exact B.extBut g (aa4 d1)
 |succ k ih =>
  intro i s S U h hl G B H;have v:i<items.size:=by lia
  have O:items[i]?=some items[i]:=by simp[v]
  have x:rs[i]?=some rs[i]:=i4 (by omega);refine ao6 iE ?_;rw[ai9 dY _];show wpAny _ A.in1 (pyNext (.ref it) >>= _) _ _ s;refine y0 (wpAny_pyNext_list_item h hl O λt y g=>?_);obtain⟨p,a,W,pD,X,Y,Z⟩:=G i _ _ O x;rw[W];have I:t.IsTuple p #[a,(rs[i]).2]:=by obtain⟨o,e,c,n,d⟩:=Y;exact⟨o,(g.2 p X).trans e,c,n,d⟩
  obtain⟨o,e,c,n,d⟩:=id I;show wpAny _ A.in1 (holding [Value.ref p] _ >>= _) _ _ _;refine y0 (ae9 ?_);refine y0 ?_;unfold Builtin.Dict.pairItems;refine wpAny_tryCatch ?_;refine y0 (wpAny_typeOf (T:="tuple") ⟨o,e,c⟩ ?_);rw[w4 (by decide)];unfold seqItems?;refine y0 (y0 (wpAny_load e ?_));rw[d];refine X2 (X2 ?_);show wpAny _ _ (holding [a,(rs[i]).2] (dictSet D a (rs[i]).2)) _ _ _;refine ae9 ?_;have hsz:(merged [] (rs.take i):List (κ×Value)).length<=sizeLine:=by have:=A1 [] (rs.take i);rw[v6] at this;simp only[ac6] at this;have z:=ad0;lia
  refine wpAny_dictSet_pairs (s:={ s with heap:=t }) (hsz:=hsz) Z (B.sameBut g (aa4 d1)) λC K f=>?_;show wpAny _ A.in1 (again (.builtin "dict.update.loop" ⟨[.ref D,.ref it,rawInt ((i:Int)+1),.none],[]⟩)) _ _ _;refine X2 ⟨am5 dY _,?_⟩;have ei:((i:Int)+1)=((i+1:Nat):Int):=by lia
  rw[ei];refine ih (i+1) _ (by lia) v (by obtain⟨o,e,r⟩:=y;exact⟨o,(f.2 it d1).trans e,r⟩) (by obtain⟨o,e,r⟩:=hl;exact⟨o,(f.2 l d2).trans ((g.2 l d3).trans e),r⟩) (by intro j u kv h1 C;obtain⟨L,a',M,E,F,⟨o,e,r⟩,N⟩:=G j u kv h1 C;exact⟨L,a',M,E,F,⟨o,(f.2 L E).trans ((g.2 L F).trans e),r⟩,N⟩) (by rw[merged_take_succ _ _ _ _ x];exact K) (by intro s' M E F q4 N;exact H s' M (λb o P Q e=>E b o P Q ((f.2 b P).trans ((g.2 b Q).trans e))) F q4 N)
end
section
variable {κ:Type}[DecidableEq κ]{knd:KeyKind prog w κ}{E:Value->Shared->Prop}
def rO {l:Addr} {items:n7} {m:Nat} {rs:List (κ×Value)} {Q:Value->Shared->Prop} (hh:A.handled=none) (ho:s.heap.get? l=some { cls:=.type "list",data:=.seq items m })
  (hn:items.size=rs.length) (hb:rs.length<=1000)
  (hp:∀(j:Nat) (u:Value) (kv:κ×Value),items[j]?=some u->rs[j]?=some kv->∃p a,u = .ref p/\s.heap.IsTuple p #[a,kv.2]/\knd.is kv.1 a=true)
  (h:∀h' tk,h'.DictOf knd s.heap.objs.size (merged [] rs)->(∀b o,s.heap.get? b=some o->h'.get? b=some o)->Q (.ref s.heap.objs.size) { s with heap:=h',toks:=tk }) :
  wpAny (model prog w) A (call (.type "dict") [.ref l]) Q E s:=by
 refine callType_codes (Q₁:=λf C=>f = .ref s.heap.objs.size/\C = { s with heap:=s.heap.push { cls:=.type "dict",data:=.dict #[] } }) F.kt_called_dict (F.kt_typeCall_dict_1 _) F.entry_dict_init (kt_code_dict_new _ ⟨rfl,rfl⟩) ?_;rintro f C ⟨rfl,rfl⟩;have c:(s.heap.push { cls:=.type "dict",data:=.dict #[] }).DictOf knd s.heap.objs.size []:=Heap.DictOf.new s.heap;have g:l<s.heap.objs.size:=P2 ho;have d:(s.heap.push { cls:=.type "dict",data:=.dict #[] }).get? l=some { cls:=.type "list",data:=.seq items m }:=x0 _ ho;refine⟨c.typeIs,F.args_dict_init_2 _ _,?_⟩;unfold Builtin.«dict.__init__»;refine y0 ?_;unfold Builtin.Dict.selfAndRest;refine y0 (wpAny_notOrdered_dict c.typeIs ?_);show wpAny _ _ (pure (s.heap.objs.size,[Value.ref l])) _ _ _;refine X2 ?_;show wpAny _ _ (Builtin.Dict.updateFrom "dict.__init__" s.heap.objs.size (.ref l) [] .none) _ _ _;unfold Builtin.Dict.updateFrom;refine y0 (wpAny_typeOf (T:="list") ⟨_,d,rfl⟩ ?_);rw[w4 (by decide)];refine y0 (oO (s:={ s with heap:=s.heap.push { cls:=.type "dict",data:=.dict #[] } }) d rfl rfl rfl uh (by decide) (by simp[hh]) (λq J t=>?_));rw[w4 (show (none:Option Value).isNone=true from rfl)];refine y0 (wpAny_rule ?_);have i:=t _ _ d;have n:q.DictOf knd s.heap.objs.size []:=by obtain⟨o,G,H,e,r⟩:=c;exact⟨o,G,H,t _ _ e,r⟩
 have big:s.heap.objs.size<q.objs.size:=by obtain⟨o,G,H,e,r⟩:=n;exact P2 e
 refine y0 (wpAny_pyIter_list (s:={ s with heap:=q,toks:=J }) ⟨_,i,rfl,m,rfl⟩ ?_);refine X2 ⟨am5 dY _,?_⟩;refine DZ (knd:=knd) (by simp[hh]) hn hb (D:=s.heap.objs.size) (it:=q.objs.size) (l:=l) (ao0 big) (Z6 g) (Z6 (Nat.lt_trans g big)) items.size 0 _ (by lia) (Z9 _) ⟨_,aa5 _ rfl,rfl,rfl⟩ ⟨_,x0 _ i,rfl,m,rfl⟩ (by intro j u kv K L;obtain⟨p,a,x,⟨o,v,y⟩,z⟩:=hp j u kv K L;have I:=P2 v;exact⟨p,a,x,Z6 I,Z6 (Nat.lt_trans I big),⟨o,x0 _ (t _ _ (x0 _ v)),y⟩,z⟩) (n.push _) (by intro M x v y z N;obtain⟨h',P,R,B,O⟩:=M;cases y;cases z;cases N;exact⟨rfl,h h' B x (λb o e=>v b o (Z6 (P2 e)) (Z6 (Nat.lt_trans (P2 e) big)) (x0 _ (t _ _ (x0 _ e))))⟩)
end
theorem ya(ok:lR P w H h):∀(ps:c6) (kvs:List (Key×V)),ps.length=kvs.length->(∀(i:Nat) p kv,ps[i]?=some p->kvs[i]?=some kv->H p=t0 [kV kv.1,kv.2]) ->
  ∃rs:List (Key×Value),KV kvs rs/\∀(i:Nat) p kv,ps[i]?=some p->rs[i]?=some kv->∃a,h.IsTuple p #[a,kv.2]/\(cJ P w).is kv.1 a=true
 | [],[],_,_=>⟨[],.nil,λi p kv e _=>by simp at e⟩
 |p::ps,kv::kvs,hl,hp=>by
  obtain⟨rs,r1,r2⟩:=ya ok ps kvs (by simpa using hl) (λi q c e1 e2=>hp (i+1) q c (by simpa using e1) (by simpa using e2));obtain⟨_,g,rv,j⟩:=(show dz P w H h p (.tup [kV kv.1,kv.2]) from ok p _ (hp 0 p kv rfl rfl))
  cases rv with
  |cons e1 rv=>cases rv with
   |cons e2 rv =>
    cases rv;rename_i a b;refine⟨(kv.1,b)::rs,.cons ⟨rfl,e2⟩ r1,λi q c d f=>?_⟩;cases i with
    |zero =>
     simp only[af6,ah5] at d f;subst d f;exact⟨a,j,qY e1⟩
    |succ i=>exact r2 i q c (by simpa using d) (by simpa using f)
 | [],_::_,hl,_=>by simp at hl
 |_::_,[],hl,_=>by simp at hl
inductive VW(xs:q7)(H:Hp)(Q:VK):Prop|mk(l:Addr)(ps:c6)(kvs:List (Key×V))(_:xs=[V.ref l])(_:H l=r6 (ps.map V.ref))(_:(ps.length=kvs.length/\∀(i:Nat) p kv,ps[i]?=some p->kvs[i]?=some kv->H p=t0 [kV kv.1,kv.2]))(_:kvs.length<=1000)(_:∀d,H d=none->Q (.ref d) (ag H d (.dK (m9 [] kvs))))
def pA (hc:X.aw=true):gS X (.type "dict") VW:=by
 intro p s Z H S us Q I r h;obtain⟨l,b,c,rfl,hl,⟨d,g⟩,T,q⟩:=h;obtain⟨u,rfl,E⟩:=vals1 r;cases E;obtain⟨t,e,n,y,F⟩:=(show dz X.prog X.w H s.heap l (.lst (b.map V.ref)) from I.ba l _ hl)
 obtain⟨rs,A,o⟩:=ya I.ba b c d g;have B:=y.length;have U:=A.length;rw[d5] at B;have z:=ad0;refine rO (knd:=cJ X.prog X.w) (items:=e.toArray) (rs:=rs) (I.ok.hd hc) F (by simp;lia) (by lia) (λj v W f G=>?_) λY J K L=>?_
 .have f:e[j]?=some v:=by simpa using f
  have M:j<b.length:=B▸(d6.mp f).1
  have C:=i4 M;obtain⟨v',D,N⟩:=y.get (i:=j) (x:=V.ref b[j]) (by rw[v3,C];rfl);rw[f] at D;cases D;cases (show v=Value.ref b[j] from N);obtain⟨a,O,P⟩:=o j _ _ C G;exact⟨_,a,rfl,O,P⟩
 .have t:(m9 [] c).length<=sizeLine:=by have R:=oH c [];rw[ac6] at R;lia
  exact⟨.ref s.heap.objs.size,_,I.laid (t':=J) L (N0 _) (wu t (beq_eq_false_iff_ne.mpr (aa4 (Z6 I.big))) (A.merge .nil) K),rfl,q _ (I.ba.fresh (N0 _))⟩
section
variable {a:Addr}{kvs:List (Key×V)}{o:Obj}
def zB(H:Hp)(a:Addr):Prop:=∀o u,H a≠some (.mC o u)
def Inv.freeze(I:Inv X am Z H s)(e:H a=some (.dK kvs))(ho:s.heap.get? a=some o):Inv X am Z (ag H a (.mC o (.dK kvs))) s:=by
 have d:∀{b u},H b=some u->u ≠ .dK kvs->b≠a:=λ{b u} q n z=>by rw[z,e] at q;cases q;exact n rfl
 have g:∀{b},H b=none->b≠a:=λ{b} q z=>by rw[z,e] at q;cases q
 refine I.step (g':=s.gens) (d':=s.drawn) (t':=s.toks) (ch:=[]) (H':=ag H a (.mC o (.dK kvs))) (h':=s.heap) (λb h=>by cases h) (λb o n _ _ e _=>e) (λb o n _ _ e _=>⟨o.slots,e⟩) (λb o _ _ n=>by rw[aj (g n)];exact n) (λb o _ e=>⟨o,e⟩) (λb i q=>by rw[aj (d q (by intro z;cases z))];exact q) (λb o u q=>by rw[aj (d q (by intro z;cases z))];exact q) (λb l q=>⟨#[],by rw[aj (d q (by intro z;cases z)),q];simp⟩) (λm j=>j) (λb u q=>?_) I.ax;by_cases z:b=a
 .rw[z,aa] at q;cases q;rw[z];exact⟨ho,I.ba a _ e⟩
 .rw[aj z] at q;exact(I.ba b u q).stay (λc v _ q=>q) (λc f=>by rw[aj (d f (by intro z;cases z))];exact f) (λc i f=>by rw[aj (d f (by intro z;cases z))];exact f)
def Inv.Wt(I:Inv X am Z H s)(e:H a=some (.dK kvs)):zB X.H₀ a:=λo u q=>by have:=I.ap.pR a o u q;rw[e] at this;cases this
def Inv.XJ(I:Inv X am Z H s)(e:H a=some (.mC o (.dK kvs)))(nf:zB X.H₀ a):Inv X am Z (ag H a (.dK kvs)) s:=by
 have g:∀{b u},H b=some u->u ≠ .mC o (.dK kvs)->b≠a:=λ{b u} q n z=>by rw[z,e] at q;cases q;exact n rfl
 have h:∀{b},H b=none->b≠a:=λ{b} q z=>by rw[z,e] at q;cases q
 refine⟨I.ok,I.os,I.ax,⟨I.ap.keep,I.ap.slot,λb i q n t=>by have:=I.ap.free b i q n t;rw[aj (h this)];exact this,I.ap.there,λb j q=>by have:=I.ap.tups b j q;rw[aj (g this (by intro z;cases z))];exact this,λb i u q=>by have:=I.ap.pR b i u q;rw[aj (λz=>nf i u (by rw[<- z];exact q))];exact this,λb w q=>by obtain⟨d,l⟩:=I.ap.rL b w q;exact⟨d,by rw[aj (g l (by intro z;cases z))];exact l⟩⟩,I.loc,I.cell,by rw[aj (h I.free)];exact I.free,λx c q=>by rw[aj (h (I.je x c q))];exact I.je x c q,λp y=>by obtain⟨A,r,B⟩:=I.pin p y;exact⟨A,by rw[aj (h r)];exact r,B⟩,λb u q=>?_,I.len⟩
 .by_cases z:b=a
  .rw[z,aa] at q;cases q;exact z▸(I.ba a _ e).2
  .rw[aj z] at q;exact(I.ba b u q).stay (λc v _ q=>q) (λc f=>by rw[aj (g f (by intro z;cases z))];exact f) (λc j f=>by rw[aj (g f (by intro z;cases z))];exact f)
end
def YO(a:Addr)(o:Obj)(kvs:List (Key×V)):It :=
 ⟨λi H=>H a=some (.mC o (.dK kvs))/\i<kvs.length,λi H x c=>c=H/\∃b,kvs[i]?=some b/\x=kV b.1,λi H=>H a=some (.mC o (.dK kvs))/\kvs.length<=i⟩
def J9(h:(cJ P w).is k u=true):RelV (kV k) u:=by
 rcases dZ h with ⟨i,t,rfl,rfl⟩|⟨x,t,rfl,rfl⟩
 .exact⟨t,rfl⟩
 .exact⟨t,rfl⟩
def Dn{P:Program}{K:W.Frag}{es:Array DictEntry}{ep:Nat}(a it:Addr)(o:Obj)(kvs:List (Key×V))(hne:a≠it)(hd:o.data = .dict es ep):Turn P w K tg (YO a o kvs) [it] it (λi h=>h.IsKeyIter it a i kvs.length ep) where
 mem:=by simp
 obj:=λi h f b n=>by
  have e:b=it:=by simpa using n
  subst e;obtain⟨o,e,c,d⟩:=f;exact⟨o,e,λv z=>by rw[d] at z;cases z⟩
 keep:=λi h y f k=>f.at λo e=>k it (by simp) o e
 item:=by
  intro X C D F G i j s Z H E I A f J;subst C D F;obtain⟨L,hi⟩:=J;obtain⟨p,z,hs,B,g,M⟩:=(show dz X.prog X.w H s.heap a (.mC o (.dK kvs)) from I.ba a _ L)
  obtain⟨N,O,f2,Q,R,S⟩:=A it (by simp);have hl:=g.length;have T:s.heap.DictAt (cJ X.prog X.w) a B ep:=by obtain⟨o',U,Y,q,c',r,r'⟩:=M;rw[p] at q;cases q;rw[hd] at r;cases r;exact⟨o,es,p,c',hd,r'⟩
  refine (Walks.dictKeys (prog:=X.prog) (w:=X.w) (knd:=cJ X.prog X.w) (I.ok.hd G) it a hne B ep).item i s _ _ (by lia) ⟨hl▸f,T⟩ λv y tk hv t kk=>?_;obtain⟨k,x,e1,e2⟩:=hv;obtain⟨oi,ei,ci,di⟩:=id t.1;have u:=i4 hi;have ek:kvs[i].1=k:=by have:=ac7 (λl=>l[i]?) g.keys;simp only[v3,u,e1,af7] at this;exact aa1 this
  exact⟨v,rfl,JL (s:={ s with heap:=y,toks:=tk }) ei ci di (by decide) ⟨kV kvs[i].1,H,I.turned (λb o n e=>kk b o (by simpa using n) e) N O Q R S,ek▸J9 e2,⟨rfl,_,u,rfl⟩,hl▸t.1,λb n=>(A b n).1⟩⟩
 done:=by
  intro X C D F G i j s Z H E I A f J;subst C D F;obtain⟨L,hi⟩:=J;obtain⟨p,z,hs,B,g,M⟩:=(show dz X.prog X.w H s.heap a (.mC o (.dK kvs)) from I.ba a _ L)
  obtain⟨N,O,f2,Q,R,S⟩:=A it (by simp);have hl:=g.length;have T:s.heap.DictAt (cJ X.prog X.w) a B ep:=by obtain⟨o',U,Y,q,c',r,r'⟩:=M;rw[p] at q;cases q;rw[hd] at r;cases r;exact⟨o,es,p,c',hd,r'⟩
  refine wpAny_pyNext_dict_end (I.ok.hd G) (hl▸f) T (by simp;lia) λy eb=>⟨rfl,I.turned (t':=s.toks) (λb o n e=>eb b o n e) N O Q R S⟩
 self:=λ_ _ _ _ _ f h=>wpAny_pyIter_keyiter f h
def YE(H0:Hp)(tl:TE):TI:=λZ H R=>tl Z H λx c=>∃a b,x = .ref a/\c a=some (.dK b)/\∀o,zB H0 a->R (YO a o b) (ag c a (.mC o (.dK b)))
def rQ{l:Expr}{tl:TE}(hl:PE X l tl):PI X tg l (YE X.H₀ tl):=by
 intro f s Z H R I h;refine dS (hl f s Z H _ I h) λv g  u=>?_;obtain⟨x,G,i,y,A⟩:=u;obtain⟨a,kvs,e,j,q⟩:=A;subst e;cases y;obtain⟨z,B,C,n,D⟩:=t7 i.ba j;obtain⟨o,E,J,p,c,d,r⟩:=D;refine wpAny_pyIter_dict (knd:=cJ X.prog X.w) (kvs:=C) B ⟨o,E,p,c,d,r⟩ ?_;have t:=i.freeze j p;refine⟨g.heap.objs.size,[g.heap.objs.size],_,_,_,rfl,t.kept (t':=g.toks) λb o e=>x0 _ e,Dn a _ o kvs (Z6 (P2 p)) d,⟨_,aa5 _ rfl,rfl,by rw[n.length];rfl⟩,λb F=>?_,q o (i.Wt j)⟩;have e:b=g.heap.objs.size:=by simpa using F
 subst e;exact t.CM (N0 _) (t.ba.fresh (N0 _))
def Ww(H0:Hp)(te:TE):TE:=λZ H Q=>te Z H λv c=>∃a o b,c a=some (.mC o (.dK b))/\zB H0 a/\Q v (ag c a (.dK b))
def Ca{e:Expr}{te:TE}(h:PE X e te):PE X e (Ww X.H₀ te):=λb s Z H Q I q =>
 dS (h b s Z H _ I q) λv l ⟨x,n,c,d,a,o,f,g,i,j⟩=>⟨x,_,c.XJ g i,d,j⟩
def vW(Pv:Nat->q7->Hp->Prop)(h0:Pv 0 [] H)(hn:kvs.length<sizeLine)
  (hq:∀i ys H,i<=kvs.length->Pv i ys H->H a=some (.mC o (.dK kvs)))
  (hs:∀i kv ys H,kvs[i]?=some kv->ys.length=i->Pv i ys H->te (nv caps Z++[some (kV kv.1)]) H λy H2=>∃m',m'<kvs.length-i/\m'=kvs.length-(i+1)/\i+1<=kvs.length/\(ys++[y]).length=i+1/\Pv (i+1) (ys++[y]) H2) (hd:∀ys H,ys.length=kvs.length->Pv kvs.length ys H->∀D,H D=none->Q (.ref D) (ag H D (.lst ys))) :
  yz (YO a o kvs) caps te Z H Q:=by
 refine⟨λi m ys H=>m=kvs.length-i/\i<=kvs.length/\ys.length=i/\Pv i ys H,⟨kvs.length,by simp,Z9 _,rfl,h0⟩,?_⟩;rintro i m ys H ⟨rfl,c,hl,p⟩;have q:=hq i ys H c p;by_cases b:i<kvs.length
 .refine .inr ⟨⟨q,b⟩,by lia,λx g y=>?_⟩;obtain⟨e,kv,d,f⟩:=y;subst e f;exact hs i kv ys _ d hl p
 .have e:i=kvs.length:=by lia
  subst e;exact .inl ⟨⟨q,N0 _⟩,hd ys H hl p⟩
theorem sD:∀{xs:q7} {us:c8},xs.length=us.length->(∀(j:Nat) x u,xs[j]?=some x->us[j]?=some u->RelV x u)->Vals xs us
 | [],[],_,_=>.nil
 |x::xs,u::us,hl,h=>.cons (h 0 x u rfl rfl) (sD (by simpa using hl) λj y v e1 e2=>h (j+1) y v (by simpa using e1) (by simpa using e2))
 | [],_::_,hl,_=>by simp at hl
 |_::_,[],hl,_=>by simp at hl
noncomputable def Mn{α:Type}(lt:Nat->Nat->Bool):W.KasT α->α
 |.ret a=>a
 |.ask i j k=>Mn lt (k (lt i j))
def fM{α:Type}(n:Nat)(P:α->Prop):W.KasT α->Prop
 |.ret a=>P a
 |.ask i j k=>i<n/\j<n/\∀b,fM n P (k b)
theorem fM.ev{α:Type}{n:Nat}{P:α->Prop}{lt:Nat->Nat->Bool}:∀{t:W.KasT α},fM n P t->P (Mn lt t)
 |.ret _,h=>h
 |.ask i j k,h=>fM.ev (t:=k (lt i j)) (h.2.2 _)
theorem fM.bind{α β:Type}{n:Nat}{P:α->Prop}{P':β->Prop}{f:α->W.KasT β}:∀{t:W.KasT α},fM n P t->(∀a,P a->fM n P' (f a))->fM n P' (t.bind f)
 |.ret _,h,g=>g _ h
 |.ask _ _ k,h,g=>⟨h.1,h.2.1,λb=>fM.bind (t:=k b) (h.2.2 b) g⟩
def gq(n:Nat)(p:Array Nat):Prop:=p.toList.Perm (List.range n)
def gq.lt(h:gq n p)(hn:0<n)(k:Nat):p.getD k 0<n:=by
 by_cases a:k<p.size
 .have e:p.getD k 0=p[k]:=by simp[Array.getD,a]
  rw[e];have:p[k]∈p.toList:=by simp
  exact am9.mp (h.mem_iff.mp this)
 .have e:p.getD k 0=0:=by simp[Array.getD,a]
  rw[e];exact hn
def gq.to(h:gq n p)(e:q.Perm p):gq n q:=(Array.perm_iff_toList_perm.mp e).trans h
theorem sZ(hn:0<n)(h:gq n p):∀(f m:Nat),fM n (λ_=>True) (W.kas_asc p f m)
 |0,_=>trivial
 |f+1,m=>⟨h.lt hn _,h.lt hn _,λb=>by
  cases b with
  |true=>exact trivial
  |false=>exact sZ hn h f (m+1)⟩
def mT(h:gq n p)(i j:Nat):gq n (W.kas_rev p i j):=h.to (mirror_perm _ _ _ _)
theorem nY(hn:0<n):∀(f:Nat) (p:Array Nat) (m q:Nat),gq n p->fM n (λr=>gq n r.1) (W.kas_desc f p m q)
 |0,_,_,_,h=>h
 |f+1,p,m,q,h=>⟨h.lt hn _,h.lt hn _,λb=>by
  cases b with
  |true =>
   show fM n _ (if q>0 then W.kas_desc f (W.kas_rev p (m-(q+1)) m) (m+1) 0 else W.kas_desc f p (m+1) 0);split
   .exact nY hn f _ _ _ (mT h _ _)
   .exact nY hn f _ _ _ h
  |false=>exact⟨h.lt hn _,h.lt hn _,λd=>by
    cases d with
    |true=>exact h
    |false=>exact nY hn f _ _ _ h⟩⟩
def vZ(hn:0<n)(m k:Nat)(h:gq n p):fM n (λr=>gq n r.2) (W.kas_tail3 m k p) :=
 fM.bind (sZ hn (mT h 0 m) _ _) λ_ _=>mT h 0 m
def oJ(hn:0<n)(m k:Nat)(h:gq n p):fM n (λr=>gq n r.2) (W.kas_descPart m k p) :=
 fM.bind (nY hn _ _ _ _ h) λr hr=>by
  split
  .exact vZ hn _ _ (mT hr _ _)
  .exact vZ hn _ _ hr
def Bb(hn:0<n)(k:Nat)(h:gq n p):fM n (λr=>gq n r.2) (W.kas_count k p) :=
 fM.bind (sZ hn h _ _) λm _=>by
  split
  .exact h
  .split
   .exact⟨h.lt hn _,h.lt hn _,λb=>by
     cases b with
     |true=>exact h
     |false=>exact oJ hn _ _ (mT h _ _)⟩
   .exact oJ hn _ _ h
theorem oQ(hn:0<n)(h:gq n p)(k:Nat):∀(f l r:Nat),fM n (λ_=>True) (W.kas_place p k f l r)
 |0,_,_=>trivial
 |f+1,l,r=>by
  show fM n _ (if l ≥ r then _ else _);split
  .exact trivial
  .exact⟨h.lt hn _,h.lt hn _,λb=>by
    cases b with
    |true=>exact oQ hn h k f _ _
    |false=>exact oQ hn h k f _ _⟩
theorem zj(hn:0<n):∀(f:Nat) (p:Array Nat) (k:Nat),gq n p->fM n (gq n) (W.kas_bin f p k)
 |0,_,_,h=>h
 |f+1,p,k,h=>fM.bind (oQ hn h k _ _ _) λl _=>zj hn f _ _ (h.to (bubble_perm _ _ _))
def qx(hn:0<n):fM n (gq n) (W.kas_sort n) :=
 fM.bind (Bb hn n (p:=List.toArray (List.range n)) (by show (List.toArray (List.range n)).toList.Perm _;rw[List.toList_toArray])) λr hr=>by
  split
  .exact zj hn _ _ _ hr
  .exact hr
def Mi (names:a9) (i j:Nat):Bool:=decide ((names.getD i "").l<(names.getD j "").l)
def gy (names:a9):a9:=if names.length<2 then names else (Mn (Mi names) (W.kas_sort names.length)).toList.map λi=>names.getD i ""
def gB(names:a9):(gy names).Perm names:=by
 unfold gy;split
 .exact .refl _
 .have a:((Mn (Mi names) (W.kas_sort names.length)).toList.map λi=>names.getD i "").Perm ((List.range names.length).map λi=>names.getD i ""):=(qx (by lia)).ev.map _;have e:((List.range names.length).map λi=>names.getD i "")=names:=by
   refine aj3 λj=>?_;rw[v3];by_cases b:j<names.length
   .rw[List.getElem?_range b];simp[b]
   .rw[ad7 (by rw[List.length_range];lia),ad7 (by lia)];rfl
  rw[e] at a;exact a
section
variable {E:Value->Shared->Prop}
theorem JJ{α:Type}{vs:c8}{names:a9}(hv:∀(j:Nat) x,names[j]?=some x->∃t,vs[j]?=some (Value.str x t)){P:α->Prop}:∀{t:W.KasT α} {Q:α->Shared->Prop} {s:Shared},fM names.length P t->Q (Mn (Mi names) t) s->t.kasWp (W.kas_ask prog w A oneType' vs) Q s
 |.ret _,_,_,_,h=>h
 |.ask i j k,Q,s,g,h=>by
  obtain⟨g1,g2,g3⟩:=g;have a:=i4 g1;have b:=i4 g2;obtain⟨f,c⟩:=hv i _ a;obtain⟨l,d⟩:=hv j _ b;show wpAny _ _ (keyLt' oneType' (vs.getD i Value.none) (vs.getD j Value.none)) _ _ s;rw[ac8,ac8,c,d];refine W.kas_lt_str ?_;have e:decide ((names[i]).l<(names[j]).l)=Mi names i j:=by unfold Mi;rw[ac8,ac8,a,b];rfl
  exact e▸JJ hv (g3 _) h
def A6   {vs:c8}   (ho:s.heap.get? a=some (seqObj "list" vs.toArray n)) (h2:vs.length<2)
  (h:∀h' c,h'.get? a=some (seqObj "list" vs.toArray c)->(∀b o,b≠a->s.heap.get? b=some o->h'.get? b=some o)->P (.done (.ret .none)) { s with heap:=h' }) :
  wpAny (model prog w) A (Builtin.«list.sort» ⟨[.ref a],[]⟩) P E s:=by
 obtain⟨j,f⟩:∃j,(s.heap.update a (Obj.mapSeq λ_=>(#[]:n7))).get? a=some (seqObj "list" #[] j):=⟨_,get?_update_seq ho λ_=>#[]⟩
 have q:vs.length<=sizeLine:=by rw[ad0];lia
 rw[list_sort_plain];refine y0 (listItems_at ho rfl ?_);refine y0 (listUpdate_at ho rfl ?_ (by rw[T1];omega) (Z9 _));refine y0 (seqEpoch_at f rfl ?_);refine y0 (wpAny_newTuple ?_ (by show vs.length<=_;exact q));refine y0 (wpAny_newList ?_ (Z9 _));refine ae9 ?_;dsimp only;have hn2:vs.toArray.size<2:=T1▸h2
 rw[w4 hn2,w4 hn2];refine y0 (X2 ?_);refine y0 (X2 ?_);have d:=x0 (seqObj "list" #[] 0) (x0 (seqObj "tuple" vs.toArray 0) f);refine y0 (seqEpoch_at d rfl ?_);have r:(arrOf (SortSt.mk' general' (vs.toArray.zip vs.toArray) #[] 7 none)).map (·.2)=vs.toArray:=by show (vs.toArray.zip vs.toArray).map (·.2)=vs.toArray;apply ai1.mp;rw[Array.toList_map,Array.toList_zip];simp[List.map_snd_zip]
 dsimp only;rw[r];refine y0 (listUpdate_at d rfl ?_ (Z9 _) (by rw[T1];lia));show wpAny _ _ (if _ then _ else _) _ _ _;simp only[bne_self_eq_false,ak6,ao9];obtain⟨g,i⟩:∃g,((((s.heap.update a (Obj.mapSeq λ_=>(#[]:n7))).push (seqObj "tuple" vs.toArray 0)).push (seqObj "list" #[] 0)).update a (Obj.mapSeq λ_=>vs.toArray)).get? a=some (seqObj "list" vs.toArray g):=⟨_,get?_update_seq d λ_=>vs.toArray⟩
 refine X2 (h _ g i λb o l e=>?_);exact((Heap.SameBut.update _ a _).2 b l).trans (x0 _ (x0 _ (((Heap.SameBut.update s.heap a (Obj.mapSeq λ_=>(#[]:n7))).2 b l).trans e)))
end
def Inv.Dk(I:Inv X am Z H s)(hns:s.heap.Ns X.env.locals m)(F2:h2.Ns X.env.locals m)(kp2:∀c o,c≠X.env.locals->s.heap.get? c=some o->h2.get? c=some o)
  (hD0:s.heap.get? D=none) (new:∀H',dz X.prog X.w H' h2 D (.lst ys)):Inv X am Z (ag H D (.lst ys)) { s with heap:=h2,toks:=t' }:=by
 have d:∀{b u},H b=some u->b≠D:=λ{b u} e z=>by rw[z,(I.ba.new hD0)] at e;cases e
 refine I.step (g':=s.gens) (d':=s.drawn) (t':=t') (ch:=[]) (H':=ag H D (.lst ys)) (h':=h2) (λb l=>by cases l) (λb o n _ _ e _=>kp2 b o n e) (λb o n _ _ e _=>⟨o.slots,kp2 b o n e⟩) (λb o _ e n=>by rw[aj (λz=>?_)];exact n;rw[z] at e;rw[hD0] at e;cases e) (λb o _ e=>?_) (λb p e=>by rw[aj (d e)];exact e) (λb o u e=>by rw[aj (d e)];exact e) (λb M e=>⟨#[],by rw[aj (d e),e];simp⟩) (λr f=>?_) (λb u e=>?_) I.ax
 .by_cases z:b=X.env.locals
  .obtain⟨t,N,O,x,_⟩:=F2;exact⟨t,z▸x⟩
  .exact⟨o,kp2 b o z e⟩
 .have A:r=m:=by obtain⟨P,B,C,E,F,_,G⟩:=f;obtain⟨Q,J,K,g,h,_,L⟩:=hns;rw[E] at g;cases g;rw[F] at h;cases h;funext n;rw[<- G,<- L]
  exact A▸F2
 .by_cases z:b=D
  .rw[z,aa] at e;cases e;rw[z];exact new _
  .rw[aj z] at e;refine(I.ba b u e).stay (λc v a q=>kp2 c v (λy=>?_) q) (λc a=>by rw[aj (d a)];exact a) (λc p a=>by rw[aj (d a)];exact a);have i:=I.free;rcases a with a|a
   .rw[<- a,y,i] at e;cases e
   .rw[y,i] at a;cases a
inductive SO(xs:q7)(H:Hp)(Q:VK):Prop|mk(a:Addr)(kvs:List (Key×V))(names:a9)(_:xs=[.ref a])(_:H a=some (.dK kvs))(_:kvs.map (·.1)=names.map Sum.inr)(_:names.length<64)(_:∀l,H l=none->Q (.ref l) (ag H l (.lst ((gy names).map V.str))))
def qm (hc:X.aw=true):gS X (.builtin "sorted") SO:=by
 intro G s Z H xs us Q I r h;obtain⟨a,kvs,names,rfl,ha,hk,hn,q⟩:=h;obtain⟨u,rfl,ru⟩:=vals1 r;cases ru;obtain⟨z,hd,vs,J,dd⟩:=t7 I.ba ha;obtain⟨o,K,ep,eo,c,d,r'⟩:=dd;have hl:=J.length;have hnl:names.length=kvs.length:=by have:=ac7 List.length hk;simpa using this.symm
 obtain⟨m,M,_⟩:=id I.loc;refine W.kdu_sorted (h₀:=Att.tV s.heap) (L:=X.env.locals) (m:=m) (news:=se (Att.tV s.heap) s.heap X.env.locals) (W.kdl_dict (knd:=cJ X.prog X.w) (kvs:=vs) (ep:=ep) hd) (I.ok.hd hc) (Att.UM M) Fv ⟨o,K,eo,c,d,r'⟩ (hl▸z) λD h' U f F N B hwl hP=>?_;have R:∀(j:Nat) x,names[j]?=some x->∃t,f[j]?=some (Value.str x t):=λj x e=>by
  have Y:=(d6.mp e).1;have hj2:j<f.length:=by lia
  have ew:=i4 hj2;obtain⟨k,y,f1,f2⟩:=hP j _ ew;have:=ac7 (λl=>l[j]?) (hk.symm.trans J.keys);simp only[v3,e,f1,af7] at this;have ek:(Sum.inr x:Key)=k:=aa1 this;subst ek;obtain⟨t,p⟩:=(show ∃t,f[j]=Value.str x t from J9 f2)
  exact⟨t,by rw[ew,p]⟩
 have hwm:∀v∈f,∃x t,v=Value.str x t:=λv hv=>by obtain⟨j,Y⟩:=ab8.mp hv;have hj1:=(d6.mp Y).1;have e:names[j]?=some (names[j]'(by lia)):=i4 _;obtain⟨t,p⟩:=R j _ e;rw[Y] at p;exact⟨_,t,aa1 p⟩
 have nD:=(N (D,_) (ab7 ..)).2.1;have C:s.heap.get? D=none:=by
  cases e:s.heap.get? D with
  |none=>rfl
  |some o=>exact absurd (B (D,o) (mX nD (Att.lq _ _) e)) (ah0 _)
 have hz:((gy names).map V.str).length<=sizeLine:=by rw[d5,(gB names).length_eq,ad0];lia
 have O:∀E out c2,E.Ns X.env.locals m->(∀c o,c≠X.env.locals->s.heap.get? c=some o->E.get? c=some o)->E.get? D=some (seqObj "list" out.toArray c2)->Vals ((gy names).map V.str) out->EP X G Z Q (Value.ref D) { s with heap:=E,toks:=U }:=λE out c2 f1 f2 f3 f4 =>
  ⟨.ref D,_,I.Dk M f1 f2 C (λH'=>⟨hz,out,c2,f4,f3⟩),rfl,q D (I.ba.new C)⟩
 by_cases E:f.length<2
 .have hD:=(N (D,_) (ab7 ..)).1;refine wpAny_call_entry slot_list_sort ⟨_,hD,rfl⟩ entry_list_sort (A6 (s:={ s with heap:=h',toks:=U }) hD E λh3 c3 g1 g2=>⟨_,rfl,?_⟩) (args_list_sort _);refine O h3 f c3 (F.ns.at' λS e=>g2 _ _ (aa4 nD) e) (λcc S n e=>by have b:=(N (cc,S) (Q1 _ (mX n (Att.lq _ _) e))).1;exact g2 _ _ (λy=>by rw[y,C] at e;cases e) b) g1 ?_
  .have K:gy names=names:=by unfold gy;rw[w4 (by lia)]
   rw[K];refine sD (by rw[d5];lia) λj x u b A=>?_;rw[v3] at b;obtain⟨y,g3,rfl⟩:=D1.mp b;obtain⟨t,p⟩:=R j y g3;rw[A] at p;exact⟨t,aa1 p⟩
 .have he:names.length=f.length:=by lia
  refine W.kas_lsort (s:={ s with heap:=h',toks:=U }) (T:=.type "str") (vs:=f) F N (W.UpdF.head λqq hq=>Z6 (B qq hq)) (by simp) (by lia) (by lia) (λb h _ _ v hv=>by obtain⟨x,t,rfl⟩:=hwm v hv;exact λA' Q' E' s' _ h=>X2 h) (by decide) (λb h3 F3 N3=>?_)
  .rw[<- he];refine JJ (P:=gq names.length) R (qx (by lia)) ?_;refine W.KasFin.intro F3 N3 (W.UpdF.head λqq hq=>Z6 (B qq hq)) (λh4 c4 F4 N4=>?_);refine O h4 _ c4 F4.ns (λcc S n e=>(N4 (cc,S) (Q1 _ (mX n (Att.lq _ _) e))).1) (N4 (D,_) (ab7 ..)).1 ?_;have K:gy names=(Mn (Mi names) (W.kas_sort names.length)).toList.map λi=>names.getD i "" := by unfold gy;rw[C5 (by lia)]
   rw[K];refine sD (by simp) λj x u b A=>?_;rw[v3,v3] at b;rw[v3] at A;cases g:(Mn (Mi names) (W.kas_sort names.length)).toList[j]? with
   |none=>rw[g] at A;cases A
   |some i =>
    rw[g] at b A;have hi:=am9.mp (((qx (by lia)).ev).mem_iff.mp (p0 g));have ei:=i4 hi;obtain⟨t,p⟩:=R i _ ei;simp only[af7,ah5] at b A;rw[ac8,ei] at b;rw[ac8,p] at A;subst b A;exact⟨t,rfl⟩
noncomputable def JV(a b:Str):Nat:=(Builtin.Str.occurrences a b 0 a.length (a.length+1)).length
inductive T7(x:V)(vs:q7)(H:Hp)(Q:VK):Prop|mk(a b)(_:x = .str a)(_:vs=[.str b])(_:Q (.int (JV a b)) H)
def JB:Su X "str.count" T7:=by intro c s Z H x i v us Q I d e h;obtain⟨a,b,rfl,rfl,q⟩:=h;obtain⟨t,rfl⟩:=d;obtain⟨u,rfl,f⟩:=e.one;obtain⟨g,rfl⟩:=f;exact call_gives F.slot_str_count (am6 _ _ _) F.entry_str_count (F.args_str_count_2 _ _) (gives_str_count a b t g) ⟨.int _,H,I.tok _,⟨_,rfl⟩,q⟩
end L2
namespace L2
open PySem
def gI.m(r:gI k A)(h:autoParam (j<=k) cw._auto_1):gI j A:=r.mono h
def b7(i:Nat)(S:aI X.N P sc)(he:PE X e te)(hi:autoParam (X.N[i]?=some x) cw._auto_1)(hx:autoParam (Loc X.env.scope x) cw._auto_1)(hs:autoParam (swapsWith e (some (.Name x pos')) pos.line X.env=pure false) cw._auto_1)(hf:autoParam (X.fn x=true\/X.env.scope.names.lookup x=some .local) cw._auto_1):PS X (.Assign [.Name x pos'] e pos) (Bc te (p9 i)):=lJ S.nd hi hx he hs hf
def jb(i:Nat)(S:aI X.N P sc)(hi:autoParam (X.N[i]?=some x) cw._auto_1)(hx:autoParam (Loc X.env.scope x) cw._auto_1)(hf:autoParam (X.fn x=true\/X.env.scope.names.lookup x=some .local) cw._auto_1):PG X (.Name x pos) (p9 i):=pQ S.nd hi hx hf
def sL(h:Nat.ble n sizeLine=true):n<=sizeLine:=Nat.le_of_ble_eq_true h
def ez  {id:String}       (hc:gS X (.builtin id) r) (hm:X.mg x=none) (ha:PA X (e::es) t) (hg:autoParam (Gl X x) cw._auto_1) (hv:autoParam (bootBuiltins x=some (.builtin id)) L2.Y13._auto_1) (hn:autoParam (x ≠ "__name__") cw._auto_1) (hdb:autoParam ((x == ("__debug__" : Str))=false) cw._auto_1) (he:autoParam (starEach (e::es) X.env=(false,eval e X.env)::starEach es X.env) cw._auto_1) (hpl:autoParam ((backTo pos (starEach es X.env)).any (·.1)=false) cw._auto_1):PE X (.Call (.Name x p) (e::es) [] pos) (Wj r t):=sY hc hg hm hv ha hn hdb he hpl
def pO         (hc:gS X (.type T) r) (hm:X.mg x=none) (ha:PA X (e::es) t) (hg:autoParam (Gl X x) cw._auto_1) (hv:autoParam (bootBuiltins x=some (.type T)) L2.Y13._auto_1) (hn:autoParam (x ≠ "__name__") cw._auto_1) (hdb:autoParam ((x == ("__debug__" : Str))=false) cw._auto_1) (he:autoParam (starEach (e::es) X.env=(false,eval e X.env)::starEach es X.env) cw._auto_1) (hpl:autoParam ((backTo pos (starEach es X.env)).any (·.1)=false) cw._auto_1):PE X (.Call (.Name x p) (e::es) [] pos) (Wj r t):=nZ hc hg hm hv ha hn hdb he hpl
def br{X:Cx}:=@pv X 0
def bP{X:Cx}:=@pv X 1
def cG{X:Cx}:=@pv X 2
def dh{X:Cx}:=@pv X 3
def eE{X:Cx}:=@pv X 4
def gX{X:Cx}:=@pv X 5
def jv{X:Cx}:=@pv X 6
def jO{X:Cx}:=@pv X 7
def kH{X:Cx}:=@pv X 8
def l9{X:Cx}:=@pv X 9
def bQ(ha:PE X e te)(hs:autoParam (starEach [e] X.env=(false,eval e X.env)::starEach [] X.env) cw._auto_1):PA X [e] (vm te qw):=ao ha bu hs
def cy(ha:PE X e te)(hb:PE X e2 te2)(hs:autoParam (starEach [e,e2] X.env=(false,eval e X.env)::starEach [e2] X.env) cw._auto_1)(hs2:autoParam (starEach [e2] X.env=(false,eval e2 X.env)::starEach [] X.env) cw._auto_1):PA X [e,e2] (vm te (vm te2 qw)):=ao ha (bQ hb hs2) hs
noncomputable abbrev ρ(a:Addr):Option V:=some (.ref a)
noncomputable abbrev ι(a:Int):Option V:=some (.int a)
noncomputable abbrev τ(a:Str):Option V:=some (.str a)
end L2
namespace L2
open PySem PySem.Spec PyProof.Rows
def Rd.of(h:H a=some u):Rd H a u:=.inl h
end L2
namespace L2
open PySem PySem.Spec PyProof.Rows
section
variable {X:Cx}
def apW     (hg:Gl X x) (hm:X.mg x=none) (hv:bootBuiltins x=some u) (r:RelV v u) (hn:autoParam (x ≠ "__name__") cw._auto_1) (hd:autoParam ((x == ("__debug__" : Str))=false) cw._auto_1):PE X (.Name x pos) (tC v) :=
 λ_ _ _ H _ I h=>pF I hg hm hv ⟨v,H,I,r,h⟩ hn hd
end
end L2
namespace L2
open PySem PySem.Spec PyProof.Rows
section
variable {X:Cx}
def avi(ta:TA):TI:=λZ H R=>ta Z H λvs a=>∃i j:Int,vs=[.int i,.int j]/\(-(2 ^ 62)<=i/\i<2 ^ 62 /\ -(2 ^ 62)<=j/\j<2 ^ 62)/\R (N5 i (j-i).toNat) a
def akZ    (hg:Gl X "range") (hm:X.mg "range" = none) (ha:PA X [a,b] ta) (hs:autoParam (starEach [a,b] X.env=[(false,eval a X.env),(false,eval b X.env)]) cw._auto_1) (hs2:autoParam (starEach [b] X.env=[(false,eval b X.env)]) cw._auto_1) :
  PI X tg (.Call (.Name "range" p) [a,b] [] pos) (avi ta):=by
 intro c s Z H R I h;refine Call_ (pF I hg hm boot_range (ae0 (dS (ha pos c s Z H _ I h) λus u ⟨vs,v,f,g,d⟩=>?_) (by rw[hs,hs2]) (by rw[hs2];rfl)));obtain⟨i,j,e,⟨d,l,n,o⟩,q⟩:=d;subst e;cases g with
 |cons r rr =>
  cases rr with
  |cons r' rr =>
   cases rr;obtain⟨t,rfl⟩:=r;obtain⟨w,rfl⟩:=r';exact call_range_2 (Hs f d l n o q)
end
end L2
namespace L2
open PySem PySem.Spec PyProof.Rows
def rNe_i{x:V}{y:V}:rNe x y H Q↔Yo x y=true/\Q (.bl (!decide (x=y))) H:=by constructor <;> intro h <;> obtain⟨a,b⟩:=h <;> exact⟨a,b⟩
end L2
namespace L2
open PySem PySem.Spec PyProof.Rows
section
variable {X:Cx}{a b c:Expr}{ta tb tc:TE}
def au2:mL X (compareOp .LtE) (Ra λi j=>.bl (decide (i<=j))):=UH λ_ _ _ _ _ _ _ q=>le_int q
def atd(r r':R2)(ta tb tc:TE):TE:=λZ H Q=>ta Z H λx b=>tb Z b λy c=>r x y c λz a=>∃k,z = .bl k /\
 (if k=true then tc Z a λd e=>r' y d e Q else Q (.bl false) a)
def aou(ho:mL X (compareOp op) r)(ho':mL X (compareOp op') r')(ha:PE X a ta)(hb:PE X b tb)(hc:PE X c tc)
  (hm:lastMarks [op,op'] [b,c]=false:=by with_unfolding_all rfl):PE X (.Compare a [op,op'] [b,c] pos) (atd r r' ta tb tc):=by
 intro f s Z H Q I h;refine Compare_chain (dS (ha f s Z H _ I h) λv n ⟨x,o,p,q,t⟩=>chain_link (dS (hb f n Z o _ p t) λu w ⟨y,A,B,g,C⟩ =>
  dS (ho f w Z A x y v u _ B q g C) λd D ⟨z,i,j,E,k,e,l⟩=>?_)) hm
 subst e;cases E;refine af4 ?_;cases k with
 |false=>exact ite_ff ⟨.bl false,i,j,rfl,l⟩
 |true=>exact ite_tt (chain_last (dS (hc f D Z i _ j l) λF G ⟨J,K,L,M,N⟩=>ho' f G Z K y J u F Q L g M N))
def ZW:gS X (.type "str") (λxs H Q=>∃i,xs=[.int i]/\i.natAbs.log2<1920/\Q (.str (toString i)) H):=by intro a s Z H xs us Q I r h;obtain⟨i,rfl,b,q⟩:=h;obtain⟨u,rfl,t,rfl⟩:=vals1 r;exact PySem.P.str_of_int b ⟨.str _,H,I.tok _,⟨_,rfl⟩,q⟩
end
end L2
namespace L2
open PySem PySem.Spec PyProof.Rows
section
variable {X:Cx}{E:Value->Shared->Prop}{Q:Value->Shared->Prop}{c:Value}{b:Bool}
inductive adq(K:W.Frag)(H:Hp):V->Value->Prop where
 |dj:adq K H .dj (.type "NoneType")
 |bl (x:Bool):adq K H (.bl x) (.type "bool")
 |int (i:Int):adq K H (.int i) (.type "int")
 |str (x:Str):adq K H (.str x) (.type "str")
 |flt (x:UInt64):adq K H (.flt x) (.type "float")
 |lst {a:Addr} {xs:q7} (e:H a=r6 xs):adq K H (.ref a) (.type "list")
 |mC {a:Addr} {o:Obj} {xs:q7} (e:H a=some (.mC o (.lst xs))):adq K H (.ref a) (.type "list")
 |tup {a:Addr} {xs:q7} (e:H a=t0 xs):adq K H (.ref a) (.type "tuple")
 |dK {a:Addr} {kvs:List (Key×V)} (e:H a=some (.dK kvs)):adq K H (.ref a) (.type "dict")
 |dT {a:Addr} {kvs:List (List Key×V)} (e:H a=some (.dT kvs)):adq K H (.ref a) (.type "dict")
 |ins {a C dx:Addr} {fs:List (Str×V)} (e:H a=s0 C dx fs) (cl:pH K C) (ha:W.findIn K (.ref C) "__class__" = some (some (.builtin "object.__class__")))
   (hn:W.specialIn K (.builtin "object.__class__") "__get__" = some (some (.builtin "getset_descriptor.__get__"))) (htk:W.takesIn K (.builtin "object.__class__")=some true)
   (hm:W.mroIn K C (.type "object")=some true):adq K H (.ref a) (.ref C)
def alc(I:Inv X am Z H s)(rx:RelV x u)(ty:adq X.K H x t)(e:W.kitOne X.K t c=some b)(h:∀tk,Q (.bool b) { s with toks:=tk }) :
  wpAny (model X.prog X.w) A (call (.builtin "isinstance") [u,c]) Q E s:=by
 cases ty with
 |dj=>cases (show u=Value.none from rx);exact W.kia_one W.kitx_none I.uG True.intro e (λz=>nomatch z) h
 |bl y=>cases (show u=Value.bool y from rx);exact W.kia_one W.kitx_bool I.uG True.intro e (λz=>nomatch z) h
 |int i=>obtain⟨t,q⟩:=(show ∃t,u=Value.int i t from rx);cases q;exact W.kia_one W.kitx_int I.uG True.intro e (λz=>nomatch z) h
 |str y=>obtain⟨t,q⟩:=(show ∃t,u=Value.str y t from rx);cases q;exact W.kia_one W.kitx_str I.uG True.intro e (λz=>nomatch z) h
 |flt y=>obtain⟨t,q⟩:=(show ∃t,u=Value.float y t from rx);cases q;exact W.kia_one W.kitx_float I.uG True.intro e (λz=>nomatch z) h
 | @lst a xs ea =>
  cases (show u=Value.ref a from rx);obtain⟨_,_,n,_,d⟩:=(show dz X.prog X.w H s.heap a (.lst xs) from I.ba a _ ea)
  exact W.kia_one W.kitx_list I.uG ⟨_,d,rfl⟩ e (λz=>nomatch z) h
 | @mC a ob xs ea =>
  cases (show u=Value.ref a from rx);obtain⟨_,_,_,n,_,d⟩:=(show dz X.prog X.w H s.heap a (.mC ob (.lst xs)) from I.ba a _ ea)
  exact W.kia_one W.kitx_list I.uG ⟨_,d,rfl⟩ e (λz=>nomatch z) h
 | @tup a xs ea =>
  cases (show u=Value.ref a from rx);obtain⟨_,_,_,p⟩:=(show dz X.prog X.w H s.heap a (.tup xs) from I.ba a _ ea)
  obtain⟨o,d,f,_⟩:=p;exact W.kia_one W.kitx_tuple I.uG ⟨o,d,f⟩ e (λz=>nomatch z) h
 | @dK a kvs ea =>
  cases (show u=Value.ref a from rx);obtain⟨_,_,vs,_,p⟩:=(show dz X.prog X.w H s.heap a (.dK kvs) from I.ba a _ ea)
  obtain⟨o,g,j,d,f,_⟩:=p;exact W.kia_one W.kitx_dict I.uG ⟨o,d,f.1⟩ e (λz=>nomatch z) h
 | @dT a kvs ea =>
  cases (show u=Value.ref a from rx);obtain⟨_,_,xs,_,o,g,j,d,f,_⟩:=(show dz X.prog X.w H s.heap a (.dT kvs) from I.ba a _ ea)
  exact W.kia_one W.kitx_dict I.uG ⟨o,d,f.1⟩ e (λz=>nomatch z) h
 | @ins a C dx fs ea cl ha hn htk hm =>
  cases (show u=Value.ref a from rx);obtain⟨l,O,_⟩:=wA I.ba ea;obtain⟨r,J,_⟩:=O.look;exact W.kia_one (W.kitx_own (cl.get _) cl.hd ha hn htk hm) I.uG J e (λz=>nomatch z) h
end
end L2
namespace L2
open PySem PySem.Spec PyProof.Rows
def bE.mono{K:W.Frag}(F:bE P w K mg ap CX j f fd ps sp)(h:j<=k) :
  bE P w K mg ap CX k f fd ps sp:=⟨F.len,λA a s H b us vs Q E hr=>F.run A a s H b us vs Q E (hr.mono h)⟩
end L2
namespace L2
open PySem PySem.Spec PyProof.Rows
section
variable {X:Cx}{CX:vR}{k:Nat}{f:Addr}{E:XK}{x m:Str}{p:Pos}{e o:Expr}{es:List Expr}{ta:TE}{t:TA}
def anl(M:Mk X.K C f)(F:bE X.prog X.w X.K X.mg X.ap CX k f fd ps sp)(hr:gI (k+1) X.A)(hg:Gl X x)(hm:X.mg x=some (.ref C))(hb:Binds X.K fd ps ds)(hd:Vals dvs ds)(hx:Passes CX X E)
  (hdb:autoParam ((x == ("__debug__" : Str))=false) cw._auto_1):PE X (.Call (.Name x p) [] [] pos) (Nr C sp dvs E qw):=by
 intro a s Z H Q I h;refine ai7 (n6 I hg hm ?_ hdb);exact an8 I.uG M.kp (G4 (us:=[]) M F hr hb hd hx I .nil h)
end
end L2
namespace L2
open PySem PySem.Spec PyProof.Rows
section
variable {X:Cx}{a b:Expr}{ta tb:TE}
def agg:gS X (.type "tuple") (λxs H Q=>∃p ys,xs=[.ref p]/\((aV X.K H p ys/\∀l,H l=none->Q (.ref l) (ag H l (.tup ys)))\/(bT X.K H p ys/\Q (.ref p) H))):=by
 intro a s Z H xs us Q I r h;obtain⟨p,ys,rfl,h⟩:=h;obtain⟨u,rfl,v⟩:=vals1 r;cases v;rcases h with ⟨f,q⟩|⟨f,q⟩
 .obtain⟨c,g,i,j⟩:=I.list f;have n:=g.length;refine call_tuple_list i.isList (λd x=>?_) (by simp only[T1] <;> lia);have t:Inv X a Z H { s with heap:=d }:=I.kept (t':=s.toks) x;have y:Inv X a Z (ag H d.objs.size (.tup ys)) { s with heap:=d.push { cls:=.type "tuple",data:=.seq c.toArray } } :=
   t.laid (t':=s.toks) (λb o e=>x0 _ e) (N0 _) (show dz X.prog X.w _ _ _ (.tup ys) from ⟨j,c,g,IsTup.new _ _⟩)
  exact⟨.ref d.objs.size,_,y,rfl,q _ (t.ba.fresh (N0 _))⟩
 .obtain⟨c,g,i,j⟩:=I.tuple f;exact call_tuple_same i ⟨.ref p,H,I,rfl,q⟩
end
end L2
namespace L2
open PySem PySem.Spec PyProof.Rows
section
variable {X:Cx}
def zk_i{x:V}{vs:q7}:zk x vs H Q↔∃a b,x = .str a/\vs=[.str b]/\Q (.bl (0+b.length<=a.length && Builtin.Str.subAt a b 0)) H:=⟨λh=>by obtain@⟨a,b,_,_,h0⟩:=h;exact⟨a,b,rfl,rfl,h0⟩,λh=>by obtain⟨a,b,rfl,rfl,h0⟩:=h;exact⟨h0⟩⟩
def akS:gS X (.builtin "isinstance") (λxs H Q=>∃x a t b,xs=[x,.ref a]/\adq X.K H x t/\W.kitOne X.K t (.ref a)=some b/\Q (.bl b) H):=by intro d s Z H xs us Q I r h;obtain⟨x,a,t,b,rfl,f,e,q⟩:=h;obtain⟨u,i,rfl,g,c⟩:=vals2 r;cases c;exact alc I g f e λj=>⟨.bl b,H,I.tok _,rfl,q⟩
end
end L2
namespace L2
open PySem PySem.Spec PyProof.Rows
def ahu(I:Inv X am Z H s)(g:om H a y o) :
  ∀b,Value.ref a = .ref b->∃ob,s.heap.get? b=some ob/\ob.dict=none:=λb q=>by
 cases q;rcases g with ⟨c,k,e,_,_⟩|⟨c,k,b,e,_,_,_⟩
 .obtain⟨_,_,vs,_,ob,_,_,d,f,_⟩:=pY I.ba e;exact⟨ob,d,f.2.1⟩
 .obtain⟨_,_,h,_,ob,_,_,d,f,_⟩:=tH I.ba e;exact⟨ob,d,f.2.1⟩
def agC:List (TE×TE)->St->Hp->(List (V×V)->Hp->Prop)->Prop
 | [],_,H,Q=>Q [] H
 | (tk,tv)::r,Z,H,Q=>tk Z H λx H1=>tv Z H1 λy H2=>agC r Z H2 λps H3=>Q ((x,y)::ps) H3
abbrev VV':List (V×V)->List (Value×Value)->Prop:=Paired λp q=>RelV p.1 q.1/\RelV p.2 q.2
def PPs(X:Cx)(pos:Pos)(keys:List (Option Expr))(values:List Expr)(trs:List (TE×TE)):Prop :=
 ∀(a:f7) (s:Shared) (Z:St) (H:Hp) (Q:List (V×V)->Hp->Prop),Inv X a Z H s->agC trs Z H Q ->
  wpAny (model X.prog X.w) X.A (evalPairs (pairTrees keys values X.env pos)) (λvs d=>∃b c,Inv X a Z c d/\VV' b vs/\Q b c) X.xe s
def aqL:PPs X pos [] [] []:=λa s Z H Q I h=>pairTrees_nil_walk ⟨[],H,I,.nil,h⟩
def aoM(hk:PE X k tk)(hv:PE X v tv)(hr:PPs X pos ks vs trs) :
  PPs X pos (some k::ks) (v::vs) ((tk,tv)::trs):=λa s Z H Q I h =>
 pairTrees_cons_walk (dS (hk a s Z H _ I h) λu c ⟨x,d,e,f,g⟩=>dS (hv a c Z d _ e g) λw i ⟨y,j,l,n,o⟩ =>
  dS (hr a i Z j _ l o) λz A ⟨p,q,r,b,t⟩=>⟨(x,y)::p,q,r,.cons ⟨f,n⟩ b,t⟩)
theorem afT:∀{kvs:List (Key×V)} {ws:List (Value×Value)},VV' (kvs.map λkv=>(kV kv.1,kv.2)) ws->∃rs,Carries (cJ P w) ws rs/\KV kvs rs
 | [],_,r=>by rw[List.map_nil] at r;cases r;exact⟨[],True.intro,.nil⟩
 |p::kvs,_,r=>by
  rw[ab5] at r;cases r with
  | @cons a b as bs h t =>
   obtain⟨rs,c,q⟩:=afT (P:=P) t;obtain⟨e,d⟩:=b;exact⟨(p.1,d)::rs,⟨qY h.1,rfl,c⟩,.cons ⟨rfl,h.2⟩ q⟩
def avL(trs:List (TE×TE)):TE:=λZ H Q=>∀p,H p=none->agC trs Z (ag H p (.dK [])) λd b=>b p=some (.dK [])/\∃a:List (Key×V),d=a.map (λc=>(kV c.1,c.2))/\a.length<=15/\Q (.ref p) (ag b p (.dK (m9 [] a)))
def apX(h:PPs X pos keys values trs)(hall:keys.all (·.isSome)=true)(hl:keys.length=values.length)(h0:keys≠[])
  (h15:keys.length<=15):PE X (.Dict keys values pos) (avL trs):=by
 intro b s Z H Q I q;have j:=I.ba.fresh (N0 s.heap.objs.size);refine wpAny_Dict_walk (knd:=cJ X.prog X.w) hall hl h0 h15 (dS (h b _ Z _ _ (I.laid (a:=s.heap.objs.size) (o:=.dK []) (h':=s.heap.push { cls:=.type "dict",data:=.dict #[] }) (t':=s.toks) (λ_ _ q=>x0 _ q) (N0 _) (KD s.heap I.big)) (q _ j)) λF G  n=>?_);obtain⟨J,K,i,g,e,d,p,L,r⟩:=n;subst p;obtain⟨t,c,u⟩:=afT (P:=X.prog) (w:=X.w) g;obtain⟨z,v,x,y,A⟩:=t7 i.ba e;cases y;refine⟨t,c,A,λh' f B=>⟨.ref s.heap.objs.size,_,?_,rfl,r⟩⟩;have C:(m9 [] d).length<=sizeLine:=by have D:=oH d [];rw[ac6] at D;rw[ad0];lia
 have E:∃q,h'.get? s.heap.objs.size=some q:=let ⟨q,_,_,hq,_⟩:=f;⟨q,hq⟩;exact xD i (by rw[e];exact True.intro) B E (wu C v (u.merge .nil) f)
structure M2(X:Cx)(o:Expr)(m:Str)(apos:Pos)(e f:Expr)(cpos:Pos):Prop where
 ap:attributeBase o m X.env (eval o X.env)=eval o X.env
 few:((backTo cpos (starEach [e,f] X.env)).all (λx=>!x.1) && (backToKw cpos (keywordEach [] X.env)).all (λx=>x.1.isSome)
  && decide (([e,f]:List Expr).length+([]:List Keyword).length+(if ([]:List Keyword).isEmpty then 0 else 1)<30))=true
 line:(apos.endLine == cpos.line)=true
 trees:backTo cpos (starEach [e,f] X.env)=[(false,eval e X.env),(false,eval f X.env)]
end L2
namespace L2
open PySem PySem.Spec PyProof.Rows
section
variable {X:Cx}{a:Addr}{y d:V}{u r:Value}{o:Option V}{E:Value->Shared->Prop}
def at0(hu:A.units+1<cLine)(I:Inv X am Z H s)(g:om H a y o)(ry:RelV y u)(rd:RelV d r)(h:∀w' s',Inv X am Z H s'->RelV (o.getD d) w'->Q w' s') :
  wpAny (model X.prog X.w) A (call (.builtin "dict.get") [.ref a,u,r]) Q E s:=by
 rcases g with ⟨i,k,e,j,l⟩|⟨i,k,b,e,j,p,l⟩
 .subst j;obtain⟨z,n,vs,c,f⟩:=pY I.ba e;refine PySem.call_meetsIn PySem.F.slot_dict_get f.typeIs PySem.F.entry_dict_get (PySem.F.args_dict_get_3 _ _ _) (meets_dict_get_default (cJ X.prog X.w) a (qY ry) n r) ⟨_,f.mapOf,h _ _ (I.tok _) ?_⟩;rw[l];exact(c.val k).getD rd
 .subst j;cases (show u=Value.ref b from ry);obtain⟨z,n,q,c,f⟩:=tH I.ba e;refine PySem.call_meetsIn PySem.F.slot_dict_get f.typeIs PySem.F.entry_dict_get (PySem.F.args_dict_get_3 _ _ _) (meetsH_dict_get_default (tupleKind (cJ X.prog X.w)) a b n r) ⟨ak9 hu,k,q,qG I.ba p,f,h _ _ (I.tok _) ?_⟩;rw[l];exact(c.val k).getD rd
end
end L2
namespace L2
open PySem PySem.Spec PyProof.Rows
def auJ(td ty tx:TE):TE:=λZ H Q=>td Z H λx b=>∃a,x = .ref a/\YU b a/\ty Z b λy d=>tx Z d λz c=>∃o,om c a y o/\Q (o.getD z) c
end L2
namespace L2
open PySem PySem.Spec PyProof.Rows
section
variable {X:Cx}{o e f:Expr}{td ty tx:TE}
def amc (hu:X.A.units+1<cLine) (ho:PE X o td) (he:PE X e ty) (hf:PE X f tx) (m:M2 X o "get" apos e f cpos):PE X (.Call (.Attribute o "get" apos) [e,f] [] cpos) (auJ td ty tx):=by
 intro b s Z H Q I h;refine wpAny_Call_method m.ap m.few m.line PySem.F.plainAttrs_dict PySem.F.slot_dict_get PySem.F.type_dict_get (dS (ho b s Z H _ I h) λu j  l=>?_);obtain⟨x,n,i,p,a,q,d,r⟩:=l;subst q;obtain rfl:u=Value.ref a:=p;obtain⟨t,v,_⟩:=EO i d;refine⟨t,v,?_⟩;rw[m.trees];refine ah9 rfl (aj0 (ai4 (dS (he b j Z n _ i r) λN w ⟨y,B,C,D,E⟩ =>
  ai4 (dS (hf b w Z B _ C E) λO P ⟨z,G,J,K,R,g,L⟩=>am0 ?_))))
 exact at0 hu J g D K λS T M c=>⟨_,G,M,c,L⟩
end
end L2
namespace L2
open PySem PySem.Spec PyProof.Rows
section
variable {X:Cx}
def akP{sc csc:Scope}{N:a9}{elt iter c:Expr}{x:Str}{px pos:Pos}{caps:List (Str×Nat)}{wi:TI}{te:TE}{tt:TT}(ck:oN sc csc N x caps)(hi:PI X (.Name x px) iter wi)
  (ht:∀C s2 H2 fp,PT (fJ X (caps.map (·.1)++[x]) csc C s2 H2 fp) c tt) (he:∀C s2 H2 fp,PE (fJ X (caps.map (·.1)++[x]) csc C s2 H2 fp) elt te) (hc:autoParam (X.aw=true) cw._auto_1) (hsc:autoParam (X.env.scope=sc) cw._auto_1) (hXN:autoParam (X.N=N) cw._auto_1) (hs:autoParam (∀x,foldedSetIterable iter X.env x=pure x) cw._auto_1) :
  PE X (.ListComp elt [⟨.Name x px,iter,[c],0⟩] csc pos) (rR caps wi tt te):=FN ck hi (λC s H p=>Mw (ht C s H p)) he hc hsc hXN hs
end
end L2
namespace L2
open PySem PySem.Spec PyProof.Rows
def aii(Pv:Nat->St->Hp->Prop)(h0:Pv 0 Z H)
  (hs:∀i c Z H,z.l[i]?=some c->Pv i Z H->g (.str ⟨#[c]⟩) Z H λZ2 H2=>tb { D with nx:=Pv (i+1),ct:=Pv (i+1),bk:=D.nx } Z2 H2) (hd:∀Z H,Pv z.length Z H->D.nx Z H):DJ (YN z) g tb D Z H:=by
 refine⟨λi m Z H=>m=z.length-i/\i<=z.length/\Pv i Z H,⟨z.length,by simp,Z9 _,h0⟩,?_⟩;rintro i m Z H ⟨rfl,h,p⟩;by_cases a:i<z.length
 .refine .inr ⟨a,Pv (i+1),λj b d=>⟨z.length-(i+1),by lia,rfl,a,d⟩,λx b y=>?_⟩;obtain⟨rfl,c,f,rfl⟩:=y;exact hs i c Z _ f p
 .have e:i=z.length:=by lia
  subst e;exact .inl ⟨N0 _,hd Z H p⟩
end L2
namespace L2
open PySem PySem.Spec PyProof.Rows
section
variable {X:Cx}{CX:vR}{k:Nat}{f:Addr}{x m:Str}{p:Pos}{e o:Expr}{es:List Expr}{ta:TE}{t:TA}
def auv(CX:vR)(X:Cx)(sp:Sp)(dvs:q7)(t:TA):TE:=λZ H Q=>t Z H λvs a=>Yu CX X sp Z (vs++dvs) a Q
def ank(F:bE X.prog X.w X.K X.mg X.ap CX k f fd ps sp)(hr:gI k X.A)(hg:Gl X x)(hm:X.mg x=some (.ref f))(hk:W.keepIn X.K (.ref f)=true)(hb:Binds X.K fd ps ds)(hd:Vals dvs ds)
  (ha:PA X (e::es) t) (hdb:autoParam ((x == ("__debug__" : Str))=false) cw._auto_1) (he:autoParam (starEach (e::es) X.env=(false,eval e X.env)::starEach es X.env) cw._auto_1) (hpl:autoParam ((backTo pos (starEach es X.env)).any (·.1)=false) cw._auto_1) :
  PE X (.Call (.Name x p) (e::es) [] pos) (auv CX X sp dvs t):=λa s Z H Q I h =>
 ai7 (n6 I hg hm (ao5 (h₀:=X.ap) I.ok.mod.uF hk (dS (ha pos a s Z H _ I h) λus c ⟨vs,d,b,r,q⟩=>⟨b.uG,yF F hr hb hd b r q⟩) he hpl) hdb)
end
end L2
namespace L2
open PySem PySem.Spec PyProof.Rows
section
variable {P:Program}{K:W.Frag}
def bE.aw(F:bE P w K mg ap dJ k f fd ps sp):bE P w K mg ap CX k f fd ps sp :=
 ⟨F.len,λA a s H b us vs Q E hr c d r h=>PySem.codeAny_mono (F.run A a s H b us vs Q E hr c d r h) λy e hq=>by
  match y,hq with
  |.ok (.ret _),hq=>exact hq⟩
end
end L2
namespace L2
open PySem PySem.Spec PyProof.Rows PySem.W
section
variable {E:Value->Shared->Prop}{K:Frag}{x:Addr}{ox:Obj}{od:Option Obj}
def alj(G:qL K C)(X:K.In s.heap)(I:InstAt s.heap x ox C od)(hf:findObj K C od name=some (.value v))(hh:handedIn v=true)(h:Q v { s with toks:=s.toks+1 }) :
  wpAny (model prog w) A (getAttr (.ref x) name ex) Q E s:=by
 have a:∀M,Looks M s.heap _ _:=λM=>looks_find (M:=M) X I hf;obtain⟨c,g,d,e,f⟩:=s;refine y0 (wpAny_mkText (SK (s:=⟨c,g,d,e+1,f⟩) G X I ?_));unfold Builtin.«object.__getattribute__»;refine y0 (X2 (y0 (X2 (y0 (((λM=>I.type (M:=M)) _).at (y0 ((a _).at ?_)))))));refine X2 ?_;show wpAny _ _ (handedOut v) _ _ _;rw[handedOut_of hh];exact X2 h
end
end L2
namespace L2
open PySem PySem.Spec PyProof.Rows PySem.W
section
variable {E:Value->Shared->Prop}{g:Array GenState}{d:Drawn}{t:Nat}{os:OsState}{K:Frag}{fI:Addr}{oI:Obj}{Nn:Addr}{rest:c8}
def agF  (X:K.In h) (x:ExcAt h C bm Nn mN) (hi:findIn K (.ref C) "__init__" = some (some (.ref fI))) (hf:h.get? fI=some oI) (hfc:oI.cls = .type "function") (sz:rest.length<=sizeLine)
  (hq:∀h2 e,Heap.MadeExcOf h h2 e (.ref C) rest->wpAny (model prog w) A (call (.ref fI) (.ref e::rest)) (λr s2=>r = .none/\Q (.done (.ret (.ref e))) s2) E ⟨h2,g,d,t,os⟩) :
  wpAny (model prog w) A (Builtin.«type.__call__» ⟨.ref C::rest,[]⟩) Q E ⟨h,g,d,t,os⟩:=by
 obtain⟨p,s,u,v,y,D,F,G,H,I,J,M,N,O,c⟩:=x.ob;have B:=PySem.F.excBase_ValueError;repeat (first | with_reducible refine PySem.wpAny_loadPart_at c ?_ | with_reducible refine wpAny_madeBy_exc c ?_ | wp_step)
 refine codeAny_call_builtin_code (Code.quiet_builtin _ B.quiet) (wpAny_check_new_subU B (by decide) x.tail c (codeAny_exc_new_subU B (by decide) B x.tail c ?_ sz));show wpAny _ _ _ _ _ _;generalize e2:(h.push { cls:=.type "tuple",data:=.seq rest.toArray }).push { cls:=.ref C,data:=.fields #[.ref h.objs.size,.none,.none,.none,.bool false,.none] }=h2;have k:∀b o,h.get? b=some o->h2.get? b=some o:=λb o q=>by rw[<- e2];exact x0 _ (x0 _ q)
 have j:h2.get? (h.objs.size+1)=some { cls:=.ref C,data:=.fields #[.ref h.objs.size,.none,.none,.none,.bool false,.none] }:=by rw[<- e2];heap_get
 have f:(Value.ref C::bm).contains (.ref C)=true:=by simp
 unfold isInstance;repeat (first | with_reducible refine PySem.wpAny_loadPart_at j ?_ | (with_reducible refine PySem.wpAny_isSubtype_exc (k _ _ c) ?_;rw[f]) | wp_step)
 refine (looks_findIn (λa o q=>k _ _ (X a o q)) hi).at ?_;refine ae9 (y0 ?_);unfold bindSpecial;refine y0 (wpAny_typeOf (T:="function") ⟨_,k _ _ hf,hfc⟩ ?_);rw[w4 (by decide)];refine X2 (y0 (dS (hq h2 (h.objs.size+1) ⟨k,am7 (Nat.le_succ _),h.objs.size,j,am7 (N0 _),?_⟩) λr s2 z=>?_))
 .rw[<- e2];exact x0 _ (Heap.get?_push_at rfl rfl)
 .obtain⟨l,n⟩:=z;subst l
  wp_walk
  exact n
def anN  (X:K.In h) (x:ExcAt h C bm Nn mN) (hi:findIn K (.ref C) "__init__" = some (some (.ref fI))) (hf:h.get? fI=some oI) (hfc:oI.cls = .type "function") (sz:rest.length<=sizeLine)
  (hq:∀h2 e,Heap.MadeExcOf h h2 e (.ref C) rest->wpAny (model prog w) (A.under (.builtin "type.__call__" ⟨.ref C::rest,[]⟩)) (call (.ref fI) (.ref e::rest)) (λr s2=>r = .none/\Q (.ref e) s2) E ⟨h2,g,d,t,os⟩) :
  wpAny (model prog w) A (call (.ref C) rest) Q E ⟨h,g,d,t,os⟩:=by
 obtain⟨b,c,f,i,j,l,n,o,p,q,s,u,v,y,a⟩:=id x.ob;have z:=tc_lookup;have B:=tc_bind (.ref C);have D:(⟨h,g,d,t,os⟩:Shared).TypeIs (.ref C) "type" := ⟨_,a,rfl⟩
 refine PySem.wpAny_call (codeAny_of_tree (show wpAny _ _ (callAny (.ref C) _) _ _ _ from ?_));repeat (any_goals (first | assumption | with_reducible refine PySem.wpAny_loadPart_at a ?_ | wp_step))
 exact⟨rfl,codeAny_call_builtin_at (Code.quiet_builtin _ (by lk)) entry_typeCall (wpAny_check_type_call_sub a (agF X x hi hf hfc sz hq))⟩
def alq(hh:A.handled=none)
  (h:wpAny M A x (λv s1=>∃e C bm Nn mN oe vs,v = .ref e/\ExcAt s1.heap C bm Nn mN/\s1.heap.get? e=some oe/\oe.cls = .ref C/\oe.data = .fields vs/\vs[1]?=some .none/\E (.ref e) s1) E s):wpAny M A (raiseStmt env (some x) none) Q E s:=by
 unfold raiseStmt;refine y0 (dS h λv s1  o=>?_);obtain⟨e,C,bm,Nn,mN,oe,vs,ev,d,f,a,gd,p,q⟩:=o;subst ev;obtain⟨z,B,D,F,G,H,I,J,K,L,N,O,P,S,g⟩:=d.ob;have t:(Value.ref C::bm).contains (.type "BaseException")=true:=by rw[List.contains_cons,d.tail.hasType (b:=true) (by decide),Bool.or_true]
 obtain⟨T,U,u,w⟩:=oe;dsimp only at a gd;subst a gd;obtain⟨i,j,l,n,c⟩:=s1;repeat (first | with_reducible refine PySem.wpAny_loadPart_at f ?_ | with_reducible refine PySem.wpAny_loadPart_at g ?_ | (with_reducible refine PySem.wpAny_isSubtype_exc g ?_;rw[t]) | with_reducible refine (λr=>ao8 f rfl p r) ?_ | wp_step)
 exact wpAny_raiseNew_none hh q
end
end L2
namespace L2
open PySem PySem.Spec PyProof.Rows PySem.W
def aht   (self:Value) (t:OwnTail h VE bm):refuseLoop self "__setattr__" bm=pure ():=by
 induction t with
 |base=>exact PySem.F.store_ValueError.passes self
 |own _ _ _ _ ih=>rw[refuseLoop_ref];exact ih
end L2
namespace L2
open PySem PySem.Spec PyProof.Rows PySem.W
section
variable {E:Value->Shared->Prop}{K:Frag}{e:Addr}{oe:Obj}{od:Option Obj}{Nn:Addr}{v:Value}{vs:n7}
def akr   (X:K.In s.heap) (I:InstAt s.heap e oe C od) (x:ExcAt s.heap C bm Nn mN) (hn:findIn K (.ref C) name=some none) (hm:mroIn K C (.type "object")=some true)
  (h:wpAny (model prog w) A.in1 (Builtin.ObjectAttr.storeInOwnDict (.ref e) (.ref C) (.str name tk) name v false) (λfin s2=>match fin with | .done f=>R (.ok f) s2 | .again c=>c.quiet=true/\codeAny (model prog w) A c R s2) (λev s2=>R (.error ev) s2) s) :
  codeAny (model prog w) A (.call (.builtin "object.__setattr__") ⟨[.ref e,.str name tk,v],[]⟩) R s:=by
 have a:=PySem.F.store_object;obtain⟨j,l,n,o,p,q,r,u,y,z,B,D,E,G,i⟩:=x.ob;refine PySem.codeAny_call_builtin a.slot.plain a.entry (@check_slot (model prog w) _ _ s "object.__setattr__" "object" "__setattr__" (.ref e) [.str name tk,v] [] _ a.kind a.split (I.type.andThen (looks_mroIn X hm)) (a.args (.ref e) (.str name tk) v) ?_);have b:refuseLoop (.ref e) "__setattr__" (.ref C::bm)=pure ():=by rw[refuseLoop_ref];exact aht _ x.tail
 rw[osa_eq,refuse_eq];refine y0 (y0 (I.type.here (y0 ?_)));obtain⟨H,g,J,t,L⟩:=s;refine wpAny_mroOf_exc i ?_;rw[b];exact X2 (y0 (I.type.here (y0 ((looks_findIn X hn).here (y0 (X2 h))))))
def akW      (X:K.In s.heap) (I:InstAt s.heap e oe C od) (x:ExcAt s.heap C bm Nn mN) (hs:findIn K (.ref C) "__setattr__" = some (some (.builtin "object.__setattr__")))
  (hn:findIn K (.ref C) name=some none) (hm:mroIn K C (.type "object")=some true) (hc:clsIn K C=some cd) (hh:cd.hasDict=true) (hd:oe.dict=some dx) (hda:oe.data = .fields vs) (hns:s.heap.Ns1 dx mA) (hw:Within mA ns) (sz:ns.length<=sizeLine)
  (h:∀h2 tk,h2.Ns1 dx (λy=>if y=name then some v else mA y)->Heap.SameBut dx s.heap h2->Q () { s with heap:=h2,toks:=tk }):wpAny (model prog w) A (setAttr (.ref e) name v) Q E s:=by
 obtain⟨g,i,j,l⟩:=oe;have n:g = .ref C:=I.cls;dsimp only at hd hda;subst n hd hda;refine set_plain X I hs (akr (s:={ s with toks:=s.toks+1 }) X I x hn hm ?_);refine y0 (X2 (y0 (y0 (wpAny_loadPart I.at_ (y0 (Looks.here (s:={ s with toks:=s.toks+1 }) (looks_clsIn X hc) ?_))))));rw[hh];refine X2 (a:=some dx) (y0 (X2 (y0 ?_)));refine wpAny_nsSet1 (s:={ s with toks:=s.toks+1 }) hns λh2 f o=>?_;obtain⟨r,p,q,b,c,d⟩:=f.count (Within.cons name v hw);exact y0 (wpAny_lookBehind b (by rw[c];exact pastItsLine_dict (ac2 d (by rw[P3];lia))) (X2 (h _ _ f o)))
def aiY   (X:K.In s.heap) (I:InstAt s.heap e oe C od) (x:ExcAt s.heap C bm Nn mN) (hs:findIn K (.ref C) "__setattr__" = some (some (.builtin "object.__setattr__")))
  (hn:findIn K (.ref C) name=some none) (hm:mroIn K C (.type "object")=some true) (hc:clsIn K C=some cd) (hh:cd.hasDict=true) (hd:oe.dict=none) (hda:oe.data = .fields vs)
  (h:∀h2 tk,h2.get? e=some { oe with dict:=some s.heap.objs.size }->h2.Ns1 s.heap.objs.size (λy=>if y=name then some v else none)->(∀b o,b≠e->s.heap.get? b=some o->h2.get? b=some o)->Q () { s with heap:=h2,toks:=tk }):wpAny (model prog w) A (setAttr (.ref e) name v) Q E s:=by
 obtain⟨n,p,r,d⟩:=oe;have t:n = .ref C:=I.cls;dsimp only at hd hda;subst t hd hda;refine set_plain X I hs (akr (s:={ s with toks:=s.toks+1 }) X I x hn hm ?_);refine y0 (X2 (y0 (y0 (wpAny_loadPart I.at_ (y0 (Looks.here (s:={ s with toks:=s.toks+1 }) (looks_clsIn X hc) ?_))))));rw[hh];have a:=x0 { cls:=.type "dict",data:=.dict #[] } I.at_;have c:e≠s.heap.objs.size:=Z6 (P2 I.at_);refine y0 (wpAny_alloc' (y0 (wpAny_update' a (X2 ?_))));generalize e2:(Heap.update (Heap.push s.heap { cls:=.type "dict",data:=.dict #[] }) e λo=>{ cls:=o.cls,dict:=some s.heap.objs.size,data:=o.data,slots:=o.slots })=h1;have u:h1.get? s.heap.objs.size=some { cls:=.type "dict",data:=.dict #[] }:=by rw[<- e2];exact(Heap.get?_update_ne _ _ _ _ c.symm).trans (Heap.get?_push_at rfl rfl)
 have F:h1.get? e=some ⟨.ref C,some s.heap.objs.size,.fields vs,d⟩:=by rw[<- e2];exact af0 _ a rfl
 refine y0 (X2 (y0 (wpAny_nsSet1 (Heap.Ns1.of_empty ⟨_,#[],_,u,rfl,λz D=>absurd D (by simp),λ_=>rfl⟩) λh2 j l=>?_)));obtain⟨L,G,H,f,g,i⟩:=j.count (Within.cons name v Within.nil);refine y0 (wpAny_lookBehind f (by rw[g];exact pastItsLine_dict (ac2 i (by rw[P3,ac6,ad0];lia))) (X2 ?_));exact h h2 _ ((l.2 e c).trans F) j λb o J q=>(l.2 b (Z6 (P2 q))).trans (by rw[<- e2];exact(Heap.get?_update_ne _ _ _ _ J).trans (x0 _ q))
end
end L2
namespace L2
open PySem PySem.Spec PyProof.Rows PySem.W
noncomputable def aaG(e C:Addr)(d:Option Addr):HO:=.ext λh=>wj h e C d
def agW(u:wj h e C d):dz P w H h e (aaG e C d):=by obtain⟨c,vs,f,g2⟩:=id u;exact⟨u,⟨c,f⟩,λa b ⟨o,v,g,i⟩ k=>⟨o,v,k o g,i⟩⟩
end L2
namespace L2
open PySem PySem.Spec PyProof.Rows PySem.W
section
variable {e:Addr}{d:Option Addr}{fs:List (Str×V)}{f:Str}{E:Value->Shared->Prop}
def ale(r:∀g,kC (fs.lookup g) (mA g)):Within mA (fs.map (·.1)):=by
 intro g a;cases q:fs.lookup g with
 |none =>
  have:=kC.none_of (o:=mA g) (by rw[<- q];exact r g);exact absurd this a
 |some y=>exact List.mem_map_of_mem (ag8 q)
def aqB(I:Inv X am Z H s)(he:H e=some o)(ho:o=jQ e C (some dx)\/o=aaG e C (some dx))(hx:H dx=some (.xd fs))(c:Tf X.K C)(n:b8 X.K C f)(l:fs.lookup f=some y)
  (h:∀u s',Inv X am Z H s'->RelV y u->Q u s'):wpAny (model X.prog X.w) A (getAttr (.ref e) f b) Q E s:=by
 obtain⟨t,x,r⟩:=UI I.ba hx;obtain⟨u,B,q⟩:=kC.some_of (v:=y) (o:=t f) (by rw[<- l];exact r f);obtain⟨D,p,look⟩:=vJ x;have F:∃a vs,s.heap.get? e=some a/\a.cls = .ref C/\a.dict=some dx/\a.data = .fields vs:=by
  rcases ho with z|z <;> subst z
  .obtain⟨a,vs,d,g,i,j,_⟩:=(I.ba e _ he).1;exact⟨a,vs,d,g,i,j⟩
  .obtain⟨a,vs,d,g,i,j,_⟩:=(I.ba e _ he).1;exact⟨a,vs,d,g,i,j⟩
 obtain⟨a,vs,d,g,i,j⟩:=F;have J:InstAt s.heap e a C (some D):=⟨d,g,by unfold notCls;rw[j],by rw[i];exact p⟩
 exact alj c.ge I.uG J (findObj_own c.hd n rfl (by rw[look,B])) (D9 q) (h u _ (I.tok _) q)
def aq3(I:Inv X am Z H s)(he:H e=some (aaG e C (some dx)))(hx:H dx=some (.xd fs))(c:Tf X.K C)(n:b8 X.K C f)(hl:fs.length<1000)(ry:RelV y u)
  (h:∀s',Inv X am Z (ag H dx (.xd ((f,y)::fs))) s'->Q () s'):wpAny (model X.prog X.w) A (setAttr (.ref e) f u) Q E s:=by
 obtain⟨W,x,r⟩:=UI I.ba hx;obtain⟨G,j,look⟩:=vJ x;obtain⟨L,vs,M,N,B,D,Y⟩:=(I.ba e _ he).1;have J:InstAt s.heap e L C (some G):=⟨M,N,by unfold notCls;rw[D],by rw[B];exact j⟩
 obtain⟨bm,Nn,mN,O⟩:=MP I.uG c.at_;obtain⟨cd,P,R⟩:=any_some c.hd;refine akW I.uG J O c.sa n c.ob P R B D x (ale r) (by rw[d5,ad0];lia) λh2 tk F i=>h _ ?_;have S:e≠dx:=λz=>by rw[z,hx] at he;cases he
 refine I.un ⟨λb o q a _ _=>(i.2 b λz=>?_).trans q,λb o q a _ _=>⟨o.slots,(i.2 b λz=>?_).trans q⟩,λb o q a _=>?_,λb o q _=>?_,λb T q=>?_,λb o v q=>?_,λb ps q=>?_⟩ λb o q=>?_
 .rw[z,hx] at a;cases a
 .rw[z,hx] at a;cases a
 .rw[aj (λz=>by rw[z,hx] at a;cases a)];exact a
 .by_cases z:b=dx
  .obtain⟨U,_,_,g2,_⟩:=F;exact⟨U,z ▸ g2⟩
  .exact⟨o,(i.2 b z).trans q⟩
 .rw[aj (λz=>by rw[z,hx] at q;cases q)];exact q
 .rw[aj (λz=>by rw[z,hx] at q;cases q)];exact q
 .exact⟨#[],by rw[aj (λz=>by rw[z,hx] at q;cases q),q];simp⟩
 .by_cases z:b=dx
  .subst z;rw[aa] at q;cases q;refine⟨_,F,λg=>?_⟩;rw[ae3];by_cases w:g=f
   .subst w;simp only[beq_self_eq_true,if_true];exact ry
   .rw[C5 w,show (g == f)=false from beq_eq_false_iff_ne.mpr w];exact r g
  .rw[aj z] at q;refine(I.ba b o q).stay (λl v t d=>(i.2 l λy=>?_).trans d) (λl d=>?_) λl T d=>?_
   .rcases t with p|p
    .exact z (p.symm.trans y)
    .rw[y,hx] at p;cases p
   .rw[aj (λy=>by rw[y,hx] at d;cases d)];exact d
   .rw[aj (λy=>by rw[y,hx] at d;cases d)];exact d
def anA(I:Inv X am Z H s)(he:H e=some (aaG e C none))(c:Tf X.K C)(n:b8 X.K C f)(ry:RelV y u)
  (h:∀dx s',H dx=none->Inv X am Z (ag (ag H dx (.xd [(f,y)])) e (aaG e C (some dx))) s'->Q () s'):wpAny (model X.prog X.w) A (setAttr (.ref e) f u) Q E s:=by
 obtain⟨M,vs,N,F,G,r,O⟩:=(I.ba e _ he).1;have J:InstAt s.heap e M C none:=⟨N,F,by unfold notCls;rw[r],by rw[G];trivial⟩
 obtain⟨Y,Nn,mN,P⟩:=MP I.uG c.at_;obtain⟨cd,R,S⟩:=any_some c.hd;have l:H s.heap.objs.size=none:=I.ba.fresh (N0 _);refine aiY I.uG J P c.sa n c.ob R S G r λh2 tk L T k=>h s.heap.objs.size _ l ?_;have U:s.heap.objs.size≠e:=λz=>by rw[z,he] at l;cases l
 have d:∀{b o},H b=some o->b≠s.heap.objs.size:=λq z=>by rw[z,l] at q;cases q
 have j:∀{b},H b=none->b≠e:=λq z=>by rw[z,he] at q;cases q
 refine I.un ⟨λb o q a _ _=>k b o (j a) q,λb o q a _ _=>⟨o.slots,k b o (j a) q⟩,λb o q a _=>?_,λb o q _=>?_,λb W q=>?_,λb o v q=>?_,λb ps q=>?_⟩ λb o q=>?_
 .rw[aj (j a),aj ((λq=>Z6 (P2 q)) q)];exact a
 .by_cases z:b=e
  .exact⟨_,z ▸ L⟩
  .exact⟨o,k b o z q⟩
 .rw[aj (λz=>by rw[z,he] at q;cases q),aj (d q)];exact q
 .rw[aj (λz=>by rw[z,he] at q;cases q),aj (d q)];exact q
 .exact⟨#[],by rw[aj (λz=>by rw[z,he] at q;cases q),aj (d q),q];simp⟩
 .by_cases z:b=e
  .subst z;rw[aa] at q;cases q;exact agW ⟨_,vs,L,F,rfl,r,O⟩
  .rw[aj z] at q;by_cases x:b=s.heap.objs.size
   .rw[x,aa] at q;cases q;rw[x];refine⟨_,T,λg=>?_⟩;rw[ae3];by_cases w:g=f
    .subst w;simp only[beq_self_eq_true,if_true];exact ry
    .rw[C5 w,show (g == f)=false from beq_eq_false_iff_ne.mpr w];trivial
   .rw[aj x] at q;refine(I.ba b o q).stay (λB v D i=>k B v (λy=>?_) i) (λB i=>?_) λB W i=>?_
    .rcases D with p|p
     .exact z (p.symm.trans y)
     .rw[y,he] at p;cases p
    .rw[aj (λy=>by rw[y,he] at i;cases i),aj (d i)];exact i
    .rw[aj (λy=>by rw[y,he] at i;cases i),aj (d i)];exact i
end
end L2
namespace L2
open PySem PySem.Spec PyProof.Rows PySem.W
section
variable {o ex:Expr}{f:Str}{ta tv:TE}
def avM(K:Frag)(ta:TE)(f:Str):TE:=λZ H Q=>ta Z H λx a=>∃e C b fs y c,x = .ref e/\a e=some c/\(c=jQ e C (some b)\/c=aaG e C (some b))/\a b=some (.xd fs)/\Tf K C/\b8 K C f/\fs.lookup f=some y/\Q y a
def ajZ(he:PE X ex ta)(hb:attributeBase ex f X.env (eval ex X.env)=eval ex X.env):PE X (.Attribute ex f pos) (avM X.K ta f):=by intro a s Z H Q I h;refine Lx hb (dS (he a s Z H _ I h) λu w  b=>?_);obtain⟨x,d,g,i,e,C,z,fs,y,A,j,o,p,r,c,n,l,q⟩:=b;subst j;obtain rfl:u=Value.ref e:=i;exact aqB g o p r c n l λB D t v=>⟨y,d,t,v,q⟩
def auT(K:Frag)(ta tv:TE)(f:Str):TS:=λD Z H=>tv Z H λy c=>ta Z c λx b=>∃e C,x = .ref e/\Tf K C/\b8 K C f /\
 ((b e=some (aaG e C none)/\∀a,b a=none->D.nx Z (ag (ag b a (.xd [(f,y)])) e (aaG e C (some a)))) \/
  ∃a fs,b e=some (aaG e C (some a))/\b a=some (.xd fs)/\fs.length<1000/\D.nx Z (ag b a (.xd ((f,y)::fs))))
def afc(ha:PE X o ta)(hv:PE X value tv)(hs:swapsWith value (some (.Attribute o f pos')) pos.line X.env=pure false):PS X (.Assign [.Attribute o f pos'] value pos) (auT X.K ta tv f):=by
 intro a s Z H D I h;refine plainObj_wpAny_Assign_Attribute (dS (hv a s Z H _ I h) λu r ⟨y,t,v,i,q⟩=>dS (ha a r Z t _ v q) λw L z=>?_) hs;obtain⟨x,M,j,A,e,C,B,c,n,E⟩:=z;subst B;obtain rfl:w=Value.ref e:=A;rcases E with ⟨b,d⟩|⟨p,fs,b,F,l,d⟩
 .exact anA j b c n i λp G J g=>⟨Z,_,g,d p J⟩
 .exact aq3 j b F c n l i λG g=>⟨Z,_,g,d⟩
def ajk:gS X (.builtin "isinstance") (λxs H Q=>∃e C d cv b,xs=[.ref e,.ty cv]/\H e=some (jQ e C d)/\(∀dx,d=some dx->∃fs,H dx=some (.xd fs))/\Dq X.K C/\kitOne X.K (.ref C) (.type cv)=some b/\Q (.bl b) H):=by intro f s Z H xs us Q I r h;obtain⟨e,C,d,a,b,rfl,g,i,k,j,q⟩:=h;obtain⟨u,n,rfl,l,c⟩:=vals2 r;cases c;cases l;exact LK I g i k j λo=>⟨.bl b,H,I.tok _,rfl,q⟩
end
end L2
namespace L2
open PySem PySem.Spec PyProof.Rows PySem.W
def Inv.awd(I:Inv X am Z H s)(he:H e=some (aaG e C d)):Inv X am Z (ag H e (jQ e C d)) s:=by
 have ne:∀{b},H b=none->b≠e:=λq z=>by rw[z,he] at q;cases q
 refine I.un (h':=s.heap) (t':=s.toks) ⟨λb o q _ _ _=>q,λb o q _ _ _=>⟨o.slots,q⟩,λb o q a _=>by rw[aj (ne a)];exact a,λb o q _=>⟨o,q⟩,λb f q=>?_,λb o v q=>?_,λb p q=>?_⟩ λb o q=>?_
 .rw[aj (λz=>by rw[z,he] at q;cases q)];exact q
 .rw[aj (λz=>by rw[z,he] at q;cases q)];exact q
 .exact⟨#[],by rw[aj (λz=>by rw[z,he] at q;cases q),q];simp⟩
 .by_cases z:b=e
  .subst z;rw[aa] at q;cases q;obtain⟨t,vs,g,h,i,j,l⟩:=(I.ba b _ he).1;exact CD g h i j (ag4.mp l).1
  .rw[aj z] at q;refine(I.ba b o q).stay (λ_ _ _ r=>r) (λn c=>?_) λn f c=>?_
   .rw[aj (λy=>by rw[y,he] at c;cases c)];exact c
   .rw[aj (λy=>by rw[y,he] at c;cases c)];exact c
end L2
namespace L2
open PySem PySem.Spec PyProof.Rows PySem.W
section
variable {P:Program}{K:W.Frag}{f:Addr}{cd:Value}{E:XK}
def aek           (c:Tf K C) (hi:findIn K (.ref C) "__init__" = some (some (.ref fI))) (hfn:isFn K (.ref fI)=true) (hkp:keepIn K (.ref C)=true)
  (F:bE P w K mg ap dJ k fI fd ps sp) (hb:Binds K fd ps []) (hr:gI (k+1) (kW (qX P w) P w K mg ap N qual scope f cd A outer s H E).A) (hg:Gl (kW (qX P w) P w K mg ap N qual scope f cd A outer s H E) x) (hm:mg x=some (.ref C))
  (ha:PA (kW (qX P w) P w K mg ap N qual scope f cd A outer s H E) (e1::es) ta) (hd:autoParam ((x == ("__debug__" : Str))=false) cw._auto_1)
  (he:autoParam (starEach (e1::es) (kW (qX P w) P w K mg ap N qual scope f cd A outer s H E).env=(false,eval e1 (kW (qX P w) P w K mg ap N qual scope f cd A outer s H E).env)::starEach es (kW (qX P w) P w K mg ap N qual scope f cd A outer s H E).env) cw._auto_1)
  (hpl:autoParam ((backTo cpos (starEach es (kW (qX P w) P w K mg ap N qual scope f cd A outer s H E).env)).any (·.1)=false) cw._auto_1) :
  PS (kW (qX P w) P w K mg ap N qual scope f cd A outer s H E) (.Raise (some (.Call (.Name x np) (e1::es) [] cpos)) none pos) (λ_ Z H1=>ta Z H1 λvs H2=>vs.length<=sizeLine/\∀e,H2 e=none->sp (.ref e::vs) (ag H2 e (aaG e C none)) (λv H3=>v = .dj/\∃d,H3 e=some (aaG e C d)/\E (.ref C) (some e) (ag H3 e (jQ e C d))) E0):=by
 intro b s1 Z H1 D I h;rw[arm_exec_Raise];refine y0 (wpAny_standAt (alq (I.ok.hd rfl) (y0 (ad3 (ai7 (n6 I hg hm (ao5 (h₀:=ap) I.ok.mod.uF hkp (dS (ha cpos b s1 Z H1 _ I h) λus O ⟨vs,H3,a,Q,sz,kk⟩=>⟨a.uG,?_⟩) he hpl) hd)) (λv s4 h4=>y0 (wpAny_standAt (X2 h4))) λ_ _ z=>z))));obtain⟨bm,Nn,mN,xx⟩:=MP a.uG c.at_;have fo:∃i,O.heap.get? fI=some i/\i.cls = .type "function" := by obtain⟨i,l1,l2⟩:=D1.mp (beq_iff_eq.mp hfn);exact⟨i,a.uG _ _ l1,l2⟩
 obtain⟨i,p,q⟩:=fo;obtain⟨hp,g,dr,t,os⟩:=O;refine anN a.uG xx hi p q (show us.length<=sizeLine by rw[<- Q.length];exact sz) λh2 e j=>?_;obtain⟨t0,g1,_,_⟩:=j.there;have r:=a.W2 (h':=h2) (t':=t) (o:=aaG e C none) j.keeps j.new (agW ⟨_,_,g1,rfl,rfl,rfl,rfl⟩);have R:Vals (V.ref e::vs) (Value.ref e::us):=.cons rfl Q;have l:=kk e (a.ba.new j.new);have n:=hb _ (Value.ref e::us) r.uG (by rw[ad2];exact ((F.len _ _ _ _ l ▸ R.length).symm));rw[ad2] at n;refine PySem.wpAny_call (PySem.codeAny_mono (F.run _ (kW (qX P w) P w K mg ap N qual scope f cd A outer s H E).stack _ _ ⟨Value.ref e::us,[]⟩ (Value.ref e::us) (V.ref e::vs) _ E0 (hr.make C us []) (r.Uy.make C us []) n R l) λy s' hq=>?_);match y,hq with
 |.ok (.ret u),hq =>
  obtain⟨v,H5,B,G,z1,d5,S,z3⟩:=r.after hq;subst z1;obtain⟨J,L,M,x5⟩:=MP B.uG c.at_;refine⟨G,e,C,J,L,M,?_⟩;obtain⟨T,U,W,X,a3,Y,a5⟩:=(B.ba e _ S).1;refine⟨T,U,rfl,x5,W,X,Y,a5,SY (B.awd S) ⟨T,U,W,X,a3,Y,a5⟩ aa ?_ z3⟩;cases z:s.heap.get? e with
  |none=>rfl
  |some o =>
    obtain⟨u2,z4⟩:=a.ap.there e o z (by show e∉[];simp);rw[j.new] at z4;cases z4
end
end L2
namespace L2
open PySem PySem.Spec PyProof.Rows PySem.W
section
variable {e:Addr}{d:Option Addr}{E:Value->Shared->Prop}
def Inv.avX(I:Inv X am Z H s)(he:H e=some (aaG e C d))(k:∀b o,b≠e->s.heap.get? b=some o->h2.get? b=some o)(u:wj h2 e C d):Inv X am Z H { s with heap:=h2,toks:=t' }:=by
 have c:∀{b},H b=none->b≠e:=λq z=>by rw[z,he] at q;cases q
 refine I.un ⟨λb o q a _ _=>k b o (c a) q,λb o q a _ _=>⟨o.slots,k b o (c a) q⟩,λ_ _ _ a _=>a,λb o q _=>?_,λ_ _ q=>q,λ_ _ _ q=>q,λb l q=>⟨#[],by rw[q];simp⟩⟩ λb o q=>?_
 .by_cases z:b=e
  .obtain⟨h,vs,i,_⟩:=u;exact⟨h,z ▸ i⟩
  .exact⟨o,k b o z q⟩
 .by_cases z:b=e
  .subst z;rw[he] at q;cases q;exact agW u
  .refine(I.ba b o q).stay (λj v g f=>k j v (λy=>?_) f) (λ_ f=>f) λ_ _ f=>f;rcases g with p|p
   .exact z (p.symm.trans y)
   .rw[y,he] at p;cases p
def apc   (I:Inv X am Z H s) (he:H e=some (aaG e C d)) (c:Tf X.K C) (hz:rest.length<=sizeLine) (h:∀s',Inv X am Z H s'->Q .none s'):wpAny (model X.prog X.w) A (call (.builtin "ValueError.__init__") (.ref e::rest)) Q E s:=by
 obtain⟨J,L,M,l⟩:=MP I.uG c.at_;obtain⟨N,O,P,R,S,T,U,W,Y,b0,b1,b2,b3,b4,x⟩:=l.ob;obtain⟨oe,vs,n,g2,p,f,r⟩:=(I.ba e _ he).1;have B:=PySem.F.excBase_ValueError;have sz:1<vs.size:=(ag4.mp r).1;have y:=I;obtain⟨i,g,u,t,v⟩:=s;refine PySem.wpAny_call (PySem.codeAny_call_builtin B.init.plain B.initEntry (wpAny_check_init_subU B l.tail x n g2 ?_));unfold Builtin.«BaseException.__init__»;refine y0 (wpAny_newTuple (s:=⟨i,g,u,t,v⟩) ?_ hz);have j:(i.push { cls:=.type "tuple",data:=.seq rest.toArray }).get? e=some oe:=x0 _ n;have z:vs[0]?=some vs[0]:=Array.getElem?_eq_getElem (by lia);refine y0 (y0 (ao8 j f z (y0 (PySem.wpAny_setField j f (show 0<vs.size by lia) ?_))));have a:Inv X am Z H ⟨(i.push { cls:=.type "tuple",data:=.seq rest.toArray }).update e (Obj.mapFields (·.setIfInBounds 0 (.ref i.objs.size))),g,u,t,v⟩:=by refine y.avX (t':=t) he (λb o D q=>(Heap.get?_update_ne _ _ _ _ D).trans (x0 _ q)) ?_;obtain⟨oc,od,F,G⟩:=oe;dsimp only at g2 p f;subst g2 p f;exact⟨_,_,af0 _ j rfl,rfl,rfl,rfl,by rw[Array.getElem?_setIfInBounds_ne (by decide)];exact r⟩
 split
 .exact wpAny_letGo (X2 (h _ a))
 .exact X2 (X2 (h _ a))
end
end L2
namespace L2
open PySem PySem.Spec PyProof.Rows PySem.W
section
variable {T:Str}{tp:Pos}{e1:Expr}{es:List Expr}{t:TA}{D:Addr}
def apN  (hg:Gl X T) (hm:X.mg T=some (.ref D)) (hga:specialIn X.K (.ref D) "__getattribute__" = some (some (.builtin "type.__getattribute__"))) (hr:readsIn X.K D (.type "type")=true) (hf:findCls X.K (.ref D) (.type "type") "__init__" = some (.val (.builtin "ValueError.__init__")))
  (ha:PA X (e1::es) t) (hdb:autoParam ((T == ("__debug__" : Str))=false) cw._auto_1) (hst:autoParam (starEach (e1::es) X.env=(false,eval e1 X.env)::starEach es X.env) cw._auto_1) (hpl:autoParam ((backTo pos (starEach es X.env)).any (·.1)=false) cw._auto_1)
  (ht:autoParam (eval (.Call (.Attribute (.Name T tp) "__init__" apos) (e1::es) [] pos) X.env=(do
   let ov <- eval (.Name T tp) X.env
   standAt apos.atName
   let (f,first) <- holding [ov] (getMethod ov "__init__" pl)
   callWith pos f first (backTo pos (starEach (e1::es) X.env)) (backToKw pos (keywordEach [] X.env)))) cw._auto_1) :
  PE X (.Call (.Attribute (.Name T tp) "__init__" apos) (e1::es) [] pos) (λZ H Q=>t Z H λvs H1=>∃e C d rest,vs = .ref e::rest/\H1 e=some (aaG e C d)/\Tf X.K C/\rest.length<=sizeLine/\Q .dj H1):=by
 intro a s Z H Q I h;refine methodCall_KW (pl:=pl) (n6 I hg hm ?_ hdb) ht;refine method_cls I.uG hga (cls_value I.uG hr hf (by lk) ?_);refine callWith_builtin1 (dS (ha pos a _ Z H _ (I.tok _) h) λus o b=>?_) hst hpl;obtain⟨vs,H1,g,r,e,C,d,rest,i,j,c,l,q⟩:=b;subst i;cases r with
 |cons r1 r2 =>
  cases r1;exact apc g j c (by rw[<- r2.length];exact l) λp n=>⟨.dj,H1,n,rfl,q⟩
end
end L2
namespace L2
open PySem PySem.Spec PyProof.Rows
section
variable {e v1 v2:Expr}{es:List Expr}
def aal:gS X (.type "int") (λxs H Q=>∃n:Int,xs=[.str (PySem.Str.ofString (toString n))]/\0<=n/\n<10 ^ 10/\Q (.int n) H):=by intro a s Z H xs us Q I r h;obtain⟨n,rfl,b,c,q⟩:=h;obtain⟨u,rfl,t,rfl⟩:=vals1 r;exact W.KIN.call_num b c ⟨.int n,H,I.tok _,⟨_,rfl⟩,q⟩
end
end L2
namespace L2
open PySem PySem.Spec PyProof.Rows
inductive aiP(pr:Params):List DictEntry->List (Str×V)->Prop
 |nil:aiP pr [] []
 |cons {k:Str} {u:Tok} {x:Value} {v:V} {es:List DictEntry} {kvs:List (Str×V)}:RelV v x->aiP pr es kvs->aiP pr (⟨PyData.keyHash pr k,.str k u,x⟩::es) ((k,v)::kvs)
def DcK(K:W.Frag)(pr:Params)(a:Addr)(kvs:List (Str×V)):Prop :=
 (a == sysModules)=false/\(kvs.map (·.1)).Nodup/\∃(o:Obj) (b:Array DictEntry) (c:Nat),K.lookup a=some o/\o.ExactDict/\o.data = .dict b c/\aiP pr b.toList kvs
noncomputable def at6(kvs:List (Str×V)):List (Key×V):=kvs.map λa=>(Sum.inr a.1,a.2)
def aiP.vs{es:List DictEntry}(h:aiP w.params es kvs) :
  ∃vs:List (Key×Value),KV (at6 kvs) vs/\(∀e∈es,∃k,(cJ P w).is k e.key=true/\e.hash=(cJ P w).hash k)/\Pairs (cJ P w) es vs/\vs.map (·.1)=kvs.map λkv=>Sum.inr kv.1:=by
 induction h with
 |nil=>exact⟨[],.nil,λe f=>absurd f (by simp),.nil,rfl⟩
 | @cons k u x v es kvs r _ ih =>
  obtain⟨vs,a,b,c,d⟩:=ih;refine⟨(Sum.inr k,x)::vs,.cons ⟨rfl,r⟩ a,λe f=>?_,.cons (Dg k u) rfl c,by rw[ab5,ab5,d]⟩;rcases Z5.mp f with q|q
  .subst q;exact⟨Sum.inr k,Dg k u,rfl⟩
  .exact b e q
theorem agA:∀{ks:a9},ks.Nodup->(ks.map λk=>(Sum.inr k:Key)).Nodup
 | [],_=>List.nodup_nil
 |k::r,h=>by rw[ah8] at h;rw[ab5,ah8];refine⟨λz=>?_,agA h.2⟩;obtain⟨y,hy,e⟩:=aa9.mp z;cases e;exact h.1 hy
def DcK.dict{K:W.Frag}(d:DcK K w.params a kvs)(X:K.In h):(a == sysModules)=false/\∃vs,KV (at6 kvs) vs/\h.DictOf (cJ P w) a vs:=by obtain⟨b,c,o,f,g,l,i,j,n⟩:=d;obtain⟨vs,p,q,r,s⟩:=n.vs (P:=P);refine⟨b,vs,p,o,f,g,X _ _ l,i,j,λe t=>q e (Array.mem_toList_iff.mpr t),r,?_⟩;rw[s];have:=agA c;rwa [ag3] at this
theorem aer(k:Str):∀kvs:List (Str×V),fP (at6 kvs) (Sum.inr k)=fP kvs k
 | []=>rfl
 |p::r=>by
  by_cases e:p.1=k
  .rw[fK e];exact fK (p:=(Sum.inr p.1,p.2)) (by rw[e])
  .rw[fk e,<- aer k r];exact fk (p:=(Sum.inr p.1,p.2)) (λz=>e (an9 z))
def avC(K:W.Frag)(pr:Params)(td ty:TE):TE:=λZ H Q=>td Z H λx c=>ty Z c λy d=>∃a b k v,x = .ref a/\DcK K pr a b/\y = .str k/\fP b k=some v/\Q v d
def aqu(K:W.Frag)(pr:Params)(ty td:TE):TE:=λZ H Q=>ty Z H λy c=>td Z c λx d=>∃a b k,x = .ref a/\DcK K pr a b/\y = .str k/\Q (.bl (!(fP b k).isSome)) d
end L2
namespace L2
open PySem PySem.Spec PyProof.Rows
section
variable {o i:Expr}{td ty:TE}
def akg(ho:PE X o td)(hi:PE X i ty)(hs:XO i):PE X (.Subscript o i pos) (avC X.K X.w.params td ty):=by intro b s Z H Q I h;refine LS PySem.F.slot_dict_getitem.lookup hs (dS (ho b s Z H _ I h) λu j ⟨x,n,p,q,r⟩=>dS (hi b j Z n _ p r) λJ L  t=>?_);obtain⟨y,z,e,A,a,B,k,v,C,g,D,l,E⟩:=t;subst C D;obtain rfl:u=Value.ref a:=q;obtain⟨M,vs,c,f⟩:=g.dict (P:=X.prog) e.uG;rw[<- aer] at l;obtain⟨N,G,d⟩:=kC.some_of (v:=v) (o:=valueAt vs (Sum.inr k)) (by rw[<- l];exact c.val _);exact⟨f.typeIs,wpAny_getItem_of (qY (k:=Sum.inr k) A) f.mapOf G ⟨v,z,e.tok _,d,E⟩⟩
def als(hi:PE X i ty)(ho:PE X o td):PC X .NotIn i o (aqu X.K X.w.params ty td):=by intro b s Z H Q I h;refine dS (hi b s Z H _ I h) λD e ⟨y,f,j,l,n⟩=>dS (ho b e Z f _ j n) λu E  p=>?_;obtain⟨x,q,d,r,a,t,k,v,g,z,A⟩:=p;subst v z;obtain rfl:u=Value.ref a:=r;obtain⟨B,vs,c,C⟩:=g.dict (P:=X.prog) d.uG;refine wpAny_notIn_of (qY (k:=Sum.inr k) l) B C.mapOf ?_;rw[<- (c.val (Sum.inr k)).kZ,aer];exact⟨.bl _,q,d.tok _,rfl,A⟩
inductive avz:V->q7->Hp->VK->Prop|mk{a b:_}{H Q:_}(_:(b.length == 0)=false)(_:a.length<=sizeLine)(_:∀p,H p=none->Q (.ref p) (ag H p (.tup [.str (PySem.Txt.partition a b).1,.str (PySem.Txt.partition a b).2.1,.str (PySem.Txt.partition a b).2.2]))):avz (.str a) [.str b] H Q
def agN:Su X "str.partition" avz:=by
 intro d s Z H x vs v us Q I f g h;obtain@⟨a,b,_,_,j,l,q⟩:=h;obtain⟨t,rfl⟩:=f;obtain⟨u,rfl,n⟩:=g.one;obtain⟨o,rfl⟩:=n;have c:=q _ (I.ba.fresh (N0 _));refine am4 F.slot_str_partition (am6 _ _ _) F.entry_str_partition (F.args_str_partition_2 _ _) (meets_str_partition a b t o j l) ?_;unfold PySem.Txt.partition at c;revert c;cases Builtin.Str.occurrences a b 0 a.length 1 with
 |nil =>
  intro c;refine⟨.ref _,_,I.laid (t':=s.toks+1) (λb u e=>x0 _ e) (N0 _) ?_,rfl,c⟩;exact⟨by show 3<=sizeLine;decide,_,.cons ⟨_,rfl⟩ (.cons ⟨_,rfl⟩ (.cons ⟨_,rfl⟩ .nil)),⟨_,aa5 _ rfl,rfl,_,rfl⟩⟩
 |cons i r =>
  intro c;refine⟨.ref _,_,I.laid (t':=s.toks+1+1) (λb u e=>x0 _ e) (N0 _) ?_,rfl,c⟩;exact⟨by show 3<=sizeLine;decide,_,.cons ⟨_,rfl⟩ (.cons ⟨_,rfl⟩ (.cons ⟨_,rfl⟩ .nil)),⟨_,aa5 _ rfl,rfl,_,rfl⟩⟩
end
end L2
namespace L2
open PySem PySem.Spec PyProof.Rows
def aji(J:It)(n:Nat)(caps:List (Str×Nat))(g:TG)(te:TE)(Z:St)(H1:Hp)(Q:VK):Prop:=∃W:Nat->Nat->q7->Hp->Prop,(∃m,W 0 m [] H1)/\∀i m a H,W i m a H ->
 (J.stop i H/\∀D,H D=none->Q (.ref D) (ag H D (.lst a)))\/(J.go i H/\a.length<sizeLine/\∀x b,J.UO i H x b->∀c:St,c.length=n->g x (nv caps Z++c) b λd h=>∃e:St,e.length=n/\d=nv caps Z++e/\te d h λy j=>∃f,f<m/\W (i+1) f (a++[y]) j)
def aun(n:Nat)(caps:List (Str×Nat))(g:TG)(wi:TI)(te:TE):TE:=λZ H Q=>wi Z H λJ a=>aji J n caps g te Z a Q
def apb(n:Nat)(caps:List (Str×Nat))(g:TG)(wi:TI)(tt:TT)(te:TE):TE:=λZ H Q=>wi Z H λJ a=>afO J n caps g tt te Z a Q
def ahz{sc csc:Scope}{N:a9}{elt iter:Expr}{xs:a9}{tg:Expr}{g:TG}{pos:Pos}{caps:List (Str×Nat)}{wi:TI}{te:TE}(ck:adB sc csc N xs caps)(hi:PI X tg iter wi)(hg:∀C s2 H2 fp,PG (fJ X (caps.map (·.1)++xs) csc C s2 H2 fp) tg g)
  (he:∀C s2 H2 fp,PE (fJ X (caps.map (·.1)++xs) csc C s2 H2 fp) elt te) (hc:autoParam (X.aw=true) cw._auto_1) (hsc:autoParam (X.env.scope=sc) cw._auto_1) (hXN:autoParam (X.N=N) cw._auto_1) (hs:autoParam (∀x,foldedSetIterable iter X.env x=pure x) cw._auto_1) :
  PE X (.ListComp elt [⟨tg,iter,[],0⟩] csc pos) (aun xs.length caps g wi te):=λb s Z H Q I h=>by
 rw[eval_ListComp];exact aes ck hi hg (λ_ _ _ _=>Bm) he hc hsc hXN hs I (λJ f z=>z) h none _ λs2 H2 D C i j l m _ _ _ _ c d _ q=>⟨m,c,λe a=>⟨.ref D,_,d e a,rfl,q⟩⟩
def afv{sc csc:Scope}{N:a9}{elt iter c:Expr}{xs:a9}{tg:Expr}{g:TG}{pos:Pos}{caps:List (Str×Nat)}{wi:TI}{te:TE}{tt:TT}(ck:adB sc csc N xs caps)(hi:PI X tg iter wi)(hg:∀C s2 H2 fp,PG (fJ X (caps.map (·.1)++xs) csc C s2 H2 fp) tg g)
  (ht:∀C s2 H2 fp,PT (fJ X (caps.map (·.1)++xs) csc C s2 H2 fp) c tt) (he:∀C s2 H2 fp,PE (fJ X (caps.map (·.1)++xs) csc C s2 H2 fp) elt te) (hc:autoParam (X.aw=true) cw._auto_1) (hsc:autoParam (X.env.scope=sc) cw._auto_1) (hXN:autoParam (X.N=N) cw._auto_1) (hs:autoParam (∀x,foldedSetIterable iter X.env x=pure x) cw._auto_1) :
  PE X (.ListComp elt [⟨tg,iter,[c],0⟩] csc pos) (apb xs.length caps g wi tt te):=λb s Z H Q I h=>by
 rw[eval_ListComp];exact aes ck hi hg (λC s2 H2 fp=>Mw (ht C s2 H2 fp)) he hc hsc hXN hs I (λJ i z=>z) h none _ λs2 H2 D C j l n m _ _ _ _ d e _ q=>⟨m,d,λf a=>⟨.ref D,_,e f a,rfl,q⟩⟩
end L2
namespace L2
open PySem PySem.Spec PyProof.Rows
def g2(K:W.Frag):TG:=Zg K 2 (Xv (p9 0) (Xv (p9 1) Zf))
def aoD{K:W.Frag}{R:St->Hp->Prop}(hw:ws.length=2)(h:R [some x,some z] (ag H p (.tup [x,z]))) :
  g2 K (.ref p) (nv [] Z++ws) (ag H p (.tup [x,z])) λZ2 H2=>∃ws:St,ws.length=2/\Z2=nv [] Z++ws/\R Z2 H2:=by
 match ws,hw with
 | [_,_],_=>exact⟨p,[x,z],rfl,.of aa,rfl,x,[z],rfl,z,[],rfl,rfl,[some x,some z],rfl,rfl,h⟩
def acg(hi:i<n)(hj:i<k)(hl:l<=i+1)(r:R):∃m',m'<n-i/\m'=n-(i+1)/\i+1<=n/\i+1<=k/\l<=i+1/\R:=⟨n-(i+1),by lia,rfl,hi,hj,hl,r⟩
def alx{K:W.Frag}(Pv:Nat->q7->Hp->Prop)(h0:Pv 0 [] H)(hn:xs.length<sizeLine)
  (hq:∀i ys H,Pv i ys H->aV K H a xs/\bT K H b zs)
  (hs:∀i x z ys H p,xs[i]?=some x->zs[i]?=some z->H p=none->ys.length<=i->Pv i ys H->te [some x,some z] (ag H p (.tup [x,z])) λy H2=>∃m',m'<xs.length-i/\m'=xs.length-(i+1)/\i+1<=xs.length/\i+1<=zs.length/\(ys++[y]).length<=i+1/\Pv (i+1) (ys++[y]) H2)
  (hd:∀i ys H,(i=xs.length\/i=zs.length)->Pv i ys H->∀D,H D=none->Q (.ref D) (ag H D (.lst ys))):aji (Zi true K a b) 2 [] (g2 K) te Z H Q:=by
 refine⟨λi m ys H=>m=xs.length-i/\i<=xs.length/\i<=zs.length/\ys.length<=i/\Pv i ys H,⟨xs.length,by simp,Z9 _,Z9 _,Z9 _,h0⟩,?_⟩;rintro i m ys H ⟨rfl,o,q,hl,p⟩;obtain⟨c,d⟩:=hq i ys H p;by_cases e:i<xs.length
 .by_cases f:i<zs.length
  .refine .inr ⟨⟨xs,zs,xs[i],zs[i],c,d,by simp[e],by simp[f]⟩,by lia,λx r y s g=>?_⟩;obtain⟨h,v,u,j,rfl,rfl,l,n⟩:=y;exact aoD g (hs i v u ys H h (l xs c) (n zs d) j hl p)
  .exact .inl ⟨⟨xs,zs,c,d,.inr (by lia)⟩,hd i ys H (.inr (by lia)) p⟩
 .exact .inl ⟨⟨xs,zs,c,d,.inl (by lia)⟩,hd i ys H (.inl (by lia)) p⟩
def aeC{K:W.Frag}(Pv:Nat->q7->Hp->Prop)(h0:Pv 0 [] H)(hn:xs.length<sizeLine)
  (hq:∀i ys H,Pv i ys H->aV K H a xs/\bT K H b zs)
  (hs:∀i x z ys H p,xs[i]?=some x->zs[i]?=some z->H p=none->ys.length<=i->Pv i ys H->tt [some x,some z] (ag H p (.tup [x,z])) λc H1=>if c=true then te [some x,some z] H1 λy H2=>∃m',m'<xs.length-i/\m'=xs.length-(i+1)/\i+1<=xs.length/\i+1<=zs.length/\(ys++[y]).length<=i+1/\Pv (i+1) (ys++[y]) H2
   else ∃m',m'<xs.length-i/\m'=xs.length-(i+1)/\i+1<=xs.length/\i+1<=zs.length/\ys.length<=i+1/\Pv (i+1) ys H1)
  (hd:∀i ys H,(i=xs.length\/i=zs.length)->Pv i ys H->∀D,H D=none->Q (.ref D) (ag H D (.lst ys))):afO (Zi true K a b) 2 [] (g2 K) tt te Z H Q:=by
 refine⟨λi m ys H=>m=xs.length-i/\i<=xs.length/\i<=zs.length/\ys.length<=i/\Pv i ys H,⟨xs.length,by simp,Z9 _,Z9 _,Z9 _,h0⟩,?_⟩;rintro i m ys H ⟨rfl,q,r,hl,p⟩;obtain⟨d,e⟩:=hq i ys H p;by_cases f:i<xs.length
 .by_cases g:i<zs.length
  .refine .inr ⟨⟨xs,zs,xs[i],zs[i],d,e,by simp[f],by simp[g]⟩,by lia,λx s y t h=>?_⟩;obtain⟨j,v,u,l,rfl,rfl,n,o⟩:=y;exact aoD h (hs i v u ys H j (n xs d) (o zs e) l hl p)
  .exact .inl ⟨⟨xs,zs,d,e,.inr (by lia)⟩,hd i ys H (.inr (by lia)) p⟩
 .exact .inl ⟨⟨xs,zs,d,e,.inl (by lia)⟩,hd i ys H (.inl (by lia)) p⟩
def aoF:PE X e (λ_ _ _=>False):=λ_ _ _ _ _ _ h=>h.elim
def aaJ:entryFor table "dict_itemiterator.__iter__" = some Builtin.«dict_keyiterator.__iter__» :=
 entryFor_alias (id':="dict_keyiterator.__iter__") (by kernel_rfl) (by first | rfl | lk | (unfold String.splitOn;simp +decide [String.splitOnAux])) (by lk) (by kernel_rfl)
end L2
namespace L2
open PySem PySem.Spec PyProof.Rows
section
variable {e:Expr}{es:List Expr}{t:TF}
def auf(te:TE)(t:TF):TF:=λZ H a Q=>te Z H λv b=>∃x,v = .str x/\(reprText x).length<=sizeLine/\(a++reprText x).length<=sizeLine/\t Z b (a++reprText x) Q
def acs(he:PE X e te)(hr:PF X es t):PF X (.FormattedValue e 114 none p::es) (auf te t):=by intro a s Z H b Q I h;show wpAny _ _ (joinParts b (eval (.FormattedValue e 114 none p) X.env::evalEach es X.env)) _ _ s;refine joinParts_cons (wpAny_FormattedValue_repr (dS (he a s Z H _ I h) λu l  d=>?_));obtain⟨v,n,f,g,x,i,hl,c,q⟩:=d;subst i;obtain⟨o,rfl⟩:=g;exact wpAny_pyReprObj_str (formatField_str (λr j=>⟨c,hr a _ Z _ _ Q (f.tok _) q⟩) hl) hl
end
end L2
namespace HT
open PySem PyProof.Rows PySem.SeqAt PySem.MeetsSeq PySem.MeetsSeq2 PySem.MeetsSeq3
def agV(hl:s.heap.get? l=some o)(hb:s.heap.get? b=some o2)(dl:o.data = .seq items n)(db:o2.data = .seq items2 n2) :
  ∀(vs ws:c8) (ns ms:c9) (i:Nat),items.toList.drop i=vs->items2.toList.drop i=ws->IntsAre vs ns->IntsAre ws ms->ns.length+items2.size=ms.length+items.size ->
   R (.ok (.ret (.bool (gY ns ms)))) s->codeAny (model prog w) A (.builtin "list.__eq__.loop" ⟨[.ref l,.ref b,rawInt i,rawInt 4],[]⟩) R s:=by
 intro vs;induction vs with
 |nil =>
  intro ws ns ms i h p h1 h2 d f;cases h1;refine ao6 entry_eq_loop ?_;rw[ai9 (by lk) _];show wpAny _ A.in1 (Builtin.List.listItems (.ref l) >>= _) _ _ s;refine y0 ?_;unfold Builtin.List.listItems;refine y0 (PySem.wpAny_seqItems hl dl (X2 ?_));refine y0 ?_;refine y0 (PySem.wpAny_seqItems hb db (X2 ?_));have j:items[((i:Nat):Int).toNat]?=none:=by rw[ab9,<- Array.getElem?_toList];exact ad7 (List.drop_eq_nil_iff.mp h)
  rw[j];have r:gY [] ms=decide (items.size>items2.size):=by simp only[ac6] at d;cases ms <;> simp only[ac6,P3] at d <;> simp only[gY,lex,decide_eq_decide] <;> lia
  rw[r] at f;refine y0 (y0 (PySem.wpAny_seqItems hl dl (X2 ?_)));refine y0 (y0 (PySem.wpAny_seqItems hb db (X2 ?_)));exact X2 f
 |cons v vs ih =>
  intro ws ns ms i h p h1 h2 d f;refine ao6 entry_eq_loop ?_;rw[ai9 (by lk) _];show wpAny _ A.in1 (Builtin.List.listItems (.ref l) >>= _) _ _ s;refine y0 ?_;unfold Builtin.List.listItems;refine y0 (PySem.wpAny_seqItems hl dl (X2 ?_));refine y0 ?_;refine y0 (PySem.wpAny_seqItems hb db (X2 ?_));have j:items[((i:Nat):Int).toNat]?=some v:=by rw[ab9,<- Array.getElem?_toList,<- List.head?_drop,h];rfl
  have n2:items2[((i:Nat):Int).toNat]?=ws.head?:=by rw[ab9,<- Array.getElem?_toList,<- List.head?_drop,p]
  rw[j,n2];cases h1 with
  | @cons a t vs' ns' h1 =>
  cases h2 with
  |nil =>
   have r:gY (a::ns') []=decide (items.size>items2.size):=by simp only[ac6,P3] at d;simp only[gY,lex,decide_eq_decide];lia
   rw[r] at f;refine y0 (y0 (PySem.wpAny_seqItems hl dl (X2 ?_)));refine y0 (y0 (PySem.wpAny_seqItems hb db (X2 ?_)));exact X2 f
  | @cons c u ws' ms' h2 =>
   obtain⟨e,x,g⟩:=JE A.in1 s a t c u;rw[gY,FT] at f;refine y0 (x prog w _ _ ?_);cases e with
   |true =>
    rw[w4 (g.mp rfl)] at f;rw[w4 rfl];refine X2 ⟨am5 (by lk) _,?_⟩;rw[show ((i:Int)+1)=((i+1:Nat):Int) by lia];refine ih ws' ns' ms' (i+1) ?_ ?_ h1 h2 ?_ f
    .rw[<- ak2,h];rfl
    .rw[<- ak2,p];rfl
    .simp only[P3] at d;lia
   |false =>
    rw[C5 (λq=>absurd (g.mpr q) Z7)] at f;rw[C5 (by decide)];refine y0 (y0 (PySem.wpAny_seqItems hl dl (X2 ?_)));refine y0 (y0 (PySem.wpAny_seqItems hb db (X2 ?_)));rw[j,n2];refine y0 (PyProof.Rows.gt_int ?_);exact X2 f
def ahN(hl:s.heap.IsList l items)(hb:s.heap.IsList b items2)(hi:IntsAre items.toList ns)(hj:IntsAre items2.toList ms)(hu:A.units<cLine)(h:Q (.bool (gY ns ms)) s) :
  wpAny (model prog w) A (compareOp .Gt (.ref l) (.ref b)) Q E s:=by
 obtain⟨o,g,j,n,p⟩:=_root_.id hl;obtain⟨t,a,c,u,d⟩:=_root_.id hb;refine richCompare_meets_room (op:=.Gt) (S:=λA R i=>i=s/\R (.ok (.ret (.bool (gY ns ms)))) s) ⟨_,g,j⟩ ⟨_,a,c⟩ PySem.F.slot_list_gt PySem.F.entry_list_gt (PySem.F.args_list_gt_2 _ _) ?_ ⟨rfl,show Value.bool (gY ns ms)≠Value.notImplemented/\Q (.bool (gY ns ms)) s from ⟨(λx=>nomatch x),h⟩⟩ hu;intro f v q R i ⟨e,r⟩;subst e;show wpAny _ q.in1 (isInstance (.ref b) (.type "list") >>= _) _ _ _;refine y0 (wpAny_isInstance (b:=true) (T:="list") ⟨_,a,c⟩ (by rw[isSubtype_type];kernel_rfl) ?_);refine X2 ⟨am5 (by lk) _,?_⟩;exact agV g a p d _ _ ns ms 0 rfl rfl hi hj (by have:=hi.length;have:=hj.length;simp at *;lia) r
end HT
namespace L2
open PySem PySem.Spec PyProof.Rows
section
variable {P:Program}{K:W.Frag}{k:Nat}{f:Addr}
def bE.quiet(F:bE P w K mg ap (qX P w) k f fd ps sp):bE P w K mg ap dJ k f fd ps (λvs H Q _=>sp vs H Q E0) :=
 ⟨λvs H Q E h=>F.len vs H Q E0 h,λA a s H b us vs Q E hr c d r h=>PySem.codeAny_mono (F.run A a s H b us vs Q E0 hr c d r h) λy e hq=>by
  match y,hq with
  |.ok (.ret _),hq=>exact hq
  |.error _,hq =>
   obtain⟨_,_,_,_,_,_,_,_,_,_,_,_,_,_,_,z⟩:=hq;exact z⟩
noncomputable def abl(a b:Sp):Sp:=λvs H Q E=>a vs H Q E\/b vs H Q E
def bE.or(F:bE P w K mg ap CX k f fd ps a)(G:bE P w K mg ap CX k f fd ps b):bE P w K mg ap CX k f fd ps (abl a b) :=
 ⟨λvs H Q E h=>h.elim (F.len vs H Q E) (G.len vs H Q E),λA c s H d us vs Q E hr e g r h=>h.elim (F.run A c s H d us vs Q E hr e g r) (G.run A c s H d us vs Q E hr e g r)⟩
inductive au5(sp:Sp)(vs:q7)(H:Hp)(Q:VK)(E:XK):Prop|mk(Q')(_:sp vs H Q' E)(_:∀v H',Q' v H'->Q v H')
def bE.up(F:bE P w K mg ap CX k f fd ps a):bE P w K mg ap CX k f fd ps (au5 a) :=
 ⟨λvs H Q E ⟨d,h,_⟩=>F.len vs H d E h,λA b s H c us vs Q E hr e g r ⟨d,h,i⟩=>PySem.codeAny_mono (F.run A b s H c us vs d E hr e g r h) λy j hq=>by
  match y,hq with
  |.ok (.ret _),⟨v,H',a1,a2,a3,a4,a5,a6⟩=>exact⟨v,H',a1,a2,a3,a4,a5,i v H' a6⟩
  |.error _,hq=>exact hq⟩
end
end L2
namespace L2
open PySem PySem.Spec PyProof.Rows
inductive av3(K:W.Frag):V->V->Hp->VK->Prop|mk{a b ns ms:_}{H Q:_}(_:aV K H a (ns.map V.int))(_:aV K H b (ms.map V.int))(_:Q (.bl (HT.gY ns ms)) H):av3 K (.ref a) (.ref b) H Q
def atY(hu:X.A.units<cLine):mL X (compareOp .Gt) (av3 X.K):=by intro c s Z H x y v u Q I d e h;obtain@⟨a,b,o,p,_,_,f,g,q⟩:=h;cases d;cases e;obtain⟨r,i,j,_⟩:=I.list f;obtain⟨t,l,n,_⟩:=I.list g;exact HT.ahN j.isList n.isList (uU (by simpa using i)) (uU (by simpa using l)) hu ⟨.bl _,H,I,rfl,q⟩
def avE(td ty:TE):TE:=λZ H Q=>td Z H λx f=>∃a,x = .ref a/\YU f a/\ty Z f λy e=>∃b d c,y = .ref b/\a≠b/\e a=some (.dK d)/\e b=some (.dK c)/\d.length+c.length<=1000/\Q .dj (ag e a (.dK (m9 d c)))
def aqX {o e:Expr} {apos cpos:Pos} {td ty:TE} (ho:PE X o td) (he:PE X e ty) (m:M1 X o "update" apos e cpos):PE X (.Call (.Attribute o "update" apos) [e] [] cpos) (avE td ty):=by
 intro c s Z H Q I h;refine wpAny_Call_method m.ap m.few m.line PySem.F.plainAttrs_dict PySem.F.slot_dict_update PySem.F.type_dict_update (dS (ho c s Z H _ I h) λu B  C=>?_);obtain⟨x,D,p,E,a,G,d,J⟩:=C;subst G;obtain rfl:u=Value.ref a:=E;obtain⟨K,L,_⟩:=EO p d;refine⟨K,L,?_⟩;rw[m.trees];refine ah9 rfl (aj0 (ai4 (dS (he c B Z D _ p J) λM s2 ⟨y,H2,i,N,b,g,f,O,j,r,P,hl,R⟩=>am0 ?_)));subst O;obtain rfl:M=Value.ref b:=N;obtain⟨S,l,vs,t,v⟩:=t7 i.ba r;obtain⟨T,n,U,z,W⟩:=t7 i.ba P;have h1:=ad0;refine PySem.call_meetsIn PySem.F.slot_dict_update v.typeIs PySem.F.entry_dict_update (PySem.F.args_dict_update_2 _ _) (meets_dict_update (cJ X.prog X.w) a b j n) ⟨vs,U,v,W,by rw[<- t.length,<- z.length];lia,λY A _ hs=>?_⟩;have he:∃q,Y.get? a=some q:=let ⟨q,_,_,hq,_⟩:=A;⟨q,hq⟩;have hz:(m9 g f).length<=sizeLine:=by have:=oH f g;lia
 exact⟨.dj,_,xD i (by rw[r];exact True.intro) hs he (wu hz l (z.merge t) A),rfl,R⟩
def ItI(a:Addr)(o:Obj)(kvs:List (Key×V)):It :=
 ⟨λi H=>H a=some (.mC o (.dK kvs))/\i<kvs.length,λi H x c=>∃p b,H p=none/\kvs[i]?=some b/\x = .ref p/\c=ag H p (.tup [kV b.1,b.2]),λi H=>H a=some (.mC o (.dK kvs))/\kvs.length<=i⟩
def amV{es:Array DictEntry}(ba:dz P w H h a (.mC o (.dK kvs)))(hd:o.data = .dict es ep):∃vs,KV kvs vs/\h.DictAt (cJ P w) a vs ep:=by obtain⟨c,z,n,vs,b,f⟩:=ba;obtain⟨p,g,i,d,j,e,l⟩:=f;rw[c] at d;cases d;rw[hd] at e;cases e;exact⟨vs,b,⟨o,es,c,j,hd,l⟩⟩
def KV.at_{kvs:List (Key×V)}{vs:List (Key×Value)}(r:KV kvs vs){i:Nat}(hi:i<kvs.length):∃k x u,kvs[i]?=some (k,x)/\vs[i]?=some (k,u)/\RelV x u:=by
 induction r generalizing i with
 |nil=>simp at hi
 | @cons p q ps qs h t ih =>
  cases i with
  |zero =>
   obtain⟨a,b⟩:=h;exact⟨p.1,p.2,q.2,rfl,by rw[a];rfl,b⟩
  |succ i=>exact ih (by simpa using hi)
def aiE{P:Program}{K:W.Frag}{x1}{es:Array DictEntry}{ep:Nat}(a it:Addr)(o:Obj)(kvs:List (Key×V))(hne:a≠it)(hd:o.data = .dict es ep):Turn P w K (.Tuple elts x1 pos) (ItI a o kvs) [it] it (λi h=>∃u v,IsItemIter h it a i kvs.length ep u v) where
 mem:=by simp
 obj:=λi h d b l=>by rw[B1.mp l];obtain⟨u,v,d⟩:=d;exact⟨_,d,λv z=>by cases z⟩
 keep:=λi h h' d k=>let ⟨u,v,d⟩:=d;⟨u,v,k it (by simp) _ d⟩
 item:=by
  intro X C D G g i p s Z H E I t d J;subst C D G;obtain⟨U,Y,d⟩:=d;obtain⟨L,hi⟩:=J;obtain⟨vs,j,M⟩:=amV (I.ba a _ L) hd;have hl:=j.length;obtain⟨k,x,u,e1,e2,rx⟩:=j.at_ hi;refine wpAny_pyNext_items_item (by rw[<- hl];exact d) M e2 λy g1 hk N gT hsz O=>⟨_,rfl,wpAny_letOwnedTupleGo_items (s:={ s with heap:=g1 }) N λg2 en sb=>?_⟩
  obtain⟨b,c,f⟩:=I.aak (t':=s.toks) t (λb l=>by rw[B1.mp l];exact⟨_,d,λv z=>by cases z⟩) (λc o n q=>have n:c≠it:=(by simpa using n);(sb.2 c n).trans (O c o n q)) (J9 hk) rx ((sb.2 _ (aa4 (Z6 (P2 d)))).trans gT)
  exact⟨.ref s.heap.objs.size,_,b,rfl,⟨_,(k,x),c,e1,rfl,rfl⟩,⟨y,u,by rw[hl];exact en⟩,f⟩
 done:=by intro X C D G g i p s Z H E I t d J;subst C D G;obtain⟨U,Y,d⟩:=d;obtain⟨L,hi⟩:=J;obtain⟨vs,j,M⟩:=amV (I.ba a _ L) hd;obtain⟨f0,f1,f2,f3,f4,f5⟩:=t it (by simp);have hl:=j.length;exact wpAny_pyNext_items_end (I.ok.hd g) (by rw[<- hl];exact d) M (by simp;lia) λh' eb=>⟨rfl,I.turned (t':=s.toks) (λb o l e=>eb b o l e) f0 f1 f3 f4 f5⟩
 self:=λA i s Q E d h=>by
  obtain⟨U,Y,d⟩:=d;have T:s.TypeIs (.ref it) "dict_itemiterator" := ⟨_,d,rfl⟩
  refine wpAny_pyIter_slot T F.slot_dict_itemiterator_iter (PySem.wpAny_call_entry F.slot_dict_itemiterator_iter T aaJ ?_ (F.args_dict_itemiterator_iter_1 _));show wpAny _ _ (ret (.ref it)) _ _ s;exact X2 ⟨_,rfl,"dict_itemiterator",_,T,F.slot_dict_itemiterator_next.lookup,h⟩
def auM(H0:Hp)(tl:TE):TI:=λZ H R=>tl Z H λx c=>∃a b,x = .ref a/\c a=some (.dK b)/\∀o,zB H0 a->R (ItI a o b) (ag c a (.mC o (.dK b)))
def apt {o:Expr} {tl:TE} {apos cpos:Pos} {elts:List Expr} {x1} {pos:Pos} (hl:PE X o tl) (hbase:autoParam (attributeBase o "items" X.env (eval o X.env)=eval o X.env) cw._auto_1) (hline:autoParam ((apos.endLine == cpos.line)=true) cw._auto_1) :
  PI X (.Tuple elts x1 pos) (.Call (.Attribute o "items" apos) [] [] cpos) (auM X.H₀ tl):=by
 intro g s Z H R I h;refine wpAny_Call_method0_late hbase hline (dS (hl g s Z H _ I h) λv f  B=>?_);obtain⟨x,J,i,C,a,kvs,e,j,q⟩:=B;subst e;cases C;obtain⟨z,D,vs,n,l⟩:=t7 i.ba j;refine⟨"dict","dict.items",F.plainAttrs_dict,F.slot_dict_items,F.type_dict_items,l.typeIs,ahu i (.k j (k:=Sum.inl 0)),ah9 rfl (PySem.evalArgs_none ?_)⟩;refine PySem.call_meetsIn F.slot_dict_items l.typeIs F.entry_dict_items (F.args_dict_items_1 _) (meets_dict_items (cJ X.prog X.w) a D) ⟨⟨_,l⟩,?_⟩;obtain⟨o,E,K,p,c,d,r⟩:=l;have t:∀(A:Obj) b u,f.heap.get? b=some u->(f.heap.push A).get? b=some u:=λA b u e=>x0 _ e;have y:=(i.freeze j p).kept (t':=f.toks) (t { cls:=.type "dict_items",data:=.fields #[.ref a] });refine wpAny_pyIter_items (s:={ f with heap:=f.heap.push { cls:=.type "dict_items",data:=.fields #[.ref a] } }) (knd:=cJ X.prog X.w) (kvs:=vs) ⟨_,aa5 _ rfl,rfl,rfl⟩ ⟨o,E,t _ _ _ p,c,d,r⟩ ?_;refine⟨_,[_],_,_,_,rfl,y.kept (t':=f.toks) λb u e=>x0 _ e,aiE a _ o kvs (Z6 (P2 (t { cls:=.type "dict_items",data:=.fields #[.ref a] } _ _ p))) d,⟨_,_,by rw[n.length];exact aa5 _ rfl⟩,λb G=>?_,q o (i.Wt j)⟩;have e:=B1.mp G;subst e;exact y.CM (N0 _) (y.ba.fresh (N0 _))
def WI'(a:Addr)(o:Obj)(k:Key)(x:V)(Q:VK)(H:Hp)(i m:Nat)(ys:q7)(H':Hp):Prop:=(i=0/\m=1/\ys=[]/\H'=H)\/(i=1/\m=0/\H' a=some (.mC o (.dK [(k,x)]))/\∀D,H' D=none->Q (.ref D) (ag H' D (.lst ys)))
def WI'.end_(h1:H2 a=some (.mC o (.dK [(k,x)])))(h2:∀D,H2 D=none->Q (.ref D) (ag H2 D (.lst [y]))):∃m',m'<1/\WI' a o k x Q H (0+1) m' ([]++[y]) H2:=⟨0,by decide,.inr ⟨rfl,rfl,h1,h2⟩⟩
def ais{K:W.Frag}(h:H a=some (.mC o (.dK [(k,x)])))(hs:∀p,H p=none->te [some (kV k),some x] (ag H p (.tup [kV k,x])) λy H2=>∃m',m'<1/\WI' a o k x Q H (0+1) m' ([]++[y]) H2):aji (ItI a o [(k,x)]) 2 [] (g2 K) te Z H Q:=by
 refine⟨WI' a o k x Q H,⟨1,.inl ⟨rfl,rfl,rfl,rfl⟩⟩,?_⟩;rintro i m g j (⟨rfl,rfl,rfl,rfl⟩|⟨rfl,rfl,b,c⟩)
 .refine .inr ⟨⟨h,by simp⟩,by decide,λl H2 y n d=>?_⟩;obtain⟨p,q,e,f,rfl,rfl⟩:=y;cases f;exact aoD d (hs p e)
 .exact .inl ⟨⟨b,by simp⟩,c⟩
theorem aeF:∀{kvs:List (Key×V)} {Q:List (V×V)->Hp->Prop},Q (kvs.map λkv=>(kV kv.1,kv.2)) H->agC (kvs.map λkv=>(tC (kV kv.1),tC kv.2)) Z H Q
 | [],_,h=>h
 |kv::r,Q,h=>aeF (kvs:=r) (Q:=λps H3=>Q ((kV kv.1,kv.2)::ps) H3) h
def adt{pos:Pos}{keys:List (Option Expr)}{values:List Expr}(kvs:List (Key×V))(h:PPs X pos keys values (kvs.map λkv=>(tC (kV kv.1),tC kv.2)))(hall:keys.all (·.isSome)=true)(hl:keys.length=values.length)(h0:keys≠[])(h15:keys.length<=15)(hk:kvs.length<=15) :
  PE X (.Dict keys values pos) (λ_ H Q=>∀p,H p=none->Q (.ref p) (ag H p (.dK (m9 [] kvs)))):=λa s Z H Q I q =>
 apX h hall hl h0 h15 a s Z H Q I λp b=>aeF ⟨aa,kvs,rfl,hk,by rw[fV];exact q p b⟩
end L2
namespace K81
noncomputable section
open PySem L2
set_option hygiene false
local macro_rules | `(tactic| room)=>`(tactic| (refine ⟨rfl,λ_ _ _ _ hr=>wm ?_⟩;intro X0 E0))
noncomputable def top(i:Nat):Stmt:=PySem.Challenge.pw_tintrow_k81_lines_of_a_desk.main.body.getD i (.Pass ⟨0,0,0,0⟩)
noncomputable abbrev AA(i j:Nat):=inClass (top i) j
abbrev AC(N:List Str)(n:Nat)(s:Stmt):=aI N (N.take n) (az s)
def atk:AC ["self","row","word"] 3 (AA 3 0):={}
def cr:AC ["self","ring","sign"] 3 (AA 4 0):={}
def Vw:AC ["self"] 1 (AA 10 1):={}
def RL:AC ["self","text"] 2 (AA 11 0):={}
def Sw:AC ["self","row","at"] 3 (AA 11 1):={}
def VD:AC ["self"] 1 (AA 11 2):={}
def Uh:AC ["self","signs"] 2 (AA 12 0):={}
def T4:AC ["self","row","at"] 3 (AA 12 1):={}
def SE:AC ["self"] 1 (AA 12 2):={}
def V2:AC ["self","signs"] 2 (AA 13 0):={}
def Te:AC ["self","row","at"] 3 (AA 13 1):={}
def UC:AC ["self"] 1 (AA 13 2):={}
def Uj:AC ["self","signs"] 2 (AA 14 0):={}
def An:AC ["self","row","at","end"] 3 (AA 14 1):={}
def Vn:AC ["self"] 1 (AA 14 2):={}
def W0:AC ["self","row","at"] 3 (AA 15 0):={}
def Xr:AC ["self"] 1 (AA 15 1):={}
def Sg:AC ["self","row","at"] 3 (AA 16 0):={}
def Wc:AC ["self","row","at"] 3 (AA 17 0):={}
def Td:AC ["word"] 1 (top 22):={}
def U8:AC ["self","pattern","colour","deed","goal","fold"] 6 (AA 23 0):={}
def TN:AC ["self","name","colour","rules"] 4 (AA 24 0):={}
def VG:AC ["self","modes"] 2 (AA 25 0):={}
def Tr:AC ["rules"] 1 (top 26):={}
def Rv:AC ["mode"] 1 (top 27):={}
def RZ:AC ["rule"] 1 (top 28):={}
def zI:AC ["rules","mode","row","at","number","rule"] 4 (top 31):={}
def Ut:AC ["modes","rule"] 2 (top 32):={}
def JP:AC ["rules","found"] 1 (top 33):={}
def sO:AC ["rules","row","first","ring"] 1 (top 34):={}
def ML:AC [] 0 (top 35):={}
def tQ:AC ["rules","first","row","ring","modes","rule"] 3 (top 36):={}
def zR:AC ["rules","mode","row","number","rule"] 3 (top 37):={}
def cx:AC ["rules","mode","rule","pattern","rows","row"] 3 (top 38):={}
def adV:AC ["colours","runs","begin","at"] 1 (top 40):={}
def aqg:AC ["many","colour"] 2 (top 41):={}
def Xo:AC ["self","row","text"] 3 (AA 49 0):={}
def Xq:AC ["self"] 1 (AA 49 1):={}
def WW:AC ["self"] 1 (AA 49 2):={}
def Xs:AC ["self","good"] 2 (AA 49 3):={}
def Oi:AC ["self","good","word"] 2 (AA 49 4):={}
def W8:AC ["self","words"] 2 (AA 49 5):={}
def Xw:AC ["self"] 1 (AA 49 6):={}
def QE:AC ["self","word"] 1 (AA 49 7):={}
def lV:AC ["text","rows","numbers","modes","nowhere","number","row","cursor","rules"] 1 (top 50):={}
def xJ:AC ["rows","numbers","row","words"] 1 (top 51):={}
def z5:AC ["cursor","modes","name","colour"] 2 (top 52):={}
def qI:AC ["cursor","numbers","nowhere","pattern","colour","deed","goal","fold"] 3 (top 53):={}
def Aa:AC ["cursor","kind","signs"] 1 (top 54):={}
def AJ:AC ["cursor","numbers","nowhere","place","name"] 3 (top 55):={}
def m8:AC ["rows_marks","told","waiting","row","marks","place","kind","number"] 1 (top 57):={}
def nB:AC ["rules","modes","row","on","tints","marks","at","mode","number","rule"] 3 (top 60):={}
def JG:AC ["self","rules","modes","row","told"] 4 (AA 62 0):={}
def RT:AC ["self","rules","rows"] 3 (AA 63 0):={}
def RC:AC ["self"] 1 (AA 63 1):={}
def UE:AC ["self","row"] 2 (AA 63 3):={}
def Tn:AC ["self","row"] 2 (AA 63 4):={}
def qH:AC ["self","row","many","rows","taken","ahead","back","first","changed"] 4 (AA 63 5):={}
def AM:AC ["self","row","at","text","signs"] 4 (AA 63 6):={}
def AZ:AC ["self","row","at","row2","at2","left"] 5 (AA 63 7):={}
def ua:AC ["self","modes","rows","gone_rows","row","gone"] 3 (AA 63 9):={}
def AL:AC ["self","row","at"] 2 (AA 63 10):={}
def Ug:AC ["self","row"] 2 (AA 63 11):={}
def Sm:AC ["self","row"] 2 (AA 63 12):={}
def Kn:AC ["self","row"] 2 (AA 63 13):={}
def Jq:AC ["self","row","at"] 3 (AA 63 14):={}
def Il:AC ["self","row","at","row2","at2"] 5 (AA 63 15):={}
def Vv:AC ["self","row","many"] 3 (AA 63 16):={}
def sS:AC ["some","others","many","one","other"] 2 (top 64):={}
def Le:AC ["some","others"] 2 (top 65):={}
def S4:AC ["self","row","taken","given","places"] 5 (AA 67 0):={}
def U3:AC ["self","rules","rows"] 3 (AA 68 0):={}
def SI:AC ["self"] 1 (AA 68 1):={}
def Um:AC ["self"] 1 (AA 68 2):={}
def U1:AC ["self"] 1 (AA 68 3):={}
def HP:AC ["self","name","row","at","places"] 4 (AA 68 4):={}
def Er:AC ["self","name","places"] 2 (AA 68 5):={}
def qR:AC ["self","row","at","text","ahead","count"] 4 (AA 68 6):={}
def qO:AC ["self","row","at","row2","at2","ahead","count"] 5 (AA 68 7):={}
def F9:AC ["self","row","taken","many","given"] 4 (AA 68 8):={}
def AH:AC ["self","deed"] 1 (AA 68 9):={}
def Av:AC ["self","deed"] 1 (AA 68 10):={}
def wK:AC ["place","first","text","pieces","more","begin"] 3 (top 69):={}
def R3:AC ["place","first","second"] 3 (top 70):={}
def dq:AC ["self","words","body","kinds"] 3 (AA 78 0):={}
def du:AC ["self"] 1 (AA 79 0):={}
def dA:AC ["self","row","line"] 2 (AA 79 1):={}
def dC:AC ["self"] 1 (AA 79 2):={}
def dL:AC ["row","parts","words","kinds"] 1 (top 80):={}
def dO:AC ["word","kind"] 2 (top 81):={}
def ef:AC ["word"] 1 (top 82):={}
def eh:AC ["scribe","line","numbers"] 2 (top 83):={}
def el:AC ["scribe","line"] 2 (top 84):={}
def ajH:AC ["scribe","line","text"] 2 (top 85):={}
def aqY:AC ["name","place"] 2 (top 86):={}
def aqe:AC ["place"] 1 (top 88):={}
def et:AC ["rules","rows","number","mode","rule"] 1 (top 89):={}
def xo:AC ["_law_script","_law_k","_law_many","_law_cell","_law_left","_law_seed"] 3 (top 91):={}
def jl:AC ["_law_script","_law_k","_law_way"] 2 (top 92):={}
def wQ:AC ["_law_script","_law_heads","_law_head","_law_many","_law_parts"] 1 (top 93):={}
def lY:AC ["_law_script","_law_k","_law_some"] 2 (top 94):={}
def oM:AC ["_law_word_here","_law_sign"] 1 (top 95):={}
def ey:AC ["_law_parts","_law_text","_law_head","_law_many","_law_numbers"] 2 (top 96):={}
def anZ:AC ["_law_caught","_law_words"] 1 (top 97):={}
def A7:AC ["_law_desk","_law_row","_law_told","_law_caught","e"] 2 (top 98):={}
def Kc:AC ["_law_row","_law_at"] 2 (top 99):={}
def oS:AC ["_law_parts","_law_numbers"] 1 (top 100):={}
def eY:AC ["_law_parts","_law_sign"] 1 (top 101):={}
def m7:AC ["_law_parts","_law_some","_law_due_here"] 1 (top 102):={}
def wN:AC ["_law_text","_law_caught","e"] 1 (top 103):={}
def tw:AC ["_law_script","_law_k","_law_parts","_law_at","_law_way","_law_odd_here","_law_place"] 3 (top 104):={}
def gu:AC ["_law_script","_law_parts","_law_some","_law_text","_law_k","_law_desk","_law_ahead","_law_begun","_law_told","_law_found","_law_due_here","_law_rows"] 1 (top 105):={}
set_option genInjectivity false in
structure eZ where
 kh:Addr
 A5:Addr
 Jh:Addr
 cK:Addr
 dN:Addr
 M5:Addr
 Ny:Addr
 iV:Addr
 kO:Addr
 ee:Addr
 iZ:Addr
 mW:Addr
 iJ:Addr
 mU:Addr
 jL:Addr
 fE:Addr
 kg:Addr
 dW:Addr
 cj:Addr
 bA:Addr
 dw:Addr
 aG:Addr
 ZL:Addr
 Ru:Addr
 ajI:Addr
 ash:FuncData
 ajv:Addr
 arn:FuncData
 vG:Addr
 Bx:FuncData
 Ez:Addr
 Na:FuncData
 CH:Addr
 HZ:FuncData
 BW:Addr
 F5:FuncData
 Ib:Addr
 NI:FuncData
 Cr:Addr
 FH:FuncData
 BR:Addr
 F8:FuncData
 Es:Addr
 Of:FuncData
 Cu:Addr
 KA:FuncData
 Cp:Addr
 Iv:FuncData
 ES:Addr
 O9:FuncData
 B9:Addr
 HQ:FuncData
 Cm:Addr
 Gv:FuncData
 Ll:Addr
 Rx:FuncData
 Ml:Addr
 UU:FuncData
 BY:Addr
 Hq:FuncData
 BH:Addr
 JR:FuncData
 ID:Addr
 Nj:FuncData
 Fq:Addr
 QB:FuncData
 Ie:Addr
 Ob:FuncData
 Iz:Addr
 Pq:FuncData
 KZ:Addr
 Pd:FuncData
 EC:Addr
 OE:FuncData
 GQ:Addr
 PY:FuncData
 Im:Addr
 PV:FuncData
 F7:Addr
 Qo:FuncData
 Hi:Addr
 QM:FuncData
 J2:Addr
 NT:FuncData
 Ao:Addr
 JN:FuncData
 HD:Addr
 NX:FuncData
 Iu:Addr
 M7:FuncData
 aoJ:Addr
 arP:FuncData
 aiz:Addr
 aoz:FuncData
 aiy:Addr
 alC:FuncData
 Ur:Addr
 Xk:FuncData
 UD:Addr
 XN:FuncData
 T3:Addr
 WV:FuncData
 Rt:Addr
 WX:FuncData
 Vo:Addr
 Xf:FuncData
 RY:Addr
 Xc:FuncData
 Ub:Addr
 Yi:FuncData
 RI:Addr
 Yv:FuncData
 Fw:Addr
 Q9:FuncData
 Ep:Addr
 Ql:FuncData
 Ff:Addr
 Ov:FuncData
 Fl:Addr
 Nu:FuncData
 II:Addr
 QX:FuncData
 GN:Addr
 Q6:FuncData
 Jr:Addr
 M6:FuncData
 EX:Addr
 PX:FuncData
 KI:Addr
 O7:FuncData
 FL:Addr
 QF:FuncData
 Ir:Addr
 Nc:FuncData
 HM:Addr
 Oq:FuncData
 Fi:Addr
 Qz:FuncData
 E2:Addr
 Qh:FuncData
 Bt:Addr
 HG:FuncData
 Ce:Addr
 El:FuncData
 EY:Addr
 NC:FuncData
 J6:Addr
 Py:FuncData
 EK:Addr
 Pw:FuncData
 KH:Addr
 Pj:FuncData
 Bh:Addr
 JT:FuncData
 B8:Addr
 IB:FuncData
 B5:Addr
 IY:FuncData
 Jt:Addr
 P6:FuncData
 Gd:Addr
 QH:FuncData
 AF:Addr
 Fe:FuncData
 GV:Addr
 Ol:FuncData
 Jw:Addr
 Pu:FuncData
 JZ:Addr
 Nd:FuncData
 HU:Addr
 ND:FuncData
 Gw:Addr
 Q2:FuncData
 Jj:Addr
 OD:FuncData
 Hv:Addr
 Pe:FuncData
 BD:Addr
 JF:FuncData
 BZ:Addr
 FD:FuncData
 Fd:Addr
 P5:FuncData
 BX:Addr
 Fo:FuncData
 Cd:Addr
 IU:FuncData
 Kr:Addr
 Qc:FuncData
 Kg:Addr
 P4:FuncData
 apx:Addr
 arU:FuncData
 aoL:Addr
 arz:FuncData
 ajR:Addr
 amk:FuncData
 apA:Addr
 asj:FuncData
 aiF:Addr
 anh:FuncData
 apu:Addr
 asP:FuncData
 apv:Addr
 asG:FuncData
 amh:Addr
 asM:FuncData
 anr:Addr
 aro:FuncData
 aiA:Addr
 amr:FuncData
 aio:Addr
 aoi:FuncData
 aja:Addr
 amw:FuncData
 amH:Addr
 ar8:FuncData
 Jc:Addr
 Qk:FuncData
 Em:Addr
 NS:FuncData
 alI:Addr
 aso:FuncData
 aoY:Addr
 asJ:FuncData
 anI:Addr
 asT:FuncData
 aov:Addr
 asV:FuncData
 aoh:Addr
 arF:FuncData
 aoS:Addr
 asz:FuncData
 ant:Addr
 asd:FuncData
 aoB:Addr
 as1:FuncData
 apl:Addr
 asu:FuncData
 amR:Addr
 asm:FuncData
 apk:Addr
 arG:FuncData
 anf:Addr
 asI:FuncData
 lS:Addr
 sj:Addr
 xg:Addr
 rT:Addr
 aaC:Addr
 abZ:Addr
 aaP:Addr
 aaO:Addr
 ada:Addr
 acT:Addr
 acN:Addr
 acR:Addr
 adk:Addr
 adb:Addr
 acV:Addr
 acW:Addr
 adi:Addr
 acP:Addr
 acd:Addr
 abR:Addr
 pr:Params
abbrev ac(m:Str->Option Value)(x:Str)(a:Addr):=m x=some (.ref a)
structure Txt(K:W.Frag)(mg:g6)(t:eZ):Prop where
 oA:ac mg "TintError" t.kh
 abO:ac mg "NoRules" t.A5
 agn:ac mg "Rings" t.Jh
 iu:ac mg "NoPlace" t.cK
 nE:ac mg "Nothing" t.dN
 acL:ac mg "NoMark" t.M5
 aaW:ac mg "NoLine" t.Ny
 IK:ac mg "Word" t.iV
 Mc:ac mg "One" t.kO
 yZ:ac mg "Without" t.ee
 Ky:ac mg "Many" t.iZ
 LU:ac mg "Any" t.mW
 Dy:ac mg "Still" t.iJ
 LZ:ac mg "End" t.mU
 yU:ac mg "Rule" t.jL
 zc:ac mg "Mode" t.fE
 uY:ac mg "Rules" t.kg
 A3:ac mg "Cursor" t.dW
 rB:ac mg "GoneRow" t.cj
 AR:ac mg "Tinted" t.bA
 Fz:ac mg "Deed" t.dw
 Az:ac mg "Scribe" t.aG
 amT:ac mg "Line" t.ZL
 anc:ac mg "Desk" t.Ru
 aot:dI K "__init__" "NoRules.__init__" (AA 3 0) t.ajI t.ash
 arl:dI K "__init__" "Rings.__init__" (AA 4 0) t.ajv t.arn
 Ft:dI K "eats" "Pattern.eats" (AA 10 1) t.vG t.Bx
 Oc:dI K "__init__" "Word.__init__" (AA 11 0) t.Ez t.Na
 NO:dI K "eaten" "Word.eaten" (AA 11 1) t.CH t.HZ
 Qd:dI K "eats" "Word.eats" (AA 11 2) t.BW t.F5
 Qp:dI K "__init__" "One.__init__" (AA 12 0) t.Ib t.NI
 OP:dI K "eaten" "One.eaten" (AA 12 1) t.Cr t.FH
 Nx:dI K "eats" "One.eats" (AA 12 2) t.BR t.F8
 OY:dI K "__init__" "Without.__init__" (AA 13 0) t.Es t.Of
 Qe:dI K "eaten" "Without.eaten" (AA 13 1) t.Cu t.KA
 NP:dI K "eats" "Without.eats" (AA 13 2) t.Cp t.Iv
 Qi:dI K "__init__" "Many.__init__" (AA 14 0) t.ES t.O9
 Pk:dI K "eaten" "Many.eaten" (AA 14 1) t.B9 t.HQ
 Nf:dI K "eats" "Many.eats" (AA 14 2) t.Cm t.Gv
 Yp:dI K "eaten" "Any.eaten" (AA 15 0) t.Ll t.Rx
 Wu:dI K "eats" "Any.eats" (AA 15 1) t.Ml t.UU
 Pr:dI K "eaten" "Still.eaten" (AA 16 0) t.BY t.Hq
 Nl:dI K "eaten" "End.eaten" (AA 17 0) t.BH t.JR
 EU:dI K "__init__" "Rule.__init__" (AA 23 0) t.Fq t.QB
 GX:dI K "__init__" "Mode.__init__" (AA 24 0) t.Ie t.Ob
 Hx:dI K "__init__" "Rules.__init__" (AA 25 0) t.Iz t.Pq
 WU:dI K "__init__" "Cursor.__init__" (AA 49 0) t.Ur t.Xk
 IT:dI K "more" "Cursor.more" (AA 49 1) t.UD t.XN
 zg:dI K "peek" "Cursor.peek" (AA 49 2) t.T3 t.WV
 zK:dI K "ask" "Cursor.ask" (AA 49 3) t.Rt t.WX
 MM:dI K "take" "Cursor.take" (AA 49 4) t.Vo t.Xf
 IG:dI K "take_choice" "Cursor.take_choice" (AA 49 5) t.RY t.Xc
 FZ:dI K "take_name" "Cursor.take_name" (AA 49 6) t.Ub t.Yi
 Wx:dI K "take_signs" "Cursor.take_signs" (AA 49 7) t.RI t.Yv
 Ey:dI K "__init__" "GoneRow.__init__" (AA 62 0) t.KI t.O7
 QV:dI K "__init__" "Tinted.__init__" (AA 63 0) t.FL t.QF
 pM:dI K "rows" "Tinted.rows" (AA 63 1) t.Ir t.Nc
 OI:dI K "colours" "Tinted.colours" (AA 63 3) t.HM t.Oq
 EJ:dI K "marks" "Tinted.marks" (AA 63 4) t.Fi t.Qz
 zx:dI K "change" "Tinted.change" (AA 63 5) t.E2 t.Qh
 CG:dI K "put" "Tinted.put" (AA 63 6) t.Bt t.HG
 BP:dI K "cut" "Tinted.cut" (AA 63 7) t.Ce t.El
 Gu:dI K "go_over" "Tinted.go_over" (AA 63 9) t.EY t.NC
 PZ:dI K "go_on" "Tinted.go_on" (AA 63 10) t.J6 t.Py
 Bl:dI K "modes_ahead" "Tinted.modes_ahead" (AA 63 11) t.EK t.Pw
 Bk:dI K "gone_row" "Tinted.gone_row" (AA 63 12) t.KH t.Pj
 zf:dI K "ask_row" "Tinted.ask_row" (AA 63 13) t.Bh t.JT
 pK:dI K "ask_place" "Tinted.ask_place" (AA 63 14) t.B8 t.IB
 BG:dI K "ask_places" "Tinted.ask_places" (AA 63 15) t.B5 t.IY
 Nb:dI K "ask_taken" "Tinted.ask_taken" (AA 63 16) t.Jt t.P6
 P9:dI K "__init__" "Deed.__init__" (AA 67 0) t.GV t.Ol
 Q0:dI K "__init__" "Scribe.__init__" (AA 68 0) t.Jw t.Pu
 OR:dI K "text" "Scribe.text" (AA 68 1) t.JZ t.Nd
 E6:dI K "folds" "Scribe.folds" (AA 68 2) t.HU t.ND
 Ho:dI K "marks" "Scribe.marks" (AA 68 3) t.Gw t.Q2
 NW:dI K "set_mark" "Scribe.set_mark" (AA 68 4) t.Jj t.OD
 M8:dI K "drop_mark" "Scribe.drop_mark" (AA 68 5) t.Hv t.Pe
 yy:dI K "put" "Scribe.put" (AA 68 6) t.BD t.JF
 CA:dI K "cut" "Scribe.cut" (AA 68 7) t.BZ t.FD
 IZ:dI K "keep" "Scribe.keep" (AA 68 8) t.Fd t.P5
 BQ:dI K "undo" "Scribe.undo" (AA 68 9) t.BX t.Fo
 Cg:dI K "redo" "Scribe.redo" (AA 68 10) t.Cd t.IU
 arp:dI K "__init__" "Line.__init__" (AA 78 0) t.apx t.arU
 ar6:dI K "__init__" "Desk.__init__" (AA 79 0) t.aoL t.arz
 aju:dI K "say" "Desk.say" (AA 79 1) t.ajR t.amk
 art:dI K "all_rows" "Desk.all_rows" (AA 79 2) t.apA t.asj
 zd:dI K "is_name" "is_name" (top 22) t.ID t.Nj
 JK:ac mg "is_name" t.ID
 J4:dI K "copied_rules" "copied_rules" (top 26) t.KZ t.Pd
 Ro:ac mg "copied_rules" t.KZ
 HR:dI K "copied_mode" "copied_mode" (top 27) t.EC t.OE
 SS:ac mg "copied_mode" t.EC
 GW:dI K "copied_rule" "copied_rule" (top 28) t.GQ t.PY
 VJ:ac mg "copied_rule" t.GQ
 xY:dI K "first_rule" "first_rule" (top 31) t.Im t.PV
 Hh:ac mg "first_rule" t.Im
 yS:dI K "do_deed" "do_deed" (top 32) t.F7 t.Qo
 HE:ac mg "do_deed" t.F7
 Jo:dI K "ask_rings" "ask_rings" (top 33) t.Hi t.QM
 Ri:ac mg "ask_rings" t.Hi
 Kl:dI K "ring_of" "ring_of" (top 34) t.J2 t.NT
 UR:ac mg "ring_of" t.J2
 zP:dI K "short_rows" "short_rows" (top 35) t.Ao t.JN
 LA:ac mg "short_rows" t.Ao
 yu:dI K "ring_from" "ring_from" (top 36) t.HD t.NX
 Gk:ac mg "ring_from" t.HD
 yp:dI K "idle_rule" "idle_rule" (top 37) t.Iu t.M7
 IC:ac mg "idle_rule" t.Iu
 alO:dI K "piece_of" "piece_of" (top 38) t.aoJ t.arP
 atU:ac mg "piece_of" t.aoJ
 ajg:dI K "tint_of" "tint_of" (top 40) t.aiz t.aoz
 aq4:ac mg "tint_of" t.aiz
 aje:dI K "shown_run" "shown_run" (top 41) t.aiy t.alC
 aqo:ac mg "shown_run" t.aiy
 Hw:dI K "read_rules" "read_rules" (top 50) t.Fw t.Q9
 Vm:ac mg "read_rules" t.Fw
 E8:dI K "mode_numbers" "mode_numbers" (top 51) t.Ep t.Ql
 Vu:ac mg "mode_numbers" t.Ep
 Et:dI K "read_mode" "read_mode" (top 52) t.Ff t.Ov
 RQ:ac mg "read_mode" t.Ff
 KQ:dI K "read_rule" "read_rule" (top 53) t.Fl t.Nu
 RA:ac mg "read_rule" t.Fl
 JC:dI K "read_pattern" "read_pattern" (top 54) t.II t.QX
 RM:ac mg "read_pattern" t.II
 Ks:dI K "read_goal" "read_goal" (top 55) t.GN t.Q6
 Tj:ac mg "read_goal" t.GN
 Gg:dI K "folds" "folds" (top 57) t.Jr t.M6
 Gj:dI K "gone_over" "gone_over" (top 60) t.EX t.PX
 Vy:ac mg "gone_over" t.EX
 xQ:dI K "same_ahead" "same_ahead" (top 64) t.Gd t.QH
 Kf:ac mg "same_ahead" t.Gd
 zJ:dI K "same_back" "same_back" (top 65) t.AF t.Fe
 Lz:ac mg "same_back" t.AF
 HL:dI K "place_put" "place_put" (top 69) t.Kr t.Qc
 Rl:ac mg "place_put" t.Kr
 J0:dI K "place_cut" "place_cut" (top 70) t.Kg t.P4
 Si:ac mg "place_cut" t.Kg
 ain:dI K "read_line" "read_line" (top 80) t.aiF t.anh
 ap4:ac mg "read_line" t.aiF
 anw:dI K "is_word" "is_word" (top 81) t.apu t.asP
 atm:ac mg "is_word" t.apu
 anz:dI K "is_number" "is_number" (top 82) t.apv t.asG
 auB:ac mg "is_number" t.apv
 amE:dI K "counted" "counted" (top 83) t.amh t.asM
 atj:ac mg "counted" t.amh
 amb:dI K "do_by_hand" "do_by_hand" (top 84) t.anr t.aro
 auK:ac mg "do_by_hand" t.anr
 aiX:dI K "told" "told" (top 85) t.aiA t.amr
 aqa:ac mg "told" t.aiA
 aiJ:dI K "shown_mark" "shown_mark" (top 86) t.aio t.aoi
 aqi:ac mg "shown_mark" t.aio
 ajd:dI K "shown_place" "shown_place" (top 88) t.aja t.amw
 aq6:ac mg "shown_place" t.aja
 anv:dI K "hidden_rules" "hidden_rules" (top 89) t.amH t.ar8
 as5:ac mg "hidden_rules" t.amH
 cA:dI K "_law_draw" "_law_draw" (top 91) t.Jc t.Qk
 dR:ac mg "_law_draw" t.Jc
 qj:dI K "_law_number" "_law_number" (top 92) t.Em t.NS
 xy:ac mg "_law_number" t.Em
 aoe:dI K "_law_good" "_law_good" (top 93) t.alI t.aso
 auy:ac mg "_law_good" t.alI
 anS:dI K "_law_odd" "_law_odd" (top 94) t.aoY t.asJ
 atz:ac mg "_law_odd" t.aoY
 alJ:dI K "_law_is_number" "_law_is_number" (top 95) t.anI t.asT
 aue:ac mg "_law_is_number" t.anI
 aos:dI K "_law_is_line" "_law_is_line" (top 96) t.aov t.asV
 atJ:ac mg "_law_is_line" t.aov
 adD:dI K "_law_word" "_law_word" (top 97) t.aoh t.arF
 agJ:ac mg "_law_word" t.aoh
 alF:dI K "_law_answer" "_law_answer" (top 98) t.aoS t.asz
 atD:ac mg "_law_answer" t.aoS
 afJ:dI K "_law_is_place" "_law_is_place" (top 99) t.ant t.asd
 aip:ac mg "_law_is_place" t.ant
 anQ:dI K "_law_moving" "_law_moving" (top 100) t.aoB t.as1
 aum:ac mg "_law_moving" t.aoB
 aoP:dI K "_law_marking" "_law_marking" (top 101) t.apl t.asu
 atL:ac mg "_law_marking" t.apl
 ahE:dI K "_law_due" "_law_due" (top 102) t.amR t.asm
 alP:ac mg "_law_due" t.amR
 alR:dI K "_law_reading" "_law_reading" (top 103) t.apk t.arG
 atc:ac mg "_law_reading" t.apk
 amt:dI K "_law_spoiled" "_law_spoiled" (top 104) t.anf t.asI
 atZ:ac mg "_law_spoiled" t.anf
 sP:ac mg "folds_folds" t.Jr
 sr:pH K t.iV
 LN:Mk K t.iV t.Ez
 kD:b8 K t.iV "wanted"
 Xd:Meth K t.iV "eaten" t.CH
 WO:Meth K t.iV "eats" t.BW
 Aq:pH K t.kO
 Vt:Mk K t.kO t.Ib
 rj:b8 K t.kO "signs"
 Xz:Meth K t.kO "eaten" t.Cr
 WH:Meth K t.kO "eats" t.BR
 oR:pH K t.ee
 Ai:Mk K t.ee t.Es
 mw:b8 K t.ee "signs"
 Xu:Meth K t.ee "eaten" t.Cu
 Yh:Meth K t.ee "eats" t.Cp
 wB:pH K t.iZ
 MX:Mk K t.iZ t.ES
 pZ:b8 K t.iZ "signs"
 WL:Meth K t.iZ "eaten" t.B9
 YH:Meth K t.iZ "eats" t.Cm
 Wa:pH K t.mW
 Tg:Yr K t.mW
 Zl:Meth K t.mW "eaten" t.Ll
 YY:Meth K t.mW "eats" t.Ml
 EZ:pH K t.iJ
 E7:Yr K t.iJ
 Yg:Meth K t.iJ "eaten" t.BY
 v9:Meth K t.iJ "eats" t.vG
 Vz:pH K t.mU
 Vj:Yr K t.mU
 Xy:Meth K t.mU "eaten" t.BH
 zV:Meth K t.mU "eats" t.vG
 cW:pH K t.jL
 Ck:Mk K t.jL t.Fq
 gj:b8 K t.jL "pattern"
 kj:b8 K t.jL "colour"
 iw:b8 K t.jL "deed"
 jR:b8 K t.jL "goal"
 jW:b8 K t.jL "fold"
 gF:pH K t.fE
 Cb:Mk K t.fE t.Ie
 jT:b8 K t.fE "name"
 kq:b8 K t.fE "colour"
 gJ:b8 K t.fE "rules"
 jf:pH K t.kg
 xO:Mk K t.kg t.Iz
 d7:b8 K t.kg "modes"
 bx:pH K t.dW
 DS:Mk K t.dW t.Ur
 qp:b8 K t.dW "row"
 jF:b8 K t.dW "words"
 jh:b8 K t.dW "at"
 Lg:Meth K t.dW "more" t.UD
 AB:Meth K t.dW "peek" t.T3
 DM:Meth K t.dW "ask" t.Rt
 SA:Meth K t.dW "take" t.Vo
 LV:Meth K t.dW "take_choice" t.RY
 Lj:Meth K t.dW "take_name" t.Ub
 ZG:Meth K t.dW "take_signs" t.RI
 cB:pH K t.cj
 tZ:Mk K t.cj t.KI
 cU:b8 K t.cj "signs"
 i0:b8 K t.cj "before"
 mD:b8 K t.cj "tints"
 iY:b8 K t.cj "behind"
 kQ:b8 K t.cj "folded"
 aL:pH K t.bA
 Dm:Mk K t.bA t.FL
 jA:b8 K t.bA "rules"
 aW:b8 K t.bA "gone_rows"
 rE:Meth K t.bA "rows" t.Ir
 Wz:Meth K t.bA "colours" t.HM
 QJ:Meth K t.bA "marks" t.Fi
 Bw:Meth K t.bA "change" t.E2
 NK:Meth K t.bA "put" t.Bt
 Qs:Meth K t.bA "cut" t.Ce
 NY:Meth K t.bA "go_over" t.EY
 Yk:Meth K t.bA "go_on" t.J6
 G5:Meth K t.bA "modes_ahead" t.EK
 Ig:Meth K t.bA "gone_row" t.KH
 Jz:Meth K t.bA "ask_row" t.Bh
 t9:Meth K t.bA "ask_place" t.B8
 PB:Meth K t.bA "ask_places" t.B5
 Yl:Meth K t.bA "ask_taken" t.Jt
 fW:pH K t.dw
 MG:Mk K t.dw t.GV
 oU:b8 K t.dw "row"
 lN:b8 K t.dw "taken"
 lE:b8 K t.dw "given"
 jt:b8 K t.dw "places_ahead"
 gw:b8 K t.dw "places_behind"
 aN:pH K t.aG
 Dt:Mk K t.aG t.Jw
 bN:b8 K t.aG "tinted"
 bH:b8 K t.aG "places"
 fR:b8 K t.aG "done"
 eS:b8 K t.aG "undone"
 WN:Meth K t.aG "text" t.JZ
 P7:Meth K t.aG "folds" t.HU
 QZ:Meth K t.aG "marks" t.Gw
 Yd:Meth K t.aG "set_mark" t.Jj
 XI:Meth K t.aG "drop_mark" t.Hv
 E3:Meth K t.aG "put" t.BD
 QT:Meth K t.aG "cut" t.BZ
 Ph:Meth K t.aG "keep" t.Fd
 Px:Meth K t.aG "undo" t.BX
 Q8:Meth K t.aG "redo" t.Cd
 Mf:pH K t.ZL
 aqG:Mk K t.ZL t.apx
 GC:b8 K t.ZL "head"
 abx:b8 K t.ZL "names"
 aab:b8 K t.ZL "numbers"
 abM:b8 K t.ZL "body"
 aah:pH K t.Ru
 aqQ:Mk K t.Ru t.aoL
 Ud:b8 K t.Ru "scribe"
 aph:Meth K t.Ru "say" t.ajR
 au4:Meth K t.Ru "all_rows" t.apA
 rD:Dq K t.kh
 ahH:Dq K t.Ny
 ack:W.excIn K t.Ny VE "ValueError.__new__" = true
 aaA:Dq K t.A5
 aax:W.findIn K (.ref t.A5) "__init__" = some (some (.ref t.ajI))/\W.isFn K (.ref t.ajI)=true/\W.keepIn K (.ref t.A5)=true
 acJ:b8 K t.A5 "row"
 acf:b8 K t.A5 "word"
 acm:Dq K t.Jh
 afz:W.findIn K (.ref t.Jh) "__init__" = some (some (.ref t.ajv))/\W.isFn K (.ref t.ajv)=true/\W.keepIn K (.ref t.Jh)=true
 agG:b8 K t.Jh "ring"
 ahh:b8 K t.Jh "sign"
 aid:Dq K t.M5
 agm:W.excIn K t.M5 VE "ValueError.__new__" = true
 vL:Dq K t.cK
 jG:W.excIn K t.cK VE "ValueError.__new__" = true
 uQ:Dq K t.dN
 uu:W.excIn K t.dN VE "ValueError.__new__" = true
 acv:W.mroIn K t.Ny (.ref t.kh)=some true
 abX:W.mroIn K t.A5 (.ref t.kh)=some true
 acK:W.mroIn K t.Jh (.ref t.kh)=some true
 acy:W.mroIn K t.M5 (.ref t.kh)=some true
 nG:W.mroIn K t.cK (.ref t.kh)=some true
 nA:W.mroIn K t.dN (.ref t.kh)=some true
 abB:W.specialIn K (.ref t.kh) "__getattribute__" = some (some (.builtin "type.__getattribute__"))/\W.readsIn K t.kh (.type "type")=true/\W.findCls K (.ref t.kh) (.type "type") "__init__" = some (.val (.builtin "ValueError.__init__"))
 aeo:W.kitOne K (.ref t.Ny) (.ref t.Ny)=some true
 adC:W.kitOne K (.ref t.Ny) (.ref t.A5)=some false
 aeU:W.kitOne K (.ref t.Ny) (.ref t.Jh)=some false
 aee:W.kitOne K (.ref t.Ny) (.ref t.M5)=some false
 adU:W.kitOne K (.ref t.Ny) (.ref t.cK)=some false
 adE:W.kitOne K (.ref t.Ny) (.ref t.dN)=some false
 adQ:W.kitOne K (.ref t.A5) (.ref t.Ny)=some false
 acY:W.kitOne K (.ref t.A5) (.ref t.A5)=some true
 aet:W.kitOne K (.ref t.A5) (.ref t.Jh)=some false
 adY:W.kitOne K (.ref t.A5) (.ref t.M5)=some false
 ade:W.kitOne K (.ref t.A5) (.ref t.cK)=some false
 acS:W.kitOne K (.ref t.A5) (.ref t.dN)=some false
 aeV:W.kitOne K (.ref t.Jh) (.ref t.Ny)=some false
 aeb:W.kitOne K (.ref t.Jh) (.ref t.A5)=some false
 afU:W.kitOne K (.ref t.Jh) (.ref t.Jh)=some true
 aeX:W.kitOne K (.ref t.Jh) (.ref t.M5)=some false
 aed:W.kitOne K (.ref t.Jh) (.ref t.cK)=some false
 aea:W.kitOne K (.ref t.Jh) (.ref t.dN)=some false
 aec:W.kitOne K (.ref t.M5) (.ref t.Ny)=some false
 adp:W.kitOne K (.ref t.M5) (.ref t.A5)=some false
 aeO:W.kitOne K (.ref t.M5) (.ref t.Jh)=some false
 aeh:W.kitOne K (.ref t.M5) (.ref t.M5)=some true
 adF:W.kitOne K (.ref t.M5) (.ref t.cK)=some false
 adJ:W.kitOne K (.ref t.M5) (.ref t.dN)=some false
 adw:W.kitOne K (.ref t.cK) (.ref t.Ny)=some false
 acU:W.kitOne K (.ref t.cK) (.ref t.A5)=some false
 aef:W.kitOne K (.ref t.cK) (.ref t.Jh)=some false
 adT:W.kitOne K (.ref t.cK) (.ref t.M5)=some false
 oX:W.kitOne K (.ref t.cK) (.ref t.cK)=some true
 adn:W.kitOne K (.ref t.cK) (.ref t.dN)=some false
 adu:W.kitOne K (.ref t.dN) (.ref t.Ny)=some false
 acO:W.kitOne K (.ref t.dN) (.ref t.A5)=some false
 aeA:W.kitOne K (.ref t.dN) (.ref t.Jh)=some false
 ady:W.kitOne K (.ref t.dN) (.ref t.M5)=some false
 acM:W.kitOne K (.ref t.dN) (.ref t.cK)=some false
 oW:W.kitOne K (.ref t.dN) (.ref t.dN)=some true
 abQ:W.kitOne K (.ref t.Ny) (.type "ValueError")=some true
 abL:W.kitOne K (.ref t.A5) (.type "ValueError")=some true
 acF:W.kitOne K (.ref t.Jh) (.type "ValueError")=some true
 abP:W.kitOne K (.ref t.M5) (.type "ValueError")=some true
 abK:W.kitOne K (.ref t.cK) (.type "ValueError")=some true
 abJ:W.kitOne K (.ref t.dN) (.type "ValueError")=some true
 cg:W.specialIn K (.builtin "object.__class__") "__get__" = some (some (.builtin "getset_descriptor.__get__"))
 ct:W.takesIn K (.builtin "object.__class__")=some true
 aqx:W.findIn K (.ref t.iV) "__class__" = some (some (.builtin "object.__class__"))
 aqW:W.mroIn K t.iV (.type "object")=some true
 atN:W.findIn K (.ref t.kO) "__class__" = some (some (.builtin "object.__class__"))
 aut:W.mroIn K t.kO (.type "object")=some true
 aiC:W.findIn K (.ref t.ee) "__class__" = some (some (.builtin "object.__class__"))
 ajf:W.mroIn K t.ee (.type "object")=some true
 aqv:W.findIn K (.ref t.iZ) "__class__" = some (some (.builtin "object.__class__"))
 aqU:W.mroIn K t.iZ (.type "object")=some true
 at7:W.findIn K (.ref t.mW) "__class__" = some (some (.builtin "object.__class__"))
 as9:W.mroIn K t.mW (.type "object")=some true
 alV:W.findIn K (.ref t.iJ) "__class__" = some (some (.builtin "object.__class__"))
 aoT:W.mroIn K t.iJ (.type "object")=some true
 ate:W.findIn K (.ref t.mU) "__class__" = some (some (.builtin "object.__class__"))
 auD:W.mroIn K t.mU (.type "object")=some true
 agc:W.kitOne K (.ref t.iV) (.ref t.iV)=some true
 agS:W.kitOne K (.ref t.kO) (.ref t.iV)=some false
 aej:W.kitOne K (.ref t.ee) (.ref t.iV)=some false
 afY:W.kitOne K (.ref t.iZ) (.ref t.iV)=some false
 agU:W.kitOne K (.ref t.mW) (.ref t.iV)=some false
 afj:W.kitOne K (.ref t.iJ) (.ref t.iV)=some false
 agE:W.kitOne K (.ref t.mU) (.ref t.iV)=some false
 yT:∃u,mg "LETTERS" = some u/\RelV (.str "abcdefghijklmnopqrstuvwxyz") u
 qM:∃u,mg "LONGEST_NAME" = some u/\RelV (.int 8) u
 nJ:∃u,mg "START" = some u/\RelV (.int 0) u
 C0:∃u,mg "SIGNS" = some u/\RelV (.str " !\"#$&'()*+,-./0123456789:;<=>?@ABCDEFGHIJKLMNOPQRSTUVWXYZ[\\]^_`abcdefghijklmnopqrstuvwxyz{|}~") u
 uw:∃u,mg "MOST_MODES" = some u/\RelV (.int 12) u
 sV:∃u,mg "MOST_RULES" = some u/\RelV (.int 12) u
 xq:ac mg "PATTERNS" t.lS
 zq:∀H,bT K H t.lS [.str "word",.str "one",.str "none",.str "many",.str "any",.str "still",.str "end"]
 Dv:ac mg "DEEDS" t.sj
 J5:∀H,bT K H t.sj [.str "stay",.str "push",.str "pop",.str "into"]
 Dz:ac mg "GOING" t.xg
 JU:∀H,bT K H t.xg [.str "push",.str "into"]
 CL:ac mg "FOLDS" t.rT
 Jx:∀H,bT K H t.rT [.str "open",.str "close"]
 aih:∃u,mg "FIGURES" = some u/\RelV (.str "0123456789") u
 aeg:∃u,mg "MOST_FIGURES" = some u/\RelV (.int 4) u
 adm:ac mg "LISTED" t.aaC
 acj:DcK K t.pr t.aaC [("rules",.ref t.ada),("put",.ref t.acT),("cut",.ref t.acN),("undo",.ref t.acR),("redo",.ref t.adk),("mark",.ref t.adb),("drop",.ref t.acV),("marks",.ref t.acW),("row",.ref t.adi),("tint",.ref t.acP),("folds",.ref t.acd),("never",.ref t.abR)]
 ahr:∀H,bT K H t.ada []
 aik:∀H,bT K H t.acT [.str "ROW",.str "AT"]
 ahx:∀H,bT K H t.acN [.str "ROW",.str "AT",.str "ROW",.str "AT"]
 ahG:∀H,bT K H t.acR []
 ahP:∀H,bT K H t.adk []
 ahp:∀H,bT K H t.adb [.str "NAME",.str "ROW",.str "AT"]
 ahs:∀H,bT K H t.acV [.str "NAME"]
 ail:∀H,bT K H t.acW []
 aij:∀H,bT K H t.adi [.str "ROW"]
 ahW:∀H,bT K H t.acP [.str "ROW"]
 agM:∀H,bT K H t.acd []
 agL:∀H,bT K H t.abR []
 agb:ac mg "WITH_TEXT" t.abZ
 agH:∀H,bT K H t.abZ [.str "rules",.str "put"]
 aeM:ac mg "COUNTED" t.aaP
 afD:∀H,bT K H t.aaP [.str "put",.str "cut",.str "undo",.str "redo"]
 aeK:ac mg "BY_HAND" t.aaO
 afl:∀H,bT K H t.aaO [.str "mark",.str "drop"]
 agI:mg "ValueError" = none
 Yq:mg "all" = none
 qN:mg "dict" = none
 mY:mg "enumerate" = none
 XZ:mg "int" = none
 pP:mg "isinstance" = none
 bD:mg "len" = none
 jn:mg "list" = none
 Oj:mg "max" = none
 iG:mg "range" = none
 uo:mg "reversed" = none
 yW:mg "sorted" = none
 aeL:mg "str" = none
 aqA:mg "tuple" = none
 X3:mg "zip" = none
variable(T:Txt K mg t)
local macro_rules | `(tactic| walk_at "rd")=>`(tactic| simp only [$[$("L2.Yz L2.Bc L2.tIf L2.tB L2.WD_i L2.isI_i L2.isF_i L2.YX_i L2.Wf L2.Wj L2.vm L2.qw L2.LG_i L2.tC L2.start L2.rI_i L2.Ra_i L2.p9 L2.WJ L2.K8 L2.tOr L2.Xp L2.Wy L2.WM L2.tUn L2.rEq_i L2.rNe_i L2.Ui L2.XE_i L2.IF L2.IA L2.Nr L2.Ke L2.O6 L2.tBM L2.Wo L2.YA L2.ipI L2.NF L2.Wm L2.QA L2.tSl L2.N6 L2.Co L2.zk_i L2.nv Option.join_some Option.join_none if_true if_false Bool.false_eq_true List.map_cons List.map_nil List.length_cons List.length_nil List.replicate List.cons_append List.nil_append List.append_nil List.getElem?_cons_zero List.getElem?_cons_succ List.set_cons_zero List.set_cons_succ Option.some.injEq exists_eq_left' exists_eq_left L2.V.int.injEq L2.V.str.injEq L2.V.ref.injEq L2.V.bl.injEq List.cons.injEq and_true true_and and_assoc exists_and_left exists_eq exists_const".splitOn.toArray.map (Lean.mkCIdent ·.toName)):ident],*])
local macro_rules | `(tactic| walk_at "ck")=>`(tactic| (constructor<;>first|lk|rfl))
section
def isName (z:Str):Bool:=decide (1<=z.length) && decide (z.length<=8) && z.l.all λc=>decide (c∈(Str.ofString "abcdefghijklmnopqrstuvwxyz").l)
inductive Jk(vs:q7)(H:Hp)(Q:VK)(_:XK):Prop|mk(z:Str)(_:vs=[.str z])(_:z.length<=100000)(_:∀H',af H H'->Q (.bl (isName z)) H')
def Iq:bE P w K mg ap dJ 1 t.ID t.Nj ["word"] Jk:=by
 refine T.zd.ok Td λs H Q E h=>?_;obtain⟨z,rfl,u,q⟩:=h;room;refine aG (λC=>∀a,a=H->1<=z.length->z.length<=8->C [τ z] a) (bq (PW.pt (jz (aA fX (ez bz T.bD (bQ br)) ai (aE _)) (jk (aA j9 (ez bz T.bD (bQ br)) (iF rfl T.qM) (aE _))))) ay ay) ?_ ?_
 .walk_at "rd";refine⟨bK (by lia),dM (λh=>by refine av (aQ k7) ?_;have:=q H (af.refl H);rw[isName,ab2 (by lia)] at this;exact this) (λh=>by refine⟨bK (by lia),dM (λh=>?_) (λh=>bg (λ_ k=>k _ rfl (by lia) (by lia)))⟩;refine av (aQ k7) ?_;have:=q H (af.refl H);rw[isName,ab2 (p:=z.length<=8) (by lia),Bool.and_false] at this;exact this)⟩
 intro a e j l;rw[e];clear e a;refine av (aQ (ez (Ef rfl) T.Yq (bQ (iM (sc:=az (top 22)) (N:=["word"]) (x:="sign") (caps:=[]) (by walk_at "ck") (Tc br) (λ_ _ _ _=>(eW kP br (iF rfl T.yT) rfl)))))) ?_;refine⟨z,rfl,EI (λi b d=>d=H/\b=(z.l.take i).map λc=>V.bl (decide (c∈(Str.ofString "abcdefghijklmnopqrstuvwxyz").l))) ⟨rfl,rfl⟩ (cL (by lia)) ?_ (by rintro b d hl ⟨rfl,rfl⟩ D r;refine⟨D,(z.l.map λc=>decide (c∈(Str.ofString "abcdefghijklmnopqrstuvwxyz").l)),rfl,aV.of (by rw[aa,ac1 (by simp[Str.length]),ag3];rfl),?_⟩;have:=q _ (af.ag (o:=.lst (((z.l.take z.length)).map λc=>V.bl (decide (c∈(Str.ofString "abcdefghijklmnopqrstuvwxyz").l)))) r);rw[isName,ab4 j,ab4 l] at this;exact List.all_map▸this)⟩
 .rintro i c b d g hl ⟨rfl,rfl⟩;have n:i<z.length:=by have:=(d6.mp g).1;simpa [Str.length] using this
  refine⟨_,_,rfl,rfl,?_⟩;rw[af8];refine fQ n hl ⟨rfl,?_⟩;rw[List.take_succ,g,o0];rfl
noncomputable def cf (bb:Int) (lw:Addr) (i:Nat):List (Str×V):=[("row",.int bb),("words",.ref lw),("at",.int i)]
structure pJ(t:eZ)(H:Hp)(p dx lw:Addr)(bb:Int)(ws:a9)(i:Nat):Prop where
 ob:H p=s0 t.dW dx (cf bb lw i)
 ls:H lw=r6 (ws.map V.str)
 sz:ws.length<=1000/\∀w∈ws,w.length<=100000
def pJ.ne(c:pJ t H p dx lw bb ws i):p≠lw:=bL c.ob c.ls
def pJ.ae(c:pJ t H p dx lw bb ws i)(s:af H H'):pJ t H' p dx lw bb ws i:=⟨s _ _ c.ob,s _ _ c.ls,c.sz⟩
noncomputable def pk (ws:a9) (i:Nat):Str:=ws.getD i ""
def O1(h:i<ws.length):pk ws i=ws[i]:=by simp[pk,h]
def Qv   (h:ws.length<=i):pk ws i = "" := by unfold pk;rw[ac8,ad7 h];rfl
def pJ.pkl(c:pJ t H p dx lw bb ws i):(pk ws i).length<=100000:=by
 by_cases h:i<ws.length
 .rw[O1 h];exact c.sz.2 _ (ag2 h)
 .rw[Qv (by lia)];decide
inductive Mr(t:eZ)(vs:q7)(H:Hp)(Q:VK)(_:XK):Prop|mk(p dx:Addr)(bb:Int)(text:Str)(_:vs=[.ref p,.int bb,.str text])(_:H p=s0 t.dW dx [])(_:text.length<=100000)(_:(Txt.split text ⟨#[32]⟩).length<=1000)(_:∀lw H',H lw=none->pJ t H' p dx lw bb (Txt.split text ⟨#[32]⟩) 0->fY H H' p->Q .dj H')
def Xi:bE P w K mg ap dJ 1 t.Ur t.Xk ["self","row","text"] (Mr t):=by
 refine T.WU.ok Xo λr H Q E h=>?_;obtain⟨p,d,bb,f,rfl,i,j,l,q⟩:=h;room;refine ak (b6 br bP rfl) ⟨p,_,d,[],rfl,i,T.bx,T.qp,by decide,?_⟩;refine ak (b6 br (cV ae2 ag1 aj8 kM cG (bQ aZ)) rfl) ?_;refine⟨rfl,_,_,rfl,rfl,by decide,bK (by lia),λlw hl=>⟨p,_,d,[("row",.int bb)],rfl,by rw[aj (au aa hl)];exact aa,T.bx,T.jF,by show 1<1000;decide,?_⟩⟩
 have a:=au aa hl;refine av (b6 br ai rfl) ⟨p,_,d,[("row",.int bb),("words",.ref lw)],rfl,aa,T.bx,T.jh,by show 2<1000;decide,?_⟩;have c:H lw=none:=by rw[aj (aa4 a)] at hl;exact hl
 refine q lw _ c ⟨aa,by rw[aj (aa4 a),aj (aa4 a),aa];rfl,l,λw n=>ac2 (PyProof.Rows.part_short n) j⟩ λb o g e=>by rw[aj e,aj e,aj (au g c),aj e];exact g
inductive VO(t:eZ)(vs:q7)(H:Hp)(Q:VK)(_:XK):Prop|mk(p dx lw:Addr)(bb:Int)(ws:a9)(i:Nat)(_:vs=[.ref p])(_:pJ t H p dx lw bb ws i)(_:Q (.bl (decide (i<ws.length))) H)
def Cn:bE P w K mg ap dJ 1 t.UD t.XN ["self"] (VO t):=by
 refine T.IT.ok Xq λb H Q E h=>?_;obtain⟨p,c,d,bb,a,i,rfl,C,q⟩:=h;room;refine av (aQ (eW fX (aM br rfl) (ez aD T.bD (bQ (aM br rfl))) (aE _))) ?_;simp only[Ui,Wf,Wj,vm,qw];refine Ms rfl C.ob T.bx T.jh rfl ?_;refine Ms rfl C.ob T.bx T.jF rfl ?_;refine⟨_,_,rfl,.inl (aV.of C.ls),.mk ?_⟩;rw[d5];have e:decide ((i:Int)<(a.length:Int))=decide (i<a.length):=by simp
 show Q (.bl (decide ((i:Int)<(a.length:Int)))) H;exact e▸q
inductive SW(t:eZ)(vs:q7)(H:Hp)(Q:VK)(_:XK):Prop|mk(p dx lw:Addr)(bb:Int)(ws:a9)(i:Nat)(_:vs=[.ref p])(_:pJ t H p dx lw bb ws i)(_:Q (.str (pk ws i)) H)
def tG:bE P w K mg ap dJ 2 t.T3 t.WV ["self"] (SW t):=by
 refine T.zg.ok WW λd H Q E h=>?_;obtain⟨p,a,c,bb,b,i,rfl,C,q⟩:=h;room;refine av (aQ (dc (gR (bR br T.bx T.Lg (Cn T) hr.m T.IT.b1 .nil aH)) (aC aU (aM br rfl) (aM br rfl)) aZ)) ?_;refine⟨C.ob,rfl,p,a,c,bb,b,i,rfl,C,.mk<|dM (λh=>by refine Ms rfl C.ob T.bx T.jF rfl ?_;refine Ms rfl C.ob T.bx T.jh rfl ?_;refine⟨aV.of C.ls,aB ?_,q⟩;rw[v3,i4 h,O1 h];rfl) (λh=>by rw[Qv (by lia)] at q;exact q)⟩
inductive XQ(vs:q7)(H:Hp)(Q:VK)(_:XK):Prop|mk(p:V)(_:vs=[p,.bl true])(_:Q .dj H)
def vn:bE P w K mg ap dJ 1 t.Rt t.WX ["self","good"] XQ:=by refine T.zK.ok Xs λa H Q E h=>?_;obtain⟨p,rfl,q⟩:=h;room;refine av (bq (g9 (gR bP)) ay ay) ⟨mH (bg q)⟩
inductive VU(t:eZ)(vs:q7)(H:Hp)(Q:VK)(_:XK):Prop|mk(p dx lw:Addr)(bb:Int)(ws:a9)(i:Nat)(_:vs=[.ref p,.bl true])(_:pJ t H p dx lw bb ws i)(_:∀H',pJ t H' p dx lw bb ws (i+1)->fY H H' p->Q (.str (pk ws i)) H')
def KC:bE P w K mg ap dJ 3 t.Vo t.Xf ["self","good"] (VU t):=by
 refine T.MM.ok Oi λe H Q E h=>?_;obtain⟨p,a,b,bb,c,i,rfl,C,q⟩:=h;room;refine ak (aY (bw br T.bx T.DM (vn T) hr.m T.zK.b2 .nil aH (bQ bP))) ⟨C.ob,rfl,_,rfl,?_⟩;refine ak (b7 2 Oi (bR br T.bx T.AB (tG T) hr.m T.zg.b1 .nil aH)) ⟨C.ob,rfl,p,a,b,bb,c,i,rfl,C,?_⟩;refine ak (Ds br ai Uu) ⟨p,_,a,_,_,rfl,C.ob,T.bx,T.jh,rfl,?_⟩;refine⟨_,_,rfl,rfl,a,_,C.ob,by show 3<1000;decide,?_⟩;refine av (aQ cG) (?_);have d:pJ t (ag H p (.ins t.dW a (cf bb b (i+1)))) p a b bb c (i+1):=⟨aa,by rw[aj (aa4 C.ne)];exact C.ls,C.sz⟩
 exact q _ d fY.ag
inductive F0(K:W.Frag)(t:eZ)(vs:q7)(H:Hp)(Q:VK)(_:XK):Prop|mk(p dx lw c:Addr)(cs:a9)(bb:Int)(ws:a9)(i:Nat)(_:vs=[.ref p,.ref c])(_:pJ t H p dx lw bb ws i)(_:bT K H c (cs.map V.str))(_:pk ws i∈cs)(_:∀H',pJ t H' p dx lw bb ws (i+1)->fY H H' p->Q (.str (pk ws i)) H')
def mS{cs:a9}:Mz (.str x) (cs.map V.str)=decide (x∈cs):=by
 unfold Mz;rw[List.any_map,af5,List.any_eq_true,ac4];constructor
 .rintro⟨y,a,e⟩;have:(y == x)=true:=e;rw[<- an0 this];exact a
 .intro h;exact⟨x,h,by show (x == x)=true;simp⟩
def vj{cs:a9}:(cs.map V.str).all jy=true:=by rw[List.all_map,aj9];intro _ _;rfl
def B4:bE P w K mg ap dJ 4 t.RY t.Xc ["self","words"] (F0 K t):=by refine T.IG.ok W8 λg H Q E h=>?_;obtain⟨p,a,d,c,j,bb,e,i,rfl,C,f,b,q⟩:=h;room;refine av (aQ (bw br T.bx T.SA (KC T) hr.m T.MM.b2 .nil aH (bQ (eW iA (bR br T.bx T.AB (tG T) hr.m T.zg.b1 .nil aH) bP rfl)))) ?_;refine⟨C.ob,rfl,?_⟩;refine⟨C.ob,rfl,p,a,d,bb,e,i,rfl,C,.inr f,rfl,vj,?_⟩;rw[mS,ab4 b];exact⟨p,a,d,bb,e,i,rfl,C,q⟩
inductive UX(t:eZ)(vs:q7)(H:Hp)(Q:VK)(_:XK):Prop|mk(p dx lw:Addr)(bb:Int)(ws:a9)(i:Nat)(_:vs=[.ref p])(_:pJ t H p dx lw bb ws i)(_:isName (pk ws i)=true)(_:∀H',pJ t H' p dx lw bb ws (i+1)->fY H H' p->Q (.str (pk ws i)) H')
def BV:bE P w K mg ap dJ 4 t.Ub t.Yi ["self"] (UX t):=by refine T.FZ.ok Xw λl H Q E h=>?_;obtain⟨p,a,d,bb,b,i,rfl,C,c,q⟩:=h;room;refine av (aQ (bw br T.bx T.SA (KC T) hr.m T.MM.b2 .nil aH (bQ (aS (Iq T) hr.m rfl T.JK T.zd.kp T.zd.b1 .nil aH (bQ (bR br T.bx T.AB (tG T) hr.m T.zg.b1 .nil aH)))))) ?_;refine⟨C.ob,rfl,?_⟩;refine⟨C.ob,rfl,p,a,d,bb,b,i,rfl,C,pk b i,rfl,C.pkl,λn e=>?_⟩;exact c▸⟨p,a,d,bb,b,i,rfl,C.ae e,λf g j=>q f g (e.K3 j)⟩
noncomputable def jq (z:Str):Str:="'" ++ Txt.replace z " " "_"
def iR(z:Str):(jq z).l=39::oq 32 95 z.l:=by unfold jq;rw[dF,show ((" " : Str))=⟨#[32]⟩ from by lk,show (("_" : Str))=⟨#[95]⟩ from by lk,m5];rfl
inductive MQ(t:eZ)(vs:q7)(H:Hp)(Q:VK)(_:XK):Prop|mk(p dx lw:Addr)(bb:Int)(ws:a9)(i:Nat)(z:Str)(_:vs=[.ref p])(_:pJ t H p dx lw bb ws i)(_:pk ws i=jq z)(_:1<=z.length)(_:z.length<=1000)(_:95∉z.l)(_:∀H',pJ t H' p dx lw bb ws (i+1)->fY H H' p->Q (.str z) H')
def UQ{w:Str}(h:1<=w.length):(Txt.slice w (some 1) none).l=w.l.drop 1:=by rw[PyProof.Rows.slice_from_eq (b:=(w.length:Int)) (by decide) (by lia) rfl];show (w.l.drop 1).take _=_;refine ac1 ?_;rw[B2,ah6];show w.length-1<=_;omega
def YD:bE P w K mg ap dJ 4 t.RI t.Yv ["self"] (MQ t):=by
 refine T.Wx.ok QE λy H Q E h=>?_;obtain⟨p,a,d,bb,f,i,z,rfl,C,l,n,o,b,q⟩:=h;room;have g:(jq z).length=z.length+1:=by have:=ac7 List.length (iR z);simpa [Str.length,oq] using this
 refine ak (b7 1 QE (bR br T.bx T.AB (tG T) hr.m T.zg.b1 .nil aH)) ⟨C.ob,rfl,p,a,d,bb,f,i,rfl,C,?_⟩;rw[l];refine ak (aY (bw br T.bx T.SA (KC T) hr.m T.MM.b2 .nil aH (bQ (Rh (eW j9 (ez bz T.bD (bQ bP)) ai (aE _)) (GD (cV ae2 al0 F.type_str_startswith zX bP (bQ aZ))))))) ?_;refine⟨C.ob,rfl,?_⟩;refine⟨_,rfl,bK (by lia),.mk<|.mk<|?_⟩;rw[ab4 (by lia),w4 rfl];refine⟨rfl,.mk ?_⟩;have c:(decide (0+("'" : Str).length<=(jq z).length) && Builtin.Str.subAt (jq z) "'" 0)=true:=by
  have j:("'" : Str).length=1:=by lk
  rw[ad4,ac4,j];refine⟨by lia,?_⟩;unfold Builtin.Str.subAt;rw[beq_iff_eq,<- ai1,j];simp only[Array.toList_extract,List.extract_eq_take_drop,(iR z)];rfl
 rw[c];refine⟨p,a,d,bb,f,i,rfl,C,λs u v=>?_⟩;refine av (aQ (Ba (by lk) bP)) ⟨_,rfl,bK (by lia),?_,?_⟩
 .have A:(Txt.slice (jq z) (some 1) none).length<=1001:=ac2 (ae6 _ _ _) (by lia);have x:(" " : Str).length=1:=by lk
  rw[x];lia
 .have e:Txt.replace (Txt.slice (jq z) (some 1) none) "_" " " = z:=by refine i8 ?_;rw[show ((" " : Str))=⟨#[32]⟩ from by lk,show (("_" : Str))=⟨#[95]⟩ from by lk,m5,UQ (by lia),iR];exact Dj b
  rw[e];exact q s u v
end
section
variable {i j i2 j2:Nat}{s z r2:Str}{H H' H1 H0 H'':Hp}{α β:Type}{S S':q0}{dx lw dm lk lg lm lr tt dt ld lu h dp lD lU sc:Addr}{cp:List (Key×V)}{on:c7}{mk:List (Nat×Str)}{ps ts:c6}{sp sp':List (Str×Nat×Nat)}{E:XK}{tk:a9}{ns:c9}
def afH (c:Nat):Bool:=decide (c∈(Str.ofString "0123456789").l)
def aaU(z:Str):Bool:=z.l.all afH
noncomputable def aoR (z:Str):Bool:=decide (0+(Str.ofString "0").length<=z.length) && Builtin.Str.subAt z "0" 0
def isNum (z:Str):Bool:=decide (1<=z.length) && decide (z.length<=4) && aaU z && (decide (z = "0") || !aoR z)
inductive avD(vs:q7)(H:Hp)(Q:VK)(_:XK):Prop|mk(z:Str)(_:vs=[.str z])(_:z.length<=1000)(_:∀H',af H H'->Q (.bl (isNum z)) H')
def ahc(h:(decide (1<=z.length) && decide (z.length<=4) && aaU z)=false):isNum z=false:=by rw[isNum,h];rfl
def aqn  (h1:1<=z.length) (h2:z.length<=4) (h3:aaU z=true):isNum z=(decide (z = "0") || !aoR z):=by rw[isNum,ab4 h1,ab4 h2,h3];rfl
def str_len:z.l.length=z.length:=by simp[Str.length]
def all_map(z:Str):((z.l.take z.length).map afH).all id=aaU z:=by
 rw[<- str_len,ab3,aaU];induction z.l with
 |nil=>rfl
 |cons a l ih=>rw[ab5,List.all_cons,List.all_cons,ih];rfl
def eA:bE P w K mg ap dJ 1 t.apv t.asG ["word"] avD:=by
 refine T.anz.ok ef λvs H Q E h=>?_;obtain⟨z,rfl,s,q⟩:=h;room;have a:z.length<=sizeLine:=ac2 s (by decide);refine aF (λn b=>n=[τ z]/\af H b/\1<=z.length/\z.length<=4/\aaU z=true) (@bq _ _ _ _ _ _ _ _ (@PW.pt _ _ _ (jz (aA fX (ez bz T.bD (bQ br)) ai (aE _)) (jz (aA j9 (ez bz T.bD (bQ br)) (iF rfl T.aeg) (aE _)) (jk (g9 (gR (ez (Ef rfl) T.Yq (bQ (iM (sc:=az (top 82)) (N:=["word"]) (x:="sign") (caps:=[]) (by walk_at "ck") (@Tc _ _ _ _ _ br) (λ_ _ _ _=>(eW kP br (iF rfl T.aih) rfl))))))))))) ay ay) ?_ ?_
 .walk_at "rd";refine⟨a,dM (λd=>av (aQ k7) ?_) λd=>⟨a,dM (λf=>av (aQ k7) ?_) λf=>?_⟩⟩
  .walk_at "rd";have:=q H (af.refl _);rw[ahc (by rw[ab2 (by lia)];rfl)] at this;exact this
  .walk_at "rd";have:=q H (af.refl _);rw[ahc (by rw[ab2 (show ¬z.length<=4 by lia),Bool.and_false];rfl)] at this;exact this
  refine⟨_,rfl,EI (λi g j=>j=H/\g=((z.l.take i).map afH).map V.bl) ⟨rfl,rfl⟩ (ak7 (show z.length<=4 by lia) (by decide)) ?_ ?_⟩
  .rintro i c g j o hl ⟨rfl,rfl⟩;have p:=(d6.mp o).1;rw[str_len] at p;refine⟨_,rfl,_,rfl,?_⟩;rw[af8];exact fQ p hl ⟨rfl,by rw[List.take_succ,o,o0,o0];rfl⟩
  .rintro g j hl ⟨rfl,rfl⟩ D r;refine⟨D,rfl,(z.l.take z.length).map afH,aV.of aa,?_⟩;rw[all_map];cases e:aaU z with
   |true=>exact mH (bg ⟨rfl,af.ag r,by lia,by lia,rfl⟩)
   |false =>
    refine zA (av (aQ k7) ?_);walk_at "rd";rw[ahc (by rw[e,Bool.and_false])] at q;exact q _ (af.ag r)
 rintro n b ⟨rfl,u,d,f,v⟩;have:=q b u;rw[aqn d f v] at this;refine av (aQ (XT (eW cC br aZ (aE _)) (GD (Ka (cV ae2 al0 F.type_str_startswith zX br (bQ aZ)))))) ?_;walk_at "rd";refine⟨rfl,?_⟩;refine dM (λl=>?_) λl=>⟨rfl,?_⟩
 .rw[ab4 l] at this;exact this
 .rw[ab2 l] at this;exact this
def ajm (k z:Str):Bool:=if k = "NAME" then !decide (z = "") else isNum z
inductive atV(vs:q7)(H:Hp)(Q:VK)(_:XK):Prop|mk(z k:Str)(_:vs=[.str z,.str k])(_:z.length<=1000)(_:∀H',af H H'->Q (.bl (ajm k z)) H')
def eB:bE P w K mg ap dJ 2 t.apu t.asP ["word","kind"] atV:=by
 refine T.anw.ok dO λvs H Q E h=>?_;obtain⟨z,k,rfl,a,q⟩:=h;room;refine av (aQ (dc (aA cC bP aZ (aE _)) (eW tX br aZ (aE _)) (aS (eA T) hr.m rfl T.auB T.anz.kp T.anz.b1 .nil aH (bQ br)))) ?_;walk_at "rd";refine⟨rfl,dM (λh=>⟨rfl,?_⟩) λh=>⟨_,rfl,a,λb c=>?_⟩⟩
 .have:=q H (af.refl _);rw[ajm,w4 h] at this;exact this
 .have:=q b c;rw[ajm,C5 h] at this;exact this
noncomputable def lf (hd:Str) (ln lm:Addr) (b:Str):List (Str×V):=[("head",.str hd),("names",.ref ln),("numbers",.ref lm),("body",.str b)]
noncomputable def acw(p:Str->Bool)(z:List (Str×Str)):a9:=(z.filter λx=>p x.2).map (·.1)
noncomputable def isNm (k:Str):Bool:=decide (k=("NAME" : Str))
def namesW(z:List (Str×Str)):a9:=acw isNm z
def aaY(z:List (Str×Str)):a9:=acw (λk=>!isNm k) z
def afG{z:List (Str×Str)}(h:z[i]?=some x):acw p (z.take (i+1))=acw p (z.take i)++if p x.2=true then [x.1] else []:=by rw[List.take_succ,h,acw,List.filter_append,o0];congr 1;cases e:p x.2 <;> simp[e]
def aq9{z:List (Str×Str)}:acw p z=acw p (z.take i)++acw p (z.drop i):=by rw[acw,acw,acw,<- o0,<- List.filter_append,List.take_append_drop]
def auk{z:List (Str×Str)}(h:z[i]?=some x)(hp:p x.2=true):(acw p z)[(acw p (z.take i)).length]?=some x.1:=by rw[aq9 (i:=i+1),afG h,w4 hp,ac0,U2 (N0 _),Nat.sub_self];rfl
def aez(zs:a9)(is:c7):Prop:=zs=is.map λ(i:Nat)=>PySem.Str.ofString (toString (i:Int))
structure abh(t:eZ)(H:Hp)(x:Addr)(hd:Str)(ns:a9)(is:c7)(b:Str):Prop where
 at_:∃dx ln lm,H x=s0 t.ZL dx (lf hd ln lm b)/\H ln=r6 (ns.map V.str)/\H lm=r6 (is.map λ(i:Nat)=>V.int i)
noncomputable def listed (t:eZ):List (Str×V):=[("rules",.ref t.ada),("put",.ref t.acT),("cut",.ref t.acN),("undo",.ref t.acR),("redo",.ref t.adk),("mark",.ref t.adb),("drop",.ref t.acV),("marks",.ref t.acW),("row",.ref t.adi),("tint",.ref t.acP),("folds",.ref t.acd),("never",.ref t.abR)]
noncomputable def ZR(hd:Str):Option a9 :=
 if hd = "rules" \/ hd = "undo" \/ hd = "redo" \/ hd = "marks" \/ hd = "folds" \/ hd = "never" then some []
 else if hd = "put" then some ["ROW","AT"] else if hd = "cut" then some ["ROW","AT","ROW","AT"]
 else if hd = "mark" then some ["NAME","ROW","AT"] else if hd = "drop" then some ["NAME"]
 else if hd = "row" \/ hd = "tint" then some ["ROW"] else none
structure Knd(t:eZ)(K:W.Frag)(hd:Str)(g:Addr)(ks:a9):Prop where
 kinds:∀H,bT K H g (ks.map V.str)
 at_:fP (listed t) hd=some (.ref g)
 few:ks.length<=4
noncomputable def jm(sg:c7):c7->Nat
 | []=>0
 |c::r=>if c∈sg then 1+jm sg r else 0
def fh(bc bi bb:Str)(i:Nat):V :=
 if bc = "end" then (if i=bb.length then .int 0 else .dj)
 else if bc = "word" then (if (bb.l.drop i).take bi.length=bi.l then .int bi.length else .dj)
 else match bb.l[i]? with
  |none=>.dj
  |some c =>
   if bc = "any" \/ bc = "still" then .int (if bc = "any" then 1 else 0)
   else if bc = "none" then (if c∈bi.l then .dj else .int 1)
   else if c∈bi.l then .int (if bc = "many" then 1+jm bi.l (bb.l.drop (i+1)) else 1) else .dj
def getL{bb:Str}:bb.l.length=bb.length:=by simp[Str.length]
def strAt{bb:Str}{i:Int}(h0:0<=i)(h1:i<bb.length):∃c,bb.l[i.toNat]?=some c/\oE bb.l i=some c:=AE _ h0 (getL▸h1)
inductive rA(C:Addr)(fl:Str->List (Str×V))(bc:Str)(vs:q7)(H:Hp)(Q:VK)(_:XK):Prop|mk(p dx:Addr)(bi bb:Str)(i:Nat)(_:vs=[.ref p,.str bb,.int i])(_:H p=s0 C dx (fl bi))(_:bi.length<=1000)(_:bb.length<=1000)(_:i<=bb.length)(_:Q (fh bc bi bb i) H)
inductive o9(b:Bool)(vs:q7)(H:Hp)(Q:VK)(_:XK):Prop|mk(p:V)(_:vs=[p])(_:Q (.bl b) H)
inductive wD(C:Addr)(f:Str)(vs:q7)(H:Hp)(Q:VK)(_:XK):Prop|mk(p dx:Addr)(z:Str)(_:vs=[.ref p,.str z])(_:H p=s0 C dx [])(_:Q .dj (ag H p (.ins C dx [(f,.str z)])))
def Uw:bE P w K mg ap dJ 1 t.Ez t.Na ["self","text"] (wD t.iV "wanted"):=by refine T.Oc.ok RL λc H Q E h=>?_;obtain⟨p,a,z,rfl,b,q⟩:=h;room;refine av (b6 br bP rfl) ?_;exact⟨p,_,a,[],rfl,b,T.sr,T.kD,by decide,q⟩
def RD:bE P w K mg ap dJ 1 t.Ib t.NI ["self","signs"] (wD t.kO "signs"):=by refine T.Qp.ok Uh λc H Q E h=>?_;obtain⟨p,a,z,rfl,b,q⟩:=h;room;refine av (b6 br bP rfl) ?_;exact⟨p,_,a,[],rfl,b,T.Aq,T.rj,by decide,q⟩
def Sf:bE P w K mg ap dJ 1 t.Es t.Of ["self","signs"] (wD t.ee "signs"):=by refine T.OY.ok V2 λc H Q E h=>?_;obtain⟨p,a,z,rfl,b,q⟩:=h;room;refine av (b6 br bP rfl) ?_;exact⟨p,_,a,[],rfl,b,T.oR,T.mw,by decide,q⟩
def Ua:bE P w K mg ap dJ 1 t.ES t.O9 ["self","signs"] (wD t.iZ "signs"):=by refine T.Qi.ok Uj λc H Q E h=>?_;obtain⟨p,a,z,rfl,b,q⟩:=h;room;refine av (b6 br bP rfl) ?_;exact⟨p,_,a,[],rfl,b,T.wB,T.pZ,by decide,q⟩
def Io:bE P w K mg ap dJ 1 t.vG t.Bx ["self"] (o9 false):=by refine T.Ft.ok Vw λa H Q E h=>?_;obtain⟨p,rfl,q⟩:=h;room;exact av (aQ k7) q
def Vi:bE P w K mg ap dJ 1 t.BW t.F5 ["self"] (o9 true):=by refine T.Qd.ok VD λa H Q E h=>?_;obtain⟨p,rfl,q⟩:=h;room;exact av (aQ k7) q
def TH:bE P w K mg ap dJ 1 t.BR t.F8 ["self"] (o9 true):=by refine T.Nx.ok SE λa H Q E h=>?_;obtain⟨p,rfl,q⟩:=h;room;exact av (aQ k7) q
def Uo:bE P w K mg ap dJ 1 t.Cp t.Iv ["self"] (o9 true):=by refine T.NP.ok UC λa H Q E h=>?_;obtain⟨p,rfl,q⟩:=h;room;exact av (aQ k7) q
def Uq:bE P w K mg ap dJ 1 t.Cm t.Gv ["self"] (o9 true):=by refine T.Nf.ok Vn λa H Q E h=>?_;obtain⟨p,rfl,q⟩:=h;room;exact av (aQ k7) q
def XH:bE P w K mg ap dJ 1 t.Ml t.UU ["self"] (o9 true):=by refine T.Wu.ok Xr λa H Q E h=>?_;obtain⟨p,rfl,q⟩:=h;room;exact av (aQ k7) q
def CP(hi:i<=bb.length):(decide (fromIndex bb.length (i:Int)+sg.length<=bb.length) && Builtin.Str.subAt bb sg (fromIndex bb.length (i:Int)))=decide ((bb.l.drop i).take sg.length=sg.l):=by
 have e:fromIndex bb.length (i:Int)=i:=by unfold fromIndex;rw[C5 (by lia)];lia
 rw[e];have a:Builtin.Str.subAt bb sg i=decide ((bb.l.drop i).take sg.length=sg.l):=by unfold Builtin.Str.subAt;rw[af5,beq_iff_eq,ac4];rw[<- ai1];simp[Array.toList_extract,List.extract_eq_take_drop]
 rw[a,af5,ad4,ac4,ac4];refine⟨λz=>z.2,λz=>⟨?_,z⟩⟩;have:=ac7 List.length z;rw[v6,B2,getL,getL] at this;lia
def UJ:bE P w K mg ap dJ 1 t.CH t.HZ ["self","row","at"] (rA t.iV (λz=>[("wanted",.str z)]) "word"):=by
 refine T.NO.ok Sw λd H Q E h=>?_;obtain⟨p,a,e,bb,i,rfl,b,f,g,c,q⟩:=h;room;refine av (aQ (dc (gR (cV ae2 al0 F.type_str_startswith zS bP (cy (aM br rfl) cG))) (ez bz T.bD (bQ (aM br rfl))) cR)) ?_;rw[fh,C5 (by decide),w4 rfl] at q;refine⟨rfl,b,T.sr,T.kD,rfl,.mk<|.mk<|?_⟩;rw[CP c];refine dM (λh=>by rw[w4 h] at q;exact⟨b,T.sr,T.kD,rfl,_,rfl,bK (by lia),q⟩) (λh=>by rw[C5 h] at q;exact q)
def j0 {bc sg bb:Str}  (h1:bc ≠ "end") (h2:bc ≠ "word") (e:bb.l[i]?=some c):fh bc sg bb i=if bc = "any" \/ bc = "still" then .int (if bc = "any" then 1 else 0)
   else if bc = "none" then (if c∈sg.l then .dj else .int 1)
   else if c∈sg.l then .int (if bc = "many" then 1+jm sg.l (bb.l.drop (i+1)) else 1) else .dj:=by
 rw[fh,C5 h1,C5 h2,e]
def kJ {bc sg bb:Str}  (h1:bc ≠ "end") (h2:bc ≠ "word") (h:bb.length<=i):fh bc sg bb i = .dj:=by rw[fh,C5 h1,C5 h2,ad7 (getL▸h)]
def Tp:bE P w K mg ap dJ 1 t.Cr t.FH ["self","row","at"] (rA t.kO (λz=>[("signs",.str z)]) "one"):=by
 refine T.OP.ok T4 λf H Q E h=>?_;obtain⟨p,g,b,bb,i,rfl,d,j,l,n,q⟩:=h;room;refine av (aQ (dc (PW.pt (dX (aA fX cG (ez bz T.bD (bQ bP)) (aE _)) (cX (aA kP (aC lC bP cG) (aM br rfl) rfl)))) ai cR)) ?_;walk_at "rd";refine⟨bK (by lia),dM (λh=>?_) (λh=>by rw[kJ (by decide) (by decide) (by lia)] at q;exact q)⟩
 .obtain⟨c,a,e⟩:=strAt (bb:=bb) (i:=(i:Int)) (by lia) h;rw[ab9] at a;refine⟨bK (by lia),c,e,⟨d,T.Aq,T.rj,rfl,⟨b,rfl,?_⟩⟩⟩;rw[af8];rw[j0 (by decide) (by decide) a,C5 (by decide),C5 (by decide)] at q;refine dM (λh=>by rw[w4 h,C5 (by decide)] at q;exact q) (λh=>by rw[C5 h] at q;exact q)
def TZ:bE P w K mg ap dJ 1 t.Cu t.KA ["self","row","at"] (rA t.ee (λz=>[("signs",.str z)]) "none"):=by
 refine T.Qe.ok Te λf H Q E h=>?_;obtain⟨p,g,b,bb,i,rfl,d,j,l,n,q⟩:=h;room;refine av (aQ (dc (PW.pt (dX (aA fX cG (ez bz T.bD (bQ bP)) (aE _)) (cX (aA w9 (aC lC bP cG) (aM br rfl) rfl)))) ai cR)) ?_;walk_at "rd";refine⟨bK (by lia),dM (λh=>?_) (λh=>by rw[kJ (by decide) (by decide) (by lia)] at q;exact q)⟩
 .obtain⟨c,a,e⟩:=strAt (bb:=bb) (i:=(i:Int)) (by lia) h;rw[ab9] at a;refine⟨bK (by lia),c,e,⟨d,T.oR,T.mw,rfl,⟨b,rfl,?_⟩⟩⟩;rw[af8];rw[j0 (by decide) (by decide) a,C5 (by decide),w4 rfl] at q;refine mq (λh=>by rw[C5 h] at q;exact q) (λh=>by rw[w4 h] at q;exact q)
def Ym:bE P w K mg ap dJ 1 t.Ll t.Rx ["self","row","at"] (rA t.mW (λz=>[]) "any"):=by
 refine T.Yp.ok W0 λb H Q E h=>?_;obtain⟨p,d,e,bb,i,rfl,f,g,j,l,q⟩:=h;room;refine av (aQ (dc (aA fX cG (ez bz T.bD (bQ bP)) (aE _)) ai cR)) ?_;walk_at "rd";refine⟨bK (by lia),dM (λh=>by obtain⟨c,a,n⟩:=strAt (bb:=bb) (i:=(i:Int)) (by lia) h;rw[ab9] at a;rw[j0 (by decide) (by decide) a,w4 (by decide),w4 rfl] at q;exact q) (λh=>by rw[kJ (by decide) (by decide) (by lia)] at q;exact q)⟩
def VN:bE P w K mg ap dJ 1 t.BY t.Hq ["self","row","at"] (rA t.iJ (λz=>[]) "still"):=by
 refine T.Pr.ok Sg λb H Q E h=>?_;obtain⟨p,d,e,bb,i,rfl,f,g,j,l,q⟩:=h;room;refine av (aQ (dc (aA fX cG (ez bz T.bD (bQ bP)) (aE _)) ai cR)) ?_;walk_at "rd";refine⟨bK (by lia),dM (λh=>by obtain⟨c,a,n⟩:=strAt (bb:=bb) (i:=(i:Int)) (by lia) h;rw[ab9] at a;rw[j0 (by decide) (by decide) a,w4 (by decide),C5 (by decide)] at q;exact q) (λh=>by rw[kJ (by decide) (by decide) (by lia)] at q;exact q)⟩
def RP:bE P w K mg ap dJ 1 t.BH t.JR ["self","row","at"] (rA t.mU (λz=>[]) "end"):=by
 refine T.Nl.ok Wc λa H Q E h=>?_;obtain⟨p,b,c,bb,i,rfl,d,e,f,g,q⟩:=h;room;refine av (aQ (dc (aA cC cG (ez bz T.bD (bQ bP)) (aE _)) ai cR)) ?_;walk_at "rd";rw[fh,w4 rfl] at q;refine⟨bK (by lia),rfl,dM (λh=>by rw[w4 (by lia)] at q;exact q) (λh=>by rw[C5 (by lia)] at q;exact q)⟩
def nh{sg l:c7}(e:l[j]?=some c):jm sg (l.drop j)=if c∈sg then 1+jm sg (l.drop (j+1)) else 0:=by
 have a:l.drop j=c::l.drop (j+1):=by rw[List.drop_eq_getElem?_toList_append,e];rfl
 rw[a,jm]
def V4:bE P w K mg ap dJ 1 t.B9 t.HQ ["self","row","at"] (rA t.iZ (λz=>[("signs",.str z)]) "many"):=by
 refine T.Pk.ok An λs H Q E h=>?_;obtain⟨p,u,a,bb,i,rfl,o,v,x,r,q⟩:=h;room;have l:Q (if 0<jm a.l (bb.l.drop i) then .int (jm a.l (bb.l.drop i)) else .dj) H:=by
  by_cases h:i<bb.length
  .obtain⟨c,d,n⟩:=strAt (bb:=bb) (i:=(i:Int)) (by lia) (by lia);rw[ab9] at d;rw[j0 (by decide) (by decide) d,C5 (by decide),C5 (by decide),w4 rfl] at q;rw[nh d];by_cases f:c∈a.l
   .rw[w4 f] at q ⊢;rw[w4 (by lia)];exact q
   .rw[C5 f] at q ⊢;exact q
  .rw[kJ (by decide) (by decide) (by lia)] at q;have:bb.l.drop i=[]:=ai0 (by rw[getL];lia);exact this▸q
 refine ak (b7 3 An cG) ?_;walk_at "rd";refine aF (λg b=>b=H/\g=[ρ p,τ bb,ι i,ι ((i:Int)+jm a.l (bb.l.drop i))]) (jd aa7 (PW.pt (dX (aA fX dh (ez bz T.bD (bQ bP)) (aE _)) (cX (aA kP (aC lC bP dh) (aM br rfl) rfl)))) ay) ?_ ?_
 .refine⟨λm g b=>∃j:Nat,g=[ρ p,τ bb,ι i,ι (j:Int)]/\b=H/\j<=bb.length/\m=bb.length-j/\i+jm a.l (bb.l.drop i)=j+jm a.l (bb.l.drop j),⟨_,i,rfl,rfl,r,rfl,rfl⟩,?_⟩;rintro m g b ⟨j,rfl,e,y,rfl,hr⟩;rw[e];clear e b;walk_at "rd";refine⟨bK (by lia),dM (λh=>?_) (λh=>by have:bb.l.drop j=[]:=ai0 (by rw[getL];lia);rw[this,jm] at hr;lia)⟩
  .obtain⟨c,d,n⟩:=strAt (bb:=bb) (i:=(j:Int)) (by lia) h;rw[ab9] at d;rw[nh (j:=j) d] at hr;refine⟨bK (by lia),c,n,⟨o,T.wB,T.pZ,rfl,⟨a,rfl,?_⟩⟩⟩;rw[af8];refine dM (λf=>by rw[w4 f] at hr;refine⟨_,λg b z=>z,av (Am (i:=3) An.nd rfl (Or.inl rfl) ai AN) ?_⟩;walk_at "rd";exact⟨bb.length-(j+1),by lia,j+1,by simp,by lia,rfl,by lia⟩) (λf=>by rw[C5 f] at hr;refine⟨rfl,?_⟩;rw[show (i:Int)+(jm a.l (bb.l.drop i):Nat)=(j:Int) by lia])
 rintro g b ⟨e,rfl⟩;rw[e];clear e b;refine av (aQ (dc (aA j9 dh cG (aE _)) (aK cQ dh cG) cR)) ?_;walk_at "rd";refine dM (λh=>by rw[w4 (by lia)] at l;rw[show (i:Int)+(jm a.l (bb.l.drop i):Nat)-i=jm a.l (bb.l.drop i) by lia];exact l) (λh=>by rw[C5 (by lia)] at l;exact l)
def o4(bc sg bb:Str)(i:Nat):(∃n:Int,fh bc sg bb i = .int n)\/fh bc sg bb i = .dj:=by
 unfold fh;repeat' split
 all_goals first | exact .inl ⟨_,rfl⟩ | exact .inr rfl
noncomputable def cF (bc:Str):Bool:=!decide (bc = "still" \/ bc = "end")
structure xW(P:Program)(w:World)(K:W.Frag)(mg:g6)(ap:Heap)(C fe fs:Addr)(de ds:FuncData)(bc:Str)(fl:Str->List (Str×V)):Prop where
 cl:pH K C
 me:Meth K C "eaten" fe
 ms:Meth K C "eats" fs
 ne:∀z,(fl z).lookup ("eaten" : Str)=none
 ns:∀z,(fl z).lookup ("eats" : Str)=none
 ge:bE P w K mg ap dJ 1 fe de ["self","row","at"] (rA C fl bc)
 be:Binds K de ["self","row","at"] []
 gs:bE P w K mg ap dJ 1 fs ds ["self"] (o9 (cF bc))
 bs:Binds K ds ["self"] []
 ty:W.findIn K (.ref C) "__class__" = some (some (.builtin "object.__class__"))
 mr:W.mroIn K C (.type "object")=some true
def LQ:xW P w K mg ap t.iV t.CH t.BW t.HZ t.F5 "word" (λz=>[("wanted",.str z)]) :=
 ⟨T.sr,T.Xd,T.WO,λ_=>by rfl,λ_=>by rfl,UJ T,T.NO.b3,by rw[show cF "word" = true by lk];exact Vi T,T.Qd.b1,T.aqx,T.aqW⟩
def RV:xW P w K mg ap t.kO t.Cr t.BR t.FH t.F8 "one" (λz=>[("signs",.str z)]) :=
 ⟨T.Aq,T.Xz,T.WH,λ_=>by rfl,λ_=>by rfl,Tp T,T.OP.b3,by rw[show cF "one" = true by lk];exact TH T,T.Nx.b1,T.atN,T.aut⟩
def AS:xW P w K mg ap t.ee t.Cu t.Cp t.KA t.Iv "none" (λz=>[("signs",.str z)]) :=
 ⟨T.oR,T.Xu,T.Yh,λ_=>by rfl,λ_=>by rfl,TZ T,T.Qe.b3,by rw[show cF "none" = true by lk];exact Uo T,T.NP.b1,T.aiC,T.ajf⟩
def Lr:xW P w K mg ap t.iZ t.B9 t.Cm t.HQ t.Gv "many" (λz=>[("signs",.str z)]) :=
 ⟨T.wB,T.WL,T.YH,λ_=>by rfl,λ_=>by rfl,V4 T,T.Pk.b3,by rw[show cF "many" = true by lk];exact Uq T,T.Nf.b1,T.aqv,T.aqU⟩
def Rk:xW P w K mg ap t.mW t.Ll t.Ml t.Rx t.UU "any" (λz=>[]) :=
 ⟨T.Wa,T.Zl,T.YY,λ_=>by rfl,λ_=>by rfl,Ym T,T.Yp.b3,by rw[show cF "any" = true by lk];exact XH T,T.Wu.b1,T.at7,T.as9⟩
def EM:xW P w K mg ap t.iJ t.BY t.vG t.Hq t.Bx "still" (λz=>[]) :=
 ⟨T.EZ,T.Yg,T.v9,λ_=>by rfl,λ_=>by rfl,VN T,T.Pr.b3,by rw[show cF "still" = false by lk];exact Io T,T.Ft.b1,T.alV,T.aoT⟩
def To:xW P w K mg ap t.mU t.BH t.vG t.JR t.Bx "end" (λz=>[]) :=
 ⟨T.Vz,T.Xy,T.zV,λ_=>by rfl,λ_=>by rfl,RP T,T.Nl.b3,by rw[show cF "end" = false by lk];exact Io T,T.Ft.b1,T.ate,T.auD⟩
structure cz where
 bc:Str
 bi:Str
 bZ:Str
 bB:Str
 bo:Option Nat
 bn:Str
structure aR where
 name:Str
 bZ:Str
 bd:List cz
variable {ms:List aR}
noncomputable abbrev sorts:a9:=["word","one","none","many","any","still","end"]
abbrev ax (s:Str):Prop:=s = "any" \/ s = "still" \/ s = "end"
noncomputable def ju (t:eZ) (s:Str):Addr:=if s = "any" then t.mW else if s = "still" then t.iJ else if s = "end" then t.mU else if s = "word" then t.iV else if s = "one" then t.kO else if s = "none" then t.ee else t.iZ
noncomputable def ou (s z:Str):List (Str×V):=if ax s then [] else if s = "word" then [("wanted",.str z)] else [("signs",.str z)]
def Cw:ju t "any" = t.mW:=by rw[ju,w4 rfl]
def uW:ju t "still" = t.iJ:=by rw[ju,C5 (by decide),w4 rfl]
def BU:ju t "end" = t.mU:=by rw[ju,C5 (by decide),C5 (by decide),w4 rfl]
def zy:ju t "word" = t.iV:=by rw[ju,C5 (by decide),C5 (by decide),C5 (by decide),w4 rfl]
def BF:ju t "one" = t.kO:=by rw[ju,C5 (by decide),C5 (by decide),C5 (by decide),C5 (by decide),w4 rfl]
def xN:ju t "none" = t.ee:=by rw[ju,C5 (by decide),C5 (by decide),C5 (by decide),C5 (by decide),C5 (by decide),w4 rfl]
def yD:ju t "many" = t.iZ:=by rw[ju,C5 (by decide),C5 (by decide),C5 (by decide),C5 (by decide),C5 (by decide),C5 (by decide)]
def ET:ou "any" = λ_=>[]:=by funext z;rw[ou,w4 (by decide)]
def yE:ou "still" = λ_=>[]:=by funext z;rw[ou,w4 (by decide)]
def F1:ou "end" = λ_=>[]:=by funext z;rw[ou,w4 (by decide)]
def B0:ou "word" = λz=>([("wanted",.str z)]:List (Str×V)):=by funext z;rw[ou,C5 (by decide),w4 rfl]
def vt  (h:¬ax s) (h2:s ≠ "word"):ou s=λz=>([("signs",.str z)]:List (Str×V)):=by funext z;rw[ou,C5 h,C5 h2]
def iz  (h:s∈sorts):s = "word" \/ s = "one" \/ s = "none" \/ s = "many" \/ s = "any" \/ s = "still" \/ s = "end" := by simpa using h
def Mq(h:s∈sorts):∃fe fs de ds,xW P w K mg ap (ju t s) fe fs de ds s (ou s):=by
 rcases iz h with rfl|rfl|rfl|rfl|rfl|rfl|rfl
 .exact zy▸B0▸⟨_,_,_,_,LQ T⟩
 .rw[BF,vt (by decide) (by decide)];exact⟨_,_,_,_,RV T⟩
 .rw[xN,vt (by decide) (by decide)];exact⟨_,_,_,_,AS T⟩
 .rw[yD,vt (by decide) (by decide)];exact⟨_,_,_,_,Lr T⟩
 .exact Cw▸ET▸⟨_,_,_,_,Rk T⟩
 .exact uW▸yE▸⟨_,_,_,_,EM T⟩
 .exact BU▸F1▸⟨_,_,_,_,To T⟩
def mz(t:eZ)(H:Hp)(p:Addr)(s z:Str):Prop:=∃a,H p=s0 (ju t s) a (ou s z)
noncomputable def vU:Option Nat->V
 |none=>.dj
 |some g=>.int g
def rf (p:Addr) (R:cz):List (Str×V):=[("pattern",.ref p),("colour",.str R.bZ),("deed",.str R.bB),("goal",vU R.bo),("fold",.str R.bn)]
noncomputable def mf (M:aR) (l:Addr):List (Str×V):=[("name",.str M.name),("colour",.str M.bZ),("rules",.ref l)]
inductive eF(t:eZ)(H:Hp)(r:Addr)(R:cz):Prop|mk(a p)(_:H r=s0 t.jL a (rf p R))(_:mz t H p R.bc R.bi)
def mz.ae(h:mz t H p s z)(e:af H H'):mz t H' p s z:=by obtain⟨a,x⟩:=h;exact⟨a,e _ _ x⟩
def eF.ae(h:eF t H r R)(e:af H H'):eF t H' r R:=by obtain⟨a,p,x,y⟩:=h;exact⟨a,p,e _ _ x,y.ae e⟩
def bf(R:α->β->Prop)(as:List α)(bs:List β):Prop:=as.length=bs.length/\∀(i:Nat) a b,as[i]?=some a->bs[i]?=some b->R a b
def bf.nil{R:α->β->Prop}:bf R [] []:=⟨rfl,λi a b h=>by simp at h⟩
def bf.mono{R S:α->β->Prop}{as:List α}{bs:List β}(h:bf R as bs)(f:∀a b,R a b->S a b):bf S as bs:=⟨h.1,λi a b x y=>f a b (h.2 i a b x y)⟩
def dU{as:List α}{a x:α}(h:(as++[a])[i]?=some x):as[i]?=some x\/(i=as.length/\x=a):=by
 by_cases b:i<as.length
 .rw[aa2 b] at h;exact .inl h
 .rw[U2 (by lia)] at h;have:i-as.length=0:=by
   cases e:i-as.length with
   |zero=>rfl
   |succ n=>rw[e] at h;simp at h
  rw[this] at h;simp at h;exact .inr ⟨by lia,h.symm⟩
def bf.snoc{R:α->β->Prop}{as:List α}{bs:List β}{a:α}{b:β}(h:bf R as bs)(r:R a b):bf R (as++[a]) (bs++[b]):=by
 refine⟨by simp[h.1],λi x y f d=>?_⟩;have hl:=h.1;rcases dU f with e|⟨j,rfl⟩
 .rcases dU d with c|⟨g,rfl⟩
  .exact h.2 i x y e c
  .have:=(d6.mp e).1;lia
 .rcases dU d with c|⟨g,rfl⟩
  .have:=(d6.mp c).1;lia
  .exact r
def bf.at{R:α->β->Prop}{as:List α}{bs:List β}(h:bf R as bs){b:β}(e:bs[i]?=some b):∃a,as[i]?=some a/\R a b:=by
 have c:i<as.length:=h.1▸((d6.mp e).1)
 exact⟨as[i],i4 c,h.2 i _ _ (i4 c) e⟩
structure cY(t:eZ)(H:Hp)(as ls:c6)(ms:List aR):Prop where
 la:as.length=ms.length
 ll:ls.length=ms.length
 nd:ls.Nodup
 ob:∀(i:Nat) a l m,as[i]?=some a->ls[i]?=some l->ms[i]?=some m->∃dx rs,H a=s0 t.fE dx (mf m l)/\H l=r6 (rs.map V.ref)/\bf (eF t H) rs m.bd
def cY.ae(h:cY t H as ls ms)(e:af H H'):cY t H' as ls ms :=
 ⟨h.la,h.ll,h.nd,λi a l m b c d=>let ⟨dx,rs,x,y,z⟩:=h.ob i a l m b c d;⟨dx,rs,e _ _ x,e _ _ y,z.mono λ_ _ r=>r.ae e⟩⟩
inductive IsRules(t:eZ) (H:Hp) (a:Addr) (ms:List aR):Prop|mk(d b c e)(_:H a=s0 t.kg d [("modes",.ref b)])(_:H b=r6 (c.map V.ref))(_:cY t H c e ms)
def IsRules.ae(h:IsRules t H a ms)(e:af H H'):IsRules t H' a ms:=by obtain⟨b,c,d,f,x,y,z⟩:=h;exact⟨b,c,d,f,e _ _ x,e _ _ y,z.ae e⟩
def gZ(h1:H x=none)(h2:H dx=none):af H (ag (ag (ag H dx o1) x o2) x o3):=λb o e=>by rw[aj (au e h1),aj (au e h1),aj (au e h2)];exact e
def cD(h1:H x=none)(h2:H dx=none):af H (ag (ag H dx o1) x o2):=λb o e=>by rw[aj (au e h1),aj (au e h2)];exact e
inductive MN(t:eZ)(vs:q7)(H:Hp)(Q:VK)(_:XK):Prop|mk(x dx p:Addr)(R:cz)(_:vs=[.ref x,.ref p,.str R.bZ,.str R.bB,vU R.bo,.str R.bn])(_:H x=s0 t.jL dx [])(_:Q .dj (ag H x (.ins t.jL dx (rf p R))))
def EA:bE P w K mg ap dJ 1 t.Fq t.QB ["self","pattern","colour","deed","goal","fold"] (MN t):=by refine T.EU.ok U8 λc H Q E h=>?_;obtain⟨x,a,p,R,rfl,b,q⟩:=h;room;refine ak (b6 br bP rfl) ⟨x,_,a,[],rfl,b,T.cW,T.gj,by decide,?_⟩;refine ak (b6 br cG rfl) ⟨x,_,a,[("pattern",.ref p)],rfl,aa,T.cW,T.kj,by show 1<1000;decide,?_⟩;refine ak (b6 br dh rfl) ⟨x,_,a,[("pattern",.ref p),("colour",.str R.bZ)],rfl,aa,T.cW,T.iw,by show 2<1000;decide,?_⟩;refine ak (b6 br eE rfl) ⟨x,_,a,[("pattern",.ref p),("colour",.str R.bZ),("deed",.str R.bB)],rfl,aa,T.cW,T.jR,by show 3<1000;decide,?_⟩;refine av (b6 br gX rfl) ⟨x,_,a,[("pattern",.ref p),("colour",.str R.bZ),("deed",.str R.bB),("goal",vU R.bo)],rfl,aa,T.cW,T.jW,by show 4<1000;decide,?_⟩;rw[fV,fV,fV,fV];exact q
inductive MJ(t:eZ)(vs:q7)(H:Hp)(Q:VK)(_:XK):Prop|mk(x dx l:Addr)(n c:Str)(rs:q7)(_:vs=[.ref x,.str n,.str c,.ref l])(_:H x=s0 t.fE dx [])(_:H l=r6 rs)(_:∀l2 H',H l2=none->H' x=s0 t.fE dx (mf ⟨n,c,[]⟩ l2)->H' l2=r6 rs->fY H H' x->Q .dj H')
def ER:bE P w K mg ap dJ 1 t.Ie t.Ob ["self","name","colour","rules"] (MJ t):=by
 refine T.GX.ok TN λs H Q E h=>?_;obtain⟨x,g,l,n,c,r,rfl,j,hl,q⟩:=h;room;have d:=bL hl j;refine ak (b6 br bP rfl) ⟨x,_,g,[],rfl,j,T.gF,T.jT,by decide,?_⟩;refine ak (b6 br cG rfl) ⟨x,_,g,[("name",.str n)],rfl,aa,T.gF,T.kq,by show 1<1000;decide,?_⟩;refine av (b6 br (pO eV T.jn (bQ dh)) rfl) ⟨l,r,rfl,.inl (aV.of (by rw[aj d,aj d];exact hl)),λl2 a=>?_⟩;have f:=au aa a;have e:H l2=none:=by rw[aj (aa4 f),aj (aa4 f)] at a;exact a
 refine⟨x,_,g,[("name",.str n),("colour",.str c)],rfl,by rw[aj f];exact aa,T.gF,T.gJ,by show 2<1000;decide,?_⟩;refine q l2 _ e aa (by rw[aj (aa4 f)];exact aa) λb o p i=>?_;rw[aj i,aj (au p e),aj i,aj i];exact p
inductive Ku(t:eZ)(vs:q7)(H:Hp)(Q:VK)(_:XK):Prop|mk(x dx l:Addr)(rs:q7)(_:vs=[.ref x,.ref l])(_:H x=s0 t.kg dx [])(_:H l=r6 rs)(_:∀l2 H',H l2=none->H' x=s0 t.kg dx [("modes",.ref l2)]->H' l2=r6 rs->fY H H' x->Q .dj H')
def GH:bE P w K mg ap dJ 1 t.Iz t.Pq ["self","modes"] (Ku t):=by refine T.Hx.ok VG λj H Q E h=>?_;obtain⟨x,f,l,g,rfl,c,hl,q⟩:=h;room;refine av (b6 br (pO eV T.jn (bQ bP)) rfl) ⟨l,g,rfl,.inl (aV.of hl),λl2 a=>?_⟩;have d:=au c a;refine⟨x,_,f,[],rfl,by rw[aj d];exact c,T.jf,T.d7,by decide,?_⟩;refine q l2 _ a aa (by rw[aj (aa4 d)];exact aa) λb o e i=>?_;rw[aj i,aj (au e a)];exact e
abbrev cI(s z:Str):a9:=if ax s then [s] else [s,jq z]
structure wg(s z:Str):Prop where
 bc:s∈sorts
 ZC:ax s->z = ""
 sg:¬ax s->1<=z.length/\z.length<=200/\95∉z.l/\10∉z.l
def drop_cons{ws:List α}{x:α}{r:List α}(h:ws.drop i=x::r):ws[i]?=some x/\ws.drop (i+1)=r:=by
 constructor
 .have:=ac7 (λl=>l[0]?) h;simpa [ab6] using this
 .rw[<- ak2,h];rfl
def i9(h:ws.drop i=x::r):pk ws i=x:=by unfold pk;rw[ac8,(drop_cons h).1];rfl
def Lo{ws:a9}(h:ws.drop i=x::r):i<ws.length:=(d6.mp (drop_cons h).1).1
def yc{ws:a9}(h:ws.drop i=[]):ws.length<=i:=List.drop_eq_nil_iff.mp h
inductive MS(t:eZ)(vs:q7)(H:Hp)(Q:VK)(_:XK):Prop|mk(p dx lw:Addr)(bb:Int)(ws:a9)(i:Nat)(s z:Str)(rest:a9)(_:vs=[.ref p])(_:pJ t H p dx lw bb ws i)(_:ws.drop i=cI s z++rest)(_:wg s z)(_:∀a H' j,mz t H' a s z->pJ t H' p dx lw bb ws j->ws.drop j=rest->fY H H' p->Q (.ref a) H')
def RH:bE P w K mg ap dJ 5 t.II t.QX ["cursor"] (MS t):=by
 refine T.JC.ok Aa λW H Q E h=>?_;obtain⟨p,n,A,bb,y,i,s,z,B,rfl,C,d,G,q⟩:=h;room;have D:pk y i=s:=by
  by_cases F:ax s
  .rw[cI,w4 F] at d;exact i9 d
  .rw[cI,C5 F] at d;exact i9 d
 refine ak (b7 1 Aa (bw br T.bx T.LV (B4 T) hr.m T.IG.b2 .nil aH (bQ (jX rfl T.xq (v:=V.ref t.lS) rfl)))) ⟨C.ob,rfl,p,n,A,t.lS,sorts,bb,y,i,rfl,C,T.zq _,D▸G.bc,λX g o=>?_⟩;rw[D];refine ak (bq (aA cC bP aZ (aE _)) ay ay) ⟨rfl,.mk<|dM (λh=>by have h:=V.str.inj h;subst h;refine av (aQ (tW T.Tg rfl T.LU)) λx b c a ne=>?_;rw[cI,w4 (by decide)] at d;exact q x _ (i+1) ⟨b,Cw▸ET▸aa⟩ (g.ae (cD c a)) (drop_cons d).2 (o.ae (cD c a))) (λI=>bg ?_)⟩
 refine ak (bq (aA cC bP aZ (aE _)) ay ay) ⟨rfl,.mk<|dM (λh=>by have h:=V.str.inj h;subst h;refine av (aQ (tW T.E7 rfl T.Dy)) λx b c a ne=>?_;rw[cI,w4 (by decide)] at d;exact q x _ (i+1) ⟨b,uW▸yE▸aa⟩ (g.ae (cD c a)) (drop_cons d).2 (o.ae (cD c a))) (λJ=>bg ?_)⟩
 refine ak (bq (aA cC bP aZ (aE _)) ay ay) ⟨rfl,.mk<|dM (λh=>by have h:=V.str.inj h;subst h;refine av (aQ (tW T.Vj rfl T.LZ)) λx b c a ne=>?_;rw[cI,w4 (by decide)] at d;exact q x _ (i+1) ⟨b,BU▸F1▸aa⟩ (g.ae (cD c a)) (drop_cons d).2 (o.ae (cD c a))) (λL=>bg ?_)⟩
 have j:¬ax s:=by
  rintro (e|e|e)
  .exact I (by rw[e])
  .exact J (by rw[e])
  .exact L (by rw[e])
 rw[cI,C5 j] at d;have l:=(drop_cons d).2;obtain⟨M,Y,N,Z⟩:=G.sg j;refine ak (b7 2 Aa (bR br T.bx T.ZG (YD T) hr.m T.Wx.b1 .nil aH)) ⟨g.ob,rfl,p,n,A,bb,y,i+1,z,rfl,g,i9 l,M,by lia,N,λH2 r O=>?_⟩;have f:=(drop_cons l).2;have u:=o.trans O;refine ak (bq (aA cC bP aZ (aE _)) ay ay) ⟨rfl,.mk<|dM (λh=>by have h:=V.str.inj h;subst h;refine av (aQ (fj T.LN (Uw T) hr.m rfl T.IK T.Oc.b2 .nil aH (bQ cG))) (λx b c a ne=>⟨x,b,z,rfl,aa,rfl,?_⟩);exact q x _ (i+1+1) ⟨b,zy▸B0▸aa⟩ (r.ae (gZ c a)) f (u.ae (gZ c a))) (λR=>bg ?_)⟩
 refine ak (bq (aA cC bP aZ (aE _)) ay ay) ⟨rfl,.mk<|dM (λh=>by have h:=V.str.inj h;subst h;refine av (aQ (fj T.Vt (RD T) hr.m rfl T.Mc T.Qp.b2 .nil aH (bQ cG))) (λx b c a ne=>⟨x,b,z,rfl,aa,rfl,?_⟩);exact q x _ (i+1+1) ⟨b,by rw[BF,vt j (by decide)];exact aa⟩ (r.ae (gZ c a)) f (u.ae (gZ c a))) (λS=>bg ?_)⟩
 refine ak (bq (aA cC bP aZ (aE _)) ay ay) ⟨rfl,.mk<|dM (λh=>by have h:=V.str.inj h;subst h;refine av (aQ (fj T.Ai (Sf T) hr.m rfl T.yZ T.OY.b2 .nil aH (bQ cG))) (λx b c a ne=>⟨x,b,z,rfl,aa,rfl,?_⟩);exact q x _ (i+1+1) ⟨b,by rw[xN,vt j (by decide)];exact aa⟩ (r.ae (gZ c a)) f (u.ae (gZ c a))) (λU=>bg ?_)⟩
 have h:s = "many" := by
  rcases iz G.bc with e|e|e|e|e|e|e
  .exact absurd (by rw[e]) R
  .exact absurd (by rw[e]) S
  .exact absurd (by rw[e]) U
  .exact e
  .exact absurd (by rw[e]) I
  .exact absurd (by rw[e]) J
  .exact absurd (by rw[e]) L
 subst h;refine av (aQ (fj T.MX (Ua T) hr.m rfl T.Ky T.Qi.b2 .nil aH (bQ cG))) (λx b c a ne=>⟨x,b,z,rfl,aa,rfl,?_⟩);exact q x _ (i+1+1) ⟨b,by rw[yD,vt j (by decide)];exact aa⟩ (r.ae (gZ c a)) f (u.ae (gZ c a))
inductive Hu(t:eZ)(vs:q7)(H:Hp)(Q:VK)(_:XK):Prop|mk(p dx lw d:Addr)(nw:V)(bb:Int)(ws:a9)(i g:Nat)(cp:List (Key×V))(_:vs=[.ref p,.ref d,nw])(_:pJ t H p dx lw bb ws i)(_:H d=some (.dK cp))(_:isName (pk ws i)=true)(_:fP cp (.inr (pk ws i))=some (.int g))(_:∀H',pJ t H' p dx lw bb ws (i+1)->fY H H' p->Q (.int g) H')
def UY:bE P w K mg ap dJ 5 t.GN t.Q6 ["cursor","numbers","nowhere"] (Hu t):=by refine T.Ks.ok AJ λz H Q E h=>?_;obtain⟨p,l,v,d,A,bb,c,i,g,b,rfl,C,n,x,o,q⟩:=h;room;refine ak (b7 3 AJ (bG (cy (aM br rfl) (aM br rfl)))) ?_;refine⟨C.ob,T.bx,T.qp,rfl,?_⟩;refine⟨C.ob,T.bx,T.jh,rfl,?_⟩;refine⟨sL rfl,λpt e=>?_⟩;have f:af H (ag H pt (.tup [.int bb,.int i])):=af.ag e;have r:=C.ae f;refine ak (b7 4 AJ (bR br T.bx T.Lj (BV T) hr.m T.FZ.b1 .nil aH)) ⟨r.ob,rfl,p,l,v,bb,c,i,rfl,r,x,λs y u=>?_⟩;have a:=u _ _ (f _ _ n) (bL n C.ob);refine ak (bq (Al (vo (cS hr) eE bP)) ay ay) ⟨d,_,rfl,om.k (k:=.inr (pk c i)) a,.mk ?_⟩;rw[o];refine mH (bg ?_);refine av (aQ (KG (cS hr) bP eE ⟨rfl,rfl,rfl,rfl⟩)) ⟨d,rfl,.inl ⟨b,.inl a⟩,_,om.k (k:=.inr (pk c i)) a,?_⟩;exact o▸q s y (f.K3 u)
noncomputable abbrev ow:a9:=["stay","push","pop","into"]
abbrev gW (d:Str):Prop:=d = "push" \/ d = "into"
noncomputable def vz(cv:a9):Option Nat->a9
 |some g=>[cv.getD g ""]
 |none=>[]
def Dw:(vz cv g).length<=1:=by cases g <;> simp[vz]
def eO (cv:a9) (R:cz):a9:=cI R.bc R.bi++((if cF R.bc=true then [R.bZ] else [])++([R.bB]++(vz cv R.bo++if R.bn = "" then [] else [R.bn])))
structure jB(cv:a9)(R:cz):Prop where
 pat:wg R.bc R.bi
 cn:cF R.bc=true->isName R.bZ=true
 Zu:cF R.bc=false->R.bZ = ""
 bB:R.bB∈ow
 bo:gW R.bB->∃g,R.bo=some g/\g<cv.length
 OM:¬gW R.bB->R.bo=none
 bn:R.bn = "" \/ R.bn = "open" \/ R.bn = "close"
def numsOf(cv:a9)(cp:List (Key×V)):Prop:=∀(g:Nat) n,cv[g]?=some n->fP cp (.inr n)=some (.int g)
inductive Gf(t:eZ)(vs:q7)(H:Hp)(Q:VK)(_:XK):Prop|mk(p dx lw d:Addr)(nw:V)(bb:Int)(ws:a9)(cp:List (Key×V))(cv:a9)(R:cz)(_:vs=[.ref p,.ref d,nw])(_:pJ t H p dx lw bb ws 0)(_:ws=eO cv R)(_:H d=some (.dK cp))(_:numsOf cv cp)(_:(∀n∈cv,isName n=true))(_:jB cv R)(_:∀r H',eF t H' r R->fY H H' p->Q (.ref r) H')
def mz.K3(h:mz t H a s z)(C:pJ t H p dx lw bb ws i)(e:fY H H' p):mz t H' a s z:=by
 obtain⟨d,x⟩:=h;refine⟨d,e _ _ x (bL x C.ob λq=>?_)⟩;injection q with _ _ q
 unfold ou cf at q;split at q
 .cases q
 .split at q <;> simp at q
def Tz:bE P w K mg ap dJ 6 t.Fl t.Nu ["cursor","numbers","nowhere"] (Gf t):=by
 refine T.KQ.ok qI λvs H Q E h=>?_;obtain⟨p,b,n,d,X,bb,c,cp,cv,R,rfl,C,hws,hd,D,hnm,G,q⟩:=h;room;obtain⟨fe,fs,de,ds,F⟩:=Mq (P:=P) (w:=w) (ap:=ap) T G.pat.bc;refine ak (b7 3 qI (aS (RH T) hr.m rfl T.RM T.JC.kp T.JC.b1 .nil aH (bQ br))) ⟨p,b,n,bb,c,0,R.bc,R.bi,_,rfl,C,by rw[ak3,hws,eO],G.pat,λo H1 j1 hp1 Y f a1=>?_⟩;refine aG (λk=>∀j i,pJ t i p b n bb c j->mz t i o R.bc R.bi->fY H i p->c.drop j=R.bB::(vz cv R.bo++if R.bn = "" then [] else [R.bn])->k [ρ p,ρ d,some X,ρ o,τ R.bZ,none,none,none] i) (b7 4 qI (dc (gR (bR dh F.cl F.ms F.gs hr.m F.bs .nil aH)) (bR br T.bx T.Lj (BV T) hr.m T.FZ.b1 .nil aH) aZ)) ?_ ?_
 .obtain⟨u,y⟩:=hp1;refine⟨y,F.ns _,_,rfl,.mk<|xM (λh=>by rw[w4 h] at f;refine⟨Y.ob,rfl,p,b,n,bb,c,j1,rfl,Y,by rw[i9 f];exact G.cn h,λH2 I Z=>?_⟩;rw[i9 f];exact λ_ C1=>C1 (j1+1) _ I (mz.K3 ⟨u,y⟩ Y Z) (a1.trans Z) ((drop_cons f).2)) (λh=>by rw[h,C5 (by decide)] at f;rw[G.Zu h];exact λ_ C1=>C1 j1 _ Y ⟨u,y⟩ a1 f)⟩
 intro j2 H2 I hp2 Z A;refine ak (b7 5 qI (bw br T.bx T.LV (B4 T) hr.m T.IG.b2 .nil aH (bQ (jX rfl T.Dv (v:=V.ref t.sj) rfl)))) ⟨I.ob,rfl,p,b,n,t.sj,ow,bb,c,j2,rfl,I,T.J5 _,by rw[i9 A];exact G.bB,λH3 C3 B=>?_⟩;rw[i9 A];have J:=hp2.K3 I B;have B:=Z.trans B;have l:=(drop_cons A).2;refine aG (λk=>∀j i,pJ t i p b n bb c j->mz t i o R.bc R.bi->fY H i p->(c.drop j=if R.bn = "" then [] else [R.bn])->k [ρ p,ρ d,some X,ρ o,τ R.bZ,τ R.bB,some (vU R.bo),none] i) (b7 6 qI (dc (aA iA gX (jX rfl T.Dz (v:=V.ref t.xg) rfl) rfl) (aS (UY T) hr.m rfl T.Tj T.Ks.kp T.Ks.b3 .nil aH (ao br (cy bP cG))) cR)) ?_ ?_
 .refine⟨.inr (T.JU _),rfl,rfl,.mk ?_⟩;rw[show ([.str "push",.str "into"]:q7)=(["push","into"]:a9).map V.str from rfl,mS];refine dM (λh=>?_) (λh=>?_)
  .have h:gW R.bB:=by simpa using h
   obtain⟨g,eg,hg⟩:=G.bo h;rw[eg] at l ⊢;have e:=i9 l;have L:cv[g]?=some (cv.getD g ""):=by simp[hg]
   refine⟨p,b,n,d,X,bb,c,j2+1,g,cp,rfl,C3,B _ _ hd (bL hd C.ob),e▸(hnm _ (p0 L)),e▸(D g _ L),λH4 s M=>?_⟩;exact λ_ C1=>C1 _ _ s (J.K3 C3 M) (B.trans M) ((drop_cons l).2)
  .have h:¬gW R.bB:=by simpa using h
   rw[G.OM h] at l ⊢;exact λ_ C1=>C1 _ _ C3 J B l
 intro j4 H4 s N M a;refine aG (λk=>∀j i,pJ t i p b n bb c j->mz t i o R.bc R.bi->fY H i p->c.drop j=[]->k [ρ p,ρ d,some X,ρ o,τ R.bZ,τ R.bB,some (vU R.bo),τ R.bn] i) (b7 7 qI (dc (gR (bR br T.bx T.Lg (Cn T) hr.m T.IT.b1 .nil aH)) (bw br T.bx T.LV (B4 T) hr.m T.IG.b2 .nil aH (bQ (jX rfl T.CL (v:=V.ref t.rT) rfl))) aZ)) ?_ ?_
 .refine⟨s.ob,rfl,p,b,n,bb,c,j4,rfl,s,.mk<|dM (λh=>?_) (λh=>?_)⟩
  .have O:R.bn ≠ "" := λz=>by rw[w4 z] at a;have:=yc a;lia
   rw[C5 O] at a;refine⟨s.ob,rfl,p,b,n,t.rT,["open","close"],bb,c,j4,rfl,s,T.Jx _,?_,λH5 S a5=>by rw[i9 a];exact λ_ C1=>C1 _ _ S (N.K3 s a5) (M.trans a5) ((drop_cons a).2)⟩
   .rw[i9 a];rcases G.bn with z|z|z
    .exact absurd z O
    .rw[z];decide
    .rw[z];decide
  .have O:R.bn = "" := by
    by_cases z:R.bn = ""
    .exact z
    .rw[C5 z] at a;exact absurd (Lo a) h
   rw[w4 O] at a;rw[O];exact λ_ C1=>C1 _ _ s N M a
 intro j5 H5 S hp5 a5 hd5;have hj5:=yc hd5;refine ak (aY (bw br T.bx T.DM (vn T) hr.m T.zK.b2 .nil aH (bQ (Ka (bR br T.bx T.Lg (Cn T) hr.m T.IT.b1 .nil aH))))) ⟨S.ob,rfl,⟨S.ob,rfl,p,b,n,bb,c,j5,rfl,S,.mk ?_⟩⟩;rw[ab2 (by lia)];refine⟨_,rfl,?_⟩;refine av (aQ (fj T.Ck (EA T) hr.m rfl T.yU T.EU.b6 .nil aH (ao dh (ao eE (ao gX (cy jv jO)))))) (λx U nx W ne=>⟨x,U,o,R,rfl,aa,rfl,?_⟩);exact q x _ ⟨U,o,aa,hp5.ae (gZ nx W)⟩ (a5.ae (gZ nx W))
inductive Item where
 |bp (n c:Str)
 |cb (R:cz)
def Item.cq(cv:a9):Item->a9
 |.bp n c=>["mode",n,c]
 |.cb R=>eO cv R
variable {its:List Item}
def rowOf(cv:a9)(it:Item):Str:=Str.join ⟨#[32]⟩ (it.cq cv)
noncomputable def j8(R:cz):List aR->List aR
 | []=>[]
 | [m]=>[{ m with bd:=m.bd++[R] }]
 |m::n::r=>m::j8 R (n::r)
def stepI(ms:List aR):Item->List aR
 |.bp n c=>ms++[⟨n,c,[]⟩]
 |.cb R=>j8 R ms
def foldI(its:List Item):List aR:=its.foldl stepI []
noncomputable def xU:Item->a9
 |.bp n _=>[n]
 |.cb _=>[]
def namesOf(its:List Item):a9:=its.flatMap xU
structure ic(its:List Item):Prop where
 ne:its≠[]
 bp:∀(i:Nat) n c,its[i]?=some (.bp n c)->isName n=true/\isName c=true/\(namesOf (its.take i)).length<12/\n∉namesOf (its.take i)
 cb:∀(i:Nat) R,its[i]?=some (.cb R)->jB (namesOf its) R/\∃ms m,foldI (its.take i)=ms++[m]/\m.bd.length<12
theorem lQ(R:cz)(m:aR):∀ms:List aR,j8 R (ms++[m])=ms++[{ m with bd:=m.bd++[R] }]
 | []=>rfl
 | [x]=>rfl
 |x::y::r=>by show x::j8 R (y::r++[m])=_;rw[lQ R m (y::r)];rfl
theorem oB(R:cz):∀ms:List aR,(j8 R ms).map (·.name)=ms.map (·.name)
 | []=>rfl
 | [x]=>rfl
 |x::y::r=>by show x.name::(j8 R (y::r)).map (·.name)=_;rw[oB R (y::r)];rfl
def ae1{l:List α}{x:α}(h:l[i]?=some x):l.take (i+1)=l.take i++[x]:=by rw[List.take_succ,h];rfl
def uf(its:List Item)(it:Item):foldI (its++[it])=stepI (foldI its) it:=by unfold foldI;rw[am2];rfl
def nu(a b:List Item):namesOf (a++b)=namesOf a++namesOf b:=by unfold namesOf;rw[List.flatMap_append]
theorem jE:∀(its:List Item) (ms:List aR),(its.foldl stepI ms).map (·.name)=ms.map (·.name)++namesOf its
 | [],ms=>by simp[namesOf]
 |.bp n c::r,ms=>by rw[al4,jE r];simp[stepI,namesOf,xU]
 |.cb R::r,ms=>by rw[al4,jE r];simp[stepI,namesOf,xU,oB]
def sG(its:List Item):(foldI its).map (·.name)=namesOf its:=by unfold foldI;rw[jE];rfl
structure kL(x:Str):Prop where
 b:32∉x.l
 n:10∉x.l
 l:x.length<=202
def bV(x:Str):x.l.length=x.length:=by simp[Str.length]
def nU(h:isName x=true):kL x:=by
 unfold isName at h;simp only[ad4,ac4,aj9] at h;obtain⟨⟨b,c⟩,a⟩:=h;refine⟨λz=>absurd (a _ z) (by lk),λz=>absurd (a _ z) (by lk),by lia⟩
def zm(h:z.length<=200)(h2:10∉z.l):kL (jq z):=by
 refine⟨λy=>?_,λy=>?_,by have:=ac7 List.length (iR z);rw[bV,P3,oq,d5,bV] at this;lia⟩
 .rw[iR] at y;rcases Z5.mp y with y|y
  .exact absurd y (by decide)
  .unfold oq at y;obtain⟨c,_,e⟩:=aa9.mp y;split at e <;> lia
 .rw[iR] at y;rcases Z5.mp y with y|y
  .exact absurd y (by decide)
  .unfold oq at y;obtain⟨c,a,e⟩:=aa9.mp y;split at e
   .lia
   .exact h2 (e ▸ a)
def nV  (h:s∈sorts):kL s/\s ≠ "mode" := by rcases iz h with rfl|rfl|rfl|rfl|rfl|rfl|rfl <;> exact⟨⟨by lk,by lk,by lk⟩,by lk⟩
def DT(G:wg s z):∀x∈cI s z,kL x:=by
 intro x a;unfold cI at a;split at a
 .rw[B1.mp a];exact(nV G.bc).1
 .rename_i b;obtain⟨f,c,g,d⟩:=G.sg b;rcases Z5.mp a with e|e
  .exact e▸(nV G.bc).1
  .rw[B1.mp e];exact zm c d
def Aj(hn:∀n∈cv,isName n=true)(G:jB cv R):∀x∈eO cv R,kL x:=by
 intro x a;unfold eO at a;simp only[X1] at a;rcases a with a|a|a|a|a
 .exact DT G.pat x a
 .split at a
  .rename_i h;rw[B1.mp a];exact nU (G.cn h)
  .cases a
 .rw[B1.mp a];have:=G.bB;simp only[Z5,ad1,an3] at this;rcases this with e|e|e|e <;> rw[e] <;> exact⟨by lk,by lk,by lk⟩
 .cases e:R.bo with
  |some g =>
   rw[e] at a;rw[B1.mp a];have b:g<cv.length:=by
    by_cases h:gW R.bB
    .obtain⟨f,c,d⟩:=G.bo h;rw[e] at c;cases c;exact d
    .rw[G.OM h] at e;cases e
   refine nU (hn _ ?_);have:cv.getD g "" = cv[g]:=by simp[b]
   exact this▸ag2 b
  |none=>rw[e] at a;cases a
 .split at a
  .cases a
  .rw[B1.mp a];rcases G.bn with e|e|e <;> rw[e] <;> exact⟨by lk,by lk,by lk⟩
def K7:1<=(cI s z).length/\(cI s z).length<=2:=by
 unfold cI;split
 .exact⟨by show 1<=1;decide,by show 1<=2;decide⟩
 .exact⟨by show 1<=2;decide,by show 2<=2;decide⟩
def EB:1<=(eO cv R).length/\(eO cv R).length<=7:=by
 have a:=K7 (s:=R.bc) (z:=R.bi);have b:(if cF R.bc=true then [R.bZ] else []).length<=1:=by split <;> simp
 have c:=Dw (cv:=cv) (g:=R.bo);have d:(if R.bn = "" then [] else [R.bn]).length<=1:=by split <;> simp
 unfold eO;simp only[i5,P3,ac6];lia
def tu(G:ic its):∀n∈namesOf its,isName n=true:=by
 intro n b;unfold namesOf at b;obtain⟨f,g,d⟩:=List.mem_flatMap.mp b;obtain⟨i,h⟩:=ab8.mp g;cases f with
 |bp a c =>
  rw[(B1.mp d)];exact(G.bp i a c h).1
 |cb R=>cases d
def sQ(G:ic its)(h:its[i]?=some it):(∀x∈it.cq (namesOf its),kL x)/\it.cq (namesOf its)≠[]/\(it.cq (namesOf its)).length<=7:=by
 cases it with
 |bp n c =>
  obtain⟨a,d,_⟩:=G.bp i n c h;refine⟨λx b=>?_,by simp[Item.cq],by simp[Item.cq]⟩;simp only[Item.cq,Z5,ad1,an3] at b;rcases b with e|e|e
  .exact e▸⟨by lk,by lk,by lk⟩
  .exact e▸nU a
  .exact e▸nU d
 |cb R =>
  obtain⟨a,_⟩:=G.cb i R h;have hl:=EB (cv:=namesOf its) (R:=R);exact⟨Aj (tu G) a,λz=>by simp only[Item.cq] at z;rw[z] at hl;simp at hl,hl.2⟩
theorem uR(hcd:d≠c):∀{ps:List c7},(∀p∈ps,d∉p)->d∉d9 c ps
 | [],_,z=>by cases z
 | [x],h,z=>h x (by simp) z
 |x::y::r,h,z=>by
  unfold d9 at z;rcases X1.mp z with z|z
  .exact h x (by simp) z
  .rcases Z5.mp z with z|z
   .exact hcd z
   .exact uR hcd (λp hp=>h p (Q1 _ hp)) z
theorem qz:∀{ps:List c7},(∀p∈ps,p.length<=m)->(d9 c ps).length<=ps.length*(m+1)
 | [],_=>by simp[d9]
 | [x],h=>by have:=h x (by simp);simp[d9];lia
 |x::y::r,h=>by have b:=h x (by simp);have d:=qz (c:=c) (ps:=y::r) (λp a=>h p (Q1 _ a));unfold d9;rw[i5,P3,P3,Nat.succ_mul];lia
def ny(G:ic its)(h:its[i]?=some it):10∉(rowOf (namesOf its) it).l/\(rowOf (namesOf its) it).length<=1421/\Txt.split (rowOf (namesOf its) it) ⟨#[32]⟩=it.cq (namesOf its):=by
 obtain⟨d,f,j⟩:=sQ G h;refine⟨by unfold rowOf;rw[fZ];refine uR (by decide) λp a=>?_;obtain⟨x,e,rfl⟩:=aa9.mp a;exact(d x e).n,?_,pe f λp a=>(d p a).b⟩
 .have g:=qz (c:=32) (m:=202) (ps:=(it.cq (namesOf its)).map λp=>p.l) (λp a=>by obtain⟨x,e,rfl⟩:=aa9.mp a;rw[bV];exact(d x e).l)
  rw[<- fZ,bV,d5] at g;unfold rowOf;lia
def rowsOf(its:List Item):a9:=its.map (rowOf (namesOf its))
def rX(h:(rowsOf its)[i]?=some x):∃it,its[i]?=some it/\x=rowOf (namesOf its) it:=by unfold rowsOf at h;rw[v3] at h;obtain⟨it,a,b⟩:=D1.mp h;exact⟨it,a,b.symm⟩
def Af(G:ic its):Txt.split (Str.join ⟨#[10]⟩ (rowsOf its)) ⟨#[10]⟩=rowsOf its:=by refine pe (by unfold rowsOf;simpa using G.ne) λp a=>?_;obtain⟨i,h⟩:=ab8.mp a;obtain⟨c,b,rfl⟩:=rX h;exact(ny G b).1
def text_len(G:ic its)(hl:its.length<=200):(Str.join ⟨#[10]⟩ (rowsOf its)).length<=300000:=by
 have a:=qz (c:=10) (m:=1421) (ps:=(rowsOf its).map λp=>p.l) (λp b=>by obtain⟨x,d,rfl⟩:=aa9.mp b;obtain⟨i,h⟩:=ab8.mp d;obtain⟨f,e,rfl⟩:=rX h;rw[bV];exact(ny G e).2.1)
 rw[<- fZ,bV,d5,rowsOf,d5] at a;unfold rowsOf;lia
structure Nums(cv:a9)(cp:List (Key×V)):Prop where
 has:numsOf cv cp
 not:∀n,n∉cv->fP cp (.inr n)=none
 len:cp.length=cv.length
def Nums.nil:Nums [] []:=⟨λg n h=>by simp at h,λ_ _=>rfl,rfl⟩
def Nums.put(N:Nums cv cp)(h:n∉cv):Nums (cv++[n]) (putK cp (.inr n) (.int cv.length)):=by
 refine⟨λg m e=>?_,λm a=>by rw[yi,C5 (λz=>a (by rw[an9 z];simp))];exact N.not m λz=>a (aa8 _ z),by unfold putK;rw[iC,N.not n h,C5 (by decide),i5,i5,N.len];rfl⟩
 .rw[yi];rcases dU e with e|⟨b,c⟩
  .have:m≠n:=λz=>h (z ▸ p0 e);rw[C5 (λz=>this (an9 z))];exact N.has g m e
  .rw[c,w4 rfl,b]
inductive Vh(vs:q7)(H:Hp)(Q:VK)(_:XK):Prop|mk(a:Addr)(its:List Item)(_:vs=[.ref a])(_:H a=r6 ((rowsOf its).map V.str))(_:ic its)(_:its.length<=200)(_:∀d cp H',H' d=some (.dK cp)->Nums (namesOf its) cp->af H H'->Q (.ref d) H')
def tY   (G:jB cv R):∃x r,eO cv R=x::r/\x ≠ "mode" := by
 unfold eO cI;split
 .exact⟨R.bc,_,rfl,(nV G.pat.bc).2⟩
 .exact⟨R.bc,_,rfl,(nV G.pat.bc).2⟩
def S0:bE P w K mg ap dJ 1 t.Ep t.Ql ["rows"] Vh:=by
 refine T.E8.ok xJ λvs H Q E h=>?_;obtain⟨a,f,rfl,I,G,O,q⟩:=h;room;have J:(" " : Str)=⟨#[32]⟩:=by lk
 refine ak (b7 1 xJ kN) λd L=>?_;refine aG (λm=>∀x y e p,p d=some (.dK e)->Nums (namesOf f) e->af H p->m [ρ a,ρ d,x,y] p) (dD aa7 rfl (fF br) (jb 2 xJ) ay) ?_ ?_
 .refine⟨a,rfl,⟨_,aV.of (by rw[aj (au I L)];exact I)⟩,jw (xs:=(rowsOf f).map V.str) (λi s p=>∃x y e,s=[ρ a,ρ d,x,y]/\p d=some (.dK e)/\Nums (namesOf (f.take i)) e/\af H p) ⟨_,_,[],rfl,aa,Nums.nil,af.ag L⟩ (by rintro i s p _ ⟨x,y,e,rfl,u,l,v⟩;exact aV.of (v _ _ I)) ?_ (by rintro s p ⟨x,y,e,rfl,u,l,v⟩;refine λ_ C1=>C1 x y e _ u ?_ v;rw[d5,rowsOf,d5,ab3] at l;exact l)⟩
  .rintro i xv s D S ⟨x,y,e,rfl,u,l,U⟩;rw[v3] at S;obtain⟨bb,z,rfl⟩:=D1.mp S;obtain⟨A,g,rfl⟩:=rX z;obtain⟨g1,g2,X⟩:=ny G g;refine ak (b7 3 xJ (cV ae2 ag1 aj8 kM cG (bQ aZ))) ⟨rfl,_,_,rfl,rfl,by decide,bK (by lia),λB M=>?_⟩;rw[J,X];have F:af D (ag D B (.lst ((A.cq (namesOf f)).map V.str))):=af.ag M;have C:ag D B (.lst ((A.cq (namesOf f)).map V.str)) B=r6 ((A.cq (namesOf f)).map V.str):=aa;have r:=F _ _ u;generalize ag D B (.lst ((A.cq (namesOf f)).map V.str))=H2 at F C r;cases A with
   |bp n c =>
    obtain⟨m1,m2,m3,Y⟩:=G.bp i n c g;refine av (bq (PW.pt (dX (aA cC (aC aU dh ai) aZ (aE _)) (cX (aA j9 (ez aD T.bD (bQ dh)) ai (aE _))))) ay ay) ⟨aV.of C,aB (j:=0) rfl,rfl,.mk<|dM (λ_=>?_) (λh=>absurd rfl h)⟩;refine⟨_,_,rfl,.inl (aV.of C),.mk<|.mk<|dM (λ_=>?_) (λh=>absurd (by simp[Item.cq]) h)⟩;refine av (pS (cS hr) bP (aC aU dh ai) (ez Eb T.bD (bQ bP)) rfl) ⟨d,e,rfl,r,aV.of C,aB (j:=1) rfl,d,_,rfl,xA.k (k:=.inr n) r (l.len▸cL (by lia)),?_⟩
    .refine⟨_,_,_,rfl,aa,by rw[ae1 g,nu,l.len];exact l.put Y,λb o W=>by rw[aj (au W L)];exact F _ _ (U _ _ W)⟩
   |cb R =>
    obtain⟨Z,_⟩:=G.cb i R g;obtain⟨fw,fr,e1,e2⟩:=tY Z;have N:H2 B=r6 (V.str fw::fr.map V.str):=by rw[C];simp only[Item.cq];rw[e1];rfl
    refine av (bq (PW.pt (dX (aA cC (aC aU dh ai) aZ (aE _)) (cX (aA j9 (ez aD T.bD (bQ dh)) ai (aE _))))) ay ay) ⟨aV.of N,aB (j:=0) rfl,rfl,.mk<|dM (λh=>absurd (V.str.inj h) e2) (λ_=>bg ?_)⟩;refine⟨_,_,e,rfl,r,?_,U.trans F⟩;rw[ae1 g,nu];show Nums (namesOf (f.take i)++[]) e;rw[ad2];exact l
 intro x y e p u l v;exact av (aQ bP) (q d e p u l v)
inductive Ij(t:eZ)(vs:q7)(H:Hp)(Q:VK)(_:XK):Prop|mk(p dx lw lm:Addr)(bb:Int)(n c:Str)(as ls:c6)(ms:List aR)(_:vs=[.ref p,.ref lm])(_:pJ t H p dx lw bb ["mode",n,c] 0)(_:isName n=true)(_:isName c=true)(_:H lm=r6 (as.map V.ref))(_:cY t H as ls ms)(_:ms.length<12)(_:n∉ms.map (·.name))(_:∀m l2 dm H',H' m=s0 t.fE dm (mf ⟨n,c,[]⟩ l2)->H' l2=r6 []->H l2=none->fY H H' p->Q (.ref m) H')
def MH{M:aR}(h:H m=s0 t.fE dm (mf M l))(C:pJ t H p dx lw bb ws i):m≠p:=bL h C.ob λq=>by
 injection q with _ _ q
 unfold mf cf at q;simp at q
def VY:bE P w K mg ap dJ 5 t.Ff t.Ov ["cursor","modes"] (Ij t):=by
 refine T.Et.ok z5 λvs H Q E h=>?_;obtain⟨p,d,y,W,bb,n,c,L,ls,f,rfl,C,hn,hc,r,s,hl12,X,q⟩:=h;room;refine ak (aY (bw br T.bx T.DM (vn T) hr.m T.zK.b2 .nil aH (bQ (eW fX (ez aD T.bD (bQ bP)) (iF rfl T.uw) (aE _))))) ⟨C.ob,rfl,_,_,rfl,.inl (aV.of r),.mk ?_⟩;dsimp only;rw[ab4 (by rw[d5,s.la];lia)];refine⟨_,rfl,?_⟩;refine ak (aY (bw br T.bx T.LV (B4 T) hr.m T.IG.b2 .nil aH (bQ (bG (bQ aZ))))) ⟨C.ob,rfl,sL rfl,λpt Z=>?_⟩;have s1:af H (ag H pt (.tup [.str "mode"])):=af.ag Z;refine⟨p,d,y,pt,["mode"],bb,_,0,rfl,C.ae s1,bT.of aa,B1.mpr rfl,λH2 M A=>?_⟩;have A:=s1.K3 A;have g:=A _ _ r (bL r C.ob);refine ak (aY (bw br T.bx T.DM (vn T) hr.m T.zK.b2 .nil aH (bQ (eW mj (bR br T.bx T.AB (tG T) hr.m T.zg.b1 .nil aH (by left)) (@iM _ (az (top 52)) _ ["cursor","modes","name","colour"] _ _ ("mode") _ _ [] _ _ (by walk_at "ck") (fF bP) (λ_ _ _ _=>by exact(@kc _ K _ _ _ _ br rfl (by left))) (by left) (by left) (by left) (by left)) rfl)) (by left) (by left) (by left)) (by left)) ?_;refine⟨M.ob,rfl,⟨M.ob,rfl,p,d,y,bb,_,0+1,rfl,M,?_⟩⟩;refine⟨W,rfl,⟨_,aV.of g⟩,ie (xs:=L.map V.ref) (λi N v=>v=H2/\N=((f.map (·.name)).take i).map V.str) ⟨rfl,rfl⟩ (cL (by rw[d5,s.la];lia)) (by rintro i N v _ ⟨rfl,_⟩;exact aV.of g) ?_ ?_⟩
 .rintro i xv N v hx B ⟨rfl,rfl⟩;rw[v3] at hx;obtain⟨a,ha,rfl⟩:=D1.mp hx;have hi:i<L.length:=(d6.mp ha).1;obtain⟨m,hm⟩:∃m,f[i]?=some m:=⟨f[i]'(s.la▸hi),i4 _⟩
  obtain⟨l,hll⟩:∃l,ls[i]?=some l:=⟨ls[i]'(s.ll▸s.la▸hi),i4 _⟩
  obtain⟨dm,rs,o1,o2,o3⟩:=s.ob i a l m ha hll hm;refine⟨A _ _ o1 (MH o1 C),T.gF,T.jT,rfl,?_⟩;refine fQ (by rw[d5];exact hi) B ⟨rfl,?_⟩;rw[ae1 (l:=f.map (·.name)) (x:=m.name) (by rw[v3,hm];rfl),o0];rfl
 .rintro N v B ⟨rfl,rfl⟩ D hD;rw[(ac1 (by rw[d5,d5,s.la];lia))];have s3:af v (ag v D (.lst ((f.map (·.name)).map V.str))):=af.ag hD;have C3:=M.ae s3;refine⟨.inl (aV.of aa),rfl,vj,?_⟩;rw[w4 rfl,mS,ab2 (p:=pk ["mode",n,c] (0+1)∈f.map (·.name)) X];refine⟨_,rfl,?_⟩;refine ak (b7 2 z5 (bR br T.bx T.Lj (BV T) hr.m T.FZ.b1 .nil aH)) ⟨C3.ob,rfl,p,d,y,bb,_,0+1,rfl,C3,hn,λH4 C4 a4=>?_⟩;refine ak (b7 3 z5 (bR br T.bx T.Lj (BV T) hr.m T.FZ.b1 .nil aH)) ⟨C4.ob,rfl,p,d,y,bb,_,0+1+1,rfl,C4,hc,λH5 O R=>?_⟩;have R:=(A.ae s3).trans (a4.trans R);refine ak (aY (bw br T.bx T.DM (vn T) hr.m T.zK.b2 .nil aH (bQ (Ka (bR br T.bx T.Lg (Cn T) hr.m T.IT.b1 .nil aH))))) ⟨O.ob,rfl,⟨O.ob,rfl,p,d,y,bb,_,0+1+1+1,rfl,O,.mk ?_⟩⟩;refine⟨_,rfl,?_⟩;refine av (aQ (fj T.Cb (ER T) hr.m rfl T.zc T.GX.b4 .nil aH (ao cG (cy dh (bM bu))))) ⟨sL rfl,λl1 hl1=>?_⟩;intro x dm nx G ne;refine⟨x,dm,l1,n,c,[],rfl,aa,by rw[aj (au aa nx),aj (au aa G)];exact aa,λl2 H6 h1 h2 h3 h4=>⟨rfl,?_⟩⟩;have I:∀b o,H5 b=some o->b≠x/\b≠dm/\b≠l1:=λb o u=>by
   have e1:=au u hl1;have J:ag H5 l1 (.lst []) b=some o:=by rw[aj e1];exact u
   exact⟨au J nx,au J G,e1⟩
  have j:∀b o,H5 b=some o->H6 b=some o:=λb o u=>by obtain⟨S,k2,k3⟩:=I b o u;refine h4 b o ?_ S;rw[aj S,aj k2,aj k3];exact u
  refine q x l2 dm H6 h2 h3 ?_ λb o u nb=>j b o (R b o u nb);cases e:H l2 with
  |none=>rfl
  |some o =>
   by_cases z:l2=p
   .rw[z,(j p _ O.ob)] at h3;cases h3
   .have U:=R _ _ e z;obtain⟨S,k2,k3⟩:=I _ _ U;rw[aj S,aj k2,aj k3,U] at h1;cases h1
inductive V9(t:eZ)(vs:q7)(H:Hp)(Q:VK)(_:XK):Prop|mk(its:List Item)(_:vs=[.str (Str.join ⟨#[10]⟩ (rowsOf its))])(_:ic its)(_:its.length<=200)(_:∀a H',IsRules t H' a (foldI its)->af H H'->Q (.ref a) H')
def vB(its:List Item):(foldI its).length=(namesOf its).length:=by rw[<- sG,d5]
def fY.fresh(s:af H H1)(h:H p=none)(a:fY H1 H2 p):af H H2:=λb o c=>a b o (s b o c) (au c h)
def eF.mJ(h:eF t H r R)(hl:H l=r6 xs):eF t (ag H l o) r R:=by obtain⟨a,p,x,⟨b,y⟩⟩:=h;exact⟨a,p,by rw[aj (bL x hl)];exact x,b,by rw[aj (bL y hl)];exact y⟩
def cY.mJ(h:cY t H as ls ms)(hl:H l=r6 xs)(hn:l∉ls):cY t (ag H l o) as ls ms :=
 ⟨h.la,h.ll,h.nd,λi a b m d c f=>by obtain⟨g,j,x,y,z⟩:=h.ob i a b m d c f;exact⟨g,j,by rw[aj (bL x hl)];exact x,by rw[aj (show b≠l from λe=>hn (e ▸ p0 c))];exact y,z.mono λ_ _ r=>r.mJ hl⟩⟩
def cY.alive(h:cY t H as ls ms)(hl:l∈ls):∃xs,H l=r6 xs:=by obtain⟨i,e⟩:=ab8.mp hl;have a:=(d6.mp e).1;obtain⟨b,c,x,y,z⟩:=h.ob i _ l _ (i4 (h.la▸h.ll▸a)) e (i4 (h.ll▸a));exact⟨_,y⟩
def cY.ZF(h:cY t H as ls ms)(hm:H m=s0 t.fE dm (mf ⟨n,c,[]⟩ l))(hl:H l=r6 [])(hn:l∉ls):cY t H (as++[m]) (ls++[l]) (ms++[⟨n,c,[]⟩]):=by
 refine⟨by simp[h.la],by simp[h.ll],by refine af3.mpr ⟨h.nd,by simp,λa p b q=>?_⟩;rw[B1.mp q];exact λe=>hn (e ▸ p),λi a j o g d f=>?_⟩
 .have u:=h.la;have v:=h.ll;rcases dU g with g|⟨w,rfl⟩
  .have:=(d6.mp g).1;rcases dU d with d|⟨r,rfl⟩
   .rcases dU f with f|⟨s,rfl⟩
    .exact h.ob i a j o g d f
    .lia
   .lia
  .rcases dU d with d|⟨r,rfl⟩
   .have:=(d6.mp d).1;lia
   .rcases dU f with f|⟨s,rfl⟩
    .have:=(d6.mp f).1;lia
    .exact⟨dm,[],hm,hl,bf.nil⟩
def J8{l:c6}(h:l.Nodup)(h1:l[i]?=some a)(h2:l[j]?=some a):i=j:=by obtain⟨d,b⟩:=d6.mp h1;obtain⟨e,c⟩:=d6.mp h2;exact(List.getElem_inj h).mp (b.trans c.symm)
def cY.ZD(h:cY t H as ls (ms++[m]))(hl:ls[ms.length]?=some l)(hH:H l=r6 (rs.map V.ref))(hA:bf (eF t H) rs m.bd)(hr:eF t H r R) :
  cY t (ag H l (.lst (rs.map V.ref++[.ref r]))) as ls (ms++[{ m with bd:=m.bd++[R] }]):=by
 refine⟨by rw[h.la];simp,by rw[h.ll];simp,h.nd,λi a j n g c d=>?_⟩;rcases dU d with d|⟨o,rfl⟩
 .have p:=(d6.mp d).1;obtain⟨f,b,x,y,z⟩:=h.ob i a j n g c (by rw[aa2 p];exact d);refine⟨f,b,by rw[aj (bL x hH)];exact x,?_,z.mono λ_ _ r=>r.mJ hH⟩;rw[aj (λe=>?_)]
  .exact y
  .subst e;have:=J8 h.nd c hl;lia
 .subst o;rw[hl] at c;cases c;obtain⟨f,b,x,y,z⟩:=h.ob _ a l m g hl (by simp);refine⟨f,rs++[r],by rw[aj (bL x hH)];exact x,by rw[aa,o0];rfl,?_⟩;exact bf.snoc (hA.mono λ_ _ r=>r.mJ hH) (hr.mJ hH)
def uT{f:α->β}{as:List α}{k:Nat}{a:α}(hl:as.length=k+1)(h:as[k]?=some a):oE (as.map f) (-1)=some (f a):=by
 unfold oE zG;rw[d5,hl];have e:((-1:Int)+((k+1:Nat):Int)).toNat=k:=by lia
 first
  | (rw[C5 (by lia),w4 (by lia)];simp only[an2];rw[show (((k+1:Nat):Int)+(-1:Int)).toNat=k by lia,v3,h];rfl)
  | (rw[C5 (by lia),w4 (by lia)];simp only[an2];rw[e,v3,h];rfl)
def U0:bE P w K mg ap dJ 7 t.Fw t.Q9 ["text"] (V9 t):=by
 refine T.Hw.ok lV λvs H Q E h=>?_;obtain⟨e,rfl,G,M,q⟩:=h;room;have nl1:("\n" : Str)=⟨#[10]⟩:=by lk
 refine ak (b7 1 lV (cV ae2 ag1 aj8 kM br (bQ aZ))) ⟨rfl,_,_,rfl,rfl,by decide,bK (by have:=text_len G M;lia),λv hlr=>?_⟩;rw[nl1,Af G];have s1:af H (ag H v (.lst ((rowsOf e).map V.str))):=af.ag hlr;have U:ag H v (.lst ((rowsOf e).map V.str)) v=r6 ((rowsOf e).map V.str):=aa;generalize ag H v (.lst ((rowsOf e).map V.str))=H1 at s1 U;refine ak (b7 2 lV (aS (S0 T) hr.m rfl T.Vu T.E8.kp T.E8.b1 .nil aH (bQ bP))) ⟨v,e,rfl,U,G,M,λd cp H2 hd2 hN s2=>?_⟩;have hr2:=s2 _ _ U;have s2:=s1.trans s2;refine ak (b7 3 lV (bM bu)) ⟨sL rfl,λlm W=>?_⟩;have s3:af H2 (ag H2 lm (.lst [])):=af.ag W;have X:ag H2 lm (.lst []) lm=r6 []:=aa;generalize ag H2 lm (.lst [])=H3 at s3 X;have hlm0:H lm=none:=s2.free W;have hr3:=s3 _ _ hr2;have hd3:=s3 _ _ hd2;have s3:=s2.trans s3;refine ak (b7 4 lV (bM bu)) ⟨sL rfl,λnw Y=>?_⟩;have Z:af H3 (ag H3 nw (.lst [])):=af.ag Y;have hw4:ag H3 nw (.lst []) nw=r6 []:=aa;generalize ag H3 nw (.lst [])=H4 at Z hw4;have hr4:=Z _ _ hr3;have hd4:=Z _ _ hd3;have hm4:=Z _ _ X;have Z:=s3.trans Z;refine aG (λk=>∀x5 x6 x7 x8 f ls s,s lm=r6 (f.map V.ref)->s nw=r6 []->cY t s f ls (foldI e)->af H s->k [τ (Str.join ⟨#[10]⟩ (rowsOf e)),ρ v,ρ d,ρ lm,ρ nw,x5,x6,x7,x8] s) (dD aa7 rfl (wG rfl T.mY (bQ bP)) (iK rfl (bF (jb 5 lV) (bF (jb 6 lV) fU))) ay) ?_ ?_
 .refine⟨v,_,rfl,aV.of hr4,qK (xs:=(rowsOf e).map V.str) (λi σ' s=>∃x5 x6 x7 x8 f ls,σ'=[τ (Str.join ⟨#[10]⟩ (rowsOf e)),ρ v,ρ d,ρ lm,ρ nw,x5,x6,x7,x8]/\s lm=r6 (f.map V.ref)/\s nw=r6 []/\s v=r6 ((rowsOf e).map V.str)/\s d=some (.dK cp)/\cY t s f ls (foldI (e.take i))/\lm∉ls/\nw∉ls/\v∉ls/\(∀l∈ls,H l=none)/\af H s) (⟨_,_,_,_,[],[],rfl,hm4,hw4,hr4,hd4,⟨rfl,rfl,List.nodup_nil,λi a l m h=>by simp at h⟩,by simp,by simp,by simp,by simp,Z⟩) (by rintro i σ' s _ ⟨x5,x6,x7,x8,f,ls,rfl,h1,h2,h3,_⟩;exact aV.of h3) ?_ (by rintro σ' s ⟨x5,x6,x7,x8,f,ls,rfl,h1,h2,h3,h4,h5,_,_,_,_,h6⟩;rw[d5,rowsOf,d5,ab3] at h5;exact λ_ C1=>C1 _ _ _ _ f ls _ h1 h2 h5 h6)⟩
  .rintro i xv pt σ' H5 hx hpt ⟨x5,x6,x7,x8,f,ls,rfl,J,hw5,hr5,B,hM,u,C,D,hfr,s5⟩;rw[v3] at hx;obtain⟨bb,hrow,rfl⟩:=D1.mp hx;obtain⟨it,y,rfl⟩:=rX hrow;obtain⟨g1,g2,g3⟩:=ny G y;obtain⟨w1,w2,w3⟩:=sQ G y;have s6:af H5 (ag H5 pt (.tup [.int i,.str (rowOf (namesOf e) it)])):=af.ag hpt;refine⟨pt,[.int i,.str (rowOf (namesOf e) it)],rfl,bT.of aa,rfl,_,_,rfl,_,_,rfl,rfl,?_⟩;generalize ag H5 pt (.tup [.int i,.str (rowOf (namesOf e) it)])=H6 at s6;refine ak (b7 7 lV (fj T.DS (Xi T) hr.m rfl T.A3 T.WU.b3 .nil aH (cy gX jv))) (λp F np L ne=>⟨p,F,i,_,rfl,aa,by lia,by rw[g3];lia,λlw H7 hlw N a7=>⟨rfl,?_⟩⟩);rw[g3] at N;have I:af H5 H7:=λb o g=>a7 b o (by rw[aj (au (s6 _ _ g) np),aj (au (s6 _ _ g) L)];exact s6 _ _ g) (au (s6 _ _ g) np);have hp5:H5 p=none:=s6.free np;have A:=I _ _ J;have hM7:=hM.ae I;have hml:f.length=(foldI (e.take i)).length:=hM.la;cases it with
   |bp n c =>
    obtain⟨m1,m2,m3,m4⟩:=G.bp i n c y;refine av (bq (PW.pt (jz (g9 (gc dh (λ_=>rfl))) (jk (aA cC (bR jO T.bx T.AB (tG T) hr.m T.zg.b1 .nil aH) aZ (aE _))))) ay ay) ⟨_,.inl ⟨_,aV.of A,rfl⟩,?_⟩;refine(λg=>xM (λ_=>zA g) (λ_=>⟨N.ob,rfl,p,F,lw,i,_,0,rfl,N,rfl,.mk<|dM (λ_=>g) (λh=>absurd rfl h)⟩)) ?_;refine av (aY (cV Z4 aa0 aa3 bW dh (bQ (aS (VY T) hr.m rfl T.RQ T.Et.kp T.Et.b2 .nil aH (cy jO dh))))) ⟨.inl ⟨rfl,_,aV.of A⟩,p,F,lw,lm,i,n,c,f,ls,_,rfl,N,m1,m2,A,hM7,by rw[vB];exact m3,by rw[sG];exact m4,λm l2 dm H8 e1 e2 O a8=>?_⟩;have j:af H5 H8:=fY.fresh I hp5 a8;have hm8:=j _ _ J;have n1:lm≠l2:=au A O;have hn2:l2∉ls:=λz=>by obtain⟨xs,hx⟩:=hM7.alive z;rw[hx] at O;cases O
    refine⟨hm8,cL (by rw[d5,hml,vB];lia),?_⟩;refine⟨_,_,_,_,f++[m],ls++[l2],rfl,by rw[aa,o0];rfl,by rw[aj (aa4 (au X Y))];exact j _ _ hw5,by rw[aj (au hr2 W)];exact j _ _ hr5,by rw[aj (bL B J)];exact j _ _ B,by rw[ae1 y,uf];exact cY.ZF ((hM.ae j).mJ hm8 u) (by rw[aj (bL e1 hm8)];exact e1) (by rw[aj (aa4 n1)];exact e2) hn2,?_,?_,?_,?_,by intro b o g;rw[aj (au g hlm0)];exact j _ _ (s5 _ _ g)⟩
    .intro z;rcases X1.mp z with z|z
     .exact u z
     .exact n1 (B1.mp z)
    .intro z;rcases X1.mp z with z|z
     .exact C z
     .exact au (I _ _ hw5) O (B1.mp z)
    .intro z;rcases X1.mp z with z|z
     .exact D z
     .exact au (I _ _ hr5) O (B1.mp z)
    .intro l hl;rcases X1.mp hl with z|z
     .exact hfr l z
     .rw[B1.mp z];exact(s5.trans I).free O
   |cb R =>
    obtain⟨r1,ms,m,hms,hm12⟩:=G.cb i R y;obtain⟨fw,fr,f1,f2⟩:=tY r1;rw[hms] at hM hM7 hml;have hk:f.length=ms.length+1:=by rw[hml];simp
    obtain⟨a,ha⟩:∃a,f[ms.length]?=some a:=⟨f[ms.length]'(by lia),i4 _⟩
    obtain⟨l,hl⟩:∃l,ls[ms.length]?=some l:=⟨ls[ms.length]'(by rw[hM.ll];simp),i4 _⟩
    obtain⟨dm,rs,o1,o2,o3⟩:=hM.ob ms.length a l m ha hl (by simp);have o2':=I _ _ o2;have hrl:rs.length<12:=o3.1▸hm12
    have hnl:l∈ls:=p0 hl;refine av (bq (PW.pt (jz (g9 (gc dh (λ_=>rfl))) (jk (aA cC (bR jO T.bx T.AB (tG T) hr.m T.zg.b1 .nil aH) aZ (aE _))))) ay ay) ⟨_,.inl ⟨_,aV.of A,rfl⟩,xM (λh=>?_) (λ_=>?_)⟩
    .exfalso;have:f≠[]:=λz=>by rw[z] at hk;simp at hk
     cases f with
     |nil=>exact this rfl
     |cons _ _=>simp at h
    refine⟨N.ob,rfl,p,F,lw,i,_,0,rfl,N,rfl,.mk<|dM (λh=>by exfalso;refine f2 ?_;have h:=V.str.inj h;simp only[Item.cq,f1] at h;exact h) (λ_=>?_)⟩
    refine ak (b7 8 lV (aM (aC aU dh (iQ fT ai)) rfl)) ⟨aV.of A,uT hk ha,I _ _ o1,T.gF,T.gJ,rfl,?_⟩;refine ak (aY (bw jO T.bx T.DM (vn T) hr.m T.zK.b2 .nil aH (bQ (eW fX (ez aD T.bD (bQ kH)) (iF rfl T.sV) (aE _))))) ⟨N.ob,rfl,_,_,rfl,.inl (aV.of o2'),.mk ?_⟩;dsimp only;rw[ab4 (by rw[d5];lia)];refine⟨_,rfl,?_⟩;refine av (aY (cV Z4 aa0 aa3 bW kH (bQ (aS (Tz T) hr.m rfl T.RA T.KQ.kp T.KQ.b3 .nil aH (ao jO (cy cG eE)))))) ⟨.inl ⟨rfl,_,aV.of o2'⟩,p,F,lw,d,_,i,_,cp,namesOf e,R,rfl,N,rfl,I _ _ B,hN.has,tu G,r1,λr H8 hr8 a8=>?_⟩;have j:af H5 H8:=fY.fresh I hp5 a8;have S:=j _ _ o2;refine⟨S,cL (by rw[d5];lia),?_⟩;refine⟨_,_,_,_,f,ls,rfl,by rw[aj (show lm≠l from λz=>u (z ▸ hnl))];exact j _ _ J,by rw[aj (show nw≠l from λz=>C (z ▸ hnl))];exact j _ _ hw5,by rw[aj (show v≠l from λz=>D (z ▸ hnl))];exact j _ _ hr5,by rw[aj (bL B o2)];exact j _ _ B,by rw[ae1 y,uf,hms];show cY _ _ _ _ (j8 R (ms++[m]));rw[lQ];exact(hM.ae j).ZD hl S (o3.mono λ_ _ r=>r.ae j) hr8,u,C,D,hfr,by intro b o g;rw[aj (au g (hfr l (p0 hl)))];exact j _ _ (s5 _ _ g)⟩
 intro x5 x6 x7 x8 f ls s h1 h2 h5 h6;refine ak (bq (gc eE (λ_=>rfl)) ay ay) ⟨_,.inl ⟨_,aV.of h2,rfl⟩,mH (bg ?_)⟩;refine av (aQ (fj T.xO (GH T) hr.m rfl T.uY T.Hx.b2 .nil aH (bQ dh))) (λx F nx L ne=>⟨x,F,lm,_,rfl,aa,by rw[aj (au h1 nx),aj (au h1 L)];exact h1,λl2 H8 e1 e2 O e4=>⟨rfl,?_⟩⟩);have j:af s H8:=λb o g=>e4 b o (by rw[aj (au g nx),aj (au g L)];exact g) (au g nx);exact q x H8 ⟨F,l2,f,ls,e2,O,h5.ae j⟩ (h6.trans j)
def iP(R:cz)(bb:Str)(i:Nat):Bool:=decide (fh R.bc R.bi bb i ≠ .dj)
noncomputable def jI(bb:Str)(i:Nat):Nat->List cz->Option Nat
 |_,[]=>none
 |k,R::r=>if iP R bb i=true then some k else jI bb i (k+1) r
def firstM(rs:List cz)(bb:Str)(i:Nat):Option Nat:=jI bb i 0 rs
def GoodR(R:cz):Prop:=R.bc∈sorts/\R.bi.length<=200
def wo(rs:List cz):Prop:=rs.length<=200/\∀R∈rs,GoodR R
def gH{l:List α}{x:α}(h:l[i]?=some x):l.drop i=x::l.drop (i+1):=by rw[List.drop_eq_getElem?_toList_append,h];rfl
def DB{rs:List cz}(h:rs[n]?=some R):jI bb i k (rs.drop n)=if iP R bb i=true then some k else jI bb i (k+1) (rs.drop (n+1)):=by rw[gH h];rfl
def IsRules.bp(h:IsRules t H a ms){k:Nat}(hm:ms[k]?=some m) :
  ∃(dx lm:Addr) (as:c6) (b lr dm:Addr) (rs:c6),H a=s0 t.kg dx [("modes",.ref lm)]/\H lm=r6 (as.map V.ref)/\as.length=ms.length/\as[k]?=some b/\H b=s0 t.fE dm (mf m lr)/\H lr=r6 (rs.map V.ref)/\bf (eF t H) rs m.bd:=by
 obtain⟨dx,lm,as,f,j,d,c⟩:=h;have g:=(d6.mp hm).1;obtain⟨b,i⟩:∃b,as[k]?=some b:=⟨as[k]'(c.la▸g),i4 _⟩
 obtain⟨lr,e⟩:∃b,f[k]?=some b:=⟨f[k]'(c.ll▸g),i4 _⟩
 obtain⟨dm,rs,l,n,o⟩:=c.ob k b lr m i e hm;exact⟨dx,lm,as,b,lr,dm,rs,j,d,c.la,i,l,n,o⟩
def cM{as:c6}(h:as[k]?=some b):oE (as.map V.ref) ((k:Nat):Int)=some (.ref b):=aB (by rw[v3,h];rfl)
inductive My(t:eZ)(vs:q7)(H:Hp)(Q:VK)(_:XK):Prop|mk(a:Addr)(ms:List aR)(m:aR)(k i:Nat)(bb:Str)(_:vs=[.ref a,.int k,.str bb,.int i])(_:IsRules t H a ms)(_:ms[k]?=some m)(_:wo m.bd)(_:bb.length<=1000)(_:i<=bb.length)(_:∀H',af H H'->Q (vU (firstM m.bd bb i)) H')
def IJ:bE P w K mg ap dJ 2 t.Im t.PV ["rules","mode","row","at"] (My t):=by
 refine T.xY.ok zI λvs H Q E h=>?_;obtain⟨a,ms,m,k,i,bb,rfl,M,N,ba,g,O,q⟩:=h;room;obtain⟨dx,lm,as,b,S,U,W,X,v,Y,Z,A,j,B⟩:=M.bp N;refine aF (λc d=>(∃x y,c=[ρ a,ι k,τ bb,ι i,x,y])/\af H d/\firstM m.bd bb i=none) (dD aa7 rfl (wG rfl T.mY (bQ (aM (aC aU (aM br rfl) bP) rfl))) (iK rfl (bF (jb 4 zI) (bF (jb 5 zI) fU))) ay) ?_ ?_
 .refine⟨X,T.jf,T.d7,rfl,⟨aV.of v,cM Z,A,T.gF,T.gJ,rfl,S,_,rfl,aV.of j,qK (xs:=W.map V.ref) (λn c d=>(∃x y,c=[ρ a,ι k,τ bb,ι i,x,y])/\af H d/\firstM m.bd bb i=jI bb i n (m.bd.drop n)) ⟨⟨_,_,rfl⟩,af.refl H,rfl⟩ (by rintro n c d _ ⟨_,l,_⟩;exact aV.of (l _ _ j)) ?_ (by rintro c d ⟨h1,h2,L⟩;rw[d5,B.1,List.drop_length] at L;exact⟨h1,h2,L⟩)⟩⟩
  .rintro n xv pt c F G C ⟨⟨x,y,rfl⟩,l,o⟩;rw[v3] at G;obtain⟨r,p,rfl⟩:=D1.mp G;obtain⟨R,e⟩:∃R,m.bd[n]?=some R:=⟨m.bd[n]'(B.1▸(d6.mp p).1),i4 _⟩
   obtain⟨dr,I,D,J,s⟩:=B.2 n r R p e;obtain⟨g1,g2⟩:=ba.2 R (p0 e);obtain⟨fe,fs,de,ds,u⟩:=Mq (P:=P) (w:=w) (ap:=ap) T g1;have f:af H (ag F pt (.tup [.int n,.ref r])):=l.trans (af.ag C);refine⟨pt,[.int n,.ref r],rfl,bT.of aa,rfl,_,_,rfl,_,_,rfl,rfl,?_⟩;rw[DB e] at o;generalize ag F pt (.tup [.int n,.ref r])=H2 at f;refine av (bq (aA nR (bw (aM gX rfl) u.cl u.me u.ge hr.m u.be .nil aH (cy cG dh)) cR (aE _)) ay ay) (⟨(f _ _ D),T.cW,T.gj,rfl,⟨f _ _ s,u.ne _,I,J,R.bi,bb,i,rfl,f _ _ s,by lia,g,O,rfl,.mk<|mq (λh=>by refine av (aQ eE) (?_);rw[w4 (show iP R bb i=true from ab4 h)] at o;have:=q H2 f;rw[o] at this;exact this) (λh=>bg ⟨⟨_,_,rfl⟩,f,by rw[C5 (by rw[iP,ab2 (λz=>z h)];decide)] at o;exact o⟩)⟩⟩)
 rintro c d ⟨⟨x,y,rfl⟩,l,hn⟩;refine av (aQ cR) ?_;have:=q d l;rw[hn] at this;exact this
noncomputable def aX(n:Nat):V:=.int (n:Int)
noncomputable def cT(on:c7)(d:Str)(g:Option Nat):c7 :=
 if d = "push" then on++[g.getD 0] else if d = "into" then on.dropLast++[g.getD 0] else if d = "pop" then (if on.length=1 then [0] else on.dropLast) else on
def Oa(R:cz):Prop:=gW R.bB->∃g,R.bo=some g
theorem xT:∀(l:List α) (x:α),l≠[]->l.set (l.length-1) x=l.dropLast++[x]
 | [],_,h=>absurd rfl h
 | [a],x,_=>rfl
 |a::b::r,x,_=>by
  have:=xT (b::r) x (by simp);show a::(b::r).set ((b::r).length-1) x=a::((b::r).dropLast++[x])
  rw[this]
def K5(h:0<n):zG n (-1)=some (n-1):=by
 unfold zG;first
  | (rw[C5 (by lia),w4 (by lia)];congr 1;lia)
  | (rw[w4 (by lia)];congr 1;lia)
inductive V5(t:eZ)(vs:q7)(H:Hp)(Q:VK)(_:XK):Prop|mk(lo r:Addr)(on:c7)(R:cz)(_:vs=[.ref lo,.ref r])(_:H lo=r6 (on.map aX))(_:eF t H r R)(_:on≠[])(_:on.length<=100000)(_:Oa R)(_:Q .dj (ag H lo (.lst ((cT on R.bB R.bo).map aX))))
def UT(h:H a=some o):ag H a o=H:=by
 funext b;by_cases e:b=a
 .rw[e,aa,h]
 .rw[aj e]
def E4:bE P w K mg ap dJ 1 t.F7 t.Qo ["modes","rule"] (V5 t):=by
 refine T.yS.ok Ut λB H Q E h=>?_;obtain⟨lo,r,c,R,rfl,a,⟨C,D,b,u⟩,f,p,s,q⟩:=h;room;have i:0<c.length:=by cases c with | nil=>exact absurd rfl f | cons _ _=>simp
 refine av (bq (aA cC (aM bP rfl) aZ (aE _)) ay ay) (⟨b,T.cW,T.iw,rfl,⟨rfl,.mk<|dM (λh=>by have h:=V.str.inj h;obtain⟨g,l⟩:=s (.inl h);refine av (aY (cV Z4 aa0 aa3 bW br (bQ (aM bP rfl)))) ⟨.inl ⟨rfl,_,aV.of a⟩,⟨b,T.cW,T.jR,rfl,⟨a,cL (by rw[d5];lia),?_⟩⟩⟩;rw[cT,w4 h,l,o0] at q;exact l▸q) (λj=>?_)⟩⟩)
 .have j:R.bB ≠ "push" := λz=>j (by rw[z]);refine av (bq (aA cC (aM bP rfl) aZ (aE _)) ay ay) (⟨b,T.cW,T.iw,rfl,⟨rfl,.mk<|dM (λh=>by have h:=V.str.inj h;obtain⟨g,l⟩:=s (.inr h);refine av (jo (aM bP rfl) (wH br (iQ fT ai) set_list)) (⟨b,T.cW,T.jR,rfl,⟨lo,_,_,_,rfl,rfl,a,K5 (by rw[d5];exact i),?_⟩⟩);rw[cT,C5 j,w4 h,l,o0] at q;rw[xT _ _ (by simpa using f),l,<- List.map_dropLast];exact q) (λn=>?_)⟩⟩)
  .have n:R.bB ≠ "into" := λz=>n (by rw[z]);refine av (bq (aA cC (aM bP rfl) aZ (aE _)) ay ay) (⟨b,T.cW,T.iw,rfl,⟨rfl,.mk<|dM (λh=>?_) (λo=>bg (by rw[cT,C5 j,C5 n,C5 (λz=>o (by rw[z])),UT a] at q;exact q))⟩⟩)
   .rw[cT,C5 j,C5 n,w4 (V.str.inj h)] at q;obtain⟨y,A⟩:∃y,(c.map aX)[(c.map aX).length-1]?=some y:=⟨_,i4 (by rw[d5];lia)⟩
    refine ak (aY (qD Z4 aj1 al1 qJ br)) ⟨.inl ⟨rfl,_,aV.of a⟩,a,A,?_⟩;refine av (bq (g9 (gc br (λ_=>rfl))) ay ay) ⟨_,.inl ⟨_,aV.of aa,rfl⟩,?_⟩;rw[<- List.map_dropLast];by_cases d:c.length=1
    .rw[w4 d] at q;have e:=ad5 (by rw[af9,d]);rw[e];refine zA (av (aY (cV Z4 aa0 aa3 bW br (bQ (iF rfl T.nJ)))) ⟨.inl ⟨rfl,_,aV.of aa⟩,aa,by decide,?_⟩);rw[fV];exact q
    .rw[C5 d] at q;have e:c.dropLast≠[]:=λz=>by have:=ac7 List.length z;rw[af9] at this;simp at this;lia
     cases hd:c.dropLast with
     |nil=>exact absurd hd e
     |cons x r =>
      rw[hd] at q;exact mH (bg q)
def MF(h:on≠[]):cT on d g≠[]:=by
 unfold cT;split
 .simp
 .split
  .simp
  .split
   .split
    .simp
    .intro z;have:=ac7 List.length z;rw[af9] at this;cases on with
     |nil=>exact h rfl
     |cons x r =>
      cases r with
      |nil=>rename_i a _ ;simp at *
      |cons y r=>simp at this
   .exact h
def gA(h:on.getLast?=some k):oE (on.map aX) (-1)=some (aX k):=by
 obtain⟨a,rfl⟩:∃a,on=a++[k]:=by
  rcases al3 on with rfl|⟨p,x,rfl⟩
  .simp at h
  .simp at h;exact⟨p,by rw[h,al2]⟩
 exact uT (k:=a.length) (by simp) (by simp)
structure eK(ms:List aR):Prop where
 pos:0<ms.length
 len:ms.length<=200
 ok:∀m∈ms,wo m.bd
 bB:∀m∈ms,∀R∈m.bd,R.bB∈ow
 bo:∀m∈ms,∀R∈m.bd,gW R.bB->∃g,R.bo=some g/\g<ms.length
def eK.gd(G:eK ms)(h:m∈ms)(h2:R∈m.bd):Oa R:=λz=>let ⟨g,e,_⟩:=G.bo m h R h2 z;⟨g,e⟩
def lK(ms:List aR)(on:c7):Prop:=on≠[]/\∀x∈on,x<ms.length
def lK.bB(G:eK ms)(h:lK ms on)(h1:m∈ms)(h2:R∈m.bd):lK ms (cT on R.bB R.bo):=by
 refine⟨MF h.1,λx a=>?_⟩;unfold cT at a;split at a
 .rename_i e;obtain⟨g,b,c⟩:=G.bo m h1 R h2 (.inl e);rcases X1.mp a with a|a
  .exact h.2 x a
  .rw[B1.mp a,b];exact c
 .split at a
  .rename_i e;obtain⟨g,b,c⟩:=G.bo m h1 R h2 (.inr e);rcases X1.mp a with a|a
   .exact h.2 x (List.dropLast_subset _ a)
   .rw[B1.mp a,b];exact c
  .split at a
   .split at a
    .rw[B1.mp a];exact G.pos
    .exact h.2 x (List.dropLast_subset _ a)
   .exact h.2 x a
noncomputable def cE(on:c7):Nat:=on.getLastD 0
def iI(h:on≠[]):on.getLast?=some (cE on):=by unfold cE;rw[ae7,List.getLast?_eq_some_getLast h];rfl
def sy(h:on≠[]):cE on∈on:=List.mem_of_getLast? (iI h)
def lK.bp(h:lK ms on):∃m,ms[cE on]?=some m:=⟨ms[cE on]'(h.2 _ (sy h.1)),i4 _⟩
def iD(rs:List cz)(bb:Str)(i:Nat):Option cz:=(firstM rs bb i).bind (rs[·]?)
def jK(rs:List cz)(bb:Str):Option cz:=(iD rs bb 0).bind λR=>if cF R.bc=true then none else some R
theorem mZ:∀{rs:List cz} {k n:Nat},jI bb i k rs=some n->k<=n/\∃R,rs[n-k]?=some R/\iP R bb i=true/\∀j,j<n-k->∀R',rs[j]?=some R'->iP R' bb i=false
 | [],k,n,h=>by cases h
 |R::r,k,n,h=>by
  rw[jI] at h;split at h
  .rename_i hf;cases h;refine⟨N0 _,R,by rw[aj6];rfl,hf,λj hj=>?_⟩;lia
  .rename_i hf;obtain⟨h1,R',h2,h3,h4⟩:=mZ h;have e:n-k=(n-(k+1))+1:=by lia
   refine⟨by lia,R',by rw[e,ah2];exact h2,h3,λj hj b a=>?_⟩;cases j with
   |zero =>
    rw[af6] at a;cases a;simpa using hf
   |succ j=>exact h4 j (by lia) b (by rw[ah2] at a;exact a)
def yj(h:firstM rs bb i=some n):∃R,rs[n]?=some R/\iD rs bb i=some R/\iP R bb i=true:=by obtain⟨_,R,a,b,_⟩:=mZ h;rw[Nat.sub_zero] at a;exact⟨R,a,by rw[iD,h];exact a,b⟩
inductive SM(t:eZ)(vs:q7)(H:Hp)(Q:VK)(_:XK):Prop|mk(a:Addr)(ms:List aR)(m:aR)(k:Nat)(bb:Str)(_:vs=[.ref a,.int k,.str bb])(_:IsRules t H a ms)(_:ms[k]?=some m)(_:wo m.bd)(_:bb.length<=1000)(_:∀H',af H H'->(jK m.bd bb=none->Q .dj H')/\∀R r,jK m.bd bb=some R->eF t H r R->Q (.ref r) H')
def Fg:bE P w K mg ap dJ 3 t.Iu t.M7 ["rules","mode","row"] (SM t):=by
 refine T.yp.ok zR λM H Q E h=>?_;obtain⟨a,y,m,k,bb,rfl,u,v,ba,d,q⟩:=h;room;refine ak (b7 3 zR (aS (IJ T) hr.m rfl T.Hh T.xY.kp T.xY.b4 .nil aH (ao br (ao bP (cy cG ai))))) ⟨a,y,m,k,0,bb,rfl,u,v,ba,d,by lia,λi c=>?_⟩;obtain⟨N,O,S,b,U,z,W,A,j,B,C,l,o,D⟩:=u.bp v;cases hf:firstM m.bd bb 0 with
 |none =>
  have e:jK m.bd bb=none:=by rw[jK,iD,hf];rfl
  exact ak (bq (aA we dh cR (aE _)) ay ay) ⟨rfl,.mk<|dM (λ_=>av (aQ cR) ((q i c).1 e)) (λh=>absurd rfl h)⟩
 |some n =>
  obtain⟨R,x,p,_⟩:=yj hf;obtain⟨r,s,f⟩:=D.at x;obtain⟨F,X⟩:=ba.2 R (p0 x);obtain⟨Y,fs,Z,ds,g⟩:=Mq (P:=P) (w:=w) (ap:=ap) T F;refine ak (bq (aA we dh cR (aE _)) ay ay) ⟨rfl,.mk<|dM (λh=>by cases h) (λ_=>bg ?_)⟩;refine ak (b7 4 zR (aC aU (aM (aC aU (aM br rfl) bP) rfl) dh)) (⟨(c _ _ A),T.jf,T.d7,rfl,⟨aV.of (c _ _ j),cM C,c _ _ l,T.gF,T.gJ,rfl,aV.of (c _ _ o),cM s,?_⟩⟩);obtain⟨dr,G,I,J,L⟩:=id f;have e:jK m.bd bb=if cF R.bc=true then none else some R:=by rw[jK,p];rfl
  refine av (aQ (dc (gR (bR (aM eE rfl) g.cl g.ms g.gs hr.m g.bs .nil aH)) cR eE)) (⟨(c _ _ I),T.cW,T.gj,rfl,⟨c _ _ L,g.ns _,_,rfl,.mk<|xM (λh=>by rw[w4 h] at e;exact(q i c).1 e) (λh=>(by rw[C5 (by rw[h];decide)] at e;exact(q i c).2 R r e f))⟩⟩)
def lZ(ms:List aR)(k:Nat)(bb:Str):Option cz:=(ms[k]?).bind λm=>jK m.bd bb
noncomputable def k8(ms:List aR)(bb:Str)(first:Nat):Nat->c7->c7->Option c7
 |0,_,_=>none
 |f+1,on,ring=>match lZ ms (cE on) bb with
  |none=>none
  |some R=>if R.bB = "pop" /\ on.length=1/\first≠0 then none else if cE (cT on R.bB R.bo)=first then some (ring++[cE on]) else k8 ms bb first f (cT on R.bB R.bo) (ring++[cE on])
def jD(ms:List aR)(first:Nat)(bb:Str):Option c7:=k8 ms bb first ms.length [first] []
def qb:(cT on d g).length<=on.length+1:=by
 unfold cT;split
 .simp
 .split
  .simp
  .split
   .split
    .simp
    .simp;lia
   .lia
def ze(h:jK rs bb=some R):R∈rs:=by
 unfold jK at h;cases e:iD rs bb 0 with
 |none=>rw[e] at h;cases h
 |some R' =>
  rw[e] at h;have:(if cF R'.bc=true then none else some R')=some R:=h;split at this
  .cases this
  .cases this;unfold iD at e;cases e2:firstM rs bb 0 with
   |none=>rw[e2] at e;cases e
   |some n=>rw[e2] at e;exact p0 e
inductive Au(t:eZ)(vs:q7)(H:Hp)(Q:VK)(_:XK):Prop|mk(a:Addr)(ms:List aR)(first:Nat)(bb:Str)(_:vs=[.ref a,.int first,.str bb])(_:IsRules t H a ms)(_:eK ms)(_:first<ms.length)(_:bb.length<=1000)(_:∀H',af H H'->(jD ms first bb=none->Q .dj H')/\∀ring l,jD ms first bb=some ring->H' l=r6 (ring.map aX)->H l=none->Q (.ref l) H')
def I9:bE P w K mg ap dJ 4 t.HD t.NX ["rules","first","row"] (Au t):=by
 refine T.yu.ok tQ λvs H Q E h=>?_;obtain⟨a,n,first,bb,rfl,hR,G,p,y,q⟩:=h;room;refine ak (b7 3 tQ (bM bu)) ⟨sL rfl,λg B=>?_⟩;have s1:af H (ag H g (.lst [])):=af.ag B;have C:ag H g (.lst []) g=r6 []:=aa;generalize ag H g (.lst [])=H1 at s1 C;refine ak (b7 4 tQ (bM (bQ bP))) ⟨sL rfl,λlo D=>?_⟩;have N:af H1 (ag H1 lo (.lst [.int first])):=af.ag D;have O:ag H1 lo (.lst [.int first]) lo=r6 ([first].map aX):=aa;have S:=N _ _ C;have U:=au C D;have W:=s1.free D;generalize ag H1 lo (.lst [.int first])=H2 at N O S;show At _ _ _ [ρ a,ι first,τ bb,ρ g,ρ lo,none] H2;obtain⟨dx,lm,as,ls,ha,hlm,hM⟩:=id hR;refine aG (λk=>∀x j,af H j->jD n first bb=none->k [ρ a,ι first,τ bb,ρ g,ρ lo,x] j) (jd aa7 (aA fX (ez aD T.bD (bQ dh)) (ez aD T.bD (bQ (aM br rfl))) (aE _)) ay) ?_ ?_
 .refine⟨λf s j=>∃d ring,(∃x,s=[ρ a,ι first,τ bb,ρ g,ρ lo,x])/\j g=r6 (ring.map aX)/\j lo=r6 (d.map aX)/\af H j/\f+ring.length=n.length/\lK n d/\d.length<=ring.length+1/\jD n first bb=k8 n bb first f d ring,⟨n.length,[first],[],⟨_,rfl⟩,S,O,s1.trans N,by simp,⟨by simp,by simpa using p⟩,by simp,rfl⟩,?_⟩;rintro f s H3 ⟨d,ring,⟨x,rfl⟩,X,F,l,hfl,i,honl,c⟩;have hlen:=G.len;refine⟨_,_,rfl,.inl (aV.of X),⟨(l _ _ ha),T.jf,T.d7,rfl,⟨_,_,rfl,.inl (aV.of (l _ _ hlm)),.mk<|.mk<|dM (λh=>?_) (λh=>?_)⟩⟩⟩
  .rw[d5,d5,hM.la] at h;obtain⟨f',rfl⟩:∃f',f=f'+1:=⟨f-1,by lia⟩
   obtain⟨m,Y⟩:=i.bp;have u:=p0 Y;have hid:lZ n (cE d) bb=jK m.bd bb:=by rw[lZ,Y];rfl
   rw[k8,hid] at c;refine⟨_,λs j z=>z,?_⟩;obtain⟨dx',lm',as',b,lr,dm,rs,ha',hlm',hal',M,hmo,hlr,hA⟩:=(hR.ae l).bp Y;cases hi0:jK m.bd bb with
   |none =>
    rw[hi0] at c;refine ak (b7 5 tQ (aS (Fg T) hr.m rfl T.IC T.yp.kp T.yp.b3 .nil aH (ao br (cy (aC aU eE (iQ fT ai)) cG)))) ⟨aV.of F,gA (iI i.1),a,n,m,cE d,bb,rfl,hR.ae l,Y,G.ok m u,y,λv I=>⟨λ_=>?_,(λR r e=>by rw[hi0] at e;cases e)⟩⟩;exact ak (bq (aA we gX cR (aE _)) ay ay) ⟨rfl,.mk<|dM (λ_=>av (aQ cR) ((q v (l.trans I)).1 c)) (λh=>absurd rfl h)⟩
   |some R =>
    rw[hi0] at c;have Z:=ze hi0;refine ak (b7 5 tQ (aS (Fg T) hr.m rfl T.IC T.yp.kp T.yp.b3 .nil aH (ao br (cy (aC aU eE (iQ fT ai)) cG)))) ⟨aV.of F,gA (iI i.1),a,n,m,cE d,bb,rfl,hR.ae l,Y,G.ok m u,y,λv I=>⟨(λe=>by rw[hi0] at e;cases e),λR' r e hr1=>?_⟩⟩;rw[hi0] at e;cases e;refine ak (bq (aA we gX cR (aE _)) ay ay) ⟨rfl,.mk<|dM (λh=>by cases h) (λ_=>bg ?_)⟩;have hr4:=hr1.ae I;have J:=I _ _ X;have L:=I _ _ F;obtain⟨dr,pa,o1,hpat⟩:=id hr4;refine aG (λk=>∀j,j=v->¬(R.bB = "pop" /\ d.length=1/\first≠0)->k [ρ a,ι first,τ bb,ρ g,ρ lo,ρ r] j) (bq (PW.pt (dX (aA cC (aM gX rfl) aZ (aE _)) (dX (aA cC (ez aD T.bD (bQ eE)) ai (aE _)) (cX (aA tX bP (iF rfl T.nJ) (aE _)))))) ay ay) ?_ ?_
    .refine⟨o1,T.cW,T.iw,rfl,⟨rfl,.mk<|dM (λh1=>?_) (λh1=>bg (λ_ C1=>C1 _ rfl (λz=>h1 (by rw[z.1]))))⟩⟩;refine⟨_,_,rfl,.inl (aV.of L),rfl,.mk<|dM (λh2=>?_) (λh2=>bg (λ_ C1=>C1 _ rfl (λz=>h2 (by rw[d5,z.2.1];rfl))))⟩;refine⟨rfl,.mk<|mq (λh3=>?_) (λh3=>bg (λ_ C1=>C1 _ rfl (λz=>z.2.2 (by have:=V.int.inj h3;lia))))⟩;have h2:=V.int.inj h2;rw[d5] at h2;have hc:R.bB = "pop" /\ d.length=1/\first≠0:=⟨V.str.inj h1,by lia,λz=>h3 (by rw[z];rfl)⟩
     simp only[w4 hc] at c;exact av (aQ cR) ((q v (l.trans I)).1 c)
    intro j e hnc;rw[e];clear e j;simp only[C5 hnc] at c;refine ak (aY (cV Z4 aa0 aa3 bW dh (bQ (aC aU eE (iQ fT ai))))) ⟨.inl ⟨rfl,_,aV.of J⟩,aV.of L,gA (iI i.1),J,cL (by rw[d5];lia),?_⟩;have hg5:ag v g (.lst (ring.map aX++[aX (cE d)])) g=r6 ((ring++[cE d]).map aX):=by rw[aa,o0];rfl
    have ho5:ag v g (.lst (ring.map aX++[aX (cE d)])) lo=r6 (d.map aX):=by rw[aj (aa4 U)];exact L
    have hr5:eF t (ag v g (.lst (ring.map aX++[aX (cE d)]))) r R:=hr4.mJ J;have s5:af H (ag v g (.lst (ring.map aX++[aX (cE d)]))):=λb o M=>by rw[aj (au M B)];exact I _ _ (l _ _ M)
    generalize ag v g (.lst (ring.map aX++[aX (cE d)]))=H5 at hg5 ho5 hr5 s5;refine ak (aY (aS (E4 T) hr.m rfl T.HE T.yS.kp T.yS.b2 .nil aH (cy eE gX))) ⟨lo,r,d,R,rfl,ho5,hr5,i.1,by lia,G.gd u Z,?_⟩;have A:=i.bB G u Z;have hol6:(cT d R.bB R.bo).length<=d.length+1:=qb;have hg6:ag H5 lo (.lst ((cT d R.bB R.bo).map aX)) g=r6 ((ring++[cE d]).map aX):=by rw[aj U];exact hg5
    have s6:af H (ag H5 lo (.lst ((cT d R.bB R.bo).map aX))):=λb o M=>by rw[aj (au M W)];exact s5 _ _ M
    refine av (bq (aA cC (aC aU eE (iQ fT ai)) bP (aE _)) ay ay) ⟨aV.of aa,gA (iI A.1),rfl,.mk<|dM (λh=>?_) (λh=>bg ?_)⟩
    .have h:cE (cT d R.bB R.bo)=first:=by have:=V.int.inj h;lia
     rw[w4 h] at c;exact av (aQ dh) ((q _ s6).2 _ g c hg6 B)
    .have h:¬cE (cT d R.bB R.bo)=first:=λz=>h (by rw[<- z];rfl);rw[C5 h] at c;refine⟨f',by lia,_,_,⟨_,rfl⟩,hg6,aa,s6,by simp only[i5,P3,ac6];lia,A,by simp only[i5,P3,ac6];lia,c⟩
  .rw[d5,d5,hM.la] at h;have:f=0:=by lia
   subst this;exact λ_ C1=>C1 _ _ l c
 intro x j l hn;exact av (aQ cR) ((q j l).1 hn)
noncomputable abbrev MC:Str:=" !\"#$&'()*+,-./0123456789:;<=>?@ABCDEFGHIJKLMNOPQRSTUVWXYZ[\\]^_`abcdefghijklmnopqrstuvwxyz{|}~"
def iy:a9:="" :: MC.l.map λc=>(⟨#[c]⟩:Str)
inductive Ln(vs:q7)(H:Hp)(Q:VK)(_:XK):Prop|mk(_:vs=[])(_:∀l H',H' l=r6 (iy.map V.str)->H l=none->af H H'->Q (.ref l) H')
def Mp:bE P w K mg ap dJ 1 t.Ao t.JN [] Ln:=by refine T.zP.ok ML λe H Q E h=>?_;obtain⟨rfl,q⟩:=h;room;refine av (aQ (aK gM (bM (bQ aZ)) (pO (Ae rfl) T.jn (bQ (iF rfl T.C0))))) ⟨sL rfl,λc b=>⟨_,rfl,by lk,λd a=>?_⟩⟩;refine⟨af.ag a _ _ aa,aa,bK (by simp only[uy,d5,P3,ac6];lk),λl hl=>?_⟩;refine q l _ ?_ (((af.ag b).to a).free hl) (((af.ag b).to a).to hl);rw[aa,iy,ab5,ag3];rfl
def CQ:∀r∈iy,r.length<=1:=by
 intro r hr;rcases Z5.mp hr with e|e
 .rw[e];decide
 .obtain⟨c,_,rfl⟩:=aa9.mp e;exact N0 1
noncomputable def lH(ms:List aR)(bb:Str):Nat->Nat->Option c7
 |0,_=>none
 |n+1,k=>match jD ms k bb with
  |some r=>some r
  |none=>lH ms bb n (k+1)
noncomputable def kI(ms:List aR):a9->Option (c7×Str)
 | []=>none
 |bb::r=>match lH ms bb ms.length 0 with
  |some ring=>some (ring,bb)
  |none=>kI ms r
def oF(ms:List aR):Option (c7×Str):=kI ms iy
noncomputable def nameAt(ms:List aR)(k:Nat):Str:=match ms[k]? with
 |some m=>m.name
 |none=>""
noncomputable def Us (bb:Str):V:=if bb = "" then .dj else .str bb
inductive V7(t:eZ)(vs:q7)(H:Hp)(Q:VK)(_:XK):Prop|mk(a:Addr)(ms:List aR)(_:vs=[.ref a])(_:IsRules t H a ms)(_:eK ms)(_:∀H',af H H'->(oF ms=none->Q .dj H')/\∀ring bb p l,oF ms=some (ring,bb)->H' p=t0 [.ref l,Us bb]->H' l=r6 ((ring.map (nameAt ms)).map V.str)->Q (.ref p) H')
theorem yH(G:eK ms):∀{f:Nat} {on ring r:c7},lK ms on->(∀x∈ring,x<ms.length)->k8 ms bb first f on ring=some r->∀x∈r,x<ms.length
 |0,on,ring,r,_,_,h=>by cases h
 |f+1,on,ring,r,ho,hr,h=>by
  rw[k8] at h;obtain⟨m,hm⟩:=ho.bp;have hid:lZ ms (cE on) bb=jK m.bd bb:=by rw[lZ,hm];rfl
  rw[hid] at h;have b:∀x∈ring++[cE on],x<ms.length:=λx a=>by
   rcases X1.mp a with a|a
   .exact hr x a
   .rw[B1.mp a];exact ho.2 _ (sy ho.1)
  cases e:jK m.bd bb with
  |none=>rw[e] at h;cases h
  |some R =>
   rw[e] at h;have h:(if R.bB = "pop" /\ on.length=1/\first≠0 then none else if cE (cT on R.bB R.bo)=first then some (ring++[cE on]) else k8 ms bb first f (cT on R.bB R.bo) (ring++[cE on]))=some r:=h;split at h
   .cases h
   .split at h
    .cases h;exact b
    .exact yH G (ho.bB G (p0 hm) (ze e)) b h
theorem vQ:∀{f:Nat} {on ring r:c7},k8 ms bb first f on ring=some r->r.length<=ring.length+f
 |0,on,ring,r,h=>by cases h
 |f+1,on,ring,r,h=>by
  rw[k8] at h;cases e:lZ ms (cE on) bb with
  |none=>rw[e] at h;cases h
  |some R =>
   rw[e] at h;have h:(if R.bB = "pop" /\ on.length=1/\first≠0 then none else if cE (cT on R.bB R.bo)=first then some (ring++[cE on]) else k8 ms bb first f (cT on R.bB R.bo) (ring++[cE on]))=some r:=h;split at h
   .cases h
   .split at h
    .cases h;simp
    .have:=vQ h;rw[i5,P3,ac6] at this;lia
def VV:bE P w K mg ap dJ 5 t.J2 t.NT ["rules"] (V7 t):=by
 refine T.Kl.ok sO λvs H Q E h=>?_;obtain⟨a,d,rfl,R,G,q⟩:=h;room;have hlen:=G.len;refine aF (λg j=>(∃x y z,g=[ρ a,x,y,z])/\af H j/\oF d=none) (dD aa7 rfl (fF (Hl (Mp T) hr.m rfl T.LA T.zP.kp T.zP.b0 .nil aH)) (jb 1 sO) ay) ?_ ?_
 .refine⟨rfl,λl H1 F hl0 X=>⟨l,rfl,⟨_,aV.of F⟩,jw (xs:=iy.map V.str) (λi g j=>(∃x y z,g=[ρ a,x,y,z])/\j l=r6 (iy.map V.str)/\af H j/\oF d=kI d (iy.drop i)) ⟨⟨_,_,_,rfl⟩,F,X,rfl⟩ (by rintro i g j _ ⟨_,h,_⟩;exact aV.of h) ?_ (by rintro g j ⟨h1,_,h2,h3⟩;rw[d5,List.drop_length] at h3;exact⟨h1,h2,h3⟩)⟩⟩
  .rintro i xv g H2 I ⟨⟨x,y,z,rfl⟩,Y,Z,f⟩;rw[v3] at I;obtain⟨bb,p,rfl⟩:=D1.mp I;have hrl:=CQ bb (p0 p);rw[gH p,kI] at f;obtain⟨dx,lm,as,ls,ha,r,hM⟩:=id R;refine av (dD aa7 rfl (fm rfl T.iG (bQ (ez aD T.bD (bQ (aM br rfl))))) (jb 2 sO) ay) (⟨(Z _ _ ha),T.jf,T.d7,rfl,⟨_,_,rfl,.inl (aV.of (Z _ _ r)),(d.length:Int),by rw[d5,hM.la],by lia,by lia,fH (n:=((d.length:Nat):Int).toNat) (λk g j=>(∃y z,g=[ρ a,τ bb,y,z])/\j l=r6 (iy.map V.str)/\af H j/\lH d bb d.length 0=lH d bb (d.length-k) k) ⟨⟨_,_,rfl⟩,Y,Z,rfl⟩ ?_ (by rintro g H3 ⟨⟨y,z,rfl⟩,s,B,c⟩;rw[ab9,aj6] at c;refine⟨⟨_,_,_,rfl⟩,s,B,?_⟩;rw[f,c];rfl)⟩⟩)
   .rintro k g H3 hk ⟨⟨y,z,rfl⟩,s,B,c⟩;have u:k<d.length:=by lia
    rw[show d.length-k=(d.length-(k+1))+1 by lia,lH] at c;cases hf:jD d k bb with
    |none =>
     rw[hf] at c;refine ak (b7 3 sO (aS (I9 T) hr.m rfl T.Gk T.yu.kp T.yu.b3 .nil aH (ao br (cy cG bP)))) ⟨a,d,k,bb,(by rw[ah4];rfl),R.ae B,G,u,by lia,λH4 S=>⟨λ_=>?_,(λring lg e=>by rw[hf] at e;cases e)⟩⟩;exact av (bq (aA nR dh cR (aE _)) ay ay) ⟨rfl,.mk<|mq (λh=>absurd rfl h) (λ_=>bg ⟨⟨_,_,rfl⟩,S _ _ s,B.trans S,c⟩)⟩
    |some ring =>
     rw[hf] at c;have f:oF d=some (ring,bb):=by rw[f,c]
     refine ak (b7 3 sO (aS (I9 T) hr.m rfl T.Gk T.yu.kp T.yu.b3 .nil aH (ao br (cy cG bP)))) ⟨a,d,k,bb,(by rw[ah4];rfl),R.ae B,G,u,by lia,λH4 S=>⟨(λe=>by rw[hf] at e;cases e),λring' lg e J hlg0=>?_⟩⟩;rw[hf] at e;cases e;have L:=B.trans S;have hlt:∀x∈ring,x<d.length:=yH G ⟨by simp,by simpa using u⟩ (by simp) hf;have M:ring.length<1000000:=by have:=vQ hf;simp only[ac6] at this;lia
     refine av (bq (aA nR dh cR (aE _)) ay ay) ⟨rfl,.mk<|mq (λ_=>?_) (λh=>by cases h)⟩;refine av (aQ (bG (cy (iM (sc:=az (top 34)) (N:=["rules","row","first","ring"]) (x:="mode") (caps:=[("rules",0)]) (by walk_at "ck") (fF dh) (λ_ _ _ _=>(@kc _ K _ _ _ _ (aC (Gq (K:=K) rfl) (@kc _ K _ _ _ _ br rfl (by left)) bP (λ_ _=>rfl)) rfl (by left)))) (dc (gc bP (λ_=>rfl)) bP cR)))) ⟨lg,rfl,⟨_,aV.of J⟩,ie (xs:=ring.map aX) (λi U v=>U=((ring.take i).map (nameAt d)).map V.str/\af H4 v) ⟨rfl,af.refl H4⟩ (by rw[d5];exact Nat.lt_trans M (by decide)) (by rintro i U v _ ⟨_,C⟩;exact aV.of (C _ _ J)) ?_ ?_⟩
     .rintro i xv U v I N ⟨rfl,C⟩;rw[v3] at I;obtain⟨n,O,rfl⟩:=D1.mp I;obtain⟨m,hm⟩:∃m,d[n]?=some m:=⟨d[n]'(hlt n (p0 O)),i4 _⟩
      obtain⟨dx,lm,as,b,lr,dm,rs,ha,r,hal,hb,hmo,hlr,hA⟩:=(R.ae (L.trans C)).bp hm;refine⟨ha,T.jf,T.d7,rfl,⟨aV.of r,cM hb,hmo,T.gF,T.jT,rfl,?_⟩⟩;have hi:=(d6.mp O).1;refine fQ (by rw[d5];exact hi) N ⟨?_,C⟩;rw[ae1 O,o0,o0];show _=_++[V.str (nameAt d n)]
      rw[nameAt,hm]
     .rintro U v N ⟨rfl,C⟩ D hD;have e5:ring.take (ring.map aX).length=ring:=by rw[d5,ab3]
      rw[e5];have s6:af H (ag v D (.lst ((ring.map (nameAt d)).map V.str))):=(L.trans C).to hD;have A:ag v D (.lst ((ring.map (nameAt d)).map V.str)) D=r6 ((ring.map (nameAt d)).map V.str):=aa;generalize ag v D (.lst ((ring.map (nameAt d)).map V.str))=H6 at s6 A;by_cases W:bb = ""
      .refine⟨false,⟨bK (by lia),(by rw[W];rfl)⟩,mH ⟨sL rfl,λtp o=>?_⟩⟩;exact(q _ (s6.to o)).2 ring bb tp D f (by rw[aa,Us,w4 W]) (af.ag o _ _ A)
      .have hrl1:bb.length≠0:=λz=>W (i8 (by rw[show (Str.ofString "").l=[] from by lk];exact ad5 (by rw[bV];exact z)));refine⟨true,⟨bK (by lia),?_⟩,zA ⟨sL rfl,λtp o=>(q _ (s6.to o)).2 ring bb tp D f (by rw[aa,Us,C5 W]) (af.ag o _ _ A)⟩⟩
       .have:(bb.length:Int)≠0:=by lia
        simpa using this
 rintro g j ⟨⟨x,y,z,rfl⟩,X,O⟩;exact av (aQ cR) ((q j X).1 O)
def fN(R:cz)(bb:Str)(i:Nat):Nat:=match fh R.bc R.bi bb i with
 |.int n=>n.toNat
 |_=>0
structure Cfg where
 on:c7
 aP:a9
 bj:List (Nat×Str)
noncomputable def dG(ms:List aR)(k:Nat):Str:=match ms[k]? with
 |some m=>m.bZ
 |none=>""
noncomputable def gE(ms:List aR)(k:Nat):List cz:=match ms[k]? with
 |some m=>m.bd
 |none=>[]
def iB (c:Cfg) (R:cz) (bb:Str):Cfg:=⟨cT c.on R.bB R.bo,c.aP++List.replicate (fN R bb c.aP.length) R.bZ,if R.bn = "" then c.bj else c.bj++[(c.aP.length,R.bn)]⟩
def fc(ms:List aR)(bb:Str)(c:Cfg):Option Cfg:=match iD (gE ms (cE c.on)) bb c.aP.length with
 |some R=>some (iB c R bb)
 |none=>if c.aP.length<bb.length then some ⟨c.on,c.aP++[dG ms (cE c.on)],c.bj⟩ else none
noncomputable def goN(ms:List aR)(bb:Str):Nat->Cfg->Option Cfg
 |0,c=>match fc ms bb c with
  |none=>some c
  |some _=>none
 |n+1,c=>match fc ms bb c with
  |none=>some c
  |some c'=>goN ms bb n c'
def xZ(h:fc ms bb c=some c')(g:goN ms bb n c'=some d):goN ms bb (n+1) c=some d:=by rw[goN,h];exact g
def rY(h:fc ms bb c=none):goN ms bb n c=some c:=by
 cases n with
 |zero=>rw[goN,h]
 |succ n=>rw[goN,h]
theorem mO:∀{n m:Nat} {c d:Cfg},n<=m->goN ms bb n c=some d->goN ms bb m c=some d
 |0,m,c,d,_,h=>by
  rw[goN] at h;cases e:fc ms bb c with
  |none=>rw[e] at h;cases h;exact rY e
  |some c'=>rw[e] at h;cases h
 |n+1,0,c,d,h0,_=>by lia
 |n+1,m+1,c,d,h0,h=>by
  rw[goN] at h ⊢;cases e:fc ms bb c with
  |none=>rw[e] at h;exact h
  |some c'=>rw[e] at h;exact mO (by lia) h
theorem E5(sg:c7):∀l:c7,jm sg l<=l.length
 | []=>N0 _
 |c::r=>by
  rw[jm];split
  .have:=E5 sg r;rw[P3];lia
  .exact Z9 _
def TL(hi:i<=bb.length)(h:fh s sg bb i = .int n):i+n.toNat<=bb.length:=by
 have hl:=bV bb;by_cases a:s = "end"
 .rw[fh,w4 a] at h;split at h
  .have:=V.int.inj h;lia
  .cases h
 .by_cases b:s = "word"
  .rw[fh,C5 a,w4 b] at h;split at h
   .rename_i d;have:=ac7 List.length d;rw[v6,B2,bV,bV] at this;have:=V.int.inj h;lia
   .cases h
  .cases e:bb.l[i]? with
   |none=>rw[fh,C5 a,C5 b,e] at h;cases h
   |some c =>
    have f:i<bb.length:=by have:=(d6.mp e).1;lia
    have hr:=E5 sg.l (bb.l.drop (i+1));rw[B2] at hr;rw[j0 a b e] at h;split at h
    .have:=V.int.inj h;split at this <;> lia
    .split at h
     .split at h
      .cases h
      .have:=V.int.inj h;lia
     .split at h
      .have:=V.int.inj h;split at this <;> lia
      .cases h
def zN(hs:R.bc∈sorts)(hi:i<=bb.length):i+fN R bb i<=bb.length:=by
 unfold fN;rcases o4 R.bc R.bi bb i with ⟨n,e⟩|e
 .exact e▸TL hi e
 .exact e▸hi
inductive GM(H:Hp)(lk:Addr)(mk:List (Nat×Str)):Prop|mk(a)(_:H lk=r6 (a.map V.ref))(_:bf (λp m=>H p=t0 [aX m.1,.str m.2]) a mk)
def GM.ae(h:GM H lk mk)(s:af H H'):GM H' lk mk:=by obtain⟨c,a,b⟩:=h;exact⟨c,s _ _ a,b.mono λ_ _ e=>s _ _ e⟩
inductive GF(H0 H:Hp)(lk:Addr)(mk:List (Nat×Str)):Prop|mk(a)(_:H lk=r6 (a.map V.ref))(_:bf (λp m=>H p=t0 [aX m.1,.str m.2]) a mk)(_:∀p∈a,H0 p=none)
def GF.gm(h:GF H0 H lk mk):GM H lk mk:=by obtain⟨c,a,b,_⟩:=h;exact⟨c,a,b⟩
def GF.ae(h:GF H0 H lk mk)(s:af H H'):GF H0 H' lk mk:=by obtain⟨d,a,b,c⟩:=h;exact⟨d,s _ _ a,b.mono λ_ _ e=>s _ _ e,c⟩
def GF.mJ(h:GF H0 H lk mk)(hl:H l=r6 xs)(hn:lk≠l):GF H0 (ag H l o) lk mk:=by obtain⟨d,a,b,c⟩:=h;exact⟨d,by rw[aj hn];exact a,b.mono λp m e=>by rw[aj (bL e hl)];exact e,c⟩
structure Told(H:Hp)(tp lt lo lk:Addr)(d:Cfg):Prop where
 tp:H tp=t0 [.ref lt,.ref lo,.ref lk]
 lt:H lt=r6 (d.aP.map V.str)
 lo:H lo=r6 (d.on.map aX)
 lk:GM H lk d.bj
inductive SG(t:eZ)(vs:q7)(H:Hp)(Q:VK)(_:XK):Prop|mk(a lo:Addr)(ms:List aR)(on:c7)(bb:Str)(n:Nat)(d:Cfg)(_:vs=[.ref a,.ref lo,.str bb])(_:IsRules t H a ms)(_:eK ms)(_:H lo=r6 (on.map aX))(_:lK ms on)(_:bb.length<=1000)(_:on.length<=50000)(_:n<=40000)(_:goN ms bb n ⟨on,[],[]⟩=some d)(_:∀tp lt lo' lk H',Told H' tp lt lo' lk d->GF H H' lk d.bj->H lt=none->H lo'=none->H lk=none->lt≠lo'->lt≠lk->lo'≠lk->af H H'->Q (.ref tp) H')
theorem sJ(x:α):∀n:Nat,(List.replicate n [x]).flatten=List.replicate n x
 |0=>rfl
 |n+1=>by rw[ag6,am1,sJ x n,ag6];rfl
def Me(h:iP R bb i=true):fh R.bc R.bi bb i=aX (fN R bb i):=by
 unfold iP at h;rw[ac4] at h;unfold fN;have a:∀n,fh R.bc R.bi bb i = .int n->0<=n:=by
  intro n;unfold fh;intro e;repeat' split at e
  all_goals first
   | (have:=V.int.inj e;lia)
   |cases e
 rcases o4 R.bc R.bi bb i with ⟨n,e⟩|e
 .rw[e];have:=a n e;show V.int n=V.int ((n.toNat:Nat):Int);rw[show ((n.toNat:Nat):Int)=n by lia]
 .exact absurd e h
def V8:bE P w K mg ap dJ 3 t.EX t.PX ["rules","modes","row"] (SG t):=by
 refine T.Gj.ok nB λvs H Q E h=>?_;obtain⟨a,lh,y,on,bb,n,d,rfl,hR,G,hlh,ba,S,honl,hn,hgo,q⟩:=h;room;refine ak (b7 3 nB (pO eV T.jn (bQ bP))) ⟨lh,_,rfl,.inl (aV.of hlh),λs X=>?_⟩;have s1:af H (ag H s (.lst (on.map aX))):=af.ag X;have Y:ag H s (.lst (on.map aX)) s=r6 (on.map aX):=aa;generalize ag H s (.lst (on.map aX))=H1 at s1 Y;refine ak (b7 4 nB (bM bu)) ⟨sL rfl,λlt Z=>?_⟩;have s2:af H1 (ag H1 lt (.lst [])):=af.ag Z;have ht2:ag H1 lt (.lst []) lt=r6 []:=aa;have ho2:=s2 _ _ Y;have v:s≠lt:=au Y Z;have C:H lt=none:=s1.free Z;generalize ag H1 lt (.lst [])=H2 at s2 ht2 ho2;have s2:=s1.trans s2;refine ak (b7 5 nB (bM bu)) ⟨sL rfl,λlk L=>?_⟩;have s3:af H2 (ag H2 lk (.lst [])):=af.ag L;have hk3:ag H2 lk (.lst []) lk=r6 []:=aa;have ho3:=s3 _ _ ho2;have ht3:=s3 _ _ ht2;have nok:s≠lk:=au ho2 L;have QY:lt≠lk:=au ht2 L;have U:H lk=none:=s2.free L;generalize ag H2 lk (.lst [])=H3 at s3 hk3 ho3 ht3;show At _ _ _ [ρ a,ρ lh,τ bb,ρ s,ρ lt,ρ lk,none,none,none,none] H3;refine av (jd aa7 (gR k7) ay) ⟨λm σ' D=>∃c,(∃x6 x7 x8 x9,σ'=[ρ a,ρ lh,τ bb,ρ s,ρ lt,ρ lk,x6,x7,x8,x9])/\D s=r6 (c.on.map aX)/\D lt=r6 (c.aP.map V.str)/\GF H D lk c.bj/\lK y c.on/\c.aP.length<=bb.length/\c.on.length+m<=on.length+n/\c.bj.length+m<=n/\goN y bb m c=some d/\af H D,⟨n,⟨on,[],[]⟩,⟨_,_,_,_,rfl⟩,ho3,ht3,⟨[],hk3,bf.nil,by simp⟩,ba,Z9 _,N0 _,by simp,hgo,s2.trans s3⟩,?_⟩;rintro m σ' H4 ⟨c,⟨x6,x7,x8,x9,rfl⟩,ho4,ht4,hk4,i,I,hol4,hml4,f,s4⟩;refine⟨zA ⟨_,λσ' D z=>z,?_⟩⟩;refine ak (b7 6 nB (ez aD T.bD (bQ eE))) ⟨_,_,rfl,.inl (aV.of ht4),?_⟩;rw[d5];show At _ _ _ [ρ a,ρ lh,τ bb,ρ s,ρ lt,ρ lk,ι c.aP.length,x7,x8,x9] H4;obtain⟨md,hm⟩:=i.bp;have M:=p0 hm;obtain⟨dx,lm,as,b,lr,dm,rs,ha,hlm,hal,A,hmo,hlr,hA⟩:=(hR.ae s4).bp hm;have hru:gE y (cE c.on)=md.bd:=by rw[gE,hm]
 refine ak (b7 7 nB (aC aU (aM br rfl) (aC aU dh (iQ fT ai)))) (⟨ha,T.jf,T.d7,rfl,⟨aV.of ho4,gA (iI i.1),aV.of hlm,cM A,?_⟩⟩);refine ak (b7 8 nB (aS (IJ T) hr.m rfl T.Hh T.xY.kp T.xY.b4 .nil aH (ao br (ao (aC aU dh (iQ fT ai)) (cy cG jv))))) ⟨aV.of ho4,gA (iI i.1),a,y,md,cE c.on,c.aP.length,bb,rfl,hR.ae s4,hm,G.ok md M,S,I,λH5 W=>?_⟩;have ho5:=W _ _ ho4;have B:=W _ _ ht4;have N:=hk4.ae W;have s5':=s4.trans W;cases hf:firstM md.bd bb c.aP.length with
 |none =>
  have hrn:iD (gE y (cE c.on)) bb c.aP.length=none:=by rw[hru,iD,hf];rfl
  refine av (bq (aA nR kH cR (aE _)) ay ay) ⟨rfl,.mk<|mq (λh=>absurd rfl h) (λ_=>?_)⟩;refine av (bq (aA fX jv (ez bz T.bD (bQ cG)) (aE _)) ay ay) ⟨_,rfl,bK (by lia),.mk<|.mk<|dM (λh=>?_) (λh=>?_)⟩
  .have hlt':c.aP.length<bb.length:=by lia
   have u:fc y bb c=some ⟨c.on,c.aP++[dG y (cE c.on)],c.bj⟩:=by rw[fc,hrn];show (if c.aP.length<bb.length then _ else _)=_;rw[w4 hlt']
   have ecol:dG y (cE c.on)=md.bZ:=by rw[dG,hm]
   refine av (aY (cV Z4 aa0 aa3 bW eE (bQ (aM jO rfl)))) ⟨.inl ⟨rfl,_,aV.of B⟩,⟨(W _ _ hmo),T.gF,T.kq,rfl,⟨B,cL (by rw[d5];lia),?_⟩⟩⟩;obtain⟨m',rfl⟩:∃m',m=m'+1:=by
    cases m with
    |zero=>rw[goN,u] at f;cases f
    |succ m'=>exact⟨m',rfl⟩
   rw[goN,u] at f;refine⟨m',by lia,⟨c.on,c.aP++[dG y (cE c.on)],c.bj⟩,⟨_,_,_,_,rfl⟩,by rw[aj v];exact ho5,by rw[aa];show _=r6 ((c.aP++[dG y (cE c.on)]).map V.str);rw[o0,ecol];rfl,N.mJ B (aa4 QY),i,by show (c.aP++[dG y (cE c.on)]).length<=_;rw[i5,P3,ac6];lia,by show c.on.length+m'<=_;lia,by show c.bj.length+m'<=_;lia,f,by intro b o A;rw[aj (au A C)];exact s5' _ _ A⟩
  .have u:fc y bb c=none:=by rw[fc,hrn];show (if c.aP.length<bb.length then _ else _)=_;rw[C5 (by lia)]
   have hd:d=c:=by rw[rY u] at f;exact(aa1 f).symm
   subst hd;refine av (aQ (bG (ao eE (cy dh gX)))) ⟨sL rfl,λtp l=>?_⟩;refine q tp lt s lk _ ⟨aa,af.ag l _ _ B,af.ag l _ _ ho5,(N.ae (af.ag l)).gm⟩ (N.ae (af.ag l)) C X U (aa4 v) QY nok (s5'.to l)
 |some j =>
  obtain⟨R,hj,hruR,hfit⟩:=yj hf;have hRm:=p0 hj;obtain⟨g1,g2⟩:=(G.ok md M).2 R hRm;obtain⟨r,hr0,hr1⟩:=hA.at hj;obtain⟨fe,fs,de,ds,PK⟩:=Mq (P:=P) (w:=w) (ap:=ap) T g1;have u:fc y bb c=some (iB c R bb):=by rw[fc,hru,hruR]
  obtain⟨m',rfl⟩:∃m',m=m'+1:=by
   cases m with
   |zero=>rw[goN,u] at f;cases f
   |succ m'=>exact⟨m',rfl⟩
  rw[goN,u] at f;have hr5:=hr1.ae W;have hel:=zN (R:=R) (bb:=bb) g1 I;refine av (bq (aA nR kH cR (aE _)) ay ay) ⟨rfl,.mk<|mq (λ_=>?_) (λh=>by cases h)⟩;refine ak (b7 9 nB (aC aU (aM jO rfl) kH)) (⟨(W _ _ hmo),T.gF,T.gJ,rfl,⟨aV.of (W _ _ hlr),cM hr0,?_⟩⟩);obtain⟨dr,pa,o1,dp,o2⟩:=id hr5;refine ak (aY (cV Z4 F.slot_list_extend F.type_list_extend CY eE (bQ (aK EW (bM (bQ (aM l9 rfl))) (bw (aM l9 rfl) PK.cl PK.me PK.ge hr.m PK.be .nil aH (cy cG jv)))))) ⟨.inl ⟨rfl,_,aV.of B⟩,⟨o1,T.cW,T.kj,rfl,⟨sL rfl,λl1 hl1=>?_⟩⟩⟩;have s6:af H5 (ag H5 l1 (.lst [.str R.bZ])):=af.ag hl1;have hl6:ag H5 l1 (.lst [.str R.bZ]) l1=r6 [.str R.bZ]:=aa;generalize ag H5 l1 (.lst [.str R.bZ])=H6 at s6 hl6;refine⟨(s6 _ _ o1),T.cW,T.gj,rfl,⟨s6 _ _ o2,PK.ne _,pa,dp,R.bi,bb,c.aP.length,rfl,s6 _ _ o2,by lia,S,I,?_⟩⟩;rw[Me hfit];refine⟨hl6,by lia,by lia,by rw[ab9];exact bK (by simp only[P3,ac6];lia),λl2 hl2=>?_⟩;rw[ab9,sJ];have s7:af H5 (ag H6 l2 (.lst (List.replicate (fN R bb c.aP.length) (V.str R.bZ)))):=s6.to hl2;have hl7:ag H6 l2 (.lst (List.replicate (fN R bb c.aP.length) (V.str R.bZ))) l2=r6 (List.replicate (fN R bb c.aP.length) (V.str R.bZ)):=aa;generalize ag H6 l2 (.lst (List.replicate (fN R bb c.aP.length) (V.str R.bZ)))=H7 at s7 hl7;have ht7:=s7 _ _ B;have hk7:=N.ae s7;refine⟨ht7,hl7,bK (by rw[d5,af2];lia),?_⟩;have ht8:ag H7 lt (.lst (c.aP.map V.str++List.replicate (fN R bb c.aP.length) (V.str R.bZ))) lt=r6 ((iB c R bb).aP.map V.str):=by rw[aa];show _=r6 ((c.aP++List.replicate (fN R bb c.aP.length) R.bZ).map V.str);rw[o0,List.map_replicate]
  have ho8:ag H7 lt (.lst (c.aP.map V.str++List.replicate (fN R bb c.aP.length) (V.str R.bZ))) s=r6 (c.on.map aX):=by rw[aj v];exact (s7 _ _ ho5)
  have hk8:GF H (ag H7 lt (.lst (c.aP.map V.str++List.replicate (fN R bb c.aP.length) (V.str R.bZ)))) lk c.bj:=hk7.mJ ht7 (aa4 QY);have O:eF t (ag H7 lt (.lst (c.aP.map V.str++List.replicate (fN R bb c.aP.length) (V.str R.bZ)))) r R:=(hr5.ae s7).mJ ht7;have s8:af H (ag H7 lt (.lst (c.aP.map V.str++List.replicate (fN R bb c.aP.length) (V.str R.bZ)))):=λb o A=>by rw[aj (au A C)];exact s7 _ _ (s5' _ _ A)
  generalize ag H7 lt (.lst (c.aP.map V.str++List.replicate (fN R bb c.aP.length) (V.str R.bZ)))=H8 at ht8 ho8 hk8 O s8;refine aG (λk=>∀x7 x8 D,D s=r6 (c.on.map aX)->D lt=r6 ((iB c R bb).aP.map V.str)->GF H D lk (iB c R bb).bj->eF t D r R->af H D->k [ρ a,ρ lh,τ bb,ρ s,ρ lt,ρ lk,ι c.aP.length,x7,x8,ρ r] D) (bq (aA tX (aM l9 rfl) aZ (aE _)) ay ay) ?_ ?_
  .obtain⟨dr8,pa8,o8,p8⟩:=id O;refine⟨o8,T.cW,T.jW,rfl,⟨rfl,.mk<|mq (λh=>?_) (λh=>bg (λ_ C1=>C1 _ _ _ ho8 ht8 (by have em:(iB c R bb).bj=c.bj:=w4 (V.str.inj h);exact em▸hk8) O s8))⟩⟩
   .obtain⟨ps,hps,hAp,hfr⟩:=hk8;refine av (aY (cV Z4 aa0 aa3 bW gX (bQ (bG (cy jv (aM l9 rfl)))))) ⟨.inl ⟨rfl,_,aV.of hps⟩,⟨o8,T.cW,T.jW,rfl,⟨sL rfl,λtp l=>?_⟩⟩⟩;have J:af H8 (ag H8 tp (.tup [.int c.aP.length,.str R.bn])):=af.ag l;have hp9:ag H8 tp (.tup [.int c.aP.length,.str R.bn]) tp=t0 [.int c.aP.length,.str R.bn]:=aa;generalize ag H8 tp (.tup [.int c.aP.length,.str R.bn])=H9 at J hp9;have x:=J _ _ hps;have hpl:ps.length<=100000:=by rw[hAp.1];lia
    refine⟨x,cL (by rw[d5];lia),λ_ C1=>C1 _ _ _ (by rw[aj nok];exact J _ _ ho8) (by rw[aj QY];exact J _ _ ht8) ?_ ((O.ae J).mJ x) (by intro b o A;rw[aj (au A U)];exact J _ _ (s8 _ _ A))⟩
    .have em:(iB c R bb).bj=c.bj++[(c.aP.length,R.bn)]:=C5 (λz=>h (by rw[z]));rw[em];refine⟨ps++[tp],by rw[aa,o0];rfl,bf.snoc (hAp.mono λp m e=>by rw[aj (bL (J _ _ e) x)];exact J _ _ e) (by rw[aj (bL hp9 x)];exact hp9),λp hp=>?_⟩
     .rcases X1.mp hp with hp|hp
      .exact hfr p hp
      .rw[B1.mp hp];exact s8.free l
  intro y7 y8 H9 ho9 ht9 hk9 hr9 J;refine av (aY (aS (E4 T) hr.m rfl T.HE T.yS.kp T.yS.b2 .nil aH (cy dh l9))) ⟨s,r,c.on,R,rfl,ho9,hr9,i.1,by lia,G.gd M hRm,?_⟩;have hdl:=qb (on:=c.on) (d:=R.bB) (g:=R.bo);refine⟨m',by lia,iB c R bb,⟨_,_,_,_,rfl⟩,aa,by rw[aj (aa4 v)];exact ht9,hk9.mJ ho9 (aa4 nok),i.bB G M hRm,by show (c.aP++List.replicate _ _).length<=_;rw[i5,af2];exact hel,by show (cT c.on R.bB R.bo).length+m'<=_;lia,?_,f,by intro b o A;rw[aj (au A X)];exact J _ _ A⟩
  .show (if R.bn = "" then c.bj else c.bj++[(c.aP.length,R.bn)]).length+m'<=_;split
   .lia
   .rw[i5,P3,ac6];lia
def join_eq(sep:Str)(ys:a9):Txt.join sep ys=Str.join sep ys:=an0 (PyProof.Rows.join_plain_closes sep ys)
def mG{A B:Prop}(h:b=c)(k:if c=true then A else B):if b=true then A else B:=h▸k
inductive V1(K:W.Frag)(vs:q7)(H:Hp)(Q:VK)(_:XK):Prop|mk(a:Addr)(ns:c9)(k m:Int)(_:vs=[.ref a,.int k,.int m])(_:aV K H a (ns.map V.int))(_:0<=k)(_:k<=100000)(_:0<m)(_:m<=1000000)(_:ns.length<=63)(_:∀d H',0<=d->d<m->af H H'->Q (.int d) H')
def dP:bE P w K mg ap dJ 1 t.Jc t.Qk ["_law_script","_law_k","_law_many"] (V1 K):=by
 refine T.cA.ok xo λN H Q E h=>?_;obtain⟨a,b,k,m,rfl,l,s,G,o,I,hl,q⟩:=h;room;refine aG (λC=>∀c f,(b=[]->c=0)->f=H->C [ρ a,ι k,ι m,ι c,none,none] f) (b7 3 xo (dc (aA j9 (ez aD T.bD (bQ br)) ai (aE _)) (aC aU br (aK kE bP (ez aD T.bD (bQ br)))) ai)) (by refine⟨_,_,rfl,.inl l,.mk<|.mk<|dM (λh=>?_) (λh=>λ_ R=>R 0 _ (λ_=>rfl) rfl)⟩;refine⟨_,_,rfl,.inl l,h,?_⟩;obtain⟨J,u⟩:=sX k h;obtain⟨v,D,L⟩:=AE (b.map V.int) J u;rw[v3] at D;obtain⟨c,O,rfl⟩:=D1.mp D;exact⟨l,L,λ_ R=>R c _ (λz=>by rw[z] at h;simp at h) rfl⟩) ?_
 intro c f y e;rw[e];clear e f;refine aG (λC=>∀x f,(b=[]->x=0)->f=H->C [ρ a,ι k,ι m,ι c,ι x,none] f) (b7 4 xo (aK VQ dh (aK bh (aK jN ai (aK Mu bP (ez (CV rfl) T.Oj (cy ai (ez aD T.bD (bQ br)))))) ai))) ?_ ?_
 .have A:(1:Int)<=(if ((b.map V.int).length:Int)>1 then ((b.map V.int).length:Int) else 1)/\(if ((b.map V.int).length:Int)>1 then ((b.map V.int).length:Int) else 1)<1073741824:=by rw[d5];split <;> lia
  refine⟨_,_,rfl,.inl l,_,_,rfl,⟨by lia,A.2⟩,.inl ⟨by decide,by decide⟩,by have:0<=k / (if ((b.map V.int).length:Int)>1 then ((b.map V.int).length:Int) else 1):=Int.ediv_nonneg s (by lia);lia,λ_ R=>R _ _ (λz=>by rw[y z,Int.zero_ediv]) rfl⟩
 intro x f B e;rw[e];clear e f;refine aG (λC=>∀f,af H f->C [ρ a,ι k,ι m,ι c,ι x,none] f) (bq (PW.pt (dX (aA mj eE (bG (cy ai (iQ fT ai))) rfl) (cX (aA cC (aK kE (aC aU br ai) ai) ai (aE _))))) ay ay) ?_ ?_
 .refine⟨sL rfl,λp M=>⟨.inr (bT.of aa),rfl,rfl,.mk ?_⟩⟩;have i:af H (ag H p (.tup [.int 0,.int (-1)])):=af.ag M;by_cases d:Mz (V.int x) [.int 0,.int (-1)]=true
  .refine mG (c:=false) (by show (!Mz (V.int x) [.int 0,.int (-1)])=false;rw[d];rfl) ?_;exact bg (λ_ R=>R _ i)
  .refine mG (c:=true) (by show (!Mz (V.int x) [.int 0,.int (-1)])=true;rw[Bool.not_eq_true] at d;rw[d];rfl) ?_;obtain⟨F,r0,rfl⟩:∃F r0,b=F::r0:=by
    cases b with
    |nil=>rw[B rfl] at d;exact absurd (by decide) d
    |cons x r=>exact⟨x,r,rfl⟩
   refine⟨l.ae i,aB (j:=0) rfl,(by show (0:Int)<2;decide),rfl,.mk<|dM (λu=>?_) (λu=>bg (λ_ R=>R _ i))⟩;have n:=sX (x % 1048576) o;exact av (aQ (aK kE (aK kE eE ai) cG)) ⟨(by show (0:Int)<1048576;decide),o,q _ _ n.1 n.2 i⟩
 intro f i;refine ak (b7 5 xo (aK bh (aK bh (aK kE dh ai) (aK jN (aK jN ai bP) bP)) ai)) ?_;walk_at "rd";refine⟨by decide,.inl ⟨by decide,by decide⟩,.inr ⟨by lia,by lia⟩,?_⟩;refine av (aQ (aK kE (aK kE (aK jN (aK kE (aK jN gX ai) ai) ai) ai) cG)) ?_;walk_at "rd";have n:=sX ((c % 1000003+31*k*k+1)*48271 % 999983*7919 % 524287) o;exact⟨.inr ⟨by decide,by decide⟩,by decide,.inr ⟨by decide,by decide⟩,by decide,o,q _ _ n.1 n.2 i⟩
open Classical in
noncomputable def hid(S:q0)(H:Hp):Hp:=λb=>if S b then none else H b
def aq:af (hid S H) H:=λb o h=>by
 unfold hid at h;split at h
 .cases h
 .exact h
def aT(h:H b=some o)(n:¬S b):hid S H b=some o:=by unfold hid;rw[C5 n];exact h
def bI(h:hid S H b=some o):¬S b:=λz=>by unfold hid at h;rw[w4 z] at h;cases h
def aJ(s:af H H'):af (hid S H) (hid S H'):=λb o h=>aT (s _ _ (aq _ _ h)) (bI h)
def iN(hl:S l):hid S (ag H l o)=hid S H:=by
 funext b;unfold hid;split
 .rfl
 .rename_i h;rw[aj (λz=>h (by rw[z];exact hl))]
def ug(h:∀b,S b->S' b):af (hid S' H) (hid S H):=λb o e=>aT (aq _ _ e) (λz=>bI e (h b z))
def Ex(S:q0)(H:Hp):Prop:=∀b,S b->∃o,H b=some o
def Ex.new(e:Ex S H){b:Addr}(h:H b=none):¬S b:=λz=>by obtain⟨o,a⟩:=e b z;rw[h] at a;cases a
def Ex.ae(e:Ex S H)(s:af H H'):Ex S H':=λb z=>let ⟨o,ho⟩:=e b z;⟨o,s _ _ ho⟩
inductive Wr(t:eZ)(vs:q7)(H:Hp)(Q:VK)(_:XK):Prop|mk(r:Addr)(S:q0)(R:cz)(_:vs=[.ref r])(_:eF t (hid S H) r R)(_:Ex S H)(_:∀r' H',eF t (hid S H') r' R->af H H'->Q (.ref r') H')
def VS:bE P w K mg ap dJ 3 t.GQ t.PY ["rule"] (Wr t):=by
 refine T.GW.ok RZ λj H Q E h=>?_;obtain⟨r,S,R,rfl,⟨l,f,d,g⟩,i,q⟩:=h;room;have a:=aq _ _ d;refine av (aQ (fj T.Ck (EA T) hr.m rfl T.yU T.EU.b6 .nil aH (ao (aM br rfl) (ao (aM br rfl) (ao (aM br rfl) (cy (aM br rfl) (aM br rfl))))))) ?_;refine⟨a,T.cW,T.gj,rfl,?_⟩;refine⟨a,T.cW,T.kj,rfl,?_⟩;refine⟨a,T.cW,T.iw,rfl,?_⟩;refine⟨a,T.cW,T.jR,rfl,?_⟩;refine⟨a,T.cW,T.jW,rfl,?_⟩;refine λx b e c ne=>⟨x,b,f,R,rfl,aa,rfl,?_⟩
 exact q x _ ⟨b,f,aT aa (i.new e),g.ae (aJ (gZ e c))⟩ (gZ e c)
inductive YF(t:eZ)(vs:q7)(H:Hp)(Q:VK)(_:XK):Prop|mk(b l dm:Addr)(S:q0)(m:aR)(rs:c6)(_:vs=[.ref b])(_:hid S H b=s0 t.fE dm (mf m l))(_:hid S H l=r6 (rs.map V.ref))(_:bf (eF t (hid S H)) rs m.bd)(_:Ex S H)(_:m.bd.length<=200)(_:∀b' l' dm' rs' H',hid S H' b'=s0 t.fE dm' (mf m l')->hid S H' l'=r6 (rs'.map V.ref)->bf (eF t (hid S H')) rs' m.bd->H l'=none->af H H'->Q (.ref b') H')
def U9:bE P w K mg ap dJ 4 t.EC t.OE ["mode"] (YF t):=by
 refine T.HR.ok Rv λvs H Q E h=>?_;obtain⟨b,l,dm,S,m,rs,rfl,G,I,C,N,O,q⟩:=h;room;have j:=aq _ _ G;have hl:=aq _ _ I;refine av (aQ (fj T.Cb (ER T) hr.m rfl T.zc T.GX.b4 .nil aH (ao (aM br rfl) (cy (aM br rfl) (iM (sc:=az (top 27)) (N:=["mode"]) (x:="rule") (caps:=[]) (by walk_at "ck") (fF (aM br rfl)) (λ_ _ _ _=>(aS (VS T) hr.m rfl T.VJ T.GW.kp T.GW.b1 .nil aH (bQ br) (by left) (by left) (by left)))))) (by left) (by left) (by left))) ?_;refine⟨j,T.gF,T.jT,rfl,?_⟩;refine⟨j,T.gF,T.kq,rfl,?_⟩;refine⟨j,T.gF,T.gJ,rfl,?_⟩;refine⟨l,rfl,⟨_,aV.of hl⟩,ie (xs:=rs.map V.ref) (λi F c=>∃a,F=a.map V.ref/\bf (eF t (hid S c)) a (m.bd.take i)/\af H c) ⟨[],rfl,bf.nil,af.refl H⟩ (cL (by rw[d5,C.1];lia)) (by rintro i F c _ ⟨_,_,_,f⟩;exact aV.of (f _ _ hl)) (by rintro i xv F c R p ⟨a,rfl,d,f⟩;rw[v3] at R;obtain⟨r,s,rfl⟩:=D1.mp R;have U:=(d6.mp s).1;have u:m.bd[i]?=some (m.bd[i]'(C.1▸U)):=i4 _;refine⟨r,S,_,rfl,(C.2 i r _ s u).ae (aJ f),N.ae f,λr' W J g=>fQ (by rw[d5];exact U) p ⟨a++[r'],by rw[o0];rfl,?_,f.trans g⟩⟩;rw[ae1 u];exact bf.snoc (d.mono λ_ _ y=>y.ae (aJ g)) J) ?_⟩
 .rintro F c p ⟨a,rfl,d,f⟩ D X;rw[d5,C.1,ab3] at d;have g:af H (ag c D (.lst (a.map V.ref))):=f.to X;have v:ag c D (.lst (a.map V.ref)) D=r6 (a.map V.ref):=aa;have z:bf (eF t (hid S (ag c D (.lst (a.map V.ref))))) a m.bd:=d.mono λ_ _ y=>y.ae (aJ (af.ag X));generalize ag c D (.lst (a.map V.ref))=W at g v z;refine λx A n e ne=>⟨x,A,D,m.name,m.bZ,_,rfl,aa,cD n e _ _ v,λl2 H4 Y e2 e3 e4=>⟨rfl,?_⟩⟩
  have Z:af W H4:=λb o j=>e4 b o (cD n e _ _ j) (au j n);have B:=N.ae g;exact q x l2 A a H4 (aT e2 (B.new n)) (aT e3 (B.new ((cD n e).free Y))) (z.mono λ_ _ y=>y.ae (aJ Z)) (g.free ((cD n e).free Y)) (g.trans Z)
inductive RO(t:eZ)(vs:q7)(H:Hp)(Q:VK)(_:XK):Prop|mk(a:Addr)(S:q0)(ms:List aR)(_:vs=[.ref a])(_:IsRules t (hid S H) a ms)(_:Ex S H)(_:eK ms)(_:∀a' H',IsRules t (hid S H') a' ms->af H H'->Q (.ref a') H')
def V6:bE P w K mg ap dJ 5 t.KZ t.Pd ["rules"] (RO t):=by
 refine T.J4.ok Tr λvs H Q E h=>?_;obtain⟨a,S,ms,rfl,⟨dx,lm,as,ls,X,A,B⟩,hz,G,q⟩:=h;room;have ha:=aq _ _ X;have C:=aq _ _ A;have hlen:=G.len;refine av (aQ (fj T.xO (GH T) hr.m rfl T.uY T.Hx.b2 .nil aH (bQ (iM (sc:=az (top 26)) (N:=["rules"]) (x:="mode") (caps:=[]) (by walk_at "ck") (fF (aM br rfl)) (λ_ _ _ _=>(aS (U9 T) hr.m rfl T.SS T.HR.kp T.HR.b1 .nil aH (bQ br) (by left) (by left) (by left))))) (by left) (by left) (by left))) ?_;refine⟨ha,T.jf,T.d7,rfl,?_⟩;refine⟨lm,rfl,⟨_,aV.of C⟩,ie (xs:=as.map V.ref) (λi R g=>∃c Ou,R=c.map V.ref/\cY t (hid S g) c Ou (ms.take i)/\af H g) ⟨[],[],rfl,⟨rfl,rfl,List.nodup_nil,λi a l m h=>by simp at h⟩,af.refl H⟩ (cL (by rw[d5,B.la];lia)) (by rintro i R g _ ⟨_,_,_,_,p⟩;exact aV.of (p _ _ C)) ?_ ?_⟩
 .rintro i xv R g U F ⟨c,Ou,rfl,f,p⟩;rw[v3] at U;obtain⟨b,I,rfl⟩:=D1.mp U;have hi:=(d6.mp I).1;have r:i<ms.length:=B.la▸hi
  have J:ms[i]?=some ms[i]:=i4 r;obtain⟨l,hl⟩:∃l,ls[i]?=some l:=⟨ls[i]'(B.ll▸r),i4 _⟩
  obtain⟨dm,rs,o1,o2,o3⟩:=B.ob i b l _ I hl J;have Y:=aJ (S:=S) p;refine⟨b,l,dm,S,ms[i],rs,rfl,Y _ _ o1,Y _ _ o2,o3.mono λ_ _ y=>y.ae Y,hz.ae p,(G.ok _ (ag2 r)).1,λb' l' Z rs' H3 e1 e2 e3 e4 u=>fQ (by rw[d5];exact hi) F ⟨c++[b'],Ou++[l'],by rw[o0];rfl,?_,p.trans u⟩⟩;have d:=f.ae (aJ u);rw[ae1 J];refine⟨by rw[i5,i5,d.la];rfl,by rw[i5,i5,d.ll];rfl,?_,λj a' l'' m' W v z=>?_⟩
  .refine af3.mpr ⟨d.nd,by simp,λx U y hy=>?_⟩;rw[B1.mp hy];intro e;obtain⟨xs,n⟩:=f.alive U;have n:=aq _ _ n;rw[e,e4] at n;cases n
  .have k1:=d.la;have k2:=d.ll;rcases dU W with W|⟨i1,rfl⟩
   .have:=(d6.mp W).1;rcases dU v with v|⟨i2,rfl⟩
    .rcases dU z with z|⟨i3,rfl⟩
     .exact d.ob j a' l'' m' W v z
     .lia
    .lia
   .rcases dU v with v|⟨i2,rfl⟩
    .have:=(d6.mp v).1;lia
    .rcases dU z with z|⟨i3,rfl⟩
     .have:=(d6.mp z).1;lia
     .exact⟨Z,rs',e1,e2,e3⟩
 .rintro R g F ⟨c,Ou,rfl,f,p⟩ D hD;rw[d5,B.la,ab3] at f;have u:af H (ag g D (.lst (c.map V.ref))):=p.to hD;have L:ag g D (.lst (c.map V.ref)) D=r6 (c.map V.ref):=aa;have d:cY t (hid S (ag g D (.lst (c.map V.ref)))) c Ou ms:=f.ae (aJ (af.ag hD));generalize ag g D (.lst (c.map V.ref))=H3 at u L d;refine λx M N s ne=>⟨x,M,D,_,rfl,aa,cD N s _ _ L,λl2 H4 e1 e2 e3 e4=>⟨rfl,?_⟩⟩
  have s4:af H3 H4:=λb o I=>e4 b o (cD N s _ _ I) (au I N);have O:=hz.ae u;exact q x H4 ⟨M,l2,c,Ou,aT e2 (O.new N),aT e3 (O.new ((cD N s).free e1)),d.ae (aJ s4)⟩ (u.trans s4)
inductive RJ(t:eZ)(vs:q7)(H:Hp)(Q:VK)(_:XK):Prop|mk(a:Addr)(ms:List aR)(_:vs=[.ref a])(_:IsRules t H a ms)(_:eK ms)(_:oF ms=none)(_:∀H',af H H'->Q .dj H')
def R8:bE P w K mg ap dJ 6 t.Hi t.QM ["rules"] (RJ t):=by refine T.Jo.ok JP λi H Q E h=>?_;obtain⟨a,b,rfl,c,G,d,q⟩:=h;room;refine ak (b7 1 JP (aS (VV T) hr.m rfl T.UR T.Kl.kp T.Kl.b1 .nil aH (bQ br))) ⟨a,b,rfl,c,G,λf g=>⟨λ_=>?_,(λring bb p l e=>by rw[d] at e;cases e)⟩⟩;exact av (bq (aA nR bP cR (aE _)) ay ay) ⟨rfl,.mk<|mq (λh=>absurd rfl h) (λ_=>bg (q f g))⟩
structure bC where
 bb:Str
 ce:c7
 d:Cfg
variable {Gs Gs':List bC}
noncomputable def gf (bb:Str) (lb lt lo lk:Addr):List (Str×V):=[("signs",.str bb),("before",.ref lb),("tints",.ref lt),("behind",.ref lo),("folded",.ref lk)]
structure yr(t:eZ)(H:Hp)(g dx lb lt lo lk:Addr)(G:bC):Prop where
 ob:H g=s0 t.cj dx (gf G.bb lb lt lo lk)
 lb:H lb=r6 (G.ce.map aX)
 lt:H lt=r6 (G.d.aP.map V.str)
 lo:H lo=r6 (G.d.on.map aX)
 lk:GM H lk G.d.bj
inductive fC(t:eZ)(H:Hp)(g:Addr)(G:bC):Prop|mk(a b lt c d)(_:yr t H g a b lt c d G)
def fC.ae(h:fC t H g G)(s:af H H'):fC t H' g G :=
 let ⟨dx,lb,lt,lo,lk,e⟩:=h;⟨dx,lb,lt,lo,lk,s _ _ e.ob,s _ _ e.lb,s _ _ e.lt,s _ _ e.lo,e.lk.ae s⟩
structure rq(ms:List aR)(G:bC):Prop where
 ok:lK ms G.ce
 len:G.ce.length<=20000
 bb:G.bb.length<=1000
 go:∃n,n<=30000/\goN ms G.bb n ⟨G.ce,[],[]⟩=some G.d
 ok2:lK ms G.d.on
 len2:G.d.on.length<=20000
 tl:G.d.aP.length=G.bb.length
inductive LW(t:eZ)(vs:q7)(H:Hp)(Q:VK)(_:XK):Prop|mk(x dx a lb:Addr)(S:q0)(ms:List aR)(G:bC)(_:vs=[.ref x,.ref a,.ref lb,.str G.bb])(_:H x=s0 t.cj dx [])(_:IsRules t H a ms)(_:eK ms)(_:hid S H lb=r6 (G.ce.map aX))(_:Ex S H)(_:¬S x)(_:rq ms G)(_:∀lt lo lk H',yr t (hid S H') x dx lb lt lo lk G->fY H H' x->Q .dj H')
def Jb:bE P w K mg ap dJ 4 t.KI t.O7 ["self","rules","modes","row"] (LW t):=by
 refine T.Ey.ok JG λvs H Q E h=>?_;obtain⟨x,g,a,s,Sh,W,G,rfl,X,Y,B,f,y,F,S,q⟩:=h;room;have l:=aq _ _ f;obtain⟨n,hn,I⟩:=S.go;have Z:=S.len;refine ak (b7 4 JG (aS (V8 T) hr.m rfl T.Vy T.Gj.kp T.Gj.b3 .nil aH (ao bP (cy cG dh)))) ⟨a,s,W,G.ce,G.bb,n,G.d,rfl,Y,B,l,S.ok,S.bb,by lia,by lia,I,λtp lt J R H1 D L f1 f2 f3 n1 n2 n3 A=>?_⟩;have u:=A _ _ X;have r:∀{b o},H1 b=some o->(∀C g fs,o ≠ .ins C g fs)->b≠x:=λ{b o} e h=>bL e u (λz=>h _ _ _ z);have c:=r D.tp (by intro _ _ _ z;cases z);refine ak (b6 br dh rfl) ⟨x,_,g,[],rfl,u,T.cB,T.cU,by decide,?_⟩;refine ak (b6 br cG rfl) ⟨x,_,g,[("signs",.str G.bb)],rfl,aa,T.cB,T.i0,by show 1<1000;decide,?_⟩;refine ak (b6 br (aC aO eE ai) rfl) ⟨bT.of (by rw[aj c,aj c];exact D.tp),aB (j:=0) rfl,x,_,g,[("signs",.str G.bb),("before",.ref s)],rfl,aa,T.cB,T.mD,by show 2<1000;decide,?_⟩;refine ak (b6 br (aC aO eE ai) rfl) ⟨bT.of (by rw[aj c,aj c,aj c];exact D.tp),aB (j:=1) rfl,x,_,g,[("signs",.str G.bb),("before",.ref s),("tints",.ref lt)],rfl,aa,T.cB,T.iY,by show 3<1000;decide,?_⟩;refine av (b6 br (aC aO eE ai) rfl) ⟨bT.of (by rw[aj c,aj c,aj c,aj c];exact D.tp),aB (j:=2) rfl,x,_,g,[("signs",.str G.bb),("before",.ref s),("tints",.ref lt),("behind",.ref J)],rfl,aa,T.cB,T.kQ,by show 4<1000;decide,?_⟩;rw[fV,fV,fV,fV];obtain⟨ps,k1,k2⟩:=D.lk;obtain⟨M,N,v,O⟩:=L;refine q lt J R _ ⟨aT aa F,aT (by rw[aj (r (A _ _ l) (by intro _ _ _ z;cases z))];exact A _ _ l) (bI f),aT (by rw[aj (r D.lt (by intro _ _ _ z;cases z))];exact D.lt) (y.new f1),aT (by rw[aj (r D.lo (by intro _ _ _ z;cases z))];exact D.lo) (y.new f2),M,aT (by rw[aj (r k1 (by intro _ _ _ z;cases z))];exact N) (y.new f3),⟨v.1,λi p m U hm=>by have e:=v.2 i p m U hm;exact aT (by rw[aj (r e (by intro _ _ _ z;cases z))];exact e) (y.new (O p (p0 U)))⟩⟩ λb o hb nb=>by rw[aj nb];exact A _ _ hb
def Chain(ms:List aR):c7->a9->List bC->Prop
 |_,[],[]=>True
 |b,r::rs,G::Gs=>G.bb=r/\G.ce=b/\rq ms G/\Chain ms G.d.on rs Gs
 |_,_,_=>False
theorem Chain.len:∀{b:c7} {rs:a9} {Gs:List bC},Chain ms b rs Gs->Gs.length=rs.length
 |_,[],[],_=>rfl
 |_,_::_,_::_,h=>by simp[h.2.2.2.len]
 |_,[],_::_,h=>h.elim
 |_,_::_,[],h=>h.elim
theorem Chain.rows:∀{b:c7} {rs:a9} {Gs:List bC},Chain ms b rs Gs->Gs.map (·.bb)=rs
 |_,[],[],_=>rfl
 |_,_::_,_::_,h=>by rw[ab5,h.1,h.2.2.2.rows]
 |_,[],_::_,h=>h.elim
 |_,_::_,[],h=>h.elim
noncomputable def ki:c7->List bC->c7
 |b,[]=>b
 |_,G::Gs=>ki G.d.on Gs
def t8{rs:a9}(hc:Chain ms b (rs.drop i) (Gs.drop i))(hr:rs[i]?=some r):∃G,Gs[i]?=some G/\G.bb=r/\G.ce=b/\rq ms G/\Chain ms G.d.on (rs.drop (i+1)) (Gs.drop (i+1)):=by
 rw[gH hr] at hc;cases e:Gs.drop i with
 |nil=>rw[e] at hc;exact hc.elim
 |cons G t =>
  rw[e] at hc;have a:Gs[i]?=some G:=by have:=ac7 (λl=>l[0]?) e;simpa [ab6] using this
  have c:Gs.drop (i+1)=t:=by rw[<- ak2,e];rfl
  exact c▸⟨G,a,hc⟩
structure bJ(t:eZ)(H:Hp)(x dx a lg:Addr)(gs:c6)(ms:List aR)(Gs:List bC):Prop where
 ob:H x=s0 t.bA dx [("rules",.ref a),("gone_rows",.ref lg)]
 ru:IsRules t H a ms
 lg:H lg=r6 (gs.map V.ref)
 go:bf (fC t H) gs Gs
def bJ.ae(h:bJ t H x dx a lg gs ms Gs)(s:af H H'):bJ t H' x dx a lg gs ms Gs:=⟨s _ _ h.ob,h.ru.ae s,s _ _ h.lg,h.go.mono λ_ _ z=>z.ae s⟩
inductive KJ(t:eZ)(vs:q7)(H:Hp)(Q:VK)(_:XK):Prop|mk(x dx a lb lr:Addr)(S:q0)(fs:List (Str×V))(ms:List aR)(b:c7)(rs:a9)(Gs:List bC)(_:vs=[.ref x,.ref lb,.ref lr])(_:H x=s0 t.bA dx fs)(_:fs.lookup ("rules" : Str)=some (.ref a))(_:IsRules t H a ms)(_:eK ms)(_:hid S H lb=r6 (b.map aX))(_:Ex S H)(_:H lr=r6 (rs.map V.str))(_:rs.length<=100000)(_:Chain ms b rs Gs)(_:∀lg gs H',H' lg=r6 (gs.map V.ref)->bf (fC t (hid S H')) gs Gs->H lg=none->af H H'->Q (.ref lg) H')
def ED:bE P w K mg ap dJ 6 t.EY t.NC ["self","modes","rows"] (KJ t):=by
 refine T.Gu.ok ua λvs H Q E h=>?_;obtain⟨x,dx,a,u,lr,S,fs,ms,b,rs,Gs,rfl,hx,hfs,hR,G,y,hE,L,hrl,hC,q⟩:=h;room;refine ak (b7 3 ua (bM bu)) ⟨sL rfl,λlg n=>?_⟩;have Z:af H (ag H lg (.lst [])):=af.ag n;have M:ag H lg (.lst []) lg=r6 []:=aa;generalize ag H lg (.lst [])=H1 at Z M;obtain⟨A,p⟩:∃A,A=λc=>S c\/c=lg:=⟨_,rfl⟩
 have N:A lg:=p▸.inr rfl
 have hE2:∀{H':Hp} {xs:q7},af H H'->H' lg=r6 xs->Ex A H':=λ{H' xs} s' h' c v=>by
  rw[p] at v;rcases v with v|v
  .exact(hE.ae s') c v
  .exact v▸⟨_,h'⟩
 refine aG (λk=>∀j x1 F I H',H' lg=r6 (j.map V.ref)->bf (fC t (hid S H')) j Gs->af H H'->k [ρ x,x1,ρ lr,ρ lg,F,I] H') (dD aa7 rfl (fF cG) (jb 4 ua) ay) ?_ ?_
 .refine⟨lr,rfl,⟨_,aV.of (Z _ _ L)⟩,jw (xs:=rs.map V.str) (λi B H'=>∃j u b,(∃F I,B=[ρ x,ρ u,ρ lr,ρ lg,F,I])/\H' lg=r6 (j.map V.ref)/\bf (fC t (hid A H')) j (Gs.take i)/\hid A H' u=r6 (b.map aX)/\Chain ms b (rs.drop i) (Gs.drop i)/\af H H') ⟨[],u,b,⟨_,_,rfl⟩,M,bf.nil,aT (Z _ _ (aq _ _ y)) (by rw[p];rintro (z|z);(exact bI y z);(exact au (aq _ _ y) n z)),hC,Z⟩ (by rintro i B H' _ ⟨_,_,_,_,_,_,_,_,l⟩;exact aV.of (l _ _ L)) ?_ (by rintro B H2 ⟨j,u,b,⟨F,I,rfl⟩,f,e,_,_,l⟩;rw[d5,<- hC.len,ab3] at e;exact λ_ C1=>C1 j _ _ _ _ f (e.mono λ_ _ z=>z.ae (ug (λc v=>p▸.inl v))) l)⟩
  .rintro i xv B H2 O ⟨j,u,b,⟨F,I,rfl⟩,f,e,R,hC2,l⟩;rw[v3] at O;obtain⟨r,U,rfl⟩:=D1.mp O;obtain⟨Gi,hGi,e1,e2,hS,hC3⟩:=t8 hC2 U;subst e1 e2;have hi:=(d6.mp U).1;have W:=hE2 l f;refine ak (b7 5 ua (fj T.tZ (Jb T) hr.m rfl T.rB T.Ey.b4 .nil aH (ao (aM br rfl) (cy bP eE)))) (⟨(l _ _ hx),T.aL,T.jA,hfs,(λg dg J s ne=>⟨g,dg,a,u,A,ms,Gi,rfl,aa,(hR.ae l).ae (cD J s),G,(aJ (cD J s)) _ _ R,W.ae (cD J s),W.new J,hS,λlt lo lk H3 C a3=>⟨rfl,?_⟩⟩)⟩);have s3:af H2 H3:=λb o X=>a3 b o (cD J s _ _ X) (au X J);have D:=s3 _ _ f;have Y:=aq _ _ C.ob;have ngl:=bL Y D;have hlen:j.length<=100000:=by rw[e.1,v6];lia
   refine ak (aY (cV Z4 aa0 aa3 bW dh (bQ gX))) ⟨.inl ⟨rfl,_,aV.of D⟩,D,cL (by rw[d5];lia),?_⟩;refine av (b7 1 ua (aM gX rfl)) ⟨(by rw[aj ngl];exact Y),T.cB,T.iY,rfl,?_⟩;refine⟨j++[g],lo,Gi.d.on,⟨_,_,rfl⟩,by rw[aa,o0];rfl,by rw[ae1 hGi,iN N];exact bf.snoc (e.mono λ_ _ z=>z.ae (aJ s3)) ⟨dg,u,lt,lo,lk,C⟩,by rw[iN N];exact C.lo,hC3,λb o X=>by rw[aj (au X n)];exact s3 _ _ (l _ _ X)⟩
 intro j x1 F I H2 f e l;exact av (aQ dh) (q lg j H2 f e n l)
inductive Ly(t:eZ)(vs:q7)(H:Hp)(Q:VK)(_:XK):Prop|mk(x dx a lr:Addr)(S:q0)(ms:List aR)(rs:a9)(Gs:List bC)(_:vs=[.ref x,.ref a,.ref lr])(_:H x=s0 t.bA dx [])(_:¬S x)(_:Ex S H)(_:IsRules t (hid (λc=>S c\/c=x) H) a ms)(_:eK ms)(_:oF ms=none)(_:H lr=r6 (rs.map V.str))(_:rs.length<=100000)(_:Chain ms [0] rs Gs)(_:∀a' lg gs H',bJ t (hid S H') x dx a' lg gs ms Gs->H lg=none->fY H H' x->Q .dj H')
def VB:bE P w K mg ap dJ 7 t.FL t.QF ["self","rules","rows"] (Ly t):=by
 refine T.QV.ok RT λvs H Q E h=>?_;obtain⟨x,i,a,lr,S,ms,rs,Gs,rfl,hx,M,hE,hR,G,F,N,hrl,hC,q⟩:=h;room;obtain⟨r,s⟩:∃r,r=λc=>S c\/c=x:=⟨_,rfl⟩
 rw[<- s] at hR;have O:r x:=s▸.inr rfl
 have hE2:Ex r H:=λc n=>by
  rw[s] at n;rcases n with n|n
  .exact hE c n
  .exact n▸⟨_,hx⟩
 have hle:∀c,S c->r c:=λc n=>by rw[s];exact .inl n
 refine ak (aY (aS (R8 T) hr.m rfl T.Ri T.Jo.kp T.Jo.b1 .nil aH (bQ bP))) ⟨a,ms,rfl,hR.ae aq,G,F,λH1 s1=>?_⟩;refine ak (b6 br (aS (V6 T) hr.m rfl T.Ro T.J4.kp T.J4.b1 .nil aH (bQ bP)) rfl) ⟨a,r,ms,rfl,hR.ae (aJ s1),hE2.ae s1,G,λl H2 u I=>?_⟩;have I:=s1.trans I;have R:=I _ _ hx;refine⟨x,_,i,[],rfl,R,T.aL,T.jA,by decide,?_⟩;have v:ag H2 x (.ins t.bA i (dQ "rules" (.ref l) [])) x=s0 t.bA i [("rules",.ref l)]:=aa;have a3:fY H (ag H2 x (.ins t.bA i (dQ "rules" (.ref l) []))) x:=I.K3 fY.ag;have D:ag H2 x (.ins t.bA i (dQ "rules" (.ref l) [])) lr=r6 (rs.map V.str):=by rw[aj (bL (I _ _ N) R)];exact I _ _ N
 have y:Ex S (ag H2 x (.ins t.bA i (dQ "rules" (.ref l) []))):=λc n=>by obtain⟨o,ho⟩:=(hE.ae I) c n;exact⟨o,by rw[aj (λz=>M (by rw[<- z];exact n))];exact ho⟩
 rw[<- (iN O)] at u;generalize ag H2 x (.ins t.bA i (dQ "rules" (.ref l) []))=H3 at v a3 D u y;refine av (b6 br (bw br T.aL T.NY (ED T) hr.m T.Gu.b3 .nil aH (cy (bM (bQ (iF rfl T.nJ))) cG)) rfl) ⟨v,rfl,sL rfl,λlb f=>⟨x,i,l,lb,lr,S,_,ms,[0],rs,Gs,rfl,af.ag f _ _ v,rfl,(u.ae aq).ae (af.ag f),G,aT aa (y.new f),y.ae (af.ag f),af.ag f _ _ D,hrl,hC,λJ gs H4 U hA4 f4 s4=>?_⟩⟩;have L:=(af.ag f).trans s4;have A:=L _ _ v;refine⟨x,_,i,[("rules",.ref l)],rfl,A,T.aL,T.aW,by show 1<1000;decide,?_⟩;have W:=(af.ag f).free f4;have X:=bL U A;have Y:H J=none:=by
  cases e:H J with
  |none=>rfl
  |some o=>have:=a3 _ _ e X;rw[W] at this;cases this
 have sh:af (hid r H4) (hid S (ag H4 x (.ins t.bA i (dQ "gone_rows" (.ref J) [("rules",.ref l)])))):=λb o B=>by have Z:=bI B;exact aT (by rw[aj (λz=>Z (by rw[z];exact O))];exact aq _ _ B) (λz=>Z (hle b z))
 refine q l J gs _ ⟨aT aa M,(u.ae (aJ L)).ae sh,aT (by rw[aj X];exact U) (y.new W),hA4.mono λg Gi hg=>by obtain⟨dg,lb',lt,lo,lk,e⟩:=hg;have j:∀{b o},hid S H4 b=some o->b≠x->hid S (ag H4 x (.ins t.bA i (dQ "gone_rows" (.ref J) [("rules",.ref l)]))) b=some o:=λ{b o} B h=>aT (by rw[aj h];exact aq _ _ B) (bI B);have nk:∀{b o},hid S H4 b=some o->(∀C d fs,o ≠ .ins C d fs)->b≠x:=λ{b o} B h=>bL (aq _ _ B) A (λz=>h _ _ _ z);obtain⟨ps,k1,k2⟩:=e.lk;refine⟨dg,lb',lt,lo,lk,j e.ob (bL (aq _ _ e.ob) A (by intro z;injection z with _ _ z;cases z)),j e.lb (nk e.lb (by intro _ _ _ z;cases z)),j e.lt (nk e.lt (by intro _ _ _ z;cases z)),j e.lo (nk e.lo (by intro _ _ _ z;cases z)),ps,j k1 (nk k1 (by intro _ _ _ z;cases z)),k2.mono λp m h=>j h (nk h (by intro _ _ _ z;cases z))⟩⟩ Y (by intro b o B nb;rw[aj nb];exact L _ _ (a3 _ _ B nb))
inductive R4(t:eZ)(vs:q7)(H:Hp)(Q:VK)(_:XK):Prop|mk(x dx a lg:Addr)(gs:c6)(ms:List aR)(Gs:List bC)(_:vs=[.ref x])(_:bJ t H x dx a lg gs ms Gs)(_:Gs.length<=100000)(_:∀l H',H' l=r6 ((Gs.map (·.bb)).map V.str)->H l=none->af H H'->Q (.ref l) H')
def mP:bE P w K mg ap dJ 1 t.Ir t.Nc ["self"] (R4 t):=by
 refine T.pM.ok RC λu H Q E h=>?_;obtain⟨x,v,a,r,j,y,Gs,rfl,I,hl,q⟩:=h;room;refine av (aQ (iM (sc:=az (AA 63 1)) (N:=["self"]) (x:="gone") (caps:=[]) (by walk_at "ck") (fF (aM br rfl)) (λ_ _ _ _=>(@kc _ K _ _ _ _ br rfl (by left))))) (⟨I.ob,T.aL,T.aW,rfl,⟨r,rfl,⟨_,aV.of I.lg⟩,ie (xs:=j.map V.ref) (λi d f=>d=((Gs.take i).map (·.bb)).map V.str/\f=H) ⟨rfl,rfl⟩ (cL (by rw[d5,I.go.1];lia)) (by rintro i d f _ ⟨_,rfl⟩;exact aV.of I.lg) (by rintro i z d f l b ⟨rfl,rfl⟩;rw[v3] at l;obtain⟨g,n,rfl⟩:=D1.mp l;have o:=(d6.mp n).1;have c:Gs[i]?=some (Gs[i]'(I.go.1▸o)):=i4 _;obtain⟨A,B,lt,C,F,e⟩:=I.go.2 i g _ n c;refine⟨e.ob,T.cB,T.cU,rfl,(fQ (by rw[d5];exact o) b ⟨?_,rfl⟩)⟩;rw[ae1 c,o0,o0];rfl) ?_⟩⟩)
 .rintro d f b ⟨rfl,rfl⟩ D p;have s:Gs.take (j.map V.ref).length=Gs:=by rw[d5,I.go.1,ab3]
  rw[s];exact q D _ aa p (af.ag p)
inductive Ja(t:eZ)(vs:q7)(H:Hp)(Q:VK)(_:XK):Prop|mk(x dx a lg:Addr)(gs:c6)(ms:List aR)(Gs:List bC)(i:Nat)(_:vs=[.ref x,.int i])(_:bJ t H x dx a lg gs ms Gs)(_:i<Gs.length)(_:Q .dj H)
def Fj:bE P w K mg ap dJ 1 t.Bh t.JT ["self","row"] (Ja t):=by refine T.zf.ok Kn λb H Q E h=>?_;obtain⟨x,c,a,d,e,f,g,i,rfl,I,j,q⟩:=h;room;have hl:=I.go.1;refine av (bq (PW.pt (jz (aA fX bP ai (aE _)) (jk (aA xS bP (ez aD T.bD (bQ (aM br rfl))) (aE _))))) ay ay) ⟨.mk<|dM (λh=>absurd h (by lia)) (λ_=>?_)⟩;exact(⟨I.ob,T.aL,T.aW,rfl,⟨_,_,rfl,.inl (aV.of I.lg),.mk<|.mk<|dM (λh=>absurd h (by rw[d5];lia)) (λ_=>bg q)⟩⟩)
inductive Di(t:eZ)(vs:q7)(H:Hp)(Q:VK)(_:XK):Prop|mk(x dx a lg:Addr)(gs:c6)(ms:List aR)(Gs:List bC)(G:bC)(i:Nat)(_:vs=[.ref x,.int i])(_:bJ t H x dx a lg gs ms Gs)(_:Gs[i]?=some G)(_:∀g,fC t H g G->Q (.ref g) H)
def zO:bE P w K mg ap dJ 2 t.KH t.Pj ["self","row"] (Di t):=by refine T.Bk.ok Sm λo H Q E h=>?_;obtain⟨x,c,a,e,f,j,l,G,i,rfl,I,d,q⟩:=h;room;obtain⟨g,n,b⟩:=I.go.at d;refine ak (aY (bw br T.aL T.Jz (Fj T) hr.m T.zf.b2 .nil aH (bQ bP))) ⟨I.ob,rfl,x,c,a,e,f,j,l,i,rfl,I,(d6.mp d).1,?_⟩;exact av (aQ (aC aU (aM br rfl) bP)) (⟨I.ob,T.aL,T.aW,rfl,⟨aV.of I.lg,cM n,q g b⟩⟩)
inductive GZ(t:eZ)(f:bC->q7)(vs:q7)(H:Hp)(Q:VK)(_:XK):Prop|mk(x dx a lg:Addr)(gs:c6)(ms:List aR)(Gs:List bC)(G:bC)(i:Nat)(_:vs=[.ref x,.int i])(_:bJ t H x dx a lg gs ms Gs)(_:Gs[i]?=some G)(_:∀l H',H' l=r6 (f G)->H l=none->af H H'->Q (.ref l) H')
def Rm:bE P w K mg ap dJ 3 t.HM t.Oq ["self","row"] (GZ t λG=>G.d.aP.map V.str):=by refine T.OI.ok UE λs H Q E h=>?_;obtain⟨x,b,a,c,f,j,n,G,i,rfl,I,o,q⟩:=h;room;refine av (aQ (pO eV T.jn (bQ (aM (bw br T.aL T.Ig (zO T) hr.m T.Bk.b2 .nil aH (bQ bP)) rfl)))) ⟨I.ob,rfl,x,b,a,c,f,j,n,G,i,rfl,I,o,λg p=>?_⟩;obtain⟨r,u,lt,v,y,e⟩:=p;exact⟨e.ob,T.cB,T.mD,rfl,lt,_,rfl,.inl (aV.of e.lt),λl hl=>q l _ aa hl (af.ag hl)⟩
inductive MB(t:eZ)(vs:q7)(H:Hp)(Q:VK)(_:XK):Prop|mk(x dx a lg:Addr)(gs:c6)(ms:List aR)(Gs:List bC)(G:bC)(i:Nat)(_:vs=[.ref x,.int i])(_:bJ t H x dx a lg gs ms Gs)(_:Gs[i]?=some G)(_:∀l H' ps,H' l=r6 (ps.map V.ref)->bf (λp m=>H p=t0 [aX m.1,.str m.2]) ps G.d.bj->H l=none->af H H'->Q (.ref l) H')
def JA:bE P w K mg ap dJ 3 t.Fi t.Qz ["self","row"] (MB t):=by refine T.EJ.ok Tn λy H Q E h=>?_;obtain⟨x,b,a,c,d,f,j,G,i,rfl,I,n,q⟩:=h;room;refine av (aQ (pO eV T.jn (bQ (aM (bw br T.aL T.Ig (zO T) hr.m T.Bk.b2 .nil aH (bQ bP)) rfl)))) ⟨I.ob,rfl,x,b,a,c,d,f,j,G,i,rfl,I,n,λg o=>?_⟩;obtain⟨p,z,lt,A,r,e⟩:=o;obtain⟨s,u,v⟩:=e.lk;exact⟨e.ob,T.cB,T.kQ,rfl,r,_,rfl,.inl (aV.of u),λl hl=>q l _ s aa v hl (af.ag hl)⟩
noncomputable def cN:a9->a9->Nat
 |x::xs,y::ys=>if x=y then cN xs ys+1 else 0
 |_,_=>0
theorem jJ:∀(xs ys:a9),cN xs ys<=xs.length/\cN xs ys<=ys.length
 | [],ys=>⟨Z9 _,Z9 _⟩
 |_::_,[]=>⟨Z9 _,Z9 _⟩
 |x::xs,y::ys=>by
  have h:=jJ xs ys;rw[cN];by_cases e:x=y
  .rw[w4 e,P3,P3];lia
  .rw[C5 e];exact⟨Z9 _,Z9 _⟩
theorem oZ:∀(xs ys:a9),xs.take (cN xs ys)=ys.take (cN xs ys)
 | [],ys=>by simp[cN]
 |_::_,[]=>by simp[cN]
 |x::xs,y::ys=>by
  rw[cN];by_cases e:x=y
  .rw[w4 e,an6,an6,oZ xs ys,e]
  .rw[C5 e];rfl
def um{xs ys:a9}(h1:xs[i]?=some x)(h2:ys[i]?=some y):cN (xs.drop i) (ys.drop i)=if x=y then cN (xs.drop (i+1)) (ys.drop (i+1))+1 else 0:=by rw[gH h1,gH h2,cN]
def qQ{xs ys:a9}(h:i=xs.length\/i=ys.length):cN (xs.drop i) (ys.drop i)=0:=by
 rcases h with h|h
 .rw[h,List.drop_length,cN];intros;simp_all
 .rw[h,List.drop_length];cases xs.drop ys.length <;> rfl
inductive MZ(vs:q7)(H:Hp)(Q:VK)(_:XK):Prop|mk(a b:Addr)(xs ys:a9)(_:vs=[.ref a,.ref b])(_:H a=r6 (xs.map V.str))(_:H b=r6 (ys.map V.str))(_:∀H',af H H'->Q (.int (cN xs ys:Nat)) H')
def JO:bE P w K mg ap dJ 1 t.Gd t.QH ["some","others"] MZ:=by
 refine T.xQ.ok sS λF H Q E h=>?_;obtain⟨a,b,xs,ys,rfl,u,v,q⟩:=h;room;refine ak (b7 2 sS ai) ?_;refine aF (λf n=>(∃j l,f=[ρ a,ρ b,ι (cN xs ys:Nat),j,l])/\af H n) (dD aa7 rfl (V3 false rfl T.X3 (cy br bP)) (iK rfl (bF (jb 3 sS) (bF (jb 4 sS) fU))) ay) ?_ ?_
 .refine⟨a,b,_,_,rfl,aV.of u,aV.of v,EH (xs:=xs.map V.str) (ys:=ys.map V.str) (λi f n=>(∃j l,f=[ρ a,ρ b,ι (i:Nat),j,l])/\af H n/\cN xs ys=i+cN (xs.drop i) (ys.drop i)) ⟨⟨_,_,rfl⟩,af.refl H,by simp⟩ (by rintro i f n _ _ ⟨_,d,_⟩;exact⟨aV.of (d _ _ u),aV.of (d _ _ v)⟩) ?_ (by rintro i f o C J L ⟨⟨j,l,rfl⟩,d,g⟩;rw[d5,d5] at C;rw[qQ C] at g;exact⟨⟨_,_,by rw[g];rfl⟩,d⟩)⟩
  .rintro i G I p f o z A D ⟨⟨j,l,rfl⟩,d,g⟩;rw[v3] at z A;obtain⟨x,r,rfl⟩:=D1.mp z;obtain⟨y,s,rfl⟩:=D1.mp A;rw[um r s] at g;have B:af H (ag o p (.tup [.str x,.str y])):=d.trans (af.ag D);refine⟨p,[.str x,.str y],rfl,bT.of aa,rfl,_,_,rfl,_,_,rfl,rfl,?_⟩;by_cases e:x=y
   .rw[w4 e] at g;refine ak (bq (aA tX dh eE (aE _)) ay ay) ⟨rfl,.mk<|mG (c:=false) (by simp[e]) (bg ?_)⟩;refine av (Am (i:=2) sS.nd rfl (Or.inl rfl) ai AN) ⟨_,rfl,_,_,rfl,rfl,⟨_,_,rfl⟩,B,?_⟩;lia
   .rw[C5 e] at g;refine ak (bq (aA tX dh eE (aE _)) ay ay) ⟨rfl,.mk<|mG (c:=true) (by simp[e]) ?_⟩;refine av (aQ cG) (?_);have:=q _ B;rw[g] at this;exact this
 rintro f o ⟨⟨j,l,rfl⟩,d⟩;exact av (aQ cG) (q _ d)
inductive MU(vs:q7)(H:Hp)(Q:VK)(_:XK):Prop|mk(a b:Addr)(xs ys:a9)(_:vs=[.ref a,.ref b])(_:H a=r6 (xs.map V.str))(_:H b=r6 (ys.map V.str))(_:∀H',af H H'->Q (.int (cN xs.reverse ys.reverse:Nat)) H')
def Lq:bE P w K mg ap dJ 2 t.AF t.Fe ["some","others"] MU:=by
 refine T.zJ.ok Le λp H Q E h=>?_;obtain⟨a,b,e,f,rfl,g,i,q⟩:=h;room;refine av (aQ (aS (JO T) hr.m rfl T.Kf T.xQ.kp T.xQ.b2 .nil aH (cy (sW rfl rfl T.jn rfl T.uo (bQ br)) (sW rfl rfl T.jn rfl T.uo (bQ bP))))) ⟨a,_,rfl,aV.of g,λj c=>⟨b,_,rfl,aV.of (af.ag c _ _ i),λl d=>⟨j,l,e.reverse,f.reverse,rfl,List.map_reverse▸af.ag d _ _ aa,by rw[List.map_reverse];exact aa,λn o=>q n (((af.ag c).trans (af.ag d)).trans o)⟩⟩⟩
theorem vC:∀{Gs:List bC} {j:Nat} {G:bC},Gs[j]?=some G->ki b (Gs.take (j+1))=G.d.on
 |G'::Gs,0,G,h=>by cases h;rfl
 |G'::Gs,j+1,G,h=>by rw[an6,ki];exact vC (Gs:=Gs) (by simpa using h)
inductive LM(t:eZ)(vs:q7)(H:Hp)(Q:VK)(_:XK):Prop|mk(x dx a lg:Addr)(gs:c6)(S:q0)(Gs:List bC)(i:Nat)(_:vs=[.ref x,.int i])(_:H x=s0 t.bA dx [("rules",.ref a),("gone_rows",.ref lg)])(_:H lg=r6 (gs.map V.ref))(_:bf (fC t (hid S H)) gs Gs)(_:Ex S H)(_:i<=Gs.length)(_:∀lb H',hid S H' lb=r6 ((ki [0] (Gs.take i)).map aX)->af H H'->Q (.ref lb) H')
def Ab:bE P w K mg ap dJ 1 t.EK t.Pw ["self","row"] (LM t):=by
 refine T.Bl.ok Ug λA H Q E h=>?_;obtain⟨x,B,a,n,C,S,d,i,rfl,o,c,p,r,D,q⟩:=h;room;refine av (aQ (dc (aA j9 bP ai (aE _)) (aM (aC aU (aM br rfl) (aK cQ bP ai)) rfl) (bM (bQ (iF rfl T.nJ))))) ⟨.mk<|dM (λh=>?_) (λh=>?_)⟩
 .obtain⟨j,rfl⟩:∃j,i=j+1:=⟨i-1,by lia⟩
  obtain⟨G,f⟩:∃G,d[j]?=some G:=⟨d[j]'(by lia),i4 _⟩
  obtain⟨g,s,u,l,lt,v,F,e⟩:=p.at f;have y:((j+1:Nat):Int)-1=j:=by lia
  refine⟨o,T.aL,T.aW,rfl,⟨?_⟩⟩;show LP _ (.ref n) (.int (((j+1:Nat):Int)-1)) H _;rw[y];refine⟨aV.of c,cM s,aq _ _ e.ob,T.cB,T.iY,rfl,?_⟩;refine q v H ?_ (af.refl H);rw[vC f];exact e.lo
 .have z:i=0:=by lia
  subst z;exact⟨sL rfl,λl b=>q l _ (aT aa (r.new b)) (af.ag b)⟩
inductive Ls(t:eZ)(vs:q7)(H:Hp)(Q:VK)(_:XK):Prop|mk(x dx a lg:Addr)(gs:c6)(i k:Nat)(_:vs=[.ref x,.int i,.int k])(_:H x=s0 t.bA dx [("rules",.ref a),("gone_rows",.ref lg)])(_:H lg=r6 (gs.map V.ref))(_:i+k<=gs.length)(_:Q .dj H)
def U5:bE P w K mg ap dJ 1 t.Jt t.P6 ["self","row","many"] (Ls t):=by refine T.Nb.ok Vv λd H Q E h=>?_;obtain⟨x,e,a,f,g,i,k,rfl,c,b,j,q⟩:=h;room;refine av (bq (PW.pt (jz (aA fX bP ai (aE _)) (jz (aA fX cG ai (aE _)) (jk (aA j9 (aK bh bP cG) (ez aD T.bD (bQ (aM br rfl))) (aE _)))))) ay ay) ⟨.mk<|dM (λh=>absurd h (by lia)) (λ_=>?_)⟩;refine⟨.mk<|dM (λh=>absurd h (by lia)) (λ_=>?_)⟩;refine⟨⟨c,T.aL,T.aW,rfl,⟨_,_,rfl,.inl (aV.of b),.mk<|.mk<|dM (λh=>absurd h (by rw[d5];lia)) (λ_=>bg q)⟩⟩⟩
structure qA(ms:List aR)(Gs:List bC)(i k:Nat)(Gs':List bC):Prop where
 len:Gs'.length=Gs.length
 le:i+k<=Gs.length
 pre:∀j,j<i->Gs'[j]?=Gs[j]?
 suf:∀j,i+k<=j->Gs'[j]?=Gs[j]?
 mid:∀j,i<=j->j<i+k->∃G G',Gs[j]?=some G/\Gs'[j]?=some G'/\G'.bb=G.bb/\G'.ce=ki [0] (Gs'.take j)/\G.ce≠ki [0] (Gs'.take j)/\rq ms G'
 stop:∀G,Gs[i+k]?=some G->G.ce=ki [0] (Gs'.take (i+k))
noncomputable def nj(Gs Gs':List bC)(n:Nat):List bC:=Gs'.take n++Gs.drop n
def Vc(hl:Gs'.length=Gs.length)(h:n<=Gs.length):(nj Gs Gs' n)[n]?=Gs[n]?:=by rw[nj,U2 (by rw[v6];lia),v6,ab6];congr 1;lia
def yO(hl:Gs'.length=Gs.length)(h:n<=Gs.length):(nj Gs Gs' n).take n=Gs'.take n:=by
 have e:n=(Gs'.take n).length:=by rw[v6];lia
 rw[nj];conv=>lhs;arg 1;rw[e]
 rw[List.take_left]
def wC(hl:Gs'.length=Gs.length)(h:n<=Gs.length):(nj Gs Gs' n).length=Gs.length:=by rw[nj,i5,v6,B2];lia
def Lv(hl:Gs'.length=Gs.length)(h:n<Gs.length)(hG:Gs'[n]?=some G'):(nj Gs Gs' n).set n G'=nj Gs Gs' (n+1):=by
 have e:(Gs'.take n).length=n:=by rw[v6];lia
 rw[nj,nj,List.set_append_right _ _ (by rw[e];exact N0 _),e,aj6,ae1 hG,ac0];congr 1;rw[gH (i4 h)];rfl
def qA.first(h:qA ms Gs i k Gs'):nj Gs Gs' i=Gs:=by
 apply aj3;intro j;rw[nj];have:=h.le;have:=h.len;by_cases a:j<i
 .rw[aa2 (by rw[v6];lia),ao1,w4 a,h.pre j a]
 .rw[U2 (by rw[v6];lia),v6,ab6];congr 1;lia
def qA.last(h:qA ms Gs i k Gs'):nj Gs Gs' (i+k)=Gs':=by
 apply aj3;intro j;rw[nj];have:=h.le;have:=h.len;by_cases a:j<i+k
 .rw[aa2 (by rw[v6];lia),ao1,w4 a]
 .rw[U2 (by rw[v6];lia),v6,ab6,h.suf j (by lia)];congr 1;lia
def bf.put{R:α->β->Prop}{xs:List α}{ys:List β}{n:Nat}{x:α}{y:β}(h:bf R xs ys)(r:R x y):bf R (xs.set n x) (ys.set n y):=by
 refine⟨by rw[List.length_set,List.length_set];exact h.1,λi a b c d=>?_⟩;rw[List.getElem?_set] at c d;by_cases e:n=i
 .rw[w4 e] at c d;split at c
  .split at d
   .cases c;cases d;exact r
   .cases d
  .cases c
 .rw[C5 e] at c d;exact h.2 i a b c d
theorem tK:∀{xs ys:c7},xs.map aX=ys.map aX->xs=ys
 | [],[],_=>rfl
 | [],_::_,h=>by simp at h
 |_::_,[],h=>by simp at h
 |x::xs,y::ys,h=>by
  rw[ab5,ab5] at h;injection h with h1 h2
  injection h1 with h1
  rw[tK h2,Int.ofNat_inj.mp h1]
def oV(xs ys:c7):qV (xs.map aX) (ys.map aX):=AY (λn:Nat=>(n:Int)) (λn:Nat=>(n:Int)) xs ys
inductive SV(t:eZ)(vs:q7)(H:Hp)(Q:VK)(_:XK):Prop|mk(x dx a lg:Addr)(gs:c6)(S:q0)(ms:List aR)(Gs Gs':List bC)(i k:Nat)(_:vs=[.ref x,.int i])(_:H x=s0 t.bA dx [("rules",.ref a),("gone_rows",.ref lg)])(_:IsRules t (hid S H) a ms)(_:eK ms)(_:H lg=r6 (gs.map V.ref))(_:S lg)(_:bf (fC t (hid S H)) gs Gs)(_:Ex S H)(_:Gs.length<=100000)(_:qA ms Gs i k Gs')(_:∀gs' H',H' lg=r6 (gs'.map V.ref)->bf (fC t (hid S H')) gs' Gs'->fY H H' lg->Q (.int (k:Nat)) H')
def Uc:bE P w K mg ap dJ 6 t.J6 t.Py ["self","row"] (SV t):=by
 refine T.PZ.ok AL λvs H Q E h=>?_;obtain⟨x,dx,a,lg,gs,S,ms,A,s,i,k,rfl,hx,hR,G,U,W,hA,hE,hlen,O,q⟩:=h;room;have hxl:=bL hx U;have hl:=O.len;have hle:=O.le;refine ak (b7 2 AL bP) (?_);refine aG (λC1=>∀l x2 B,x2=some (.int ((i+k:Nat):Int))->B lg=r6 (l.map V.ref)->bf (fC t (hid S B)) l s->fY H B lg->C1 [ρ x,ι i,x2] B) (jd aa7 (PW.pt (dX (aA fX cG (ez aD T.bD (bQ (aM br rfl))) (aE _)) (cX (aA (lW (aa6 (cS hr))) (aM (aC aU (aM br rfl) cG) rfl) (bw br T.aL T.G5 (Ab T) hr.m T.Bl.b2 .nil aH (bQ cG)) (aE _))))) ay) ?_ ?_
 .refine⟨λm M B=>∃j l,M=[ρ x,ι i,ι ((i+j:Nat):Int)]/\j<=k/\m=k-j/\B lg=r6 (l.map V.ref)/\bf (fC t (hid S B)) l (nj A s (i+j))/\fY H B lg,⟨k,0,gs,rfl,Z9 _,rfl,U,(by rw[Nat.add_zero,O.first];exact hA),fY.refl H lg⟩,?_⟩;rintro m M H1 ⟨j,c,rfl,hj,rfl,d,f,N⟩;have n:=N _ _ hx hxl;have s1:af (hid S H) (hid S H1):=λb o r=>aT (N _ _ (aq _ _ r) (λz=>bI r (z▸W))) (bI r);have hR1:=hR.ae s1;have X:Ex S H1:=λb r=>by
   by_cases e:b=lg
   .exact e▸⟨_,d⟩
   .obtain⟨o,ho⟩:=hE b r;exact⟨o,N _ _ ho e⟩
  have hg1:c.length=A.length:=by rw[f.1,wC hl (by lia)]
  refine(⟨n,T.aL,T.aW,rfl,⟨_,_,rfl,.inl (aV.of d),.mk<|.mk<|dM (λh=>?_) (λh=>?_)⟩⟩)
  .rw[d5] at h;have Y:i+j<A.length:=by lia
   obtain⟨G0,u⟩:∃G0,A[i+j]?=some G0:=⟨A[i+j],i4 Y⟩
   have hG1:(nj A s (i+j))[i+j]?=some G0:=by rw[Vc hl (by lia)];exact u
   obtain⟨g,hg,dg,lb,lt,lo,lk,e⟩:=f.at hG1;refine⟨n,T.aL,T.aW,rfl,⟨aV.of d,cM hg,aq _ _ e.ob,T.cB,T.i0,rfl,?_⟩⟩;refine⟨n,rfl,x,dx,a,lg,c,S,_,i+j,rfl,n,d,f,X,(by rw[wC hl (by lia)];lia),λlb2 H2 Z D=>?_⟩;rw[yO hl (by lia)] at Z;refine⟨aV.of (D _ _ (aq _ _ e.lb)),aV.of (aq _ _ Z),oV _ _,.mk ?_⟩;have p:=D _ _ d;have v:=D _ _ n;have F:=f.mono λ_ _ z=>z.ae (aJ D);have hE2:=X.ae D;refine mq (λhne=>?_) (λheq=>?_)
   .have hjk:j<k:=by
     rcases Nat.lt_or_ge j k with z|z
     .exact z
     .exfalso;have I:j=k:=by lia
      subst I;exact hne (by rw[O.stop G0 u])
    obtain⟨G1,G',z1,hG',er,eb,_,hSt⟩:=O.mid (i+j) (by lia) (by lia);rw[u] at z1;cases z1;refine⟨_,λM B z=>z,ak (jo (fj T.tZ (Jb T) hr.m rfl T.rB T.Ey.b4 .nil aH (ao (aM br rfl) (cy (bw br T.aL T.G5 (Ab T) hr.m T.Bl.b2 .nil aH (bQ cG)) (aM (aC aU (aM br rfl) cG) rfl)))) (wH (aM br rfl) cG set_list)) ?_⟩;refine⟨v,T.aL,T.jA,rfl,?_⟩;refine⟨v,rfl,x,dx,a,lg,c,S,_,i+j,rfl,v,p,F,hE2,(by rw[wC hl (by lia)];lia),λlb3 H3 hb3 s3=>?_⟩;rw[yO hl (by lia),<- eb] at hb3;have C:=s3 _ _ p;have hx3:=s3 _ _ v;have hE3:=hE2.ae s3;have J:=D.trans s3;refine⟨hx3,T.aL,T.aW,rfl,⟨aV.of C,cM hg,J _ _ (aq _ _ e.ob),T.cB,T.cU,rfl,?_⟩⟩;refine λg' dg' R y ne=>⟨g',dg',a,lb3,S,ms,G',(by rw[er];rfl),aa,((hR1.ae aq).ae J).ae (cD R y),G,(aJ (cD R y)) _ _ hb3,hE3.ae (cD R y),hE3.new R,hSt,λlt4 lo4 lk4 H4 hG4 a4=>⟨rfl,?_⟩⟩
    have L:af H3 H4:=λb o r=>a4 b o (cD R y _ _ r) (au r R);have s14:=J.trans L;refine⟨L _ _ hx3,T.aL,T.aW,rfl,⟨lg,_,_,i+j,rfl,rfl,L _ _ C,?_,?_⟩⟩
    .have hz:(c.map V.ref).length=A.length:=by rw[d5];exact hg1
     rw[hz,zG,w4 (by lia),w4 (by lia),ab9]
    refine av (Am (i:=2) AL.nd rfl (Or.inl rfl) ai AN) ⟨_,rfl,_,_,rfl,rfl,?_⟩;refine⟨k-(j+1),by lia,j+1,c.set (i+j) g',by show [some (V.ref x),some (V.int i),some (V.int (((i+j:Nat):Int)+1))]=_;rw[show (((i+(j+1):Nat)):Int)=((i+j:Nat):Int)+1 by lia],by lia,rfl,by rw[aa,List.map_set],by rw[iN W,show i+(j+1)=i+j+1 from rfl,<- Lv hl Y hG'];exact(f.mono λ_ _ z=>z.ae (aJ s14)).put ⟨dg',lb3,lt4,lo4,lk4,hG4⟩,by intro b o r nb;rw[aj nb];exact s14 _ _ (N _ _ r nb)⟩
   .have I:j=k:=by
     rcases Nat.lt_or_ge j k with z|z
     .exfalso;obtain⟨G1,G',z1,hG',er,eb,hnb,hSt⟩:=O.mid (i+j) (by lia) (by lia);rw[u] at z1;cases z1;exact hnb (tK heq)
     .lia
    subst I;rw[O.last] at F;exact λ_ k1=>k1 c _ _ rfl p F (N.ae D)
  .rw[d5] at h;have ej:j=k:=by have:=O.le;lia
   subst ej;rw[O.last] at f;exact λ_ k1=>k1 c _ _ rfl d f N
 intro c x2 H1 rfl h1 h2 h3;refine av (aQ (aK cQ cG bP)) ⟨?_⟩;have:=q c H1 h1 h2 h3;rw[show (k:Int)=((i+k:Nat):Int)-i by lia] at this;exact this
def Cf(hj:j<=xs.length)(h:i<=j):b9 xs (some (i:Int)) (some (j:Int))=(xs.drop i).take (j-i):=by rw[b9,HT.nO,HT.nO,ad9 hj,ad9 (ac2 h hj)]
def gk(h:i<=xs.length):b9 xs (some (i:Int)) none=xs.drop i:=by rw[b9,HT.nO,HT.ye,ad9 h,ac1 (B2▸N0 _)]
def ZE{a n m x s:Nat}(h:n+m+n<=s):min a n+m+(n-x)<=s:=by omega
def gP(hj:j<=xs.length):b9 xs none (some (j:Int))=xs.take j:=by rw[b9,HT.nO,HT.ye,ad9 hj];rfl
def apart(hx:H x=s0 C dx fs)(hb:H b=some o)(h:∀C' d' fs',o = .ins C' d' fs'->fs'.length≠fs.length):hid (λc=>c=x) H b=some o:=by refine aT hb λz=>?_;rw[z,hx] at hb;cases hb;exact h _ _ _ rfl rfl
def Iw(s z:Str):(ou s z).length<=1:=by
 rw[ou];by_cases b:ax s
 .rw[w4 b];exact Z9 _
 .rw[C5 b];by_cases e:s = "word"
  .rw[w4 e];exact N0 _
  .rw[C5 e];exact N0 _
def IsRules.apart    (h:IsRules t H a ms) (hx:H x=s0 t.bA dx [("rules",.ref a'),("gone_rows",.ref lg)]):IsRules t (hid (λc=>c=x) H) a ms:=by
 obtain⟨d,e,f,g,j,n,b⟩:=h;refine⟨d,e,f,g,K81.apart hx j (λ_ _ _ z=>by cases z;simp),K81.apart hx n (λ_ _ _ z=>by cases z),b.la,b.ll,b.nd,λi a l m o q s=>?_⟩;obtain⟨u,v,w,y,A⟩:=b.ob i a l m o q s;refine⟨u,v,K81.apart hx w (λ_ _ _ z=>by cases z;simp[mf]),K81.apart hx y (λ_ _ _ z=>by cases z),A.mono λr R hr=>?_⟩;obtain⟨B,p,C,D,E⟩:=hr;refine⟨B,p,K81.apart hx C (λ_ _ _ z=>by cases z;simp[rf]),D,K81.apart hx E (λ_ _ _ z=>?_)⟩;injection z with _ _ z
 rw[<- z];have:=Iw R.bc R.bi;intro z;have z:(ou R.bc R.bi).length=2:=z;lia
def fC.apart    (h:fC t H g G) (hx:H x=s0 t.bA dx [("rules",.ref a'),("gone_rows",.ref lg)]):fC t (hid (λc=>c=x) H) g G:=by obtain⟨a,b,lt,d,f,e⟩:=h;obtain⟨i,j,l⟩:=e.lk;exact⟨a,b,lt,d,f,K81.apart hx e.ob (λ_ _ _ z=>by cases z;simp[gf]),K81.apart hx e.lb (λ_ _ _ z=>by cases z),K81.apart hx e.lt (λ_ _ _ z=>by cases z),K81.apart hx e.lo (λ_ _ _ z=>by cases z),i,K81.apart hx j (λ_ _ _ z=>by cases z),l.mono λp m h=>K81.apart hx h (λ_ _ _ z=>by cases z)⟩
structure iL(ms:List aR)(Gs:List bC)(i k:Nat)(fs:a9)(ah bk:Nat)(Gm:List bC)(c:Nat)(Gs':List bC):Prop where
 le:i+k<=Gs.length
 eah:ah=cN (((Gs.map (·.bb)).drop i).take k) fs
 ebk:bk=cN ((((Gs.map (·.bb)).drop i).take k).drop ah).reverse (fs.drop ah).reverse
 mid:Chain ms (ki [0] (Gs.take (i+ah))) ((fs.drop ah).take (fs.length-bk-ah)) Gm
 on:qA ms (Gs.take (i+ah)++Gm++Gs.drop (i+k-bk)) (i+ah+Gm.length) c Gs'
def iL.small(h:iL ms Gs i k fs ah bk Gm c Gs'):ah<=k/\ah<=fs.length/\ah+bk<=k/\ah+bk<=fs.length/\Gm.length=fs.length-bk-ah:=by have a:=jJ (((Gs.map (·.bb)).drop i).take k) fs;have b:=jJ ((((Gs.map (·.bb)).drop i).take k).drop ah).reverse (fs.drop ah).reverse;have d:=h.mid.len;rw[<- h.eah,v6,B2,d5] at a;rw[<- h.ebk,ac3,ac3,B2,B2,v6,B2,d5] at b;rw[v6,B2] at d;lia
def bf.take{R:α->β->Prop}{xs:List α}{ys:List β}(h:bf R xs ys)(n:Nat):bf R (xs.take n) (ys.take n):=by
 refine⟨by rw[v6,v6,h.1],λi a b c d=>?_⟩;rw[ao1] at c d;by_cases e:i<n
 .rw[w4 e] at c d;exact h.2 i a b c d
 .rw[C5 e] at c;cases c
def bf.drop{R:α->β->Prop}{xs:List α}{ys:List β}(h:bf R xs ys)(n:Nat):bf R (xs.drop n) (ys.drop n):=by refine⟨by rw[B2,B2,h.1],λi a b c d=>?_⟩;rw[ab6] at c d;exact h.2 _ a b c d
def bf.append{R:α->β->Prop}{xs xs':List α}{ys ys':List β}(h:bf R xs ys)(h':bf R xs' ys'):bf R (xs++xs') (ys++ys'):=by
 refine⟨by rw[i5,i5,h.1,h'.1],λi a b c d=>?_⟩;have e:=h.1;by_cases f:i<xs.length
 .rw[aa2 f] at c;rw[aa2 (by lia)] at d;exact h.2 i a b c d
 .rw[U2 (by lia)] at c;rw[U2 (by lia),<- e] at d;exact h'.2 _ a b c d
def Cq:af (hid S' (hid S H)) (hid (λc=>S c\/S' c) H):=λb o h=>by have a:=aq _ _ h;exact aT (aq _ _ a) (λz=>z.elim (bI a) (bI h))
inductive GJ(t:eZ)(vs:q7)(H:Hp)(Q:VK)(_:XK):Prop|mk(S:q0)(x dx a lg lr:Addr)(gs:c6)(ms:List aR)(Gs:List bC)(i k:Nat)(fs:a9)(ah bk:Nat)(Gm:List bC)(c:Nat)(Gs':List bC)(_:vs=[.ref x,.int i,.int k,.ref lr])(_:Ex S H)(_:bJ t (hid S H) x dx a lg gs ms Gs)(_:eK ms)(_:H lr=r6 (fs.map V.str))(_:Gs.length<=50000)(_:fs.length<=50000)(_:(k=Gs.length->fs≠[]))(_:iL ms Gs i k fs ah bk Gm c Gs')(_:∀lg' gs' H',bJ t (hid S H') x dx a lg' gs' ms Gs'->H lg'=none->fY H H' x->Q (.int ((Gm.length+c:Nat):Int)) H')
def xK:bE P w K mg ap dJ 8 t.E2 t.Qh ["self","row","many","rows"] (GJ t):=by
 refine T.zx.ok qH λvs H Q E h=>?_;obtain⟨S,x,g,a,s,lr,d,ms,Gs,i,k,fs,e,bk,Gm,c,Gs',rfl,O,IS,GM_,v,hl1,hl2,hne,C,q⟩:=h;room;have I:=IS.ae aq;have hxS:¬S x:=bI IS.ob;obtain⟨b1,b2,b3,b4,b5⟩:=C.small;have hle:=C.le;have hgl:=I.go.1;refine ak (aY (bw br T.aL T.Yl (U5 T) hr.m T.Nb.b3 .nil aH (cy bP cG))) ⟨I.ob,rfl,x,g,a,s,d,i,k,rfl,I.ob,I.lg,(by lia),?_⟩;refine aF (λR U=>U=H/\R=[ρ x,ι i,ι k,ρ lr,none,none,none,none,none]) (bq (PW.pt (dX (aA cC cG (ez aD T.bD (bQ (aM br rfl))) (aE _)) (cX (g9 (gc dh (λ_=>rfl)))))) ay ay) ?_ ?_
 .refine(⟨I.ob,T.aL,T.aW,rfl,⟨_,_,rfl,.inl (aV.of I.lg),rfl,.mk<|dM (λh=>?_) (λh=>bg ⟨rfl,rfl⟩)⟩⟩);have hk:k=Gs.length:=by
   injection h with h
   rw[d5] at h;lia
  have hf:=hne hk;refine⟨true,.inl ⟨_,aV.of v,?_⟩,mG (c:=false) rfl (bg ⟨rfl,rfl⟩)⟩;cases fs with
  |nil=>exact absurd rfl hf
  |cons _ _=>rfl
 rintro R U ⟨eH,eσ⟩;rw[eH,eσ];clear eH eσ R U;refine ak (b7 4 qH (bS cZ (bR br T.aL T.rE (mP T) hr.m T.pM.b1 .nil aH) (bO bP) (bO (aK bh bP cG)))) ⟨I.ob,rfl,x,g,a,s,d,ms,Gs,rfl,I,(by lia),λl1 H1 h1 f1 s1=>?_⟩;obtain⟨A,B⟩:∃A,A=((Gs.map (·.bb)).drop i).take k:=⟨_,rfl⟩
 have ea:e=cN A fs:=B▸C.eah
 have eb:bk=cN (A.drop e).reverse (fs.drop e).reverse:=B▸C.ebk
 have htl:A.length=k:=by rw[B,v6,B2,d5];lia
 refine⟨aV.of h1,λW f2=>?_⟩;have e2:b9 ((Gs.map (·.bb)).map V.str) (some (i:Int)) (some ((i:Int)+k))=A.map V.str:=by rw[<- Int.natCast_add,Cf (by rw[d5,d5];omega) (by lia),B,ac9,ad6];congr 1;lia
 have h2:ag H1 W (.lst (b9 ((Gs.map (·.bb)).map V.str) (some (i:Int)) (some ((i:Int)+k)))) W=r6 (A.map V.str):=by rw[aa,e2]
 have s2:af H (ag H1 W (.lst (b9 ((Gs.map (·.bb)).map V.str) (some (i:Int)) (some ((i:Int)+k))))):=s1.trans (af.ag f2);generalize ag H1 W (.lst (b9 ((Gs.map (·.bb)).map V.str) (some (i:Int)) (some ((i:Int)+k))))=H2 at h2 s2;refine ak (b7 5 qH (aS (JO T) hr.m rfl T.Kf T.xQ.kp T.xQ.b2 .nil aH (cy eE dh))) ⟨W,lr,A,fs,rfl,h2,s2 _ _ v,λH3 s3'=>?_⟩;rw[<- ea];have s3:=s2.trans s3';refine ak (b7 6 qH (aS (Lq T) hr.m rfl T.Lz T.zJ.kp T.zJ.b2 .nil aH (cy (bS cZ eE (bO gX) cP) (bS cZ dh (bO gX) cP)))) ⟨aV.of (s3' _ _ h2),λl4 f4=>⟨aV.of (af.ag f4 _ _ (s3 _ _ v)),λl5 f5=>⟨l4,l5,A.drop e,fs.drop e,rfl,by rw[af.ag f5 _ _ aa,gk (by rw[d5];lia),ad6],by rw[aa,gk (by rw[d5];omega),ad6],λH6 j=>?_⟩⟩⟩
 rw[<- eb];have j:af H H6:=((s3.trans (af.ag f4)).trans (af.ag f5)).trans j;refine aF (λR U=>U=H6/\R=[ρ x,ι i,ι k,ρ lr,ρ W,ι e,ι bk,ι ((i+e:Nat):Int),none]) (b7 7 qH (aK bh bP gX)) ⟨rfl,rfl⟩ ?_;rintro R U ⟨eH,eσ⟩;rw[eH,eσ];clear eH eσ R U;have l:=j _ _ I.ob;have G:=j _ _ I.lg;have J:=j _ _ v;have L:=(aJ (S:=S) j) _ _ IS.ob;have hR6:IsRules t (hid (λc=>S c\/c=x) H6) a ms:=((IS.ru.ae (aJ j)).apart L).ae Cq;have hA6:bf (fC t (hid (λc=>S c\/c=x) H6)) d Gs:=IS.go.mono λ_ _ z=>((z.ae (aJ j)).apart L).ae Cq;have hE6:Ex (λc=>S c\/c=x) H6:=λb f=>by
  rcases f with f|f
  .exact(O.ae j) b f
  .exact f▸⟨_,l⟩
 refine ak (b7 8 qH (bw br T.aL T.NY (ED T) hr.m T.Gu.b3 .nil aH (cy (bw br T.aL T.G5 (Ab T) hr.m T.Bl.b2 .nil aH (bQ jO)) (bS cZ dh (bO gX) (bO (aK cQ (ez aD T.bD (bQ dh)) jv)))))) ⟨l,rfl,l,rfl,x,g,a,s,d,λc=>S c\/c=x,Gs,i+e,rfl,l,G,hA6,hE6,(by lia),λlb H7 hb7 s7=>?_⟩;refine⟨_,_,rfl,.inl (aV.of (s7 _ _ J)),aV.of (s7 _ _ J),λl8 f8=>?_⟩;have e8:b9 (fs.map V.str) (some (e:Int)) (some (((fs.map V.str).length:Int)-bk))=((fs.drop e).take (fs.length-bk-e)).map V.str:=by rw[d5,show ((fs.length:Int)-bk)=((fs.length-bk:Nat):Int) by lia,Cf (by rw[d5];lia) (by lia),ac9,ad6]
 have h8:ag H7 l8 (.lst (b9 (fs.map V.str) (some (e:Int)) (some (((fs.map V.str).length:Int)-bk)))) l8=r6 (((fs.drop e).take (fs.length-bk-e)).map V.str):=by rw[aa,e8]
 have s8:af H6 (ag H7 l8 (.lst (b9 (fs.map V.str) (some (e:Int)) (some (((fs.map V.str).length:Int)-bk))))):=s7.trans (af.ag f8);have hb8:=(aJ (S:=λc=>S c\/c=x) (af.ag (o:=.lst (b9 (fs.map V.str) (some (e:Int)) (some (((fs.map V.str).length:Int)-bk)))) f8)) _ _ hb7;generalize ag H7 l8 (.lst (b9 (fs.map V.str) (some (e:Int)) (some (((fs.map V.str).length:Int)-bk))))=H8 at h8 s8 hb8;refine⟨x,g,a,lb,l8,λc=>S c\/c=x,_,ms,_,_,Gm,rfl,s8 _ _ l,rfl,(hR6.ae aq).ae s8,GM_,hb8,hE6.ae s8,h8,(by rw[v6,B2];omega),C.mid,λlm gm H9 X hA9 f9 u=>?_⟩;have u:=s8.trans u;have D:=u _ _ l;have M:=u _ _ G;have hgm:gm.length=Gm.length:=hA9.1;refine ak (b6 br (aK gM (aK gM (bS cZ (aM br rfl) cP (bO jO)) kH) (bS cZ (aM br rfl) (bO (aK cQ (aK bh bP cG) jv)) cP)) rfl) (⟨D,T.aL,T.aW,rfl,⟨aV.of M,λp1 g1=>?_⟩⟩);have z1:(d.map V.ref).length=Gs.length:=by rw[d5];exact hgl
 have z2:(gm.map V.ref).length=Gm.length:=by rw[d5];exact hgm
 have c1:b9 (d.map V.ref) none (some ((i+e:Nat):Int))=(d.take (i+e)).map V.ref:=by rw[gP (by rw[z1];lia),ac9]
 have c2:b9 (d.map V.ref) (some ((i:Int)+k-bk)) none=(d.drop (i+k-bk)).map V.ref:=by rw[show ((i:Int)+k-bk)=((i+k-bk:Nat):Int) by lia,gk (by rw[z1];lia),ad6]
 have sz:=ad0;refine⟨aa,af.ag g1 _ _ X,(by rw[c1,z2,d5,v6];lia),λp2 g2=>?_⟩;refine⟨(af.ag g2 _ _ (af.ag g1 _ _ D)),T.aL,T.aW,rfl,?_⟩;refine⟨aV.of (af.ag g2 _ _ (af.ag g1 _ _ M)),λp3 g3=>?_⟩;refine⟨af.ag g3 _ _ aa,aa,by rw[i5,c1,c2,z2,d5,d5,v6,B2];exact ZE (by lia),λlg' F=>?_⟩
 have e10:b9 (d.map V.ref) none (some ((i+e:Nat):Int))++gm.map V.ref++b9 (d.map V.ref) (some ((i:Int)+k-bk)) none=(d.take (i+e)++gm++d.drop (i+k-bk)).map V.ref:=by rw[c1,c2,o0,o0]
 have Y:af H9 (ag (ag (ag H9 p1 (.lst (b9 (d.map V.ref) none (some ((i+e:Nat):Int))))) p2 (.lst (b9 (d.map V.ref) none (some ((i+e:Nat):Int))++gm.map V.ref))) p3 (.lst (b9 (d.map V.ref) (some ((i:Int)+k-bk)) none))):=((af.ag g1).trans (af.ag g2)).trans (af.ag g3);revert F;show ag (ag (ag H9 p1 (.lst (b9 (d.map V.ref) none (some ((i+e:Nat):Int))))) p2 (.lst (b9 (d.map V.ref) none (some ((i+e:Nat):Int))++gm.map V.ref))) p3 (.lst (b9 (d.map V.ref) (some ((i:Int)+k-bk)) none)) lg'=none->_;generalize ag (ag (ag H9 p1 (.lst (b9 (d.map V.ref) none (some ((i+e:Nat):Int))))) p2 (.lst (b9 (d.map V.ref) none (some ((i+e:Nat):Int))++gm.map V.ref))) p3 (.lst (b9 (d.map V.ref) (some ((i:Int)+k-bk)) none))=HA at Y;intro F;have N:=Y _ _ D;refine⟨x,_,g,_,rfl,af.ag F _ _ N,T.aL,T.aW,(by show 2<1000;decide),?_⟩;have hxl:x≠lg':=au N F;have p:ag (ag HA lg' (.lst (b9 (d.map V.ref) none (some ((i+e:Nat):Int))++gm.map V.ref++b9 (d.map V.ref) (some ((i:Int)+k-bk)) none))) x (.ins t.bA g (dQ "gone_rows" (.ref lg') [("rules",.ref a),("gone_rows",.ref s)])) x=s0 t.bA g [("rules",.ref a),("gone_rows",.ref lg')]:=aa;have Z:ag (ag HA lg' (.lst (b9 (d.map V.ref) none (some ((i+e:Nat):Int))++gm.map V.ref++b9 (d.map V.ref) (some ((i:Int)+k-bk)) none))) x (.ins t.bA g (dQ "gone_rows" (.ref lg') [("rules",.ref a),("gone_rows",.ref s)])) lg'=r6 ((d.take (i+e)++gm++d.drop (i+k-bk)).map V.ref):=by rw[aj (aa4 hxl),aa,e10]
 have kB:∀b o,HA b=some o->b≠x->ag (ag HA lg' (.lst (b9 (d.map V.ref) none (some ((i+e:Nat):Int))++gm.map V.ref++b9 (d.map V.ref) (some ((i:Int)+k-bk)) none))) x (.ins t.bA g (dQ "gone_rows" (.ref lg') [("rules",.ref a),("gone_rows",.ref s)])) b=some o:=λb o f nb=>by rw[aj nb,aj (au f F)];exact f
 show At _ _ _ _ (ag (ag HA lg' (.lst (b9 (d.map V.ref) none (some ((i+e:Nat):Int))++gm.map V.ref++b9 (d.map V.ref) (some ((i:Int)+k-bk)) none))) x (.ins t.bA g (dQ "gone_rows" (.ref lg') [("rules",.ref a),("gone_rows",.ref s)])));generalize ag (ag HA lg' (.lst (b9 (d.map V.ref) none (some ((i+e:Nat):Int))++gm.map V.ref++b9 (d.map V.ref) (some ((i:Int)+k-bk)) none))) x (.ins t.bA g (dQ "gone_rows" (.ref lg') [("rules",.ref a),("gone_rows",.ref s)]))=HB at p Z kB;have n:af H9 HA:=Y;have hmB:=kB _ _ (n _ _ X) (bL X D);have sB:af (hid (λc=>S c\/c=x) H9) (hid (λc=>(S c\/c=x)\/c=lg') HB):=λb o f=>by
  have nb:=bI (S:=λc=>S c\/c=x) f;have r:=n _ _ (aq _ _ f);refine aT (kB b o r (λz=>nb (.inr z))) λz=>?_;rcases z with z|z
  .exact nb z
  .exact au r F z
 have hE:Ex (λc=>(S c\/c=x)\/c=lg') HB:=λb f=>by
  rcases f with (z|z)|z
  .obtain⟨o,ho⟩:=(((O.ae j).ae u).ae n) b z;exact⟨o,kB b o ho (λy=>hxS (y▸z))⟩
  .exact z▸⟨_,p⟩
  .exact z▸⟨_,Z⟩
 have hR9:IsRules t (hid (λc=>S c\/c=x) H9) a ms:=hR6.ae (aJ u);have hG9:bf (fC t (hid (λc=>S c\/c=x) H9)) d Gs:=hA6.mono λ_ _ z=>z.ae (aJ u);have hGG:bf (fC t (hid (λc=>(S c\/c=x)\/c=lg') HB)) (d.take (i+e)++gm++d.drop (i+k-bk)) (Gs.take (i+e)++Gm++Gs.drop (i+k-bk)) :=
  (((hG9.take (i+e)).append hA9).append (hG9.drop (i+k-bk))).mono λ_ _ z=>z.ae sB
 refine av (aQ (aK bh (ez aD T.bD (bQ kH)) (bw br T.aL T.Yk (Uc T) hr.m T.PZ.b2 .nil aH (bQ (aK bh jO (ez aD T.bD (bQ kH))))))) ⟨_,_,rfl,.inl (aV.of hmB),?_⟩;refine⟨p,rfl,_,_,rfl,.inl (aV.of hmB),x,g,a,lg',_,λc=>(S c\/c=x)\/c=lg',ms,_,Gs',i+e+Gm.length,c,by rw[z2];rfl,p,hR9.ae sB,GM_,Z,.inr rfl,hGG,hE,by rw[i5,i5,v6,B2];lia,C.on,λgs2 HC h1 h2 a2=>?_⟩
 refine⟨?_⟩;have:=q lg' gs2 HC ⟨aT (a2 _ _ p hxl) hxS,(hR9.ae sB).ae (λb o f=>aT (a2 _ _ (aq _ _ f) (λz=>bI f (.inr z))) (λz=>bI f (.inl (.inl z)))),aT h1 ((((O.ae j).ae u).ae n).new F),h2.mono λ_ _ z=>z.ae (ug λc hc=>.inl (.inl hc))⟩ ?_ ?_
 .rw[Int.natCast_add,<- z2] at this;exact this
 .exact((j.trans u).trans n).free F
 .intro b o f nb;have r:=((j.trans u).trans n) _ _ f;exact a2 _ _ (kB _ _ r nb) (au r F)
def rq.one(h:rq ms G)(h':rq ms G')(e1:G.bb=G'.bb)(e2:G.ce=G'.ce):G=G':=by
 obtain⟨n,_,g⟩:=h.go;obtain⟨m,_,a⟩:=h'.go;rw[<- e1,<- e2] at a;have y:=mO (Nat.le_max_right n m) a;rw[(mO (Nat.le_max_left n m) g)] at y;injection y with y
 cases G;cases G';simp_all
theorem Chain.one:∀{b:c7} {rs:a9} {Gs Gs':List bC},Chain ms b rs Gs->Chain ms b rs Gs'->Gs=Gs'
 |_,[],[],[],_,_=>rfl
 |b,r::rs,G::Gs,G'::Gs',h,h'=>by have e:=h.2.2.1.one h'.2.2.1 (h.1.trans h'.1.symm) (h.2.1.trans h'.2.1.symm);subst e;rw[Chain.one h.2.2.2 h'.2.2.2]
 |_,[],[],_::_,_,h=>h.elim
 |_,[],_::_,_,h,_=>h.elim
 |_,_::_,[],_,h,_=>h.elim
 |_,_::_,_::_,[],_,h=>h.elim
theorem Chain.split:∀{b:c7} {rs:a9} {Gs:List bC} (n:Nat),Chain ms b rs Gs->Chain ms b (rs.take n) (Gs.take n)/\Chain ms (ki b (Gs.take n)) (rs.drop n) (Gs.drop n)
 |_,rs,Gs,0,h=>⟨by rw[List.take_zero,List.take_zero];trivial,h⟩
 |_,[],[],n+1,h=>⟨trivial,trivial⟩
 |b,r::rs,G::Gs,n+1,h=>by obtain⟨h1,h2,h3,h4⟩:=h;obtain⟨a,c⟩:=Chain.split n h4;exact⟨⟨h1,h2,h3,a⟩,c⟩
 |_,[],_::_,_+1,h=>h.elim
 |_,_::_,[],_+1,h=>h.elim
def Chain.at(h:Chain ms b rs Gs)(hG:Gs[j]?=some G):rs[j]?=some G.bb/\G.ce=ki b (Gs.take j)/\rq ms G:=by
 have k:=(h.split j).2;rw[gH hG] at k;cases e:rs.drop j with
 |nil=>rw[e] at k;exact k.elim
 |cons r t =>
  rw[e] at k;refine⟨?_,k.2.1,k.2.2.1⟩;have:=ac7 (λl=>l[0]?) e;simp only[ab6,Nat.add_zero,af6] at this;rw[this,k.1]
noncomputable def gC:List bC->List bC->Nat
 |A::As,B::Bs=>if A.ce=B.ce then 0 else gC As Bs+1
 |_,_=>0
theorem Cj:∀(As Bs:List bC),gC As Bs<=As.length/\gC As Bs<=Bs.length
 | [],_=>⟨Z9 _,Z9 _⟩
 |_::_,[]=>⟨Z9 _,Z9 _⟩
 |A::As,B::Bs=>by
  have h:=Cj As Bs;rw[gC];by_cases e:A.ce=B.ce
  .rw[w4 e];exact⟨Z9 _,Z9 _⟩
  .rw[C5 e,P3,P3];lia
theorem BO:∀{As Bs:List bC} {j:Nat} {A B:bC},j<gC As Bs->As[j]?=some A->Bs[j]?=some B->A.ce≠B.ce
 |A::As,B::Bs,0,A',B',h,h1,h2=>by cases h1;cases h2;rw[gC] at h;intro e;rw[w4 e] at h;exact ah0 _ h
 |A::As,B::Bs,j+1,A',B',h,h1,h2=>by
  rw[gC] at h;by_cases e:A.ce=B.ce
  .rw[w4 e] at h;exact absurd h (Nat.not_lt_zero _)
  .rw[C5 e] at h;exact BO (As:=As) (Bs:=Bs) (j:=j) (by lia) (by simpa using h1) (by simpa using h2)
 | [],_,j,_,_,h,_,_=>by rw[gC] at h;exact absurd h (Nat.not_lt_zero _);intros;simp_all
 |_::_,[],j,_,_,h,_,_=>by rw[gC] at h;exact absurd h (Nat.not_lt_zero _);intros;simp_all
theorem wL:∀{As Bs:List bC} {A B:bC},As[gC As Bs]?=some A->Bs[gC As Bs]?=some B->A.ce=B.ce
 |A::As,B::Bs,A',B',h1,h2=>by
  rw[gC] at h1 h2;by_cases e:A.ce=B.ce
  .rw[w4 e] at h1 h2;cases h1;cases h2;exact e
  .rw[C5 e] at h1 h2;exact wL (As:=As) (Bs:=Bs) (by simpa using h1) (by simpa using h2)
 | [],_,_,_,h1,_=>by simp at h1
 |_::_,[],_,_,_,h2=>by simp at h2
def DL(hA:Chain ms b rs As)(hB:Chain ms b' rs Bs):As.drop (gC As Bs)=Bs.drop (gC As Bs):=by
 have h:=hA.len;have i:=hB.len;by_cases f:gC As Bs<As.length
 .obtain⟨A,a⟩:∃A,As[gC As Bs]?=some A:=⟨_,i4 f⟩
  obtain⟨B,c⟩:∃B,Bs[gC As Bs]?=some B:=⟨_,i4 (by lia)⟩
  have e:=wL a c;rw[(hA.at a).2.1,(hB.at c).2.1] at e;have d:=(hA.split (gC As Bs)).2;have g:=(hB.split (gC As Bs)).2;rw[e] at d;exact d.one g
 .rw[ai0 (by lia),ai0 (by lia)]
def Zn(h:i+k<=g)(e:g'=i+f+(g-(i+k)))(hf:b<=f)(hk:b<=k):g'-(i+f-b)=g-(i+k-b):=by lia
def Ze(h:i+k<=g)(e:g'=i+f+(g-(i+k)))(hf:b<=f)(hk:b<=k):g'=i+f-b+(g-(i+k-b)):=by lia
def ar2{a b k:Nat}(h:a+b<=k):a+(k-a-b)=k-b:=by lia
def ar3:i+k-b-i=k-b:=by lia
def ar4(h:a+b<=f):i+a+(f-b-a)=i+f-b:=by lia
def ar5(h:a+b<=f)(h2:i+f<=n):min (f-b-a) (n-(i+a))=f-b-a:=by lia
def zZ(hC:Chain ms [0] rs Gs)(hle:i+k<=rs.length)(hC':Chain ms [0] (rs.take i++fs++rs.drop (i+k)) Gs') :
  ∃ah bk Gm c,iL ms Gs i k fs ah bk Gm c Gs'/\ah=cN ((rs.drop i).take k) fs/\bk=cN (((rs.drop i).take k).drop ah).reverse (fs.drop ah).reverse/\Gm.length=fs.length-bk-ah/\c=gC (Gs'.drop (i+fs.length-bk)) (Gs.drop (i+k-bk))/\ah+bk<=k/\ah+bk<=fs.length:=by
 have hr:=hC.rows;have hl:=hC.len;have n:=hC'.len;obtain⟨b,f⟩:∃b,b=(rs.drop i).take k:=⟨_,rfl⟩
 have s:b.length=k:=by rw[f,v6,B2];lia
 obtain⟨ah,D⟩:∃ah,ah=cN b fs:=⟨_,rfl⟩
 obtain⟨bk,E⟩:∃bk,bk=cN (b.drop ah).reverse (fs.drop ah).reverse:=⟨_,rfl⟩
 have I:=jJ b fs;have a2:=jJ (b.drop ah).reverse (fs.drop ah).reverse;rw[<- D] at I;rw[<- E,ac3,ac3,B2,B2] at a2;have t:ah+bk<=fs.length:=by lia
 have F:ah+bk<=k:=by lia
 have t1:b.take ah=fs.take ah:=D▸oZ b fs
 have t2:(b.drop ah).reverse.take bk=(fs.drop ah).reverse.take bk:=E▸oZ _ _
 have t3:b.drop (k-bk)=fs.drop (fs.length-bk):=by have:=ac7 List.reverse t2;rw[List.reverse_take,List.reverse_take,List.reverse_reverse,List.reverse_reverse,ac3,ac3,B2,B2,ak2,ak2,s] at this;rw[show ah+(k-ah-bk)=k-bk from ar2 F,show ah+(fs.length-ah-bk)=fs.length-bk from ar2 t] at this;exact this
 have L:rs.drop i=b++rs.drop (i+k):=by rw[f,<- ak2,ad8]
 have u:rs=rs.take i++(b++rs.drop (i+k)):=by rw[<- L,ad8]
 have a:(rs.take i).length=i:=by rw[v6];lia
 have e1:(rs.take i++fs++rs.drop (i+k)).take (i+ah)=rs.take (i+ah):=by
  conv=>rhs;rw[u]
  rw[ac0];conv=>lhs;rw[List.take_append,a,ac1 (by rw[a];lia),show i+ah-i=ah by lia,ae8 I.2]
  conv=>rhs;rw[List.take_append,a,ac1 (by rw[a];lia),show i+ah-i=ah by lia,ae8 (by lia)]
  rw[t1]
 have e2:(rs.take i++fs++rs.drop (i+k)).drop (i+fs.length-bk)=rs.drop (i+k-bk):=by
  conv=>rhs;rw[u]
  rw[ac0];conv=>lhs;rw[List.drop_append,a,ak5 (by rw[a];lia),show i+fs.length-bk-i=fs.length-bk from ar3,ak0 (by lia)]
  conv=>rhs;rw[List.drop_append,a,ak5 (by rw[a];lia),show i+k-bk-i=k-bk from ar3,ak0 (s▸Nat.sub_le _ _)]
  rw[t3]
 have e3:((rs.take i++fs++rs.drop (i+k)).drop (i+ah)).take (fs.length-bk-ah)=(fs.drop ah).take (fs.length-bk-ah):=by rw[ac0,List.drop_append,a,ak5 (by rw[a];exact ae4 _ _),show i+ah-i=ah from aj7 ..,ak0 I.2,ao4,ae8 (by rw[B2];lia)]
 obtain⟨p1,p2⟩:=hC.split (i+ah);obtain⟨v,M⟩:=hC'.split (i+ah);rw[e1] at v;have T:=p1.one v;obtain⟨U,_⟩:=M.split (fs.length-bk-ah);rw[e3,<- T] at U;obtain⟨_,W⟩:=hC.split (i+k-bk);obtain⟨_,o⟩:=hC'.split (i+fs.length-bk);rw[e2] at o;have N:(rs.take i++fs++rs.drop (i+k)).length=i+fs.length+(rs.length-(i+k)):=by rw[i5,i5,a,B2]
 rw[N] at n;have O:((Gs'.drop (i+ah)).take (fs.length-bk-ah)).length=fs.length-bk-ah:=by rw[v6,B2];exact ar5 t (n▸ae4 _ _)
 have P:i+ah+(fs.length-bk-ah)=i+fs.length-bk:=ar4 t;have lt:(Gs.take (i+ah)).length=i+ah:=v6▸ad9 (by rw[hl];exact (ac2 (an7 (ac2 (ae4 _ _) F) i) hle))
 have lG1:(Gs.take (i+ah)++(Gs'.drop (i+ah)).take (fs.length-bk-ah)).length=i+fs.length-bk:=by rw[i5,O,lt];exact P
 have Q:Gs.take (i+ah)++(Gs'.drop (i+ah)).take (fs.length-bk-ah)=Gs'.take (i+fs.length-bk):=by rw[T,<- P];exact List.take_add.symm
 have dl:=Cj (Gs'.drop (i+fs.length-bk)) (Gs.drop (i+k-bk));rw[B2,B2] at dl;refine⟨ah,bk,(Gs'.drop (i+ah)).take (fs.length-bk-ah),_,⟨hl▸hle,by rw[hr,<- f];exact D,by rw[hr,<- f];exact E,U,?_⟩,f▸D,f▸E,O,rfl,F,t⟩;rw[O,P,Q];have h:i+k<=Gs.length:=hl▸hle
 have w:Gs'.length=i+fs.length+(Gs.length-(i+k)):=hl▸n
 have x:=ac2 (Nat.le_add_left _ _) t;have y:=ac2 (Nat.le_add_left _ _) F;have g:=Ze h w x y;have r:(Gs'.take (i+fs.length-bk)).length=i+fs.length-bk:=v6▸ad9 (by rw[g];exact ae4 _ _)
 refine⟨by rw[i5,r,B2];first | exact g | exact g.symm | lia,by rw[i5,r,B2];first | exact g | exact g.symm | lia,λj X=>by rw[aa2 (by lia),ao1,w4 X],λj X=>by rw[U2 (by lia),r];have:=ac7 (λl=>l[j-(i+fs.length-bk)-gC (Gs'.drop (i+fs.length-bk)) (Gs.drop (i+k-bk))]?) (DL o W);simp only[ab6] at this;rw[ab6];rw[show i+fs.length-bk+(gC (Gs'.drop (i+fs.length-bk)) (Gs.drop (i+k-bk))+(j-(i+fs.length-bk)-gC (Gs'.drop (i+fs.length-bk)) (Gs.drop (i+k-bk))))=j by lia] at this;rw[this];congr 1;lia,λj h1 h2=>?_,λG S=>?_⟩
 .obtain⟨d,rfl⟩:∃d,j=i+fs.length-bk+d:=⟨j-(i+fs.length-bk),by lia⟩
  obtain⟨A,p⟩:∃A,Gs'[i+fs.length-bk+d]?=some A:=⟨_,i4 (by lia)⟩
  obtain⟨B,hB⟩:∃B,Gs[i+k-bk+d]?=some B:=⟨_,i4 (by lia)⟩
  have C:(Gs'.drop (i+fs.length-bk))[d]?=some A:=ab6▸p
  have q:(Gs.drop (i+k-bk))[d]?=some B:=ab6▸hB
  obtain⟨x1,Y,x3⟩:=hC'.at p;obtain⟨y1,_,_⟩:=W.at q;obtain⟨H,_,_⟩:=o.at C;refine⟨B,A,by rw[U2 (by rw[r];exact ae4 _ _),r,aj7];exact q,p,?_,Y,by rw[<- Y];exact λz=>BO (by lia) C q z.symm,x3⟩
  .rw[y1] at H;injection H with H
   exact H.symm
 .rw[U2 (by lia),r,aj7] at S;have Z:=(d6.mp S).1;rw[B2] at Z;obtain⟨A,p⟩:∃A,(Gs'.drop (i+fs.length-bk))[gC (Gs'.drop (i+fs.length-bk)) (Gs.drop (i+k-bk))]?=some A:=⟨_,i4 (by rw[B2,(Zn h w x y)];exact Z)⟩
  have e:=wL p S;rw[ab6] at p;rw[<- e];exact(hC'.at p).2.1
def yq(x:Str)(n:Nat):(Txt.slice x none (some (n:Int))).l=x.l.take n:=by
 by_cases h:n<=x.length
 .have:=an0 (PyProof.Rows.slice_closes_toL (x:=x) (j:=(n:Int)) (by lia) (by lia));rw[this];simp
 .have e:Txt.slice x none (some (n:Int))=Txt.slice x none (some (x.length:Int)):=by
   have a:Builtin.Str.strSliceIndices none (some (n:Int)) 1 x.length=Builtin.Str.strSliceIndices none (some (x.length:Int)) 1 x.length:=by
    have b:¬((n:Int)<0):=by lia
    have c:¬((x.length:Int)<0):=by lia
    have d:(1:Int)>0:=by decide
    have f:(x.length:Int)<=n:=by lia
    simp only[Builtin.Str.strSliceIndices,b,c,d,ao9,if_true,Int.min_eq_right f,Int.min_self]
   unfold Txt.slice;rw[a]
  have:=an0 (PyProof.Rows.slice_closes_toL (x:=x) (j:=(x.length:Int)) (by lia) (by lia));rw[ac1 (l:=x.l) (i:=n) (by rw[bV];lia),e,this];show ((x.l.drop (0:Int).toNat).take ((x.length:Int)-0).toNat)=_;exact ac1 (by show x.l.length<=_;rw[bV];lia)
noncomputable def lM(x:Str)(j:Nat)(z:Str):Str:=Txt.slice x none (some (j:Int))++z++Txt.slice x (some (j:Int)) none
noncomputable def qF(x:Str)(j:Nat)(y:Str)(k:Nat):Str:=Txt.slice x none (some (j:Int))++Txt.slice y (some (k:Int)) none
inductive z9(t:eZ)(vs:q7)(H:Hp)(Q:VK)(_:XK):Prop|mk(x dx a lg:Addr)(gs:c6)(ms:List aR)(Gs:List bC)(G:bC)(i j:Nat)(_:vs=[.ref x,.int i,.int j])(_:bJ t H x dx a lg gs ms Gs)(_:Gs[i]?=some G)(_:j<=G.bb.length)(_:G.bb.length<=1000)(_:Q .dj H)
def xh:bE P w K mg ap dJ 2 t.B8 t.IB ["self","row","at"] (z9 t):=by refine T.pK.ok Jq λs H Q E h=>?_;obtain⟨x,b,a,d,f,l,n,G,i,j,rfl,I,c,u,hl,q⟩:=h;room;obtain⟨g,p,r,v,lt,y,z,e⟩:=I.go.at c;refine ak (aY (bw br T.aL T.Jz (Fj T) hr.m T.zf.b2 .nil aH (bQ bP))) ⟨I.ob,rfl,x,b,a,d,f,l,n,i,rfl,I,(d6.mp c).1,?_⟩;refine av (bq (PW.pt (jz (aA fX cG ai (aE _)) (jk (aA j9 cG (ez bz T.bD (bQ (aM (aC aU (aM br rfl) bP) rfl))) (aE _))))) ay ay) ⟨.mk<|dM (λh=>absurd h (by lia)) (λ_=>?_)⟩;exact(⟨I.ob,T.aL,T.aW,rfl,⟨aV.of I.lg,cM p,e.ob,T.cB,T.cU,rfl,_,rfl,bK (by lia),.mk<|.mk<|dM (λh=>absurd h (by lia)) (λ_=>bg q)⟩⟩)
inductive yk(t:eZ)(vs:q7)(H:Hp)(Q:VK)(_:XK):Prop|mk(x dx a lg:Addr)(gs:c6)(ms:List aR)(Gs:List bC)(G G2:bC)(i j i2 j2:Nat)(_:vs=[.ref x,.int i,.int j,.int i2,.int j2])(_:bJ t H x dx a lg gs ms Gs)(_:Gs[i]?=some G)(_:j<=G.bb.length)(_:G.bb.length<=1000)(_:Gs[i2]?=some G2)(_:j2<=G2.bb.length)(_:G2.bb.length<=1000)(_:HT.gY [(i:Int),j] [(i2:Int),j2]=false)(_:∀H',af H H'->Q .dj H')
def SJ:bE P w K mg ap dJ 3 t.B5 t.IY ["self","row","at","row2","at2"] (yk t):=by refine T.BG.ok Il λC H Q E h=>?_;obtain⟨x,b,a,f,g,l,n,G,s,i,j,o,p,rfl,I,u,v,hl,c,d,e,y,q⟩:=h;room;refine ak (aY (bw br T.aL T.t9 (xh T) hr.m T.pK.b3 .nil aH (cy bP cG))) ⟨I.ob,rfl,x,b,a,f,g,l,n,G,i,j,rfl,I,u,v,hl,?_⟩;refine ak (aY (bw br T.aL T.t9 (xh T) hr.m T.pK.b3 .nil aH (cy dh eE))) ⟨I.ob,rfl,x,b,a,f,g,l,n,s,o,p,rfl,I,c,d,e,?_⟩;refine av (bq (aA (nN (aa6 (cS hr))) (bG (cy bP cG)) (bG (cy dh eE)) (aE _)) ay ay) ⟨sL rfl,λz A=>⟨sL rfl,λB r=>⟨z,B,[(i:Int),j],[(o:Int),p],rfl,rfl,bT.of (af.ag r _ _ aa),bT.of aa,.mk ?_⟩⟩⟩;exact y▸mH (bg (q _ ((af.ag A).trans (af.ag r))))
inductive X5(t:eZ)(vs:q7)(H:Hp)(Q:VK)(_:XK):Prop|mk(S:q0)(x dx a lg:Addr)(gs:c6)(ms:List aR)(Gs:List bC)(G:bC)(i j:Nat)(z:Str)(fs:a9)(ah bk:Nat)(Gm:List bC)(c:Nat)(Gs':List bC)(_:vs=[.ref x,.int i,.int j,.str z])(_:Ex S H)(_:bJ t (hid S H) x dx a lg gs ms Gs)(_:eK ms)(_:Gs[i]?=some G)(_:j<=G.bb.length)(_:G.bb.length<=1000)(_:z.length<=1000)(_:Txt.split (lM G.bb j z) (Str.ofString "\n")=fs)(_:Gs.length<=50000)(_:fs.length<=50000)(_:fs≠[])(_:iL ms Gs i 1 fs ah bk Gm c Gs')(_:∀lg' gs' H',bJ t (hid S H') x dx a lg' gs' ms Gs'->H lg'=none->fY H H' x->Q (.int ((Gm.length+c:Nat):Int)) H')
def RG:bE P w K mg ap dJ 9 t.Bt t.HG ["self","row","at","text"] (X5 t):=by
 refine T.CG.ok AM λvs H Q E h=>?_;obtain⟨S,x,d,a,D,F,J,L,G,i,j,z,fs,O,bk,R,c,l,rfl,n,M,r,N,U,hl,hz,s,u,v,y,C,q⟩:=h;room;have I:=M.ae aq;have sz:=ad0;obtain⟨g,W,X,lb,lt,lo,lk,e⟩:=I.go.at N;have b1:=ae6 G.bb none (some (j:Int));have b2:=ae6 G.bb (some (j:Int)) none;refine ak (aY (bw br T.aL T.t9 (xh T) hr.m T.pK.b3 .nil aH (cy bP cG))) ⟨I.ob,rfl,x,d,a,D,F,J,L,G,i,j,rfl,I,N,U,hl,?_⟩;refine ak (b7 4 AM (aM (aC aU (aM br rfl) bP) rfl)) (⟨I.ob,T.aL,T.aW,rfl,⟨aV.of I.lg,cM W,e.ob,T.cB,T.cU,rfl,?_⟩⟩);have l1:(Txt.slice G.bb none (some (j:Int))++z).length<=2000:=by rw[T0];lia
 have l2:(lM G.bb j z).length<=3000:=by unfold lM;rw[T0];lia
 refine av (aQ (bw br T.aL T.Bw (xK T) hr.m T.zx.b4 .nil aH (ao bP (cy ai (cV ae2 ag1 aj8 kM (aK bY (aK bY (bS ko eE cP (bO cG)) dh) (bS ko eE (bO cG) cP)) (bQ aZ)))))) ⟨I.ob,rfl,(by lia),_,_,rfl,rfl,(by lia),(by lia),_,_,rfl,rfl,(by lia),rfl,lM G.bb j z,Str.ofString "\n",rfl,rfl,rfl,(by lia),λp Y=>?_⟩;rw[s];have f:af H (ag H p (.lst (fs.map V.str))):=af.ag Y;exact⟨S,x,d,a,D,p,F,J,L,i,1,fs,O,bk,R,c,l,rfl,n.ae f,M.ae (aJ f),r,aa,u,v,(λ_=>y),C,λA B Z I' f' a'=>q A B Z I' (f.free f') (λb o hb nb=>a' b o (f _ _ hb) nb)⟩
inductive WY(t:eZ)(vs:q7)(H:Hp)(Q:VK)(_:XK):Prop|mk(S:q0)(x dx a lg:Addr)(gs:c6)(ms:List aR)(Gs:List bC)(G G2:bC)(i j i2 j2:Nat)(ah bk:Nat)(Gm:List bC)(c:Nat)(Gs':List bC)(_:vs=[.ref x,.int i,.int j,.int i2,.int j2])(_:Ex S H)(_:bJ t (hid S H) x dx a lg gs ms Gs)(_:eK ms)(_:Gs[i]?=some G)(_:j<=G.bb.length)(_:G.bb.length<=1000)(_:Gs[i2]?=some G2)(_:j2<=G2.bb.length)(_:G2.bb.length<=1000)(_:HT.gY [(i:Int),j] [(i2:Int),j2]=false)(_:i<=i2)(_:Gs.length<=50000)(_:iL ms Gs i (i2-i+1) [qF G.bb j G2.bb j2] ah bk Gm c Gs')(_:∀lg' gs' H',bJ t (hid S H') x dx a lg' gs' ms Gs'->H lg'=none->fY H H' x->Q (.int ((Gm.length+c:Nat):Int)) H')
def S3:bE P w K mg ap dJ 9 t.Ce t.El ["self","row","at","row2","at2"] (WY t):=by
 refine T.BP.ok AZ λvs H Q E h=>?_;obtain⟨S,x,s,a,N,O,R,U,G,l,i,j,n,f,ah,bk,Gm,c,v,rfl,y,W,z,X,hj,hl,r,A,B,hx,hii,D,C,q⟩:=h;room;have I:=W.ae aq;have sz:=ad0;refine ak (aY (bw br T.aL T.PB (SJ T) hr.m T.BG.b5 .nil aH (ao bP (ao cG (cy dh eE))))) ⟨I.ob,rfl,x,s,a,N,O,R,U,G,l,i,j,n,f,rfl,I,X,hj,hl,r,A,B,hx,λY Z=>?_⟩;have d:=I.ae Z;obtain⟨g,hg,dg,lb,lt,lo,lk,e⟩:=d.go.at X;obtain⟨g2,F,J,lb2,OA,lo2,lk2,e2⟩:=d.go.at r;have b1:=ae6 G.bb none (some (j:Int));have b2:=ae6 l.bb (some (f:Int)) none;refine ak (b7 5 AZ (aK bY (bS ko (aM (aC aU (aM br rfl) bP) rfl) cP (bO cG)) (bS ko (aM (aC aU (aM br rfl) dh) rfl) (bO eE) cP))) (⟨d.ob,T.aL,T.aW,rfl,⟨aV.of d.lg,cM hg,e.ob,T.cB,T.cU,rfl,(by lia),⟨d.ob,T.aL,T.aW,rfl,⟨aV.of d.lg,cM F,e2.ob,T.cB,T.cU,rfl,(by lia),_,_,rfl,rfl,(by lia),?_⟩⟩⟩⟩);show At _ _ _ [ρ x,ι i,ι j,ι n,ι f,τ (qF G.bb j l.bb f)] Y;refine av (aQ (bw br T.aL T.Bw (xK T) hr.m T.zx.b4 .nil aH (ao bP (cy (aK bh (aK cQ dh bP) ai) (bM (bQ gX)))))) ⟨d.ob,rfl,sL rfl,λp fp=>?_⟩;have u:af H (ag Y p (.lst [.str (qF G.bb j l.bb f)])):=Z.trans (af.ag fp);have ek:((n:Int)-i+1)=((n-i+1:Nat):Int):=by lia
 refine⟨S,x,s,a,N,p,O,R,U,i,n-i+1,[qF G.bb j l.bb f],ah,bk,Gm,c,v,?_,y.ae u,W.ae (aJ u),z,aa,D,(show 1<=50000 by decide),(λ_=>by simp),C,λL M H' I' f' a'=>q L M H' I' (u.free f') (λb o hb nb=>a' b o (u _ _ hb) nb)⟩;rw[<- ek];rfl
noncomputable def Mj(B:List c7):c7:=B.flatMap λr=>10::r
def tU(h:F≠[]):d9 10 (x::F)=x++10::d9 10 F:=by
 cases F with
 |nil=>exact absurd rfl h
 |cons y r=>rfl
theorem vh:∀(x:c7) (B:List c7),d9 10 (x::B)=x++Mj B
 |x,[]=>by simp[d9,Mj]
 |x,b::B=>by have e:Mj (b::B)=10::b++Mj B:=rfl;rw[tU (by simp),vh b B,e];rfl
noncomputable def cu:c7->List c7
 | []=>[[]]
 |c::r=>if c=10 then []::cu r else match cu r with
  | []=>[[c]]
  |x::xs=>(c::x)::xs
theorem i7:∀l:c7,cu l≠[]
 | []=>by simp[cu]
 |c::r=>by
  rw[cu];by_cases h:c=10
  .rw[w4 h];simp
  .rw[C5 h];cases cu r with
   |nil=>simp
   |cons x xs=>simp
theorem q9:∀l:c7,d9 10 (cu l)=l
 | []=>rfl
 |c::r=>by
  have ih:=q9 r;rw[cu];by_cases h:c=10
  .rw[w4 h,tU (i7 r),ih,h];rfl
  .rw[C5 h];cases e:cu r with
   |nil=>exact absurd e (i7 r)
   |cons x xs =>
    rw[e] at ih;show d9 10 ((c::x)::xs)=_;rw[vh] at ih ⊢;rw[<- ih];rfl
theorem uz:∀(l:c7),∀x∈cu l,∀c∈x,c∈l/\c≠10
 | [],x,hx,c,hc=>by rw[cu,B1] at hx;rw[hx] at hc;cases hc
 |d::r,x,hx,c,hc=>by
  have ih:=uz r;rw[cu] at hx;by_cases h:d=10
  .rw[w4 h] at hx;rcases Z5.mp hx with z|z
   .rw[z] at hc;cases hc
   .have:=ih x z c hc;exact⟨Q1 _ this.1,this.2⟩
  .rw[C5 h] at hx;cases e:cu r with
   |nil=>exact absurd e (i7 r)
   |cons y ys =>
    rw[e] at hx ih;rcases Z5.mp hx with z|z
    .rw[z] at hc;rcases Z5.mp hc with w|w
     .rw[w];exact⟨by simp,h⟩
     .have:=ih y (by simp) c w;exact⟨Q1 _ this.1,this.2⟩
    .have:=ih x (Q1 _ z) c hc;exact⟨Q1 _ this.1,this.2⟩
theorem lP:∀l:c7,(cu l).length=l.count 10+1/\((cu l).map List.length).sum+l.count 10=l.length
 | []=>⟨rfl,rfl⟩
 |c::r=>by
  obtain⟨i1,i2⟩:=lP r;rw[cu];by_cases h:c=10
  .subst h;rw[w4 rfl,List.count_cons_self,P3,ab5,am3,P3,ac6];lia
  .rw[C5 h,List.count_cons_of_ne h];cases e:cu r with
   |nil=>exact absurd e (i7 r)
   |cons x xs =>
    rw[e] at i1 i2;show ((c::x)::xs).length=_/\(((c::x)::xs).map List.length).sum+_=_;rw[P3] at i1 ⊢;rw[ab5,am3] at i2 ⊢;rw[P3,P3];lia
def mK(s:Str):a9:=(cu s.l).map λl=>⟨l.toArray⟩
def kK(s:Str):(mK s).map (λp=>p.l)=cu s.l:=by unfold mK;rw[ag3];exact List.map_id'' (λ_=>rfl) _
def tN(s:Str):mK s≠[]:=by unfold mK;intro z;exact i7 _ (ah7.mp z)
def Br(h:x∈mK s):∀c∈x.l,c∈s.l/\c≠10:=λc a=>by have:x.l∈(mK s).map (λp=>p.l):=List.mem_map_of_mem h;rw[kK] at this;exact uz _ _ this c a
def Yc:Str.ofString "\n" = ⟨#[10]⟩:=by lk
def G6  {ps:a9} (hn:ps≠[]) (hf:∀p∈ps,10∉p.l) (e:s.l=d9 10 (ps.map λp=>p.l)):Txt.split s (Str.ofString "\n")=ps:=by have:s=Str.join ⟨#[10]⟩ ps:=i8 (by rw[fZ];exact e);exact this▸Yc▸pe hn hf
def nK (s:Str):Txt.split s (Str.ofString "\n")=mK s:=G6 (tN s) (λp a z=>(Br a 10 z).2 rfl) (by rw[kK,q9])
abbrev Zt(rs:a9):List c7:=rs.map λp=>p.l
def ahL:b9 ((hd::ws).map V.str) (some 1) none=ws.map V.str:=by have:=gk (xs:=(hd::ws).map V.str) (i:=1) (by simp);rw[show ((1:Nat):Int)=1 from rfl] at this;rw[this,ab5,List.drop_one,List.tail_cons]
def aiN{ws ks:a9}{u z:V}(hu:(ws.map V.str)[i]?=some u)(hz:(ks.map V.str)[i]?=some z):∃x k:Str,u = .str x/\z = .str k/\(ws.zip ks)[i]?=some (x,k)/\ws[i]?=some x:=by rw[v3] at hu hz;obtain⟨x,a,rfl⟩:=D1.mp hu;obtain⟨k,b,rfl⟩:=D1.mp hz;exact⟨x,k,rfl,rfl,List.getElem?_zip_eq_some.mpr ⟨a,b⟩,a⟩
inductive aqT(t:eZ)(K:W.Frag)(vs:q7)(H:Hp)(Q:VK)(_:XK):Prop|mk(x dx lw g:Addr)(hd b:Str)(ws ks:a9)(is:c7)(_:vs=[.ref x,.ref lw,.str b])(_:H x=s0 t.ZL dx [])(_:H lw=r6 ((hd::ws).map V.str))(_:Knd t K hd g ks)(_:ws.length=ks.length)(_:aez (aaY (ws.zip ks)) is)(_:(∀i∈is,i<10000))(_:∀H',abh t H' x hd (namesW (ws.zip ks)) is b->fY H H' x->Q .dj H')
def eD(hw:t.pr=w.params):bE P w K mg ap dJ 1 t.apx t.arU ["self","words","body"] (aqT t K):=by
 refine T.arp.ok dq λvs H Q E h=>?_;obtain⟨x,l,W,g,d,b,a,ks,is,rfl,hx,A,Y,Z,U,hlt,q⟩:=h;room;have hwl:(a.map V.str).length<sizeLine:=ak7 (ap0 ((d5 _).trans Z)) (ak7 Y.few (by decide));refine ak (b7 3 dq (akg (jX rfl T.adm (v:=V.ref t.aaC) rfl) (aC aU bP ai) (λ_ _=>rfl))) ⟨aV.of A,aB (j:=0) rfl,t.aaC,listed t,d,.ref g,rfl,hw ▸ T.acj,rfl,Y.at_,?_⟩;refine ak (b6 br (aC aU bP ai) rfl) ⟨aV.of A,aB (j:=0) rfl,x,_,l,[],rfl,hx,T.Mf,T.GC,by decide,?_⟩;have n:W≠x:=λz=>by rw[z,hx] at A;cases A
 have D:ag H x (.ins t.ZL l (dQ "head" (.str d) [])) x=s0 t.ZL l [("head",.str d)]:=aa;have B:ag H x (.ins t.ZL l (dQ "head" (.str d) [])) W=r6 ((d::a).map V.str):=by rw[aj n];exact A
 have a1:fY H (ag H x (.ins t.ZL l (dQ "head" (.str d) []))) x:=fY.ag;generalize ag H x (.ins t.ZL l (dQ "head" (.str d) []))=H1 at D B a1;clear hx A n;refine ak (@b6 _ _ _ _ _ _ _ _ br (@afv _ (az (AA 78 0)) _ ["self","words","body","kinds"] _ _ _ ["word","kind"] _ (g2 K) _ [] _ _ _ (by walk_at "ck") (@V3 _ _ _ _ _ _ _ _ _ true rfl T.X3 (cy (bS cZ bP (bO ai) cP) dh) (by left) (by left)) (λ_ _ _ _=>by exact iK rfl (bF (pQ (i:=0) (show (["word","kind"]:a9).Nodup by lk) rfl (Or.inl rfl)) (bF (pQ (i:=1) (show (["word","kind"]:a9).Nodup by lk) rfl (Or.inl rfl)) fU))) (λ_ _ _ _=>by exact(aA cC bP aZ (aE _))) (λ_ _ _ _=>by exact br) (by left) (by left) (by left) (by left)) rfl) ⟨aV.of B,λp hp=>?_⟩;rw[ahL];refine⟨p,g,a.map V.str,ks.map V.str,rfl,aV.of aa,Y.kinds _,aeC (xs:=a.map V.str) (zs:=ks.map V.str) (λi M H2=>M=(namesW ((a.zip ks).take i)).map V.str/\af (ag H1 p (.lst (a.map V.str))) H2) ⟨by simp[namesW,acw],af.refl _⟩ hwl ?_ ?_ ?_⟩
 .rintro i M H2 ⟨rfl,s⟩;exact⟨aV.of (s _ _ aa),Y.kinds _⟩
 .rintro i u z M H2 r hu hz F hl ⟨rfl,s⟩;have J:=(d6.mp hu).1;have hj:=(d6.mp hz).1;obtain⟨y,k,rfl,rfl,N,_⟩:=aiN hu hz;have e:=afG (p:=isNm) N;refine⟨rfl,.mk<|dM (λX=>?_) λX=>?_⟩
  .rw[w4 (show isNm k=true from ab4 (V.str.inj X))] at e;refine(acg J hj (by rw[i5];exact Nat.add_le_add_right hl 1) ⟨?_,s.trans (af.ag F)⟩);rw[namesW,namesW,e,o0];rfl
  .rw[C5 (show ¬isNm k=true from λz=>X (ac7 V.str (of_decide_eq_true z))),ad2] at e;exact acg J hj (Nat.le_succ_of_le hl) ⟨by rw[namesW,namesW,e],s.trans (af.ag F)⟩
 rintro i M H2 J ⟨rfl,s⟩ f C;have O:(a.zip ks).take i=a.zip ks:=ac1 (by rw[List.length_zip];rw[d5,d5] at J;lia);rw[O] at *;have L:af H1 H2:=(af.ag hp).trans s;refine⟨x,_,l,[("head",.str d)],rfl,(L.to C) _ _ D,T.Mf,T.abx,by show 1<1000;decide,?_⟩;have n:f≠x:=λz=>by rw[z,L _ _ D] at C;cases C
 have R:ag (ag H2 f (.lst ((namesW (a.zip ks)).map V.str))) x (.ins t.ZL l (dQ "names" (.ref f) [("head",.str d)])) x=s0 t.ZL l [("head",.str d),("names",.ref f)]:=aa;have hl2:ag (ag H2 f (.lst ((namesW (a.zip ks)).map V.str))) x (.ins t.ZL l (dQ "names" (.ref f) [("head",.str d)])) W=r6 ((d::a).map V.str):=by rw[aj (λz=>by rw[z,D] at B;cases B)];exact(L.to C) _ _ B
 have S:ag (ag H2 f (.lst ((namesW (a.zip ks)).map V.str))) x (.ins t.ZL l (dQ "names" (.ref f) [("head",.str d)])) f=r6 ((namesW (a.zip ks)).map V.str):=by rw[aj n,aa]
 have a2:fY H (ag (ag H2 f (.lst ((namesW (a.zip ks)).map V.str))) x (.ins t.ZL l (dQ "names" (.ref f) [("head",.str d)]))) x:=λc o hc G=>by rw[aj G];exact(L.to C) _ _ (a1 c o hc G)
 generalize ag (ag H2 f (.lst ((namesW (a.zip ks)).map V.str))) x (.ins t.ZL l (dQ "names" (.ref f) [("head",.str d)]))=H3 at R hl2 S a2;clear L s D B a1 hp C n O J;clear i p H2 H1;refine ak (@b6 _ _ _ _ _ _ _ _ br (@afv _ (az (AA 78 0)) _ ["self","words","body","kinds"] _ _ _ ["word","kind"] _ (g2 K) _ [] _ _ _ (by walk_at "ck") (@V3 _ _ _ _ _ _ _ _ _ true rfl T.X3 (cy (bS cZ bP (bO ai) cP) dh) (by left) (by left)) (λ_ _ _ _=>by exact iK rfl (bF (pQ (i:=0) (show (["word","kind"]:a9).Nodup by lk) rfl (Or.inl rfl)) (bF (pQ (i:=1) (show (["word","kind"]:a9).Nodup by lk) rfl (Or.inl rfl)) fU))) (λ_ _ _ _=>by exact(aA tX bP aZ (aE _))) (λ_ _ _ _=>by exact(@nZ _ _ _ _ _ _ _ _ _ aal (by rfl) T.XZ (by lk) (bQ br) (by left) (by left) (by left) (by left))) (by left) (by left) (by left) (by left)) rfl) ⟨aV.of hl2,λp hp=>?_⟩;rw[ahL];refine⟨p,g,a.map V.str,ks.map V.str,rfl,aV.of aa,Y.kinds _,aeC (xs:=a.map V.str) (zs:=ks.map V.str) (λi M H2=>M=(is.take (aaY ((a.zip ks).take i)).length).map (λ(i:Nat)=>V.int i)/\af (ag H3 p (.lst (a.map V.str))) H2) ⟨by simp[aaY,acw],af.refl _⟩ hwl ?_ ?_ ?_⟩
 .rintro i M H2 ⟨rfl,s⟩;exact⟨aV.of (s _ _ aa),Y.kinds _⟩
 .rintro i u z M H2 r hu hz F hl ⟨rfl,s⟩;have J:=(d6.mp hu).1;have hj:=(d6.mp hz).1;obtain⟨y,k,rfl,rfl,N,_⟩:=aiN hu hz;have e:=afG (p:=λk=>!isNm k) N;refine⟨rfl,.mk<|mq (λX=>?_) λX=>?_⟩
  .have hk':(!isNm k)=true:=by rw[isNm,ab2 (λz=>X (ac7 V.str z))];rfl
   have ha:=auk (p:=λk=>!isNm k) N hk';rw[w4 (show (λk=>!isNm k) (y,k).2=true from hk')] at e;rw[show acw (λk=>!isNm k) (a.zip ks)=aaY (a.zip ks) from rfl,U,v3] at ha;obtain⟨j,hjj,ej⟩:=D1.mp ha;have hj4:=hlt j (p0 hjj);refine⟨(j:Int),ac7 (λz=>[V.str z]) ej.symm,by lia,by lia,?_⟩;refine acg J hj (by rw[i5];exact Nat.add_le_add_right hl 1) ⟨?_,s.trans (af.ag F)⟩;rw[aaY,aaY,e,i5,al5,List.take_succ,hjj,o0];rfl
  .rw[C5 (show ¬(!isNm k)=true by rw[isNm,ab4 (V.str.inj X)];decide),ad2] at e;exact acg J hj (Nat.le_succ_of_le hl) ⟨by rw[aaY,aaY,e],s.trans (af.ag F)⟩
 rintro i M H2 J ⟨rfl,s⟩ lm I;have O:(a.zip ks).take i=a.zip ks:=ac1 (by rw[List.length_zip];rw[d5,d5] at J;lia);have hall:is.take (aaY ((a.zip ks).take i)).length=is:=by rw[O,U,d5,ab3]
 rw[hall] at *;have L:af H3 H2:=(af.ag hp).trans s;refine⟨x,_,l,[("head",.str d),("names",.ref f)],rfl,(L.to I) _ _ R,T.Mf,T.aab,by show 2<1000;decide,?_⟩;have n:lm≠x:=λz=>by rw[z,L _ _ R] at I;cases I
 have nnx:f≠x:=λz=>by rw[z,R] at S;cases S
 refine av (b6 br cG rfl) ⟨x,_,l,[("head",.str d),("names",.ref f),("numbers",.ref lm)],rfl,aa,T.Mf,T.abM,by show 3<1000;decide,?_⟩;rw[fV];refine q _ ⟨l,f,lm,aa,?_,?_⟩ λc o hc G=>?_
 .rw[aj nnx];exact(L.to I) _ _ S
 .rw[aj n,aa]
 .rw[aj G];exact(L.to I) _ _ (a2 c o hc G)
noncomputable def tot(rs:a9):Nat:=(rs.map λr=>r.length).sum
def kY(a:Str)(b:a9):tot (a::b)=a.length+tot b:=by unfold tot;rw[ab5,am3]
theorem nQ:∀{rs:a9} {r:Str},r∈rs->r.length<=tot rs
 |a::b,r,h=>by
  rw[kY];rcases Z5.mp h with h|h
  .rw[h];lia
  .have:=nQ h;lia
def Df(rs:a9):tot rs=((Zt rs).map List.length).sum:=by unfold tot Zt;rw[ag3];exact ac7 List.sum (an5 λx _=>(bV x).symm)
def n8(s:Str):(mK s).length=s.l.count 10+1/\tot (mK s)+s.l.count 10=s.length:=by
 have a:(mK s).length=(cu s.l).length:=by unfold mK;rw[d5]
 rw[Df];unfold Zt;rw[kK,a,<- bV s];exact (lP s.l)
noncomputable def K0(p f:Nat×Nat)(m lz:Nat):Nat×Nat :=
 if p.1<f.1\/p.1=f.1/\p.2<f.2 then p else if p.1>f.1 then (p.1+m,p.2) else (f.1+m,(if m>0 then 0 else f.2)+lz+p.2-f.2)
noncomputable def oG(p f g:Nat×Nat):Nat×Nat :=
 if p.1<f.1\/p.1=f.1/\p.2<=f.2 then p else if p.1<g.1\/p.1=g.1/\p.2<=g.2 then f else if p.1>g.1 then (p.1-g.1+f.1,p.2) else (f.1,f.2+p.2-g.2)
def gK(z:Str):Nat:=(mK z).length-1
def sM(z:Str):Nat:=((cu z.l).getLastD []).length
def qt(p f:Nat×Nat)(z:Str):Nat×Nat:=K0 p f (gK z) (sM z)
noncomputable def bX(sp:List (Str×Nat×Nat))(ps:c6):List (Key×V):=List.zipWith (λx p=>((Sum.inr x.1:Key),V.ref p)) sp ps
structure Qq(H:Hp)(d:Addr)(sp:List (Str×Nat×Nat))(ps:c6):Prop where
 len:ps.length=sp.length
 ob:H d=some (.dK (bX sp ps))
 pl:bf (λp (x:Str×Nat×Nat)=>H p=t0 [aX x.2.1,aX x.2.2]) ps sp
def Qq.ae(h:Qq H d sp ps)(s:af H H'):Qq H' d sp ps:=⟨h.len,s _ _ h.ob,h.pl.mono λ_ _ e=>s _ _ e⟩
def DP(H:Hp)(d:Addr)(sp:List (Str×Nat×Nat)):Prop:=∃a,Qq H d sp a
def DP.ae(h:DP H d sp)(s:af H H'):DP H' d sp:=by obtain⟨b,a⟩:=h;exact⟨b,a.ae s⟩
noncomputable abbrev bU(sp:List (Str×Nat×Nat)):a9:=sp.map (·.1)
def dH(h:ps.length=sp.length):(bX sp ps).length=sp.length:=by unfold bX;rw[an4,h];simp
theorem nX:∀{sp:List (Str×Nat×Nat)} {ps:c6},ps.length=sp.length->(bX sp ps).map (·.1)=(bU sp).map Sum.inr
 | [],[],_=>rfl
 |x::sp,p::ps,h=>by show Sum.inr x.1::(bX sp ps).map (·.1)=_;rw[(nX (sp:=sp) (ps:=ps) (by simpa using h))];rfl
 | [],_::_,h=>by simp at h
 |_::_,[],h=>by simp at h
def zo(h1:sp[i]?=some x)(h2:ps[i]?=some p):(bX sp ps)[i]?=some (Sum.inr x.1,V.ref p):=by unfold bX;rw[List.getElem?_zipWith,h1,h2]
theorem r8:∀{sp:List (Str×Nat×Nat)} {ps:c6},n∉bU sp->fP (bX sp ps) (Sum.inr n)=none
 | [],_,_=>by unfold bX;exact ym
 |x::sp,[],_=>ym
 |x::sp,p::ps,h=>by show fP ((Sum.inr x.1,V.ref p)::bX sp ps) _=none;rw[fk (λz=>h (by rw[an9 z.symm];exact ab7 ..))];exact r8 λz=>h (Q1 _ z)
theorem kG:∀{sp:List (Str×Nat×Nat)} {ps:c6} {i:Nat} {x:Str×Nat×Nat} {p:Addr},(bU sp).Nodup->sp[i]?=some x->ps[i]?=some p->fP (bX sp ps) (Sum.inr x.1)=some (.ref p)
 | [],_,_,_,_,_,h,_=>by simp at h
 |_::_,[],_,_,_,_,_,h=>by simp at h
 |y::sp,q::ps,0,x,p,_,h1,h2=>by simp only[af6,ah5] at h1 h2;subst h1 h2;exact fK rfl
 |y::sp,q::ps,i+1,x,p,hn,h1,h2=>by simp only[ah2] at h1 h2;have hn:=ah8.mp hn;show fP ((Sum.inr y.1,V.ref q)::bX sp ps) _=_;rw[fk (λz=>hn.1 (by show y.1∈_;rw[an9 z];exact aa9.mpr ⟨x,p0 h1,rfl⟩))];exact kG hn.2 h1 h2
def rG(sp:List (Str×Nat×Nat))(n:Str)(v:Nat×Nat):List (Str×Nat×Nat):=if n∈bU sp then sp.map (λx=>if x.1=n then (n,v) else x) else sp++[(n,v)]
def IE(h:ps.length=sp.length):bX (sp++sp') (ps++ps')=bX sp ps++bX sp' ps':=by unfold bX;exact List.zipWith_append h.symm
theorem FU:∀{sp:List (Str×Nat×Nat)} {ps:c6},ps.length=sp.length->(bX sp ps).map (λkv=>if kv.1=Sum.inr n then (kv.1,V.ref p) else kv)=bX (sp.map λx=>if x.1=n then (n,v) else x) (List.zipWith (λ(x:Str×Nat×Nat) q=>if x.1=n then p else q) sp ps)
 | [],[],_=>rfl
 |x::sp,q::ps,h=>by
  show (if (Sum.inr x.1:Key)=Sum.inr n then (Sum.inr x.1,V.ref p) else (Sum.inr x.1,V.ref q))::(bX sp ps).map _=(Sum.inr (if x.1=n then (n,v) else x).1,V.ref (if x.1=n then p else q))::bX _ _;rw[(FU (n:=n) (v:=v) (p:=p) (sp:=sp) (ps:=ps) (by simpa using h))];by_cases e:x.1=n
  .rw[w4 (by rw[e]),w4 e,w4 e,e]
  .rw[C5 (λz=>e (an9 z)),C5 e,C5 e]
 | [],_::_,h=>by simp at h
 |_::_,[],h=>by simp at h
def Kd(h:Qq H d sp ps)(hp:H p=t0 [aX v.1,aX v.2]) :
  ∃ps',ps'.length=(rG sp n v).length/\putK (bX sp ps) (Sum.inr n) (.ref p)=bX (rG sp n v) ps'/\bf (λp (x:Str×Nat×Nat)=>H p=t0 [aX x.2.1,aX x.2.2]) ps' (rG sp n v):=by
 have b:((bX sp ps).any λj=>decide (j.1=Sum.inr n))=decide (n∈bU sp):=by
  rw[iC];by_cases e:n∈bU sp
  .rw[ab4 e];obtain⟨x,l,rfl⟩:=aa9.mp e;cases q:fP (bX sp ps) (Sum.inr x.1) with
   |some y=>rfl
   |none =>
    have:=HW q;rw[nX h.len] at this;exact absurd (aa9.mpr ⟨x.1,e,rfl⟩) this
  .rw[ab2 e,r8 e];rfl
 unfold putK;rw[b];unfold rG;by_cases e:n∈bU sp
 .rw[w4 (ab4 e),w4 e];refine⟨_,by rw[an4,d5,h.len];simp,FU h.len,by rw[an4,d5,h.len];simp,?_⟩
  .intro i q x a c;rw[v3] at c;obtain⟨y,f,rfl⟩:=D1.mp c;rw[List.getElem?_zipWith,f] at a;cases g2:ps[i]? with
   |none=>rw[g2] at a;cases a
   |some q' =>
    rw[g2] at a;have a:=aa1 a;by_cases g:y.1=n
    .rw[w4 g] at a ⊢;exact a▸hp
    .rw[C5 g] at a ⊢;exact a▸h.pl.2 i q' y g2 f
 .rw[C5 e,C5 (show ¬decide (n∈bU sp)=true by simp[e])];exact⟨ps++[p],by simp[h.len],(IE (sp':=[(n,v)]) (ps':=[p]) h.len).symm,bf.snoc h.pl hp⟩
noncomputable def jS(sp:List (Str×Nat×Nat))(n:Str):List (Str×Nat×Nat):=sp.filter λx=>decide (x.1≠n)
theorem xj:∀{sp:List (Str×Nat×Nat)} {ps:c6},bf (λp (x:Str×Nat×Nat)=>H p=t0 [aX x.2.1,aX x.2.2]) ps sp ->
  ∃ps',ps'.length=(jS sp n).length/\jY (bX sp ps) (Sum.inr n)=bX (jS sp n) ps'/\bf (λp (x:Str×Nat×Nat)=>H p=t0 [aX x.2.1,aX x.2.2]) ps' (jS sp n)
 | [],[],_=>⟨[],rfl,rfl,bf.nil⟩
 |x::sp,p::ps,h=>by
  obtain⟨ps',l,e,a⟩:=xj (n:=n) ⟨by simpa using h.1,λi a b c d=>h.2 (i+1) a b (by simpa using c) (by simpa using d)⟩;by_cases z:x.1=n
  .have c:jS (x::sp) n=jS sp n:=by unfold jS;rw[List.filter_cons_of_neg (by simp[z])]
   exact c▸⟨ps',l,by show jY ((Sum.inr x.1,V.ref p)::bX sp ps) _=_;rw[DX (by rw[z])];exact e,a⟩
  .have c:jS (x::sp) n=x::jS sp n:=by unfold jS;rw[List.filter_cons_of_pos (by simp[z])]
   rw[c];refine⟨p::ps',by simp[l],by show jY ((Sum.inr x.1,V.ref p)::bX sp ps) _=(Sum.inr x.1,V.ref p)::bX (jS sp n) ps';rw[D8 (λy=>z (an9 y)),e],by simp[l],?_⟩
   .intro i j o d f;cases i with
    |zero =>
     simp only[af6,ah5] at d f;subst d f;exact (h.2 0 p x rfl rfl)
    |succ i=>exact a.2 i j o (by simpa using d) (by simpa using f)
 | [],_::_,h=>by have:=h.1;simp at this
 |_::_,[],h=>by have:=h.1;simp at this
theorem yK:∀(cp acc:List (Key×V)),((acc++cp).map (·.1)).Nodup->m9 acc cp=acc++cp
 | [],acc,_=>by rw[ad2];rfl
 |kv::r,acc,h=>by
  have hn:fP acc kv.1=none:=by
   cases q:fP acc kv.1 with
   |none=>rfl
   |some y =>
    rw[o0,ab5] at h;exact absurd rfl ((af3.mp h).2.2 _ (LO q) _ (ab7 ..))
  show m9 (putK acc kv.1 kv.2) r=_;rw[yM _ hn];have:=yK r (acc++[(kv.1,kv.2)]) (by simpa using h);rw[this];simp
def uE(h:ps.length=sp.length)(hn:(bU sp).Nodup):m9 [] (bX sp ps)=bX sp ps:=by
 have:=yK (bX sp ps) [] (by rw[ao4,nX h];exact List.pairwise_map.mpr (hn.imp λh z=>h (an9 z)))
 simpa using this
noncomputable def BK(sp:List (Str×Nat×Nat))(n:Str):Nat×Nat:=((sp.find? λx=>decide (x.1=n)).map (·.2)).getD (0,0)
def yh(hn:(bU sp).Nodup)(h:sp[i]?=some x):BK sp x.1=x.2:=by
 unfold BK;induction sp generalizing i with
 |nil=>simp at h
 |cons y sp ih =>
  cases i with
  |zero =>
   simp only[af6,ah5] at h;subst h;rw[List.find?_cons_of_pos (by simp)];rfl
  |succ i =>
   simp only[ah2] at h;have hn:=ah8.mp hn;rw[List.find?_cons_of_neg (by simp only[ac4];intro z;exact hn.1 (by show y.1∈_;exact z▸aa9.mpr ⟨x,p0 h,rfl⟩))]
   exact ih hn.2 h
def dB(sp:List (Str×Nat×Nat)):List (Str×Nat×Nat):=(gy (bU sp)).map λn=>(n,BK sp n)
def pL(sp:List (Str×Nat×Nat)):bU (dB sp)=gy (bU sp):=by unfold dB;show List.map _ (List.map _ _)=_;rw[ag3];exact List.map_id' _
def Dc(hn:(bU sp).Nodup):(bU (dB sp)).Nodup:=by rw[pL];exact(gB _).nodup_iff.mpr hn
def kX(h:n∈bU sp):∃(i:Nat) (x:Str×Nat×Nat),sp[i]?=some x/\x.1=n:=by obtain⟨x,a,e⟩:=aa9.mp h;obtain⟨i,b⟩:=ab8.mp a;exact⟨i,x,b,e⟩
def Ul(a b c d:Nat):HT.lexLt [(a:Int),b] [(c:Int),d]=decide (a<c\/a=c/\b<d):=by
 simp only[HT.lexLt,HT.lex];by_cases e:(a:Int)=c
 .rw[w4 e];have g:a=c:=by lia
  by_cases f:(b:Int)=d
  .rw[w4 f];exact(ab2 (by lia)).symm
  .rw[C5 f];exact decide_eq_decide.mpr (by lia)
 .rw[C5 e];exact decide_eq_decide.mpr (by lia)
def FO(a b c d:Nat):HT.lexLe [(a:Int),b] [(c:Int),d]=decide (a<c\/a=c/\b<=d):=by
 simp only[HT.lexLe,HT.lex];by_cases e:(a:Int)=c
 .rw[w4 e];have g:a=c:=by lia
  by_cases f:(b:Int)=d
  .rw[w4 f];exact(ab4 (by lia)).symm
  .rw[C5 f];exact decide_eq_decide.mpr (by lia)
 .rw[C5 e];exact decide_eq_decide.mpr (by lia)
def VH{xs:List α}{v:α}(h:xs[xs.length-1]?=some v):oE xs (-1)=some v:=by
 have hl:=(d6.mp h).1;have e:zG xs.length (-1)=some (xs.length-1):=by unfold zG;rw[C5 (by decide)];show (if _ then _ else _)=_;rw[w4 (by lia)];congr 1;lia
 unfold oE;exact e▸h
abbrev Eh(H:Hp)(p:Addr)(v:Nat×Nat):Prop:=H p=t0 [aX v.1,aX v.2]
def GA:∃y,(mK z)[(mK z).length-1]?=some y/\y.length=sM z:=by
 have hl:=ag5.mpr (tN z);refine⟨(mK z)[(mK z).length-1]'(by omega),i4 _,?_⟩;unfold sM;have e:(cu z.l).getLastD []=((mK z)[(mK z).length-1]'(by lia)).l:=by rw[<- kK,ae7,List.getLast?_eq_getElem?,v3,d5,i4 (by lia)];rfl
 rw[e,bV]
inductive TM(vs:q7)(H:Hp)(Q:VK)(_:XK):Prop|mk(S:q0)(p f:Addr)(v w:Nat×Nat)(z:Str)(_:vs=[.ref p,.ref f,.str z])(_:Ex S H)(_:Eh (hid S H) p v)(_:Eh (hid S H) f w)(_:z.length<=1000)(_:v.1<=100000)(_:v.2<=100000)(_:w.1<=100000)(_:w.2<=100000)(_:∀p' H',Eh (hid S H') p' (qt v w z)->af H H'->Q (.ref p') H')
def Ve:bE P w K mg ap dJ 1 t.Kr t.Qc ["place","first","text"] TM:=by
 refine T.HL.ok wK λW H Q E h=>?_;obtain⟨S,p,f,v,w,z,rfl,x,g,s,X,Y,Z,b3,b4,q⟩:=h;room;have i:=aq _ _ g;have n:=aq _ _ s;have sz:=ad0;have F:bT K H p ([(v.1:Int),(v.2:Int)].map V.int):=bT.of i;have G:bT K H f ([(w.1:Int),(w.2:Int)].map V.int):=bT.of n;refine ak (bq (aA (S1 (aa6 (cS hr))) br bP (aE _)) ay ay) ⟨p,f,_,_,rfl,rfl,F,G,.mk ?_⟩;rw[Ul];refine dM (λh=>by refine av (aQ br) (q p H ?_ (af.refl H));unfold qt K0;rw[w4 h];exact g) (λh=>?_)
 .refine bg ?_;refine ak (b7 3 wK (cV ae2 ag1 aj8 kM cG (bQ aZ))) ⟨rfl,z,Str.ofString "\n",rfl,rfl,rfl,(by lia),λl hl=>?_⟩;rw[nK];have a:af H (ag H l (.lst ((mK z).map V.str))):=af.ag hl;have d:ag H l (.lst ((mK z).map V.str)) l=r6 ((mK z).map V.str):=aa;generalize ag H l (.lst ((mK z).map V.str))=H1 at a d;have I:=(n8 z).1;have J:z.l.count 10<=z.length:=by rw[<- bV];exact List.count_le_length
  refine ak (b7 4 wK (aK cQ (ez aD T.bD (bQ dh)) ai)) ⟨l,_,rfl,.inl (aV.of d),.mk ?_⟩;have L:(((mK z).map V.str).length:Int)-1=(gK z:Nat):=by unfold gK;rw[d5];lia
  show At _ _ _ [ρ p,ρ f,τ z,ρ l,some (.int ((((mK z).map V.str).length:Int)-1)),none] H1;rw[L];have hm:gK z<=1000:=by unfold gK;lia
  refine ak (bq (aA j9 (aC aO br ai) (aC aO bP ai) (aE _)) ay ay) ⟨bT.of (a _ _ i),aB (j:=0) rfl,bT.of (a _ _ n),aB (j:=0) rfl,.mk<|.mk<|?_⟩;refine dM (λo=>?_) (λo=>?_)
  .refine av (aQ (bG (cy (aK bh (aC aO br ai) eE) (aC aO br ai)))) ⟨bT.of (a _ _ i),aB (j:=0) rfl,bT.of (a _ _ i),aB (j:=1) rfl,(sL rfl),λr c=>q r _ ?_ (a.trans (af.ag c))⟩;have o:v.1>w.1:=by omega
   unfold qt K0;rw[C5 h,w4 o];exact aT aa ((x.ae a).new c)
  .have o:¬v.1>w.1:=by lia
   refine bg ?_;obtain⟨y,A,y2⟩:=GA (z:=z);have yl:y.length<=1000:=by have B:=(n8 z).2;have:=nQ (p0 A);lia
   refine aG (λk=>∀b D,b=(if gK z>0 then 0 else w.2)->D=H1->k [ρ p,ρ f,τ z,ρ l,ι (gK z:Nat),ι (b:Nat)] D) (b7 5 wK (dc (aA j9 eE ai (aE _)) ai (aC aO bP ai))) ?_ ?_
   .refine⟨.mk<|dM (λB=>λ_ m=>m 0 _ (by rw[w4 (by lia)]) rfl) (λB=>⟨bT.of (a _ _ n),aB (j:=1) rfl,λ_ m=>m w.2 _ (by rw[C5 (by lia)]) rfl⟩)⟩
   intro b D u M;subst M;have N:b<=100000:=by rw[u];split <;> omega
   have O:¬gK z>0->b=w.2:=λe=>by rw[u,C5 e]
   have R:w.2<=v.2:=by lia
   refine av (aQ (bG (cy (aK bh (aC aO bP ai) eE) (aK cQ (aK bh (aK bh gX (ez bz T.bD (bQ (aC aU dh (iQ fT ai))))) (aC aO br ai)) (aC aO bP ai))))) ⟨bT.of (a _ _ n),aB (j:=0) rfl,aV.of d,VH (by rw[d5,v3,A];rfl),_,rfl,bK (by lia),bT.of (a _ _ i),aB (j:=1) rfl,bT.of (a _ _ n),aB (j:=1) rfl,(sL rfl),λr c=>q r _ ?_ (a.trans (af.ag c))⟩;unfold qt K0;rw[C5 h,C5 o,<- u];refine aT ?_ ((x.ae a).new c);show ag _ r (.tup [.int ((w.1:Int)+(gK z:Nat)),.int ((b:Int)+(y.length:Int)+(v.2:Int)-(w.2:Int))]) r=t0 [aX (w.1+gK z),aX (b+sM z+v.2-w.2)];rw[aa];have U:((b:Int)+(y.length:Int)+(v.2:Int)-(w.2:Int))=((b+sM z+v.2-w.2:Nat):Int):=by lia
   rw[U];rfl
inductive Rj(vs:q7)(H:Hp)(Q:VK)(_:XK):Prop|mk(S:q0)(p f g:Addr)(v w u:Nat×Nat)(_:vs=[.ref p,.ref f,.ref g])(_:Ex S H)(_:Eh (hid S H) p v)(_:Eh (hid S H) f w)(_:Eh (hid S H) g u)(_:∀p' H',Eh (hid S H') p' (oG v w u)->af H H'->Q (.ref p') H')
def TV:bE P w K mg ap dJ 1 t.Kg t.P4 ["place","first","second"] Rj:=by
 refine T.J0.ok R3 λA H Q E h=>?_;obtain⟨S,p,f,g,v,w,u,rfl,s,c,d,r,q⟩:=h;room;have e:=aq _ _ c;have l:=aq _ _ d;have n:=aq _ _ r;have x:bT K H p ([(v.1:Int),(v.2:Int)].map V.int):=bT.of e;have y:bT K H f ([(w.1:Int),(w.2:Int)].map V.int):=bT.of l;have z:bT K H g ([(u.1:Int),(u.2:Int)].map V.int):=bT.of n;refine ak (bq (aA (Bo (aa6 (cS hr))) br bP (aE _)) ay ay) ⟨p,f,_,_,rfl,rfl,x,y,.mk ?_⟩;rw[FO];refine dM (λh=>by refine av (aQ br) (q p H ?_ (af.refl H));unfold oG;rw[w4 h];exact c) (λh=>bg ?_)
 refine ak (bq (aA (Bo (aa6 (cS hr))) br cG (aE _)) ay ay) ⟨p,g,_,_,rfl,rfl,x,z,.mk ?_⟩;rw[FO];refine dM (λo=>by refine av (aQ bP) (q f H ?_ (af.refl H));unfold oG;rw[C5 h,w4 o];exact d) (λo=>bg ?_)
 refine ak (bq (aA j9 (aC aO br ai) (aC aO cG ai) (aE _)) ay ay) ⟨bT.of e,aB (j:=0) rfl,bT.of n,aB (j:=0) rfl,.mk<|.mk<|dM (λi=>?_) (λi=>bg ?_)⟩
 .refine av (aQ (bG (cy (aK bh (aK cQ (aC aO br ai) (aC aO cG ai)) (aC aO bP ai)) (aC aO br ai)))) ⟨bT.of e,aB (j:=0) rfl,bT.of n,aB (j:=0) rfl,bT.of l,aB (j:=0) rfl,bT.of e,aB (j:=1) rfl,(sL rfl),λb a=>q b _ ?_ (af.ag a)⟩;have i:v.1>u.1:=by omega
  unfold oG;rw[C5 h,C5 o,w4 i];refine aT ?_ (s.new a);show ag H b (.tup [.int ((v.1:Int)-(u.1:Int)+(w.1:Int)),.int v.2]) b=t0 [aX (v.1-u.1+w.1),aX v.2];rw[aa,show ((v.1:Int)-(u.1:Int)+(w.1:Int))=((v.1-u.1+w.1:Nat):Int) by lia];rfl
 .have i:¬v.1>u.1:=by lia
  refine av (aQ (bG (cy (aC aO bP ai) (aK cQ (aK bh (aC aO bP ai) (aC aO br ai)) (aC aO cG ai))))) ⟨bT.of l,aB (j:=0) rfl,bT.of l,aB (j:=1) rfl,bT.of e,aB (j:=1) rfl,bT.of n,aB (j:=1) rfl,(sL rfl),λb a=>q b _ ?_ (af.ag a)⟩;unfold oG;rw[C5 h,C5 o,C5 i];refine aT ?_ (s.new a);show ag H b (.tup [.int w.1,.int ((w.2:Int)+(v.2:Int)-(u.2:Int))]) b=t0 [aX w.1,aX (w.2+v.2-u.2)];rw[aa,show ((w.2:Int)+(v.2:Int)-(u.2:Int))=((w.2+v.2-u.2:Nat):Int) by lia];rfl
noncomputable def df (i:Nat) (lt lv d:Addr) (b:V):List (Str×V):=[("row",.int i),("taken",.ref lt),("given",.ref lv),("places_ahead",.ref d),("places_behind",b)]
inductive K9(t:eZ)(vs:q7)(H:Hp)(Q:VK)(_:XK):Prop|mk(x dx lt lv d:Addr)(i:Nat)(_:vs=[.ref x,.int i,.ref lt,.ref lv,.ref d])(_:H x=s0 t.dw dx [])(_:Q .dj (ag H x (.ins t.dw dx (df i lt lv d .dj))))
def Sd:bE P w K mg ap dJ 1 t.GV t.Ol ["self","row","taken","given","places"] (K9 t):=by refine T.P9.ok S4 λe H Q E h=>?_;obtain⟨x,a,lt,b,d,i,rfl,c,q⟩:=h;room;refine ak (b6 br bP rfl) ⟨x,_,a,[],rfl,c,T.fW,T.oU,by decide,?_⟩;refine ak (b6 br cG rfl) ⟨x,_,a,[("row",.int i)],rfl,aa,T.fW,T.lN,by show 1<1000;decide,?_⟩;refine ak (b6 br dh rfl) ⟨x,_,a,[("row",.int i),("taken",.ref lt)],rfl,aa,T.fW,T.lE,by show 2<1000;decide,?_⟩;refine ak (b6 br eE rfl) ⟨x,_,a,[("row",.int i),("taken",.ref lt),("given",.ref b)],rfl,aa,T.fW,T.jt,by show 3<1000;decide,?_⟩;refine av (b6 br cR rfl) ⟨x,_,a,[("row",.int i),("taken",.ref lt),("given",.ref b),("places_ahead",.ref d)],rfl,aa,T.fW,T.gw,by show 4<1000;decide,?_⟩;rw[fV,fV,fV,fV];exact q
noncomputable def sf (tt d ld lu:Addr):List (Str×V):=[("tinted",.ref tt),("places",.ref d),("done",.ref ld),("undone",.ref lu)]
def wY(s:af H H')(h:H n=none):af (hid S H) (hid (λc=>S c\/c=n) H'):=λb o e=>aT (s _ _ (aq _ _ e)) (by
 rintro (z|z)
 .exact bI e z
 .exact au (aq _ _ e) h z)
def g8(hS:S n):af (hid S H) (hid S (ag H n o)):=by rw[iN hS];exact af.refl _
inductive Mm(t:eZ)(vs:q7)(H:Hp)(Q:VK)(_:XK):Prop|mk(x dx a lr:Addr)(R:q0)(ms:List aR)(rs:a9)(Gs:List bC)(_:vs=[.ref x,.ref a,.ref lr])(_:H x=s0 t.aG dx [])(_:Ex R H)(_:IsRules t (hid (λc=>R c\/c=x) H) a ms)(_:eK ms)(_:oF ms=none)(_:H lr=r6 (rs.map V.str))(_:rs.length<=100000)(_:Chain ms [0] rs Gs)(_:∀tt dt a' lg gs d ld lu H',bJ t (hid (λc=>((R c\/c=x)\/c=ld)\/c=lu) H') tt dt a' lg gs ms Gs->H' x=s0 t.aG dx (sf tt d ld lu)->DP (hid (λc=>((R c\/c=x)\/c=ld)\/c=lu) H') d []->H' ld=r6 []->H' lu=r6 []->H ld=none->ld≠lu->H lu=none->fY H H' x->Q .dj H')
def Rr:bE P w K mg ap dJ 9 t.Jw t.Pu ["self","rules","rows"] (Mm t):=by
 refine T.Q0.ok U3 λvs H Q E h=>?_;obtain⟨x,g,a,lr,R,ms,rs,Gs,rfl,W,X,hR,G,v,Y,Z,hC,q⟩:=h;room;refine ak (b6 br (fj T.Dm (VB T) hr.m rfl T.AR T.QV.b3 .nil aH (cy bP cG)) rfl) (λf U p ndt ne=>?_);have J:af H (ag (ag H U (.own f)) f (.ins t.bA U [])):=cD p ndt;refine⟨f,U,a,lr,(λc=>R c\/c=x),ms,rs,Gs,rfl,aa,(λz=>z.elim (λr=>by obtain⟨o,e⟩:=X _ r;rw[p] at e;cases e) (λz=>au W p z.symm)),(λb z=>z.elim (λr=>by obtain⟨o,e⟩:=X _ r;exact⟨o,J _ _ e⟩) (λz=>by rw[show b=x from z];exact⟨_,J _ _ W⟩)),hR.ae (wY J p),G,v,J _ _ Y,Z,hC,λa' lg gs H1 I1 f1 a1=>⟨rfl,?_⟩⟩;have s1:af H H1:=fY.fresh J p a1;clear a1 J f1;refine⟨x,_,g,[],rfl,s1 _ _ W,T.aN,T.bN,by decide,?_⟩;have y:ag H1 x (.ins t.aG g (dQ "tinted" (.ref f) [])) x=s0 t.aG g [("tinted",.ref f)]:=aa;have a2:fY H (ag H1 x (.ins t.aG g (dQ "tinted" (.ref f) []))) x:=s1.K3 fY.ag;have I2:=I1.ae (g8 (n:=x) (o:=.ins t.aG g (dQ "tinted" (.ref f) [])) (.inr rfl));generalize ag H1 x (.ins t.aG g (dQ "tinted" (.ref f) []))=H2 at y a2 I2;refine ak (b6 br kN rfl) (λd A=>⟨x,_,g,[("tinted",.ref f)],rfl,af.ag A _ _ y,T.aN,T.bH,by show 1<1000;decide,?_⟩);have B:d≠x:=λz=>by rw[z,y] at A;cases A
 have C:ag (ag H2 d (.dK [])) x (.ins t.aG g (dQ "places" (.ref d) [("tinted",.ref f)])) x=s0 t.aG g [("tinted",.ref f),("places",.ref d)]:=aa;have L:ag (ag H2 d (.dK [])) x (.ins t.aG g (dQ "places" (.ref d) [("tinted",.ref f)])) d=some (.dK []):=by rw[aj B,aa]
 have a3:fY H (ag (ag H2 d (.dK [])) x (.ins t.aG g (dQ "places" (.ref d) [("tinted",.ref f)]))) x:=λb o M u=>by rw[aj u];exact af.ag A _ _ (a2 b o M u)
 have I3:=(I2.ae (aJ (af.ag A (o:=.dK [])))).ae (g8 (n:=x) (o:=.ins t.aG g (dQ "places" (.ref d) [("tinted",.ref f)])) (.inr rfl));generalize ag (ag H2 d (.dK [])) x (.ins t.aG g (dQ "places" (.ref d) [("tinted",.ref f)]))=H3 at C L a3 I3;refine ak (b6 br (bM bu) rfl) ⟨sL rfl,λi l=>⟨x,_,g,[("tinted",.ref f),("places",.ref d)],rfl,af.ag l _ _ C,T.aN,T.fR,by show 2<1000;decide,?_⟩⟩;have D:i≠x:=λz=>by rw[z,C] at l;cases l
 have F:ag (ag H3 i (.lst [])) x (.ins t.aG g (dQ "done" (.ref i) [("tinted",.ref f),("places",.ref d)])) x=s0 t.aG g [("tinted",.ref f),("places",.ref d),("done",.ref i)]:=aa;have I:af (hid (λc=>R c\/c=x) H3) (hid (λc=>(R c\/c=x)\/c=i) (ag (ag H3 i (.lst [])) x (.ins t.aG g (dQ "done" (.ref i) [("tinted",.ref f),("places",.ref d)])))):=(wY (af.ag l) l).trans (g8 (.inl (.inr rfl)));have s:ag (ag H3 i (.lst [])) x (.ins t.aG g (dQ "done" (.ref i) [("tinted",.ref f),("places",.ref d)])) i=r6 []:=by rw[aj D,aa]
 have a4:fY H (ag (ag H3 i (.lst [])) x (.ins t.aG g (dQ "done" (.ref i) [("tinted",.ref f),("places",.ref d)]))) x:=λb o M u=>by rw[aj u];exact af.ag l _ _ (a3 b o M u)
 have I4:=I3.ae I;have N:=I _ _ (aT L (λz=>z.elim (λr=>by obtain⟨o,e⟩:=X _ r;rw[a2 _ _ e B] at A;cases A) B));have hl0:H i=none:=by
  cases e:H i with
  |none=>rfl
  |some o=>have:=a3 _ _ e D;rw[l] at this;cases this
 generalize ag (ag H3 i (.lst [])) x (.ins t.aG g (dQ "done" (.ref i) [("tinted",.ref f),("places",.ref d)]))=H4 at F s a4 I4 N;clear I;refine av (b6 br (bM bu) rfl) ⟨sL rfl,λlu j=>⟨x,_,g,[("tinted",.ref f),("places",.ref d),("done",.ref i)],rfl,af.ag j _ _ F,T.aN,T.eS,by show 3<1000;decide,?_⟩⟩;have O:lu≠x:=λz=>by rw[z,F] at j;cases j
 have S:af (hid (λc=>(R c\/c=x)\/c=i) H4) (hid (λc=>((R c\/c=x)\/c=i)\/c=lu) (ag (ag H4 lu (.lst [])) x (.ins t.aG g (sf f d i lu)))):=(wY (af.ag j) j).trans (g8 (.inl (.inl (.inr rfl))));have nlu:i≠lu:=λz=>by rw[z,j] at s;cases s
 have hu0:H lu=none:=by
  cases e:H lu with
  |none=>rfl
  |some o=>have:=a4 _ _ e O;rw[j] at this;cases this
 exact q f U a' lg gs d i lu _ (I4.ae S) aa ⟨[],rfl,S _ _ N,bf.nil⟩ (by show ag _ _ _ _=_;rw[aj D];exact af.ag j _ _ s) (by show ag _ _ _ _=_;rw[aj O,aa]) hl0 nlu hu0 (λb o M u=>by show ag _ _ _ _=_;rw[aj u];exact af.ag j _ _ (a4 b o M u))
inductive LX(t:eZ)(vs:q7)(H:Hp)(Q:VK)(_:XK):Prop|mk(x dx tt d ld lu:Addr)(_:vs=[.ref x])(_:H x=s0 t.aG dx (sf tt d ld lu))(_:Q (.ref tt) H)
def RN:bE P w K mg ap dJ 1 t.JZ t.Nd ["self"] (LX t):=by refine T.OR.ok SI λb H Q E h=>?_;obtain⟨x,c,e,d,f,g,rfl,a,q⟩:=h;room;exact av (aQ (aM br rfl)) (⟨a,T.aN,T.bN,rfl,q⟩)
inductive IV(t:eZ)(vs:q7)(H:Hp)(Q:VK)(_:XK):Prop|mk(x dx tt d ld lu:Addr)(sp:List (Str×Nat×Nat))(_:vs=[.ref x])(_:H x=s0 t.aG dx (sf tt d ld lu))(_:DP H d sp)(_:(bU sp).Nodup)(_:sp.length<64)(_:∀d' H',DP H' d' (dB sp)->H d'=none->af H H'->Q (.ref d') H')
def sC(hx:sp[i]?=some x)(hl:pp.length=i):bX (sp.take (i+1)) (pp++[p])=bX (sp.take i) pp++[(Sum.inr x.1,V.ref p)]:=by have a:=(d6.mp hx).1;rw[ae1 hx,IE (by rw[v6,hl];lia)];rfl
def KU:bE P w K mg ap dJ 1 t.Gw t.Q2 ["self"] (IV t):=by
 refine T.Ho.ok U1 λvs H Q E h=>?_;obtain⟨x,dx,tt,d,ld,lu,a,rfl,Y,⟨ps,A⟩,S,U,q⟩:=h;room;have B:(dB a).length=a.length:=by unfold dB;rw[d5,(gB _).length_eq,d5]
 have C:(gy (bU a)).length=a.length:=by rw[(gB _).length_eq,d5]
 refine av (aQ (nZ (pA rfl) (by rfl) T.qN (by lk) (bQ (iM (sc:=az (AA 68 3)) (N:=["self"]) (x:="name") (caps:=[("self",0)]) (by walk_at "ck") (fF (sY (@qm _ rfl) (by rfl) T.yW (by lk) (bQ (aM br rfl)) (by left) (by left) (by left) (by left))) (λ_ _ _ _=>(bG (ao bP (ao (pV (cS hr) (@kc _ K _ _ _ _ br rfl (by left)) bP (λ_ _=>rfl)) bu (by left)) (by left)))))) (by left) (by left) (by left) (by left))) (⟨Y,T.aN,T.bH,rfl,⟨d,_,bU a,rfl,A.ob,nX A.len,by rw[d5];exact U,λl hl=>⟨l,rfl,⟨_,aV.of aa⟩,?_⟩⟩⟩);have M:af H (ag H l (.lst ((gy (bU a)).map V.str))):=af.ag hl;have F:ag H l (.lst ((gy (bU a)).map V.str)) l=r6 ((gy (bU a)).map V.str):=aa;generalize ag H l (.lst ((gy (bU a)).map V.str))=H1 at M F;refine ie (xs:=(gy (bU a)).map V.str) (λi N z=>∃s f,N=s.map V.ref/\f.length=i/\bf (λq Z=>z q=t0 [kV Z.1,Z.2]) s (bX ((dB a).take i) f)/\bf (λp (y:Str×Nat×Nat)=>z p=t0 [aX y.2.1,aX y.2.2]) f ((dB a).take i)/\af H1 z) ⟨[],[],rfl,rfl,bf.nil,bf.nil,af.refl H1⟩ (cL (by rw[d5];lia)) (by rintro i N z _ ⟨s,f,_,_,_,_,u⟩;exact aV.of (u _ _ F)) ?_ (by rintro N z I ⟨s,f,rfl,b,g,r,u⟩ D W;rw[d5,C,<- B,ab3] at g r;rw[d5,C,<- B] at b;refine⟨D,s,bX (dB a) f,rfl,aa,(g.mono λ_ _ e=>af.ag W _ _ e),by rw[dH b];lia,λd' L=>?_⟩;rw[uE b (Dc S)];have s3:=(af.ag W (o:=.lst (s.map V.ref))).trans (af.ag L (o:=.dK (bX (dB a) f)));exact q d' _ ⟨f,b,aa,r.mono λ_ _ e=>s3 _ _ e⟩ ((M.trans (u.trans (af.ag W))).free L) (M.trans (u.trans s3)))
 .rintro i xv N z G I ⟨s,f,rfl,b,g,r,u⟩;rw[v3] at G;obtain⟨n,v,rfl⟩:=D1.mp G;have J:(dB a)[i]?=some (n,BK a n):=by unfold dB;rw[v3,v];rfl
  obtain⟨j,y,O,rfl⟩:=kX ((gB _).mem_iff.mp (p0 v));obtain⟨pj,ep⟩:∃pj,ps[j]?=some pj:=⟨_,i4 (A.len▸((d6.mp O).1))⟩
  have c:=M.trans u;have hg:=om.k (k:=Sum.inr y.1) (c _ _ A.ob);rw[kG S O ep] at hg;refine⟨c _ _ Y,T.aN,T.bH,rfl,d,_,rfl,hg,sL rfl,λp R=>fQ (by rw[d5];exact ((d6.mp v).1)) I ⟨s++[p],f++[pj],by rw[o0];rfl,by rw[i5,b];rfl,by rw[sC J b];exact bf.snoc (g.mono λ_ _ e=>af.ag R _ _ e) aa,by rw[ae1 J];refine bf.snoc (r.mono λ_ _ e=>af.ag R _ _ e) ?_;have:=A.pl.2 j _ _ ep O;rw[yh S O];exact af.ag R _ _ (c _ _ this),u.trans (af.ag R)⟩⟩
inductive VL(t:eZ)(vs:q7)(H:Hp)(Q:VK)(_:XK):Prop|mk(S:q0)(x dx tt d ld lu dt a lg:Addr)(gs:c6)(ms:List aR)(Gs:List bC)(G:bC)(sp:List (Str×Nat×Nat))(n:Str)(i j:Nat)(_:vs=[.ref x,.str n,.int i,.int j])(_:S x)(_:Ex S H)(_:H x=s0 t.aG dx (sf tt d ld lu))(_:isName n=true)(_:bJ t (hid S H) tt dt a lg gs ms Gs)(_:Gs[i]?=some G)(_:j<=G.bb.length)(_:G.bb.length<=1000)(_:DP (hid S H) d sp)(_:sp.length<64)(_:∀d' H',H' x=s0 t.aG dx (sf tt d' ld lu)->DP (hid S H') d' (rG sp n (i,j))->fY H H' x->Q .dj H')
def Wb:bE P w K mg ap dJ 4 t.Jj t.OD ["self","name","row","at"] (VL t):=by
 refine T.NW.ok HP λvs H Q E h=>?_;obtain⟨S,x,dx,W,d,ld,lu,X,a,lg,gs,ms,Gs,G,f,n,i,j,rfl,hSx,Y,F,J,I,hG,hj,hl,⟨ps,Z⟩,h64,q⟩:=h;room;have sz:=ad0;have nl:n.length<=8:=by unfold isName at J;simp only[ad4,ac4] at J;exact J.1.2
 refine ak (bq (g9 (gR (aS (Iq T) hr.m rfl T.JK T.zd.kp T.zd.b1 .nil aH (bQ bP)))) ay ay) ⟨n,rfl,by lia,λL s=>?_⟩;rw[J];refine⟨mH (bg ?_)⟩;have I1:=(I.ae (aJ s)).ae aq;refine ak (aY (bw (aM br rfl) T.aL T.t9 (xh T) hr.m T.pK.b3 .nil aH (cy cG dh))) (⟨(s _ _ F),T.aN,T.bN,rfl,⟨I1.ob,rfl,W,X,a,lg,gs,ms,Gs,G,i,j,rfl,I1,hG,hj,hl,?_⟩⟩);have u:=Z.ae (aJ s);refine ak (b7 4 HP (pO o5 T.qN (bQ (aM br rfl)))) (⟨(s _ _ F),T.aN,T.bH,rfl,⟨d,_,rfl,aq _ _ u.ob,λd' v=>?_⟩⟩);have N:af L (ag L d' (.dK (bX f ps))):=af.ag v;have M:ag L d' (.dK (bX f ps)) d'=some (.dK (bX f ps)):=aa;generalize ag L d' (.dK (bX f ps))=H2 at N M;refine ak (pS (cS hr) eE bP (bG (cy cG dh)) rfl) ⟨sL rfl,λp g=>⟨d',_,rfl,xA.k (k:=Sum.inr n) (af.ag g _ _ M) (by rw[dH Z.len];lia),?_⟩⟩;have l:=s.trans N;have O:=Y.ae l;have c:H d'=none:=s.free v;have R:¬S p:=O.new g;have A:d'≠x:=λz=>by rw[z,F] at c;cases c
 have U:Eh (hid S (ag H2 p (.tup [aX i,aX j]))) p (i,j):=aT aa R;have D2:Qq (hid S (ag H2 p (.tup [aX i,aX j]))) d f ps:=(u.ae (aJ N)).ae (aJ (af.ag g));obtain⟨B,l',k',a'⟩:=Kd (n:=n) D2 U;rw[k'];have r:=af.ag g (o:=.tup [aX i,aX j]) _ _ (l _ _ F);have C:af H (ag H2 p (.tup [aX i,aX j])):=l.trans (af.ag g);have D:ag H2 p (.tup [aX i,aX j]) d'=some (.dK (bX f ps)):=af.ag g _ _ M;show At _ _ _ _ (ag (ag H2 p (.tup [aX i,aX j])) d' (.dK (bX (rG f n (i,j)) B)));generalize ag H2 p (.tup [aX i,aX j])=H3 at a' r C D;refine av (b6 br eE rfl) ⟨x,_,dx,_,rfl,(by rw[aj (aa4 A)];exact r),T.aN,T.bH,by show 4<1000;decide,?_⟩;refine q d' _ aa ⟨B,l',aT (by rw[aj A,aa]) (Y.new c),a'.mono λb y e=>aT (by have e:=aq _ _ e;rw[aj (bL e r),aj (bL e D)];exact e) (bI e)⟩ λb o hb nb=>by rw[aj nb,aj (au hb c)];exact C _ _ hb
inductive Lc(t:eZ)(vs:q7)(H:Hp)(Q:VK)(_:XK):Prop|mk(S:q0)(x dx tt d ld lu:Addr)(sp:List (Str×Nat×Nat))(n:Str)(_:vs=[.ref x,.str n])(_:S x)(_:Ex S H)(_:H x=s0 t.aG dx (sf tt d ld lu))(_:n∈bU sp)(_:(bU sp).Nodup)(_:DP (hid S H) d sp)(_:∀d' H',H' x=s0 t.aG dx (sf tt d' ld lu)->DP (hid S H') d' (jS sp n)->fY H H' x->Q .dj H')
def UG:bE P w K mg ap dJ 1 t.Hv t.Pe ["self","name"] (Lc t):=by
 refine T.M8.ok Er λW H Q E h=>?_;obtain⟨S,x,A,X,d,Y,Z,p,n,rfl,F,G,c,I,s,⟨f,u⟩,q⟩:=h;room;obtain⟨j,y,B,rfl⟩:=kX I;obtain⟨pj,L⟩:∃pj,f[j]?=some pj:=⟨_,i4 (u.len▸((d6.mp B).1))⟩
 have C:=kG s B L;have g:=aq _ _ u.ob;refine ak (bq (Al (vo (cS hr) bP (aM br rfl))) ay ay) ⟨c,T.aN,T.bH,rfl,d,_,rfl,om.k (k:=Sum.inr y.1) g,.mk ?_⟩;rw[C];refine mH (bg ?_);refine ak (b7 2 Er (pO o5 T.qN (bQ (aM br rfl)))) (⟨c,T.aN,T.bH,rfl,⟨d,_,rfl,g,λd' a=>?_⟩⟩);have i:af H (ag H d' (.dK (bX p f))):=af.ag a;have r:ag H d' (.dK (bX p f)) d'=some (.dK (bX p f)):=aa;generalize ag H d' (.dK (bX p f))=H2 at i r;refine ak (aY (xR cG bP ⟨rfl,rfl,rfl,rfl⟩)) ⟨d',rfl,.inl ⟨_,.inl r⟩,_,Sum.inr y.1,_,r,rfl,C,?_⟩;have l:d'≠x:=λz=>by rw[z,c] at a;cases a
 obtain⟨v,N,O,R⟩:=xj (n:=y.1) (u.ae (aJ i)).pl;rw[O];refine av (b6 br cG rfl) ⟨x,_,A,_,rfl,(by rw[aj (aa4 l)];exact i _ _ c),T.aN,T.bH,by show 4<1000;decide,?_⟩;refine q d' _ aa ⟨v,N,aT (by rw[aj l,aa]) (G.new a),R.mono λb z e=>aT (by have e:=aq _ _ e;rw[aj (bL e (i _ _ c)),aj (bL e r)];exact e) (bI e)⟩ λb o D U=>by rw[aj U,aj (au D a)];exact i _ _ D
inductive Tv(t:eZ)(vs:q7)(H:Hp)(Q:VK)(_:XK):Prop|mk(S:q0)(x dx tt d ld lu dt a lg lt:Addr)(gs:c6)(ms:List aR)(Gs:List bC)(ds:q7)(i:Nat)(m:Int)(_:vs=[.ref x,.int i,.ref lt,.int m])(_:S x)(_:S ld)(_:Ex S H)(_:H x=s0 t.aG dx (sf tt d ld lu))(_:bJ t (hid S H) tt dt a lg gs ms Gs)(_:Gs.length<=100000)(_:H ld=r6 ds)(_:ds.length<=100000)(_:∀dd mE lv lu' H',H' x=s0 t.aG dx (sf tt d ld lu')->H' ld=r6 (ds++[.ref dd])->H' lu'=r6 []->H' dd=s0 t.dw mE (df i lt lv d .dj)->H' lv=r6 (b9 ((Gs.map (·.bb)).map V.str) (some (i:Int)) (some ((i:Int)+m)))->H dd=none->H lv=none->H lu'=none->lu'≠lv->(∀b o,H b=some o->b≠x->b≠ld->H' b=some o)->Q .dj H')
def Jf:bE P w K mg ap dJ 3 t.Fd t.P5 ["self","row","taken","many"] (Tv t):=by
 refine T.IZ.ok F9 λvs H Q E h=>?_;obtain⟨S,x,O,R,d,ld,lu,dt,a,lg,lt,gs,ms,G,W,i,m,rfl,hSx,hSl,hE,y,I,X,A,hdl,q⟩:=h;room;have I0:=I.ae aq;refine ak (b7 4 F9 (bS cZ (bR (aM br rfl) T.aL T.rE (mP T) hr.m T.pM.b1 .nil aH) (bO bP) (bO (aK bh bP dh)))) (⟨y,T.aN,T.bN,rfl,⟨I0.ob,rfl,R,dt,a,lg,gs,ms,G,rfl,I0,X,λl1 Y h1 f1 s1=>?_⟩⟩);refine⟨aV.of h1,λg J=>?_⟩;have B:ag Y g (.lst (b9 ((G.map (·.bb)).map V.str) (some (i:Int)) (some ((i:Int)+m)))) g=r6 (b9 ((G.map (·.bb)).map V.str) (some (i:Int)) (some ((i:Int)+m))):=aa;have C:af H (ag Y g (.lst (b9 ((G.map (·.bb)).map V.str) (some (i:Int)) (some ((i:Int)+m))))):=s1.trans (af.ag J);have c:H g=none:=s1.free J;generalize ag Y g (.lst (b9 ((G.map (·.bb)).map V.str) (some (i:Int)) (some ((i:Int)+m))))=H2 at B C;have p:=C _ _ A;refine ak (aY (cV Z4 aa0 aa3 bW (aM br rfl) (bQ (fj T.MG (Sd T) hr.m rfl T.Fz T.P9.b5 .nil aH (ao bP (ao cG (cy eE (aM br rfl)))))))) (⟨(C _ _ y),T.aN,T.fR,rfl,⟨.inl ⟨rfl,_,aV.of p⟩,C _ _ y,T.aN,T.bH,rfl,λj u v L ne=>⟨j,u,lt,g,d,i,rfl,aa,rfl,?_⟩⟩⟩);rw[fV];have F:af H2 (ag (ag H2 u (.own j)) j (.ins t.dw u (df i lt g d .dj))):=cD v L;have r:ag (ag H2 u (.own j)) j (.ins t.dw u (df i lt g d .dj)) j=s0 t.dw u (df i lt g d .dj):=aa;generalize ag (ag H2 u (.own j)) j (.ins t.dw u (df i lt g d .dj))=H3 at F r;have D:=C.trans F;refine⟨F _ _ p,cL (by lia),?_⟩;have M:ld≠x:=bL A y;have N:ag H3 ld (.lst (W++[.ref j])) x=s0 t.aG O (sf R d ld lu):=by rw[aj (aa4 M)];exact D _ _ y
 refine av (b6 br (bM bu) rfl) ⟨sL rfl,λl f=>⟨x,_,O,_,rfl,af.ag f _ _ N,T.aN,T.eS,by show 4<1000;decide,?_⟩⟩;have Z:l≠x:=λz=>by rw[z,N] at f;cases f
 have nul:l≠ld:=λz=>by rw[z,aa] at f;cases f
 have s:H3 l=none:=by rw[aj nul] at f;exact f
 have U:∀{b o},ag H3 ld (.lst (W++[.ref j])) b=some o->b≠x->ag (ag (ag H3 ld (.lst (W++[.ref j]))) l (.lst [])) x (.ins t.aG O (dQ "undone" (.ref l) (sf R d ld lu))) b=some o:=λ{b o} e n=>by rw[aj n];exact af.ag f _ _ e
 have n1:j≠x:=λz=>by rw[z,C _ _ y] at v;cases v
 have n2:g≠ld:=λz=>by rw[z,A] at c;cases c
 have n3:g≠x:=λz=>by rw[z,y] at c;cases c
 exact q j u g l _ aa (U aa M) (by rw[aj Z,aa]) (U (by rw[aj (bL r (F _ _ p))];exact r) n1) (U (by rw[aj n2];exact F _ _ B) n3) (C.free v) c (D.free s) (λz=>by rw[z,F _ _ B] at s;cases s) (λb o hb n1 n2=>U (by rw[aj n2];exact D _ _ hb) n1)
structure SDone(t:eZ)(S:q0)(H H':Hp)(x dx tt dt a ld:Addr)(ms:List aR)(Gs Gs':List bC)(ds:q7)(sp':List (Str×Nat×Nat))(d:Addr)(i:Nat)(taken given:q7):Prop where
 ex:∃d' lu dd mE lt lv lg gs,H' x=s0 t.aG dx (sf tt d' ld lu)/\bJ t (hid (λc=>(S c\/c=dd)\/c=lu) H') tt dt a lg gs ms Gs'/\DP (hid (λc=>(S c\/c=dd)\/c=lu) H') d' sp'/\H' lu=r6 []/\H' ld=r6 (ds++[.ref dd])/\H' dd=s0 t.dw mE (df i lt lv d .dj)/\H' lt=r6 taken/\H' lv=r6 given/\H d'=none/\H dd=none/\H lt=none/\H lv=none/\H lu=none/\lt≠lu/\lv≠lu
 keep:∀b o,H b=some o->b≠x->b≠tt->b≠ld->H' b=some o
inductive UN(t:eZ)(vs:q7)(H:Hp)(Q:VK)(_:XK):Prop|mk(S:q0)(x dx tt d ld lu dt a lg:Addr)(gs:c6)(ms:List aR)(Gs:List bC)(G:bC)(sp:List (Str×Nat×Nat))(ds:q7)(i j:Nat)(z:Str)(fs:a9)(ah bk:Nat)(Gm:List bC)(c:Nat)(Gs':List bC)(_:vs=[.ref x,.int i,.int j,.str z])(_:S x)(_:S ld)(_:Ex S H)(_:H x=s0 t.aG dx (sf tt d ld lu))(_:bJ t (hid S H) tt dt a lg gs ms Gs)(_:DP (hid S H) d sp)(_:(bU sp).Nodup)(_:sp.length<64)(_:(∀y∈sp,y.2.1<=100000/\y.2.2<=100000))(_:H ld=r6 ds)(_:ds.length<=100000)(_:eK ms)(_:Gs[i]?=some G)(_:j<=G.bb.length)(_:G.bb.length<=1000)(_:z.length<=1000)(_:Txt.split (lM G.bb j z) (Str.ofString "\n")=fs)(_:Gs.length<=50000)(_:Gs'.length<=100000)(_:fs.length<=50000)(_:fs≠[])(_:iL ms Gs i 1 fs ah bk Gm c Gs')(_:∀H',SDone t S H H' x dx tt dt a ld ms Gs Gs' ds (sp.map λy=>(y.1,qt y.2 (i,j) z)) d i (b9 ((Gs.map (·.bb)).map V.str) (some (i:Int)) (some ((i:Int)+1))) (b9 ((Gs'.map (·.bb)).map V.str) (some (i:Int)) (some ((i:Int)+((JV z (Str.ofString "\n"):Int)+1))))->Q (.int ((Gm.length+c:Nat):Int)) H')
def ir(sp:List (Str×Nat×Nat))(f:Str×Nat×Nat->Nat×Nat):bU (sp.map λy=>(y.1,f y))=bU sp:=by show List.map _ (List.map _ _)=_;rw[ag3];rfl
def uX(h:H1 d=some (.dK cp))(s:af (ag H1 d (.mC o (.dK cp))) H2):af H1 (ag H2 d (.dK cp)):=λb u e=>by
 by_cases z:b=d
 .rw[z,h] at e;cases e;rw[z,aa]
 .rw[aj z];exact s _ _ (by rw[aj z];exact e)
def Cc(h:H1 d=some (.dK cp))(e:hid S H1 p=t0 xs):hid S (ag H1 d (.mC o (.dK cp))) p=t0 xs :=
 aT (by rw[aj (bL (aq _ _ e) h)];exact aq _ _ e) (bI e)
def IP(h:Ex S H1):Ex S (ag H1 d u):=λb z=>by
 by_cases e:b=d
 .exact⟨u,by rw[e,aa]⟩
 .obtain⟨o,a⟩:=h b z;exact⟨o,by rw[aj e];exact a⟩
def Vs:bE P w K mg ap dJ 10 t.BD t.JF ["self","row","at","text"] (UN t):=by
 refine T.yy.ok qR λvs H Q E h=>?_;obtain⟨S,x,dx,tt,d,ld,lu,dt,a,lg,gs,ms,Gs,G,s,ds,i,j,z,fs,ah,bk,Gm,c,Gs',rfl,M,hSl,hE,hx,I,⟨ps,N⟩,hn,h64,hb,hld,hdl,GM_,hG,hj,hl,hz,hfs,hl1,hl1',hl2,hne,C,q⟩:=h;room;have I0:=I.ae aq;have hi:i<=50000:=by have:=(d6.mp hG).1;lia
 refine ak (b7 4 qR (bR (aM br rfl) T.aL T.rE (mP T) hr.m T.pM.b1 .nil aH)) (⟨hx,T.aN,T.bN,rfl,⟨I0.ob,rfl,tt,dt,a,lg,gs,ms,Gs,rfl,I0,by lia,λla H1 h1 f1 s1=>?_⟩⟩);have I1:=I.ae (aJ s1);refine ak (b7 5 qR (bw (aM br rfl) T.aL T.NK (RG T) hr.m T.CG.b4 .nil aH (ao bP (cy cG dh)))) (⟨(s1 _ _ hx),T.aN,T.bN,rfl,⟨aq _ _ I1.ob,rfl,S,tt,dt,a,lg,gs,ms,Gs,G,i,j,z,fs,ah,bk,Gm,c,Gs',rfl,hE.ae s1,I1,GM_,hG,hj,hl,hz,hfs,hl1,hl2,hne,C,λlg' gs' H2 I2 f2 a2=>?_⟩⟩);have htt:=aq _ _ I.ob;have nS:¬S tt:=bI I.ob;have k2:∀{b o},H b=some o->b≠tt->H2 b=some o:=λ{b o} e n=>a2 b o (s1 _ _ e) n;have hx2:=k2 hx (λy=>nS (y▸M));have hld2:=k2 hld (λy=>nS (y▸hSl));have hla2:=a2 _ _ h1 (bL h1 (s1 _ _ htt));have hE2:Ex S H2:=λb y=>let ⟨o,ho⟩:=hE b y;⟨o,k2 ho (λe=>nS (e▸y))⟩;have hd2:Qq (hid S H2) d s ps:=by refine⟨N.len,aT (k2 (aq _ _ N.ob) (bL (aq _ _ N.ob) htt)) (bI N.ob),N.pl.mono λp y e=>aT (k2 (aq _ _ e) (bL (aq _ _ e) htt)) (bI e)⟩
 have O:∀{b},H2 b=none->b≠tt->H b=none:=λ{b} e n=>by
  cases g:H b with
  |none=>rfl
  |some o=>rw[k2 g n] at e;cases e
 have tt2:=aq _ _ I2.ob;refine ak (aY (bw br T.aN T.Ph (Jf T) hr.m T.IZ.b4 .nil aH (ao bP (cy (bS cZ eE (bO bP) (bO (aK bh bP ai))) (aK bh (cV ae2 F.slot_str_count F.type_str_count JB dh (bQ aZ)) ai))))) ⟨hx2,rfl,aV.of hla2,λlt flt=>⟨rfl,z,Str.ofString "\n",rfl,rfl,.mk ?_⟩⟩;have A:af H2 (ag H2 lt (.lst (b9 ((Gs.map (·.bb)).map V.str) (some (i:Int)) (some ((i:Int)+1))))):=af.ag flt;have v:ag H2 lt (.lst (b9 ((Gs.map (·.bb)).map V.str) (some (i:Int)) (some ((i:Int)+1)))) lt=r6 (b9 ((Gs.map (·.bb)).map V.str) (some (i:Int)) (some ((i:Int)+1))):=aa;generalize ag H2 lt (.lst (b9 ((Gs.map (·.bb)).map V.str) (some (i:Int)) (some ((i:Int)+1))))=H3 at A v;have R:H lt=none:=O flt (λy=>by rw[y,tt2] at flt;cases flt);refine⟨S,x,dx,tt,d,ld,lu,dt,a,lg',lt,gs',ms,Gs',ds,i,_,rfl,M,hSl,hE2.ae A,A _ _ hx2,I2.ae (aJ A),hl1',A _ _ hld2,hdl,λdd mE lv lu' H4 Y e2 e3 e4 e5 e6 e7 e9 e10 e8=>?_⟩;have s34:∀{b o},H2 b=some o->b≠x->b≠ld->H4 b=some o:=λ{b o} e n1 n2=>e8 b o (A _ _ e) n1 n2;have sh:af (hid S H2) (hid S H4):=λb o e=>aT (s34 (aq _ _ e) (λy=>bI e (y▸M)) (λy=>bI e (y▸hSl))) (bI e);have sh2:af (hid S H2) (hid (λc=>(S c\/c=dd)\/c=lu') H4):=λb o e=>aT (aq _ _ (sh _ _ e)) (by
  have e0:=A _ _ (aq _ _ e);rintro ((y|y)|y)
  .exact bI e y
  .rw[y,e6] at e0;cases e0
  .rw[y,e9] at e0;cases e0)
 have I4':=I2.ae sh2;have CI:lt≠lu':=λy=>by rw[y,e9] at v;cases v
 have hd4:=hd2.ae sh;have hE4:Ex S H4:=λb y=>by
  by_cases z1:b=x
  .exact⟨_,z1▸Y⟩
  .by_cases z2:b=ld
   .exact⟨_,z2▸e2⟩
   .obtain⟨o,ho⟩:=hE2 b y;exact⟨o,s34 ho z1 z2⟩
 have U:H4 lt=r6 (b9 ((Gs.map (·.bb)).map V.str) (some (i:Int)) (some ((i:Int)+1))):=e8 _ _ v (bL v (A _ _ hx2)) (λy=>by rw[y,hld] at R;cases R);have J:=aq _ _ hd4.ob;have fdd:H dd=none:=O (A.free e6) (λy=>by rw[y,A _ _ tt2] at e6;cases e6);have flu:H lu'=none:=O (A.free e9) (λy=>by rw[y,A _ _ tt2] at e9;cases e9);have flv:H lv=none:=O (A.free e7) (λy=>by rw[y,A _ _ tt2] at e7;cases e7);have k4:∀b o,H b=some o->b≠x->b≠tt->b≠ld->H4 b=some o:=λb o e n1 n2 n3=>s34 (k2 e n2) n1 n3;have tt4:=aq _ _ (I2.ae sh).ob;clear s34 sh sh2 e8 e6 e7 e9 A v I2 hd2 hE2 O I1 I0 hla2 hx2 hld2;refine ak (b6 br (nZ (pA rfl) (by rfl) T.qN (by lk) (bQ (Ca (@iM _ (az (AA 68 6)) _ ["self","row","at","text","ahead","count"] _ _ ("name") _ _ [("text",3),("row",1),("at",2),("self",0)] _ _ (by walk_at "ck") (rQ (aM br rfl)) (λ_ _ _ _=>by exact(bG (ao eE (ao (aS (Ve T) hr.m rfl T.Rl T.HL.kp T.HL.b3 .nil aH (ao (pV (cS hr) (@kc _ K _ _ _ _ dh rfl (by left)) eE (λ_ _=>rfl)) (ao (bG (ao bP (ao cG bu (by left)) (by left))) (ao br bu (by left)) (by left)) (by left)) (by left) (by left) (by left)) bu (by left)) (by left)))) (by left) (by left) (by left) (by left)))) (by left) (by left) (by left) (by left)) rfl) (⟨Y,T.aN,T.bH,rfl,⟨d,_,rfl,J,λo nf=>?_⟩⟩);have hsl:(s.map λy=>(y.1,qt y.2 (i,j) z)).length=s.length:=d5 ..;refine vW (λk ys H5=>∃Z L,ys=Z.map V.ref/\L.length=k/\bf (λq kv=>H5 q=t0 [kV kv.1,kv.2]) Z (bX ((s.map λy=>(y.1,qt y.2 (i,j) z)).take k) L)/\bf (λp (y:Str×Nat×Nat)=>hid S H5 p=t0 [aX y.2.1,aX y.2.2]) L ((s.map λy=>(y.1,qt y.2 (i,j) z)).take k)/\af (ag H4 d (.mC o (.dK (bX s ps)))) H5) ⟨[],[],rfl,rfl,bf.nil,bf.nil,af.refl _⟩ (cL (by rw[dH N.len];lia)) (by rintro k ys H5 _ ⟨Z,L,_,_,_,_,s5⟩;exact s5 _ _ aa) ?_ ?_
 .rintro k kv ys H5 hkv hyl ⟨Z,L,rfl,B,W,hp5,s5⟩;have hk:k<s.length:=by rw[<- dH N.len];exact(d6.mp hkv).1
  have hy:s[k]?=some s[k]:=i4 hk;obtain⟨pk,ep⟩:∃pk,ps[k]?=some pk:=⟨_,i4 (N.len▸hk)⟩
  generalize s[k]=y at hy;rw[zo hy ep] at hkv;cases hkv;have hyk:(s.map λy=>(y.1,qt y.2 (i,j) z))[k]?=some (y.1,qt y.2 (i,j) z):=by rw[v3,hy];rfl
  obtain⟨y1,y2⟩:=hb y (p0 hy);have hE5:Ex S H5:=(IP hE4).ae s5;have hpk:=(aJ s5) _ _ (Cc (o:=o) J (hd4.pl.2 k _ _ ep hy));refine⟨s5 _ _ (by rw[aj (bL Y J)];exact Y),T.aN,T.bH,rfl,d,_,rfl,.inl ⟨_,Sum.inr y.1,.inr ⟨o,s5 _ _ aa⟩,rfl,(kG hn hy ep).symm⟩,sL rfl,λf hf=>⟨S,pk,f,y.2,(i,j),z,rfl,hE5.ae (af.ag hf),(aJ (af.ag hf)) _ _ hpk,aT aa (hE5.new hf),hz,y1,y2,(by show i<=_;lia),(by show j<=_;lia),λp' H6 hp' s6=>⟨sL rfl,λr hr'=>fQ (by rw[dH N.len];exact hk) hyl ⟨Z++[r],L++[p'],by rw[o0];rfl,by rw[i5,B];rfl,by rw[sC hyk B];exact bf.snoc (W.mono λ_ _ e=>af.ag hr' _ _ (s6 _ _ (af.ag hf _ _ e))) aa,by rw[ae1 hyk];exact bf.snoc (hp5.mono λ_ _ e=>(aJ ((af.ag hf).trans (s6.trans (af.ag hr')))) _ _ e) ((aJ (af.ag hr')) _ _ hp'),s5.trans ((af.ag hf).trans (s6.trans (af.ag hr')))⟩⟩⟩⟩
 .rintro ys H5 hyl ⟨Z,L,rfl,B,W,hp5,s5⟩ D hD;rw[dH N.len,<- hsl,ab3] at W hp5;rw[dH N.len,<- hsl] at B;have hnd:(bU (s.map λy=>(y.1,qt y.2 (i,j) z))).Nodup:=by rw[ir];exact hn
  have hd5:H5 d=some (.mC o (.dK (bX s ps))):=s5 _ _ aa;have ndD:d≠D:=au hd5 hD;refine⟨d,o,_,by rw[aj ndD];exact hd5,nf,D,Z,bX (s.map λy=>(y.1,qt y.2 (i,j) z)) L,rfl,by rw[aj (aa4 ndD),aa],⟨W.1,λk b kv g1 g2=>by have e:=W.2 k b kv g1 g2;rw[aj (bL e hd5)];exact af.ag hD _ _ e⟩,by rw[dH B,hsl];lia,λd' hd'=>?_⟩
  rw[uE B hnd];have s6:af H4 (ag (ag H5 D (.lst (Z.map V.ref))) d (.dK (bX s ps))):=uX J (s5.trans (af.ag hD));have hpp:bf (λp (y:Str×Nat×Nat)=>hid S (ag (ag H5 D (.lst (Z.map V.ref))) d (.dK (bX s ps))) p=t0 [aX y.2.1,aX y.2.2]) L (s.map λy=>(y.1,qt y.2 (i,j) z)):=hp5.mono λp y e=>aT (by rw[aj (bL (aq _ _ e) hd5)];exact af.ag hD _ _ (aq _ _ e)) (bI e);generalize ag (ag H5 D (.lst (Z.map V.ref))) d (.dK (bX s ps))=H6 at s6 hpp hd';have s7:af H6 (ag H6 d' (.dK (bX (s.map λy=>(y.1,qt y.2 (i,j) z)) L))):=af.ag hd';have hd7:ag H6 d' (.dK (bX (s.map λy=>(y.1,qt y.2 (i,j) z)) L)) d'=some (.dK (bX (s.map λy=>(y.1,qt y.2 (i,j) z)) L)):=aa;have l:H4 d'=none:=s6.free hd';generalize ag H6 d' (.dK (bX (s.map λy=>(y.1,qt y.2 (i,j) z)) L))=H7 at s7 hd7;have X:=s6.trans s7;refine⟨x,_,dx,_,rfl,X _ _ Y,T.aN,T.bH,by show 4<1000;decide,?_⟩;have ndx:d'≠x:=λy=>by rw[y,Y] at l;cases l
  have ku:∀{b u},H4 b=some u->b≠x->ag H7 x (.ins t.aG dx (dQ "places" (.ref d') (sf tt d ld lu'))) b=some u:=λ{b u} e n=>by rw[aj n];exact X _ _ e
  have su2:af (hid (λc=>(S c\/c=dd)\/c=lu') H7) (hid (λc=>(S c\/c=dd)\/c=lu') (ag H7 x (.ins t.aG dx (dQ "places" (.ref d') (sf tt d ld lu'))))):=g8 (.inl (.inl M));have more:∀{b:Addr} {o:HO},hid S H7 b=some o->(∀C y fs,o ≠ .ins C y fs)->(∀ys,o ≠ .lst ys)->hid (λc=>(S c\/c=dd)\/c=lu') H7 b=some o:=λ{b o} h n1 n2=>aT (aq _ _ h) (by
   have h:=aq _ _ h;rintro ((y|y)|y)
   .exact bI (by assumption) y
   .rw[y,(X _ _ e4)] at h;exact n1 _ _ _ (aa1 h).symm
   .rw[y,(X _ _ e3)] at h;exact n2 _ (aa1 h).symm)
  refine av (aQ gX) (q _ ⟨⟨d',lu',dd,mE,lt,lv,lg',gs',aa,(I4'.ae (aJ X)).ae su2,⟨L,B,su2 _ _ (more (aT hd7 (hE4.new l)) (λ_ _ _ z=>by cases z) (λ_ z=>by cases z)),hpp.mono λp y e=>su2 _ _ (more ((aJ s7) _ _ e) (λ_ _ _ z=>by cases z) (λ_ z=>by cases z))⟩,ku e3 (λy=>by rw[y,Y] at e3;cases e3),ku e2 (λy=>by rw[y,Y] at e2;cases e2),ku e4 (λy=>by rw[y,hx] at fdd;cases fdd),ku U (λy=>by rw[y,Y] at U;cases U),ku e5 (λy=>by rw[y,Y] at e5;cases e5),?_,fdd,R,flv,flu,CI,aa4 e10⟩,λb u e n1 n2 n3=>ku (k4 b u e n1 n2 n3) n1⟩)
  .cases g:H d' with
   |none=>rfl
   |some u =>
    have:=k4 d' u g ndx (λy=>by rw[y,tt4] at l;cases l) (λy=>by rw[y,e2] at l;cases l);rw[l] at this;cases this
def uq(hx:H x=s0 C dx ((k,v)::r))(hy:H y=s0 C' dy ((k',v')::r'))(h:k≠k'):x≠y:=λz=>by rw[z,hy] at hx;cases hx;exact h rfl
inductive wF(t:eZ)(vs:q7)(H:Hp)(Q:VK)(_:XK):Prop|mk(S:q0)(x dx tt d ld lu dt a lg dd mE lt lv da:Addr)(b:V)(gs:c6)(ms:List aR)(Gs:List bC)(ds us:q7)(i:Nat)(fs gv:a9)(ah bk:Nat)(Gm:List bC)(c:Nat)(Gs':List bC)(_:vs=[.ref x])(_:S x)(_:S ld)(_:S lu)(_:S dd)(_:ld≠lu)(_:Ex S H)(_:H x=s0 t.aG dx (sf tt d ld lu))(_:bJ t (hid S H) tt dt a lg gs ms Gs)(_:H ld=r6 (ds++[.ref dd]))(_:H lu=r6 us)(_:us.length<=100000)(_:H dd=s0 t.dw mE (df i lt lv da b))(_:H lt=r6 (fs.map V.str))(_:lt≠ld)(_:lt≠lu)(_:H lv=r6 (gv.map V.str))(_:lv≠ld)(_:lv≠lu)(_:eK ms)(_:Gs.length<=50000)(_:fs.length<=50000)(_:gv.length<=50000)(_:fs≠[])(_:iL ms Gs i gv.length fs ah bk Gm c Gs')(_:∀lg' gs' H',bJ t (hid S H') tt dt a lg' gs' ms Gs'->H' x=s0 t.aG dx (sf tt da ld lu)->H' ld=r6 ds->H' lu=r6 (us++[.ref dd])->H' dd=s0 t.dw mE (df i lt lv da (.ref d))->(∀b o,H b=some o->b≠x->b≠ld->b≠lu->b≠dd->b≠tt->H' b=some o)->Q (.int ((Gm.length+c:Nat):Int)) H')
def UZ:bE P w K mg ap dJ 9 t.BX t.Fo ["self"] (wF t):=by
 refine T.BQ.ok AH λvs H Q E h=>?_;obtain⟨S,x,s,tt,d,ld,lu,dt,a,lg,dd,u,lt,v,g,b,gs,ms,Gs,B,us,i,fs,gv,ah,bk,Gm,c,Gs',rfl,C,D,F,G,J,hE,r,I,j,A,hul,f,l,nt1,nt2,p,nv1,nv2,hM,hG,hf,hgv,hne,hC,q⟩:=h;room;have L:x≠dd:=uq r f (by decide);have M:x≠ld:=λz=>by rw[z,j] at r;cases r
 have N:x≠lu:=λz=>by rw[z,A] at r;cases r
 have O:dd≠ld:=λz=>by rw[z,j] at f;cases f
 have R:dd≠lu:=λz=>by rw[z,A] at f;cases f
 have nS:¬S tt:=bI I.ob;refine aG (λk=>∀U,U=H->k [ρ x,none] U) (bq (g9 (gc (aM br rfl) (λ_=>rfl))) ay ay) (⟨r,T.aN,T.fR,rfl,⟨_,.inl ⟨_,aV.of j,rfl⟩,by rw[show (B++[V.ref dd]).isEmpty=false by simp];exact mH (bg (λ_ C1=>C1 _ rfl))⟩⟩) ?_
 intro U e;rw[e];clear e U;refine ak (b7 1 AH (qD Z4 aj1 al1 qJ (aM br rfl))) (⟨r,T.aN,T.fR,rfl,⟨.inl ⟨rfl,_,aV.of j⟩,j,show _=some (V.ref dd) by simp,?_⟩⟩);rw[List.dropLast_concat];have Y:fY H (ag H ld (.lst B)) ld:=fY.ag;have l1:ag H ld (.lst B) ld=r6 B:=aa;have I1:=I.ae (g8 (n:=ld) (o:=.lst B) D);generalize ag H ld (.lst B)=H1 at *;have x1:=Y _ _ r M;have u1:=Y _ _ A (aa4 J);have d1:=Y _ _ f O;refine ak (aY (cV Z4 aa0 aa3 bW (aM br rfl) (bQ bP))) (⟨x1,T.aN,T.eS,rfl,⟨.inl ⟨rfl,_,aV.of u1⟩,u1,cL (by lia),?_⟩⟩);have Z:fY H1 (ag H1 lu (.lst (us++[.ref dd]))) lu:=fY.ag;have u2:ag H1 lu (.lst (us++[.ref dd])) lu=r6 (us++[.ref dd]):=aa;have I2:=I1.ae (g8 (n:=lu) (o:=.lst (us++[.ref dd])) F);generalize ag H1 lu (.lst (us++[.ref dd]))=H2 at *;have x2:=Z _ _ x1 N;have l2:=Z _ _ l1 J;have d2:=Z _ _ d1 R;refine ak (b6 bP (aM br rfl) rfl) (⟨x2,T.aN,T.bH,rfl,⟨dd,_,u,_,rfl,d2,T.fW,T.gw,by show 5<1000;decide,?_⟩⟩);have k3:fY H2 (ag H2 dd (.ins t.dw u (df i lt v g (.ref d)))) dd:=fY.ag;have d3:ag H2 dd (.ins t.dw u (df i lt v g (.ref d))) dd=s0 t.dw u (df i lt v g (.ref d)):=aa;have I3:=I2.ae (g8 (n:=dd) (o:=.ins t.dw u (df i lt v g (.ref d))) G);show At _ _ _ _ (ag H2 dd (.ins t.dw u (df i lt v g (.ref d))));generalize ag H2 dd (.ins t.dw u (df i lt v g (.ref d)))=H3 at *;refine ak (b6 br (aM bP rfl) rfl) (⟨d3,T.fW,T.jt,rfl,⟨x,_,s,_,rfl,k3 _ _ x2 L,T.aN,T.bH,by show 4<1000;decide,?_⟩⟩);have k4:fY H3 (ag H3 x (.ins t.aG s (sf tt g ld lu))) x:=fY.ag;have x4:ag H3 x (.ins t.aG s (sf tt g ld lu)) x=s0 t.aG s (sf tt g ld lu):=aa;have I4:=I3.ae (g8 (n:=x) (o:=.ins t.aG s (sf tt g ld lu)) C);show At _ _ _ _ (ag H3 x (.ins t.aG s (sf tt g ld lu)));generalize ag H3 x (.ins t.aG s (sf tt g ld lu))=H4 at *;have kk:∀b o,H b=some o->b≠x->b≠ld->b≠lu->b≠dd->H4 b=some o:=λb o e n1 n2 n3 n4=>k4 _ _ (k3 _ _ (Z _ _ (Y _ _ e n2) n3) n4) n1;have W:=k4 _ _ d3 (aa4 L);have l4:=k4 _ _ (k3 _ _ l2 (aa4 O)) (aa4 M);have u4:=k4 _ _ (k3 _ _ u2 (aa4 R)) (aa4 N);have v4:=kk _ _ p (λz=>by rw[z,r] at p;cases p) nv1 nv2 (λz=>by rw[z,f] at p;cases p);have hE4:Ex S H4:=λb y=>by
  by_cases z1:b=x
  .exact⟨_,z1▸x4⟩
  .by_cases z2:b=ld
   .exact⟨_,z2▸l4⟩
   .by_cases z3:b=lu
    .exact⟨_,z3▸u4⟩
    .by_cases z4:b=dd
     .exact⟨_,z4▸W⟩
     .obtain⟨o,ho⟩:=hE b y;exact⟨o,kk _ _ ho z1 z2 z3 z4⟩
 have hob:=aq _ _ I4.ob;refine av (aQ (bw (aM br rfl) T.aL T.Bw (xK T) hr.m T.zx.b4 .nil aH (ao (aM bP rfl) (cy (ez aD T.bD (bQ (aM bP rfl))) (aM bP rfl))))) (⟨x4,T.aN,T.bN,rfl,⟨hob,rfl,⟨W,T.fW,T.oU,rfl,(⟨W,T.fW,T.lE,rfl,⟨v,_,rfl,.inl (aV.of v4),⟨W,T.fW,T.lN,rfl,⟨S,tt,dt,a,lg,lt,gs,ms,Gs,i,gv.length,fs,ah,bk,Gm,c,Gs',by rw[d5];rfl,hE4,I4,hM,kk _ _ l (λz=>by rw[z,r] at l;cases l) nt1 nt2 (λz=>by rw[z,f] at l;cases l),hG,hf,λ_=>hne,hC,λlg' gs' U I' _ X=>?_⟩⟩⟩⟩)⟩⟩⟩);have nt:∀{b},S b->b≠tt:=λy z=>nS (z ▸ y);exact q lg' gs' U I' (X _ _ x4 (nt C)) (X _ _ l4 (nt D)) (X _ _ u4 (nt F)) (X _ _ W (nt G)) λb o e n1 n2 n3 n4 n5=>X _ _ (kk b o e n1 n2 n3 n4) n5
inductive wI(t:eZ)(vs:q7)(H:Hp)(Q:VK)(_:XK):Prop|mk(S:q0)(x dx tt d ld lu dt a lg dd mE lt lv da db:Addr)(gs:c6)(ms:List aR)(Gs:List bC)(ds us:q7)(i:Nat)(fs gv:a9)(ah bk:Nat)(Gm:List bC)(c:Nat)(Gs':List bC)(_:vs=[.ref x])(_:S x)(_:S ld)(_:S lu)(_:ld≠lu)(_:Ex S H)(_:H x=s0 t.aG dx (sf tt d ld lu))(_:bJ t (hid S H) tt dt a lg gs ms Gs)(_:H ld=r6 ds)(_:H lu=r6 (us++[.ref dd]))(_:ds.length<=100000)(_:H dd=s0 t.dw mE (df i lt lv da (.ref db)))(_:H lt=r6 (fs.map V.str))(_:lt≠ld)(_:lt≠lu)(_:H lv=r6 (gv.map V.str))(_:lv≠ld)(_:lv≠lu)(_:eK ms)(_:Gs.length<=50000)(_:fs.length<=50000)(_:gv.length<=50000)(_:gv≠[])(_:iL ms Gs i fs.length gv ah bk Gm c Gs')(_:∀lg' gs' H',bJ t (hid S H') tt dt a lg' gs' ms Gs'->H' x=s0 t.aG dx (sf tt db ld lu)->H' ld=r6 (ds++[.ref dd])->H' lu=r6 us->(∀b o,H b=some o->b≠x->b≠ld->b≠lu->b≠tt->H' b=some o)->Q (.int ((Gm.length+c:Nat):Int)) H')
def VC:bE P w K mg ap dJ 9 t.Cd t.IU ["self"] (wI t):=by
 refine T.Cg.ok Av λvs H Q E h=>?_;obtain⟨S,x,l,tt,d,ld,lu,dt,a,lg,dd,mE,lt,lv,da,u,gs,ms,Gs,v,us,i,fs,gv,ah,bk,Gm,c,U,rfl,A,B,C,D,hE,j,I,p,g,hdl,f,r,W,X,s,Y,Z,hM,hG,hf,hgv,hne,hC,q⟩:=h;room;have nxd:x≠dd:=uq j f (by decide);have F:x≠ld:=λz=>by rw[z,p] at j;cases j
 have G:x≠lu:=λz=>by rw[z,g] at j;cases j
 have ndl:dd≠ld:=λz=>by rw[z,p] at f;cases f
 have ndu:dd≠lu:=λz=>by rw[z,g] at f;cases f
 refine aG (λk=>∀J,J=H->k [ρ x,none] J) (bq (g9 (gc (aM br rfl) (λ_=>rfl))) ay ay) (⟨j,T.aN,T.eS,rfl,⟨_,.inl ⟨_,aV.of g,rfl⟩,by rw[show (us++[V.ref dd]).isEmpty=false by simp];exact mH (bg (λ_ C1=>C1 _ rfl))⟩⟩) ?_
 intro J e;rw[e];clear e J;refine ak (b7 1 Av (qD Z4 aj1 al1 qJ (aM br rfl))) (⟨j,T.aN,T.eS,rfl,⟨.inl ⟨rfl,_,aV.of g⟩,g,show _=some (V.ref dd) by simp,?_⟩⟩);rw[List.dropLast_concat];have L:fY H (ag H lu (.lst us)) lu:=fY.ag;have u1:ag H lu (.lst us) lu=r6 us:=aa;have I1:=I.ae (g8 (n:=lu) (o:=.lst us) C);generalize ag H lu (.lst us)=H1 at *;have x1:=L _ _ j G;have l1:=L _ _ p D;have d1:=L _ _ f ndu;refine ak (aY (cV Z4 aa0 aa3 bW (aM br rfl) (bQ bP))) (⟨x1,T.aN,T.fR,rfl,⟨.inl ⟨rfl,_,aV.of l1⟩,l1,cL (by lia),?_⟩⟩);have M:fY H1 (ag H1 ld (.lst (v++[.ref dd]))) ld:=fY.ag;have l2:ag H1 ld (.lst (v++[.ref dd])) ld=r6 (v++[.ref dd]):=aa;have I2:=I1.ae (g8 (n:=ld) (o:=.lst (v++[.ref dd])) B);generalize ag H1 ld (.lst (v++[.ref dd]))=H2 at *;have x2:=M _ _ x1 F;have u2:=M _ _ u1 (aa4 D);have d2:=M _ _ d1 ndl;refine ak (b6 br (aM bP rfl) rfl) (⟨d2,T.fW,T.gw,rfl,⟨x,_,l,_,rfl,x2,T.aN,T.bH,by show 4<1000;decide,?_⟩⟩);have N:fY H2 (ag H2 x (.ins t.aG l (sf tt u ld lu))) x:=fY.ag;have x4:ag H2 x (.ins t.aG l (sf tt u ld lu)) x=s0 t.aG l (sf tt u ld lu):=aa;have I4:=I2.ae (g8 (n:=x) (o:=.ins t.aG l (sf tt u ld lu)) A);show At _ _ _ _ (ag H2 x (.ins t.aG l (sf tt u ld lu)));generalize ag H2 x (.ins t.aG l (sf tt u ld lu))=H4 at *;have O:∀b o,H b=some o->b≠x->b≠ld->b≠lu->H4 b=some o:=λb o e n1 n2 n3=>N _ _ (M _ _ (L _ _ e n3) n2) n1;have d4:=N _ _ d2 (aa4 nxd);have l4:=N _ _ l2 (aa4 F);have u4:=N _ _ u2 (aa4 G);have t4:=O _ _ r (λz=>by rw[z,j] at r;cases r) W X;have v4:=O _ _ s (λz=>by rw[z,j] at s;cases s) Y Z;have hE4:Ex S H4:=λb y=>by
  by_cases z1:b=x
  .exact⟨_,z1▸x4⟩
  .by_cases z2:b=ld
   .exact⟨_,z2▸l4⟩
   .by_cases z3:b=lu
    .exact⟨_,z3▸u4⟩
    .obtain⟨o,ho⟩:=hE b y;exact⟨o,O _ _ ho z1 z2 z3⟩
 have hob:=aq _ _ I4.ob;refine av (aQ (bw (aM br rfl) T.aL T.Bw (xK T) hr.m T.zx.b4 .nil aH (ao (aM bP rfl) (cy (ez aD T.bD (bQ (aM bP rfl))) (aM bP rfl))))) (⟨x4,T.aN,T.bN,rfl,⟨hob,rfl,⟨d4,T.fW,T.oU,rfl,(⟨d4,T.fW,T.lN,rfl,⟨lt,_,rfl,.inl (aV.of t4),⟨d4,T.fW,T.lE,rfl,⟨S,tt,dt,a,lg,lv,gs,ms,Gs,i,fs.length,gv,ah,bk,Gm,c,U,by rw[d5];rfl,hE4,I4,hM,v4,hG,hgv,λ_=>hne,hC,λlg' gs' J I' _ R=>?_⟩⟩⟩⟩)⟩⟩⟩);have nt:∀{b},S b->b≠tt:=λy z=>(bI I.ob) (z ▸ y);exact q lg' gs' J I' (R _ _ x4 (nt A)) (R _ _ l4 (nt B)) (R _ _ u4 (nt C)) λb o e n1 n2 n3 n5=>R _ _ (O b o e n1 n2 n3) n5
def Np(t:eZ)(E:XK)(H:Hp):Prop:=∀e a,H e=none->a e=some (jQ e t.cK none)->af H a->E (.ref t.cK) (some e) a
def Np.ae(h:Np t E H)(s:af H H1):Np t E H1:=λe a b c d=>h e a (s.free b) c (s.trans d)
abbrev w5(i:Int):Prop:=i.natAbs.log2<1000
def xG{i:Int}(h:w5 i):(Str.ofString (toString i)).length<=1001:=by rw[ofString_length];exact int_text_length_le (by decide) h
def Kv(Gs:List bC)(i:Int):Prop:=0<=i/\i<Gs.length
noncomputable def xw(Gs:List bC)(i:Int):Nat:=match Gs[i.toNat]? with
 |some G=>G.bb.length
 |none=>0
def uO(Gs:List bC)(i j:Int):Prop:=Kv Gs i/\0<=j/\j<=xw Gs i
inductive DU(t:eZ)(vs:q7)(H:Hp)(Q:VK)(E:XK):Prop|mk(x dx a lg:Addr)(gs:c6)(ms:List aR)(Gs:List bC)(i:Int)(_:vs=[.ref x,.int i])(_:bJ t H x dx a lg gs ms Gs)(_:w5 i)(_:(Kv Gs i->Q .dj H))(_:(¬Kv Gs i->Np t E H))
def pB:bE P w K mg ap (qX P w) 2 t.Bh t.JT ["self","row"] (DU t):=by
 refine T.zf.Ma Kn (λn H Q E h=>by obtain⟨x,p,a,r,u,v,y,i,rfl,_⟩:=h;rfl) (λo A d s H n Q E hr h=>?_)
 .obtain⟨x,p,a,r,u,v,y,i,rfl,I,B,q,g⟩:=h;have hl:=I.go.1;have sz:=ad0;have j:=xG B;have l:(Str.ofString "there is no row ").length=16:=by lk
  have c:(Str.empty++Str.ofString "there is no row " ++ Str.ofString (toString i)).length<=sizeLine:=by rw[ac5,T0];lia
  refine av (bq (PW.pt (jz (aA fX bP ai (aE _)) (jk (aA xS bP (ez aD T.bD (bQ (aM br rfl))) (aE _))))) ay ay) ⟨.mk<|dM (λh=>by refine av (iT T.jG rfl T.iu (bQ (rZ (qE (qS bP w6))))) ⟨(by rw[ac5];exact ac2 (ap0 l) (by lia)),_,.inr ⟨i,rfl,(by lia),rfl⟩,c,c,sL rfl,λe b=>g (λz=>by have:=z.1;lia) e _ b aa (af.ag b)⟩) (λh=>?_)⟩
  .refine(⟨I.ob,T.aL,T.aW,rfl,⟨_,_,rfl,.inl (aV.of I.lg),.mk<|.mk<|dM (λf=>by refine av (iT T.jG rfl T.iu (bQ (rZ (qE (qS bP w6))))) ⟨(by rw[ac5];exact ac2 (ap0 l) (by lia)),_,.inr ⟨i,rfl,(by lia),rfl⟩,c,c,sL rfl,λe b=>g (λz=>by have:=z.2;rw[d5] at f;lia) e _ b aa (af.ag b)⟩) (λf=>by rw[d5] at f;exact bg (q ⟨by lia,by lia⟩))⟩⟩)
inductive za(t:eZ)(vs:q7)(H:Hp)(Q:VK)(E:XK):Prop|mk(x dx a lg:Addr)(gs:c6)(ms:List aR)(Gs:List bC)(i j:Int)(_:vs=[.ref x,.int i,.int j])(_:bJ t H x dx a lg gs ms Gs)(_:(∀G∈Gs,G.bb.length<=1000))(_:w5 i)(_:w5 j)(_:(uO Gs i j->Q .dj H))(_:(¬uO Gs i j->Np t E H))
def gx:bE P w K mg ap (qX P w) 3 t.B8 t.IB ["self","row","at"] (za t):=by
 refine T.pK.Ma Jq (λC H Q E h=>by obtain⟨x,o,a,v,y,B,c,i,j,rfl,_⟩:=h;rfl) (λD A n s H C Q E hr h=>?_)
 .obtain⟨x,o,a,v,y,B,c,i,j,rfl,I,F,d,p,q,r⟩:=h;have sz:=ad0;refine ak (aY (bw br T.aL T.Jz (pB T) hr.m T.zf.b2 .nil tD (bQ bP))) ⟨I.ob,rfl,x,o,a,v,y,B,c,i,rfl,I,d,λb=>?_,λJ=>r (λz=>J z.1)⟩;obtain⟨k,rfl⟩:∃k:Nat,i=k:=⟨i.toNat,by have:=b.1;lia⟩
  have L:k<c.length:=by have:=b.2;lia
  obtain⟨G,u⟩:∃G,c[k]?=some G:=⟨c[k],i4 L⟩
  obtain⟨g,M,N,S,lt,U,W,e⟩:=I.go.at u;have f:xw c (k:Int)=G.bb.length:=by unfold xw;rw[ab9,u]
  have O:=F G (p0 u);have X:=xG d;have Y:=xG p;have Z:(Str.ofString "there is no place ").length=18:=by lk
  have w2:(Str.ofString " in row ").length=8:=by lk
  refine av (bq (PW.pt (jz (aA fX cG ai (aE _)) (jk (aA j9 cG (ez bz T.bD (bQ (aM (aC aU (aM br rfl) bP) rfl))) (aE _))))) ay ay) ⟨.mk<|dM (λh=>?_) (λh=>?_)⟩
  .exact av (iT T.jG rfl T.iu (bQ (rZ (qE (qS cG (qE (qS bP w6))))))) ⟨(by simp only[ac5,T0];lia),_,.inr ⟨j,rfl,(by lia),rfl⟩,(by simp only[ac5,T0];lia),(by simp only[ac5,T0];lia),_,.inr ⟨(k:Int),rfl,(by lia),rfl⟩,(by simp only[ac5,T0];lia),(by simp only[ac5,T0];lia),sL rfl,λe l=>r (λz=>by have:=z.2.1;lia) e _ l aa (af.ag l)⟩
  .refine(⟨I.ob,T.aL,T.aW,rfl,⟨aV.of I.lg,cM M,e.ob,T.cB,T.cU,rfl,_,rfl,bK (by lia),.mk<|.mk<|dM (λR=>?_) (λR=>bg (q ⟨b,by lia,by rw[f];lia⟩))⟩⟩);exact av (iT T.jG rfl T.iu (bQ (rZ (qE (qS cG (qE (qS bP w6))))))) ⟨(by simp only[ac5,T0];lia),_,.inr ⟨j,rfl,(by lia),rfl⟩,(by simp only[ac5,T0];lia),(by simp only[ac5,T0];lia),_,.inr ⟨(k:Int),rfl,(by lia),rfl⟩,(by simp only[ac5,T0];lia),(by simp only[ac5,T0];lia),sL rfl,λe l=>r (λz=>by have:=z.2.2;rw[f] at this;lia) e _ l aa (af.ag l)⟩
inductive tR(t:eZ)(vs:q7)(H:Hp)(Q:VK)(E:XK):Prop|mk(x dx a lg:Addr)(gs:c6)(ms:List aR)(Gs:List bC)(i j i2 j2:Int)(_:vs=[.ref x,.int i,.int j,.int i2,.int j2])(_:bJ t H x dx a lg gs ms Gs)(_:(∀G∈Gs,G.bb.length<=1000))(_:w5 i)(_:w5 j)(_:w5 i2)(_:w5 j2)(_:(uO Gs i j->uO Gs i2 j2->HT.gY [i,j] [i2,j2]=true))(_:Np t E H)
def mF:bE P w K mg ap (qX P w) 4 t.B5 t.IY ["self","row","at","row2","at2"] (tR t):=by
 refine T.BG.Ma Il (λz H Q E h=>by obtain⟨x,b,a,g,l,n,p,i,j,c,d,rfl,_⟩:=h;rfl) (λB A f s H z Q E hr h=>by obtain⟨x,b,a,g,l,n,p,i,j,c,d,rfl,I,u,C,D,F,G,q,r⟩:=h;refine ak (aY (bw br T.aL T.t9 (gx T) hr.m T.pK.b3 .nil tD (cy bP cG))) ⟨I.ob,rfl,x,b,a,g,l,n,p,i,j,rfl,I,u,C,D,λJ=>?_,λ_=>r⟩;refine ak (aY (bw br T.aL T.t9 (gx T) hr.m T.pK.b3 .nil tD (cy dh eE))) ⟨I.ob,rfl,x,b,a,g,l,n,p,c,d,rfl,I,u,F,G,λL=>?_,λ_=>r⟩;refine av (bq (aA (nN (aa6 (cS hr))) (bG (cy bP cG)) (bG (cy dh eE)) (aE _)) ay ay) ⟨sL rfl,λM N=>⟨sL rfl,λO v=>⟨M,O,[i,j],[c,d],rfl,rfl,bT.of (af.ag v _ _ aa),bT.of aa,.mk ?_⟩⟩⟩;rw[q J L];refine zA (av (iT T.jG rfl T.iu (bQ aZ)) ⟨sL rfl,λe y=>?_⟩);have R:=(af.ag (o:=.tup [.int i,.int j]) N).trans (af.ag (o:=.tup [.int c,.int d]) v);exact(r.ae R) e _ y aa (af.ag y))
def uC:bE P w K mg ap (qX P w) 5 t.Ce t.El ["self","row","at","row2","at2"] (tR t):=by
 refine T.BP.Ma AZ (λp H Q E h=>by obtain⟨x,c,a,e,f,g,l,i,j,n,o,rfl,_⟩:=h;rfl) (λq A b s H p Q E hr h=>by obtain⟨x,c,a,e,f,g,l,i,j,n,o,rfl,I,r,u,v,y,z,d,B⟩:=h;exact ak (aY (bw br T.aL T.PB (mF T) hr.m T.BG.b5 .nil tD (ao bP (ao cG (cy dh eE))))) ⟨I.ob,rfl,x,c,a,e,f,g,l,i,j,n,o,rfl,I,r,u,v,y,z,d,B⟩)
inductive Mg(t:eZ)(vs:q7)(H:Hp)(Q:VK)(E:XK):Prop|mk(x dx a lg:Addr)(gs:c6)(ms:List aR)(Gs:List bC)(i j:Int)(z:Str)(_:vs=[.ref x,.int i,.int j,.str z])(_:bJ t H x dx a lg gs ms Gs)(_:(∀G∈Gs,G.bb.length<=1000))(_:w5 i)(_:w5 j)(_:¬uO Gs i j)(_:Np t E H)
def tP:bE P w K mg ap (qX P w) 4 t.Bt t.HG ["self","row","at","text"] (Mg t):=by
 refine T.CG.Ma AM (λl H Q E h=>by obtain⟨x,c,a,d,e,f,g,i,j,z,rfl,_⟩:=h;rfl) (λn A b s H l Q E hr h=>by obtain⟨x,c,a,d,e,f,g,i,j,z,rfl,I,o,p,q,r,u⟩:=h;exact ak (aY (bw br T.aL T.t9 (gx T) hr.m T.pK.b3 .nil tD (cy bP cG))) ⟨I.ob,rfl,x,c,a,d,e,f,g,i,j,rfl,I,o,p,q,λv=>absurd v r,λ_=>u⟩)
def Rz(C:Addr)(E:XK)(H:Hp):Prop:=∀e a,H e=none->a e=some (jQ e C none)->af H a->E (.ref C) (some e) a
def Rz.ae(h:Rz C E H)(s:af H H1):Rz C E H1:=λe a b c d=>h e a (s.free b) c (s.trans d)
inductive GK(t:eZ)(vs:q7)(H:Hp)(Q:VK)(E:XK):Prop|mk(x dx tt d ld lu dt a lg:Addr)(gs:c6)(ms:List aR)(Gs:List bC)(i j:Int)(z:Str)(_:vs=[.ref x,.int i,.int j,.str z])(_:H x=s0 t.aG dx (sf tt d ld lu))(_:bJ t H tt dt a lg gs ms Gs)(_:Gs.length<=100000)(_:(∀G∈Gs,G.bb.length<=1000))(_:w5 i)(_:w5 j)(_:¬uO Gs i j)(_:Rz t.cK E H)
def mV:bE P w K mg ap (qX P w) 10 t.BD t.JF ["self","row","at","text"] (GK t):=by
 refine T.yy.Ma qR (λr H Q E h=>by obtain⟨x,v,b,d,y,B,c,a,f,g,l,n,i,j,z,rfl,_⟩:=h;rfl) (λu A e s H r Q E hr h=>by obtain⟨x,v,b,d,y,B,c,a,f,g,l,n,i,j,z,rfl,p,I,hl,C,D,F,G,J⟩:=h;refine ak (b7 4 qR (bR (aM br rfl) T.aL T.rE (mP T) hr.m T.pM.b1 .nil aH)) (⟨p,T.aN,T.bN,rfl,⟨I.ob,rfl,b,c,a,f,g,l,n,rfl,I,hl,λL M N O o=>?_⟩⟩);have q:=I.ae o;exact ak (b7 5 qR (bw (aM br rfl) T.aL T.NK (tP T) hr.m T.CG.b4 .nil tD (ao bP (cy cG dh)))) (⟨(o _ _ p),T.aN,T.bN,rfl,⟨q.ob,rfl,b,c,a,f,g,l,n,i,j,z,rfl,q,C,D,F,G,J.ae o⟩⟩))
inductive GS(t:eZ)(vs:q7)(H:Hp)(Q:VK)(E:XK):Prop|mk(x dx tt d ld lu dt a lg:Addr)(gs:c6)(ms:List aR)(Gs:List bC)(i j i2 j2:Int)(_:vs=[.ref x,.int i,.int j,.int i2,.int j2])(_:H x=s0 t.aG dx (sf tt d ld lu))(_:bJ t H tt dt a lg gs ms Gs)(_:Gs.length<=100000)(_:(∀G∈Gs,G.bb.length<=1000))(_:w5 i)(_:w5 j)(_:w5 i2)(_:w5 j2)(_:(uO Gs i j->uO Gs i2 j2->HT.gY [i,j] [i2,j2]=true))(_:Rz t.cK E H)
def uD:bE P w K mg ap (qX P w) 10 t.BZ t.FD ["self","row","at","row2","at2"] (GS t):=by
 refine T.CA.Ma qO (λv H Q E h=>by obtain⟨x,z,b,d,B,C,c,a,f,g,l,n,i,j,p,q,rfl,_⟩:=h;rfl) (λy A e s H v Q E hr h=>by obtain⟨x,z,b,d,B,C,c,a,f,g,l,n,i,j,p,q,rfl,r,I,hl,D,F,G,J,L,M,N⟩:=h;refine ak (b7 5 qO (bR (aM br rfl) T.aL T.rE (mP T) hr.m T.pM.b1 .nil aH)) (⟨r,T.aN,T.bN,rfl,⟨I.ob,rfl,b,c,a,f,g,l,n,rfl,I,hl,λO R S U o=>?_⟩⟩);have u:=I.ae o;exact ak (b7 6 qO (bw (aM br rfl) T.aL T.Qs (uC T) hr.m T.BP.b5 .nil tD (ao bP (ao cG (cy dh eE))))) (⟨(o _ _ r),T.aN,T.bN,rfl,⟨u.ob,rfl,b,c,a,f,g,l,n,i,j,p,q,rfl,u,D,F,G,J,L,M,N.ae o⟩⟩))
inductive afi(t:eZ)(vs:q7)(H:Hp)(Q:VK)(E:XK):Prop|mk(x dx tt d ld lu dt a lg:Addr)(gs:c6)(ms:List aR)(Gs:List bC)(n:Str)(i j:Int)(_:vs=[.ref x,.str n,.int i,.int j])(_:H x=s0 t.aG dx (sf tt d ld lu))(_:n.length<=1000)(_:((isName n=false/\(reprText n).length<=1000/\Rz t.M5 E H)\/(isName n=true/\bJ t H tt dt a lg gs ms Gs/\(∀G∈Gs,G.bb.length<=1000)/\w5 i/\w5 j /\ ¬uO Gs i j/\Rz t.cK E H)))
def acE:bE P w K mg ap (qX P w) 4 t.Jj t.OD ["self","name","row","at"] (afi t):=by
 refine T.NW.Ma HP (λvs H Q E h=>?_) (λC A c s H vs Q E hr h=>?_)
 .obtain⟨x,D,f,d,F,G,g,a,q,r,u,v,n,i,j,rfl,_⟩:=h;rfl
 .obtain⟨x,D,f,d,F,G,g,a,q,r,u,v,n,i,j,rfl,J,L,M⟩:=h;have sz:=ad0;refine ak (bq (g9 (gR (aS (Iq T) hr.m rfl T.JK T.zd.kp T.zd.b1 .nil aH (bQ bP)))) ay ay) ⟨n,rfl,by lia,λU b=>?_⟩;rcases M with ⟨l,N,o⟩|⟨l,I,O,R,S,p,o⟩
  .rw[l];refine⟨zA ?_⟩;have W:(Str.ofString " is no name").length=11:=by lk
   exact av (iT T.agm rfl T.acL (bQ (rZ (acs bP (qE w6))))) ⟨n,rfl,bK (by lia),(by simp only[ac5];lia),(by simp only[ac5,T0];lia),(by simp only[ac5,T0];lia),sL rfl,λe z=>(o.ae b) e _ z aa (af.ag z)⟩
  .rw[l];refine⟨mH (bg ?_)⟩;have B:=I.ae b;exact ak (aY (bw (aM br rfl) T.aL T.t9 (gx T) hr.m T.pK.b3 .nil tD (cy cG dh))) (⟨(b _ _ J),T.aN,T.bN,rfl,⟨B.ob,rfl,f,g,a,q,r,u,v,i,j,rfl,B,O,R,S,λy=>absurd y p,λ_=>o.ae b⟩⟩)
inductive ael(t:eZ)(vs:q7)(H:Hp)(Q:VK)(E:XK):Prop|mk(x dx tt d ld lu:Addr)(sp:List (Str×Nat×Nat))(n:Str)(_:vs=[.ref x,.str n])(_:H x=s0 t.aG dx (sf tt d ld lu))(_:DP H d sp)(_:n∉bU sp)(_:(reprText n).length<=1000)(_:Rz t.M5 E H)
def abV:bE P w K mg ap (qX P w) 1 t.Hv t.Pe ["self","name"] (ael t):=by
 refine T.M8.Ma Er (λvs H Q E h=>?_) (λf A a s H vs Q E hr h=>?_)
 .obtain⟨x,b,g,d,i,j,l,n,rfl,_⟩:=h;rfl
 .obtain⟨x,b,g,d,i,j,l,n,rfl,o,⟨v,p⟩,q,r,u⟩:=h;have sz:=ad0;refine ak (bq (Al (vo (cS hr) bP (aM br rfl))) ay ay) ⟨o,T.aN,T.bH,rfl,d,_,rfl,om.k (k:=Sum.inr n) p.ob,.mk ?_⟩;rw[r8 q];have y:(Str.ofString "no mark ").length=8:=by lk
  have z:(Str.ofString " is set").length=7:=by lk
  exact zA (av (iT T.agm rfl T.acL (bQ (rZ (qE (acs bP (qE w6)))))) ⟨(by simp only[ac5];lia),n,rfl,bK (by lia),(by simp only[ac5,T0];lia),(by simp only[ac5,T0];lia),(by simp only[ac5,T0];lia),sL rfl,λe c=>u e _ c aa (af.ag c)⟩)
inductive yI(t:eZ)(und:Bool)(vs:q7)(H:Hp)(Q:VK)(E:XK):Prop|mk(x dx tt d ld lu:Addr)(_:vs=[.ref x])(_:H x=s0 t.aG dx (sf tt d ld lu))(_:H (if und=true then ld else lu)=r6 [])(_:Rz t.dN E H)
def rJ:bE P w K mg ap (qX P w) 9 t.BX t.Fo ["self"] (yI t true):=by
 refine T.BQ.Ma AH (λc H Q E h=>by obtain⟨x,g,i,d,j,l,rfl,_⟩:=h;rfl) (λf A a s H c Q E hr h=>by obtain⟨x,g,i,d,j,l,rfl,n,hl,o⟩:=h;refine ak (bq (g9 (gc (aM br rfl) (λ_=>rfl))) ay ay) (⟨n,T.aN,T.fR,rfl,⟨_,.inl ⟨_,aV.of hl,rfl⟩,zA ?_⟩⟩);exact av (iT T.uu rfl T.nE (bQ aZ)) ⟨sL rfl,λe b=>o e _ b aa (af.ag b)⟩)
def rP:bE P w K mg ap (qX P w) 9 t.Cd t.IU ["self"] (yI t false):=by
 refine T.Cg.Ma Av (λc H Q E h=>by obtain⟨x,g,i,d,j,l,rfl,_⟩:=h;rfl) (λf A a s H c Q E hr h=>by obtain⟨x,g,i,d,j,l,rfl,n,hl,o⟩:=h;refine ak (bq (g9 (gc (aM br rfl) (λ_=>rfl))) ay ay) (⟨n,T.aN,T.eS,rfl,⟨_,.inl ⟨_,aV.of hl,rfl⟩,zA ?_⟩⟩);exact av (iT T.uu rfl T.nE (bQ aZ)) ⟨sL rfl,λe b=>o e _ b aa (af.ag b)⟩)
structure Row3(bb p1 p2 b hd:Str)(ws:a9):Prop where
 len:bb.length<=100000
 e1:(PySem.Txt.partition bb "\n").1=p1
 e2:(PySem.Txt.partition bb "\n").2.1=p2
 e3:(PySem.Txt.partition bb "\n").2.2=b
 p1l:p1.length<=100000
 sp:PySem.Txt.split p1 " " = hd::ws
 short:∀w∈ws,w.length<=1000
def wdZ(x:Str×Str):Bool:=ajm x.2 x.1
def NoL(t:eZ)(bb:Str)(E:XK)(H:Hp):Prop:=(reprText bb).length<=10000/\Rz t.Ny E H
inductive avd(t:eZ) (K:W.Frag)(vs:q7)(H:Hp)(Q:VK)(E:XK):Prop|mk(bb p1 p2 b hd:Str)(ws:a9)(_:vs=[.str bb])(_:Row3 bb p1 p2 b hd ws)(_:((fP (listed t) hd=none/\NoL t bb E H)\/∃g ks,Knd t K hd g ks/\(((!decide (V.str p2=V.str ""))≠Mz (.str hd) [.str "rules",.str "put"]/\NoL t bb E H)\/((!decide (V.str p2=V.str ""))=Mz (.str hd) [.str "rules",.str "put"]/\((ws.length≠ks.length/\NoL t bb E H)\/(ws.length=ks.length/\((((ws.zip ks).map wdZ).all id=false/\NoL t bb E H)\/(((ws.zip ks).map wdZ).all id=true/\∃is,aez (aaY (ws.zip ks)) is/\(∀i∈is,i<10000)/\∀x H',abh t H' x hd (namesW (ws.zip ks)) is b->H x=none->af H H'->Q (.ref x) H'))))))))
def anY{z:List (Str×Str)}(h:z[i]?=some x):((z.take (i+1)).map wdZ).map V.bl=((z.take i).map wdZ).map V.bl++[V.bl (wdZ x)]:=by rw[List.take_succ,h,o0,o0];rfl
def aqw(h:(reprText bb).length<=10000)(hz:z.length<=100):(reprText bb).length<=sizeLine/\(Str.empty++reprText bb).length<=sizeLine/\(Str.empty++reprText bb++z).length<=sizeLine:=by have sz:=ad0;simp only[ac5,T0];lia
def afZ(hw:t.pr=w.params):bE P w K mg ap (qX P w) 3 t.aiF t.anh ["row"] (avd t K):=by
 refine T.ain.Ma dL (λvs H Q E h=>?_) (λcdv A outer s H vs Q E hr h=>?_)
 .obtain⟨f,L,N,b,n,c,rfl,_⟩:=h;rfl
 .obtain⟨f,L,N,b,n,c,rfl,R,J⟩:=h;refine ak (b7 1 dL (cV ae2 F.slot_str_partition F.type_str_partition agN br (bQ aZ))) ⟨rfl,by decide,ac2 R.len (by decide),λpt hpt=>?_⟩;rw[R.e1,R.e2,R.e3];refine ak (b7 2 dL (cV ae2 ag1 aj8 kM (aC aO bP ai) (bQ aZ))) ⟨bT.of aa,aB (j:=0) rfl,rfl,L,_,rfl,rfl,by decide,ac2 (Nat.add_le_add_right R.p1l 2) (by decide),λG hlw=>?_⟩;rw[R.sp];have O:ag (ag H pt (.tup [.str L,.str N,.str b])) G (.lst ((n::c).map V.str)) pt=t0 [.str L,.str N,.str b]:=af.ag hlw _ _ aa;have a:ag (ag H pt (.tup [.str L,.str N,.str b])) G (.lst ((n::c).map V.str)) G=r6 ((n::c).map V.str):=aa;have S:af H (ag (ag H pt (.tup [.str L,.str N,.str b])) G (.lst ((n::c).map V.str))):=(af.ag hpt).to hlw;generalize ag (ag H pt (.tup [.str L,.str N,.str b])) G (.lst ((n::c).map V.str))=H1 at O a S;refine ak (bq (Al (als (aC aU cG ai) (jX rfl T.adm (v:=V.ref t.aaC) rfl))) ay ay) ⟨aV.of a,aB (j:=0) rfl,t.aaC,listed t,n,rfl,hw ▸ T.acj,rfl,.mk ?_⟩;rcases J with ⟨hb,l,U⟩|⟨g,ks,hS,J⟩
  .rw[hb];obtain⟨W,X,B⟩:=aqw (z:=" begins with no word that is listed") l (by lk);exact zA (av (iT T.ack rfl T.aaW (bQ (rZ (acs br (qE w6))))) ⟨f,rfl,W,X,B,B,sL rfl,λe C=>U.ae S e _ C aa (af.ag C)⟩)
  have hg:=hS.at_;rw[hg];refine mH (bg ?_);refine ak (bq (aA tX (eW tX (aC aO bP ai) aZ (aE _)) (eW iA (aC aU cG ai) (jX rfl T.agb (v:=V.ref t.abZ) rfl) rfl) (aE _)) ay ay) ?_;walk_at "rd";refine⟨bT.of O,aB (j:=1) rfl,rfl,aV.of a,aB (j:=0) rfl,.inr (T.agH _),rfl,rfl,rfl,?_⟩;simp only[V.bl.injEq,Bool.false_eq_true,if_false];rcases J with ⟨hb,l,U⟩|⟨hb,J⟩
  .rw[ab2 hb];obtain⟨W,X,B⟩:=aqw (z:=" has a line end where there is none to be, or none where there is one to be") l (by lk);exact zA (av (iT T.ack rfl T.aaW (bQ (rZ (acs br (qE w6))))) ⟨f,rfl,W,X,B,B,sL rfl,λe C=>U.ae S e _ C aa (af.ag C)⟩)
  rw[hb,ab4 rfl];refine mH (bg ?_);refine ak (b7 3 dL (akg (jX rfl T.adm (v:=V.ref t.aaC) rfl) (aC aU cG ai) (λ_ _=>rfl))) ⟨aV.of a,aB (j:=0) rfl,t.aaC,listed t,n,.ref g,rfl,hw ▸ T.acj,rfl,hg,?_⟩;refine aF (λZ' M=>Z'=[τ f,ρ pt,ρ G,ρ g]/\af H1 M/\c.length=ks.length/\∃Y,aez (aaY (c.zip ks)) Y/\(∀i∈Y,i<10000)/\∀x M,abh t M x n (namesW (c.zip ks)) Y b->H x=none->af H M->Q (.ref x) M) (@bq _ _ _ _ _ _ _ _ (@PW.pt _ _ _ (jz (aA tX (ez aD T.bD (bQ cG)) (aK bh (ez aD T.bD (bQ dh)) ai) (aE _)) (jk (g9 (gR (ez (Ef rfl) T.Yq (bQ (@ahz _ (az (top 80)) _ ["row","parts","words","kinds"] _ _ ["word","kind"] _ (g2 K) _ [] _ _ (by walk_at "ck") (@V3 _ _ _ _ _ _ _ _ _ true rfl T.X3 (cy (bS cZ cG (bO ai) cP) dh) (by left) (by left)) (λ_ _ _ _=>by exact iK rfl (bF (pQ (i:=0) (show (["word","kind"]:a9).Nodup by lk) rfl (Or.inl rfl)) (bF (pQ (i:=1) (show (["word","kind"]:a9).Nodup by lk) rfl (Or.inl rfl)) fU))) (λ_ _ _ _=>by exact(@aS _ _ _ _ _ _ _ _ _ _ _ _ _ _ _ _ (eB T) hr.m rfl T.atm T.anw.kp T.anw.b2 .nil aH (ao br (ao bP bu (by left)) (by left)) (by left) (by left) (by left))) (by left) (by left) (by left) (by left))))))))) ay ay) ?_ ?_
  .walk_at "rd";refine⟨_,.inl (aV.of a),_,.inr (hS.kinds _),rfl,?_⟩;rcases J with ⟨hc,l,U⟩|⟨d,J⟩
   .rw[ab2 (by rw[d5,d5,P3];intro z;lia)];obtain⟨W,X,B⟩:=aqw (z:=" has other words than are listed") l (by lk);exact zA (av (iT T.ack rfl T.aaW (bQ (rZ (acs br (qE w6))))) ⟨f,rfl,W,X,B,B,sL rfl,λe C=>U.ae S e _ C aa (af.ag C)⟩)
   rw[ab4 (by rw[d5,d5,P3,d];rfl)];refine mH ⟨aV.of a,λp hp=>?_⟩;rw[ahL];refine⟨p,g,c.map V.str,ks.map V.str,rfl,aV.of aa,hS.kinds _,alx (xs:=c.map V.str) (zs:=ks.map V.str) (λi ys H2=>ys=(((c.zip ks).take i).map wdZ).map V.bl/\af (ag H1 p (.lst (c.map V.str))) H2) ⟨rfl,af.refl _⟩ (ak7 (ap0 ((d5 _).trans d)) (ak7 hS.few (by decide))) ?_ ?_ ?_⟩
   .rintro i ys H2 ⟨rfl,I⟩;exact⟨aV.of (I _ _ aa),hS.kinds _⟩
   .rintro i u z ys H2 r hu hz hr2 hl ⟨rfl,I⟩;obtain⟨y,k,rfl,rfl,hzk,hwy⟩:=aiN hu hz;refine⟨y,k,rfl,R.short y (p0 hwy),λH3 Z=>?_⟩;exact acg ((d6.mp hu).1) ((d6.mp hz).1) (by rw[i5];exact Nat.add_le_add_right hl 1) ⟨(anY hzk).symm,(I.trans (af.ag hr2)).trans Z⟩
   rintro i ys H2 hi ⟨rfl,I⟩ D hD;rw[(ac1 (by rw[List.length_zip];rw[d5,d5] at hi;lia))];have Z:=((af.ag hp).trans I).to hD (o:=.lst (((c.zip ks).map wdZ).map V.bl));refine⟨D,rfl,(c.zip ks).map wdZ,aV.of aa,?_⟩;rcases J with ⟨ha,l,U⟩|⟨ha,Y,J⟩
   .rw[ha];obtain⟨W,X,B⟩:=aqw (z:=" has other words than are listed") l (by lk);exact zA (av (iT T.ack rfl T.aaW (bQ (rZ (acs br (qE w6))))) ⟨f,rfl,W,X,B,B,sL rfl,λe C=>U.ae (S.trans Z) e _ C aa (af.ag C)⟩)
   .rw[ha];exact mH (bg ⟨rfl,Z,d,Y,J⟩)
  rintro Z' M ⟨rfl,I,d,Y,hnum,hlt,q⟩;refine av (aQ (fj T.aqG (eD T hw) hr.m rfl T.amT T.arp.b3 .nil aH (cy cG (aC aO bP ai)))) ⟨bT.of (I _ _ O),aB (j:=2) rfl,λx dx nx ndx ne=>?_⟩;have Z:af M (ag (ag M dx (.own x)) x (.ins t.ZL dx [])):=cD nx ndx;refine⟨x,dx,G,g,n,b,c,ks,Y,rfl,aa,Z _ _ (I _ _ a),hS,d,hnum,hlt,λH4 hL a4=>⟨rfl,?_⟩⟩;exact q x H4 hL (S.free (I.free nx)) ((S.trans I).trans (fY.fresh Z nx a4))
theorem aoK:∀{x:c7},(10:Nat)∉x->(x++10::y).dropWhile (· != 10)=10::y
 | [],_=>by simp
 |c::r,h=>by rw[List.cons_append,List.dropWhile_cons,w4 (by simpa using (λz=>h (by simp[z])))];exact (aoK (y:=y) (x:=r) (λz=>h (Q1 _ z)))
def afr{a b:Str}(h:a.l=b.l):a=b:=by cases a;cases b;exact ac7 Str.mk (ai1.mp h)
def abw(a b:Str):(a++b).l=a.l++b.l:=by show (a.cps++b.cps).toList=_;rw[Array.toList_append]
def atq(h:(Builtin.Str.occurrences s y 0 s.length 1).isEmpty=false):(PySem.Txt.partition s y).2.1=y:=by
 unfold PySem.Txt.partition;cases e:Builtin.Str.occurrences s y 0 s.length 1 with
 |nil=>rw[e] at h;cases h
 |cons i r=>rfl
def aq0(hs:s.l=x.l++10::y.l)(hx:(10:Nat)∉x.l):PySem.Txt.partition s ⟨#[10]⟩=(x,⟨#[10]⟩,y):=by
 have d:(10:Nat)∈s.l:=by rw[hs];simp
 have h:(Builtin.Str.occurrences s ⟨#[10]⟩ 0 s.length 1).isEmpty=false:=by rw[PyProof.Rows.empty_one,ab4 d];rfl
 have e:=atq h;have f:=an0 (PyProof.Rows.from_first_some (x:=s) (y:=⟨#[10]⟩) (z:=⟨#[10]⟩) rfl rfl h);have g:=PySem.StrLaws.partition_sum s ⟨#[10]⟩;generalize PySem.Txt.partition s ⟨#[10]⟩=p at g e f;obtain⟨a,b,c⟩:=p;simp only at g e f;subst e;have i:=ac7 (λz:Str=>z.l) f;simp only[abw,hs,aoK hx] at i;have l:c=y:=afr (by simpa[Str.l] using i);subst l;have j:=ac7 (λz:Str=>z.l) g;simp only[abw,hs] at j;have n:a=x:=afr (by simpa[Str.l] using j);rw[n]
structure Clean(z:Str):Prop where
 len:z.length<=10
 cs:∀c∈z.l,c≠10/\c≠32/\c<1000
theorem agx:∀{ps:List c7},k∈d9 c ps->k=c\/∃p∈ps,k∈p
 | [],h=>by cases h
 | [x],h=>.inr ⟨x,List.mem_singleton_self x,h⟩
 |x::y::r,h=>by
  rcases X1.mp h with h|h
  .exact .inr ⟨x,ab7,h⟩
  .rcases Z5.mp h with h|h
   .exact .inl h
   .rcases agx h with h|⟨p,hp,h⟩
    .exact .inl h
    .exact .inr ⟨p,Q1 _ hp,h⟩
theorem agt:∀{ps:List c7},(∀p∈ps,p.length<=m)->(d9 c ps).length<=ps.length*(m+1)
 | [],_=>Z9 _
 | [x],h=>by have:=h x (List.mem_singleton_self x);show x.length<=1*(m+1);lia
 |x::y::r,h=>by have b:=h x ab7;have d:=agt (c:=c) (ps:=y::r) λp a=>h p (Q1 _ a);show (x++c::d9 c (y::r)).length<=((y::r).length+1)*(m+1);rw[i5,P3,Nat.succ_mul];lia
noncomputable def aaS(ps:a9):Str:=Str.join ⟨#[32]⟩ ps
def adA{ps:a9}(h:∀w∈ps,Clean w)(hc:c∈(aaS ps).l):c≠10/\c<1000:=by
 rw[aaS,fZ] at hc;rcases agx hc with rfl|⟨p,d,a⟩
 .decide
 .obtain⟨w,b,rfl⟩:=aa9.mp d;exact⟨((h w b).cs c a).1,((h w b).cs c a).2.2⟩
def adI{ps:a9}(h:∀w∈ps,Clean w):(aaS ps).length<=ps.length*11:=by have:=agt (c:=32) (m:=10) (ps:=ps.map λp=>p.l) (λp a=>by obtain⟨w,b,rfl⟩:=aa9.mp a;rw[str_len];exact(h w b).len);rw[<- fZ,d5,str_len] at this;exact this
def aqE(h:(10:Nat)∉s.l):PySem.Txt.partition s ⟨#[10]⟩=(s,⟨#[]⟩,⟨#[]⟩):=by
 have a:(Builtin.Str.occurrences s ⟨#[10]⟩ 0 s.length 1).isEmpty=true:=by rw[PyProof.Rows.empty_one,ab2 h];rfl
 unfold PySem.Txt.partition;rw[List.isEmpty_iff.mp a];rfl
def ajb:(Str.ofString "\n")=⟨#[10]⟩:=by lk
def atp:(Str.ofString " ")=⟨#[32]⟩:=by lk
def afx   (h:∀w∈hd::ws,Clean w):PySem.Txt.split (aaS (hd::ws)) " " = hd::ws:=by rw[show ((" " : Str))=⟨#[32]⟩ from atp,aaS];exact pe (by simp) λp a z=>((h p a).cs 32 z).2.1 rfl
def aqh   (h:∀w∈hd::ws,Clean w) (hl:ws.length<=20):Row3 (aaS (hd::ws)) (aaS (hd::ws)) "" "" hd ws:=by
 have a:=adI h;rw[P3] at a;have b:PySem.Txt.partition (aaS (hd::ws)) "\n" = (aaS (hd::ws),⟨#[]⟩,⟨#[]⟩):=by rw[show (("\n" : Str))=⟨#[10]⟩ from ajb];exact aqE λz=>(adA h z).1 rfl
 refine⟨by lia,by rw[b],by rw[b];rfl,by rw[b];rfl,by lia,afx h,λw c=>?_⟩;have:=(h w (Q1 _ c)).len;lia
def aqt   (h:∀w∈hd::ws,Clean w) (hl:ws.length<=20) (hb:b.length<=1000):Row3 (aaS (hd::ws) ++ "\n" ++ b) (aaS (hd::ws)) "\n" b hd ws:=by
 have a:=adI h;rw[P3] at a;have c:PySem.Txt.partition (aaS (hd::ws) ++ "\n" ++ b) "\n" = (aaS (hd::ws),⟨#[10]⟩,b):=by rw[show (("\n" : Str))=⟨#[10]⟩ from ajb];exact aq0 (by rw[abw,abw,ac0];rfl) λz=>(adA h z).1 rfl
 have d:(Str.ofString "\n").length=1:=by lk
 refine⟨by rw[T0,T0,d];lia,by rw[c],by rw[c];exact ajb.symm,by rw[c],by lia,afx h,λw e=>?_⟩;have:=(h w (Q1 _ e)).len;lia
def akk    (h:∀w∈hd::ws,Clean w) (hl:ws.length<=20) (hb:b.length<=500) (hb2:∀c∈b.l,c<1000):(reprText (aaS (hd::ws))).length<=10000/\(reprText (aaS (hd::ws) ++ "\n" ++ b)).length<=10000:=by
 have d:=adI h;rw[P3] at d;have e:(Str.ofString "\n").length=1:=by lk
 have f:(aaS (hd::ws) ++ "\n" ++ b).length=(aaS (hd::ws)).length+1+b.length:=by rw[T0,T0,e]
 have g:=PySem.StrLaws.reprText_len (aaS (hd::ws)) λc a=>Nat.lt_trans (adA h a).2 (by decide);have i:=PySem.StrLaws.reprText_len (aaS (hd::ws) ++ "\n" ++ b) λc a=>by
  change c∈Str.l _ at a;rw[abw,abw,show (Str.ofString "\n").l=[10] by lk] at a;rcases X1.mp a with a|a
  .rcases X1.mp a with a|a
   .exact Nat.lt_trans (adA h a).2 (by decide)
   .rw[B1.mp a];decide
  .exact Nat.lt_trans (hb2 c a) (by decide)
 lia
noncomputable def plT (i j:Nat):Str:=PySem.Str.ofString (toString (i:Int)) ++ " " ++ PySem.Str.ofString (toString (j:Int))
def aeH(h:i<10000):(Str.ofString (toString (i:Int))).length<=10:=W.KT.len_num (by lia) (by lia)
def akH(h:i<10000):((i:Int)).natAbs.log2<1920:=by
 rw[Int.natAbs_natCast];rcases Nat.eq_zero_or_pos i with rfl|a
 .decide
 .exact Nat.lt_trans ((Nat.log2_lt (by lia)).mpr (show i<2 ^ 14 by lia)) (by decide)
def ajY(hi:i<10000)(hj:j<10000):(plT i j).length<=21:=by
 have a:=aeH hi;have b:=aeH hj;have c:(Str.ofString " ").length=1:=by lk
 rw[plT,T0,T0];lia
inductive auC(K:W.Frag)(vs:q7)(H:Hp)(Q:VK)(_:XK):Prop|mk(p:Addr)(i j:Nat)(_:vs=[.ref p])(_:bT K H p [.int i,.int j])(_:i<10000)(_:j<10000)(_:Q (.str (plT i j)) H)
def ap1:bE P w K mg ap dJ 1 t.aja t.amw ["place"] (auC K):=by
 refine T.ajd.ok aqe λvs H Q E h=>?_;obtain⟨p,i,j,rfl,a,b,c,q⟩:=h;room;have sz:=ad0;have d:=aeH b;have e:=aeH c;have f:(Str.ofString " ").length=1:=by lk
 refine av (aQ (aK bY (aK bY (pO ZW T.aeL (bQ (aC aO br ai))) aZ) (pO ZW T.aeL (bQ (aC aO br ai))))) ?_;walk_at "rd";refine⟨a,aB (j:=0) rfl,_,rfl,akH b,by lia,a,aB (j:=1) rfl,_,rfl,akH c,by rw[T0];lia,q⟩
inductive att(K:W.Frag)(vs:q7)(H:Hp)(Q:VK)(_:XK):Prop|mk(p:Addr)(n:Str)(i j:Nat)(_:vs=[.str n,.ref p])(_:n.length<=100)(_:bT K H p [.int i,.int j])(_:i<10000)(_:j<10000)(_:Q (.str (n ++ " " ++ plT i j)) H)
def aqz:bE P w K mg ap dJ 2 t.aio t.aoi ["name","place"] (att K):=by
 refine T.aiJ.ok aqY λvs H Q E h=>?_;obtain⟨p,n,i,j,rfl,d,c,a,b,q⟩:=h;room;have sz:=ad0;have e:=ajY a b;have f:(Str.ofString " ").length=1:=by lk
 refine av (aQ (aK bY (aK bY br aZ) (aS (ap1 T) hr.m rfl T.aq6 T.ajd.kp T.ajd.b1 .nil aH (bQ bP)))) ?_;walk_at "rd";exact⟨by lia,p,i,j,rfl,c,a,b,_,rfl,by rw[T0];lia,q⟩
inductive Rf(t:eZ)(vs:q7)(H:Hp)(Q:VK)(_:XK):Prop|mk(S:q0)(x dx tt d ld lu dt a lg:Addr)(gs:c6)(ms:List aR)(Gs:List bC)(G:bC)(sp:List (Str×Nat×Nat))(ds:q7)(G2:bC)(i j i2 j2:Nat)(ah bk:Nat)(Gm:List bC)(c:Nat)(Gs':List bC)(_:vs=[.ref x,.int i,.int j,.int i2,.int j2])(_:S x)(_:S ld)(_:Ex S H)(_:H x=s0 t.aG dx (sf tt d ld lu))(_:bJ t (hid S H) tt dt a lg gs ms Gs)(_:DP (hid S H) d sp)(_:(bU sp).Nodup)(_:sp.length<64)(_:(∀y∈sp,y.2.1<=100000/\y.2.2<=100000))(_:H ld=r6 ds)(_:ds.length<=100000)(_:eK ms)(_:Gs[i]?=some G)(_:j<=G.bb.length)(_:G.bb.length<=1000)(_:Gs[i2]?=some G2)(_:j2<=G2.bb.length)(_:G2.bb.length<=1000)(_:HT.gY [(i:Int),j] [(i2:Int),j2]=false)(_:i<=i2)(_:Gs.length<=50000)(_:Gs'.length<=100000)(_:iL ms Gs i (i2-i+1) [qF G.bb j G2.bb j2] ah bk Gm c Gs')(_:∀H',SDone t S H H' x dx tt dt a ld ms Gs Gs' ds (sp.map λy=>(y.1,oG y.2 (i,j) (i2,j2))) d i (b9 ((Gs.map (·.bb)).map V.str) (some (i:Int)) (some ((i2:Int)+1))) (b9 ((Gs'.map (·.bb)).map V.str) (some (i:Int)) (some ((i:Int)+1)))->Q (.int ((Gm.length+c:Nat):Int)) H')
def V0:bE P w K mg ap dJ 10 t.BZ t.FD ["self","row","at","row2","at2"] (Rf t):=by
 refine T.CA.ok qO λvs H Q E h=>?_;obtain⟨S,x,dx,tt,d,ld,lu,dt,a,lg,gs,ms,Gs,G,s,ds,G2,i,j,A,J,ah,bk,Gm,c,Gs',rfl,N,hSl,hE,hx,I,⟨ps,O⟩,hn,h64,hb,hld,hdl,GM_,hG,hj,hl,hG2,hj2,hlb,hxx,hii,hl1,hl1',C,q⟩:=h;room;have I0:=I.ae aq;have hi:i<=50000:=by have:=(d6.mp hG).1;lia
 refine ak (b7 5 qO (bR (aM br rfl) T.aL T.rE (mP T) hr.m T.pM.b1 .nil aH)) (⟨hx,T.aN,T.bN,rfl,⟨I0.ob,rfl,tt,dt,a,lg,gs,ms,Gs,rfl,I0,by lia,λla H1 h1 f1 s1=>?_⟩⟩);have I1:=I.ae (aJ s1);refine ak (b7 6 qO (bw (aM br rfl) T.aL T.Qs (S3 T) hr.m T.BP.b5 .nil aH (ao bP (ao cG (cy dh eE))))) (⟨(s1 _ _ hx),T.aN,T.bN,rfl,⟨aq _ _ I1.ob,rfl,S,tt,dt,a,lg,gs,ms,Gs,G,G2,i,j,A,J,ah,bk,Gm,c,Gs',rfl,hE.ae s1,I1,GM_,hG,hj,hl,hG2,hj2,hlb,hxx,hii,hl1,C,λlg' gs' H2 I2 f2 a2=>?_⟩⟩);have htt:=aq _ _ I.ob;have nS:¬S tt:=bI I.ob;have k2:∀{b o},H b=some o->b≠tt->H2 b=some o:=λ{b o} e n=>a2 b o (s1 _ _ e) n;have hx2:=k2 hx (λy=>nS (y▸N));have hld2:=k2 hld (λy=>nS (y▸hSl));have hla2:=a2 _ _ h1 (bL h1 (s1 _ _ htt));have hE2:Ex S H2:=λb y=>let ⟨o,ho⟩:=hE b y;⟨o,k2 ho (λe=>nS (e▸y))⟩;have hd2:Qq (hid S H2) d s ps:=by refine⟨O.len,aT (k2 (aq _ _ O.ob) (bL (aq _ _ O.ob) htt)) (bI O.ob),O.pl.mono λp y e=>aT (k2 (aq _ _ e) (bL (aq _ _ e) htt)) (bI e)⟩
 have R:∀{b},H2 b=none->b≠tt->H b=none:=λ{b} e n=>by
  cases g:H b with
  |none=>rfl
  |some o=>rw[k2 g n] at e;cases e
 have tt2:=aq _ _ I2.ob;refine ak (aY (bw br T.aN T.Ph (Jf T) hr.m T.IZ.b4 .nil aH (ao bP (cy (bS cZ gX (bO bP) (bO (aK bh dh ai))) ai)))) ⟨hx2,rfl,aV.of hla2,λlt flt=>?_⟩;have B:af H2 (ag H2 lt (.lst (b9 ((Gs.map (·.bb)).map V.str) (some (i:Int)) (some ((A:Int)+1))))):=af.ag flt;have v:ag H2 lt (.lst (b9 ((Gs.map (·.bb)).map V.str) (some (i:Int)) (some ((A:Int)+1)))) lt=r6 (b9 ((Gs.map (·.bb)).map V.str) (some (i:Int)) (some ((A:Int)+1))):=aa;generalize ag H2 lt (.lst (b9 ((Gs.map (·.bb)).map V.str) (some (i:Int)) (some ((A:Int)+1))))=H3 at B v;have U:H lt=none:=R flt (λy=>by rw[y,tt2] at flt;cases flt);refine⟨S,x,dx,tt,d,ld,lu,dt,a,lg',lt,gs',ms,Gs',ds,i,_,rfl,N,hSl,hE2.ae B,B _ _ hx2,I2.ae (aJ B),hl1',B _ _ hld2,hdl,λdd mE lv lu' H4 Z e2 e3 e4 e5 e6 e7 e9 e10 e8=>?_⟩;have s34:∀{b o},H2 b=some o->b≠x->b≠ld->H4 b=some o:=λ{b o} e n1 n2=>e8 b o (B _ _ e) n1 n2;have sh:af (hid S H2) (hid S H4):=λb o e=>aT (s34 (aq _ _ e) (λy=>bI e (y▸N)) (λy=>bI e (y▸hSl))) (bI e);have sh2:af (hid S H2) (hid (λc=>(S c\/c=dd)\/c=lu') H4):=λb o e=>aT (aq _ _ (sh _ _ e)) (by
  have e0:=B _ _ (aq _ _ e);rintro ((y|y)|y)
  .exact bI e y
  .rw[y,e6] at e0;cases e0
  .rw[y,e9] at e0;cases e0)
 have I4':=I2.ae sh2;have CI:lt≠lu':=λy=>by rw[y,e9] at v;cases v
 have hd4:=hd2.ae sh;have hE4:Ex S H4:=λb y=>by
  by_cases z1:b=x
  .exact⟨_,z1▸Z⟩
  .by_cases z2:b=ld
   .exact⟨_,z2▸e2⟩
   .obtain⟨o,ho⟩:=hE2 b y;exact⟨o,s34 ho z1 z2⟩
 have W:H4 lt=r6 (b9 ((Gs.map (·.bb)).map V.str) (some (i:Int)) (some ((A:Int)+1))):=e8 _ _ v (bL v (B _ _ hx2)) (λy=>by rw[y,hld] at U;cases U);have L:=aq _ _ hd4.ob;have fdd:H dd=none:=R (B.free e6) (λy=>by rw[y,B _ _ tt2] at e6;cases e6);have flu:H lu'=none:=R (B.free e9) (λy=>by rw[y,B _ _ tt2] at e9;cases e9);have flv:H lv=none:=R (B.free e7) (λy=>by rw[y,B _ _ tt2] at e7;cases e7);have k4:∀b o,H b=some o->b≠x->b≠tt->b≠ld->H4 b=some o:=λb o e n1 n2 n3=>s34 (k2 e n2) n1 n3;have tt4:=aq _ _ (I2.ae sh).ob;clear s34 sh sh2 e8 e6 e7 e9 B v I2 hd2 hE2 R I1 I0 hla2 hx2 hld2;refine ak (b6 br (nZ (pA rfl) (by rfl) T.qN (by lk) (bQ (Ca (@iM _ (az (AA 68 7)) _ ["self","row","at","row2","at2","ahead","count"] _ _ ("name") _ _ [("row",1),("at",2),("row2",3),("at2",4),("self",0)] _ _ (by walk_at "ck") (rQ (aM br rfl)) (λ_ _ _ _=>by exact(bG (ao gX (ao (aS (TV T) hr.m rfl T.Si T.J0.kp T.J0.b3 .nil aH (ao (pV (cS hr) (@kc _ K _ _ _ _ eE rfl (by left)) gX (λ_ _=>rfl)) (ao (bG (ao br (ao bP bu (by left)) (by left))) (ao (bG (ao cG (ao dh bu (by left)) (by left))) bu (by left)) (by left)) (by left)) (by left) (by left) (by left)) bu (by left)) (by left)))) (by left) (by left) (by left) (by left)))) (by left) (by left) (by left) (by left)) rfl) (⟨Z,T.aN,T.bH,rfl,⟨d,_,rfl,L,λo nf=>?_⟩⟩);have hsl:(s.map λy=>(y.1,oG y.2 (i,j) (A,J))).length=s.length:=d5 ..;refine vW (λk ys H5=>∃qs M,ys=qs.map V.ref/\M.length=k/\bf (λq kv=>H5 q=t0 [kV kv.1,kv.2]) qs (bX ((s.map λy=>(y.1,oG y.2 (i,j) (A,J))).take k) M)/\bf (λp (y:Str×Nat×Nat)=>hid S H5 p=t0 [aX y.2.1,aX y.2.2]) M ((s.map λy=>(y.1,oG y.2 (i,j) (A,J))).take k)/\af (ag H4 d (.mC o (.dK (bX s ps)))) H5) ⟨[],[],rfl,rfl,bf.nil,bf.nil,af.refl _⟩ (cL (by rw[dH O.len];lia)) (by rintro k ys H5 _ ⟨qs,M,_,_,_,_,s5⟩;exact s5 _ _ aa) ?_ ?_
 .rintro k kv ys H5 hkv hyl ⟨qs,M,rfl,F,X,hp5,s5⟩;have hk:k<s.length:=by rw[<- dH O.len];exact(d6.mp hkv).1
  have hy:s[k]?=some s[k]:=i4 hk;obtain⟨pk,ep⟩:∃pk,ps[k]?=some pk:=⟨_,i4 (O.len▸hk)⟩
  generalize s[k]=y at hy;rw[zo hy ep] at hkv;cases hkv;have hyk:(s.map λy=>(y.1,oG y.2 (i,j) (A,J)))[k]?=some (y.1,oG y.2 (i,j) (A,J)):=by rw[v3,hy];rfl
  have hE5:Ex S H5:=(IP hE4).ae s5;have hpk:=(aJ s5) _ _ (Cc (o:=o) L (hd4.pl.2 k _ _ ep hy));refine⟨s5 _ _ (by rw[aj (bL Z L)];exact Z),T.aN,T.bH,rfl,d,_,rfl,.inl ⟨_,Sum.inr y.1,.inr ⟨o,s5 _ _ aa⟩,rfl,(kG hn hy ep).symm⟩,sL rfl,λf hf=>⟨sL rfl,λg hg=>⟨S,pk,f,g,y.2,(i,j),(A,J),rfl,(hE5.ae (af.ag hf)).ae (af.ag hg),(aJ (af.ag hg)) _ _ ((aJ (af.ag hf)) _ _ hpk),(aJ (af.ag hg)) _ _ (aT aa (hE5.new hf)),aT aa ((hE5.ae (af.ag hf)).new hg),λp' H6 hp' s6=>⟨sL rfl,λr hr'=>fQ (by rw[dH O.len];exact hk) hyl ⟨qs++[r],M++[p'],by rw[o0];rfl,by rw[i5,F];rfl,by rw[sC hyk F];exact bf.snoc (X.mono λ_ _ e=>af.ag hr' _ _ (s6 _ _ (af.ag hg _ _ (af.ag hf _ _ e)))) aa,by rw[ae1 hyk];exact bf.snoc (hp5.mono λ_ _ e=>(aJ ((af.ag hf).trans ((af.ag hg).trans (s6.trans (af.ag hr'))))) _ _ e) ((aJ (af.ag hr')) _ _ hp'),s5.trans ((af.ag hf).trans ((af.ag hg).trans (s6.trans (af.ag hr'))))⟩⟩⟩⟩⟩
 .rintro ys H5 hyl ⟨qs,M,rfl,F,X,hp5,s5⟩ D hD;rw[dH O.len,<- hsl,ab3] at X hp5;rw[dH O.len,<- hsl] at F;have hnd:(bU (s.map λy=>(y.1,oG y.2 (i,j) (A,J)))).Nodup:=by rw[ir];exact hn
  have hd5:H5 d=some (.mC o (.dK (bX s ps))):=s5 _ _ aa;have ndD:d≠D:=au hd5 hD;refine⟨d,o,_,by rw[aj ndD];exact hd5,nf,D,qs,bX (s.map λy=>(y.1,oG y.2 (i,j) (A,J))) M,rfl,by rw[aj (aa4 ndD),aa],⟨X.1,λk b kv g1 g2=>by have e:=X.2 k b kv g1 g2;rw[aj (bL e hd5)];exact af.ag hD _ _ e⟩,by rw[dH F,hsl];lia,λd' hd'=>?_⟩
  rw[uE F hnd];have s6:af H4 (ag (ag H5 D (.lst (qs.map V.ref))) d (.dK (bX s ps))):=uX L (s5.trans (af.ag hD));have hpp:bf (λp (y:Str×Nat×Nat)=>hid S (ag (ag H5 D (.lst (qs.map V.ref))) d (.dK (bX s ps))) p=t0 [aX y.2.1,aX y.2.2]) M (s.map λy=>(y.1,oG y.2 (i,j) (A,J))):=hp5.mono λp y e=>aT (by rw[aj (bL (aq _ _ e) hd5)];exact af.ag hD _ _ (aq _ _ e)) (bI e);generalize ag (ag H5 D (.lst (qs.map V.ref))) d (.dK (bX s ps))=H6 at s6 hpp hd';have s7:af H6 (ag H6 d' (.dK (bX (s.map λy=>(y.1,oG y.2 (i,j) (A,J))) M))):=af.ag hd';have hd7:ag H6 d' (.dK (bX (s.map λy=>(y.1,oG y.2 (i,j) (A,J))) M)) d'=some (.dK (bX (s.map λy=>(y.1,oG y.2 (i,j) (A,J))) M)):=aa;have l:H4 d'=none:=s6.free hd';generalize ag H6 d' (.dK (bX (s.map λy=>(y.1,oG y.2 (i,j) (A,J))) M))=H7 at s7 hd7;have Y:=s6.trans s7;refine⟨x,_,dx,_,rfl,Y _ _ Z,T.aN,T.bH,by show 4<1000;decide,?_⟩;have ndx:d'≠x:=λy=>by rw[y,Z] at l;cases l
  have ku:∀{b u},H4 b=some u->b≠x->ag H7 x (.ins t.aG dx (dQ "places" (.ref d') (sf tt d ld lu'))) b=some u:=λ{b u} e n=>by rw[aj n];exact Y _ _ e
  have su2:af (hid (λc=>(S c\/c=dd)\/c=lu') H7) (hid (λc=>(S c\/c=dd)\/c=lu') (ag H7 x (.ins t.aG dx (dQ "places" (.ref d') (sf tt d ld lu'))))):=g8 (.inl (.inl N));have more:∀{b:Addr} {o:HO},hid S H7 b=some o->(∀C y fs,o ≠ .ins C y fs)->(∀ys,o ≠ .lst ys)->hid (λc=>(S c\/c=dd)\/c=lu') H7 b=some o:=λ{b o} h n1 n2=>aT (aq _ _ h) (by
   have h:=aq _ _ h;rintro ((y|y)|y)
   .exact bI (by assumption) y
   .rw[y,(Y _ _ e4)] at h;exact n1 _ _ _ (aa1 h).symm
   .rw[y,(Y _ _ e3)] at h;exact n2 _ (aa1 h).symm)
  refine av (aQ jv) (q _ ⟨⟨d',lu',dd,mE,lt,lv,lg',gs',aa,(I4'.ae (aJ Y)).ae su2,⟨M,F,su2 _ _ (more (aT hd7 (hE4.new l)) (λ_ _ _ z=>by cases z) (λ_ z=>by cases z)),hpp.mono λp y e=>su2 _ _ (more ((aJ s7) _ _ e) (λ_ _ _ z=>by cases z) (λ_ z=>by cases z))⟩,ku e3 (λy=>by rw[y,Z] at e3;cases e3),ku e2 (λy=>by rw[y,Z] at e2;cases e2),ku e4 (λy=>by rw[y,hx] at fdd;cases fdd),ku W (λy=>by rw[y,Z] at W;cases W),ku e5 (λy=>by rw[y,Z] at e5;cases e5),?_,fdd,U,flv,flu,CI,aa4 e10⟩,λb u e n1 n2 n3=>ku (k4 b u e n1 n2 n3) n1⟩)
  .cases g:H d' with
   |none=>rfl
   |some u =>
    have:=k4 d' u g ndx (λy=>by rw[y,tt4] at l;cases l) (λy=>by rw[y,e2] at l;cases l);rw[l] at this;cases this
structure Scr(t:eZ)(S:q0)(H:Hp)(x dx tt dt a d ld lu:Addr)(ms:List aR)(Gs:List bC)(sp:List (Str×Nat×Nat)):Prop where
 ob:H x=s0 t.aG dx (sf tt d ld lu)
 ti:∃lg gs,bJ t (hid S H) tt dt a lg gs ms Gs
 dp:DP (hid S H) d sp
inductive alY(t:eZ)(vs:q7)(H:Hp)(Q:VK)(_:XK):Prop|mk(x dx:Addr)(_:vs=[.ref x])(_:H x=s0 t.Ru dx [])(_:Q .dj (ag H x (.ins t.Ru dx [("scribe",.dj)])))
def eG:bE P w K mg ap dJ 1 t.aoL t.arz ["self"] (alY t):=by refine T.ar6.ok du λvs H Q E h=>?_;obtain⟨x,a,rfl,b,q⟩:=h;room;exact av (b6 br cR rfl) ⟨x,_,a,[],rfl,b,T.aah,T.Ud,by decide,q⟩
inductive aex(t:eZ)(vs:q7)(H:Hp)(Q:VK)(_:XK):Prop|mk(x0 dx0:Addr)(rs:a9)(_:vs=[.ref x0])(_:((rs=[("" : Str)]/\H x0=s0 t.Ru dx0 [("scribe",.dj)])\/∃S x dx tt dt a d ld lu ms Gs sp,rs=Gs.map (·.bb)/\H x0=s0 t.Ru dx0 [("scribe",.ref x)]/\Scr t S H x dx tt dt a d ld lu ms Gs sp/\Gs.length<=100000))(_:∀l H',H' l=r6 (rs.map V.str)->H l=none->af H H'->Q (.ref l) H')
def eI:bE P w K mg ap dJ 3 t.apA t.asj ["self"] (aex t):=by
 refine T.art.ok dC λvs H Q E h=>?_;obtain⟨y,j,A,rfl,n,q⟩:=h;room;rcases n with ⟨rfl,b⟩|⟨S,x,f,c,g,a,d,o,p,r,s,B,rfl,b,e,hl⟩
 .refine av (aQ (dc (aA we (aM br rfl) cR (aE _)) (bM (bQ aZ)) (bR (bR (aM br rfl) T.aN T.WN (RN T) hr.m T.OR.b1 .nil aH) T.aL T.rE (mP T) hr.m T.pM.b1 .nil aH))) (⟨b,T.aah,T.Ud,rfl,⟨rfl,.mk<|dM (λ_=>?_) λz=>absurd rfl z⟩⟩);exact⟨sL rfl,λl hl=>q l _ aa hl (af.ag hl)⟩
 .obtain⟨u,v,I⟩:=e.ti;have i:=I.ae aq;refine av (aQ (dc (aA we (aM br rfl) cR (aE _)) (bM (bQ aZ)) (bR (bR (aM br rfl) T.aN T.WN (RN T) hr.m T.OR.b1 .nil aH) T.aL T.rE (mP T) hr.m T.pM.b1 .nil aH))) (⟨b,T.aah,T.Ud,rfl,⟨rfl,.mk<|dM (λz=>by cases z) λ_=>?_⟩⟩);refine⟨b,T.aah,T.Ud,rfl,⟨e.ob,rfl,x,f,c,d,o,p,rfl,e.ob,i.ob,rfl,c,g,a,u,v,r,s,rfl,i,hl,q⟩⟩
noncomputable def aeW (k:Nat) (c:Str):Str:=Str.empty++Str.ofString (toString (k:Int)) ++ " " ++ c
def ahy{k:Nat}(h:k<=1000)(hc:c.length<=8):(Str.ofString (toString (k:Int))).length<=10/\(aeW k c).length<=19:=by
 have a:=aeH (i:=k) (by lia);have b:(Str.ofString " ").length=1:=by lk
 refine⟨a,?_⟩;unfold aeW;rw[ac5,T0,T0,b];lia
inductive ava(vs:q7)(H:Hp)(Q:VK)(_:XK):Prop|mk(k:Nat)(c:Str)(_:vs=[.int k,.str c])(_:k<=1000)(_:c.length<=8)(_:Q (.str (aeW k c)) H)
def aqc:bE P w K mg ap dJ 1 t.aiy t.alC ["many","colour"] ava:=by
 refine T.aje.ok aqg λvs H Q E h=>?_;obtain⟨k,c,rfl,a,b,q⟩:=h;room;obtain⟨d,hr⟩:=ahy a b;have sz:=ad0;have e:(Str.ofString " ").length=1:=by lk
 refine av (aQ (rZ (qS br (qE (qS bP w6))))) ⟨_,.inr ⟨k,rfl,akH (by lia),rfl⟩,?_,?_,c,.inl ⟨rfl,by lia⟩,?_,?_,q⟩
 .rw[ac5];lia
 .rw[ac5,T0];lia
 .show (aeW k c).length<=sizeLine;lia
 .show (aeW k c).length<=sizeLine;lia
inductive as6(K:W.Frag)(vs:q7)(H:Hp)(Q:VK)(_:XK):Prop|mk(l:Addr)(n:Nat)(c:Str)(_:vs=[.ref l])(_:H l=r6 (List.replicate (n+1) (.str c)))(_:n<1000)(_:c.length<=8)(_:∀H',af H H'->Q (.str (aeW (n+1) c)) H')
def aiM{v:V}(h:i<n):oE (List.replicate n v) (i:Int)=some v:=aB (by rw[List.getElem?_replicate,w4 h])
def aqq:bE P w K mg ap dJ 3 t.aiz t.aoz ["colours"] (as6 K):=by
 refine T.ajg.ok adV λvs H Q E h=>?_;obtain⟨l,n,c,rfl,hl,J,A,q⟩:=h;room;refine ak (b7 1 adV (bM bu)) ⟨sL rfl,λe s=>?_⟩;have x:af H (ag H e (.lst [])):=af.ag s;have u:ag H e (.lst []) e=r6 []:=aa;generalize ag H e (.lst [])=H1 at x u;refine ak (b7 2 adV ai) ?_;have d:(List.replicate (n+1) (V.str c)).length=n+1:=af2;refine aF (λp v=>(∃g r,p=[ρ l,ρ e,g,r])/\v e=r6 [.str (aeW (n+1) c)]/\af H v) (dD aa7 rfl (akZ rfl T.iG (cy ai (aK bh (ez aD T.bD (bQ br)) ai))) (jb 3 adV) ay) ?_ ?_
 .refine⟨_,_,rfl,.inl (aV.of (x _ _ hl)),1,_,rfl,by rw[d];lia,?_⟩;rw[show (((List.replicate (n+1) (V.str c)).length:Int)+1-1).toNat=n+1 by rw[d];lia];refine fH (n:=n+1) (λm p v=>(∃g r,p=[ρ l,ρ e,g,r]/\(m<=n->g=some (.int 0)))/\v e=r6 (if m<=n then [] else [.str (aeW (n+1) c)])/\af H v) ⟨⟨_,_,rfl,λ_=>rfl⟩,by rw[w4 (Z9 _)];exact u,x⟩ ?_ ?_
  .rintro m p B L ⟨⟨g,r,rfl,G⟩,a,j⟩;have f:=j _ _ hl;obtain rfl:=G (by lia);rw[w4 (by lia)] at a;refine av (bq (PW.pt (jz (aA cC dh (ez aD T.bD (bQ br)) (aE _)) (jk (aA tX (aC aU br dh) (aC aU br cG) (aE _))))) ay ay) ⟨_,_,rfl,.inl (aV.of f),rfl,.mk<|dM (λh=>?_) (λh=>?_)⟩
   .have y:m=n:=by rw[d] at h;have:=V.int.inj h;lia
    refine ak (aY (cV Z4 aa0 aa3 bW bP (bQ (aS (aqc T) hr.m rfl T.aqo T.aje.kp T.aje.b2 .nil aH (cy (aK cQ dh cG) (aC aU br cG)))))) ⟨.inl ⟨rfl,_,aV.of a⟩,aV.of f,aiM (i:=0) (by lia),n+1,c,?_,by lia,A,a,by show 0<sizeLine;decide,?_⟩
    .rw[y];show [V.int (1+(n:Int)-0),_]=_;rw[show (1+(n:Int)-0)=((n+1:Nat):Int) by lia]
    .refine av (b7 2 adV dh) ⟨⟨_,_,rfl,λz=>by lia⟩,by rw[aa,C5 (by lia)];rfl,λb o C=>?_⟩;rw[aj (au C s)];exact j _ _ C
   .have I:m+1<n+1:=by have D:m≠n:=λz=>h (by rw[d,z];show V.int (1+(n:Int))=_;congr 1;lia);lia
    exact⟨aV.of f,(by rw[Int.add_comm];exact aiM I),aV.of f,aiM (i:=0) (by lia),rfl,.mk<|mq (λD=>absurd rfl D) λ_=>bg ⟨⟨_,_,rfl,λ_=>rfl⟩,by rw[w4 (by lia)];exact a,j⟩⟩
  .rintro p B ⟨⟨g,r,rfl,_⟩,a,j⟩;rw[C5 (by lia)] at a;exact⟨⟨_,_,rfl⟩,a,j⟩
 rintro p B ⟨⟨g,r,rfl⟩,a,j⟩;refine av (aQ (cV ae2 F.slot_str_join F.type_str_join CK aZ (bQ bP))) ⟨rfl,_,e,[aeW (n+1) c],rfl,rfl,aV.of a,?_,q _ j⟩;have:=(ahy (k:=n+1) (c:=c) (by lia) A).2;rw[show (Str.ofString ", ").length=2 by lk];simp only[ab5,List.map_nil,am3,List.sum_nil,P3,ac6];lia
def amB (h:s∈sorts):W.kitOne K (.ref (ju t s)) (.ref t.iV)=some (decide (s = "word")):=by
 rcases iz h with rfl|rfl|rfl|rfl|rfl|rfl|rfl
 .rw[zy];exact T.agc
 .rw[BF];exact T.agS
 .rw[xN];exact T.aej
 .rw[yD];exact T.afY
 .rw[Cw];exact T.agU
 .rw[uW];exact T.afj
 .rw[BU];exact T.agE
def abe (rs:List cz) (n:Nat):Option Str:=(if (rs[n]?.map (·.bc))=some ("word" : Str) then [(rs[n]?.map (·.bi)).getD ("" : Str)] else iy).find? λa=>decide (firstM rs a 0=some n)
noncomputable def auL:Option Str->V
 |none=>.dj
 |some x=>.str x
def alp{xs:a9}(h:xs[i]?=some x):(xs.drop i).find? p=if p x=true then some x else (xs.drop (i+1)).find? p:=by rw[gH h,aj4];cases p x <;> rfl
def aiB(o:Option Nat)(n:Int):Yo (vU o) (.int n)=true:=by cases o <;> rfl
def aia{n:Nat}:vU o = .int n↔o=some n:=by
 cases o with
 |none=>exact⟨(λh=>by cases h),(λh=>by cases h)⟩
 |some k =>
  constructor
  .intro h;have:(k:Int)=(n:Int):=by injection h
   rw[show k=n by lia]
  .intro h;injection h with h;rw[h];rfl
inductive ap8(t:eZ)(vs:q7)(H:Hp)(Q:VK)(_:XK):Prop|mk(a:Addr)(ms:List aR)(m:aR)(k n:Nat)(_:vs=[.ref a,.int k,.int n])(_:IsRules t H a ms)(_:ms[k]?=some m)(_:n<m.bd.length)(_:wo m.bd)(_:∀H',af H H'->Q (auL (abe m.bd n)) H')
def eJ:bE P w K mg ap dJ 3 t.aoJ t.arP ["rules","mode","rule"] (ap8 t):=by
 refine T.alO.ok cx λvs H Q E h=>?_;obtain⟨a,ms,m,k,n,rfl,U,W,hn,ba,q⟩:=h;room;obtain⟨dx,lm,as,b,lr,dm,rs,ha,F,hal,hb,G,I,hA⟩:=U.bp W;have e:m.bd[n]?=some m.bd[n]:=i4 hn;generalize m.bd[n]=R at e;obtain⟨r,J,dr,C,L,dp,o⟩:=hA.at e;obtain⟨X,g2⟩:=ba.2 R (p0 e);obtain⟨fe,fs,de,ds,M⟩:=Mq (P:=P) (w:=w) (ap:=ap) T X;refine ak (b7 3 cx (aM (aC aU (aM (aC aU (aM br rfl) bP) rfl) cG) rfl)) (⟨ha,T.jf,T.d7,rfl,⟨aV.of F,cM hb,G,T.gF,T.gJ,rfl,aV.of I,cM J,L,T.cW,T.gj,rfl,?_⟩⟩);show At _ _ _ [ρ a,ι k,ι n,ρ C,none,none] H;refine aF (λg p=>∃(u:Addr) (xs:a9),g=[ρ a,ι k,ι n,ρ C,ρ u,none]/\p u=r6 (xs.map V.str)/\af H p/\(∀x∈xs,x.length<=200)/\abe m.bd n=xs.find? λd=>decide (firstM m.bd d 0=some n)) (b7 4 cx (dc (gR (ez akS T.pP (cy dh (jX rfl T.IK (v:=V.ref _) rfl)))) (bM (bQ (aM dh rfl))) (Hl (Mp T) hr.m rfl T.LA T.zP.kp T.zP.b0 .nil aH))) ?_ ?_
 .refine⟨_,_,_,_,rfl,.ins o M.cl M.ty T.cg T.ct M.mr,amB T X,.mk ?_⟩;by_cases y:R.bc = "word"
  .refine mG (c:=true) (ab4 y) ?_;rw[y,zy,B0] at o;refine⟨o,T.sr,T.kD,rfl,⟨sL rfl,λN O=>⟨N,[R.bi],rfl,aa,af.ag O,(λx s=>by rw[B1.mp s];exact g2),?_⟩⟩⟩;unfold abe;rw[e,w4 (by show some R.bc=_;rw[y])];rfl
  .refine mG (c:=false) (ab2 y) ?_;refine⟨rfl,λN Y O f1 A=>⟨N,iy,rfl,O,A,(λx s=>by have:=CQ x s;lia),?_⟩⟩;unfold abe;rw[e,C5 (by show ¬some R.bc=_;intro z;injection z with z;exact y z)]
 rintro g Y ⟨u,xs,rfl,B,A,S,hp⟩;refine aF (λg p=>af H p/\abe m.bd n=none) (dD aa7 rfl (fF eE) (jb 5 cx) ay) ?_ ?_
 .refine⟨u,rfl,⟨_,aV.of B⟩,jw (xs:=xs.map V.str) (λi g p=>(∃x,g=[ρ a,ι k,ι n,ρ C,ρ u,x])/\af Y p/\abe m.bd n=(xs.drop i).find? λd=>decide (firstM m.bd d 0=some n)) ⟨⟨_,rfl⟩,af.refl _,hp⟩ ?_ ?_ ?_⟩
  .rintro i g D _ ⟨_,j,_⟩;exact aV.of (j _ _ B)
  .rintro i xv g D s ⟨⟨x,rfl⟩,j,f⟩;rw[v3] at s;obtain⟨d,l,rfl⟩:=D1.mp s;have hrl:=S d (p0 l);rw[alp l] at f;refine av (bq (aA cC (aS (IJ T) hr.m rfl T.Hh T.xY.kp T.xY.b4 .nil aH (ao br (ao bP (cy gX ai)))) cG (aE _)) ay ay) ⟨a,ms,m,k,0,d,rfl,(U.ae A).ae j,W,ba,by lia,Z9 _,λH3 Z=>⟨aiB _ _,.mk<|dM (λh=>?_) (λh=>bg ⟨⟨_,rfl⟩,j.trans Z,?_⟩)⟩⟩
   .rw[w4 (ab4 (aia.mp h))] at f;have:=q H3 (A.trans (j.trans Z));rw[f] at this;exact av (aQ gX) (this)
   .rw[C5 (λz=>h (aia.mpr (of_decide_eq_true z)))] at f;exact f
  .rintro g D ⟨_,j,f⟩;rw[d5,List.drop_length] at f;exact⟨A.trans j,f⟩
 rintro g D ⟨j,f⟩;have:=q D j;rw[f] at this;exact av (aQ cR) this
structure Wds(H0 H:Hp)(l:Addr)(ws:a9):Prop where
 at_:H l=r6 (ws.map V.str)
 new:H0 l=none
 ae:af H0 H
def Wds.add(W:Wds H0 H l ws):Wds H0 (ag H l (.lst (ws.map V.str++[.str x]))) l (ws++[x]) :=
 ⟨by rw[aa,o0];rfl,W.new,λb o a=>by rw[aj (au a W.new)];exact W.ae _ _ a⟩
def Wds.to(W:Wds H0 H l ws)(s:af H H'):Wds H0 H' l ws:=⟨s _ _ W.at_,W.new,W.ae.trans s⟩
noncomputable def ZQ(n:Nat):Str:=Str.ofString (toString (n:Int))
def acQ (m:aR) (k:Nat):a9:=((List.range k).filter λn=>(abe m.bd n).isNone).map λn=>m.name++Str.ofString " " ++ ZQ n
def aag(ms:List aR):a9:=ms.flatMap λm=>acQ m m.bd.length
def alk(h:abe m.bd k=some x):acQ m (k+1)=acQ m k:=by rw[acQ,List.range_succ,List.filter_append,o0];simp[h,acQ]
def akY   (h:abe m.bd k=none):acQ m (k+1)=acQ m k++[m.name++Str.ofString " " ++ ZQ k]:=by rw[acQ,List.range_succ,List.filter_append,o0];simp[h,acQ]
def ahR(m:aR)(k:Nat):(acQ m k).length<=k:=by rw[acQ,d5];exact ac2 (List.length_filter_le _ _) (ap0 List.length_range)
def ahF:aag (ms++[m])=aag ms++acQ m m.bd.length:=by rw[aag,List.flatMap_append];simp[aag]
theorem afR:∀{ms:List aR},(∀m∈ms,m.bd.length<=B)->(aag ms).length<=ms.length*B
 | [],_=>by simp[aag]
 |m::r,h=>by have h1:=afR (ms:=r) (λx a=>h x (Q1 _ a));have b:=ac2 (ahR m m.bd.length) (h m ab7);show (acQ m m.bd.length++aag r).length<=_;rw[i5,P3,Nat.succ_mul];lia
def amU(h:n<100):(ZQ n).length<=2:=by
 have:=(by lk:∀n<100,(ZQ n).length<=2)
 exact this n h
structure Tells(ms:List aR):Prop where
 few:ms.length<=100
 ok:∀m∈ms,wo m.bd/\m.bd.length<=100/\m.name.length<=1000
def akR{n:Nat}(h:n<100):((n:Int)).natAbs.log2<1920:=by
 have:=(by lk:∀n<100,n.log2<1920)
 exact this n h
inductive auZ(t:eZ)(vs:q7)(H:Hp)(Q:VK)(_:XK):Prop|mk(a:Addr)(ms:List aR)(_:vs=[.ref a])(_:IsRules t H a ms)(_:Tells ms)(_:∀l H',Wds H H' l (aag ms)->Q (.ref l) H')
def eL:bE P w K mg ap dJ 4 t.amH t.ar8 ["rules"] (auZ t):=by
 refine T.anv.ok et λvs H Q E h=>?_;obtain⟨a,ms,rfl,hR,J,q⟩:=h;room;refine ak (b7 1 et (bM bu)) ⟨sL rfl,λc p=>?_⟩;have f:Wds H (ag H c (.lst [])) c []:=⟨aa,p,af.ag p⟩
 generalize ag H c (.lst [])=H0 at f;obtain⟨dx,Y,L,M,Z,l,I⟩:=hR;have s:L.length=ms.length:=I.la;refine aF (λd j=>(∃x y z,d=[ρ a,ρ c,x,y,z])/\Wds H j c (aag ms)) (dD aa7 rfl (wG rfl T.mY (bQ (aM br rfl))) (iK rfl (bF (jb 2 et) (bF (jb 3 et) fU))) ay) ?_ ?_
 .refine⟨(f.ae _ _ Z),T.jf,T.d7,rfl,⟨Y,_,rfl,aV.of (f.ae _ _ l),qK (xs:=L.map V.ref) (λi d j=>(∃x y z,d=[ρ a,ρ c,x,y,z])/\Wds H j c (aag (ms.take i))) ⟨⟨_,_,_,rfl⟩,f⟩ ?_ ?_ ?_⟩⟩
  .rintro n d j _ ⟨_,W⟩;exact aV.of (W.ae _ _ l)
  .rintro i xv pt d H1 hx N ⟨⟨x,y,z,rfl⟩,W1⟩;rw[v3] at hx;obtain⟨r,u,rfl⟩:=D1.mp hx;have hi:i<ms.length:=by rw[<- s];exact(d6.mp u).1
   have v:ms[i]?=some ms[i]:=i4 hi;generalize ms[i]=m at v;obtain⟨A,C⟩:∃b,M[i]?=some b:=⟨M[i]'(by rw[I.ll];exact hi),i4 _⟩
   obtain⟨dm,rs,D,O,R⟩:=I.ob i r A m u C v;have o:rs.length=m.bd.length:=R.1;obtain⟨k1,k2,k3⟩:=J.ok m (p0 v);have g:Wds H (ag H1 pt (.tup [.int i,.ref r])) c (aag (ms.take i)):=W1.to (af.ag N);refine⟨pt,[.int i,.ref r],rfl,bT.of aa,rfl,_,_,rfl,_,_,rfl,rfl,?_⟩;generalize ag H1 pt (.tup [.int i,.ref r])=H2 at g;have hlen:(aag (ms.take i)).length<=100*100:=by refine ac2 (afR (B:=100) λm' S=>(J.ok m' (ae5 S)).2.1) (Nat.mul_le_mul_right _ (ac2 (List.length_take_le' _ _) J.few))
   have eN:((((rs.map V.ref).length:Nat):Int)).toNat=m.bd.length:=by rw[ab9,d5,o]
   have U:IsRules t H a ms:=⟨dx,Y,L,M,Z,l,I⟩
   refine av (dD aa7 rfl (fm rfl T.iG (bQ (ez aD T.bD (bQ (aM dh rfl))))) (jb 4 et) ay) (⟨(g.ae _ _ D),T.gF,T.gJ,rfl,⟨A,_,rfl,.inl (aV.of (g.ae _ _ O)),_,rfl,by rw[d5,o];lia,by rw[d5,o];lia,fH (λk d j=>(∃z,d=[ρ a,ρ c,ι i,ρ r,z])/\Wds H j c (aag (ms.take i)++acQ m k)) ⟨⟨_,rfl⟩,by rw[show acQ m 0=[] from rfl,ad2];exact g⟩ ?_ ?_⟩⟩)
   .rintro k d H3 X ⟨⟨z',rfl⟩,F⟩;rw[eN] at X;have e:k<100:=ab1 X k2;have hl3:=ahR m k;show At _ _ _ _ _;rw[show (0:Int)+(k:Int)=(k:Int) from Int.zero_add _];refine av (bq (aA we (aS (eJ T) hr.m rfl T.atU T.alO.kp T.alO.b3 .nil aH (ao br (cy cG eE))) cR (aE _)) ay ay) ⟨a,ms,m,i,k,rfl,U.ae F.ae,v,X,k1,λH4 s4=>?_⟩;have G:=F.to s4;cases hp:abe m.bd k with
    |some x=>exact⟨rfl,.mk<|dM (λz=>by cases z) λ_=>bg ⟨⟨_,rfl⟩,by rw[alk hp];exact G⟩⟩
    |none =>
     refine⟨rfl,.mk<|dM (λ_=>?_) λz=>absurd rfl z⟩;have e1:(Str.ofString " ").length=1:=by lk
     have e2:=amU e;refine av (aY (cV Z4 aa0 aa3 bW bP (bQ (aK bY (aK bY (aM dh rfl) aZ) (pO ZW T.aeL (bQ eE)))))) ⟨.inl ⟨rfl,_,aV.of G.at_⟩,G.ae _ _ D,T.gF,T.jT,rfl,_,_,rfl,rfl,bK (by lia),_,rfl,akR e,_,_,rfl,rfl,bK (by rw[Str.length_append];show _+(ZQ k).length<=_;lia),G.at_,cL (by rw[d5,i5];lia),⟨_,rfl⟩,?_⟩;rw[akY hp,<- ac0];exact G.add
   .rintro d H3 ⟨⟨z',rfl⟩,F⟩;rw[eN] at F;refine⟨⟨_,_,_,rfl⟩,?_⟩;rw[ae1 v,ahF];exact F
  .rintro d j ⟨h1,h2⟩;rw[d5,s,ab3] at h2;exact⟨h1,h2⟩
 rintro d j ⟨⟨x,y,z,rfl⟩,W⟩;exact av (aQ bP) (q _ _ W)
inductive MW(vs:q7)(H:Hp)(Q:VK)(_:XK):Prop|mk(l:Addr)(ls:c6)(_:vs=[.ref l])(_:H l=r6 (ls.map V.ref))(_:(∀a∈ls,H a=r6 []))(_:∀lt H',H' lt=r6 []->af H H'->Q (.ref lt) H')
def RU:bE P w K mg ap dJ 2 t.Jr t.M6 ["rows_marks"] MW:=by
 refine T.Gg.ok m8 λvs H Q E h=>?_;obtain⟨l,F,rfl,hl,G,q⟩:=h;room;refine ak (b7 1 m8 (bM bu)) ⟨sL rfl,λlt v=>?_⟩;refine ak (b7 2 m8 (bM bu)) ⟨sL rfl,λlw e=>?_⟩;have x:lt≠lw:=λz=>by rw[<- z,aa] at e;cases e
 have f:af H (ag (ag H lt (.lst [])) lw (.lst [])):=(af.ag v).to e;have B:ag (ag H lt (.lst [])) lw (.lst []) lt=r6 []:=by rw[aj x,aa]
 generalize ag (ag H lt (.lst [])) lw (.lst [])=H1 at f B;show At _ _ _ [ρ l,ρ lt,ρ lw,none,none,none,none,none] H1;refine aF (λa n=>(∃p r b c d,a=[ρ l,ρ lt,ρ lw,p,r,b,c,d])/\af H1 n) (dD aa7 rfl (wG rfl T.mY (bQ br)) (iK rfl (bF (jb 3 m8) (bF (jb 4 m8) fU))) ay) ?_ ?_
 .refine⟨l,_,rfl,aV.of (f _ _ hl),qK (xs:=F.map V.ref) (λi a n=>(∃p r b c d,a=[ρ l,ρ lt,ρ lw,p,r,b,c,d])/\af H1 n) ⟨⟨_,_,_,_,_,rfl⟩,af.refl _⟩ ?_ ?_ ?_⟩
  .rintro i a u _ ⟨_,M⟩;exact aV.of (M _ _ (f _ _ hl))
  .rintro i I pt a u g y ⟨⟨p,r,b,c,d,rfl⟩,M⟩;rw[v3] at g;obtain⟨s,A,rfl⟩:=D1.mp g;have M2:=M.to (o:=.tup [.int i,.ref s]) y;have C:=G s (p0 A);refine⟨pt,[.int i,.ref s],rfl,bT.of aa,rfl,_,_,rfl,_,_,rfl,rfl,?_⟩;refine av (dD aa7 rfl (fF eE) (iK rfl (bF (jb 5 m8) (bF (jb 6 m8) fU))) ay) ⟨s,rfl,⟨_,aV.of (M2 _ _ (f _ _ C))⟩,jw (xs:=[]) (λj a n=>(∃b c d,a=[ρ l,ρ lt,ρ lw,ι i,ρ s,b,c,d])/\af H1 n) ⟨⟨_,_,_,rfl⟩,M2⟩ ?_ ?_ ?_⟩
   .rintro j a D _ ⟨_,M⟩;exact aV.of (M _ _ (f _ _ C))
   .intro j I a D g;simp at g
   .rintro a D ⟨⟨b,c,d,rfl⟩,J⟩;exact⟨⟨_,_,_,_,_,rfl⟩,J⟩
  .rintro a u g;exact g
 rintro a u ⟨⟨p,r,b,c,d,rfl⟩,M⟩;exact av (aQ bP) (q lt u (M _ _ B) (f.trans M))
inductive xX(t:eZ)(vs:q7)(H:Hp)(Q:VK)(_:XK):Prop|mk(x dx tt d ld lu dt a lg:Addr)(gs:c6)(ms:List aR)(Gs:List bC)(_:vs=[.ref x])(_:H x=s0 t.aG dx (sf tt d ld lu))(_:bJ t H tt dt a lg gs ms Gs)(_:Gs.length<=100)(_:(∀G∈Gs,G.d.bj=[]))(_:∀l H',H' l=r6 []->af H H'->Q (.ref l) H')
def Gp:bE P w K mg ap dJ 4 t.HU t.ND ["self"] (xX t):=by
 refine T.E6.ok Um λvs H Q E h=>?_;obtain⟨x,dx,j,d,ld,lu,o,a,v,y,A,c,rfl,B,I,hl,R,q⟩:=h;room;refine av (@aQ _ _ _ _ (aS (RU T) hr.m rfl T.sP T.Gg.kp T.Gg.b1 .nil aH (bQ (iM (sc:=az (AA 68 2)) (N:=["self"]) (x:="row") (caps:=[("self",0)]) (by walk_at "ck") (fm rfl T.iG (bQ (ez aD T.bD (bQ (bR (@aM _ _ _ _ _ br rfl) T.aL T.rE (mP T) hr.m T.pM.b1 .nil aH))))) (λ_ _ _ _=>(bw (@kc _ K _ _ _ _ br rfl (by left)) T.aL T.QJ (JA T) hr.m T.EJ.b2 .nil aH (bQ bP))))))) (⟨B,T.aN,T.bN,rfl,⟨I.ob,rfl,j,o,a,v,y,A,c,rfl,I,by lia,λla H1 S f1 U=>?_⟩⟩);refine⟨_,_,rfl,.inl (aV.of S),_,rfl,by rw[d5,d5];lia,by rw[d5,d5];lia,?_⟩;rw[show ((((c.map (·.bb)).map V.str).length:Nat):Int).toNat=c.length by rw[d5,d5];lia];refine tT (n:=c.length) (λi r C=>∃e:c6,r=e.map V.ref/\(∀a∈e,C a=r6 [])/\af H C) ⟨[],rfl,(λa h=>by cases h),U⟩ (cL (by lia)) ?_ ?_
 .rintro i r W X f ⟨e,rfl,s,g⟩;obtain⟨G,F⟩:∃G,c[i]?=some G:=⟨c[i],i4 X⟩
  have J:=I.ae g;show _;refine⟨(g _ _ B),T.aN,T.bN,rfl,⟨J.ob,rfl,j,o,a,v,y,A,c,G,i,?_,J,F,λl L Y Z M N p=>?_⟩⟩
  .rw[Int.zero_add];rfl
  .rw[R G (p0 F)] at M;obtain rfl:Y=[]:=ah3.mp M.1;refine⟨_,by lia,rfl,by lia,by rw[i5,f];rfl,e++[l],by rw[o0];rfl,λb u=>?_,g.trans p⟩;rcases X1.mp u with z|z
   .exact p _ _ (s b z)
   .rw[B1.mp z];exact Z
 .rintro r W f ⟨e,rfl,s,g⟩ D O;exact⟨D,e,rfl,aa,λb u=>af.ag O _ _ (s b u),λlt L N p=>q lt L N ((g.to O).trans p)⟩
inductive avG(t:eZ)(vs:q7)(H:Hp)(Q:VK)(_:XK):Prop|mk(e)(l)(xs)(y)(_:vs=[.ref e,.ref l,y])(_:H e=some (aaG e t.Jh none))(_:H l=r6 xs)(_:∀tp l2 dx H1,H1=ag (ag H tp (.tup xs)) l2 (.lst xs)->H tp=none->H l2=none->l2≠tp->H1 dx=none->Q .dj (ag (ag (ag H1 dx (.xd [("ring",.ref l2)])) e (aaG e t.Jh (some dx))) dx (.xd [("sign",y),("ring",.ref l2)])))
def eM:bE P w K mg ap dJ 1 t.ajv t.arn ["self","ring","sign"] (avG t):=by
 refine T.arl.ok cr λvs H Q E h=>?_;obtain⟨e,l,b,y,rfl,d,hl,q⟩:=h;room;have s:l≠e:=λz=>by rw[z,d] at hl;cases hl
 refine ak (aY (apN rfl T.oA T.abB.1 T.abB.2.1 T.abB.2.2 (ao br (cy (nZ agg rfl T.aqA rfl (bQ bP)) cG)))) ?_;refine⟨l,b,rfl,.inl ⟨aV.of hl,λtp a=>⟨e,t.Jh,none,_,rfl,?_,T.acm.toTf,sL rfl,?_⟩⟩⟩
 .rw[aj (λz=>by rw[<- z,d] at a;cases a)];exact d
 have j:ag H tp (.tup b) l=r6 b:=by rw[aj (λz=>by rw[<- z,hl] at a;cases a)];exact hl
 have f:ag H tp (.tup b) e=some (aaG e t.Jh none):=by rw[aj (λz=>by rw[<- z,d] at a;cases a)];exact d
 refine ak (afc br (nZ eV rfl T.jn rfl (bQ bP)) rfl) ⟨l,b,rfl,.inl (aV.of j),λi c=>?_⟩;have r:i≠tp:=λz=>by rw[z,aa] at c;cases c
 have n:H i=none:=by rw[aj r] at c;exact c
 have g:ag (ag H tp (.tup b)) i (.lst b) e=some (aaG e t.Jh none):=by rw[aj (λz=>by rw[<- z,f] at c;cases c)];exact f
 refine⟨e,_,rfl,T.acm.toTf,T.agG,.inl ⟨g,λo p=>?_⟩⟩;have ne:o≠e:=λz=>by rw[z,g] at p;cases p
 exact av (afc br cG rfl) ⟨e,_,rfl,T.acm.toTf,T.ahh,.inr ⟨o,_,aa,by rw[aj ne,aa],by show 1<1000;decide,q tp i o _ rfl a n r p⟩⟩
def Rg (t:eZ) (E:XK) (H:Hp) (xs:q7) (y:V):Prop:=∀e b c a,a e=some (jQ e t.Jh (some b))->a b=some (.xd [("sign",y),("ring",.ref c)])->a c=r6 xs->af H a->E (.ref t.Jh) (some e) a
def Rg.go(h:Rg t E H xs y)(hl:H l=r6 xs)(he:H e=none):avG t [.ref e,.ref l,y] (ag H e (aaG e t.Jh none)) (λv H3=>v = .dj/\∃d,H3 e=some (aaG e t.Jh d)/\E (.ref t.Jh) (some e) (ag H3 e (jQ e t.Jh d))) E0:=by
 refine⟨e,l,xs,y,rfl,aa,by rw[aj (au hl he)];exact hl,λtp l2 dx F i a f G c=>⟨rfl,some dx,?_,?_⟩⟩
 .subst i;have p:e≠tp:=λz=>by rw[<- z,aa] at a;cases a
  have g:e≠l2:=λz=>by rw[<- z,aa] at f;cases f
  have q:e≠dx:=λz=>by rw[<- z,aj g,aj p,aa] at c;cases c
  rw[aj q,aa]
 .subst i;have p:e≠tp:=λz=>by rw[<- z,aa] at a;cases a
  have g:e≠l2:=λz=>by rw[<- z,aa] at f;cases f
  have q:e≠dx:=λz=>by rw[<- z,aj g,aj p,aa] at c;cases c
  have r:l2≠dx:=λz=>by rw[<- z,aa] at c;cases c
  have B:dx≠tp:=λz=>by rw[aj (aa4 r),z,aa] at c;cases c
  have j:H tp=none:=by rw[aj (aa4 p)] at a;exact a
  have s:H l2=none:=by rw[aj (aa4 g)] at f;exact f
  have u:H dx=none:=by rw[aj (aa4 r),aj B,aj (aa4 q)] at c;exact c
  refine h e dx l2 _ aa (by rw[aj (aa4 q),aa]) ?_ λb o n=>?_
  .rw[aj (aa4 g),aj r,aj (aa4 g),aj r,aa]
  .have w:=au n he;have x:=au n u;rw[aj w,aj x,aj w,aj x,aj (au n s),aj (au n j),aj w];exact n
inductive aqp(t:eZ)(vs:q7)(H:Hp)(Q:VK)(E:XK):Prop|mk(a:Addr)(ms:List aR)(_:vs=[.ref a])(_:IsRules t H a ms)(_:eK ms)(_:(oF ms=none->∀H',af H H'->Q .dj H'))(_:∀ring bb,oF ms=some (ring,bb)->Rg t E H ((ring.map (nameAt ms)).map V.str) (Us bb))
def agf:bE P w K mg ap (qX P w) 6 t.Hi t.QM ["rules"] (aqp t):=by
 refine T.Jo.Ma JP (λvs H Q E h=>?_) (λq A d s H vs Q E hr h=>?_)
 .obtain⟨a,f,rfl,_⟩:=h;rfl
 .obtain⟨a,f,rfl,r,G,u,v⟩:=h;refine ak (b7 1 JP (aS (VV T) hr.m rfl T.UR T.Kl.kp T.Kl.b1 .nil aH (bQ br))) ⟨a,f,rfl,r,G,λi n=>⟨λx=>?_,λb c p l y o hl=>?_⟩⟩
  .exact av (bq (aA nR bP cR (aE _)) ay ay) ⟨rfl,.mk<|mq (λh=>absurd rfl h) (λ_=>bg (u x i n))⟩
  .refine av (bq (aA nR bP cR (aE _)) ay ay) ⟨rfl,.mk<|mq (λ_=>?_) (λh=>by cases h)⟩;have g:Rg t E i ((b.map (nameAt f)).map V.str) (Us c):=λe z B C D F I J=>v b c y e z B C D F I (n.trans J);exact av (aek T.acm.toTf T.afz.1 T.afz.2.1 T.afz.2.2 (eM T) T.arl.b3 hr.m rfl T.agn (cy (aC aO bP ai) (aC aO bP ai))) ⟨bT.of o,aB (j:=0) rfl,bT.of o,aB (j:=1) rfl,sL rfl,λe L=>g.go hl L⟩
inductive anJ(t:eZ)(vs:q7)(H:Hp)(Q:VK)(E:XK):Prop|mk(x dx a:Addr)(ms:List aR)(v:V)(ring:c7)(bb:Str)(_:vs=[.ref x,.ref a,v])(_:H x=s0 t.bA dx [])(_:IsRules t H a ms)(_:eK ms)(_:oF ms=some (ring,bb))(_:Rg t E H ((ring.map (nameAt ms)).map V.str) (Us bb))
def acu:bE P w K mg ap (qX P w) 7 t.FL t.QF ["self","rules","rows"] (anJ t):=by
 refine T.QV.Ma RT (λvs H Q E h=>?_) (λo A d s H vs Q E hr h=>?_)
 .obtain⟨x,p,a,i,v,c,e,rfl,_⟩:=h;rfl
 .obtain⟨x,p,a,i,v,c,e,rfl,r,q,G,j,g⟩:=h;refine ak (aY (aS (agf T) hr.m rfl T.Ri T.Jo.kp T.Jo.b1 .nil tD (bQ bP))) ⟨a,i,rfl,q,G,(λl=>by rw[j] at l;cases l),λf n b=>?_⟩;rw[j] at b;injection (aa1 b) with e1 e2
  subst e1 e2;exact g
inductive afB(t:eZ)(vs:q7)(H:Hp)(Q:VK)(E:XK):Prop|mk(x dx a:Addr)(ms:List aR)(v:V)(ring:c7)(bb:Str)(_:vs=[.ref x,.ref a,v])(_:H x=s0 t.aG dx [])(_:IsRules t H a ms)(_:eK ms)(_:oF ms=some (ring,bb))(_:Rg t E H ((ring.map (nameAt ms)).map V.str) (Us bb))
def acC:bE P w K mg ap (qX P w) 9 t.Jw t.Pu ["self","rules","rows"] (afB t):=by
 refine T.Q0.Ma U3 (λvs H Q E h=>?_) (λn A i s H vs Q E hr h=>?_)
 .obtain⟨x,o,a,l,v,b,c,rfl,_⟩:=h;rfl
 .obtain⟨x,o,a,l,v,b,c,rfl,I,p,G,q,g⟩:=h;exact ak (b6 br (fj T.Dm (acu T) hr.m rfl T.AR T.QV.b3 .nil tD (cy bP cG)) rfl) (λr u d f ne=>⟨r,u,a,l,v,b,c,rfl,aa,p.ae (cD d f),G,q,λe j y z B C D F=>g e j y z B C D ((cD d f).trans F)⟩)
inductive afe(t:eZ)(vs:q7)(H:Hp)(Q:VK)(E:XK):Prop|mk(x dx a lg:Addr)(gs:c6)(ms:List aR)(Gs:List bC)(i:Int)(_:vs=[.ref x,.int i])(_:bJ t H x dx a lg gs ms Gs)(_:w5 i)(_:¬Kv Gs i)(_:Np t E H)
def aaM:bE P w K mg ap (qX P w) 3 t.KH t.Pj ["self","row"] (afe t):=by
 refine T.Bk.Ma Sm (λvs H Q E h=>?_) (λj A b s H vs Q E hr h=>?_)
 .obtain⟨x,c,a,d,e,f,g,i,rfl,_⟩:=h;rfl
 .obtain⟨x,c,a,d,e,f,g,i,rfl,I,l,n,o⟩:=h;exact ak (aY (bw br T.aL T.Jz (pB T) hr.m T.zf.b2 .nil tD (bQ bP))) ⟨I.ob,rfl,x,c,a,d,e,f,g,i,rfl,I,l,λz=>absurd z n,λ_=>o⟩
def acZ:bE P w K mg ap (qX P w) 4 t.HM t.Oq ["self","row"] (afe t):=by
 refine T.OI.Ma UE (λvs H Q E h=>?_) (λj A b s H vs Q E hr h=>?_)
 .obtain⟨x,c,a,d,e,f,g,i,rfl,_⟩:=h;rfl
 .obtain⟨x,c,a,d,e,f,g,i,rfl,I,l,n,o⟩:=h;exact av (aQ (pO eV T.jn (bQ (aM (bw br T.aL T.Ig (aaM T) hr.m T.Bk.b2 .nil tD (bQ bP)) rfl)))) ⟨I.ob,rfl,x,c,a,d,e,f,g,i,rfl,I,l,n,o⟩
def afy:bE P w K mg ap (qX P w) 10 t.BD t.JF ["self","row","at","text"] (abl (UN t) (GK t)):=(Vs T).aw.or (mV T)
def afQ:bE P w K mg ap (qX P w) 10 t.BZ t.FD ["self","row","at","row2","at2"] (abl (Rf t) (GS t)):=(V0 T).aw.or (uD T)
def acA:bE P w K mg ap (qX P w) 4 t.Jj t.OD ["self","name","row","at"] (abl (VL t) (afi t)):=(Wb T).aw.or (acE T)
def abS:bE P w K mg ap (qX P w) 1 t.Hv t.Pe ["self","name"] (abl (Lc t) (ael t)):=(UG T).aw.or (abV T)
def aeY:bE P w K mg ap (qX P w) 9 t.BX t.Fo ["self"] (abl (wF t) (yI t true)):=(UZ T).aw.or (rJ T)
def aeP:bE P w K mg ap (qX P w) 9 t.Cd t.IU ["self"] (abl (wI t) (yI t false)):=(VC T).aw.or (rP T)
def acB:bE P w K mg ap (qX P w) 9 t.Jw t.Pu ["self","rules","rows"] (abl (Mm t) (afB t)):=(Rr T).aw.or (acC T)
def acz:bE P w K mg ap (qX P w) 3 t.KH t.Pj ["self","row"] (abl (Di t) (afe t)):=((zO T).mono (by decide)).aw.or (aaM T)
def ado:bE P w K mg ap (qX P w) 4 t.HM t.Oq ["self","row"] (abl (GZ t λG=>G.d.aP.map V.str) (afe t)):=((Rm T).mono (by decide)).aw.or (acZ T)
inductive aok(t:eZ)(vs:q7)(H:Hp)(Q:VK)(E:XK):Prop|mk(x dx y tt d ld lu:Addr)(n b:Str)(is:c7)(_:vs=[.ref x,.ref y])(_:H x=s0 t.aG dx (sf tt d ld lu))(_:((∃i j,is=[i,j]/\abh t H y "mark" [n] is b/\abl (VL t) (afi t) [.ref x,.str n,.int i,.int j] H (λ_ H'=>Q .dj H') E)\/(abh t H y "drop" [n] is b/\abl (Lc t) (ael t) [.ref x,.str n] H (λ_ H'=>Q .dj H') E)))
def afq:bE P w K mg ap (qX P w) 5 t.anr t.aro ["scribe","line"] (aok t):=by
 refine T.amb.Ma el (λvs H Q E h=>?_) (λu A e s H vs Q E hr h=>?_)
 .obtain⟨x,f,y,v,d,z,B,n,b,C,rfl,_⟩:=h;rfl
 .obtain⟨x,f,y,v,d,z,B,n,b,C,rfl,r,D⟩:=h;rcases D with ⟨i,j,rfl,⟨c,g,l,a,o,p⟩,q⟩|⟨⟨c,g,l,a,o,p⟩,q⟩
  .refine av (bq (aA cC (aM bP rfl) aZ (aE _)) ay ay) (⟨a,T.Mf,T.GC,rfl,⟨rfl,.mk<|dM (λ_=>?_) λh=>absurd rfl h⟩⟩);exact av (aY (bw br T.aN T.Yd (acA T) hr.m T.NW.b4 .nil tD (ao (aC aU (aM bP rfl) ai) (cy (aC aU (aM bP rfl) ai) (aC aU (aM bP rfl) ai))))) ⟨r,rfl,a,T.Mf,T.abx,rfl,aV.of o,aB (j:=0) rfl,a,T.Mf,T.aab,rfl,aV.of p,aB (j:=0) rfl,a,T.Mf,T.aab,rfl,aV.of p,aB (j:=1) rfl,q⟩
  .refine av (bq (aA cC (aM bP rfl) aZ (aE _)) ay ay) (⟨a,T.Mf,T.GC,rfl,⟨rfl,.mk<|dM (λh=>absurd h (by decide)) λ_=>?_⟩⟩);exact av (aY (bw br T.aN T.XI (abS T) hr.m T.M8.b2 .nil tD (bQ (aC aU (aM bP rfl) ai)))) ⟨r,rfl,a,T.Mf,T.abx,rfl,aV.of o,aB (j:=0) rfl,q⟩
inductive ajU(t:eZ)(vs:q7)(H:Hp)(Q:VK)(E:XK):Prop|mk(x dx y tt d ld lu:Addr)(hd b:Str)(ns:a9)(is:c7)(_:vs=[.ref x,.ref y])(_:H x=s0 t.aG dx (sf tt d ld lu))(_:abh t H y hd ns is b)(_:((hd = "put" /\ ∃i j,is=[i,j]/\abl (UN t) (GK t) [.ref x,.int i,.int j,.str b] H Q E)\/(hd = "cut" /\ ∃i j i2 j2,is=[i,j,i2,j2]/\abl (Rf t) (GS t) [.ref x,.int i,.int j,.int i2,.int j2] H Q E)\/(hd = "undo" /\ abl (wF t) (yI t true) [.ref x] H Q E)\/(hd = "redo" /\ abl (wI t) (yI t false) [.ref x] H Q E)))
def ahq:bE P w K mg ap (qX P w) 11 t.amh t.asM ["scribe","line"] (ajU t):=by
 refine T.amE.Ma eh (λvs H Q E h=>?_) (λo A n s H vs Q E hr h=>?_)
 .obtain⟨x,g,y,p,d,q,r,u,b,v,z,rfl,_⟩:=h;rfl
 .obtain⟨x,g,y,p,d,q,r,u,b,v,z,rfl,l,⟨B,D,e,a,F,f⟩,C⟩:=h;refine ak (b7 2 eh (aM bP rfl)) (⟨a,T.Mf,T.aab,rfl,?_⟩);rcases C with ⟨rfl,i,j,rfl,c⟩|⟨rfl,i,j,G,I,rfl,c⟩|⟨rfl,c⟩|⟨rfl,c⟩
  .refine ak (bq (aA cC (aM bP rfl) aZ (aE _)) ay ay) (⟨a,T.Mf,T.GC,rfl,⟨rfl,.mk<|dM (λ_=>?_) λh=>absurd rfl h⟩⟩);exact av (aQ (bw br T.aN T.E3 (afy T) hr.m T.yy.b4 .nil tD (ao (aC aU cG ai) (cy (aC aU cG ai) (aM bP rfl))))) ⟨l,rfl,aV.of f,aB (j:=0) rfl,aV.of f,aB (j:=1) rfl,a,T.Mf,T.abM,rfl,c⟩
  all_goals refine ak (bq (aA cC (aM bP rfl) aZ (aE _)) ay ay) (⟨a,T.Mf,T.GC,rfl,⟨rfl,.mk<|dM (λh=>absurd h (by decide)) λ_=>bg ?_⟩⟩)
  .refine ak (bq (aA cC (aM bP rfl) aZ (aE _)) ay ay) (⟨a,T.Mf,T.GC,rfl,⟨rfl,.mk<|dM (λ_=>?_) λh=>absurd rfl h⟩⟩);exact av (aQ (bw br T.aN T.QT (afQ T) hr.m T.CA.b5 .nil tD (ao (aC aU cG ai) (ao (aC aU cG ai) (cy (aC aU cG ai) (aC aU cG ai)))))) ⟨l,rfl,aV.of f,aB (j:=0) rfl,aV.of f,aB (j:=1) rfl,aV.of f,aB (j:=2) rfl,aV.of f,aB (j:=3) rfl,c⟩
  all_goals refine ak (bq (aA cC (aM bP rfl) aZ (aE _)) ay ay) (⟨a,T.Mf,T.GC,rfl,⟨rfl,.mk<|dM (λh=>absurd h (by decide)) λ_=>bg ?_⟩⟩)
  .refine ak (bq (aA cC (aM bP rfl) aZ (aE _)) ay ay) (⟨a,T.Mf,T.GC,rfl,⟨rfl,.mk<|dM (λ_=>?_) λh=>absurd rfl h⟩⟩);exact av (aQ (bR br T.aN T.Px (aeY T) hr.m T.BQ.b1 .nil tD)) ⟨l,rfl,c⟩
  .refine ak (bq (aA cC (aM bP rfl) aZ (aE _)) ay ay) (⟨a,T.Mf,T.GC,rfl,⟨rfl,.mk<|dM (λh=>absurd h (by decide)) λ_=>bg ?_⟩⟩);exact av (aQ (bR br T.aN T.Q8 (aeP T) hr.m T.Cg.b1 .nil tD)) ⟨l,rfl,c⟩
def atg (ms:List aR):Str:=Str.join (Str.ofString "\n") (aag ms)
inductive anu(t:eZ)(K:W.Frag)(vs:q7)(H:Hp)(Q:VK)(E:XK):Prop|mk(x dx y tt dt a d ld lu lg:Addr)(gs:c6)(ms:List aR)(Gs:List bC)(hd b:Str)(ns:a9)(is:c7)(_:vs=[.ref x,.ref y])(_:H x=s0 t.aG dx (sf tt d ld lu))(_:bJ t H tt dt a lg gs ms Gs)(_:abh t H y hd ns is b)(_:((hd = "row" /\ ∃i,is=[i]/\((∃G,Gs[i]?=some G/\Q (.str G.bb) H)\/(w5 (i:Int) /\ ¬Kv Gs (i:Int)/\Np t E H))) \/ (hd = "tint" /\ ∃i,is=[i]/\((∃G n c,Gs[i]?=some G/\G.d.aP=List.replicate (n+1) c/\n<1000/\c.length<=8/\∀H',af H H'->Q (.str (aeW (n+1) c)) H')\/(w5 (i:Int) /\ ¬Kv Gs (i:Int)/\Np t E H))) \/ (hd = "marks" /\ ∃n i j,DP H d [(n,i,j)]/\n.length<=100/\i<10000/\j<10000/\∀H',af H H'->Q (.str (n ++ " " ++ plT i j)) H') \/ (hd = "folds" /\ Gs.length<=100/\(∀G∈Gs,G.d.bj=[])/\∀H',af H H'->Q (.str "") H') \/ (hd = "never" /\ Tells ms/\((aag ms).map (·.length)).sum<=10000/\(aag ms).length<=100/\∀H',af H H'->Q (.str (atg ms)) H')))
def aoU:bE P w K mg ap (qX P w) 5 t.aiA t.amr ["scribe","line"] (anu t K):=by
 refine T.aiX.Ma ajH (λvs H Q E h=>?_) (λcdv A outer s H vs Q E hr h=>?_)
 .obtain⟨x,J,y,f,v,a,d,ld,lu,N,O,B,R,hd,b,ns,is,rfl,_⟩:=h;rfl
 .obtain⟨x,J,y,f,v,a,d,ld,lu,N,O,B,R,hd,b,ns,is,rfl,C,I,⟨dy,ln,lm,r,hn,hm⟩,hc⟩:=h;refine ak (b7 2 ajH (bR br T.aN T.WN (RN T) hr.m T.OR.b1 .nil aH)) ⟨C,rfl,x,J,f,d,ld,lu,rfl,C,?_⟩;rcases hc with ⟨rfl,i,rfl,q⟩|⟨rfl,i,rfl,q⟩|⟨rfl,n,i,j,u,hnl,hi,hj,q⟩|⟨rfl,hl,hk,q⟩|⟨rfl,hT,hs,hl,q⟩
  .refine ak (bq (aA cC (aM bP rfl) aZ (aE _)) ay ay) (⟨r,T.Mf,T.GC,rfl,⟨rfl,.mk<|dM (λ_=>?_) λh=>absurd rfl h⟩⟩);refine av (aQ (aM (bw cG T.aL T.Ig (acz T) hr.m T.Bk.b2 .nil tD (bQ (aC aU (aM bP rfl) ai))) rfl)) ⟨I.ob,rfl,r,T.Mf,T.aab,rfl,aV.of hm,aB (j:=0) rfl,?_⟩;rcases q with ⟨G,hG,q⟩|⟨S,L,qe⟩
   .refine .inl ⟨f,v,a,N,O,B,R,G,i,rfl,I,hG,λg hg=>?_⟩;obtain⟨dg,lb,lt,lo,lk,hg⟩:=hg;exact⟨hg.ob,T.cB,T.cU,rfl,q⟩
   .exact .inr ⟨f,v,a,N,O,B,R,i,rfl,I,S,L,qe⟩
  all_goals refine ak (bq (aA cC (aM bP rfl) aZ (aE _)) ay ay) (⟨r,T.Mf,T.GC,rfl,⟨rfl,.mk<|dM (λh=>absurd h (by decide)) λ_=>bg ?_⟩⟩)
  .refine ak (bq (aA cC (aM bP rfl) aZ (aE _)) ay ay) (⟨r,T.Mf,T.GC,rfl,⟨rfl,.mk<|dM (λ_=>?_) λh=>absurd rfl h⟩⟩);refine av (aQ (aS (aqq T) hr.m rfl T.aq4 T.ajg.kp T.ajg.b1 .nil aH (bQ (bw cG T.aL T.Wz (ado T) hr.m T.OI.b2 .nil tD (bQ (aC aU (aM bP rfl) ai)))))) ⟨I.ob,rfl,r,T.Mf,T.aab,rfl,aV.of hm,aB (j:=0) rfl,?_⟩;rcases q with ⟨G,n,c,hG,ht,hl,U,q⟩|⟨S,L,qe⟩
   .exact .inl ⟨f,v,a,N,O,B,R,G,i,rfl,I,hG,λl W hl' _ s'=>⟨l,n,c,rfl,by rw[hl'];show r6 (G.d.aP.map V.str)=_;rw[ht,List.map_replicate],hl,U,λH2 s2=>q H2 (s'.trans s2)⟩⟩
   .exact .inr ⟨f,v,a,N,O,B,R,i,rfl,I,S,L,qe⟩
  all_goals refine ak (bq (aA cC (aM bP rfl) aZ (aE _)) ay ay) (⟨r,T.Mf,T.GC,rfl,⟨rfl,.mk<|dM (λh=>absurd h (by decide)) λ_=>bg ?_⟩⟩)
  .refine ak (bq (aA cC (aM bP rfl) aZ (aE _)) ay ay) (⟨r,T.Mf,T.GC,rfl,⟨rfl,.mk<|dM (λ_=>?_) λh=>absurd rfl h⟩⟩);refine av (@aQ _ _ _ _ (@cV _ _ _ _ _ _ _ _ _ _ _ _ ae2 F.slot_str_join F.type_str_join CK aZ (bQ (@Ca _ _ _ (@ahz _ (az (top 85)) _ ["scribe","line","text"] _ _ ["name","place"] _ (g2 K) _ [] _ _ (by walk_at "ck") (@apt _ _ _ _ _ _ _ _ (bR br T.aN T.QZ (KU T) hr.m T.Ho.b1 .nil aH) (by left) (by left)) (λ_ _ _ _=>by exact iK rfl (bF (pQ (i:=0) (show (["name","place"]:a9).Nodup by lk) rfl (Or.inl rfl)) (bF (pQ (i:=1) (show (["name","place"]:a9).Nodup by lk) rfl (Or.inl rfl)) fU))) (λ_ _ _ _=>by exact(@aS _ _ _ _ _ _ _ _ _ _ _ _ _ _ _ _ (aqz T) hr.m rfl T.aqi T.aiJ.kp T.aiJ.b2 .nil aH (ao br (ao bP bu (by left)) (by left)) (by left) (by left) (by left))) (by left) (by left) (by left) (by left)))) (by left) (by left) (by left) (by left) (by left))) ⟨rfl,C,rfl,x,J,f,d,ld,lu,[(n,i,j)],rfl,C,u,by simp[bU],by show 1<64;decide,λd4 X hd4 nd4 s4=>?_⟩;obtain⟨ps4,e4,Y,p4⟩:=hd4;rw[show dB [(n,i,j)]=[(n,i,j)] by simp[dB,gy,BK,bU]] at e4 Y p4;obtain⟨p,rfl⟩:∃p,ps4=[p]:=List.length_eq_one_iff.mp e4;have U:X p=t0 [aX i,aX j]:=p4.2 0 p _ rfl rfl;have M:X d4=some (.dK [(Sum.inr n,.ref p)]):=Y;refine⟨d4,_,rfl,M,λo S=>ais aa λpt e=>?_⟩;have npd:p≠d4:=λz=>by rw[z,M] at U;cases U
   refine⟨p,n,i,j,rfl,hnl,bT.of (af.ag e _ _ (by rw[aj npd];exact U)),hi,hj,WI'.end_ (af.ag e _ _ aa) λD u=>?_⟩;have npD:pt≠D:=λz=>by rw[<- z,aa] at u;cases u
   have Z:d4≠D:=λz=>by rw[<- z] at u;exact absurd (af.ag e _ _ aa) (by rw[u];intro z;cases z)
   have ndp:d4≠pt:=λz=>by rw[<- z,aa] at e;cases e
   refine⟨d4,o,_,by rw[aj Z,aj ndp,aa],S,_,D,[n ++ " " ++ plT i j],rfl,rfl,aV.of (by rw[aj (aa4 Z),aa];rfl),?_,?_⟩
   .have:=ajY hi hj;have e1:(Str.ofString " ").length=1:=by lk
    have e2:(Str.ofString "\n").length=1:=by lk
    rw[e2];simp only[ab5,List.map_nil,am3,List.sum_nil,P3,ac6,Str.length_append,e1];lia
   .exact q _ (s4.trans (uX M ((af.ag e).to u)))
  all_goals refine ak (bq (aA cC (aM bP rfl) aZ (aE _)) ay ay) (⟨r,T.Mf,T.GC,rfl,⟨rfl,.mk<|dM (λh=>absurd h (by decide)) λ_=>bg ?_⟩⟩)
  .refine ak (bq (aA cC (aM bP rfl) aZ (aE _)) ay ay) (⟨r,T.Mf,T.GC,rfl,⟨rfl,.mk<|dM (λ_=>?_) λh=>absurd rfl h⟩⟩);refine av (@aQ _ _ _ _ (@cV _ _ _ _ _ _ _ _ _ _ _ _ ae2 F.slot_str_join F.type_str_join CK aZ (bQ (iM (sc:=az (top 85)) (N:=["scribe","line","text"]) (x:="fold") (caps:=[]) (by walk_at "ck") (@fF _ _ _ _ (bR br T.aN T.P7 (Gp T) hr.m T.E6.b1 .nil aH)) (λ_ _ _ _=>aoF))) (by left) (by left) (by left) (by left) (by left))) ⟨rfl,C,rfl,x,J,f,d,ld,lu,v,a,N,O,B,R,rfl,C,I,hl,hk,λl X Y s4=>?_⟩;refine⟨l,rfl,⟨_,aV.of Y⟩,ie (xs:=[]) (λi ys W=>ys=[]/\W=X) ⟨rfl,rfl⟩ (by decide) ?_ ?_ ?_⟩
   .rintro i ys W _ ⟨_,rfl⟩;exact aV.of Y
   .intro i xv ys W C;simp at C
   .rintro ys W _ ⟨rfl,rfl⟩ D u;exact⟨_,D,[],rfl,rfl,aV.of aa,by show 0+0*_<=_;lia,q _ (s4.to u)⟩
  .refine ak (bq (aA cC (aM bP rfl) aZ (aE _)) ay ay) (⟨r,T.Mf,T.GC,rfl,⟨rfl,.mk<|dM (λh=>absurd h (by decide)) λ_=>bg ?_⟩⟩);refine av (aQ (cV ae2 F.slot_str_join F.type_str_join CK aZ (bQ (aS (eL T) hr.m rfl T.as5 T.anv.kp T.anv.b1 .nil aH (bQ (aM cG rfl)))))) ⟨rfl,⟨I.ob,T.aL,T.jA,rfl,⟨a,B,rfl,I.ru,hT,λlw X W4=>⟨_,lw,aag B,rfl,rfl,aV.of W4.at_,?_,?_⟩⟩⟩⟩
   .have e1:(Str.ofString "\n").length=1:=by lk
    rw[e1];lia
   .rw[join_eq];exact q _ W4.ae
def aga (t:eZ) (E:XK) (S:q0) (H:Hp) (i:Nat):Prop:=∀e c a,a e=some (jQ e t.A5 (some c))->a c=some (.xd [("word",.int i),("row",.int 0)])->(∀b o,H b=some o -> ¬S b->a b=some o)->E (.ref t.A5) (some e) a
def aga.K3(h:aga t E S H i)(hs:∀b o,H b=some o -> ¬S b->H1 b=some o/\b≠p):aga t E (· = p) H1 i :=
 λe d f g j l=>h e d f g j λb o a c=>l b o (hs b o a c).1 (hs b o a c).2
inductive avw(t:eZ)(vs:q7)(H:Hp)(Q:VK)(_:XK):Prop|mk(e)(y1)(y2)(_:vs=[.ref e,y1,y2])(_:H e=some (aaG e t.A5 none))(_:∀dx,H dx=none->Q .dj (ag (ag (ag H dx (.xd [("row",y1)])) e (aaG e t.A5 (some dx))) dx (.xd [("word",y2),("row",y1)])))
def apK:bE P w K mg ap dJ 1 t.ajI t.ash ["self","row","word"] (avw t):=by
 refine T.aot.ok atk λvs H Q E h=>?_;obtain⟨e,d,f,rfl,c,q⟩:=h;room;refine ak (afc br bP rfl) ⟨e,_,rfl,T.aaA.toTf,T.acJ,.inl ⟨c,λa b=>?_⟩⟩;have ne:a≠e:=λz=>by rw[z,c] at b;cases b
 exact av (afc br cG rfl) ⟨e,_,rfl,T.aaA.toTf,T.acf,.inr ⟨a,_,aa,by rw[aj ne,aa],by show 1<1000;decide,q a b⟩⟩
def aga.go(h:aga t E S H i)(he:H e=none):avw t [.ref e,.int 0,.int i] (ag H e (aaG e t.A5 none)) (λv H3=>v = .dj/\∃d,H3 e=some (aaG e t.A5 d)/\E (.ref t.A5) (some e) (ag H3 e (jQ e t.A5 d))) E0:=by
 refine⟨e,_,_,rfl,aa,λdx a=>?_⟩;have ne:e≠dx:=λz=>by rw[<- z,aa] at a;cases a
 refine⟨rfl,some dx,by rw[aj ne,aa],?_⟩;have c:H dx=none:=by rw[aj (aa4 ne)] at a;exact a
 refine h e dx _ aa (by rw[aj (aa4 ne),aa]) λb o f _=>?_;have g:b≠e:=au f he;have j:b≠dx:=au f c;rw[aj g,aj j,aj g,aj j,aj g];exact f
inductive aml(t:eZ)(vs:q7)(H:Hp)(Q:VK)(E:XK):Prop|mk(p dx lw:Addr)(ws:a9)(i:Nat)(_:vs=[.ref p,.bl false])(_:pJ t H p dx lw 0 ws i)(_:aga t E (· = p) H i)
def afM:bE P w K mg ap (qX P w) 3 t.Rt t.WX ["self","good"] (aml t):=by
 refine T.zK.Ma Xs (λvs H Q E h=>?_) (λb A a s H vs Q E hr h=>?_)
 .obtain⟨p,c,d,f,i,rfl,_⟩:=h;rfl
 .obtain⟨p,c,d,f,i,rfl,C,g⟩:=h;refine av (bq (g9 (gR bP)) ay ay) ⟨zA ?_⟩;refine av (aek T.aaA.toTf T.aax.1 T.aax.2.1 T.aax.2.2 (apK T) T.aot.b3 hr.m rfl T.abO (cy (aM br rfl) (aM br rfl))) ?_;refine⟨C.ob,T.bx,T.qp,rfl,?_⟩;refine⟨C.ob,T.bx,T.jh,rfl,?_⟩;exact⟨sL rfl,λe j=>g.go j⟩
def abF:bE P w K mg ap (qX P w) 4 t.Vo t.Xf ["self","good"] (aml t):=by
 refine T.MM.Ma Oi (λvs H Q E h=>?_) (λe A a s H vs Q E hr h=>?_)
 .obtain⟨p,b,c,d,i,rfl,_⟩:=h;rfl
 .obtain⟨p,b,c,d,i,rfl,C,f⟩:=h;exact ak (aY (bw br T.bx T.DM (afM T) hr.m T.zK.b2 .nil tD (bQ bP))) ⟨C.ob,rfl,p,b,c,d,i,rfl,C,f⟩
inductive akV(K:W.Frag)(t:eZ)(vs:q7)(H:Hp)(Q:VK)(E:XK):Prop|mk(p dx lw c:Addr)(cs:a9)(ws:a9)(i:Nat)(_:vs=[.ref p,.ref c])(_:pJ t H p dx lw 0 ws i)(_:bT K H c (cs.map V.str))(_:pk ws i∉cs)(_:aga t E (· = p) H i)
def aby:bE P w K mg ap (qX P w) 5 t.RY t.Xc ["self","words"] (abl (F0 K t) (akV K t)):=by
 refine((B4 T).mono (by decide)).aw.or (T.IG.Ma W8 (λvs H Q E h=>?_) (λf A b s H vs Q E hr h=>?_))
 .obtain⟨p,a,d,c,g,e,i,rfl,_⟩:=h;rfl
 .obtain⟨p,a,d,c,g,e,i,rfl,C,j,l,n⟩:=h;refine av (aQ (bw br T.bx T.SA (abF T) hr.m T.MM.b2 .nil tD (bQ (eW iA (bR br T.bx T.AB (tG T) hr.m T.zg.b1 .nil aH) bP rfl)))) ?_;refine⟨C.ob,rfl,?_⟩;refine⟨C.ob,rfl,p,a,d,0,e,i,rfl,C,.inr j,rfl,vj,?_⟩;rw[mS,ab2 l];exact⟨p,a,d,e,i,rfl,C,n⟩
inductive ap7(t:eZ)(vs:q7)(H:Hp)(Q:VK)(E:XK):Prop|mk(p dx lw:Addr)(ws:a9)(i:Nat)(_:vs=[.ref p])(_:pJ t H p dx lw 0 ws i)(_:isName (pk ws i)=false)(_:aga t E (· = p) H i)
def aaD:bE P w K mg ap (qX P w) 5 t.Ub t.Yi ["self"] (abl (UX t) (ap7 t)):=by
 refine((BV T).mono (by decide)).aw.or (T.FZ.Ma Xw (λvs H Q E h=>?_) (λg A d s H vs Q E hr h=>?_))
 .obtain⟨p,a,e,c,i,rfl,_⟩:=h;rfl
 .obtain⟨p,a,e,c,i,rfl,C,j,l⟩:=h;refine av (aQ (bw br T.bx T.SA (abF T) hr.m T.MM.b2 .nil tD (bQ (aS (Iq T) hr.m rfl T.JK T.zd.kp T.zd.b1 .nil aH (bQ (bR br T.bx T.AB (tG T) hr.m T.zg.b1 .nil aH)))))) ?_;refine⟨C.ob,rfl,?_⟩;refine⟨C.ob,rfl,p,a,e,0,c,i,rfl,C,pk c i,rfl,C.pkl,λr f=>?_⟩;rw[j];exact⟨p,a,e,c,i,rfl,C.ae f,l.K3 λb o n q=>⟨f b o n,q⟩⟩
def auU (ws:a9) (j:Nat):Prop:=(pk ws 0 ≠ "mode" /\ j=0)\/(pk ws 0 = "mode" /\ isName (pk ws 1)=true/\isName (pk ws 2)=false/\j=2)
inductive aln(t:eZ)(vs:q7)(H:Hp)(Q:VK)(E:XK):Prop|mk(p dx lw lm:Addr)(ws:a9)(j:Nat)(_:vs=[.ref p,.ref lm])(_:pJ t H p dx lw 0 ws 0)(_:H lm=r6 [])(_:auU ws j)(_:aga t E (· = p) H j)
def age:bE P w K mg ap (qX P w) 7 t.Ff t.Ov ["cursor","modes"] (aln t):=by
 refine T.Et.Ma z5 (λvs H Q E h=>?_) (λN A v s H vs Q E hr h=>?_)
 .obtain⟨p,a,f,g,O,j,rfl,_⟩:=h;rfl
 .obtain⟨p,a,f,g,O,j,rfl,C,e,c,F⟩:=h;refine ak (aY (bw br T.bx T.DM (vn T) hr.m T.zK.b2 .nil aH (bQ (eW fX (ez aD T.bD (bQ bP)) (iF rfl T.uw) (aE _))))) ⟨C.ob,rfl,_,_,rfl,.inl (aV.of e),_,rfl,?_⟩;refine ak (aY (bw br T.bx T.LV (aby T) hr.m T.IG.b2 .nil tD (bQ (bG (bQ aZ))))) ⟨C.ob,rfl,sL rfl,λpt y=>?_⟩;have z:af H (ag H pt (.tup [.str "mode"])):=af.ag y;have G:=C.ae z;rcases c with ⟨c,rfl⟩|⟨c,R,S,rfl⟩
  .exact .inr ⟨p,a,f,pt,["mode"],_,0,rfl,G,bT.of aa,by simpa using c,F.K3 λb o c l=>⟨z b o c,l⟩⟩
  refine .inl ⟨p,a,f,pt,["mode"],0,_,0,rfl,G,bT.of aa,by simpa using c,λI n q=>?_⟩;have q:=z.K3 q;have d:I g=r6 []:=q _ _ e (bL e C.ob);refine ak (@aY _ _ _ _ (bw br T.bx T.DM (vn T) hr.m T.zK.b2 .nil aH (bQ (eW mj (bR br T.bx T.AB (tG T) hr.m T.zg.b1 .nil aH) (iM (sc:=az (top 52)) (N:=["cursor","modes","name","colour"]) (x:="mode") (caps:=[]) (by walk_at "ck") (@fF _ _ _ _ bP) (λ_ _ _ _=>(@kc _ K _ _ _ _ br rfl (by left)))) rfl))) (by left)) ?_;refine⟨n.ob,rfl,⟨n.ob,rfl,p,a,f,0,_,0+1,rfl,n,?_⟩⟩;refine⟨g,rfl,⟨_,aV.of d⟩,ie (xs:=[]) (λi r u=>u=I/\r=[]) ⟨rfl,rfl⟩ (by decide) ?_ ?_ ?_⟩
  .rintro i r u _ ⟨rfl,_⟩;exact aV.of d
  .intro i Y r u U;simp at U
  .rintro r u W ⟨rfl,rfl⟩ D J;have L:=n.ae (af.ag J (o:=.lst []));have X:=q.ae (af.ag J (o:=.lst []));refine⟨.inl (aV.of aa),rfl,rfl,?_⟩;refine⟨_,rfl,?_⟩;refine ak (b7 2 z5 (bR br T.bx T.Lj (aaD T) hr.m T.FZ.b1 .nil tD)) ⟨L.ob,rfl,.inl ⟨p,a,f,0,_,0+1,rfl,L,R,λZ M B=>?_⟩⟩;have B:=X.trans B;exact ak (b7 3 z5 (bR br T.bx T.Lj (aaD T) hr.m T.FZ.b1 .nil tD)) ⟨M.ob,rfl,.inr ⟨p,a,f,_,0+1+1,rfl,M,S,F.K3 λb o c l=>⟨B b o c l,l⟩⟩⟩
inductive aqM(vs:q7)(H:Hp)(Q:VK)(_:XK):Prop|mk(a:Addr)(rs:a9)(_:vs=[.ref a])(_:H a=r6 (rs.map V.str))(_:rs.length<=10)(_:(∀r∈rs,r.length<=100/\PySem.Txt.split r " " ≠ []))(_:∀d H',af H H'->Q (.ref d) H')
def aev:bE P w K mg ap (qX P w) 1 t.Ep t.Ql ["rows"] aqM:=by
 refine bE.aw (T.E8.ok xJ λvs H Q E h=>?_)
 .obtain⟨a,J,rfl,z,hl,R,q⟩:=h;room;refine ak (b7 1 xJ kN) λd A=>?_;refine aF (λl f=>∃x y,l=[ρ a,ρ d,x,y]/\af H f) (dD aa7 rfl (fF br) (jb 2 xJ) ay) ?_ ?_
  .refine⟨a,rfl,⟨_,aV.of (by rw[aj (au z A)];exact z)⟩,jw (xs:=J.map V.str) (λi l f=>∃x y c,l=[ρ a,ρ d,x,y]/\f d=some (.dK c)/\c.length<=i/\af H f) ⟨_,_,[],rfl,aa,N0 _,af.ag A⟩ ?_ ?_ ?_⟩
   .rintro i l f _ ⟨x,y,c,rfl,B,L,n⟩;exact aV.of (n _ _ z)
   .rintro i U l s M ⟨x,y,c,rfl,B,L,C⟩;rw[v3] at M;obtain⟨p,g,rfl⟩:=D1.mp M;have W:i<J.length:=(d6.mp g).1;obtain⟨S,D⟩:=R p (p0 g);refine ak (b7 3 xJ (cV ae2 ag1 aj8 kM cG (bQ aZ))) ⟨rfl,_,_,rfl,rfl,by decide,bK (by lia),λu F=>?_⟩;generalize hws:PySem.Txt.split p " " = ws;have r:af s (ag s u (.lst (ws.map V.str))):=af.ag F;have v:ag s u (.lst (ws.map V.str)) u=r6 (ws.map V.str):=aa;have e:=r _ _ B;generalize ag s u (.lst (ws.map V.str))=H2 at r v e;obtain⟨N,wr,rfl⟩:∃N wr,ws=N::wr:=by
     cases ws with
     |nil=>exact absurd hws D
     |cons x y=>exact⟨x,y,rfl⟩
    refine av (bq (PW.pt (dX (aA cC (aC aU dh ai) aZ (aE _)) (cX (aA j9 (ez aD T.bD (bQ dh)) ai (aE _))))) ay ay) ⟨aV.of v,aB (j:=0) rfl,rfl,.mk<|dM (λ_=>?_) (λ_=>bg ⟨_,_,c,rfl,e,by lia,C.trans r⟩)⟩;refine⟨_,_,rfl,.inl (aV.of v),.mk<|.mk<|dM (λG=>?_) (λ_=>bg ⟨_,_,c,rfl,e,by lia,C.trans r⟩)⟩;obtain⟨I,wr,rfl⟩:∃I wr',wr=I::wr':=by
     cases wr with
     |nil=>exact absurd G (by show ¬(1:Int)<1;decide)
     |cons x y=>exact⟨x,y,rfl⟩
    refine av (pS (cS hr) bP (aC aU dh ai) (ez Eb T.bD (bQ bP)) rfl) ⟨d,c,rfl,e,aV.of v,aB (j:=1) rfl,d,_,rfl,xA.k (k:=.inr I) e (cL (by lia)),?_⟩;refine⟨_,_,_,rfl,aa,?_,λb o O=>?_⟩
    .exact ac2 (nF ..) (by lia)
    .rw[aj (au O A)];exact r _ _ (C _ _ O)
   .rintro l f ⟨x,y,c,rfl,B,L,n⟩;exact⟨x,y,rfl,n⟩
  rintro l f ⟨x,y,rfl,n⟩;exact av (aQ bP) (q d f n)
def Nr' (t:eZ) (E:XK) (H:Hp) (j:Nat):Prop:=∀e b a,a e=some (jQ e t.A5 (some b))->a b=some (.xd [("word",.int j),("row",.int 0)])->af H a->E (.ref t.A5) (some e) a
structure ali(z:Str)(r:Str)(rs:a9)(j:Nat):Prop where
 len:z.length<=100
 rows:PySem.Txt.split z "\n" = r::rs
 few:(r::rs).length<=10
 rl:∀r'∈r::rs,r'.length<=100/\PySem.Txt.split r' " " ≠ []
 bad:auU (PySem.Txt.split r ⟨#[32]⟩) j
 sl:(PySem.Txt.split r ⟨#[32]⟩).length<=1000
inductive agX(t:eZ)(vs:q7)(H:Hp)(Q:VK)(E:XK):Prop|mk(z r:Str)(rs:a9)(j:Nat)(_:vs=[.str z])(_:ali z r rs j)(_:Nr' t E H j)
def afp:bE P w K mg ap (qX P w) 8 t.Fw t.Q9 ["text"] (agX t):=by
 refine T.Hw.Ma lV (λvs H Q E h=>?_) (λcdv A L s H vs Q E hr h=>?_)
 .obtain⟨z,r,F,j,rfl,_⟩:=h;rfl
 .obtain⟨z,r,F,j,rfl,B,q⟩:=h;refine ak (b7 1 lV (cV ae2 ag1 aj8 kM br (bQ aZ))) ⟨rfl,_,_,rfl,rfl,by decide,bK (by have:=B.len;lia),λv M=>?_⟩;rw[B.rows];refine ak (b7 2 lV (aS (aev T) hr.m rfl T.Vu T.E8.kp T.E8.b1 .nil tD (bQ bP))) ⟨v,_,rfl,aa,B.few,B.rl,λd G X=>?_⟩;refine ak (b7 3 lV (bM bu)) ⟨sL rfl,λc x=>?_⟩;refine ak (b7 4 lV (bM bu)) ⟨sL rfl,λy f=>?_⟩;have O:af H (ag (ag G c (.lst [])) y (.lst [])):=(((af.ag M).trans X).to x).to f;have g:ag (ag G c (.lst [])) y (.lst []) v=r6 ((r::F).map V.str):=(af.ag x).to f _ _ (X _ _ (aa (H:=H) (a:=v) (o:=.lst ((r::F).map V.str))));have C:ag (ag G c (.lst [])) y (.lst []) c=r6 []:=af.ag f _ _ aa;generalize ag (ag G c (.lst [])) y (.lst [])=H4 at O g C;refine aF (λ_ _=>False) (dD PassesOwn.leaving rfl (wG rfl T.mY (bQ bP)) (iK rfl (bF (jb 5 lV) (bF (jb 6 lV) fU))) ay) ?_ (λ_ _ z=>z.elim);refine⟨v,_,rfl,aV.of g,qK (xs:=(r::F).map V.str) (λi I D=>i=0/\I=[τ z,ρ v,ρ d,ρ c,ρ y,none,none,none,none]/\D=H4) ⟨rfl,rfl,rfl⟩ ?_ ?_ ?_⟩
  .rintro i I D _ ⟨_,_,rfl⟩;exact aV.of g
  .rintro i xv pt I J hx R ⟨rfl,rfl,rfl⟩;cases hx;have u:af J (ag J pt (.tup [.int (0:Nat),.str r])):=af.ag R;refine⟨pt,[.int (0:Nat),.str r],rfl,bT.of aa,rfl,_,_,rfl,_,_,rfl,rfl,?_⟩;generalize ag J pt (.tup [.int (0:Nat),.str r])=H6 at u;refine ak (b7 7 lV (fj T.DS (Xi T) hr.m rfl T.A3 T.WU.b3 .nil aH (cy gX jv))) (λp Y np S ne=>⟨p,Y,0,r,rfl,aa,by have:=(B.rl r ab7).1;lia,B.sl,λlw H7 hlw C7 a7=>⟨rfl,?_⟩⟩);have Z:af J H7:=λb o l=>a7 b o (by rw[aj (au (u _ _ l) np),aj (au (u _ _ l) S)];exact u _ _ l) (au (u _ _ l) np);have n:=Z _ _ C;refine av (bq (PW.pt (jz (g9 (gc dh (λ_=>rfl))) (jk (aA cC (bR jO T.bx T.AB (tG T) hr.m T.zg.b1 .nil aH) aZ (aE _))))) ay ay) ⟨_,.inl ⟨_,aV.of n,rfl⟩,?_⟩;refine av (aY (cV Z4 aa0 aa3 bW dh (bQ (aS (age T) hr.m rfl T.RQ T.Et.kp T.Et.b2 .nil tD (cy jO dh))))) ⟨.inl ⟨rfl,_,aV.of n⟩,p,Y,lw,c,_,j,rfl,C7,n,B.bad,λe W D h1 h2 h3=>q e W D h1 h2 λb o l=>h3 b o (Z _ _ (O _ _ l)) (au l (O.free (u.free np)))⟩
  .rintro I D ⟨z,_⟩;simp at z
def abW:bE P w K mg ap (qX P w) 8 t.Fw t.Q9 ["text"] (abl (V9 t) (agX t)):=((U0 T).mono (by decide)).aw.or (afp T)
def Nr'.av9(h:Nr' t E H j):aga t E (λ_=>False) H j:=λe a c d f g=>h e a c d f λb o i=>g b o i (λz=>z)
noncomputable def aiT:a9:=["put","cut","undo","redo"]
noncomputable def abq:a9:=["mark","drop"]
def atB (t:eZ) (x0 dx0:Addr) (v:V) (b:Str) (H1:Hp) (Q:VK) (E:XK):Prop:=abl (V9 t) (agX t) [.str b] H1 (λu e=>∃a,u = .ref a/\e x0=s0 t.Ru dx0 [("scribe",v)]/\aex t [.ref x0] e (λw d=>∀x c,d x=none->d c=none->c≠x->abl (Mm t) (afB t) [.ref x,.ref a,w] (ag (ag d c (.own x)) x (.ins t.aG c [])) (λu f=>u = .dj/\f x0=s0 t.Ru dx0 [("scribe",v)]/\Q (.str "ok") (ag f x0 (.ins t.Ru dx0 [("scribe",.ref x)]))) E) E0) E
def auw(t:eZ)(K:W.Frag)(x0 dx0:Addr)(v:V)(l:Addr)(hd b:Str)(H1:Hp)(Q:VK)(E:XK):Prop :=
 (hd = "rules" /\ atB t x0 dx0 v b H1 Q E)\/(hd ≠ "rules" /\ ((v = .dj/\Nr' t E H1 0)\/∃x,v = .ref x /\
  ((hd∈aiT/\ajU t [.ref x,.ref l] H1 (λu a=>∃n:Nat,u = .int n/\n<10000/\Q (.str (PySem.Str.ofString (toString (n:Int)))) a) E)
  \/ (hd∉aiT/\((hd∈abq/\aok t [.ref x,.ref l] H1 (λ_ a=>Q (.str "ok") a) E)\/(hd∉abq/\anu t K [.ref x,.ref l] H1 Q E))))))
inductive abr(t:eZ) (K:W.Frag)(vs:q7)(H:Hp)(Q:VK)(E:XK):Prop|mk(x0 dx0:Addr)(v:V)(bb:Str)(_:vs=[.ref x0,.str bb])(_:H x0=s0 t.Ru dx0 [("scribe",v)])(_:avd t K [.str bb] H (λu H1=>∃l hd ns is b,u = .ref l/\abh t H1 l hd ns is b/\H1 x0=s0 t.Ru dx0 [("scribe",v)]/\auw t K x0 dx0 v l hd b H1 Q E) E)
def adS(hw:t.pr=w.params):bE P w K mg ap (qX P w) 12 t.ajR t.amk ["self","row"] (abr t K):=by
 refine T.aju.Ma dA (λvs H Q E h=>?_) (λL A p s H vs Q E hr h=>?_)
 .obtain⟨q,g,v,r,rfl,_⟩:=h;rfl
 .obtain⟨q,g,v,r,rfl,X,hl⟩:=h;refine ak (b7 2 dA (aS (afZ T hw).up hr.m rfl T.ap4 T.ain.kp T.ain.b1 .nil tD (bQ bP))) ⟨_,hl,λu Y c=>?_⟩;obtain⟨l,o,Z,is,b,rfl,M,f,d⟩:=c;obtain⟨dl,ln,lm,i,_,_⟩:=id M;rcases d with ⟨rfl,d⟩|⟨y,d⟩
  .refine aF (λ_ _=>False) (bq (aA cC (aM cG rfl) aZ (aE _)) ay ay) (⟨i,T.Mf,T.GC,rfl,⟨rfl,.mk<|dM (λ_=>?_) λz=>absurd rfl z⟩⟩) (λ_ _ z=>z.elim);refine ak (b6 br (fj T.Dt (acB T).up hr.m rfl T.Az T.Q0.b3 .nil tD (cy (aS (abW T).up hr.m rfl T.Vm T.Hw.kp T.Hw.b1 .nil tD (bQ (aM cG rfl))) (bR br T.aah T.au4 (eI T).up hr.m T.art.b1 .nil aH))) rfl) (⟨i,T.Mf,T.abM,rfl,⟨_,d,λu G c=>?_⟩⟩);obtain⟨a,rfl,B,N⟩:=c;refine⟨B,rfl,_,N,λw' H3 c x O R C ne=>⟨_,c x O R C ne,λu H4 c=>?_⟩⟩;obtain⟨rfl,D,c⟩:=c;exact⟨rfl,q,_,g,[("scribe",v)],rfl,D,T.aah,T.Ud,by show 1<1000;decide,av (aQ aZ) c⟩
  refine ak (bq (aA cC (aM cG rfl) aZ (aE _)) ay ay) (⟨i,T.Mf,T.GC,rfl,⟨rfl,.mk<|dM (λz=>absurd (V.str.inj z) y) λ_=>bg ?_⟩⟩);rcases d with ⟨rfl,S⟩|⟨x,rfl,d⟩
  .refine aF (λ_ _=>False) (bq (aA we (aM br rfl) cR (aE _)) ay ay) (⟨f,T.aah,T.Ud,rfl,⟨rfl,.mk<|dM (λ_=>?_) λz=>absurd rfl z⟩⟩) (λ_ _ z=>z.elim);exact av (aek T.aaA.toTf T.aax.1 T.aax.2.1 T.aax.2.2 (apK T) T.aot.b3 hr.m rfl T.abO (cy ai ai)) ⟨sL rfl,λe U=>S.av9.go U⟩
  refine ak (bq (aA we (aM br rfl) cR (aE _)) ay ay) (⟨f,T.aah,T.Ud,rfl,⟨rfl,.mk<|dM (λz=>by cases z) λ_=>bg ?_⟩⟩);have I:Mz (.str o) [.str "put",.str "cut",.str "undo",.str "redo"]=decide (o∈aiT):=mS (cs:=aiT);have J:Mz (.str o) [.str "mark",.str "drop"]=decide (o∈abq):=mS (cs:=abq);rcases d with ⟨F,d⟩|⟨F,d⟩
  .refine aF (λ_ _=>False) (bq (aA iA (aM cG rfl) (jX rfl T.aeM (v:=V.ref t.aaP) rfl) rfl) ay ay) (⟨i,T.Mf,T.GC,rfl,⟨.inr (T.afD _),rfl,rfl,.mk<|mG (I.trans (ab4 F)) (zA ?_)⟩⟩) (λ_ _ z=>z.elim);refine av (aQ (pO ZW T.aeL (bQ (aS (ahq T).up hr.m rfl T.atj T.amE.kp T.amE.b2 .nil tD (cy (aM br rfl) cG))))) (⟨f,T.aah,T.Ud,rfl,⟨_,d,λu G c=>?_⟩⟩);obtain⟨n,rfl,W,c⟩:=c;exact⟨_,rfl,akH W,c⟩
  refine ak (bq (aA iA (aM cG rfl) (jX rfl T.aeM (v:=V.ref t.aaP) rfl) rfl) ay ay) (⟨i,T.Mf,T.GC,rfl,⟨.inr (T.afD _),rfl,rfl,.mk<|mG (I.trans (ab2 F)) (mH (bg ?_))⟩⟩);rcases d with ⟨j,d⟩|⟨j,d⟩
  .refine aF (λ_ _=>False) (bq (aA iA (aM cG rfl) (jX rfl T.aeK (v:=V.ref t.aaO) rfl) rfl) ay ay) (⟨i,T.Mf,T.GC,rfl,⟨.inr (T.afl _),rfl,rfl,.mk<|mG (J.trans (ab4 j)) (zA ?_)⟩⟩) (λ_ _ z=>z.elim);exact ak (aY (aS (afq T).up hr.m rfl T.auK T.amb.kp T.amb.b2 .nil tD (cy (aM br rfl) cG))) (⟨f,T.aah,T.Ud,rfl,⟨_,d,λu G c=>av (aQ aZ) c⟩⟩)
  refine ak (bq (aA iA (aM cG rfl) (jX rfl T.aeK (v:=V.ref t.aaO) rfl) rfl) ay ay) (⟨i,T.Mf,T.GC,rfl,⟨.inr (T.afl _),rfl,rfl,.mk<|mG (J.trans (ab2 j)) (mH (bg ?_))⟩⟩);exact av (aQ (aS (aoU T).up hr.m rfl T.aqa T.aiX.kp T.aiX.b2 .nil tD (cy (aM br rfl) cG))) (⟨f,T.aah,T.Ud,rfl,⟨_,d,λ_ _ z=>z⟩⟩)
noncomputable def agp:a9:=["9999","1000","2","5","0","1"]
noncomputable def ach:a9:=["rules","put","cut","undo","redo","mark","drop","marks","row","tint","folds","never"]
noncomputable def aeG:a9:=["","00","01","-1","+1","10000","1_0","1.0","a","rules","Put","undo","marks","0","1","2","?","*","row","9999","folds","b","never","tint"]
noncomputable def agO:a9:=["a","ab","A","","abcdefghi"]
def aae:a9:=agp++ach++aeG++agO
def adR:∀w∈aae,w.length<=10/\∀c∈w.l,c≠10/\c≠32/\c<1000:=by lk
def aeB{w:Str}(h:w∈aae):Clean w:=⟨(adR w h).1,(adR w h).2⟩
inductive apd(K:W.Frag)(vs:q7)(H:Hp)(Q:VK)(_:XK):Prop|mk(a:Addr)(ns:c9)(k:Int)(_:vs=[.ref a,.int k])(_:aV K H a (ns.map V.int))(_:ns.length<=63)(_:0<=k)(_:k<=90000)(_:∀z H',z∈agp->af H H'->Q (.str z) H')
def xE:bE P w K mg ap dJ 2 t.Em t.NS ["_law_script","_law_k"] (apd K):=by
 refine T.qj.ok jl λvs H Q E h=>?_;obtain⟨a,f,k,rfl,g,hl,i,l,q⟩:=h;room;refine ak (b7 2 jl (aS (dP T) hr.m rfl T.dR T.cA.kp T.cA.b3 .nil aH (ao br (cy bP ai)))) ⟨a,f,_,_,rfl,g,i,by lia,by decide,by decide,hl,λd u v x b=>?_⟩;refine av (aQ (dc (aA cC cG ai (aE _)) (pO ZW T.aeL (bQ (aC aU (bM (ao ai (ao ai (cy ai ai)))) (aS (dP T) hr.m rfl T.dR T.cA.kp T.cA.b3 .nil aH (ao br (cy (aK bh bP ai) ai)))))) (pO ZW T.aeL (bQ (aS (dP T) hr.m rfl T.dR T.cA.kp T.cA.b3 .nil aH (ao br (cy (aK bh bP ai) ai))))))) ?_;walk_at "rd";refine⟨rfl,dM (λ_=>⟨by decide,λp j=>⟨a,f,_,_,rfl,g.ae (b.to j),by lia,by lia,by decide,by decide,hl,λe n o r c=>?_⟩⟩) λ_=>⟨a,f,_,_,rfl,g.ae b,by lia,by lia,by decide,by decide,hl,λe n o r c=>?_⟩⟩
 .have:e=0\/e=1\/e=2\/e=3:=by lia
  rcases this with rfl|rfl|rfl|rfl <;> exact⟨aV.of (c _ _ aa),rfl,_,rfl,by decide,q _ _ (by lk) ((b.to j).trans c)⟩
 .have:e=0\/e=1\/e=2:=by lia
  rcases this with rfl|rfl|rfl <;> exact⟨_,rfl,by decide,q _ _ (by lk) (b.trans c)⟩
inductive avO(K:W.Frag)(vs:q7)(H:Hp)(Q:VK)(_:XK):Prop|mk(a:Addr)(ns:c9)(k:Int)(_:vs=[.ref a,.int k])(_:aV K H a (ns.map V.int))(_:ns.length<=63)(_:0<=k)(_:k<=90000)(_:∀z H',z∈aeG->af H H'->Q (.str z) H')
def atW(h0:0<=d)(h1:d<24):∃z∈aeG,oE (aeG.map V.str) d=some (.str z):=by
 obtain⟨n,rfl⟩:∃n:Nat,d=n:=⟨d.toNat,by lia⟩
 have a:n<aeG.length:=by show n<24;lia
 exact⟨aeG[n],ag2 a,aB (by rw[v3,i4 a];rfl)⟩
def Tq:bE P w K mg ap dJ 2 t.aoY t.asJ ["_law_script","_law_k"] (avO K):=by refine T.anS.ok lY λvs H Q E h=>?_;obtain⟨a,j,k,rfl,n,hl,b,o,q⟩:=h;room;refine @ak _ _ _ _ _ _ _ (@lJ _ _ 2 _ _ _ _ lY.nd rfl (Or.inl rfl) (@bM _ _ _ _ (@j6 _ _ ["","00","01","-1","+1","10000","1_0","1.0","a","rules","Put","undo","marks","0","1","2"] rfl)) (by left) (by left)) ⟨by decide,λl e=>?_⟩;refine @av _ _ _ _ _ _ (@aQ _ _ _ _ (@aC _ _ _ _ _ _ _ aU (@aK _ _ _ _ _ _ _ _ gM cG (@bM _ _ _ _ (@j6 _ _ ["?","*","row","9999","folds","b","never","tint"] rfl))) (aS (dP T) hr.m rfl T.dR T.cA.kp T.cA.b3 .nil aH (ao br (cy bP ai))) (λ_ _=>rfl))) ?_;walk_at "rd";refine⟨by decide,λp f=>⟨af.ag f _ _ aa,aa,by decide,λc r=>?_⟩⟩;have g:af H (ag (ag (ag H l _) p _) c (.lst (aeG.map V.str))):=((af.ag e).to f).to r;refine⟨a,j,_,_,rfl,n.ae g,b,by lia,by decide,by decide,hl,λd s u v i=>?_⟩;obtain⟨z,x,y⟩:=atW u v;exact⟨aV.of (i _ _ aa),y,q z s x (g.trans i)⟩
noncomputable def plN(i j:Nat):Bool:=decide (i<2) && decide (j<=if i=0 then 2 else 1)
inductive auz(vs:q7)(H:Hp)(Q:VK)(_:XK):Prop|mk(i j:Nat)(_:vs=[.int i,.int j])(_:i<100000)(_:j<100000)(_:∀H',af H H'->Q (.bl (plN i j)) H')
def xB:bE P w K mg ap dJ 1 t.ant t.asd ["_law_row","_law_at"] auz:=by
 refine T.afJ.ok Kc λvs H Q E h=>?_;obtain⟨i,j,rfl,d,e,q⟩:=h;room;refine av (aQ (Rh (eW fX br ai (aE _)) (GD (eW au2 bP (aC aU (bM (cy ai ai)) br) (aE _))))) ?_;walk_at "rd";refine dM (λh=>⟨by decide,λp c=>?_⟩) λh=>?_
 .have a:i<2:=by lia
  have:=q _ (af.ag c (o:=.lst [.int 2,.int 1]));rw[plN,ab4 a,Bool.true_and] at this;have b:i=0\/i=1:=by lia
  rcases b with rfl|rfl
  .refine⟨aV.of aa,rfl,_,rfl,?_⟩;rw[w4 rfl] at this;rw[show decide ((j:Int)<=2)=decide (j<=2) from decide_eq_decide.mpr (by lia)];exact this
  .refine⟨aV.of aa,rfl,_,rfl,?_⟩;rw[C5 (by decide)] at this;rw[show decide ((j:Int)<=1)=decide (j<=1) from decide_eq_decide.mpr (by lia)];exact this
 .have:=q H (af.refl _);rw[plN,ab2 (show ¬i<2 by lia),Bool.false_and] at this;exact this
inductive aqK(K:W.Frag)(vs:q7)(H:Hp)(Q:VK)(_:XK):Prop|mk(a l:Addr)(ns:c9)(k:Int)(ws:a9)(_:vs=[.ref a,.int k,.ref l])(_:aV K H a (ns.map V.int))(_:ns.length<=63)(_:0<=k)(_:k<=80000)(_:H l=r6 (ws.map V.str))(_:ws≠[])(_:ws.length<=10)(_:(∀w∈ws,w∈aae))(_:∀p ws' H',ws'≠[]->ws'.length<=ws.length+1->(∀w∈ws',w∈aae)->H' p=r6 (ws'.map V.str)->af H H'->Q (.ref p) H')
def aqN(h:z∈aeG):z∈aae:=aa8 _ (Z2 _ h)
def avo{ws:a9}{b:Int}(hl:G l=r6 (ws.map V.str))(hj:j<=ws.length)(h2:j2<=ws.length)(hb:b=j2)(hlen:ws.length<=10)
  (q:∀p H',af G H'->H' p=r6 ((ws.take j++z::ws.drop j2).map V.str)->Q (.ref p) H') :
  Y5 K (V.ref l) none (some (j:Int)) G λx H1=>0+1<=sizeLine/\∀p,H1 p=none->YW x (V.ref p) (ag H1 p (.lst [V.str z])) λx H1=>Y5 K (V.ref l) (some b) none H1 λy H2=>YW x y H2 Q:=by
 have sz:=ad0;subst hb;refine⟨aV.of hl,λp i=>⟨by lia,λc a=>?_⟩⟩;rw[gP (by rw[d5];exact hj)] at *;refine⟨af.ag a _ _ aa,aa,by simp only[v6,d5,al5];lia,λe n=>?_⟩;have d:=((af.ag i (o:=.lst ((ws.map V.str).take j))).to a (o:=.lst [V.str z])).to n (o:=.lst ((ws.map V.str).take j++[V.str z]));refine⟨aV.of (d _ _ hl),λf h=>?_⟩;rw[gk (by rw[d5];exact h2)] at *;refine⟨af.ag h _ _ aa,aa,by simp only[i5,v6,B2,d5,al5];lia,λg r=>?_⟩;refine q g _ ((d.to h).to r) (aa.trans (ac7 (λx=>r6 x) ?_));rw[o0,ab5,ac9,ad6,ac0];rfl
def avW{ws:a9}{b:Int}(hl:G l=r6 (ws.map V.str))(hj:j<=ws.length)(h2:j2<=ws.length)(hb:b=j2)(hlen:ws.length<=10)
  (q:∀p H',af G H'->H' p=r6 ((ws.take j++ws.drop j2).map V.str)->Q (.ref p) H') :
  Y5 K (V.ref l) none (some (j:Int)) G λx H1=>Y5 K (V.ref l) (some b) none H1 λy H2=>YW x y H2 Q:=by
 have sz:=ad0;subst hb;refine⟨aV.of hl,λe d=>?_⟩;rw[gP (by rw[d5];exact hj)] at *;have a:=af.ag d (o:=.lst ((ws.map V.str).take j));refine⟨aV.of (a _ _ hl),λf c=>?_⟩;rw[gk (by rw[d5];exact h2)] at *;refine⟨af.ag c _ _ aa,aa,by simp only[v6,B2,d5];lia,λg h=>?_⟩;refine q g _ ((a.to c).to h) (aa.trans (ac7 (λx=>r6 x) ?_));rw[o0,ac9,ad6]
def ath{ws:a9}{P:Str->Prop}(h:∀w∈ws,P w)(i j:Nat):∀w∈ws.take i++ws.drop j,P w:=λw a=>(X1.mp a).elim (λz=>h w (ae5 z)) λz=>h w (List.mem_of_mem_drop z)
def akF{ws:a9}{P:Str->Prop}(h:∀w∈ws,P w)(hz:P z)(i j:Nat):∀w∈ws.take i++z::ws.drop j,P w:=λw a=>(X1.mp a).elim (λz=>h w (ae5 z)) λy=>(Z5.mp y).elim (λe=>e ▸ hz) λy=>h w (List.mem_of_mem_drop y)
def zU:bE P w K mg ap dJ 3 t.anf t.asI ["_law_script","_law_k","_law_parts"] (aqK K):=by
 refine T.amt.ok tw λvs H Q E h=>?_;obtain⟨a,l,B,k,D,rfl,C,hl,F,U,x,y,o,g,q⟩:=h;room;have L:=List.length_pos_iff.mpr y;have sz:=ad0;refine ak (b7 3 tw (aS (dP T) hr.m rfl T.dR T.cA.kp T.cA.b3 .nil aH (ao br (cy bP (ez aD T.bD (bQ cG)))))) ⟨_,_,rfl,.inl (aV.of x),a,B,_,_,rfl,C,F,by lia,by rw[d5];lia,by rw[d5];lia,hl,λd W h0 X I=>?_⟩;rw[d5] at X;obtain⟨i,rfl⟩:∃i:Nat,d=i:=⟨d.toNat,by lia⟩
 refine ak (b7 4 tw (aS (dP T) hr.m rfl T.dR T.cA.kp T.cA.b3 .nil aH (ao br (cy (aK bh bP ai) ai)))) ⟨a,B,_,_,rfl,C.ae I,by lia,by lia,by decide,by decide,hl,λe Y e0 e1 M=>?_⟩;have u:=I.trans M;refine ak (b7 5 tw (aS (Tq T) hr.m rfl T.atz T.anS.kp T.anS.b2 .nil aH (cy br (aK bh bP ai)))) ⟨a,B,_,rfl,C.ae u,hl,by lia,by lia,λz N Z O=>?_⟩;have n:=u.trans O;have b:=n _ _ x;have v:=aqN Z;generalize hH3:N=G at *;clear hH3 N I M O u W Y;refine ak (bq (aA cC eE ai (aE _)) ay ay) ?_;walk_at "rd";refine⟨rfl,dM (λ_=>?_) λ_=>bg ?_⟩
 .refine ak (b7 6 tw (aK bh dh (aS (dP T) hr.m rfl T.dR T.cA.kp T.cA.b3 .nil aH (ao br (cy (aK bh bP ai) ai))))) ?_;walk_at "rd";refine⟨a,B,_,_,rfl,C.ae n,by lia,by lia,by decide,by decide,hl,λf H4 f0 f1 R=>⟨_,rfl,?_⟩⟩;obtain⟨j,hj⟩:∃j:Nat,(i:Int)+f=j:=⟨((i:Int)+f).toNat,by lia⟩
  rw[hj];refine av (aQ (aK gM (aK gM (bS cZ cG cP (bO jv)) (bM (bQ gX))) (bS cZ cG (bO jv) cP))) ?_;walk_at "rd";refine avo (R _ _ b) (by lia) (by lia) rfl o λp s A r=>q p _ s (by simp) ?_ (akF g v _ _) r ((n.trans R).trans A);rw[i5,P3,v6,B2];lia
 refine ak (bq (aA cC eE ai (aE _)) ay ay) ?_;walk_at "rd";refine⟨rfl,dM (λ_=>?_) λ_=>bg ?_⟩
 .refine av (aQ (aK gM (aK gM (bS cZ cG cP (bO dh)) (bM (bQ gX))) (bS cZ cG (bO (aK bh dh ai)) cP))) ?_;walk_at "rd";refine avo (j2:=i+1) b (by lia) (by lia) (by lia) o λp s A r=>q p _ s (by simp) ?_ (akF g v _ _) r (n.trans A);rw[i5,P3,v6,B2];lia
 refine aF (λS s=>S=[ρ a,ι k,ρ l,ι i,ι e,τ z,none]/\s=G) (bq (PW.pt (dX (aA cC eE ai (aE _)) (cX (aA j9 (ez aD T.bD (bQ cG)) ai (aE _))))) ay ay) ?_ ?_
 .walk_at "rd";refine⟨rfl,dM (λ_=>⟨_,.inl (aV.of b),dM (λh=>?_) λ_=>bg ⟨rfl,rfl⟩⟩) λ_=>bg ⟨rfl,rfl⟩⟩;rw[d5] at h;refine av (aQ (aK gM (bS cZ cG cP (bO dh)) (bS cZ cG (bO (aK bh dh ai)) cP))) ?_;walk_at "rd";refine avW (j2:=i+1) b (by lia) (by lia) (by lia) o λp s A r=>q p _ s (λz=>?_) ?_ (ath g _ _) r (n.trans A)
  .have:=ac7 List.length z;rw[i5,v6,B2,ac6] at this;lia
  .rw[i5,v6,B2];lia
 rintro S s ⟨rfl,rfl⟩;refine ak (bq (aA cC eE ai (aE _)) ay ay) ?_;walk_at "rd";refine⟨rfl,dM (λ_=>?_) λ_=>bg ?_⟩
 .refine av (aQ (bS cZ cG cP (bO (aK bh dh ai)))) ?_;walk_at "rd";refine⟨aV.of b,λp r=>?_⟩;rw[show ((i:Int)+1)=((i+1:Nat):Int) from rfl,gP (by rw[d5];lia)];refine q p (D.take (i+1)) _ (λz=>?_) ?_ (λw J=>g w (ae5 J)) (by rw[aa,ac9]) (n.to r)
  .have:=ac7 List.length z;rw[v6,ac6] at this;lia
  .rw[v6];lia
 refine av (aQ (dc (aA cC eE ai (aE _)) (aK gM cG (bM (bQ gX))) cG)) ?_;walk_at "rd";refine⟨rfl,dM (λ_=>⟨by lia,λp r=>⟨af.ag r _ _ b,aa,by simp only[d5,al5];lia,λc hc=>?_⟩⟩) λ_=>q l D _ y (by lia) g b n⟩;refine q c (D++[z]) _ (by simp) (by rw[i5,al5];exact N0 _) (λw J=>?_) (by rw[aa,o0];rfl) ((n.to r).to hc);rcases X1.mp J with h|h
 .exact g w h
 .rw[B1.mp h];exact v
inductive auH(vs:q7)(H:Hp)(Q:VK)(_:XK):Prop|mk(z:Str)(_:vs=[.str z])(_:z∈aae)(_:∀H',af H H'->Q (.bl (isNum z)) H')
def atP:∀z∈aae,aaU z=false->isNum z=false:=by lk
def ch0(z:Str):Str:=⟨#[z.l.headD 0]⟩
def aua:∀z∈aae,aaU z=true->isNum z=(if 0<z.length then (if z.length<5 then (!decide (ch0 z = "0") || decide (z = "0")) else false) else false):=by lk
def Sv:bE P w K mg ap dJ 1 t.anI t.asT ["_law_word_here"] auH:=by
 refine T.alJ.ok oM λvs H Q E h=>?_;obtain⟨z,rfl,p,q⟩:=h;room;have a:=q H (af.refl _);refine aF (λf g=>(∃l,f=[τ z,l])/\g=H/\aaU z=true) (dD aa7 rfl (Tc br) (jb 1 oM) ay) ⟨z,rfl,aii (λi f g=>(∃l,f=[τ z,l])/\g=H/\(z.l.take i).all afH=true) ⟨⟨_,rfl⟩,rfl,rfl⟩ ?_ ?_⟩ ?_
 .rintro i c f g u ⟨⟨l,rfl⟩,rfl,n⟩;refine av (bq (aA w9 bP aZ rfl) ay ay) ?_;walk_at "rd";rw[af8];refine mq (λh=>av (aQ k7) ?_) λh=>bg ⟨⟨_,rfl⟩,rfl,?_⟩
  .walk_at "rd";rw[atP z p ?_] at a
   .exact a
   .rw[aaU,<- Bool.not_eq_true,aj9];exact λy=>h (of_decide_eq_true (y c (p0 u)))
  .rw[List.take_succ,u,List.all_append,n];show (afH c && true)=true;rw[afH,ab4 h];rfl
 .rintro f g ⟨⟨l,rfl⟩,rfl,n⟩;exact⟨⟨_,rfl⟩,rfl,by rw[<- str_len,ab3] at n;exact n⟩
 rintro f g ⟨⟨l,rfl⟩,rfl,n⟩;rw[aua z p n] at a;refine av (aQ (Rh (aou fX fX ai (ez bz T.bD (bQ br)) ai) (GD (XT (eW tX (aC lC br ai) aZ (aE _)) (GD (eW cC br aZ (aE _))))))) ?_;have b:z.length<=sizeLine:=ac2 ((adR z p).1) (by decide);walk_at "rd";refine⟨z,rfl,b,_,rfl,?_⟩;refine dM (λv=>⟨_,rfl,?_⟩) λv=>⟨_,rfl,mH ?_⟩
 .have d:0<z.length:=by lia
  rw[w4 d] at a;refine dM (λx=>⟨b,?_⟩) λx=>?_
  .rw[w4 (show z.length<5 by lia)] at a;obtain⟨c,r,e⟩:∃c r,z.l=c::r:=by
    cases h:z.l with
    |nil=>rw[<- str_len,h] at d;cases d
    |cons c r=>exact⟨c,r,rfl⟩
   have A:ch0 z=⟨#[c]⟩:=by rw[ch0,e];rfl
   rw[A] at a;refine⟨c,by rw[e];exact aB (j:=0) rfl,rfl,mq (λs=>?_) λs=>⟨rfl,?_⟩⟩
   .rw[ab2 s] at a;exact a
   .rw[ab4 s] at a;exact a
  .rw[C5 (show ¬z.length<5 by lia)] at a;exact a
 .rw[C5 (show ¬0<z.length by lia)] at a;exact a
def acn   (h:ZR hd=some ks):hd∈([("rules" : Str),"put","cut","undo","redo","mark","drop","marks","row","tint","folds","never"]:a9):=by
 rw[ZR] at h;repeat' split at h
 all_goals first | (cases h;done) | skip
 all_goals rename_i a
 all_goals simp only[Z5,ad1,an3]
 all_goals first | (rcases a with a | a | a | a | a | a <;> simp[a]) | (rcases a with a | a <;> simp[a]) | simp[a]
def apH(h:ZR hd=some ks):∃g,Knd t K hd g ks:=by
 have a:=acn h;simp only[Z5,ad1,an3] at a;rcases a with rfl|rfl|rfl|rfl|rfl|rfl|rfl|rfl|rfl|rfl|rfl|rfl
 .cases (show some ([]:a9)=some ks from h);exact⟨_,T.ahr,rfl,by decide⟩
 .cases (show some (["ROW","AT"]:a9)=some ks from h);exact⟨_,T.aik,rfl,by decide⟩
 .cases (show some (["ROW","AT","ROW","AT"]:a9)=some ks from h);exact⟨_,T.ahx,rfl,by decide⟩
 .cases (show some ([]:a9)=some ks from h);exact⟨_,T.ahG,rfl,by decide⟩
 .cases (show some ([]:a9)=some ks from h);exact⟨_,T.ahP,rfl,by decide⟩
 .cases (show some (["NAME","ROW","AT"]:a9)=some ks from h);exact⟨_,T.ahp,rfl,by decide⟩
 .cases (show some (["NAME"]:a9)=some ks from h);exact⟨_,T.ahs,rfl,by decide⟩
 .cases (show some ([]:a9)=some ks from h);exact⟨_,T.ail,rfl,by decide⟩
 .cases (show some (["ROW"]:a9)=some ks from h);exact⟨_,T.aij,rfl,by decide⟩
 .cases (show some (["ROW"]:a9)=some ks from h);exact⟨_,T.ahW,rfl,by decide⟩
 .cases (show some ([]:a9)=some ks from h);exact⟨_,T.agM,rfl,by decide⟩
 .cases (show some ([]:a9)=some ks from h);exact⟨_,T.agL,rfl,by decide⟩
theorem aen[DecidableEq κ]:∀{kvs:List (κ×V)},(∀p∈kvs,p.1≠hd)->fP kvs hd=none
 | [],_=>rfl
 |p::r,h=>by rw[fk (h p ab7)];exact aen λq hq=>h q (Q1 _ hq)
def ato(h:ZR hd=none):fP (listed t) hd=none:=by
 have a:∀x∈([("rules" : Str),"put","cut","undo","redo","mark","drop","marks","row","tint","folds","never"]:a9),x≠hd:=by
  rintro x b rfl;have:∀y∈([("rules" : Str),"put","cut","undo","redo","mark","drop","marks","row","tint","folds","never"]:a9),(ZR y).isSome=true:=by lk
  have:=this _ b;rw[h] at this;cases this
 refine aen λp c=>a p.1 ?_;have:=List.mem_map_of_mem (f:=λp:Str×V=>p.1) c;exact this
def aub:∀z∈aae,isNum z=true->z∈agp:=by lk
def auh:∀z∈agp,z=PySem.Str.ofString (toString ((9999:Nat):Int))\/z=PySem.Str.ofString (toString ((1000:Nat):Int))\/z=PySem.Str.ofString (toString ((2:Nat):Int))\/z=PySem.Str.ofString (toString ((5:Nat):Int))\/z=PySem.Str.ofString (toString ((0:Nat):Int))\/z=PySem.Str.ofString (toString ((1:Nat):Int)):=by lk
def auq(h:z∈aae)(hn:isNum z=true):∃i:Nat,i<10000/\z=PySem.Str.ofString (toString (i:Int)):=by
 rcases auh z (aub z h hn) with e|e|e|e|e|e
 .exact⟨9999,by decide,e⟩
 .exact⟨1000,by decide,e⟩
 .exact⟨2,by decide,e⟩
 .exact⟨5,by decide,e⟩
 .exact⟨0,by decide,e⟩
 .exact⟨1,by decide,e⟩
def aau(hd:Str)(ws:a9):Bool:=if hd∈abq then (match ws with
    | []=>true
    |z::r=>!decide (z = "") && r.all isNum) else ws.all isNum
def abo(h:hd∉abq):aau hd ws=ws.all isNum:=by unfold aau;exact C5 h
def anR(h:ZR hd=some ks)(hl:ws.length=ks.length):((ws.zip ks).map wdZ).all id=aau hd ws:=by
 have c:=acn h;simp only[Z5,ad1,an3] at c;have a:∀x:Str,ajm "ROW" x=isNum x:=λx=>rfl;have b:∀x:Str,ajm "AT" x=isNum x:=λx=>rfl;have d:∀x:Str,ajm "NAME" x = !decide (x = ""):=λx=>rfl;rcases c with rfl|rfl|rfl|rfl|rfl|rfl|rfl|rfl|rfl|rfl|rfl|rfl;all_goals first
  | (cases (show some ([]:a9)=some ks from h);obtain rfl:=ah3.mp hl;rfl)
  | (cases (show some (["ROW"]:a9)=some ks from h);obtain⟨x,rfl⟩:=List.length_eq_one_iff.mp hl;rw[aau,C5 (by decide)];simp[wdZ,a])
  | (cases (show some (["NAME"]:a9)=some ks from h);obtain⟨x,rfl⟩:=List.length_eq_one_iff.mp hl;rw[aau,w4 (by decide)];simp[wdZ,d])
  | (cases (show some (["ROW","AT"]:a9)=some ks from h)
     match ws,hl with
     | [x,y],_=>rw[aau,C5 (by decide)];simp[wdZ,a,b])
  | (cases (show some (["NAME","ROW","AT"]:a9)=some ks from h)
     match ws,hl with
     | [x,y,z],_=>rw[aau,w4 (by decide)];simp[wdZ,a,b,d])
  | (cases (show some (["ROW","AT","ROW","AT"]:a9)=some ks from h)
     match ws,hl with
     | [x,y,z,u],_=>rw[aau,C5 (by decide)];simp[wdZ,a,b])
noncomputable def agR:List (Key×V):=[(Sum.inr "rules",.int 1),(Sum.inr "put",.int 3),(Sum.inr "cut",.int 5),(Sum.inr "undo",.int 1),(Sum.inr "redo",.int 1),(Sum.inr "mark",.int 4),(Sum.inr "drop",.int 2),(Sum.inr "marks",.int 1),(Sum.inr "row",.int 2),(Sum.inr "tint",.int 2),(Sum.inr "folds",.int 1),(Sum.inr "never",.int 1)]
def agv(h:ZR hd=some ks):fP agR (Sum.inr hd)=some (.int ((ks.length+1:Nat):Int)):=by
 have a:=acn h;simp only[Z5,ad1,an3] at a;rcases a with rfl|rfl|rfl|rfl|rfl|rfl|rfl|rfl|rfl|rfl|rfl|rfl;all_goals first
  | (cases (show some ([]:a9)=some ks from h);rfl)
  | (cases (show some (["ROW"]:a9)=some ks from h);rfl)
  | (cases (show some (["NAME"]:a9)=some ks from h);rfl)
  | (cases (show some (["ROW","AT"]:a9)=some ks from h);rfl)
  | (cases (show some (["NAME","ROW","AT"]:a9)=some ks from h);rfl)
  | (cases (show some (["ROW","AT","ROW","AT"]:a9)=some ks from h);rfl)
def akU(h:ZR hd=none):fP agR (Sum.inr hd)=none:=by refine aen λp a z=>?_;simp only[agR,Z5,ad1,an3] at a;rcases a with rfl|rfl|rfl|rfl|rfl|rfl|rfl|rfl|rfl|rfl|rfl|rfl <;> (cases z;exact absurd h (by decide))
def aaX(hd:Str)(ws:a9)(tx:Bool):Bool:=match ZR hd with
 |none=>false
 |some ks=>decide (ws.length=ks.length) && (tx == Mz (.str hd) [.str "rules",.str "put"]) && aau hd ws
def aaQ    (h:ZR hd=some ks):aaX hd ws tx=(decide (ws.length=ks.length) && (tx == Mz (.str hd) [.str "rules",.str "put"]) && aau hd ws):=by rw[aaX,h]
noncomputable def txV:Option Str->V
 |none=>.dj
 |some z=>.str z
def avH:b9 ((hd::z::ws).map V.str) (some 2) none=ws.map V.str:=by have:=gk (xs:=(hd::z::ws).map V.str) (i:=2) (by simp);rw[show ((2:Nat):Int)=2 from rfl] at this;rw[this];rfl
def ajT(h:hd∈abq)(hk:ZR hd=some ks):ks≠[]:=by
 rcases Z5.mp h with rfl|h
 .cases (show some (["NAME","ROW","AT"]:a9)=some ks from hk);simp
 .obtain rfl:=B1.mp h;cases (show some (["NAME"]:a9)=some ks from hk);simp
inductive apM(vs:q7)(H:Hp)(Q:VK)(_:XK):Prop|mk(l:Addr)(hd:Str)(ws:a9)(tx:Option Str)(_:vs=[.ref l,txV tx])(_:H l=r6 ((hd::ws).map V.str))(_:ws.length<=20)(_:(∀w∈ws,w∈aae))(_:∀H',af H H'->Q (.bl (aaX hd ws tx.isSome)) H')
def amI{ws:a9}:((ws.filter λw=>!isNum w).length=0)↔ws.all isNum=true:=by rw[ah3,List.filter_eq_nil_iff,aj9];exact⟨λh x a=>by simpa using h x a,λh x a=>by simpa using h x a⟩
def eP:bE P w K mg ap dJ 2 t.aov t.asV ["_law_parts","_law_text"] apM:=by
 refine T.aos.ok ey λvs H Q E h=>?_;obtain⟨l,c,d,s,rfl,u,v,N,q⟩:=h;room;refine ak (b7 2 ey (aC aU br ai)) ⟨aV.of u,aB (j:=0) rfl,?_⟩;refine @ak _ _ _ _ _ _ _ (@lJ _ _ 3 _ _ _ _ ey.nd rfl (Or.inl rfl) (@adt _ _ _ _ [(Sum.inr "rules",.int 1),(Sum.inr "put",.int 3),(Sum.inr "cut",.int 5),(Sum.inr "undo",.int 1),(Sum.inr "redo",.int 1),(Sum.inr "mark",.int 4),(Sum.inr "drop",.int 2),(Sum.inr "marks",.int 1),(Sum.inr "row",.int 2)] (by repeat (first|exact aqL|refine aoM aZ (by first|exact ai|exact aZ) ?_)) rfl rfl (by simp) (by decide) (by decide)) (by left) (by left)) λp hp=>?_;have O:∀{p2:Addr} {o:HO},ag H p o p2=none->p≠p2:=λh z=>by rw[<- z,aa] at h;cases h
 refine @aF _ _ _ _ _ _ _ (λg H'=>g=[ρ l,some (txV s),τ c,ρ p,none]/\H' p=some (.dK agR)/\af H H') (@aY _ _ _ _ (@aqX _ _ _ _ _ _ _ dh (@adt _ _ _ _ [(Sum.inr "tint",.int 2),(Sum.inr "folds",.int 1),(Sum.inr "never",.int 1)] (by repeat (first|exact aqL|refine aoM aZ (by first|exact ai|exact aZ) ?_)) rfl rfl (by simp) (by decide) (by decide)) ⟨rfl,rfl,rfl,rfl⟩) (by left)) ⟨p,rfl,.inl ⟨_,.of aa⟩,λp2 C=>⟨p2,_,_,rfl,O C,by rw[aj (O C),aa],aa,by decide,rfl,aa,λb o hb=>by rw[aj (au hb hp)];exact((af.ag hp).to C) b o hb⟩⟩ ?_;rintro g H3 ⟨rfl,R,S⟩;have hl3:=S _ _ u;cases hk:ZR c with
 |none =>
  have q:=q H3 S;rw[aaX,hk] at q;exact aF (λ_ _=>False) (bq (PW.pt (jz (Al (vo (cS hr) cG dh)) (jz (aA tX (ez aD T.bD (bQ br)) (pV (cS hr) dh cG (λ_ _=>rfl)) (aE _)) (jk (aA tX (eW nR bP cR (aE _)) (eW iA cG (bM (cy aZ aZ)) rfl) (aE _)))))) ay ay) ⟨p,_,rfl,om.k (k:=Sum.inr c) R,.mk<|mG (by rw[akU hk];rfl) (zA (zA (av (aQ k7) q)))⟩ (λ_ _ z=>z.elim)
 |some ks =>
  have U:∀H',af H H' -> ¬(d.length=ks.length/\s.isSome=Mz (.str c) [.str "rules",.str "put"])->Q (.bl false) H':=λH' s' I=>by
   have q:=q H' s';rw[aaQ hk,show (decide (d.length=ks.length) && (s.isSome == Mz (.str c) [.str "rules",.str "put"]))=false by
    rw[Bool.and_eq_false_iff,decide_eq_false_iff_not,beq_eq_false_iff_ne];by_cases A:d.length=ks.length
    .exact .inr λz=>I ⟨A,z⟩
    .exact .inl A,Bool.false_and] at q
   exact q
  refine aF (λg H'=>g=[ρ l,some (txV s),τ c,ρ p,none]/\af H H'/\d.length=ks.length/\s.isSome=Mz (.str c) [.str "rules",.str "put"]) (bq (PW.pt (jz (Al (vo (cS hr) cG dh)) (jz (aA tX (ez aD T.bD (bQ br)) (pV (cS hr) dh cG (λ_ _=>rfl)) (aE _)) (jk (aA tX (eW nR bP cR (aE _)) (eW iA cG (bM (cy aZ aZ)) rfl) (aE _)))))) ay ay) ⟨p,_,rfl,om.k (k:=Sum.inr c) R,.mk<|mG (by rw[agv hk];rfl) (mH ⟨l,_,rfl,.inl (aV.of hl3),p,_,rfl,agv hk ▸ om.k (k:=Sum.inr c) R,rfl,.mk<|mq (λA=>zA (av (aQ k7) (U _ S λz=>A ?_))) (λA=>?_)⟩)⟩ ?_
  .rw[d5,P3,z.1]
  .have A:d.length=ks.length:=by have:=V.int.inj A;rw[d5,P3] at this;lia
   have W:(!decide (txV s=V.dj))=s.isSome:=by cases s <;> rfl
   refine⟨rfl,sL rfl,λX a=>⟨.inl (aV.of aa),rfl,rfl,rfl,.mk<|mq (λZ=>av (aQ k7) (U _ (S.to a) λz=>Z ?_)) (λZ=>bg ⟨rfl,S.to a,A,?_⟩)⟩⟩
   .rw[W,z.2];rfl
   .rw[W] at Z;exact V.bl.inj Z
  rintro g H4 ⟨rfl,s4,hl,ht⟩;have Y:=s4 _ _ u;have e2:Mz (.str c) [.str "mark",.str "drop"]=decide (c∈abq):=mS (cs:=abq);refine aF (λg H'=>∃J,g=[ρ l,some (txV s),τ c,ρ p,ρ J]/\af H H'/\H' J=r6 ((if c∈abq then d.drop 1 else d).map V.str)) (b7 4 ey (dc (aA iA cG (bM (cy aZ aZ)) rfl) (bS cZ br (bO ai) cP) (bS cZ br (bO ai) cP))) ?_ ?_
  .refine⟨sL rfl,λX a=>⟨.inl (aV.of aa),rfl,rfl,.mk ?_⟩⟩;refine mG e2 (dM (λn=>?_) λn=>?_)
   .refine⟨aV.of (af.ag a _ _ Y),λp5 F=>⟨p5,rfl,(s4.to a).to F,?_⟩⟩;obtain⟨z,r,rfl⟩:∃z r,d=z::r:=by
     cases d with
     |nil=>exact absurd (ah3.mp hl.symm) (ajT n hk)
     |cons z r=>exact⟨z,r,rfl⟩
    rw[aa,w4 n,avH];rfl
   .exact⟨aV.of (af.ag a _ _ Y),λp5 F=>⟨p5,rfl,(s4.to a).to F,by rw[aa,C5 n,ahL]⟩⟩
  rintro g H5 ⟨J,rfl,s5,I⟩;have hl5:=s5 _ _ u;have ql:∀H',af H H'->Q (.bl (aau c d)) H':=λH' s'=>by have q:=q H' s';rw[aaQ hk,ab4 hl,ht,beq_self_eq_true,Bool.true_and,Bool.true_and] at q;exact q
  refine aF (λg H'=>∃f:a9,g=[ρ l,some (txV s),τ c,ρ p,ρ J]/\af H H'/\H' J=r6 (f.map V.str)/\f.length<=20/\(∀w∈f,w∈aae)/\aau c d=f.all isNum) (bq (PW.pt (dX (aA iA cG (bM (cy aZ aZ)) rfl) (cX (aA cC (aC aU br ai) aZ (aE _))))) ay ay) ?_ ?_
  .refine⟨sL rfl,λX a=>⟨.inl (aV.of aa),rfl,rfl,.mk ?_⟩⟩;have B:=af.ag a (o:=.lst [.str "mark",.str "drop"]);refine mG e2 (dM (λn=>?_) λn=>?_)
   .obtain⟨z,r,rfl⟩:∃z r,d=z::r:=by
     cases d with
     |nil=>exact absurd (ah3.mp hl.symm) (ajT n hk)
     |cons z r=>exact⟨z,r,rfl⟩
    rw[w4 n] at I;have e:aau c (z::r)=(!decide (z = "") && r.all isNum):=by rw[aau,w4 n]
    rw[e] at ql ⊢;refine⟨aV.of (B _ _ hl5),aB (j:=1) rfl,rfl,.mk<|dM (λL=>?_) λL=>?_⟩
    .have:=ql _ (s5.trans B);rw[ab4 (V.str.inj L)] at this;exact av (aQ k7) this
    .exact bg ⟨r,rfl,s5.trans B,B _ _ I,by rw[P3] at v;lia,λw hw=>N w (Q1 _ hw),by rw[ab2 (λy=>L (ac7 V.str y))];rfl⟩
   .rw[C5 n] at I;exact bg ⟨d,rfl,s5.trans B,B _ _ I,v,N,abo n⟩
  rintro g H6 ⟨f,rfl,B,L,hzl,hzs,e⟩;rw[e] at ql;refine av (@aQ _ _ _ _ (@eW _ _ _ _ _ _ _ _ cC (@sY _ _ _ _ _ _ _ _ _ aD (by rfl) T.bD (by lk) (ao (@akP _ (az (top 96)) _ ["_law_parts","_law_text","_law_head","_law_many","_law_numbers"] _ _ _ ("_law_part") _ _ [] _ _ _ (by walk_at "ck") (@fF _ _ _ _ eE) (λ_ _ _ _=>by exact(@g9 _ _ _ _ (@gR _ _ _ (@aS _ _ _ _ _ _ _ _ _ _ _ _ _ _ _ _ (Sv T) hr.m rfl T.aue T.alJ.kp T.alJ.b1 .nil aH (ao br bu (by left)) (by left) (by left) (by left)) (by left)))) (λ_ _ _ _=>by exact br) (by left) (by left) (by left) (by left)) bu (by left)) (by left) (by left) (by left) (by left)) ai (aE _))) ⟨J,rfl,⟨_,aV.of L⟩,zp (xs:=f.map V.str) (λi ys H'=>ys=((f.take i).filter λw=>!isNum w).map V.str/\af H6 H') ⟨rfl,af.refl _⟩ (cL (by rw[d5];lia)) ?_ ?_ ?_⟩
  .rintro i ys H' _ ⟨_,M⟩;exact aV.of (M _ _ L)
  .rintro i xv ys H' hx hyl ⟨rfl,M⟩;rw[v3] at hx;obtain⟨x,G,rfl⟩:=D1.mp hx;have hi:i<(f.map V.str).length:=by rw[d5];exact(d6.mp G).1
   refine⟨x,rfl,hzs x (p0 G),λH8 s8=>⟨?_⟩⟩;have e8:(f.take (i+1)).filter (λw=>!isNum w)=(f.take i).filter (λw=>!isNum w)++if isNum x=true then [] else [x]:=by rw[ae1 G,List.filter_append];congr 1;cases h:isNum x <;> simp[h]
   cases hn8:isNum x with
   |true =>
    rw[hn8] at e8;refine mH (q8 hi (by lia) ⟨?_,M.trans s8⟩);rw[e8];simp
   |false =>
    rw[hn8] at e8;refine zA (q8 hi (by rw[i5,al5];lia) ⟨?_,M.trans s8⟩);rw[e8];simp
  .rintro ys H' hyl ⟨rfl,M⟩ D R;rw[d5,ab3];refine⟨D,_,rfl,.inl (aV.of aa),rfl,?_⟩;have e9:decide (V.int (((f.filter λw=>!isNum w).map V.str).length:Nat)=V.int 0)=f.all isNum:=by rw[d5,af5,ac4,<- amI,V.int.injEq];lia
   have:=ql (ag H' D (.lst ((f.filter λw=>!isNum w).map V.str))) ((B.trans M).to R);rw[<- e9] at this;exact this
def adx:c7->Str
 | [i,j]=>if plN i j=true then "told" else "place"
 | [i,j,k,l]=>if plN i j=true/\plN k l=true/\HT.gY [(i:Int),j] [(k:Int),l]=false then "told" else "place"
 |_=>""
inductive aon(K:W.Frag)(vs:q7)(H:Hp)(Q:VK)(_:XK):Prop|mk(l:Addr)(hd:Str)(is:c7)(_:vs=[.ref l])(_:H l=r6 ((hd::is.map ZQ).map V.str))(_:(∀i∈is,i<10000))(_:((hd = "put" /\ is.length=2)\/(hd = "cut" /\ is.length=4)))(_:∀p H',H' p=r6 [.str (adx is)]->af H H'->Q (.ref p) H')
def Uv:bE P w K mg ap dJ 2 t.aoB t.as1 ["_law_parts"] (aon K):=by
 refine T.anQ.ok oS λvs H Q E h=>?_;obtain⟨l,hd,f,rfl,hl,C,N,q⟩:=h;room;have W:f.length<=4:=by rcases N with h|h <;> lia
 refine aF (λu a=>∃b,u=[ρ l,ρ b]/\af H a/\a b=r6 ((f.map λ(i:Nat)=>(i:Int)).map V.int)) (@B3 _ 1 _ (az (top 100)) _ ["_law_parts","_law_numbers"] _ _ ("_law_part") _ _ _ _ [] _ _ oS.nd rfl (Or.inl rfl) (by walk_at "ck") (@fF _ _ _ _ (bS cZ br (bO ai) cP)) (λ_ _ _ _=>by exact(@nZ _ _ _ _ _ _ _ _ _ aal (by rfl) T.XZ (by lk) (bQ br) (by left) (by left) (by left) (by left))) (by left) (by left) (by left) (by left) (by left) (by left)) ?_ ?_
 .refine⟨aV.of hl,λp v=>?_⟩;rw[ahL];have F:af H (ag H p (.lst ((f.map ZQ).map V.str))):=af.ag v;have R:ag H p (.lst ((f.map ZQ).map V.str)) p=r6 ((f.map ZQ).map V.str):=aa;generalize ag H p (.lst ((f.map ZQ).map V.str))=I at F R;refine⟨p,rfl,⟨_,aV.of R⟩,ie (xs:=(f.map ZQ).map V.str) (λi O a=>O=((f.take i).map λ(i:Nat)=>(i:Int)).map V.int/\a=I) ⟨rfl,rfl⟩ (cL (by rw[d5,d5];lia)) ?_ ?_ ?_⟩
  .rintro i O a _ ⟨_,rfl⟩;exact aV.of R
  .rintro i xv O a S G ⟨rfl,rfl⟩;rw[v3,v3] at S;obtain⟨n,y,rfl⟩:=D1.mp (by rw[Option.map_map] at S;exact S);have h2:=C n (p0 y);refine⟨(n:Int),rfl,by lia,by lia,fQ (by rw[d5,d5];exact(d6.mp y).1) G ⟨?_,rfl⟩⟩;rw[ae1 y];simp
  .rintro O a G ⟨rfl,rfl⟩ D Y;exact⟨D,rfl,F.to Y,by rw[aa,d5,d5,ab3]⟩
 rintro u I ⟨b,rfl,F,y⟩;have J:=F _ _ hl;obtain⟨i,j,r,rfl⟩:∃i j r,f=i::j::r:=by
  match f,N with
  | [],h=>exact absurd h (by simp)
  | [i],h=>exact absurd h (by simp)
  |i::j::r,_=>exact⟨i,j,r,rfl⟩
 have Z:=C i (by simp);have hj1:=C j (by simp);have c:∀(U:Str) A,af I A->U=adx (i::j::r)->∀p,A p=none->Q (.ref p) (ag A p (.lst [.str U])):=λU A d e p v=>q p _ (by rw[aa,e]) ((F.trans d).to v);refine aF (λu a=>u=[ρ l,ρ b]/\af I a/\plN i j=true) (bq (g9 (gR (aS (xB T) hr.m rfl T.aip T.afJ.kp T.afJ.b2 .nil aH (cy (aC aU bP ai) (aC aU bP ai))))) ay ay) ⟨aV.of y,aB (j:=0) rfl,aV.of y,aB (j:=1) rfl,i,j,rfl,by lia,by lia,λA d=>⟨?_⟩⟩ ?_
 .cases v:plN i j with
  |true=>exact mH (bg ⟨rfl,d,rfl⟩)
  |false =>
   refine zA (av (aQ (bM (bQ aZ))) ⟨sL rfl,c _ _ d ?_⟩);rcases N with ⟨_,h⟩|⟨_,h⟩
   .obtain rfl:r=[]:=ah3.mp (by simpa using h);rw[adx,v];rfl
   .match r,h with
    | [k,m],_=>rw[adx,v];rfl
 rintro u A ⟨rfl,d,L⟩;rcases N with ⟨rfl,h⟩|⟨rfl,h⟩
 .obtain rfl:r=[]:=ah3.mp (by simpa using h);refine aF (λ_ _=>False) (bq (aA cC (aC aU br ai) aZ (aE _)) ay ay) ⟨aV.of (d _ _ J),aB (j:=0) rfl,rfl,.mk<|dM (λ_=>av (aQ (bM (bQ aZ))) ⟨sL rfl,c _ _ d ?_⟩) λh=>absurd rfl h⟩ (λ_ _ z=>z.elim);rw[adx,L];rfl
 obtain⟨k,m,rfl⟩:∃k m,r=[k,m]:=by
  match r,h with
  | [k,m],_=>exact⟨k,m,rfl⟩
 have hk1:=C k (by simp);have hm1:=C m (by simp);refine ak (bq (aA cC (aC aU br ai) aZ (aE _)) ay ay) ⟨aV.of (d _ _ J),aB (j:=0) rfl,rfl,.mk<|dM (λh=>absurd h (by decide)) λ_=>bg ?_⟩;have g:=d _ _ y;refine aF (λu a=>u=[ρ l,ρ b]/\af I a/\plN k m=true/\HT.gY [(i:Int),j] [(k:Int),m]=false) (bq (PW.pt (jz (g9 (gR (aS (xB T) hr.m rfl T.aip T.afJ.kp T.afJ.b2 .nil aH (cy (aC aU bP ai) (aC aU bP ai))))) (jk (aA (atY (aa6 (cS hr))) (bS cZ bP cP (bO ai)) (bS cZ bP (bO ai) cP) (aE _))))) ay ay) ⟨aV.of g,aB (j:=2) rfl,aV.of g,aB (j:=3) rfl,k,m,rfl,by lia,by lia,λH3 B=>⟨?_⟩⟩ ?_
 .cases v:plN k m with
  |false =>
   refine zA (zA (av (aQ (bM (bQ aZ))) ⟨sL rfl,c _ _ (d.trans B) ?_⟩));rw[adx,C5 (by rw[v];simp)]
  |true =>
   refine mH ⟨aV.of (B _ _ g),λp1 x=>⟨aV.of (af.ag x _ _ (B _ _ g)),λp2 s=>.mk (ns:=[(i:Int),j]) (ms:=[(k:Int),m]) (aV.of (af.ag s _ _ aa)) (aV.of aa) (.mk ?_)⟩⟩;have X:=((d.trans B).to x).to s (o:=.lst (b9 (([i,j,k,m].map λ(i:Nat)=>(i:Int)).map V.int) (some 2) none));exact xM (λM=>av (aQ (bM (bQ aZ))) ⟨sL rfl,c _ _ X (by rw[adx,C5 (by rw[M];simp)])⟩) λM=>bg ⟨rfl,X,rfl,by simpa using M⟩
 rintro u H3 ⟨rfl,B,s,M⟩;exact av (aQ (bM (bQ aZ))) ⟨sL rfl,c _ _ B (by rw[adx,w4 ⟨L,s,M⟩])⟩
def ams (c:Nat):Bool:=decide (c∈(Str.ofString "abcdefghijklmnopqrstuvwxyz").l)
def auj:∀z∈aae,z ≠ "" -> z.l.all ams=true->z.length<=8->isName z=true:=by lk
def anF:∀z∈aae,(z.l.all ams=false \/ ¬z.length<=8)->isName z=false:=by lk
def markD (z:Str) (i j:Nat):Str:=if isName z=true then (if plN i j=true then "told ok" else "place") else "mark"
noncomputable def ajC (z:Str):Str:=if z = "ab" then "told ok" else "mark"
inductive alb(K:W.Frag)(vs:q7)(H:Hp)(Q:VK)(_:XK):Prop|mk(l:Addr)(z wd:Str)(_:vs=[.ref l])(_:z∈aae)(_:z ≠ "")(_:(H l=r6 ([("drop" : Str),z].map V.str)/\wd=ajC z\/∃i j:Nat,i<10000/\j<10000/\H l=r6 ([("mark" : Str),z,ZQ i,ZQ j].map V.str)/\wd=markD z i j))(_:∀p H',H' p=r6 [.str wd]->af H H'->Q (.ref p) H')
def Vb:bE P w K mg ap dJ 2 t.apl t.asu ["_law_parts"] (alb K):=by
 refine T.aoP.ok eY λvs H Q E h=>?_;obtain⟨l,z,D,rfl,s,n,u,q⟩:=h;room;have d:z.length<=sizeLine:=ac2 ((adR z s).1) (by decide);rcases u with ⟨hl,rfl⟩|⟨i,j,F,G,hl,rfl⟩
 .refine ak (bq (aA cC (aC aU br ai) aZ (aE _)) ay ay) ⟨aV.of hl,aB (j:=0) rfl,rfl,.mk<|dM (λ_=>?_) λh=>absurd rfl h⟩;refine av (aQ (dc (aA cC (aC aU br ai) aZ (aE _)) (bM (bQ aZ)) (bM (bQ aZ)))) ?_;walk_at "rd";refine⟨aV.of hl,aB (j:=1) rfl,rfl,?_⟩;have e:decide (V.str z=V.str "ab")=decide (z = "ab"):=by simp
  rw[ajC] at q;rcases Decidable.em (z = "ab") with h | h
  .rw[w4 h] at q;rw[ab4 (ac7 V.str h)];exact zA ⟨by decide,λp a=>q p _ aa (af.ag a)⟩
  .rw[C5 h] at q;rw[ab2 (λy=>h (V.str.inj y))];exact mH ⟨by decide,λp a=>q p _ aa (af.ag a)⟩
 .refine ak (bq (aA cC (aC aU br ai) aZ (aE _)) ay ay) ⟨aV.of hl,aB (j:=0) rfl,rfl,.mk<|dM (λh=>absurd h (by decide)) λ_=>bg ?_⟩;refine aF (λf b=>(∃g,f=[ρ l,g])/\b=H/\isName z=true) (dD aa7 rfl (Tc (aC aU br ai)) (jb 1 eY) ay) ⟨aV.of hl,aB (j:=1) rfl,z,rfl,aii (λi f b=>(∃g,f=[ρ l,g])/\b=H/\(z.l.take i).all ams=true/\(0<i->z.length<=8)) ⟨⟨_,rfl⟩,rfl,rfl,λh=>absurd h (ah0 0)⟩ ?_ ?_⟩ ?_
  .rintro k c f b u ⟨⟨g,rfl⟩,rfl,v,A⟩;have r:isName z=false->∀(p:Addr),b p=none->Q (.ref p) (ag b p (.lst [.str "mark"])):=λx p a=>by rw[markD,x] at q;exact q p _ aa (af.ag a)
   refine av (bq (PW.pt (jz (aA w9 bP aZ rfl) (jk (aA j9 (ez bz T.bD (bQ (aC aU br ai))) ai (aE _))))) ay ay) ?_;walk_at "rd";rw[af8];refine mq (λh=>av (aQ (bM (bQ aZ))) ?_) λh=>⟨aV.of hl,aB (j:=1) rfl,_,rfl,d,dM (λC=>av (aQ (bM (bQ aZ))) ?_) λC=>bg ⟨⟨_,rfl⟩,rfl,?_,λ_=>by lia⟩⟩
   .walk_at "rd";refine⟨by decide,r (anF z s (.inl ?_))⟩;rw[<- Bool.not_eq_true,aj9];exact λy=>h (of_decide_eq_true (y c (p0 u)))
   .walk_at "rd";exact⟨by decide,r (anF z s (.inr (by lia)))⟩
   .rw[List.take_succ,u,List.all_append,v];show (ams c && true)=true;rw[ams,ab4 h];rfl
  .rintro f b ⟨⟨g,rfl⟩,rfl,v,A⟩;rw[<- str_len,ab3] at v;refine⟨⟨_,rfl⟩,rfl,auj z s n v (A ?_)⟩;rcases Nat.eq_zero_or_pos z.length with e|e
   .exfalso;apply n;have:z.l=[]:=ad5 (by rw[str_len];exact e);exact afr this
   .exact e
  rintro f b ⟨⟨g,rfl⟩,rfl,x⟩;rw[markD,w4 x] at q;refine av (aQ (dc (gR (aS (xB T) hr.m rfl T.aip T.afJ.kp T.afJ.b2 .nil aH (cy (pO aal T.XZ (bQ (aC aU br ai))) (pO aal T.XZ (bQ (aC aU br ai)))))) (bM (bQ aZ)) (bM (bQ aZ)))) ?_;walk_at "rd";refine⟨aV.of hl,aB (j:=2) rfl,(i:Int),rfl,by lia,by lia,aV.of hl,aB (j:=3) rfl,(j:Int),rfl,by lia,by lia,i,j,rfl,by lia,by lia,λI B=>?_⟩;cases a:plN i j with
  |true =>
   rw[a] at q;exact⟨_,rfl,zA ⟨by decide,λp a=>q p _ aa (B.to a)⟩⟩
  |false =>
   rw[a] at q;exact⟨_,rfl,mH ⟨by decide,λp a=>q p _ aa (B.to a)⟩⟩
noncomputable def aty(a b:Str):Nat->Str
 |0=>"told " ++ a
 |1=>"told " ++ b
 |_=>"place"
inductive aar:Str->a9->Str->Prop
 |put (i j:Nat):i<10000->j<10000->aar "put" [ZQ i,ZQ j] (adx [i,j])
 |cut (i j k m:Nat):i<10000->j<10000->k<10000->m<10000->aar "cut" [ZQ i,ZQ j,ZQ k,ZQ m] (adx [i,j,k,m])
 |drop (z:Str):z∈aae->z ≠ "" -> aar "drop" [z] (ajC z)
 |mark (z:Str) (i j:Nat):z∈aae->z ≠ "" -> i<10000->j<10000->aar "mark" [z,ZQ i,ZQ j] (markD z i j)
 |bb (i:Nat):i<10000->aar "row" [ZQ i] (aty "ab" "c" i)
 |alv (i:Nat):i<10000->aar "tint" [ZQ i] (aty "2 red" "1 red" i)
 |Zz:aar "undo" [] "told 1"
 |ZJ:aar "redo" [] "nothing"
 |bj:aar "marks" [] "told ab 1 1"
 |aod:aar "folds" [] "told "
 |never:aar "never" [] "told a 1"
inductive avP(K:W.Frag)(vs:q7)(H:Hp)(Q:VK)(_:XK):Prop|mk(l:Addr)(hd wd:Str)(ws:a9)(_:vs=[.ref l])(_:H l=r6 ((hd::ws).map V.str))(_:aar hd ws wd)(_:∀p H',H' p=r6 [.str wd]->af H H'->Q (.ref p) H')
noncomputable def avQ:List (Key×V):=[(Sum.inr "undo",.str "told 1"),(Sum.inr "redo",.str "nothing"),(Sum.inr "marks",.str "told ab 1 1"),(Sum.inr "folds",.str "told "),(Sum.inr "never",.str "told a 1")]
def Ti:bE P w K mg ap dJ 3 t.amR t.asm ["_law_parts"] (avP K):=by
 refine T.ahE.ok m7 λvs H Q E h=>?_;obtain⟨l,x,W,ws,rfl,hl,R,q⟩:=h;room;have g:∀{c d:Str},Mz (.str x) [.str c,.str d]=decide (x∈[c,d]):=λ{c d}=>mS (cs:=[c,d]);by_cases J:x∈(["put","cut"]:a9)
 .refine aF (λ_ _=>False) (bq (aA iA (aC aU br ai) (bM (cy aZ aZ)) rfl) ay ay) ⟨aV.of hl,aB (j:=0) rfl,sL rfl,λp n=>⟨.inl (aV.of aa),rfl,rfl,.mk<|mG (g.trans (ab4 J)) (zA (av (aQ (aS (Uv T) hr.m rfl T.aum T.anQ.kp T.anQ.b1 .nil aH (bQ br))) (?_)))⟩⟩ (λ_ _ z=>z.elim);have y:=af.ag n (o:=.lst [.str "put",.str "cut"]);cases R with
  |put i j hi hj=>exact⟨l,_,[i,j],rfl,y _ _ hl,by simp[hi,hj],.inl ⟨rfl,rfl⟩,λe A r s=>q e A r (y.trans s)⟩
  |cut i j k m hi hj hk hm=>exact⟨l,_,[i,j,k,m],rfl,y _ _ hl,by simp[hi,hj,hk,hm],.inr ⟨rfl,rfl⟩,λe A r s=>q e A r (y.trans s)⟩
  |_=>exact absurd J (by decide)
 refine aF (λu D=>u=[ρ l,none,none]/\af H D) (bq (aA iA (aC aU br ai) (bM (cy aZ aZ)) rfl) ay ay) ⟨aV.of hl,aB (j:=0) rfl,sL rfl,λp n=>⟨.inl (aV.of aa),rfl,rfl,.mk<|mG (g.trans (ab2 J)) (mH (bg ⟨rfl,af.ag n⟩))⟩⟩ ?_;rintro u H1 ⟨rfl,y⟩;have B:=y _ _ hl;by_cases r:x∈(["mark","drop"]:a9)
 .refine aF (λ_ _=>False) (bq (aA iA (aC aU br ai) (bM (cy aZ aZ)) rfl) ay ay) ⟨aV.of B,aB (j:=0) rfl,sL rfl,λp n=>⟨.inl (aV.of aa),rfl,rfl,.mk<|mG (g.trans (ab4 r)) (zA (av (aQ (aS (Vb T) hr.m rfl T.atL T.aoP.kp T.aoP.b1 .nil aH (bQ br))) (?_)))⟩⟩ (λ_ _ z=>z.elim);have s:=af.ag n (o:=.lst [.str "mark",.str "drop"]);cases R with
  |drop z hz hn=>exact⟨l,z,_,rfl,hz,hn,.inl ⟨s _ _ B,rfl⟩,λe A r C=>q e A r ((y.trans s).trans C)⟩
  |mark z i j hz hn hi hj=>exact⟨l,z,_,rfl,hz,hn,.inr ⟨i,j,hi,hj,s _ _ B,rfl⟩,λe A r C=>q e A r ((y.trans s).trans C)⟩
  |_=>exact absurd r (by decide)
 refine aF (λu D=>u=[ρ l,none,none]/\af H D) (bq (aA iA (aC aU br ai) (bM (cy aZ aZ)) rfl) ay ay) ⟨aV.of B,aB (j:=0) rfl,sL rfl,λp n=>⟨.inl (aV.of aa),rfl,rfl,.mk<|mG (g.trans (ab2 r)) (mH (bg ⟨rfl,y.to n⟩))⟩⟩ ?_;rintro u A ⟨rfl,s⟩;have L:=s _ _ hl;by_cases M:x∈(["row","tint"]:a9)
 .refine aF (λ_ _=>False) (bq (aA iA (aC aU br ai) (bM (cy aZ aZ)) rfl) ay ay) ⟨aV.of L,aB (j:=0) rfl,sL rfl,λp n=>⟨.inl (aV.of aa),rfl,rfl,.mk<|mG (g.trans (ab4 M)) (zA ?_)⟩⟩ (λ_ _ z=>z.elim);have C:=s.to n (o:=.lst [.str "row",.str "tint"]);generalize ag A p (.lst [.str "row",.str "tint"])=U at C;have hl3:=C _ _ hl;obtain⟨i,a,b,rfl,hi,N,rfl⟩:∃(i:Nat) (a b:Str),ws=[ZQ i]/\i<10000/\((x = "tint" /\ a = "2 red" /\ b = "1 red")\/(x = "row" /\ a = "ab" /\ b = "c"))/\W=aty a b i:=by
   cases R with
   |bb i hi=>exact⟨i,_,_,rfl,hi,.inr ⟨rfl,rfl,rfl⟩,rfl⟩
   |alv i hi=>exact⟨i,_,_,rfl,hi,.inl ⟨rfl,rfl,rfl⟩,rfl⟩
   |_=>exact absurd M (by decide)
  refine aF (λu D=>∃O,u=[ρ l,ρ O,none]/\af H D/\D O=r6 [.str a,.str b]) (b7 1 m7 (aC aU (bM (cy (bM (cy aZ aZ)) (bM (cy aZ aZ)))) (pO CW T.XZ (bQ (eW cC (aC aU br ai) aZ (aE _)))))) ?_ ?_
  .refine⟨sL rfl,λI S=>⟨sL rfl,λe f=>⟨sL rfl,λX F=>?_⟩⟩⟩;have v:=((C.to S).to f).to F (o:=.lst [.ref I,.ref e]);have e2:=af.ag F (o:=.lst [.ref I,.ref e]) _ _ (aa (a:=e) (o:=.lst [.str "2 red",.str "1 red"]) (H:=ag U I (.lst [.str "ab",.str "c"])));have e1:=(af.ag f (o:=.lst [.str "2 red",.str "1 red"])).to F (o:=.lst [.ref I,.ref e]) _ _ (aa (a:=I) (o:=.lst [.str "ab",.str "c"]) (H:=U));refine⟨aV.of (v _ _ hl),aB (j:=0) rfl,rfl,.inr ⟨_,rfl,?_⟩⟩;rcases N with ⟨rfl,rfl,rfl⟩|⟨rfl,rfl,rfl⟩
   .exact⟨aV.of aa,aB (j:=1) rfl,e,rfl,v,e2⟩
   .exact⟨aV.of aa,aB (j:=0) rfl,I,rfl,v,e1⟩
  rintro u H4 ⟨O,rfl,v,Y⟩;have G:=v _ _ hl;have Z:a.length<=10/\b.length<=10:=by rcases N with ⟨_,rfl,rfl⟩|⟨_,rfl,rfl⟩ <;> lk
  have e5:(Str.ofString "told ").length=5:=by lk
  have sz:=ad0;refine av (aQ (dc (aA fX (pO aal T.XZ (bQ (aC aU br ai))) ai (aE _)) (bM (bQ (aK bY aZ (aC aU bP (pO aal T.XZ (bQ (aC aU br ai))))))) (bM (bQ aZ)))) ⟨aV.of G,aB (j:=1) rfl,(i:Int),rfl,by lia,by lia,.mk<|.mk<|?_⟩;match i,hi with
  |0,_=>exact zA ⟨aV.of G,aB (j:=1) rfl,(0:Int),rfl,by decide,by decide,aV.of Y,aB (j:=0) rfl,_,_,rfl,rfl,by rw[e5];lia,sL rfl,λe f=>q e _ aa (v.to f)⟩
  |1,_=>exact zA ⟨aV.of G,aB (j:=1) rfl,(1:Int),rfl,by decide,by decide,aV.of Y,aB (j:=1) rfl,_,_,rfl,rfl,by rw[e5];lia,sL rfl,λe f=>q e _ aa (v.to f)⟩
  |i+2,_=>exact dM (λh=>by lia) λ_=>⟨sL rfl,λe f=>q e _ aa (v.to f)⟩
 refine aF (λu D=>u=[ρ l,none,none]/\af H D) (bq (aA iA (aC aU br ai) (bM (cy aZ aZ)) rfl) ay ay) ⟨aV.of L,aB (j:=0) rfl,sL rfl,λp n=>⟨.inl (aV.of aa),rfl,rfl,.mk<|mG (g.trans (ab2 M)) (mH (bg ⟨rfl,s.to n⟩))⟩⟩ ?_;rintro u U ⟨rfl,C⟩;refine @ak _ _ _ _ _ _ _ (@lJ _ _ 2 _ _ _ _ m7.nd rfl (Or.inl rfl) (@adt _ _ _ _ [(Sum.inr "undo",.str "told 1"),(Sum.inr "redo",.str "nothing"),(Sum.inr "marks",.str "told ab 1 1"),(Sum.inr "folds",.str "told "),(Sum.inr "never",.str "told a 1")] (by repeat (first|exact aqL|refine aoM aZ (by first|exact ai|exact aZ) ?_)) rfl rfl (by simp) (by decide) (by decide)) (by left) (by left)) λp n=>?_;have hv:fP avQ (Sum.inr x)=some (.str W):=by
  cases R with
  |put=>exact absurd (by decide) J
  |cut=>exact absurd (by decide) J
  |mark=>exact absurd (by decide) r
  |drop=>exact absurd (by decide) r
  |bb=>exact absurd (by decide) M
  |alv=>exact absurd (by decide) M
  |_=>rfl
 have v:=C.to n (o:=.dK avQ);exact av (aQ (bM (bQ (pV (cS hr) cG (aC aU br ai) (λ_ _=>rfl))))) ⟨aV.of (v _ _ hl),aB (j:=0) rfl,p,_,rfl,hv ▸ om.k (k:=Sum.inr x) aa,sL rfl,λe f=>q e _ aa (v.to f)⟩
structure XW'(K:W.Frag)(t:eZ)(C:Addr)(bl bu' br' bm bp bn:Bool):Prop where
 x:Dq K C
 v:W.kitOne K (.ref C) (.type "ValueError")=some true
 l:W.kitOne K (.ref C) (.ref t.Ny)=some bl
 u:W.kitOne K (.ref C) (.ref t.A5)=some bu'
 r:W.kitOne K (.ref C) (.ref t.Jh)=some br'
 m:W.kitOne K (.ref C) (.ref t.M5)=some bm
 p:W.kitOne K (.ref C) (.ref t.cK)=some bp
 n:W.kitOne K (.ref C) (.ref t.dN)=some bn
def alf:XW' K t t.Ny true false false false false false:=⟨T.ahH,T.abQ,T.aeo,T.adC,T.aeU,T.aee,T.adU,T.adE⟩
def aiR:XW' K t t.A5 false true false false false false:=⟨T.aaA,T.abL,T.adQ,T.acY,T.aet,T.adY,T.ade,T.acS⟩
def amM:XW' K t t.Jh false false true false false false:=⟨T.acm,T.acF,T.aeV,T.aeb,T.afU,T.aeX,T.aed,T.aea⟩
def akO:XW' K t t.M5 false false false true false false:=⟨T.aid,T.abP,T.aec,T.adp,T.aeO,T.aeh,T.adF,T.adJ⟩
def aiV:XW' K t t.cK false false false false true false:=⟨T.vL,T.abK,T.adw,T.acU,T.aef,T.adT,T.oX,T.adn⟩
def aiW:XW' K t t.dN false false false false false true:=⟨T.uQ,T.abJ,T.adu,T.acO,T.aeA,T.ady,T.acM,T.oW⟩
noncomputable def ifL(b:Bool)(x:Str):a9:=if b=true then [x] else []
def Nz(b:Bool)(x:Str):(ifL b x).length<=1:=by cases b <;> simp[ifL]
noncomputable def ZO (i j:Nat):Str:="rules " ++ PySem.Str.ofString (toString (i:Int)) ++ " " ++ PySem.Str.ofString (toString (j:Int))
def wdL (i j:Nat) (bl bu' br' bm bp bn:Bool):a9:=ifL bl "line" ++ ifL bu' (ZO i j)++ifL br' "rings" ++ ifL bm "mark" ++ ifL bp "place" ++ ifL bn "nothing"
structure Wd'(H0 H:Hp)(l:Addr)(ws:a9):Prop where
 at_:H l=r6 (ws.map V.str)
 new:H0 l=none
 ae:af H0 H
def Wd'.add(W:Wd' H0 H l ws):Wd' H0 (ag H l (.lst (ws.map V.str++[.str x]))) l (ws++[x]) :=
 ⟨by rw[aa,o0];rfl,W.new,λb o a=>by rw[aj (au a W.new)];exact W.ae _ _ a⟩
def Wd'.no(W:Wd' H0 H l ws):Wd' H0 H l (ws++ifL false x):=by rw[show ifL false x=[] from rfl,ad2];exact W
inductive akM(K:W.Frag) (t:eZ)(vs:q7)(H:Hp)(Q:VK)(_:XK):Prop|mk(e C:Addr)(d:Option Addr)(bl bu' br' bm bp bn:Bool)(i j:Nat)(wd:Str)(_:vs=[.ref e])(_:H e=some (jQ e C d))(_:(∀dx,d=some dx->∃fs,H dx=some (.xd fs)))(_:XW' K t C bl bu' br' bm bp bn)(_:i<1000)(_:j<1000)(_:(bu'=true->Tf K C/\b8 K C "row" /\ b8 K C "word" /\ ∃dx,d=some dx/\H dx=some (.xd [("word",.int j),("row",.int i)])))(_:wdL i j bl bu' br' bm bp bn=[wd])(_:∀H',af H H'->Q (.str wd) H')
def agQ:bE P w K mg ap dJ 1 t.aoh t.arF ["_law_caught"] (akM K t):=by
 refine T.adD.ok anZ λvs H Q E h=>?_;obtain⟨e,C,d,c,a,b,o,A,N,i,j,wd,rfl,G,U,X,hi,hj,hu,hw,q⟩:=h;room;refine aF (λf g=>f=[ρ e,none]/\g=H) (bq (PW.pt (jz (aA we br cR (aE _)) (jk (g9 (gR (ez ajk T.pP (cy br (apW (v:=V.ty "ValueError") (u:=Value.type "ValueError") rfl T.agI (by lk) rfl)))))))) ay ay) ⟨rfl,.mk<|dM (λz=>by cases z) λ_=>⟨e,C,d,"ValueError",true,rfl,G,U,X.x,X.v,.mk<|mH (bg ⟨rfl,rfl⟩)⟩⟩ ?_;rintro f g ⟨rfl,z⟩;rw[z];clear z g;refine ak (b7 1 anZ (bM bu)) ⟨sL rfl,λl hl=>?_⟩;have s:Wd' H (ag H l (.lst [])) l []:=⟨aa,hl,af.ag hl⟩
 generalize ag H l (.lst [])=H0 at s;have B:∀{ws g},Wd' H g l ws->∀I,d=some I->∃fs,g I=some (.xd fs):=λW I z=>let ⟨fs,y⟩:=U I z;⟨fs,W.ae _ _ y⟩;have w0:([]:a9).length<=10:=by simp only[i5,ac6];have:=Nz c "line";have:=Nz a (ZO i j);have:=Nz b "rings";have:=Nz o "mark";have:=Nz A "place";lia
 refine aF (λf g=>f=[ρ e,ρ l]/\Wd' H g l ([]++ifL c "line")) (bq (gR (ez vV T.pP (cy br (jX rfl T.aaW (v:=V.ref _) rfl)))) ay ay) ⟨e,C,d,t.Ny,c,rfl,s.ae _ _ G,B s,X.x,X.l,.mk ?_⟩ ?_
 .cases c with
  |false=>exact mH (bg ⟨rfl,s.no⟩)
  |true =>
   exact zA (av (aY (cV Z4 aa0 aa3 bW bP (bQ aZ))) ⟨.inl ⟨rfl,_,aV.of s.at_⟩,s.at_,cL (by rw[d5];exact ac2 w0 (by decide)),rfl,s.add⟩)
 rintro f H1 ⟨rfl,F⟩;have w1:([]++ifL c "line" : a9).length<=10:=by simp only[i5,ac6];have:=Nz c "line";have:=Nz a (ZO i j);have:=Nz b "rings";have:=Nz o "mark";have:=Nz A "place";lia
 refine aF (λf g=>f=[ρ e,ρ l]/\Wd' H g l ([]++ifL c "line" ++ ifL a (ZO i j))) (bq (gR (ez vV T.pP (cy br (jX rfl T.abO (v:=V.ref _) rfl)))) ay ay) ⟨e,C,d,t.A5,a,rfl,F.ae _ _ G,B F,X.x,X.u,.mk ?_⟩ ?_
 .cases a with
  |false=>exact mH (bg ⟨rfl,F.no⟩)
  |true =>
   obtain⟨Y,n1,n2,I,rfl,O⟩:=hu rfl;refine zA (av (aY (cV Z4 aa0 aa3 bW bP (bQ (aK bY (aK bY (aK bY aZ (pO ZW T.aeL (bQ (ajZ br rfl)))) aZ) (pO ZW T.aeL (bQ (ajZ br rfl))))))) ?_);walk_at "rd";have sz:=ad0;have li:(Str.ofString (toString (i:Int))).length<=10:=W.KT.len_num (by lia) (by lia);have lj:(Str.ofString (toString (j:Int))).length<=10:=W.KT.len_num (by lia) (by lia);have e1:(Str.ofString "rules ").length=6:=by lk
   have e2:(Str.ofString " ").length=1:=by lk
   have Z:∀n:Nat,n<1000->((n:Int)).natAbs.log2<1920:=λn hn=>by rw[Int.natAbs_natCast];exact ak7 (Nat.log2_le_self n) (by lia)
   refine⟨.inl ⟨rfl,_,aV.of F.at_⟩,e,C,I,_,.int i,_,rfl,F.ae _ _ G,.inl rfl,F.ae _ _ O,Y,n1,rfl,_,rfl,Z i hi,by lia,by rw[T0];lia,e,C,I,_,.int j,_,rfl,F.ae _ _ G,.inl rfl,F.ae _ _ O,Y,n2,rfl,_,rfl,Z j hj,by rw[T0,T0];lia,F.at_,cL (by rw[d5];exact ac2 w1 (by decide)),?_⟩;exact F.add
 rintro f H2 ⟨rfl,D⟩;have w2:([]++ifL c "line" ++ ifL a (ZO i j):a9).length<=10:=by simp only[i5,ac6];have:=Nz c "line";have:=Nz a (ZO i j);have:=Nz b "rings";have:=Nz o "mark";have:=Nz A "place";lia
 refine aF (λf g=>f=[ρ e,ρ l]/\Wd' H g l ([]++ifL c "line" ++ ifL a (ZO i j)++ifL b "rings")) (bq (gR (ez vV T.pP (cy br (jX rfl T.agn (v:=V.ref _) rfl)))) ay ay) ⟨e,C,d,t.Jh,b,rfl,D.ae _ _ G,B D,X.x,X.r,.mk ?_⟩ ?_
 .cases b with
  |false=>exact mH (bg ⟨rfl,D.no⟩)
  |true =>
   exact zA (av (aY (cV Z4 aa0 aa3 bW bP (bQ aZ))) ⟨.inl ⟨rfl,_,aV.of D.at_⟩,D.at_,cL (by rw[d5];exact ac2 w2 (by decide)),rfl,D.add⟩)
 rintro f H3 ⟨rfl,J⟩;have w3:([]++ifL c "line" ++ ifL a (ZO i j)++ifL b "rings" : a9).length<=10:=by simp only[i5,ac6];have:=Nz c "line";have:=Nz a (ZO i j);have:=Nz b "rings";have:=Nz o "mark";have:=Nz A "place";lia
 refine aF (λf g=>f=[ρ e,ρ l]/\Wd' H g l ([]++ifL c "line" ++ ifL a (ZO i j)++ifL b "rings" ++ ifL o "mark")) (bq (gR (ez vV T.pP (cy br (jX rfl T.acL (v:=V.ref _) rfl)))) ay ay) ⟨e,C,d,t.M5,o,rfl,J.ae _ _ G,B J,X.x,X.m,.mk ?_⟩ ?_
 .cases o with
  |false=>exact mH (bg ⟨rfl,J.no⟩)
  |true =>
   exact zA (av (aY (cV Z4 aa0 aa3 bW bP (bQ aZ))) ⟨.inl ⟨rfl,_,aV.of J.at_⟩,J.at_,cL (by rw[d5];exact ac2 w3 (by decide)),rfl,J.add⟩)
 rintro f H4 ⟨rfl,L⟩;have w4:([]++ifL c "line" ++ ifL a (ZO i j)++ifL b "rings" ++ ifL o "mark" : a9).length<=10:=by simp only[i5,ac6];have:=Nz c "line";have:=Nz a (ZO i j);have:=Nz b "rings";have:=Nz o "mark";have:=Nz A "place";lia
 refine aF (λf g=>f=[ρ e,ρ l]/\Wd' H g l ([]++ifL c "line" ++ ifL a (ZO i j)++ifL b "rings" ++ ifL o "mark" ++ ifL A "place")) (bq (gR (ez vV T.pP (cy br (jX rfl T.iu (v:=V.ref _) rfl)))) ay ay) ⟨e,C,d,t.cK,A,rfl,L.ae _ _ G,B L,X.x,X.p,.mk ?_⟩ ?_
 .cases A with
  |false=>exact mH (bg ⟨rfl,L.no⟩)
  |true =>
   exact zA (av (aY (cV Z4 aa0 aa3 bW bP (bQ aZ))) ⟨.inl ⟨rfl,_,aV.of L.at_⟩,L.at_,cL (by rw[d5];exact ac2 w4 (by decide)),rfl,L.add⟩)
 rintro f H5 ⟨rfl,M⟩;have S:([]++ifL c "line" ++ ifL a (ZO i j)++ifL b "rings" ++ ifL o "mark" ++ ifL A "place" : a9).length<=10:=by simp only[i5,ac6];have:=Nz c "line";have:=Nz a (ZO i j);have:=Nz b "rings";have:=Nz o "mark";have:=Nz A "place";lia
 refine aF (λf g=>f=[ρ e,ρ l]/\Wd' H g l ([]++ifL c "line" ++ ifL a (ZO i j)++ifL b "rings" ++ ifL o "mark" ++ ifL A "place" ++ ifL N "nothing")) (bq (gR (ez vV T.pP (cy br (jX rfl T.nE (v:=V.ref _) rfl)))) ay ay) ⟨e,C,d,t.dN,N,rfl,M.ae _ _ G,B M,X.x,X.n,.mk ?_⟩ ?_
 .cases N with
  |false=>exact mH (bg ⟨rfl,M.no⟩)
  |true =>
   exact zA (av (aY (cV Z4 aa0 aa3 bW bP (bQ aZ))) ⟨.inl ⟨rfl,_,aV.of M.at_⟩,M.at_,cL (by rw[d5];exact ac2 S (by decide)),rfl,M.add⟩)
 rintro f H6 ⟨rfl,R⟩;rw[ao4] at R;rw[show ifL c "line" ++ ifL a (ZO i j)++ifL b "rings" ++ ifL o "mark" ++ ifL A "place" ++ ifL N "nothing" = [wd] from hw] at R;exact av (aQ (dc (aA cC (ez aD T.bD (bQ bP)) ai (aE _)) (aC aU bP ai) aZ)) ⟨l,_,rfl,.inl (aV.of R.at_),rfl,.mk<|dM (λ_=>⟨aV.of R.at_,aB (j:=0) rfl,q _ R.ae⟩) λz=>absurd rfl z⟩
inductive acD(t:eZ)(H:Hp)(e:Addr):Addr->Str->Prop
 |line:H e=some (jQ e t.Ny none)->acD t H e t.Ny "line"
 |mark:H e=some (jQ e t.M5 none)->acD t H e t.M5 "mark"
 |place:H e=some (jQ e t.cK none)->acD t H e t.cK "place"
 |nothing:H e=some (jQ e t.dN none)->acD t H e t.dN "nothing"
 |bd (dx:Addr) (j:Nat):H e=some (jQ e t.A5 (some dx))->H dx=some (.xd [("word",.int j),("row",.int (0:Nat))])->j<1000->acD t H e t.A5 (ZO 0 j)
 |rings (dx:Addr) (fs:List (Str×V)):H e=some (jQ e t.Jh (some dx))->H dx=some (.xd fs)->acD t H e t.Jh "rings"
def acD.takes{wd:Str}{C e:Addr}(h:acD t H e C wd):Tf K C/\W.mroIn K C (.ref t.kh)=some true:=by
 cases h
 .exact⟨T.ahH.toTf,T.acv⟩
 .exact⟨T.aid.toTf,T.acy⟩
 .exact⟨T.vL.toTf,T.nG⟩
 .exact⟨T.uQ.toTf,T.nA⟩
 .exact⟨T.aaA.toTf,T.abX⟩
 .exact⟨T.acm.toTf,T.acK⟩
def acD.word{wd:Str}{C e:Addr}{Q:VK}(h:acD t H e C wd)(q:∀H',af H H'->Q (.str wd) H'):akM K t [.ref e] H Q E:=by
 cases h with
 |line h=>exact⟨e,_,none,_,_,_,_,_,_,0,0,_,rfl,h,(λ_ z=>by cases z),alf T,by decide,by decide,(λz=>by cases z),rfl,q⟩
 |mark h=>exact⟨e,_,none,_,_,_,_,_,_,0,0,_,rfl,h,(λ_ z=>by cases z),akO T,by decide,by decide,(λz=>by cases z),rfl,q⟩
 |place h=>exact⟨e,_,none,_,_,_,_,_,_,0,0,_,rfl,h,(λ_ z=>by cases z),aiV T,by decide,by decide,(λz=>by cases z),rfl,q⟩
 |nothing h=>exact⟨e,_,none,_,_,_,_,_,_,0,0,_,rfl,h,(λ_ z=>by cases z),aiW T,by decide,by decide,(λz=>by cases z),rfl,q⟩
 |bd dx j h h2 hj=>exact⟨e,_,some dx,_,_,_,_,_,_,0,j,_,rfl,h,(λ_ z=>by cases z;exact⟨_,h2⟩),aiR T,by decide,hj,(λ_=>⟨T.aaA.toTf,T.acJ,T.acf,dx,rfl,h2⟩),rfl,q⟩
 |rings dx fs h h2=>exact⟨e,_,some dx,_,_,_,_,_,_,0,0,_,rfl,h,(λ_ z=>by cases z;exact⟨_,h2⟩),amM T,by decide,by decide,(λz=>by cases z),rfl,q⟩
def avZ(t:eZ)(Q:VK):XK:=λd f a=>∃e C b,d = .ref C/\f=some e/\acD t a e C b/\∀c,af a c->Q (.str b) c
def aqZ (R:Str->Hp->Prop):VK:=λu a=>∃z:Str,u = .str z/\z.length<=1000/\R ("told " ++ z) a
def aaN(t:eZ)(R:Str->Hp->Prop):XK:=avZ t λv a=>∃z,v = .str z/\R z a
inductive avx(t:eZ) (K:W.Frag)(vs:q7)(H:Hp)(Q:VK)(_:XK):Prop|mk(x0 dx0:Addr)(fs:List (Str×V))(bb:Str)(R:Str->Hp->Prop)(_:vs=[.ref x0,.str bb])(_:H x0=s0 t.Ru dx0 fs)(_:fs.lookup ("say" : Str)=none)(_:abr t K [.ref x0,.str bb] H (aqZ R) (aaN t R))(_:∀z H',R z H'->Q (.str z) H')
def HJ(hw:t.pr=w.params):bE P w K mg ap dJ 13 t.aoS t.asz ["_law_desk","_law_row"] (avx t K):=by
 refine T.alF.ok A7 λvs H Q E h=>?_;obtain⟨g,n,fs,b,R,rfl,s,v,x,j⟩:=h;room;refine ak (b7 2 A7 aZ) ?_;refine ak (b7 3 A7 cR) ?_;show At _ _ _ [ρ g,τ b,some (.str ""),some .dj,none] H;refine aF (λf c=>(∃z y,f=[ρ g,τ b,τ z,some .dj,y]/\z.length<=1000/\Q (.str ("told " ++ z)) c)\/∃z e C a y,f=[ρ g,τ b,τ z,ρ e,y]/\acD t c e C a/\∀d,af c d->Q (.str a) d) (Ci (i:=4) rfl rfl A7.nd rfl rfl rfl T.oA (by decide) T.rD.at_) ?_ ?_
 .refine⟨λf C e c=>f=[ρ g,τ b,some (.str ""),some .dj,none]/\∃a,acD t c e C a/\∀d,af c d->Q (.str a) d,λo=>?_,?_⟩
  .refine av (b7 2 A7 (sI br T.aah T.aph (adS T hw).up hr.m T.aju.b2 .nil (bQ bP))) ⟨s,v,aaN t R,nH rfl rfl ?_,_,x,λu c A=>?_⟩
   .rintro C e c ⟨M,N,a,B,D,F,G⟩;cases B;cases D;exact⟨rfl,a,F,λd I=>let ⟨z,e,r⟩:=G d I;e ▸ j z d r⟩
   .obtain⟨z,rfl,p,q⟩:=A;exact .inl ⟨z,_,rfl,p,j _ _ q⟩
  .rintro f C e J ⟨rfl,a,l,q⟩;exact⟨(l.takes T).1.at_,(l.takes T).2,av (b7 3 A7 eE) (.inr ⟨_,e,C,a,_,rfl,l,q⟩)⟩
 rintro f J (⟨z,y,rfl,p,q⟩|⟨z,e,C,a,y,rfl,l,q⟩)
 .refine av (aQ (dc (aA nR dh cR (aE _)) (aS (agQ T) hr.m rfl T.agJ T.adD.kp T.adD.b1 .nil aH (bQ dh)) (aK bY aZ cG))) ⟨rfl,.mk<|mq (λh=>absurd rfl h) λ_=>⟨_,_,rfl,rfl,?_,q⟩⟩;have L:(Str.ofString "told ").length=5:=by lk
  have sz:=ad0;rw[L];lia
 .exact av (aQ (dc (aA nR dh cR (aE _)) (aS (agQ T) hr.m rfl T.agJ T.adD.kp T.adD.b1 .nil aH (bQ dh)) (aK bY aZ cG))) ⟨rfl,.mk<|mq (λ_=>(l.word (E:=L2.E0) T q)) (λh=>by cases h)⟩
noncomputable def abD:Str:="mode a red\nend stay"
def asw (z wd:Str):Prop:=(∃a,z=Str.join ⟨#[10]⟩ (rowsOf a)/\ic a/\a.length<=200/\wd=if z=abD then "rings" else "told ok")\/∃r b j,ali z r b j/\j<1000/\z≠abD/\wd=ZO 0 j
inductive alr(t:eZ)(vs:q7)(H:Hp)(Q:VK)(_:XK):Prop|mk(z wd:Str)(_:vs=[.str z])(_:asw z wd)(_:∀H',af H H'->Q (.str wd) H')
def Eo:bE P w K mg ap dJ 9 t.apk t.arG ["_law_text"] (alr t):=by
 refine T.alR.ok wN λvs H Q E h=>?_;obtain⟨z,n,rfl,u,q⟩:=h;room;refine ak (b7 1 wN cR) ?_;show At _ _ _ [τ z,some .dj,none] H;refine aF (λf b=>af H b/\((∃y,f=[τ z,some .dj,y]/\n=if z=abD then "rings" else "told ok")\/∃e C y,f=[τ z,ρ e,y]/\acD t b e C n/\z≠abD)) (Ci (i:=2) rfl rfl wN.nd rfl rfl rfl T.oA (by decide) T.rD.at_) ?_ ?_
 .refine⟨λf C e b=>f=[τ z,some .dj,none]/\af H b/\acD t b e C n/\z≠abD,λs=>?_,?_⟩
  .refine av (aY (ank (abW T) hr.m rfl T.Vm T.Hw.kp T.Hw.b1 .nil (bQ br))) ⟨λv x b=>∃e C,v = .ref C/\x=some e/\af H b/\acD t b e C n/\z≠abD,nH rfl rfl ?_,?_⟩
   .rintro C e b ⟨U,W,A,D,F,I⟩;cases A;cases D;exact⟨rfl,F,I⟩
   .rcases u with ⟨o,rfl,G,hl,e⟩|⟨r,J,j,B,L,c,rfl⟩
    .exact .inl ⟨o,rfl,G,hl,λa b _ p=>⟨p,.inl ⟨_,rfl,e⟩⟩⟩
    .exact .inr ⟨z,r,J,j,rfl,B,λe M b N O p=>⟨e,_,rfl,rfl,p,.bd M j N O L,c⟩⟩
  .rintro f C e R ⟨rfl,g,l,c⟩;exact⟨(l.takes T).1.at_,(l.takes T).2,av (b7 1 wN cG) ⟨g,.inr ⟨e,C,_,rfl,l,c⟩⟩⟩
 rintro f R ⟨g,⟨y,rfl,e⟩|⟨e,C,y,rfl,l,c⟩⟩
 .by_cases d:z=abD
  .rw[w4 d] at e;subst e;exact aF (λ_ _=>False) (bq (aA cC br aZ (aE _)) ay ay) ⟨rfl,.mk<|dM (λ_=>av (aQ aZ) (q _ g)) λh=>absurd (ac7 V.str d) h⟩ (λ_ _ z=>z.elim)
  .rw[C5 d] at e;subst e;refine ak (bq (aA cC br aZ (aE _)) ay ay) ⟨rfl,.mk<|dM (λh=>absurd (V.str.inj h) d) λ_=>bg ?_⟩;exact av (aQ (dc (aA we bP cR (aE _)) aZ (aS (agQ T) hr.m rfl T.agJ T.adD.kp T.adD.b1 .nil aH (bQ bP)))) ⟨rfl,.mk<|dM (λ_=>q _ g) λh=>absurd rfl h⟩
 .refine ak (bq (aA cC br aZ (aE _)) ay ay) ⟨rfl,.mk<|dM (λh=>absurd (V.str.inj h) c) λ_=>bg ?_⟩;exact av (aQ (dc (aA we bP cR (aE _)) aZ (aS (agQ T) hr.m rfl T.agJ T.adD.kp T.adD.b1 .nil aH (bQ bP)))) ⟨rfl,.mk<|dM (λh=>by cases h) λ_=>(l.word (E:=L2.E0) T λX S=>q _ (g.trans S))⟩
noncomputable def aqH:List Item:=[.bp "a" "red",.cb ⟨"any","","red","stay",none,""⟩,.cb ⟨"one","a","blue","stay",none,""⟩]
noncomputable def aqO:List Item:=[.bp "a" "red"]
noncomputable def ap5:List Item:=[.bp "a" "red",.cb ⟨"any","","blue","stay",none,""⟩]
noncomputable def alm:List Item:=[.bp "a" "red",.cb ⟨"end","","","stay",none,""⟩]
def ahK:Str.join ⟨#[10]⟩ (rowsOf aqH) = "mode a red\nany red stay\none 'a blue stay" /\ Str.join ⟨#[10]⟩ (rowsOf aqO) = "mode a red" /\ Str.join ⟨#[10]⟩ (rowsOf ap5) = "mode a red\nany blue stay" /\ Str.join ⟨#[10]⟩ (rowsOf alm) = "mode a red\nend stay" := by lk
def ahw  (h:isName c=true):jB ["a"] ⟨"any","",c,"stay",none,""⟩:=⟨⟨by show ("any" : Str)∈sorts;decide,λ_=>rfl,λz=>absurd (.inl rfl) z⟩,λ_=>h,λz=>absurd z (by show ¬cF "any" = false;decide),by show ("stay" : Str)∈ow;decide,λz=>absurd z (by show ¬gW "stay";decide),λ_=>rfl,.inl rfl⟩
def aoO:jB ["a"] ⟨"one","a","blue","stay",none,""⟩:=⟨⟨by decide,λz=>absurd z (by decide),λ_=>by lk⟩,λ_=>by lk,λz=>absurd z (by decide),by decide,λz=>absurd z (by decide),λ_=>rfl,.inl rfl⟩
def apP:jB ["a"] ⟨"end","","","stay",none,""⟩:=⟨⟨by decide,λ_=>rfl,λz=>absurd (by decide) z⟩,λz=>absurd z (by decide),λ_=>rfl,by decide,λz=>absurd z (by decide),λ_=>rfl,.inl rfl⟩
def adL {rs:List cz} (hl:rs.length<=2) (h:∀R∈rs,jB ["a"] R):ic (.bp "a" "red" :: rs.map Item.cb):=by
 have d:namesOf (.bp "a" "red" :: rs.map Item.cb)=[("a" : Str)]:=by show ("a" : Str)::namesOf (rs.map Item.cb)=_;congr 1;unfold namesOf;rw[List.flatMap_eq_nil_iff];intro x e;obtain⟨R,_,rfl⟩:=aa9.mp e;rfl
 refine⟨by simp,λi n c a=>?_,λi R a=>?_⟩
 .cases i with
  |zero=>cases a;exact⟨by lk,by lk,by show 0<12;decide,λz=>by cases z⟩
  |succ i =>
   rw[ah2,v3] at a;obtain⟨_,_,z⟩:=D1.mp a;cases z
 .cases i with
  |zero=>cases a
  |succ i =>
   rw[ah2,v3] at a;obtain⟨f,b,z⟩:=D1.mp a;cases z;rw[d];refine⟨h R (p0 b),[],⟨"a","red",rs.take i⟩,?_,ak7 (List.length_take_le ..) (by have:=(d6.mp b).1;lia)⟩;rw[an6,<- ac9];generalize rs.take i=r;have go:∀(r:List cz) (m:aR),(r.map Item.cb).foldl stepI [m]=[{ m with bd:=m.bd++r }]:=by
    intro r;induction r with
    |nil=>intro m;rw[ad2];rfl
    |cons x y ih =>
     intro m;rw[ab5,List.foldl_cons,show stepI [m] (.cb x)=[{ m with bd:=m.bd++[x] }] from rfl,ih];simp
   show (r.map Item.cb).foldl stepI [⟨"a","red",[]⟩]=_;rw[go];rfl
def atn:ic aqH:=adL (rs:=[⟨"any","","red","stay",none,""⟩,⟨"one","a","blue","stay",none,""⟩]) (by decide) (by
 intro R a;rcases Z5.mp a with rfl|a
 .exact ahw (by lk)
 .rw[B1.mp a];exact aoO)
def auc:ic aqO:=adL (rs:=[]) (by decide) (λR a=>by cases a)
def aul:ic ap5:=adL (rs:=[⟨"any","","blue","stay",none,""⟩]) (by decide) (λR a=>by rw[B1.mp a];exact ahw (by lk))
def amg:ic alm:=adL (rs:=[⟨"end","","","stay",none,""⟩]) (by decide) (λR a=>by rw[B1.mp a];exact apP)
noncomputable def ms1:List aR:=[⟨"a","red",[⟨"any","","red","stay",none,""⟩,⟨"one","a","blue","stay",none,""⟩]⟩]
noncomputable def msA:List aR:=[⟨"a","red",[]⟩]
noncomputable def msB:List aR:=[⟨"a","red",[⟨"any","","blue","stay",none,""⟩]⟩]
noncomputable def msR:List aR:=[⟨"a","red",[⟨"end","","","stay",none,""⟩]⟩]
def av5:foldI aqH=ms1:=rfl
def av7:foldI aqO=msA:=rfl
def awb:foldI ap5=msB:=rfl
def av1:foldI alm=msR:=rfl
def adK  (hl:rs.length<=200) (h:∀R∈rs,GoodR R/\R.bB = "stay"):eK [⟨"a","red",rs⟩]:=by
 refine⟨Nat.zero_lt_one,by show 1<=200;decide,λm b=>?_,λm b R a=>?_,λm b R a c=>?_⟩
 .rw[B1.mp b];exact⟨hl,λR a=>(h R a).1⟩
 .rw[B1.mp b] at a;rw[(h R a).2];decide
 .rw[B1.mp b] at a;rw[(h R a).2] at c;exact absurd c (by decide)
instance (R:cz):Decidable (GoodR R):=by unfold GoodR;infer_instance
def gms:eK ms1/\eK msA/\eK msB/\eK msR:=⟨adK (by decide) (by lk),adK (by decide) (by lk),adK (by decide) (by lk),adK (by decide) (by lk)⟩
def adz:oF ms1=none/\oF msA=none/\oF msB=none/\oF msR=some ([0],("" : Str)):=by lk
structure Flat(ms:List aR)(c:Str):Prop where
 step:∀(bb:Str) ts,ts.length<bb.length->fc ms bb ⟨[0],ts,[]⟩=some ⟨[0],ts++[c],[]⟩
 stop:∀(bb:Str) ts,ts.length=bb.length->fc ms bb ⟨[0],ts,[]⟩=none
def atl   (h:i<bb.length):fh "any" c bb i = .int 1:=by have:bb.l[i]?=some (bb.l[i]'(by rw[getL];exact h)):=i4 _;unfold fh;rw[C5 (by decide),C5 (by decide),this];rfl
def aqD  (h1:s ≠ "end") (h2:s ≠ "word"):fh s c bb bb.length = .dj:=by have:bb.l[bb.length]?=none:=ad7 (by rw[getL];exact N0 _);unfold fh;rw[C5 h1,C5 h2,this]
def ahD  {rs:List cz} (hr:∀R∈rs,R.bc ≠ "end" /\ R.bc ≠ "word"):Flat [⟨"a","red",⟨"any","",c,"stay",none,""⟩::rs⟩] c:=by
 refine⟨λa b h=>?_,λa b h=>?_⟩
 .have f:=atl (c:="") h;have e:iD (⟨"any","",c,"stay",none,""⟩::rs) a b.length=some ⟨"any","",c,"stay",none,""⟩:=by
   have:firstM (⟨"any","",c,"stay",none,""⟩::rs) a b.length=some 0:=by show (if iP _ a b.length=true then some 0 else _)=some 0;rw[w4];show decide (fh "any" "" a b.length ≠ .dj)=true;rw[f];rfl
   rw[iD,this];rfl
  show (match iD (⟨"any","",c,"stay",none,""⟩::rs) a b.length with | some R=>some (iB ⟨[0],b,[]⟩ R a) | none=>_)=_;rw[e];show some (⟨[0],b++List.replicate (fN ⟨"any","",c,"stay",none,""⟩ a b.length) c,[]⟩:Cfg)=_;rw[show fN ⟨"any","",c,"stay",none,""⟩ a b.length=1 by show (match fh "any" "" a b.length with | .int n=>n.toNat | _=>0)=1;rw[f];rfl];rfl
 .have e:∀(l:List cz) k,(∀R∈l,R.bc ≠ "end" /\ R.bc ≠ "word")->jI a b.length k l=none:=by
   intro l;induction l with
   |nil=>intro k _;rfl
   |cons R l ih =>
    intro k hl;show (if iP R a b.length=true then some k else jI a b.length (k+1) l)=none;obtain⟨g,i⟩:=hl R ab7;rw[C5 (by rw[iP,h,aqD g i];decide),ih _ λR d=>hl R (Q1 _ d)]
  have j:iD (⟨"any","",c,"stay",none,""⟩::rs) a b.length=none:=by
   rw[iD,firstM,e _ 0 λR d=>by
    rcases Z5.mp d with rfl|d
    .exact⟨by show ("any" : Str) ≠ "end";decide,by show ("any" : Str) ≠ "word";decide⟩
    .exact hr R d]
   rfl
  show (match iD (⟨"any","",c,"stay",none,""⟩::rs) a b.length with | some R=>some (iB ⟨[0],b,[]⟩ R a) | none=>if b.length<a.length then _ else none)=none;rw[j];show (if b.length<a.length then _ else none)=none;rw[C5 (by lia)]
def ats:Flat msA "red" := ⟨λa b h=>by
  show (if b.length<a.length then some (⟨[0],b++[("red" : Str)],[]⟩:Cfg) else none)=_;rw[w4 h],λa b h=>by
  show (if b.length<a.length then some (⟨[0],b++[("red" : Str)],[]⟩:Cfg) else none)=_;rw[C5 (by lia)]⟩
def aui:Flat msB "blue" := ahD (λR a=>by cases a)
def aeu:Flat ms1 "red" := ahD (λR a=>by rw[B1.mp a];decide)
noncomputable def gOf(c:Str)(r:Str):bC:=⟨r,[0],⟨[0],List.replicate r.length c,[]⟩⟩
theorem ajJ(F:Flat ms c)(bb:Str):∀(k:Nat) (ts:a9),ts.length+k=bb.length->goN ms bb k ⟨[0],ts,[]⟩=some ⟨[0],ts++List.replicate k c,[]⟩
 |0,ts,h=>by rw[rY (F.stop bb ts h),List.replicate_zero,ad2]
 |k+1,ts,h=>by rw[xZ (F.step bb ts (by lia)) (ajJ F bb k (ts++[c]) (by rw[i5,al5];lia)),ag6,ac0];rfl
theorem abz(F:Flat [m] c):∀(rs:a9),(∀r∈rs,r.length<=1000)->Chain [m] [0] rs (rs.map (gOf c))
 | [],_=>trivial
 |r::rs,h=>by
  have h1:=h r ab7;have ok:lK [m] [0]:=⟨by simp,λx a=>by rw[B1.mp a];exact Nat.zero_lt_one⟩
  refine⟨rfl,rfl,⟨ok,by show 1<=20000;decide,h1,⟨r.length,by lia,?_⟩,ok,by show 1<=20000;decide,af2⟩,abz F rs λx a=>h x (Q1 _ a)⟩;have:=ajJ F r r.length [] (by simp);rw[ao4] at this;exact this
theorem amD(c:Str):∀(xs ys:a9),gC (xs.map (gOf c)) (ys.map (gOf c))=0
 | [],_=>rfl
 |_::_,[]=>rfl
 |x::xs,y::ys=>w4 rfl
def arA:aag ms1=[("a 1" : Str)]:=by lk
def aq7:Tells ms1:=⟨by decide,λm a=>by rw[B1.mp a];exact⟨gms.1.ok _ ab7,by decide,by lk⟩⟩
def aoV:aeW 2 "red" = "2 red" /\ aeW 1 "red" = "1 red" := by lk
def anL(tk fs:a9):Nat:=fs.length-cN ((tk.drop (cN tk fs)).reverse) ((fs.drop (cN tk fs)).reverse)-cN tk fs
def aas(F:Flat [m] c){rs fs:a9}(hr:∀r∈rs,r.length<=1000)(hf:∀r∈fs,r.length<=1000)(hle:i+k<=rs.length):∃ah bk Gm cc,iL [m] (rs.map (gOf c)) i k fs ah bk Gm cc ((rs.take i++fs++rs.drop (i+k)).map (gOf c))/\Gm.length+cc=anL ((rs.drop i).take k) fs:=by
 have a:∀r∈rs.take i++fs++rs.drop (i+k),r.length<=1000:=λr h=>by
  rcases X1.mp h with h|h
  .rcases X1.mp h with h|h
   .exact hr r (ae5 h)
   .exact hf r h
  .exact hr r (List.mem_of_mem_drop h)
 obtain⟨ah,bk,Gm,cc,d,e,f,g,b,_⟩:=zZ (abz F rs hr) hle (abz F _ a);refine⟨ah,bk,Gm,cc,d,?_⟩;rw[<- ad6,<- ad6,amD] at b;rw[g,b,f,e];rfl
structure DkG(t:eZ)(ms:List aR)(c:Str)(S:q0)(H:Hp)(x0 x:Addr)(rs:a9)(sp:List (Str×Nat×Nat))(ds us:q7):Prop where
 st:∃dx0 dx tt dt a d ld lu lg gs,H x0=s0 t.Ru dx0 [("scribe",.ref x)]/\H x=s0 t.aG dx (sf tt d ld lu)/\DP (hid S H) d sp/\bJ t (hid S H) tt dt a lg gs ms (rs.map (gOf c))/\S ld/\S lu/\ld≠lu/\H ld=r6 ds/\H lu=r6 us
 sx:S x0/\S x
 ex:Ex S H
abbrev Dk' (t:eZ):=DkG t ms1 "red"
def KpL(S:q0)(H:Hp)(S':q0)(H':Hp):Prop:=∀b a,hid S H b=r6 a->hid S' H' b=r6 a
def KpL.of(h:∀b o,hid S H b=some o->(∀C y fs,o ≠ .ins C y fs)->hid S' H' b=some o):KpL S H S' H':=λb a e=>h b _ e (λ_ _ _ z=>by cases z)
def Dk'.ae{x0:Addr}{ds us:q7}(D:Dk' t S H x0 x rs sp ds us)(s:af H H'):Dk' t S H' x0 x rs sp ds us:=by obtain⟨b,c,e,f,a,d,g,h,i,j,l,n,o,p,q,r,u,v,w⟩:=D.st;exact⟨⟨b,c,e,f,a,d,g,h,i,j,s _ _ l,s _ _ n,o.ae (aJ s),p.ae (aJ s),q,r,u,s _ _ v,s _ _ w⟩,D.sx,D.ex.ae s⟩
def ZT (t:eZ) (S:q0) (H:Hp) (dd:Addr) (b:V):Prop:=S dd/\∃a lt c d,H dd=s0 t.dw a (df 0 lt c d b)/\hid S H lt=r6 [.str ""]/\hid S H c=r6 [.str "ab",.str "c"]/\DP (hid S H) d []
def ZT.ae(D:ZT t S H dd b)(s:af H H'):ZT t S H' dd b:=by obtain⟨c,a,lt,d,e,f,g,h,i⟩:=D;exact⟨c,a,lt,d,e,s _ _ f,aJ s _ _ g,aJ s _ _ h,i.ae (aJ s)⟩
def DP.ig(h:DP H d sp)(f:∀b o,H b=some o->(∀C y fs,o ≠ .ins C y fs)->H' b=some o):DP H' d sp:=by obtain⟨c,a⟩:=h;exact⟨c,a.len,f _ _ a.ob (λ_ _ _ z=>by cases z),a.pl.mono λ_ _ e=>f _ _ e (λ_ _ _ z=>by cases z)⟩
noncomputable def rs1:a9:=["ab","c"]
noncomputable def sp1:List (Str×Nat×Nat):=[("ab",1,1)]
def adh:∀r∈rs1,r.length<=1000:=by lk
def one_le:∀r∈([""]:a9),r.length<=1000:=by lk
def aei:PySem.Txt.split (lM "" 0 "ab\nc") (Str.ofString "\n")=rs1/\JV "ab\nc" (Str.ofString "\n")=1/\anL [""] rs1=2/\anL rs1 [""]=1:=by lk
def Dk'.av0{x0:Addr}      (D:Dk' t S H x0 x [""] [] [] []) (q:∀S' dd H',Dk' t S' H' x0 x rs1 [] [.ref dd] []->ZT t S' H' dd .dj->KpL S H S' H'->Q (.int (2:Nat)) H'):UN t [.ref x,.int (0:Nat),.int (0:Nat),.str "ab\nc"] H Q E:=by
 obtain⟨p,L,tt,M,a,d,ld,lu,lg,gs,j,N,O,r,s,h6,h7,l,h9⟩:=D.st;obtain⟨ah,bk,P,R,hC,en⟩:=aas aeu (rs:=[""]) (fs:=rs1) (i:=0) (k:=1) one_le adh (by decide);obtain⟨f1,f2,f3,f4⟩:=aei;refine⟨S,x,L,tt,d,ld,lu,M,a,lg,gs,ms1,_,gOf "red" "",[],[],0,0,_,rs1,ah,bk,P,R,rs1.map (gOf "red"),rfl,D.sx.2,s,D.ex,N,r,O,List.nodup_nil,by decide,(λy hy=>by cases hy),l,by decide,gms.1,rfl,Z9 _,by lk,by lk,f1,by decide,by decide,by decide,by decide,hC,λH' D4=>?_⟩;obtain⟨⟨d',lu',dd,u,lt,lv,v,w,T,e2,e3,U,W,A,e7,e8,g1,g2,g3,g4,X,n1,n2⟩,f⟩:=D4;have Y:¬S tt:=bI r.ob;have G:x0≠ld:=λz=>by rw[z,l] at j;cases j
 have Z:∀b o,hid S H b=some o->(∀C y fs,o ≠ .ins C y fs)->hid (λc=>(S c\/c=dd)\/c=lu') H' b=some o:=λb o e n=>by
  have g:=aq _ _ e;have h:=bI e;refine aT (f b o g (λz=>h (z ▸ D.sx.2)) (λz=>by rw[z,(aq _ _ r.ob)] at g;exact n _ _ _ (aa1 g).symm) (λz=>h (z ▸ s))) ?_;rintro ((y|y)|y)
  .exact h y
  .rw[y,g2] at g;cases g
  .rw[y,X] at g;cases g
 have mk:∀{b J},H' b=r6 J->H b=none->b≠lu'->hid (λc=>(S c\/c=dd)\/c=lu') H' b=r6 J:=λ{b J} e z h=>aT e (by
  rintro ((y|y)|y)
  .exact D.ex.new z y
  .rw[y,A] at e;cases e
  .exact h y)
 have K:ld≠lu':=λz=>by rw[z,X] at l;cases l
 rw[show (P.length+R:Nat)=2 from en.trans f3];refine q (λc=>(S c\/c=dd)\/c=lu') dd H' ⟨⟨p,L,tt,M,a,d',ld,lu',v,w,f _ _ j (uq j N (by decide)) (λz=>Y (z ▸ D.sx.1)) G,T,e3,e2,.inl (.inl s),.inr rfl,K,W,U⟩,⟨.inl (.inl D.sx.1),.inl (.inl D.sx.2)⟩,λb y=>?_⟩ ⟨.inl (.inr rfl),u,lt,lv,d,A,mk e7 g3 n1,?_,O.ig Z⟩ (.of Z)
 .rcases y with (y|y)|y
  .by_cases y1:b=x
   .exact⟨_,by rw[y1];exact T⟩
   .by_cases y2:b=ld
    .exact⟨_,by rw[y2];exact W⟩
    .obtain⟨o,ho⟩:=D.ex b y;exact⟨o,f b o ho y1 (λz=>Y (z ▸ y)) y2⟩
  .exact⟨_,by rw[y];exact A⟩
  .exact⟨_,by rw[y];exact U⟩
 .have:=mk e8 g4 n2;rw[this,f2];rfl
def Dk'.Zz{x0 dd:Addr}        (D:Dk' t S H x0 x rs1 sp [.ref dd] []) (DD:ZT t S H dd b) (q:∀db H',Dk' t S H' x0 x [""] [] [] [.ref dd]->ZT t S H' dd (.ref db)->KpL S H S H'->Q (.int (1:Nat)) H'):wF t [.ref x] H Q E:=by
 obtain⟨B,X,tt,Y,a,d,ld,lu,lg,gs,f,Z,h3,F,g,h,h7,h8,h9⟩:=D.st;obtain⟨G,j,lt,I,J,g1,g2,K,g4⟩:=DD;obtain⟨ah,bk,Gm,cc,hC,en⟩:=aas aeu (rs:=rs1) (fs:=[""]) (i:=0) (k:=2) adh one_le (by decide);obtain⟨f1,f2,f3,f4⟩:=aei;have CI:∀{l},S l->lt≠l:=λy e=>bI g2 (e ▸ y);have p:∀{l},S l->I≠l:=λy e=>bI K (e ▸ y);refine⟨S,x,X,tt,d,ld,lu,Y,a,lg,dd,j,lt,I,J,b,gs,ms1,_,[],[],0,[""],rs1,ah,bk,Gm,cc,[gOf "red" ""],rfl,D.sx.2,g,h,G,h7,D.ex,Z,F,h8,h9,by decide,g1,aq _ _ g2,CI g,CI h,aq _ _ K,p g,p h,gms.1,by decide,by decide,by decide,by decide,hC,λL M H' I' r s u v c=>?_⟩;have nS:¬S tt:=bI F.ob;have R:x0≠ld:=λz=>by rw[z,h8] at f;cases f
 have T:x0≠lu:=λz=>by rw[z,h9] at f;cases f
 have w:∀b o,hid S H b=some o->(∀C y fs,o ≠ .ins C y fs)->hid S H' b=some o:=λb o e n=>by have W:=aq _ _ e;have A:=bI e;exact aT (c b o W (λz=>A (z ▸ D.sx.2)) (λz=>A (z ▸ g)) (λz=>A (z ▸ h)) (λz=>A (z ▸ G)) (λz=>by rw[z,(aq _ _ F.ob)] at W;exact n _ _ _ (aa1 W).symm)) A
 rw[show (Gm.length+cc:Nat)=1 from en.trans f4];refine q d H' ⟨⟨B,X,tt,Y,a,J,ld,lu,L,M,c _ _ f (uq f Z (by decide)) R T (uq f g1 (by decide)) (λz=>nS (z ▸ D.sx.1)),r,g4.ig w,I',g,h,h7,s,u⟩,D.sx,λb y=>?_⟩ ⟨G,j,lt,I,J,v,w _ _ g2 (λ_ _ _ z=>by cases z),w _ _ K (λ_ _ _ z=>by cases z),g4.ig w⟩ (.of w);by_cases y1:b=x
 .exact⟨_,by rw[y1];exact r⟩
 by_cases y2:b=ld
 .exact⟨_,by rw[y2];exact s⟩
 by_cases y3:b=lu
 .exact⟨_,by rw[y3];exact u⟩
 by_cases y4:b=dd
 .exact⟨_,by rw[y4];exact v⟩
 obtain⟨o,ho⟩:=D.ex b y;exact⟨o,c b o ho y1 y2 y3 y4 (λz=>nS (z ▸ y))⟩
def Dk'.ZJ{x0 dd:Addr}      (D:Dk' t S H x0 x [""] [] [] [.ref dd]) (DD:ZT t S H dd (.ref db)) (q:∀H',KpL S H S H'->Q (.int (2:Nat)) H'):wI t [.ref x] H Q E:=by obtain⟨A,B,C,F,a,d,G,I,J,K,h1,L,h3,r,g,h,M,N,O⟩:=D.st;obtain⟨g0,n,lt,s,P,R,g2,u,g4⟩:=DD;obtain⟨T,bk,v,w,U,W⟩:=aas aeu (rs:=[""]) (fs:=rs1) (i:=0) (k:=1) one_le adh (by decide);obtain⟨f1,f2,X,f4⟩:=aei;have CI:∀{l},S l->lt≠l:=λy e=>bI g2 (e ▸ y);have c:∀{l},S l->s≠l:=λy e=>bI u (e ▸ y);refine⟨S,x,B,C,d,G,I,F,a,J,dd,n,lt,s,P,db,K,ms1,_,[],[],0,[""],rs1,T,bk,v,w,rs1.map (gOf "red"),rfl,D.sx.2,g,h,M,D.ex,L,r,N,O,by decide,R,aq _ _ g2,CI g,CI h,aq _ _ u,c g,c h,gms.1,by decide,by decide,by decide,by decide,U,λY Z H' I' hx' hl' hu' f=>?_⟩;rw[show (v.length+w:Nat)=2 from W.trans X];refine q H' λb xs e=>?_;have p:=aq _ _ e;have j:=bI e;exact aT (f b _ p (λz=>j (z ▸ D.sx.2)) (λz=>j (z ▸ g)) (λz=>j (z ▸ h)) (λz=>by rw[z,(aq _ _ r.ob)] at p;cases p)) j
def Dk'.set{x0:Addr}{ds us:q7}(D:Dk' t S H x0 x rs1 sp ds us)(hn:isName n=true)(hp:plN i j=true)(hs:sp.length<64)(q:∀H',Dk' t S H' x0 x rs1 (rG sp n (i,j)) ds us->fY H H' x->af (hid S H) (hid S H')->Q .dj H'):VL t [.ref x,.str n,.int i,.int j] H Q E:=by
 obtain⟨g,p,r,s,a,d,u,v,w,A,B,f,K,C,L,M,N,h,l⟩:=D.st;obtain⟨G,O,P,hl⟩:∃G,(rs1.map (gOf "red"))[i]?=some G/\j<=G.bb.length/\G.bb.length<=1000:=by
  rw[plN,ad4,ac4,ac4] at hp;match i,hp with
  |0,hp=>exact⟨_,rfl,hp.2,by lk⟩
  |1,hp=>exact⟨_,rfl,hp.2,by lk⟩
  |i+2,hp=>lia
 refine⟨S,x,p,r,d,u,v,s,a,w,A,ms1,_,G,sp,n,i,j,rfl,D.sx.2,D.ex,f,hn,C,O,P,hl,K,hs,λR H' F T c=>have I:af (hid S H) (hid S H'):=λb o e=>aT (c _ _ (aq _ _ e) (λz=>bI e (z ▸ D.sx.2))) (bI e);q H' ⟨⟨g,p,r,s,a,R,u,v,w,A,c _ _ B (uq B f (by decide)),F,T,C.ae I,L,M,N,c _ _ h (λz=>by rw[z,f] at h;cases h),c _ _ l (λz=>by rw[z,f] at l;cases l)⟩,D.sx,λb y=>?_⟩ c I⟩;by_cases J:b=x
 .exact⟨_,by rw[J];exact F⟩
 .obtain⟨o,U⟩:=D.ex b y;exact⟨o,c b o U J⟩
noncomputable def aaj:a9:=["mode a red","","mode a red\nany blue stay","mode a","mode a red\nend stay","a\nb"]
def acG(h:i<10000):w5 (i:Int):=by
 show ((i:Int)).natAbs.log2<1000;rw[Int.natAbs_natCast];by_cases a:i=0
 .subst a;decide
 .exact Nat.lt_trans ((Nat.log2_lt a).mpr (ab1 h (by decide:10000<=2 ^ 14))) (by decide)
def auA :uO (rs1.map (gOf "red")) i j↔plN i j=true:=by
 rw[plN,ad4,ac4,ac4];unfold uO Kv xw;match i with
 |0=>exact⟨λh=>⟨by decide,Int.ofNat_le.mp h.2.2⟩,λh=>⟨⟨by lia,by show (0:Int)<2;decide⟩,by lia,Int.ofNat_le.mpr h.2⟩⟩
 |1=>exact⟨λh=>⟨by decide,Int.ofNat_le.mp h.2.2⟩,λh=>⟨⟨by lia,by show (1:Int)<2;decide⟩,by lia,Int.ofNat_le.mpr h.2⟩⟩
 |i+2=>exact⟨λh=>absurd h.1.2 (by show ¬(((i+2:Nat):Int)<2);lia),λh=>absurd h.1 (by lia)⟩
def akK:∀z∈aaj,z.length<=1000/\∀r∈rs1,∀j<3,PySem.Txt.split (lM r j z) (Str.ofString "\n")≠[]/\(PySem.Txt.split (lM r j z) (Str.ofString "\n")).length<=100/\∀f∈PySem.Txt.split (lM r j z) (Str.ofString "\n"),f.length<=1000:=by lk
def aqb:∀r∈rs1,∀r2∈rs1,∀j<3,∀j2<3,(qF r j r2 j2).length<=1000:=by lk
def amx  (hp:plN i j=true):∃r∈rs1,i<2/\j<3/\(rs1.map (gOf "red"))[i]?=some (gOf "red" r)/\j<=r.length/\r.length<=1000:=by
 rw[plN,ad4,ac4,ac4] at hp;match i,hp with
 |0,hp=>exact⟨"ab",by decide,by lia,by have:=hp.2;simp at this;lia,rfl,hp.2,by lk⟩
 |1,hp=>exact⟨"c",by decide,by lia,by have:=hp.2;simp at this;lia,rfl,hp.2,by lk⟩
 |i+2,hp=>lia
def ajP(tk fs:a9):anL tk fs<=fs.length:=by unfold anL;lia
def KpH(S:q0)(H H':Hp):Prop:=∀b a,hid S H b=r6 a->H' b=r6 a
def akD{ds:q7}{x tt dt a ld d:Addr}{gs:c6}{sp':List (Str×Nat×Nat)}{tk gv:q7}(hx:S x)(hl:S ld)(I:bJ t (hid S H) tt dt a lg gs ms Gs)(D:SDone t S H H' x dx tt dt a ld ms Gs Gs' ds sp' d i tk gv):KpH S H H':=λb c e =>
 D.keep b _ (aq _ _ e) (λz=>bI e (z ▸ hx)) (λz=>by have:=I.ob;rw[<- z,e] at this;cases this) (λz=>bI e (z ▸ hl))
def Dk'.put{x0:Addr}{ds us:q7}(D:Dk' t S H x0 x rs1 sp ds us)(hd:ds.length<=10)(hs:(bU sp).Nodup)(hs2:sp.length<64)(hs3:∀y∈sp,y.2.1<=100000/\y.2.2<=100000)(hz:z∈aaj)(hp:plN i j=true)(q:∀(n:Nat) H',n<10000->KpH S H H'->Q (.int n) H'):UN t [.ref x,.int i,.int j,.str z] H Q E:=by obtain⟨l,o,p,s,a,d,u,v,w,A,R,B,C,g,h,T,U,F,W⟩:=D.st;obtain⟨r,hr,X,G,I,b,hl⟩:=amx hp;obtain⟨c,e⟩:=akK z hz;obtain⟨J,K,L⟩:=e r hr j G;obtain⟨M,bk,N,O,P,Y⟩:=aas aeu (rs:=rs1) (fs:=PySem.Txt.split (lM r j z) (Str.ofString "\n")) (i:=i) (k:=1) adh L (by show i+1<=2;lia);have:=ajP ((rs1.drop i).take 1) (PySem.Txt.split (lM r j z) (Str.ofString "\n"));refine⟨S,x,o,p,d,u,v,s,a,w,A,ms1,_,gOf "red" r,sp,ds,i,j,z,_,M,bk,N,O,_,rfl,D.sx.2,h,D.ex,B,g,C,hs,hs2,hs3,F,by lia,gms.1,I,b,hl,c,rfl,by decide,?_,ac2 K (by decide),J,P,λH' f=>q _ H' (by lia) (akD D.sx.2 h g f)⟩;rw[d5,i5,i5,v6,B2];show min i 2+_+(2-(i+1))<=_;lia
def Dk'.cut{x0:Addr}{ds us:q7}(D:Dk' t S H x0 x rs1 sp ds us)(hd:ds.length<=10)(hs:(bU sp).Nodup)(hs2:sp.length<64)(hs3:∀y∈sp,y.2.1<=100000/\y.2.2<=100000)(hp:plN i j=true)(hp2:plN k m=true)(hg:HT.gY [(i:Int),j] [(k:Int),m]=false)(q:∀(n:Nat) H',n<10000->KpH S H H'->Q (.int n) H'):Rf t [.ref x,.int i,.int j,.int k,.int m] H Q E:=by
 obtain⟨A,B,C,F,a,d,G,I,J,K,Z,L,M,w,z,h6,h7,N,h9⟩:=D.st;obtain⟨r,hr,hi,O,P,g,hl⟩:=amx hp;obtain⟨e,l,R,o,p,b,s⟩:=amx hp2;have u:i<=k:=by
  by_cases h:(i:Int)=k
  .lia
  .rw[HT.gY,HT.FT,C5 h] at hg;have:=of_decide_eq_false hg;lia
 obtain⟨T,bk,U,W,X,en⟩:=aas aeu (rs:=rs1) (fs:=[qF r j e m]) (i:=i) (k:=k-i+1) adh (λf Y=>by rw[B1.mp Y];exact aqb r hr e l j O m o) (by show i+(k-i+1)<=2;lia);have c:=ajP ((rs1.drop i).take (k-i+1)) [qF r j e m];rw[al5] at c;refine⟨S,x,B,C,d,G,I,F,a,J,K,ms1,_,gOf "red" r,sp,ds,gOf "red" e,i,j,k,m,T,bk,U,W,_,rfl,D.sx.2,z,D.ex,L,w,M,hs,hs2,hs3,N,by lia,gms.1,P,g,hl,p,b,s,hg,u,by decide,?_,X,λH' v=>q _ H' (by lia) (akD D.sx.2 z w v)⟩;rw[d5,i5,i5,v6,B2];show min i 2+1+(2-(i+(k-i+1)))<=_;lia
def aaw(hd:Str)(ws:a9):Option Str->Str
 |none=>aaS (hd::ws)
 |some b=>aaS (hd::ws) ++ "\n" ++ b
noncomputable def p2T:Option Str->Str
 |none=>""
 |some _=>"\n"
def aki    (hc:∀w∈hd::ws,Clean w) (hl:ws.length<=20) (hb:∀b,tx=some b->b.length<=500):Row3 (aaw hd ws tx) (aaS (hd::ws)) (p2T tx) (tx.getD "") hd ws:=by
 cases tx with
 |none=>exact aqh hc hl
 |some b=>exact aqt hc hl (ac2 (hb b rfl) (by decide))
def arX :(!decide (V.str (p2T tx)=V.str ""))=tx.isSome:=by
 cases tx with
 |none=>decide
 |some b=>show (!decide (V.str "\n" = V.str ""))=true;decide
def abN{x0 dx0:Addr}         (hk:ZR hd=some ks) (hc:∀w∈hd::ws,Clean w) (hx:H x0=s0 t.Ru dx0 [("scribe",v)]) (ht:tx.isSome=Mz (.str hd) [.str "rules",.str "put"]) (hb:∀b,tx=some b->b.length<=500) (hl:ws.length=ks.length) (hw:((ws.zip ks).map wdZ).all id=true) (hn:aez (aaY (ws.zip ks)) is) (hi:∀i∈is,i<10000)
  (h:∀l H1,abh t H1 l hd (namesW (ws.zip ks)) is (tx.getD "")->af H H1->auw t K x0 dx0 v l hd (tx.getD "") H1 Q E):abr t K [.ref x0,.str (aaw hd ws tx)] H Q E:=by
 obtain⟨g,G⟩:=apH (t:=t) T hk;have:=G.few;exact⟨x0,dx0,v,_,rfl,hx,_,_,_,_,hd,ws,rfl,aki hc (by lia) hb,.inr ⟨g,ks,G,.inr ⟨arX.trans ht,.inr ⟨hl,.inr ⟨hw,is,hn,hi,λl H1 a _ c=>⟨l,hd,_,is,_,rfl,a,c _ _ hx,h l H1 a c⟩⟩⟩⟩⟩⟩
def atO{x0 dx0:Addr}        (hc:∀w∈hd::ws,Clean w) (hx:H x0=s0 t.Ru dx0 [("scribe",v)]) (hl:ws.length<=20) (hb:∀b,tx=some b->b.length<=500/\∀c∈b.l,c<1000) (h:aaX hd ws tx.isSome=false) (hE:Rz t.Ny E H):abr t K [.ref x0,.str (aaw hd ws tx)] H Q E:=by
 have no:NoL t (aaw hd ws tx) E H:=⟨by
  cases tx with
  |none=>exact(akk (b:="") hc hl (by decide) (λc hc=>by cases hc)).1
  |some b=>exact(akk hc hl (hb b rfl).1 (hb b rfl).2).2,hE⟩
 refine⟨x0,dx0,v,_,rfl,hx,_,_,_,_,hd,ws,rfl,aki hc hl (λb e=>(hb b e).1),?_⟩;cases hk:ZR hd with
 |none=>exact .inl ⟨ato hk,no⟩
 |some ks =>
  obtain⟨g,G⟩:=apH (t:=t) T hk;refine .inr ⟨g,ks,G,?_⟩;rw[arX];by_cases d:tx.isSome=Mz (.str hd) [.str "rules",.str "put"]
  .refine .inr ⟨d,?_⟩;by_cases a:ws.length=ks.length
   .refine .inr ⟨a,.inl ⟨?_,no⟩⟩;rw[aaQ hk,d,ab4 a,beq_self_eq_true,Bool.true_and,Bool.true_and] at h;rw[anR hk a];exact h
   .exact .inl ⟨a,no⟩
  .exact .inl ⟨d,no⟩
def aaN.np   (h:∀H',af H H'->R "place" H'):Np t (aaN t R) H:=λe H' _ a b=>⟨e,_,_,rfl,rfl,.place a,λc d=>⟨_,rfl,h c (b.trans d)⟩⟩
def aaN.mark   (h:∀H',af H H'->R "mark" H'):Rz t.M5 (aaN t R) H:=λe H' _ a b=>⟨e,_,_,rfl,rfl,.mark a,λc d=>⟨_,rfl,h c (b.trans d)⟩⟩
def aaN.nothing   (h:∀H',af H H'->R "nothing" H'):Rz t.dN (aaN t R) H:=λe H' _ a b=>⟨e,_,_,rfl,rfl,.nothing a,λc d=>⟨_,rfl,h c (b.trans d)⟩⟩
def aaN.line   (h:∀H',af H H'->R "line" H'):Rz t.Ny (aaN t R) H:=λe H' _ a b=>⟨e,_,_,rfl,rfl,.line a,λc d=>⟨_,rfl,h c (b.trans d)⟩⟩
def aaN.bd(hj:j<1000)(h:∀H',af H H'->R (ZO 0 j) H'):Nr' t (aaN t R) H j:=λe a H' b c d=>⟨e,_,_,rfl,rfl,.bd a j b c hj,λf g=>⟨_,rfl,h f (d.trans g)⟩⟩
def aaN.rings     (h:∀H',af H H'->R "rings" H'):Rg t (aaN t R) H xs y:=λe a i H' b c _ d=>⟨e,_,_,rfl,rfl,.rings a _ b c,λf g=>⟨_,rfl,h f (d.trans g)⟩⟩
def atM(h:i<10000):(ZQ i).length<=1000:=ac2 (aeH h) (by decide)
def aar.kinds   (h:aar hd ws wd):hd ≠ "rules" /\ ∃ks is,ZR hd=some ks/\aez (aaY (ws.zip ks)) is/\∀i∈is,i<10000:=by
 cases h with
 |put i j hi hj=>exact⟨by decide,_,[i,j],rfl,rfl,by simp[hi,hj]⟩
 |cut i j k m hi hj hk hm=>exact⟨by decide,_,[i,j,k,m],rfl,rfl,by simp[hi,hj,hk,hm]⟩
 |drop z=>exact⟨by decide,_,[],rfl,rfl,by simp⟩
 |mark z i j _ _ hi hj=>exact⟨by decide,_,[i,j],rfl,rfl,by simp[hi,hj]⟩
 |bb i hi=>exact⟨by decide,_,[i],rfl,rfl,by simp[hi]⟩
 |alv i hi=>exact⟨by decide,_,[i],rfl,rfl,by simp[hi]⟩
 |_=>exact⟨by decide,_,[],rfl,rfl,by simp⟩
def afb    (hk:ZR hd=some ks) (h:aaX hd ws tx=true):ws.length=ks.length/\tx=Mz (.str hd) [.str "rules",.str "put"]/\((ws.zip ks).map wdZ).all id=true:=by rw[aaQ hk,ad4,ad4,ac4,beq_iff_eq] at h;exact⟨h.1.1,h.1.2,(anR hk h.1.1).trans h.2⟩
def arc(h:Clean z):(reprText z).length<=1000:=by have:=PySem.StrLaws.reprText_len z λc a=>Nat.lt_trans (h.cs c a).2.2 (by decide);have:=h.len;lia
def aix  (h:G∈rs1.map (gOf "red")):G.bb.length<=1000:=by obtain⟨r,hr,rfl⟩:=aa9.mp h;exact adh r hr
def atR:(bU sp1).Nodup/\sp1.length<64/\∀y∈sp1,y.2.1<=100000/\y.2.2<=100000:=by decide
def acp:("told ok" : Str) = "told " ++ "ok" /\ ("told 1" : Str) = "told " ++ ZQ 1/\("told ab 1 1" : Str) = "told " ++ ("ab" ++ " " ++ plT 1 1)/\("told " : Str) = "told " ++ "" /\ ("told a 1" : Str) = "told " ++ atg ms1/\("ab" : Str).length=2/\("c" : Str).length=1/\("ab" ++ " " ++ plT 1 1:Str).length<=1000/\(atg ms1).length<=1000:=by lk
def three(i:Nat):i=0\/i=1\/∃k,i=k+2:=by
 match i with
 |0=>exact .inl rfl
 |1=>exact .inr (.inl rfl)
 |k+2=>exact .inr (.inr ⟨k,rfl⟩)
def arj  (h:((k+2:Nat):Int)<((rs1.map (gOf "red")).length:Nat)):False:=by have:((rs1.map (gOf "red")).length:Nat)=2:=rfl;lia
def Dk'.say{hd wd:Str}{x0 dd:Addr}{ws:a9}{Q:VK}{x:Addr}{bb':V}{tx:Option Str}(D:Dk' t S H x0 x rs1 sp1 [.ref dd] [])(DD:ZT t S H dd bb')(hL:aar hd ws wd)(hc:∀w∈hd::ws,Clean w)(hB:aaX hd ws tx.isSome=true)(htx:∀b,tx=some b->b∈aaj)
  (q1:∀z H',z.length<=1000->(wd = "told" \/ wd = "told " ++ z)->KpH S H H'->(hd∉aiT->hd∉abq->af H H')->(hd = "undo" -> ∃db,Dk' t S H' x0 x [""] [] [] [.ref dd]/\ZT t S H' dd (.ref db)/\KpL S H S H')->Q (.str z) H')
  (np:∀H1,af H H1->wd = "place" -> Np t E H1) (mk:∀H1,af H H1->wd = "mark" -> Rz t.M5 E H1) (no:∀H1,af H H1->wd = "nothing" -> Rz t.dN E H1):abr t K [.ref x0,.str (aaw hd ws tx)] H Q E:=by
 obtain⟨P,o,g,C,a,d,p,q,F,J,h1,u,R,h4,h5,h6,h7,h8,h9⟩:=D.st;obtain⟨w1,w2,w3,w4',U,W,w7,w8,X⟩:=acp;obtain⟨Y,Z,k3⟩:=atR;have hb6:∀b∈aaj,b.length<=500:=by lk
 have f:∀{ks:a9} {is:c7},ZR hd=some ks->aez (aaY (ws.zip ks)) is->(∀i∈is,i<10000)->(∀l H1,abh t H1 l hd (namesW (ws.zip ks)) is (tx.getD "")->af H H1->auw t K x0 P (.ref x) l hd (tx.getD "") H1 Q E)->abr t K [.ref x0,.str (aaw hd ws tx)] H Q E:=λhk hn hi h=>by obtain⟨e1,e2,e3⟩:=afb hk hB;exact abN T hk hc h1 e2 (λb e=>hb6 b (htx b e)) e1 e3 hn hi h
 have I:∀{H1},af H H1->bJ t H1 g C a F J ms1 (rs1.map (gOf "red")):=λc=>(h4.ae aq).ae c;have cq:∀{n:Nat} {H':Hp},n<10000->wd = "told" \/ wd = "told " ++ ZQ n->KpH S H H'->hd∈aiT->(hd = "undo" -> ∃db,Dk' t S H' x0 x [""] [] [] [.ref dd]/\ZT t S H' dd (.ref db)/\KpL S H S H')->∃m:Nat,V.int n = .int m/\m<10000/\Q (.str (PySem.Str.ofString (toString (m:Int)))) H':=λ{n H'} hn e M hm hu=>⟨n,rfl,hn,q1 _ _ (atM hn) e M (λh=>absurd hm h) hu⟩
 have A:∀{H'},af H H'->KpH S H H':=λs b L e=>s _ _ (aq _ _ e);have N:∀{i j:Nat},plN i j=false -> ¬uO (rs1.map (gOf "red")) i j:=λh z=>by rw[auA.mp z] at h;cases h
 have ok:∀{H'},wd = "told ok" -> KpH S H H'->hd∈abq->hd ≠ "undo" -> Q (.str "ok") H':=λe M hm hu=>q1 _ _ (by decide) (.inr (e.trans w1)) M (λ_ h=>absurd hm h) (λh=>absurd h hu);cases hL with
 |put i j hi hj =>
  refine f (ks:=["ROW","AT"]) (is:=[i,j]) rfl rfl (by simp[hi,hj]) λl H1 hL c=>.inr ⟨by decide,.inr ⟨x,rfl,.inl ⟨by decide,x,o,l,g,d,p,q,"put",_,_,_,rfl,c _ _ u,hL,.inl ⟨rfl,i,j,rfl,?_⟩⟩⟩⟩;obtain⟨b,rfl⟩:∃b,tx=some b:=by
   have:=(afb (ks:=["ROW","AT"]) rfl hB).2.1;cases tx with
   |none=>exact absurd this (by decide)
   |some b=>exact⟨b,rfl⟩
  cases v:plN i j with
  |true=>exact .inl ((D.ae c).put (by show 1<=10;decide) Y Z k3 (htx b rfl) v λn H' hn M=>cq hn (.inl (by rw[adx,w4 v])) (λb L e=>M b L (aJ c _ _ e)) (by decide) (λh=>absurd h (by decide)))
  |false=>exact .inr ⟨x,o,g,d,p,q,C,a,F,J,ms1,_,i,j,_,rfl,c _ _ u,I c,by decide,λG=>aix,acG hi,acG hj,N v,np _ c (by rw[adx,C5 (by rw[v];decide)])⟩
 |cut i j k m hi hj hk hm =>
  refine f (ks:=["ROW","AT","ROW","AT"]) (is:=[i,j,k,m]) rfl rfl (by simp[hi,hj,hk,hm]) λl H1 hL c=>.inr ⟨by decide,.inr ⟨x,rfl,.inl ⟨by decide,x,o,l,g,d,p,q,"cut",_,_,_,rfl,c _ _ u,hL,.inr (.inl ⟨rfl,i,j,k,m,rfl,?_⟩)⟩⟩⟩;by_cases v:plN i j=true/\plN k m=true/\HT.gY [(i:Int),j] [(k:Int),m]=false
  .exact .inl ((D.ae c).cut (by show 1<=10;decide) Y Z k3 v.1 v.2.1 v.2.2 λn H' hn M=>cq hn (.inl (by rw[adx,w4 v])) (λb L e=>M b L (aJ c _ _ e)) (by decide) (λh=>absurd h (by decide)))
  .exact .inr ⟨x,o,g,d,p,q,C,a,F,J,ms1,_,i,j,k,m,rfl,c _ _ u,I c,by decide,λG=>aix,acG hi,acG hj,acG hk,acG hm,λz1 z2=>by
    cases e:HT.gY [(i:Int),j] [(k:Int),m] with
    |true=>rfl
    |false=>exact absurd ⟨auA.mp z1,auA.mp z2,e⟩ v,np _ c (by rw[adx,C5 v])⟩
 |drop z hz hn =>
  refine f (ks:=["NAME"]) (is:=[]) rfl rfl (by simp) λl H1 hL c=>.inr ⟨by decide,.inr ⟨x,rfl,.inr ⟨by decide,.inl ⟨by decide,x,o,l,g,d,p,q,z,_,[],rfl,c _ _ u,.inr ⟨hL,?_⟩⟩⟩⟩⟩;by_cases e:z = "ab"
  .subst e;exact .inl ⟨S,x,o,g,d,p,q,sp1,_,rfl,D.sx.2,D.ex.ae c,c _ _ u,by decide,Y,R.ae (aJ c),λd' H' _ _ ad=>ok rfl (λb L e=>ad _ _ (c _ _ (aq _ _ e)) (λz=>bI e (z ▸ D.sx.2))) (by decide) (by decide)⟩
  .exact .inr ⟨x,o,g,d,p,q,sp1,z,rfl,c _ _ u,(R.ae aq).ae c,λy=>e (B1.mp y),arc (hc z (by simp)),mk _ c (by rw[ajC,C5 e])⟩
 |mark z i j hz hn hi hj =>
  refine f (ks:=["NAME","ROW","AT"]) (is:=[i,j]) rfl rfl (by simp[hi,hj]) λl H1 hL c=>.inr ⟨by decide,.inr ⟨x,rfl,.inr ⟨by decide,.inl ⟨by decide,x,o,l,g,d,p,q,z,_,[i,j],rfl,c _ _ u,.inl ⟨i,j,rfl,hL,?_⟩⟩⟩⟩⟩;have O:z.length<=1000:=ac2 (hc z (by simp)).len (by decide);cases hm:isName z with
  |false=>exact .inr ⟨x,o,g,d,p,q,C,a,F,J,ms1,[],z,i,j,rfl,c _ _ u,O,.inl ⟨hm,arc (hc z (by simp)),mk _ c (by rw[markD,hm];rfl)⟩⟩
  |true =>
   cases v:plN i j with
   |true=>exact .inl ((D.ae c).set hm v Z λH' _ ad _=>ok (by rw[markD,hm,v];rfl) (λb L e=>ad _ _ (c _ _ (aq _ _ e)) (λz=>bI e (z ▸ D.sx.2))) (by decide) (by decide))
   |false=>exact .inr ⟨x,o,g,d,p,q,C,a,F,J,ms1,_,z,i,j,rfl,c _ _ u,O,.inr ⟨hm,I c,λG=>aix,acG hi,acG hj,N v,np _ c (by rw[markD,hm,v];rfl)⟩⟩
 |bb i hi =>
  refine f (ks:=["ROW"]) (is:=[i]) rfl rfl (by simp[hi]) λl H1 hL c=>.inr ⟨by decide,.inr ⟨x,rfl,.inr ⟨by decide,.inr ⟨by decide,x,o,l,g,C,a,d,p,q,F,J,ms1,_,"row",_,_,_,rfl,c _ _ u,I c,hL,.inl ⟨rfl,i,rfl,?_⟩⟩⟩⟩⟩;obtain rfl|rfl|⟨k,rfl⟩:=three i
  .exact .inl ⟨_,rfl,q1 "ab" _ (by decide) (.inr rfl) (A c) (λ_ _=>c) (λh=>absurd h (by decide))⟩
  .exact .inl ⟨_,rfl,q1 "c" _ (by decide) (.inr rfl) (A c) (λ_ _=>c) (λh=>absurd h (by decide))⟩
  .exact .inr ⟨acG hi,λz=>arj z.2,np _ c rfl⟩
 |alv i hi =>
  refine f (ks:=["ROW"]) (is:=[i]) rfl rfl (by simp[hi]) λl H1 hL c=>.inr ⟨by decide,.inr ⟨x,rfl,.inr ⟨by decide,.inr ⟨by decide,x,o,l,g,C,a,d,p,q,F,J,ms1,_,"tint",_,_,_,rfl,c _ _ u,I c,hL,.inr (.inl ⟨rfl,i,rfl,?_⟩)⟩⟩⟩⟩;obtain rfl|rfl|⟨k,rfl⟩:=three i
  .exact .inl ⟨_,1,"red",rfl,by show List.replicate ("ab" : Str).length _=_;rw[W],by decide,by decide,λH' B=>by rw[aoV.1];exact q1 "2 red" _ (by decide) (.inr rfl) (A (c.trans B)) (λ_ _=>c.trans B) (λh=>absurd h (by decide))⟩
  .exact .inl ⟨_,0,"red",rfl,by show List.replicate ("c" : Str).length _=_;rw[w7],by decide,by decide,λH' B=>by rw[aoV.2];exact q1 "1 red" _ (by decide) (.inr rfl) (A (c.trans B)) (λ_ _=>c.trans B) (λh=>absurd h (by decide))⟩
  .exact .inr ⟨acG hi,λz=>arj z.2,np _ c rfl⟩
 |Zz=>exact f (ks:=[]) (is:=[]) rfl rfl (by simp) λl H1 hL c=>.inr ⟨by decide,.inr ⟨x,rfl,.inl ⟨by decide,x,o,l,g,d,p,q,"undo",_,_,_,rfl,c _ _ u,hL,.inr (.inr (.inl ⟨rfl,.inl ((D.ae c).Zz (DD.ae c) λdb H' d1 d2 d3=>cq (by decide) (.inr w2) (λb L e=>aq _ _ (d3 b L (aJ c _ _ e))) (by decide) λ_=>⟨db,d1,d2,λb L e=>d3 b L (aJ c _ _ e)⟩)⟩))⟩⟩⟩
 |ZJ=>exact f (ks:=[]) (is:=[]) rfl rfl (by simp) λl H1 hL c=>.inr ⟨by decide,.inr ⟨x,rfl,.inl ⟨by decide,x,o,l,g,d,p,q,"redo",_,_,_,rfl,c _ _ u,hL,.inr (.inr (.inr ⟨rfl,.inr ⟨x,o,g,d,p,q,rfl,c _ _ u,c _ _ h9,no _ c rfl⟩⟩))⟩⟩⟩
 |bj=>exact f (ks:=[]) (is:=[]) rfl rfl (by simp) λl H1 hL c=>.inr ⟨by decide,.inr ⟨x,rfl,.inr ⟨by decide,.inr ⟨by decide,x,o,l,g,C,a,d,p,q,F,J,ms1,_,"marks",_,_,_,rfl,c _ _ u,I c,hL,.inr (.inr (.inl ⟨rfl,"ab",1,1,(R.ae aq).ae c,by decide,by decide,by decide,λH' B=>q1 _ _ w8 (.inr w3) (A (c.trans B)) (λ_ _=>c.trans B) (λh=>absurd h (by decide))⟩))⟩⟩⟩⟩
 |aod=>exact f (ks:=[]) (is:=[]) rfl rfl (by simp) λl H1 hL c=>.inr ⟨by decide,.inr ⟨x,rfl,.inr ⟨by decide,.inr ⟨by decide,x,o,l,g,C,a,d,p,q,F,J,ms1,_,"folds",_,_,_,rfl,c _ _ u,I c,hL,.inr (.inr (.inr (.inl ⟨rfl,by decide,λG hG=>by obtain⟨r,_,rfl⟩:=aa9.mp hG;rfl,λH' B=>q1 _ _ (by decide) (.inr w4') (A (c.trans B)) (λ_ _=>c.trans B) (λh=>absurd h (by decide))⟩)))⟩⟩⟩⟩
 |never=>exact f (ks:=[]) (is:=[]) rfl rfl (by simp) λl H1 hL c=>.inr ⟨by decide,.inr ⟨x,rfl,.inr ⟨by decide,.inr ⟨by decide,x,o,l,g,C,a,d,p,q,F,J,ms1,_,"never",_,_,_,rfl,c _ _ u,I c,hL,.inr (.inr (.inr (.inr ⟨rfl,aq7,by rw[arA];lk,by rw[arA];decide,λH' B=>q1 _ _ X (.inr U) (A (c.trans B)) (λ_ _=>c.trans B) (λh=>absurd h (by decide))⟩)))⟩⟩⟩⟩
def apC (o:HO):Prop:=∀C a v,o ≠ .ins C a [(("scribe" : Str),v)]
def amu:apC (.lst xs):=λ_ _ _ h=>by cases h
def ahg   (h:fs.head?.map (·.1)≠some ("scribe" : Str)):apC (.ins C dx fs):=λ_ _ v e=>by cases e;exact h rfl
def ahV {k:Str} {v:V} {r:List (Str×V)} (h:k ≠ "scribe"):(((k,v)::r).head?.map (·.1))≠some ("scribe" : Str):=λz=>h (aa1 z)
def But(H H':Hp):Prop:=∀b o,H b=some o->apC o->H' b=some o
def apG{C x0:Addr}    (h:H x0=s0 C dx [(("scribe" : Str),v)]):But H (hid (λc=>c=x0) H):=λb o a d=>aT a λz=>d C dx v (by rw[z,h] at a;exact(aa1 a).symm)
def auW :(ou s z).head?.map (·.1)≠some ("scribe" : Str):=by
 unfold ou;split
 .exact λh=>by cases h
 .split
  .exact ahV (by decide)
  .exact ahV (by decide)
def IsRules.but(h:IsRules t H a ms)(e:But H H'):IsRules t H' a ms:=by obtain⟨d,f,g,j,n,o,b⟩:=h;refine⟨d,f,g,j,e _ _ n (ahg (ahV (by decide))),e _ _ o amu,b.la,b.ll,b.nd,λi a l m q s u=>?_⟩;obtain⟨v,w,x,y,z⟩:=b.ob i a l m q s u;refine⟨v,w,e _ _ x (ahg (ahV (by decide))),e _ _ y amu,z.mono λr R hr=>?_⟩;obtain⟨c,p,A,B,C⟩:=hr;exact⟨c,p,e _ _ A (ahg (ahV (by decide))),B,e _ _ C (ahg auW)⟩
inductive abk:Str->Str->Prop
 |ok (m:aR) (c:Str) (its:List Item):ic its->its.length<=200->foldI its=[m]->eK [m]->oF [m]=none->Flat [m] c->Str.join ⟨#[10]⟩ (rowsOf its)≠abD->abk (Str.join ⟨#[10]⟩ (rowsOf its)) "told ok"
 |ring:abk abD "rings"
 |bad (z r:Str) (rs:a9) (j:Nat):ali z r rs j->j<1000->z≠abD->abk z (ZO 0 j)
def agj:abD=Str.join ⟨#[10]⟩ (rowsOf alm):=ahK.2.2.2.symm
def abk.read(h:abk z wd):asw z wd:=by
 cases h with
 |ok m c its h1 h2 h3 h4 h5 h6 h7=>exact .inl ⟨its,rfl,h1,h2,by rw[C5 h7]⟩
 |ring=>exact .inl ⟨alm,agj,amg,by decide,by rw[w4 rfl]⟩
 |bad z r rs j h1 h2 h3=>exact .inr ⟨r,rs,j,h1,h2,h3,rfl⟩
def avI:ali "" "" [] 0:=⟨by decide,by lk,by decide,by lk,.inl (by lk),by lk⟩
def avA:ali "mode a" "mode a" [] 2:=⟨by decide,by lk,by decide,by lk,.inr (by lk),by lk⟩
def avh:ali "a\nb" "a" ["b"] 0:=⟨by decide,by lk,by decide,by lk,.inl (by lk),by lk⟩
def alU(h:z∈aaj):∃wd,abk z wd:=by
 obtain⟨c,a,b,d⟩:=ahK;simp only[aaj,Z5,ad1,an3] at h;rcases h with rfl|rfl|rfl|rfl|rfl|rfl
 .rw[<- a];exact⟨_,.ok _ _ aqO auc (by decide) av7 gms.2.1 adz.2.1 ats (by rw[a];decide)⟩
 .exact⟨_,.bad _ _ _ _ avI (by decide) (by decide)⟩
 .rw[<- b];exact⟨_,.ok _ _ ap5 aul (by decide) awb gms.2.2.1 adz.2.2.1 aui (by rw[b];decide)⟩
 .exact⟨_,.bad _ _ _ _ avA (by decide) (by decide)⟩
 .exact⟨_,.ring⟩
 .exact⟨_,.bad _ _ _ _ avh (by decide) (by decide)⟩
def DkR (t:eZ) (H:Hp) (x0 dx0:Addr) (v:V) (rs:a9):Prop:=H x0=s0 t.Ru dx0 [("scribe",v)]/\((v = .dj/\rs=[("" : Str)])\/∃S x a b us,v = .ref x/\Dk' t S H x0 x rs a b us)/\rs.length<=100/\∀r∈rs,r.length<=1000
def DkR.ae{x0 dx0:Addr}(D:DkR t H x0 dx0 v rs)(s:af H H'):DkR t H' x0 dx0 v rs:=by
 obtain⟨b,a,c⟩:=D;refine⟨s _ _ b,?_,c⟩;rcases a with a|⟨S,x,d,f,us,e,D⟩
 .exact .inl a
 .exact .inr ⟨S,x,d,f,us,e,D.ae s⟩
def DkR.all{x0 dx0:Addr}(D:DkR t H x0 dx0 v rs)(q:∀l H',H' l=r6 (rs.map V.str)->H l=none->af H H'->Q (.ref l) H'):aex t [.ref x0] H Q E:=by
 obtain⟨b,e,u,w⟩:=D;refine⟨x0,dx0,rs,rfl,?_,q⟩;rcases e with ⟨rfl,rfl⟩|⟨S,x,f,y,us,rfl,D⟩
 .exact .inl ⟨rfl,b⟩
 .obtain⟨c,g,h,i,a,d,j,n,o,p,z,g2,r,s,_⟩:=D.st;refine .inr ⟨S,x,g,h,i,a,d,j,n,ms1,rs.map (gOf "red"),f,?_,b,⟨g2,⟨o,p,s⟩,r⟩,by rw[d5];lia⟩;rw[ag3];exact(List.map_id rs).symm
def anU{x0 dx0:Addr}(D:DkR t H x0 dx0 v rs)(h1:ic its)(h2:its.length<=200)(h3:foldI its=[m])(h4:eK [m])(h5:oF [m]=none)(F:Flat [m] c)
  (q:∀S x H',DkG t [m] c S H' x0 x rs [] [] []->(∀b o,H b=some o->b≠x0->hid S H' b=some o)->Q (.str "ok") H'):atB t x0 dx0 v (Str.join ⟨#[10]⟩ (rowsOf its)) H Q E:=by
 refine .inl ⟨its,rfl,h1,h2,λa H2 R A=>⟨a,rfl,A _ _ D.1,(D.ae A).all λY T L Z M=>?_⟩⟩;rw[h3] at R;intro x J K N ne;have i:af T (ag (ag T J (.own x)) x (.ins t.aG J [])):=cD K N;have e:=(A.trans M) _ _ D.1;have h:x0≠x:=λz=>by rw[z,K] at e;cases e
 refine .inl ⟨x,J,a,Y,(λc=>c=x0),[m],rs,rs.map (gOf c),rfl,aa,λb z=>⟨.ins t.Ru dx0 [("scribe",v)],by rw[show b=x0 from z];exact i _ _ e⟩,((R.but (apG (A _ _ D.1))).ae (aJ M)).ae (wY i K),h4,h5,i _ _ L,by have:=D.2.2.1;lia,abz F rs D.2.2.2,λtt dt a' lg gs d B C U I4 G O j l s P u f=>⟨rfl,f _ _ (i _ _ e) h,?_⟩⟩;have n:B≠x0:=λz=>by rw[z,i _ _ e] at s;cases s
 have p:C≠x0:=λz=>by rw[z,i _ _ e] at u;cases u
 have r:af (hid (λc=>((c=x0\/c=x)\/c=B)\/c=C) U) (hid (λc=>((c=x0\/c=x)\/c=B)\/c=C) (ag U x0 (.ins t.Ru dx0 [("scribe",.ref x)]))):=g8 (.inl (.inl (.inl rfl)));refine q (λc=>((c=x0\/c=x)\/c=B)\/c=C) x _ ⟨⟨dx0,J,tt,dt,a',d,B,C,lg,gs,aa,by rw[aj (aa4 h)];exact G,O.ae r,I4.ae r,.inl (.inr rfl),.inr rfl,P,by rw[aj n];exact j,by rw[aj p];exact l⟩,⟨.inl (.inl (.inl rfl)),.inl (.inl (.inr rfl))⟩,λb y=>?_⟩ (λb o hb X=>?_)
 .rcases y with ((y|y)|y)|y
  .exact⟨_,by rw[y];exact aa⟩
  .exact⟨_,by rw[y,aj (aa4 h)];exact G⟩
  .exact⟨_,by rw[y,aj n];exact j⟩
  .exact⟨_,by rw[y,aj p];exact l⟩
 .have w:=A.trans M _ _ hb;have g:=i _ _ w;have I:b≠x:=λz=>by rw[z,K] at w;cases w
  refine aT (by rw[aj X];exact f _ _ g I) ?_;rintro (((y|y)|y)|y)
  .exact X y
  .exact I y
  .rw[y,s] at g;cases g
  .rw[y,u] at g;cases g
def ago{x0 dx0:Addr}      (hz:abk z wd) (hzl:z.length<=500) (D:DkR t H x0 dx0 v rs) (q1:∀H',wd = "told ok" -> (∀b o,H b=some o->b≠x0->H' b=some o)->R "told ok" H') (q2:∀H',af H H'->R wd H'):abr t K [.ref x0,.str (aaw "rules" [] (some z))] H (aqZ R) (aaN t R):=by
 refine abN T (ks:=[]) (is:=[]) rfl (λw y=>by rw[B1.mp y];exact⟨by decide,by lk⟩) D.1 (by show true=Mz _ _;decide) (λb e=>by cases e;exact hzl) rfl rfl rfl (λi h=>by cases h) λl A _ f=>.inl ⟨rfl,?_⟩;have g:=D.ae f;cases hz with
 |ok m c its h1 h2 h3 h4 h5 h6 h7=>exact anU g h1 h2 h3 h4 h5 h6 λS x H' _ B=>⟨"ok",rfl,by decide,by rw[<- acp.1];exact q1 H' rfl λb o C E=>aq _ _ (B b o (f _ _ C) E)⟩
 |ring =>
  show atB t x0 dx0 v abD A _ _;rw[agj];refine .inl ⟨alm,rfl,amg,by decide,λa J q n=>⟨a,rfl,n _ _ g.1,(g.ae n).all λL M F G s=>λx I u d ne=>?_⟩⟩;rw[av1] at q;exact .inr ⟨x,I,a,msR,_,[0],"",rfl,aa,(q.ae s).ae (cD u d),gms.2.2.2,adz.2.2.2,aaN.rings λH' p=>q2 H' ((((f.trans n).trans s).trans (cD u d)).trans p)⟩
 |bad z r rs j h1 h2 h3=>exact .inr ⟨z,r,rs,j,rfl,h1,aaN.bd h2 λH' p=>q2 H' (f.trans p)⟩
def anm{x0 dx0:Addr}      (hx:H x0=s0 t.Ru dx0 [("scribe",.dj)]) (hL:aar hd ws wd) (hc:∀w∈hd::ws,Clean w) (hB:aaX hd ws tx.isSome=true) (hb:∀b,tx=some b->b.length<=500) (q2:∀H',af H H'->R (ZO 0 0) H'):abr t K [.ref x0,.str (aaw hd ws tx)] H (aqZ R) (aaN t R):=by obtain⟨a,n,o,c,d,e⟩:=hL.kinds;obtain⟨f,g,h⟩:=afb c hB;exact abN T c hc hx g hb f h d e λl p _ i=>.inr ⟨a,.inl ⟨rfl,aaN.bd (by decide) λH' j=>q2 H' (i.trans j)⟩⟩
def at8{hd:Str}    (hne:hd ≠ "rules") (hw:∀w∈ws,w∈aae) (hB:aaX hd ws tx=true):∃wd,aar hd ws wd:=by
 cases a:ZR hd with
 |none=>rw[aaX,a] at hB;cases hB
 |some ks =>
  have c:=hB;rw[aaQ a,ad4,ad4,ac4] at c;obtain⟨⟨hl,_⟩,hn⟩:=c;have num:∀z∈ws,isNum z=true->∃i,i<10000/\z=ZQ i:=λz f h=>auq (hw z f) h;have e:=acn a;simp only[Z5,ad1,an3] at e;rcases e with rfl|rfl|rfl|rfl|rfl|rfl|rfl|rfl|rfl|rfl|rfl|rfl
  .exact absurd rfl hne
  .cases (show some (["ROW","AT"]:a9)=some ks from a);match ws,hl,hn,num with
   | [x,y],_,hn,num =>
    rw[abo (by decide)] at hn;simp only[List.all_cons,List.all_nil,Bool.and_true,ad4] at hn;obtain⟨i,b,rfl⟩:=num x (by simp) hn.1;obtain⟨j,d,rfl⟩:=num y (by simp) hn.2;exact⟨_,.put i j b d⟩
  .cases (show some (["ROW","AT","ROW","AT"]:a9)=some ks from a);match ws,hl,hn,num with
   | [x,y,z,u],_,hn,num =>
    rw[abo (by decide)] at hn;simp only[List.all_cons,List.all_nil,Bool.and_true,ad4] at hn;obtain⟨i,b,rfl⟩:=num x (by simp) hn.1;obtain⟨j,d,rfl⟩:=num y (by simp) hn.2.1;obtain⟨k,a,rfl⟩:=num z (by simp) hn.2.2.1;obtain⟨m,e,rfl⟩:=num u (by simp) hn.2.2.2;exact⟨_,.cut i j k m b d a e⟩
  .cases (show some ([]:a9)=some ks from a);obtain rfl:=ah3.mp hl;exact⟨_,.Zz⟩
  .cases (show some ([]:a9)=some ks from a);obtain rfl:=ah3.mp hl;exact⟨_,.ZJ⟩
  .cases (show some (["NAME","ROW","AT"]:a9)=some ks from a);match ws,hl,hn,num,hw with
   | [z,x,y],_,hn,num,hw =>
    have hn:(!decide (z = "") && [x,y].all isNum)=true:=hn;simp only[List.all_cons,List.all_nil,Bool.and_true,ad4] at hn;obtain⟨i,b,rfl⟩:=num x (by simp) hn.2.1;obtain⟨j,d,rfl⟩:=num y (by simp) hn.2.2;exact⟨_,.mark z i j (hw z (by simp)) (by simpa using hn.1) b d⟩
  .cases (show some (["NAME"]:a9)=some ks from a);match ws,hl,hn,hw with
   | [z],_,hn,hw =>
    have hn:(!decide (z = "") && ([]:a9).all isNum)=true:=hn;simp only[List.all_nil,Bool.and_true] at hn;exact⟨_,.drop z (hw z (by simp)) (by simpa using hn)⟩
  .cases (show some ([]:a9)=some ks from a);obtain rfl:=ah3.mp hl;exact⟨_,.bj⟩
  .cases (show some (["ROW"]:a9)=some ks from a);match ws,hl,hn,num with
   | [x],_,hn,num =>
    rw[abo (by decide)] at hn;simp only[List.all_cons,List.all_nil,Bool.and_true] at hn;obtain⟨i,b,rfl⟩:=num x (by simp) hn;exact⟨_,.bb i b⟩
  .cases (show some (["ROW"]:a9)=some ks from a);match ws,hl,hn,num with
   | [x],_,hn,num =>
    rw[abo (by decide)] at hn;simp only[List.all_cons,List.all_nil,Bool.and_true] at hn;obtain⟨i,b,rfl⟩:=num x (by simp) hn;exact⟨_,.alv i b⟩
  .cases (show some ([]:a9)=some ks from a);obtain rfl:=ah3.mp hl;exact⟨_,.aod⟩
  .cases (show some ([]:a9)=some ks from a);obtain rfl:=ah3.mp hl;exact⟨_,.never⟩
def ZT.K3(D:ZT t S H dd b)(ad:fY H H' x)(sh:af (hid S H) (hid S H'))(n:dd≠x):ZT t S H' dd b:=by obtain⟨c,a,lt,d,e,f,g,h,i⟩:=D;exact⟨c,a,lt,d,e,ad _ _ f n,sh _ _ g,sh _ _ h,i.ae sh⟩
noncomputable def aeT:a9:=["rules\nmode a red\nany red stay\none 'a blue stay","put 0 0\nab\nc","mark ab 1 1"]
def aqF:aeT=[aaw "rules" [] (some (Str.join ⟨#[10]⟩ (rowsOf aqH))),aaw "put" [ZQ 0,ZQ 0] (some "ab\nc"),aaw "mark" ["ab",ZQ 1,ZQ 1] none]:=by lk
def amG(t:eZ)(x0 dx0 lb lp:Addr)(ws:a9)(i:Nat)(ys:q7)(H:Hp):Prop :=
 (i=0/\ys=[]/\H x0=s0 t.Ru dx0 [("scribe",.dj)]/\H lb=r6 (aeT.map V.str)/\H lp=r6 (ws.map V.str))
 \/ ∃S x,hid S H lb=r6 (aeT.map V.str)/\hid S H lp=r6 (ws.map V.str) /\
  ((i=1/\ys=[.str "ok"]/\Dk' t S H x0 x [""] [] [] [])\/∃a,ZT t S H a .dj/\((i=2/\ys=[.str "ok",.str "2"]/\Dk' t S H x0 x rs1 [] [.ref a] [])\/(i=3/\ys=[.str "ok",.str "2",.str "ok"]/\Dk' t S H x0 x rs1 sp1 [.ref a] [])))
def amG.lb{x0 dx0 lp:Addr}{lb:Addr}(h:amG t x0 dx0 lb lp ws i ys H):H lb=r6 (aeT.map V.str):=by
 rcases h with ⟨_,_,_,h,_⟩|⟨S,x,h,_⟩
 .exact h
 .exact aq _ _ h
def alu:(∀w∈[("rules" : Str)],Clean w)/\(∀w∈[("put" : Str),ZQ 0,ZQ 0],Clean w)/\∀w∈[("mark" : Str),"ab",ZQ 1,ZQ 1],Clean w:=by
 have h:∀w∈[("rules" : Str),"put",ZQ 0,"mark","ab",ZQ 1,"row","redo"],w.length<=10/\∀c∈w.l,c≠10/\c≠32/\c<1000:=by lk
 have g:∀w∈[("rules" : Str),"put",ZQ 0,"mark","ab",ZQ 1,"row","redo"],Clean w:=λw a=>⟨(h w a).1,(h w a).2⟩
 refine⟨λw a=>g w ?_,λw a=>g w ?_,λw a=>g w ?_⟩;all_goals
  simp only[Z5,ad1,an3] at a ⊢
 .exact .inl a
 .rcases a with h|h|h <;> simp[h]
 .rcases a with h|h|h|h <;> simp[h]
def aoo{x0 dx0 lp:Addr}      (h:amG t x0 dx0 lb lp ws i ys H) (hr:aeT[i]?=some bb):∃dx fs,H x0=s0 t.Ru dx fs/\fs.lookup ("say" : Str)=none/\abr t K [.ref x0,.str bb] H (λu H'=>amG t x0 dx0 lb lp ws (i+1) (ys++[u]) H') E0:=by
 rw[aqF] at hr;obtain⟨L,M,N⟩:=alu;rcases h with ⟨rfl,rfl,s,j,n⟩|⟨S,x,j,n,⟨rfl,rfl,D⟩|⟨w,O,⟨rfl,rfl,D⟩|⟨rfl,rfl,D⟩⟩⟩
 .cases hr;refine⟨dx0,_,s,rfl,abN T (ks:=[]) (is:=[]) rfl L s (by show true=Mz _ _;decide) (λb e=>by cases e;lk) rfl rfl rfl (λi h=>by cases h) λl y _ f=>.inl ⟨rfl,?_⟩⟩;have J:∀{b P},y b=r6 P->b≠x0:=λe z=>by rw[z,f _ _ s] at e;cases e
  exact anU (m:=⟨"a","red",[⟨"any","","red","stay",none,""⟩,⟨"one","a","blue","stay",none,""⟩]⟩) (c:="red") (rs:=[""]) ⟨f _ _ s,.inl ⟨rfl,rfl⟩,by decide,one_le⟩ atn (by decide) av5 gms.1 adz.1 aeu λS x H' D p=>.inr ⟨S,x,p _ _ (f _ _ j) (J (f _ _ j)),p _ _ (f _ _ n) (J (f _ _ n)),.inl ⟨rfl,rfl,D⟩⟩
 .cases hr;obtain⟨o,dx,A,Q,a,d,B,C,R,U,q,v,_⟩:=D.st;refine⟨o,_,q,rfl,abN T (ks:=["ROW","AT"]) (is:=[0,0]) rfl M q (by decide) (λb e=>by cases e;lk) rfl (by lk) rfl (by decide) λl y E f=>.inr ⟨by decide,.inr ⟨x,rfl,.inl ⟨by decide,x,dx,l,A,d,B,C,"put",_,_,_,rfl,f _ _ v,E,.inl ⟨rfl,0,0,rfl,.inl ((D.ae f).av0 λW w H' F G p=>⟨2,rfl,by decide,.inr ⟨W,x,p _ _ (aJ f _ _ j),p _ _ (aJ f _ _ n),.inr ⟨w,G,.inl ⟨rfl,?_,F⟩⟩⟩⟩)⟩⟩⟩⟩⟩;rw[show PySem.Str.ofString (toString ((2:Nat):Int))=("2" : Str) by lk];rfl
 .cases hr;obtain⟨o,dx,A,Q,a,d,B,C,R,U,q,v,_⟩:=D.st;refine⟨o,_,q,rfl,abN T (ks:=["NAME","ROW","AT"]) (is:=[1,1]) rfl N q (by decide) (λb e=>by cases e) rfl (by lk) rfl (by decide) λl y E f=>.inr ⟨by decide,.inr ⟨x,rfl,.inr ⟨by decide,.inl ⟨by decide,x,dx,l,A,d,B,C,"ab",_,[1,1],rfl,f _ _ v,.inl ⟨1,1,rfl,E,.inl ((D.ae f).set (by lk) (by decide) (by decide) λH' F X I=>?_)⟩⟩⟩⟩⟩⟩;have r:=O.ae f;exact .inr ⟨S,x,I _ _ (aJ f _ _ j),I _ _ (aJ f _ _ n),.inr ⟨w,r.K3 X I (by obtain⟨_,_,_,_,_,g,_⟩:=r;exact uq g (f _ _ v) (by decide)),.inr ⟨rfl,rfl,F⟩⟩⟩
 .simp at hr
noncomputable def iH:a9:=["row 0","row 1","tint 0","marks","never","folds","undo","row 0","redo"]
noncomputable def aqd:a9:=["ab","c","2 red","ab 1 1","a 1","","1","","2"]
def aoW:iH=[aaw "row" [ZQ 0] none,aaw "row" [ZQ 1] none,aaw "tint" [ZQ 0] none,aaw "marks" [] none,aaw "never" [] none,aaw "folds" [] none,aaw "undo" [] none,aaw "row" [ZQ 0] none,aaw "redo" [] none]:=by lk
def apq  (h:("told " : Str)++z = "told " ++ z'):z=z':=afr (List.append_cancel_left (by rw[<- abw,<- abw,h]))
def aqs  (h:("told " : Str)++z = "told"):False:=by have:=ac7 Str.length h;rw[T0,show (Str.ofString "told ").length=5 by lk,show (Str.ofString "told").length=4 by lk] at this;lia
def aop(t:eZ)(S:q0)(x0 x lr dd:Addr)(i:Nat)(ys:q7)(H:Hp):Prop :=
 ys=(aqd.take i).map V.str/\hid S H lr=r6 (iH.map V.str)/\((i<=6/\Dk' t S H x0 x rs1 sp1 [.ref dd] []/\∃a,ZT t S H dd a)\/(7<=i/\i<=8/\Dk' t S H x0 x [""] [] [] [.ref dd]/\∃b,ZT t S H dd (.ref b))\/i=9)
def six{x0 dd:Addr}       (T:Txt K mg t) (D:Dk' t S H x0 x rs1 sp1 [.ref dd] []) (DD:ZT t S H dd bb) (hL:aar hd ws wd) (hw:wd = "told " ++ z) (hc:∀w∈hd::ws,Clean w) (hB:aaX hd ws false=true)  (q:∀H',(hd∉aiT->hd∉abq->af H H')->(hd = "undo" -> ∃db,Dk' t S H' x0 x [""] [] [] [.ref dd]/\ZT t S H' dd (.ref db)/\KpL S H S H')->Q (.str z) H')
  (hn:wd ≠ "place" /\ wd ≠ "mark" /\ wd ≠ "nothing"):abr t K [.ref x0,.str (aaw hd ws none)] H Q E0 :=
 D.say T DD hL hc (tx:=none) hB (λb e=>by cases e) (λa H' _ e _ c d=>by have:a=z:=e.elim (λe=>(aqs (hw.symm.trans e)).elim) λe=>apq (e.symm.trans hw);rw[this];exact q H' c d) (λ_ _ e=>absurd e hn.1) (λ_ _ e=>absurd e hn.2.1) (λ_ _ e=>absurd e hn.2.2)
def aiH:∀w∈[("row" : Str),ZQ 0,ZQ 1,"tint","marks","never","folds","undo","redo"],Clean w:=by
 have h:∀w∈[("row" : Str),ZQ 0,ZQ 1,"tint","marks","never","folds","undo","redo"],w.length<=10/\∀c∈w.l,c≠10/\c≠32/\c<1000:=by lk
 exact λw a=>⟨(h w a).1,(h w a).2⟩
def aiK:("told 1" : Str) = "told " ++ "1" /\ ("told ab 1 1" : Str) = "told " ++ "ab 1 1" /\ ("told " : Str) = "told " ++ "" /\ ("told a 1" : Str) = "told " ++ "a 1" := by lk
def alw{x0 dd:Addr}      (h:aop t S x0 x lr dd i ys H) (hr:iH[i]?=some bb):∃dx fs,H x0=s0 t.Ru dx fs/\fs.lookup ("say" : Str)=none/\abr t K [.ref x0,.str bb] H (λu H'=>aop t S x0 x lr dd (i+1) (ys++[u]) H') E0:=by
 obtain⟨rfl,g,h⟩:=h;rw[aoW] at hr;have j:∀{l:a9},(∀w∈l,w∈[("row" : Str),ZQ 0,ZQ 1,"tint","marks","never","folds","undo","redo"])->∀w∈l,Clean w:=λh w I=>aiH w (h w I);obtain⟨J,L,M,N⟩:=aiK;rcases h with ⟨hi,D,r,c⟩|⟨O,h8,D,p,c⟩|rfl
 .obtain⟨o,dx,v,C,a,d,y,A,E,F,q,_⟩:=D.st;refine⟨o,_,q,rfl,?_⟩;have same:∀{n:Nat} {H'},n<=6->af H H'->hid S H' lr=r6 (iH.map V.str)/\((n<=6/\Dk' t S H' x0 x rs1 sp1 [.ref dd] []/\∃r,ZT t S H' dd r)\/(7<=n/\n<=8/\Dk' t S H' x0 x [""] [] [] [.ref dd]/\∃p,ZT t S H' dd (.ref p))\/n=9):=λP s=>⟨aJ s _ _ g,.inl ⟨P,D.ae s,r,c.ae s⟩⟩
  match i,hi,hr with
  |0,_,hr=>cases hr;exact six T D c (.bb 0 (by decide)) (z:="ab") rfl (j (by lk)) (by lk) (λH' h _=>⟨rfl,same (by decide) (h (by decide) (by decide))⟩) (by lk)
  |1,_,hr=>cases hr;exact six T D c (.bb 1 (by decide)) (z:="c") rfl (j (by lk)) (by lk) (λH' h _=>⟨rfl,same (by decide) (h (by decide) (by decide))⟩) (by lk)
  |2,_,hr=>cases hr;exact six T D c (.alv 0 (by decide)) (z:="2 red") rfl (j (by lk)) (by lk) (λH' h _=>⟨rfl,same (by decide) (h (by decide) (by decide))⟩) (by lk)
  |3,_,hr=>cases hr;exact six T D c .bj (z:="ab 1 1") L (j (by lk)) (by lk) (λH' h _=>⟨rfl,same (by decide) (h (by decide) (by decide))⟩) (by lk)
  |4,_,hr=>cases hr;exact six T D c .never (z:="a 1") N (j (by lk)) (by lk) (λH' h _=>⟨rfl,same (by decide) (h (by decide) (by decide))⟩) (by lk)
  |5,_,hr=>cases hr;exact six T D c .aod (z:="") M (j (by lk)) (by lk) (λH' h _=>⟨rfl,same (by decide) (h (by decide) (by decide))⟩) (by lk)
  |6,_,hr=>cases hr;exact six T D c .Zz (z:="1") J (j (by lk)) (by lk) (λH' _ h=>let ⟨p,d1,d2,d3⟩:=h rfl;⟨rfl,d3 _ _ g,.inr (.inl ⟨by decide,by decide,d1,p,d2⟩)⟩) (by lk)
  |i+7,hi,_=>lia
 .obtain⟨o,dx,v,C,a,d,y,A,E,F,q,G,W,Q,_⟩:=D.st;refine⟨o,_,q,rfl,?_⟩;match i,O,h8,hr with
  |7,_,_,hr =>
   cases hr;exact abN T (ks:=["ROW"]) (is:=[0]) rfl (j (by lk)) q (by decide) (λb e=>by cases e) rfl (by lk) rfl (by decide) λl R B f=>.inr ⟨by decide,.inr ⟨x,rfl,.inr ⟨by decide,.inr ⟨by decide,x,dx,l,v,C,a,d,y,A,E,F,ms1,_,"row",_,_,_,rfl,f _ _ G,(Q.ae aq).ae f,B,.inl ⟨rfl,0,rfl,.inl ⟨gOf "red" "",rfl,rfl,aJ f _ _ g,.inr (.inl ⟨by decide,by decide,D.ae f,p,c.ae f⟩)⟩⟩⟩⟩⟩⟩
  |8,_,_,hr =>
   cases hr;refine abN T (ks:=[]) (is:=[]) rfl (j (by lk)) q (by decide) (λb e=>by cases e) rfl (by lk) rfl (λi h=>by cases h) λl R B f=>.inr ⟨by decide,.inr ⟨x,rfl,.inl ⟨by decide,x,dx,l,v,d,y,A,"redo",_,_,_,rfl,f _ _ G,B,.inr (.inr (.inr ⟨rfl,.inl ((D.ae f).ZJ (c.ae f) λH' U=>⟨2,rfl,by decide,?_,U _ _ (aJ f _ _ g),.inr (.inr rfl)⟩)⟩))⟩⟩⟩;rw[show PySem.Str.ofString (toString ((2:Nat):Int))=("2" : Str) by lk];rfl
  |i+9,_,h8,_=>lia
 .simp at hr
inductive as8(K:W.Frag)(vs:q7)(H:Hp)(Q:VK)(_:XK):Prop|mk(a:Addr)(ns:c9)(_:vs=[.ref a])(_:aV K H a (ns.map V.int))(_:ns.length<=63)(_:∀p ws H',ws≠[]->ws.length<=6->(∀w∈ws,w∈aae)->H' p=r6 (ws.map V.str)->af H H'->Q (.ref p) H')
def agZ{zs:a9}{d:Int}(hn:zs.length=n)(h0:0<=d)(h1:d<n):∃z∈zs,oE (zs.map V.str) d=some (.str z):=by
 obtain⟨i,rfl⟩:∃i:Nat,d=i:=⟨d.toNat,by lia⟩
 have a:i<zs.length:=by lia
 exact⟨zs[i],ag2 a,aB (by rw[v3,i4 a];rfl)⟩
noncomputable def abT:List (Key×V):=[(Sum.inr "put",.int 2),(Sum.inr "cut",.int 4),(Sum.inr "mark",.int 2),(Sum.inr "row",.int 1),(Sum.inr "tint",.int 1)]
def ajj:m9 [] abT=abT:=rfl
def ap6(z:Str):∃n:Nat,n<=4/\(fP abT (Sum.inr z)).getD (.int 0) = .int n:=by
 cases e:fP abT (Sum.inr z) with
 |none=>exact⟨0,by decide,rfl⟩
 |some v =>
  rw[fP] at e;obtain⟨p,b,rfl⟩:=D1.mp e;have a:=List.mem_of_find?_eq_some b;simp only[abT,Z5,ad1,an3] at a;rcases a with rfl|rfl|rfl|rfl|rfl
  .exact⟨2,by decide,rfl⟩
  .exact⟨4,by decide,rfl⟩
  .exact⟨2,by decide,rfl⟩
  .exact⟨1,by decide,rfl⟩
  .exact⟨1,by decide,rfl⟩
def aho(h:z∈ach):z∈aae:=aa8 _ (aa8 _ (Z2 _ h))
def anq(h:z∈agO):z∈aae:=Z2 _ h
def aoX(h:z∈agp):z∈aae:=aa8 _ (aa8 _ (aa8 _ h))
def FY:bE P w K mg ap dJ 3 t.alI t.aso ["_law_script"] (as8 K):=by
 refine T.aoe.ok wQ λvs H Q E h=>?_;obtain⟨a,O,rfl,R,hl,q⟩:=h;room;have sz:=ad0;refine @ak _ _ _ _ _ _ _ (@lJ _ _ 1 _ _ _ _ wQ.nd rfl (Or.inl rfl) (@bM _ _ _ _ (@j6 _ _ ["rules","put","cut","undo","redo","mark","drop","marks","row","tint","folds","never"] rfl)) (by left) (by left)) ⟨by decide,λl S=>?_⟩;have U:af H (ag H l (.lst (ach.map V.str))):=af.ag S;have C:ag H l (.lst (ach.map V.str)) l=r6 (ach.map V.str):=aa;show At _ _ _ [ρ a,ρ l,none,none,none] (ag H l (.lst (ach.map V.str)));generalize ag H l (.lst (ach.map V.str))=H1 at U C;refine ak (b7 2 wQ (aC aU bP (aS (dP T) hr.m rfl T.dR T.cA.kp T.cA.b3 .nil aH (ao br (cy ai ai))))) ⟨a,O,_,_,rfl,R.ae U,by decide,by decide,by decide,by decide,hl,λd L W X s2=>?_⟩;obtain⟨z,hz,Y⟩:=agZ (zs:=ach) (n:=12) rfl W X;refine⟨aV.of (s2 _ _ C),Y,?_⟩;have Z:=U.trans s2;refine @ak _ _ _ _ _ _ _ (@lJ _ _ 3 _ _ _ _ wQ.nd rfl (Or.inl rfl) (@amc _ _ _ _ _ _ _ _ _ (cS hr) (@adt _ _ _ _ [(Sum.inr "put",.int 2),(Sum.inr "cut",.int 4),(Sum.inr "mark",.int 2),(Sum.inr "row",.int 1),(Sum.inr "tint",.int 1)] (by repeat (first|exact aqL|refine aoM aZ (by first|exact ai|exact aZ) ?_)) rfl rfl (by simp) (by decide) (by decide)) cG ai ⟨rfl,rfl,rfl,rfl⟩) (by left) (by left)) λp j=>?_;have A:ag L p (.dK (m9 [] abT)) p=some (.dK abT):=by rw[aa,ajj]
 refine⟨p,rfl,.inl ⟨_,.of A⟩,fP abT (Sum.inr z),om.k (k:=Sum.inr z) A,?_⟩;obtain⟨n,hn,en⟩:=ap6 z;rw[en];show At _ _ _ [ρ a,ρ l,τ z,ι n,none] (ag L p (.dK (m9 [] abT)));have s3:af H (ag L p (.dK (m9 [] abT))):=Z.to j;generalize ag L p (.dK (m9 [] abT))=H3 at s3;clear A;refine ak (b7 4 wQ (bM (bQ cG))) ⟨sL rfl,λc hc=>?_⟩;have s4:af H (ag H3 c (.lst [.str z])):=s3.to hc;have F:ag H3 c (.lst [.str z]) c=r6 [.str z]:=aa;have hcH:H c=none:=s3.free hc;generalize ag H3 c (.lst [.str z])=H4 at s4 F;refine aF (λZ' M=>∃B:a9,Z'=[ρ a,ρ l,τ z,ι n,ρ c]/\B≠[]/\B.length<=2/\(∀w∈B,w∈aae)/\M c=r6 (B.map V.str)/\af H M) (bq (aA iA cG (bM (cy aZ aZ)) rfl) ay ay) ?_ ?_
 .walk_at "rd";refine⟨by decide,λp j=>⟨.inl (aV.of aa),rfl,rfl,_,rfl,?_⟩⟩;simp only[Bool.false_eq_true,if_false];have s:=s4.to j (o:=.lst [.str "mark",.str "drop"]);have f:=af.ag j (o:=.lst [.str "mark",.str "drop"]) _ _ F;generalize ag H4 p (.lst [.str "mark",.str "drop"])=H5 at s f ⊢;cases Mz (V.str z) [V.str "mark",V.str "drop"] with
  |false=>exact mH (bg ⟨rfl,[z],by simp,by show 1<=2;decide,λw N=>by rw[B1.mp N];exact aho hz,f,s⟩)
  |true =>
   refine zA (av (@aY _ _ _ _ (@cV _ _ _ _ _ _ _ _ _ _ _ _ Z4 aa0 aa3 bW eE (ao (@aC _ _ _ _ _ _ _ aU (@bM _ _ _ _ (@j6 _ _ ["a","ab","A","","abcdefghi"] rfl)) (@aS _ _ _ _ _ _ _ _ _ _ _ _ _ _ _ _ (dP T) hr.m rfl T.dR T.cA.kp T.cA.b3 .nil aH (ao br (ao ai (ao ai bu (by left)) (by left)) (by left)) (by left) (by left) (by left)) (λ_ _=>rfl)) bu (by left)) (by left) (by left) (by left) (by left) (by left)) (by left)) ?_);walk_at "rd";refine⟨.inl ⟨rfl,_,aV.of f⟩,by decide,λp j=>⟨a,O,_,_,rfl,R.ae (s.to j),by decide,by decide,by decide,by decide,hl,λd H6 W X g=>?_⟩⟩;obtain⟨y,hy,Y⟩:=agZ (zs:=agO) (n:=5) rfl W X;have G:=(af.ag j (o:=.lst (agO.map V.str))).trans g;have hc6:=G _ _ f;refine⟨aV.of (g _ _ aa),Y,hc6,by show 1<sizeLine;decide,[z,y],by simp,by show 2<=2;decide,λw N=>?_,aa,?_⟩
   .simp only[Z5,ad1,an3] at N;rcases N with rfl|rfl
    .exact aho hz
    .exact anq hy
   .intro b o hb;rw[aj (λe=>by rw[e,hcH] at hb;cases hb)];exact G _ _ (s b o hb)
 rintro Z' H5 ⟨B,rfl,hne,hwl,hwa,f,s⟩;refine av (@aQ _ _ _ _ (@aK _ _ _ _ _ _ _ _ gM eE (@iM _ (az (top 93)) _ ["_law_script","_law_heads","_law_head","_law_many","_law_parts"] _ _ ("_law_k") _ _ [("_law_script",0)] _ _ (by walk_at "ck") (@fm _ _ _ _ _ _ rfl T.iG (ao dh bu (by left)) (by left)) (λ_ _ _ _=>by exact(@aS _ _ _ _ _ _ _ _ _ _ _ _ _ _ _ _ (xE T) hr.m rfl T.xy T.qj.kp T.qj.b2 .nil aH (ao br (ao (@aK _ _ _ _ _ _ _ _ bh ai (@aK _ _ _ _ _ _ _ _ jN ai bP)) bu (by left)) (by left)) (by left) (by left) (by left))) (by left) (by left) (by left) (by left)))) ⟨(n:Int),rfl,by lia,by lia,tT (n:=((n:Int)).toNat) (λi ys M=>∃u:a9,ys=u.map V.str/\(∀r∈u,r∈agp)/\u.length=i/\af H5 M) ⟨[],rfl,(λc h=>by cases h),rfl,af.refl _⟩ (cL (by lia)) ?_ ?_⟩
 .rintro i ys H6 hi I ⟨u,rfl,v,J,g⟩;refine⟨.inl ⟨by decide,by decide⟩,a,O,_,rfl,R.ae (s.trans g),hl,(by lia),(by lia),λy H7 hy s7=>fQ hi I ⟨u++[y],by rw[o0];rfl,λx hx=>?_,by rw[i5,J];rfl,g.trans s7⟩⟩;rcases X1.mp hx with e|e
  .exact v x e
  .rw[B1.mp e];exact hy
 .rintro ys H6 I ⟨u,rfl,v,J,g⟩ D A;refine⟨(g.to A) _ _ f,aa,by rw[d5,d5];lia,λe he=>?_⟩;refine q e (B++u) _ (by simp[hne]) (by rw[i5];lia) (λx hx=>?_) (by rw[aa,o0]) (((s.trans g).to A).to he);rcases X1.mp hx with e|e
  .exact hwa x e
  .exact aoX (v x e)
inductive Bv(K:W.Frag)(vs:q7)(H:Hp)(Q:VK)(_:XK):Prop|mk(a:Addr)(ns:c9)(_:vs=[.ref a])(_:aV K H a (ns.map V.int))(_:ns.length<=63)(_:∀H',Q (.bl true) H')
structure agu(H H':Hp)(lp:Addr)(hd:Str)(ws:a9)(n:Nat)(tx:Option Str):Prop where
 s:af H H'
 lp:H' lp=r6 ((hd::ws).map V.str)
 len:ws.length<=n
 all:∀w∈hd::ws,w∈aae
 tx:∀b,tx=some b->b∈aaj
def DkS (t:eZ) (H:Hp) (x0 lp:Addr) (xs:q7) (ah:Bool):Prop:=(ah=false/\H lp=r6 xs/\∃a,H x0=s0 t.Ru a [("scribe",.dj)])\/(ah=true/\∃S x b c,hid S H lp=r6 xs/\Dk' t S H x0 x rs1 sp1 [.ref b] []/\ZT t S H b c)
def avg (hd:Str) (ws:a9) (tx:Option Str) (ah:Bool) (wd:Str):Prop:=(aaX hd ws tx.isSome=false/\wd = "line")\/(aaX hd ws tx.isSome=true/\((hd = "rules" /\ ws=[]/\∃z,tx=some z/\abk z wd)\/(hd ≠ "rules" /\ ((ah=true/\aar hd ws wd)\/(ah=false/\(∃a,aar hd ws a)/\wd = "rules 0 0")))))
def as7(ah:Bool)(hw:∀w∈hd::ws,w∈aae)(htx:∀b,tx=some b->b∈aaj):∃wd,avg hd ws tx ah wd:=by
 cases hB:aaX hd ws tx.isSome with
 |false=>exact⟨_,.inl ⟨hB,rfl⟩⟩
 |true =>
  by_cases hr:hd = "rules"
  .subst hr;obtain⟨a,c,_⟩:=afb (ks:=[]) rfl hB;obtain rfl:=ah3.mp a;cases tx with
   |none=>exact absurd c (by decide)
   |some z =>
    obtain⟨wd,h⟩:=alU (htx z rfl);exact⟨wd,.inr ⟨hB,.inl ⟨rfl,rfl,z,rfl,h⟩⟩⟩
  .obtain⟨wd,h⟩:=at8 hr (λw h=>hw w (Q1 _ h)) hB;cases ah with
   |true=>exact⟨wd,.inr ⟨hB,.inr ⟨hr,.inl ⟨rfl,h⟩⟩⟩⟩
   |false=>exact⟨_,.inr ⟨hB,.inr ⟨hr,.inr ⟨rfl,⟨wd,h⟩,rfl⟩⟩⟩⟩
def ajo(h:j<1000):(ZO 0 j).length<=1100:=by
 have c:=aeH (i:=0) (by decide);have d:=aeH (i:=j) (by lia);have a:(Str.ofString "rules ").length=6:=by lk
 have b:(Str.ofString " ").length=1:=by lk
 unfold ZO;rw[T0,T0,T0,a,b];lia
def abk.len(h:abk z wd):wd.length<=1100:=by
 cases h with
 |ok=>lk
 |ring=>lk
 |bad z r rs j _ hj=>exact ajo hj
def aeq (H H':Hp) (lp:Addr) (xs:q7) (wd found:Str):Prop:=H' lp=r6 xs/\found.length<=1100/\((∃z,found = "told " ++ z/\(wd = "told" \/ wd=found))\/(found=wd/\af H H'))
def afw{wd:Str}     (h:H' lp=r6 xs) (hz:z.length<=1000) (e:wd = "told" \/ wd = "told " ++ z):aeq H H' lp xs wd ("told " ++ z):=⟨h,by rw[T0,show (Str.ofString "told ").length=5 by lk];lia,.inl ⟨z,rfl,e⟩⟩
def aaV(h:H lp=r6 xs)(hl:wd.length<=1100)(s:af H H'):aeq H H' lp xs wd wd:=⟨s _ _ h,hl,.inr ⟨rfl,s⟩⟩
def akN{x0 lp:Addr}      (hW:avg hd ws tx ah wd) (hD:DkS t H x0 lp ((hd::ws).map V.str) ah) (hl:ws.length<=7) (hw:∀w∈hd::ws,w∈aae) (htx:∀b,tx=some b->b∈aaj):∃dx v,H x0=s0 t.Ru dx [("scribe",v)]/\abr t K [.ref x0,.str (aaw hd ws tx)] H (aqZ λz H'=>aeq H H' lp ((hd::ws).map V.str) wd z) (aaN t λz H'=>aeq H H' lp ((hd::ws).map V.str) wd z):=by
 have a:H lp=r6 ((hd::ws).map V.str):=by
  rcases hD with ⟨_,h,_⟩|⟨_,S,x,i,l,h,_⟩
  .exact h
  .exact aq _ _ h
 have g:∃dx v,H x0=s0 t.Ru dx [("scribe",v)]/\((ah=false/\v = .dj)\/(ah=true/\∃S x i l,v = .ref x/\hid S H lp=r6 ((hd::ws).map V.str)/\Dk' t S H x0 x rs1 sp1 [.ref i] []/\ZT t S H i l)):=by
  rcases hD with ⟨e,_,dx,h⟩|⟨e,S,x,i,l,h,D,q⟩
  .exact⟨dx,_,h,.inl ⟨e,rfl⟩⟩
  .obtain⟨u,_,_,_,_,_,_,_,_,_,I,_⟩:=D.st;exact⟨u,_,I,.inr ⟨e,S,x,i,l,rfl,h,D,q⟩⟩
 obtain⟨dx,v,g,y⟩:=g;have j:∀w∈hd::ws,Clean w:=λw h=>aeB (hw w h);have f:∀b∈aaj,b.length<=500/\∀c∈b.l,c<1000:=by lk
 refine⟨dx,v,g,?_⟩;rcases hW with ⟨r,rfl⟩|⟨r,⟨rfl,rfl,z,rfl,s⟩|⟨J,⟨rfl,A⟩|⟨rfl,⟨L,A⟩,rfl⟩⟩⟩
 .exact atO T j g (by lia) (λb e=>f b (htx b e)) r (aaN.line λH' d=>aaV a (by decide) d)
 .have B:lp≠x0:=λz=>by rw[z,g] at a;cases a
  have E:∀H',wd = "told ok" -> (∀b o,H b=some o->b≠x0->H' b=some o)->aeq H H' lp ([("rules" : Str)].map V.str) wd "told ok" := λH' e C=>by have:=afw (H:=H) (wd:=wd) (z:="ok") (C _ _ a B) (by decide) (.inr (e.trans acp.1));rw[<- acp.1] at this;exact this
  rcases y with ⟨rfl,rfl⟩|⟨rfl,S,x,i,l,rfl,_,D,q⟩
  .exact ago T s (f z (htx z rfl)).1 ⟨g,.inl ⟨rfl,rfl⟩,by decide,one_le⟩ E λH' d=>aaV a s.len d
  .exact ago T s (f z (htx z rfl)).1 ⟨g,.inr ⟨S,x,sp1,_,_,rfl,D⟩,by decide,adh⟩ E λH' d=>aaV a s.len d
 .rcases y with ⟨e,_⟩|⟨_,S,x,i,l,rfl,n,D,q⟩
  .cases e
  .exact D.say T q A j r htx (λz H' F e C _ _=>⟨z,rfl,F,afw (C _ _ n) F e⟩) (λG p e=>aaN.np λH' d=>by rw[e];exact aaV a (by decide) (p.trans d)) (λG p e=>aaN.mark λH' d=>by rw[e];exact aaV a (by decide) (p.trans d)) (λG p e=>aaN.nothing λH' d=>by rw[e];exact aaV a (by decide) (p.trans d))
 .rcases y with ⟨_,rfl⟩|⟨e,_⟩
  .exact anm T g A j r (λb e=>(f b (htx b e)).1) λH' d=>by rw[show ZO 0 0=("rules 0 0" : Str) by lk];exact aaV a (by decide) d
  .cases e
def Eu{xs:a9}(h:∀x∈xs,x.length<=n):(xs.map (·.length)).sum<=xs.length*n:=by
 induction xs with
 |nil=>simp
 |cons x r ih =>
  have b:=h x ab7;have c:=ih λz a=>h z (Q1 _ a);rw[ab5,am3,P3,Nat.succ_mul];lia
def asC :PySem.Txt.slice ("told " ++ z) none (some 5) = "told " := afr (by rw[show (some (5:Int))=some ((5:Nat):Int) from rfl,yq,abw];exact List.take_left' (by lk))
def adZ(hw:t.pr=w.params):bE P w K mg ap dJ 12 t.ajR t.amk ["self","row"] (au5 λvs H Q _=>abr t K vs H Q E0):=(adS T hw).quiet.up
def Vr   (F:dI K "law" "law" (top 105) f fd) (T:Txt K mg t) (hw:t.pr=w.params):bE P w K mg ap dJ 14 f fd ["_law_script"] (Bv K):=by
 refine F.ok gu λvs H Q E h=>?_;obtain⟨G,ns,rfl,hS,hl,q⟩:=h;room;refine ak (b7 1 gu (aS (FY T) hr.m rfl T.auy T.aoe.kp T.aoe.b1 .nil aH (bQ br))) ⟨G,ns,rfl,hS,hl,λg ws0 H1 hne hwl hws hlp s1=>?_⟩;obtain⟨l,ws,rfl⟩:∃l ws,ws0=l::ws:=by
  cases ws0 with
  |nil=>exact absurd rfl hne
  |cons a b=>exact⟨a,b,rfl⟩
 refine @ak _ _ _ _ _ _ _ (@lJ _ _ 2 _ _ _ _ gu.nd rfl (Or.inl rfl) (@bM _ _ _ _ (@j6 _ _ ["mode a red","","mode a red\nany blue stay","mode a","mode a red\nend stay","a\nb"] rfl)) (by left) (by left)) ⟨sL rfl,λI hls=>?_⟩;have s2:af H (ag H1 I (.lst (aaj.map V.str))):=s1.to hls;have hl2:ag H1 I (.lst (aaj.map V.str)) I=r6 (aaj.map V.str):=aa;have J:=af.ag hls (o:=.lst (aaj.map V.str)) _ _ hlp;show At _ _ _ [ρ G,ρ g,ρ I,none,none,none,none,none,none,none,none,none] (ag H1 I (.lst (aaj.map V.str)));generalize ag H1 I (.lst (aaj.map V.str))=H2 at s2 hl2 J;have Z:agu H H2 g l ws 5 none:=⟨s2,J,by rw[P3] at hwl;lia,hws,λb e=>by cases e⟩
 refine aF (λy A=>∃tx,y=[ρ G,ρ g,ρ I,some (txV tx),none,none,none,none,none,none,none,none]/\agu H A g l ws 5 tx) (b7 3 gu (dc (aA iA (aC aU bP ai) (bM (cy aZ aZ)) rfl) (aC aU cG (aS (dP T) hr.m rfl T.dR T.cA.kp T.cA.b3 .nil aH (ao br (cy ai ai)))) cR)) ?_ ?_
 .refine⟨aV.of J,aB (j:=0) rfl,sL rfl,λp O=>⟨.inl (aV.of aa),rfl,rfl,.mk<|xM (λ_=>?_) λ_=>⟨none,rfl,s2.to O,af.ag O _ _ J,Z.len,Z.all,Z.tx⟩⟩⟩;refine⟨G,ns,_,_,rfl,(hS.ae s2).ae (af.ag O),by decide,by decide,by decide,by decide,hl,λd H3 h0 h1 s3=>?_⟩;obtain⟨z,hz,ha⟩:=agZ (zs:=aaj) (n:=6) rfl h0 h1;have s23:=(af.ag O).trans s3;exact⟨aV.of (s23 _ _ hl2),ha,some z,rfl,s2.trans s23,s23 _ _ J,Z.len,Z.all,λb e=>by cases e;exact hz⟩
 rintro y H3 ⟨tx,rfl,W3⟩;clear Z J hl2 hlp s1 s2 hls;refine aF (λy A=>∃g l ws M,y=[ρ G,ρ g,ρ I,some (txV tx),M,none,none,none,none,none,none,none]/\agu H A g l ws 7 tx) (dD aa7 rfl (fm rfl T.iG (bQ (aS (dP T) hr.m rfl T.dR T.cA.kp T.cA.b3 .nil aH (ao br (cy ai ai))))) (jb 4 gu) ay) ?_ ?_
 .refine⟨G,ns,_,_,rfl,hS.ae W3.s,by decide,by decide,by decide,by decide,hl,λd H4 h0 h1 s4=>⟨d,rfl,by lia,by lia,?_⟩⟩;have e3:d.toNat<=2:=by lia
  refine fH (n:=d.toNat) (λi y A=>∃g l ws M,y=[ρ G,ρ g,ρ I,some (txV tx),M,none,none,none,none,none,none,none]/\agu H A g l ws (5+i) tx) ⟨g,l,ws,_,rfl,W3.s.trans s4,s4 _ _ W3.lp,W3.len,W3.all,W3.tx⟩ ?_ ?_
  .rintro i y H5 hi ⟨g,l,ws,M,rfl,L⟩;have l5:=L.len;refine av (b7 1 gu (aS (zU T) hr.m rfl T.atZ T.amt.kp T.amt.b3 .nil aH (ao br (cy (aK bh ai (aK jN ai eE)) bP)))) ?_;walk_at "rd";refine⟨.inl ⟨by decide,by decide⟩,G,g,ns,_,l::ws,rfl,hS.ae L.s,hl,by lia,by lia,L.lp,by simp,by rw[P3];lia,L.all,λp ws' H6 hne6 hlen6 hall6 hp6 s6=>?_⟩;obtain⟨hd',ws',rfl⟩:∃hd' ws'',ws'=hd'::ws'':=by
    cases ws' with
    |nil=>exact absurd rfl hne6
    |cons a b=>exact⟨a,b,rfl⟩
   exact⟨p,rfl,hd',ws',L.s.trans s6,hp6,by simp only[P3] at hlen6;lia,hall6,L.tx⟩
  .rintro y H5 ⟨g,l,ws,M,rfl,L⟩;exact⟨g,l,ws,M,rfl,L.s,L.lp,by have:=L.len;lia,L.all,L.tx⟩
 rintro y H4 ⟨g,l,ws,M,rfl,R⟩;clear W3 hne hwl hws;refine aF (λy A=>∃tx,y=[ρ G,ρ g,ρ I,some (txV tx),M,none,none,none,none,none,none,none]/\agu H A g l ws 7 tx) (bq (aA cC (aS (dP T) hr.m rfl T.dR T.cA.kp T.cA.b3 .nil aH (ao br (cy ai ai))) ai (aE _)) ay ay) ?_ ?_
 .refine⟨G,ns,_,_,rfl,hS.ae R.s,by decide,by decide,by decide,by decide,hl,λd H5 h0 h1 s5=>⟨rfl,.mk<|dM (λ_=>?_) λ_=>bg ⟨tx,rfl,R.s.trans s5,s5 _ _ R.lp,R.len,R.all,R.tx⟩⟩⟩;cases tx with
  |none=>exact av (b7 3 gu (dc (aA nR dh cR (aE _)) cR aZ)) ⟨rfl,.mk<|mq (λz=>absurd rfl z) λ_=>⟨some "",rfl,R.s.trans s5,s5 _ _ R.lp,R.len,R.all,λb e=>by cases e;decide⟩⟩
  |some z=>exact av (b7 3 gu (dc (aA nR dh cR (aE _)) cR aZ)) ⟨rfl,.mk<|mq (λ_=>⟨none,rfl,R.s.trans s5,s5 _ _ R.lp,R.len,R.all,λb e=>by cases e⟩) λh=>by cases h⟩
 rintro y H5 ⟨tx,rfl,L⟩;clear R;refine ak (lJ (i:=5) gu.nd rfl (Or.inr rfl) (anl T.aqQ (eG T) hr.m rfl T.anc T.ar6.b1 .nil aH)) λC B nx ndx ne=>⟨C,B,rfl,aa,rfl,?_⟩
 have s6:af H5 (ag (ag (ag H5 B (.own C)) C (.ins t.Ru B [])) C (.ins t.Ru B [("scribe",.dj)])):=gZ nx ndx;have hx6:ag (ag (ag H5 B (.own C)) C (.ins t.Ru B [])) C (.ins t.Ru B [("scribe",.dj)]) C=s0 t.Ru B [("scribe",.dj)]:=aa;generalize ag (ag (ag H5 B (.own C)) C (.ins t.Ru B [])) C (.ins t.Ru B [("scribe",.dj)])=H6 at s6 hx6;have W6:agu H H6 g l ws 7 tx:=⟨L.s.trans s6,s6 _ _ L.lp,L.len,L.all,L.tx⟩
 clear L s6 nx ndx ne;refine ak (b7 6 gu (eW cC (aS (dP T) hr.m rfl T.dR T.cA.kp T.cA.b3 .nil aH (ao br (cy ai ai))) ai (aE _))) ⟨G,ns,_,_,rfl,hS.ae W6.s,by decide,by decide,by decide,by decide,hl,λd H7 h0 h1 s7=>⟨rfl,?_⟩⟩;generalize (decide (V.int d=V.int 0))=ah;refine @ak _ _ _ _ _ _ _ (@lJ _ _ 7 _ _ _ _ gu.nd rfl (Or.inl rfl) (@bM _ _ _ _ (@j6 _ _ ["rules\nmode a red\nany red stay\none 'a blue stay","put 0 0\nab\nc","mark ab 1 1"] rfl)) (by left) (by left)) ⟨sL rfl,λlb hlb=>?_⟩;have hx8:=af.ag hlb (o:=.lst (aeT.map V.str)) _ _ (s7 _ _ hx6);have hlb8:ag H7 lb (.lst (aeT.map V.str)) lb=r6 (aeT.map V.str):=aa;have hlp8:=af.ag hlb (o:=.lst (aeT.map V.str)) _ _ (s7 _ _ W6.lp);show At _ _ _ [ρ G,ρ g,ρ I,some (txV tx),M,ρ C,some (.bl ah),ρ lb,none,none,none,none] (ag H7 lb (.lst (aeT.map V.str)));generalize ag H7 lb (.lst (aeT.map V.str))=H8 at hx8 hlb8 hlp8;have hlen:=W6.len;have Y:=W6.all;have htx:=W6.tx;clear W6 hx6;refine aF (λy A=>y=[ρ G,ρ g,ρ I,some (txV tx),M,ρ C,some (.bl ah),ρ lb,none,none,none,none]/\DkS t A C g ((l::ws).map V.str) ah) (@bq _ _ _ _ _ _ _ _ (@PW.pt _ _ _ (@dX _ _ _ _ _ _ _ (gR jv) (@cX _ _ _ _ (@aA _ _ _ _ _ _ _ _ (lW (aa6 (cS hr))) (iM (sc:=az (top 105)) (N:=["_law_script","_law_parts","_law_some","_law_text","_law_k","_law_desk","_law_ahead","_law_begun","_law_told","_law_found","_law_due_here","_law_rows"]) (x:="_law_one") (caps:=[("_law_desk",5)]) (by walk_at "ck") (@fF _ _ _ _ jO) (λ_ _ _ _=>(bw br T.aah T.aph (adZ T hw) hr.m T.aju.b2 .nil aH (bQ bP)))) (@bM _ _ _ _ (@j6 _ _ ["ok","2","ok"] rfl)) (aE _))))) ay ay) ?_ ?_
 .refine⟨?_⟩;cases ah with
  |false=>exact mH (mH (bg ⟨rfl,.inl ⟨rfl,hlp8,B,hx8⟩⟩))
  |true =>
   refine zA ⟨lb,rfl,⟨_,aV.of hlb8⟩,ie (xs:=aeT.map V.str) (amG t C B lb g (l::ws)) (.inl ⟨rfl,rfl,hx8,hlb8,hlp8⟩) (by show 3<sizeLine;decide) ?_ ?_ ?_⟩
   .rintro i ys A _ h;exact aV.of h.lb
   .rintro i xv ys A hx hyl h;rw[v3] at hx;obtain⟨bb,N,rfl⟩:=D1.mp hx;obtain⟨dx,fs,h1,h2,h3⟩:=aoo T h N;exact⟨h1,h2,_,h3,λu H2 hq=>fQ (by rw[d5];exact(d6.mp N).1) hyl hq⟩
   .rintro ys A hyl h D hD;rcases h with ⟨z,_⟩|⟨S,x,k1,k2,⟨z,_⟩|⟨dd,DD,⟨z,_⟩|⟨_,rfl,DC⟩⟩⟩
    .exact absurd z (by decide)
    .exact absurd z (by decide)
    .exact absurd z (by decide)
    refine⟨sL rfl,λp3 hp3=>⟨aV.of (af.ag hp3 _ _ aa),aV.of aa,pG ["ok","2","ok"] ["ok","2","ok"],.mk ?_⟩⟩;have s2:=(af.ag hD (o:=.lst [.str "ok",.str "2",.str "ok"])).to hp3 (o:=.lst [.str "ok",.str "2",.str "ok"]);exact mH (bg ⟨rfl,.inr ⟨rfl,S,x,dd,_,aJ s2 _ _ k2,DC.ae s2,DD.ae s2⟩⟩)
 rintro y H9 ⟨rfl,hD9⟩;have hlp9:H9 g=r6 ((l::ws).map V.str):=by
  rcases hD9 with ⟨_,h,_⟩|⟨_,S,x,dd,bb',h,_⟩
  .exact h
  .exact aq _ _ h
 have hcl:∀w∈l::ws,Clean w:=λw hw=>aeB (Y w hw);have sz:=ad0;have hrl:=adI hcl;rw[P3] at hrl;refine ak (b7 8 gu (cV PySem.F.plainAttrs_str PySem.F.slot_str_join PySem.F.type_str_join CK aZ (bQ bP))) ⟨rfl,_,g,l::ws,rfl,rfl,aV.of hlp9,?_,?_⟩
 .have h1:=Eu (n:=10) (λw hw=>(hcl w hw).len);have e1:(Str.ofString " ").length=1:=by lk
  rw[e1];rw[P3] at h1 ⊢;lia
 rw[join_eq];show At _ _ _ [ρ G,ρ g,ρ I,some (txV tx),M,ρ C,some (.bl ah),ρ lb,τ (aaS (l::ws)),none,none,none] H9;refine aF (λy A=>y=[ρ G,ρ g,ρ I,some (txV tx),M,ρ C,some (.bl ah),ρ lb,τ (aaw l ws tx),none,none,none]/\A=H9) (bq (aA nR dh cR (aE _)) ay ay) ?_ ?_
 .cases tx with
  |none=>exact⟨rfl,.mk<|mq (λz=>absurd rfl z) λ_=>bg ⟨rfl,rfl⟩⟩
  |some z =>
   refine⟨rfl,.mk<|mq (λ_=>?_) λh=>by cases h⟩;have e1:(Str.ofString "\n").length=1:=by lk
   have hz:=(akK z (htx z rfl)).1;exact av (b7 8 gu (aK bY (aK bY kH aZ) dh)) ⟨_,_,rfl,rfl,by rw[e1];lia,_,_,rfl,rfl,by rw[T0,e1];lia,rfl,rfl⟩
 rintro y A ⟨rfl,e⟩;rw[e];clear e A;obtain⟨wd,hW⟩:=as7 ah Y htx;obtain⟨dx,v,hx,hsay⟩:=akN T hW hD9 hlen Y htx;refine aF (λy A=>∃c,y=[ρ G,ρ g,ρ I,some (txV tx),M,ρ C,some (.bl ah),ρ lb,τ (aaw l ws tx),τ c,none,none]/\aeq H9 A g ((l::ws).map V.str) wd c) (b7 9 gu (aS (HJ T hw) hr.m rfl T.atD T.alF.kp T.alF.b2 .nil aH (cy gX kH))) ⟨C,dx,_,_,_,rfl,hx,rfl,hsay,λz A r=>⟨z,rfl,r⟩⟩ ?_;rintro y H10 ⟨c,rfl,hF⟩;clear hsay hx;have hlp10:=hF.1;refine aF (λy A=>∃ld,y=[ρ G,ρ g,ρ I,some (txV tx),M,ρ C,some (.bl ah),ρ lb,τ (aaw l ws tx),τ c,ρ ld,none]/\af H10 A/\A ld=r6 [.str wd]) (bq (g9 (gR (aS (eP T) hr.m rfl T.atJ T.aos.kp T.aos.b2 .nil aH (cy bP dh)))) ay ay) ⟨g,l,ws,tx,rfl,hlp10,by lia,λw h=>Y w (Q1 _ h),λH11 U=>⟨?_⟩⟩ ?_
 .rcases hW with ⟨hB,rfl⟩|⟨hB,hW⟩
  .rw[hB];exact zA (av (b7 10 gu (bM (bQ aZ))) ⟨sL rfl,λp O=>⟨p,rfl,U.to O,aa⟩⟩)
  rw[hB];have W:=U _ _ hlp10;refine mH ?_;rcases hW with ⟨rfl,rfl,z,rfl,hR⟩|⟨hne,hW⟩
  .exact av (bq (aA cC (aC aU bP ai) aZ (aE _)) ay ay) ⟨aV.of W,aB (j:=0) rfl,rfl,.mk<|dM (λ_=>av (b7 10 gu (bM (bQ (aS (Eo T) hr.m rfl T.atc T.alR.kp T.alR.b1 .nil aH (bQ dh))))) ⟨z,wd,rfl,hR.read,λH12 s12=>⟨sL rfl,λp O=>⟨p,rfl,(U.trans s12).to O,aa⟩⟩⟩) λh=>absurd rfl h⟩
  .refine av (bq (aA cC (aC aU bP ai) aZ (aE _)) ay ay) ⟨aV.of W,aB (j:=0) rfl,rfl,.mk<|dM (λh=>absurd (V.str.inj h) hne) λ_=>?_⟩;rcases hW with ⟨rfl,hL⟩|⟨rfl,_,rfl⟩
   .exact av (b7 10 gu (dc (gR jv) (aS (Ti T) hr.m rfl T.alP T.ahE.kp T.ahE.b1 .nil aH (bQ bP)) (bM (bQ aZ)))) ⟨zA ⟨g,l,wd,ws,rfl,W,hL,λp H12 O s12=>⟨p,rfl,U.trans s12,O⟩⟩⟩
   .exact av (b7 10 gu (dc (gR jv) (aS (Ti T) hr.m rfl T.alP T.ahE.kp T.ahE.b1 .nil aH (bQ bP)) (bM (bQ aZ)))) ⟨mH ⟨sL rfl,λp O=>⟨p,rfl,U.to O,aa⟩⟩⟩
 rintro y H11 ⟨ld,rfl,U,hld⟩;obtain⟨_,hfl,hF⟩:=hF;have ein:Mz (.str c) [.str wd]=decide (c∈[wd]):=mS (cs:=[wd]);refine aF (λy A=>y=[ρ G,ρ g,ρ I,some (txV tx),M,ρ C,some (.bl ah),ρ lb,τ (aaw l ws tx),τ c,ρ ld,none]/\af H11 A) (bq (PW.pt (dX (aA mj l9 (pv 10) rfl) (cX (g9 (PW.pt (dX (aA (jU (aa6 (cS hr))) (pv 10) (bM (bQ aZ)) (aE _)) (cX (aA cC (bS ko l9 cP (bO ai)) aZ (aE _))))))))) ay ay) ⟨.inl (aV.of hld),rfl,rfl,.mk ?_⟩ ?_
 .rw[ein];by_cases hf:c=wd
  .rw[ab4 (B1.mpr hf)];exact mH (mH (bg ⟨rfl,af.refl _⟩))
  .rw[ab2 (λz=>hf (B1.mp z))];obtain⟨z,rfl,hwd⟩:∃z,c = "told " ++ z/\wd = "told" := by
    rcases hF with ⟨z,e,h|h⟩|⟨h,_⟩
    .exact⟨z,e,h⟩
    .exact absurd h.symm hf
    .exact absurd h hf
   subst hwd;refine zA ⟨sL rfl,λp O=>⟨aV.of (af.ag O _ _ hld),aV.of aa,pG ["told"] ["told"],.mk ?_⟩⟩;exact zA ⟨bK (by lia),rfl,.mk<|mG (show (!decide (V.str (PySem.Txt.slice ("told " ++ z) none (some 5))=V.str "told "))=false by rw[asC];decide) (mH (bg ⟨rfl,af.ag O⟩))⟩
 rintro y H12 ⟨rfl,s12⟩;refine aF (λy A=>y=[ρ G,ρ g,ρ I,some (txV tx),M,ρ C,some (.bl ah),ρ lb,τ (aaw l ws tx),τ c,ρ ld,none]/\A=H12/\ah=true/\af H9 A) (bq (PW.pt (jz (g9 (gR jv)) (jk (aA cC (bS ko l9 cP (bO ai)) aZ (aE _))))) ay ay) ⟨?_⟩ ?_
 .cases ah with
  |false=>exact zA (zA (av (aQ k7) (q _)))
  |true =>
   refine mH ⟨bK (by lia),rfl,.mk<|dM (λ_=>av (aQ k7) (q _)) λh5=>bg ⟨rfl,rfl,rfl,?_⟩⟩;rcases hF with ⟨z,rfl,_⟩|⟨_,s⟩
   .exact absurd (ac7 V.str asC) h5
   .exact(s.trans U).trans s12
 rintro y H13 ⟨rfl,rfl,rfl,s13⟩;rcases hD9 with ⟨z,_⟩|⟨_,S,x,dd,bb',_,D,DD⟩
 .cases z
 refine @ak _ _ _ _ _ _ _ (@lJ _ _ 11 _ _ _ _ gu.nd rfl (Or.inl rfl) (@bM _ _ _ _ (@j6 _ _ ["row 0","row 1","tint 0","marks","never","folds","undo","row 0","redo"] rfl)) (by left) (by left)) ⟨sL rfl,λlr hlr=>?_⟩;have s14:=s13.to hlr (o:=.lst (iH.map V.str));have X:hid S (ag H13 lr (.lst (iH.map V.str))) lr=r6 (iH.map V.str):=aT aa (λz=>(D.ex.ae s13).new hlr z);show At _ _ _ [ρ G,ρ g,ρ I,some (txV tx),M,ρ C,some (.bl true),ρ lb,τ (aaw l ws tx),τ c,ρ ld,ρ lr] (ag H13 lr (.lst (iH.map V.str)));generalize ag H13 lr (.lst (iH.map V.str))=H14 at s14 X;refine @av _ _ _ _ _ _ (@aQ _ _ _ _ (@eW _ _ _ _ _ _ _ _ (jU (aa6 (cS hr))) (iM (sc:=az (top 105)) (N:=["_law_script","_law_parts","_law_some","_law_text","_law_k","_law_desk","_law_ahead","_law_begun","_law_told","_law_found","_law_due_here","_law_rows"]) (x:="_law_one") (caps:=[("_law_desk",5)]) (by walk_at "ck") (@fF _ _ _ _ (pv 11)) (λ_ _ _ _=>(bw br T.aah T.aph (adZ T hw) hr.m T.aju.b2 .nil aH (bQ bP)))) (@bM _ _ _ _ (@j6 _ _ ["ab","c","2 red","ab 1 1","a 1","","1","","2"] rfl)) (aE _))) ⟨lr,rfl,⟨_,aV.of (aq _ _ X)⟩,ie (xs:=iH.map V.str) (aop t S C x lr dd) ⟨rfl,X,.inl ⟨by decide,D.ae s14,bb',DD.ae s14⟩⟩ (by show 9<sizeLine;decide) ?_ ?_ ?_⟩
 .rintro i ys A _ h;exact aV.of (aq _ _ h.2.1)
 .rintro i xv ys A hx hyl h;rw[v3] at hx;obtain⟨bb,N,rfl⟩:=D1.mp hx;obtain⟨dx,fs,h1,h2,h3⟩:=alw T h N;exact⟨h1,h2,_,h3,λu H2 hq=>fQ (by rw[d5];exact(d6.mp N).1) hyl hq⟩
 .rintro ys A hyl ⟨rfl,_,_⟩ D' hD';refine⟨sL rfl,λp3 hp3=>⟨aV.of (af.ag hp3 _ _ aa),aV.of aa,pG aqd aqd,?_⟩⟩;rw[show decide ((aqd.take (iH.map V.str).length).map V.str=([("ab" : Str),"c","2 red","ab 1 1","a 1","","1","","2"]:a9).map V.str)=true from ab4 rfl];exact q _
end
def avJ{es:Array DictEntry}(e:K.lookup a=some o)(n:(a == sysModules)=false)(h:o.ExactDict/\o.data = .dict es ep/\aiP pr es.toList kvs)(nd:(kvs.map (·.1)).Nodup):DcK K pr a kvs:=⟨n,nd,o,es,ep,e,h⟩
def W7(X:K.In h)(G:h.Ns mainGlobals mg)(e:W.nsIn K mainGlobals x=some (some u))(r:RelV v u):∃u,mg x=some u/\RelV v u:=⟨u,W.mg_of X G e,r⟩
def WE     {its:n7}  (e:K.lookup a=some o) (h:o.cls = .type "tuple" /\ o.data = .seq its n/\its.size<=sizeLine/\Vals xs its.toList):∀H,bT K H a xs:=λ_=>.inr ⟨o,its,n,e,h⟩
def all_mk {l:W.OpenLaw}        (X:K.In h) (G:h.Ns mainGlobals mg) (hfa:mg "law" = some (.ref fa)) (T:Txt K mg t) (hw:t.pr=w.params) (a:W.nsIn K mainGlobals "law" = some (some (.ref f))) (F:dI K "law" "law" (top 105) f d)
  : ∃fd:FuncData,(∀(s:Shared) (v:Value),BindsTo s fd ⟨[v],[]⟩ [("_law_script",v)])/\∀ap:Heap,K.In ap->ap.Ns mainGlobals mg->bE l.prog w K mg ap dJ 14 fa fd ["_law_script"] (Bv K):=by
 have e:=hfa.symm.trans (W.mg_of X G a);cases e;exact⟨d,(by obtain⟨_,_,_,_,_,_,_,_,_,e,_⟩:=F.ex;rw[e];exact λs v=>.of_eq rfl),λap _ _=>Vr F T hw⟩
def walk{l:W.OpenLaw}{K:Params->W.Frag}(hn:l.most=some 63)(hdf:d.params.defaults=[])
  (hY:∀(w:World) (h:Heap),YP w h->(K w.params).In h)
  (F:∀(w:World) (mg:g6) (fa:Addr) (h:Heap),(K w.params).In h->h.Ns mainGlobals mg->mg d.name=some (.ref fa) ->
   ∃fd:FuncData,(∀(s:Shared) (u:Value),BindsTo s fd ⟨[u],[]⟩ [("_law_script",u)])/\∀ap:Heap,(K w.params).In ap->ap.Ns mainGlobals mg->bE l.prog w (K w.params) mg ap dJ 14 fa fd ["_law_script"] (Bv (K w.params))) :
  W.WalkO q loose XP YP l.row.toRowW d [] (λf vs=>PySem.call f vs) :=
 L2.LD (n:=63) (k:=14) (x:="_law_script") (CX:=λ_=>dJ) (sp:=λw=>Bv (K w.params)) hn (by decide) hdf ⟨rfl,by decide,by decide⟩ hY F (λ_ _ a b hl _ c=>⟨a,b,rfl,c,hl,λ_=>rfl⟩) λ_ _ _ _ _ z=>z
end
end K81
end
open PySem PySem.W PyProof.Rows
set_option maxRecDepth 100000 in
set_option maxHeartbeats 0 in
theorem PySem.Challenge.cw_tintrow_k81_lines_of_a_desk_holds : PySem.Challenge.rw_tintrow_k81_lines_of_a_desk.Holds := by
 refine dE ?_
 k_fill
 refine K81.walk (l:=PySem.Challenge.rw_tintrow_k81_lines_of_a_desk) rfl rfl (λw h Y=>PySem.W.kIn_of Y) ?F;case F =>
  intro w e f h b G c;apply K81.all_mk (t:=⟨_,_,_,_,_,_,_,_,_,_,_,_,_,_,_,_,_,_,_,_,_,_,_,_,_,_,_,_,_,_,_,_,_,_,_,_,_,_,_,_,_,_,_,_,_,_,_,_,_,_,_,_,_,_,_,_,_,_,_,_,_,_,_,_,_,_,_,_,_,_,_,_,_,_,_,_,_,_,_,_,_,_,_,_,_,_,_,_,_,_,_,_,_,_,_,_,_,_,_,_,_,_,_,_,_,_,_,_,_,_,_,_,_,_,_,_,_,_,_,_,_,_,_,_,_,_,_,_,_,_,_,_,_,_,_,_,_,_,_,_,_,_,_,_,_,_,_,_,_,_,_,_,_,_,_,_,_,_,_,_,_,_,_,_,_,_,_,_,_,_,_,_,_,_,_,_,_,_,_,_,_,_,_,_,_,_,_,_,_,_,_,_,_,_,_,_,_,_,_,_,_,_,_,_,_,_,_,_,_,_,_,_,_,_,_,_,_,_,_,_,_,_,_,_,_,_,_,_,_,_,_,_,_,_,_,_,_,_,_,_,_,_,_,_,_,_,_,_,_,_,_,_,_,_,_,_,_,_,_,_,_,_,_,_,_,_,_⟩) b G c;case hw=>rfl
  case a=>k_is
  case F=>apply L2.Ar <;> k_is
  case T =>
   constructor;all_goals try (with_reducible refine PySem.W.mg_of b G ?_;dsimp only;k_is)
   all_goals try (first | with_reducible apply L2.Meth.mk | with_reducible apply L2.Mk.mk | with_reducible apply L2.Yr.mk | with_reducible apply L2.pH.mk) <;> (try dsimp only) <;> k_is
   all_goals try (apply L2.Ar <;> (try dsimp only) <;> k_is)
   all_goals try (with_reducible refine PySem.W.mg_none_of b G ?_;k_is)
   all_goals try (show PySem.W.findIn _ _ _=_;(try dsimp only);k_is)
   all_goals try (show PySem.W.kitOne _ _ _=_;(try dsimp only);kit_is)
   all_goals try (apply K81.W7 b G;k_is;exact⟨_,rfl⟩)
   all_goals try (apply K81.WE;(dsimp only;k_is);exact⟨rfl,rfl,by show _<=sizeLine;decide,by repeat (first | exact .nil | refine .cons ⟨_,rfl⟩ ?_)⟩)
   all_goals try ((first | with_reducible apply L2.Dq.mk | with_reducible apply L2.Tf.mk) <;> (try with_reducible apply L2.Tf.mk) <;> (try with_reducible apply L2.qL.mk) <;> (try dsimp only) <;> first | k_is | kernel_rfl)
   all_goals try (with_reducible refine And.intro ?_ (And.intro ?_ ?_) <;> (try dsimp only) <;> k_is)
   all_goals try (apply L2.Ar <;> (try dsimp only) <;> k_is)
   case acj =>
    apply K81.avJ
    .dsimp only
     k_is
    .first | rfl | decide
    .refine⟨?_,rfl,?_⟩
     .constructor <;> first | rfl | exact⟨rfl,rfl⟩
     .repeat (first | exact .nil | refine .cons rfl ?_)
    .first | (show (["rules","put","cut","undo","redo","mark","drop","marks","row","tint","folds","never"]:a9).Nodup;decide +kernel) | (dsimp only;decide +kernel)
   all_goals try (apply K81.WE;(dsimp only;k_is);exact⟨rfl,rfl,by show _<=sizeLine;decide,by repeat (first | exact .nil | refine .cons ⟨_,rfl⟩ ?_)⟩)
   all_goals (try dsimp only) <;> first | k_is | k_exc | kernel_rfl
