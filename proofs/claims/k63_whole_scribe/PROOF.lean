import PyProof.Rows.All
import KE.RegKIsAll
import KE.KxText
import KE.RegKSuper
import KE.KRevIter
import KE.KDictSum
import KE.KEqDict
import KE.LcSums
import KE.KDictOf
import KE.KSortAsk
import KE.KSortTup
import PySem.Challenge.RW_tintrow_k63_whole_scribe
set_option Elab.async false
set_option compiler.extract_closed false
set_option bootstrap.genMatcherCode false
set_option genSizeOf false
set_option linter.all false
set_option autoImplicit true
set_option relaxedAutoImplicit true
set_option maxRecDepth 100000
def d5:=@List.length_map
def d6:=@List.getElem?_eq_some_iff
def i4:=@List.getElem?_eq_getElem
def i5:=@List.length_append
def o0:=@List.map_append
def p0:=@List.mem_of_getElem?
def v3:=@List.getElem?_map
def v6:=@List.length_take
def x0:=@PySem.Heap.get?_push_of_some
def y0:=@PySem.wpAny_bind
def B1:=@List.mem_singleton
def B2:=@List.length_drop
def D1:=@Option.map_eq_some_iff
def N0:=@Nat.le_refl
def P2:=@PySem.Heap.lt_size
def P3:=@List.length_cons
def Q1:=@List.mem_cons_of_mem
def T0:=@PySem.strLen_append
def T1:=@List.size_toArray
def U2:=@List.getElem?_append_right
def X1:=@List.mem_append
def X2:=@PySem.wpAny_pure
def Z2:=@List.mem_append_right
def Z4:=@PySem.F.plainAttrs_list
def Z5:=@List.mem_cons
def Z6:=@Nat.ne_of_lt
def Z7:=@Bool.false_ne_true
def Z9:=@Nat.zero_le
def aa0:=@PySem.F.slot_list_append
def aa1:=@Option.some.inj
def aa2:=@List.getElem?_append_left
def aa3:=@PySem.F.type_list_append
def aa4:=@Ne.symm
def aa5:=@PySem.Heap.get?_push_size
def aa6:=@Nat.lt_of_succ_lt
def aa7:=@PySem.PassesOwn.never
def aa8:=@List.mem_append_left
def aa9:=@List.mem_map
def ab0:=@PySem.Heap.get?_update_other
def ab1:=@Nat.lt_of_lt_of_le
def ab2:=@decide_eq_false
def ab3:=@List.take_length
def ab4:=@decide_eq_true
def ab5:=@List.map_cons
def ab6:=@List.getElem?_drop
def ab7:=@List.mem_cons_self
def ab8:=@List.mem_iff_getElem?
def ab9:=@Int.toNat_natCast
def ac0:=@List.append_assoc
def ac1:=@List.take_of_length_le
def ac2:=@Nat.le_trans
def ac3:=@List.length_reverse
def ac4:=@decide_eq_true_eq
def ac6:=@List.length_nil
def ac7:=@congrArg
def ac8:=@List.getD_eq_getElem?_getD
def ac9:=@List.map_take
def ad0:=@PySem.sizeLine_eq
def ad1:=@List.not_mem_nil
def ad2:=@List.append_nil
def ad3:=@PySem.wpAny_mono
def ad4:=@Bool.and_eq_true
def ad5:=@List.eq_nil_of_length_eq_zero
def ad6:=@List.map_drop
def ad7:=@List.getElem?_eq_none
def ad8:=@List.take_append_drop
def ad9:=@Nat.min_eq_left
def ae0:=@PyProof.Rows.callWith_type1
def ae2:=@PySem.F.plainAttrs_str
def ae3:=@List.lookup_cons
def ae4:=@Nat.le_add_right
def ae5:=@List.mem_of_mem_take
def ae6:=@PySem.Txt.slice_le
def ae7:=@List.getLastD_eq_getLast?
def ae8:=@List.take_append_of_le_length
def ae9:=@PySem.wpAny_holding
def af0:=@PySem.Heap.get?_update_self
def af1:=@List.getElem?_take_of_lt
def af2:=@List.length_replicate
def af3:=@List.nodup_append
def af4:=@PySem.wpAny_truthy_bool
def af5:=@Bool.eq_iff_iff
def af6:=@List.getElem?_cons_zero
def af7:=@Option.map_some
def af8:=@PySem.StrLaws.found_one
def af9:=@List.length_dropLast
def ag0:=@List.mem_of_mem_drop
def ag1:=@PySem.F.slot_str_split
def ag2:=@List.getElem_mem
def ag3:=@List.map_map
def ag4:=@Array.getElem?_eq_some_iff
def ag5:=@List.length_pos_iff
def ag6:=@List.replicate_succ
def ag7:=@List.reverse_append
def ag8:=@PySem.mem_of_lookup
def ag9:=@PySem.wpAny_newObj_type
def ah0:=@Nat.lt_irrefl
def ah1:=@PySem.Obj.isFreed_of_fields
def ah2:=@List.getElem?_cons_succ
def ah3:=@List.length_eq_zero_iff
def ah4:=@Int.zero_add
def ah5:=@Option.some.injEq
def ah6:=@Array.length_toList
def ah7:=@List.map_eq_nil_iff
def ah8:=@List.nodup_cons
def ah9:=@PySem.Calls.callWith_builtin
def ai0:=@List.drop_eq_nil_of_le
def ai1:=@Array.toList_inj
def ai4:=@PySem.Calls.spliced_cons
def ai5:=@List.count_eq_zero
def ai6:=@List.getElem?_reverse
def ai7:=@PySem.wpAny_Call_Name_kw
def ai8:=@PySem.Heap.size_push
def ai9:=@PySem.Around.under_plainId
def aj0:=@PySem.Calls.evalArgs_plain
def aj1:=@PySem.F.slot_list_pop
def aj2:=@List.count_append
def aj3:=@List.ext_getElem?
def aj4:=@List.find?_cons
def aj5:=@PySem.wpAny_passesOwn
def aj6:=@Nat.sub_self
def aj7:=@Nat.add_sub_cancel_left
def aj8:=@PySem.F.type_str_split
def aj9:=@List.all_eq_true
def ak0:=@List.drop_append_of_le_length
def ak1:=@Nat.lt_succ_self
def ak2:=@List.drop_drop
def ak3:=@List.drop_zero
def ak5:=@List.drop_of_length_le
def ak6:=@Bool.false_eq_true
def ak7:=@Nat.lt_of_le_of_lt
def ak8:=@PySem.Obj.data_mapFields
def ak9:=@PySem.tupleKind_room_in1
def al0:=@PySem.F.slot_str_startswith
def al1:=@PySem.F.type_list_pop
def al2:=@List.concat_eq_append
def al3:=@List.eq_nil_or_concat
def al4:=@List.foldl_cons
def al5:=@List.length_singleton
def al6:=@List.sum_append
def al7:=@Nat.le_succ
def al9:=@PySem.W.methodCall_KW
def am0:=@PySem.Calls.spliced_nil
def am1:=@List.flatten_cons
def am2:=@List.foldl_append
def am3:=@List.sum_cons
def am4:=@PySem.call_meets
def am5:=@PySem.plainId_quiet
def am6:=@PySem.typeIs_str
def am7:=@PySem.Heap.get?_none_of_le
def am8:=@List.getElem?_set_ne
def am9:=@List.mem_range
def an0:=@LawfulBEq.eq_of_beq
def an1:=@List.filter_cons
def an2:=@Option.bind_some
def an3:=@or_false
def an4:=@List.length_zipWith
def an5:=@List.map_congr_left
def an6:=@List.take_succ_cons
def an7:=@Nat.add_le_add_left
def an8:=@PySem.W.callWith_K0
def an9:=@Sum.inr.inj
def ao0:=@Nat.ne_of_gt
def ao1:=@List.getElem?_take
def ao2:=@List.mem_filter
def ao3:=@List.mem_filterMap
def ao4:=@List.nil_append
def ao5:=@PySem.W.callWith_K
def ao6:=@PySem.codeAny_builtin
def ao7:=@PySem.wpAny_execs_nil
def ao8:=@PySem.wpAny_field
def ao9:=@if_false
def ap0:=@Nat.le_of_eq
abbrev C5:=@if_neg
abbrev w4:=@if_pos
noncomputable abbrev PySem.Str.l(s:Str):=s.cps.toList
abbrev a9:=List PySem.Str
abbrev c6:=List PySem.Addr
abbrev c7:=List Nat
abbrev c8:=List PySem.Value
abbrev c9:=List Int
abbrev f7:=List (PySem.Addr×PySem.Obj)
abbrev g6:=PySem.Str->Option PySem.Value
abbrev n7:=Array PySem.Value
abbrev q0:=PySem.Addr->Prop
noncomputable section
local macro_rules|`(lay_quick $y*)=>return Lean.mkNullNode (<- ((List.range 1143).map (s!"o_{·+43}")++(y.toList.drop 1).map (toString ·.getId)).toArray.mapM λn=>`(command|def $(Lean.mkIdent (.mkStr `PySem.W.Fast s!"tw{(y[0]!.getId.str n).hash}")):ident:=trivial))
lay_quick dE env_41 heap_39 heap_46 heap_1186 sts_49 sts_71 sts_93 sts_115 sts_130 sts_145 sts_172 sts_195 sts_218 sts_258 sts_288 sts_324 sts_360 sts_396 sts_432 sts_461 sts_483 sts_531 sts_582 sts_798 sts_835 sts_920 sts_940 sts_1012 sts_1092 sts_1165 tree_47 tree_70 tree_92 tree_114 tree_129 tree_144 tree_171 tree_194 tree_217 tree_257 tree_287 tree_323 tree_359 tree_395 tree_431 tree_460 tree_482 tree_530 tree_581 tree_714 tree_794 tree_834 tree_919 tree_939 tree_1011 tree_1091 tree_1164 tree_1185 view_39
def PySem.W.Fast.tw543429020998760949:=trivial
def PySem.W.Fast.tw12971990825381058624:=trivial
set_option maxHeartbeats 0 in
open_top dE for PySem.Challenge.rw_tintrow_k63_whole_scribe
local macro_rules | `(tactic| lk)=>`(tactic| decide +kernel)
set_option hygiene false in
local macro_rules | `(tactic| left)=>`(tactic| first|rfl|decide|exact .inl rfl|exact .inr rfl|exact .inr (.inl rfl)|exact .inr (.inr rfl)|assumption|((repeat intro _);rfl)|exact yb _ (by decide) (by decide)|(intro y;cases y))
theorem cw(_:True:=by left):True:=⟨⟩
variable {us its bm:List PySem.Value}{w:PySem.World}{h h' h2 ap:PySem.Heap}{L C dx C2:PySem.Addr}{am:List (PySem.Addr×PySem.Obj)}{s s':PySem.Shared}{t':Nat}{ch fp:List PySem.Addr}{N ps:List PySem.Str}{M:PySem.Model}{A:PySem.Around}{pos pos' apos cpos px:PySem.Pos}{es ifs elts:List PySem.Expr}{tg iter value elt:PySem.Expr}{body:List PySem.Stmt}{prog:PySem.Program}{name qual:PySem.Str}{env:PySem.Env}{mg mN:PySem.Str->Option PySem.Value}{outer:List PySem.Env}{fd:PySem.FuncData}{sc scope csc:PySem.Scope}{items2:Array PySem.Value}{ms:c9}{caps:List (PySem.Str×Nat)}
namespace L2
theorem Y13(_:True:=by decide +kernel):True:=⟨⟩
open PySem PySem.Spec PyProof.Rows
abbrev Key:=Sum Int Str
noncomputable def vK:Key->Value->Bool
 |.inl k,v=>Value.isInt k v
 |.inr x,v=>Value.isStrOf x v
noncomputable def Za(w:World):Key->Int
 |.inl k=>hashInt k
 |.inr x=>hashStr w x
theorem dZ:∀{k:Key} {v:Value},vK k v=true->(∃i t,k=Sum.inl i/\v=Value.int i t)\/(∃x t,k=Sum.inr x/\v=Value.str x t)
 |.inl i,v,h=>by obtain⟨t,e⟩:=Value.isInt_shape (k:=i) (v:=v) h;exact .inl ⟨i,t,rfl,e⟩
 |.inr x,v,h=>by obtain⟨t,e⟩:=Value.isStrOf_shape (x:=x) (v:=v) h;exact .inr ⟨x,t,rfl,e⟩
def DH(i:Int)(t:Tok):vK (.inl i) (.int i t)=true:=by simp[vK,Value.isInt]
def Dg(x:Str)(t:Tok):vK (.inr x) (.str x t)=true:=by simp[vK,Value.isStrOf]
def Vf(a b:Int):decide ((Sum.inl a:Key)=Sum.inl b)=(a == b):=by
 by_cases e:a=b
 .subst e;simp
 .rw[ab2 (λq=>e (Sum.inl.inj q))];exact(beq_eq_false_iff_ne.mpr e).symm
def VI(a b:Str):decide ((Sum.inr a:Key)=Sum.inr b)=decide (a=b):=by
 by_cases e:a=b
 .subst e;simp
 .rw[ab2 (λq=>e (an9 q)),ab2 e]
def T6(a:Int)(b:Str):decide ((Sum.inl a:Key)=Sum.inr b)=false:=ab2 (λq=>nomatch q)
def VA(a:Str)(b:Int):decide ((Sum.inr a:Key)=Sum.inl b)=false:=ab2 (λq=>nomatch q)
def cJ(prog:Program)(w:World):KeyKind prog w Key where
 is:=vK
 hash:=Za w
 inj:=λv a b f d=>by
  rcases dZ f with ⟨i,t,rfl,rfl⟩|⟨x,t,rfl,rfl⟩
  .rcases dZ d with ⟨j,u,rfl,e⟩|⟨y,u,rfl,e⟩
   .injection e with e1 _;rw[e1]
   .exact nomatch e
  .rcases dZ d with ⟨j,u,rfl,e⟩|⟨y,u,rfl,e⟩
   .exact nomatch e
   .injection e with e1 _;rw[e1]
 byValue:=λk v h=>by rcases dZ h with ⟨i,t,rfl,rfl⟩|⟨x,t,rfl,rfl⟩ <;> rfl
 pyHash:=λc h=>by
  rcases dZ c with ⟨i,t,rfl,rfl⟩|⟨x,t,rfl,rfl⟩
  .exact wpAny_pyHash_int h
  .exact wpAny_pyHash_str h
 eqBool:=λg c h=>by
  rcases dZ g with ⟨i,t,rfl,rfl⟩|⟨x,t,rfl,rfl⟩
  .rcases dZ c with ⟨j,u,rfl,rfl⟩|⟨y,u,rfl,rfl⟩
   .rw[Vf] at h;exact wpAny_eqBool_int h
   .rw[T6] at h;exact SeqAt.EqAt.int_str i t y u _ _ _ _ h
  .rcases dZ c with ⟨j,u,rfl,rfl⟩|⟨y,u,rfl,rfl⟩
   .rw[VA] at h;exact SeqAt.EqAt.str_int x t j u _ _ _ _ h
   .rw[VI] at h;exact wpAny_eqBool_str h
 «strs»:=λk x t v h=>by
  rcases dZ h with ⟨i,u,rfl,e⟩|⟨y,u,rfl,e⟩
  .exact nomatch e
  .injection e with e1 _
   subst e1;cases v <;> rfl
def yX(prog:Program)(w:World)(i:Int)(t:Tok):(cJ prog w).is (.inl i) (.int i t)=true:=DH i t
def xP(prog:Program)(w:World)(x:Str)(t:Tok):(cJ prog w).is (.inr x) (.str x t)=true:=Dg x t
inductive V where
 |dj | bl (b:Bool) | int (i:Int) | str (x:Str) | byt (b:Array UInt8) | flt (b:UInt64) | ref (a:Addr) | ty (n:String)
 deriving DecidableEq
abbrev q7:=List V
def RelV:V->Value->Prop
 |.dj,u=>u=Value.none
 |.bl b,u=>u=Value.bool b
 |.int i,u=>∃t,u=Value.int i t
 |.str x,u=>∃t,u=Value.str x t
 |.byt b,u=>∃t,u=Value.bytes b t
 |.flt b,u=>∃t,u=Value.float b t
 |.ref a,u=>u=Value.ref a
 |.ty n,u=>u=Value.type n
abbrev Vals:q7->c8->Prop:=Paired RelV
def Vals.length(r:Vals xs us):xs.length=us.length:=Paired.length r
theorem Vals.get:∀{xs:q7} {us:c8} {i:Nat} {x:V},Vals xs us->xs[i]?=some x->∃u,us[i]?=some u/\RelV x u
 |_,_,_,_,.nil,e=>by simp at e
 |_,_,0,_,.cons r _,e=>by simp at e;subst e;exact⟨_,rfl,r⟩
 |_,_,i+1,x,.cons _ t,e=>by obtain⟨u,h1,h2⟩:=Vals.get (i:=i) (x:=x) t (by simpa using e);exact⟨u,by simpa using h1,h2⟩
theorem Vals.set(r:RelV x u):∀{xs:q7} {us:c8} (i:Nat),Vals xs us->Vals (xs.set i x) (us.set i u)
 |_,_,_,.nil=>.nil
 |_,_,0,.cons _ t=>.cons r t
 |_,_,i+1,.cons q t=>.cons q (Vals.set r i t)
def Vals.append{xs ys:q7}{us ws:c8}(a:Vals xs us)(b:Vals ys ws):Vals (xs++ys) (us++ws):=by induction a with|nil=>exact b|cons r _ i=>exact .cons r i
theorem Vals.take:∀{xs:q7} {us:c8} (n:Nat),Vals xs us->Vals (xs.take n) (us.take n)
 |_,_,0,_=>.nil
 |_,_,_+1,.nil=>.nil
 |_,_,n+1,.cons r t=>.cons r (Vals.take n t)
theorem Vals.drop:∀{xs:q7} {us:c8} (n:Nat),Vals xs us->Vals (xs.drop n) (us.drop n)
 |_,_,0,r=>r
 |_,_,_+1,.nil=>.nil
 |_,_,n+1,.cons _ t=>Vals.drop n t
def kC:Option V->Option Value->Prop
 |some v,some u=>RelV v u
 |none,none=>True
 |_,_=>False
def KV{κ:Type}:List (κ×V)->List (κ×Value)->Prop:=Paired λp q=>p.1=q.1/\RelV p.2 q.2
noncomputable def kV:Key->V
 |.inl i=>.int i
 |.inr x=>.str x
inductive HO where
  |lst (xs:q7)
  |tup (xs:q7)
  |dK (kvs:List (Key×V)) | dT (kvs:List (List Key×V))
  |set (S:Int->Bool) (n:Nat)
  |ins (C dx:Addr) (fs:List (Str×V))
  |own (x:Addr)
  |xd (fs:List (Str×V))
  |met (f x:Addr)
  |YS (lo hi:Int)
  |mC (o:Obj) (u:HO)
  |NN (ps:n7)
  |ext (φ:Heap->Prop)
noncomputable abbrev r6(x:List V):=some (HO.lst x)
noncomputable abbrev s0(C d:Addr)(f:List (Str×V)):=some (HO.ins C d f)
noncomputable abbrev t0(x:List V):=some (HO.tup x)
abbrev Hp:=Addr->Option HO
noncomputable def ag(H:Hp)(a:Addr)(o:HO):Hp:=λb=>if b=a then some o else H b
def aa:ag H a o a=some o:=by unfold ag;rw[w4 rfl]
def aj(h:b≠a):ag H a o b=H b:=by unfold ag;rw[C5 h]
def fV:ag (ag H a o) a u=ag H a u:=by funext b;unfold ag;split <;> rfl
def bL{H:Hp}(h:H a=some o)(h':H b=some u)(d:autoParam (o≠u) cw._auto_1):a≠b:=by intro e;subst e;rw[h] at h';exact d (aa1 h')
def au{H:Hp}(h:H a=some o)(h':H b=none):a≠b:=by intro e;subst e;rw[h] at h';cases h'
section
variable (P:Program)(w:World)
def dz(H:Hp)(h:Heap)(a:Addr):HO->Prop
 |.lst xs=>xs.length<=sizeLine/\∃its n,Vals xs its/\h.get? a=some { cls:=.type "list",data:=.seq its.toArray n }
 |.tup xs=>xs.length<=sizeLine/\∃its,Vals xs its/\IsTup h a its.toArray
 |.dK kvs=>kvs.length<=sizeLine/\(a == sysModules)=false/\∃vs,KV kvs vs/\h.DictOf (cJ P w) a vs
 |.dT kvs=>kvs.length<=sizeLine/\(a == sysModules)=false/\∃xs:List (List Key×Addr×Value),
   Paired (λp q=>p.1=q.1/\H q.2.1=t0 (p.1.map kV)/\RelV p.2 q.2.2) kvs xs /\
   ∃o es ep,h.get? a=some o/\o.ExactDict/\o.data = .dict es ep/\es.toList=xs.map (entryOfKey (tupleKind (cJ P w)))/\(xs.map (·.1)).Nodup
 |.set S n=>h.SetOf (intKind P w) a S n
 |.ins C dx fs=>H dx=some (.own a)/\fs.length<=1000/\dx≠a/\h.get? a=some (W.instObj C dx) /\
   ∃mA,h.Ns1 dx mA/\(∀f,kC (fs.lookup f) (mA f))/\PySem.Within mA (fs.map (·.1))
 |.own _=>∃o,h.get? a=some o
 |.xd fs=>∃mA,h.Ns1 a mA/\∀f,kC (fs.lookup f) (mA f)
 |.YS lo hi=>∃t u v,h.get? a=some { cls:=.type "range",data:=.fields #[.int lo t,.int hi u,.int 1 v] }
 |.mC o u=>h.get? a=some o/\dz H h a u
 |.NN ps=>h.get? a=some { cls:=.none,data:=.fields ps }
 |.met f x=>h.get? a=some (W.methodObj (.ref f) (.ref x))
 |.ext φ=>φ h/\(∃o,h.get? a=some o)/\∀h1 h2,φ h1->(∀o,h1.get? a=some o->h2.get? a=some o)->φ h2
def lR(H:Hp)(h:Heap):Prop:=∀a o,H a=some o->dz P w H h a o
end
section
variable {P:Program}{H H':Hp}{a:Addr}{o:HO}
def dz.lt(x:dz P w H h a o):a<h.objs.size:=by
 cases o with
 |lst xs=>obtain⟨_,_,_,_,e⟩:=x;exact P2 e
 |tup xs=>obtain⟨_,_,_,p⟩:=x;exact p.lt
 |dK kvs=>obtain⟨_,_,_,_,o,_,_,e,_⟩:=x;exact P2 e
 |dT kvs=>obtain⟨_,_,_,_,o,_,_,e,_⟩:=x;exact P2 e
 |set S n=>obtain⟨o,_,_,_,e,_⟩:=x;exact P2 e
 |ins C dx fs=>obtain⟨_,_,_,e,_⟩:=x;exact P2 e
 |own y=>obtain⟨_,e⟩:=x;exact P2 e
 |xd fs=>obtain⟨_,⟨_,_,_,e,_⟩,_⟩:=x;exact P2 e
 |YS lo hi=>obtain⟨_,_,_,e⟩:=x;exact P2 e
 |mC ob u=>obtain⟨e,_⟩:=x;exact P2 e
 |NN ps=>exact P2 (show h.get? a=some _ from x)
 |met f y=>exact P2 (show h.get? a=some _ from x)
 |ext φ=>obtain⟨_,⟨_,e⟩,_⟩:=x;exact P2 e
def Paired.Vg{α β:Type}{F G:α->β->Prop}{l:List α}{m:List β}(h:Paired F l m)(f:∀a b,F a b->G a b):Paired G l m:=by induction h with|nil=>exact .nil|cons r _ i=>exact .cons (f _ _ r) i
def dz.stay(x:dz P w H h a o)(k:∀b u,(b=a\/H b=some (.own a))->h.get? b=some u->h'.get? b=some u)
  (ho:∀b,H b=some (.own a)->H' b=some (.own a)) (ht:∀b xs,H b=t0 xs->H' b=t0 xs):dz P w H' h' a o:=by
 induction o with
 |lst xs=>obtain⟨z,j,n,r,e⟩:=x;exact⟨z,j,n,r,k _ _ (.inl rfl) e⟩
 |tup xs=>obtain⟨z,j,r,ob,e,c⟩:=x;exact⟨z,j,r,ob,k _ _ (.inl rfl) e,c⟩
 |dK kvs=>obtain⟨z,y,B,r,ob,g,i,e,c⟩:=x;exact⟨z,y,B,r,ob,g,i,k _ _ (.inl rfl) e,c⟩
 |dT kvs =>
  obtain⟨z,y,xs,r,ob,g,i,e,c⟩:=x;exact⟨z,y,xs,Paired.Vg r λp q z=>⟨z.1,ht _ _ z.2.1,z.2.2⟩,ob,g,i,k _ _ (.inl rfl) e,c⟩
 |set S n=>obtain⟨ob,g,i,t,e,c⟩:=x;exact⟨ob,g,i,t,k _ _ (.inl rfl) e,c⟩
 |ins C dx fs =>
  obtain⟨d,z,ne,e,l,⟨s,g,i,D,c⟩,r⟩:=x;exact⟨ho _ d,z,ne,k _ _ (.inl rfl) e,l,⟨s,g,i,k _ _ (.inr d) D,c⟩,r⟩
 |own y=>obtain⟨ob,e⟩:=x;exact⟨ob,k _ _ (.inl rfl) e⟩
 |xd fs=>obtain⟨l,⟨s,g,i,e,c⟩,r⟩:=x;exact⟨l,⟨s,g,i,k _ _ (.inl rfl) e,c⟩,r⟩
 |YS lo hi=>obtain⟨t,u,v,e⟩:=x;exact⟨t,u,v,k _ _ (.inl rfl) e⟩
 |mC ob u ih=>obtain⟨e,q⟩:=x;exact⟨k _ _ (.inl rfl) e,ih q⟩
 |NN ps =>
  show h'.get? a=some { cls:=.none,data:=.fields ps };exact k a _ (.inl rfl) x
 |met f y =>
  show h'.get? a=some (PySem.W.methodObj (.ref f) (.ref y));exact k a _ (.inl rfl) x
 |ext φ=>obtain⟨p,⟨o,e⟩,A⟩:=x;exact⟨A _ _ p λo q=>k _ _ (.inl rfl) q,⟨o,k _ _ (.inl rfl) e⟩,A⟩
def lR.lt(x:lR P w H h)(e:H a=some o):a<h.objs.size:=(x a o e).lt
def lR.fresh(x:lR P w H h)(e:h.objs.size<=a):H a=none:=by
 cases q:H a with
 |none=>rfl
 |some u=>exact absurd (ab1 (x.lt q) e) (ah0 _)
def lR.kept(x:lR P w H h)(k:∀b u,h.get? b=some u->h'.get? b=some u):lR P w H h':=λa o e =>
 (x a o e).stay (λb u _ q=>k b u q) (λ_ q=>q) λ_ _ q=>q
def lR.laid(x:lR P w H h)(k:∀b u,h.get? b=some u->h'.get? b=some u)(hp:h.objs.size<=a)(new:dz P w (ag H a o) h' a o):lR P w (ag H a o) h':=λb u e=>by
 have d:=x.fresh hp;by_cases f:b=a
 .subst f;rw[aa] at e;cases e;exact new
 .rw[aj f] at e;exact(x b u e).stay (λc v _ q=>k c v q) (λc q=>by rw[aj (au q d)];exact q) λc g q=>by rw[aj (au q d)];exact q
end
def Rd(H:Hp)(a:Addr)(u:HO):Prop:=H a=some u\/∃o,H a=some (.mC o u)
def Rd.ok(r:Rd H a u)(x:lR P w H h):dz P w H h a u:=by
 rcases r with r|⟨o,r⟩
 .exact x a u r
 .obtain⟨_,q⟩:=x a _ r;exact q
def Xn:Option HO->Prop
 |some (.lst _)=>True
 |some (.dK _)=>True
 |some (.dT _)=>True
 |some (.set _ _)=>True
 |some (.ins _ _ _)=>True
 |some (.ext _)=>True
 |_=>False
section
variable {P:Program}{H:Hp}{x e:Addr}{o':HO}
def lR.write(ok:lR P w H h)(mu:Xn (H x))(he:e=x\/H e=some (.own x))(k:∀b u,b≠e->h.get? b=some u->h'.get? b=some u)(heo:∃u,h'.get? e=some u)
  (new:dz P w (ag H x o') h' x o'):lR P w (ag H x o') h':=λb u q=>by
 have d:∀c y,H c=some (.own y)->c≠x:=λc y r z=>by subst z;rw[r] at mu;exact mu
 have f:∀c g,H c=t0 g->c≠x:=λc g r z=>by subst z;rw[r] at mu;exact mu
 by_cases i:b=x
 .subst i;rw[aa] at q;cases q;exact new
 .rw[aj i] at q;by_cases a:b=e
  .have l:H b=some (.own x):=by
    rcases he with z|z
    .exact absurd (a.trans z) i
    .exact a▸z
   rw[q] at l;cases l;obtain⟨v,n⟩:=heo;exact⟨v,a▸n⟩
  .refine(ok b u q).stay (λc v j r=>k c v ?_ r) (λc r=>by rw[aj (d c b r)];exact r) λc g r=>by rw[aj (f c g r)];exact r
   rcases j with rfl|j
   .exact a
   .rintro rfl;rcases he with z|z
    .exact d c b j z
    .rw[j] at z;cases z;exact i rfl
end
structure Un(fs ex:c6)(H H':Hp)(h h':Heap):Prop where
 keep:∀b o,h.get? b=some o->H b=none->b∉fs->b∉ex->h'.get? b=some o
 slot:∀b o,h.get? b=some o->H b=none->b∈fs->b∉ex->∃sl,h'.get? b=some { o with slots:=sl }
 free:∀b o,h.get? b=some o->H b=none->b∉ex->H' b=none
 there:∀b o,h.get? b=some o->b∉ex->∃o',h'.get? b=some o'
 tups:∀b xs,H b=t0 xs->H' b=t0 xs
 pR:∀b o u,H b=some (.mC o u)->H' b=some (.mC o u)
 rL:∀b ps,H b=some (.NN ps)->∃more,H' b=some (.NN (ps++more))
section
variable {fs fs' ex ex':c6}{H H1 H2:Hp}{h1:Heap}{a x e:Addr}{o:HO}
def Un.any(u:Un fs ex H H1 h h1)(q:h.get? b=some ob)(n:H b=none)(hx:b∉ex):∃sl,h1.get? b=some { ob with slots:=sl }:=by
 by_cases a:b∈fs
 .exact u.slot b ob q n a hx
 .exact⟨ob.slots,u.keep b ob q n a hx⟩
def Un.kept(k:∀b u,h.get? b=some u->h'.get? b=some u):Un fs ex H H h h' :=
 ⟨λb a q _ _ _=>k b a q,λb a q _ _ _=>⟨a.slots,k b a q⟩,λ_ _ _ n _=>n,λb a q _=>⟨a,k b a q⟩,λ_ _ q=>q,λ_ _ _ q=>q,λ_ c q=>⟨#[],by rw[q];simp⟩⟩
def Un.refl:Un fs ex H H h h:=Un.kept λ_ _ q=>q
def Un.laid(k:∀b u,h.get? b=some u->h'.get? b=some u)(hp:h.objs.size<=a)(hn:H a=none):Un fs ex H (ag H a o) h h' where
 keep:=λb u q _ _ _=>k b u q
 slot:=λb u q _ _ _=>⟨u.slots,k b u q⟩
 free:=λb u q n _=>by rw[aj (Z6 (ab1 (P2 q) hp))];exact n
 there:=λb u q _=>⟨u,k b u q⟩
 tups:=λb c q=>by rw[aj (au q hn)];exact q
 pR:=λb u c q=>by rw[aj (au q hn)];exact q
 rL:=λb d q=>⟨#[],by rw[aj (au q hn),q];simp⟩
def Un.write(mu:Xn (H x))(he:e=x\/H e=some (.own x))(k:∀b u,b≠e->h.get? b=some u->h'.get? b=some u)(heo:∃u,h'.get? e=some u):Un fs ex H (ag H x o) h h':=by
 have d:∀b,H b=none->b≠x:=λb n z=>by subst z;rw[n] at mu;exact mu
 have f:∀b,H b=none->b≠e:=λb n z=>by
  subst z;rcases he with r|r
  .exact d b n r
  .rw[n] at r;cases r
 have c:∀b u,H b=some u -> ¬Xn (some u)->b≠x:=λb u q g z=>by subst z;rw[q] at mu;exact g mu
 refine⟨λb u q n _ _=>k b u (f b n) q,λb u q n _ _=>⟨u.slots,k b u (f b n) q⟩,λb u q n _=>by rw[aj (d b n)];exact n,λb u q _=>?_,
  λb i q=>by rw[aj (c b _ q λz=>z)];exact q,λb u i q=>by rw[aj (c b _ q λz=>z)];exact q,λb j q=>⟨#[],by rw[aj (c b _ q λz=>z),q];simp⟩⟩
 by_cases a:b=e
 .subst a;exact heo
 .exact⟨u,k b u a q⟩
end
noncomputable def YT(h:Heap)(H:Hp):c6:=(List.range h.objs.size).filter λa=>(H a).isSome
def wZ(h:Heap)(H:Hp):Heap:=PySem.W.hideAll h (YT h H)
def DQ(h:Heap)(H:Hp):(wZ h H).objs.size=h.objs.size:=W.hideAll_size _ _
def Hr(e:h.get? b=some o)(n:H b=none):(wZ h H).get? b=some o :=
 W.hideAll_get _ e λa=>by have q:=(ao2.mp a).2;rw[n] at q;simp at q
def LY(e:(wZ h H).get? b=some o):h.get? b=some o/\H b=none:=by
 have a:h.get? b=some o:=PySem.W.of_hideAll (YT h H) e;refine⟨a,?_⟩;cases q:H b with
 |none=>rfl
 |some x =>
  have z:(wZ h H).get? b=none:=PySem.W.hideAll_none (YT h H) (ao2.mpr ⟨am9.mpr (P2 a),by simp[q]⟩);rw[z] at e;cases e
noncomputable def se(g h:Heap)(L:Addr):f7:=(List.range h.objs.size).filterMap λa=>if a=L\/(g.get? a).isSome=true then none else (h.get? a).map λo=>(a,o)
def mX(h1:a≠L)(h2:g.get? a=none)(h3:h.get? a=some o):(a,o)∈se g h L :=
 ao3.mpr ⟨a,am9.mpr (P2 h3),by simp[h1,h2,h3]⟩
def ue(hp:p∈se g h L):p.1≠L/\g.get? p.1=none/\h.get? p.1=some p.2:=by
 obtain⟨b,_,e⟩:=ao3.mp hp;split at e
 .cases e
 .rename_i a;cases q:h.get? b with
  |none=>rw[q] at e;simp at e
  |some u =>
   rw[q] at e;simp only[af7,ah5] at e;subst e;refine⟨λz=>a (.inl z),?_,q⟩;show g.get? b=none;cases r:g.get? b with
   |none=>rfl
   |some v=>exact(a (.inr (by simp[r]))).elim
def Fv:News g L h (se g h L):=λp d=>let ⟨a,b,c⟩:=ue d;⟨c,a,b⟩
structure Mod(K:PySem.W.Frag)(mg:g6)(ap:Heap):Prop where
 uF:K.In ap
 glob:ap.Ns mainGlobals mg
 blt:∃mb,ap.Ns builtinsNs mb/\∀x:Str,x ≠ "__name__" -> mb x=bootBuiltins x
 nolimit:ap.NoLimit
structure Cx where
 prog:Program
 w:World
 K:W.Frag
 mg:Str->Option Value
 ap:Heap
 A:Around
 N:a9
 s₀:Shared
 H₀:Hp
 env:Env
 outer:List Env
 stack:List Env
 ex:c6
 fn:Str->Bool
 aw:Bool
 pn:f7
 xe:Value->Shared->Prop
noncomputable def frs(l:List Env):c6:=l.filterMap (·.frame)
abbrev Cx.fs(X:Cx):c6:=frs X.outer
def X6(sc:Scope)(x:Str):Prop:=sc.names.lookup x=some .local\/sc.names.lookup x=some .cell\/sc.names.lookup x=some .free
def Loc(sc:Scope)(x:Str):Prop:=sc.names.lookup x=some .local\/sc.names.lookup x=some .cell
def Look(env:Env)(h:Heap)(m:g6)(x:Str)(u:Value):Prop :=
 (env.kindOf x=some .local/\m x=some u)\/((env.kindOf x=some .cell\/env.kindOf x=some .free)/\∃c,env.cells.lookup x=some c/\h.IsCell c (some u))
structure Cx.Ok(X:Cx):Prop where
 mod:Mod X.K X.mg X.ap
 kind:X.env.scope.kind = .function
 glob:X.env.globals=mainGlobals
 blt:X.env.builtins=builtinsNs
 above:X.s₀.heap.objs.size<=X.env.locals
 inj:∀x y c,X.env.cells.lookup x=some c->X.env.cells.lookup y=some c->x=y
 has:∀x,(X.env.kindOf x=some .cell\/X.env.kindOf x=some .free)->∃c,X.env.cells.lookup x=some c
 We:∀x c,X.fn x=true->X.env.cells.lookup x=some c->X.s₀.heap.objs.size<=c
 hd:X.aw=true->X.A.handled=none
 frames:X.A.frames=some X.stack
 stk:X.stack=X.outer\/(X.stack=X.env::X.outer/\X.env.frame=some X.env.locals)
 Zk:∀b∈X.ex,b≠X.env.locals/\∀x c,X.env.cells.lookup x=some c->c≠b
 bs:∀b o,X.ap.get? b=some o->X.s₀.heap.get? b=some o/\X.H₀ b=none
 MT:X.ap.objs.size<=X.s₀.heap.objs.size
 DY:∀b o,X.ap.get? b=some o->b∉X.ex
 HK:∀b∈X.ex,b∉X.fs
 qP:X.s₀.heap.FunFrames X.ap X.outer
 Rc:∀b∈X.fs,X.H₀ b=none
structure Inv(X:Cx)(am:f7)(Z:List (Option V))(H:Hp)(s:Shared):Prop where
 ok:X.Ok
 os:s.os=X.s₀.os
 ax:AllBare s.gens
 ap:Un X.fs X.ex X.H₀ H X.s₀.heap s.heap
 loc:∃m,s.heap.Ns X.env.locals m/\∀(i:Nat) (x:Str) (v:V),X.N[i]?=some x->Z[i]?=some (some v)->X6 X.env.scope x->∃u,RelV v u/\Look X.env s.heap m x u
 cell:∀x c,X.env.cells.lookup x=some c->∃v,s.heap.IsCell c v
 free:H X.env.locals=none
 je:∀x c,X.env.cells.lookup x=some c->H c=none
 pin:∀p∈X.pn++am,s.heap.get? p.1=some p.2/\H p.1=none/\p.1≠X.env.locals/\p.1∉X.fs/\∀v,p.2.data ≠ .cell v
 ba:lR X.prog X.w H s.heap
 len:Z.length=X.N.length
section
variable {X:Cx}{Z:List (Option V)}{H H':Hp}
def Cx.Ok.Zj(ok:X.Ok)(e:X.ap.get? b=some o):b∉X.fs:=λa=>by have:=(ok.qP.mem a).1;rw[e] at this;cases this
def Inv.bs(I:Inv X am Z H s):∀b o,X.ap.get? b=some o->s.heap.get? b=some o/\H b=none:=λb o e =>
 ⟨I.ap.keep b o (I.ok.bs b o e).1 (I.ok.bs b o e).2 (I.ok.Zj e) (I.ok.DY b o e),I.ap.free b o (I.ok.bs b o e).1 (I.ok.bs b o e).2 (I.ok.DY b o e)⟩
def Inv.bk(I:Inv X am Z H s):∀b o,X.ap.get? b=some o->s.heap.get? b=some o:=λb o e=>(I.bs b o e).1
def Inv.mod(I:Inv X am Z H s):Mod X.K X.mg X.ap:=I.ok.mod
def Inv.uG(I:Inv X am Z H s):X.K.In s.heap:=I.ok.mod.uF.keeps I.bk
def Inv.lt(I:Inv X am Z H s):X.env.locals<s.heap.objs.size:=by obtain⟨_,a,_⟩:=I.loc;exact a.lt
def Inv.sz(I:Inv X am Z H s):X.s₀.heap.objs.size<=s.heap.objs.size:=ac2 I.ok.above (Nat.le_of_lt I.lt)
def Inv.Xj(I:Inv X am Z H s)(h:s.heap.objs.size<=a):a∉X.fs:=λb=>by obtain⟨_,o,c,_⟩:=I.ok.qP.mem b;exact absurd (ab1 (P2 c) (ac2 I.sz h)) (ah0 _)
def Inv.HN(I:Inv X am Z H s):∀x c,X.env.cells.lookup x=some c->c≠X.env.locals:=λx c e z=>by obtain⟨v,o,d,f⟩:=I.cell x c e;obtain⟨m,⟨g,h,i,a,b,_⟩,_⟩:=I.loc;rw[z,a] at d;cases d;rw[b] at f;cases f
def Inv.qP(I:Inv X am Z H s):s.heap.FunFrames X.ap X.outer:=by
 have all:∀(l:List Env),(∀b∈frs l,b∈X.fs)->X.s₀.heap.FunFrames X.ap l->s.heap.FunFrames X.ap l:=by
  intro l;induction l with
  |nil=>intro _ _;trivial
  |cons env r ih =>
   intro f hl;obtain⟨g,⟨L,o,a,h,i,j⟩,hr⟩:=hl;have c:=f L (by unfold frs;exact List.filterMap_cons▸a▸ab7);obtain⟨n,e⟩:=I.ap.slot L o i (I.ok.Rc L c) c λz=>I.ok.HK L z c;exact⟨g,⟨L,_,a,h,e,j⟩,ih (λb d=>f b (by unfold frs;exact List.filterMap_cons▸a▸Q1 _ d)) hr⟩
 exact all X.outer (λ_ d=>d) I.ok.qP
def Inv.stack(I:Inv X am Z H s):s.heap.FunFrames X.ap X.stack:=by
 rcases I.ok.stk with e|⟨e,a⟩
 .exact e▸I.qP
 .rw[e];obtain⟨m,b,_⟩:=I.loc;refine .cons (by rw[I.ok.kind];decide) a b ?_ I.qP;exact am7 (ac2 I.ok.MT I.ok.above)
def Inv.sN(I:Inv X am Z H s):∀b∈frs X.stack,b∈X.env.locals::X.fs:=λb a=>by
 rcases I.ok.stk with e|⟨e,c⟩
 .rw[e] at a;exact Q1 _ a
 .rw[e] at a;unfold frs at a;rw[List.filterMap_cons,c] at a;exact a
def Inv.rS(I:Inv X am Z H s):∀b∈frs X.stack,H b=none:=λb a=>by
 rcases Z5.mp (I.sN b a) with e|a
 .exact e▸I.free
 .obtain⟨_,o,c,_⟩:=I.ok.qP.mem a;exact I.ap.free b o c (I.ok.Rc b a) λz=>I.ok.HK b z a
def Inv.step(I:Inv X am Z H s)
  (hch:∀b∈ch,(b∈X.ex\/X.s₀.heap.objs.size<=b)/\b≠X.env.locals/\(∀x c,X.env.cells.lookup x=some c->c≠b)/\∀p∈X.pn++am,p.1≠b)
  (keep:∀b o,b≠X.env.locals->b∉X.fs->b∉ch->s.heap.get? b=some o->H b=none->h'.get? b=some o)
  (slot:∀b o,b≠X.env.locals->b∈X.fs->b∉ch->s.heap.get? b=some o->H b=none->∃sl,h'.get? b=some { o with slots:=sl }) (free:∀b o,b∉ch->s.heap.get? b=some o->H b=none->H' b=none)
  (there:∀b o,b∉ch->s.heap.get? b=some o->∃o',h'.get? b=some o')
  (tups:∀b xs,H b=t0 xs->H' b=t0 xs) (pR:∀b o u,H b=some (.mC o u)->H' b=some (.mC o u)) (rL:∀b ps,H b=some (.NN ps)->∃more,H' b=some (.NN (ps++more)))
  (ns:∀m,s.heap.Ns X.env.locals m->h'.Ns X.env.locals m) (ba:lR X.prog X.w H' h') (hg:AllBare g') :
  Inv X am Z H' { s with heap:=h',gens:=g',drawn:=d',toks:=t' }:=by
 have A:∀b o,X.s₀.heap.get? b=some o->b≠X.env.locals:=λb o e=>Z6 (ab1 (P2 e) I.ok.above);have h:∀b o,X.s₀.heap.get? b=some o->b∉X.ex->b∉ch:=λb o e a t=>by
  rcases (hch b t).1 with z|z
  .exact a z
  .exact absurd (ab1 (P2 e) z) (ah0 _)
 have f:∀x c,X.env.cells.lookup x=some c->∀v,s.heap.IsCell c v->h'.IsCell c v:=λx c e v ⟨o,y,C⟩=>by
  have g:c∉ch:=λz=>(hch c z).2.2.1 x c e rfl;by_cases E:c∈X.fs
  .obtain⟨sl,q⟩:=slot c o (I.HN x c e) E g y (I.je x c e);exact⟨_,q,C⟩
  .exact⟨o,keep c o (I.HN x c e) E g y (I.je x c e),C⟩
 refine⟨I.ok,I.os,hg,⟨λb o e n t a=>?_,λb o e n t a=>by obtain⟨sl,j⟩:=I.ap.slot b o e n t a;obtain⟨D,B⟩:=slot b _ (A b o e) t (h b o e a) j (I.ap.free b o e n a);exact⟨D,B⟩,λb o e n a=>by obtain⟨o',j⟩:=I.ap.there b o e a;exact free b o' (h b o e a) j (I.ap.free b o e n a),λb o e a=>by obtain⟨o',j⟩:=I.ap.there b o e a;exact there b o' (h b o e a) j,λb xs e=>tups b xs (I.ap.tups b xs e),λb o xs e=>pR b o xs (I.ap.pR b o xs e),λb ps e=>by obtain⟨J,j⟩:=I.ap.rL b ps e;obtain⟨K,B⟩:=rL b _ j;exact⟨J++K,by rw[B,Array.append_assoc]⟩⟩,?_,λx c e=>by obtain⟨v,z⟩:=I.cell x c e;exact⟨v,f x c e v z⟩,by obtain⟨m,⟨o,_,_,y,_⟩,_⟩:=I.loc;exact free _ o (λz=>(hch _ z).2.1 rfl) y I.free,λx c e=>by obtain⟨v,o,y,C⟩:=I.cell x c e;exact free c o (λz=>(hch c z).2.2.1 x c e rfl) y (I.je x c e),λp F=>by obtain⟨e,n,ne,G,d⟩:=I.pin p F;have g:p.1∉ch:=λz=>(hch p.1 z).2.2.2 p F rfl;exact⟨keep p.1 p.2 ne G g e n,free p.1 p.2 g e n,ne,G,d⟩,ba,I.len⟩
 .exact keep b o (A b o e) t (h b o e a) (I.ap.keep b o e n t a) (I.ap.free b o e n a)
 .obtain⟨m,L,hl⟩:=I.loc;refine⟨m,ns m L,λi x v j B M=>?_⟩;obtain⟨u,r,l⟩:=hl i x v j B M;refine⟨u,r,?_⟩;rcases l with l|⟨k,c,e,z⟩
  .exact .inl l
  .exact .inr ⟨k,c,e,f x c e _ z⟩
def Inv.un(I:Inv X am Z H s)(u:Un X.fs [] H H' s.heap h')(ba:lR X.prog X.w H' h'):Inv X am Z H' { s with heap:=h',toks:=t' }:=by
 obtain⟨m,⟨o,l,p,g,r⟩,_⟩:=id I.loc;obtain⟨q,h⟩:=u.any g I.free (by simp);exact I.step (g':=s.gens) (d':=s.drawn) (ch:=[]) (λ_ z=>nomatch z) (λb o _ c _ e n=>u.keep b o e n c (by simp)) (λb o _ c _ e n=>u.slot b o e n c (by simp)) (λb o _ e n=>u.free b o e n (by simp)) (λb o _ e=>u.there b o e (by simp)) u.tups u.pR u.rL (λt i=>by obtain⟨v,d,f,a,j⟩:=i;rw[g] at a;cases a;exact⟨_,d,f,h,j⟩) ba I.ax
def Inv.call(I:Inv X am Z H s)(u:Un (frs X.stack) ch H H' s.heap h')(ba:lR X.prog X.w H' h')(hg:AllBare g')
  (hch:∀b∈ch,(b∈X.ex\/X.s₀.heap.objs.size<=b)/\b≠X.env.locals/\(∀x c,X.env.cells.lookup x=some c->c≠b)/\∀p∈X.pn++am,p.1≠b) :
  Inv X am Z H' { s with heap:=h',gens:=g',drawn:=d',toks:=t' }:=by
 obtain⟨m,⟨o,t,v,i,r⟩,_⟩:=id I.loc;obtain⟨y,f⟩:=u.any i I.free λz=>(hch _ z).2.1 rfl;exact I.step (ch:=ch) hch (λb o f j a e n=>u.keep b o e n (λz=>(Z5.mp (I.sN b z)).elim f j) a) (λb o _ _ a e n=>u.any e n a) (λb o a e n=>u.free b o e n a) (λb o a e=>u.there b o e a) u.tups u.pR u.rL (λA l=>by obtain⟨B,g,h,d,q⟩:=l;rw[i] at d;cases d;exact⟨_,g,h,f,q⟩) ba hg
def Inv.turned(I:Inv X am Z H s)(k:∀b o,b≠it->s.heap.get? b=some o->h'.get? b=some o)(hn:H it=none)(hL:it≠X.env.locals)
  (h1:it∈X.ex\/X.s₀.heap.objs.size<=it) (h2:∀x c,X.env.cells.lookup x=some c->c≠it) (h3:∀p∈X.pn++am,p.1≠it):Inv X am Z H { s with heap:=h',toks:=t' }:=by
 have d:∀b u,H b=some u->b≠it:=λb u e z=>by rw[z,hn] at e;cases e
 refine I.step (g':=s.gens) (d':=s.drawn) (ch:=[it]) (λb f=>?_) (λb o _ _ a e _=>k b o (λz=>a (by simp[z])) e) (λb o _ _ a e _=>⟨o.slots,k b o (λz=>a (by simp[z])) e⟩) (λ_ _ _ _ n=>n)
  (λb o a e=>⟨o,k b o (λz=>a (by simp[z])) e⟩) (λ_ _ e=>e) (λ_ _ _ e=>e) (λb l e=>⟨#[],by rw[e];simp⟩) (λm g=>?_) (λb u e=>?_) I.ax
 .have e:b=it:=by simpa using f
  subst e;exact⟨h1,hL,h2,h3⟩
 .obtain⟨o,h,i,j,r⟩:=g;exact⟨o,h,i,k _ o (aa4 hL) j,r⟩
 .refine(I.ba b u e).stay (λc v a q=>k c v ?_ q) (λ_ q=>q) λ_ _ q=>q;rcases a with z|z
  .exact z▸d b u e
  .exact d c _ z
def Inv.tok(I:Inv X am Z H s)(t:Nat):Inv X am Z H { s with toks:=t }:=I.un (h':=s.heap) (t':=t) Un.refl I.ba
def Inv.kept(I:Inv X am Z H s)(k:∀b u,s.heap.get? b=some u->h'.get? b=some u):Inv X am Z H { s with heap:=h',toks:=t' }:=I.un (Un.kept k) (I.ba.kept k)
def Inv.laid(I:Inv X am Z H s)(k:∀b u,s.heap.get? b=some u->h'.get? b=some u)(hp:s.heap.objs.size<=a)(new:dz X.prog X.w (ag H a o) h' a o) :
  Inv X am Z (ag H a o) { s with heap:=h',toks:=t' }:=I.un (Un.laid k hp (I.ba.fresh hp)) (I.ba.laid k hp new)
def Inv.write(I:Inv X am Z H s)(mu:Xn (H x))(he:e=x\/H e=some (.own x))(k:∀b u,b≠e->s.heap.get? b=some u->h'.get? b=some u)(heo:∃u,h'.get? e=some u)
  (new:dz X.prog X.w (ag H x o) h' x o):Inv X am Z (ag H x o) { s with heap:=h',toks:=t' }:=I.un (Un.write mu he k heo) (I.ba.write mu he k heo new)
def Inv.jZ(I:Inv X am Z H s)(h:∀p∈pins',s.heap.get? p.1=some p.2/\H p.1=none/\p.1≠X.env.locals/\p.1∉X.fs/\∀v,p.2.data ≠ .cell v):Inv X pins' Z H s :=
 ⟨I.ok,I.os,I.ax,I.ap,I.loc,I.cell,I.free,I.je,λp a=>(X1.mp a).elim (λz=>I.pin p (aa8 _ z)) (h p),I.ba,I.len⟩
def uc(hN:N.Nodup){i j:Nat}(a:N[i]?=some x)(b:N[j]?=some x):i=j:=by obtain⟨e,c⟩:=d6.mp a;obtain⟨f,d⟩:=d6.mp b;exact(List.getElem_inj hN).mp (c.trans d.symm)
def CT(I:Inv X am Z H s)(hN:X.N.Nodup)(hi:X.N[i]?=some x)(hx:Loc X.env.scope x)(r:RelV v u)
  (h:∀s',Inv X am (Z.set i (some v)) H s'->(∃a,Heap.SameBut a s.heap s'.heap/\(a=X.env.locals\/X.env.cells.lookup x=some a))->Q () s') (hf:autoParam (X.fn x=true\/X.env.scope.names.lookup x=some .local) cw._auto_1):wpAny M A (storeName X.env x u) Q E s:=by
 obtain⟨m,W,hl⟩:=id I.loc;have K:(X.env.scope.kind == .class || (X.env.scope.kind == .module && X.env.locals != X.env.globals))=false:=by rw[I.ok.kind];rfl
 have L:i<Z.length:=I.len▸(d6.mp hi).1
 have HN:=I.HN;have g:∀{a:Addr} {h':Heap},(∃o,s.heap.get? a=some o/\H a=none)->Heap.SameBut a s.heap h'->lR X.prog X.w H h':=λ{a h'} ha f b ob e=>by
  obtain⟨_,_,B⟩:=ha;refine(I.ba b ob e).stay (λc T t q=>(f.2 c ?_).trans q) (λ_ q=>q) λ_ _ q=>q;rintro rfl;rcases t with rfl|t
  .rw[B] at e;cases e
  .rw[B] at t;cases t
 rcases hx with D|D
 .refine wpAny_storeName_local D W (λh' Y f=>?_) K;obtain⟨oL,_,_,hoL,_⟩:=id W;refine h _ ⟨I.ok,I.os,I.ax,⟨λb o e n F hx=>(f.2 b (Z6 (ab1 (P2 e) I.ok.above))).trans (I.ap.keep b o e n F hx),λb o e n F hx=>by obtain⟨sl,l⟩:=I.ap.slot b o e n F hx;exact⟨sl,(f.2 b (Z6 (ab1 (P2 e) I.ok.above))).trans l⟩,I.ap.free,λb o e hx=>by obtain⟨o',l⟩:=I.ap.there b o e hx;exact⟨o',(f.2 b (Z6 (ab1 (P2 e) I.ok.above))).trans l⟩,I.ap.tups,I.ap.pR,I.ap.rL⟩,⟨_,Y,λj y v' l C e3=>?_⟩,λy c e=>by obtain⟨T,z⟩:=I.cell y c e;exact⟨T,z.sameBut f (HN y c e)⟩,I.free,I.je,λp hp=>by obtain⟨e,n,ne,nf,d⟩:=I.pin p hp;exact⟨(f.2 p.1 ne).trans e,n,ne,nf,d⟩,g ⟨oL,hoL,I.free⟩ f,by simpa using I.len⟩ ⟨_,f,.inl rfl⟩
  .by_cases G:j=i
   .subst G;rw[hi] at l;cases l;rw[List.getElem?_set_self L] at C;cases C;exact⟨u,r,.inl ⟨D,by simp⟩⟩
   .rw[am8 (aa4 G)] at C;obtain⟨u',r',q⟩:=hl j y v' l C e3;refine⟨u',r',?_⟩;rcases q with ⟨k,e⟩|⟨k,c,e,z⟩
    .refine .inl ⟨k,?_⟩;have:y≠x:=λe=>G (uc hN l (e ▸ hi));simp[this,e]
    .exact .inr ⟨k,c,e,z.sameBut f (HN y c e)⟩
 .have J:X.fn x=true:=by
   rcases hf with z|z
   .exact z
   .rw[z] at D;cases D
  obtain⟨c,t⟩:=I.ok.has x (.inl D);obtain⟨T,z⟩:=I.cell x c t;refine wpAny_storeName_cell I.ok.kind D t z (λh' O f=>?_);obtain⟨oc,P,R⟩:=id z;refine h { s with heap:=h' } ⟨I.ok,I.os,I.ax,⟨λb o e n F hx=>(f.2 b (Z6 (ab1 (P2 e) (I.ok.We x c J t)))).trans (I.ap.keep b o e n F hx),λb o e n F hx=>by obtain⟨sl,l⟩:=I.ap.slot b o e n F hx;exact⟨sl,(f.2 b (Z6 (ab1 (P2 e) (I.ok.We x c J t)))).trans l⟩,I.ap.free,λb o e hx=>by obtain⟨o',l⟩:=I.ap.there b o e hx;exact⟨o',(f.2 b (Z6 (ab1 (P2 e) (I.ok.We x c J t)))).trans l⟩,I.ap.tups,I.ap.pR,I.ap.rL⟩,⟨m,W.sameBut f (aa4 (HN x c t)),λj y v' l C e3=>?_⟩,λy U e=>?_,I.free,I.je,λp hp=>by obtain⟨e,n,ne,nf,d⟩:=I.pin p hp;refine⟨(f.2 p.1 ?_).trans e,n,ne,nf,d⟩;intro q;rw[q,P] at e;exact d T (by rw[<- (aa1 e)];exact R),g ⟨oc,P,I.je x c t⟩ f,by simpa using I.len⟩ ⟨c,f,.inr t⟩
  .by_cases G:j=i
   .subst G;rw[hi] at l;cases l;rw[List.getElem?_set_self L] at C;cases C;exact⟨u,r,.inr ⟨.inl D,c,t,O⟩⟩
   .rw[am8 (aa4 G)] at C;obtain⟨u',r',q⟩:=hl j y v' l C e3;refine⟨u',r',?_⟩;rcases q with q|⟨k,U,e,z'⟩
    .exact .inl q
    .refine .inr ⟨k,U,e,z'.sameBut f ?_⟩;rintro rfl;exact G (uc hN l (I.ok.inj _ _ _ e t ▸ hi))
  .by_cases S:U=c
   .subst S;exact⟨_,O⟩
   .obtain⟨w2,z2⟩:=I.cell y U e;exact⟨w2,z2.sameBut f S⟩
def qa(I:Inv X am Z H s)(hN:X.N.Nodup)(hi:X.N[i]?=some x)(hx:Loc X.env.scope x)(r:RelV v u)
  (h:∀s',Inv X am (Z.set i (some v)) H s'->Q () s') (hf:autoParam (X.fn x=true\/X.env.scope.names.lookup x=some .local) cw._auto_1):wpAny M A (storeName X.env x u) Q E s :=
 CT I hN hi hx r (λs' a _=>h s' a) hf
def Inv.yR(I:Inv X am Z H s)(ho:s'.os=s.os)(u:Un (frs X.stack) ch H H' s.heap s'.heap)(ba:lR X.prog X.w H' s'.heap)(hg:AllBare s'.gens)
  (hch:∀b∈ch,(b∈X.ex\/X.s₀.heap.objs.size<=b)/\b≠X.env.locals/\(∀x c,X.env.cells.lookup x=some c->c≠b)/\∀p∈X.pn++am,p.1≠b):Inv X am Z H' s':=by
 obtain⟨d,g',d',t',a⟩:=s';have e:=ho;subst e;exact I.call (g':=g') (t':=t') (d':=d') u ba hg hch
end
abbrev XK:=Value->Option Addr->Hp->Prop
abbrev St:=List (Option V)
end L2
variable {H H' H1 H2:L2.Hp}{Z:L2.St}{ys:List L2.V}
namespace L2
open PySem PySem.Spec PyProof.Rows
abbrev VK:=V->Hp->Prop
abbrev TE:=St->Hp->VK->Prop
abbrev TT:=St->Hp->(Bool->Hp->Prop)->Prop
abbrev TA:=St->Hp->(q7->Hp->Prop)->Prop
structure Ends where
 nx:St->Hp->Prop
 rt:VK
 bk:St->Hp->Prop:=λ_ _=>False
 ct:St->Hp->Prop:=λ_ _=>False
abbrev TS:=Ends->St->Hp->Prop
inductive EP(X:Cx)(am:f7)(Z:St)(Q:VK)(u:Value)(s':Shared):Prop|mk(v a)(_:Inv X am Z a s')(_:RelV v u)(_:Q v a)
inductive TP(X:Cx)(am:f7)(Z:St)(Q:Bool->Hp->Prop)(b:Bool)(s':Shared):Prop|mk(a)(_:Inv X am Z a s')(_:Q b a)
inductive AP(X:Cx)(am:f7)(Z:St)(Q:q7->Hp->Prop)(us:c8)(s':Shared):Prop|mk(a b)(_:Inv X am Z b s')(_:Vals a us)(_:Q a b)
inductive Nq(X:Cx)(am:f7)(R:St->Hp->Prop)(s:Shared):Prop|mk(b a)(_:Inv X am b a s)(_:R b a)
def SP(X:Cx)(am:f7)(D:Ends)(f:Flow)(s':Shared):Prop :=
 match f with
 |.next=>Nq X am D.nx s'
 |.brk=>Nq X am D.bk s'
 |.cont=>Nq X am D.ct s'
 |.ret u=>∃v b a,Inv X am b a s'/\RelV v u/\D.rt v a
def PE(X:Cx)(e:Expr)(t:TE):Prop :=
 ∀(a:f7) (s:Shared) (Z:St) (H:Hp) (Q:VK),Inv X a Z H s->t Z H Q->wpAny (model X.prog X.w) X.A (eval e X.env) (EP X a Z Q) X.xe s
def PT(X:Cx)(e:Expr)(t:TT):Prop :=
 ∀(a:f7) (s:Shared) (Z:St) (H:Hp) (Q:Bool->Hp->Prop),Inv X a Z H s->t Z H Q->wpAny (model X.prog X.w) X.A (isTrue e X.env (eval e X.env)) (TP X a Z Q) X.xe s
def PW(X:Cx)(e:Expr)(t:TT):Prop :=
 ∀(b:Sem Value) (a:f7) (s:Shared) (Z:St) (H:Hp) (Q:Bool->Hp->Prop),Inv X a Z H s->t Z H Q->wpAny (model X.prog X.w) X.A (isTrue e X.env b) (TP X a Z Q) X.xe s
def PW.pt(h:PW X e t):PT X e t:=h _
def PA(X:Cx)(es:List Expr)(t:TA):Prop :=
 ∀(b:Pos) (a:f7) (s:Shared) (Z:St) (H:Hp) (Q:q7->Hp->Prop),Inv X a Z H s->t Z H Q->wpAny (model X.prog X.w) X.A (spliced (backTo b (starEach es X.env))) (AP X a Z Q) X.xe s
def PS(X:Cx)(st:Stmt)(t:TS):Prop :=
 ∀(a:f7) (s:Shared) (Z:St) (H:Hp) (D:Ends),Inv X a Z H s->t D Z H->wpAny (model X.prog X.w) X.A (exec st X.env) (SP X a D) X.xe s
def AI(X:Cx)(st:List Stmt)(t:TS):Prop :=
 ∀(a:f7) (s:Shared) (Z:St) (H:Hp) (D:Ends),Inv X a Z H s->t D Z H->wpAny (model X.prog X.w) X.A (execs st X.env) (SP X a D) X.xe s
def dS{α:Type}{t:Sem α}{Q Q':α->Shared->Prop}{E:Value->Shared->Prop}(h:wpAny M A t Q E s)(hQ:∀a s,Q a s->Q' a s):wpAny M A t Q' E s:=ad3 h hQ λ_ _ x=>x
section
variable {X:Cx}
def LG(i:Nat)(σ:St)(H:Hp)(Q:VK):Prop:=match σ[i]? with|some (some v)=>Q v H|_=>False
def LG_i{i:Nat}:LG i Z H Q↔∃v,Z[i]?=some (some v)/\Q v H:=by unfold LG;rcases Z[i]? with _|_|v <;> simp
def tC(v:V):TE:=λ_ H Q=>Q v H
def Rq    (hN:X.N[i]?=some x) (hv:X6 X.env.scope x) (hd:autoParam ((x == ("__debug__" : Str))=false) cw._auto_1) (hcd:autoParam ((x == ("__classdict__" : Str))=false) cw._auto_1):PE X (.Name x pos) (LG i):=by
 intro f s Z H Q I h;obtain⟨v,e,h⟩:=LG_i.mp h;obtain⟨m,j,hl⟩:=I.loc;obtain⟨u,r,l⟩:=hl i x v hN e hv;have b:EP X f Z Q u s:=⟨v,H,I,r,h⟩
 rcases l with ⟨d,n⟩|⟨d,c,g,a⟩
 .exact wpAny_Name (wpAny_loadName_local I.ok.kind d j n b) hd
 .rcases d with d|d
  .exact wpAny_Name (wpAny_loadName_cell I.ok.kind d g a b) hd
  .exact wpAny_Name (wpAny_loadName_free I.ok.kind d g a b hcd) hd
def ai:PE X (.Constant (.int i) j pos) (tC (.int i)):=λ_ _ _ H _ I h=>wpAny_Constant_int ⟨.int i,H,I.tok _,⟨_,rfl⟩,h⟩
def k7:PE X (.Constant (.bool b) j pos) (tC (.bl b)):=λ_ _ _ H _ I h=>Constant_bool ⟨.bl b,H,I,rfl,h⟩
def cR:PE X (.Constant .none j pos) (tC .dj):=λ_ _ _ H _ I h=>Constant_none ⟨.dj,H,I,rfl,h⟩
def aZ:PE X (.Constant (.str x) j pos) (tC (.str x)):=λ_ _ _ H _ I h=>Calls.Constant_str ⟨.str x,H,I.tok _,⟨_,rfl⟩,h⟩
def Gl(X:Cx)(x:Str):Prop:=X.env.kindOf x=some .globalImplicit
def n6(I:Inv X am Z H s)(hg:Gl X x)(hm:X.mg x=some u)(h:Q u s)
  (hd:autoParam ((x == ("__debug__" : Str))=false) cw._auto_1):wpAny (model X.prog X.w) X.A (eval (.Name x pos) X.env) Q E s :=
 Calls.Name_function_global I.ok.kind hg (Calls.loadGlobal_global (I.ok.glob▸I.mod.glob.keeps I.bk) hm h) hd
def pF(I:Inv X am Z H s)(hg:Gl X x)(hm:X.mg x=none)(hv:bootBuiltins x=some u)(h:Q u s)
  (hn:autoParam (x ≠ "__name__") cw._auto_1) (hd:autoParam ((x == ("__debug__" : Str))=false) cw._auto_1):wpAny (model X.prog X.w) X.A (eval (.Name x pos) X.env) Q E s:=by
 obtain⟨c,a,b⟩:=I.mod.blt;exact Calls.Name_function_global I.ok.kind hg (Calls.loadGlobal_builtin (I.ok.glob▸I.mod.glob.keeps I.bk) hm (I.ok.blt▸a.keeps I.bk) ((b x hn).trans hv) h) hd
def jX     (hg:Gl X x) (hm:X.mg x=some u) (r:RelV v u) (hd:autoParam ((x == ("__debug__" : Str))=false) cw._auto_1):PE X (.Name x pos) (tC v) :=
 λ_ _ _ H _ I h=>n6 I hg hm ⟨v,H,I,r,h⟩ hd
variable {a b:Expr}{ta tb:TE}
def PC(X:Cx)(op:CmpOp)(a b:Expr)(t:TE):Prop :=
 ∀(c:f7) (s:Shared) (Z:St) (H:Hp) (Q:VK),Inv X c Z H s->t Z H Q ->
  wpAny (model X.prog X.w) X.A (eval a X.env) (λv d=>wpAny (model X.prog X.w) X.A (eval b X.env) (λu e=>wpAny (model X.prog X.w) X.A (compareOp op v u) (EP X c Z Q) X.xe e) X.xe d) X.xe s
def yb(b:Expr)(h:op ≠ .In)(h2:op ≠ .NotIn):behindInMarks op b=false:=by
 have a:(op == CmpOp.In)=false:=by cases op <;> first | rfl | exact absurd rfl h
 have c:(op == CmpOp.NotIn)=false:=by cases op <;> first | rfl | exact absurd rfl h2
 cases b <;> simp[behindInMarks,a,c]
inductive WD(P:Bool->Prop):V->Prop|mk{c:_}(_:P c):WD P (.bl c)
def WD_i{P:Bool->Prop}{x:V}:WD P x↔∃c,x = .bl c/\P c:=⟨λh=>by obtain@⟨c,h0⟩:=h;exact⟨c,rfl,h0⟩,λh=>by obtain⟨c,rfl,h0⟩:=h;exact⟨h0⟩⟩
def tB(t:TE):TT:=λZ H Q=>t Z H λx a=>WD (λc=>Q c a) x
def Al(h:PC X op a b t)(h1:autoParam (behindInMarks op b=false) cw._auto_1):PT X (.Compare a [op] [b] pos) (tB t):=by intro e s Z H Q I f;refine wpAny_isTrue_Compare1 (dS (h e s Z H _ I f) λv p h1=>dS h1 λu r g=>dS g λc w i=>?_) h1;obtain⟨x,j,l,n,o⟩:=i;obtain⟨d,rfl,q⟩:=WD_i.mp o;cases n;exact af4 ⟨j,l,q⟩
def gR(h:PE X e t)(he:autoParam (∀whole,isTrue e X.env whole=(do let v <- whole;standAt e.pos;holding [v] (truthy v))) cw._auto_1):PT X e (tB t):=by intro a s Z H Q I b;refine isTrue_plain (dS (h a s Z H _ I b) λv l c=>?_) (he _);obtain⟨x,f,g,i,j⟩:=c;obtain⟨d,rfl,q⟩:=WD_i.mp j;cases i;exact af4 ⟨f,g,q⟩
variable {tA tB':TT}{rest:List Expr}
def K8(t u:TT):TT:=λZ H Q=>t Z H λc a=>if c=true then u Z a Q else Q false a
def tOr(t u:TT):TT:=λZ H Q=>t Z H λc a=>if c=true then Q true a else u Z a Q
def Xp(t:TT):TT:=λZ H Q=>t Z H λc a=>Q (!c) a
def cX(ha:PT X a tA):PW X (.BoolOp .And [a] pos) tA:=by
 intro d b s Z H Q I h;refine isTrue_and (dS (ha b s Z H Q I h) λc f e=>?_);cases c with
 |true=>exact isTrue_and_nil e
 |false=>exact e
def jk(ha:PT X a tA):PW X (.BoolOp .Or [a] pos) tA:=by
 intro d b s Z H Q I h;refine isTrue_or (dS (ha b s Z H Q I h) λc f e=>?_);cases c with
 |false=>exact isTrue_or_nil e
 |true=>exact e
def dX(ha:PT X a tA)(hb:PW X (.BoolOp .And (b::rest) pos) tB'):PW X (.BoolOp .And (a::b::rest) pos) (K8 tA tB'):=by
 intro i d s Z H Q I h;refine isTrue_and (dS (ha d s Z H _ I h) λc j  l=>?_);obtain⟨e,f,g⟩:=l;cases c with
 |true=>exact hb i d j Z e Q f g
 |false=>exact⟨e,f,g⟩
def jz(ha:PT X a tA)(hb:PW X (.BoolOp .Or (b::rest) pos) tB'):PW X (.BoolOp .Or (a::b::rest) pos) (tOr tA tB'):=by
 intro i d s Z H Q I h;refine isTrue_or (dS (ha d s Z H _ I h) λc j  l=>?_);obtain⟨e,f,g⟩:=l;cases c with
 |true=>exact⟨e,f,g⟩
 |false=>exact hb i d j Z e Q f g
def g9(ha:PT X a tA):PT X (.UnaryOp .Not a pos) (Xp tA):=by intro b s Z H Q I h;exact isTrue_not (dS (ha b s Z H (λc d=>Q (!c) d) I h) λ_ _ z=>by obtain⟨d,e,f⟩:=z;exact⟨d,e,f⟩)
def NF(ta tb:TE):TE:=λZ H Q=>ta Z H λx a=>WD (λc=>if c=true then tb Z a Q else Q (.bl false) a) x
def Wm(ta tb:TE):TE:=λZ H Q=>ta Z H λx a=>WD (λc=>if c=true then Q (.bl true) a else tb Z a Q) x
def QA(ta:TE):TE:=λZ H Q=>ta Z H λx a=>WD (λc=>Q (.bl (!c)) a) x
def GD(h:PE X a t):PE X (.BoolOp op [a] pos) t:=λb s Z H Q I c=>BoolOp_one (h b s Z H Q I c)
def Rh(ha:PE X a ta)(hb:PE X (.BoolOp .And (b::rest) pos) tb):PE X (.BoolOp .And (a::b::rest) pos) (NF ta tb):=by
 intro d s Z H Q I h;refine BoolOp_and (dS (ha d s Z H _ I h) λv i  j=>?_);obtain⟨x,f,g,l,e⟩:=j;replace e:=WD_i.mp e;obtain⟨c,rfl,e⟩:=e;cases l;refine af4 ?_;cases c with
 |true=>exact hb d i Z f Q g e
 |false=>exact⟨.bl false,f,g,rfl,e⟩
def Ka(ha:PE X a ta):PE X (.UnaryOp .Not a pos) (QA ta):=by intro b s Z H Q I h;refine UnaryOp_ (dS (ha b s Z H _ I h) λv j  e=>?_);obtain⟨x,f,g,i,d⟩:=e;replace d:=WD_i.mp d;obtain⟨c,rfl,d⟩:=d;cases i;exact not_of (af4 ⟨.bl (!c),f,g,rfl,d⟩)
def tIf(t:TT)(ta tb:TE):TE:=λZ H Q=>t Z H λc a=>if c=true then ta Z a Q else tb Z a Q
def dc{c:Expr}(hc:PT X c tA)(ha:PE X a ta)(hb:PE X b tb):PE X (.IfExp c a b pos) (tIf tA ta tb):=by
 intro e s Z H Q I h;refine wpAny_IfExp (dS (hc e s Z H _ I h) λd f  l=>?_);obtain⟨g,i,j⟩:=l;cases d with
 |true=>exact ha e f Z g Q i j
 |false=>exact hb e f Z g Q i j
end
def aV(K:W.Frag)(H:Hp)(a:Addr)(xs:q7):Prop :=
 Rd H a (.lst xs) \/
  ∃(o:Obj) (b:n7) (n:Nat),K.lookup a=some o/\o.cls = .type "list" /\ o.dict=none/\o.data = .seq b n/\b.size<=sizeLine/\Vals xs b.toList
def bT(K:W.Frag)(H:Hp)(a:Addr)(xs:q7):Prop :=
 Rd H a (.tup xs) \/
  ∃(o:Obj) (b:n7) (n:Nat),K.lookup a=some o/\o.cls = .type "tuple" /\ o.data = .seq b n/\b.size<=sizeLine/\Vals xs b.toList
noncomputable def Zb:Value->Option V
 |.none=>some .dj
 |.bool b=>some (.bl b)
 |.int i _=>some (.int i)
 |.str x _=>some (.str x)
 |.bytes b _=>some (.byt b)
 |.float b _=>some (.flt b)
 |.ref a=>some (.ref a)
 |.type n=>some (.ty n)
 |_=>none
def RelV.abs(r:RelV x u):Zb u=some x:=by
 cases x with
 |dj=>cases r;rfl
 |bl _=>cases r;rfl
 |int _=>obtain⟨t,rfl⟩:=r;rfl
 |str _=>obtain⟨t,rfl⟩:=r;rfl
 |byt _=>obtain⟨t,rfl⟩:=r;rfl
 |flt _=>obtain⟨t,rfl⟩:=r;rfl
 |ref _=>cases r;rfl
 |ty _=>cases r;rfl
def RelV.inj(r:RelV x u)(q:RelV y u):x=y:=aa1 (r.abs.symm.trans q.abs)
def Vals.inj{xs ys:q7}{us:c8}(a:Vals xs us)(b:Vals ys us):xs=ys:=by induction a generalizing ys with|nil=>cases b;rfl|cons r _ i=>cases b with|cons q v=>rw[r.inj q,i v]
section
variable {X:Cx}{a:Addr}{xs:q7}
def aV.of{K:W.Frag}(h:H a=r6 xs):aV K H a xs:=.inl (.inl h)
def bT.of{K:W.Frag}(h:H a=t0 xs):bT K H a xs:=.inl (.inl h)
def Inv.list(I:Inv X am Z H s)(h:aV X.K H a xs):∃its:c8,Vals xs its/\PlainL s.heap a its.toArray/\xs.length<=sizeLine:=by
 rcases h with h|⟨o,its,n,b,c,d,f,g,r⟩
 .obtain⟨z,its,n,r,e⟩:=h.ok I.ba;exact⟨its,r,⟨_,n,e,rfl,rfl,rfl⟩,z⟩
 .refine⟨its.toList,r,⟨o,n,I.uG a o b,c,d,by simpa using f⟩,?_⟩;have e:=r.length;simp only[ah6] at e;lia
def Inv.tuple(I:Inv X am Z H s)(h:bT X.K H a xs):∃its:c8,Vals xs its/\IsTup s.heap a its.toArray/\xs.length<=sizeLine:=by
 rcases h with h|⟨o,its,n,b,c,d,f,r⟩
 .obtain⟨z,its,r,p⟩:=h.ok I.ba;exact⟨its,r,p,z⟩
 .refine⟨its.toList,r,⟨o,I.uG a o b,c,n,by simpa using d⟩,?_⟩;have e:=r.length;simp only[ah6] at e;lia
def Inv.qf(I:Inv X am Z H s)(h:aV X.K H a xs)(h':aV X.K H a ys):xs=ys:=by
 obtain⟨b,r,⟨o,n,e,_,_,d⟩,_⟩:=I.list h;obtain⟨its',g,⟨i,j,c,_,_,f⟩,_⟩:=I.list h';rw[e] at c;cases c;rw[d] at f;injection f with d1 _
 have:b=its':=by simpa using ac7 Array.toList d1
 subst this;exact r.inj g
end
noncomputable abbrev Cx.uP(X:Cx)(E:Value->Shared->Prop):Cx:={ X with xe:=E }
abbrev Cx.YJ(X:Cx):Cx:=X.uP λ_ _=>False
end L2
variable {X:L2.Cx}{te:L2.TE}
namespace L2
open PySem PySem.Spec PyProof.Rows
def Cx.Ok.uP(ok:X.Ok)(E:Value->Shared->Prop):(X.uP E).Ok :=
 ⟨ok.mod,ok.kind,ok.glob,ok.blt,ok.above,ok.inj,ok.has,ok.We,ok.hd,ok.frames,ok.stk,ok.Zk,ok.bs,ok.MT,ok.DY,ok.HK,ok.qP,ok.Rc⟩
def Cx.Ok.mQ(ok:(X.uP E).Ok):X.Ok :=
 ⟨ok.mod,ok.kind,ok.glob,ok.blt,ok.above,ok.inj,ok.has,ok.We,ok.hd,ok.frames,ok.stk,ok.Zk,ok.bs,ok.MT,ok.DY,ok.HK,ok.qP,ok.Rc⟩
section
variable {E:Value->Shared->Prop}
def Inv.uP(I:Inv X am Z H s)(E:Value->Shared->Prop):Inv (X.uP E) am Z H s:=⟨I.ok.uP E,I.os,I.ax,I.ap,I.loc,I.cell,I.free,I.je,I.pin,I.ba,I.len⟩
def Inv.mQ(I:Inv (X.uP E) am Z H s):Inv X am Z H s:=⟨I.ok.mQ,I.os,I.ax,I.ap,I.loc,I.cell,I.free,I.je,I.pin,I.ba,I.len⟩
def SP.mQ(h:SP (X.uP E) am D f s'):SP X am D f s':=by
 cases f with
 |next=>obtain⟨a,b,I,q⟩:=h;exact⟨a,b,I.mQ,q⟩
 |brk=>obtain⟨a,b,I,q⟩:=h;exact⟨a,b,I.mQ,q⟩
 |cont=>obtain⟨a,b,I,q⟩:=h;exact⟨a,b,I.mQ,q⟩
 |ret u=>obtain⟨v,a,b,I,r,q⟩:=h;exact⟨v,a,b,I.mQ,r,q⟩
def AI.YJ{st:List Stmt}(h:AI X.YJ st t):AI X st t:=λa s Z H D I b =>
 ad3 (h a s Z H D (I.uP _) b) (λ_ _ q=>q.mQ) λ_ _ z=>False.elim z
end
section
variable {st:Stmt}{rest:List Stmt}{t u:TS}{e:Expr}
def Yz(t u:TS):TS:=λD Z H=>t { D with nx:=u D } Z H
def yd(h1:PS X st t)(h2:AI X rest u):AI X (st::rest) (Yz t u):=by
 intro a s Z H D I h;refine wpAny_execs_cons (dS (h1 a s Z H { D with nx:=u D } I h) λf b q=>?_);cases f with
 |next =>
  obtain⟨c,d,e,q⟩:=q;exact h2 a b c d D e q
 |ret v=>exact q
 |brk=>exact q
 |cont=>exact q
def MA(h1:PS X st t):AI X [st] t:=by
 intro a s Z H D I h;refine wpAny_execs_cons (dS (h1 a s Z H D I h) λf b q=>?_);cases f with
 |next=>exact ao7 q
 |ret v=>exact q
 |brk=>exact q
 |cont=>exact q
def Inv.quiet(I:Inv X am Z H s):interactive X.env=false:=by simp[interactive,I.ok.kind]
def O6(te:TE):TS:=λD Z H=>te Z H λ_ a=>D.nx Z a
def aY(he:PE X e te)(hs:autoParam (swapsWith e none pos.line X.env=pure false) cw._auto_1):PS X (.Expr e pos) (O6 te):=by intro a s Z H D I h;exact wpAny_Expr_any (dS (he a s Z H _ I h) λv f ⟨x,b,c,g,d⟩=>⟨Z,b,c,d⟩) I.quiet hs
def Ui(te:TE):TS:=λD Z H=>te Z H D.rt
def aQ(he:PE X e te):PS X (.Return (some e) pos) (Ui te):=by intro a s Z H D I h;exact wpAny_Return_some (dS (he a s Z H _ I h) λv g ⟨x,b,c,d,f⟩=>⟨x,Z,b,c,d,f⟩)
def WJ(c:TT)(t u:TS):TS:=λD Z H=>c Z H λb a=>if b=true then t D Z a else u D Z a
def bq{c:Expr}{a b:List Stmt}{tc:TT}(hc:PT X c tc)(ha:AI X a t)(hb:AI X b u):PS X (.If c a b pos) (WJ tc t u):=by
 intro e s Z H D I h;refine wpAny_If (dS (hc e s Z H _ I h) λd f  l=>?_);obtain⟨g,i,j⟩:=l;cases d with
 |true=>exact ha e f Z g D i j
 |false=>exact hb e f Z g D i j
end
abbrev TG:=V->St->Hp->(St->Hp->Prop)->Prop
abbrev U4:=q7->St->Hp->(St->Hp->Prop)->Prop
def PG(X:Cx)(target:Expr)(t:TG):Prop :=
 ∀(a:f7) (s:Shared) (Z:St) (H:Hp) (v:V) (u:Value) (Q:St->Hp->Prop),Inv X a Z H s->RelV v u->t v Z H Q ->
  wpAny (model X.prog X.w) X.A (assign target X.env u) (λ_ d=>Nq X a Q d) X.xe s
def YQ(X:Cx)(ts:List Expr)(t:U4):Prop :=
 ∀(a:f7) (s:Shared) (Z:St) (H:Hp) (b:q7) (us:c8) (Q:St->Hp->Prop),Inv X a Z H s->Vals b us->t b Z H Q ->
  wpAny (model X.prog X.w) X.A (assignInOrder ((assignEach ts X.env).map (·.2)) us) (λ_ e=>Nq X a Q e) X.xe s
abbrev Vp:=V->V->V->Hp->(Hp->Prop)->Prop
def XW(X:Cx)(t:Vp):Prop :=
 ∀(a:f7) (s:Shared) (Z:St) (H:Hp) (o i v:V) (b c u:Value) (Q:Hp->Prop),Inv X a Z H s->RelV o b->RelV i c->RelV v u->t o i v H Q ->
  wpAny (model X.prog X.w) X.A (setItem b c u) (λ_ e=>∃d,Inv X a Z d e/\Q d) X.xe s
abbrev YK:=V->V->Hp->VK->Prop
def PIp(X:Cx)(op:Operator)(t:YK):Prop :=
 ∀(a:f7) (s:Shared) (Z:St) (H:Hp) (x y:V) (v u:Value) (Q:VK),Inv X a Z H s->RelV x v->RelV y u->t x y H Q ->
  wpAny (model X.prog X.w) X.A (inplaceOp op v u) (EP X a Z Q) X.xe s
def p9(i:Nat):TG:=λv Z H Q=>Q (Z.set i (some v)) H
def pQ(hN:X.N.Nodup)(hi:X.N[i]?=some x)(hx:Loc X.env.scope x)(hf:autoParam (X.fn x=true\/X.env.scope.names.lookup x=some .local) cw._auto_1):PG X (.Name x pos) (p9 i):=by intro a s Z H v u Q I r h;exact wpAny_assign_Name (qa I hN hi hx r (λc b=>⟨_,H,b,h⟩) hf)
def Zf:U4:=λa Z H Q=>a=[]/\Q Z H
def Xv(t:TG)(u:U4):U4:=λa Z H Q=>∃v r,a=v::r/\t v Z H λb c=>u r b c Q
def fU:YQ X [] Zf:=by intro a s Z H b us Q I r h;obtain⟨e,h⟩:=h;subst e;cases r;exact assignInOrder_nil ⟨Z,H,I,h⟩
def bF(h1:PG X e t)(h2:YQ X es u)
  (hs:autoParam ((assignEach (e::es) X.env).map (·.2)=assign e X.env::(assignEach es X.env).map (·.2)) cw._auto_1):YQ X (e::es) (Xv t u):=by
 intro a s Z H l us Q I r h;obtain⟨v,n,b,h⟩:=h;subst b;cases r with
 |cons r rr =>
  rw[hs];refine assignInOrder_cons (dS (h1 a s Z H _ _ _ I r h) λ_ c  d=>?_);obtain⟨f,g,i,j⟩:=d;exact h2 a c f g _ _ Q i rr j
def Zg(K:W.Frag)(n:Nat)(t:U4):TG:=λv Z H Q=>∃a b,v = .ref a/\bT K H a b/\b.length=n/\t b Z H Q
def iK(hc:X.aw=true)(h:YQ X es t)
  (hn:autoParam ((assignEach es X.env).length=n) cw._auto_1) (hst:autoParam ((assignEach es X.env).findIdx? (·.1)=none) cw._auto_1):PG X (.Tuple es k pos) (Zg X.K n t):=by
 intro c s Z H v u Q I r d;obtain⟨a,g,i,j,hl,d⟩:=d;subst i;cases r;obtain⟨l,f,p,y⟩:=I.tuple j;refine assign_Tuple_tuple (I.ok.hd hc) p (by simp[hn,<- hl,f.length]) hst λq w=>?_;exact h c _ Z H g _ Q (I.kept (t':=s.toks) λb o e=>w b o (Z6 (P2 e)) e) (by simpa using f) d
def ZA(to ti:TE)(t:Vp):TG:=λv Z H Q=>to Z H λo a=>ti Z a λi b=>t o i v b λc=>Q Z c
def wH(ho:PE X o to)(hi:PE X i ti)(hs:XW X t)
  (ha:autoParam (∀v,assign (.Subscript o i pos) X.env v=(do
   let ov <- holding [v] (eval o X.env);let iv <- holding [v,ov] (eval i X.env)
   standAt pos
   holding [v,ov,iv] (setItem ov iv v)
   release [v,ov,iv] [])) cw._auto_1):PG X (.Subscript o i pos) (ZA to ti t):=by
 intro a s Z H v u Q I r h;rw[ha];refine y0 (ae9 (dS (ho a s Z H _ I h) λov c  b=>?_));obtain⟨x,d,e,f,g⟩:=b;refine y0 (ae9 (dS (hi a c Z d _ e g) λiv j  b=>?_));obtain⟨y,l,n,p,q⟩:=b;refine y0 (wpAny_standAt (y0 (ae9 (dS (hs a j Z l x y v ov iv u _ n f p r q) λ_ B  b=>?_))));obtain⟨w,z,A⟩:=b;exact wpAny_release ⟨Z,w,z,A⟩
def Bc(te:TE)(g:TG):TS:=λD Z H=>te Z H λx a=>g x Z a D.nx
def jo(he:PE X e te)(hg:PG X tg g)(hs:autoParam (swapsWithSole [tg] e pos.line X.env=pure false) cw._auto_1)(hw:autoParam (swappedStores [tg] e X.env=pure none) cw._auto_1)
  (h1:autoParam ((assignEach [tg] X.env).map (·.2)=[assign tg X.env]) cw._auto_1):PS X (.Assign [tg] e pos) (Bc te g):=by
 intro a s Z H D I h;refine wpAny_Assign_stores (dS (he a s Z H _ I h) λv b c=>?_) hs hw;obtain⟨x,d,f,i,j⟩:=c;exact h1▸dS (hg a b Z d x v _ f i j) λ_ l q=>q
def lJ{i:Nat}{x:Str}{e:Expr}{te:TE}{pos':Pos}(hN:X.N.Nodup)(hi:X.N[i]?=some x)(hx:Loc X.env.scope x)(he:PE X e te)(hs:autoParam (swapsWith e (some (.Name x pos')) pos.line X.env=pure false) cw._auto_1)(hf:autoParam (X.fn x=true\/X.env.scope.names.lookup x=some .local) cw._auto_1) :
  PS X (.Assign [.Name x pos'] e pos) (Bc te (p9 i)):=by
 intro a s Z H D I h;refine wpAny_Assign_Name (dS (he a s Z H _ I h) λv l b=>?_) hs;obtain⟨y,c,d,f,g⟩:=b;exact qa d hN hi hx f (λn j=>⟨_,c,j,g⟩) hf
def YA(i:Nat)(te:TE)(ti:YK):TS:=λD Z H=>∃x,Z[i]?=some (some x)/\te Z H λy a=>ti x y a λz b=>D.nx (Z.set i (some z)) b
def Am(hN:X.N.Nodup)(hi:X.N[i]?=some x)(hx:Loc X.env.scope x)(he:PE X e te)(ho:PIp X op ti)(hf:autoParam (X.fn x=true\/X.env.scope.names.lookup x=some .local) cw._auto_1) :
  PS X (.AugAssign (.Name x pos') op e pos) (YA i te ti):=by
 intro a s Z H D I h;obtain⟨v,n,h⟩:=h;obtain⟨m,o,hl⟩:=I.loc;have f:X6 X.env.scope x:=by rcases hx with k|k;exact .inl k;exact .inr (.inl k)
 obtain⟨u,r,l⟩:=hl i x v hi n f;refine wpAny_AugAssign_Name ?_;have j:wpAny (model X.prog X.w) X.A (eval e X.env) (λw p=>wpAny (model X.prog X.w) X.A (inplaceOp op u w) (λr q=>wpAny (model X.prog X.w) X.A (storeName X.env x r) (λ_=>SP X a D .next) X.xe q) X.xe p) X.xe s:=by refine dS (he a s Z H _ I h) λw t  g=>?_;obtain⟨y,B,C,E,F⟩:=g;refine dS (ho a t Z B v y u w _ C r E F) λz Q  g=>?_;obtain⟨R,G,J,K,L⟩:=g;exact qa J hN hi hx K (λS M=>⟨_,G,M,L⟩) hf
 rcases l with ⟨b,O⟩|⟨b,c,P,d⟩
 .exact wpAny_loadName_local I.ok.kind b o O j
 .rcases b with b|b
  .exact wpAny_loadName_cell I.ok.kind b P d j
  .rcases hx with k|k
   .have:X.env.scope.names.lookup x=some .free:=b;rw[k] at this;cases this
   .have:X.env.scope.names.lookup x=some .free:=b;rw[k] at this;cases this
def ipI(f:Int->Int->Int):YK:=λx y H Q=>∃i j,x = .int i/\y = .int j/\Q (.int (f i j)) H
def AN:PIp X .Add (ipI λi j=>i+j):=by intro a s Z H x y v u Q I b c h;obtain⟨i,j,d,e,q⟩:=h;subst d;subst e;obtain⟨t,rfl⟩:=b;obtain⟨f,rfl⟩:=c;exact iadd_int ⟨.int _,H,I.tok _,⟨_,rfl⟩,q⟩
def SQ(c:TT)(tb:TS):TS:=λD Z H=>∃W:Nat->St->Hp->Prop,(∃m,W m Z H)/\∀m Z H,W m Z H ->
 c Z H λb a=>if b=true then ∃N:St->Hp->Prop,(∀d e,N d e->∃f,f<m/\W f d e)/\tb { D with nx:=N,ct:=N,bk:=D.nx } Z a else D.nx Z a
def jd(hp:PassesOwn (model X.prog X.w) X.A X.env X.xe)(hc:PT X c tc)(hb:AI X body tb):PS X (.While c body [] pos) (SQ tc tb):=by
 intro a s Z H D I h;obtain⟨W,⟨C,E⟩,turn⟩:=h;refine wpAny_While (codeAny_whileLoop (λn F=>∃t u,Inv X a t u F/\W n t u) ?_ C ⟨Z,H,I,E⟩);rintro n G ⟨g,x,J,K⟩;refine aj5 hp (dS (hc a G g x _ J (turn n g x K)) λb L  M=>?_);obtain⟨y,z,i⟩:=M;cases b with
 |true =>
  obtain⟨N,B,i⟩:=i;rw[w4 rfl];refine aj5 hp (dS (hb a L g y _ z i) λf O j=>?_);cases f with
  |next =>
   obtain⟨d,e,l,o⟩:=j;obtain⟨p,q,r⟩:=B d e o;exact⟨p,q,d,e,l,r⟩
  |cont =>
   obtain⟨d,e,l,o⟩:=j;obtain⟨p,q,r⟩:=B d e o;exact⟨p,q,d,e,l,r⟩
  |brk=>exact j
  |ret v=>exact j
 |false =>
  rw[C5 Z7];exact ao7 ⟨g,y,z,i⟩
structure It where
 go:Nat->Hp->Prop
 UO:Nat->Hp->V->Hp->Prop
 stop:Nat->Hp->Prop
def wk(X:Cx)(am:f7)(H:Hp)(b:Addr):Prop :=
 H b=none/\b≠X.env.locals/\b∉X.fs/\(b∈X.ex\/X.s₀.heap.objs.size<=b)/\(∀x c,X.env.cells.lookup x=some c->c≠b)/\∀p∈X.pn++am,p.1≠b
def Inv.CM(I:Inv X am Z H s)(hb:s.heap.objs.size<=b)(hn:H' b=none):wk X am H' b:=by
 refine⟨hn,ao0 (ab1 I.lt hb),I.Xj hb,.inr (ac2 I.sz hb),λx c e z=>by obtain⟨v,q⟩:=I.cell x c e;exact absurd (ab1 q.lt (z▸hb)) (ah0 _),λp a z=>absurd (ab1 (P2 (I.pin p a).1) (z▸hb)) (ah0 _)⟩
structure Turn(P:Program)(w:World)(K:W.Frag)(tg:Expr)(J:It)(fp:c6)(it:Addr)(tn:Nat->Heap->Prop):Prop where
 mem:it∈fp
 obj:∀i h,tn i h->∀b∈fp,∃o,h.get? b=some o/\∀v,o.data ≠ .cell v
 keep:∀i h h',tn i h->(∀b∈fp,∀o,h.get? b=some o->h'.get? b=some o)->tn i h'
 item:∀(X:Cx),X.prog=P->X.w=w->X.K=K->X.aw=true->∀(i:Nat) (am:f7) (s:Shared) (Z:St) (H:Hp) (E:Value->Shared->Prop),Inv X am Z H s->(∀b∈fp,wk X am H b)->tn i s.heap->J.go i H ->
  wpAny (model P w) X.A (pyNext (.ref it)) (λr s1=>∃u,r=some u /\
   wpAny (model P w) X.A (letOwnedTupleGo tg (.ref it) u) (λ_ s2=>∃x H',Inv X am Z H' s2/\RelV x u/\J.UO i H x H'/\tn (i+1) s2.heap/\∀b∈fp,H' b=none) E s1) E s
 done:∀(X:Cx),X.prog=P->X.w=w->X.K=K->X.aw=true->∀(i:Nat) (am:f7) (s:Shared) (Z:St) (H:Hp) (E:Value->Shared->Prop),Inv X am Z H s->(∀b∈fp,wk X am H b)->tn i s.heap->J.stop i H ->
  wpAny (model P w) X.A (pyNext (.ref it)) (λr s1=>r=none/\Inv X am Z H s1) E s
 self:∀(A:Around) (i:Nat) (s:Shared) (Q:Value->Shared->Prop) (E:Value->Shared->Prop),tn i s.heap->Q (.ref it) s->wpAny (model P w) A (pyIter (.ref it)) Q E s
abbrev TI:=St->Hp->(It->Hp->Prop)->Prop
def ZH(X:Cx)(am:f7)(Z:St)(tg:Expr)(R:It->Hp->Prop)(itv:Value)(s2:Shared):Prop :=
 ∃c d e J a,itv = .ref c/\Inv X am Z a s2/\Turn X.prog X.w X.K tg J d c e/\e 0 s2.heap/\(∀b∈d,wk X am a b)/\R J a
def PI(X:Cx)(tg iter:Expr)(wi:TI):Prop :=
 ∀a s Z H R,Inv X a Z H s->wi Z H R ->
  wpAny (model X.prog X.w) X.A (eval iter X.env) (λv b=>wpAny (model X.prog X.w) X.A (pyIter v) (ZH X a Z tg R) X.xe b) X.xe s
def JL(ho:s.heap.get? it=some o)(hc:o.cls = .type n)(hd:o.data = .fields vs)
  (hn:["enumerate","zip","dict_itemiterator","dict_reverseitemiterator","odict_iterator","itertools.zip_longest","itertools.pairwise"].contains n=false) (hQ:Q () s):wpAny M A (letOwnedTupleGo tg (.ref it) u) Q E s:=by
 unfold letOwnedTupleGo;cases tg <;> first
  |exact X2 hQ
  | (cases u <;> first
    |exact X2 hQ
    | (refine y0 (wpAny_load ho ?_)
       rw[hc,hd];show wpAny M A (if (["enumerate","zip","dict_itemiterator","dict_reverseitemiterator","odict_iterator","itertools.zip_longest","itertools.pairwise"].contains n && vs[0]? == some (rawInt _))=true then _ else _) Q E s;rw[C5 (by intro h;rw[hn,Bool.false_and] at h;cases h)];exact X2 hQ))
noncomputable def Q7(K:W.Frag)(a:Addr):It :=
 ⟨λi H=>∃b x,aV K H a b/\b[i]?=some x,λi H x c=>c=H/\∀b,aV K H a b->b[i]?=some x,λi H=>∃b,aV K H a b/\b.length<=i⟩
noncomputable def N5(lo:Int)(n:Nat):It:=⟨λi _=>i<n,λi H x a=>a=H/\x = .int (lo+i),λi _=>n<=i⟩
def DR{P:Program}{K:W.Frag}(a it:Addr):Turn P w K tg (Q7 K a) [it] it (λi h=>h.IsListIter it a i) where
 mem:=by simp
 obj:=λi h f b j=>by
  have e:b=it:=by simpa using j
  subst e;obtain⟨o,e,c,d⟩:=f;exact⟨o,e,λv z=>by rw[d] at z;cases z⟩
 keep:=λi h n f k=>f.at λo e=>k it (by simp) o e
 item:=by intro X t y A O i g s Z H E I q f B;subst t y A;obtain⟨Q,x,r,C⟩:=B;obtain⟨D,F,p,R⟩:=I.list r;obtain⟨u,S,T⟩:=F.get C;obtain⟨G,J,U,L,M,N⟩:=q it (by simp);refine wpAny_pyNext_list_item f p.isList (x:=u) (by simpa using S) λn l Y=>?_;obtain⟨o,e,c,d⟩:=id l;exact⟨u,rfl,JL (s:={ s with heap:=n }) e c d (by decide) ⟨x,H,I.turned (t':=s.toks) (λb o j e=>(Y.2 b j).trans e) G J L M N,T,⟨rfl,λys hy=>by rw[I.qf hy r];exact C⟩,l,λb j=>(q b j).1⟩⟩
 done:=by intro X t y A O i g s Z H E I q f B;subst t y A;obtain⟨Q,r,C⟩:=B;obtain⟨D,F,p,R⟩:=I.list r;obtain⟨G,J,U,L,M,N⟩:=q it (by simp);have hl:=F.length;exact wpAny_pyNext_list_end (I.ok.hd O) f p.isList (by simp;lia) λn eb=>⟨rfl,I.turned (t':=s.toks) (λb o j e=>eb b o j e) G J L M N⟩
 self:=λ_ _ _ _ _ f h=>wpAny_pyIter_listiter f h
def Be{P:Program}{K:W.Frag}(it:Addr)(lo:Int)(n:Nat):Turn P w K tg (N5 lo n) [it] it (λi h=>IsRangeIter h it (lo+(i:Nat)*1) ((n:Int)-(i:Nat)) 1) where
 mem:=by simp
 obj:=λi h a b d=>by
  have e:b=it:=by simpa using d
  subst e;exact⟨_,a,λv z=>by have F:=z;cases F⟩
 keep:=λi h g a k=>k it (by simp) _ a
 item:=by intro X l p q r i c s Z H E I j a u;subst l p q;obtain⟨x,y,G,A,B,C⟩:=j it (by simp);refine (Walks.range (prog:=X.prog) (w:=X.w) (I.ok.hd r) it lo 1 n).item i s _ _ u a λv g D J f L=>?_;obtain⟨t,rfl⟩:=J;refine⟨_,rfl,JL (s:={ s with heap:=g,toks:=D }) (n:="range_iterator") f rfl rfl (by decide) ⟨.int (lo+i),H,I.turned (λb o d e=>L b o (by simpa using d) e) x y A B C,⟨t,?_⟩,⟨rfl,rfl⟩,f,λb d=>(j b d).1⟩⟩;rw[Int.mul_one]
 done:=by intro X l p q r i c s Z H E I j a u;subst l p q;obtain⟨x,y,G,A,B,C⟩:=j it (by simp);exact wpAny_pyNext_range_end (I.ok.hd r) a (by have:n<=i:=u;lia) λg N=>⟨rfl,I.turned (t':=s.toks) (λb o d e=>N b o d e) x y A B C⟩
 self:=λ_ _ _ _ _ a h=>wpAny_pyIter_rangeiter a h
def XM(K:W.Frag)(tl:TE):TI:=λZ H R=>tl Z H λx b=>∃a,x = .ref a/\(∃c,aV K b a c)/\R (Q7 K a) b
def fF{l:Expr}{tl:TE}(hl:PE X l tl):PI X tg l (XM X.K tl):=by
 intro c s Z H R I h;refine dS (hl c s Z H _ I h) λv d  g=>?_;obtain⟨x,i,f,j,n⟩:=g;obtain⟨a,e,⟨w,r⟩,q⟩:=n;subst e;cases j;obtain⟨t,y,p,z⟩:=f.list r;refine wpAny_pyIter_list p.isList ?_;refine⟨d.heap.objs.size,[d.heap.objs.size],_,_,i,rfl,f.kept (t':=d.toks) λb o e=>x0 _ e,DR a _,⟨_,aa5 _ rfl,rfl,rfl⟩,λb u=>?_,q⟩;have e:b=d.heap.objs.size:=by simpa using u
 subst e;exact f.CM (N0 _) (f.ba.fresh (N0 _))
def Hs{lo hi:Int}(I:Inv X am Z H s)(h1:-(2 ^ 62)<=lo)(h2:lo<2 ^ 62)(h3:-(2 ^ 62)<=hi)(h4:hi<2 ^ 62)
  (q:R (N5 lo (hi-lo).toNat) H):wpAny (model X.prog X.w) X.A (pyIter (.ref s.heap.objs.size)) (ZH X am Z tg R) E { s with heap:=s.heap.push { cls:=.type "range",data:=.fields #[.int lo t,.int hi u,.int 1 v] },toks:=tk }:=by
 refine wpAny_pyIter_range (IsRange.new ..) (small_one h1 h2 h3 h4) ?_;have a:Inv X am Z H { s with heap:=s.heap.push { cls:=.type "range",data:=.fields #[.int lo t,.int hi u,.int 1 v] },toks:=tk }:=I.kept λb o e=>x0 _ e;refine⟨(s.heap.push { cls:=.type "range",data:=.fields #[.int lo t,.int hi u,.int 1 v] }).objs.size,[(s.heap.push { cls:=.type "range",data:=.fields #[.int lo t,.int hi u,.int 1 v] }).objs.size],_,_,H,rfl,
  a.kept (t':=tk) λb o e=>x0 _ e,Be _ lo (hi-lo).toNat,?_,λb c=>?_,q⟩
 .have d:lo+((0:Nat):Int)*1=lo:=by simp
  have f:(((hi-lo).toNat:Nat):Int)-((0:Nat):Int)=Builtin.Range.rangeSize lo hi 1:=by rw[rangeSize_one];split <;> lia
  show IsRangeIter _ _ (lo+((0:Nat):Int)*1) ((((hi-lo).toNat:Nat):Int)-((0:Nat):Int)) 1;rw[d,f];exact aa5 _ rfl
 .have e:b=(s.heap.push { cls:=.type "range",data:=.fields #[.int lo t,.int hi u,.int 1 v] }).objs.size:=by simpa using c
  subst e;exact a.CM (N0 _) (a.ba.fresh (N0 _))
def XF(ta:TA):TI:=λZ H R=>ta Z H λa b=>∃j,a=[.int j] /\ -(2 ^ 62)<=j/\j<2 ^ 62/\R (N5 0 j.toNat) b
def fm {a:Expr} {ta:TA} {p pos:Pos} (hg:Gl X "range") (hm:X.mg "range" = none) (ha:PA X [a] ta) (hs:autoParam (starEach [a] X.env=[(false,eval a X.env)]) cw._auto_1):PI X tg (.Call (.Name "range" p) [a] [] pos) (XF ta):=by
 intro b s Z H R I h;refine Call_ (pF I hg hm boot_range (ae0 (dS (ha pos b s Z H _ I h) λus l d=>?_) hs rfl));obtain⟨n,o,f,g,c⟩:=d;obtain⟨j,e,c,i,q⟩:=c;subst e;cases g with
 |cons r rr =>
  cases rr;obtain⟨t,rfl⟩:=r;exact call_range_1 (Hs f (by lia) (by lia) c i (by simpa using q))
def Y3(wi:TI)(g:TG)(tb:TS):TS:=λD Z H=>wi Z H λJ d=>∃W:Nat->Nat->St->Hp->Prop,(∃m,W 0 m Z d)/\∀i m Z H,W i m Z H ->
 (J.stop i H/\D.nx Z H)\/(J.go i H/\∃N:St->Hp->Prop,(∀b a,N b a->∃c,c<m/\W (i+1) c b a)/\∀x a,J.UO i H x a->g x Z a λZ2 e=>tb { D with nx:=N,ct:=N,bk:=D.nx } Z2 e)
noncomputable def qU(fp:c6)(h:Heap):f7:=fp.filterMap λb=>(h.get? b).map λo=>(b,o)
def iX(hb:b∈fp)(e:h.get? b=some o):(b,o)∈qU fp h:=ao3.mpr ⟨b,hb,by rw[e];rfl⟩
def vF(hp:p∈qU fp h):p.1∈fp/\h.get? p.1=some p.2:=by
 obtain⟨b,a,e⟩:=ao3.mp hp;cases q:h.get? b with
 |none=>rw[q] at e;cases e
 |some o =>
  rw[q] at e;have c:=aa1 e;subst c;exact⟨a,q⟩
def Inv.pinned(I:Inv X am Z H s)(hf:∀b∈fp,wk X am H b)(ho:∀b∈fp,∃o,s.heap.get? b=some o/\∀v,o.data ≠ .cell v):Inv X (am++qU fp s.heap) Z H s :=
 I.jZ λp f=>(X1.mp f).elim (λz=>I.pin p (Z2 _ z)) λz=>by obtain⟨a,e⟩:=vF z;obtain⟨g,h,i,_⟩:=hf p.1 a;obtain⟨o,c,d⟩:=ho p.1 a;rw[e] at c;cases c;exact⟨e,g,h,i,d⟩
def Inv.tE(I:Inv X (am++pl) Z H s):Inv X am Z H s:=I.jZ λp a=>I.pin p (Z2 _ (aa8 _ a))
def Sz(hp:PassesOwn (model X.prog X.w) X.A X.env X.xe)(hc:X.aw=true)(hi:PI X tg iter wi)(hg:PG X tg g)(hb:AI X body tb)
  (hs:autoParam (∀x,foldedSetIterable iter X.env x=pure x) cw._auto_1):PS X (.For tg iter body [] pos) (Y3 wi g tb):=by
 intro a s Z H D I h;refine wpAny_For (dS (hi a s Z H _ I h) λv s1 h1=>dS h1 λitv s2 h2=>?_) hs;obtain⟨it,y,S,J,H2,e,I2,T,L,U,W,⟨m0,w0⟩,turn⟩:=h2;subst e;have c:∀{H':Hp},(∀b∈y,H' b=none)->∀b∈y,wk X a H' b:=λhn b hb=>⟨hn b hb,(U b hb).2⟩
 refine codeAny_forLoop_any (λn Y=>∃i z H',Inv X a z H' Y/\S i Y.heap/\(∀b∈y,H' b=none)/\W i n z H') ?_ m0 ⟨0,Z,H2,I2,L,λb hb=>(U b hb).1,w0⟩;rintro n s3 ⟨i,B,K,I3,C,E,w3⟩;rcases turn i n B K w3 with ⟨F,qn⟩|⟨go,N,hN,step⟩
 .refine aj5 hp (dS (T.done X rfl rfl rfl hc i a s3 B K X.xe I3 (c E) C F) λr s4 M=>?_);obtain⟨hr,I4⟩:=M;subst hr;exact ao7 ⟨B,K,I4,qn⟩
 .refine aj5 hp (dS (T.item X rfl rfl rfl hc i a s3 B K X.xe I3 (c E) C go) λr s4 M=>?_);obtain⟨u,hr,h4⟩:=M;subst hr;refine aj5 hp (dS h4 λ_ s5  O=>?_);obtain⟨x,H5,I5,r5,y5,t,P⟩:=O;refine aj5 hp (dS (hg _ s5 B H5 x u _ (I5.pinned (c P) (T.obj _ _ t)) r5 (step x H5 y5)) λ_ s6  O=>?_);obtain⟨Z6,H6,I6,q6⟩:=O;refine aj5 hp (dS (hb _ s6 Z6 H6 _ I6 q6) λf R q=>?_);have j:∀{Z7:St} {l:Hp},Inv X (a++qU y s5.heap) Z7 l R->N Z7 l->∃m,m<n/\∃i z H',Inv X a z H' R/\S i R.heap/\(∀b∈y,H' b=none)/\W i m z H':=λ{Z7 l} p G=>by obtain⟨m',hm,w7⟩:=hN Z7 l G;refine⟨m',hm,i+1,Z7,l,p.tE,T.keep _ _ _ t λb hb o e=>(p.pin (b,o) (Z2 _ (Z2 _ (iX hb e)))).1,λb hb=>?_,w7⟩;obtain⟨o,e,d⟩:=T.obj _ _ t b hb;exact(p.pin (b,o) (Z2 _ (Z2 _ (iX hb e)))).2.1
  cases f with
  |next=>obtain⟨Z7,l,p,G⟩:=q;exact j p G
  |cont=>obtain⟨Z7,l,p,G⟩:=q;exact j p G
  |brk=>obtain⟨Z7,l,p,q⟩:=q;exact⟨Z7,l,p.tE,q⟩
  |ret v=>obtain⟨x7,Z7,l,p,r7,q⟩:=q;exact⟨x7,Z7,l,p.tE,r7,q⟩
def J3{K:W.Frag}{g:TG}{tb:TS}{D:Ends}(Pv:Nat->St->Hp->Prop)(h0:Pv 0 Z H)(hl:∀i Z H,i<=xs.length->Pv i Z H->aV K H a xs)
  (hs:∀i x Z H,xs[i]?=some x->Pv i Z H->g x Z H λZ2 H2=>tb { D with nx:=Pv (i+1),ct:=Pv (i+1),bk:=D.nx } Z2 H2) (hd:∀Z H,Pv xs.length Z H->D.nx Z H) :
  ∃W:Nat->Nat->St->Hp->Prop,(∃m,W 0 m Z H)/\∀i m Z H,W i m Z H ->
   ((Q7 K a).stop i H/\D.nx Z H)\/((Q7 K a).go i H/\∃N:St->Hp->Prop,(∀Z' H',N Z' H'->∃m',m'<m/\W (i+1) m' Z' H')/\∀x H',(Q7 K a).UO i H x H'->g x Z H' λZ2 H2=>tb { D with nx:=N,ct:=N,bk:=D.nx } Z2 H2):=by
 refine⟨λi m Z H=>m=xs.length-i/\i<=xs.length/\Pv i Z H,⟨xs.length,by simp,Z9 _,h0⟩,?_⟩;rintro i m Z H ⟨rfl,c,p⟩;have q:=hl i Z H c p;by_cases b:i<xs.length
 .refine .inr ⟨⟨xs,xs[i],q,by simp[b]⟩,Pv (i+1),λZ' H' d=>⟨xs.length-(i+1),by lia,rfl,b,d⟩,λx H' y=>?_⟩;obtain⟨e,y⟩:=y;subst e;exact hs i x Z _ (y xs q) p
 .have e:i=xs.length:=by lia
  subst e;exact .inl ⟨⟨xs,q,N0 _⟩,hd Z H p⟩
def Du{lo:Int}{g:TG}{tb:TS}{D:Ends}(Pv:Nat->St->Hp->Prop)(h0:Pv 0 Z H)
  (hs:∀i Z H,i<n->Pv i Z H->g (.int (lo+i)) Z H λZ2 H2=>tb { D with nx:=Pv (i+1),ct:=Pv (i+1),bk:=D.nx } Z2 H2) (hd:∀Z H,Pv n Z H->D.nx Z H) :
  ∃W:Nat->Nat->St->Hp->Prop,(∃m,W 0 m Z H)/\∀i m Z H,W i m Z H ->
   ((N5 lo n).stop i H/\D.nx Z H)\/((N5 lo n).go i H/\∃N:St->Hp->Prop,(∀Z' H',N Z' H'->∃m',m'<m/\W (i+1) m' Z' H')/\∀x H',(N5 lo n).UO i H x H'->g x Z H' λZ2 H2=>tb { D with nx:=N,ct:=N,bk:=D.nx } Z2 H2):=by
 refine⟨λi m Z H=>m=n-i/\i<=n/\Pv i Z H,⟨n,by simp,Z9 _,h0⟩,?_⟩;rintro i m Z H ⟨rfl,c,p⟩;by_cases a:i<n
 .refine .inr ⟨a,Pv (i+1),λZ' H' b=>⟨n-(i+1),by lia,rfl,a,b⟩,λx H' y=>?_⟩;obtain⟨e,y⟩:=y;subst e y;exact hs i Z _ a p
 .have e:i=n:=by lia
  subst e;exact .inl ⟨N0 _,hd Z H p⟩
abbrev R2:=V->V->Hp->VK->Prop
def mL(X:Cx)(f:Value->Value->Sem Value)(r:R2):Prop :=
 ∀a s Z H x y v u Q,Inv X a Z H s->RelV x v->RelV y u->r x y H Q ->
  wpAny (model X.prog X.w) X.A (f v u) (EP X a Z Q) X.xe s
def Zd(X:Cx)(f:Value->Sem Value)(r:V->Hp->VK->Prop):Prop :=
 ∀a s Z H x v Q,Inv X a Z H s->RelV x v->r x H Q ->
  wpAny (model X.prog X.w) X.A (f v) (EP X a Z Q) X.xe s
def gS(X:Cx)(f:Value)(r:q7->Hp->VK->Prop):Prop :=
 ∀a s Z H b us Q,Inv X a Z H s->Vals b us->r b H Q ->
  wpAny (model X.prog X.w) X.A (call f us) (EP X a Z Q) X.xe s
def Y9(X:Cx)(r:V->Hp->(Bool->Hp->Prop)->Prop):Prop :=
 ∀a s Z H x v Q,Inv X a Z H s->RelV x v->r x H Q ->
  wpAny (model X.prog X.w) X.A (truthy v) (TP X a Z Q) X.xe s
def Wf(r:R2)(ta tb:TE):TE:=λZ H Q=>ta Z H λx a=>tb Z a λy b=>r x y b Q
def tUn(r:V->Hp->VK->Prop)(ta:TE):TE:=λZ H Q=>ta Z H λx a=>r x a Q
inductive rI(C:Int->Int->Prop)(g:Int->Int->V):V->V->Hp->VK->Prop|mk{i j:_}{H Q:_}(_:C i j)(_:Q (g i j) H):rI C g (.int i) (.int j) H Q
def rI_i{C:Int->Int->Prop}{g:Int->Int->V}{x:V}{y:V}:rI C g x y H Q↔∃i j,x = .int i/\y = .int j/\C i j/\Q (g i j) H:=⟨λh=>by obtain@⟨i,j,_,_,h0,h1⟩:=h;exact⟨i,j,rfl,rfl,h0,h1⟩,λh=>by obtain⟨i,j,rfl,rfl,h0,h1⟩:=h;exact⟨h0,h1⟩⟩
inductive Ra(g:Int->Int->V):V->V->Hp->VK->Prop|mk{i j:_}{H Q:_}(_:Q (g i j) H):Ra g (.int i) (.int j) H Q
def Ra_i{g:Int->Int->V}{x:V}{y:V}:Ra g x y H Q↔∃i j,x = .int i/\y = .int j/\Q (g i j) H:=⟨λh=>by obtain@⟨i,j,_,_,h0⟩:=h;exact⟨i,j,rfl,rfl,h0⟩,λh=>by obtain⟨i,j,rfl,rfl,h0⟩:=h;exact⟨h0⟩⟩
inductive rU(g:Int->V):V->Hp->VK->Prop|mk{i:_}{H Q:_}(_:Q (g i) H):rU g (.int i) H Q
section
variable {a b c:Expr}{ta tb tc:TE}
def T8(ha:PE X a ta)(hb:PE X b tb){R:V->V->Hp->Prop}(I:Inv X am Z H s)
  (h:ta Z H λx H1=>tb Z H1 λy H2=>R x y H2)  {f:Value->Value->Sem Value}
  (hf:∀v u s2 x y H2,Inv X am Z H2 s2->RelV x v->RelV y u->R x y H2->wpAny (model X.prog X.w) X.A (f v u) Q X.xe s2) :
  wpAny (model X.prog X.w) X.A (eval a X.env) (λv s₁=>wpAny (model X.prog X.w) X.A (eval b X.env) (λu s₂=>wpAny (model X.prog X.w) X.A (f v u) Q X.xe s₂) X.xe s₁) X.xe s:=by
 refine dS (ha am s Z H _ I h) λv d  c=>?_;obtain⟨x,H1,e,g,i⟩:=c;refine dS (hb am d Z H1 _ e i) λu s2  c=>?_;obtain⟨y,H2,j,l,n⟩:=c;exact hf v u s2 x y H2 j g l n
def aK{op:Operator}{r:R2}(ho:mL X (binaryOp op) r)(ha:PE X a ta)(hb:PE X b tb):PE X (.BinOp a op b pos) (Wf r ta tb):=by intro c s Z H Q I h;exact wpAny_BinOp (T8 ha hb I h λv u d x y e f g i q=>ho c d Z e x y v u Q f g i q)
def iQ{op:UnaryOp}{r:V->Hp->VK->Prop}(ho:Zd X (unaryOp op) r)(ha:PE X a ta):PE X (.UnaryOp op a pos) (tUn r ta):=by intro b s Z H Q I h;exact UnaryOp_ (dS (ha b s Z H _ I h) λv c ⟨x,d,e,f,g⟩=>ho b c Z d x v Q e f g)
def YM{C:Int->Int->Prop}{g:Int->Int->Int}
  (rule:∀(i j:Int) (t u:Tok) (s:Shared) (Q:Value->Shared->Prop) (E:Value->Shared->Prop),C i j->Q (.int (g i j) s.toks) { s with toks:=s.toks+1 }->wpAny (model X.prog X.w) X.A (f (.int i t) (.int j u)) Q E s) :
  mL X f (rI C λi j=>.int (g i j)):=by
 intro a s Z H x y v u Q I b c h;obtain@⟨i,j,_,_,d,q⟩:=h;obtain⟨t,rfl⟩:=b;obtain⟨e,rfl⟩:=c;exact rule i j t e s _ _ d ⟨.int (g i j),H,I.tok _,⟨_,rfl⟩,q⟩
def Xe{g:Int->Int->Int}
  (rule:∀(i j:Int) (t u:Tok) (s:Shared) (Q:Value->Shared->Prop) (E:Value->Shared->Prop),Q (.int (g i j) s.toks) { s with toks:=s.toks+1 }->wpAny (model X.prog X.w) X.A (f (.int i t) (.int j u)) Q E s) :
  mL X f (Ra λi j=>.int (g i j)):=by
 intro a s Z H x y v u Q I b c h;obtain@⟨i,j,_,_,q⟩:=h;obtain⟨t,rfl⟩:=b;obtain⟨d,rfl⟩:=c;exact rule i j t d s _ _ ⟨.int (g i j),H,I.tok _,⟨_,rfl⟩,q⟩
def UH{g:Int->Int->Bool}
  (rule:∀(i j:Int) (t u:Tok) (s:Shared) (Q:Value->Shared->Prop) (E:Value->Shared->Prop),Q (.bool (g i j)) s->wpAny (model X.prog X.w) X.A (f (.int i t) (.int j u)) Q E s) :
  mL X f (Ra λi j=>.bl (g i j)):=by
 intro a s Z H x y v u Q I b c h;obtain@⟨i,j,_,_,q⟩:=h;obtain⟨t,rfl⟩:=b;obtain⟨d,rfl⟩:=c;exact rule i j t d s _ _ ⟨.bl (g i j),H,I,rfl,q⟩
def YV(i j:Int):Prop:=0<j/\j<1073741824
def UK(i j:Int):Prop:=(-(2 ^ 64)<i/\i<2 ^ 64)\/(-(2 ^ 64)<j/\j<2 ^ 64)
def UK.ok(h:UK i j):IntMulOk i j:=by
 rcases h with ⟨a,b⟩|⟨a,b⟩
 .exact .of_left (intBits_le_64 a b)
 .exact .of_right (intBits_le_64 a b)
def A8(k:Nat):(0:Int)<=2 ^ k:=by rw[two_pow_cast];exact Int.natCast_nonneg _
def bh:mL X (binaryOp .Add) (Ra λi j=>.int (i+j)):=Xe λ_ _ _ _ _ _ _ q=>add_int q
def cQ:mL X (binaryOp .Sub) (Ra λi j=>.int (i-j)):=Xe λ_ _ _ _ _ _ _ q=>sub_int q
def jN:mL X (binaryOp .Mult) (rI UK λi j=>.int (i*j)):=YM λ_ _ _ _ _ _ _ a q=>mul_int q a.ok
def Mu:mL X (binaryOp .FloorDiv) (rI YV λi j=>.int (i / j)):=YM λi j _ _ _ _ _ a q=>by have b:=a.1;have c:=a.2;exact floordiv_int (by lia) (by rw[Int.fdiv_eq_ediv_of_nonneg i (by lia)];exact q) (.inl (PyProof.noPylong_small (by omega)))
def kE:mL X (binaryOp .Mod) (rI (λ_ j=>0<j) λi j=>.int (i % j)):=YM λi j _ _ _ _ _ a q=>by exact mod_int' (by lia) (by rw[Int.fmod_eq_emod_of_nonneg i (by lia)];exact q)
def VQ:mL X (binaryOp .RShift) (rI (λ_ j=>0<=j) λi j=>.int (i / 2 ^ j.toNat)):=YM λi j _ _ _ _ _ a q =>
 rshift_int a (by rw[Int.fdiv_eq_ediv_of_nonneg i (A8 _)];exact q)
def unI{g:Int->Int}
  (rule:∀(i:Int) (t:Tok) (s:Shared) (Q:Value->Shared->Prop) (E:Value->Shared->Prop),Q (.int (g i) s.toks) { s with toks:=s.toks+1 }->wpAny (model X.prog X.w) X.A (f (.int i t)) Q E s) :
  Zd X f (rU λi=>.int (g i)):=by
 intro a s Z H x v Q I b h;obtain@⟨i,_,_,q⟩:=h;obtain⟨t,rfl⟩:=b;exact rule i t s _ _ ⟨.int (g i),H,I.tok _,⟨_,rfl⟩,q⟩
def fT:Zd X (unaryOp .USub) (rU λi=>.int (-i)):=unI λ_ _ _ _ _ q=>neg_int q
end
noncomputable def Yo:V->V->Bool
 |.dj,.dj=>true | .dj,.int _=>true | .int _,.dj=>true | .dj,.bl _=>true | .bl _,.dj=>true | .dj,.str _=>true | .str _,.dj=>true
 |.int _,.int _=>true | .bl _,.bl _=>true | .str _,.str _=>true | .byt _,.byt _=>true
 |.int _,.str _=>true | .str _,.int _=>true | .bl _,.str _=>true | .str _,.bl _=>true
 |_,_=>false
inductive rEq(x:V)(y:V)(H:Hp)(Q:VK):Prop|mk(_:Yo x y=true)(_:Q (.bl (decide (x=y))) H)
def rEq_i{x:V}{y:V}:rEq x y H Q↔Yo x y=true/\Q (.bl (decide (x=y))) H:=by constructor <;> intro h <;> obtain⟨a,b⟩:=h <;> exact⟨a,b⟩
inductive rNe(x:V)(y:V)(H:Hp)(Q:VK):Prop|mk(_:Yo x y=true)(_:Q (.bl (!decide (x=y))) H)
def Bj:decide (V.int i=V.int j)=(i == j):=by rw[af5];simp
def G7:decide (V.bl i=V.bl j)=(i == j):=by rw[af5];simp
def CJ:decide (V.str i=V.str j)=(i == j):=by rw[af5];simp
def BC:decide (V.byt i=V.byt j)=(i.toList == j.toList):=by rw[af5];cases i;cases j;simp
section
variable {a b c:Expr}{ta tb tc:TE}
def cH(I:Inv X am Z H s)(q:Q (.bl k) H)(e:k=k'):EP X am Z Q (.bool k') s:=by subst e;exact⟨.bl k,H,I,rfl,q⟩
def cC:mL X (compareOp .Eq) rEq:=by
 intro e s Z H x y v u Q I d a h;obtain⟨c,q⟩:=h;cases x with
 |dj =>
  cases d;cases y with
  |dj=>cases a;exact EqNone.eq_none_none (cH I q (by simp))
  |bl j=>cases a;exact EqNone.eq_none_bool (cH I q (by simp))
  |int j=>obtain⟨b,rfl⟩:=a;exact EqNone.eq_none_int (cH I q (by simp))
  |str j=>obtain⟨b,rfl⟩:=a;exact EqNone.eq_none_str (cH I q (by simp))
  |_=>exact absurd (show false=true from c) Z7
 |bl i =>
  cases d;cases y with
  |dj=>cases a;exact EqNone.eq_bool_none (cH I q (by simp))
  |bl j=>cases a;exact eq_bool (cH I q G7)
  |str j=>obtain⟨b,rfl⟩:=a;exact EqMixed.eq_bool_str (cH I q (by simp))
  |_=>exact absurd (show false=true from c) Z7
 |int i =>
  obtain⟨t,rfl⟩:=d;cases y with
  |dj=>cases a;exact EqNone.eq_int_none (cH I q (by simp))
  |int j=>obtain⟨b,rfl⟩:=a;exact eq_int (cH I q Bj)
  |str j=>obtain⟨b,rfl⟩:=a;exact EqMixed.eq_int_str (cH I q (by simp))
  |_=>exact absurd (show false=true from c) Z7
 |str i =>
  obtain⟨t,rfl⟩:=d;cases y with
  |dj=>cases a;exact EqNone.eq_str_none (cH I q (by simp))
  |bl j=>cases a;exact EqMixed.eq_str_bool (cH I q (by simp))
  |int j=>obtain⟨b,rfl⟩:=a;exact EqMixed.eq_str_int (cH I q (by simp))
  |str j=>obtain⟨b,rfl⟩:=a;exact eq_str (cH I q CJ)
  |_=>exact absurd (show false=true from c) Z7
 |byt i =>
  obtain⟨t,rfl⟩:=d;cases y with
  |byt j=>obtain⟨b,rfl⟩:=a;exact W.eq_bytes (cH I q BC)
  |_=>exact absurd (show false=true from c) Z7
 |_=>cases y <;> exact absurd (show false=true from c) Z7
def tX:mL X (compareOp .NotEq) rNe:=by
 intro e s Z H x y v u Q I d a h;obtain⟨c,q⟩:=h;cases x with
 |dj =>
  cases d;cases y with
  |dj=>cases a;exact EqNone.ne_none_none (cH I q (by simp))
  |bl j=>cases a;exact EqNone.ne_none_bool (cH I q (by simp))
  |int j=>obtain⟨b,rfl⟩:=a;exact EqNone.ne_none_int (cH I q (by simp))
  |str j=>obtain⟨b,rfl⟩:=a;exact EqNone.ne_none_str (cH I q (by simp))
  |_=>exact absurd (show false=true from c) Z7
 |bl i =>
  cases d;cases y with
  |dj=>cases a;exact EqNone.ne_bool_none (cH I q (by simp))
  |bl j=>cases a;exact ne_bool (cH I q (ac7 not G7))
  |str j=>obtain⟨b,rfl⟩:=a;exact EqMixed.ne_bool_str (cH I q (by simp))
  |_=>exact absurd (show false=true from c) Z7
 |int i =>
  obtain⟨t,rfl⟩:=d;cases y with
  |dj=>cases a;exact EqNone.ne_int_none (cH I q (by simp))
  |int j=>obtain⟨b,rfl⟩:=a;exact ne_int (cH I q (ac7 not Bj))
  |str j=>obtain⟨b,rfl⟩:=a;exact EqMixed.ne_int_str (cH I q (by simp))
  |_=>exact absurd (show false=true from c) Z7
 |str i =>
  obtain⟨t,rfl⟩:=d;cases y with
  |dj=>cases a;exact EqNone.ne_str_none (cH I q (by simp))
  |bl j=>cases a;exact EqMixed.ne_str_bool (cH I q (by simp))
  |int j=>obtain⟨b,rfl⟩:=a;exact EqMixed.ne_str_int (cH I q (by simp))
  |str j=>obtain⟨b,rfl⟩:=a;exact ne_str (cH I q (ac7 not CJ))
  |_=>exact absurd (show false=true from c) Z7
 |byt i =>
  obtain⟨t,rfl⟩:=d;cases y with
  |byt j=>obtain⟨b,rfl⟩:=a;exact W.ne_bytes (cH I q (ac7 not BC))
  |_=>exact absurd (show false=true from c) Z7
 |_=>cases y <;> exact absurd (show false=true from c) Z7
def fX:mL X (compareOp .Lt) (Ra λi j=>.bl (decide (i<j))):=UH λ_ _ _ _ _ _ _ q=>lt_int q
def j9:mL X (compareOp .Gt) (Ra λi j=>.bl (decide (j<i))):=UH λ_ _ _ _ _ _ _ q=>gt_int q
def xS:mL X (compareOp .GtE) (Ra λi j=>.bl (decide (j<=i))):=UH λ_ _ _ _ _ _ _ q=>ge_int q
def kP:mL X (compareOp .In) (λx y H Q=>∃i j,x = .str i/\y = .str j/\Q (.bl (!(Builtin.Str.occurrences j i 0 j.length 1).isEmpty)) H):=by intro a s Z H x y v u Q I b c h;obtain⟨i,j,rfl,rfl,q⟩:=h;obtain⟨t,rfl⟩:=b;obtain⟨d,rfl⟩:=c;exact in_str (cH I q rfl)
def we:mL X (compareOp .Is) (λx y H Q=>y = .dj/\Q (.bl (decide (x = .dj))) H):=by
 intro a s Z H x y v u Q I b c h;obtain⟨rfl,q⟩:=h;cases c;refine is_none_gen (cH I q ?_);cases x <;> first
  | (cases b;rfl)
  | (obtain⟨t,rfl⟩:=b;rfl)
def nR:mL X (compareOp .IsNot) (λx y H Q=>y = .dj/\Q (.bl (!decide (x = .dj))) H):=by
 intro a s Z H x y v u Q I b c h;obtain⟨rfl,q⟩:=h;cases c;refine isnot_none_gen (cH I q ?_);cases x <;> first
  | (cases b;rfl)
  | (obtain⟨t,rfl⟩:=b;rfl)
def w9:mL X (compareOp .NotIn) (λx y H Q=>∃i j,x = .str i/\y = .str j/\Q (.bl (!(!(Builtin.Str.occurrences j i 0 j.length 1).isEmpty))) H):=by intro a s Z H x y v u Q I b c h;obtain⟨i,j,rfl,rfl,q⟩:=h;obtain⟨t,rfl⟩:=b;obtain⟨d,rfl⟩:=c;exact notIn_str (cH I q rfl)
def aE(b:Expr)(h:autoParam (op ≠ .In) cw._auto_1)(h2:autoParam (op ≠ .NotIn) cw._auto_1):behindInMarks op b=false:=by
 have a:(op == CmpOp.In)=false:=by cases op <;> first | rfl | exact absurd rfl h
 have c:(op == CmpOp.NotIn)=false:=by cases op <;> first | rfl | exact absurd rfl h2
 cases b <;> simp[behindInMarks,a,c]
def eW{op:CmpOp}{r:R2}(ho:mL X (compareOp op) r)(ha:PE X a ta)(hb:PE X b tb)(hm:behindInMarks op b=false):PE X (.Compare a [op] [b] pos) (Wf r ta tb):=by intro c s Z H Q I h;exact wpAny_Compare1 (T8 ha hb I h λv u d x y e f g i q=>ho c d Z e x y v u Q f g i q) hm
def aA{op:CmpOp}{r:R2}(ho:mL X (compareOp op) r)(ha:PE X a ta)(hb:PE X b tb)(hm:behindInMarks op b=false):PT X (.Compare a [op] [b] pos) (tB (Wf r ta tb)):=by
 intro d s Z H Q I h;refine wpAny_isTrue_Compare1 (dS (ha d s Z H _ I h) λv f ⟨x,g,i,j,l⟩=>dS (hb d f Z g _ i l) λu n ⟨y,o,p,q,t⟩ =>
  dS (ho d n Z o x y v u _ p j q t) λc D ⟨z,w,A,B,e⟩=>?_) hm
 obtain⟨k,rfl,C⟩:=WD_i.mp e;cases B;exact af4 ⟨w,A,C⟩
def WI(K:W.Frag)(x:V)(H:Hp)(k:Bool):Prop :=
 match x with
 |.dj=>k=false
 |.bl b=>k=b
 |.int i=>k=(i != 0)
 |.str y=>y.length<=sizeLine/\k=((y.length:Int) != 0)
 |.byt y=>y.size<=sizeLine/\k=((y.size:Int) != 0)
 |.ref p=>(∃a,aV K H p a/\k = !a.isEmpty)\/(∃a,bT K H p a/\k = !a.isEmpty)\/∃c,H p=some (.dK c)/\k = !c.isEmpty
 |_=>False
def Ac(r:KV kvs vs):(!vs.isEmpty) = !kvs.isEmpty:=by cases r <;> rfl
def tO(r:Vals xs its):(!its.toArray.isEmpty) = !xs.isEmpty:=by cases r <;> simp
def o7:(sizeLine:Nat)<2 ^ 63:=by rw[ad0];decide
def TR:Y9 X (λx H Q=>∃k,WI X.K x H k/\Q k H):=by
 intro o s Z H x v Q I g h;obtain⟨k,e,q⟩:=h;have B:=ad0;cases x with
 |dj =>
  cases g;have a:=e;subst a;exact truthy_none ⟨H,I,q⟩
 |bl b =>
  cases g;have a:=e;subst a;exact af4 ⟨H,I,q⟩
 |int i =>
  obtain⟨t,rfl⟩:=g;have a:=e;subst a;exact P.truthy_int ⟨H,I,q⟩
 |str y =>
  obtain⟨t,rfl⟩:=g;obtain⟨z,a⟩:y.length<=sizeLine/\k=((y.length:Int) != 0):=e;subst a;exact P.truthy_str (by lia) ⟨H,I.tok _,q⟩
 |byt y =>
  obtain⟨t,rfl⟩:=g;obtain⟨z,a⟩:y.size<=sizeLine/\k=((y.size:Int) != 0):=e;subst a;exact W.truthy_bytes (by lia) ⟨H,I.tok _,q⟩
 |ref p =>
  cases g;have a:=e;rcases a with ⟨f,j,a⟩|⟨f,j,a⟩|⟨c,j,a⟩
  .subst a;obtain⟨l,r,n,u⟩:=I.list j;have d:=r.length;exact wpAny_truthy_list n.isList (by simp only[T1];lia) ⟨H,I.tok _,by rw[tO r];exact q⟩
  .subst a;obtain⟨l,r,n,u⟩:=I.tuple j;have d:=r.length;exact truthy_tuple n (by simp only[T1];lia) ⟨H,I.tok _,by rw[tO r];exact q⟩
  .subst a;obtain⟨u,A,vs,r,m⟩:c.length<=sizeLine/\(p == sysModules)=false/\∃vs,KV c vs/\s.heap.DictOf (cJ X.prog X.w) p vs:=I.ba p _ j;have d:=Paired.length r;exact wpAny_truthy_dict A m (by lia) ⟨H,I.tok _,by rw[Ac r];exact q⟩
 |_=>exact(show False from e).elim
def gc(ha:PE X a ta)(he:∀whole,isTrue a X.env whole=(do let v <- whole;standAt a.pos;holding [v] (truthy v))) :
  PT X a (λZ H Q=>ta Z H λx H'=>∃k,WI X.K x H' k/\Q k H'):=by
 intro b s Z H Q I h;exact isTrue_plain (dS (ha b s Z H _ I h) λv c ⟨x,d,e,f,g⟩=>TR b c Z d x v Q e f g) (he _)
def bY:mL X (binaryOp .Add) (λx y H Q=>∃i j,x = .str i/\y = .str j/\i.length+j.length<=sizeLine/\Q (.str (i++j)) H):=by intro a s Z H x y v u Q I b c h;obtain⟨i,j,rfl,rfl,d,q⟩:=h;obtain⟨t,rfl⟩:=b;obtain⟨e,rfl⟩:=c;exact add_str (λe f=>⟨.str (i++j),H,I.tok _,⟨_,rfl⟩,q⟩) d
def vals1(r:Vals [x] us):∃u,us=[u]/\RelV x u:=by
 cases r with
 |cons r1 r2=>cases r2;exact⟨_,rfl,r1⟩
def vals2(r:Vals [x,y] us):∃u w',us=[u,w']/\RelV x u/\RelV y w':=by
 cases r with
 |cons r1 r2 =>
  cases r2 with
  |cons r3 r4=>cases r4;exact⟨_,_,rfl,r1,r3⟩
def CV (hc:X.aw=true):gS X (.builtin "max") (λxs H Q=>∃i j,xs=[.int i,.int j]/\Q (.int (if j>i then j else i)) H):=by
 intro b s Z H xs us Q I r h;obtain⟨i,j,rfl,q⟩:=h;obtain⟨u,c,rfl,⟨t,rfl⟩,⟨d,rfl⟩⟩:=vals2 r;refine max_two_ints (I.ok.hd hc) λe f k=>⟨_,H,I.kept k,?_,q⟩
 by_cases a:j>i
 .rw[w4 a,w4 a];exact⟨_,rfl⟩
 .rw[C5 a,C5 a];exact⟨_,rfl⟩
def vE (hc:X.aw=true):gS X (.builtin "min") (λxs H Q=>∃i j,xs=[.int i,.int j]/\Q (.int (if j<i then j else i)) H):=by
 intro b s Z H xs us Q I r h;obtain⟨i,j,rfl,q⟩:=h;obtain⟨u,c,rfl,⟨t,rfl⟩,⟨d,rfl⟩⟩:=vals2 r;refine min_two_ints (I.ok.hd hc) λe f k=>⟨_,H,I.kept k,?_,q⟩
 by_cases a:j<i
 .rw[w4 a,w4 a];exact⟨_,rfl⟩
 .rw[C5 a,C5 a];exact⟨_,rfl⟩
def CW:gS X (.type "int") (λxs H Q=>(∃i,xs=[.int i]/\Q (.int i) H)\/∃k,xs=[.bl k]/\Q (.int (if k then 1 else 0)) H):=by
 intro a s Z H xs us Q I r h;rcases h with ⟨i,rfl,q⟩|⟨k,rfl,q⟩
 .obtain⟨u,rfl,t,rfl⟩:=vals1 r;exact call_int_int ⟨.int i,H,I,⟨_,rfl⟩,q⟩
 .obtain⟨u,rfl,b⟩:=vals1 r;cases b;exact call_int_bool ⟨.int (if k then 1 else 0),H,I.tok _,⟨_,rfl⟩,q⟩
end
structure z8(h:Heap)(x dx C:Addr)(mA:g6):Prop where
 obj:h.get? x=some (W.instObj C dx)
 ns:h.Ns1 dx mA
 ne:dx≠x
def vJ(n:h.Ns1 dx mA):∃od,h.get? dx=some od/\∀name,W.lookIn name od=some (mA name):=by
 obtain⟨o,c,p,d,f,g,_,i⟩:=n;refine⟨o,d,λname=>?_⟩;have e:=i name;unfold nsFind findBy at e;rw[<- Array.find?_toList] at e;unfold W.lookIn;rw[f];dsimp only;split
 .rename_i y q;rw[q] at e;exact ac7 some e
 .rename_i q;rw[q] at e;have a:c.toList.any (·.refKey)=false:=by rw[List.any_eq_false];intro y j;obtain⟨z,t,b⟩:=g y (Array.mem_toList_iff.mp j);simp[DictEntry.refKey,b]
  have l:¬c.toList.any (·.refKey)=true:=a▸Z7
  rw[C5 l];exact ac7 some e
def z8.look(I:z8 h x dx C mA):∃od,W.InstAt h x (W.instObj C dx) C (some od)/\∀name,W.lookIn name od=some (mA name) :=
 let ⟨od,ho,hl⟩:=vJ I.ns
 ⟨od,⟨I.obj,rfl,rfl,ho⟩,hl⟩
section
variable {E:Value->Shared->Prop}{K:PySem.W.Frag}{x f:Addr}{mA:g6}{v:Value}
def get_map(X:K.In s.heap)(I:z8 s.heap x dx C mA)(hg:W.plainGet K C name=true)(hh:W.hasDictIn K C=true)
  (ha:W.findIn K (.ref C) name=some none) (hv:mA name=some v) (hv':W.handedIn v=true) (h:Q v { s with toks:=s.toks+1 }) :
  wpAny (model prog w) A (getAttr (.ref x) name expr) Q E s:=by
 obtain⟨a,J,hl⟩:=I.look;exact W.get_value X J (W.plainGet_of hg).1 (W.findObj_own hh ha rfl (by rw[hl,hv])) hv' h
def FE(X:K.In s.heap)(I:z8 s.heap x dx C mA)(hg:W.plainGet K C name=true)
  (hf:W.findIn K (.ref C) name=some (some (.ref f))) (ht:W.isFn K (.ref f)=true) (hv:mA name=none) (h:Q (.ref f,[.ref x]) s) :
  wpAny (model prog w) A (getMethod (.ref x) name pl) Q E s:=by
 obtain⟨a,J,hl⟩:=I.look;exact W.method_fn X J (W.plainGet_of hg).1 (W.plainGet_of hg).2 hf (beq_iff_eq.mp ht) (by show (W.lookIn name a).map (·.isSome)=some false;rw[hl,hv];rfl) h
def LL(X:K.In s.heap)(I:z8 s.heap x dx C mA)
  (hs:W.findIn K (.ref C) "__setattr__" = some (some (.builtin "object.__setattr__"))) (hp:W.plainOver K C=true) (ht:W.takerIn K C name=some none) (hh:W.hasDictIn K C=true)
  (hw:Within mA ns) (hsz:ns.length<=sizeLine)
  (h:∀h',z8 h' x dx C (λy=>if y=name then some v else mA y)->Heap.SameBut dx s.heap h'->Q () { s with heap:=h',toks:=s.toks+2 }) :
  wpAny (model prog w) A (setAttr (.ref x) name v) Q E s:=by
 obtain⟨o,J,hl⟩:=I.look;refine W.set_plain X J hs (W.osa_open (s:={ s with toks:=s.toks+1 }) (r:=none) X J hp ht λb=>?_);obtain⟨p,i,d⟩:=W.any_some hh;refine y0 (X2 (y0 (y0 (wpAny_loadPart I.obj (y0 (W.Looks.here (s:={ s with toks:=s.toks+1 }) (W.looks_clsIn X i) ?_))))));rw[d];refine X2 (a:=some dx) (y0 (X2 (y0 ?_)));refine wpAny_nsSet1 (s:={ s with toks:=s.toks+1 }) I.ns λh' hn2 c=>?_;obtain⟨q,l,n,e,f,g⟩:=hn2.count (Within.cons name v hw);refine y0 (wpAny_lookBehind e (f▸pastItsLine_dict (ac2 g (by rw[P3];lia))) ?_);exact X2 (h _ ⟨(c.2 _ (aa4 I.ne)).trans I.obj,hn2,I.ne⟩ c)
def Ii(X:K.In s.heap)(hm:W.makesIn K C=true)
  (hi:W.findIn K (.ref C) "__init__" = some (some (.ref f))) (hf:W.typeIn K (.ref f)=some (.type "function"))
  (h:codeAny (model prog w) (A.under (.builtin "type.__call__" ⟨.ref C::vs,kw⟩)) (.call (.ref f) ⟨.ref (s.heap.objs.size+1)::vs,kw⟩) (W.InitBack (s.heap.objs.size+1) R)
   { s with heap:=(s.heap.push W.emptyDict).push (W.instObj C s.heap.objs.size) }) :
  codeAny (model prog w) A (.call (.ref C) ⟨vs,kw⟩) R s:=by
 obtain⟨b,g,d,t,c⟩:=s;exact W.make_core (W.makes_of X hm) (W.looks_findIn X hi) (λa=>W.bind_fn X a hf) (.inl rfl) h
def Ec(X:K.In s.heap)(hm:W.makesIn K C=true)
  (hi:W.findIn K (.ref C) "__init__" = some (some (.builtin "object.__init__")))
  (hb:∀self,W.Looks (model prog w) s.heap (bindSpecial (.builtin "object.__init__") self) (.builtin "object.__init__",[self]))
  (h:codeAny (model prog w) (A.under (.builtin "type.__call__" ⟨[.ref C],[]⟩)) (.call (.builtin "object.__init__") ⟨[.ref (s.heap.objs.size+1)],[]⟩) (W.InitBack (s.heap.objs.size+1) R)
   { s with heap:=(s.heap.push W.emptyDict).push (W.instObj C s.heap.objs.size) }) :
  codeAny (model prog w) A (.call (.ref C) ⟨[],[]⟩) R s:=by
 obtain⟨a,g,d,t,b⟩:=s;exact W.make_core (W.makes_of X hm) (W.looks_findIn X hi) hb (.inr ⟨rfl,rfl⟩) h
end
noncomputable def dQ(f:Str)(v:V):List (Str×V)->List (Str×V)
 | []=>[(f,v)]
 | (g,x)::r=>if g=f then (g,v)::r else (g,x)::dQ f v r
theorem rm(f g:Str)(v:V):∀fs:List (Str×V),(dQ f v fs).lookup g=if g=f then some v else fs.lookup g
 | []=>by
  show List.lookup g [(f,v)]=_;by_cases h:g=f
  .simp only[List.lookup,beq_iff_eq.mpr h,w4 h]
  .simp only[List.lookup,beq_eq_false_iff_ne.mpr h,C5 h]
 | (k,x)::r=>by
  rw[show dQ f v ((k,x)::r)=(if k=f then (k,v)::r else (k,x)::dQ f v r) from rfl];by_cases a:k=f
  .rw[w4 a];by_cases h:g=k
   .simp only[List.lookup,beq_iff_eq.mpr h,w4 (h.trans a)]
   .simp only[List.lookup,beq_eq_false_iff_ne.mpr h,C5 (λe:g=f=>h (e.trans a.symm))]
  .rw[C5 a];by_cases h:g=k
   .simp only[List.lookup,beq_iff_eq.mpr h,C5 (λe:g=f=>a (h.symm.trans e))]
   .simp only[List.lookup,(beq_eq_false_iff_ne.mpr h)];exact (rm f g v r)
theorem qC(f:Str)(v:V):∀fs:List (Str×V),f∈(dQ f v fs).map (·.1)/\∀g,g∈fs.map (·.1)->g∈(dQ f v fs).map (·.1)
 | []=>⟨by simp[dQ],λg h=>by simp at h⟩
 | (k,x)::r=>by
  obtain⟨i1,i2⟩:=qC f v r;rw[show dQ f v ((k,x)::r)=(if k=f then (k,v)::r else (k,x)::dQ f v r) from rfl];by_cases a:k=f
  .rw[w4 a];subst a;exact⟨by simp,λg h=>by simpa using h⟩
  .rw[C5 a];refine⟨ab5▸Q1 _ i1,λg h=>?_⟩
   .rw[ab5] at h ⊢;rcases Z5.mp h with e|e
    .exact Z5.mpr (.inl e)
    .exact Q1 _ (i2 g e)
theorem qZ(f:Str)(v:V):∀fs:List (Str×V),(dQ f v fs).length<=fs.length+1
 | []=>by simp[dQ]
 | (k,x)::r=>by
  have ih:=qZ f v r;rw[show dQ f v ((k,x)::r)=(if k=f then (k,v)::r else (k,x)::dQ f v r) from rfl];by_cases a:k=f
  .rw[w4 a,P3,P3];lia
  .rw[C5 a,P3,P3];lia
def kC.some_of(r:kC (some v) o):∃u,o=some u/\RelV v u:=by
 cases o with
 |none=>exact(show False from r).elim
 |some u=>exact⟨u,rfl,r⟩
def kC.none_of(r:kC none o):o=none:=by
 cases o with
 |none=>rfl
 |some u=>exact(show False from r).elim
def D9(r:RelV v u):W.handedIn u=true:=by
 cases v with
 |dj=>cases (show u=Value.none from r);rfl
 |bl b=>cases (show u=Value.bool b from r);rfl
 |int i=>obtain⟨t,e⟩:=(show ∃t,u=Value.int i t from r);cases e;rfl
 |str x=>obtain⟨t,e⟩:=(show ∃t,u=Value.str x t from r);cases e;rfl
 |byt b=>obtain⟨t,e⟩:=(show ∃t,u=Value.bytes b t from r);cases e;rfl
 |flt b=>obtain⟨t,e⟩:=(show ∃t,u=Value.float b t from r);cases e;rfl
 |ref a=>cases (show u=Value.ref a from r);rfl
 |ty n=>cases (show u=Value.type n from r);rfl
section
variable {P:Program}{a:Addr}{fs fs':List (Str×V)}
def wA(ba:lR P w H h)(e:H a=s0 C dx fs):∃mA,z8 h a dx C mA/\(∀f,kC (fs.lookup f) (mA f))/\Within mA (fs.map (·.1))/\fs.length<=1000/\H dx=some (.own a):=by
 obtain⟨d,z,ne,b,mA,n,r,q⟩:=(show dz P w H h a (.ins C dx fs) from ba a _ e)
 exact⟨mA,⟨b,n,ne⟩,r,q,z,d⟩
end
structure pH(K:W.Frag)(C:Addr):Prop where
 pg:W.plainGet K C Str.empty=true
 hd:W.hasDictIn K C=true
 po:W.plainOver K C=true
 sa:W.findIn K (.ref C) "__setattr__" = some (some (.builtin "object.__setattr__"))
def pH.get{K:W.Frag}(c:pH K C)(f:Str):W.plainGet K C f=true:=c.pg
def b8(K:W.Frag)(C:Addr)(f:Str):Prop:=W.findIn K (.ref C) f=some none
def b8.WS{K:W.Frag}(n:b8 K C f):W.takerIn K C f=some none:=by unfold W.takerIn;rw[show W.findIn K (.ref C) f=some none from n];rfl
structure Meth(K:W.Frag)(C:Addr)(m:Str)(f:Addr):Prop where
 at_:W.findIn K (.ref C) m=some (some (.ref f))
 fn:W.isFn K (.ref f)=true
 kp:W.keepIn K (.ref f)=true
section
variable {a:Addr}{fs:List (Str×V)}{f:Str}{v:V}{E:Value->Shared->Prop}
def sR(I:Inv X am Z H s)(e:H a=s0 C dx fs)(c:pH X.K C)(n:b8 X.K C f)(l:fs.lookup f=some v)
  (h:∀u s',Inv X am Z H s'->RelV v u->Q u s'):wpAny (model X.prog X.w) A (getAttr (.ref a) f b) Q E s:=by
 obtain⟨g,O,r,_,_,_⟩:=wA I.ba e;obtain⟨u,i,d⟩:=kC.some_of (v:=v) (o:=g f) (l▸r f);exact get_map I.uG O (c.get f) c.hd n i (D9 d) (h u _ (I.tok _) d)
def mh(I:Inv X am Z H s)(e:H a=s0 C dx fs)(c:pH X.K C)(k:Meth X.K C m g)(l:fs.lookup m=none)
  (h:Q (.ref g,[.ref a]) s):wpAny (model X.prog X.w) A (getMethod (.ref a) m pl) Q E s:=by
 obtain⟨b,O,r,_,_,_⟩:=wA I.ba e;exact FE I.uG O (c.get m) k.at_ k.fn (kC.none_of (l▸r m)) h
def tS(I:Inv X am Z H s)(e:H a=s0 C dx fs)(c:pH X.K C)(n:b8 X.K C f)(hl:fs.length<1000)(ry:RelV y u)
  (h:∀s',Inv X am Z (ag H a (.ins C dx (dQ f y fs))) s'->Q () s'):wpAny (model X.prog X.w) A (setAttr (.ref a) f u) Q E s:=by
 obtain⟨i,O,r,j,_,l⟩:=wA I.ba e;have p:(fs.map (·.1)).length<=sizeLine:=by rw[d5,ad0];lia
 refine LL I.uG O c.sa c.po n.WS c.hd j p λt d v=>h _ ?_;have B:∃o,t.get? dx=some o:=let ⟨o,_,_,e',_⟩:=d.ns;⟨o,e'⟩;refine I.write (x:=a) (e:=dx) (e▸True.intro) (.inr l) (λb q D z=>(v.2 b D).trans z) B ?_;refine⟨by rw[aj O.ne];exact l,by have:=qZ f y fs;lia,O.ne,d.obj,_,d.ns,λg=>?_,λg F=>?_⟩
 .show kC ((dQ f y fs).lookup g) (if g=f then some u else i g);rw[rm];by_cases q:g=f
  .rw[w4 q,w4 q];exact ry
  .rw[C5 q,C5 q];exact r g
 .by_cases q:g=f
  .exact q▸(qC f y fs).1
  .refine(qC f y fs).2 g (j g λz=>F ?_);show (if g=f then some u else i g)=none;rw[C5 q];exact z
def Inv.made(I:Inv X am Z H s):Inv X am Z (ag (ag H s.heap.objs.size (.own (s.heap.objs.size+1))) (s.heap.objs.size+1) (.ins C s.heap.objs.size []))
  { s with heap:=(s.heap.push W.emptyDict).push (W.instObj C s.heap.objs.size) }:=by
 have c:(s.heap.push W.emptyDict).get? s.heap.objs.size=some W.emptyDict:=aa5 s.heap rfl;have d:((s.heap.push W.emptyDict).push (W.instObj C s.heap.objs.size)).get? (s.heap.objs.size+1)=some (W.instObj C s.heap.objs.size):=by have:=aa5 (s.heap.push W.emptyDict) (o:=W.instObj C s.heap.objs.size) rfl;rwa [ai8] at this
 refine (I.laid (a:=s.heap.objs.size) (o:=.own (s.heap.objs.size+1)) (h':=s.heap.push W.emptyDict) (t':=s.toks) (λb u q=>x0 _ q) (N0 _) ⟨_,c⟩).laid (a:=s.heap.objs.size+1) (o:=.ins C s.heap.objs.size []) (t':=s.toks) (λb u q=>x0 _ q) (ap0 (ai8 _ _)) ?_;have ne:s.heap.objs.size≠s.heap.objs.size+1:=Z6 (ak1 _);refine⟨by rw[aj ne,aa],Z9 _,ne,d,λ_=>none,(Heap.Ns1.of_empty ⟨W.emptyDict,#[],_,c,rfl,(λe g=>absurd g (by simp)),λ_=>rfl⟩).at λo q=>x0 _ q,λ_=>True.intro,λy i=>absurd rfl i⟩
def Lx(hb:attributeBase e f env (eval e env)=eval e env)
  (h:wpAny (model prog w) A (eval e env) (λo s₁=>wpAny (model prog w) A (getAttr o f true) Q E s₁) E s):wpAny (model prog w) A (eval (.Attribute e f pos) env) Q E s :=
 Attribute_any_ h (by rw[arm_eval_Attribute,hb])
end
inductive isF(K:W.Frag)(f:Str):V->Hp->VK->Prop|mk{a C dx fs v:_}{H Q:_}(_:H a=s0 C dx fs)(_:pH K C)(_:b8 K C f)(_:fs.lookup f=some v)(_:Q v H):isF K f (.ref a) H Q
def isF_i{K:W.Frag}{f:Str}{x:V}:isF K f x H Q↔∃a C dx fs v,x = .ref a/\H a=s0 C dx fs/\pH K C/\b8 K C f/\fs.lookup f=some v/\Q v H:=⟨λh=>by obtain@⟨a,C,dx,fs,v,_,_,h0,h1,h2,h3,h4⟩:=h;exact⟨a,C,dx,fs,v,rfl,h0,h1,h2,h3,h4⟩,λh=>by obtain⟨a,C,dx,fs,v,rfl,h0,h1,h2,h3,h4⟩:=h;exact⟨h0,h1,h2,h3,h4⟩⟩
def U6(K:W.Frag)(ta:TE)(f:Str):TE:=λZ H Q=>ta Z H λx a=>isF K f x a Q
def YZ(K:W.Frag)(ta tv:TE)(f:Str):TS:=λD Z H=>tv Z H λy d=>ta Z d λx b=>∃a C c fs,x = .ref a/\b a=s0 C c fs/\pH K C/\b8 K C f/\fs.length<1000 /\
 D.nx Z (ag b a (.ins C c (dQ f y fs)))
def XX(X:Cx)(op:Operator)(rd:V->V->Hp->VK->Prop):Prop :=
 ∀a s Z H x y u v Q,Inv X a Z H s->RelV x u->RelV y v->rd x y H Q->wpAny (model X.prog X.w) X.A (inplaceOp op u v) (EP X a Z Q) X.xe s
def Li(K:W.Frag)(ta tv:TE)(rd:V->V->Hp->VK->Prop)(f:Str):TS:=λD Z H=>ta Z H λx d=>∃a C g fs v,x = .ref a/\d a=s0 C g fs/\pH K C/\b8 K C f/\fs.lookup f=some v /\
 tv Z d λy h=>rd v y h λz e=>∃c b,e a=s0 C c b/\b.length<1000/\D.nx Z (ag e a (.ins C c (dQ f z b)))
section
variable {o e:Expr}{f:Str}{tpos:Pos}{ta tv:TE}
def aM(he:PE X e ta)(hb:attributeBase e f X.env (eval e X.env)=eval e X.env):PE X (.Attribute e f pos) (U6 X.K ta f):=by intro b s Z H Q I h;refine Lx hb (dS (he b s Z H _ I h) λu w  d=>?_);obtain⟨x,g,i,j,w0⟩:=d;obtain⟨a,C,y,fs,v,o,p,c,n,l,q⟩:=isF_i.mp w0;subst o;obtain rfl:u=Value.ref a:=j;exact sR i p c n l λz A r t=>⟨v,g,r,t,q⟩
def b6(ha:PE X o ta)(hv:PE X value tv)(hs:swapsWith value (some (.Attribute o f pos')) pos.line X.env=pure false):PS X (.Assign [.Attribute o f pos'] value pos) (YZ X.K ta tv f):=by intro b s Z H D I h;refine plainObj_wpAny_Assign_Attribute (dS (hv b s Z H _ I h) λu d ⟨y,e,g,i,q⟩=>dS (ha b d Z e _ g q) λj B p=>?_) hs;obtain⟨x,E,r,t,a,C,F,fs,v,w,c,n,l,z⟩:=p;subst v;obtain rfl:j=Value.ref a:=t;exact tS r w c n l i λG A=>⟨Z,_,A,z⟩
def Ds(ha:PE X o ta)(hv:PE X value tv)(hop:XX X op rd):PS X (.AugAssign (.Attribute o f tpos) op value pos) (Li X.K ta tv rd f):=by intro b s Z H D I h;refine wpAny_AugAssign_AttributeAny (dS (ha b s Z H _ I h) λg U  d=>?_);obtain⟨x,i,j,p,a,C,W,fs,v,r,t,c,n,l,q⟩:=d;subst r;obtain rfl:g=Value.ref a:=p;refine sR j t c n l λu w A B=>dS (hv b w Z i _ A q) λE F ⟨y,G,J,L,M⟩=>dS (hop b F Z G v y u E _ J B L M) λY s4  d=>?_;obtain⟨z,H3,N,O,P,Q,e,R,S⟩:=d;exact tS N e c n R O λs5 T=>⟨Z,_,T,S⟩
inductive Y6(x:V)(y:V)(H:Hp)(Q:VK):Prop|mk(i j)(_:x = .int i)(_:y = .int j)(_:Q (.int (i+j)) H)
def Uu:XX X .Add Y6:=by
 rintro a s Z H x y u v Q I c d ⟨i,j,rfl,rfl,q⟩;obtain⟨t,rfl⟩:=(show ∃t,u=Value.int i t from c)
 obtain⟨b,rfl⟩:=(show ∃b,v=Value.int j b from d)
 exact PyProof.Rows.iadd_int ⟨.int (i+j),H,I.tok _,⟨_,rfl⟩,q⟩
end
structure gI(k:Nat)(A:Around):Prop where
 hd:A.handled=none
 dp:A.depth+3*k+5<recursionLimit
 un:A.units+16*k+200<cLine
def gI.mono(r:gI k A)(h:j<=k):gI j A:=⟨r.hd,by have:=r.dp;lia,by have:=r.un;lia⟩
def gI.deeper(r:gI (k+1) A)(env:Env):gI k (A.deeper env) :=
 ⟨r.hd,by have:=r.dp;show A.depth+1+3*k+5<_;lia,by have:=r.un;show A.units+3+16*k+200<_;lia⟩
def AU    :(A.under (.builtin "type.__call__" ⟨.ref C::us,kw⟩)).depth=A.depth+1:=by first | rfl | simp[Around.under,Code.weight,Code.isCreation,Code.isGuard,Code.isCaller,Code.frames,Code.isFrame,guardIds]
def zM    :(A.under (.builtin "type.__call__" ⟨.ref C::us,kw⟩)).units=A.units+1:=by first | rfl | simp[Around.under,Code.cUnits,Code.frames,Code.isFrame]
def gI.make   (r:gI (k+1) A) (C:Addr) (us:c8) (kw:List (Str×Value)):gI k (A.under (.builtin "type.__call__" ⟨.ref C::us,kw⟩)) :=
 ⟨r.hd,by have:=r.dp;rw[AU];lia,by have:=r.un;rw[zM];lia⟩
def gI.depth(r:gI k A):A.depth<recursionLimit:=by have:=r.dp;lia
def gI.units(r:gI k A):A.units+64<cLine:=by have:=r.un;lia
def qw:TA:=λ_ H Q=>Q [] H
def vm(ta:TE)(tr:TA):TA:=λZ H Q=>ta Z H λx a=>tr Z a λb c=>Q (x::b) c
section
variable {e:Expr}{t:TA}
def bu:PA X [] qw:=λ_ _ _ _ H Q I h=>am0 ⟨[],H,I,.nil,h⟩
def ao(ha:PE X e te)(hr:PA X es t)(hs:autoParam (starEach (e::es) X.env=(false,eval e X.env)::starEach es X.env) cw._auto_1):PA X (e::es) (vm te t):=by intro b a s Z H Q I h;rw[hs];show wpAny _ _ (spliced ((false,eval e X.env)::backTo b (starEach es X.env))) _ _ s;refine ai4 (dS (ha a s Z H _ I h) λu c  d=>?_);obtain⟨x,f,g,i,j⟩:=d;exact dS (hr b a c Z f _ g j) λus r ⟨l,n,o,p,q⟩=>⟨x::l,n,o,.cons i p,q⟩
def Wy(t:TA):TE:=λZ H Q=>t Z H λa b=>a.length<=sizeLine/\∀p,b p=none->Q (.ref p) (ag b p (.tup a))
def WM(t:TA):TE:=λZ H Q=>t Z H λa b=>a.length<=sizeLine/\∀p,b p=none->Q (.ref p) (ag b p (.lst a))
def bG{x1}(h:PA X es t):PE X (.Tuple es x1 pos) (Wy t):=by intro a s Z H Q I g;refine wpAny_Tuple_spliced (dS (h pos a s Z H _ I g) λus c ⟨i,d,f,r,z,q⟩=>⟨r.length▸z,?_⟩);refine⟨.ref c.heap.objs.size,ag d c.heap.objs.size (.tup i),f.laid (t':=c.toks) (λb u e=>x0 _ e) (N0 _) ?_,rfl,q _ (f.ba.fresh (N0 _))⟩;exact⟨z,us,r,⟨_,aa5 _ rfl,rfl,_,rfl⟩⟩
def bM(h:PA X es t):PE X (.List es pos) (WM t):=by intro a s Z H Q I g;refine wpAny_List_spliced (dS (h pos a s Z H _ I g) λus c ⟨i,d,f,r,z,q⟩=>⟨r.length▸z,?_⟩);refine⟨.ref c.heap.objs.size,ag d c.heap.objs.size (.lst i),f.laid (t':=c.toks) (λb u e=>x0 _ e) (N0 _) ?_,rfl,q _ (f.ba.fresh (N0 _))⟩;exact⟨z,us,0,r,aa5 _ rfl⟩
end
abbrev Sp:=q7->Hp->VK->XK->Prop
end L2
variable {wi:L2.TI}{sp:L2.Sp}
namespace L2
open PySem PySem.Spec PyProof.Rows
abbrev vR:=List Env->Hp->Shared->XK->Value->Shared->Prop
structure AW(P:Program)(w:World)(K:W.Frag)(mg:g6)(ap:Heap)(A:Around)(outer:List Env)(s:Shared)(H:Hp):Prop where
 frames:A.frames=some outer
 mod:Mod K mg ap
 bs:∀b o,ap.get? b=some o->s.heap.get? b=some o/\H b=none
 MT:ap.objs.size<=s.heap.objs.size
 qP:s.heap.FunFrames ap outer
 Rc:∀b∈frs outer,H b=none
 ba:lR P w H s.heap
 ax:AllBare s.gens
end L2
variable {CX:L2.vR}
namespace L2
open PySem PySem.Spec PyProof.Rows
def CE(outer:List Env)(P:Program)(w:World)(H:Hp)(s:Shared)(Q:VK)(u:Value)(s':Shared):Prop :=
 ∃v a,s'.os=s.os/\AllBare s'.gens/\Un (frs outer) [] H a s.heap s'.heap/\lR P w a s'.heap/\RelV v u/\Q v a
def CR(CX:vR)(outer:List Env)(P:Program)(w:World)(H:Hp)(s:Shared)(Q:VK)(E:XK)(r:Result)(s':Shared):Prop :=
 match r with
 |.ok (.ret u)=>CE outer P w H s Q u s'
 |.ok _=>False
 |.error e=>CX outer H s E e s'
structure bE(P:Program)(w:World)(K:W.Frag)(mg:g6)(ap:Heap)(CX:vR)(k:Nat)(f:Addr)(fd:FuncData)(ps:a9)(sp:Sp):Prop where
 len:∀vs H Q E,sp vs H Q E->vs.length=ps.length
 run:∀(A:Around) (outer:List Env) (s:Shared) (H:Hp) (args:Args) (us:c8) (vs:q7) (Q:VK) (E:XK),gI k A->AW P w K mg ap A outer s H->BindsTo s fd args (ps.zip us)->Vals vs us->sp vs H Q E ->
  codeAny (model P w) A (.call (.ref f) args) (CR CX outer P w H s Q E) s
def AW.make{K:W.Frag}(e:AW P w K mg ap A outer s H)(C:Addr)(us:c8)(kw:List (Str×Value)) :
  AW P w K mg ap (A.under (.builtin "type.__call__" ⟨.ref C::us,kw⟩)) outer s H:=⟨by first | exact e.frames | (simpa [Around.under,Code.envs,Code.isFrame,pushEnvs] using e.frames),e.mod,e.bs,e.MT,e.qP,e.Rc,e.ba,e.ax⟩
def Inv.Uy(I:Inv X am Z H s):AW X.prog X.w X.K X.mg X.ap X.A X.stack s H :=
 ⟨I.ok.frames,I.ok.mod,I.bs,ac2 I.ok.MT I.sz,I.stack,I.rS,I.ba,I.ax⟩
def Inv.after(I:Inv X am Z H s)(h:CE X.stack X.prog X.w H s Q u s'):EP X am Z Q u s':=by obtain⟨v,c,os,ax,un,ba,r,q⟩:=h;obtain⟨e,g,d,t,a⟩:=s';obtain rfl:a=s.os:=os;exact⟨v,c,I.call (h':=e) (g':=g) (d':=d) (t':=t) (ch:=[]) un ba ax (λb z=>absurd z (by simp)),r,q⟩
def IF(sp:Sp)(dvs:q7)(E:XK)(t:TA):TE:=λZ H Q=>t Z H λa b=>sp (a++dvs) b Q E
inductive YX(C:Addr)(m:Str):V->Hp->Prop->Prop|mk{a dx fs:_}{H P:_}(_:H a=s0 C dx fs)(_:fs.lookup m=none)(_:P):YX C m (.ref a) H P
def YX_i{m:Str}{x:V}{P:Prop}:YX C m x H P↔∃a dx fs,x = .ref a/\H a=s0 C dx fs/\fs.lookup m=none/\P:=⟨λh=>by obtain@⟨a,dx,fs,_,_,h0,h1,h2⟩:=h;exact⟨a,dx,fs,rfl,h0,h1,h2⟩,λh=>by obtain⟨a,dx,fs,rfl,h0,h1,h2⟩:=h;exact⟨h0,h1,h2⟩⟩
def IA(C:Addr)(m:Str)(sp:Sp)(dvs:q7)(E:XK)(ta:TE)(t:TA):TE:=λZ H Q=>ta Z H λx a=>YX C m x a (t Z a λb c=>sp (x::(b++dvs)) c Q E)
def Nr(C:Addr)(sp:Sp)(dvs:q7)(E:XK)(t:TA):TE:=λZ H Q=>t Z H λc b=>∀x a,b x=none->b a=none->a≠x ->
 sp (.ref x::(c++dvs)) (ag (ag b a (.own x)) x (.ins C a [])) (λv d=>v = .dj/\Q (.ref x) d) E
def Binds(K:W.Frag)(fd:FuncData)(ps:a9)(ds:c8):Prop :=
 ∀s us,K.In s.heap->(us++ds).length=ps.length->BindsTo s fd ⟨us,[]⟩ (ps.zip (us++ds))
def Binds.all{K:W.Frag}(h:∀us:c8,us.length=ps.length->bindArgs fd ⟨us,[]⟩=pure (ps.zip us)):Binds K fd ps []:=λs us _ hl=>by rw[ad2] at hl ⊢;exact .of_eq (h us hl)
def Passes(CX:vR)(X:Cx)(E:XK):Prop:=∀a Z H s e b,Inv X a Z H s->CX X.stack H s E e b->X.xe e b
section
variable {k:Nat}{f:Addr}{dvs:q7}{ds:c8}{E:XK}{x m:Str}{p:Pos}{e o:Expr}{ta:TE}{t:TA}
def wO(F:bE X.prog X.w X.K X.mg X.ap CX k f fd ps sp)(hr:gI k X.A)(hb:Binds X.K fd ps ds)(hd:Vals dvs ds)(hx:Passes CX X E)
  (I:Inv X am Z H s) (r:Vals vs us) (h:sp (vs++dvs) H Q E):wpAny (model X.prog X.w) X.A (call (.ref f) us) (EP X am Z Q) X.xe s:=by
 have b:=r.append hd;have hl:(us++ds).length=ps.length:=b.length▸F.len _ _ _ _ h
 refine wpAny_call (codeAny_mono (F.run X.A X.stack s H ⟨us,[]⟩ (us++ds) (vs++dvs) Q E hr I.Uy (hb s us I.uG hl) b h) λr c a=>?_);cases r with
 |error e=>exact hx am Z H s e c I a
 |ok fl =>
  cases fl with
  |ret u=>exact I.after a
  |next=>exact False.elim a
  |brk=>exact False.elim a
  |cont=>exact False.elim a
def aS(F:bE X.prog X.w X.K X.mg X.ap CX k f fd ps sp)(hr:gI k X.A)(hg:Gl X x)(hm:X.mg x=some (.ref f))(hk:W.keepIn X.K (.ref f)=true)(hb:Binds X.K fd ps ds)(hd:Vals dvs ds)(hx:Passes CX X E)
  (ha:PA X (e::es) t) (hdb:autoParam ((x == ("__debug__" : Str))=false) cw._auto_1) (he:autoParam (starEach (e::es) X.env=(false,eval e X.env)::starEach es X.env) cw._auto_1) (hpl:autoParam ((backTo pos (starEach es X.env)).any (·.1)=false) cw._auto_1) :
  PE X (.Call (.Name x p) (e::es) [] pos) (IF sp dvs E t):=by
 intro a s Z H Q I h;refine ai7 (n6 I hg hm ?_ hdb);refine ao5 (h₀:=X.ap) I.ok.mod.uF hk (dS (ha pos a s Z H _ I h) λus c ⟨d,g,b,r,q⟩=>⟨b.uG,?_⟩) he hpl;exact wO F hr hb hd hx b r q
def Hl(F:bE X.prog X.w X.K X.mg X.ap CX k f fd ps sp)(hr:gI k X.A)(hg:Gl X x)(hm:X.mg x=some (.ref f))(hk:W.keepIn X.K (.ref f)=true)(hb:Binds X.K fd ps ds)(hd:Vals dvs ds)(hx:Passes CX X E)
  (hdb:autoParam ((x == ("__debug__" : Str))=false) cw._auto_1):PE X (.Call (.Name x p) [] [] pos) (IF sp dvs E qw):=by
 intro a s Z H Q I h;refine ai7 (n6 I hg hm ?_ hdb);exact an8 I.uG hk (wO (us:=[]) F hr hb hd hx I .nil h)
def bw{pl:Sem Bool}(he:PE X o ta)(c:pH X.K C)(hm:Meth X.K C m f)(F:bE X.prog X.w X.K X.mg X.ap CX k f fd ps sp)(hr:gI k X.A)(hb:Binds X.K fd ps ds)(hd:Vals dvs ds)(hx:Passes CX X E)(ha:PA X (e::es) t)
  (hst:autoParam (starEach (e::es) X.env=(false,eval e X.env)::starEach es X.env) cw._auto_1) (hpl:autoParam ((backTo pos (starEach es X.env)).any (·.1)=false) cw._auto_1)
  (ht:autoParam (eval (.Call (.Attribute o m apos) (e::es) [] pos) X.env=(do
   let ov <- eval o X.env
   standAt apos.atName
   let (f,first) <- holding [ov] (getMethod ov m pl)
   callWith pos f first (backTo pos (starEach (e::es) X.env)) (backToKw pos (keywordEach [] X.env)))) cw._auto_1) :
  PE X (.Call (.Attribute o m apos) (e::es) [] pos) (IA C m sp dvs E ta t):=by
 intro b s Z H Q I h;refine al9 (pl:=pl) (dS (he b s Z H _ I h) λu i j=>?_) ht;obtain⟨x,n,d,p,w0⟩:=j;obtain⟨a,B,fs,v,y,l,q⟩:=YX_i.mp w0;subst v;obtain rfl:u=Value.ref a:=p;refine mh d y c hm l ?_;refine ao5 (first:=[.ref a]) (h₀:=X.ap) I.ok.mod.uF hm.kp (dS (ha pos b i Z n _ d q) λus D ⟨vs,G,g,r,z⟩=>⟨g.uG,?_⟩) hst hpl;exact wO (us:=.ref a::us) (vs:=.ref a::vs) F hr hb hd hx g (.cons rfl r) z
def bR{pl:Sem Bool}(he:PE X o ta)(c:pH X.K C)(hm:Meth X.K C m f)(F:bE X.prog X.w X.K X.mg X.ap CX k f fd ps sp)(hr:gI k X.A)(hb:Binds X.K fd ps ds)(hd:Vals dvs ds)(hx:Passes CX X E)
  (ht:autoParam (eval (.Call (.Attribute o m apos) [] [] pos) X.env=(do
   let ov <- eval o X.env
   standAt apos.atName
   let (f,first) <- holding [ov] (getMethod ov m pl)
   callWith pos f first (backTo pos (starEach [] X.env)) (backToKw pos (keywordEach [] X.env)))) cw._auto_1) :
  PE X (.Call (.Attribute o m apos) [] [] pos) (IA C m sp dvs E ta qw):=by
 intro b s Z H Q I h;refine al9 (pl:=pl) (dS (he b s Z H _ I h) λu n e=>?_) ht;obtain⟨x,p,d,g,w0⟩:=e;obtain⟨a,r,fs,i,j,l,q⟩:=YX_i.mp w0;subst i;obtain rfl:u=Value.ref a:=g;refine mh d j c hm l ?_;exact an8 (first:=[.ref a]) d.uG hm.kp (wO (us:=[.ref a]) (vs:=[.ref a]) F hr hb hd hx d (.cons rfl .nil) q)
structure Mk(K:W.Frag)(C f:Addr):Prop where
 makes:W.makesIn K C=true
 init:W.findIn K (.ref C) "__init__" = some (some (.ref f))
 fn:W.isFn K (.ref f)=true
 kp:W.keepIn K (.ref C)=true
def G4(M:Mk X.K C f)(F:bE X.prog X.w X.K X.mg X.ap CX k f fd ps sp)(hr:gI (k+1) X.A)(hb:Binds X.K fd ps ds)(hd:Vals dvs ds)
  (hx:Passes CX X E) (I:Inv X am Z H s) (r:Vals vs us)
  (h:∀x dx,H x=none->H dx=none->dx≠x->sp (.ref x::(vs++dvs)) (ag (ag H dx (.own x)) x (.ins C dx [])) (λv H2=>v = .dj/\Q (.ref x) H2) E) :
  wpAny (model X.prog X.w) X.A (call (.ref C) us) (EP X am Z Q) X.xe s:=by
 have c:=h (s.heap.objs.size+1) s.heap.objs.size (I.ba.fresh (al7 _)) (I.ba.fresh (N0 _)) (Z6 (ak1 _));have b:=Inv.made (C:=C) I;have d:Vals (V.ref (s.heap.objs.size+1)::(vs++dvs)) (Value.ref (s.heap.objs.size+1)::(us++ds)):=.cons rfl (r.append hd);have hl:(Value.ref (s.heap.objs.size+1)::us++ds).length=ps.length:=by have e:=d.length;rw[F.len _ _ _ _ c] at e;exact e.symm
 refine wpAny_call (Ii (f:=f) I.uG M.makes M.init (beq_iff_eq.mp M.fn) (codeAny_mono (F.run _ X.stack _ _ ⟨Value.ref (s.heap.objs.size+1)::us,[]⟩ (Value.ref (s.heap.objs.size+1)::(us++ds)) _ _ E (hr.make C us [])
  (b.Uy.make C us []) (hb _ (Value.ref (s.heap.objs.size+1)::us) b.uG hl) d c) λr g a=>?_))
 cases r with
 |error e=>exact hx am Z _ _ e g b a
 |ok fl =>
  cases fl with
  |ret u =>
   obtain⟨v,i,j,l,ev,n⟩:=b.after a;subst ev;exact⟨l,⟨V.ref (s.heap.objs.size+1),i,j,rfl,n⟩⟩
  |next=>exact False.elim a
  |brk=>exact False.elim a
  |cont=>exact False.elim a
def fj(M:Mk X.K C f)(F:bE X.prog X.w X.K X.mg X.ap CX k f fd ps sp)(hr:gI (k+1) X.A)(hg:Gl X x)(hm:X.mg x=some (.ref C))(hb:Binds X.K fd ps ds)(hd:Vals dvs ds)(hx:Passes CX X E)
  (ha:PA X (e::es) t) (hdb:autoParam ((x == ("__debug__" : Str))=false) cw._auto_1) (he:autoParam (starEach (e::es) X.env=(false,eval e X.env)::starEach es X.env) cw._auto_1) (hpl:autoParam ((backTo pos (starEach es X.env)).any (·.1)=false) cw._auto_1) :
  PE X (.Call (.Name x p) (e::es) [] pos) (Nr C sp dvs E t):=by
 intro a s Z H Q I h;refine ai7 (n6 I hg hm ?_ hdb);refine ao5 (h₀:=X.ap) I.ok.mod.uF M.kp (dS (ha pos a s Z H _ I h) λus c ⟨d,g,b,r,q⟩=>⟨b.uG,?_⟩) he hpl;exact G4 M F hr hb hd hx b r q
end
structure aI(N P:a9)(sc:Scope):Prop where
 kind:autoParam (sc.kind = .function) cw._auto_1
 co:autoParam (sc.isCoroutine=false) cw._auto_1
 gen:autoParam (sc.isGenerator=false) cw._auto_1
 nd:autoParam N.Nodup L2.Y13._auto_1
 pre:autoParam (N.take P.length=P) cw._auto_1
 par:autoParam (∀x∈P,sc.names.lookup x=some .local\/sc.names.lookup x=some .cell) L2.Y13._auto_1
 TX:autoParam (∀y∈sc.names,y.2 ≠ .free) L2.Y13._auto_1
theorem v7{kindOf:Str->Option NameKind}:∀{binds:List (Str×Value)} {m:g6},(∀v,(x,v)∉binds)->bindL kindOf binds m x=m x
 | [],_,_=>rfl
 | (n,v)::r,m,h=>by
  unfold bindL;rw[v7 λw hw=>h w (Q1 _ hw)];split
  .have:x≠n:=by rintro rfl;exact h v ab7
   simp[this]
  .rfl
theorem vD{kindOf:Str->Option NameKind}:∀{binds:List (Str×Value)} {m:g6},(∀v,(x,v)∉binds)->bindC kindOf binds m x=m x
 | [],_,_=>rfl
 | (n,v)::r,m,h=>by
  unfold bindC;rw[vD λw hw=>h w (Q1 _ hw)];split
  .rfl
  .have:x≠n:=by rintro rfl;exact h v ab7
   simp[this]
theorem vX{kindOf:Str->Option NameKind}:∀{P:a9} {vs:c8} {i:Nat} {m:g6},P.Nodup->P[i]?=some x->vs[i]?=some v->kindOf x=some .local ->
  bindL kindOf (P.zip vs) m x=some v
 | [],_,_,_,_,h,_,_=>by simp at h
 |_::_,[],_,_,_,_,h,_=>by simp at h
 |p::P,w::vs,0,m,nd,h1,h2,hk=>by simp at h1 h2;subst h1;subst h2;show bindL kindOf ((p,w)::P.zip vs) m p=_;unfold bindL;rw[v7 λv hv=>(ah8.mp nd).1 (List.of_mem_zip hv).1,w4 hk];simp
 |p::P,w::vs,i+1,m,nd,h1,h2,hk=>by show bindL kindOf ((p,w)::P.zip vs) m x=_;unfold bindL;exact vX (i:=i) (ah8.mp nd).2 (by simpa using h1) (by simpa using h2) hk
theorem uS{kindOf:Str->Option NameKind}:∀{P:a9} {vs:c8} {i:Nat} {m:g6},P.Nodup->P[i]?=some x->vs[i]?=some v->kindOf x≠some .local ->
  bindC kindOf (P.zip vs) m x=some v
 | [],_,_,_,_,h,_,_=>by simp at h
 |_::_,[],_,_,_,_,h,_=>by simp at h
 |p::P,w::vs,0,m,nd,h1,h2,hk=>by simp at h1 h2;subst h1;subst h2;show bindC kindOf ((p,w)::P.zip vs) m p=_;unfold bindC;rw[vD λv hv=>(ah8.mp nd).1 (List.of_mem_zip hv).1,C5 hk];simp
 |p::P,w::vs,i+1,m,nd,h1,h2,hk=>by show bindC kindOf ((p,w)::P.zip vs) m x=_;unfold bindC;exact uS (i:=i) (ah8.mp nd).2 (by simpa using h1) (by simpa using h2) hk
noncomputable def start(N:a9)(vs:q7):St:=vs.map some++List.replicate (N.length-vs.length) none
noncomputable def kW(CX:vR)(P:Program)(w:World)(K:W.Frag)(mg:g6)(ap:Heap)(N:a9)(qual:Str)(scope:Scope)(f:Addr)(cd:Value)(A:Around)(outer:List Env)(s:Shared)(H:Hp)(E:XK):Cx where
 prog:=P
 w:=w
 K:=K
 mg:=mg
 ap:=ap
 A:=A.deeper (envOfC qual scope s.heap.objs.size f cd)
 N:=N
 s₀:=s
 H₀:=H
 env:=envOfC qual scope s.heap.objs.size f cd
 outer:=outer
 stack:=envOfC qual scope s.heap.objs.size f cd::outer
 ex:=[]
 aw:=true
 fn:=λ_=>true
 pn:=[]
 xe:=λe b=>wpAny (model P w) (A.deeper (envOfC qual scope s.heap.objs.size f cd)) (leaving (envOfC qual scope s.heap.objs.size f cd) e) (λ_ a=>CX outer H s E e a) (λc a=>CX outer H s E c a) b
def yf(h:sc.names.lookup x=some .cell):∃c,(cellsFrom n sc.names []).lookup x=some c:=by exact Option.isSome_iff_exists.mp (W.cellsFrom_some sc.names n [] (.inl h))
def Dp{K:W.Frag}
  (S:aI N ps scope) (hd:A.handled=none) (e0:AW P w K mg ap A outer s H) (hl:vs.length=ps.length) (r:Vals vs us)
  (x:InCallC s s.heap.objs.size (bindL (envOfC qual scope s.heap.objs.size f cd).kindOf (ps.zip us) λ_=>none) (cellsFrom (s.heap.objs.size+1) scope.names []) (bindC (envOfC qual scope s.heap.objs.size f cd).kindOf (ps.zip us) λ_=>none) s1) :
  Inv (kW CX P w K mg ap N qual scope f cd A outer s H E) [] (start N vs) H s1:=by
 have F:ps.length<=N.length:=by have:=ac7 List.length S.pre;rw[v6] at this;lia
 obtain⟨t,J,rfl,C⟩:=x.done;have g:∀b,b∉(kW CX P w K mg ap N qual scope f cd A outer s H E).ex:=λb z=>absurd (show b∈([]:c6) from z) (by simp);refine⟨⟨e0.mod,S.kind,rfl,rfl,N0 _,λy z c t d=>?_,λy j=>?_,λy c _ h=>?_,λ_=>hd,Around.frames_deeper e0.frames,.inr ⟨rfl,rfl⟩,λb z=>absurd z (g b),e0.bs,e0.MT,λb _ _=>g b,λb z=>absurd z (g b),e0.qP,e0.Rc⟩,
  rfl,e0.ax,Un.kept C,⟨_,x.toInCall.ns,λi y v t d L=>?_⟩,λy c h=>⟨_,x.cell y c h⟩,e0.ba.fresh (N0 _),λy c h=>?_,λp l=>absurd (show p∈([]:f7) from l) (by simp),e0.ba.kept C,?_⟩
 .exact name_of_addr x.apart (ag8 t) (ag8 d)
 .rcases j with j|j
  .exact yf j
  .exact absurd rfl (S.TX _ (ag8 j))
 .exact Nat.le_of_lt (x.above y c (ag8 h))
 .have B:i<vs.length:=by
   unfold start at d;by_cases B:i<vs.length
   .exact B
   .rw[U2 (by simpa using B)] at d;rw[List.getElem?_replicate] at d;split at d <;> cases d
  have G:vs[i]?=some v:=by
   unfold start at d;rw[aa2 (by simpa using B),v3] at d;cases e:vs[i]? with
   |none=>rw[e] at d;cases d
   |some a=>rw[e] at d;cases d;rfl
  obtain⟨u,D,I⟩:=r.get G;have l:ps[i]?=some y:=by rw[<- S.pre,af1 (by lia)];exact t
  have o:=S.pre▸S.nd.sublist (List.take_sublist _ _)
  refine⟨u,I,?_⟩;rcases S.par y (p0 l) with k|k
  .exact .inl ⟨k,vX o l D k⟩
  .obtain⟨c,e⟩:=yf (n:=s.heap.objs.size+1) k;refine .inr ⟨.inl k,c,e,?_⟩;have q:=x.cell y c e;rw[uS o l D (by show scope.names.lookup y≠_;rw[k];decide)] at q;exact q
 .exact e0.ba.fresh (Nat.le_of_lt (x.above y c (ag8 h)))
 .unfold start;show _=N.length;rw[i5,d5,af2];lia
def Qu{K:W.Frag}{dV kV doc pm cdv ct oc:Value}
     (lk:K.lookup f=some ⟨oc,od,.func (W.fnOf name qual params body scope dV kV doc pm an cdv ct),osl⟩) (hcd:W.codeIn K cdv qual=true) (S:aI N ps scope)
  (len:∀vs H Q E,sp vs H Q E->vs.length=ps.length)
  (hbody:∀(A:Around) (outer:List Env) (s:Shared) (H:Hp) (vs:q7) (Q:VK) (E:XK),gI k (A.deeper (envOfC qual scope s.heap.objs.size f cdv))->sp vs H Q E ->
   ∃t,AI (kW CX P w K mg ap N qual scope f cdv A outer s H E) body t/\t { nx:=λ_ H'=>Q .dj H',rt:=Q } (start N vs) H) :
  bE P w K mg ap CX (k+1) f (W.fnOf name qual params body scope dV kV doc pm an cdv ct) ps sp:=by
 refine⟨len,λA outer s H p us vs Q E hr d B r g=>?_⟩;have z:K.In s.heap:=d.mod.uF.keeps λb o e=>(d.bs b o e).1;have a:∀y∈ps.zip us,scope.names.lookup y.1=some .local\/(scope.names.lookup y.1=some .cell/\((cellsFrom (s.heap.objs.size+1) scope.names []).lookup y.1).isSome=true):=λ⟨n,v⟩ C=>by
  rcases S.par n (List.of_mem_zip C).1 with q|q
  .exact .inl q
  .exact .inr ⟨q,W.cellsFrom_some _ _ _ (.inl q)⟩
 refine codeAny_call_function hr.depth (z _ _ lk) rfl S.co S.gen rfl (W.codeRec_of z hcd) (B _ _ _ _ ?_);refine wpAny_newFunctionEnv_cells S.kind a λD F s1 x=>?_;subst F;refine⟨(d.mod.nolimit.keeps λb o e=>(d.bs b o e).1).keeps x.toInCall.keep,codeAny_func ?_⟩;obtain⟨t,G,L⟩:=hbody A outer s H vs Q E (hr.deeper _) g;have I:Inv (kW CX P w K mg ap N qual scope f cdv A outer s H E) [] (start N vs) H s1:=Dp S hr.hd d (len _ _ _ _ g) r x;refine ad3 (G [] s1 (start N vs) H _ I L) (λM s' c=>?_) λe s' c=>c;have h:∀{i:St} {H':Hp} {v:V} {u:Value},Inv (kW CX P w K mg ap N qual scope f cdv A outer s H E) [] i H' s'->RelV v u->Q v H'->CE outer P w H s Q u s' :=
  λ{i H' v u} J l q=>⟨v,H',J.os,J.ax,J.ap,J.ba,l,q⟩
 cases M with
 |ret u =>
  obtain⟨v,i,H',J,l,q⟩:=c;exact h J l q
 |next =>
  obtain⟨i,H',J,q⟩:=c;exact h (v:=V.dj) (u:=Value.none) J rfl q
 |brk =>
  obtain⟨_,_,_,q⟩:=c;exact False.elim q
 |cont =>
  obtain⟨_,_,_,q⟩:=c;exact False.elim q
section
variable {x:Str}{p:Pos}{e:Expr}{t:TA}{id T:String}{r:q7->Hp->VK->Prop}
def Wj(r:q7->Hp->VK->Prop)(t:TA):TE:=λZ H Q=>t Z H λa b=>r a b Q
def sY (hc:gS X (.builtin id) r) (hg:Gl X x) (hm:X.mg x=none) (hv:bootBuiltins x=some (.builtin id)) (ha:PA X (e::es) t) (hn:autoParam (x ≠ "__name__") cw._auto_1) (hdb:autoParam ((x == ("__debug__" : Str))=false) cw._auto_1)
  (he:autoParam (starEach (e::es) X.env=(false,eval e X.env)::starEach es X.env) cw._auto_1) (hpl:autoParam ((backTo pos (starEach es X.env)).any (·.1)=false) cw._auto_1):PE X (.Call (.Name x p) (e::es) [] pos) (Wj r t):=by
 intro a s Z H Q I h;refine ai7 (pF I hg hm hv ?_ hn hdb);exact PyProof.Rows.callWith_builtin1 (dS (ha pos a s Z H _ I h) λus b ⟨c,d,f,g,i⟩=>hc a b Z d c us Q f g i) he hpl
def nZ (hc:gS X (.type T) r) (hg:Gl X x) (hm:X.mg x=none) (hv:bootBuiltins x=some (.type T)) (ha:PA X (e::es) t) (hn:autoParam (x ≠ "__name__") cw._auto_1) (hdb:autoParam ((x == ("__debug__" : Str))=false) cw._auto_1)
  (he:autoParam (starEach (e::es) X.env=(false,eval e X.env)::starEach es X.env) cw._auto_1) (hpl:autoParam ((backTo pos (starEach es X.env)).any (·.1)=false) cw._auto_1):PE X (.Call (.Name x p) (e::es) [] pos) (Wj r t):=by
 intro a s Z H Q I h;refine ai7 (pF I hg hm hv ?_ hn hdb);exact ae0 (dS (ha pos a s Z H _ I h) λus b ⟨c,d,f,g,i⟩=>hc a b Z d c us Q f g i) he hpl
end
end L2
namespace HT
open PySem PyProof.Rows
noncomputable def lex(f:Int->Int->Bool):c9->c9->Bool
 | [],[]=>f 0 0
 | [],_::_=>f 0 1
 |_::_,[]=>f 1 0
 |x::xs,y::ys=>if x=y then lex f xs ys else f x y
abbrev lexLt:=lex λa b=>decide (a<b)
abbrev gY:=lex λa b=>decide (a>b)
abbrev lexLe:=lex λa b=>decide (a<=b)
def FT(f:Int->Int->Bool)(x y:Int)(xs ys:c9):lex f (x::xs) (y::ys)=if x=y then lex f xs ys else f x y:=rfl
def JE(A:Around)(s:Shared)(a:Int)(t:Tok)(c:Int)(u:Tok):∃e,SeqAt.EqAt A s (.int a t) (.int c u) e/\(e=true↔a=c) :=
 ⟨(a == c),SeqAt.EqAt.int_int a t c u,by simp⟩
def Wk(op:CmpOp)(f:Int->Int->Bool):Prop:=∀A s a t c u b w E Q,Q (.bool (f a c)) s->wpAny (model b w) A (richCompare op (.int a t) (.int c u)) Q E s
section
open PySem.SeqAt
open PySem.AutoSeq1 (wpAny_loadPart')
open PySem.MeetsSeq PySem.MeetsSeq2 PySem.MeetsSeq3
set_option maxHeartbeats 4000000 in
def sF{B:Builtin}{f:Int->Int->Bool}(mm:B=Builtin.«tuple.__lt__» /\ (f=λa b=>decide (a<b))/\Wk .Lt f\/B=Builtin.«tuple.__gt__» /\ (f=λa b=>decide (a>b))/\Wk .Gt f\/B=Builtin.«tuple.__le__» /\ (f=λa b=>decide (a<=b))/\Wk .LtE f)
  (l b:Addr) (items items2:n7) (n n2:Nat) (dd dd2:Option Addr) (sl sl2:Array (Option Value)) (ns ms:c9) (hi:IntsAre items.toList ns) (hj:IntsAre items2.toList ms) :
  Meets (B ⟨[.ref l,.ref b],[]⟩)
   (λ_ R s=>s.heap.get? l=some { cls:=.type "tuple",dict:=dd,data:=.seq items n,slots:=sl }/\s.heap.get? b=some { cls:=.type "tuple",dict:=dd2,data:=.seq items2 n2,slots:=sl2 } /\
    R (.ok (.ret (.bool (lex f ns ms)))) s):=by
 refine .of_wp λz w A R s h=>?_;rcases mm with ⟨rfl,H,p⟩|⟨rfl,H,p⟩|⟨rfl,H,p⟩;all_goals
  obtain⟨I,g,d,J,K⟩:=s;obtain⟨hl,O,h⟩:=h;have Q:=AutoSeq1.sub_tuple_tuple;have S:items.size=ns.length:=by rw[<- hi.length];simp
  have T:items2.size=ms.length:=by rw[<- hj.length];simp
  wp_walk using wpAny_loadPart' hl,wpAny_loadPart' O,wpAny_forIn_list _ (λC b N=>b.1=none/\N=⟨I,g,d,J,K⟩/\∃L M j o,C=L.zip M /\
   IntsAre L j/\IntsAre M o/\j.length+items2.size=o.length+items.size/\R (.ok (.ret (.bool (lex f j o)))) ⟨I,g,d,J,K⟩) _
  case turn =>
   rintro⟨y,x⟩ C b N ⟨F,rfl,L,M,j,o,r,G,v,i,D⟩;cases G with
   |nil=>rw[List.zip_nil_left] at r;cases r
   |cons a t hvi' =>
    cases v with
    |nil=>rw[List.zip_nil_right] at r;cases r
    |cons c u hwi' =>
     rw[List.zip_cons_cons] at r;injection r with hyx hrest
     injection hyx with hy hx
     subst hy hx;rw[FT] at D;simp only[P3] at i;obtain⟨e,P,E⟩:=JE A.in1 ⟨I,g,d,J,K⟩ a t c u;refine y0 (P z w _ _ ?_);cases e with
     |true =>
      rw[w4 (E.mp rfl)] at D
      wp_walk
      exact⟨rfl,rfl,_,_,_,_,hrest,hvi',hwi',by lia,D⟩
     |false =>
      rw[C5 (λq=>absurd (E.mpr q) Z7)] at D;have p:=p A.in1 ⟨I,g,d,J,K⟩ a t c u z w
      wp_walk using p
      exact⟨_,rfl,by simpa using D⟩
  case fin =>
   rintro⟨U,W⟩ N ⟨F,rfl,L,M,j,o,r,G,v,i,D⟩;simp only at F;subst F;have hv:lex f j o=f items.size items2.size:=by
    subst H;cases G with
    |nil=>cases v <;> (simp only[ac6,P3] at i;simp only[lex,decide_eq_decide];lia)
    |cons a t hv =>
     cases v with
     |nil=>simp only[ac6,P3] at i;simp only[lex,decide_eq_decide];lia
     |cons c u hw=>rw[List.zip_cons_cons] at r;cases r
   rw[hv] at D
   wp_walk
   exact⟨_,rfl,by subst H;simpa [Builtin.Tuple.tupleCompareSizes] using D⟩
  case h =>
   exact⟨rfl,rfl,items.toList,items2.toList,ns,ms,rfl,hi,hj,by lia,h⟩
end
section
variable {E:Value->Shared->Prop}
def mR{id:String}(mm:B=Builtin.«tuple.__lt__» /\ (f=λa b=>decide (a<b))/\Wk .Lt f\/B=Builtin.«tuple.__gt__» /\ (f=λa b=>decide (a>b))/\Wk .Gt f\/B=Builtin.«tuple.__le__» /\ (f=λa b=>decide (a<=b))/\Wk .LtE f)
  (slot:Slot "tuple" (cmpInfo op).2.1 id) (en:entryFor table id=some B) (ar:argsOk id ⟨[.ref l,.ref b],[]⟩) (hl:IsTup s.heap l items) (hb:IsTup s.heap b items2) (hi:IntsAre items.toList ns) (hj:IntsAre items2.toList ms)
  (hu:A.units<cLine) (h:Q (.bool (lex f ns ms)) s):wpAny (model prog w) A (richCompare op (.ref l) (.ref b)) Q E s:=by
 obtain⟨⟨u,v,o,y⟩,p,q,n,r⟩:=_root_.id hl;obtain⟨⟨t,g,i,j⟩,c,d,z,e⟩:=_root_.id hb;simp only at q r d e;subst q r d e;exact richCompare_meets_room (op:=op) ⟨_,p,rfl⟩ ⟨_,c,rfl⟩ slot en ar (sF mm l b items items2 n z v g y j ns ms hi hj)
  ⟨p,c,show Value.bool (lex f ns ms)≠Value.notImplemented/\Q (.bool (lex f ns ms)) s from ⟨(λx=>nomatch x),h⟩⟩ hu
def tM(hl:IsTup s.heap l items)(hb:IsTup s.heap b items2)(hi:IntsAre items.toList ns)(hj:IntsAre items2.toList ms)
  (hu:A.units<cLine) (h:Q (.bool (lexLt ns ms)) s):wpAny (model prog w) A (compareOp .Lt (.ref l) (.ref b)) Q E s :=
 mR (op:=.Lt) (.inl ⟨rfl,rfl,λ_ _ _ _ _ _ _ _ _ _ h=>PyProof.Rows.lt_int h⟩) F.slot_tuple_lt F.entry_tuple_lt (F.args_tuple_lt_2 _ _) hl hb hi hj hu h
def tF(hl:IsTup s.heap l items)(hb:IsTup s.heap b items2)(hi:IntsAre items.toList ns)(hj:IntsAre items2.toList ms)
  (hu:A.units<cLine) (h:Q (.bool (gY ns ms)) s):wpAny (model prog w) A (compareOp .Gt (.ref l) (.ref b)) Q E s :=
 mR (op:=.Gt) (.inr (.inl ⟨rfl,rfl,λ_ _ _ _ _ _ _ _ _ _ h=>PyProof.Rows.gt_int h⟩)) F.slot_tuple_gt F.entry_tuple_gt (F.args_tuple_gt_2 _ _) hl hb hi hj hu h
def Ad(hl:IsTup s.heap l items)(hb:IsTup s.heap b items2)(hi:IntsAre items.toList ns)(hj:IntsAre items2.toList ms)
  (hu:A.units<cLine) (h:Q (.bool (lexLe ns ms)) s):wpAny (model prog w) A (compareOp .LtE (.ref l) (.ref b)) Q E s :=
 mR (op:=.LtE) (.inr (.inr ⟨rfl,rfl,λ_ _ _ _ _ _ _ _ _ _ h=>PyProof.Rows.le_int h⟩)) F.slot_tuple_le F.entry_tuple_le (F.args_tuple_le_2 _ _) hl hb hi hj hu h
def Lu(ht:IsTup s.heap t vs.toArray)(hb:IsTup s.heap b ws.toArray)(hv:vs≠[])
  (h1:ws=[]->Q (.ref t) s) (h2:ws≠[]->Q (.ref s.heap.objs.size) { s with heap:=s.heap.push { cls:=.type "tuple",data:=.seq (vs++ws).toArray } })
  (hsz:vs.length+ws.length<=sizeLine):wpAny (model prog w) A (binaryOp .Add (.ref t) (.ref b)) Q E s:=by
 obtain⟨⟨cls,l,data,o⟩,h,p,n,q⟩:=id ht;obtain⟨⟨r,c,j,d⟩,a,f,u,g⟩:=id hb;simp only at p q f g;subst p q f g;have e:vs.toArray++ws.toArray=(vs++ws).toArray:=by simp
 by_cases i:ws=[]
 .exact concat_meets ⟨_,h,rfl⟩ ⟨_,a,rfl⟩ noFill_tuple_add seq_tuple_add F.slot_tuple_add F.entry_tuple_add (F.args_tuple_add_2 _ _)
   (tuple_addW1 t b vs.toArray ws.toArray n u l c o d (by simpa using hv) (by simp[i])) ⟨h,a,h1 i⟩
 .refine concat_meets ⟨_,h,rfl⟩ ⟨_,a,rfl⟩ noFill_tuple_add seq_tuple_add F.slot_tuple_add F.entry_tuple_add (F.args_tuple_add_2 _ _)
   (tuple_addW2 t b vs.toArray ws.toArray n u l c o d (by simpa using hv) (by simpa using i) (T1▸T1▸hsz)) ⟨h,a,?_⟩
  exact e▸h2 i
noncomputable def iW(n d:Nat):Option Int->Nat
 |none=>d
 |some v=>if v<0 then (v+(n:Int)).toNat else min v.toNat n
def ye(n d:Nat):iW n d none=d:=rfl
def nO(n d k:Nat):iW n d (some (k:Int))=min k n:=by show (if (k:Int)<0 then ((k:Int)+n).toNat else min (k:Int).toNat n)=min k n;rw[C5 (by lia),ab9]
def BA(v:Int)(n d:Nat):(if v<0 then max (v+(n:Int)) 0 else min v (n:Int))=((iW n d (some v):Nat):Int):=by
 show (if v<0 then max (v+(n:Int)) 0 else min v (n:Int))=(((if v<0 then (v+(n:Int)).toNat else min v.toNat n):Nat):Int)
 by_cases a:v<0
 .simp only[w4 a];lia
 .simp only[C5 a];lia
def A9(lo hi:Option Int)(n:Nat):Builtin.Slice.sliceAdjust lo hi 1 (n:Int)=(((iW n 0 lo:Nat):Int),((iW n n hi:Nat):Int)):=by
 have a:¬((1:Int)<0):=by lia
 unfold Builtin.Slice.sliceAdjust;simp only[a,ao9];refine Prod.ext ?_ ?_
 .cases lo with
  |none=>rfl
  |some v=>exact BA v n 0
 .cases hi with
  |none=>rfl
  |some v=>exact BA v n n
def AO(i j:Nat):Builtin.Slice.slicePlaces (i:Int) (j:Int) 1=j-i:=by
 unfold Builtin.Slice.slicePlaces;have a:(1:Int)>0:=by lia
 simp only[a,if_true,Int.ediv_one];split <;> lia
def t6(p:IsPart v o)(h:Q o s):wpAny (model prog w) A (Builtin.Slice.slicePartIndex v) Q E s:=by
 cases p with
 |none=>exact slicePart_none h
 |int i t=>exact slicePart_int h
def qT{sl:Addr}{vl vu:Value}{lo hi:Option Int}{n:Nat}{Q:Int×Int×Nat->Shared->Prop}(hs:s.heap.IsSliceOf sl vl vu .none)(pl:IsPart vl lo)(pu:IsPart vu hi)
  (h:Q (((iW n 0 lo:Nat):Int),1,iW n n hi-iW n 0 lo) s):wpAny (model prog w) A (Builtin.Slice.sliceApplied (.ref sl) (pure (n:Int))) Q E s:=by
 obtain⟨d,a,c,b⟩:=id hs;unfold Builtin.Slice.sliceApplied Builtin.Slice.sliceFields;refine y0 (y0 (ao8 a b (x:=vl) rfl (y0 (ao8 a b (x:=vu) rfl (y0 (ao8 a b (x:=.none) rfl (X2 ?_)))))));refine y0 (slicePart_none ?_);show wpAny _ _ (if ((1:Int) == 0)=true then _ else _) _ _ s;rw[C5 (by decide)];refine y0 (t6 pl (y0 (t6 pu (y0 (X2 ?_)))));show wpAny _ _ (match Builtin.Slice.sliceAdjust lo hi 1 (n:Int) with | (lo,hi)=>pure (lo,(1:Int),Builtin.Slice.slicePlaces lo hi 1)) _ _ s;rw[A9 lo hi n];show wpAny _ _ (pure (((iW n 0 lo:Nat):Int),(1:Int),Builtin.Slice.slicePlaces ((iW n 0 lo:Nat):Int) ((iW n n hi:Nat):Int) 1)) _ _ s;rw[AO];exact X2 h
def IX(xs:n7)(i k:Nat):((List.range k).filterMap λ(m:Nat)=>xs[((i:Int)+m*1).toNat]?).toArray=((xs.toList.drop i).take k).toArray:=by
 have e:(λ(m:Nat)=>xs[((i:Int)+(m:Int)*1).toNat]?)=λm=>xs[i+m]?:=by
  funext m;have:((i:Int)+m*1).toNat=i+m:=by lia
  rw[this]
 rw[e];have:=pick_run xs i k;rw[List.filterMap_map] at this;have a:((λx=>xs[x]?) ∘ λx=>i+x)=λm=>xs[i+m]?:=rfl;rw[a] at this;rw[this]
def qh{lo hi:Option Int}(ht:IsTup s.heap t items)(hs:s.heap.IsSliceOf sl vl vu .none)(pl:IsPart vl lo)(pu:IsPart vu hi)
  (hw:¬(iW items.size 0 lo=0/\iW items.size items.size hi=items.size))
  (h:Q (.ref s.heap.objs.size) { s with heap:=s.heap.push { cls:=.type "tuple",data:=.seq ((items.toList.drop (iW items.size 0 lo)).take (iW items.size items.size hi-iW items.size 0 lo)).toArray } })
  (hsz:items.size<=sizeLine):wpAny (model prog w) A (getItem (.ref t) (.ref sl)) Q E s:=by
 have a:sizeOk (.seq ((items.toList.drop (iW items.size 0 lo)).take (iW items.size items.size hi-iW items.size 0 lo)).toArray):=by show ((items.toList.drop (iW items.size 0 lo)).take (iW items.size items.size hi-iW items.size 0 lo)).toArray.size<=sizeLine;rw[T1,v6,B2,ah6];omega
 obtain⟨f,b,c,g⟩:=id hs;have d:s.TypeIs (.ref sl) "slice" := ⟨f,b,c⟩
 unfold getItem;try with_reducible refine ae9 ?_
 first | refine y0 (X2 ?_) | skip
 refine y0 (wpAny_sequenceKey ht.typeIs (by decide) ?_);refine y0 (wpAny_callSpecial?_slot (name:=Str.ofString "__getitem__") ht.typeIs PyProof.Rows.slot_tuple_getitem
  (wpAny_call_entry PyProof.Rows.slot_tuple_getitem ht.typeIs entry_tuple_getitem ?_ (args_tuple_getitem _ _)))
 show wpAny _ _ (Builtin.Tuple.tupleItemsOf (.ref t) >>= _) _ _ s;refine y0 (tupleItemsOf_ ht ?_);refine y0 (wpAny_typeOf d ?_);rw[w4 (by decide)];refine y0 (qT hs pl pu ?_);have e:¬((((iW items.size 0 lo:Nat):Int) == 0 && (1:Int) == 1 && (iW items.size items.size hi-iW items.size 0 lo) == items.size)=true):=by intro q;rw[ad4,ad4] at q;exact hw ⟨by lia,by lia⟩
 show wpAny _ _ (if (((iW items.size 0 lo:Nat):Int) == 0 && (1:Int) == 1 && (iW items.size items.size hi-iW items.size 0 lo) == items.size)=true then _ else _) _ _ s;rw[C5 e,IX];first
  |exact y0 (m:=Builtin.Tuple.tupleExact _) (ag9 (X2 ⟨_,rfl,X2 h⟩) a)
  |exact y0 (m:=Builtin.Tuple.tupleExact _) (ag9 (y0 (X2 (X2 ⟨_,rfl,X2 h⟩))) a)
  |exact y0 (y0 (m:=Builtin.Tuple.tupleExact _) (ag9 (X2 (X2 ⟨_,rfl,X2 h⟩)) a))
  |exact y0 (y0 (m:=Builtin.Tuple.tupleExact _) (ag9 (X2 ⟨_,rfl,X2 h⟩) a))
end
end HT
namespace L2
open PySem PySem.Spec PyProof.Rows
abbrev TO:=St->Hp->(Option Int->Hp->Prop)->Prop
def PO(X:Cx)(e:Option Expr)(t:TO):Prop :=
 ∀a s Z H Q,Inv X a Z H s->t Z H Q ->
  wpAny (model X.prog X.w) X.A (evalPart e X.env) (λu c=>∃o b,Inv X a Z b c/\IsPart u o/\Q o b) X.xe s
def Co:TO:=λ_ H Q=>Q none H
inductive isI(P:Int->Prop):V->Prop|mk{i:_}(_:P i):isI P (.int i)
def isI_i{P:Int->Prop}{x:V}:isI P x↔∃i,x = .int i/\P i:=⟨λh=>by obtain@⟨i,h0⟩:=h;exact⟨i,rfl,h0⟩,λh=>by obtain⟨i,rfl,h0⟩:=h;exact⟨h0⟩⟩
def N6(t:TE):TO:=λZ H Q=>t Z H λx a=>isI (λi=>Q (some i) a) x
def intsAre_of:∀{us:c8},Vals (ns.map V.int) us->IntsAre us ns:=by
 induction ns with
 |nil=>intro us r;rw[List.map_nil] at r;cases r;exact .nil
 |cons n ns ih =>
  intro us r;rw[ab5] at r;cases r with
  |cons r1 r2 =>
   obtain⟨t,e⟩:=r1;subst e;exact .cons n t (ih r2)
section
variable {e:Expr}{lo hi:Option Expr}{tl th:TO}{p2:Pos}
def cP:PO X none Co:=by intro a s Z H Q I h;rw[evalPart_none];exact X2 ⟨none,H,I,.none,h⟩
def bO(h:PE X e te):PO X (some e) (N6 te):=by intro a s Z H Q I b;rw[evalPart_some];refine dS (h a s Z H _ I b) λu l  c=>?_;obtain⟨x,d,f,g,j⟩:=c;obtain⟨i,rfl,q⟩:=isI_i.mp j;obtain⟨t,rfl⟩:=g;exact⟨some i,d,f,.int i t,q⟩
def YR(X:Cx)(r:V->Option Int->Option Int->Hp->VK->Prop):Prop :=
 ∀a s Z H x v b c d e f Q,Inv X a Z H s->RelV x v->s.heap.IsSliceOf f b c .none->IsPart b d->IsPart c e->r x d e H Q ->
  ∃T g,typeLookup (.type T) "__getitem__" = pure (some (.builtin g))/\s.TypeIs v T/\wpAny (model X.prog X.w) X.A (getItem v (.ref f)) (EP X a Z Q) X.xe s
def tSl(r:V->Option Int->Option Int->Hp->VK->Prop)(te:TE)(tl th:TO):TE:=λZ H Q=>te Z H λx a=>tl Z a λl b=>th Z b λu c=>r x l u c Q
def bS{r:V->Option Int->Option Int->Hp->VK->Prop}(hr:YR X r)(he:PE X e te)(hl:PO X lo tl)(hu:PO X hi th):PE X (.Subscript e (.Slice lo hi none p2) pos) (tSl r te tl th):=by intro a s Z H Q I h;refine Subscript_ (dS (he a s Z H _ I h) λv j  g=>?_);obtain⟨x,n,o,p,t⟩:=g;refine wpAny_Slice (dS (hl a j Z n _ o t) λd y ⟨l,z,B,C,D⟩=>dS (hu a y Z z _ B D) λf c  g=>?_);obtain⟨u,i,E,F,G⟩:=g;rw[evalPart_none];refine X2 ?_;obtain⟨T,O,K,L,M⟩:=hr a { c with heap:=c.heap.push { cls:=.type "slice",data:=.fields #[d,f,.none] } } Z i x v d f l u c.heap.objs.size Q (E.kept (t':=c.toks) λb N q=>x0 _ q) p (Heap.IsSliceOf.new ..) C F G;show wpAny (model X.prog X.w) X.A (subscriptTail e (.Slice lo hi none p2) v (.ref c.heap.objs.size)) (EP X a Z Q) X.xe { c with heap:=c.heap.push { cls:=.type "slice",data:=.fields #[d,f,.none] } };exact tail_any (ops:=[.ref c.heap.objs.size,v]) L K M (by with_unfolding_all rfl)
def b9(xs:q7)(lo hi:Option Int):q7:=(xs.drop (HT.iW xs.length 0 lo)).take (HT.iW xs.length xs.length hi-HT.iW xs.length 0 lo)
def qW(xs:q7)(lo hi:Option Int):(b9 xs lo hi).length<=xs.length:=by unfold b9;rw[v6,B2];lia
inductive Zy(K:W.Frag):V->Option Int->Option Int->Hp->VK->Prop|mk{a xs:_}{lo hi H Q:_}(_:bT K H a xs)(_:¬(HT.iW xs.length 0 lo=0/\HT.iW xs.length xs.length hi=xs.length))(_:∀p,H p=none->Q (.ref p) (ag H p (.tup (b9 xs lo hi)))):Zy K (.ref a) lo hi H Q
def Rn:YR X (Zy X.K):=by
 intro i s Z H x v z A e f B Q I n p t u h;obtain@⟨a,d,_,_,_,_,w,y,q⟩:=h;cases n;obtain⟨g,r,j,l⟩:=I.tuple w;have c:=T1▸r.length.symm
 refine⟨"tuple",_,PyProof.Rows.slot_tuple_getitem.lookup,j.typeIs,?_⟩;refine HT.qh j p t u (c▸y) ?_ (c▸l);rw[c];refine⟨.ref s.heap.objs.size,_,I.laid (t':=s.toks) (o:=.tup (b9 d e f)) (λb C q=>x0 _ q) (N0 _) ?_,rfl,q _ (I.ba.fresh (N0 _))⟩;exact⟨ac2 (qW d e f) l,_,(r.drop (HT.iW d.length 0 e)).take (HT.iW d.length d.length f-HT.iW d.length 0 e),IsTup.new _ _⟩
inductive CF(f:c9->c9->Bool)(K:W.Frag)(x:V)(y:V)(H:Hp)(Q:VK):Prop|mk(a b ns ms)(_:x = .ref a)(_:y = .ref b)(_:bT K H a (ns.map V.int))(_:bT K H b (ms.map V.int))(_:Q (.bl (f ns ms)) H)
def xu(hf:∀{s a b xs ys ns ms Q E},IsTup s.heap a xs->IsTup s.heap b ys->IntsAre xs.toList ns->IntsAre ys.toList ms->Q (.bool (f ns ms)) s->wpAny (model X.prog X.w) X.A (compareOp op (.ref a) (.ref b)) Q E s):mL X (compareOp op) (CF f X.K):=by intro c s Z H x y v u Q I e g h;obtain⟨a,b,ns,ms,rfl,rfl,i,j,q⟩:=h;cases e;cases g;obtain⟨l,n,o,_⟩:=I.tuple i;obtain⟨d,p,r,_⟩:=I.tuple j;exact hf o r (intsAre_of n) (intsAre_of p) ⟨.bl (f ns ms),H,I,rfl,q⟩
def S1(hu:X.A.units<cLine):mL X (compareOp .Lt) (CF HT.lexLt X.K):=xu λa b c d q=>HT.tM a b c d hu q
def nN(hu:X.A.units<cLine):mL X (compareOp .Gt) (CF HT.gY X.K):=xu λa b c d q=>HT.tF a b c d hu q
def Bo(hu:X.A.units<cLine):mL X (compareOp .LtE) (CF HT.lexLe X.K):=xu λa b c d q=>HT.Ad a b c d hu q
inductive XD(K:W.Frag):V->V->Hp->VK->Prop|mk{a b xs ys:_}{H Q:_}(_:bT K H a xs)(_:bT K H b ys)(_:xs≠[])(_:xs.length+ys.length<=sizeLine)(_:(ys=[]->Q (.ref a) H))(_:(ys≠[]->∀p,H p=none->Q (.ref p) (ag H p (.tup (xs++ys))))):XD K (.ref a) (.ref b) H Q
def Vals.xF(r:Vals xs us):us=[]↔xs=[]:=by
 cases r with
 |nil=>simp
 |cons _ _=>simp
def Lb:mL X (binaryOp .Add) (XD X.K):=by intro e s Z H x y v u Q I i j h;obtain@⟨a,b,l,n,_,_,p,r,t,f,A,B⟩:=h;cases i;cases j;obtain⟨C,d,D,_⟩:=I.tuple p;obtain⟨g,c,E,_⟩:=I.tuple r;refine HT.Lu D E (λz=>t (d.xF.mp z)) (λz=>⟨.ref a,H,I,rfl,A (c.xF.mp z)⟩) (λz=>?_) (d.length▸c.length▸f);refine⟨.ref s.heap.objs.size,_,I.laid (t':=s.toks) (o:=.tup (l++n)) (λb F q=>x0 _ q) (N0 _) ?_,rfl,B (λw=>z (c.xF.mpr w)) _ (I.ba.fresh (N0 _))⟩;exact⟨i5▸f,_,d.append c,IsTup.new _ _⟩
end
noncomputable def zG(n:Nat)(i:Int):Option Nat:=if 0<=i then (if i<n then some i.toNat else none) else if -n<=i then some (i+n).toNat else none
def oE{α:Type}(xs:List α)(i:Int):Option α:=(zG xs.length i).bind λj=>xs[j]?
def BE(h:zG n i=some j):seqIndex? i n=some j/\j<n /\ -(n:Int)<=i/\i<n:=by
 unfold zG at h;by_cases b:0<=i
 .rw[w4 b] at h;by_cases a:i<n
  .rw[w4 a] at h;exact⟨by rw[seqIndex_of b a,(aa1 h)],by lia,by lia,a⟩
  .rw[C5 a] at h;cases h
 .rw[C5 b] at h;by_cases a:-(n:Int)<=i
  .rw[w4 a] at h;exact⟨by rw[seqIndex_neg (by lia) a,(aa1 h)],by lia,a,by lia⟩
  .rw[C5 a] at h;cases h
def wc{α:Type}{xs:List α}{i:Int}{v:α}(h:oE xs i=some v):∃j,seqIndex? i xs.length=some j/\xs[j]?=some v/\j<xs.length /\ -(xs.length:Int)<=i/\i<xs.length:=by
 unfold oE at h;cases e:zG xs.length i with
 |none=>rw[e] at h;cases h
 |some j =>
  rw[e] at h;obtain⟨a,b,c,d⟩:=BE e;exact⟨j,a,h,b,c,d⟩
def aB{α:Type}{xs:List α}{j:Nat}{v:α}(h:xs[j]?=some v):oE xs (j:Int)=some v:=by
 have a:=(d6.mp h).1;have e:zG xs.length (j:Int)=some j:=by unfold zG;rw[w4 (by lia),w4 (by lia)];simp
 unfold oE;exact e▸h
def M3(b:Expr):Prop:=∀o i,subscripted b false o i=operate [o,i] (getItem o i)
def Wg(X:Cx)(r:R2):Prop :=
 ∀c a b s Z H x y v u Q,Inv X b Z H s->RelV x v->RelV y u->r x y H Q ->
  subscripted a false v u=operate [v,u] (getItem v u)->wpAny (model X.prog X.w) X.A (subscriptTail c a v u) (EP X b Z Q) X.xe s
def Su(X:Cx)(id:String)(r:V->q7->Hp->VK->Prop):Prop :=
 ∀a s Z H x b v us Q,Inv X a Z H s->RelV x v->Vals b us->r x b H Q ->
  wpAny (model X.prog X.w) X.A (call (.builtin id) (v::us)) (EP X a Z Q) X.xe s
section
variable {a b:Expr}{ta tb:TE}
def aC{r:R2}(hr:Wg X r)(ha:PE X a ta)(hb:PE X b tb)(hs:autoParam (M3 b) cw._auto_1):PE X (.Subscript a b pos) (Wf r ta tb):=by intro c s Z H Q I h;exact Subscript_ (T8 ha hb I h λv u d x y e f g i q=>hr a b c d Z e x y v u Q f g i q (hs _ _))
inductive LP(K:W.Frag):V->V->Hp->VK->Prop|mk{p xs i v:_}{H Q:_}(_:aV K H p xs)(_:oE xs i=some v)(_:Q v H):LP K (.ref p) (.int i) H Q
inductive RW(K:W.Frag):V->V->Hp->VK->Prop|mk{p xs i v:_}{H Q:_}(_:bT K H p xs)(_:oE xs i=some v)(_:Q v H):RW K (.ref p) (.int i) H Q
inductive XE:V->V->Hp->VK->Prop|mk{z i c:_}{H Q:_}(_:z.length<=sizeLine)(_:oE z.l i=some c)(_:Q (.str ⟨#[c]⟩) H):XE (.str z) (.int i) H Q
def XE_i{x:V}{y:V}:XE x y H Q↔∃z i c,x = .str z/\y = .int i/\z.length<=sizeLine/\oE z.l i=some c/\Q (.str ⟨#[c]⟩) H:=⟨λh=>by obtain@⟨z,i,c,_,_,h0,h1,h2⟩:=h;exact⟨z,i,c,rfl,rfl,h0,h1,h2⟩,λh=>by obtain⟨z,i,c,rfl,rfl,h0,h1,h2⟩:=h;exact⟨h0,h1,h2⟩⟩
def aU:Wg X (LP X.K):=by
 intro d e a s Z H x y v u Q I C D h o;obtain@⟨p,N,i,z,_,_,E,F,q⟩:=h;cases C;obtain⟨t,rfl⟩:=D;obtain⟨f,r,g,O⟩:=I.list E;obtain⟨j,c,G,P,J,L⟩:=wc F;obtain⟨w,A,l⟩:=r.get G;have hl:=r.length;have R:=o7;have b:EP X a Z Q w s:=⟨z,H,I,l,q⟩
 by_cases B:0<=i
 .have n:i.toNat=j:=by rw[seqIndex_of B L] at c;exact aa1 c
  exact item_listR g.isList B (by lia) (by rw[n];simpa using A) b o
 .have n:(i+(f.toArray.size:Int)).toNat=j:=by rw[seqIndex_neg (by lia) J] at c;exact T1▸hl▸aa1 c
  exact subscriptTail_builtinR (x:=w) g.isList.typeIs slot_list_getitem.lookup
   (wpAny_getItem_list_neg (Q:=λr M=>r=w/\EP X a Z Q r M) g.isList (by lia) (by rw[T1] <;> lia) (by lia) (by rw[n];simpa using A) ⟨rfl,b⟩) o
def aO:Wg X (RW X.K):=by
 intro b c a s Z H x y v u Q I g l h n;obtain@⟨p,G,i,z,_,_,o,A,q⟩:=h;cases g;obtain⟨t,rfl⟩:=l;obtain⟨B,r,f,J⟩:=I.tuple o;obtain⟨j,C,D,L,M,N⟩:=wc A;obtain⟨w,E,d⟩:=r.get D;have O:=o7;have e:EP X a Z Q w s:=⟨z,H,I,d,q⟩
 exact subscriptTail_builtinR (x:=w) f.typeIs slot_tuple_getitem.lookup
  (getItem_tuple (j:=j) (Q:=λr F=>r=w/\EP X a Z Q r F) f (by lia) (by lia) (T1▸r.length▸C) (by simpa using E) ⟨rfl,e⟩) n
def lC:Wg X XE:=by
 intro a b d s Z H x y v u Q I f g h l;obtain@⟨z,i,c,_,_,B,n,q⟩:=h;obtain⟨t,rfl⟩:=f;obtain⟨C,rfl⟩:=g;obtain⟨j,e,o,D,p,r⟩:=wc n;have hl:z.l.length=z.length:=by simp[Str.length]
 rw[hl] at e p r;have E:=o7;exact tail_any (am6 s z t) slot_str_getitem.lookup (getItem_str (c:=c) (by have w:decide (i < -(2 ^ 63:Int))=false:=ab2 (by lia);have A:decide (i ≥ 2 ^ 63)=false:=ab2 (by lia);rw[w,A,Bool.or_false]) (by rw[e];simpa using o) ⟨.str ⟨#[c]⟩,H,I.tok _,⟨_,rfl⟩,q⟩) l
def zT (its:c8) (n j:Nat) (u:Value):Obj.mapSeq (·.setIfInBounds j u) { cls:=.type "list",data:=.seq its.toArray n } = { cls:=.type "list",data:=.seq (its.set j u).toArray n }:=by simp[Obj.mapSeq]
def Inv.lst(I:Inv X am Z H s)(h:H p=r6 xs) :
  ∃(its:c8) (n:Nat),Vals xs its/\s.heap.get? p=some { cls:=.type "list",data:=.seq its.toArray n }/\xs.length<=sizeLine:=by
 obtain⟨z,its,n,r,e⟩:=I.ba p _ h;exact⟨its,n,r,e,z⟩
def Inv.Sb(I:Inv X am Z H s)(h:H p=r6 xs)
  (ho:s.heap.get? p=some { cls:=.type "list",data:=.seq its.toArray n }) (hf:f { cls:=.type "list",data:=.seq its.toArray n } = { cls:=.type "list",data:=.seq its'.toArray n' }) (r:Vals ys its') (hz:ys.length<=sizeLine) (t:Nat) :
  Inv X am Z (ag H p (.lst ys)) { s with heap:=s.heap.update p f,toks:=t }:=by
 have e:(s.heap.update p f).get? p=some { cls:=.type "list",data:=.seq its'.toArray n' }:=by rw[af0 f ho (by rw[hf] <;> rfl),hf]
 refine I.write (x:=p) (e:=p) (by rw[h];trivial) (.inl rfl) (λb u a q=>(ab0 _ _ (aa4 a)).trans q) ⟨_,e⟩ ?_;exact⟨hz,its',n',r,e⟩
inductive Yt(o:V)(i:V)(v:V)(H:Hp)(Q:(Hp->Prop)):Prop|mk(p xs k j)(_:o = .ref p)(_:i = .int k)(_:H p=r6 xs)(_:zG xs.length k=some j)(_:Q (ag H p (.lst (xs.set j v))))
def set_list:XW X Yt:=by
 intro a s Z H o i v E F u Q I y z A h;obtain⟨p,B,k,j,rfl,rfl,f,C,q⟩:=h;cases y;obtain⟨t,rfl⟩:=z;obtain⟨b,n,r,d,D⟩:=I.lst f;obtain⟨c,G,g,l⟩:=BE C;have hl:=r.length;have J:=o7;have w:=
  I.Sb f d (zT b n j u) (r.set A j) (by rw[List.length_set];exact D) s.toks
 by_cases x:0<=k
 .have e:k.toNat=j:=by rw[seqIndex_of x l] at c;exact aa1 c
  exact W.ki_setAt d x (by lia) (T1▸hl▸l) (e▸⟨_,w,q⟩)
 .have e:(k+(b.toArray.size:Int)).toNat=j:=by rw[seqIndex_neg (by lia) g] at c;exact T1▸hl▸aa1 c
  exact W.ki_setBack d (by lia) (T1▸hl▸g) (by lia) (e▸⟨_,w,q⟩)
def wW(lo hi:Option Int)(n:Nat):(sliceBounds lo hi none n).1=((HT.iW n 0 lo:Nat):Int)/\(sliceBounds lo hi none n).2.1=((HT.iW n n hi:Nat):Int)/\(sliceBounds lo hi none n).2.2=1:=by
 refine⟨?_,?_,rfl⟩
 .cases lo with
  |none=>simp[sliceBounds,HT.iW]
  |some i =>
   simp only[sliceBounds,HT.iW,Option.getD_none,show (1:Int)>0 by decide,if_true];by_cases h:i<0
   .simp only[h,if_true] <;> lia
   .simp only[h,ao9] <;> lia
 .cases hi with
  |none=>simp[sliceBounds,HT.iW]
  |some i =>
   simp only[sliceBounds,HT.iW,Option.getD_none,show (1:Int)>0 by decide,if_true];by_cases h:i<0
   .simp only[h,if_true] <;> lia
   .simp only[h,ao9] <;> lia
def uJ(its:c8)(lo hi:Option Int):slicePick its.toArray lo hi none=((its.drop (HT.iW its.length 0 lo)).take (HT.iW its.length its.length hi-HT.iW its.length 0 lo)).toArray:=by obtain⟨a,b,c⟩:=wW lo hi its.toArray.size;unfold slicePick;rw[a,b,c];simp only[sliceRange_one,pick_run,T1] <;> rfl
inductive Y5(K:W.Frag):V->Option Int->Option Int->Hp->VK->Prop|mk{a xs:_}{lo hi H Q:_}(_:aV K H a xs)(_:∀p,H p=none->Q (.ref p) (ag H p (.lst (b9 xs lo hi)))):Y5 K (.ref a) lo hi H Q
def cZ:YR X (Y5 X.K):=by intro g s Z H x v y z e f A Q I j l n p h;obtain@⟨a,c,_,_,_,_,t,q⟩:=h;cases j;obtain⟨u,r,i,w⟩:=I.list t;have d:=r.length;refine⟨"list",_,slot_list_getitem.lookup,i.isList.typeIs,?_⟩;refine wpAny_getItem_list_slice i.isList l n p .none (by simp) ?_ (by rw[T1] <;> lia);rw[uJ,<- d];refine⟨.ref s.heap.objs.size,_,I.laid (t':=s.toks) (o:=.lst (b9 c e f)) (λb B q=>x0 _ q) (N0 _) ?_,rfl,q _ (I.ba.fresh (N0 _))⟩;exact⟨ac2 (qW c e f) w,_,0,(r.drop (HT.iW c.length 0 e)).take (HT.iW c.length c.length f-HT.iW c.length 0 e),aa5 _ rfl⟩
noncomputable def jy:V->Bool
 |.dj=>true
 |.bl _=>true
 |.int _=>true
 |.str _=>true
 |_=>false
noncomputable def D0:V->V->Bool
 |.dj,.dj=>true
 |.bl a,.bl b=>a == b
 |.bl a,.int b=>(if a then 1 else 0) == b
 |.int a,.bl b=>a == (if b then 1 else 0)
 |.int a,.int b=>a == b
 |.str a,.str b=>a == b
 |_,_=>false
def Ax(ry:RelV y u)(rx:RelV x v)(fy:jy y=true)(fx:jy x=true):SeqAt.EqAt A s u v (D0 y x):=by
 cases y with
 |dj =>
  cases ry;cases x with
  |dj=>cases rx;exact SeqAt.EqAt.same _
  |bl b=>cases rx;exact SeqAt.EqAt.none_bool b
  |int b=>obtain⟨t,rfl⟩:=rx;exact SeqAt.EqAt.none_int b t
  |str b=>obtain⟨t,rfl⟩:=rx;exact SeqAt.EqAt.none_str b t
  |_=>exact absurd (show false=true from fx) Z7
 |bl a =>
  cases ry;cases x with
  |dj=>cases rx;exact SeqAt.EqAt.bool_none a
  |bl b=>cases rx;exact SeqAt.EqAt.bool_bool a b
  |int b=>obtain⟨t,rfl⟩:=rx;exact SeqAt.EqAt.bool_int a b t
  |str b=>obtain⟨t,rfl⟩:=rx;exact SeqAt.EqAt.bool_str a b t
  |_=>exact absurd (show false=true from fx) Z7
 |int a =>
  obtain⟨c,rfl⟩:=ry;cases x with
  |dj=>cases rx;exact SeqAt.EqAt.int_none a c
  |bl b=>cases rx;exact SeqAt.EqAt.int_bool a c b
  |int b=>obtain⟨t,rfl⟩:=rx;exact SeqAt.EqAt.int_int a c b t
  |str b=>obtain⟨t,rfl⟩:=rx;exact SeqAt.EqAt.int_str a c b t
  |_=>exact absurd (show false=true from fx) Z7
 |str a =>
  obtain⟨c,rfl⟩:=ry;cases x with
  |dj=>cases rx;exact SeqAt.EqAt.str_none a c
  |bl b=>cases rx;exact SeqAt.EqAt.str_bool a c b
  |int b=>obtain⟨t,rfl⟩:=rx;exact SeqAt.EqAt.str_int a c b t
  |str b=>obtain⟨t,rfl⟩:=rx;exact SeqAt.EqAt.str_str a c b t
  |_=>exact absurd (show false=true from fx) Z7
 |_=>exact absurd (show false=true from fy) Z7
def zL(x:V)(u:Value):Bool:=match u with
 |.none=>D0 .dj x
 |.bool b=>D0 (.bl b) x
 |.int i _=>D0 (.int i) x
 |.str z _=>D0 (.str z) x
 |_=>false
def EL(r:RelV y u)(f:jy y=true):zL x u=D0 y x:=by
 cases y with
 |dj=>cases r;rfl
 |bl b=>cases r;rfl
 |int i=>obtain⟨t,rfl⟩:=r;rfl
 |str z=>obtain⟨t,rfl⟩:=r;rfl
 |_=>exact absurd (show false=true from f) Z7
theorem pX:∀{xs:q7} {us:c8},Vals xs us->xs.all jy=true->us.any (zL x)=xs.any λy=>D0 y x
 |_,_,.nil,_=>rfl
 |y::xs,u::us,.cons r t,f=>by rw[List.all_cons,ad4] at f;rw[List.any_cons,List.any_cons,EL r f.1,pX t f.2]
theorem nc(rx:RelV x v)(fx:jy x=true):∀{xs:q7} {us:c8},Vals xs us->xs.all jy=true->∀u∈us,SeqAt.EqAt A s u v (zL x u)
 |_,_,.nil,_=>λu hu=>by cases hu
 |y::xs,u::us,.cons r t,f=>λu' hu=>by
  rw[List.all_cons,ad4] at f;rcases Z5.mp hu with rfl|hu
  .rw[EL r f.1];exact Ax r rx f.1 fx
  .exact nc rx fx t f.2 u' hu
def Mz(x:V)(xs:q7):Bool:=xs.any λy=>D0 y x
inductive Zc(K:W.Frag)(neg:Bool)(x:V):V->Hp->VK->Prop|mk{p xs:_}{H Q:_}(_:(aV K H p xs\/bT K H p xs))(_:jy x=true)(_:xs.all jy=true)(_:Q (.bl (if neg then !Mz x xs else Mz x xs)) H):Zc K neg x (.ref p) H Q
def iA:mL X (compareOp .In) (Zc X.K false):=by
 intro e s Z H x y v u Q I f i h;obtain@⟨p,l,_,_,b,g,fs,q⟩:=h;cases i;rcases b with b|b
 .obtain⟨a,r,c,j⟩:=I.list b;refine SeqAt.in_listAt (zL x) c.isList (λw d=>nc f g r fs w (by simpa using d)) ⟨.bl _,H,I,rfl,?_⟩;rw[show a.toArray.any (zL x)=a.any (zL x) by simp,pX r fs];exact q
 .obtain⟨a,r,c,j⟩:=I.tuple b;refine SeqAt.in_tupleAt (zL x) c (λw d=>nc f g r fs w (by simpa using d)) ⟨.bl _,H,I,rfl,?_⟩;rw[show a.toArray.any (zL x)=a.any (zL x) by simp,pX r fs];exact q
def mj:mL X (compareOp .NotIn) (Zc X.K true):=by
 intro e s Z H x y v u Q I f i h;obtain@⟨p,l,_,_,b,g,fs,q⟩:=h;cases i;rcases b with b|b
 .obtain⟨a,r,c,j⟩:=I.list b;refine SeqAt.notIn_listAt (zL x) c.isList (λw d=>nc f g r fs w (by simpa using d)) ⟨.bl _,H,I,rfl,?_⟩;rw[show a.toArray.any (zL x)=a.any (zL x) by simp,pX r fs];exact q
 .obtain⟨a,r,c,j⟩:=I.tuple b;refine SeqAt.notIn_tupleAt (zL x) c (λw d=>nc f g r fs w (by simpa using d)) ⟨.bl _,H,I,rfl,?_⟩;rw[show a.toArray.any (zL x)=a.any (zL x) by simp,pX r fs];exact q
def aD:gS X (.builtin "len") (λxs H Q=>∃p ys,xs=[.ref p]/\(aV X.K H p ys\/bT X.K H p ys)/\Q (.int ys.length) H):=by
 intro f s Z H xs us Q I r h;obtain⟨p,ys,rfl,b,q⟩:=h;obtain⟨u,rfl,g⟩:=vals1 r;cases g;have j:=o7;rcases b with b|b
 .obtain⟨c,d,e,i⟩:=I.list b;have a:=d.length;exact Calls.call_len_list e.isList (by simp only[T1] <;> lia) ⟨.int ys.length,H,I.tok _,⟨s.toks+1,by rw[T1,a]⟩,q⟩
 .obtain⟨c,d,e,i⟩:=I.tuple b;have a:=d.length;exact len_tuple e (by simp only[T1] <;> lia) ⟨.int ys.length,H,I.tok _,⟨s.toks+1,by rw[T1,a]⟩,q⟩
def bz:gS X (.builtin "len") (λxs H Q=>∃z,xs=[.str z]/\z.length<=sizeLine/\Q (.int z.length) H):=by intro a s Z H xs us Q I r h;obtain⟨z,rfl,b,q⟩:=h;obtain⟨u,rfl,t,rfl⟩:=vals1 r;have c:=o7;exact len_str (by lia) ⟨.int z.length,H,I.tok _,⟨_,rfl⟩,q⟩
def eV:gS X (.type "list") (λxs H Q=>∃p ys,xs=[.ref p]/\(aV X.K H p ys\/bT X.K H p ys)/\∀l,H l=none->Q (.ref l) (ag H l (.lst ys))):=by
 intro g s Z H xs us Q I r h;obtain⟨p,ys,rfl,i,q⟩:=h;obtain⟨u,rfl,C⟩:=vals1 r;cases C;have j:∀a,Vals ys a->ys.length<=sizeLine->∀c d,(∀b B,s.heap.get? b=some B->c.get? b=some B) ->
   c.get? s.heap.objs.size=some { cls:=.type "list",dict:=none,data:=.seq a.toArray d,slots:=#[] }->EP X g Z Q (.ref s.heap.objs.size) { s with heap:=c }:=λa f t c d kp e =>
  ⟨.ref s.heap.objs.size,_,I.laid (t':=s.toks) kp (N0 _) (show dz X.prog X.w _ c _ (.lst ys) from ⟨t,a,d,f,e⟩),rfl,q _ (I.ba.fresh (N0 _))⟩
 rcases i with i|i
 .obtain⟨a,f,x,t⟩:=I.list i;have v:=f.length;obtain⟨o,y,z,n,A⟩:=x.isList;exact call_list_seq p (.inl rfl) y z A (λc d kp e=>j a f t c d kp e) (by simp only[T1] <;> lia)
 .obtain⟨a,f,x,t⟩:=I.tuple i;have v:=f.length;obtain⟨o,y,z,n,A⟩:=x;exact call_list_seq p (.inr rfl) y z A (λc d kp e=>j a f t c d kp e) (by simp only[T1] <;> lia)
def Zh(K:W.Frag)(T:String)(x:V)(H:Hp):Prop:=match x with
 |.str _=>T = "str"
 |.int _=>T = "int"
 |.ref p=>(T = "list" /\ ∃b,aV K H p b)\/(T = "tuple" /\ ∃o,K.lookup p=some o/\o.cls = .type "tuple" /\ o.dict=none) \/
   (T = "dict" /\ ((∃a,H p=some (.dK a))\/∃a,H p=some (.dT a)))\/(T = "set" /\ ∃S n,H p=some (.set S n))
 |_=>False
def JQ(I:Inv X am Z H s)(r:RelV x v)(ty:Zh X.K T x H) :
  s.TypeIs v T/\∀a,v = .ref a->∃ob,s.heap.get? a=some ob/\ob.dict=none:=by
 cases x with
 |str z =>
  obtain⟨t,rfl⟩:=r;cases (show T = "str" from ty);exact⟨am6 s z t,λ_ e=>nomatch e⟩
 |int i =>
  obtain⟨t,rfl⟩:=r;cases (show T = "int" from ty);exact⟨typeIs_int s i t,λ_ e=>nomatch e⟩
 |ref p =>
  cases r;rcases ty with ⟨rfl,w,l⟩|⟨rfl,o,b,q,f⟩|⟨rfl,b⟩|⟨rfl,S,n,b⟩
  .obtain⟨u,_,j,_⟩:=I.list l;refine⟨j.isList.typeIs,λa e=>?_⟩;cases e;obtain⟨o,n,e,c,f,_⟩:=j;exact⟨o,e,f⟩
  .refine⟨⟨o,I.uG p o b,q⟩,λa e=>?_⟩;cases e;exact⟨o,I.uG _ o b,f⟩
  .have z:∃o,s.heap.get? p=some o/\o.ExactDict:=by
    rcases b with ⟨g,b⟩|⟨g,b⟩
    .obtain⟨_,_,_,_,o,_,_,e,d,_⟩:=I.ba p _ b;exact⟨o,e,d⟩
    .obtain⟨_,_,_,_,o,_,_,e,d,_⟩:=I.ba p _ b;exact⟨o,e,d⟩
   obtain⟨o,e,d⟩:=z;refine⟨⟨o,e,d.1⟩,λa h=>?_⟩;cases h;exact⟨o,e,d.2.1⟩
  .obtain⟨o,_,_,_,e,d,_⟩:=I.ba p _ b;refine⟨⟨o,e,d.1⟩,λa h=>?_⟩;cases h;exact⟨o,e,d.2.1⟩
 |_=>exact False.elim ty
def Wo(K:W.Frag)(T:String)(r:V->q7->Hp->VK->Prop)(to:TE):TE:=λZ H Q=>to Z H λx a=>Zh K T x a/\r x [] a Q
def tBM(K:W.Frag)(T:String)(r:V->q7->Hp->VK->Prop)(to:TE)(t:TA):TE:=λZ H Q=>to Z H λx a=>Zh K T x a/\t Z a λb c=>r x b c Q
variable {o e:Expr}{to:TE}{t:TA}{T id:String}{r:V->q7->Hp->VK->Prop}
def qD (pa:PlainAttrs T) (slot:Slot T name id) (hty:typeOf (.builtin id)=pure (.type "method_descriptor")) (hm:Su X id r) (ho:PE X o to)
  (hbase:autoParam (attributeBase o name X.env (eval o X.env)=eval o X.env) cw._auto_1) (hline:autoParam ((apos.endLine == cpos.line)=true) cw._auto_1):PE X (.Call (.Attribute o name apos) [] [] cpos) (Wo X.K T r to):=by
 intro a s Z H Q I h;refine wpAny_Call_method0_late hbase hline (dS (ho a s Z H _ I h) λv d  e=>?_);obtain⟨x,f,b,c,g,i⟩:=e;obtain⟨j,l⟩:=JQ b c g;exact⟨T,id,pa,slot,hty,j,l,ah9 rfl (PySem.evalArgs_none (hm a d Z f x [] v [] Q b c .nil i))⟩
def cV (pa:PlainAttrs T) (slot:Slot T name id) (hty:typeOf (.builtin id)=pure (.type "method_descriptor")) (hm:Su X id r) (ho:PE X o to) (ha:PA X (e::es) t)
  (hbase:autoParam (attributeBase o name X.env (eval o X.env)=eval o X.env) cw._auto_1)
  (hfew:autoParam (((backTo cpos (starEach (e::es) X.env)).all (λx=>!x.1) && (backToKw cpos (keywordEach [] X.env)).all (λx=>x.1.isSome)
   && decide ((e::es).length+([]:List Keyword).length+(if ([]:List Keyword).isEmpty then 0 else 1)<30))=true) cw._auto_1)
  (hline:autoParam ((apos.endLine == cpos.line)=true) cw._auto_1) (hs:autoParam (starEach (e::es) X.env=(false,eval e X.env)::starEach es X.env) cw._auto_1) (hplain:autoParam ((backTo cpos (starEach es X.env)).any (·.1)=false) cw._auto_1) :
  PE X (.Call (.Attribute o name apos) (e::es) [] cpos) (tBM X.K T r to t):=by
 intro a s Z H Q I h;refine wpAny_Call_method_late hbase hfew hline rfl (dS (ho a s Z H _ I h) λv f  g=>?_);obtain⟨x,i,b,c,j,l⟩:=g;obtain⟨n,p⟩:=JQ b c j;refine⟨T,id,pa,slot,hty,n,p,?_⟩;have d:=ha cpos a f Z i _ b l;rw[hs] at d ⊢;refine ah9 (by show (false || (backTo cpos (starEach es X.env)).any (·.1))=false;rw[hplain] <;> rfl) (aj0 ?_);exact dS d λus q ⟨u,w,y,z,A⟩=>hm a q Z w x u v us Q y c z A
end
def Y8(X:Cx)(id:String)(r:V->q7->Hp->VK->Prop):Prop :=
 ∀a s Z H x b v us Q,Inv X a Z H s->RelV x v->Vals b us->r x b H Q ->
  wpAny (model X.prog X.w) X.A (call (.builtin id) (v::us)) (EP X a Z Q) X.xe s
def Vals.one(h:Vals [x] us):∃u,us=[u]/\RelV x u:=by
 cases h with
 |cons r h=>
  cases h;exact⟨_,rfl,r⟩
def Vals.two(h:Vals [x,y] us):∃u v,us=[u,v]/\RelV x u/\RelV y v:=by
 cases h with
 |cons r h=>cases h with
  |cons q h=>
   cases h;exact⟨_,_,rfl,r,q⟩
theorem Vals.zero:∀{us:c8},Vals [] us->us=[]
 |_,.nil=>rfl
def Vals.dropLast(h:Vals xs us):Vals xs.dropLast us.dropLast:=by
 induction h with
 |nil=>exact .nil
 |cons r t ih =>
  cases t with
  |nil=>exact .nil
  |cons q t'=>exact .cons r ih
theorem Vals.rep(h:Vals xs us):∀k:Nat,Vals (List.replicate k xs).flatten (List.replicate k us).flatten
 |0=>.nil
 |k+1=>ag6▸ag6▸am1▸am1▸Vals.append h (Vals.rep h k)
def z7{α:Type}(l:List α):l.eraseIdx (l.length-1)=l.dropLast:=by
 induction l with
 |nil=>rfl
 |cons a r ih =>
  cases r with
  |nil=>rfl
  |cons b r =>
   have e:(a::b::r).length-1=((b::r).length-1)+1:=by have c:(a::b::r).length=r.length+2:=rfl;have d:(b::r).length=r.length+1:=rfl;lia
   rw[e,List.eraseIdx_cons_succ,ih];all_goals rfl
theorem foldl_rep(its:c8):∀(k:Nat) (acc:c8),
  List.foldl (λx1 x2=>x1++x2) acc.toArray (List.replicate k its.toArray)=(acc++(List.replicate k its).flatten).toArray
 |0,acc=>by simp
 |k+1,acc=>by
  have e:acc.toArray++its.toArray=(acc++its).toArray:=by simp
  have a:(acc++its)++(List.replicate k its).flatten=acc++(List.replicate (k+1) its).flatten:=by rw[ag6,am1,ac0]
  rw[<- a,<- foldl_rep its k (acc++its),<- e,ag6,al4]
section
variable {l b:Addr}{xs zs:q7}
def Inv.SD(I:Inv X am Z H s)(hH:H l=r6 xs)
  (e:s.heap.get? l=some { cls:=.type "list",data:=.seq its.toArray n }) (hf:f its.toArray=its'.toArray) (hv:Vals ys its') (hz:ys.length<=sizeLine) :
  Inv X am Z (ag H l (.lst ys)) { s with heap:=s.heap.update l (Obj.mapSeq f),toks:=t' }:=by
 have q:=IsL.update e f;rw[hf] at q;refine I.write (x:=l) (e:=l) (hH▸trivial) (.inl rfl) (λc u a b=>(ab0 s.heap (Obj.mapSeq f) (aa4 a)).trans b) ⟨_,q⟩ ?_;exact⟨hz,its',_,hv,q⟩
def Inv.JS(I:Inv X am Z H s)(hv:Vals ys its)(hz:ys.length<=sizeLine) :
  Inv X am Z (ag H s.heap.objs.size (.lst ys)) { s with heap:=s.heap.push { cls:=.type "list",data:=.seq its.toArray },toks:=t' } :=
 I.laid (λ_ _ q=>x0 _ q) (N0 _) ⟨hz,its,0,hv,aa5 _ rfl⟩
def Inv.fresh(I:Inv X am Z H s):H s.heap.objs.size=none:=I.ba.fresh (N0 _)
def Inv.AG (I:Inv X am Z H s) (hH:H l=r6 xs):xs.length<=sizeLine/\∃(its:c8) (n:Nat),Vals xs its/\xs.length=its.length/\s.heap.get? l=some { cls:=.type "list",data:=.seq its.toArray n }:=by obtain⟨z,its,n,r,e⟩:=I.ba l _ hH;exact⟨z,its,n,r,r.length,e⟩
def zu(h:n<=sizeLine):Builtin.List.listTooLong n=false:=by unfold Builtin.List.listTooLong;exact ab2 (by lia)
end
inductive Mb:V->q7->Hp->VK->Prop|mk{l xs y:_}{H Q:_}(_:H l=r6 xs)(_:xs.length<sizeLine)(_:Q .dj (ag H l (.lst (xs++[y])))):Mb (.ref l) [y] H Q
def bW:Y8 X "list.append" Mb:=by intro b s Z H x i v us Q I d f h;obtain@⟨l,j,y,_,_,c,o,q⟩:=h;cases d;obtain⟨u,rfl,g⟩:=f.one;obtain⟨z,a,n,r,hl,e⟩:=I.AG c;refine am4 aa0 ⟨_,e,rfl⟩ F.entry_list_append (F.args_list_append_2 _ _) (list_append l a.toArray n u (by rw[T1];lia)) ⟨e,?_⟩;refine⟨.dj,_,I.SD (its':=a++[u]) c e (by simp) (r.append (.cons g .nil)) ?_,rfl,q⟩;rw[i5,al5];lia
inductive MR:V->q7->Hp->VK->Prop|mk{l b xs zs:_}{H Q:_}(_:H l=r6 xs)(_:H b=r6 zs)(_:xs.length+zs.length<=sizeLine)(_:Q .dj (ag H l (.lst (xs++zs)))):MR (.ref l) [.ref b] H Q
def CY:Y8 X "list.extend" MR:=by
 intro g s Z H x C v us Q I j o h;obtain@⟨l,b,D,E,_,_,i,p,G,q⟩:=h;cases j;obtain⟨u,rfl,t⟩:=o.one;cases t;obtain⟨z,c,n,r,hl,e⟩:=I.AG i;obtain⟨J,a,w,y,A,B⟩:=I.AG p;have f:c.toArray.size+a.toArray.size<=sizeLine:=by rw[T1,T1];lia
 have d:¬(!c.toArray.isEmpty && Builtin.List.listTooLong (c.toArray.size+a.toArray.size))=true:=by rw[zu f,Bool.and_false];exact Z7
 refine am4 F.slot_list_extend ⟨_,e,rfl⟩ F.entry_list_extend (F.args_list_extend_2 _ _)
  (AutoSeq1.list_extend_list_list_0 l c.toArray n b a.toArray w d (by rw[T1];lia) (by lia)) ⟨e,B,?_⟩
 refine⟨.dj,_,I.SD (its':=c++a) i e (by simp) (r.append y) ?_,rfl,q⟩;rw[i5];omega
inductive Y0:V->q7->Hp->VK->Prop|mk{l xs y:_}{H Q:_}(_:H l=r6 xs)(_:xs[xs.length-1]?=some y)(_:Q y (ag H l (.lst xs.dropLast))):Y0 (.ref l) [] H Q
def qJ:Y8 X "list.pop" Y0:=by
 intro d s Z H x t v us Q I g i h;obtain@⟨l,w,y,_,_,f,j,q⟩:=h;cases g;have b:=i.zero;subst b;obtain⟨z,a,n,r,hl,e⟩:=I.AG f;obtain⟨u,o,p⟩:=r.get j;have c:a.toArray[a.toArray.size-1]?=some u:=by show a.toArray[a.length-1]?=some u;rw[<- Array.getElem?_toList,<- hl];exact o
 refine am4 aj1 ⟨_,e,rfl⟩ F.entry_list_pop (F.args_list_pop_1 _) (MeetsSeq.list_pop_last l a.toArray n u c (by rw[T1];lia)) ⟨e,?_⟩;refine⟨y,_,I.SD (its':=a.dropLast) f e (by show a.toArray.eraseIdxIfInBounds (a.toArray.size-1)=a.dropLast.toArray;rw[T1,List.eraseIdxIfInBounds_toArray,z7]) r.dropLast (by rw[af9];lia),p,q⟩
inductive YW:V->V->Hp->VK->Prop|mk{l b xs zs:_}{H Q:_}(_:H l=r6 xs)(_:H b=r6 zs)(_:xs.length+zs.length<=sizeLine)(_:∀p,H p=none->Q (.ref p) (ag H p (.lst (xs++zs)))):YW (.ref l) (.ref b) H Q
def gM:mL X (binaryOp .Add) YW:=by
 intro d s Z H x y v u Q I f g h;obtain@⟨l,b,A,B,_,_,i,j,C,q⟩:=h;cases f;cases g;obtain⟨z,c,n,r,hl,e⟩:=I.AG i;obtain⟨D,a,E,o,p,t⟩:=I.AG j;refine P.add_list e t ?_ (by rw[T1,T1];lia);have w:c.toArray++a.toArray=(c++a).toArray:=by simp
 exact w▸⟨.ref _,_,I.JS (t':=s.toks) (r.append o) (by rw[i5];lia),rfl,q _ I.fresh⟩
inductive ZK:V->V->Hp->VK->Prop|mk{l k xs:_}{H Q:_}(_:H l=r6 xs)(_:-(2 ^ 63)<=k)(_:k<2 ^ 63)(_:xs.length*k.toNat<=sizeLine)(_:∀p,H p=none->Q (.ref p) (ag H p (.lst (List.replicate k.toNat xs).flatten))):ZK (.ref l) (.int k) H Q
def len_rep{α:Type}(xs:List α)(k:Nat):(List.replicate k xs).flatten.length=k*xs.length:=by
 induction k with
 |zero=>simp
 |succ k ih=>rw[ag6,am1,i5,ih,Nat.succ_mul,Nat.add_comm]
def EW:mL X (binaryOp .Mult) ZK:=by
 intro p s Z H x y v u Q I A B h;obtain@⟨l,k,K,_,_,C,D,E,w,q⟩:=h;cases A;obtain⟨t,rfl⟩:=B;obtain⟨z,b,n,r,hl,e⟩:=I.AG C;have d:b.toArray.size*k.toNat<=sizeLine:=T1▸hl▸w
 have f:¬b.toArray.size*k.toNat>(2 ^ 63-1) / 8:=by
  have:(sizeLine:Nat)<=(2 ^ 63-1) / 8:=by decide
  lia
 have g:¬(!Builtin.List.listFitsIndex k)=true:=by rw[fitsIndex_both D E];exact Z7
 have c:¬Builtin.List.listTooLong (b.toArray.size*k.toNat)=true:=by rw[zu d];exact Z7
 have i:List.foldl (λj o=>j++o) #[] (List.replicate (if b.toArray.isEmpty=true then 0 else k.toNat) b.toArray)=(List.replicate k.toNat b).flatten.toArray:=by
  have G:∀m,List.foldl (λj o=>j++o) #[] (List.replicate m b.toArray)=(List.replicate m b).flatten.toArray:=λm=>by have:=foldl_rep b m [];rw[ao4] at this;exact this
  rw[G];cases b with
  |nil=>simp
  |cons a r'=>rw[C5 (by simp)]
 refine wpAny_binaryOp_repeat_ref (T:="list") (U:="int") (by decide) ⟨_,e,rfl⟩ (λJ=>typeIs_int J k t) noFill_list_mul F.fills_int_mul F.slot_int_rmul repeat_list F.slot_int_index.lookup
  (am4 F.slot_int_rmul (typeIs_int s k t) F.entry_int_rmul (F.args_int_rmul_2 _ _) (int___rmul___int_list k t l b.toArray n)
   ⟨e,rfl,⟨_,e,rfl⟩,am4 F.slot_list_mul ⟨_,e,rfl⟩ F.entry_list_mul (F.args_list_mul_2 _ _) (AutoListH.list___mul___list_int_3 l b.toArray n k t g f c) ⟨e,?_⟩⟩)
 exact i▸⟨.ref _,_,I.JS (t':=s.toks) (r.rep k.toNat) (by rw[len_rep,Nat.mul_comm];exact w),rfl,q _ I.fresh⟩
end L2
namespace Att
open PySem PySem.W PySem.Calls PyProof.Rows
def rK:∀(ns:c9) (vs:c8),WellAll P h vs (ns.map WData.int)->IntsAre vs ns:=by
 intro ns;induction ns with
 |nil =>
  intro vs w;rw[List.map_nil] at w;cases w;exact .nil
 |cons n ns ih =>
  intro vs w;rw[ab5] at w;cases w with
  |cons a b =>
   cases a;exact .cons _ _ (ih _ b)
def Eg{l:OpenLaw}(hn:l.most=some n)
  (hpre:l.row.toRowW.claim.pre args=true) (hwl:WellAll P h vals args) :
  ∃a vs ns,vals=[Value.ref a]/\args=[WData.list (ns.map WData.int)]/\h.get? a=some { cls:=.type "list",data:=.seq vs.toArray }/\IntsAre vs ns/\ns.length<=n:=by
 have g:l.pre.holds [] { args:=args }=true:=(pre_splitW hpre).2;obtain⟨d,r,rfl,i,j⟩:=hasAllW_cons ((pre_splitW hpre).1);obtain rfl:=hasAllW_nil j;obtain⟨s,rfl,o⟩:=hasW_list i;obtain⟨ns,rfl⟩:=items_int o;have b:ns.length<=n:=by
  unfold OpenLaw.pre at g;have c:(WTm.not (.lt (.lit (.int (n:Int))) (.len (.arg 0)))).holds [] { args:=[.list (ns.map .int)] }=true:=by have c:=(holds_andW g).1;rw[hn] at c;exact c
  have e:=condW_of c (w_not (w_lt w_lit (w_len_list (w_arg rfl))));rw[d5] at e;refine Nat.le_of_not_lt λq=>?_;have p:(n:Int)<((ns.length:Nat):Int):=by omega
  first
   | (rw[ab4 p] at e;exact absurd e (by decide))
   | (simp at e;lia)
 cases hwl with
 |cons w1 w2 =>
  cases w2;cases w1 with
  |list ho hall=>exact⟨_,_,ns,rfl,rfl,ho,rK ns _ hall,b⟩
def CN(l:OpenLaw)(args:List WData):l.row.toRowW.claim.post args (.bool true) args=true :=
 postW_of (r:=l.row.toRowW) (X:=(true == true))
  (show WShape.has [] (.bool true) .bool=true by first | rfl | decide | simp[WShape.has,WShape.arms,WShape.armsAll])
  (show (WTm.eq .res (.lit (.bool true))).value [] { args:=args,res:=some (.bool true),after:=args }=some (.bool (true == true)) from w_eq_bool (w_res rfl) w_lit) rfl
def yJ{l:OpenLaw}
  (hn:l.most=some n) (hdf:d.params.defaults=[])
  (call:∀(w:World) (s₀ s₁:Shared) (mg mb:g6) (fa:Addr) (o:Obj) (pm cd doc:Value) (a:Addr) (vs:c8) (ns:c9),
   Ground q loose [] XP w s₀ mg mb s₁.heap->YP w s₁.heap ->
   s₁.heap.get? fa=some o->o.data = .func (docDef d.name d.params d.body d.scope pm cd doc)->s₁.heap.CodeRec cd d.name->mg d.name=some (.ref fa) ->
   s₁.heap.get? a=some { cls:=.type "list",data:=.seq vs.toArray }->IntsAre vs ns->ns.length<=n->s₁.gens = #[] ->
   codeAny (model l.prog w) callerA (.call (.ref fa) ⟨[.ref a],[]⟩) (λr s'=>r = .ok (.ret (.bool true))/\OldK s₁.heap s'.heap/\s'.os=s₁.os/\AllBare s'.gens) s₁) :
  WalkO q loose XP YP l.row.toRowW d [] (λf vs=>PySem.call f vs):=by
 intro w s₀ s₁ mg mb G Y fa o pm cd doc v kV x y h p i z s t I c u A j B;obtain rfl:v = .none:=Dflts.none p hdf;obtain rfl:kV = .none:=Dflts.noKw p;obtain⟨a,vs,ns,rfl,rfl,e,b,g⟩:=Eg hn c j;refine enter_call (codeAny_mono (call w s₀ s₁ mg mb fa o pm cd doc a vs ns G Y x (fd_plain y) h i e b g z) λr s' C=>?_);obtain⟨rfl,D,E,F⟩:=C;exact⟨.inl ⟨.bool true,.bool true,[],rfl,λ_=>rfl,.bool true,CN l _,λ_=>⟨List.Pairwise.nil,λ_ H=>(nomatch H)⟩⟩,D,E,F⟩
section
variable {E:Value->Shared->Prop}{K:Frag}
noncomputable def tV(h:Heap):Heap:={ h with objs:=#[] }
def lq(h:Heap)(b:Addr):(tV h).get? b=none:=by
 cases e:(tV h).get? b with
 |none=>rfl
 |some o=>exact absurd (P2 e) (Nat.not_lt_zero _)
def UM(n:h.Ns L m):Fr (tV h) L h m :=
 ⟨n,λb o e=>(by rw[lq] at e;cases e),Z9 _⟩
end
end Att
namespace L2
open PySem PySem.Spec PyProof.Rows
theorem v5:∀{vs:c8} {ns:c9},IntsAre vs ns->Vals (ns.map V.int) vs
 |_,_,.nil=>.nil
 |_,_,.cons n t h=>.cons ⟨t,rfl⟩ (v5 h)
def Vd(H:Hp):Prop:=∀b,H b=none\/∃o a,H b=some (.mC o (.lst a))
def KS{K:W.Frag}
  (KX:K.In s₁.heap) (hns:s₁.heap.Ns mainGlobals mg) (hb:s₁.heap.Ns builtinsNs mb) (hbb:∀x:Str,x ≠ "__name__" -> mb x=bootBuiltins x) (hlim:s₁.heap.NoLimit) (hg:s₁.gens = #[])
  (ha:s₁.heap.get? a=some { cls:=.type "list",data:=.seq vs.toArray }) (hi:IntsAre vs ns) (hl:ns.length<=sizeLine) (hr:gI k callerA)
  (F:∀ap:Heap,K.In ap->ap.Ns mainGlobals mg->bE P w K mg ap CX k fa fd [x] sp) (hbind:∀(s:Shared) (u:Value),BindsTo s fd ⟨[u],[]⟩ [(x,u)])
  (hsp:∀H:Hp,Vd H->aV K H a (ns.map V.int)->sp [.ref a] H (λv _=>v = .bl true) λ_ _ _=>False)
  (hCX:∀H e s',CX [] H s₁ (λ_ _ _=>False) e s'->False) :
  codeAny (model P w) callerA (.call (.ref fa) ⟨[.ref a],[]⟩) (λr s'=>r = .ok (.ret (.bool true))/\OldK s₁.heap s'.heap/\s'.os=s₁.os/\AllBare s'.gens) s₁:=by
 have B:=v5 hi;have g:∀H,Vd H->aV K H a (ns.map V.int)->lR P w H s₁.heap->(∀b,H b≠none->b=a)->(H a≠none->K.lookup a=none) ->
   codeAny (model P w) callerA (.call (.ref fa) ⟨[.ref a],[]⟩) (λr s'=>r = .ok (.ret (.bool true))/\OldK s₁.heap s'.heap/\s'.os=s₁.os/\AllBare s'.gens) s₁:=by
  intro H C G ba D I;have c:∀{b:Addr} {o:Obj},s₁.heap.get? b=some o->H b=none->(wZ s₁.heap H).get? b=some o:=λe n=>Hr e n;have y:∀{b:Addr} {o:Obj} {j:Array DictEntry} {ep:Nat},s₁.heap.get? b=some o->o.data = .dict j ep->H b=none:=λ{b o j ep} e d=>by
   cases q:H b with
   |none=>rfl
   |some u =>
    have A:=D b (by rw[q];simp);subst A;rw[ha] at e;cases e;have J:=d;cases J
  have f:∀{b:Addr} {m:g6},s₁.heap.Ns b m->(wZ s₁.heap H).Ns b m:=λ{b m} ⟨o,j,ep,e,d,r⟩=>⟨o,j,ep,c e (y e d),d,r⟩
  have l:K.In (wZ s₁.heap H):=λb o e=>c (KX b o e) (by
   cases q:H b with
   |none=>rfl
   |some u =>
    have A:=D b (by rw[q];simp);subst A;rw[I (by rw[q];simp)] at e;cases e)
  have M:AW P w K mg (wZ s₁.heap H) callerA [] s₁ H:=⟨rfl,⟨l,f hns,⟨mb,f hb,hbb⟩,let ⟨mc,h1,h2⟩:=hlim;⟨mc,f h1,h2⟩⟩,λb o e=>LY e,ap0 (DQ _ _),trivial,λb hb=>absurd (show b∈([]:c6) from hb) (by simp),ba,.of_eq hg⟩
  refine codeAny_mono ((F _ l (f hns)).run callerA [] s₁ H ⟨[.ref a],[]⟩ [.ref a] [.ref a] _ _ hr M (hbind s₁ (.ref a)) (.cons rfl .nil) (hsp H C G)) λr s' h=>?_;cases r with
  |error e=>exact(hCX H e s' h).elim
  |ok fl =>
   cases fl with
   |next=>exact False.elim h
   |brk=>exact False.elim h
   |cont=>exact False.elim h
   |ret u =>
    obtain⟨v,T,os,ax,un,p,N,q⟩:=h;have O:=q;subst O;obtain rfl:u=Value.bool true:=N;refine⟨rfl,OldK.of_keep λb o e=>?_,os,ax⟩;cases q:H b with
    |none=>exact un.keep b o e q (by intro z;exact absurd (show b∈([]:c6) from z) (by simp)) (by simp)
    |some u =>
     rcases C b with z|⟨Q,U,z⟩
     .rw[q] at z;cases z
     .obtain⟨E,_⟩:=ba b _ z;obtain⟨S,_⟩:=p b _ (un.pR b Q _ z);rw[e] at E;cases E;exact S
 cases hk:K.lookup a with
 |some o =>
  have e:=KX a o hk;rw[ha] at e;cases e;refine g (λ_=>none) (λ_=>.inl rfl) (.inr ⟨_,vs.toArray,_,hk,rfl,rfl,rfl,T1▸hi.length▸hl,by simpa using B⟩) (λb u z=>by have t:=z;cases t) (λb z=>absurd rfl z) λz=>absurd rfl z
 |none =>
  refine g (λb=>if b=a then some (.mC { cls:=.type "list",data:=.seq vs.toArray } (.lst (ns.map V.int))) else none) (λb=>?_) (.inl (.inr ⟨{ cls:=.type "list",data:=.seq vs.toArray },w4 rfl⟩)) (λb u z=>?_) (λb z=>?_) λ_=>hk
  .by_cases hb:b=a
   .exact .inr ⟨_,_,w4 hb⟩
   .exact .inl (C5 hb)
  .by_cases hb:b=a
   .have t:=(w4 hb).symm.trans z;cases t;subst hb;exact⟨ha,by rw[d5];exact hl,vs,_,B,ha⟩
   .have t:=(C5 hb).symm.trans z;cases t
  .by_cases hb:b=a
   .exact hb
   .exact absurd (C5 hb) z
def LD{l:W.OpenLaw}{K:Params->W.Frag}{CX:World->vR}{sp:World->Sp}
  (hn:l.most=some n) (hn2:n<=sizeLine) (hdf:d.params.defaults=[]) (hr:gI k callerA)
  (hY:∀(w:World) (h:Heap),YP w h->(K w.params).In h)
  (F:∀(w:World) (mg:g6) (fa:Addr) (h:Heap),(K w.params).In h->h.Ns mainGlobals mg->mg d.name=some (.ref fa) ->
   ∃fd:FuncData,(∀(s:Shared) (u:Value),BindsTo s fd ⟨[u],[]⟩ [(x,u)]) /\
    ∀ap:Heap,(K w.params).In ap->ap.Ns mainGlobals mg->bE l.prog w (K w.params) mg ap (CX w) k fa fd [x] (sp w))
  (hsp:∀(w:World) (H:Hp) (a:Addr) (ns:c9),ns.length<=n->Vd H->aV (K w.params) H a (ns.map V.int)->sp w [.ref a] H (λv _=>v = .bl true) λ_ _ _=>False)
  (hCX:∀(w:World) (H:Hp) (s:Shared) (e:Value) (s':Shared),CX w [] H s (λ_ _ _=>False) e s'->False) :
  W.WalkO q loose XP YP l.row.toRowW d [] (λf vs=>call f vs):=by
 refine Att.yJ hn hdf λw I t mg J fa o L M y a vs ns G Y N O z p j i c A=>?_;have r:=hY w _ Y;obtain⟨fd,B,C⟩:=F w mg fa _ r G.T.g p;exact KS r G.T.g G.T.b G.T.builtins G.T.nolimit A j i (ac2 c hn2) hr C B (λH D E=>hsp w H a ns c D E) λH e s'=>hCX w H t e s'
noncomputable def inClass(s:Stmt)(j:Nat):Stmt:=match s with
 |.ClassDef _ _ _ body _ _ _ _ _ _ _=>body.getD j (.Pass ⟨0,0,0,0⟩)
 |_=>.Pass ⟨0,0,0,0⟩
noncomputable def rV(s:Stmt):Arguments:=match s with
 |.FunctionDef _ a _ _ _ _ _ _ _ _=>a
 |_=>{ posonlyargs:=[],args:=[],vararg:=none,kwonlyargs:=[],kw_defaults:=[],kwarg:=none,defaults:=[] }
noncomputable def nP(s:Stmt):List Stmt:=match s with
 |.FunctionDef _ _ b _ _ _ _ _ _ _=>b
 |_=>[]
noncomputable def az(s:Stmt):Scope:=match s with
 |.FunctionDef _ _ _ _ _ _ sc _ _ _=>sc
 |_=>{ kind:=.function,names:=[],isGenerator:=false,isCoroutine:=false }
abbrev dJ:vR:=λ_ _ _ _ _ _=>False
abbrev E0:XK:=λ_ _ _=>False
def aH:Passes dJ X E0:=λ_ _ _ _ _ _ _ h=>h.elim
structure dI(K:W.Frag)(x qual:Str)(st:Stmt)(f:Addr)(fd:FuncData):Prop where
 ex:∃(oc:Value) (od:Option Addr) (kV doc pm:Value) (an:Option Addr) (cdv ct:Value) (osl:Array (Option Value)),
  fd=W.fnOf x qual (rV st) (nP st) (az st) .none kV doc pm an cdv ct/\K.lookup f=some ⟨oc,od,.func fd,osl⟩/\W.codeIn K cdv qual=true
 kp:W.keepIn K (.ref f)=true
section
variable {P:Program}{K:PySem.W.Frag}
def dI.ok{st:Stmt}(F:dI K x qual st f fd)(S:aI N ps (az st))(h:∀vs H Q E,sp vs H Q E->vs.length=ps.length/\∀(cdv:Value) (A:Around) (outer:List Env) (s:Shared),gI k (A.deeper (envOfC qual (az st) s.heap.objs.size f cdv))->∃t,AI (kW dJ P w K mg ap N qual (az st) f cdv A outer s H E).YJ (nP st) t/\t { nx:=λ_ H'=>Q .dj H',rt:=Q } (start N vs) H):bE P w K mg ap dJ (k+1) f fd ps sp:=by obtain⟨g,i,kV,c,j,l,cdv,n,d,rfl,e,a⟩:=F.ex;refine Qu e a S (λvs H Q E z=>(h vs H Q E z).1) λA outer s H vs Q E hr b=>?_;obtain⟨t,h,q⟩:=(h vs H Q E b).2 cdv A outer s hr;exact⟨t,h.YJ,q⟩
def dI.binds{st:Stmt}(F:dI K x qual st f fd)
  (h:∀(kV doc pm:Value) (an:Option Addr) (cdv ct:Value) (us:c8),us.length=ps.length->bindArgs (W.fnOf x qual (rV st) (nP st) (az st) .none kV doc pm an cdv ct) ⟨us,[]⟩=pure (ps.zip us)):Binds K fd ps []:=by
 obtain⟨c,d,kV,doc,pm,an,cdv,ct,a,rfl,e,b⟩:=F.ex;exact .all (h kV doc pm an cdv ct)
abbrev Bz0(x qual:Str)(st:Stmt)(ps:a9)(us:c8):Prop:=∀kV doc pm an cdv ct,bindArgs (W.fnOf x qual (rV st) (nP st) (az st) .none kV doc pm an cdv ct) ⟨us,[]⟩=pure (ps.zip us)
def dI.b0{st:Stmt}(F:dI K x qual st f fd)(h:autoParam (Bz0 x qual st ps []) cw._auto_1)(e:autoParam (ps.length=0) cw._auto_1):Binds K fd ps []:=F.binds λ_ _ _ _ _ _ us hl=>by rw[e] at hl;rcases us with _|_ <;> first|exact h ..|simp at hl
def dI.b1{st:Stmt}(F:dI K x qual st f fd)(h:autoParam (∀a:Value,Bz0 x qual st ps [a]) cw._auto_1)(e:autoParam (ps.length=1) cw._auto_1):Binds K fd ps []:=F.binds λ_ _ _ _ _ _ us hl=>by rw[e] at hl;rcases us with _|⟨a,_|_⟩ <;> first|exact h ..|simp at hl
def dI.b2{st:Stmt}(F:dI K x qual st f fd)(h:autoParam (∀a b:Value,Bz0 x qual st ps [a,b]) cw._auto_1)(e:autoParam (ps.length=2) cw._auto_1):Binds K fd ps []:=F.binds λ_ _ _ _ _ _ us hl=>by rw[e] at hl;rcases us with _|⟨a,_|⟨b,_|_⟩⟩ <;> first|exact h ..|simp at hl
def dI.b3{st:Stmt}(F:dI K x qual st f fd)(h:autoParam (∀a b c:Value,Bz0 x qual st ps [a,b,c]) cw._auto_1)(e:autoParam (ps.length=3) cw._auto_1):Binds K fd ps []:=F.binds λ_ _ _ _ _ _ us hl=>by rw[e] at hl;rcases us with _|⟨a,_|⟨b,_|⟨c,_|_⟩⟩⟩ <;> first|exact h ..|simp at hl
def dI.b4{st:Stmt}(F:dI K x qual st f fd)(h:autoParam (∀a b c d:Value,Bz0 x qual st ps [a,b,c,d]) cw._auto_1)(e:autoParam (ps.length=4) cw._auto_1):Binds K fd ps []:=F.binds λ_ _ _ _ _ _ us hl=>by rw[e] at hl;rcases us with _|⟨a,_|⟨b,_|⟨c,_|⟨d,_|_⟩⟩⟩⟩ <;> first|exact h ..|simp at hl
def dI.b5{st:Stmt}(F:dI K x qual st f fd)(h:autoParam (∀a b c d e:Value,Bz0 x qual st ps [a,b,c,d,e]) cw._auto_1)(e:autoParam (ps.length=5) cw._auto_1):Binds K fd ps []:=F.binds λ_ _ _ _ _ _ us hl=>by rw[e] at hl;rcases us with _|⟨a,_|⟨b,_|⟨c,_|⟨d,_|⟨e,_|_⟩⟩⟩⟩⟩ <;> first|exact h ..|simp at hl
def dI.b6{st:Stmt}(F:dI K x qual st f fd)(h:autoParam (∀a b c d e g:Value,Bz0 x qual st ps [a,b,c,d,e,g]) cw._auto_1)(e:autoParam (ps.length=6) cw._auto_1):Binds K fd ps []:=F.binds λ_ _ _ _ _ _ us hl=>by rw[e] at hl;rcases us with _|⟨a,_|⟨b,_|⟨c,_|⟨d,_|⟨e,_|⟨g,_|_⟩⟩⟩⟩⟩⟩ <;> first|exact h ..|simp at hl
def Ar{st:Stmt}{kV doc pm cdv ct:Value}(l:K.lookup f=some ⟨oc,od,.func (W.fnOf x qual (rV st) (nP st) (az st) .none kV doc pm an cdv ct),osl⟩)
  (c:W.codeIn K cdv qual=true) (k:W.keepIn K (.ref f)=true):dI K x qual st f (W.fnOf x qual (rV st) (nP st) (az st) .none kV doc pm an cdv ct):=⟨⟨oc,od,kV,doc,pm,an,cdv,ct,osl,rfl,l,c⟩,k⟩
end
def cS(hr:gI k A):A.units+1<cLine:=ak7 (an7 (by decide:1<=64) _) hr.units
def pv (i:Nat) {x:Str} {pos:Pos} (hN:autoParam (X.N[i]?=some x) cw._auto_1) (hv:autoParam (X6 X.env.scope x) cw._auto_1) (hd:autoParam ((x == ("__debug__" : Str))=false) cw._auto_1)
  (hcd:autoParam ((x == ("__classdict__" : Str))=false) cw._auto_1):PE X (.Name x pos) (LG i):=Rq hN hv hd hcd
def mH{A B:Prop}(h:B):if false=true then A else B:=by rw[C5 Z7];exact h
def zA{A B:Prop}(h:A):if true=true then A else B:=by rw[w4 rfl];exact h
def af(H H':Hp):Prop:=∀b o,H b=some o->H' b=some o
def af.refl(H:Hp):af H H:=λ_ _ h=>h
def af.trans(a:af H H1)(b:af H1 H2):af H H2:=λc o h=>b c o (a c o h)
def af.free(e:af H H')(h:H' l=Option.none):H l=Option.none:=by
 cases q:H l with
 |none=>rfl
 |some o =>
  rw[e l o q] at h;cases h
def af.seq{K:W.Frag}(e:af H H')(h:aV K H a xs):aV K H' a xs:=by
 rcases h with (h|⟨o,h⟩)|h
 .exact .inl (.inl (e _ _ h))
 .exact .inl (.inr ⟨o,e _ _ h⟩)
 .exact .inr h
end L2
set_option maxHeartbeats 4000000
namespace L2
open PySem PySem.Spec PyProof.Rows
structure oN(sc csc:Scope)(N:a9)(x:Str)(caps:List (Str×Nat)):Prop where
 cell:∀p∈csc.names,p.2 ≠ .cell
 kind:csc.kind = .function
 loc:∀p∈csc.names,p.2 = .local->csc.names.lookup p.1=some .local
 tg:csc.names.lookup x=some .local
 free:∀p∈csc.names,p.2 = .free->sc.names.lookup p.1=some .cell
 cap:∀p∈caps,N[p.2]?=some p.1/\csc.names.lookup p.1=some .free
 nd:(caps.map (·.1)++[x]).Nodup
noncomputable def iS(env:Env):List (Str×NameKind)->List (Str×Addr)->List (Str×Addr)
 | [],cs=>cs
 | (n,k)::r,cs=>iS env r (if k == .free then (n,(env.cells.lookup n).getD 0)::cs else cs)
def uK(h:∀p∈sc.names,p.2 = .free->∃c,env.cells.lookup p.1=some c):closureFor sc env=pure (iS env sc.names []):=by
 obtain⟨o,names,g,c⟩:=sc;simp only[closureFor];have f:∀l b,(∀p∈l,p.2 = .free->∃c,env.cells.lookup p.1=some c) ->
   (forIn l b (λx r=>if (x.2 == NameKind.free)=true then (do let a <- cellOf env x.1;pure (ForInStep.yield ((x.1,a)::r))) else pure (ForInStep.yield r)):Sem (List (Str×Addr)))=pure (iS env l b):=by
  intro l;induction l with
  |nil=>intro b _;rfl
  |cons p r ih =>
   intro b s;obtain⟨n,k⟩:=p;rw[List.forIn_cons];have d:=λb=>ih b (λq t=>s q (Q1 _ t));by_cases i:(k == NameKind.free)=true
   .obtain⟨c,e⟩:=s (n,k) ab7 (by simpa using i);simp only[i,if_true,cellOf,e,iS,pure_bind,Option.getD_some];exact d _
   .have j:(k == NameKind.free)=false:=by simpa using i
    simp only[j,ao9,iS,pure_bind,ak6];exact d _
 have:=f names [] h;first
  | (rw[this];rfl)
  | (simp only[bind_pure];exact this)
  | (refine Eq.trans (bind_pure _) this)
theorem nW:∀(l:List (Str×NameKind)) (cs:List (Str×Addr)),(∀p∈l,p.2 = .free->∃c,env.cells.lookup p.1=some c)->(∀y c,cs.lookup y=some c->env.cells.lookup y=some c) ->
  ∀y c,(iS env l cs).lookup y=some c->env.cells.lookup y=some c
 | [],_,_,h2=>h2
 | (n,k)::r,cs,h1,h2=>by
  unfold iS;refine nW r _ (λq hq=>h1 q (Q1 _ hq)) ?_;by_cases hk:(k == NameKind.free)=true
  .obtain⟨c,e⟩:=h1 (n,k) ab7 (by simpa using hk);rw[w4 hk];intro y a h;rw[e] at h;rw[ae3] at h;cases hy:y == n with
   |true=>rw[hy] at h;simp at h;rw[an0 hy,<- h];exact e
   |false=>rw[hy] at h;exact h2 y a h
  .rw[C5 hk];exact h2
theorem pq:∀(l:List (Str×NameKind)) (cs:List (Str×Addr)) (y:Str),((y,NameKind.free)∈l\/∃c,cs.lookup y=some c)->∃c,(iS env l cs).lookup y=some c
 | [],_,_,h=>by
  rcases h with h|h
  .cases h
  .exact h
 | (n,k)::r,cs,y,h=>by
  unfold iS;refine pq r _ y ?_;by_cases hk:(k == NameKind.free)=true
  .rw[w4 hk];by_cases hy:(y == n)=true
   .exact .inr ⟨_,by rw[ae3,hy]⟩
   .have hy':(y == n)=false:=by simpa using hy
    rcases h with h|⟨c,h⟩
    .rcases Z5.mp h with z|z
     .cases z;simp at hy
     .exact .inl z
    .exact .inr ⟨c,by rw[ae3,hy'];exact h⟩
  .rw[C5 hk];rcases h with h|h
   .rcases Z5.mp h with z|z
    .cases z;simp at hk
    .exact .inl z
   .exact .inr h
abbrev fJ(X:Cx)(N':a9)(csc:Scope)(C:Addr)(s2:Shared)(H2:Hp)(fp:c6):Cx :=
 { X with N:=N',s₀:=s2,H₀:=H2,env:=compEnvC csc (iS X.env csc.names []) C X.env,outer:=X.stack,ex:=fp,fn:=λ_=>false,pn:=[],xe:=λ_ _=>False }
noncomputable def nv(caps:List (Str×Nat))(Z:St):St:=caps.map λp=>(Z[p.2]?).join
def yz(J:It)(caps:List (Str×Nat))(te:TE)(Z:St)(H1:Hp)(Q:VK):Prop:=∃W:Nat->Nat->q7->Hp->Prop,(∃m,W 0 m [] H1)/\∀i m a H,W i m a H ->
 (J.stop i H/\∀D,H D=none->Q (.ref D) (ag H D (.lst a)))\/(J.go i H/\a.length<sizeLine/\∀x b,J.UO i H x b->te (nv caps Z++[some x]) b λy d=>∃c,c<m/\W (i+1) c (a++[y]) d)
def Qw(caps:List (Str×Nat))(wi:TI)(te:TE):TE:=λZ H Q=>wi Z H λJ a=>yz J caps te Z a Q
theorem nq{env:Env}(hk:env.scope.kind = .function):∀{names:List (Str×NameKind)} {x:Str},(∀p∈names,p.2 = .free->env.kindOf p.1=some .cell)->names.lookup x=some .free ->
  (names.map λ(n,k)=>if (k == NameKind.free && env.scope.kind == .function && env.kindOf n == some .cell) then (n,NameKind.cell) else (n,k)).lookup x=some .cell
 | [],_,_,h=>by simp at h
 | (n,k)::r,x,hf,h=>by
  have ih:=@nq env hk r x (λp c=>hf p (Q1 _ c));show List.lookup x ((if (k == NameKind.free && env.scope.kind == .function && env.kindOf n == some .cell)=true then (n,NameKind.cell) else (n,k))::_)=_;cases hx:x == n with
  |true =>
   simp only[ae3,hx] at h;cases h;have:=hf (n,.free) ab7 rfl;have a:(env.scope.kind == ScopeKind.function)=true:=by rw[hk];rfl
   simp[ae3,hx,this,a]
  |false =>
   simp only[ae3,hx] at h;by_cases b:(k == NameKind.free && env.scope.kind == .function && env.kindOf n == some .cell)=true
   .rw[w4 b];simp only[ae3,hx];exact ih h
   .rw[C5 b];simp only[ae3,hx];exact ih h
theorem ia{env:Env}:∀{names:List (Str×NameKind)} {x:Str} {k':NameKind},
  (names.map λ(n,k)=>if (k == NameKind.free && env.scope.kind == .function && env.kindOf n == some .cell) then (n,NameKind.cell) else (n,k)).lookup x=some k'->(k' = .cell\/k' = .free)->(∀p∈names,p.2 ≠ .cell)->(x,NameKind.free)∈names
 | [],_,_,h,_,_=>by simp at h
 | (n,k)::r,x,k',h,hk,hn=>by
  have h:List.lookup x ((if (k == NameKind.free && env.scope.kind == .function && env.kindOf n == some .cell)=true then (n,NameKind.cell) else (n,k))::(r.map λ(n,k)=>if (k == NameKind.free && env.scope.kind == .function && env.kindOf n == some .cell) then (n,NameKind.cell) else (n,k)))=some k':=h;cases hx:x == n with
  |true =>
   have e:x=n:=an0 hx;subst e;by_cases a:(k == NameKind.free && env.scope.kind == .function && env.kindOf x == some .cell)=true
   .have:k = .free:=by simp only[ad4] at a;simpa using a.1.1
    subst this;exact ab7
   .rw[C5 a] at h;simp only[ae3,hx] at h;cases h;rcases hk with z|z
    .exact absurd z (hn _ ab7)
    .subst z;exact ab7
  |false =>
   refine Q1 _ ((@ia env r x k') ?_ hk λp b=>hn p (Q1 _ b));by_cases a:(k == NameKind.free && env.scope.kind == .function && env.kindOf n == some .cell)=true
   .rw[w4 a] at h;simp only[ae3,hx] at h;exact h
   .rw[C5 a] at h;simp only[ae3,hx] at h;exact h
def kR(caps:List (Str×Nat))(Z:St):(nv caps Z).length=caps.length:=by simp[nv]
def zQ(I:Inv X am Z H s)(ck:oN X.env.scope csc X.N x caps)(hf:∀b∈fp,wk X am H b)
  (hfs:∀b∈fp,b<s.heap.objs.size) (hC:s.heap.objs.size<=C) (hk:∀b o,s.heap.get? b=some o->h4.get? b=some o) (hn:h4.Ns C m0) :
  Inv (fJ X (caps.map (·.1)++[x]) csc C s H fp) [] (nv caps Z++[none]) H { s with heap:=h4,toks:=t4 }:=by
 have d:∀y c,(iS X.env csc.names []).lookup y=some c->X.env.cells.lookup y=some c:=nW _ _ (λp E e=>I.ok.has p.1 (.inl (ck.free p E e))) (λy c h=>by simp at h);refine⟨⟨I.ok.mod,ck.kind,I.ok.glob,I.ok.blt,hC,λy z c g a=>I.ok.inj y z c (d y c g) (d z c a),λy P=>?_,λy c h=>(nomatch h),I.ok.hd,I.ok.frames,.inl rfl,λb j=>⟨Z6 (ab1 (hfs b j) hC),λy c h=>(hf b j).2.2.2.2.1 y c (d y c h)⟩,λb o e=>I.bs b o e,ac2 I.ok.MT I.sz,?_,?_,I.stack,I.rS⟩,rfl,I.ax,Un.kept hk,⟨m0,hn,λi y v g a S=>?_⟩,λy c h=>by obtain⟨v,o,K,L⟩:=I.cell y c (d y c h);exact⟨v,o,hk _ _ K,L⟩,I.ba.fresh hC,λy c h=>I.je y c (d y c h),λp E=>absurd E (by simp),I.ba.kept hk,by rw[i5,kR,i5,d5];rfl⟩
 .have F:=P;refine pq _ _ y (.inl ?_);rcases F with z|z
  .exact ia z (.inl rfl) ck.cell
  .exact ia z (.inr rfl) ck.cell
 .intro b o e j;rcases (hf b j).2.2.2.1 with z|z
  .exact I.ok.DY b o e z
  .exact absurd (ab1 (P2 (I.ok.bs b o e).1) z) (ah0 _)
 .intro b j z;rcases Z5.mp (I.sN b z) with e|e
  .exact(hf b j).2.1 e
  .exact(hf b j).2.2.1 e
 .have D:i<caps.length:=by
   by_cases D:i<caps.length
   .exact D
   .rw[U2 (by rw[kR];lia),kR] at a;cases q:i-caps.length with
    |zero=>rw[q] at a;simp at a
    |succ k=>rw[q] at a;simp at a
  rw[aa2 (by rw[d5];exact D),v3] at g;rw[aa2 (by rw[kR];exact D)] at a;unfold nv at a;rw[v3] at a;cases e:caps[i]? with
  |none=>rw[e] at g;cases g
  |some p =>
   rw[e] at g a;simp only[af7,ah5] at g a;subst g;obtain⟨Q,t⟩:=ck.cap p (p0 e);have G:Z[p.2]?=some (some v):=by
    cases q:Z[p.2]? with
    |none=>rw[q] at a;cases a
    |some w=>rw[q] at a;simp at a;rw[a]
   have A:=ck.free (p.1,.free) (ag8 t) rfl;obtain⟨m,_,hl⟩:=I.loc;obtain⟨u,r,l⟩:=hl p.2 p.1 v Q G (.inr (.inl A));refine⟨u,r,?_⟩;rcases l with ⟨k,_⟩|⟨_,c,R,z⟩
   .have M:X.env.scope.names.lookup p.1=some .local:=k;rw[A] at M;cases M
   .obtain⟨J,B⟩:=pq (env:=X.env) csc.names [] p.1 (.inl (ag8 t));have:J=c:=by have:=d p.1 J B;rw[R] at this;exact(aa1 this).symm
    subst this;refine .inr ⟨.inl (nq I.ok.kind ck.free t),J,B,?_⟩;obtain⟨o,K,L⟩:=z;exact⟨o,hk _ _ K,L⟩
noncomputable def tst(ifs:List Expr)(env:Env):Sem Bool:=forIn ifs true λc r=>if r=true then do let ok <- isTrue c env (eval c env);pure (ForInStep.yield ok) else pure (ForInStep.yield r)
def zF(J:Nat->Shared->Prop)
  (turn:∀n s,J n s->wpAny (model prog w) A (pyNext it) (λr s₁=>match r with
   |none=>R (.ok .next) s₁
   |some v=>wpAny (model prog w) A (letOwnedTupleGo target it v) (λ_ s₁=>wpAny (model prog w) A (assign target env v) (λ_ s₂=>wpAny (model prog w) A (tst ifs env) (λok s₂=>if ok=true then wpAny (model prog w) A (eval elt env) (λx s₃ =>
     wpAny (model prog w) A (call (.builtin "list.append") [acc,x]) (λ_ s₄=>∃m,m<n/\J m s₄) (λ_ _=>False) s₃)
     (λ_ _=>False) s₂ else ∃m,m<n/\J m s₂) (λ_ _=>False) s₂) (λ_ _=>False) s₁) (λ_ _=>False) s₁) (λ_ _=>False) s)
  (n:Nat) (h:J n s) :
  codeAny (model prog w) A (.compLoop (.ListComp elt [⟨target,iter,ifs,0⟩] scope pos) 0 it acc env) R s:=by
 refine codeAny_loop rfl J (λn s d=>?_) n h;show wpAny _ _ ((compTurn (.ListComp elt [⟨target,iter,ifs,0⟩] scope pos) 0 it acc env).onRaise (λx=>do noteFrame x env;theTreesLotGoes x)) _ _ s;refine wpAny_noted ?_;rw[compTurn_list];refine y0 (wpAny_standAt (y0 (ad3 (turn n s d) (λr s₁ b=>?_) λ_ _ a=>a.elim)));cases r with
 |none=>exact X2 b
 |some v =>
  refine y0 (ad3 b (λ_ e b=>?_) λ_ _ a=>a.elim);refine y0 (ad3 b (λ_ s₂ f=>y0 (ad3 f (λok s₃ c=>?_) λ_ _ a=>a.elim)) λ_ _ a=>a.elim);cases ok with
  |false=>exact X2 ⟨rfl,c⟩
  |true =>
   exact y0 (y0 (ad3 c (λx s₃ c=>y0 (ad3 c
    (λ_ s₄ g=>X2 (X2 ⟨rfl,g⟩)) λ_ _ a=>a.elim)) λ_ _ a=>a.elim))
def CI{a b:Nat}(h:a<b):a≠b:=Z6 h
def Ws(h:a<b):a≠b+1:=Z6 (Nat.lt_succ_of_lt h)
def Wd:a≠a+1:=Z6 (ak1 a)
def Ea(I:Inv X am Z H s)
  (J:Inv (fJ X N' csc C s H fp) pl Z' H' s') (hf:∀b∈fp,wk X am H b) (hC:s.heap.objs.size<=C) (hD:s.heap.objs.size<=D) (hDC:D≠C) (hs:Heap.SameBut C s'.heap h') (hv:Vals ys its) (hz:ys.length<=sizeLine)
  (hd:s'.heap.get? D=some { cls:=.type "list",data:=.seq its.toArray n }) (hDn:H' D=none):Inv X am Z (ag H' D (.lst ys)) { s' with heap:=h' }:=by
 have ne:∀b o,s.heap.get? b=some o->b≠C/\b≠D:=λb o e=>⟨Z6 (ab1 (P2 e) hC),Z6 (ab1 (P2 e) hD)⟩
 have u:=J.ap;have a:∀b o,H' b=some o->b≠D:=λb o e=>au e hDn;refine I.yR (s':={ s' with heap:=h' }) (ch:=fp) J.os ?_ ?_ J.ax λb d=>⟨(hf b d).2.2.2.1,(hf b d).2.1,(hf b d).2.2.2.2.1,(hf b d).2.2.2.2.2⟩
 .refine⟨λb o q n d g=>(hs.2 b (ne b o q).1).trans (u.keep b o q n d g),λb o q n d g=>by obtain⟨l,e⟩:=u.slot b o q n d g;exact⟨l,(hs.2 b (ne b o q).1).trans e⟩,λb o q n g=>by rw[aj (ne b o q).2];exact u.free b o q n g,λb o q g=>by obtain⟨p,e⟩:=u.there b o q g;exact⟨p,(hs.2 b (ne b o q).1).trans e⟩,λb i q=>by have:=u.tups b i q;rw[aj (a b _ this)];exact this,λb o i q=>by have:=u.pR b o i q;rw[aj (a b _ this)];exact this,λb j q=>by obtain⟨h,this⟩:=u.rL b j q;exact⟨h,by rw[aj (a b _ this)];exact this⟩⟩
 .intro b o e;by_cases d:b=D
  .subst d;rw[aa] at e;cases e;exact⟨hz,its,n,hv,(hs.2 b hDC).trans hd⟩
  .rw[aj d] at e;refine(J.ba b o e).stay (λc v r q=>(hs.2 c ?_).trans q) (λc q=>by rw[aj (a c _ q)];exact q) λc i q=>by rw[aj (a c _ q)];exact q
   have f:=J.free;rcases r with z|z
   .exact z▸au e f
   .exact au z f
def Xx(X:Cx)(ifs:List Expr)(t:TT):Prop:=∀a s Z H Q,Inv X a Z H s->t Z H Q->wpAny (model X.prog X.w) X.A (tst ifs X.env) (TP X a Z Q) X.xe s
def Bm:Xx X [] (λ_ H Q=>Q true H):=λ_ _ _ H _ I h=>wpAny_tests_nil ⟨H,I,h⟩
def Mw(h:PT X c t):Xx X [c] t:=λp s Z H Q I q=>wpAny_tests_one (h p s Z H Q I q)
def Bq(J:It)(caps:List (Str×Nat))(tt:TT)(te:TE)(Z:St)(H1:Hp)(Q:VK):Prop:=∃W:Nat->Nat->q7->Hp->Prop,(∃m,W 0 m [] H1)/\∀i m a H,W i m a H ->
 (J.stop i H/\∀D,H D=none->Q (.ref D) (ag H D (.lst a)))\/(J.go i H/\a.length<sizeLine/\∀x d,J.UO i H x d->tt (nv caps Z++[some x]) d λb e=>if b=true then te (nv caps Z++[some x]) e λy f=>∃c,c<m/\W (i+1) c (a++[y]) f else ∃c,c<m/\W (i+1) c a e)
def rR(caps:List (Str×Nat))(wi:TI)(tt:TT)(te:TE):TE:=λZ H Q=>wi Z H λJ a=>Bq J caps tt te Z a Q
def yg(ck:oN sc csc N x caps)(hi:PI X (.Name x px) iter wi)
  (ht:∀C s2 H2 fp,Xx (fJ X (caps.map (·.1)++[x]) csc C s2 H2 fp) ifs tt) (he:∀C s2 H2 fp,PE (fJ X (caps.map (·.1)++[x]) csc C s2 H2 fp) elt te) (hc:X.aw=true) (hsc:X.env.scope=sc) (hXN:X.N=N) (hs:∀x,foldedSetIterable iter X.env x=pure x)
       (I:Inv X am Z H s) (h:rR caps wi tt te Z H Q) (use:Option (Value->Sem Unit)) (QQ:Value->Shared->Prop)
  (fin:∀(s2:Shared) (H2:Hp) (D C:Addr) (ys:q7) (H':Hp) (s4:Shared) (m:g6),Inv X am Z H2 s2->s2.heap.objs.size<=C->s2.heap.objs.size<=D->D≠C->s4.heap.Ns C m ->
   (∀h',Heap.SameBut C s4.heap h'->Inv X am Z (ag H' D (.lst ys)) { s4 with heap:=h' })->H' C=none->Q (.ref D) (ag H' D (.lst ys)) ->
   compPost (model X.prog X.w) X.A X.xe use QQ (.ref D) C (.ok .next) s4) :
  wpAny (model X.prog X.w) X.A (comprehension (.ListComp elt [⟨.Name x px,iter,ifs,0⟩] csc pos) csc X.env ppos (newList []) false (eval iter X.env) use) QQ X.xe s:=by
 subst hsc hXN;have j:∀p∈csc.names,p.2 = .free->∃c,X.env.cells.lookup p.1=some c:=λp t e=>I.ok.has p.1 (.inl (ck.free p t e));refine wpAny_comprehension_free (use:=use) rfl hs (uK j) ck.kind ck.loc (dS (hi am s Z H _ I h) λv s1 h1=>dS h1 λitv s2 h2=>?_);obtain⟨it,fp,tn,J,H2,e,I2,T,st2,f2,W,⟨m0,w0⟩,turn⟩:=h2;subst e;refine ag9 (wpAny_newFunctionEnv ck.cell (by intro y hy;simp at hy) (λh4 B l=>?_) ck.kind);dsimp only at B l ⊢;generalize hD:s2.heap.objs.size=D at B l ⊢;generalize hH2:s2.heap.push { cls:=.type "list",dict:=none,data:=.seq ([]:c8).toArray }=G at B l ⊢;have hGs:G.objs.size=D+1:=by rw[<- hH2,ai8,hD]
 rw[hGs] at B l ⊢;have OA:∀b o,s2.heap.get? b=some o->b<D:=λb o e=>hD ▸ P2 e;have old:∀b o,s2.heap.get? b=some o->b≠D+1/\b≠D:=λb o e=>⟨Ws (OA b o e),CI (OA b o e)⟩
 have L:=ap0 hD;have M:=Nat.le_succ_of_le L;have E:∀b o,s2.heap.get? b=some o->h4.get? b=some o:=λb o e=>l.extBut b o (old b o e).1 (x0 _ (hH2 ▸ x0 _ e));have hDo:h4.get? D=some { cls:=.type "list",data:=.seq ([]:c8).toArray 0 }:=by refine l.extBut D _ Wd (x0 _ ?_);exact hH2▸hD▸aa5 _ rfl
 have fps:∀b∈fp,b<s2.heap.objs.size:=λb g=>by obtain⟨o,e,_⟩:=T.obj _ _ st2 b g;exact P2 e
 have O:∀y c,(iS X.env csc.names []).lookup y=some c->c<D:=λy c e=>by obtain⟨v,o,ho,_⟩:=I2.cell y c (nW _ _ j (λy c h=>by simp at h) y c e);exact OA c o ho
 have fsLt:∀b∈frs X.stack,b<D:=λb g=>by obtain⟨_,o,ho,_⟩:=I2.stack.mem g;exact OA b o ho
 have fpC:∀{pl:f7} {H':Hp},(∀p∈pl,p.1=D)->(∀b∈fp,H' b=none)->∀b∈fp,wk (fJ X (caps.map (·.1)++[x]) csc (D+1) s2 H2 fp) pl H' b:=λ{pl H'} hpl hn b g=>by
  have hb':=hD ▸ fps b g;refine⟨hn b g,Ws hb',?_,.inl g,λy c e=>(f2 b g).2.2.2.2.1 y c (nW _ _ j (λy c h=>by simp at h) y c e),λp t=>by have:p.1=D:=hpl p (by simpa using t);rw[this];exact λz=>CI hb' z.symm⟩
  .intro z;rcases Z5.mp (I2.sN b z) with e|e
   .exact(f2 b g).2.1 e
   .exact(f2 b g).2.2.1 e
 have U:∀t4,codeAny (model X.prog X.w) X.A (.compLoop (.ListComp elt [⟨.Name x px,iter,ifs,0⟩] csc pos) 0 (.ref it) (.ref D) (compEnvC csc (iS X.env csc.names []) (D+1) X.env))
   (compPost (model X.prog X.w) X.A X.xe use QQ (.ref D) (D+1)) { s2 with heap:=h4,toks:=t4 }:=by
  intro t4;refine zF (λn s'=>∃i ys a k Z' H',Inv (fJ X (caps.map (·.1)++[x]) csc (D+1) s2 H2 fp) [(D,{ cls:=.type "list",data:=.seq a.toArray k })] Z' H' s'/\tn i s'.heap/\(∀b∈fp,H' b=none)/\Vals ys a/\ys.length<=sizeLine/\W i n ys H'/\(∃z,Z'=nv caps Z++[z])) ?_ m0 (by refine⟨0,[],[],0,_,H2,((λt4=>zQ (m0:=λx=>[].reverse.lookup x) I2 ck f2 fps M E B) t4).jZ λp t=>?_,T.keep _ _ _ st2 λb g o e=>E b o e,λb g=>(f2 b g).1,.nil,Z9 _,w0,_,rfl⟩;rw[B1.mp t];refine⟨hDo,I2.ba.fresh L,Wd,λz=>absurd (fsLt D z) (ah0 _),λv=>by simp⟩)
  .rintro n s3 ⟨i,ys,a,k,Z3,H3,I3,st3,fr3,hv,hz,w3,z3,rfl⟩;have pl1:∀p∈[((D,{ cls:=.type "list",data:=.seq a.toArray k }):Addr×Obj)],p.1=D:=λp t=>by rw[B1.mp t]
   rcases turn i n ys H3 w3 with ⟨stop,qn⟩|⟨go,hlt,step⟩
   .refine ad3 (T.done (fJ X (caps.map (·.1)++[x]) csc (D+1) s2 H2 fp) rfl rfl rfl hc i _ s3 _ H3 (λ_ _=>False) I3 (fpC pl1 fr3) st3 stop) (λr s4 R=>?_) λ_ _ f=>f.elim;obtain⟨hr,S⟩:=R;subst hr;obtain⟨m,hn,_⟩:=id S.loc;have K:=S.pin (D,{ cls:=.type "list",data:=.seq a.toArray k }) (by simp);exact fin s2 H2 D (D+1) ys H3 s4 m I2 M L Wd hn (λh' hs'=>Ea I2 S f2 M L Wd hs' hv hz K.1 K.2.1) S.free (qn D K.2.1)
   .refine ad3 (T.item (fJ X (caps.map (·.1)++[x]) csc (D+1) s2 H2 fp) rfl rfl rfl hc i _ s3 _ H3 (λ_ _=>False) I3 (fpC pl1 fr3) st3 go) (λr s4 R=>?_) λ_ _ f=>f.elim;obtain⟨u,hr,h4'⟩:=R;subst hr;refine ad3 h4' (λ_ s4 R=>?_) λ_ _ f=>f.elim;obtain⟨xv,H5,I5,r5,y5,P,fr5⟩:=R;have hiN:(caps.map (·.1)++[x])[caps.length]?=some x:=by rw[U2 (by simp)];simp
    refine ad3 (pQ (X:=fJ X (caps.map (·.1)++[x]) csc (D+1) s2 H2 fp) (i:=caps.length) ck.nd hiN (.inl (lookup_relabel_local ck.tg)) (.inr (lookup_relabel_local ck.tg)) _ s4 _ H5 xv u _ (I5.pinned (fpC pl1 fr5) (T.obj _ _ P)) r5 (show p9 caps.length xv _ H5 (λZ6 H6=>Z6=nv caps Z++[some xv]/\H6=H5) from ⟨by rw[List.set_append_right _ _ (by rw[kR];exact N0 _),kR,aj6];rfl,rfl⟩)) (λ_ s6 ⟨Z6,H6,I6,hσ,hH⟩=>?_) λ_ _ f=>f.elim
    subst hσ hH;refine ad3 (ht (D+1) s2 H2 fp _ s6 _ H6 _ I6 (step xv H6 y5)) (λok s6 R=>?_) λ_ _ f=>f.elim;obtain⟨H6,I6,q6⟩:=R;cases ok with
    |false =>
     obtain⟨m',hm,w8⟩:=q6;refine⟨m',hm,i+1,ys,a,k,_,H6,I6.jZ λp t=>by rw[B1.mp t];exact (I6.pin (D,{ cls:=.type "list",data:=.seq a.toArray k }) (by simp)),T.keep _ _ _ P λb g o e=>(I6.pin (b,o) (Z2 _ (Z2 _ (iX g e)))).1,λb g=>by obtain⟨o,e,d⟩:=T.obj _ _ P b g;exact(I6.pin (b,o) (Z2 _ (Z2 _ (iX g e)))).2.1,hv,hz,w8,_,rfl⟩
    |true =>
    refine ad3 (he (D+1) s2 H2 fp _ s6 _ H6 _ I6 q6) (λY s7 R=>?_) λ_ _ f=>f.elim;obtain⟨y,H7,I7,r7,m',hm,w8⟩:=R;have K:=I7.pin (D,{ cls:=.type "list",data:=.seq a.toArray k }) (by simp);have hll:=hv.length;refine am4 aa0 ⟨_,K.1,rfl⟩ F.entry_list_append (F.args_list_append_2 _ _) (list_append D a.toArray k Y (by rw[T1];lia)) ⟨K.1,?_⟩;have q:=IsL.update K.1 (·.push Y);have hpush:a.toArray.push Y=(a++[Y]).toArray:=by simp
    rw[hpush] at q;obtain⟨k',q⟩:∃k',(s7.heap.update D (Obj.mapSeq (·.push Y))).get? D=some { cls:=.type "list",data:=.seq (a++[Y]).toArray k' }:=⟨_,q⟩
    have I7u:=I7.jZ λp t=>I7.pin p (Z2 _ (Z2 _ t));have pfp:∀p∈qU fp s4.heap,p.1<D:=λp t=>hD ▸ fps p.1 (vF t).1;have I8:=I7u.turned (h':=s7.heap.update D (Obj.mapSeq (·.push Y))) (t':=s7.toks) (it:=D) (λb o g e=>(ab0 s7.heap _ (aa4 g)).trans e) K.2.1 Wd (.inr L) (λy c e=>CI (O y c e)) (λp t=>CI (pfp p (by simpa using t)));refine⟨m',hm,i+1,ys++[y],a++[Y],k',_,H7,I8.jZ λp t=>by rw[B1.mp t];exact⟨q,K.2.1,K.2.2.1,K.2.2.2.1,λv=>by simp⟩,T.keep _ _ _ P λb g o e=>(I8.pin (b,o) (Z2 _ (iX g e))).1,λb g=>by obtain⟨o,e,d⟩:=T.obj _ _ P b g;exact(I8.pin (b,o) (Z2 _ (iX g e))).2.1,hv.append (.cons r7 .nil),by rw[i5,al5];lia,w8,_,rfl⟩
 exact codeAny_compStart_list (U _) (T.self _ 0 _ _ _ (T.keep _ _ _ st2 λb g o e=>E b o e) (U _))
def FN(ck:oN sc csc N x caps)(hi:PI X (.Name x px) iter wi)
  (ht:∀C s2 H2 fp,Xx (fJ X (caps.map (·.1)++[x]) csc C s2 H2 fp) ifs tt) (he:∀C s2 H2 fp,PE (fJ X (caps.map (·.1)++[x]) csc C s2 H2 fp) elt te) (hc:X.aw=true) (hsc:X.env.scope=sc) (hXN:X.N=N) (hs:∀x,foldedSetIterable iter X.env x=pure x) :
  PE X (.ListComp elt [⟨.Name x px,iter,ifs,0⟩] csc pos) (rR caps wi tt te):=λb s Z H Q I h=>by
 rw[eval_ListComp];exact yg ck hi ht he hc hsc hXN hs I h none _ λs2 H2 D C f g i m _ _ _ _ c d _ q=>⟨m,c,λe a=>⟨.ref D,_,d e a,rfl,q⟩⟩
def iM{sc csc:Scope}{N:a9}{elt iter:Expr}{x:Str}{px pos:Pos}{caps:List (Str×Nat)}{wi:TI}{te:TE}(ck:oN sc csc N x caps)(hi:PI X (.Name x px) iter wi)
  (he:∀C s2 H2 fp,PE (fJ X (caps.map (·.1)++[x]) csc C s2 H2 fp) elt te) (hc:autoParam (X.aw=true) cw._auto_1) (hsc:autoParam (X.env.scope=sc) cw._auto_1) (hXN:autoParam (X.N=N) cw._auto_1) (hs:autoParam (∀x,foldedSetIterable iter X.env x=pure x) cw._auto_1) :
  PE X (.ListComp elt [⟨.Name x px,iter,[],0⟩] csc pos) (Qw caps wi te):=FN ck hi (λ_ _ _ _=>Bm) he hc hsc hXN hs
def AK{ys:a9}:∀{us:c8},Vals (ys.map V.str) us->StrsAre us ys:=by
 induction ys with
 |nil=>intro us r;cases r;exact .nil
 |cons y r ih =>
  intro us h;cases h with
  |cons h t =>
   obtain⟨k,rfl⟩:=h;exact .cons _ _ (ih t)
inductive rJoin(K:W.Frag)(x:V)(vs:q7)(H:Hp)(Q:VK):Prop|mk(z p ys)(_:x = .str z)(_:vs=[.ref p])(_:aV K H p (ys.map V.str))(_:(ys.map (·.length)).sum+ys.length*z.length<=16777216)(_:Q (.str (Txt.join z ys)) H)
def CK:Su X "str.join" (rJoin X.K):=by intro a s Z H x j v us Q I b c h;obtain⟨z,p,l,rfl,rfl,d,e,q⟩:=h;obtain⟨t,rfl⟩:=b;obtain⟨u,rfl,f⟩:=c.one;cases f;obtain⟨g,r,i,_⟩:=I.list d;exact PyProof.Rows.join_list i.isList (by simpa using AK r) e λn k=>⟨.str _,H,I.tok _,⟨_,rfl⟩,q⟩
inductive yC:V->q7->Hp->VK->Prop|mk{a b i:_}{H Q:_}(_:Q (.bl (fromIndex a.length i+b.length<=a.length && Builtin.Str.subAt a b (fromIndex a.length i))) H):yC (.str a) [.str b,.int i] H Q
def zS:Su X "str.startswith" yC:=by intro d s Z H x n v us Q I e f h;obtain@⟨a,b,i,_,_,q⟩:=h;obtain⟨t,rfl⟩:=e;obtain⟨u,o,rfl,g,c⟩:=f.two;obtain⟨j,rfl⟩:=g;obtain⟨l,rfl⟩:=c;exact call_gives al0 (am6 _ _ _) F.entry_str_startswith (F.args_str_startswith_3 _ _ _) (gives_str_startswith_from a b i t j l) ⟨.bl _,H,I,rfl,q⟩
inductive zk:V->q7->Hp->VK->Prop|mk{a b:_}{H Q:_}(_:Q (.bl (0+b.length<=a.length && Builtin.Str.subAt a b 0)) H):zk (.str a) [.str b] H Q
def zX:Su X "str.startswith" zk:=by intro c s Z H x i v us Q I d e h;obtain@⟨a,b,_,_,q⟩:=h;obtain⟨t,rfl⟩:=d;obtain⟨u,rfl,f⟩:=e.one;obtain⟨g,rfl⟩:=f;exact call_gives al0 (am6 _ _ _) F.entry_str_startswith (F.args_str_startswith_2 _ _) (gives_str_startswith a b t g) ⟨.bl _,H,I,rfl,q⟩
def uy(z:Str):q7:=z.l.map λc=>V.str ⟨#[c]⟩
def zY(h:ItemsOf (SignAt z) acc z.cps.size):Vals (uy z) acc.toList:=by
 obtain⟨d,f⟩:=h;have b:∀(a:c7) (us:c8),us.length=a.length->(∀(i:Nat) (v:Value),us[i]?=some v->∃c u,a[i]?=some c/\v=Value.str ⟨#[c]⟩ u)->Vals (a.map λc=>V.str ⟨#[c]⟩) us:=by
  intro a;induction a with
  |nil=>intro us hl _;cases us with
   |nil=>exact .nil
   |cons _ _=>cases hl
  |cons c r ih =>
   intro us hl h;cases us with
   |nil=>cases hl
   |cons u r' =>
    refine .cons ?_ (ih r' (by simpa using hl) λi v e=>h (i+1) v (by simpa using e));obtain⟨l,t,e,z⟩:=h 0 u rfl;simp at e;subst e;exact⟨t,z⟩
 refine b _ _ (by simp[d]) λi v e=>?_;obtain⟨c,u,g,j⟩:=f i v (by simpa using e);exact⟨c,u,by simpa using g,j⟩
def Ae (hc:X.aw=true):gS X (.type "list") (λxs H Q=>∃z:Str,xs=[.str z]/\z.length<=sizeLine/\∀l,H l=none->Q (.ref l) (ag H l (.lst (uy z)))):=by intro b s Z H xs us Q I r h;obtain⟨z,rfl,c,q⟩:=h;obtain⟨u,rfl,d⟩:=vals1 r;obtain⟨t,rfl⟩:=d;refine call_list_str (I.ok.hd hc) z t (λf g a i kp e j=>?_) c;exact⟨.ref s.heap.objs.size,_,I.laid (t':=g) kp (N0 _) (show dz X.prog X.w _ f _ (.lst (uy z)) from ⟨by simp only[uy,d5,ah6];exact c,a.toList,i,zY j,by simpa using e⟩),rfl,q _ (I.ba.fresh (N0 _))⟩
def At(X:Cx)(D:Ends)(sts:List Stmt)(Z:St)(H:Hp):Prop:=∀a s,Inv X a Z H s->wpAny (model X.prog X.w) X.A (execs sts X.env) (SP X a D) X.xe s
section
variable {D:Ends}{st:Stmt}{rest sts:List Stmt}{t:TS}
def ay:AI X sts (λD Z H=>At X D sts Z H):=λa s Z H D I h=>h a s I
def bg(h:D.nx Z H):At X D [] Z H:=λ_ _ I=>ao7 ⟨Z,H,I,h⟩
def ak(h:PS X st t)(q:t { D with nx:=λZ H=>At X D rest Z H } Z H):At X D (st::rest) Z H:=λa s I =>
 (yd h ay) a s Z H D I q
def av(h:PS X st t)(q:t D Z H):At X D [st] Z H:=λa s I=>(MA h) a s Z H D I q
def wm(h:let Y:=X;let E:=D;At Y E sts Z H):∃t,AI X sts t/\t D Z H:=⟨λb c d=>b=D/\c=Z/\d=H,λa s c d b I ⟨e,f,g⟩=>by subst e f g;exact h a s I,rfl,rfl,rfl⟩
end
def dM[Decidable c]{A B:Prop}(h1:c->A)(h2:¬c->B):if decide c=true then A else B:=by
 by_cases h:c
 .rw[ab4 h];exact h1 h
 .rw[ab2 h];exact h2 h
def mq[Decidable c]{A B:Prop}(h1:¬c->A)(h2:c->B):if (!decide c)=true then A else B:=by
 by_cases h:c
 .rw[ab4 h];exact h2 h
 .rw[ab2 h];exact h1 h
def xM{A B:Prop}(h1:c=true->A)(h2:c=false->B):if c=true then A else B:=by
 cases c
 .exact h2 rfl
 .exact h1 rfl
def af.ag{p:Addr}{o:HO}(h:H p=none):af H (ag H p o):=λb u e=>by rw[aj (au e h)];exact e
def af.to(s:af H H1)(h:H1 p=none):af H (L2.ag H1 p o):=s.trans (af.ag h)
def aV.ae{K:W.Frag}(h:aV K H a xs)(e:af H H'):aV K H' a xs:=e.seq h
section
variable {x:Str}{p:Pos}
def Ke(C:Addr):TE:=λ_ H Q=>∀x a,H x=none->H a=none->a≠x->Q (.ref x) (ag (ag H a (.own x)) x (.ins C a []))
end
section
variable {x:Str}{p:Pos}
structure Yr(K:W.Frag)(C:Addr):Prop where
 makes:W.makesIn K C=true
 init:W.findIn K (.ref C) "__init__" = some (some (.builtin "object.__init__"))
 kp:W.keepIn K (.ref C)=true
def tW (M:Yr X.K C) (hg:Gl X x) (hm:X.mg x=some (.ref C)) (hdb:autoParam ((x == ("__debug__" : Str))=false) cw._auto_1):PE X (.Call (.Name x p) [] [] pos) (Ke C):=by
 intro f s Z H Q I h;refine ai7 (n6 I hg hm ?_ hdb);refine an8 I.uG M.kp (wpAny_call ?_);have i:=h (s.heap.objs.size+1) s.heap.objs.size (I.ba.fresh (al7 _)) (I.ba.fresh (N0 _)) (Z6 (ak1 _));refine Ec I.uG M.makes M.init (λc=>W.Looks.of_pure (W.oi_bind c)) ?_;obtain⟨a,g,d,t,r⟩:=s;have l:((a.push W.emptyDict).push (W.instObj C a.objs.size)).get? (a.objs.size+1)=some (W.instObj C a.objs.size):=by have:=aa5 (a.push W.emptyDict) (o:=W.instObj C a.objs.size) rfl;rwa [ai8] at this
 have n:W.Looks (model X.prog X.w) ((a.push W.emptyDict).push (W.instObj C a.objs.size)) (typeOf (.ref (a.objs.size+1))) (.ref C):=(W.Looks.ld l).andThen .now;have q:W.Looks (model X.prog X.w) ((a.push W.emptyDict).push (W.instObj C a.objs.size)) (isInstance (.ref (a.objs.size+1)) (.type "object")) true:=n.andThen ((W.makes_of (M:=model X.prog X.w) I.uG M.makes).top.keeps λb o e=>x0 _ (x0 _ e));refine codeAny_call_builtin W.oi_plain W.entry_oi (@W.check_slot (model X.prog X.w) _ _ _ "object.__init__" "object" "__init__" (.ref (a.objs.size+1)) [] [] _ W.oi_kind W.oi_split q (W.oi_args (.ref (a.objs.size+1))) ?_);rw[W.oi_run];exact X2 ⟨rfl,⟨V.ref (a.objs.size+1),_,Inv.made (C:=C) I,rfl,i⟩⟩
end
inductive WG:V->Option Int->Option Int->Hp->VK->Prop|mk{z:_}{lo hi H Q:_}(_:z.length<=sizeLine)(_:Q (.str (Txt.slice z lo hi)) H):WG (.str z) lo hi H Q
def part_of(h:IsPart v o):∃l:Option (Int×Tok),v=partValue l/\l.map (·.1)=o:=by
 cases h with
 |none=>exact⟨none,rfl,rfl⟩
 |int i t=>exact⟨some (i,t),rfl,rfl⟩
def ko:YR X WG:=by intro a s Z H x v p r w y A Q I b f g i h;obtain@⟨z,_,_,_,_,j,q⟩:=h;obtain⟨t,rfl⟩:=b;obtain⟨l,rfl,rfl⟩:=part_of g;obtain⟨u,rfl,rfl⟩:=part_of i;refine⟨"str",_,F.slot_str_getitem.lookup,am6 _ _ _,wpAny_getItem_str_slice (l:=l) (u:=u) (st:=none) (by obtain⟨o,e,c,d⟩:=f;exact⟨o,e,c,d⟩) rfl ?_⟩;exact post_val_or_str ⟨ac2 (Txt.slice_le z _ _) j,λn k=>⟨.str _,H,I.tok _,⟨n,rfl⟩,q⟩⟩
section
variable {D:Ends}{st:Stmt}{rest sts:List Stmt}{t:TS}
def aF(R:St->Hp->Prop)(h:PS X st t)(q:t { D with nx:=R } Z H)(r:∀Z H,R Z H->At X D rest Z H):At X D (st::rest) Z H:=λa s I =>
 (yd h (u:=λb Z H=>b=D/\R Z H) (λa s Z H b I ⟨e,z⟩=>by subst e;exact r Z H z a s I)) a s Z H D I (by
  have e:(λZ H=>D=D/\R Z H)=R:=by funext Z H;simp
  show t { D with nx:=λZ H=>D=D/\R Z H } Z H;rw[e];exact q)
def aG(W:(St->Hp->Prop)->Prop)(h:PS X st t)(q:t { D with nx:=λZ H=>∀C:St->Hp->Prop,W C->C Z H } Z H)(r:W (At X D rest)):At X D (st::rest) Z H:=aF _ h q λ_ _ a=>a _ r
end
def tT{lo:Int}(Pv:Nat->q7->Hp->Prop)(h0:Pv 0 [] H)(hn:n<sizeLine)
  (hs:∀i ys H,i<n->ys.length=i->Pv i ys H->te (nv caps Z++[some (.int (lo+i))]) H λy H2=>∃m',m'<n-i/\m'=n-(i+1)/\i+1<=n/\(ys++[y]).length=i+1/\Pv (i+1) (ys++[y]) H2) (hd:∀ys H,ys.length=n->Pv n ys H->∀D,H D=none->Q (.ref D) (ag H D (.lst ys))) :
  yz (N5 lo n) caps te Z H Q:=by
 refine⟨λi m ys H=>m=n-i/\i<=n/\ys.length=i/\Pv i ys H,⟨n,by simp,Z9 _,rfl,h0⟩,?_⟩;rintro i m ys H ⟨rfl,b,hl,p⟩;by_cases a:i<n
 .refine .inr ⟨a,by lia,λx c y=>?_⟩;obtain⟨e,y⟩:=y;subst e y;exact hs i ys _ a hl p
 .have e:i=n:=by lia
  subst e;exact .inl ⟨N0 _,hd ys H hl p⟩
def ie{K:W.Frag}(Pv:Nat->q7->Hp->Prop)(h0:Pv 0 [] H)(hn:xs.length<sizeLine)
  (hq:∀i ys H,i<=xs.length->Pv i ys H->aV K H a xs)
  (hs:∀i x ys H,xs[i]?=some x->ys.length=i->Pv i ys H->te (nv caps Z++[some x]) H λy H2=>∃m',m'<xs.length-i/\m'=xs.length-(i+1)/\i+1<=xs.length/\(ys++[y]).length=i+1/\Pv (i+1) (ys++[y]) H2) (hd:∀ys H,ys.length=xs.length->Pv xs.length ys H->∀D,H D=none->Q (.ref D) (ag H D (.lst ys))) :
  yz (Q7 K a) caps te Z H Q:=by
 refine⟨λi m ys H=>m=xs.length-i/\i<=xs.length/\ys.length=i/\Pv i ys H,⟨xs.length,by simp,Z9 _,rfl,h0⟩,?_⟩;rintro i m ys H ⟨rfl,c,hl,p⟩;have q:=hq i ys H c p;by_cases b:i<xs.length
 .refine .inr ⟨⟨xs,xs[i],q,by simp[b]⟩,by lia,λx d y=>?_⟩;obtain⟨e,y⟩:=y;subst e;exact hs i x ys _ (y xs q) hl p
 .have e:i=xs.length:=by lia
  subst e;exact .inl ⟨⟨xs,q,N0 _⟩,hd ys H hl p⟩
def fQ(hi:i<n)(hl:ys.length=i)(r:R):∃m',m'<n-i/\m'=n-(i+1)/\i+1<=n/\(ys++[y]).length=i+1/\R :=
 ⟨n-(i+1),by lia,rfl,hi,by simp[hl],r⟩
def AE{α:Type}(xs:List α){i:Int}(h0:0<=i)(h1:i<xs.length):∃v,xs[i.toNat]?=some v/\oE xs i=some v:=by
 have a:i.toNat<xs.length:=by lia
 refine⟨xs[i.toNat],i4 a,?_⟩;have q:=aB (xs:=xs) (i4 a);rw[Int.toNat_of_nonneg h0] at q;exact q
def sX(a:Int)(h:0<m):0<=a % m/\a % m<m:=⟨Int.emod_nonneg _ (by lia),Int.emod_lt_of_pos _ h⟩
def bK(h:n<=1000000):n<=sizeLine:=ac2 h (by decide)
def cL(h:n<=1000000):n<sizeLine:=ak7 h (by decide)
def Ms{K:W.Frag}(e:Z[i]?=some (some (.ref a)))(h:H a=s0 C dx fs)(c:pH K C)(n:b8 K C f)(l:fs.lookup f=some v)(q:Q v H):U6 K (LG i) f Z H Q :=
 LG_i.mpr ⟨_,e,h,c,n,l,q⟩
def DJ(J:It)(g:TG)(tb:TS)(D:Ends)(Z:St)(H1:Hp):Prop:=∃W:Nat->Nat->St->Hp->Prop,(∃m,W 0 m Z H1)/\∀i m Z H,W i m Z H ->
 (J.stop i H/\D.nx Z H)\/(J.go i H/\∃N:St->Hp->Prop,(∀b a,N b a->∃c,c<m/\W (i+1) c b a)/\∀x a,J.UO i H x a->g x Z a λZ2 d=>tb { D with nx:=N,ct:=N,bk:=D.nx } Z2 d)
def Ye(wi:TI)(g:TG)(tb:TS):TS:=λD Z H=>wi Z H λJ a=>DJ J g tb D Z a
def dD(hp:PassesOwn (model X.prog X.w) X.A X.env X.xe)(hc:X.aw=true)(hi:PI X tg iter wi)(hg:PG X tg g)(hb:AI X body tb)
  (hs:autoParam (∀x,foldedSetIterable iter X.env x=pure x) cw._auto_1):PS X (.For tg iter body [] pos) (Ye wi g tb):=Sz hp hc hi hg hb hs
def fH{lo:Int}(Pv:Nat->St->Hp->Prop)(h0:Pv 0 Z H)
  (hs:∀i Z H,i<n->Pv i Z H->g (.int (lo+i)) Z H λZ2 H2=>tb { D with nx:=Pv (i+1),ct:=Pv (i+1),bk:=D.nx } Z2 H2) (hd:∀Z H,Pv n Z H->D.nx Z H):DJ (N5 lo n) g tb D Z H:=Du Pv h0 hs hd
def jw{K:PySem.W.Frag}(Pv:Nat->St->Hp->Prop)(h0:Pv 0 Z H)(hl:∀i Z H,i<=xs.length->Pv i Z H->aV K H a xs)
  (hs:∀i x Z H,xs[i]?=some x->Pv i Z H->g x Z H λZ2 H2=>tb { D with nx:=Pv (i+1),ct:=Pv (i+1),bk:=D.nx } Z2 H2) (hd:∀Z H,Pv xs.length Z H->D.nx Z H):DJ (Q7 K a) g tb D Z H:=J3 Pv h0 hl hs hd
section
variable {κ:Type}[DecidableEq κ]
noncomputable def fP(kvs:List (κ×V))(k:κ):Option V:=(kvs.find? λa=>decide (a.1=k)).map (·.2)
noncomputable def putK(kvs:List (κ×V))(k:κ)(v:V):List (κ×V) :=
 if (kvs.any λa=>decide (a.1=k))=true then kvs.map (λa=>if a.1=k then (a.1,v) else a) else kvs++[(k,v)]
noncomputable def jY(kvs:List (κ×V))(k:κ):List (κ×V):=kvs.filter λa=>decide (a.1≠k)
def ym:fP ([]:List (κ×V)) k=none:=rfl
def fK{p:κ×V}{r:List (κ×V)}{k:κ}(e:p.1=k):fP (p::r) k=some p.2:=by simp[fP,aj4,e]
def fk{p:κ×V}{r:List (κ×V)}{k:κ}(e:¬p.1=k):fP (p::r) k=fP r k:=by simp[fP,aj4,e]
theorem iC(k:κ):∀kvs:List (κ×V),(kvs.any λkv=>decide (kv.1=k))=(fP kvs k).isSome
 | []=>rfl
 |p::r=>by
  rw[List.any_cons];by_cases e:p.1=k
  .simp only[fK e,ab4 e,Bool.true_or,Option.isSome_some]
  .rw[fk e,ab2 e,Bool.false_or];exact iC k r
theorem zE(k j:κ)(y:V):∀kvs:List (κ×V),fP (kvs.map λkv=>if kv.1=k then (kv.1,y) else kv) j=(fP kvs j).map λx=>if j=k then y else x
 | []=>rfl
 |p::r=>by
  have ih:=zE k j y r;rw[ab5];by_cases h:p.1=k
  .rw[w4 h];by_cases e:p.1=j
   .rw[fK (p:=(p.1,y)) e,fK e,af7,w4 (e.symm.trans h)]
   .rw[fk (p:=(p.1,y)) e,fk e,ih]
  .rw[C5 h];by_cases e:p.1=j
   .rw[fK (p:=p) e,fK e,af7,C5 (λz=>h (e.trans z))]
   .rw[fk (p:=p) e,fk e,ih]
theorem uZ(k j:κ)(y:V):∀kvs:List (κ×V),fP kvs k=none->fP (kvs++[(k,y)]) j=if j=k then some y else fP kvs j
 | [],_=>by
  by_cases e:k=j
  .rw[w4 e.symm];exact fK (p:=(k,y)) e
  .rw[C5 (λz=>e z.symm)];exact fk (p:=(k,y)) e
 |p::r,hn=>by
  rw[List.cons_append];have hk:¬p.1=k:=λz=>by rw[fK z] at hn;cases hn
  rw[fk hk] at hn;by_cases e:p.1=j
  .rw[fK e,fK e,C5 (λz=>hk (e.trans z))]
  .rw[fk e,fk e,(uZ k j y r hn)]
def yi(kvs:List (κ×V))(k j:κ)(y:V):fP (putK kvs k y) j=if j=k then some y else fP kvs j:=by
 unfold putK;by_cases a:(kvs.any λb=>decide (b.1=k))=true
 .rw[w4 a,zE];rw[iC] at a;by_cases e:j=k
  .obtain⟨x,c⟩:=Option.isSome_iff_exists.mp a;rw[w4 e,e,c,af7,w4 rfl]
  .rw[C5 e];cases fP kvs j with
   |none=>rfl
   |some x=>rw[af7,C5 e]
 .rw[C5 a];refine uZ k j y kvs ?_;rw[iC] at a;cases q:fP kvs k with
  |none=>rfl
  |some x=>rw[q] at a;exact(a rfl).elim
def nF(kvs:List (κ×V))(k:κ)(v:V):(putK kvs k v).length<=kvs.length+1:=by
 unfold putK;split
 .rw[d5];lia
 .rw[i5,P3,ac6];lia
def yM{kvs:List (κ×V)}{k:κ}(v:V)(h:fP kvs k=none):putK kvs k v=kvs++[(k,v)]:=by unfold putK;rw[iC,h];exact C5 (by decide)
def kC.kZ(r:kC o u):o.isSome=u.isSome:=by
 cases o with
 |none=>cases u with
  |none=>rfl
  |some _=>exact(show False from r).elim
 |some _=>cases u with
  |none=>exact(show False from r).elim
  |some _=>rfl
def kC.getD(r:kC o u)(rd:RelV d d'):RelV (o.getD d) (u.getD d'):=by
 cases o with
 |none=>cases u with
  |none=>exact rd
  |some _=>exact(show False from r).elim
 |some _=>cases u with
  |none=>exact(show False from r).elim
  |some _=>exact r
def KV.val(r:KV kvs vs)(k:κ):kC (fP kvs k) (valueAt vs k):=by
 unfold KV at r;induction r with
 |nil=>exact True.intro
 | @cons p q ps qs h t ih =>
  obtain⟨c,d⟩:=h;by_cases e:p.1=k
  .have b:valueAt (q::qs) k=some q.2:=by simp[valueAt,aj4,(c.symm.trans e)]
   rw[fK e,b];exact d
  .have a:¬q.1=k:=λz=>e (c.trans z);have b:valueAt (q::qs) k=valueAt qs k:=by simp[valueAt,aj4,a]
   rw[fk e,b];exact ih
def KV.any(r:KV kvs vs)(k:κ):(kvs.any λkv=>decide (kv.1=k))=vs.any λkv=>decide (kv.1=k):=by
 unfold KV at r;induction r with
 |nil=>rfl
 |cons h t ih=>rw[List.any_cons,List.any_cons,ih,h.1]
def KV.repl(r:KV kvs vs)(k:κ)(ry:RelV y u) :
  KV (kvs.map λkv=>if kv.1=k then (kv.1,y) else kv) (vs.map λkv=>if kv.1=k then (kv.1,u) else kv):=by
 unfold KV at r ⊢;induction r with
 |nil=>exact .nil
 | @cons p q ps qs h t ih =>
  rw[ab5,ab5];refine .cons ?_ ih;obtain⟨a,b⟩:=h;by_cases e:p.1=k
  .rw[w4 e,w4 (a.symm.trans e)];exact⟨a,ry⟩
  .rw[C5 e,C5 (λz=>e (a.trans z))];exact⟨a,b⟩
def KV.put(r:KV kvs vs)(k:κ)(ry:RelV y u):KV (putK kvs k y) (stored vs k u):=by
 unfold putK stored;rw[r.any k];by_cases e:(vs.any λa=>decide (a.1=k))=true
 .rw[w4 e,w4 e];exact r.repl k ry
 .rw[C5 e,C5 e];exact Paired.snoc r ⟨rfl,ry⟩
def KV.drop(r:KV kvs vs)(k:κ):KV (jY kvs k) (without vs k):=by
 unfold KV at r ⊢;unfold jY without;induction r with
 |nil=>exact .nil
 | @cons p q ps qs h t ih =>
  obtain⟨c,d⟩:=h;rw[an1,an1];by_cases e:p.1=k
  .have a:¬decide (p.1≠k)=true:=by simp[e]
   have b:¬decide (q.1≠k)=true:=by simp[c.symm.trans e]
   rw[C5 a,C5 b];exact ih
  .have f:¬q.1=k:=λz=>e (c.trans z);have a:decide (p.1≠k)=true:=by simp[e]
   have b:decide (q.1≠k)=true:=by simp[f]
   rw[w4 a,w4 b];exact .cons ⟨c,d⟩ ih
def KV.keys{kvs:List (κ×V)}{vs:List (κ×Value)}(r:KV kvs vs):kvs.map (·.1)=vs.map (·.1):=by
 unfold KV at r;induction r with
 |nil=>rfl
 |cons h t ih=>rw[ab5,ab5,ih,h.1]
def KV.length(r:KV kvs vs):kvs.length=vs.length:=Paired.length r
def Kz(kvs:List (κ×V))(k:κ):(jY kvs k).length<=kvs.length:=List.length_filter_le _ _
end
def qY(r:RelV (kV k) u):(cJ P w).is k u=true:=by
 cases k with
 |inl i=>obtain⟨t,e⟩:=(show ∃t,u=Value.int i t from r);subst e;exact yX P w i t
 |inr x=>obtain⟨t,e⟩:=(show ∃t,u=Value.str x t from r);subst e;exact xP P w x t
theorem vS:∀{ks:List Key} {us:c8},Vals (ks.map kV) us->ItemsAre (cJ P w) ks us
 | [],_,r=>by rw[List.map_nil] at r;cases r;exact .nil
 |k::ks,_,r=>by
  rw[ab5] at r;cases r with
  |cons h t=>exact .cons (qY h) (vS t)
abbrev KT(H:Hp):List (List Key×V)->List (List Key×Addr×Value)->Prop:=Paired λp q=>p.1=q.1/\H q.2.1=t0 (p.1.map kV)/\RelV p.2 q.2.2
def KT.val(r:KT H kvs xs)(k:List Key):kC (fP kvs k) ((atKey xs k).map (·.2)):=by
 induction r with
 |nil=>exact True.intro
 | @cons p q ps qs h t ih =>
  obtain⟨c,_,d⟩:=h;by_cases e:p.1=k
  .have b:atKey (q::qs) k=some q.2:=by simp[atKey,aj4,(c.symm.trans e)]
   rw[fK e,b];exact d
  .have a:¬q.1=k:=λz=>e (c.trans z);have b:atKey (q::qs) k=atKey qs k:=by simp[atKey,aj4,a]
   rw[fk e,b];exact ih
def KT.repl(r:KT H kvs xs)(k:List Key)(ry:RelV y u) :
  KT H (kvs.map λkv=>if kv.1=k then (kv.1,y) else kv) (xs.map (putAt k u)):=by
 induction r with
 |nil=>exact .nil
 | @cons p q ps qs h t ih =>
  rw[ab5,ab5];refine .cons ?_ ih;obtain⟨a,b,c⟩:=h;unfold putAt;by_cases e:p.1=k
  .rw[w4 e,w4 (a.symm.trans e)];exact⟨a,b,ry⟩
  .rw[C5 e,C5 (λz=>e (a.trans z))];exact⟨a,b,c⟩
def KT.put(r:KT H kvs xs)(k:List Key)(hb:H b=t0 (k.map kV))(ry:RelV y u) :
  KT H (putK kvs k y) (storedH xs k b u):=by
 have e:(kvs.any λa=>decide (a.1=k))=(atKey xs k).isSome:=by rw[iC,(r.val k).kZ,Option.isSome_map]
 unfold putK storedH;rw[e];by_cases q:(atKey xs k).isSome=true
 .rw[w4 q,w4 q];exact r.repl k ry
 .rw[C5 q,C5 q];exact Paired.snoc r ⟨rfl,hb,ry⟩
def KT.keeps(r:KT H kvs xs)(ht:∀b ys,H b=t0 ys->H' b=t0 ys):KT H' kvs xs :=
 Paired.Vg r λ_ _ z=>⟨z.1,ht _ _ z.2.1,z.2.2⟩
section
variable {P:Program}{a:Addr}
def Nm(ok:lR P w H h)(e:Rd H a u):dz P w H h a u:=e.ok ok
def pY(ok:lR P w H h)(e:Rd H a (.dK kvs)):kvs.length<=sizeLine/\(a == sysModules)=false/\∃vs,KV kvs vs/\h.DictOf (cJ P w) a vs :=
 show dz P w H h a (.dK kvs) from Nm ok e
def t7(ok:lR P w H h)(e:H a=some (.dK kvs)):kvs.length<=sizeLine/\(a == sysModules)=false/\∃vs,KV kvs vs/\h.DictOf (cJ P w) a vs:=pY ok (.inl e)
def qG(ok:lR P w H h)(e:H a=t0 (ks.map kV)):(tupleKind (cJ P w)).is h ks a:=by
 obtain⟨_,b,r,o,c,d,n,f⟩:=(show dz P w H h a (.tup (ks.map kV)) from ok a _ e)
 exact⟨o,b.toArray,n,c,d,f,by simpa using vS r⟩
def tH(ok:lR P w H h)(e:Rd H a (.dT kvs)):kvs.length<=sizeLine/\(a == sysModules)=false /\
  ∃xs,KT H kvs xs/\h.DictOfH (tupleKind (cJ P w)) a xs:=by
 obtain⟨z,y,xs,r,o,c,d,f,g,i,j,n⟩:=(show dz P w H h a (.dT kvs) from Nm ok e)
 refine⟨z,y,xs,r,o,c,d,f,g,i,j,λx b=>?_,n⟩;have all:∀{l:List (List Key×V)} {m:List (List Key×Addr×Value)},KT H l m->∀x∈m,(tupleKind (cJ P w)).is h x.1 x.2.1:=by
  intro l m q;induction q with
  |nil=>intro x b;exact nomatch b
  | @cons p q ps qs hq t ih =>
   intro x b;rcases Z5.mp b with e|b
   .subst e;exact qG ok (hq.1▸hq.2.1)
   .exact ih x b
 exact all r x b
def WA(ok:lR P w H h)(e:H a=some (.dT kvs)):kvs.length<=sizeLine/\(a == sysModules)=false /\
  ∃xs,KT H kvs xs/\h.DictOfH (tupleKind (cJ P w)) a xs:=tH ok (.inl e)
end
def om(H:Hp)(a:Addr)(y:V)(r:Option V):Prop :=
 (∃c k,Rd H a (.dK c)/\y=kV k/\r=fP c k)\/∃c k b,Rd H a (.dT c)/\y = .ref b/\H b=t0 (k.map kV)/\r=fP c k
def xA(H:Hp)(a:Addr)(y v:V)(H':Hp):Prop :=
 (∃c k,H a=some (.dK c)/\y=kV k/\c.length<sizeLine/\H'=ag H a (.dK (putK c k v))) \/
 ∃c k b,H a=some (.dT c)/\y = .ref b/\H b=t0 (k.map kV)/\c.length<sizeLine/\H'=ag H a (.dT (putK c k v))
def om.k{k:Key}(e:H a=some (.dK kvs)):om H a (kV k) (fP kvs k):=.inl ⟨kvs,k,.inl e,rfl,rfl⟩
def xA.k{k:Key}(e:H a=some (.dK kvs))(hl:kvs.length<sizeLine):xA H a (kV k) v (ag H a (.dK (putK kvs k v))):=.inl ⟨kvs,k,e,rfl,hl,rfl⟩
section
variable {a:Addr}{y v:V}{u r:Value}{o:Option V}{E:Value->Shared->Prop}
def Inv.big(I:Inv X am Z H s):sysModules<s.heap.objs.size:=by exact Nat.lt_trans (by decide) ((I.mod.glob.keeps I.bk).lt)
def CZ(hu:A.units+1<cLine)(I:Inv X am Z H s)(g:om H a y (some v))(ry:RelV y u)(h:∀w' s',Inv X am Z H s'->RelV v w'->Q w' s') :
  wpAny (model X.prog X.w) A (getItem (.ref a) u) Q E s:=by
 rcases g with ⟨f,k,e,i,l⟩|⟨f,k,b,e,i,r,l⟩
 .subst i;obtain⟨z,t,x,c,j⟩:=pY I.ba e;obtain⟨w',n,d⟩:=kC.some_of (v:=v) (o:=valueAt x k) (l▸c.val k);exact wpAny_getItem_of (qY ry) j.mapOf n (h w' _ (I.tok _) d)
 .subst i;cases (show u=Value.ref b from ry);obtain⟨z,t,B,c,j⟩:=tH I.ba e;obtain⟨w',n,d⟩:=kC.some_of (v:=v) (o:=(atKey B k).map (·.2)) (l▸c.val k);obtain⟨p,C,q⟩:=D1.mp n;refine wpAny_getItem_heap (ak9 hu) (qG I.ba r) j C ?_;exact q▸h w' _ (I.tok _) d
def Zo(hu:A.units+1<cLine)(I:Inv X am Z H s)(g:om H a y o)(ry:RelV y u)(h:∀s',Inv X am Z H s'->Q (.bool o.isSome) s') :
  wpAny (model X.prog X.w) A (compareOp .In u (.ref a)) Q E s:=by
 rcases g with ⟨d,k,e,f,l⟩|⟨d,k,b,e,f,n,l⟩
 .subst f;obtain⟨z,i,p,c,j⟩:=pY I.ba e;refine wpAny_in_of (qY ry) i j.mapOf ?_;rw[<- (c.val k).kZ,<- l];exact h _ (I.tok _)
 .subst f;cases (show u=Value.ref b from ry);obtain⟨z,i,r,c,j⟩:=tH I.ba e;refine wpAny_in_heap (ak9 hu) (qG I.ba n) i j ?_;have q:=(c.val k).kZ;rw[Option.isSome_map] at q;exact q▸l▸h _ (I.tok _)
def K6(hu:A.units+1<cLine)(I:Inv X am Z H s)(g:om H a y o)(ry:RelV y u)(h:∀s',Inv X am Z H s'->Q (.bool (!o.isSome)) s') :
  wpAny (model X.prog X.w) A (compareOp .NotIn u (.ref a)) Q E s:=by
 rcases g with ⟨d,k,e,f,l⟩|⟨d,k,b,e,f,n,l⟩
 .subst f;obtain⟨z,i,p,c,j⟩:=pY I.ba e;refine wpAny_notIn_of (qY ry) i j.mapOf ?_;rw[<- (c.val k).kZ,<- l];exact h _ (I.tok _)
 .subst f;cases (show u=Value.ref b from ry);obtain⟨z,i,r,c,j⟩:=tH I.ba e;refine wpAny_notIn_heap (ak9 hu) (qG I.ba n) i j ?_;have q:=(c.val k).kZ;rw[Option.isSome_map] at q;exact q▸l▸h _ (I.tok _)
def xD(I:Inv X am Z H s)(mu:Xn (H a))(hs:Heap.SameBut a s.heap h')(he:∃q,h'.get? a=some q)(new:dz X.prog X.w (ag H a ob) h' a ob) :
  Inv X am Z (ag H a ob) { s with heap:=h',toks:=t' } :=
 I.write (x:=a) (e:=a) mu (.inl rfl) (λb q c z=>(hs.2 b c).trans z) he new
def wu(z:kvs.length<=sizeLine)(hd:(a == sysModules)=false)(rel:KV kvs vs)(dd:h'.DictOf (cJ P w) a vs) :
  dz P w H' h' a (.dK kvs):=⟨z,hd,vs,rel,dd⟩
def Dr(hu:A.units+1<cLine)(I:Inv X am Z H s)(g:xA H a y v H')(ry:RelV y u)(rv:RelV v r)(h:∀s',Inv X am Z H' s'->Q () s') :
  wpAny (model X.prog X.w) A (setItem (.ref a) u r) Q E s:=by
 rcases g with ⟨d,k,e,n,l,o⟩|⟨d,k,b,e,n,C,l,o⟩
 .subst n o;obtain⟨z,p,G,f,t⟩:=t7 I.ba e;have x:G.length<=sizeLine:=f.length▸z
  have hl:(putK d k v).length<=sizeLine:=by have:=nF d k v;lia
  refine wpAny_setItem_pairs (hsz:=x) (qY ry) t λD i B=>h _ ?_;have J:∃q,D.get? a=some q:=let ⟨q,_,_,j,_⟩:=i;⟨q,j⟩;exact xD I (e▸True.intro) B J (wu hl p (f.put k rv) i)
 .subst n o;cases (show u=Value.ref b from ry);obtain⟨z,p,K,f,t⟩:=WA I.ba e;have x:K.length<=sizeLine:=by rw[<- Paired.length f];exact z
  have hl:(putK d k v).length<=sizeLine:=by have:=nF d k v;lia
  refine wpAny_setItem_heap (hsz:=x) (ak9 hu) (qG I.ba C) t λD i B=>h _ ?_;obtain⟨q,L,M,j,N,O,P,_,R⟩:=i;refine xD I (e▸True.intro) B ⟨q,j⟩ ⟨hl,p,_,(f.put k C rv).keeps λc S F=>?_,q,L,M,j,N,O,P,R⟩;rw[aj (bL F e (λz=>nomatch z))];exact F
end
section
variable {a:Addr}{kvs:List (Key×V)}{k:Key}{u:Value}{E:Value->Shared->Prop}
def X7(I:Inv X am Z H s)(e:H a=some (.dK kvs))(ry:RelV (kV k) u)(l:fP kvs k=some v)(hm:more=[]\/∃x,more=[x])
  (h:∀w' s',Inv X am Z (ag H a (.dK (jY kvs k))) s'->RelV v w'->Q w' s'):wpAny (model X.prog X.w) A (call (.builtin "dict.pop") (.ref a::u::more)) Q E s:=by
 obtain⟨z,j,f,b,g⟩:=t7 I.ba e;obtain⟨w',n,d⟩:=kC.some_of (v:=v) (o:=valueAt f k) (l▸b.val k);have p:(keyPart u).isSome=true:=by
  cases k with
  |inl i=>obtain⟨t,q⟩:=(show ∃t,u=Value.int i t from ry);subst q;rfl
  |inr x=>obtain⟨t,q⟩:=(show ∃t,u=Value.str x t from ry);subst q;rfl
 have r:argsOk "dict.pop" ⟨.ref a::u::more,[]⟩:=by
  rcases hm with q|⟨x,q⟩
  .subst q;exact F.args_dict_pop_2 _ _
  .subst q;exact F.args_dict_pop_3 _ _ _
 refine call_meetsIn F.slot_dict_pop g.typeIs F.entry_dict_pop r (meets_dict_pop_there (cJ X.prog X.w) a (qY ry) more hm p)
  ⟨f,w',g,b.length▸z,n,λy c B=>h w' _ ?_ d⟩
 have C:∃q,y.get? a=some q:=let ⟨q,_,_,hq,_⟩:=c;⟨q,hq⟩;exact xD I (e▸True.intro) B C (wu (ac2 (Kz kvs k) z) j (b.drop k) c)
def WR  (I:Inv X am Z H s) (e:Rd H a (.dK kvs)) (h:∀t s',Inv X am Z H s'->Q (.int kvs.length t) s'):wpAny (model X.prog X.w) A (call (.builtin "len") [.ref a]) Q E s:=by obtain⟨z,c,f,b,d⟩:=pY I.ba e;refine call_len_dict c d (by rw[<- b.length];rw[ad0] at z;lia) ?_;exact b.length▸h _ _ (I.tok _)
end
def XO(i:Expr):Prop:=∀a b,subscripted i false a b=operate [a,b] (getItem a b)
def LS{T id:String}
  (hl:typeLookup (.type T) "__getitem__" = pure (some (.builtin id))) (hs:XO slice)
  (h:wpAny (model prog w) A (eval value env) (λo s₁=>wpAny (model prog w) A (eval slice env) (λi s₂=>s₂.TypeIs o T/\wpAny (model prog w) A (getItem o i) Q E s₂) E s₁) E s) :
  wpAny (model prog w) A (eval (.Subscript value slice pos) env) Q E s:=by
 refine Subscript_ (ad3 h (λo s₁ e=>ad3 e (λi s₂ b=>?_) λ_ _ x=>x) λ_ _ x=>x);obtain⟨c,b⟩:=b;unfold subscriptTail;refine y0 ?_;rw[getitemInPython_of_ne c.not_modules];refine y0 (wpAny_specialOf c hl ?_);have a:wpAny (model prog w) A (subscripted slice false o i) (λr d=>wpAny (model prog w) A (letTemporaryGo value o r >>= λ_=>pure r) Q E d) E s₂:=by
  rw[hs o i];exact wpAny_operating (ad3 b (λr d f=>y0 (wpAny_letTemporaryGo (X2 f))) λ_ _ x=>x)
 first
  |exact X2 (y0 a)
  |exact y0 (X2 (y0 a))
  |exact y0 a
def yN         (I:Inv X am Z H s) (g:om H a y o):s.TypeIs (.ref a) "dict" := by
 rcases g with ⟨c,k,e,_,_⟩|⟨c,k,b,e,_,_,_⟩
 .obtain⟨_,_,f,_,d⟩:=pY I.ba e;exact d.typeIs
 .obtain⟨_,_,h,_,d⟩:=tH I.ba e;exact d.typeIs
def X4(td ty:TE):TE:=λZ H Q=>td Z H λx c=>ty Z c λy b=>∃a v,x = .ref a/\om b a y (some v)/\Q v b
def Zx(ty td:TE):TE:=λZ H Q=>ty Z H λy c=>td Z c λx b=>∃a o,x = .ref a/\om b a y o/\Q (.bl o.isSome) b
def Lk(ty td:TE):TE:=λZ H Q=>ty Z H λy c=>td Z c λx b=>∃a o,x = .ref a/\om b a y o/\Q (.bl (!o.isSome)) b
def WQ(td ty tv:TE):TS:=λD Z H=>tv Z H λv c=>td Z c λx d=>ty Z d λy e=>∃a b,x = .ref a/\xA e a y v b/\D.nx Z b
section
variable {o i e:Expr}{tpos:Pos}{td ty tv:TE}
def pV(hu:X.A.units+1<cLine)(ho:PE X o td)(hi:PE X i ty)(hs:XO i):PE X (.Subscript o i pos) (X4 td ty):=by intro b s Z H Q I h;refine LS F.slot_dict_getitem.lookup hs (dS (ho b s Z H _ I h) λu e ⟨x,f,j,l,n⟩=>dS (hi b e Z f _ j n) λB C  p=>?_);obtain⟨y,q,d,r,a,v,t,g,w⟩:=p;subst t;obtain rfl:u=Value.ref a:=l;exact⟨yN d g,CZ hu d g r λD E z c=>⟨v,q,z,c,w⟩⟩
def RK(hu:X.A.units+1<cLine)(hi:PE X i ty)(ho:PE X o td):PC X .In i o (Zx ty td):=by intro b s Z H Q I h;refine dS (hi b s Z H _ I h) λz c ⟨y,d,e,f,j⟩=>dS (ho b c Z d _ e j) λu B  l=>?_;obtain⟨x,n,p,q,a,r,t,g,v⟩:=l;subst t;obtain rfl:u=Value.ref a:=q;exact Zo hu p g f λC w=>⟨.bl r.isSome,n,w,rfl,v⟩
def vo(hu:X.A.units+1<cLine)(hi:PE X i ty)(ho:PE X o td):PC X .NotIn i o (Lk ty td):=by intro b s Z H Q I h;refine dS (hi b s Z H _ I h) λz c ⟨y,d,e,f,j⟩=>dS (ho b c Z d _ e j) λu B  l=>?_;obtain⟨x,n,p,q,a,r,t,g,v⟩:=l;subst t;obtain rfl:u=Value.ref a:=q;exact K6 hu p g f λC w=>⟨.bl (!r.isSome),n,w,rfl,v⟩
def pS(hu:X.A.units+1<cLine)(ho:PE X o td)(hi:PE X i ty)(hv:PE X value tv)(hs:swapsWith value (some (.Subscript o i pos')) pos.line X.env=pure false) :
  PS X (.Assign [.Subscript o i pos'] value pos) (WQ td ty tv):=by
 intro b s Z H D I h;refine wpAny_Assign_Subscript (dS (hv b s Z H _ I h) λr c ⟨v,d,e,f,j⟩=>dS (ho b c Z d _ e j) λu l ⟨x,n,p,q,t⟩=>dS (hi b l Z n _ p t) λJ K w=>?_) hs;obtain⟨y,L,z,B,a,C,E,g,F⟩:=w;subst E;obtain rfl:u=Value.ref a:=q;exact Dr hu z g B f λM G=>⟨Z,C,G,F⟩
end
def KD    (h:Heap) (hb:sysModules<h.objs.size):dz P w H (h.push { cls:=.type "dict",data:=.dict #[] }) h.objs.size (.dK []) :=
 ⟨Z9 _,beq_eq_false_iff_ne.mpr (aa4 (Z6 hb)),[],.nil,Heap.DictOf.new h⟩
def T5:TE:=λ_ H Q=>∀p,H p=none->Q (.ref p) (ag H p (.dK []))
def kN:PE X (.Dict [] [] pos) T5:=λb s Z H Q I h =>
 wpAny_Dict_empty ⟨.ref s.heap.objs.size,_,I.laid (a:=s.heap.objs.size) (o:=.dK []) (t':=s.toks) (λ_ _ q=>x0 _ q) (N0 _) (KD s.heap I.big),rfl,h _ (I.ba.fresh (N0 _))⟩
def m9(kvs more:List (Key×V)):List (Key×V):=more.foldl (λa b=>putK a b.1 b.2) kvs
def KV.merge:∀{more:List (Key×V)} {rs:List (Key×Value)} {kvs:List (Key×V)} {vs:List (Key×Value)},KV more rs->KV kvs vs->KV (m9 kvs more) (merged vs rs):=by
 intro more rs kvs vs r;unfold KV at r;induction r generalizing kvs vs with
 |nil=>intro q;exact q
 | @cons p q ps qs h t ih =>
  intro a;have e:KV (putK kvs p.1 p.2) (stored vs q.1 q.2):=by have:=a.put p.1 h.2;exact h.1▸this
  exact ih e
theorem oH:∀(more kvs:List (Key×V)),(m9 kvs more).length<=kvs.length+more.length
 | [],kvs=>by show kvs.length<=kvs.length+0;lia
 |p::r,kvs=>by have h1:=oH r (putK kvs p.1 p.2);have a:=nF kvs p.1 p.2;show (m9 (putK kvs p.1 p.2) r).length<=_;rw[P3];lia
structure M1(X:Cx)(o:Expr)(m:Str)(apos:Pos)(e:Expr)(cpos:Pos):Prop where
 ap:attributeBase o m X.env (eval o X.env)=eval o X.env
 few:((backTo cpos (starEach [e] X.env)).all (λx=>!x.1) && (backToKw cpos (keywordEach [] X.env)).all (λx=>x.1.isSome)
  && decide (([e]:List Expr).length+([]:List Keyword).length+(if ([]:List Keyword).isEmpty then 0 else 1)<30))=true
 line:(apos.endLine == cpos.line)=true
 trees:backTo cpos (starEach [e] X.env)=[(false,eval e X.env)]
def YU(H:Hp)(a:Addr):Prop:=(∃b,Rd H a (.dK b))\/∃b,Rd H a (.dT b)
def EO(I:Inv X am Z H s)(d:YU H a) :
  s.TypeIs (.ref a) "dict" /\ (∀b,Value.ref a = .ref b->∃ob,s.heap.get? b=some ob/\ob.dict=none)/\(a == sysModules)=false:=by
 rcases d with ⟨f,e⟩|⟨f,e⟩
 .obtain⟨_,g,j,_,c⟩:=pY I.ba e;refine⟨c.typeIs,λb q=>?_,g⟩;cases q;obtain⟨ob,_,_,h,i,_⟩:=c;exact⟨ob,h,i.2.1⟩
 .obtain⟨_,g,l,_,c⟩:=tH I.ba e;refine⟨c.typeIs,λb q=>?_,g⟩;cases q;obtain⟨ob,_,_,h,i,_⟩:=c;exact⟨ob,h,i.2.1⟩
section
variable {a:Addr}{y d:V}{u r:Value}{o:Option V}{E:Value->Shared->Prop}
def RE(hu:A.units+1<cLine)(I:Inv X am Z H s)(g:om H a y o)(ry:RelV y u)(h:∀w' s',Inv X am Z H s'->RelV (o.getD .dj) w'->Q w' s') :
  wpAny (model X.prog X.w) A (call (.builtin "dict.get") [.ref a,u]) Q E s:=by
 rcases g with ⟨f,k,e,i,l⟩|⟨f,k,b,e,i,n,l⟩
 .subst i;obtain⟨z,j,q,c,d⟩:=pY I.ba e;refine call_meetsIn F.slot_dict_get d.typeIs F.entry_dict_get (F.args_dict_get_2 _ _) (meets_dict_get (cJ X.prog X.w) a (qY ry) j) ⟨_,d.mapOf,h _ _ (I.tok _) ?_⟩;exact l▸(c.val k).getD rfl
 .subst i;cases (show u=Value.ref b from ry);obtain⟨z,j,p,c,d⟩:=tH I.ba e;refine call_meetsIn F.slot_dict_get d.typeIs F.entry_dict_get (F.args_dict_get_2 _ _) (meetsH_dict_get (tupleKind (cJ X.prog X.w)) a b j) ⟨ak9 hu,k,p,qG I.ba n,d,h _ _ (I.tok _) ?_⟩;exact l▸(c.val k).getD rfl
end
def RS(td ty:TE):TE:=λZ H Q=>td Z H λx b=>∃a,x = .ref a/\YU b a/\ty Z b λy c=>∃o,om c a y o/\Q (o.getD .dj) c
def Up(td ty:TE):TE:=λZ H Q=>td Z H λx c=>∃a,x = .ref a/\YU c a/\ty Z c λy d=>∃b k v,d a=some (.dK b)/\y=kV k/\fP b k=some v/\Q v (ag d a (.dK (jY b k)))
section
variable {o e f:Expr}{td ty tx:TE}
def KG (hu:X.A.units+1<cLine) (ho:PE X o td) (he:PE X e ty) (m:M1 X o "get" apos e cpos):PE X (.Call (.Attribute o "get" apos) [e] [] cpos) (RS td ty):=by intro b s Z H Q I h;refine wpAny_Call_method m.ap m.few m.line F.plainAttrs_dict F.slot_dict_get F.type_dict_get (dS (ho b s Z H _ I h) λu i  j=>?_);obtain⟨x,l,f,n,a,p,d,q⟩:=j;subst p;obtain rfl:u=Value.ref a:=n;obtain⟨r,t,_⟩:=EO f d;refine⟨r,t,?_⟩;rw[m.trees];refine ah9 rfl (aj0 (ai4 (dS (he b i Z l _ f q) λD E ⟨y,v,w,z,G,g,B⟩=>am0 ?_)));exact RE hu w g z λJ K C c=>⟨_,v,C,c,B⟩
def xR (ho:PE X o td) (he:PE X e ty) (m:M1 X o "pop" apos e cpos):PE X (.Call (.Attribute o "pop" apos) [e] [] cpos) (Up td ty):=by intro b s Z H Q I h;refine wpAny_Call_method m.ap m.few m.line F.plainAttrs_dict F.slot_dict_pop F.type_dict_pop (dS (ho b s Z H _ I h) λu g  i=>?_);obtain⟨x,j,f,n,a,p,d,q⟩:=i;subst p;obtain rfl:u=Value.ref a:=n;obtain⟨r,t,_⟩:=EO f d;refine⟨r,t,?_⟩;rw[m.trees];refine ah9 rfl (aj0 (ai4 (dS (he b g Z j _ f q) λG J ⟨y,K,w,z,A,k,v,B,C,l,D⟩=>am0 ?_)));subst C;exact X7 w B z l (.inl rfl) λL M E c=>⟨v,_,E,c,D⟩
end
section
variable {a:Addr}{kvs:List (Key×V)}{E:Value->Shared->Prop}
def JI  (I:Inv X am Z H s) (e:Rd H a (.dK kvs)) (h:∀p s',H p=none->Inv X am Z (ag H p (.dK kvs)) s'->Q (.ref p) s'):wpAny (model X.prog X.w) A (call (.type "dict") [.ref a]) Q E s:=by obtain⟨z,g,l,c,i⟩:=pY I.ba e;refine kt_call_dict g i (c.length▸z) λn d j=>?_;refine h _ _ (I.ba.fresh (N0 _)) (I.laid (a:=s.heap.objs.size) (o:=.dK kvs) (t':=s.toks) (λb q f=>?_) (N0 _) (wu z (beq_eq_false_iff_ne.mpr (aa4 (Z6 I.big))) c d));exact(j.2 b (Z6 (P2 f))).trans (x0 _ f)
end
def Eb:gS X (.builtin "len") (λxs H Q=>∃a kvs,xs=[V.ref a]/\H a=some (.dK kvs)/\Q (.int kvs.length) H):=by intro b s Z H xs us Q I r h;obtain⟨a,kvs,rfl,c,q⟩:=h;obtain⟨u,rfl,d⟩:=vals1 r;cases d;exact WR I (.inl c) λt f e=>⟨.int kvs.length,H,e,⟨t,rfl⟩,q⟩
section
variable {κ:Type}[DecidableEq κ]
def HW{kvs:List (κ×V)}{k:κ}(h:fP kvs k=none):¬k∈kvs.map (·.1):=by intro m;obtain⟨p,a,e⟩:=aa9.mp m;have q:(kvs.any λb=>decide (b.1=k))=true:=List.any_eq_true.mpr ⟨p,a,ab4 e⟩;rw[iC,h] at q;exact absurd q (by simp)
def LO{kvs:List (κ×V)}{k:κ}{v:V}(h:fP kvs k=some v):k∈kvs.map (·.1):=by
 have q:(kvs.any λa=>decide (a.1=k))=true:=by rw[iC,h];all_goals rfl
 obtain⟨p,b,e⟩:=List.any_eq_true.mp q;exact aa9.mpr ⟨p,b,of_decide_eq_true e⟩
theorem Cz:∀{l:List κ} {k:κ},l.Nodup -> ¬k∈l->(l++[k]).Nodup
 | [],k,_,_=>by simp
 |a::r,k,h,hk=>by
  obtain⟨h1,h2⟩:=ah8.mp h;show (a::(r++[k])).Nodup;refine ah8.mpr ⟨λm=>?_,Cz h2 λm=>hk (Z5.mpr (Or.inr m))⟩;rcases X1.mp m with q|q
  .exact h1 q
  .exact hk (Z5.mpr (Or.inl (B1.mp q).symm))
def DX{p:κ×V}{r:List (κ×V)}{k:κ}(e:p.1=k):jY (p::r) k=jY r k:=by unfold jY;rw[an1,C5 (by simp[e])]
def D8{p:κ×V}{r:List (κ×V)}{k:κ}(e:¬p.1=k):jY (p::r) k=p::jY r k:=by unfold jY;rw[an1,w4 (by simp[e])]
end
inductive Kh(x:V)(vs:q7)(H:Hp)(Q:VK):Prop|mk(a b:Str)(_:x = .str a)(_:vs=[.str b])(_:(b.length == 0)=false)(_:a.length+2<=sizeLine)(_:∀p,H p=none->Q (.ref p) (ag H p (.lst ((Txt.split a b).map V.str))))
def DV:∀(n:Nat) (ys:a9),Vals (ys.map V.str) (strsFrom n ys):=by
 intro n ys;rw[strsFrom_eq];have a:∀l,Vals ((l.map (·.1)).map V.str) (strValues l):=by
  intro l;induction l with
  |nil=>exact .nil
  |cons p r ih=>exact .cons ⟨p.2,rfl⟩ ih
 have:=a (numbered n ys);rwa [numbered_texts] at this
def kM:Su X "str.split" Kh:=by
 intro g s Z H x o v us Q I j l h;obtain⟨a,b,rfl,rfl,i,p,q⟩:=h;obtain⟨t,rfl⟩:=j;obtain⟨u,rfl,n⟩:=l.one;obtain⟨d,rfl⟩:=n;have c:=q s.heap.objs.size (I.ba.fresh (N0 _));have f:=PyProof.Rows.split_le a b;cases h1:(decide (a.length<b.length) || decide (Builtin.Str.strKind a<Builtin.Str.strKind b))
 .cases hf:(Builtin.Str.occurrences a b 0 a.length (a.length+1)).isEmpty
  .have e:Txt.split a b=Builtin.Str.partsBetween a (Builtin.Str.occurrences a b 0 a.length (a.length+1)) b.length:=by unfold Txt.split;rw[C5 (ne_true_of_eq_false h1),C5 (ne_true_of_eq_false hf)]
   rw[e] at c f;refine am4 ag1 (am6 _ _ _) F.entry_str_split (F.args_str_split_2 _ _) (meets_str_split_sep a b t d h1 i hf (by lia) (by lia)) ?_;exact⟨.ref _,_,I.JS (t':=_) (DV s.toks _) (by rw[d5];lia),rfl,c⟩
  .have e:Txt.split a b=[a]:=by unfold Txt.split;rw[C5 (ne_true_of_eq_false h1),w4 hf]
   rw[e] at c;refine am4 ag1 (am6 _ _ _) F.entry_str_split (F.args_str_split_2 _ _) (meets_str_split_not_found a b t d h1 i hf) ?_;exact⟨.ref _,_,I.JS (ys:=[.str a]) (t':=s.toks) (.cons ⟨t,rfl⟩ .nil) (by show 1<=sizeLine;decide),rfl,c⟩
 .have e:Txt.split a b=[a]:=by unfold Txt.split;rw[w4 h1]
  rw[e] at c;refine am4 ag1 (am6 _ _ _) F.entry_str_split (F.args_str_split_2 _ _) (meets_str_split_cannot_occur a b t d h1) ?_;exact⟨.ref _,_,I.JS (ys:=[.str a]) (t':=s.toks) (.cons ⟨t,rfl⟩ .nil) (by show 1<=sizeLine;decide),rfl,c⟩
def yP:∀{us:c8},Vals (bs.map V.bl) us->LSm.BoolsAre us bs:=by
 induction bs with
 |nil=>intro us r;cases r;exact .nil
 |cons y r ih =>
  intro us h;cases h with
  |cons h t =>
   cases h;exact .cons _ (ih t)
def Ef (hc:X.aw=true):gS X (.builtin "all") (λxs H Q=>∃(p:Addr) (bs:List Bool),xs=[.ref p]/\aV X.K H p (bs.map V.bl)/\Q (.bl (bs.all id)) H):=by
 intro d s Z H xs us Q I r h;obtain⟨p,bs,rfl,j,q⟩:=h;obtain⟨u,rfl,l⟩:=vals1 r;cases l;obtain⟨a,n,o,y⟩:=I.list j;have f:=yP n;have hl:=o.isList;have c:p<s.heap.objs.size:=by obtain⟨_,e,_⟩:=hl;exact P2 e
 refine call_all_walk (wpAny_pyIter_list hl ?_);refine⟨s.heap.objs.size,[s.heap.objs.size,p],[s.heap.objs.size],a.toArray.size,_,_,λi=>(bs[i]?).getD true,rfl,Walks.list (A:=X.A.in1) (I.ok.hd hc) _ p (Z6 c) a.toArray,
  ⟨⟨_,aa5 _ rfl,rfl,rfl⟩,hl.push _⟩,λi v z B C t g=>?_,λD w x=>?_⟩
 .obtain⟨b,e,rfl⟩:=f.get i v (by simpa using t);simp only[e,Option.getD_some] at g;exact af4 g
 .have e:((List.range a.toArray.size).all λi=>(bs[i]?).getD true)=bs.all id:=T1▸f.length▸LSm.range_all bs
  exact e▸⟨.bl _,H,I.kept (t':=w) (LSm.kept_iter x),rfl,q⟩
def YN(z:Str):It:=⟨λi _=>i<z.length,λi H x a=>a=H/\∃c,z.l[i]?=some c/\x = .str ⟨#[c]⟩,λi _=>z.length<=i⟩
def vd{P:Program}{K:W.Frag}{x:Str}(z:Str)(it:Addr)(St:Nat->Heap->Prop)(cl:∀i h,St i h->∃o,h.get? it=some o/\∀v,o.data ≠ .cell v)
  (fr:∀i h h',St i h->(∀o,h.get? it=some o->h'.get? it=some o)->St i h') (sf:∀(A:Around) (i:Nat) (s:Shared) (Q:Value->Shared->Prop) (E:Value->Shared->Prop),St i s.heap->Q (.ref it) s->wpAny (model P w) A (pyIter (.ref it)) Q E s)
  (W:∀A:Around,A.handled=none->Walks P w A it [it] [it] z.cps.size (SignAt z) St):Turn P w K (.Name x px) (YN z) [it] it (λi h=>St i h/\i<=z.length) where
 mem:=by simp
 obj:=λi h a b d=>by
  have e:b=it:=by simpa using d
  subst e;exact cl i h a.1
 keep:=λi h h' a k=>⟨fr i h h' a.1 λo e=>k it (by simp) o e,a.2⟩
 item:=by intro X f n p q i g s Z H E I j a l;subst f n p;obtain⟨r,t,J,y,B,C⟩:=j it (by simp);refine(W X.A (I.ok.hd q)).item i s _ E l a.1 λv h' D f F G=>?_;obtain⟨c,u,L,rfl⟩:=f;refine⟨_,rfl,?_⟩;show wpAny _ _ (pure ()) _ _ _;refine X2 ⟨.str ⟨#[c]⟩,H,I.turned (t':=D) (λb o d e=>G b o (by simpa using d) e) r t y B C,⟨u,rfl⟩,⟨rfl,c,by simpa using L,rfl⟩,⟨F,l⟩,λb d=>(j b d).1⟩
 done:=by intro X f n p q i g s Z H E I j a l;subst f n p;obtain⟨r,t,J,y,B,C⟩:=j it (by simp);have e:=Nat.le_antisymm a.2 l;subst e;exact(W X.A (I.ok.hd q)).done s _ E a.1 λh' D G=>⟨rfl,I.turned (t':=D) (λb o d e=>G b o (by simpa using d) e) r t y B C⟩
 self:=λA i s Q E a h=>sf A i s Q E a.1 h
def Y4(te:TE):TI:=λZ H R=>te Z H λx a=>∃z,x = .str z/\R (YN z) a
def Tc(he:PE X e te):PI X (.Name x px) e (Y4 te):=by
 intro g s Z H R I h;refine dS (he g s Z H _ I h) λv a  D=>?_;obtain⟨y,F,n,G,J⟩:=D;obtain⟨z,rfl,q⟩:=J;obtain⟨t,rfl⟩:=G;have l:∀o St,Turn X.prog X.w X.K (.Name x px) (YN z) [a.heap.objs.size] a.heap.objs.size St->St 0 (a.heap.push o)->ZH X g Z (.Name x px) R (.ref a.heap.objs.size) { a with heap:=a.heap.push o }:=λo St T f=>by
  refine⟨a.heap.objs.size,[a.heap.objs.size],_,_,F,rfl,n.kept (t':=a.toks) λb o e=>x0 _ e,T,f,λb L=>?_,q⟩;have e:b=a.heap.objs.size:=by simpa using L
  subst e;exact n.CM (N0 _) (n.ba.fresh (N0 _))
 have B:∀j (i:Nat) (h:Heap),h.IsStrIter a.heap.objs.size j z t i->∃o,h.get? a.heap.objs.size=some o/\∀v,o.data ≠ .cell v:=λj i h f=>by obtain⟨o,e,c,d⟩:=f;exact⟨o,e,λv q=>by rw[d] at q;cases q⟩
 have C:∀j (i:Nat) (h p:Heap),h.IsStrIter a.heap.objs.size j z t i->(∀o,h.get? a.heap.objs.size=some o->p.get? a.heap.objs.size=some o)->p.IsStrIter a.heap.objs.size j z t i:=λj i h p f k=>by obtain⟨o,e,r⟩:=f;exact⟨o,k o e,r⟩
 cases ha:z.cps.all (· < 128)
 .exact wpAny_pyIter_wide ha (l _ _ (vd z _ _ (B _) (C _) (λA i s Q E f h=>wpAny_pyIter_striter_wide f h) (λA u=>Walks.strWide u _ z t)) ⟨⟨_,aa5 _ rfl,rfl,rfl⟩,Z9 _⟩)
 .exact wpAny_pyIter_ascii ha (l _ _ (vd z _ _ (B _) (C _) (λA i s Q E f h=>wpAny_pyIter_striter_ascii f h) (λA u=>Walks.strAscii u _ z t)) ⟨⟨_,aa5 _ rfl,rfl,rfl⟩,Z9 _⟩)
def Zr(K:W.Frag)(a:Addr):It :=
 ⟨λi H=>∃b x,aV K H a b/\b[i]?=some x,λi H x c=>∃p v,H p=none/\x = .ref p/\c=ag H p (.tup [.int i,v])/\∀b,aV K H a b->b[i]?=some v,λi H=>∃b,aV K H a b/\b.length<=i⟩
def DO{P:Program}{K:W.Frag}{x1}(a e it:Addr)(hne:e≠it):Turn P w K (.Tuple elts x1 pos) (Zr K a) [e,it] e (λi h=>∃old,IsEnum h e it i old/\h.IsListIter it a i) where
 mem:=by simp
 obj:=λi h j b t=>by
  obtain⟨old,j,y⟩:=j;rcases Z5.mp t with z|z
  .subst z;exact⟨_,j,λv q=>by cases q⟩
  .have e:b=it:=by simpa using z
   subst e;obtain⟨o,e,c,d⟩:=y;exact⟨o,e,λv q=>by rw[d] at q;cases q⟩
 keep:=λi h h' j k=>by obtain⟨old,j,y⟩:=j;exact⟨old,k e (by simp) _ j,y.at λo q=>k it (by simp) o q⟩
 item:=by
  intro X L M N l i A s Z H E I B j O;subst L M N;obtain⟨old,j,y⟩:=j;obtain⟨xs,x,J,Q⟩:=O;obtain⟨R,S,p,hz⟩:=I.list J;obtain⟨u,hu,ru⟩:=S.get Q;have f:=B e (by simp);have g:=B it (by simp);refine wpAny_pyNext_enum_item j y p.isList (x:=u) (by simpa using hu) hne λh1 eo T ht hsz hk=>?_;refine⟨_,rfl,wpAny_letOwnedTupleGo_enum (s:={ s with heap:=h1,toks:=s.toks+1 }) eo λh2 en U=>?_⟩;have C:=Z6 (P2 j);have Y:it≠s.heap.objs.size:=by obtain⟨o,q,_⟩:=y;exact Z6 (P2 q)
  have D:∀b o,b≠e->b≠it->s.heap.get? b=some o->h2.get? b=some o:=λb o n1 n2 q=>(U.2 b n1).trans (hk b o n1 n2 q);have fresh:=I.ba.fresh (N0 s.heap.objs.size);have I1:Inv X A Z (ag H s.heap.objs.size (.tup [.int i,x])) { s with heap:=h2,toks:=s.toks+1 }:=by
   refine I.step (g':=s.gens) (d':=s.drawn) (ch:=[e,it]) (λb t=>?_) (λb o _ _ l q _=>D b o (λz=>l (by simp[z])) (λz=>l (by simp[z])) q) (λb o _ _ l q _=>⟨o.slots,D b o (λz=>l (by simp[z])) (λz=>l (by simp[z])) q⟩) (λb o l q n=>by rw[aj (Z6 (P2 q))];exact n) (λb o l q=>⟨o,D b o (λz=>l (by simp[z])) (λz=>l (by simp[z])) q⟩) (λb ys q=>by rw[aj (au q fresh)];exact q) (λb o ys q=>by rw[aj (au q fresh)];exact q) (λb ps q=>⟨#[],by rw[aj (au q fresh),q];simp⟩) (λm hm=>by obtain⟨o,es,ep,ho,r⟩:=hm;exact⟨o,es,ep,D _ o (aa4 f.2.1) (aa4 g.2.1) ho,r⟩) (λb u' q=>?_) I.ax
   .rcases Z5.mp t with z|z
    .exact z▸⟨f.2.2.2.1,f.2.1,f.2.2.2.2.1,f.2.2.2.2.2⟩
    .have z:b=it:=by simpa using z
     exact z▸⟨g.2.2.2.1,g.2.1,g.2.2.2.2.1,g.2.2.2.2.2⟩
   .by_cases t:b=s.heap.objs.size
    .subst t;rw[aa] at q;cases q;refine⟨by show 2<=sizeLine;decide,[_,u],.cons ⟨_,rfl⟩ (.cons ru .nil),⟨_,(U.2 _ (aa4 C)).trans ht,rfl,_,rfl⟩⟩
    .rw[aj t] at q;refine(I.ba b u' q).stay (λc v F r=>D c v ?_ ?_ r) (λc r=>by rw[aj (au r fresh)];exact r) λc ys r=>by rw[aj (au r fresh)];exact r
     .rcases F with z|z
      .exact z▸au q f.1
      .exact au z f.1
     .rcases F with z|z
      .exact z▸au q g.1
      .exact au z g.1
  refine⟨.ref s.heap.objs.size,_,I1,rfl,⟨_,x,fresh,rfl,rfl,λys hy=>by rw[I.qf hy J];exact Q⟩,⟨_,en,by obtain⟨o,q,r⟩:=T;exact⟨o,(U.2 it (aa4 hne)).trans q,r⟩⟩,λb t=>?_⟩
  .have G:=(B b t).1;rcases Z5.mp t with z|z
   .rw[aj (z▸C)];exact G
   .have z:b=it:=by simpa using z
    rw[aj (z▸Y)];exact G
 done:=by intro X L M N l i A s Z H E I B j O;subst L M N;obtain⟨old,j,y⟩:=j;obtain⟨xs,J,Q⟩:=O;obtain⟨R,S,p,hz⟩:=I.list J;obtain⟨f0,f1,f2,f3,f4,f5⟩:=B it (by simp);have hl:=S.length;exact wpAny_pyNext_enum_end (I.ok.hd l) j y p.isList (by simp;lia) λh' eb=>⟨rfl,I.turned (t':=s.toks) (λb o t e=>eb b o t e) f0 f1 f3 f4 f5⟩
 self:=λ_ _ _ _ _ j h=>by obtain⟨old,j,y⟩:=j;exact wpAny_pyIter_enum j h
def Xl(K:W.Frag)(ta:TA):TI:=λZ H R=>ta Z H λc b=>∃a d,c=[.ref a]/\aV K b a d/\R (Zr K a) b
def wG      (hg:Gl X "enumerate") (hm:X.mg "enumerate" = none) (ha:PA X [a] ta) (hs:autoParam (starEach [a] X.env=[(false,eval a X.env)]) cw._auto_1) :
  PI X (.Tuple elts x1 tp) (.Call (.Name "enumerate" p) [a] [] pos) (Xl X.K ta):=by
 intro d s Z H R I h;refine Call_ (pF I hg hm (show bootBuiltins "enumerate" = some (.type "enumerate") by lk) (ae0 (dS (ha pos d s Z H _ I h) λus c i=>?_) hs rfl));obtain⟨D,j,f,n,o⟩:=i;obtain⟨l,E,rfl,r,q⟩:=o;obtain⟨u,rfl,t⟩:=n.one;cases t;obtain⟨v,F,w,G⟩:=f.list r;refine call_enumerate_list w.isList λx g y A B=>?_;refine wpAny_pyIter_enum (s:={ c with heap:=x }) g ?_;refine⟨c.heap.objs.size+1,[c.heap.objs.size+1,c.heap.objs.size],_,_,j,rfl,f.kept (t':=c.toks) B,DO l _ _ (Nat.succ_ne_self _),⟨_,g,y⟩,λb C=>?_,q⟩;have e:c.heap.objs.size<=b:=by
  rcases Z5.mp C with z|z
  .exact z▸al7 _
  .have z:b=c.heap.objs.size:=by simpa using z
   exact z▸N0 _
 exact f.CM e (f.ba.fresh e)
def i8{x y:Str}(h:x.l=y.l):x=y:=by obtain⟨a⟩:=x;obtain⟨b⟩:=y;have:a=b:=ai1.mp h;rw[this]
def dF(x y:Str):(x++y).l=x.l++y.l:=by show (x.cps++y.cps).toList=_;simp
noncomputable def d9(c:Nat):List c7->c7
 | []=>[]
 | [x]=>x
 |x::y::r=>x++c::d9 c (y::r)
theorem fZ(c:Nat):∀ps:a9,(Str.join ⟨#[c]⟩ ps).l=d9 c (ps.map λp=>p.l)
 | []=>rfl
 | [x]=>rfl
 |x::y::r=>by show (x++⟨#[c]⟩++Str.join ⟨#[c]⟩ (y::r)).l=x.l++c::d9 c ((y::r).map λp=>p.l);rw[dF,dF,fZ c (y::r)];simp[Str.l]
theorem BS:∀{a b r s:c7},c∉a->c∉b->a++c::r=b++c::s->a=b/\r=s
 | [],[],r,s,_,_,h=>⟨rfl,by simpa using h⟩
 | [],y::b,r,s,_,hb,h=>by simp at h;exact absurd (by simp[h.1]) hb
 |x::a,[],r,s,ha,_,h=>by simp at h;exact absurd (by simp[h.1]) ha
 |x::a,y::b,r,s,ha,hb,h=>by simp only[List.cons_append,List.cons.injEq] at h;obtain⟨e1,e2⟩:=BS (λz=>ha (Q1 _ z)) (λz=>hb (Q1 _ z)) h.2;exact⟨by rw[h.1,e1],e2⟩
theorem v8:∀{ps qs:List c7},ps≠[]->qs≠[]->(∀p∈ps,c∉p)->(∀q∈qs,c∉q)->d9 c ps=d9 c qs->ps=qs
 | [],_,h,_,_,_,_=>absurd rfl h
 |_::_,[],_,h,_,_,_=>absurd rfl h
 | [x],[y],_,_,_,_,h=>by simp only[d9] at h;rw[h]
 | [x],y::z::r,_,_,hx,_,h=>by simp only[d9] at h;exact absurd (by rw[h];simp) (hx x (by simp))
 |x::z::r,[y],_,_,_,hy,h=>by simp only[d9] at h;exact absurd (by rw[<- h];simp) (hy y (by simp))
 |x::x2::r,y::y2::s,_,_,hx,hy,h=>by simp only[d9] at h;obtain⟨e1,e2⟩:=BS (hx x (by simp)) (hy y (by simp)) h;have:=v8 (ps:=x2::r) (qs:=y2::s) (by simp) (by simp) (λp a=>hx p (Q1 _ a)) (λq b=>hy q (Q1 _ b)) e2;rw[e1,this]
def pe(hn:ps≠[])(hf:∀p∈ps,c∉p.l):Txt.split (Str.join ⟨#[c]⟩ ps) ⟨#[c]⟩=ps:=by
 have g:=StrLaws.join_split (Str.join ⟨#[c]⟩ ps) ⟨#[c]⟩;have i:=StrLaws.split_free (Str.join ⟨#[c]⟩ ps) c;have d:=PyProof.Rows.split_pos (Str.join ⟨#[c]⟩ ps) ⟨#[c]⟩;generalize Txt.split (Str.join ⟨#[c]⟩ ps) ⟨#[c]⟩=qs at g i d;have j:=ac7 (λx=>x.l) g;simp only[fZ] at j;have inj:∀{a b:a9},(a.map λp=>p.l)=(b.map λp=>p.l)->a=b:=by
  intro a;induction a with
  |nil=>intro b h;cases b with
   |nil=>rfl
   |cons _ _=>cases h
  |cons x r ih =>
   intro b h;cases b with
   |nil=>cases h
   |cons y s =>
    simp only[ab5,List.cons.injEq] at h;rw[i8 h.1,ih h.2]
 refine inj (v8 (c:=c) (by intro z;have:=ac7 List.length z;simp at this;rw[this] at d;simp at d) (by intro z;have:=ac7 List.length z;simp at this;exact hn this) (by intro p e;obtain⟨q,f,rfl⟩:=aa9.mp e;exact i q f) (by intro p e;obtain⟨q,f,rfl⟩:=aa9.mp e;exact hf q f) j)
noncomputable def oq(c d:Nat)(l:c7):c7:=l.map λx=>if x=c then d else x
theorem n9:∀{l:c7},c∉l->oq c d l=l
 | [],_=>rfl
 |x::r,h=>by unfold oq;rw[ab5,C5 (λz=>h (by simp[z]))];congr 1;exact n9 λz=>h (Q1 _ z)
theorem vA:∀{ps:List c7},(∀p∈ps,c∉p)->oq c d (d9 c ps)=d9 d ps
 | [],_=>rfl
 | [x],h=>n9 (h x (by simp))
 |x::y::r,h=>by
  simp only[d9];have e1:oq c d (x++c::d9 c (y::r))=oq c d x++d::oq c d (d9 c (y::r)):=by simp[oq]
  rw[e1,n9 (h x (by simp)),vA (ps:=y::r) λp a=>h p (Q1 _ a)]
def m5(x:Str)(c d:Nat):(Txt.replace x ⟨#[c]⟩ ⟨#[d]⟩).l=oq c d x.l:=by
 rw[StrLaws.replace_one,fZ];have a:=ac7 (λx=>x.l) (StrLaws.join_split x ⟨#[c]⟩);simp only[fZ] at a;conv=>rhs;rw[<- a]
 rw[vA];intro p b;obtain⟨q,e,rfl⟩:=aa9.mp b;exact StrLaws.split_free x c q e
def Dj(h:d∉l):oq d c (oq c d l)=l:=by
 induction l with
 |nil=>rfl
 |cons x r ih =>
  unfold oq at *;simp only[ab5];rw[(ih λz=>h (Q1 _ z))];by_cases e:x=c
  .subst e;simp
  .rw[C5 e,C5 (λz=>h (by simp[z]))]
def Zs{α:Type}{t:Sem α}{Q Q':α->Shared->Prop}{E E':Value->Shared->Prop}(h:wpAny M A t Q E s)(hQ:∀a s,Q a s->Q' a s)(hE:∀a s,E a s->E' a s):wpAny M A t Q' E' s:=ad3 h hQ hE
section
variable {o e:Expr}{to:TE}{p1 p2 p3 p4 p5:Pos}{j1 j2 j3:Nat}
inductive JM(y:Str)(z:Str):V->Hp->VK->Prop|mk{a:Str}{H Q:_}(_:a.length+(a.length+1)*z.length<=16777216)(_:Q (.str (Txt.replace a y z)) H):JM y z (.str a) H Q
def DN(hyz:(y == z)=false)(I:Inv X am Z H s)
  (ho:wpAny (model X.prog X.w) X.A (eval o X.env) (λu s'=>1<=s'.toks/\EP X am Z (λx H1=>JM y z x H1 Q) u s') X.xe s)
  (hbase:autoParam (attributeBase o "replace" X.env (eval o X.env)=eval o X.env) cw._auto_1) (hline:autoParam ((apos.endLine == cpos.line)=true) cw._auto_1) :
  wpAny (model X.prog X.w) X.A (eval (.Call (.Attribute o "replace" apos) [.Constant (.str y) j1 p1,.Constant (.str z) j2 p2] [] cpos) X.env) (EP X am Z Q) X.xe s:=by
 refine wpAny_Call_method_late hbase rfl hline rfl (dS ho λv b  c=>?_);obtain⟨d,x,H1,f,g,h⟩:=c;obtain@⟨a,_,_,i,q⟩:=h;obtain⟨t,rfl⟩:=g;refine⟨"str","str.replace",ae2,F.slot_str_replace,F.type_str_replace,am6 _ _ _,(λ_ e=>nomatch e),?_⟩;refine ah9 rfl (aj0 ?_);refine ai4 (Calls.Constant_str (k:=j1) (pos:=p1) (ai4 (Calls.Constant_str (k:=j2) (pos:=p2) (am0 ?_))));exact SC.replace (u:=b.toks) (v:=b.toks+1) (ao0 d) (Nat.succ_ne_zero _) Wd hyz i λj k=>⟨.str _,H1,f.tok _,⟨j,rfl⟩,q⟩
def Ba(hyz:(y == z)=false)(he:PE X e te)
  (hbase:autoParam (attributeBase (.Subscript e (.Slice (some (.Constant (.int k) j3 p4)) none none p3) p5) "replace" X.env (eval (.Subscript e (.Slice (some (.Constant (.int k) j3 p4)) none none p3) p5) X.env)=eval (.Subscript e (.Slice (some (.Constant (.int k) j3 p4)) none none p3) p5) X.env) cw._auto_1)
  (hline:autoParam ((apos.endLine == cpos.line)=true) cw._auto_1) :
  PE X (.Call (.Attribute (.Subscript e (.Slice (some (.Constant (.int k) j3 p4)) none none p3) p5) "replace" apos) [.Constant (.str y) j1 p1,.Constant (.str z) j2 p2] [] cpos) (λZ H Q=>te Z H λx H1=>∃w:Str,x = .str w/\w.length<=sizeLine/\JM y z (.str (Txt.slice w (some k) none)) H1 Q):=by
 intro c s Z H Q I h;refine DN hyz I ?_ hbase hline;refine Subscript_ (dS (he c s Z H _ I h) λv a  f=>?_);obtain⟨x,H1,g,i,w,j,l,o⟩:=f;subst j;obtain⟨t,rfl⟩:=i;refine wpAny_Slice ?_;rw[evalPart_some];refine wpAny_Constant_int ?_;rw[evalPart_none];refine X2 ?_;refine X2 ?_;have p:Inv X c Z H1 { a with toks:=a.toks+1 }:=g.tok _;have r:Inv X c Z H1 { a with toks:=a.toks+1,heap:=a.heap.push { cls:=.type "slice",data:=.fields #[.int k a.toks,.none,.none] } }:=p.kept (t':=a.toks+1) λb C q=>x0 _ q;obtain⟨T,D,u,A,B⟩:=ko (X:=X) c { a with toks:=a.toks+1,heap:=a.heap.push { cls:=.type "slice",data:=.fields #[.int k a.toks,.none,.none] } } Z H1 (.str w) (.str w t) (.int k a.toks) .none (some k) none a.heap.objs.size (λx H1=>JM y z x H1 Q) r ⟨t,rfl⟩ (Heap.IsSliceOf.new ..) (.int k _) .none ⟨l,o⟩;exact Zs (wpAny_toks_of (n:=1) (show 1<=a.toks+1 by lia) (tail_any (value:=e) (slice:=.Slice (some (.Constant (.int k) j3 p4)) none none p3) (ops:=[.ref a.heap.objs.size,.str w t]) A u B (by with_unfolding_all rfl))) (λ_ _ q=>q) λ_ _ q=>q.2
end
def iF    (hg:Gl X x) (h:∃u,X.mg x=some u/\RelV v u) (hd:autoParam ((x == ("__debug__" : Str))=false) cw._auto_1):PE X (.Name x pos) (tC v):=by obtain⟨u,e,r⟩:=h;exact jX hg e r hd
theorem JY:∀{x:V},jy x=true->D0 x x=true
 |.dj,_=>rfl
 |.bl b,_=>show (b == b)=true from beq_self_eq_true b
 |.int b,_=>show (b == b)=true from beq_self_eq_true b
 |.str b,_=>show (b == b)=true from beq_self_eq_true b
def EI(Pv:Nat->q7->Hp->Prop)(h0:Pv 0 [] H)(hn:z.length<sizeLine)
  (hs:∀i c ys H,z.l[i]?=some c->ys.length=i->Pv i ys H->te (nv caps Z++[some (.str ⟨#[c]⟩)]) H λy H2=>∃m',m'<z.length-i/\m'=z.length-(i+1)/\i+1<=z.length/\(ys++[y]).length=i+1/\Pv (i+1) (ys++[y]) H2) (hd:∀ys H,ys.length=z.length->Pv z.length ys H->∀D,H D=none->Q (.ref D) (ag H D (.lst ys))) :
  yz (YN z) caps te Z H Q:=by
 refine⟨λi m ys H=>m=z.length-i/\i<=z.length/\ys.length=i/\Pv i ys H,⟨z.length,by simp,Z9 _,rfl,h0⟩,?_⟩;rintro i m ys H ⟨rfl,d,hl,p⟩;by_cases a:i<z.length
 .refine .inr ⟨a,by lia,λx f y=>?_⟩;obtain⟨e,c,b,rfl⟩:=y;subst e;exact hs i c ys _ b hl p
 .have e:i=z.length:=by lia
  subst e;exact .inl ⟨N0 _,hd ys H hl p⟩
def qK{K:PySem.W.Frag}(Pv:Nat->St->Hp->Prop)(h0:Pv 0 Z H)(hl:∀i Z H,i<=xs.length->Pv i Z H->aV K H a xs)
  (hs:∀i x p Z H,xs[i]?=some x->H p=none->Pv i Z H->g (.ref p) Z (ag H p (.tup [.int i,x])) λZ2 H2=>tb { D with nx:=Pv (i+1),ct:=Pv (i+1),bk:=D.nx } Z2 H2) (hd:∀Z H,Pv xs.length Z H->D.nx Z H):DJ (Zr K a) g tb D Z H:=by
 refine⟨λi m Z H=>m=xs.length-i/\i<=xs.length/\Pv i Z H,⟨xs.length,by simp,Z9 _,h0⟩,?_⟩;rintro i m Z H ⟨rfl,c,p⟩;have q:=hl i Z H c p;by_cases b:i<xs.length
 .refine .inr ⟨⟨xs,xs[i],q,by simp[b]⟩,Pv (i+1),λn d f=>⟨xs.length-(i+1),by lia,rfl,b,f⟩,λx d y=>?_⟩;obtain⟨h,v,j,rfl,rfl,l⟩:=y;exact hs i v h Z H (l xs q) j p
 .have e:i=xs.length:=by lia
  subst e;exact .inl ⟨⟨xs,q,N0 _⟩,hd Z H p⟩
def fY(H H':Hp)(p:Addr):Prop:=∀b o,H b=some o->b≠p->H' b=some o
def fY.refl(H:Hp)(p:Addr):fY H H p:=λ_ _ h _=>h
def fY.trans(a:fY H H1 p)(b:fY H1 H2 p):fY H H2 p:=λc o h n=>b c o (a c o h n) n
def fY.ae(a:fY H H1 p)(b:af H1 H2):fY H H2 p:=λc o h n=>b c o (a c o h n)
def af.K3(a:af H H1)(b:fY H1 H2 p):fY H H2 p:=λc o h n=>b c o (a c o h) n
def fY.ag:fY H (L2.ag H p o) p:=λb u h n=>by rw[aj n];exact h
def zb(hN:X.N.Nodup)(hiy:X.N[i]?=some y)(hy:Loc X.env.scope y)(ck:oN sc csc N x caps)(hi:PI X (.Name x px) iter wi)
  (ht:∀C s2 H2 fp,Xx (fJ X (caps.map (·.1)++[x]) csc C s2 H2 fp) ifs tt) (he:∀C s2 H2 fp,PE (fJ X (caps.map (·.1)++[x]) csc C s2 H2 fp) elt te) (hc:X.aw=true) (hsc:X.env.scope=sc) (hXN:X.N=N) (hs:∀x,foldedSetIterable iter X.env x=pure x)
  (hsw:swapsWith (.ListComp elt [⟨.Name x px,iter,ifs,0⟩] csc pos) (some (.Name y pos')) spos.line X.env=pure true) (hf:X.fn y=true\/X.env.scope.names.lookup y=some .local) :
  PS X (.Assign [.Name y pos'] (.ListComp elt [⟨.Name x px,iter,ifs,0⟩] csc pos) spos) (Bc (rR caps wi tt te) (p9 i)):=by
 intro a s Z H D I h;rw[exec_Assign_Name_used _ _ _ _ hsw];refine y0 (wpAny_standAt (y0 ?_));show wpAny _ X.A (do let _ <- comprehension (.ListComp elt [⟨.Name x px,iter,ifs,0⟩] csc pos) csc X.env _ (newList []) false (eval iter X.env) (some (assign (.Name y pos') X.env))) _ _ s;refine y0 (ad3 (yg ck hi ht he hc hsc hXN hs I h (some (assign (.Name y pos') X.env)) (λ_ O=>SP X a D .next O) ?_) (λ_ O T=>X2 (X2 T)) λ_ _ e=>e);intro s2 H2 Dl C u B s4 m l d U E F W G q;have P:Inv X a Z (ag B Dl (.lst u)) s4:=W s4.heap (Heap.SameBut.refl _ _);have J:=aa4 E;have K:ag B Dl (.lst u) C=none:=by rw[aj J];exact G
 have n:C≠X.env.locals:=λz=>by have:=l.lt;rw[<- z] at this;exact absurd this (Nat.not_lt.mpr d)
 have r:=l.Xj d;have j:∀p∈X.pn++a,p.1≠C:=λp f z=>by have:=(l.pin p f).1;have:=P2 this;rw[z] at this;exact absurd this (Nat.not_lt.mpr d)
 have g:∀z c,X.env.cells.lookup z=some c->c≠C:=λz c e w=>by obtain⟨v,o,Y,_⟩:=l.cell z c e;have:=P2 Y;rw[w] at this;exact absurd this (Nat.not_lt.mpr d)
 obtain⟨t,es,ep,eC,Q,rC⟩:=id F;have I1:Inv X (a++[(C,t)]) Z (ag B Dl (.lst u)) s4:=P.jZ λp f=>by
  rcases X1.mp f with f|f
  .exact P.pin p (Z2 _ f)
  .rw[B1.mp f];exact⟨eC,K,n,r,λv z=>by rw[Q] at z;cases z⟩
 refine dS (pQ (i:=i) (pos:=pos') hN hiy hy hf (a++[(C,t)]) s4 Z _ (.ref Dl) (.ref Dl) D.nx I1 rfl q) λ_ s5  hZ=>?_;obtain⟨Z5,R,L,q5⟩:=hZ;have S:=L.pin (C,t) (by simp);refine⟨m,⟨t,es,ep,S.1,Q,rC⟩,λh' M=>?_⟩;exact⟨Z5,R,(L.jZ λp f=>L.pin p (Z2 _ (aa8 _ f))).turned (h':=h') (t':=s5.toks) (it:=C) (λb o hb e=>(M.2 b hb).trans e) S.2.1 n (.inr (ac2 l.sz d)) g j,q5⟩
def B3{i:Nat}{y:Str}{sc csc:Scope}{N:a9}{elt iter:Expr}{x:Str}{px pos pos' spos:Pos}{caps:List (Str×Nat)}{wi:TI}{te:TE}(hN:X.N.Nodup)(hiy:X.N[i]?=some y)(hy:Loc X.env.scope y)(ck:oN sc csc N x caps)(hi:PI X (.Name x px) iter wi)
  (he:∀C s2 H2 fp,PE (fJ X (caps.map (·.1)++[x]) csc C s2 H2 fp) elt te) (hc:autoParam (X.aw=true) cw._auto_1) (hsc:autoParam (X.env.scope=sc) cw._auto_1) (hXN:autoParam (X.N=N) cw._auto_1) (hs:autoParam (∀x,foldedSetIterable iter X.env x=pure x) cw._auto_1)
  (hsw:autoParam (swapsWith (.ListComp elt [⟨.Name x px,iter,[],0⟩] csc pos) (some (.Name y pos')) spos.line X.env=pure true) cw._auto_1) (hf:autoParam (X.fn y=true\/X.env.scope.names.lookup y=some .local) cw._auto_1) :
  PS X (.Assign [.Name y pos'] (.ListComp elt [⟨.Name x px,iter,[],0⟩] csc pos) spos) (Bc (Qw caps wi te) (p9 i)):=zb hN hiy hy ck hi (λ_ _ _ _=>Bm) he hc hsc hXN hs hsw hf
def kc{K:W.Frag}{e:Expr}{ta:TE}{f:Str}{pos:Pos}(he:PE X e ta)(hb:attributeBase e f X.env (eval e X.env)=eval e X.env)(hK:autoParam (X.K=K) cw._auto_1):PE X (.Attribute e f pos) (U6 K ta f):=by subst hK;exact aM he hb
def Gq{K:W.Frag}(hK:X.K=K):Wg X (LP K):=by subst hK;exact aU
def Ct{K:W.Frag}(hK:X.K=K):Wg X (RW K):=by subst hK;exact aO
noncomputable def strsOf:List Expr->Option a9
 | []=>some []
 |e::r=>match e with
  |.Constant (.str x) _ _=>(strsOf r).map (x :: ·)
  |_=>none
theorem j6:∀{es:List Expr} {xs:a9},strsOf es=some xs->PA X es (λ_ H Q=>Q (xs.map V.str) H)
 | [],xs,h=>by have e:=(aa1 h).symm;subst e;exact bu
 |e::r,xs,h=>by
  unfold strsOf at h;split at h
  .rename_i x j p;obtain⟨a,b,c⟩:=D1.mp h;subst c;exact ao (te:=tC (.str x)) (t:=λ_ H Q=>Q (a.map V.str) H) aZ (j6 b) rfl
  .cases h
def q8(hi:i<n)(hl:ys.length<=i+1)(r:R):∃m',m'<n-i/\m'=n-(i+1)/\i+1<=n/\ys.length<=i+1/\R:=⟨n-(i+1),by lia,rfl,hi,hl,r⟩
def zp{K:W.Frag}(Pv:Nat->q7->Hp->Prop)(h0:Pv 0 [] H)(hn:xs.length<sizeLine)
  (hq:∀i ys H,i<=xs.length->Pv i ys H->aV K H a xs)
  (hs:∀i x ys H,xs[i]?=some x->ys.length<=i->Pv i ys H->tt (nv caps Z++[some x]) H λb H2=>if b=true then te (nv caps Z++[some x]) H2 λy H3=>∃m',m'<xs.length-i/\m'=xs.length-(i+1)/\i+1<=xs.length/\(ys++[y]).length<=i+1/\Pv (i+1) (ys++[y]) H3
   else ∃m',m'<xs.length-i/\m'=xs.length-(i+1)/\i+1<=xs.length/\ys.length<=i+1/\Pv (i+1) ys H2) (hd:∀ys H,ys.length<=xs.length->Pv xs.length ys H->∀D,H D=none->Q (.ref D) (ag H D (.lst ys))) :
  Bq (Q7 K a) caps tt te Z H Q:=by
 refine⟨λi m ys H=>m=xs.length-i/\i<=xs.length/\ys.length<=i/\Pv i ys H,⟨xs.length,by simp,Z9 _,Z9 _,h0⟩,?_⟩;rintro i m ys H ⟨rfl,d,hl,p⟩;have q:=hq i ys H d p;by_cases c:i<xs.length
 .refine .inr ⟨⟨xs,xs[i],q,by simp[c]⟩,by lia,λx f y=>?_⟩;obtain⟨e,y⟩:=y;subst e;exact hs i x ys _ (y xs q) hl p
 .have e:i=xs.length:=by lia
  subst e;exact .inl ⟨⟨xs,q,N0 _⟩,hd ys H hl p⟩
structure Kept(F ch:c6)(g h:Heap):Prop where
 keep:∀b o,g.get? b=some o->b∉F->b∉ch->h.get? b=some o
 slot:∀b o,g.get? b=some o->b∈F->b∉ch->∃sl,h.get? b=some { o with slots:=sl }
 there:∀b o,g.get? b=some o->∃u,h.get? b=some u
def Kept.trans{F c1 c2:c6}{g k:Heap}(x:Kept F c1 g h)(y:Kept F c2 h k):Kept F (c1++c2) g k where
 keep b o e n1 n2:=y.keep b o (x.keep b o e n1 λz=>n2 (aa8 _ z)) n1 λz=>n2 (Z2 _ z)
 slot b o e n1 n2:=by
  obtain⟨f,a⟩:=x.slot b o e n1 λz=>n2 (aa8 _ z);obtain⟨c,d⟩:=y.slot b _ a n1 λz=>n2 (Z2 _ z);exact⟨c,d⟩
 there b o e:=let ⟨u,a⟩:=x.there b o e;y.there b u a
def Kept.one{F:c6}{a:Addr}{o:Obj}{f:Obj->Obj}(e:h.get? a=some o)(nf:(f o).isFreed=false):Kept F [a] h (h.update a f) where
 keep b u q n1 n2:=by rw[ab0 _ _ (λz=>n2 (by simp[z]))];exact q
 slot b u q n1 n2:=⟨u.slots,by rw[ab0 _ _ (λz=>n2 (by simp[z]))];exact q⟩
 there b u q:=by
  by_cases z:b=a
  .subst z;exact⟨_,af0 _ e nf⟩
  .exact⟨u,by rw[ab0 _ _ (aa4 z)];exact q⟩
def Kept.push:Kept F [] h (h.push o) :=
 ⟨λb u q _ _=>x0 _ q,λb u q _ _=>⟨u.slots,x0 _ q⟩,λb u q=>⟨u,x0 _ q⟩⟩
def Kept.slots(x:Heap.SlotsOnly F h k):Kept F [] h k :=
 ⟨λb u q n _=>(x.2.1 b n).trans q,λb u q _ _=>x.2.2 b u q,λb u q=>let ⟨sl,e⟩:=x.2.2 b u q;⟨_,e⟩⟩
def Kept.mono(x:Kept F c1 g h)(s:∀b∈c1,b∈c2):Kept F c2 g h :=
 ⟨λb o e a c=>x.keep b o e a λz=>c (s b z),λb o e a c=>x.slot b o e a λz=>c (s b z),x.there⟩
def Kept.frame(x:Kept [] ch g h)(F:c6):Kept F ch g h :=
 ⟨λb o e _ n=>x.keep b o e (by simp) n,λb o e _ n=>⟨o.slots,x.keep b o e (by simp) n⟩,x.there⟩
def Kept.un(x:Kept F ch g h):Un F ch H H g h :=
 ⟨λb o e _ a c=>x.keep b o e a c,λb o e _ a c=>x.slot b o e a c,λ_ _ _ n _=>n,λb o e _=>x.there b o e,λ_ _ e=>e,λ_ _ _ e=>e,λb d e=>⟨#[],by rw[e];simp⟩⟩
def Kept.ba(x:Kept F ch g h)(k:lR P w H g)(hF:∀b∈F,H b=none)(hc:∀b∈ch,H b=none):lR P w H h:=λa o e=>by
 refine(k a o e).stay (λb u c q=>x.keep b u q (λz=>?_) λz=>?_) (λ_ q=>q) λ_ _ q=>q
 .rcases c with y|y
  .rw[y] at z;rw[hF a z] at e;cases e
  .rw[hF b z] at y;cases y
 .rcases c with y|y
  .rw[y] at z;rw[hc a z] at e;cases e
  .rw[hc b z] at y;cases y
section
variable {E:Value->Shared->Prop}{e:Addr}
def vq(hfr:A.frames=some (env::outer))(hl:s.heap.FunFrames ap (env::outer))(hf:env.frame=some L)
  (he:s.heap.get? e=some oe) (hd:oe.data = .fields vs) (hsz:1<vs.size)
  (h:∀(h2:Heap) (T:Addr) (oT:Obj) (ts:n7),Kept (frs (env::outer)) [e] s.heap h2->s.heap.objs.size<=T->T≠e->h2.get? e=some (oe.mapFields (·.setIfInBounds 1 (.ref T)))->h2.get? T=some oT->oT.data = .fields ts->ts[3]?=some (rawInt L)->Q () { s with heap:=h2 }) :
  wpAny M A (do let a <- frameOf env;let pl <- entryPlaceOf L hn;let b <- EntryCells.newEntry head a .none (rawInt L) .none pl;setField (.ref e) 1 b) Q E s:=by
 have p:e∉frs (env::outer):=λz=>by obtain⟨_,o,q,r⟩:=hl.mem z;rw[he] at q;cases q;exact r vs hd
 refine y0 (wpAny_frameOf_fun hfr hl hf λg1 f=>?_);have g:Kept (frs (env::outer)) [] s.heap g1:=Kept.slots f;refine y0 (wpAny_entryPlaceOf λpl c=>?_);unfold EntryCells.newEntry newFields;refine y0 (ag9 ?_ (c.sizeOk5 _ _ _ _ _));have i:g1.get? e=some oe:=g.keep e oe he p (by simp);generalize hO:({ cls:=.type "traceback",dict:=none,data:=.fields ([head,.ref L,.none,rawInt L,.none]++(if pl.isEmpty then List.replicate 6 Value.none else pl)).toArray }:Obj)=O;have j:O.data = .fields ([head,.ref L,.none,rawInt L,.none]++(if pl.isEmpty then List.replicate 6 Value.none else pl)).toArray:=by rw[<- hO]
 have d:(g1.push O).get? e=some oe:=x0 _ i;have l:=ak8 hd (·.setIfInBounds 1 (Value.ref g1.objs.size));have n:=ao0 (P2 i);refine wpAny_setField d hd hsz (h _ g1.objs.size O _ (((g.trans Kept.push).trans (Kept.one d (ah1 l))).mono (by simp)) (ap0 f.1.symm) n (af0 _ d (ah1 l)) (by rw[ab0 _ _ (aa4 n)];exact aa5 g1 (ah1 j)) j (by simp))
end
structure jH(h:Heap)(e C:Addr)(d:Option Addr)(T:Addr)(fl:Value):Prop where
 ob:∃oe vs,h.get? e=some oe/\oe.cls = .ref C/\oe.dict=d/\oe.data = .fields vs/\vs[1]?=some (.ref T)
 ne:T≠e
 tb:∃oT ts,h.get? T=some oT/\oT.data = .fields ts/\ts[3]?=some fl
def wj(h:Heap)(e C:Addr)(d:Option Addr):Prop:=∃a b,h.get? e=some a/\a.cls = .ref C/\a.dict=d/\a.data = .fields b/\b[1]?=some .none
section
variable {E:Value->Shared->Prop}{e T:Addr}{d:Option Addr}
def JD(hfr:A.frames=some (env::outer))(hl:s.heap.FunFrames ap (env::outer))(hf:env.frame=some L)(x:wj s.heap e C d)
  (h:∀(h2:Heap) (T:Addr),Kept (frs (env::outer)) [e] s.heap h2->s.heap.objs.size<=T->jH h2 e C d T (rawInt L)->Q () { s with heap:=h2 }):wpAny M A (noteFrame (.ref e) env) Q E s:=by
 obtain⟨i,j,b,h2,l,a,f⟩:=x;unfold noteFrame;simp only[hf];refine y0 (ao8 b a f ?_);rw[C5 (by decide)];have sz:=(ag4.mp f).1;refine vq hfr hl hf b a sz λg T o p k n ne q r t u=>h g T k n ⟨⟨_,_,q,by rw[Obj.cls_mapFields];exact h2,by obtain⟨c,w,v,y⟩:=i;cases v <;> exact l,ak8 a _,by simp[sz]⟩,ne,o,p,r,t,u⟩
def CC(hfr:A.frames=some (env::outer))(hl:s.heap.FunFrames ap (env::outer))(hf:env.frame=some L)(x:jH s.heap e C d T .none)
  (h:∀(h2:Heap) (T2:Addr),Kept (frs (env::outer)) [T,e] s.heap h2->s.heap.objs.size<=T2->jH h2 e C d T2 (rawInt L)->Q () { s with heap:=h2 }):wpAny M A (noteFrame (.ref e) env) Q E s:=by
 obtain⟨⟨oe,y,t,h2,B,i,u⟩,ne,R,v,a,f,w⟩:=x;unfold noteFrame;simp only[hf];refine y0 (ao8 t i u ?_);rw[w4 (by simp)];refine y0 (ao8 a f w ?_);rw[C5 (by simp[rawInt])];refine y0 (wpAny_setField a f ((ag4.mp w).1) ?_);have G:Kept (frs (env::outer)) [T] s.heap (s.heap.update T (Obj.mapFields (·.setIfInBounds 3 Value.none))):=Kept.one a (ah1 (ak8 f (·.setIfInBounds 3 Value.none)));have j:(s.heap.update T (Obj.mapFields (·.setIfInBounds 3 Value.none))).get? e=some oe:=by rw[ab0 _ _ ne];exact t
 have sz:=(ag4.mp u).1;refine vq (s:={ s with heap:=s.heap.update T (Obj.mapFields (·.setIfInBounds 3 Value.none)) }) hfr (hl.of_keeps λb o q H=>⟨o,by rw[ab0 _ _ (λz=>by rw[<- z,a] at q;cases q;exact H v f)];exact q,rfl⟩) hf j i sz λg T2 I p k n r J K N O=>h g T2 (G.trans k) (by have n:=n;rw[Heap.size_after_update] at n;exact n) ⟨⟨_,_,J,by rw[Obj.cls_mapFields];exact h2,by obtain⟨c,S,P,U⟩:=oe;cases P <;> exact B,ak8 i _,by simp[sz]⟩,r,I,p,K,N,O⟩
def jV(x:jH s.heap e C d T fl)(h:∀h2:Heap,Kept [] [T] s.heap h2->jH h2 e C d T .none->Q () { s with heap:=h2 }):wpAny M A (setFlight (.ref e) none) Q E s:=by
 obtain⟨⟨n,o,c,h2,p,g,i⟩,ne,t,q,a,j,r⟩:=x;have l:=(ag4.mp r).1;unfold setFlight;refine y0 (ao8 c g i ?_);rw[w4 (by simp)];have b:=ak8 j (·.setIfInBounds 3 ((none:Option Addr).elim Value.none λf=>rawInt f));refine wpAny_setField a j l (h _ (Kept.one a (ah1 b)) ⟨⟨n,o,by rw[ab0 _ _ ne];exact c,h2,p,g,i⟩,ne,_,_,af0 _ a (ah1 b),b,by simp[l]⟩)
def leave_new(hfr:A.frames=some (env::outer))(hl:s.heap.FunFrames ap (env::outer))(hf:env.frame=some L)(x:wj s.heap e C d)
  (h:∀(h2:Heap) (T:Addr),Kept (frs (env::outer)) [e,T] s.heap h2->s.heap.objs.size<=T->jH h2 e C d T .none->Q () { s with heap:=h2 }):wpAny M A (leaving env (.ref e)) Q E s:=by
 unfold leaving;refine y0 (JD hfr hl hf x λg T k n y=>jV (s:={ s with heap:=g }) y λa b c=>h a T (k.trans (b.frame _)) n c)
end
noncomputable def jQ(e C:Addr)(d:Option Addr):HO:=.ext λh=>∃a b,h.get? e=some a/\a.cls = .ref C/\a.dict=d/\a.data = .fields b/\1<b.size
def CD(h1:h.get? e=some oe)(h2:oe.cls = .ref C)(h3:oe.dict=d)(h4:oe.data = .fields vs)(h5:1<vs.size):dz P w H h e (jQ e C d) :=
 ⟨⟨oe,vs,h1,h2,h3,h4,h5⟩,⟨oe,h1⟩,λc f ⟨o,v,a,b⟩ k=>⟨o,v,k o a,b⟩⟩
def jH.ok(x:jH h e C d T fl):dz P w H h e (jQ e C d):=by obtain⟨i,j,a,b,c,f,g⟩:=x.ob;exact CD a b c f (ag4.mp g).1
def Kept.YC(x:Kept F ch g h)(k:lR P w H g)(hF:∀b∈F,H b=none)(hc:∀b∈ch,b=e\/H b=none)(he:H e=some (jQ e C d))(ok:dz P w H h e (jQ e C d)):lR P w H h:=λa o q=>by
 by_cases z:a=e
 .subst z;rw[he] at q;cases q;exact ok
 refine(k a o q).stay (λb u c r=>x.keep b u r (λy=>?_) λy=>?_) (λ_ r=>r) λ_ _ r=>r
 .rcases c with v|v
  .rw[v] at y;rw[hF a y] at q;cases q
  .rw[hF b y] at v;cases v
 .rcases hc b y with n|n
  .rcases c with v|v
   .exact z (v.symm.trans n)
   .rw[n,he] at v;cases v
  .rcases c with v|v
   .rw[v] at n;rw[n] at q;cases q
   .rw[n] at v;cases v
def dz.there(x:dz P w H h a o):∃ob,h.get? a=some ob:=by
 induction o with
 |lst xs=>obtain⟨_,_,_,_,e⟩:=x;exact⟨_,e⟩
 |tup xs=>obtain⟨_,_,_,p⟩:=x;obtain⟨ob,e,_⟩:=p;exact⟨ob,e⟩
 |dK kvs=>obtain⟨_,_,_,_,o,_,_,e,_⟩:=x;exact⟨o,e⟩
 |dT kvs=>obtain⟨_,_,_,_,o,_,_,e,_⟩:=x;exact⟨o,e⟩
 |set S n=>obtain⟨o,_,_,_,e,_⟩:=x;exact⟨o,e⟩
 |ins C dx fs=>obtain⟨_,_,_,e,_⟩:=x;exact⟨_,e⟩
 |own y=>exact x
 |xd fs=>obtain⟨_,⟨o,_,_,e,_⟩,_⟩:=x;exact⟨o,e⟩
 |met f y=>exact⟨_,x⟩
 |YS lo hi=>obtain⟨_,_,_,e⟩:=x;exact⟨_,e⟩
 |mC o u _=>exact⟨o,x.1⟩
 |NN ps=>exact⟨_,x⟩
 |ext φ=>exact x.2.1
def lR.new(k:lR P w H h)(e:h.get? a=none):H a=none:=by
 cases q:H a with
 |none=>rfl
 |some o =>
  obtain⟨c,b⟩:=(k a o q).there;rw[e] at b;cases b
def qX(P:Program)(w:World):vR:=λa H s E ev b=>∃e C T d c,ev = .ref e/\jH b.heap e C d T .none/\b.os=s.os/\AllBare b.gens/\Un (frs a) [] H c s.heap b.heap/\lR P w c b.heap /\
 c e=some (jQ e C d)/\c T=none/\s.heap.objs.size<=T/\s.heap.get? e=none/\E (.ref C) (some e) c
section
variable {P:Program}{K:PySem.W.Frag}{f:Addr}{cd:Value}{E:XK}
def Jy(hfs:X.fs=frs outer)(hex:X.ex=[])(hH:X.H₀=H)(hs:X.s₀=s)(hP:X.prog=P)(hw:X.w=w)(J:Inv X am Z H' s')(k:Kept (frs X.stack) ch s'.heap h2)(y:jH h2 e C d T2 .none)
  (he:H' e=some (jQ e C d)) (l2:s'.heap.objs.size<=T2) (le:s.heap.get? e=none) (hch:∀b∈ch,(b=e\/H' b=none)/\s.heap.get? b=none) (hE:E (.ref C) (some e) H'):qX P w outer H s E (.ref e) { s' with heap:=h2 }:=by
 subst hH hs hP hw;have f:∀b o,X.s₀.heap.get? b=some o->b∉ch/\b≠X.env.locals:=λb o q=>by refine⟨(λz=>by rw[(hch b z).2] at q;cases q),λz=>?_⟩;have:=J.ok.above;rw[<- z] at this;exact absurd this (Nat.not_le.mpr (P2 q))
 have j:∀b o,X.s₀.heap.get? b=some o->b∉frs outer->b∉frs X.stack:=λb o q n z=>by
  rcases Z5.mp (J.sN b z) with y|y
  .exact(f b o q).2 y
  .rw[hfs] at y;exact n y
 have a:=J.ap;rw[hfs,hex] at a;refine⟨e,C,T2,d,H',rfl,y,J.os,J.ax,⟨λb o q n g c=>k.keep b o (a.keep b o q n g c) (j b o q g) (f b o q).1,λb o q n g c=>?_,λb o q n c=>a.free b o q n c,λb o q c=>by obtain⟨u,h⟩:=a.there b o q c;exact k.there b u h,a.tups,a.pR,a.rL⟩,k.YC J.ba J.rS (λb z=>(hch b z).1) he y.ok,he,J.ba.fresh l2,ac2 J.sz l2,le,hE⟩
 .obtain⟨l,h⟩:=a.slot b o q n g c;by_cases z:b∈frs X.stack
  .obtain⟨i,p⟩:=k.slot b _ h z (f b o q).1;exact⟨i,p⟩
  .exact⟨l,k.keep b _ h z (f b o q).1⟩
def SY(I:Inv (kW (qX P w) P w K mg ap N qual scope f cd A outer s H E) am Z H1 s1)(u:wj s1.heap e C d)(he:H1 e=some (jQ e C d))(le:s.heap.get? e=none)(hE:E (.ref C) (some e) H1) :
  (kW (qX P w) P w K mg ap N qual scope f cd A outer s H E).xe (.ref e) s1:=by
 refine leave_new (ap:=ap) I.ok.frames I.stack rfl u λg h k n y=>?_;refine Jy (X:=kW (qX P w) P w K mg ap N qual scope f cd A outer s H E) rfl rfl rfl rfl rfl rfl I k y he n le (λb c=>?_) hE;simp only[Z5,ad1,an3] at c;rcases c with z|z
 .rw[z];exact⟨.inl rfl,le⟩
 .exact z▸⟨.inr (I.ba.fresh n),am7 (ac2 I.sz n)⟩
end
def Inv.W2(I:Inv X am Z H s)(k:∀b u,s.heap.get? b=some u->h'.get? b=some u)(hp:s.heap.get? a=none)(new:dz X.prog X.w (ag H a o) h' a o):Inv X am Z (ag H a o) { s with heap:=h',toks:=t' }:=by
 have ne:∀b u,s.heap.get? b=some u->b≠a:=λb u q z=>by rw[z,hp] at q;cases q
 have d:∀b u,H b=some u->b≠a:=λb u q=>au q (I.ba.new hp);refine I.un ⟨λb u q _ _ _=>k b u q,λb u q _ _ _=>⟨u.slots,k b u q⟩,λb u q n _=>by rw[aj (ne b u q)];exact n,λb u q _=>⟨u,k b u q⟩,λb e q=>by rw[aj (d b _ q)];exact q,λb u e q=>by rw[aj (d b _ q)];exact q,λb g q=>⟨#[],by rw[aj (d b _ q),q];simp⟩⟩ λb u q=>?_;by_cases z:b=a
 .subst z;rw[aa] at q;cases q;exact new
 .rw[aj z] at q;exact(I.ba b u q).stay (λc v _ r=>k c v r) (λc r=>by rw[aj (d c _ r)];exact r) λc e r=>by rw[aj (d c _ r)];exact r
noncomputable abbrev VE:c8:=[.type "ValueError",.type "Exception",.type "BaseException",.type "object"]
structure ExcAt(h:Heap)(C:Addr)(bm:c8)(Nn:Addr)(mN:g6):Prop where
 ob:∃nm q bs hdct sn sub ab col dd k0 k1 k2 k3 k5,h.get? C=some (excClassObj nm q C Nn bs bm hdct sn sub ab col dd k0 k1 k2 k3 k5 "ValueError.__new__")
 ns:h.Ns Nn mN
 tail:OwnTail h VE bm
def ExcAt.keeps(x:ExcAt h C bm Nn mN)(k:∀b o,h.get? b=some o->h2.get? b=some o):ExcAt h2 C bm Nn mN:=by obtain⟨a,c,d,f,g,i,j,l,n,p,q,r,s,t,e⟩:=x.ob;exact⟨⟨a,c,d,f,g,i,j,l,n,p,q,r,s,t,k _ _ e⟩,x.ns.keeps k,x.tail.keeps k⟩
def VZ {K:W.Frag}   (uF:K.In h) (q:W.excIn K C VE "ValueError.__new__" = true):∃bm Nn mN,ExcAt h C bm Nn mN/\mN "__init__" = none:=by
 unfold W.excIn at q;split at q;next dd cd sl look =>
  split at q;next C2 bm c0 c1 c2 c3 nn c5 f es =>
   simp only[ad4,beq_iff_eq,Bool.not_eq_true'] at q;obtain⟨⟨⟨⟨⟨g,i⟩,c⟩,j⟩,b⟩,a⟩:=q;subst g i;have d:=ai1.mp es;obtain⟨p,r,l,n,s,t,u,v,w,o,e⟩:=cd;have f:=f;have c:=c;subst f c d;exact⟨bm,n,_,⟨⟨_,_,_,_,_,_,_,_,_,_,_,_,_,_,uF _ _ look⟩,.of_isNs (W.isNs_of_in uF b),W.tail_of_in uF j⟩,W.nsMap_none_of_in uF b a⟩
  next=>cases q
 next=>cases q
section
variable {P:Program}{K:PySem.W.Frag}{f:Addr}{cd:Value}{E:XK}
def iT       (hx:W.excIn K C VE "ValueError.__new__" = true) (hg:Gl (kW (qX P w) P w K mg ap N qual scope f cd A outer s H E) x) (hm:mg x=some (.ref C))
  (ha:PA (kW (qX P w) P w K mg ap N qual scope f cd A outer s H E) (e1::es) ta) (hd:autoParam ((x == ("__debug__" : Str))=false) cw._auto_1)
  (he:autoParam (starEach (e1::es) (kW (qX P w) P w K mg ap N qual scope f cd A outer s H E).env=(false,eval e1 (kW (qX P w) P w K mg ap N qual scope f cd A outer s H E).env)::starEach es (kW (qX P w) P w K mg ap N qual scope f cd A outer s H E).env) cw._auto_1)
  (hpl:autoParam ((backTo cpos (starEach (e1::es) (kW (qX P w) P w K mg ap N qual scope f cd A outer s H E).env)).any (·.1)=false) cw._auto_1) :
  PS (kW (qX P w) P w K mg ap N qual scope f cd A outer s H E) (.Raise (some (.Call (.Name x np) (e1::es) [] cpos)) none pos) (λ_ Z H1=>ta Z H1 λvs H2=>vs.length<=sizeLine/\∀e,H2 e=none->E (.ref C) (some e) (ag H2 e (jQ e C none))):=by
 intro a p Z H1 D I h;obtain⟨bm,t,mN,d,y⟩:=VZ (h:=ap) I.ok.mod.uF hx;obtain⟨nm,q,bs,hdct,sn,sub,ab,col,dd,k0,k1,k2,k3,k5,B⟩:=d.ob;refine wpAny_Raise_call_subT F.excBase_ValueError (C:=C) (nm:=nm) (q:=q) (N:=t) (bs:=bs) (bm:=bm) (hdct:=hdct) (sn:=sn) (sub:=sub) (ab:=ab) (col:=col) (dd:=dd) (k0:=k0) (k1:=k1) (k2:=k2) (k3:=k3) (k5:=k5) (mN:=mN) (d.tail.hasType (by decide)) (I.ok.hd rfl) hpl y ?_;refine dS (jX (pos:=np) hg hm (v:=.ref C) rfl hd a p Z H1 (λv G=>v = .ref C/\G=H1) I ⟨rfl,rfl⟩) λu i  J=>?_;obtain⟨v,H2,L,r,M,O⟩:=J;subst M O;refine⟨r,?_⟩;rw[he];show wpAny _ _ (evalArgs (.ref C) true ((false,eval e1 _)::backTo cpos (starEach es _)) []) _ _ i;refine aj0 ?_;have j:=ha cpos a i Z H2 _ L h;rw[he] at j;refine dS j λus Q ⟨vs,T,b,R,sz,k⟩=>⟨rfl,R.length▸sz,b.bk _ _ B,d.ns.keeps b.bk,d.tail.keeps b.bk,λg e c=>?_⟩
 obtain⟨U,l,_,_⟩:=c.there;refine SY (b.W2 (h':=g) (t':=Q.toks) (o:=jQ e C none) c.keeps c.new (CD l rfl rfl rfl (by show 1<6;decide))) ⟨_,_,l,rfl,rfl,rfl,rfl⟩ aa ?_ (k e (b.ba.new c.new));cases z:s.heap.get? e with
 |none=>rfl
 |some o =>
  obtain⟨u,n⟩:=b.ap.there e o z (by show e∉[];simp);rw[c.new] at n;cases n
end
section
variable {E:Value->Shared->Prop}
def C8{hp:Heap}{g:Array GenState}{dr:Drawn}{tk:Nat}{os:OsState}{e Nn N2:Addr}{bm2:c8}{m2:g6}{oe:Obj}{b:Bool}{Q:Bool->Shared->Prop}(x:ExcAt hp C bm Nn mN)(y:ExcAt hp C2 bm2 N2 m2)(he:hp.get? e=some oe)(hcls:oe.cls = .ref C)
  (hb:(Value.ref C::bm).contains (.ref C2)=b) (hq:Q b ⟨hp,g,dr,tk,os⟩):wpAny M A (excMatches (.ref e) (.ref C2)) Q E ⟨hp,g,dr,tk,os⟩:=by
 obtain⟨f,h,i,j,l,n,o,p,q,r,s,t,u,v,d⟩:=x.ob;obtain⟨w,z,B,D,F,G,H,I,J,K,L,N,O,P,c⟩:=y.ob;have a:(Value.ref C2::bm2).contains (.type "BaseException")=true:=by rw[List.contains_cons,y.tail.hasType (b:=true) (by decide),Bool.or_true]
 have R:=tc_notTuple;unfold excMatches;repeat (first
  | (with_reducible refine wpAny_loadPart_at he ?_;rw[hcls])
  |with_reducible refine wpAny_loadPart_at c ?_
  | (with_reducible refine wpAny_isSubtype_exc c ?_;rw[a])
  | (with_reducible refine wpAny_isSubtype_exc d ?_;rw[hb])
  |wp_step)
 cases b <;> (try wp_walk) <;> exact hq
end
section
variable {pins':f7}
def Zw(X:Cx)(am:f7)(Th:St->Addr->Addr->Hp->Prop)(ev:Value)(s':Shared):Prop :=
 ∃e C T d Z a,ev = .ref e/\Inv X am Z a s'/\jH s'.heap e C d T .none/\a e=some (jQ e C d)/\a T=none/\X.s₀.heap.objs.size<=T/\(∀p∈X.pn++am,p.1≠T)/\Th Z C e a
noncomputable abbrev Cx.oK(X:Cx)(am:f7)(Th:St->Addr->Addr->Hp->Prop):Cx:={ X with pn:=X.pn++am,xe:=Zw X am Th }
def Cx.Ok.cast{Y:Cx}(ok:X.Ok)(h1:Y.K=X.K)(h2:Y.mg=X.mg)(h3:Y.ap=X.ap)(h4:Y.env=X.env)(h5:Y.s₀=X.s₀)(h6:Y.H₀=X.H₀)(h7:Y.outer=X.outer)(h8:Y.stack=X.stack)(h9:Y.ex=X.ex)(h10:Y.fn=X.fn)(hd:Y.aw=true->Y.A.handled=none)(hf:Y.A.frames=some Y.stack):Y.Ok:=by obtain⟨P,w,K,mg,ap,A,N,a,b,env,outer,stack,ex,fn,aw,c,d⟩:=Y;dsimp only at h1 h2 h3 h4 h5 h6 h7 h8 h9 h10;subst h1 h2 h3 h4 h5 h6 h7 h8 h9 h10;exact⟨ok.mod,ok.kind,ok.glob,ok.blt,ok.above,ok.inj,ok.has,ok.We,hd,hf,ok.stk,ok.Zk,ok.bs,ok.MT,ok.DY,ok.HK,ok.qP,ok.Rc⟩
def Inv.oK(I:Inv X am Z H s)(Th:St->Addr->Addr->Hp->Prop):Inv (X.oK am Th) [] Z H s :=
 ⟨I.ok.cast rfl rfl rfl rfl rfl rfl rfl rfl rfl rfl I.ok.hd I.ok.frames,I.os,I.ax,I.ap,I.loc,I.cell,I.free,I.je,λp a=>I.pin p (by simpa using a),I.ba,I.len⟩
def Inv.tried(I:Inv (X.oK am Th) pins' Z H s):Inv X am Z H s :=
 ⟨I.ok.cast rfl rfl rfl rfl rfl rfl rfl rfl rfl rfl I.ok.hd I.ok.frames,I.os,I.ax,I.ap,I.loc,I.cell,I.free,I.je,λp a=>I.pin p (aa8 _ a),I.ba,I.len⟩
noncomputable abbrev Cx.held(X:Cx)(e:Addr):Cx:={ X with A:=X.A.mark (some (.ref e)),aw:=false,xe:=λ_ _=>False }
def Inv.held(I:Inv X am Z H s)(e:Addr):Inv (X.held e) am Z H s :=
 ⟨I.ok.cast rfl rfl rfl rfl rfl rfl rfl rfl rfl rfl (λz=>nomatch z) I.ok.frames,I.os,I.ax,I.ap,I.loc,I.cell,I.free,I.je,I.pin,I.ba,I.len⟩
def Inv.VF(hd:X.aw=true->X.A.handled=none)(I:Inv (X.held e) am Z H s):Inv X am Z H s :=
 ⟨I.ok.cast rfl rfl rfl rfl rfl rfl rfl rfl rfl rfl hd I.ok.frames,I.os,I.ax,I.ap,I.loc,I.cell,I.free,I.je,I.pin,I.ba,I.len⟩
def zh(CX:vR)(X:Cx)(Z:St)(E:XK):Prop:=∀a H s e b,Inv X a Z H s->CX X.stack H s E e b->X.xe e b
def nH(hP:X.prog=P)(hw:X.w=w)(hE:∀C e H',E (.ref C) (some e) H'->Th Z C e H'):zh (qX P w) (X.oK am Th) Z E:=by subst hP hw;rintro a l n ev o I ⟨e,C,T,d,H',rfl,f,g,ax,un,ba,h,i,c,q,b⟩;refine⟨e,C,T,d,Z,H',rfl,(I.yR (ch:=[]) g un ba ax (by simp)).tried,f,h,i,ac2 I.sz c,λp j z=>?_,hE _ _ _ b⟩;have:=(I.tried.pin p j).1;have:=P2 this;rw[z] at this;exact absurd c (Nat.not_le.mpr this)
end
section
variable {e T T2:Addr}{d:Option Addr}
def Inv.zl(I:Inv X am Z H s)(q:s.heap.get? T=some o)(z:o.data = .fields vs):T≠X.env.locals/\∀x c,X.env.cells.lookup x=some c->c≠T:=by
 obtain⟨m,⟨f,g,h,d,e,_⟩,_⟩:=I.loc;refine⟨λy=>?_,λx c l y=>?_⟩
 .rw[y,d] at q;cases q;rw[e] at z;cases z
 .obtain⟨v,i,a,b⟩:=I.cell x c l;rw[y,q] at a;cases a;rw[z] at b;cases b
def Inv.noted(hst:X.stack=X.env::X.outer)(I:Inv X am Z H s)(fl:jH s.heap e C d T .none)(he:H e=some (jQ e C d))(hT:H T=none)(lT:X.s₀.heap.objs.size<=T)(pT:∀p∈X.pn++am,p.1≠T)
  (k:Kept (frs (X.env::X.outer)) [T,e] s.heap h2) (y:dz X.prog X.w H h2 e (jQ e C d)):Inv X am Z H { s with heap:=h2 }:=by
 rw[<- hst] at k;obtain⟨t,u,i,j,_⟩:=fl.tb;obtain⟨l,r⟩:=I.zl i j;have c:∀b,H b=none->b∉[T]->b∉[T,e]:=λb a z w=>by
  simp only[Z5,ad1,an3] at z w;rcases w with w|w
  .exact z w
  .rw[w,he] at a;cases a
 refine I.yR (s':={ s with heap:=h2 }) (ch:=[T]) rfl ⟨λb o q f g h=>k.keep b o q g (c b f h),λb o q f g h=>k.slot b o q g (c b f h),λ_ _ _ n _=>n,λb o q _=>k.there b o q,λ_ _ q=>q,λ_ _ _ q=>q,λb v q=>⟨#[],by rw[q];simp⟩⟩ ?_ I.ax (by intro b a;rw[B1.mp a];exact⟨.inr lT,l,r,pT⟩)
 .refine k.YC I.ba I.rS (λb a=>?_) he y;simp only[Z5,ad1,an3] at a;rcases a with z|z
  .exact z▸.inr hT
  .exact .inl z
def Inv.Oz(I:Inv X am Z H s)(q:s.heap.get? T=some o)(z:o.data = .fields vs)(hT:H T=none)(lT:X.s₀.heap.objs.size<=T)(pT:∀p∈X.pn++am,p.1≠T)(k:Kept [] [T] s.heap h2):Inv X am Z H { s with heap:=h2 }:=by
 obtain⟨c,d⟩:=I.zl q z;refine I.yR (s':={ s with heap:=h2 }) (ch:=[T]) rfl (k.frame _).un (k.ba I.ba (by simp) λb a=>by rw[B1.mp a];exact hT) I.ax λb a=>by rw[B1.mp a];exact⟨.inr lT,c,d,pT⟩
end
def Pg(X:Cx)(C C2:Addr):Prop:=∃a b c,ExcAt X.ap C a b c/\(Value.ref C::a).contains (.ref C2)=true
section
variable {k:Nat}{f:Addr}{dvs:q7}{ds:c8}{x m:Str}{p:Pos}{e o:Expr}{ta:TE}{t:TA}
abbrev Yu(CX:vR)(X:Cx)(sp:Sp)(Z:St)(vs:q7)(H:Hp)(Q:VK):Prop:=∃E,zh CX X Z E/\sp vs H Q E
def yF(F:bE X.prog X.w X.K X.mg X.ap CX k f fd ps sp)(hr:gI k X.A)(hb:Binds X.K fd ps ds)(hd:Vals dvs ds)
  (I:Inv X am Z H s) (r:Vals vs us) (h:Yu CX X sp Z (vs++dvs) H Q):wpAny (model X.prog X.w) X.A (call (.ref f) us) (EP X am Z Q) X.xe s:=by
 obtain⟨E,b,h⟩:=h;have a:=r.append hd;refine wpAny_call (codeAny_mono (F.run X.A X.stack s H ⟨us,[]⟩ _ _ Q E hr I.Uy (hb s us I.uG ((F.len _ _ _ _ h ▸ a.length).symm)) a h) λy c hq=>?_);match y,hq with
 |.error ev,hq=>exact b am H s ev c I hq
 |.ok (.ret _),hq=>exact I.after hq
def E9(CX:vR)(X:Cx)(C:Addr)(m:Str)(sp:Sp)(dvs:q7)(ta:TE)(t:TA):TE:=λZ H Q=>ta Z H λx a=>YX C m x a (t Z a λb c=>Yu CX X sp Z (x::(b++dvs)) c Q)
end
section
variable {P:Program}{K:PySem.W.Frag}
def dI.Ma{st:Stmt}(F:dI K x qual st f fd)(S:aI N ps (az st))(len:∀vs H Q E,sp vs H Q E->vs.length=ps.length)
  (hbody:∀(cdv:Value) (A:Around) (outer:List Env) (s:Shared) (H:Hp) (vs:q7) (Q:VK) (E:XK),gI k (A.deeper (envOfC qual (az st) s.heap.objs.size f cdv))->sp vs H Q E ->
   At (kW (qX P w) P w K mg ap N qual (az st) f cdv A outer s H E) { nx:=λ_ H'=>Q .dj H',rt:=Q } (nP st) (start N vs) H):bE P w K mg ap (qX P w) (k+1) f fd ps sp:=by
 obtain⟨g,h,kV,c,i,j,cdv,l,d,rfl,e,a⟩:=F.ex;exact Qu e a S len λA outer s H vs Q E hr b=>wm (hbody cdv A outer s H vs Q E hr b)
end
end L2
namespace L2
open PySem PySem.Spec PyProof.Rows PySem.W
structure qL(K:Frag)(C:Addr):Prop where
 ga:findIn K (.ref C) "__getattribute__" = some (some (.builtin "BaseException.__getattribute__"))
 gh:findIn K (.ref C) "__getattr__" = some none
 sub:mroIn K C (.type "BaseException")=some true
def AV(K:Frag)(C:Addr):Bool :=
 match K.lookup C with
 |some ⟨.type "type",_,.cls cd,sl⟩ =>
  match cd.mro,sl.toList with
  |.ref D::r,[_,_,_,_,some (.builtin m),_]=>(D == C && m == "ValueError.__new__") && (!cd.hasDel && (tailIn K VE r && nsOkIn K cd.ns))
  |_,_=>false
 |_=>false
def MP{K:Frag}(uF:K.In h)(q:AV K C=true):∃bm Nn mN,ExcAt h C bm Nn mN:=by
 unfold AV at q;split at q;next dd cd sl look =>
  split at q;next D r c0 c1 c2 c3 m c5 e es =>
   simp only[ad4,beq_iff_eq,Bool.not_eq_true'] at q;obtain⟨⟨f,g⟩,a,i,b⟩:=q;subst f g;have c:=ai1.mp es;obtain⟨o,p,j,l,s,t,u,v,w,n,d⟩:=cd;have e:=e;have a:=a;subst e a c;exact⟨r,l,_,⟨_,_,_,_,_,_,_,_,_,_,_,_,_,_,uF _ _ look⟩,.of_isNs (isNs_of_in uF b),tail_of_in uF i⟩
  next=>cases q
 next=>cases q
structure Tf(K:Frag)(C:Addr):Prop where
 at_:AV K C=true
 ge:qL K C
 sa:findIn K (.ref C) "__setattr__" = some (some (.builtin "object.__setattr__"))
 ob:mroIn K C (.type "object")=some true
 hd:hasDictIn K C=true
section
variable {o ex:Expr}{f:Str}{ta tv:TE}
structure Dq(K:Frag)(C:Addr):Prop extends Tf K C where
 ca:findIn K (.ref C) "__class__" = some (some (.builtin "object.__class__"))
 cg:specialIn K (.builtin "object.__class__") "__get__" = some (some (.builtin "getset_descriptor.__get__"))
 ct:takesIn K (.builtin "object.__class__")=some true
end
def EE(uF:X.K.In X.ap)(q:AV X.K C=true)(m:mroIn X.K C (.ref C2)=some true):Pg X C C2:=by
 unfold AV at q;split at q;next dd cd sl look =>
  split at q;next D r c0 c1 c2 c3 mm c5 f es =>
   simp only[ad4,beq_iff_eq,Bool.not_eq_true'] at q;obtain⟨⟨g,h⟩,a,i,b⟩:=q;subst g h;have c:=ai1.mp es;have d:cd.mro.contains (.ref C2)=true:=by
    unfold mroIn clsIn at m;rw[look] at m;simp only[an2] at m;split at m
    .cases m
    .exact aa1 m
   obtain⟨o,p,j,l,s,t,u,v,w,n,e⟩:=cd;have f:=f;have a:=a;subst f a c;exact⟨r,l,_,⟨⟨_,_,_,_,_,_,_,_,_,_,_,_,_,_,uF _ _ look⟩,.of_isNs (isNs_of_in uF b),tail_of_in uF i⟩,d⟩
  next=>cases q
 next=>cases q
end L2
namespace L2
open PySem PySem.Spec PyProof.Rows
def qV(xs ys:q7):Prop:=∀x∈xs,∀y∈ys,jy x=true/\jy y=true/\D0 x y=decide (x=y)
def rF(p:qV xs ys)(r1:Vals xs is)(r2:Vals ys js) :
  ∀j (h1:j<is.toArray.size) (h2:j<js.toArray.size),SeqAt.EqAt A s is.toArray[j] js.toArray[j] ((λj=>decide (xs[j]?=ys[j]?)) j):=by
 intro j h1 h2;have c:j<xs.length:=by simpa [r1.length] using h1
 have d:j<ys.length:=by simpa [r2.length] using h2
 have f:=i4 c;have g:=i4 d;obtain⟨u1,l,n⟩:=r1.get f;obtain⟨u2,o,q⟩:=r2.get g;have a:is.toArray[j]=u1:=by simpa [d6] using (d6.mp l).2
 have b:js.toArray[j]=u2:=by simpa [d6] using (d6.mp o).2
 rw[a,b];obtain⟨r,t,u⟩:=p _ (ag2 c) _ (ag2 d);have:=Ax (A:=A) (s:=s) n q r t;rw[u] at this;have e:decide (xs[j]?=ys[j]?)=decide (xs[j]=ys[j]):=by rw[f,g];simp
 show SeqAt.EqAt A s u1 u2 (decide (xs[j]?=ys[j]?));exact e▸this
def yL(h:xs.length=ys.length):((List.range xs.length).all λj=>decide (xs[j]?=ys[j]?))=decide (xs=ys):=by
 rw[af5,aj9,ac4];constructor
 .intro z;refine aj3 λj=>?_;by_cases a:j<xs.length
  .simpa using z j (am9.mpr a)
  .rw[ad7 (by lia),ad7 (by lia)]
 .intro z j _;rw[z];simp
inductive Yy(K:W.Frag):V->V->Hp->VK->Prop|mk{a b xs ys:_}{H Q:_}(_:aV K H a xs)(_:aV K H b ys)(_:qV xs ys)(_:Q (.bl (!decide (xs=ys))) H):Yy K (.ref a) (.ref b) H Q
def lW(hu:X.A.units<cLine):mL X (compareOp .NotEq) (Yy X.K):=by
 intro f s Z H x y v u Q I G J h;obtain@⟨a,b,c,g,_,_,L,M,N,q⟩:=h;cases G;cases J;obtain⟨O,i,P,_⟩:=I.list L;obtain⟨S,l,R,_⟩:=I.list M;obtain⟨n,o,p,r,_,t⟩:=P;obtain⟨w,B,C,D,_,E⟩:=R;have d:=i.length;have F:=l.length;by_cases hl:c.length=g.length
 .refine SeqAt.RcNeAt.lists (e:=λj=>decide (c[j]?=g[j]?)) ⟨n,p,r,o,t⟩ ⟨w,C,D,B,E⟩ (by simp[<- d,<- F,hl]) hu (rF N i l) _ _ _ _ ?_;have z:O.toArray.size=c.length:=by simp[<- d]
  rw[z,yL hl];exact⟨.bl _,H,I,rfl,q⟩
 .refine SeqAt.RcNeAt.lists_lengths ⟨n,p,r,o,t⟩ ⟨w,C,D,B,E⟩ (by simpa [<- d,<- F] using hl) hu _ _ _ _ ?_;rw[ab2 (λz=>hl (by rw[z]))] at q;exact⟨.bl true,H,I,rfl,q⟩
def AY{α β:Type}(f:α->Int)(g:β->Int)(xs:List α)(ys:List β):qV (xs.map λx=>V.int (f x)) (ys.map λy=>V.int (g y)):=by intro x c y d;obtain⟨a,_,rfl⟩:=aa9.mp c;obtain⟨b,_,rfl⟩:=aa9.mp d;refine⟨rfl,rfl,?_⟩;show (f a == g b)=_;rw[af5];simp
def pG(xs ys:a9):qV (xs.map V.str) (ys.map V.str):=by intro x c y d;obtain⟨a,_,rfl⟩:=aa9.mp c;obtain⟨b,_,rfl⟩:=aa9.mp d;refine⟨rfl,rfl,?_⟩;show (a == b)=_;rw[af5];simp
def jM(K:W.Frag)(H:Hp):Nat->V->V->Prop
 |0,x,y=>x=y/\(jy x=true\/∃a,x = .ref a)
 |n+1,x,y=>(x=y/\(jy x=true\/∃a,x = .ref a))\/∃a b xs ys,x = .ref a/\y = .ref b/\((aV K H a xs/\aV K H b ys)\/(bT K H a xs/\bT K H b ys))/\xs.length=ys.length/\∀(j:Nat) (x y:V),xs[j]?=some x->ys[j]?=some y->jM K H n x y
def gG(ih:∀(x y:V) (u v:Value),RelV x u->RelV y v->jM X.K H n x y->SeqAt.EqAt A s u v true)(r1:Vals xs is)(r2:Vals ys js)(h:∀(j:Nat) (x y:V),xs[j]?=some x->ys[j]?=some y->jM X.K H n x y) :
  ∀j (h1:j<is.toArray.size) (h2:j<js.toArray.size),SeqAt.EqAt A s is.toArray[j] js.toArray[j] ((λ_=>true) j):=by
 intro j h1 h2;have c:j<xs.length:=by simpa [r1.length] using h1
 have d:j<ys.length:=by simpa [r2.length] using h2
 obtain⟨u1,g,i⟩:=r1.get (i4 c);obtain⟨u2,l,o⟩:=r2.get (i4 d);have a:is.toArray[j]=u1:=by simpa [d6] using (d6.mp g).2
 have b:js.toArray[j]=u2:=by simpa [d6] using (d6.mp l).2
 exact a▸b▸ih _ _ _ _ i o (h j _ _ (i4 c) (i4 d))
def Cs(rx:RelV x u)(ry:RelV x v)(h:jy x=true\/∃a,x = .ref a):SeqAt.EqAt A s u v true:=by
 rcases h with f|⟨a,rfl⟩
 .have:=Ax (A:=A) (s:=s) rx ry f f;rwa [JY f] at this
 .cases rx;cases ry;exact SeqAt.EqAt.same _
theorem oh(I:Inv X am Z H s):∀(n:Nat) (A:Around) (x y:V) (u v:Value),A.units+n<cLine->RelV x u->RelV y v->jM X.K H n x y->SeqAt.EqAt A s u v true
 |0,A,x,y,u,v,_,rx,ry,⟨e,f⟩=>by subst e;exact Cs rx ry f
 |n+1,A,x,y,u,v,hu,rx,ry,h=>by
  rcases h with ⟨e,f⟩|⟨a,b,xs,ys,rfl,rfl,hs,hl,hj⟩
  .subst e;exact Cs rx ry f
  .cases rx;cases ry;by_cases ne:a=b
   .subst ne;exact SeqAt.EqAt.same _
   have ih:=λx y u v=>oh I n A.in1 x y u v (by show A.units+1+n<cLine;lia);rcases hs with ⟨j,l⟩|⟨j,l⟩
   .obtain⟨c,d,o,_⟩:=I.list j;obtain⟨i,g,p,_⟩:=I.list l;obtain⟨q,r,t,w,_,B⟩:=o;obtain⟨C,D,E,F,_,G⟩:=p;have sz:c.toArray.size=i.toArray.size:=by simp[<- d.length,<- g.length,hl]
    have:=SeqAt.EqAt.of_refs ne (SeqAt.RcAt.lists ⟨q,t,w,r,B⟩ ⟨C,E,F,D,G⟩ sz (by lia) (gG ih d g hj));rwa [(aj9.mpr λ_ _=>rfl)] at this
   .obtain⟨c,d,o,_⟩:=I.tuple j;obtain⟨i,g,p,_⟩:=I.tuple l;obtain⟨q,t,w,r,B⟩:=o;obtain⟨C,E,F,D,G⟩:=p;have:=SeqAt.EqAt.of_refs ne (SeqAt.RcAt.tuples ⟨q,t,w,r,B⟩ ⟨C,E,F,D,G⟩ (by lia) (gG ih d g hj));have z:(((List.range (min c.toArray.size i.toArray.size)).all λ_=>true) && c.toArray.size == i.toArray.size)=true:=by simp[<- d.length,<- g.length,hl]
    rwa [z] at this
inductive Zq(K:W.Frag)(n:Nat)(x:V)(y:V)(H:Hp)(Q:VK):Prop|mk(a b xs ys)(_:x = .ref a)(_:y = .ref b)(_:((aV K H a xs/\aV K H b ys)\/(bT K H a xs/\bT K H b ys)))(_:xs.length=ys.length)(_:(∀(j:Nat) (x y:V),xs[j]?=some x->ys[j]?=some y->jM K H n x y))(_:Q (.bl false) H)
def UL(n:Nat)(hu:X.A.units+(n+1)<cLine):mL X (compareOp .NotEq) (Zq X.K n):=by
 intro J s Z H x y v u Q I N O h;obtain⟨a,b,R,S,rfl,rfl,P,hl,L,q⟩:=h;cases N;cases O;have M:=λx y u v=>oh I n X.A.in1 x y u v (by show X.A.units+1+n<cLine;lia);rcases P with ⟨g,i⟩|⟨g,i⟩
 .obtain⟨f,c,j,_⟩:=I.list g;obtain⟨l,d,o,_⟩:=I.list i;obtain⟨p,r,t,w,_,B⟩:=j;obtain⟨C,D,E,F,_,G⟩:=o;refine SeqAt.RcNeAt.lists (e:=λ_=>true) ⟨p,t,w,r,B⟩ ⟨C,E,F,D,G⟩ (by simp[<- c.length,<- d.length,hl]) (by lia) (gG M c d L) _ _ _ _ ?_;rw[(aj9.mpr λ_ _=>rfl)];exact⟨.bl false,H,I,rfl,q⟩
 .obtain⟨f,c,j,_⟩:=I.tuple g;obtain⟨l,d,o,_⟩:=I.tuple i;obtain⟨p,t,w,r,B⟩:=j;obtain⟨C,E,F,D,G⟩:=o;refine SeqAt.RcNeAt.tuples (e:=λ_=>true) ⟨p,t,w,r,B⟩ ⟨C,E,F,D,G⟩ (by lia) (gG M c d L) _ _ _ _ ?_;have z:(((List.range (min f.toArray.size l.toArray.size)).all λ_=>true) && f.toArray.size == l.toArray.size)=true:=by simp[<- c.length,<- d.length,hl]
  rw[z];exact⟨.bl false,H,I,rfl,q⟩
def hu4(hr:gI k A):A.units+4<cLine:=ak7 (an7 (by decide:4<=64) _) hr.units
end L2
namespace PySem
namespace F
def DE:typeLookup (.type "list_reverseiterator") "__len__" = pure none:=by rw[typeLookup_type,builtinLookup_eq_fast];kernel_rfl
def HF:typeLookup (.type "list_reverseiterator") "__length_hint__" = pure (some (.builtin "list_reverseiterator.__length_hint__")):=by rw[typeLookup_type,builtinLookup_eq_fast];kernel_rfl
end F
section
variable {R:Result->Shared->Prop}
variable {I:Addr}{wr:c6}{G:Array GenState->Array GenState->Prop}{n:Nat}{P:Nat->Value->Prop}{St:Nat->Shared->Prop}
def AD (W:WalksS prog w A.in1 I fp wr G n P St) (hT:∀i s,St i s->s.TypeIs (.ref I) "list_reverseiterator") (S:Addr) (res:Value) (c₀:Nat) (hst:St 0 s) (hSf:S∉fp) (hI:I∈fp)
  (hS:s.heap.get? S=some { cls:=.type "list",data:=.seq #[] c₀ })
  (hR:∀s' acc' c',Moved (S::wr) G s s'->s'.heap.get? S=some { cls:=.type "list",dict:=none,data:=.seq acc' c',slots:=#[] }->ItemsOf P acc' n->R (.ok (.ret res)) s') (hn:n<=sizeLine) :
  wpAny (model prog w) A.in1 (Builtin.List.listExtendWith (.ref S) (.ref I) res)
   (λfin s'=>match fin with | .done f=>R (.ok f) s' | .again c'=>c'.quiet=true/\codeAny (model prog w) A c' R s') (λe s'=>R (.error e) s') s:=by
 have c:S≠I:=λe=>hSf (e ▸ hI);unfold Builtin.List.listExtendWith;refine y0 (wpAny_typeOf (hT 0 _ hst) ?_);have g:Builtin.List.listSameRef (.ref S) (.ref I)=false:=by simp[Builtin.List.listSameRef,c]
 rw[C5 (by rw[g];decide)];refine y0 (W.self 0 _ _ _ hst ?_);refine y0 (ae9 ?_);unfold Builtin.List.listLengthHint;refine y0 (wpAny_specialOf (hT 0 _ hst) F.DE ?_);show wpAny _ A.in1 (specialOf (Value.ref I) (Str.ofString "__length_hint__") >>= _) _ _ _;refine y0 (wpAny_specialOf (hT 0 _ hst) F.HF ?_)
 (generalize hid:("list_reverseiterator.__length_hint__" : String)=id0;(fail_if_success (clear hid id0));wp_delta;rw[show splitId id0=some ("list_reverseiterator","__length_hint__") from by subst hid;lk];subst hid)
 refine y0 (wpAny_isInstance (b:=true) (hT 0 _ hst) (by rw[isSubtype_type];kernel_rfl) ?_);refine X2 ?_;rw[C5 (by decide)];refine X2 ⟨am5 F.plain_extend_loop _,codeAny_extend_loopS W hn _ hSf _ n 0 _ _ _ rfl (Z9 _) hst hS (ItemsOf.nil P) λs' acc' c' h d a=>?_⟩;exact hR s' acc' c' h d a
def GU (W:WalksS prog w A.in1 I fp wr G n P St) (hT:∀i s,St i s->s.TypeIs (.ref I) "list_reverseiterator") (S:Addr) (hst:St 0 s) (hSf:S∉fp) (hI:I∈fp)
  (hS:s.heap.get? S=some { cls:=.type "list",data:=.seq #[] })
  (hR:∀s' acc' c',Moved (S::wr) G s s'->s'.heap.get? S=some { cls:=.type "list",dict:=none,data:=.seq acc' c',slots:=#[] }->ItemsOf P acc' n->R (.ok (.ret .none)) s') (hn:n<=sizeLine) :
  wpAny (model prog w) A.in1 (Builtin.«list.__init__» ⟨[.ref S,.ref I],[]⟩)
   (λfin s'=>match fin with | .done f=>R (.ok f) s' | .again c'=>c'.quiet=true/\codeAny (model prog w) A c' R s') (λe s'=>R (.error e) s') s:=by
 show wpAny _ A.in1 (Builtin.List.listItems (.ref S) >>= λg=>Builtin.List.listUpdate (.ref S) (λ_=>#[]) >>= λ_=>letGo g.toList.reverse >>= λ_=>Builtin.List.listExtendWith (.ref S) (.ref I) .none) _ _ s;refine y0 ?_;unfold Builtin.List.listItems;refine y0 (wpAny_seqItems hS rfl (X2 ?_));show wpAny _ A.in1 (updateSeq S (λ_=>#[]) >>= λ_=>letGo (#[]:n7).toList.reverse >>= λ_=>Builtin.List.listExtendWith (.ref S) (.ref I) .none) _ _ s;refine y0 (wpAny_updateSeq hS rfl ?_);have a:∀b o,b≠S->s.heap.get? b=some o->(s.heap.update S (Obj.mapSeq (λ_=>(#[]:n7)))).get? b=some o :=
  λb o c e=>(ab0 _ _ (aa4 c)).trans e
 refine y0 (wpAny_letGo ?_);refine AD (hn:=hn) W hT S .none _ (W.frame 0 s _ s.toks hst (N0 _) λb c o e=>a b o (λh=>hSf (h ▸ c)) e) hSf hI (af0 (Obj.mapSeq (λ_=>(#[]:n7))) hS rfl) λs' acc' c' p l d=>?_;exact hR s' acc' c' (Moved.trans W.gtrans ((Moved.refl W.grefl).then_heap (N0 _) λb o c e=>a b o (λh=>c (h ▸ ab7)) e) p) l d
end
section
variable {E:Value->Shared->Prop}
def uM(hh:A.handled=none)(hne:l≠I)(hi:s.heap.IsRevIter I l ((items.size:Int)-1))(hl:s.heap.IsList l items)(hn:items.size<=sizeLine)
  (hQ:∀h' tk acc' c',(∀b o,b≠I->s.heap.get? b=some o->h'.get? b=some o)->h'.get? s.heap.objs.size=some { cls:=.type "list",dict:=none,data:=.seq acc' c',slots:=#[] } ->
   ItemsOf (λi v=>items[items.size-1-i]?=some v) acc' items.size->Q (.ref s.heap.objs.size) { s with heap:=h',toks:=tk }) :
  wpAny (model prog w) A (call (.type "list") [.ref I]) Q E s:=by
 have W:=(Walks.listRev (prog:=prog) (w:=w) (A:=A.in1.in1) hh I l hne items).toS;have r:I<s.heap.objs.size:=by obtain⟨_,e,_⟩:=hi;exact P2 e
 have t:l<s.heap.objs.size:=by obtain⟨_,e,_⟩:=hl;exact P2 e
 have f:s.heap.objs.size∉[I,l]:=λz=>by
  rcases Z5.mp z with e|e
  .exact ao0 r e
  .exact ao0 t (B1.mp e)
 refine callType_codes (Q₁:=λa j=>a = .ref s.heap.objs.size/\j = { s with heap:=s.heap.push { cls:=.type "list",data:=.seq #[] } }) F.called_list (F.typeCall_list_1 _) F.entry_list_init
  (code_list_new _ ⟨rfl,rfl⟩) λa j u=>?_
 obtain⟨rfl,rfl⟩:=u;have n:(s.heap.push { cls:=.type "list",data:=.seq #[] }).get? s.heap.objs.size=some { cls:=.type "list",data:=.seq #[] }:=aa5 _ rfl;refine⟨⟨_,n,rfl⟩,F.args_list_init_2 _ _,GU (A:=A.in1) (hn:=hn) W (λi s x=>x.2.1.typeIs) _ (W.frame 0 s _ s.toks ⟨Z9 _,by simpa using hi,hl⟩ (N0 _) λb _ o e=>x0 _ e) f (by simp) n λp acc' c' q h c=>?_⟩;rw[Moved.eq_with q];refine⟨rfl,hQ p.heap p.toks acc' c' (λb o y e=>?_) h c⟩;refine q.heap b o (λd=>?_) (x0 _ e);rcases Z5.mp d with z|z
 .exact absurd (P2 e) (z▸ah0 _)
 .exact y (B1.mp z)
end
end PySem
namespace L2
open PySem PySem.Spec PyProof.Rows
def Inv.K4(I:Inv X am Z H s)(k:∀b o,b∉ch->s.heap.get? b=some o->h'.get? b=some o)(hn:∀b∈ch,H b=none)
  (hL:∀b∈ch,b≠X.env.locals) (h1:∀b∈ch,b∈X.ex\/X.s₀.heap.objs.size<=b) (h2:∀b∈ch,∀x c,X.env.cells.lookup x=some c->c≠b) (h3:∀b∈ch,∀p∈X.pn++am,p.1≠b) :
  Inv X am Z H { s with heap:=h',toks:=t' }:=by
 have d:∀b u,H b=some u->b∉ch:=λb u e z=>by rw[hn b z] at e;cases e
 refine I.step (g':=s.gens) (d':=s.drawn) (ch:=ch) (λb f=>⟨h1 b f,hL b f,h2 b f,h3 b f⟩) (λb o _ _ a e _=>k b o a e) (λb o _ _ a e _=>⟨o.slots,k b o a e⟩) (λ_ _ _ _ n=>n)
  (λb o a e=>⟨o,k b o a e⟩) (λ_ _ e=>e) (λ_ _ _ e=>e) (λb l e=>⟨#[],by rw[e];simp⟩) (λm g=>?_) (λb u e=>?_) I.ax
 .obtain⟨o,h,i,j,r⟩:=g;exact⟨o,h,i,k _ o (λz=>hL _ z rfl) j,r⟩
 .refine(I.ba b u e).stay (λc v a q=>k c v ?_ q) (λ_ q=>q) λ_ _ q=>q;rcases a with z|z
  .exact z▸d b u e
  .exact d c _ z
def Zi(K:W.Frag)(a b:Addr):It :=
 ⟨λi H=>∃c d x y,aV K H a c/\aV K H b d/\c[i]?=some x/\d[i]?=some y,
  λi H x e=>∃p v u,H p=none/\x = .ref p/\e=ag H p (.tup [v,u])/\(∀c,aV K H a c->c[i]?=some v)/\∀d,aV K H b d->d[i]?=some u,
  λi H=>∃c d,aV K H a c/\aV K H b d/\(c.length<=i\/d.length<=i)⟩
def KY{P:Program}{K:W.Frag}{x1}(a b z TI TO i1 i2:Addr)(D:ZipApart z TI TO i1 i2 a b) :
  Turn P w K (.Tuple elts x1 pos) (Zi K a b) [z,TI,TO,i1,i2] z (λi h=>∃v u,IsZip h z TI TO .none/\IsPair h TI (.ref i1) (.ref i2)/\IsPair h TO v u/\h.IsListIter i1 a i/\h.IsListIter i2 b i) where
 mem:=by simp
 obj:=λi h A c j=>by
  obtain⟨v,u,p,t,B,C,F⟩:=A;simp only[Z5,ad1,an3] at j;rcases j with e|e|e|e|e
  .subst e;exact⟨_,p,λv q=>by cases q⟩
  .subst e;exact⟨_,t,λv q=>by cases q⟩
  .subst e;exact⟨_,B,λv q=>by cases q⟩
  .subst e;obtain⟨o,e,c,d⟩:=C;exact⟨o,e,λv q=>by rw[d] at q;cases q⟩
  .subst e;obtain⟨o,e,c,d⟩:=F;exact⟨o,e,λv q=>by rw[d] at q;cases q⟩
 keep:=λi h h' A k=>by obtain⟨v,u,p,t,B,C,F⟩:=A;exact⟨v,u,k z (by simp) _ p,k TI (by simp) _ t,k TO (by simp) _ B,C.at λo q=>k i1 (by simp) o q,F.at λo q=>k i2 (by simp) o q⟩
 item:=by
  intro X R S T j i L s Z H E I l A U;subst R S T;obtain⟨v0,u0,p,t,B,C,F⟩:=A;obtain⟨xs,O,x,y,G,J,Q,hy⟩:=U;obtain⟨is,Y,p1,z1⟩:=I.list G;obtain⟨js,r2,p2,z2⟩:=I.list J;obtain⟨u,hu,ru⟩:=Y.get Q;obtain⟨v,hv,rv⟩:=r2.get hy;refine wpAny_pyNext_zip_item D p t B C F p1.isList p2.isList (x:=u) (y:=v) (by simpa using hu) (by simpa using hv) λg1 gz gO ga gb gT hsz hk=>?_;refine⟨_,rfl,wpAny_letOwnedTupleGo_zip (s:={ s with heap:=g1 }) gz λg2 en M=>?_⟩;have lz:=Z6 (P2 p);have lI:=Z6 (P2 t);have lO:=Z6 (P2 B);have l1:i1≠s.heap.objs.size:=by obtain⟨o,q,_⟩:=C;exact Z6 (P2 q)
  have l2:i2≠s.heap.objs.size:=by obtain⟨o,q,_⟩:=F;exact Z6 (P2 q)
  have N:∀c o,c∉[z,TI,TO,i1,i2]->s.heap.get? c=some o->g2.get? c=some o:=λc o n q=>by simp only[Z5,ad1,an3,not_or] at n;exact(M.2 c n.1).trans (hk c o n.1 n.2.2.1 n.2.2.2.1 n.2.2.2.2 q)
  have fresh:=I.ba.fresh (N0 s.heap.objs.size);have I1:Inv X L Z (ag H s.heap.objs.size (.tup [x,y])) { s with heap:=g2 }:=by
   refine I.step (g':=s.gens) (d':=s.drawn) (t':=s.toks) (ch:=[z,TI,TO,i1,i2]) (λb g=>by have f:=l b g;exact⟨f.2.2.2.1,f.2.1,f.2.2.2.2.1,f.2.2.2.2.2⟩) (λb o _ _ j q _=>N b o j q) (λb o _ _ j q _=>⟨o.slots,N b o j q⟩) (λb o j q n=>by rw[aj (Z6 (P2 q))];exact n) (λb o j q=>⟨o,N b o j q⟩) (λb O q=>by rw[aj (au q fresh)];exact q) (λb o O q=>by rw[aj (au q fresh)];exact q) (λb ps q=>⟨#[],by rw[aj (au q fresh),q];simp⟩) (λm hm=>by obtain⟨o,es,ep,ho,r⟩:=hm;refine⟨o,es,ep,N _ o (λn=>?_) ho,r⟩;exact(l _ n).2.1 rfl) (λb u' q=>?_) I.ax
   .by_cases g:b=s.heap.objs.size
    .subst g;rw[aa] at q;cases q;refine⟨by show 2<=sizeLine;decide,[u,v],.cons ru (.cons rv .nil),⟨_,(M.2 _ (aa4 lz)).trans gT,rfl,_,rfl⟩⟩
    .rw[aj g] at q;refine(I.ba b u' q).stay (λc v hc' r=>N c v (λn=>?_) r) (λc r=>by rw[aj (au r fresh)];exact r) λc O r=>by rw[aj (au r fresh)];exact r
     have n0:=(l c n).1;rcases hc' with e|e
     .rw[e] at n0;rw[n0] at q;cases q
     .rw[n0] at e;cases e
  refine⟨.ref s.heap.objs.size,_,I1,rfl,⟨_,x,y,fresh,rfl,rfl,λzs hs=>by rw[I.qf hs G];exact Q,λzs hs=>by rw[I.qf hs J];exact hy⟩,⟨u,v,en,(M.2 TI D.TIz).trans (hk _ _ D.TIz D.TITO D.TIi1 D.TIi2 t),(M.2 TO D.TOz).trans gO,by obtain⟨o,q,r⟩:=ga;exact⟨o,(M.2 i1 D.i1z).trans q,r⟩,by obtain⟨o,q,r⟩:=gb;exact⟨o,(M.2 i2 D.i2z).trans q,r⟩⟩,λc j=>?_⟩
  .have hb':=(l c j).1;simp only[Z5,ad1,an3] at j;rw[aj]
   .exact hb'
   .rcases j with e|e|e|e|e <;> rw[e] <;> assumption
 done:=by
  intro X R S T j i L s Z H E I l A U;subst R S T;obtain⟨v0,u0,p,t,B,C,F⟩:=A;obtain⟨xs,O,G,J,Q⟩:=U;obtain⟨is,Y,p1,z1⟩:=I.list G;obtain⟨js,r2,p2,z2⟩:=I.list J;have e1:=Y.length;have e2:=r2.length;refine wpAny_pyNext_zip_end (I.ok.hd j) D p t B C F p1.isList p2.isList (by rcases Q with h|h;(left;simp;lia);(right;simp;lia)) λh' eb=>⟨rfl,?_⟩
  refine I.K4 (t':=s.toks) (ch:=[z,TI,TO,i1,i2]) (λb o g e=>?_) (λb g=>(l b g).1) (λb g=>(l b g).2.1) (λb g=>(l b g).2.2.2.1) (λb g=>(l b g).2.2.2.2.1) λb g=>(l b g).2.2.2.2.2;simp only[Z5,ad1,an3,not_or] at g;exact eb b o g.1 g.2.2.1 g.2.2.2.1 g.2.2.2.2 e
 self:=λ_ _ _ _ _ A h=>by obtain⟨v,u,p,t,B,C,F⟩:=A;exact wpAny_pyIter_zip p h
def DF(h:l<n)(h':m<n):ZipApart (n+4) (n+2) (n+3) n (n+1) l m:=by constructor <;> (intro e;lia)
def ZI(K:W.Frag)(ta:TA):TI:=λZ H R=>ta Z H λd c=>∃a b e f,d=[.ref a,.ref b]/\aV K c a e/\aV K c b f/\R (Zi K a b) c
def V3      (hg:Gl X "zip") (hm:X.mg "zip" = none) (ha:PA X [a,b] ta) (hs:autoParam (starEach [a,b] X.env=(false,eval a X.env)::starEach [b] X.env) cw._auto_1) (hs2:autoParam ((backTo pos (starEach [b] X.env)).any (·.1)=false) cw._auto_1) :
  PI X (.Tuple elts x1 tp) (.Call (.Name "zip" p) [a,b] [] pos) (ZI X.K ta):=by
 intro d s Z H R I h;refine Call_ (pF I hg hm (show bootBuiltins "zip" = some (.type "zip") by lk) (ae0 (dS (ha pos d s Z H _ I h) λus c w=>?_) hs hs2));obtain⟨O,x,f,y,z⟩:=w;obtain⟨l,m,P,Q,rfl,i,j,q⟩:=z;obtain⟨u,v,rfl,A,B⟩:=y.two;cases A;cases B;obtain⟨S,_,n,_⟩:=f.list i;obtain⟨T,_,o,_⟩:=f.list j;refine call_zip_2 n.isList o.isList λC r D E F G J L=>?_;refine wpAny_pyIter_zip (s:={ c with heap:=C }) r ?_;have M:l<c.heap.objs.size:=by obtain⟨_,e,_⟩:=n.isList;exact P2 e
 have N:m<c.heap.objs.size:=by obtain⟨_,e,_⟩:=o.isList;exact P2 e
 refine⟨c.heap.objs.size+4,[c.heap.objs.size+4,c.heap.objs.size+2,c.heap.objs.size+3,c.heap.objs.size,c.heap.objs.size+1],_,_,x,rfl,f.kept (t':=c.toks) L,KY l m _ _ _ _ _ (DF M N),⟨_,_,r,D,E,F,G⟩,λb t=>?_,q⟩;have g:c.heap.objs.size<=b:=by
  simp only[Z5,ad1,an3] at t;rcases t with e|e|e|e|e <;> rw[e]
  .exact ae4 _ _
  .exact ae4 _ _
  .exact ae4 _ _
  .exact N0 _
  .exact ae4 _ _
 exact f.CM g (f.ba.fresh g)
def EH{K:W.Frag}(Pv:Nat->St->Hp->Prop)(h0:Pv 0 Z H)(hl:∀i Z H,i<=xs.length->i<=ys.length->Pv i Z H->aV K H a xs/\aV K H b ys)
  (hs:∀i x y p Z H,xs[i]?=some x->ys[i]?=some y->H p=none->Pv i Z H->g (.ref p) Z (ag H p (.tup [x,y])) λZ2 H2=>tb { D with nx:=Pv (i+1),ct:=Pv (i+1),bk:=D.nx } Z2 H2)
  (hd:∀i Z H,(i=xs.length\/i=ys.length)->i<=xs.length->i<=ys.length->Pv i Z H->D.nx Z H):DJ (Zi K a b) g tb D Z H:=by
 refine⟨λi m Z H=>m=xs.length-i/\i<=xs.length/\i<=ys.length/\Pv i Z H,⟨xs.length,by simp,Z9 _,Z9 _,h0⟩,?_⟩;rintro i m Z H ⟨rfl,e,f,p⟩;obtain⟨c,d⟩:=hl i Z H e f p;by_cases h:i<xs.length
 .by_cases j:i<ys.length
  .refine .inr ⟨⟨xs,ys,xs[i],ys[i],c,d,by simp[h],by simp[j]⟩,Pv (i+1),λt l n=>⟨xs.length-(i+1),by lia,rfl,h,j,n⟩,λx l y=>?_⟩;obtain⟨o,v,u,q,rfl,rfl,r,s⟩:=y;exact hs i v u o Z H (r xs c) (s ys d) q p
  .exact .inl ⟨⟨xs,ys,c,d,.inr (by lia)⟩,hd i Z H (.inr (by lia)) e f p⟩
 .exact .inl ⟨⟨xs,ys,c,d,.inl (by lia)⟩,hd i Z H (.inl (by lia)) e f p⟩
def G3(r:Vals xs is)(hi:ItemsOf (λi v=>is.toArray[is.toArray.size-1-i]?=some v) acc is.toArray.size):Vals xs.reverse acc.toList:=by
 have e:acc.toList=is.reverse:=by
  apply aj3;intro i;have d:acc.size=is.length:=by have:=hi.1;simpa using this
  by_cases a:i<is.length
  .have b:i<acc.size:=d▸a
   have c:=hi.2 i acc[i] (by simp[b]);rw[ai6 a];have c:is[is.length-1-i]?=some acc[i]:=by simpa using c
   rw[c];simp[b]
  .rw[ad7 (by simp;lia),ad7 (by simp;lia)]
 rw[e];clear e hi;induction r with
 |nil=>exact .nil
 |cons h t ih =>
  rw[List.reverse_cons,List.reverse_cons];exact ih.append (.cons h .nil)
def Ek(K:W.Frag)(ta:TA):TE:=λZ H Q=>ta Z H λc a=>∃l b,c=[.ref l]/\aV K a l b/\∀r,a r=none->Q (.ref r) (ag a r (.lst b.reverse))
def sW    (hc:X.aw=true) (hg:Gl X "list") (hm:X.mg "list" = none) (hg2:Gl X "reversed") (hm2:X.mg "reversed" = none) (ha:PA X [a] ta)
  (hs:autoParam (starEach [.Call (.Name "reversed" p2) [a] [] pos2] X.env=[(false,eval (.Call (.Name "reversed" p2) [a] [] pos2) X.env)]) cw._auto_1) (hs2:autoParam (starEach [a] X.env=[(false,eval a X.env)]) cw._auto_1) :
  PE X (.Call (.Name "list" p) [.Call (.Name "reversed" p2) [a] [] pos2] [] pos) (Ek X.K ta):=by
 intro f s Z H Q I h;refine Call_ (pF I hg hm (show bootBuiltins "list" = some (.type "list") by lk) (ae0 ?_ hs rfl));rw[hs];show wpAny _ _ (spliced [(false,eval (.Call (.Name "reversed" p2) [a] [] pos2) X.env)]) _ _ s;refine ai4 ?_;refine Call_ (pF I hg2 hm2 (show bootBuiltins "reversed" = some (.type "reversed") by lk) (ae0 (dS (ha pos2 f s Z H _ I h) λus d A=>?_) hs2 rfl));obtain⟨N,O,i,B,C⟩:=A;obtain⟨l,j,rfl,D,q⟩:=C;obtain⟨u,rfl,E⟩:=B.one;cases E;obtain⟨t,v,n,F⟩:=i.list D;refine call_reversed_list n.isList (am0 ?_);have G:l<d.heap.objs.size:=by obtain⟨_,e,_⟩:=n.isList;exact P2 e
 refine uM (I.ok.hd hc) (Z6 G) ⟨_,aa5 _ rfl,rfl,rfl⟩ (n.isList.push _) (by have:=v.length;simp;lia) λx J r c kp e L=>?_;have z:d.heap.objs.size<=(d.heap.push (revObj l ((t.toArray.size:Int)-1))).objs.size:=by rw[(ai8 ..)];exact ae4 _ _
 refine⟨.ref _,_,i.laid (t':=J) (o:=.lst j.reverse) (λb u y=>kp b u (Z6 (P2 y)) (x0 _ y)) z (show dz X.prog X.w _ x _ (.lst j.reverse) from ⟨by rw[ac3];exact F,r.toList,c,G3 v L,by simpa using e⟩),rfl,q _ (i.ba.fresh z)⟩
end L2
namespace L2
open PySem PySem.Spec PyProof.Rows
def D6{i:Nat}{y:Str}{sc csc:Scope}{N:a9}{elt iter c:Expr}{x:Str}{px pos pos' spos:Pos}{caps:List (Str×Nat)}{wi:TI}{te:TE}{tt:TT}(hN:X.N.Nodup)(hiy:X.N[i]?=some y)(hy:Loc X.env.scope y)(ck:oN sc csc N x caps)(hi:PI X (.Name x px) iter wi)
  (ht:∀C s2 H2 fp,PT (fJ X (caps.map (·.1)++[x]) csc C s2 H2 fp) c tt) (he:∀C s2 H2 fp,PE (fJ X (caps.map (·.1)++[x]) csc C s2 H2 fp) elt te) (hc:autoParam (X.aw=true) cw._auto_1) (hsc:autoParam (X.env.scope=sc) cw._auto_1) (hXN:autoParam (X.N=N) cw._auto_1) (hs:autoParam (∀x,foldedSetIterable iter X.env x=pure x) cw._auto_1)
  (hsw:autoParam (swapsWith (.ListComp elt [⟨.Name x px,iter,[c],0⟩] csc pos) (some (.Name y pos')) spos.line X.env=pure true) cw._auto_1) (hf:autoParam (X.fn y=true\/X.env.scope.names.lookup y=some .local) cw._auto_1) :
  PS X (.Assign [.Name y pos'] (.ListComp elt [⟨.Name x px,iter,[c],0⟩] csc pos) spos) (Bc (rR caps wi tt te) (p9 i)):=zb hN hiy hy ck hi (λC s H p=>Mw (ht C s H p)) he hc hsc hXN hs hsw hf
def o5:gS X (.type "dict") (λxs H Q=>∃a kvs,xs=[V.ref a]/\H a=some (.dK kvs)/\∀p,H p=none->Q (.ref p) (ag H p (.dK kvs))):=by intro b s Z H xs us Q I r h;obtain⟨a,kvs,rfl,c,q⟩:=h;obtain⟨u,rfl,d⟩:=vals1 r;cases d;exact JI I (.inl c) λp g e f=>⟨.ref p,_,f,rfl,q p e⟩
def uh:typeLookup (.type "list") "keys" = pure none:=by rw[typeLookup_type,builtinLookup_eq_fast];kernel_rfl
def oO 
  (hx:s.heap.get? a=some o) (hc:o.cls = .type "list") (hdat:o.data = .seq xs k) (hd:o.dict=none) (hmiss:typeLookup (.type "list") name=pure none) (hname:(["__module__","__name__","__qualname__","__doc__","__annotations__"]:a9).contains name=false) (hA:A.handled=none)
  (h:∀h' tk,(∀b o,s.heap.get? b=some o->h'.get? b=some o)->Q none { s with heap:=h',toks:=tk }) (hsz:name.length+100<=sizeLine:=by size_fits) :
  wpAny (model prog w) A (getAttr? (.ref a) name) Q E s:=by
 obtain⟨c,l,n,p⟩:=o;simp only at hc hdat hd;subst hc hdat hd;obtain⟨q,g,d,tk,r⟩:=s;have j:∀f,(⟨q,g,d,f,r⟩:Shared).TypeIs (.ref a) "list" := λ_=>⟨_,hx,rfl⟩
 have t:=sub_AttributeError;have u:=F.slot_list_getattribute.lookup;have v:=F.slot_list_getattribute.bind (.ref a);have x:=am_list_getattr_none;unfold getAttr? getAttrBy? getAttrBy;repeat (any_goals (first | assumption | exact j _ | ((with_reducible show wpAny _ _ (call (Value.builtin "list.__getattribute__") _ _) _ _ _);refine am4 F.slot_list_getattribute (j _) am_entry_list_getattribute (F.args_list_getattribute_2 _ _) (meets_getattribute_miss_list a xs k p name _ hmiss hname hsz) ⟨hx,hA,λh' f e i=>?_⟩) | wp_step))
 obtain⟨y,z,B⟩:=i.there;show wpAny _ _ (getattributeRaised _ _ _ _ _ _ _) _ _ _;unfold getattributeRaised;repeat (any_goals (first | assumption | wp_step))
 exact h _ _ i.of.keeps
def iE:entryFor table "dict.update.loop" = some Builtin.«dict.update.loop»:=entryFor_of_tree (by kernel_rfl)
def dY:plainId "dict.update.loop" = true:=by lk
section
variable {κ:Type}[DecidableEq κ]{knd:KeyKind prog w κ}{R:Result->Shared->Prop}
def Bf(vs:List (κ×Value))(k:κ)(v:Value):(stored vs k v).length<=vs.length+1:=by
 unfold stored;split
 .simp
 .simp
def A1(vs:List (κ×Value)):∀rs:List (κ×Value),(merged vs rs).length<=vs.length+rs.length:=λrs=>by
 induction rs generalizing vs with
 |nil=>exact N0 _
 |cons kv r ih =>
  have a:=ih (stored vs kv.1 kv.2);have b:=Bf vs kv.1 kv.2;show (merged (stored vs kv.1 kv.2) r).length<=vs.length+(r.length+1)
  lia
def DZ(hh:A.in1.handled=none)(hn:items.size=rs.length)(hb:rs.length<=1000)
  (d1:it≠D) (d2:l≠D) (d3:l≠it) :
  ∀(k i:Nat) (s:Shared),items.size-i=k->i<=items.size->s.heap.IsListIter it l i->s.heap.IsList l items ->
   (∀(j:Nat) (u:Value) (kv:κ×Value),items[j]?=some u->rs[j]?=some kv->∃p a,u = .ref p/\p≠D/\p≠it/\s.heap.IsTuple p #[a,kv.2]/\knd.is kv.1 a=true) ->
   s.heap.DictOf knd D (merged [] (rs.take i)) ->
   (∀s',s'.heap.DictOf knd D (merged [] rs)->(∀b o,b≠D->b≠it->s.heap.get? b=some o->s'.heap.get? b=some o)->s'.gens=s.gens->s'.drawn=s.drawn->s'.os=s.os->R (.ok (.ret .none)) s') ->
   codeAny (model prog w) A (.builtin "dict.update.loop" ⟨[.ref D,.ref it,rawInt (i:Int),.none],[]⟩) R s:=by
 intro k;induction k with
 |zero =>
  intro i s S U h hl G B H;have q:i=items.size:=by lia
  refine ao6 iE ?_;rw[ai9 dY _];show wpAny _ A.in1 (pyNext (.ref it) >>= _) _ _ s;refine y0 (wpAny_pyNext_list_end hh h hl (by rw[q];simp) λt g=>?_);show wpAny _ A.in1 (Builtin.Dict.addKeywords D [] >>= _) _ _ _;refine y0 (X2 ?_);show wpAny _ A.in1 (ret Value.none) _ _ _;refine X2 (H { s with heap:=t } ?_ (λb o _ C e=>g b o C e) rfl rfl rfl);rw[q,hn,ab3] at B;exact B.extBut g (aa4 d1)
 |succ k ih =>
  intro i s S U h hl G B H;have v:i<items.size:=by lia
  have O:items[i]?=some items[i]:=by simp[v]
  have x:rs[i]?=some rs[i]:=i4 (by omega);refine ao6 iE ?_;rw[ai9 dY _];show wpAny _ A.in1 (pyNext (.ref it) >>= _) _ _ s;refine y0 (wpAny_pyNext_list_item h hl O λt y g=>?_);obtain⟨p,a,W,pD,X,Y,Z⟩:=G i _ _ O x;rw[W];have I:t.IsTuple p #[a,(rs[i]).2]:=by obtain⟨o,e,c,n,d⟩:=Y;exact⟨o,(g.2 p X).trans e,c,n,d⟩
  obtain⟨o,e,c,n,d⟩:=id I;show wpAny _ A.in1 (holding [Value.ref p] _ >>= _) _ _ _;refine y0 (ae9 ?_);refine y0 ?_;unfold Builtin.Dict.pairItems;refine wpAny_tryCatch ?_;refine y0 (wpAny_typeOf (T:="tuple") ⟨o,e,c⟩ ?_);rw[w4 (by decide)];unfold seqItems?;refine y0 (y0 (wpAny_load e ?_));rw[d];refine X2 (X2 ?_);show wpAny _ _ (holding [a,(rs[i]).2] (dictSet D a (rs[i]).2)) _ _ _;refine ae9 ?_;have hsz:(merged [] (rs.take i):List (κ×Value)).length<=sizeLine:=by have:=A1 [] (rs.take i);rw[v6] at this;simp only[ac6] at this;have z:=ad0;lia
  refine wpAny_dictSet_pairs (s:={ s with heap:=t }) (hsz:=hsz) Z (B.sameBut g (aa4 d1)) λC K f=>?_;show wpAny _ A.in1 (again (.builtin "dict.update.loop" ⟨[.ref D,.ref it,rawInt ((i:Int)+1),.none],[]⟩)) _ _ _;refine X2 ⟨am5 dY _,?_⟩;have ei:((i:Int)+1)=((i+1:Nat):Int):=by lia
  rw[ei];refine ih (i+1) _ (by lia) v (by obtain⟨o,e,r⟩:=y;exact⟨o,(f.2 it d1).trans e,r⟩) (by obtain⟨o,e,r⟩:=hl;exact⟨o,(f.2 l d2).trans ((g.2 l d3).trans e),r⟩) (by intro j u kv h1 C;obtain⟨L,a',M,E,F,⟨o,e,r⟩,N⟩:=G j u kv h1 C;exact⟨L,a',M,E,F,⟨o,(f.2 L E).trans ((g.2 L F).trans e),r⟩,N⟩) (by rw[merged_take_succ _ _ _ _ x];exact K) (by intro s' M E F q4 N;exact H s' M (λb o P Q e=>E b o P Q ((f.2 b P).trans ((g.2 b Q).trans e))) F q4 N)
end
section
variable {κ:Type}[DecidableEq κ]{knd:KeyKind prog w κ}{E:Value->Shared->Prop}
def rO {l:Addr} {items:n7} {m:Nat} {rs:List (κ×Value)} {Q:Value->Shared->Prop} (hh:A.handled=none) (ho:s.heap.get? l=some { cls:=.type "list",data:=.seq items m })
  (hn:items.size=rs.length) (hb:rs.length<=1000)
  (hp:∀(j:Nat) (u:Value) (kv:κ×Value),items[j]?=some u->rs[j]?=some kv->∃p a,u = .ref p/\s.heap.IsTuple p #[a,kv.2]/\knd.is kv.1 a=true)
  (h:∀h' tk,h'.DictOf knd s.heap.objs.size (merged [] rs)->(∀b o,s.heap.get? b=some o->h'.get? b=some o)->Q (.ref s.heap.objs.size) { s with heap:=h',toks:=tk }) :
  wpAny (model prog w) A (call (.type "dict") [.ref l]) Q E s:=by
 refine callType_codes (Q₁:=λf C=>f = .ref s.heap.objs.size/\C = { s with heap:=s.heap.push { cls:=.type "dict",data:=.dict #[] } }) F.kt_called_dict (F.kt_typeCall_dict_1 _) F.entry_dict_init (kt_code_dict_new _ ⟨rfl,rfl⟩) ?_;rintro f C ⟨rfl,rfl⟩;have c:(s.heap.push { cls:=.type "dict",data:=.dict #[] }).DictOf knd s.heap.objs.size []:=Heap.DictOf.new s.heap;have g:l<s.heap.objs.size:=P2 ho;have d:(s.heap.push { cls:=.type "dict",data:=.dict #[] }).get? l=some { cls:=.type "list",data:=.seq items m }:=x0 _ ho;refine⟨c.typeIs,F.args_dict_init_2 _ _,?_⟩;unfold Builtin.«dict.__init__»;refine y0 ?_;unfold Builtin.Dict.selfAndRest;refine y0 (wpAny_notOrdered_dict c.typeIs ?_);show wpAny _ _ (pure (s.heap.objs.size,[Value.ref l])) _ _ _;refine X2 ?_;show wpAny _ _ (Builtin.Dict.updateFrom "dict.__init__" s.heap.objs.size (.ref l) [] .none) _ _ _;unfold Builtin.Dict.updateFrom;refine y0 (wpAny_typeOf (T:="list") ⟨_,d,rfl⟩ ?_);rw[w4 (by decide)];refine y0 (oO (s:={ s with heap:=s.heap.push { cls:=.type "dict",data:=.dict #[] } }) d rfl rfl rfl uh (by decide) (by simp[hh]) (λq J t=>?_));rw[w4 (show (none:Option Value).isNone=true from rfl)];refine y0 (wpAny_rule ?_);have i:=t _ _ d;have n:q.DictOf knd s.heap.objs.size []:=by obtain⟨o,G,H,e,r⟩:=c;exact⟨o,G,H,t _ _ e,r⟩
 have big:s.heap.objs.size<q.objs.size:=by obtain⟨o,G,H,e,r⟩:=n;exact P2 e
 refine y0 (wpAny_pyIter_list (s:={ s with heap:=q,toks:=J }) ⟨_,i,rfl,m,rfl⟩ ?_);refine X2 ⟨am5 dY _,?_⟩;refine DZ (knd:=knd) (by simp[hh]) hn hb (D:=s.heap.objs.size) (it:=q.objs.size) (l:=l) (ao0 big) (Z6 g) (Z6 (Nat.lt_trans g big)) items.size 0 _ (by lia) (Z9 _) ⟨_,aa5 _ rfl,rfl,rfl⟩ ⟨_,x0 _ i,rfl,m,rfl⟩ (by intro j u kv K L;obtain⟨p,a,x,⟨o,v,y⟩,z⟩:=hp j u kv K L;have I:=P2 v;exact⟨p,a,x,Z6 I,Z6 (Nat.lt_trans I big),⟨o,x0 _ (t _ _ (x0 _ v)),y⟩,z⟩) (n.push _) (by intro M x v y z N;obtain⟨h',P,R,B,O⟩:=M;cases y;cases z;cases N;exact⟨rfl,h h' B x (λb o e=>v b o (Z6 (P2 e)) (Z6 (Nat.lt_trans (P2 e) big)) (x0 _ (t _ _ (x0 _ e))))⟩)
end
theorem ya(ok:lR P w H h):∀(ps:c6) (kvs:List (Key×V)),ps.length=kvs.length->(∀(i:Nat) p kv,ps[i]?=some p->kvs[i]?=some kv->H p=t0 [kV kv.1,kv.2]) ->
  ∃rs:List (Key×Value),KV kvs rs/\∀(i:Nat) p kv,ps[i]?=some p->rs[i]?=some kv->∃a,h.IsTuple p #[a,kv.2]/\(cJ P w).is kv.1 a=true
 | [],[],_,_=>⟨[],.nil,λi p kv e _=>by simp at e⟩
 |p::ps,kv::kvs,hl,hp=>by
  obtain⟨rs,r1,r2⟩:=ya ok ps kvs (by simpa using hl) (λi q c e1 e2=>hp (i+1) q c (by simpa using e1) (by simpa using e2));obtain⟨_,g,rv,j⟩:=(show dz P w H h p (.tup [kV kv.1,kv.2]) from ok p _ (hp 0 p kv rfl rfl))
  cases rv with
  |cons e1 rv=>cases rv with
   |cons e2 rv =>
    cases rv;rename_i a b;refine⟨(kv.1,b)::rs,.cons ⟨rfl,e2⟩ r1,λi q c d f=>?_⟩;cases i with
    |zero =>
     simp only[af6,ah5] at d f;subst d f;exact⟨a,j,qY e1⟩
    |succ i=>exact r2 i q c (by simpa using d) (by simpa using f)
 | [],_::_,hl,_=>by simp at hl
 |_::_,[],hl,_=>by simp at hl
inductive VW(xs:q7)(H:Hp)(Q:VK):Prop|mk(l:Addr)(ps:c6)(kvs:List (Key×V))(_:xs=[V.ref l])(_:H l=r6 (ps.map V.ref))(_:(ps.length=kvs.length/\∀(i:Nat) p kv,ps[i]?=some p->kvs[i]?=some kv->H p=t0 [kV kv.1,kv.2]))(_:kvs.length<=1000)(_:∀d,H d=none->Q (.ref d) (ag H d (.dK (m9 [] kvs))))
def pA (hc:X.aw=true):gS X (.type "dict") VW:=by
 intro p s Z H S us Q I r h;obtain⟨l,b,c,rfl,hl,⟨d,g⟩,T,q⟩:=h;obtain⟨u,rfl,E⟩:=vals1 r;cases E;obtain⟨t,e,n,y,F⟩:=(show dz X.prog X.w H s.heap l (.lst (b.map V.ref)) from I.ba l _ hl)
 obtain⟨rs,A,o⟩:=ya I.ba b c d g;have B:=y.length;have U:=A.length;rw[d5] at B;have z:=ad0;refine rO (knd:=cJ X.prog X.w) (items:=e.toArray) (rs:=rs) (I.ok.hd hc) F (by simp;lia) (by lia) (λj v W f G=>?_) λY J K L=>?_
 .have f:e[j]?=some v:=by simpa using f
  have M:j<b.length:=B▸(d6.mp f).1
  have C:=i4 M;obtain⟨v',D,N⟩:=y.get (i:=j) (x:=V.ref b[j]) (by rw[v3,C];rfl);rw[f] at D;cases D;cases (show v=Value.ref b[j] from N);obtain⟨a,O,P⟩:=o j _ _ C G;exact⟨_,a,rfl,O,P⟩
 .have t:(m9 [] c).length<=sizeLine:=by have R:=oH c [];rw[ac6] at R;lia
  exact⟨.ref s.heap.objs.size,_,I.laid (t':=J) L (N0 _) (wu t (beq_eq_false_iff_ne.mpr (aa4 (Z6 I.big))) (A.merge .nil) K),rfl,q _ (I.ba.fresh (N0 _))⟩
section
variable {a:Addr}{kvs:List (Key×V)}{o:Obj}
def zB(H:Hp)(a:Addr):Prop:=∀o u,H a≠some (.mC o u)
def Inv.freeze(I:Inv X am Z H s)(e:H a=some (.dK kvs))(ho:s.heap.get? a=some o):Inv X am Z (ag H a (.mC o (.dK kvs))) s:=by
 have d:∀{b u},H b=some u->u ≠ .dK kvs->b≠a:=λ{b u} q n z=>by rw[z,e] at q;cases q;exact n rfl
 have g:∀{b},H b=none->b≠a:=λ{b} q z=>by rw[z,e] at q;cases q
 refine I.step (g':=s.gens) (d':=s.drawn) (t':=s.toks) (ch:=[]) (H':=ag H a (.mC o (.dK kvs))) (h':=s.heap) (λb h=>by cases h) (λb o n _ _ e _=>e) (λb o n _ _ e _=>⟨o.slots,e⟩) (λb o _ _ n=>by rw[aj (g n)];exact n) (λb o _ e=>⟨o,e⟩) (λb i q=>by rw[aj (d q (by intro z;cases z))];exact q) (λb o u q=>by rw[aj (d q (by intro z;cases z))];exact q) (λb l q=>⟨#[],by rw[aj (d q (by intro z;cases z)),q];simp⟩) (λm j=>j) (λb u q=>?_) I.ax;by_cases z:b=a
 .rw[z,aa] at q;cases q;rw[z];exact⟨ho,I.ba a _ e⟩
 .rw[aj z] at q;exact(I.ba b u q).stay (λc v _ q=>q) (λc f=>by rw[aj (d f (by intro z;cases z))];exact f) (λc i f=>by rw[aj (d f (by intro z;cases z))];exact f)
def Inv.Wt(I:Inv X am Z H s)(e:H a=some (.dK kvs)):zB X.H₀ a:=λo u q=>by have:=I.ap.pR a o u q;rw[e] at this;cases this
def Inv.XJ(I:Inv X am Z H s)(e:H a=some (.mC o (.dK kvs)))(nf:zB X.H₀ a):Inv X am Z (ag H a (.dK kvs)) s:=by
 have g:∀{b u},H b=some u->u ≠ .mC o (.dK kvs)->b≠a:=λ{b u} q n z=>by rw[z,e] at q;cases q;exact n rfl
 have h:∀{b},H b=none->b≠a:=λ{b} q z=>by rw[z,e] at q;cases q
 refine⟨I.ok,I.os,I.ax,⟨I.ap.keep,I.ap.slot,λb i q n t=>by have:=I.ap.free b i q n t;rw[aj (h this)];exact this,I.ap.there,λb j q=>by have:=I.ap.tups b j q;rw[aj (g this (by intro z;cases z))];exact this,λb i u q=>by have:=I.ap.pR b i u q;rw[aj (λz=>nf i u (by rw[<- z];exact q))];exact this,λb w q=>by obtain⟨d,l⟩:=I.ap.rL b w q;exact⟨d,by rw[aj (g l (by intro z;cases z))];exact l⟩⟩,I.loc,I.cell,by rw[aj (h I.free)];exact I.free,λx c q=>by rw[aj (h (I.je x c q))];exact I.je x c q,λp y=>by obtain⟨A,r,B⟩:=I.pin p y;exact⟨A,by rw[aj (h r)];exact r,B⟩,λb u q=>?_,I.len⟩
 .by_cases z:b=a
  .rw[z,aa] at q;cases q;exact z▸(I.ba a _ e).2
  .rw[aj z] at q;exact(I.ba b u q).stay (λc v _ q=>q) (λc f=>by rw[aj (g f (by intro z;cases z))];exact f) (λc j f=>by rw[aj (g f (by intro z;cases z))];exact f)
end
def YO(a:Addr)(o:Obj)(kvs:List (Key×V)):It :=
 ⟨λi H=>H a=some (.mC o (.dK kvs))/\i<kvs.length,λi H x c=>c=H/\∃b,kvs[i]?=some b/\x=kV b.1,λi H=>H a=some (.mC o (.dK kvs))/\kvs.length<=i⟩
def J9(h:(cJ P w).is k u=true):RelV (kV k) u:=by
 rcases dZ h with ⟨i,t,rfl,rfl⟩|⟨x,t,rfl,rfl⟩
 .exact⟨t,rfl⟩
 .exact⟨t,rfl⟩
def Dn{P:Program}{K:W.Frag}{es:Array DictEntry}{ep:Nat}(a it:Addr)(o:Obj)(kvs:List (Key×V))(hne:a≠it)(hd:o.data = .dict es ep):Turn P w K tg (YO a o kvs) [it] it (λi h=>h.IsKeyIter it a i kvs.length ep) where
 mem:=by simp
 obj:=λi h f b n=>by
  have e:b=it:=by simpa using n
  subst e;obtain⟨o,e,c,d⟩:=f;exact⟨o,e,λv z=>by rw[d] at z;cases z⟩
 keep:=λi h y f k=>f.at λo e=>k it (by simp) o e
 item:=by
  intro X C D F G i j s Z H E I A f J;subst C D F;obtain⟨L,hi⟩:=J;obtain⟨p,z,hs,B,g,M⟩:=(show dz X.prog X.w H s.heap a (.mC o (.dK kvs)) from I.ba a _ L)
  obtain⟨N,O,f2,Q,R,S⟩:=A it (by simp);have hl:=g.length;have T:s.heap.DictAt (cJ X.prog X.w) a B ep:=by obtain⟨o',U,Y,q,c',r,r'⟩:=M;rw[p] at q;cases q;rw[hd] at r;cases r;exact⟨o,es,p,c',hd,r'⟩
  refine (Walks.dictKeys (prog:=X.prog) (w:=X.w) (knd:=cJ X.prog X.w) (I.ok.hd G) it a hne B ep).item i s _ _ (by lia) ⟨hl▸f,T⟩ λv y tk hv t kk=>?_;obtain⟨k,x,e1,e2⟩:=hv;obtain⟨oi,ei,ci,di⟩:=id t.1;have u:=i4 hi;have ek:kvs[i].1=k:=by have:=ac7 (λl=>l[i]?) g.keys;simp only[v3,u,e1,af7] at this;exact aa1 this
  exact⟨v,rfl,JL (s:={ s with heap:=y,toks:=tk }) ei ci di (by decide) ⟨kV kvs[i].1,H,I.turned (λb o n e=>kk b o (by simpa using n) e) N O Q R S,ek▸J9 e2,⟨rfl,_,u,rfl⟩,hl▸t.1,λb n=>(A b n).1⟩⟩
 done:=by
  intro X C D F G i j s Z H E I A f J;subst C D F;obtain⟨L,hi⟩:=J;obtain⟨p,z,hs,B,g,M⟩:=(show dz X.prog X.w H s.heap a (.mC o (.dK kvs)) from I.ba a _ L)
  obtain⟨N,O,f2,Q,R,S⟩:=A it (by simp);have hl:=g.length;have T:s.heap.DictAt (cJ X.prog X.w) a B ep:=by obtain⟨o',U,Y,q,c',r,r'⟩:=M;rw[p] at q;cases q;rw[hd] at r;cases r;exact⟨o,es,p,c',hd,r'⟩
  refine wpAny_pyNext_dict_end (I.ok.hd G) (hl▸f) T (by simp;lia) λy eb=>⟨rfl,I.turned (t':=s.toks) (λb o n e=>eb b o n e) N O Q R S⟩
 self:=λ_ _ _ _ _ f h=>wpAny_pyIter_keyiter f h
def YE(H0:Hp)(tl:TE):TI:=λZ H R=>tl Z H λx c=>∃a b,x = .ref a/\c a=some (.dK b)/\∀o,zB H0 a->R (YO a o b) (ag c a (.mC o (.dK b)))
def rQ{l:Expr}{tl:TE}(hl:PE X l tl):PI X tg l (YE X.H₀ tl):=by
 intro f s Z H R I h;refine dS (hl f s Z H _ I h) λv g  u=>?_;obtain⟨x,G,i,y,A⟩:=u;obtain⟨a,kvs,e,j,q⟩:=A;subst e;cases y;obtain⟨z,B,C,n,D⟩:=t7 i.ba j;obtain⟨o,E,J,p,c,d,r⟩:=D;refine wpAny_pyIter_dict (knd:=cJ X.prog X.w) (kvs:=C) B ⟨o,E,p,c,d,r⟩ ?_;have t:=i.freeze j p;refine⟨g.heap.objs.size,[g.heap.objs.size],_,_,_,rfl,t.kept (t':=g.toks) λb o e=>x0 _ e,Dn a _ o kvs (Z6 (P2 p)) d,⟨_,aa5 _ rfl,rfl,by rw[n.length];rfl⟩,λb F=>?_,q o (i.Wt j)⟩;have e:b=g.heap.objs.size:=by simpa using F
 subst e;exact t.CM (N0 _) (t.ba.fresh (N0 _))
def Ww(H0:Hp)(te:TE):TE:=λZ H Q=>te Z H λv c=>∃a o b,c a=some (.mC o (.dK b))/\zB H0 a/\Q v (ag c a (.dK b))
def Ca{e:Expr}{te:TE}(h:PE X e te):PE X e (Ww X.H₀ te):=λb s Z H Q I q =>
 dS (h b s Z H _ I q) λv l ⟨x,n,c,d,a,o,f,g,i,j⟩=>⟨x,_,c.XJ g i,d,j⟩
def Yw(H0:Hp)(ts:TS):TS:=λD Z H=>ts { D with nx:=λd c=>∃a o b,c a=some (.mC o (.dK b))/\zB H0 a/\D.nx d (ag c a (.dK b)) } Z H
def Bp{st:Stmt}(h:PS X st ts):PS X st (Yw X.H₀ ts):=λb s Z H D I q =>
 dS (h b s Z H _ I q) λf l r=>by
  cases f with
  |next =>
   obtain⟨c,n,d,a,o,e,g,i,j⟩:=r;exact⟨c,_,d.XJ g i,j⟩
  |_=>exact r
def vW(Pv:Nat->q7->Hp->Prop)(h0:Pv 0 [] H)(hn:kvs.length<sizeLine)
  (hq:∀i ys H,i<=kvs.length->Pv i ys H->H a=some (.mC o (.dK kvs)))
  (hs:∀i kv ys H,kvs[i]?=some kv->ys.length=i->Pv i ys H->te (nv caps Z++[some (kV kv.1)]) H λy H2=>∃m',m'<kvs.length-i/\m'=kvs.length-(i+1)/\i+1<=kvs.length/\(ys++[y]).length=i+1/\Pv (i+1) (ys++[y]) H2) (hd:∀ys H,ys.length=kvs.length->Pv kvs.length ys H->∀D,H D=none->Q (.ref D) (ag H D (.lst ys))) :
  yz (YO a o kvs) caps te Z H Q:=by
 refine⟨λi m ys H=>m=kvs.length-i/\i<=kvs.length/\ys.length=i/\Pv i ys H,⟨kvs.length,by simp,Z9 _,rfl,h0⟩,?_⟩;rintro i m ys H ⟨rfl,c,hl,p⟩;have q:=hq i ys H c p;by_cases b:i<kvs.length
 .refine .inr ⟨⟨q,b⟩,by lia,λx g y=>?_⟩;obtain⟨e,kv,d,f⟩:=y;subst e f;exact hs i kv ys _ d hl p
 .have e:i=kvs.length:=by lia
  subst e;exact .inl ⟨⟨q,N0 _⟩,hd ys H hl p⟩
def u9(Pv:Nat->St->Hp->Prop)(h0:Pv 0 Z H)(hl:∀i Z H,i<=kvs.length->Pv i Z H->H a=some (.mC o (.dK kvs)))
  (hs:∀i kv Z H,kvs[i]?=some kv->Pv i Z H->g (kV kv.1) Z H λZ2 H2=>tb { D with nx:=Pv (i+1),ct:=Pv (i+1),bk:=D.nx } Z2 H2) (hd:∀Z H,Pv kvs.length Z H->D.nx Z H):DJ (YO a o kvs) g tb D Z H:=by
 refine⟨λi m Z H=>m=kvs.length-i/\i<=kvs.length/\Pv i Z H,⟨kvs.length,by simp,Z9 _,h0⟩,?_⟩;rintro i m Z H ⟨rfl,c,p⟩;have q:=hl i Z H c p;by_cases b:i<kvs.length
 .refine .inr ⟨⟨q,b⟩,Pv (i+1),λl d f=>⟨kvs.length-(i+1),by lia,rfl,b,f⟩,λx d y=>?_⟩;obtain⟨e,kv,h,j⟩:=y;subst e j;exact hs i kv _ _ h p
 .have e:i=kvs.length:=by lia
  subst e;exact .inl ⟨⟨q,N0 _⟩,hd Z H p⟩
theorem sD:∀{xs:q7} {us:c8},xs.length=us.length->(∀(j:Nat) x u,xs[j]?=some x->us[j]?=some u->RelV x u)->Vals xs us
 | [],[],_,_=>.nil
 |x::xs,u::us,hl,h=>.cons (h 0 x u rfl rfl) (sD (by simpa using hl) λj y v e1 e2=>h (j+1) y v (by simpa using e1) (by simpa using e2))
 | [],_::_,hl,_=>by simp at hl
 |_::_,[],hl,_=>by simp at hl
noncomputable def Mn{α:Type}(lt:Nat->Nat->Bool):W.KasT α->α
 |.ret a=>a
 |.ask i j k=>Mn lt (k (lt i j))
def fM{α:Type}(n:Nat)(P:α->Prop):W.KasT α->Prop
 |.ret a=>P a
 |.ask i j k=>i<n/\j<n/\∀b,fM n P (k b)
theorem fM.ev{α:Type}{n:Nat}{P:α->Prop}{lt:Nat->Nat->Bool}:∀{t:W.KasT α},fM n P t->P (Mn lt t)
 |.ret _,h=>h
 |.ask i j k,h=>fM.ev (t:=k (lt i j)) (h.2.2 _)
theorem fM.bind{α β:Type}{n:Nat}{P:α->Prop}{P':β->Prop}{f:α->W.KasT β}:∀{t:W.KasT α},fM n P t->(∀a,P a->fM n P' (f a))->fM n P' (t.bind f)
 |.ret _,h,g=>g _ h
 |.ask _ _ k,h,g=>⟨h.1,h.2.1,λb=>fM.bind (t:=k b) (h.2.2 b) g⟩
def gq(n:Nat)(p:Array Nat):Prop:=p.toList.Perm (List.range n)
def gq.lt(h:gq n p)(hn:0<n)(k:Nat):p.getD k 0<n:=by
 by_cases a:k<p.size
 .have e:p.getD k 0=p[k]:=by simp[Array.getD,a]
  rw[e];have:p[k]∈p.toList:=by simp
  exact am9.mp (h.mem_iff.mp this)
 .have e:p.getD k 0=0:=by simp[Array.getD,a]
  rw[e];exact hn
def gq.to(h:gq n p)(e:q.Perm p):gq n q:=(Array.perm_iff_toList_perm.mp e).trans h
theorem sZ(hn:0<n)(h:gq n p):∀(f m:Nat),fM n (λ_=>True) (W.kas_asc p f m)
 |0,_=>trivial
 |f+1,m=>⟨h.lt hn _,h.lt hn _,λb=>by
  cases b with
  |true=>exact trivial
  |false=>exact sZ hn h f (m+1)⟩
def mT(h:gq n p)(i j:Nat):gq n (W.kas_rev p i j):=h.to (mirror_perm _ _ _ _)
theorem nY(hn:0<n):∀(f:Nat) (p:Array Nat) (m q:Nat),gq n p->fM n (λr=>gq n r.1) (W.kas_desc f p m q)
 |0,_,_,_,h=>h
 |f+1,p,m,q,h=>⟨h.lt hn _,h.lt hn _,λb=>by
  cases b with
  |true =>
   show fM n _ (if q>0 then W.kas_desc f (W.kas_rev p (m-(q+1)) m) (m+1) 0 else W.kas_desc f p (m+1) 0);split
   .exact nY hn f _ _ _ (mT h _ _)
   .exact nY hn f _ _ _ h
  |false=>exact⟨h.lt hn _,h.lt hn _,λd=>by
    cases d with
    |true=>exact h
    |false=>exact nY hn f _ _ _ h⟩⟩
def vZ(hn:0<n)(m k:Nat)(h:gq n p):fM n (λr=>gq n r.2) (W.kas_tail3 m k p) :=
 fM.bind (sZ hn (mT h 0 m) _ _) λ_ _=>mT h 0 m
def oJ(hn:0<n)(m k:Nat)(h:gq n p):fM n (λr=>gq n r.2) (W.kas_descPart m k p) :=
 fM.bind (nY hn _ _ _ _ h) λr hr=>by
  split
  .exact vZ hn _ _ (mT hr _ _)
  .exact vZ hn _ _ hr
def Bb(hn:0<n)(k:Nat)(h:gq n p):fM n (λr=>gq n r.2) (W.kas_count k p) :=
 fM.bind (sZ hn h _ _) λm _=>by
  split
  .exact h
  .split
   .exact⟨h.lt hn _,h.lt hn _,λb=>by
     cases b with
     |true=>exact h
     |false=>exact oJ hn _ _ (mT h _ _)⟩
   .exact oJ hn _ _ h
theorem oQ(hn:0<n)(h:gq n p)(k:Nat):∀(f l r:Nat),fM n (λ_=>True) (W.kas_place p k f l r)
 |0,_,_=>trivial
 |f+1,l,r=>by
  show fM n _ (if l ≥ r then _ else _);split
  .exact trivial
  .exact⟨h.lt hn _,h.lt hn _,λb=>by
    cases b with
    |true=>exact oQ hn h k f _ _
    |false=>exact oQ hn h k f _ _⟩
theorem zj(hn:0<n):∀(f:Nat) (p:Array Nat) (k:Nat),gq n p->fM n (gq n) (W.kas_bin f p k)
 |0,_,_,h=>h
 |f+1,p,k,h=>fM.bind (oQ hn h k _ _ _) λl _=>zj hn f _ _ (h.to (bubble_perm _ _ _))
def qx(hn:0<n):fM n (gq n) (W.kas_sort n) :=
 fM.bind (Bb hn n (p:=List.toArray (List.range n)) (by show (List.toArray (List.range n)).toList.Perm _;rw[List.toList_toArray])) λr hr=>by
  split
  .exact zj hn _ _ _ hr
  .exact hr
def Mi (names:a9) (i j:Nat):Bool:=decide ((names.getD i "").l<(names.getD j "").l)
def gy (names:a9):a9:=if names.length<2 then names else (Mn (Mi names) (W.kas_sort names.length)).toList.map λi=>names.getD i ""
def gB(names:a9):(gy names).Perm names:=by
 unfold gy;split
 .exact .refl _
 .have a:((Mn (Mi names) (W.kas_sort names.length)).toList.map λi=>names.getD i "").Perm ((List.range names.length).map λi=>names.getD i ""):=(qx (by lia)).ev.map _;have e:((List.range names.length).map λi=>names.getD i "")=names:=by
   refine aj3 λj=>?_;rw[v3];by_cases b:j<names.length
   .rw[List.getElem?_range b];simp[b]
   .rw[ad7 (by rw[List.length_range];lia),ad7 (by lia)];rfl
  rw[e] at a;exact a
section
variable {E:Value->Shared->Prop}
theorem JJ{α:Type}{vs:c8}{names:a9}(hv:∀(j:Nat) x,names[j]?=some x->∃t,vs[j]?=some (Value.str x t)){P:α->Prop}:∀{t:W.KasT α} {Q:α->Shared->Prop} {s:Shared},fM names.length P t->Q (Mn (Mi names) t) s->t.kasWp (W.kas_ask prog w A oneType' vs) Q s
 |.ret _,_,_,_,h=>h
 |.ask i j k,Q,s,g,h=>by
  obtain⟨g1,g2,g3⟩:=g;have a:=i4 g1;have b:=i4 g2;obtain⟨f,c⟩:=hv i _ a;obtain⟨l,d⟩:=hv j _ b;show wpAny _ _ (keyLt' oneType' (vs.getD i Value.none) (vs.getD j Value.none)) _ _ s;rw[ac8,ac8,c,d];refine W.kas_lt_str ?_;have e:decide ((names[i]).l<(names[j]).l)=Mi names i j:=by unfold Mi;rw[ac8,ac8,a,b];rfl
  exact e▸JJ hv (g3 _) h
def A6   {vs:c8}   (ho:s.heap.get? a=some (seqObj "list" vs.toArray n)) (h2:vs.length<2)
  (h:∀h' c,h'.get? a=some (seqObj "list" vs.toArray c)->(∀b o,b≠a->s.heap.get? b=some o->h'.get? b=some o)->P (.done (.ret .none)) { s with heap:=h' }) :
  wpAny (model prog w) A (Builtin.«list.sort» ⟨[.ref a],[]⟩) P E s:=by
 obtain⟨j,f⟩:∃j,(s.heap.update a (Obj.mapSeq λ_=>(#[]:n7))).get? a=some (seqObj "list" #[] j):=⟨_,get?_update_seq ho λ_=>#[]⟩
 have q:vs.length<=sizeLine:=by rw[ad0];lia
 rw[list_sort_plain];refine y0 (listItems_at ho rfl ?_);refine y0 (listUpdate_at ho rfl ?_ (by rw[T1];omega) (Z9 _));refine y0 (seqEpoch_at f rfl ?_);refine y0 (wpAny_newTuple ?_ (by show vs.length<=_;exact q));refine y0 (wpAny_newList ?_ (Z9 _));refine ae9 ?_;dsimp only;have hn2:vs.toArray.size<2:=T1▸h2
 rw[w4 hn2,w4 hn2];refine y0 (X2 ?_);refine y0 (X2 ?_);have d:=x0 (seqObj "list" #[] 0) (x0 (seqObj "tuple" vs.toArray 0) f);refine y0 (seqEpoch_at d rfl ?_);have r:(arrOf (SortSt.mk' general' (vs.toArray.zip vs.toArray) #[] 7 none)).map (·.2)=vs.toArray:=by show (vs.toArray.zip vs.toArray).map (·.2)=vs.toArray;apply ai1.mp;rw[Array.toList_map,Array.toList_zip];simp[List.map_snd_zip]
 dsimp only;rw[r];refine y0 (listUpdate_at d rfl ?_ (Z9 _) (by rw[T1];lia));show wpAny _ _ (if _ then _ else _) _ _ _;simp only[bne_self_eq_false,ak6,ao9];obtain⟨g,i⟩:∃g,((((s.heap.update a (Obj.mapSeq λ_=>(#[]:n7))).push (seqObj "tuple" vs.toArray 0)).push (seqObj "list" #[] 0)).update a (Obj.mapSeq λ_=>vs.toArray)).get? a=some (seqObj "list" vs.toArray g):=⟨_,get?_update_seq d λ_=>vs.toArray⟩
 refine X2 (h _ g i λb o l e=>?_);exact((Heap.SameBut.update _ a _).2 b l).trans (x0 _ (x0 _ (((Heap.SameBut.update s.heap a (Obj.mapSeq λ_=>(#[]:n7))).2 b l).trans e)))
end
def Inv.Dk(I:Inv X am Z H s)(hns:s.heap.Ns X.env.locals m)(F2:h2.Ns X.env.locals m)(kp2:∀c o,c≠X.env.locals->s.heap.get? c=some o->h2.get? c=some o)
  (hD0:s.heap.get? D=none) (new:∀H',dz X.prog X.w H' h2 D (.lst ys)):Inv X am Z (ag H D (.lst ys)) { s with heap:=h2,toks:=t' }:=by
 have d:∀{b u},H b=some u->b≠D:=λ{b u} e z=>by rw[z,(I.ba.new hD0)] at e;cases e
 refine I.step (g':=s.gens) (d':=s.drawn) (t':=t') (ch:=[]) (H':=ag H D (.lst ys)) (h':=h2) (λb l=>by cases l) (λb o n _ _ e _=>kp2 b o n e) (λb o n _ _ e _=>⟨o.slots,kp2 b o n e⟩) (λb o _ e n=>by rw[aj (λz=>?_)];exact n;rw[z] at e;rw[hD0] at e;cases e) (λb o _ e=>?_) (λb p e=>by rw[aj (d e)];exact e) (λb o u e=>by rw[aj (d e)];exact e) (λb M e=>⟨#[],by rw[aj (d e),e];simp⟩) (λr f=>?_) (λb u e=>?_) I.ax
 .by_cases z:b=X.env.locals
  .obtain⟨t,N,O,x,_⟩:=F2;exact⟨t,z▸x⟩
  .exact⟨o,kp2 b o z e⟩
 .have A:r=m:=by obtain⟨P,B,C,E,F,_,G⟩:=f;obtain⟨Q,J,K,g,h,_,L⟩:=hns;rw[E] at g;cases g;rw[F] at h;cases h;funext n;rw[<- G,<- L]
  exact A▸F2
 .by_cases z:b=D
  .rw[z,aa] at e;cases e;rw[z];exact new _
  .rw[aj z] at e;refine(I.ba b u e).stay (λc v a q=>kp2 c v (λy=>?_) q) (λc a=>by rw[aj (d a)];exact a) (λc p a=>by rw[aj (d a)];exact a);have i:=I.free;rcases a with a|a
   .rw[<- a,y,i] at e;cases e
   .rw[y,i] at a;cases a
inductive SO(xs:q7)(H:Hp)(Q:VK):Prop|mk(a:Addr)(kvs:List (Key×V))(names:a9)(_:xs=[.ref a])(_:H a=some (.dK kvs))(_:kvs.map (·.1)=names.map Sum.inr)(_:names.length<64)(_:∀l,H l=none->Q (.ref l) (ag H l (.lst ((gy names).map V.str))))
def qm (hc:X.aw=true):gS X (.builtin "sorted") SO:=by
 intro G s Z H xs us Q I r h;obtain⟨a,kvs,names,rfl,ha,hk,hn,q⟩:=h;obtain⟨u,rfl,ru⟩:=vals1 r;cases ru;obtain⟨z,hd,vs,J,dd⟩:=t7 I.ba ha;obtain⟨o,K,ep,eo,c,d,r'⟩:=dd;have hl:=J.length;have hnl:names.length=kvs.length:=by have:=ac7 List.length hk;simpa using this.symm
 obtain⟨m,M,_⟩:=id I.loc;refine W.kdu_sorted (h₀:=Att.tV s.heap) (L:=X.env.locals) (m:=m) (news:=se (Att.tV s.heap) s.heap X.env.locals) (W.kdl_dict (knd:=cJ X.prog X.w) (kvs:=vs) (ep:=ep) hd) (I.ok.hd hc) (Att.UM M) Fv ⟨o,K,eo,c,d,r'⟩ (hl▸z) λD h' U f F N B hwl hP=>?_;have R:∀(j:Nat) x,names[j]?=some x->∃t,f[j]?=some (Value.str x t):=λj x e=>by
  have Y:=(d6.mp e).1;have hj2:j<f.length:=by lia
  have ew:=i4 hj2;obtain⟨k,y,f1,f2⟩:=hP j _ ew;have:=ac7 (λl=>l[j]?) (hk.symm.trans J.keys);simp only[v3,e,f1,af7] at this;have ek:(Sum.inr x:Key)=k:=aa1 this;subst ek;obtain⟨t,p⟩:=(show ∃t,f[j]=Value.str x t from J9 f2)
  exact⟨t,by rw[ew,p]⟩
 have hwm:∀v∈f,∃x t,v=Value.str x t:=λv hv=>by obtain⟨j,Y⟩:=ab8.mp hv;have hj1:=(d6.mp Y).1;have e:names[j]?=some (names[j]'(by lia)):=i4 _;obtain⟨t,p⟩:=R j _ e;rw[Y] at p;exact⟨_,t,aa1 p⟩
 have nD:=(N (D,_) (ab7 ..)).2.1;have C:s.heap.get? D=none:=by
  cases e:s.heap.get? D with
  |none=>rfl
  |some o=>exact absurd (B (D,o) (mX nD (Att.lq _ _) e)) (ah0 _)
 have hz:((gy names).map V.str).length<=sizeLine:=by rw[d5,(gB names).length_eq,ad0];lia
 have O:∀E out c2,E.Ns X.env.locals m->(∀c o,c≠X.env.locals->s.heap.get? c=some o->E.get? c=some o)->E.get? D=some (seqObj "list" out.toArray c2)->Vals ((gy names).map V.str) out->EP X G Z Q (Value.ref D) { s with heap:=E,toks:=U }:=λE out c2 f1 f2 f3 f4 =>
  ⟨.ref D,_,I.Dk M f1 f2 C (λH'=>⟨hz,out,c2,f4,f3⟩),rfl,q D (I.ba.new C)⟩
 by_cases E:f.length<2
 .have hD:=(N (D,_) (ab7 ..)).1;refine wpAny_call_entry slot_list_sort ⟨_,hD,rfl⟩ entry_list_sort (A6 (s:={ s with heap:=h',toks:=U }) hD E λh3 c3 g1 g2=>⟨_,rfl,?_⟩) (args_list_sort _);refine O h3 f c3 (F.ns.at' λS e=>g2 _ _ (aa4 nD) e) (λcc S n e=>by have b:=(N (cc,S) (Q1 _ (mX n (Att.lq _ _) e))).1;exact g2 _ _ (λy=>by rw[y,C] at e;cases e) b) g1 ?_
  .have K:gy names=names:=by unfold gy;rw[w4 (by lia)]
   rw[K];refine sD (by rw[d5];lia) λj x u b A=>?_;rw[v3] at b;obtain⟨y,g3,rfl⟩:=D1.mp b;obtain⟨t,p⟩:=R j y g3;rw[A] at p;exact⟨t,aa1 p⟩
 .have he:names.length=f.length:=by lia
  refine W.kas_lsort (s:={ s with heap:=h',toks:=U }) (T:=.type "str") (vs:=f) F N (W.UpdF.head λqq hq=>Z6 (B qq hq)) (by simp) (by lia) (by lia) (λb h _ _ v hv=>by obtain⟨x,t,rfl⟩:=hwm v hv;exact λA' Q' E' s' _ h=>X2 h) (by decide) (λb h3 F3 N3=>?_)
  .rw[<- he];refine JJ (P:=gq names.length) R (qx (by lia)) ?_;refine W.KasFin.intro F3 N3 (W.UpdF.head λqq hq=>Z6 (B qq hq)) (λh4 c4 F4 N4=>?_);refine O h4 _ c4 F4.ns (λcc S n e=>(N4 (cc,S) (Q1 _ (mX n (Att.lq _ _) e))).1) (N4 (D,_) (ab7 ..)).1 ?_;have K:gy names=(Mn (Mi names) (W.kas_sort names.length)).toList.map λi=>names.getD i "" := by unfold gy;rw[C5 (by lia)]
   rw[K];refine sD (by simp) λj x u b A=>?_;rw[v3,v3] at b;rw[v3] at A;cases g:(Mn (Mi names) (W.kas_sort names.length)).toList[j]? with
   |none=>rw[g] at A;cases A
   |some i =>
    rw[g] at b A;have hi:=am9.mp (((qx (by lia)).ev).mem_iff.mp (p0 g));have ei:=i4 hi;obtain⟨t,p⟩:=R i _ ei;simp only[af7,ah5] at b A;rw[ac8,ei] at b;rw[ac8,p] at A;subst b A;exact⟨t,rfl⟩
def La(I:Inv X am Z H s)(hu:A.units+1<cLine)(rb:KV kb vb) :
  ∀{ka:List (Key×V)} {va:List (Key×Value)},KV ka va->(∀kv∈ka,∃v',fP kb kv.1=some v'/\jM X.K H 1 kv.2 v')->W.KeqHits A s vb va true:=by
 intro ka va r;unfold KV at r;induction r with
 |nil=>intro _;exact .nil
 | @cons p q ps qs h t ih =>
  intro c;obtain⟨v',d,f⟩:=c p (ab7 ..);obtain⟨l,g,a⟩:=kC.some_of (v:=v') (o:=valueAt vb p.1) (d▸rb.val p.1);obtain⟨qk,n⟩:=q;have i:=h.1;subst i;exact W.KeqHits.hit (e:=true) (b:=true) g (oh I 1 A _ _ _ _ hu h.2 a f) (ih λkv j=>c kv (Q1 _ j))
def EF(K:W.Frag)(H:Hp)(a b:Addr):Prop:=∃c d:List (Key×V),H a=some (.dK c)/\H b=some (.dK d)/\c.length=d.length/\∀e∈c,∃f,fP d e.1=some f/\jM K H 1 e.2 f
inductive Wn(K:W.Frag)(x:V)(y:V)(H:Hp)(Q:VK):Prop|mk(a b)(_:x = .ref a)(_:y = .ref b)(_:EF K H a b)(_:Q (.bl false) H)
def Mx(hu:X.A.units+4<cLine):mL X (compareOp .NotEq) (Wn X.K):=by
 intro c s Z H x y v u Q I f g h;obtain⟨a,b,rfl,rfl,⟨C,D,i,j,hl,l⟩,q⟩:=h;cases f;cases g;obtain⟨E,n,o,d,p⟩:=t7 I.ba i;obtain⟨F,t,w,e,z⟩:=t7 I.ba j;have B:(!(o.length == w.length && true))=false:=by rw[<- d.length,<- e.length,hl];simp
 refine W.keq_ne (r:=true) n t p z (by lia) (λ_=>La I (by show X.A.units+1+1<cLine;lia) e d l) ?_;exact B▸⟨.bl false,H,I,rfl,q⟩
noncomputable def JV(a b:Str):Nat:=(Builtin.Str.occurrences a b 0 a.length (a.length+1)).length
inductive T7(x:V)(vs:q7)(H:Hp)(Q:VK):Prop|mk(a b)(_:x = .str a)(_:vs=[.str b])(_:Q (.int (JV a b)) H)
def JB:Su X "str.count" T7:=by intro c s Z H x i v us Q I d e h;obtain⟨a,b,rfl,rfl,q⟩:=h;obtain⟨t,rfl⟩:=d;obtain⟨u,rfl,f⟩:=e.one;obtain⟨g,rfl⟩:=f;exact call_gives F.slot_str_count (am6 _ _ _) F.entry_str_count (F.args_str_count_2 _ _) (gives_str_count a b t g) ⟨.int _,H,I.tok _,⟨_,rfl⟩,q⟩
section
variable {o:Expr}{ta:TE}{m:Str}{f:Addr}{ds:c8}{dvs:q7}{k:Nat}
def vc(he:PE X o ta)(c:pH X.K C)(hm:Meth X.K C m f)(F:bE X.prog X.w X.K X.mg X.ap CX k f fd ps sp)(hr:gI k X.A)(hb:Binds X.K fd ps ds)(hd:Vals dvs ds)
  (ht:autoParam (eval (.Call (.Attribute o m apos) [] [] pos) X.env=(do
   let ov <- eval o X.env
   standAt apos.atName
   let (f,first) <- holding [ov] (getMethod ov m pl)
   callWith pos f first (backTo pos (starEach [] X.env)) (backToKw pos (keywordEach [] X.env)))) cw._auto_1) :
  PE X (.Call (.Attribute o m apos) [] [] pos) (E9 CX X C m sp dvs ta qw):=λb s Z H Q I h =>
 al9 (pl:=pl) (dS (he b s Z H _ I h) λu j ⟨x,n,d,e,w0⟩=>by obtain⟨a,w1,fs,rfl,i,l,q⟩:=YX_i.mp w0;obtain rfl:u=Value.ref a:=e;exact mh d i c hm l (an8 (first:=[.ref a]) d.uG hm.kp (yF (us:=[.ref a]) (vs:=[.ref a]) F hr hb hd d (.cons rfl .nil) q))) ht
end
end L2
namespace L2
open PySem
def gI.m(r:gI k A)(h:autoParam (j<=k) cw._auto_1):gI j A:=r.mono h
def b7(i:Nat)(S:aI X.N P sc)(he:PE X e te)(hi:autoParam (X.N[i]?=some x) cw._auto_1)(hx:autoParam (Loc X.env.scope x) cw._auto_1)(hs:autoParam (swapsWith e (some (.Name x pos')) pos.line X.env=pure false) cw._auto_1)(hf:autoParam (X.fn x=true\/X.env.scope.names.lookup x=some .local) cw._auto_1):PS X (.Assign [.Name x pos'] e pos) (Bc te (p9 i)):=lJ S.nd hi hx he hs hf
def jb(i:Nat)(S:aI X.N P sc)(hi:autoParam (X.N[i]?=some x) cw._auto_1)(hx:autoParam (Loc X.env.scope x) cw._auto_1)(hf:autoParam (X.fn x=true\/X.env.scope.names.lookup x=some .local) cw._auto_1):PG X (.Name x pos) (p9 i):=pQ S.nd hi hx hf
def sL(h:Nat.ble n sizeLine=true):n<=sizeLine:=Nat.le_of_ble_eq_true h
def ez  {id:String}       (hc:gS X (.builtin id) r) (hm:X.mg x=none) (ha:PA X (e::es) t) (hg:autoParam (Gl X x) cw._auto_1) (hv:autoParam (bootBuiltins x=some (.builtin id)) L2.Y13._auto_1) (hn:autoParam (x ≠ "__name__") cw._auto_1) (hdb:autoParam ((x == ("__debug__" : Str))=false) cw._auto_1) (he:autoParam (starEach (e::es) X.env=(false,eval e X.env)::starEach es X.env) cw._auto_1) (hpl:autoParam ((backTo pos (starEach es X.env)).any (·.1)=false) cw._auto_1):PE X (.Call (.Name x p) (e::es) [] pos) (Wj r t):=sY hc hg hm hv ha hn hdb he hpl
def pO         (hc:gS X (.type T) r) (hm:X.mg x=none) (ha:PA X (e::es) t) (hg:autoParam (Gl X x) cw._auto_1) (hv:autoParam (bootBuiltins x=some (.type T)) L2.Y13._auto_1) (hn:autoParam (x ≠ "__name__") cw._auto_1) (hdb:autoParam ((x == ("__debug__" : Str))=false) cw._auto_1) (he:autoParam (starEach (e::es) X.env=(false,eval e X.env)::starEach es X.env) cw._auto_1) (hpl:autoParam ((backTo pos (starEach es X.env)).any (·.1)=false) cw._auto_1):PE X (.Call (.Name x p) (e::es) [] pos) (Wj r t):=nZ hc hg hm hv ha hn hdb he hpl
def br{X:Cx}:=@pv X 0
def bP{X:Cx}:=@pv X 1
def cG{X:Cx}:=@pv X 2
def dh{X:Cx}:=@pv X 3
def eE{X:Cx}:=@pv X 4
def gX{X:Cx}:=@pv X 5
def jv{X:Cx}:=@pv X 6
def jO{X:Cx}:=@pv X 7
def kH{X:Cx}:=@pv X 8
def l9{X:Cx}:=@pv X 9
def ly{X:Cx}:=@pv X 10
def kU{X:Cx}:=@pv X 11
def bQ(ha:PE X e te)(hs:autoParam (starEach [e] X.env=(false,eval e X.env)::starEach [] X.env) cw._auto_1):PA X [e] (vm te qw):=ao ha bu hs
def cy(ha:PE X e te)(hb:PE X e2 te2)(hs:autoParam (starEach [e,e2] X.env=(false,eval e X.env)::starEach [e2] X.env) cw._auto_1)(hs2:autoParam (starEach [e2] X.env=(false,eval e2 X.env)::starEach [] X.env) cw._auto_1):PA X [e,e2] (vm te (vm te2 qw)):=ao ha (bQ hb hs2) hs
noncomputable abbrev ρ(a:Addr):Option V:=some (.ref a)
noncomputable abbrev ι(a:Int):Option V:=some (.int a)
noncomputable abbrev τ(a:Str):Option V:=some (.str a)
end L2
namespace L2
open PySem PySem.Spec PyProof.Rows
section
variable {X:Cx}
def acv     (hg:Gl X x) (hm:X.mg x=none) (hv:bootBuiltins x=some u) (r:RelV v u) (hn:autoParam (x ≠ "__name__") cw._auto_1) (hd:autoParam ((x == ("__debug__" : Str))=false) cw._auto_1):PE X (.Name x pos) (tC v) :=
 λ_ _ _ H _ I h=>pF I hg hm hv ⟨v,H,I,r,h⟩ hn hd
end
end L2
namespace L2
open PySem PySem.Spec PyProof.Rows
section
variable {E:Value->Shared->Prop}{Q:Value->Shared->Prop}{c:Value}{b:Bool}
inductive abn(K:W.Frag)(H:Hp):V->Value->Prop where
 |dj:abn K H .dj (.type "NoneType")
 |bl (x:Bool):abn K H (.bl x) (.type "bool")
 |int (i:Int):abn K H (.int i) (.type "int")
 |str (x:Str):abn K H (.str x) (.type "str")
 |flt (x:UInt64):abn K H (.flt x) (.type "float")
 |lst {a:Addr} {xs:q7} (e:H a=r6 xs):abn K H (.ref a) (.type "list")
 |mC {a:Addr} {o:Obj} {xs:q7} (e:H a=some (.mC o (.lst xs))):abn K H (.ref a) (.type "list")
 |tup {a:Addr} {xs:q7} (e:H a=t0 xs):abn K H (.ref a) (.type "tuple")
 |dK {a:Addr} {kvs:List (Key×V)} (e:H a=some (.dK kvs)):abn K H (.ref a) (.type "dict")
 |dT {a:Addr} {kvs:List (List Key×V)} (e:H a=some (.dT kvs)):abn K H (.ref a) (.type "dict")
 |ins {a C dx:Addr} {fs:List (Str×V)} (e:H a=s0 C dx fs) (cl:pH K C) (ha:W.findIn K (.ref C) "__class__" = some (some (.builtin "object.__class__")))
   (hn:W.specialIn K (.builtin "object.__class__") "__get__" = some (some (.builtin "getset_descriptor.__get__"))) (htk:W.takesIn K (.builtin "object.__class__")=some true)
   (hm:W.mroIn K C (.type "object")=some true):abn K H (.ref a) (.ref C)
def aeJ(I:Inv X am Z H s)(rx:RelV x u)(ty:abn X.K H x t)(e:W.kitOne X.K t c=some b)(h:∀tk,Q (.bool b) { s with toks:=tk }) :
  wpAny (model X.prog X.w) A (call (.builtin "isinstance") [u,c]) Q E s:=by
 cases ty with
 |dj=>cases (show u=Value.none from rx);exact W.kia_one W.kitx_none I.uG True.intro e (λz=>nomatch z) h
 |bl y=>cases (show u=Value.bool y from rx);exact W.kia_one W.kitx_bool I.uG True.intro e (λz=>nomatch z) h
 |int i=>obtain⟨t,q⟩:=(show ∃t,u=Value.int i t from rx);cases q;exact W.kia_one W.kitx_int I.uG True.intro e (λz=>nomatch z) h
 |str y=>obtain⟨t,q⟩:=(show ∃t,u=Value.str y t from rx);cases q;exact W.kia_one W.kitx_str I.uG True.intro e (λz=>nomatch z) h
 |flt y=>obtain⟨t,q⟩:=(show ∃t,u=Value.float y t from rx);cases q;exact W.kia_one W.kitx_float I.uG True.intro e (λz=>nomatch z) h
 | @lst a xs ea =>
  cases (show u=Value.ref a from rx);obtain⟨_,_,n,_,d⟩:=(show dz X.prog X.w H s.heap a (.lst xs) from I.ba a _ ea)
  exact W.kia_one W.kitx_list I.uG ⟨_,d,rfl⟩ e (λz=>nomatch z) h
 | @mC a ob xs ea =>
  cases (show u=Value.ref a from rx);obtain⟨_,_,_,n,_,d⟩:=(show dz X.prog X.w H s.heap a (.mC ob (.lst xs)) from I.ba a _ ea)
  exact W.kia_one W.kitx_list I.uG ⟨_,d,rfl⟩ e (λz=>nomatch z) h
 | @tup a xs ea =>
  cases (show u=Value.ref a from rx);obtain⟨_,_,_,p⟩:=(show dz X.prog X.w H s.heap a (.tup xs) from I.ba a _ ea)
  obtain⟨o,d,f,_⟩:=p;exact W.kia_one W.kitx_tuple I.uG ⟨o,d,f⟩ e (λz=>nomatch z) h
 | @dK a kvs ea =>
  cases (show u=Value.ref a from rx);obtain⟨_,_,l,_,p⟩:=(show dz X.prog X.w H s.heap a (.dK kvs) from I.ba a _ ea)
  obtain⟨o,g,j,d,f,_⟩:=p;exact W.kia_one W.kitx_dict I.uG ⟨o,d,f.1⟩ e (λz=>nomatch z) h
 | @dT a kvs ea =>
  cases (show u=Value.ref a from rx);obtain⟨_,_,xs,_,o,g,j,d,f,_⟩:=(show dz X.prog X.w H s.heap a (.dT kvs) from I.ba a _ ea)
  exact W.kia_one W.kitx_dict I.uG ⟨o,d,f.1⟩ e (λz=>nomatch z) h
 | @ins a C dx fs ea cl ha hn htk hm =>
  cases (show u=Value.ref a from rx);obtain⟨r,O,_⟩:=wA I.ba ea;obtain⟨v,J,_⟩:=O.look;exact W.kia_one (W.kitx_own (cl.get _) cl.hd ha hn htk hm) I.uG J e (λz=>nomatch z) h
end
end L2
namespace L2
open PySem PySem.Spec PyProof.Rows
def aeP{α:Type}(xs:List α)(v:α):oE (xs++[v]) (-1)=some v:=by
 have hl:(xs++[v]).length=xs.length+1:=by simp
 have e:zG (xs++[v]).length (-1)=some xs.length:=by unfold zG;rw[hl,C5 (by decide),w4 (by lia)];congr 1;lia
 unfold oE;rw[e];show (xs++[v])[xs.length]?=some v;simp
def abL:gS X (.builtin "isinstance") (λxs H Q=>∃x c cv t b,xs=[x,c]/\(c=V.ty cv\/False)/\abn X.K H x t/\W.kitOne X.K t (.type cv)=some b/\Q (.bl b) H):=by
 intro f s Z H xs us Q I r h;obtain⟨x,c,cv,t,b,rfl,a,ty,e,q⟩:=h;obtain⟨u,i,rfl,g,d⟩:=vals2 r;rcases a with rfl|a
 .cases d;exact aeJ I g ty e λj=>⟨.bl b,H,I.tok _,rfl,q⟩
 .exact a.elim
def af.to2(s:af H0 H)(g:H p=none):af H0 (L2.ag H p o)/\L2.ag H p o p=some o:=⟨s.to g,w4 rfl⟩
def adD:List (TE×TE)->St->Hp->(List (V×V)->Hp->Prop)->Prop
 | [],_,H,Q=>Q [] H
 | (tk,tv)::r,Z,H,Q=>tk Z H λx H1=>tv Z H1 λy H2=>adD r Z H2 λps H3=>Q ((x,y)::ps) H3
abbrev VV':List (V×V)->List (Value×Value)->Prop:=Paired λp q=>RelV p.1 q.1/\RelV p.2 q.2
def PPs(X:Cx)(pos:Pos)(keys:List (Option Expr))(values:List Expr)(trs:List (TE×TE)):Prop :=
 ∀a s Z H Q,Inv X a Z H s->adD trs Z H Q ->
  wpAny (model X.prog X.w) X.A (evalPairs (pairTrees keys values X.env pos)) (λd e=>∃b c,Inv X a Z c e/\VV' b d/\Q b c) X.xe s
def aiH:PPs X pos [] [] []:=λa s Z H Q I h=>pairTrees_nil_walk ⟨[],H,I,.nil,h⟩
def abe(hk:PE X k tk)(hv:PE X v tv)(hr:PPs X pos ks vs trs) :
  PPs X pos (some k::ks) (v::vs) ((tk,tv)::trs):=λa s Z H Q I h =>
 pairTrees_cons_walk (dS (hk a s Z H _ I h) λu c ⟨x,d,e,f,q1⟩=>dS (hv a c Z d _ e q1) λq g ⟨y,i,j,l,q2⟩ =>
  dS (hr a g Z i _ j q2) λr t ⟨n,o,p,b,q3⟩=>⟨(x,y)::n,o,p,.cons ⟨f,l⟩ b,q3⟩)
theorem abG:∀{kvs:List (Key×V)} {ws:List (Value×Value)},VV' (kvs.map λkv=>(kV kv.1,kv.2)) ws->∃rs,Carries (cJ P w) ws rs/\KV kvs rs
 | [],_,r=>by rw[List.map_nil] at r;cases r;exact⟨[],True.intro,.nil⟩
 |p::kvs,_,r=>by
  rw[ab5] at r;cases r with
  | @cons a b as bs h t =>
   obtain⟨rs,c,q⟩:=abG (P:=P) t;obtain⟨e,d⟩:=b;exact⟨(p.1,d)::rs,⟨qY h.1,rfl,c⟩,.cons ⟨rfl,h.2⟩ q⟩
def amI(trs:List (TE×TE)):TE:=λZ H Q=>∀p,H p=none->adD trs Z (ag H p (.dK [])) λd b=>b p=some (.dK [])/\∃a:List (Key×V),d=a.map (λc=>(kV c.1,c.2))/\a.length<=15/\Q (.ref p) (ag b p (.dK (m9 [] a)))
def aiD(h:PPs X pos keys values trs)(hall:keys.all (·.isSome)=true)(hl:keys.length=values.length)(h0:keys≠[])
  (h15:keys.length<=15):PE X (.Dict keys values pos) (amI trs):=by
 intro b s Z H Q I q;have j:=I.ba.fresh (N0 s.heap.objs.size);have l:=I.laid (a:=s.heap.objs.size) (o:=.dK []) (h':=s.heap.push { cls:=.type "dict",data:=.dict #[] }) (t':=s.toks) (λ_ _ q=>x0 _ q) (N0 _) (KD s.heap I.big);refine wpAny_Dict_walk (knd:=cJ X.prog X.w) hall hl h0 h15 (dS (h b _ Z _ _ l (q _ j)) λE F  n=>?_);obtain⟨G,J,i,g,e,d,p,K,q2⟩:=n;subst p;obtain⟨r,c,t⟩:=abG (P:=X.prog) (w:=X.w) g;obtain⟨z,u,v,x,y⟩:=t7 i.ba e;cases x;refine⟨r,c,y,λh' f A=>⟨.ref s.heap.objs.size,_,?_,rfl,q2⟩⟩;have B:(m9 [] d).length<=sizeLine:=by have C:=oH d [];rw[ac6] at C;rw[ad0];lia
 have D:∃q,h'.get? s.heap.objs.size=some q:=let ⟨q,_,_,hq,_⟩:=f;⟨q,hq⟩;exact xD i (e▸True.intro) A D (wu B u (t.merge .nil) f)
end L2
namespace L2
open PySem PySem.Spec PyProof.Rows
section
variable {o e:Expr}{to:TE}{p1 p2 p3 p4 p5:Pos}{j1 j2 j3:Nat}
def acV  (hyz:(y == z)=false) (ho:PE X o to) (hbase:autoParam (attributeBase o "replace" X.env (eval o X.env)=eval o X.env) cw._auto_1) (hline:autoParam ((apos.endLine == cpos.line)=true) cw._auto_1) :
  PE X (.BinOp (.Constant (.str q) j3 p3) .Add (.Call (.Attribute o "replace" apos) [.Constant (.str y) j1 p1,.Constant (.str z) j2 p2] [] cpos) pos)
   (λZ H Q=>to Z H λx H1=>JM y z x H1 λv H2=>∃b:Str,v = .str b/\q.length+b.length<=sizeLine/\Q (.str (q++b)) H2):=by
 intro a s Z H Q I h;refine wpAny_BinOp (Calls.Constant_str ?_);have c:Inv X a Z H { s with toks:=s.toks+1 }:=I.tok _;refine dS (DN (j1:=j1) (j2:=j2) (p1:=p1) (p2:=p2) (apos:=apos) (cpos:=cpos) hyz c (Q:=λv H2=>∃b,v = .str b/\q.length+b.length<=sizeLine/\Q (.str (q++b)) H2)
  (Zs (wpAny_toks_of (n:=1) (show 1<=s.toks+1 by lia) (ho a _ Z H _ c h)) (λ_ _ q=>q) λ_ _ q=>q.2) hbase hline) λu g ⟨x,H2,d,r,b,e,f,q2⟩=>?_
 subst e;obtain⟨t,rfl⟩:=r;exact add_str (λi j=>⟨.str (q++b),H2,d.tok _,⟨_,rfl⟩,q2⟩) f
end
end L2
namespace L2
open PySem PySem.Spec PyProof.Rows
section
variable {P:Program}{K:W.Frag}
def bE.aw(F:bE P w K mg ap dJ k f fd ps sp):bE P w K mg ap CX k f fd ps sp :=
 ⟨F.len,λA a s H b us c Q E hr d e r h=>codeAny_mono (F.run A a s H b us c Q E hr d e r h) λy g hq=>by
  match y,hq with
  |.ok (.ret _),hq=>exact hq⟩
end
end L2
namespace HT
def aan(x y:Int)(xs ys:c9):gY (x::xs) (y::ys)=if x=y then gY xs ys else decide (x>y):=rfl
end HT
namespace L2
open PySem PySem.Spec PyProof.Rows
def adq:W.kas_sort 2=W.KasT.ask 1 0 (λb=>W.KasT.ret (if b=true then #[1,0] else #[0,1])):=by show W.KasT.ask 1 0 _=_;congr 1;funext b;cases b <;> rfl
inductive alo(K:W.Frag)(xs:q7)(H:Hp)(Q:VK):Prop|mk(p a b:Addr)(x1 y1 x2 y2:Int)(_:xs=[.ref p])(_:aV K H p [.ref a,.ref b])(_:bT K H a [.int x1,.int y1])(_:bT K H b [.int x2,.int y2])(_:∀l,H l=none->Q (.ref l) (ag H l (.lst (if HT.gY [x1,y1] [x2,y2]=true then [.ref b,.ref a] else [.ref a,.ref b]))))
def acC:gS X (.builtin "sorted") (alo X.K):=by
 intro B s Z H C us Q I r h;obtain⟨p,a,b,j,l,x2,y2,rfl,hp,ha,Y,q⟩:=h;obtain⟨u,rfl,rx⟩:=vals1 r;cases rx;obtain⟨its,r',pl,hz⟩:=I.list hp;obtain⟨ta,ra,pa,_⟩:=I.tuple ha;obtain⟨tb,rb,pb,_⟩:=I.tuple Y;cases r' with
 |cons e1 r1=>cases r1 with
  |cons e2 r2 =>
   cases r2;cases e1;cases e2;cases ra with
   |cons f1 s1=>cases s1 with
    |cons f2 s2 =>
     cases s2;obtain⟨t1,rfl⟩:=f1;obtain⟨t2,rfl⟩:=f2;cases rb with
     |cons g1 w1=>cases w1 with
      |cons g2 w2 =>
       cases w2;obtain⟨t3,rfl⟩:=g1;obtain⟨t4,rfl⟩:=g2;obtain⟨oa,ea,ca,na,da⟩:=pa;obtain⟨ob,eb,cb,nb,db⟩:=pb;obtain⟨m,x,_⟩:=id I.loc;have nL:∀{c o C n},s.heap.get? c=some o->o.data=Data.seq C n->c≠X.env.locals:=λ{c o C n} e d z=>by obtain⟨oL,es,ep,eL,dL,_⟩:=x;rw[z,eL] at e;cases e;rw[dL] at d;cases d
       refine W.kat_sorted (h₀:=Att.tV s.heap) (L:=X.env.locals) (m:=m) (news:=se (Att.tV s.heap) s.heap X.env.locals) (Att.UM x) Fv pl.isList (show 2<=2 by decide) (show 2<64 by decide) (λD e1 h' F N E=>?_);have kp:∀c o,c≠X.env.locals->s.heap.get? c=some o->h'.get? c=some o:=λc o n e=>(N (c,o) (Q1 _ (mX n (Att.lq _ _) e))).1;have G:=kp _ _ (nL ea da) ea;have J:=kp _ _ (nL eb db) eb;refine W.kat_kind (fs:=[.int j t1,.int x2 t3]) (T:=.type "int") (.cons G ca da rfl (.cons J cb db rfl .nil)) (show 0<2 by decide) (λv U=>?_) rfl ?_
       .have:∃z t,v=Value.int z t:=by simp only[Z5,ad1,an3] at U;rcases U with rfl|rfl <;> exact⟨_,_,rfl⟩
        obtain⟨z,t,rfl⟩:=this;exact λA' Q' E' s' _ h=>X2 h
       show W.KasT.kasWp _ (W.kas_sort 2) _ _;rw[adq];have A:∀w:Bool,w=HT.gY [j,l] [x2,y2]->W.KasFin (Att.tV s.heap) X.env.locals m D e1 (List.map (λi=>[Value.ref a,Value.ref b].getD i Value.none) (if w=true then #[1,0] else #[0,1]:Array Nat).toList) (λs3=>EP X B Z Q (Value.ref D) s3) { s with heap:=h' }:=λw hgt=>by
        have M:s.heap.get? D=none:=by
         cases e:s.heap.get? D with
         |none=>rfl
         |some o=>exact absurd (E (D,o) (mX ((N (D,_) (ab7 ..)).2.1) (Att.lq _ _) e)) (ah0 _)
        refine W.KasFin.intro F N (W.UpdF.head λq hq=>Z6 (E q hq)) (λh2 c F2 N2=>?_);have kp2:∀c o,c≠X.env.locals->s.heap.get? c=some o->h2.get? c=some o:=λc o n e=>(N2 (c,o) (Q1 _ (mX n (Att.lq _ _) e))).1;have eD:=(N2 (D,_) (ab7 ..)).1;have fD:H D=none:=I.ba.new M;have O:List.map (λi=>[Value.ref a,Value.ref b].getD i Value.none) (if w=true then #[1,0] else #[0,1]:Array Nat).toList=if w=true then [Value.ref b,Value.ref a] else [Value.ref a,Value.ref b]:=by cases w <;> rfl
        rw[O] at eD;have U:Vals (if HT.gY [j,l] [x2,y2]=true then [V.ref b,.ref a] else [.ref a,.ref b]) (if w=true then [Value.ref b,Value.ref a] else [Value.ref a,Value.ref b]):=by
         rw[<- hgt];cases w
         .exact .cons rfl (.cons rfl .nil)
         .exact .cons rfl (.cons rfl .nil)
        have R:(if HT.gY [j,l] [x2,y2]=true then [V.ref b,.ref a] else [.ref a,.ref b]).length<=sizeLine:=by split <;> (show 2<=sizeLine;decide)
        have g:∀{b u},H b=some u->b≠D:=λ{b u} e z=>by rw[z,fD] at e;cases e
        refine(λI2=>?_) (I.step (g':=s.gens) (d':=s.drawn) (t':=s.toks) (ch:=[]) (H':=ag H D (.lst (if HT.gY [j,l] [x2,y2]=true then [V.ref b,.ref a] else [.ref a,.ref b]))) (h':=h2) (λb Y=>by cases Y) (λb o n _ _ e _=>kp2 b o n e) (λb o n _ _ e _=>⟨o.slots,kp2 b o n e⟩) (λb o _ e n=>?_) (λb o _ e=>?_) (λb C e=>by rw[aj (g e)];exact e) (λb o u e=>by rw[aj (g e)];exact e) (λb ps e=>⟨#[],by rw[aj (g e),e];simp⟩) (λm' hm'=>?_) (λb u e=>?_) I.ax)
        .exact⟨.ref D,_,I2,rfl,q D fD⟩
        .rw[aj (λz=>?_)];exact n;rw[z] at e;rw[M] at e;cases e
        .by_cases z:b=X.env.locals
         .obtain⟨oL,es,ep,eL,_⟩:=F2.ns;exact⟨oL,by rw[z];exact eL⟩
         .exact⟨o,kp2 b o z e⟩
        .have em:m'=m:=by obtain⟨o1,es1,ep1,a1,d1,_,r1⟩:=hm';obtain⟨o2,es2,ep2,a2,d2,_,r2⟩:=x;rw[a1] at a2;cases a2;rw[d1] at d2;cases d2;funext n;rw[<- r1,<- r2]
         rw[em];exact F2.ns
        .by_cases z:b=D
         .rw[z,aa] at e;cases e;rw[z];exact⟨R,_,c,U,eD⟩
         .rw[aj z] at e;refine(I.ba b u e).stay (λc v f q=>kp2 c v (λy=>?_) q) (λc f=>by rw[aj (g f)];exact f) (λc C f=>by rw[aj (g f)];exact f);have fL:=I.free;rcases f with f|f
          .rw[<- f,y,fL] at e;cases e
          .rw[y,fL] at f;cases f
       refine W.kat_lt J db G da ?_;refine W.kat_cons (wpAny_eqBool_int (W.kat_go (λe=>W.kat_yes (W.kat_cons (wpAny_eqBool_int (W.kat_go (λe2=>W.kat_yes (W.kat_nil ?_)) (λe2=>W.kat_no (W.kat_one _ _ (P.lt_int ?_))))))) (λe=>W.kat_no (oneLt_int ?_))))
       .have S:=an0 e;have z2:=an0 e2;exact A false (by rw[S,z2,HT.aan,w4 rfl,HT.aan,w4 rfl];rfl)
       .have e2:(y2 == l)=false:=e2;have S:=an0 e;have z2:¬l=y2:=λz=>by rw[z] at e2;simp at e2
        exact A (decide (y2<l)) (by rw[S,HT.aan,w4 rfl,HT.aan,C5 z2])
       .have e:(x2 == j)=false:=e;have S:¬j=x2:=λz=>by rw[z] at e;simp at e
        exact A (decide (x2<j)) (by rw[HT.aan,C5 S])
end L2
namespace L2
open PySem PySem.Spec PyProof.Rows
section
variable {a b:PySem.Expr}{ta tb:TE}{rest:List PySem.Expr}
def alw(ha:PE X a ta)(hb:PE X (.BoolOp .Or (b::rest) pos) (λ_ H Q=>Q d H)):PE X (.BoolOp .Or (a::b::rest) pos) (λZ H Q=>ta Z H λx H1=>∃y,(∃k,WI X.K x H1 k/\y=if k=true then x else d)/\Q y H1):=by
 intro e s Z H Q I h;refine BoolOp_or (dS (ha e s Z H _ I h) λv j  l=>?_);obtain⟨x,H1,n,g,q1⟩:=l;obtain⟨y,⟨k,o,rfl⟩,q1⟩:=q1;refine dS (TR e j Z H1 x v (λc f=>c=k/\f=H1) n g ⟨k,o,rfl,rfl⟩) λc p z=>?_;obtain⟨f,i,q,r⟩:=z;subst q;subst r;cases c with
 |false=>exact hb e p Z f Q i q1
 |true=>exact⟨x,f,i,g,q1⟩
end
end L2
namespace L2
open PySem PySem.Spec PyProof.Rows
def Inv.alG(I:Inv X am Z H s)(hns:s.heap.Ns X.env.locals m)(F:h'.Ns X.env.locals m)(kp:∀c o,c≠X.env.locals->s.heap.get? c=some o->h'.get? c=some o):Inv X am Z H { s with heap:=h',toks:=t' }:=by
 refine I.step (g':=s.gens) (d':=s.drawn) (t':=t') (ch:=[]) (H':=H) (h':=h') (λb i=>by cases i) (λb o n _ _ e _=>kp b o n e) (λb o n _ _ e _=>⟨o.slots,kp b o n e⟩) (λb o _ e n=>n) (λb o _ e=>?_) (λb j e=>e) (λb o u e=>e) (λb J e=>⟨#[],by rw[e];simp⟩) (λl d=>?_) (λb u e=>?_) I.ax
 .by_cases z:b=X.env.locals
  .obtain⟨p,K,L,r,_⟩:=F;exact⟨p,z▸r⟩
  .exact⟨o,kp b o z e⟩
 .have t:l=m:=by obtain⟨M,w,x,A,B,_,C⟩:=d;obtain⟨N,D,E,f,g,_,G⟩:=hns;rw[A] at f;cases f;rw[B] at g;cases g;funext n;rw[<- C,<- G]
  rw[t];exact F
 .refine(I.ba b u e).stay (λc v a q=>kp c v (λy=>?_) q) (λc a=>a) (λc j a=>a);have h:=I.free;rcases a with a|a
  .rw[<- a,y,h] at e;cases e
  .rw[y,h] at a;cases a
theorem aeb:∀{ns:c9} {vs:c8},Vals (ns.map V.int) vs->IntsAre vs ns
 | [],_,.nil=>.nil
 |n::ns,_,.cons r h=>by obtain⟨t,rfl⟩:=r;exact .cons n t (aeb h)
def afw (hc:X.aw=true):gS X (.builtin "sum") (λxs H Q=>∃(p:Addr) (ns:c9),xs=[.ref p]/\aV X.K H p (ns.map V.int)/\Q (.int ns.sum) H):=by intro b s Z H xs us Q I r h;obtain⟨p,ns,rfl,d,q⟩:=h;obtain⟨u,rfl,f⟩:=vals1 r;cases f;obtain⟨g,i,j,t⟩:=I.list d;obtain⟨m,a,_⟩:=id I.loc;refine LSm.sum_ints (h₀:=Att.tV s.heap) (L:=X.env.locals) (m:=m) (news:=se (Att.tV s.heap) s.heap X.env.locals) (Att.UM a) Fv (I.ok.hd hc) j.isList (aeb i) (λv l t' F N=>?_);exact⟨.int ns.sum,H,I.alG (t':=l) a F.ns (λc o n e=>(N (c,o) (mX n (Att.lq _ _) e)).1),⟨_,rfl⟩,q⟩
end L2
namespace L2
open PySem PySem.Spec PyProof.Rows
section
variable {e T T2:Addr}{d:Option Addr}
def adC(hst:X.stack=X.env::X.outer)(hfr:X.env.frame=some X.env.locals)
  (hg:Gl (X.held e) x) (hm:X.mg x=some (.ref C2)) (hdb:(x == ("__debug__" : Str))=false) (hC:∃bm Nn mN,ExcAt X.ap C bm Nn mN/\(Value.ref C::bm).contains (.ref C2)=true) (hC2:∃bm Nn mN,ExcAt X.ap C2 bm Nn mN)
  (I:Inv X am Z H s) (fl:jH s.heap e C d T .none) (he:H e=some (jQ e C d)) (hT:H T=none) (lT:X.s₀.heap.objs.size<=T) (pT:∀p∈X.pn++am,p.1≠T)
  (hs:At (X.held e) D (b0::suite) Z H) :
  wpAny (model X.prog X.w) X.A (noteFrame (.ref e) X.env) (λ_ s2=>wpAny (model X.prog X.w) X.A (setFlight (.ref e) none) (λ_ s3 =>
   wpAny (model X.prog X.w) X.A (handleBy (.ref e) X.env (.ExceptHandler (some (.Name x np)) none (b0::suite) hpos::rest)) (SP X am D) X.xe s3) X.xe s2) X.xe s:=by
 obtain⟨bm,Nn,mN,J,h⟩:=hC;obtain⟨K,N2,m2,i⟩:=hC2;have fs:=hst ▸ I.stack;have L:X.A.frames=some (X.env::X.outer):=by rw[I.ok.frames,hst]
 refine CC (ap:=X.ap) L fs hfr fl λM T2 k j y=>?_;have N:=I.noted hst fl he hT lT pT k y.ok;have o:=ac2 I.sz j;have c:=I.ba.fresh j;have t:∀p∈X.pn++am,p.1≠T2:=λp B z=>by have:=P2 (I.pin p B).1;rw[z] at this;exact absurd j (Nat.not_le.mpr this)
 refine jV (s:={ s with heap:=M }) y λF O l=>?_;obtain⟨P,R,S,U,_⟩:=y.tb;have f:=N.Oz S U c o t O;refine wpAny_handleBy_cons (codeAny_handlers_test ?_) (by intro q;cases q);refine ad3 (n6 (X:=X.held e) (pos:=np) (E:=λ_ _=>False) (Q:=λu G=>u = .ref C2/\G = { s with heap:=F }) (f.held e) hg hm ⟨rfl,rfl⟩ hdb) (λu G z=>?_) λ_ _ z=>z.elim;obtain⟨rfl,rfl⟩:=z;obtain⟨oe,vs,W,Y,_⟩:=l.ob;obtain⟨B,gg,dr,tk,os⟩:=s;refine C8 (J.keeps f.bk) (i.keeps f.bk) W Y h ?_;show codeAny _ _ _ _ _;refine codeAny_handlers_suite ?_;refine jV (s:=⟨F,gg,dr,tk,os⟩) l λg4 k4 y4=>?_;obtain⟨oT3,ts3,w1,w2,_⟩:=l.tb;have I4:=f.Oz w1 w2 c o t k4;refine ad3 (hs am _ (I4.held e)) (λfw s6 g=>?_) λ_ _ z=>z.elim;cases fw with
 |next=>obtain⟨n,a,b,q⟩:=g;exact⟨_,a,b.VF I.ok.hd,q⟩
 |brk=>obtain⟨n,a,b,q⟩:=g;exact⟨_,a,b.VF I.ok.hd,q⟩
 |cont=>obtain⟨n,a,b,q⟩:=g;exact⟨_,a,b.VF I.ok.hd,q⟩
 |ret u=>obtain⟨v,n,a,b,r,q⟩:=g;exact⟨v,_,a,b.VF I.ok.hd,r,q⟩
def abx(hst:X.stack=X.env::X.outer)(hfr:X.env.frame=some X.env.locals)
  (hg:Gl X x) (hm:X.mg x=some (.ref C2)) (hdb:(x == ("__debug__" : Str))=false) (h2:AV X.K C2=true) :
  PS X (.Try body [.ExceptHandler (some (.Name x np)) none (b0::suite) hpos] [] [] pos) (λD Z H=>∃Th,(∀am,At (X.oK am Th) D body Z H) /\
   ∀Z' C e H',Th Z' C e H'->AV X.K C=true/\W.mroIn X.K C (.ref C2)=some true/\At (X.held e) D (b0::suite) Z' H'):=by
 rintro am s Z H D I ⟨Th,h,i⟩;refine wpAny_Try_except (ad3 (h am [] s (I.oK Th)) (λf j g=>?_) λev j z=>by obtain⟨e,C,T,d,a,b,rfl,c,l,n,o,p,t,w⟩:=z;obtain⟨y,A,B⟩:=i a C e b w;exact adC hst hfr hg hm hdb (EE I.ok.mod.uF y A) (MP I.ok.mod.uF h2) c l n o p t B)
 .cases f with
  |next=>obtain⟨a,b,c,q⟩:=g;exact ao7 ⟨a,b,c.tried,q⟩
  |brk=>obtain⟨a,b,c,q⟩:=g;exact⟨a,b,c.tried,q⟩
  |cont=>obtain⟨a,b,c,q⟩:=g;exact⟨a,b,c.tried,q⟩
  |ret u=>obtain⟨v,a,b,c,r,q⟩:=g;exact⟨v,a,b,c.tried,r,q⟩
end
end L2
namespace K63
noncomputable section
open PySem L2
set_option hygiene false
local macro_rules | `(tactic| room)=>`(tactic| (refine ⟨rfl,λ_ _ _ _ hr=>wm ?_⟩;intro X0 E0))
noncomputable def top(i:Nat):Stmt:=Challenge.pw_tintrow_k63_whole_scribe.main.body.getD i (.Pass ⟨0,0,0,0⟩)
noncomputable abbrev AA(i j:Nat):=inClass (top i) j
abbrev AC(N:List Str)(n:Nat)(s:Stmt):=aI N (N.take n) (az s)
def m8:AC ["rows_marks","told","waiting","row","marks","place","kind","number"] 1 (top 9):={}
def Td:AC ["word"] 1 (top 15):={}
def U8:AC ["self","pattern","colour","deed","goal","fold"] 6 (AA 16 0):={}
def TN:AC ["self","name","colour","rules"] 4 (AA 17 0):={}
def VG:AC ["self","modes"] 2 (AA 18 0):={}
def Tr:AC ["rules"] 1 (top 19):={}
def Rv:AC ["mode"] 1 (top 20):={}
def RZ:AC ["rule"] 1 (top 21):={}
def Vw:AC ["self"] 1 (AA 23 1):={}
def RL:AC ["self","text"] 2 (AA 24 0):={}
def Sw:AC ["self","row","at"] 3 (AA 24 1):={}
def VD:AC ["self"] 1 (AA 24 2):={}
def Uh:AC ["self","signs"] 2 (AA 25 0):={}
def T4:AC ["self","row","at"] 3 (AA 25 1):={}
def SE:AC ["self"] 1 (AA 25 2):={}
def V2:AC ["self","signs"] 2 (AA 26 0):={}
def Te:AC ["self","row","at"] 3 (AA 26 1):={}
def UC:AC ["self"] 1 (AA 26 2):={}
def Uj:AC ["self","signs"] 2 (AA 27 0):={}
def An:AC ["self","row","at","end"] 3 (AA 27 1):={}
def Vn:AC ["self"] 1 (AA 27 2):={}
def W0:AC ["self","row","at"] 3 (AA 28 0):={}
def Xr:AC ["self"] 1 (AA 28 1):={}
def Sg:AC ["self","row","at"] 3 (AA 29 0):={}
def Wc:AC ["self","row","at"] 3 (AA 30 0):={}
def zI:AC ["rules","mode","row","at","number","rule"] 4 (top 33):={}
def Ut:AC ["modes","rule"] 2 (top 34):={}
def JP:AC ["rules","found"] 1 (top 35):={}
def sO:AC ["rules","row","first","ring"] 1 (top 36):={}
def ML:AC [] 0 (top 37):={}
def tQ:AC ["rules","first","row","ring","modes","rule"] 3 (top 38):={}
def zR:AC ["rules","mode","row","number","rule"] 3 (top 39):={}
def nB:AC ["rules","modes","row","on","tints","marks","at","mode","number","rule"] 3 (top 41):={}
def JG:AC ["self","rules","modes","row","told"] 4 (AA 43 0):={}
def RT:AC ["self","rules","rows"] 3 (AA 44 0):={}
def RC:AC ["self"] 1 (AA 44 1):={}
def Tt:AC ["self","row"] 2 (AA 44 2):={}
def UE:AC ["self","row"] 2 (AA 44 3):={}
def Tn:AC ["self","row"] 2 (AA 44 4):={}
def qH:AC ["self","row","many","rows","taken","ahead","back","first","changed"] 4 (AA 44 5):={}
def AM:AC ["self","row","at","text","signs"] 4 (AA 44 6):={}
def AZ:AC ["self","row","at","row2","at2","left"] 5 (AA 44 7):={}
def ua:AC ["self","modes","rows","gone_rows","row","gone"] 3 (AA 44 9):={}
def AL:AC ["self","row","at"] 2 (AA 44 10):={}
def Ug:AC ["self","row"] 2 (AA 44 11):={}
def Sm:AC ["self","row"] 2 (AA 44 12):={}
def Kn:AC ["self","row"] 2 (AA 44 13):={}
def Jq:AC ["self","row","at"] 3 (AA 44 14):={}
def Il:AC ["self","row","at","row2","at2"] 5 (AA 44 15):={}
def Vv:AC ["self","row","many"] 3 (AA 44 16):={}
def sS:AC ["some","others","many","one","other"] 2 (top 45):={}
def Le:AC ["some","others"] 2 (top 46):={}
def S4:AC ["self","row","taken","given","places"] 5 (AA 48 0):={}
def U3:AC ["self","rules","rows"] 3 (AA 49 0):={}
def SI:AC ["self"] 1 (AA 49 1):={}
def Um:AC ["self"] 1 (AA 49 2):={}
def U1:AC ["self"] 1 (AA 49 3):={}
def HP:AC ["self","name","row","at","places"] 4 (AA 49 4):={}
def Er:AC ["self","name","places"] 2 (AA 49 5):={}
def qR:AC ["self","row","at","text","ahead","count"] 4 (AA 49 6):={}
def qO:AC ["self","row","at","row2","at2","ahead","count"] 5 (AA 49 7):={}
def F9:AC ["self","row","taken","many","given"] 4 (AA 49 8):={}
def AH:AC ["self","deed"] 1 (AA 49 9):={}
def Av:AC ["self","deed"] 1 (AA 49 10):={}
def wK:AC ["place","first","text","pieces","more","begin"] 3 (top 50):={}
def R3:AC ["place","first","second"] 3 (top 51):={}
def Xo:AC ["self","row","text"] 3 (AA 59 0):={}
def Xq:AC ["self"] 1 (AA 59 1):={}
def WW:AC ["self"] 1 (AA 59 2):={}
def Xs:AC ["self","good"] 2 (AA 59 3):={}
def Oi:AC ["self","good","word"] 2 (AA 59 4):={}
def W8:AC ["self","words"] 2 (AA 59 5):={}
def Xw:AC ["self"] 1 (AA 59 6):={}
def QE:AC ["self","word"] 1 (AA 59 7):={}
def lV:AC ["text","rows","numbers","modes","nowhere","number","row","cursor","rules"] 1 (top 60):={}
def xJ:AC ["rows","numbers","row","words"] 1 (top 61):={}
def z5:AC ["cursor","modes","name","colour"] 2 (top 62):={}
def qI:AC ["cursor","numbers","nowhere","pattern","colour","deed","goal","fold"] 3 (top 63):={}
def Aa:AC ["cursor","kind","signs"] 1 (top 64):={}
def AJ:AC ["cursor","numbers","nowhere","place","name"] 3 (top 65):={}
def xo:AC ["_law_script","_law_k","_law_many","_law_cell","_law_left","_law_seed"] 3 (top 67):={}
def oM:AC ["_law_script","_law_some","_law_c","_law_way","_law_base","_law_deep","_law_quoted","_law_modes_here","_law_word"] 1 (top 68):={}
def wN:AC ["_law_modes_here","_law_texts","_law_name","_law_colour","_law_rules","_law_kind","_law_arg","_law_paint","_law_deed_here","_law_goal","_law_fold","_law_words"] 1 (top 69):={}
def A7:AC ["_law_kind","_law_arg","_law_row_here","_law_at","_law_end"] 4 (top 70):={}
def wR:AC ["_law_pile","_law_deed_here","_law_goal"] 3 (top 71):={}
def ZN:AC ["_law_modes_here","_law_pile","_law_row_here","_law_tints","_law_marks","_law_at","_law_is_over","_law_colour","_law_fits","_law_kind","_law_arg","_law_paint","_law_deed_here","_law_goal","_law_fold","_law_eaten_here"] 3 (top 72):={}
def tw:AC ["_law_modes_here","_law_rows","_law_piles","_law_tints","_law_marks","_law_row_here","_law_one","_law_pile","_law_some"] 2 (top 73):={}
def fB:AC ["_law_modes_here","_law_rows","_law_row_here","_law_many","_law_fresh","_law_old","_law_first","_law_last","_law_piles","_law_now","_law_number","_law_at"] 5 (top 74):={}
def wQ:AC ["_law_rows_marks","_law_found","_law_waiting","_law_row_here","_law_place_here","_law_kind","_law_number"] 1 (top 75):={}
def m7:AC ["_law_rows","_law_spot_here"] 2 (top 76):={}
def cr:AC ["_law_rows","_law_flat_here","_law_row_here"] 2 (top 77):={}
def cx:AC ["_law_rows","_law_spots","_law_first","_law_last","_law_text","_law_begin","_law_end","_law_whole_here","_law_now","_law_found","_law_name","_law_flat_here"] 5 (top 78):={}
def oS:AC ["_law_script","_law_k","_law_signs"] 2 (top 79):={}
def dq:AC ["_law_script","_law_k","_law_rows"] 2 (top 80):={}
def Kc:AC ["_law_script","_law_k","_law_rows","_law_row_here"] 3 (top 81):={}
def fS:AC ["_law_scribe","_law_kept","_law_modes_here","_law_is_undo","_law_trail","_law_other","_law_found","_law_row_here","_law_many","_law_fresh","_law_rows","_law_spots","_law_first","_law_again","_law_due"] 4 (top 82):={}
def eY:AC ["_law_script","_law_k","_law_scribe","_law_kept","_law_modes_here","_law_rows","_law_first","_law_last","_law_text","_law_found","_law_pair","_law_now","_law_spots","_law_many","_law_fresh"] 5 (top 83):={}
def du:AC ["_law_script","_law_k","_law_scribe","_law_kept","_law_modes_here","_law_way","_law_name","_law_spots","_law_first"] 5 (top 84):={}
def jl:AC ["_law_scribe","_law_kept","_law_modes_here","_law_rows","_law_piles","_law_tints","_law_marks","_law_text","_law_k"] 3 (top 85):={}
def gu:AC ["_law_script","_law_modes_here","_law_rows","_law_scribe","_law_kept","_law_k"] 1 (top 86):={}
set_option genInjectivity false in
structure eZ where
 dN:Addr
 jL:Addr
 fE:Addr
 kg:Addr
 iV:Addr
 kO:Addr
 ee:Addr
 iZ:Addr
 mW:Addr
 iJ:Addr
 mU:Addr
 cj:Addr
 bA:Addr
 dw:Addr
 aG:Addr
 dW:Addr
 Jr:Addr
 M6:FuncData
 ID:Addr
 Nj:FuncData
 Fq:Addr
 QB:FuncData
 Ie:Addr
 Ob:FuncData
 Iz:Addr
 Pq:FuncData
 KZ:Addr
 Pd:FuncData
 EC:Addr
 OE:FuncData
 GQ:Addr
 PY:FuncData
 vG:Addr
 Bx:FuncData
 Ez:Addr
 Na:FuncData
 CH:Addr
 HZ:FuncData
 BW:Addr
 F5:FuncData
 Ib:Addr
 NI:FuncData
 Cr:Addr
 FH:FuncData
 BR:Addr
 F8:FuncData
 Es:Addr
 Of:FuncData
 Cu:Addr
 KA:FuncData
 Cp:Addr
 Iv:FuncData
 ES:Addr
 O9:FuncData
 B9:Addr
 HQ:FuncData
 Cm:Addr
 Gv:FuncData
 Ll:Addr
 Rx:FuncData
 Ml:Addr
 UU:FuncData
 BY:Addr
 Hq:FuncData
 BH:Addr
 JR:FuncData
 Im:Addr
 PV:FuncData
 F7:Addr
 Qo:FuncData
 Hi:Addr
 QM:FuncData
 J2:Addr
 NT:FuncData
 Ao:Addr
 JN:FuncData
 HD:Addr
 NX:FuncData
 Iu:Addr
 M7:FuncData
 EX:Addr
 PX:FuncData
 KI:Addr
 O7:FuncData
 FL:Addr
 QF:FuncData
 Ir:Addr
 Nc:FuncData
 En:Addr
 QS:FuncData
 HM:Addr
 Oq:FuncData
 Fi:Addr
 Qz:FuncData
 E2:Addr
 Qh:FuncData
 Bt:Addr
 HG:FuncData
 Ce:Addr
 El:FuncData
 EY:Addr
 NC:FuncData
 J6:Addr
 Py:FuncData
 EK:Addr
 Pw:FuncData
 KH:Addr
 Pj:FuncData
 Bh:Addr
 JT:FuncData
 B8:Addr
 IB:FuncData
 B5:Addr
 IY:FuncData
 Jt:Addr
 P6:FuncData
 Gd:Addr
 QH:FuncData
 AF:Addr
 Fe:FuncData
 GV:Addr
 Ol:FuncData
 Jw:Addr
 Pu:FuncData
 JZ:Addr
 Nd:FuncData
 HU:Addr
 ND:FuncData
 Gw:Addr
 Q2:FuncData
 Jj:Addr
 OD:FuncData
 Hv:Addr
 Pe:FuncData
 BD:Addr
 JF:FuncData
 BZ:Addr
 FD:FuncData
 Fd:Addr
 P5:FuncData
 BX:Addr
 Fo:FuncData
 Cd:Addr
 IU:FuncData
 Kr:Addr
 Qc:FuncData
 Kg:Addr
 P4:FuncData
 Ur:Addr
 Xk:FuncData
 UD:Addr
 XN:FuncData
 T3:Addr
 WV:FuncData
 Rt:Addr
 WX:FuncData
 Vo:Addr
 Xf:FuncData
 RY:Addr
 Xc:FuncData
 Ub:Addr
 Yi:FuncData
 RI:Addr
 Yv:FuncData
 Fw:Addr
 Q9:FuncData
 Ep:Addr
 Ql:FuncData
 Ff:Addr
 Ov:FuncData
 Fl:Addr
 Nu:FuncData
 II:Addr
 QX:FuncData
 GN:Addr
 Q6:FuncData
 Jc:Addr
 Qk:FuncData
 afC:Addr
 akB:FuncData
 agf:Addr
 akf:FuncData
 Ip:Addr
 Nv:FuncData
 afU:Addr
 ajn:FuncData
 afD:Addr
 akQ:FuncData
 Fy:Addr
 NZ:FuncData
 afu:Addr
 akY:FuncData
 ahE:Addr
 akS:FuncData
 agn:Addr
 ajk:FuncData
 ahY:Addr
 ajl:FuncData
 aie:Addr
 ajB:FuncData
 Jl:Addr
 Ng:FuncData
 afR:Addr
 akv:FuncData
 Hz:Addr
 NV:FuncData
 GP:Addr
 PJ:FuncData
 afe:Addr
 akc:FuncData
 agu:Addr
 ajI:FuncData
 ahA:Addr
 akz:FuncData
 lS:Addr
 sj:Addr
 xg:Addr
 rT:Addr
abbrev ac(m:Str->Option Value)(x:Str)(a:Addr):=m x=some (.ref a)
structure Txt(K:W.Frag)(mg:g6)(t:eZ):Prop where
 nE:ac mg "Nothing" t.dN
 yU:ac mg "Rule" t.jL
 zc:ac mg "Mode" t.fE
 uY:ac mg "Rules" t.kg
 IK:ac mg "Word" t.iV
 Mc:ac mg "One" t.kO
 yZ:ac mg "Without" t.ee
 Ky:ac mg "Many" t.iZ
 LU:ac mg "Any" t.mW
 Dy:ac mg "Still" t.iJ
 LZ:ac mg "End" t.mU
 rB:ac mg "GoneRow" t.cj
 AR:ac mg "Tinted" t.bA
 Fz:ac mg "Deed" t.dw
 Az:ac mg "Scribe" t.aG
 A3:ac mg "Cursor" t.dW
 EU:dI K "__init__" "Rule.__init__" (AA 16 0) t.Fq t.QB
 GX:dI K "__init__" "Mode.__init__" (AA 17 0) t.Ie t.Ob
 Hx:dI K "__init__" "Rules.__init__" (AA 18 0) t.Iz t.Pq
 Ft:dI K "eats" "Pattern.eats" (AA 23 1) t.vG t.Bx
 Oc:dI K "__init__" "Word.__init__" (AA 24 0) t.Ez t.Na
 NO:dI K "eaten" "Word.eaten" (AA 24 1) t.CH t.HZ
 Qd:dI K "eats" "Word.eats" (AA 24 2) t.BW t.F5
 Qp:dI K "__init__" "One.__init__" (AA 25 0) t.Ib t.NI
 OP:dI K "eaten" "One.eaten" (AA 25 1) t.Cr t.FH
 Nx:dI K "eats" "One.eats" (AA 25 2) t.BR t.F8
 OY:dI K "__init__" "Without.__init__" (AA 26 0) t.Es t.Of
 Qe:dI K "eaten" "Without.eaten" (AA 26 1) t.Cu t.KA
 NP:dI K "eats" "Without.eats" (AA 26 2) t.Cp t.Iv
 Qi:dI K "__init__" "Many.__init__" (AA 27 0) t.ES t.O9
 Pk:dI K "eaten" "Many.eaten" (AA 27 1) t.B9 t.HQ
 Nf:dI K "eats" "Many.eats" (AA 27 2) t.Cm t.Gv
 Yp:dI K "eaten" "Any.eaten" (AA 28 0) t.Ll t.Rx
 Wu:dI K "eats" "Any.eats" (AA 28 1) t.Ml t.UU
 Pr:dI K "eaten" "Still.eaten" (AA 29 0) t.BY t.Hq
 Nl:dI K "eaten" "End.eaten" (AA 30 0) t.BH t.JR
 Ey:dI K "__init__" "GoneRow.__init__" (AA 43 0) t.KI t.O7
 QV:dI K "__init__" "Tinted.__init__" (AA 44 0) t.FL t.QF
 pM:dI K "rows" "Tinted.rows" (AA 44 1) t.Ir t.Nc
 Pb:dI K "begin" "Tinted.begin" (AA 44 2) t.En t.QS
 OI:dI K "colours" "Tinted.colours" (AA 44 3) t.HM t.Oq
 EJ:dI K "marks" "Tinted.marks" (AA 44 4) t.Fi t.Qz
 zx:dI K "change" "Tinted.change" (AA 44 5) t.E2 t.Qh
 CG:dI K "put" "Tinted.put" (AA 44 6) t.Bt t.HG
 BP:dI K "cut" "Tinted.cut" (AA 44 7) t.Ce t.El
 Gu:dI K "go_over" "Tinted.go_over" (AA 44 9) t.EY t.NC
 PZ:dI K "go_on" "Tinted.go_on" (AA 44 10) t.J6 t.Py
 Bl:dI K "modes_ahead" "Tinted.modes_ahead" (AA 44 11) t.EK t.Pw
 Bk:dI K "gone_row" "Tinted.gone_row" (AA 44 12) t.KH t.Pj
 zf:dI K "ask_row" "Tinted.ask_row" (AA 44 13) t.Bh t.JT
 pK:dI K "ask_place" "Tinted.ask_place" (AA 44 14) t.B8 t.IB
 BG:dI K "ask_places" "Tinted.ask_places" (AA 44 15) t.B5 t.IY
 Nb:dI K "ask_taken" "Tinted.ask_taken" (AA 44 16) t.Jt t.P6
 P9:dI K "__init__" "Deed.__init__" (AA 48 0) t.GV t.Ol
 Q0:dI K "__init__" "Scribe.__init__" (AA 49 0) t.Jw t.Pu
 OR:dI K "text" "Scribe.text" (AA 49 1) t.JZ t.Nd
 E6:dI K "folds" "Scribe.folds" (AA 49 2) t.HU t.ND
 Ho:dI K "marks" "Scribe.marks" (AA 49 3) t.Gw t.Q2
 NW:dI K "set_mark" "Scribe.set_mark" (AA 49 4) t.Jj t.OD
 M8:dI K "drop_mark" "Scribe.drop_mark" (AA 49 5) t.Hv t.Pe
 yy:dI K "put" "Scribe.put" (AA 49 6) t.BD t.JF
 CA:dI K "cut" "Scribe.cut" (AA 49 7) t.BZ t.FD
 IZ:dI K "keep" "Scribe.keep" (AA 49 8) t.Fd t.P5
 BQ:dI K "undo" "Scribe.undo" (AA 49 9) t.BX t.Fo
 Cg:dI K "redo" "Scribe.redo" (AA 49 10) t.Cd t.IU
 WU:dI K "__init__" "Cursor.__init__" (AA 59 0) t.Ur t.Xk
 IT:dI K "more" "Cursor.more" (AA 59 1) t.UD t.XN
 zg:dI K "peek" "Cursor.peek" (AA 59 2) t.T3 t.WV
 zK:dI K "ask" "Cursor.ask" (AA 59 3) t.Rt t.WX
 MM:dI K "take" "Cursor.take" (AA 59 4) t.Vo t.Xf
 IG:dI K "take_choice" "Cursor.take_choice" (AA 59 5) t.RY t.Xc
 FZ:dI K "take_name" "Cursor.take_name" (AA 59 6) t.Ub t.Yi
 Wx:dI K "take_signs" "Cursor.take_signs" (AA 59 7) t.RI t.Yv
 Gg:dI K "folds" "folds" (top 9) t.Jr t.M6
 zd:dI K "is_name" "is_name" (top 15) t.ID t.Nj
 JK:ac mg "is_name" t.ID
 J4:dI K "copied_rules" "copied_rules" (top 19) t.KZ t.Pd
 Ro:ac mg "copied_rules" t.KZ
 HR:dI K "copied_mode" "copied_mode" (top 20) t.EC t.OE
 SS:ac mg "copied_mode" t.EC
 GW:dI K "copied_rule" "copied_rule" (top 21) t.GQ t.PY
 VJ:ac mg "copied_rule" t.GQ
 xY:dI K "first_rule" "first_rule" (top 33) t.Im t.PV
 Hh:ac mg "first_rule" t.Im
 yS:dI K "do_deed" "do_deed" (top 34) t.F7 t.Qo
 HE:ac mg "do_deed" t.F7
 Jo:dI K "ask_rings" "ask_rings" (top 35) t.Hi t.QM
 Ri:ac mg "ask_rings" t.Hi
 Kl:dI K "ring_of" "ring_of" (top 36) t.J2 t.NT
 UR:ac mg "ring_of" t.J2
 zP:dI K "short_rows" "short_rows" (top 37) t.Ao t.JN
 LA:ac mg "short_rows" t.Ao
 yu:dI K "ring_from" "ring_from" (top 38) t.HD t.NX
 Gk:ac mg "ring_from" t.HD
 yp:dI K "idle_rule" "idle_rule" (top 39) t.Iu t.M7
 IC:ac mg "idle_rule" t.Iu
 Gj:dI K "gone_over" "gone_over" (top 41) t.EX t.PX
 Vy:ac mg "gone_over" t.EX
 xQ:dI K "same_ahead" "same_ahead" (top 45) t.Gd t.QH
 Kf:ac mg "same_ahead" t.Gd
 zJ:dI K "same_back" "same_back" (top 46) t.AF t.Fe
 Lz:ac mg "same_back" t.AF
 HL:dI K "place_put" "place_put" (top 50) t.Kr t.Qc
 Rl:ac mg "place_put" t.Kr
 J0:dI K "place_cut" "place_cut" (top 51) t.Kg t.P4
 Si:ac mg "place_cut" t.Kg
 Hw:dI K "read_rules" "read_rules" (top 60) t.Fw t.Q9
 Vm:ac mg "read_rules" t.Fw
 E8:dI K "mode_numbers" "mode_numbers" (top 61) t.Ep t.Ql
 Vu:ac mg "mode_numbers" t.Ep
 Et:dI K "read_mode" "read_mode" (top 62) t.Ff t.Ov
 RQ:ac mg "read_mode" t.Ff
 KQ:dI K "read_rule" "read_rule" (top 63) t.Fl t.Nu
 RA:ac mg "read_rule" t.Fl
 JC:dI K "read_pattern" "read_pattern" (top 64) t.II t.QX
 RM:ac mg "read_pattern" t.II
 Ks:dI K "read_goal" "read_goal" (top 65) t.GN t.Q6
 Tj:ac mg "read_goal" t.GN
 cA:dI K "_law_draw" "_law_draw" (top 67) t.Jc t.Qk
 dR:ac mg "_law_draw" t.Jc
 aho:dI K "_law_modes" "_law_modes" (top 68) t.afC t.akB
 alz:ac mg "_law_modes" t.afC
 ago:dI K "_law_rules_text" "_law_rules_text" (top 69) t.agf t.akf
 alM:ac mg "_law_rules_text" t.agf
 yQ:dI K "_law_eaten" "_law_eaten" (top 70) t.Ip t.Nv
 Hf:ac mg "_law_eaten" t.Ip
 agB:dI K "_law_behind" "_law_behind" (top 71) t.afU t.ajn
 alU:ac mg "_law_behind" t.afU
 ahl:dI K "_law_walk" "_law_walk" (top 72) t.afD t.akQ
 alP:ac mg "_law_walk" t.afD
 tL:dI K "_law_whole" "_law_whole" (top 73) t.Fy t.NZ
 Ay:ac mg "_law_whole" t.Fy
 abP:dI K "_law_count" "_law_count" (top 74) t.afu t.akY
 adt:ac mg "_law_count" t.afu
 afz:dI K "_law_folds" "_law_folds" (top 75) t.ahE t.akS
 alC:ac mg "_law_folds" t.ahE
 abQ:dI K "_law_flat" "_law_flat" (top 76) t.agn t.ajk
 adK:ac mg "_law_flat" t.agn
 afI:dI K "_law_spot" "_law_spot" (top 77) t.ahY t.ajl
 alI:ac mg "_law_spot" t.ahY
 ahO:dI K "_law_moved" "_law_moved" (top 78) t.aie t.ajB
 alq:ac mg "_law_moved" t.aie
 F6:dI K "_law_row" "_law_row" (top 79) t.Jl t.Ng
 Uz:ac mg "_law_row" t.Jl
 agD:dI K "_law_piece" "_law_piece" (top 80) t.afR t.akv
 aml:ac mg "_law_piece" t.afR
 qo:dI K "_law_place" "_law_place" (top 81) t.Hz t.NV
 wX:ac mg "_law_place" t.Hz
 FI:dI K "_law_back" "_law_back" (top 82) t.GP t.PJ
 UP:ac mg "_law_back" t.GP
 agX:dI K "_law_moving" "_law_moving" (top 83) t.afe t.akc
 alF:ac mg "_law_moving" t.afe
 ahd:dI K "_law_deed" "_law_deed" (top 84) t.agu t.ajI
 alf:ac mg "_law_deed" t.agu
 acZ:dI K "_law_is_told" "_law_is_told" (top 85) t.ahA t.akz
 agp:ac mg "_law_is_told" t.ahA
 sP:ac mg "folds_folds" t.Jr
 sr:pH K t.iV
 LN:Mk K t.iV t.Ez
 kD:b8 K t.iV "wanted"
 Xd:Meth K t.iV "eaten" t.CH
 WO:Meth K t.iV "eats" t.BW
 Aq:pH K t.kO
 Vt:Mk K t.kO t.Ib
 rj:b8 K t.kO "signs"
 Xz:Meth K t.kO "eaten" t.Cr
 WH:Meth K t.kO "eats" t.BR
 oR:pH K t.ee
 Ai:Mk K t.ee t.Es
 mw:b8 K t.ee "signs"
 Xu:Meth K t.ee "eaten" t.Cu
 Yh:Meth K t.ee "eats" t.Cp
 wB:pH K t.iZ
 MX:Mk K t.iZ t.ES
 pZ:b8 K t.iZ "signs"
 WL:Meth K t.iZ "eaten" t.B9
 YH:Meth K t.iZ "eats" t.Cm
 Wa:pH K t.mW
 Tg:Yr K t.mW
 Zl:Meth K t.mW "eaten" t.Ll
 YY:Meth K t.mW "eats" t.Ml
 EZ:pH K t.iJ
 E7:Yr K t.iJ
 Yg:Meth K t.iJ "eaten" t.BY
 v9:Meth K t.iJ "eats" t.vG
 Vz:pH K t.mU
 Vj:Yr K t.mU
 Xy:Meth K t.mU "eaten" t.BH
 zV:Meth K t.mU "eats" t.vG
 cW:pH K t.jL
 Ck:Mk K t.jL t.Fq
 gj:b8 K t.jL "pattern"
 kj:b8 K t.jL "colour"
 iw:b8 K t.jL "deed"
 jR:b8 K t.jL "goal"
 jW:b8 K t.jL "fold"
 gF:pH K t.fE
 Cb:Mk K t.fE t.Ie
 jT:b8 K t.fE "name"
 kq:b8 K t.fE "colour"
 gJ:b8 K t.fE "rules"
 jf:pH K t.kg
 xO:Mk K t.kg t.Iz
 d7:b8 K t.kg "modes"
 bx:pH K t.dW
 DS:Mk K t.dW t.Ur
 qp:b8 K t.dW "row"
 jF:b8 K t.dW "words"
 jh:b8 K t.dW "at"
 Lg:Meth K t.dW "more" t.UD
 AB:Meth K t.dW "peek" t.T3
 DM:Meth K t.dW "ask" t.Rt
 SA:Meth K t.dW "take" t.Vo
 LV:Meth K t.dW "take_choice" t.RY
 Lj:Meth K t.dW "take_name" t.Ub
 ZG:Meth K t.dW "take_signs" t.RI
 cB:pH K t.cj
 tZ:Mk K t.cj t.KI
 cU:b8 K t.cj "signs"
 i0:b8 K t.cj "before"
 mD:b8 K t.cj "tints"
 iY:b8 K t.cj "behind"
 kQ:b8 K t.cj "folded"
 aL:pH K t.bA
 Dm:Mk K t.bA t.FL
 jA:b8 K t.bA "rules"
 aW:b8 K t.bA "gone_rows"
 rE:Meth K t.bA "rows" t.Ir
 Xm:Meth K t.bA "begin" t.En
 Wz:Meth K t.bA "colours" t.HM
 QJ:Meth K t.bA "marks" t.Fi
 Bw:Meth K t.bA "change" t.E2
 NK:Meth K t.bA "put" t.Bt
 Qs:Meth K t.bA "cut" t.Ce
 NY:Meth K t.bA "go_over" t.EY
 Yk:Meth K t.bA "go_on" t.J6
 G5:Meth K t.bA "modes_ahead" t.EK
 Ig:Meth K t.bA "gone_row" t.KH
 Jz:Meth K t.bA "ask_row" t.Bh
 t9:Meth K t.bA "ask_place" t.B8
 PB:Meth K t.bA "ask_places" t.B5
 Yl:Meth K t.bA "ask_taken" t.Jt
 fW:pH K t.dw
 MG:Mk K t.dw t.GV
 oU:b8 K t.dw "row"
 lN:b8 K t.dw "taken"
 lE:b8 K t.dw "given"
 jt:b8 K t.dw "places_ahead"
 gw:b8 K t.dw "places_behind"
 aN:pH K t.aG
 Dt:Mk K t.aG t.Jw
 bN:b8 K t.aG "tinted"
 bH:b8 K t.aG "places"
 fR:b8 K t.aG "done"
 eS:b8 K t.aG "undone"
 WN:Meth K t.aG "text" t.JZ
 P7:Meth K t.aG "folds" t.HU
 QZ:Meth K t.aG "marks" t.Gw
 Yd:Meth K t.aG "set_mark" t.Jj
 XI:Meth K t.aG "drop_mark" t.Hv
 E3:Meth K t.aG "put" t.BD
 QT:Meth K t.aG "cut" t.BZ
 Ph:Meth K t.aG "keep" t.Fd
 Px:Meth K t.aG "undo" t.BX
 Q8:Meth K t.aG "redo" t.Cd
 uQ:Dq K t.dN
 uu:W.excIn K t.dN VE "ValueError.__new__" = true
 aap:W.mroIn K t.dN (.ref t.dN)=some true
 aaP:W.kitOne K (.type "int") (.type "bool")=some false
 yT:∃u,mg "LETTERS" = some u/\RelV (.str "abcdefghijklmnopqrstuvwxyz") u
 qM:∃u,mg "LONGEST_NAME" = some u/\RelV (.int 8) u
 nJ:∃u,mg "START" = some u/\RelV (.int 0) u
 C0:∃u,mg "SIGNS" = some u/\RelV (.str " !\"#$&'()*+,-./0123456789:;<=>?@ABCDEFGHIJKLMNOPQRSTUVWXYZ[\\]^_`abcdefghijklmnopqrstuvwxyz{|}~") u
 uw:∃u,mg "MOST_MODES" = some u/\RelV (.int 12) u
 sV:∃u,mg "MOST_RULES" = some u/\RelV (.int 12) u
 xq:ac mg "PATTERNS" t.lS
 zq:∀H,bT K H t.lS [.str "word",.str "one",.str "none",.str "many",.str "any",.str "still",.str "end"]
 Dv:ac mg "DEEDS" t.sj
 J5:∀H,bT K H t.sj [.str "stay",.str "push",.str "pop",.str "into"]
 Dz:ac mg "GOING" t.xg
 JU:∀H,bT K H t.xg [.str "push",.str "into"]
 CL:ac mg "FOLDS" t.rT
 Jx:∀H,bT K H t.rT [.str "open",.str "close"]
 Yq:mg "all" = none
 adu:mg "bool" = none
 qN:mg "dict" = none
 mY:mg "enumerate" = none
 XZ:mg "int" = none
 pP:mg "isinstance" = none
 bD:mg "len" = none
 jn:mg "list" = none
 Oj:mg "max" = none
 HY:mg "min" = none
 iG:mg "range" = none
 uo:mg "reversed" = none
 yW:mg "sorted" = none
 amu:mg "sum" = none
 X3:mg "zip" = none
variable(T:Txt K mg t)
local macro_rules | `(tactic| walk_at "rd")=>`(tactic| simp only [$[$("L2.Yz L2.Bc L2.tIf L2.tB L2.WD_i L2.isI_i L2.isF_i L2.YX_i L2.Wf L2.Wj L2.vm L2.qw L2.LG_i L2.tC L2.start L2.rI_i L2.Ra_i L2.p9 L2.WJ L2.K8 L2.tOr L2.Xp L2.Wy L2.WM L2.tUn L2.rEq_i L2.Ui L2.XE_i L2.IF L2.IA L2.Nr L2.Ke L2.O6 L2.tBM L2.Wo L2.YA L2.ipI L2.NF L2.Wm L2.QA L2.tSl L2.N6 L2.Co L2.nv Option.join_some Option.join_none if_true if_false Bool.false_eq_true List.map_cons List.map_nil List.length_cons List.length_nil List.replicate List.cons_append List.nil_append List.append_nil List.getElem?_cons_zero List.getElem?_cons_succ List.set_cons_zero List.set_cons_succ Option.some.injEq exists_eq_left' exists_eq_left L2.V.int.injEq L2.V.str.injEq L2.V.ref.injEq L2.V.bl.injEq List.cons.injEq and_true true_and and_assoc exists_and_left exists_eq exists_const".splitOn.toArray.map (Lean.mkCIdent ·.toName)):ident],*])
local macro_rules | `(tactic| walk_at "ck")=>`(tactic| (constructor<;>first|lk|rfl))
section
def isName (z:Str):Bool:=decide (1<=z.length) && decide (z.length<=8) && z.l.all λc=>decide (c∈(Str.ofString "abcdefghijklmnopqrstuvwxyz").l)
inductive Jk(vs:q7)(H:Hp)(Q:VK)(_:XK):Prop|mk(z:Str)(_:vs=[.str z])(_:z.length<=100000)(_:∀H',af H H'->Q (.bl (isName z)) H')
def Iq:bE P w K mg ap dJ 1 t.ID t.Nj ["word"] Jk:=by
 refine T.zd.ok Td λs H Q E h=>?_;obtain⟨z,rfl,u,q⟩:=h;room;refine aG (λC=>∀a,a=H->1<=z.length->z.length<=8->C [τ z] a) (bq (PW.pt (jz (aA fX (ez bz T.bD (bQ br)) ai (aE _)) (jk (aA j9 (ez bz T.bD (bQ br)) (iF rfl T.qM) (aE _))))) ay ay) ?_ ?_
 .walk_at "rd";refine⟨bK (by lia),dM (λh=>by refine av (aQ k7) ?_;have:=q H (af.refl H);rw[isName,ab2 (by lia)] at this;exact this) (λh=>by refine⟨bK (by lia),dM (λh=>?_) (λh=>bg (λ_ k=>k _ rfl (by lia) (by lia)))⟩;refine av (aQ k7) ?_;have:=q H (af.refl H);rw[isName,ab2 (p:=z.length<=8) (by lia),Bool.and_false] at this;exact this)⟩
 intro a e j l;rw[e];clear e a;refine av (aQ (ez (Ef rfl) T.Yq (bQ (iM (sc:=az (top 15)) (N:=["word"]) (x:="sign") (caps:=[]) (by walk_at "ck") (Tc br) (λ_ _ _ _=>(eW kP br (iF rfl T.yT) rfl)))))) ?_;refine⟨z,rfl,EI (λi b d=>d=H/\b=(z.l.take i).map λc=>V.bl (decide (c∈(Str.ofString "abcdefghijklmnopqrstuvwxyz").l))) ⟨rfl,rfl⟩ (cL (by lia)) ?_ (by rintro b d hl ⟨rfl,rfl⟩ D r;refine⟨D,(z.l.map λc=>decide (c∈(Str.ofString "abcdefghijklmnopqrstuvwxyz").l)),rfl,aV.of (by rw[aa,ac1 (by simp[Str.length]),ag3];rfl),?_⟩;have:=q _ (af.ag (o:=.lst (((z.l.take z.length)).map λc=>V.bl (decide (c∈(Str.ofString "abcdefghijklmnopqrstuvwxyz").l)))) r);rw[isName,ab4 j,ab4 l] at this;exact List.all_map▸this)⟩
 .rintro i c b d g hl ⟨rfl,rfl⟩;have n:i<z.length:=by have:=(d6.mp g).1;simpa [Str.length] using this
  refine⟨_,_,rfl,rfl,?_⟩;rw[af8];refine fQ n hl ⟨rfl,?_⟩;rw[List.take_succ,g,o0];rfl
noncomputable def cf (bb:Int) (lw:Addr) (i:Nat):List (Str×V):=[("row",.int bb),("words",.ref lw),("at",.int i)]
structure pJ(t:eZ)(H:Hp)(p dx lw:Addr)(bb:Int)(ws:a9)(i:Nat):Prop where
 ob:H p=s0 t.dW dx (cf bb lw i)
 ls:H lw=r6 (ws.map V.str)
 sz:ws.length<=1000/\∀w∈ws,w.length<=100000
def pJ.ne(c:pJ t H p dx lw bb ws i):p≠lw:=bL c.ob c.ls
def pJ.ae(c:pJ t H p dx lw bb ws i)(s:af H H'):pJ t H' p dx lw bb ws i:=⟨s _ _ c.ob,s _ _ c.ls,c.sz⟩
noncomputable def pk (ws:a9) (i:Nat):Str:=ws.getD i ""
def O1(h:i<ws.length):pk ws i=ws[i]:=by simp[pk,h]
def Qv   (h:ws.length<=i):pk ws i = "" := by unfold pk;rw[ac8,ad7 h];rfl
def pJ.pkl(c:pJ t H p dx lw bb ws i):(pk ws i).length<=100000:=by
 by_cases h:i<ws.length
 .rw[O1 h];exact c.sz.2 _ (ag2 h)
 .rw[Qv (by lia)];decide
inductive Mr(t:eZ)(vs:q7)(H:Hp)(Q:VK)(_:XK):Prop|mk(p dx:Addr)(bb:Int)(text:Str)(_:vs=[.ref p,.int bb,.str text])(_:H p=s0 t.dW dx [])(_:text.length<=100000)(_:(Txt.split text ⟨#[32]⟩).length<=1000)(_:∀lw H',H lw=none->pJ t H' p dx lw bb (Txt.split text ⟨#[32]⟩) 0->fY H H' p->Q .dj H')
def Xi:bE P w K mg ap dJ 1 t.Ur t.Xk ["self","row","text"] (Mr t):=by
 refine T.WU.ok Xo λr H Q E h=>?_;obtain⟨p,d,bb,f,rfl,i,j,l,q⟩:=h;room;refine ak (b6 br bP rfl) ⟨p,_,d,[],rfl,i,T.bx,T.qp,by decide,?_⟩;refine ak (b6 br (cV ae2 ag1 aj8 kM cG (bQ aZ)) rfl) ?_;refine⟨rfl,_,_,rfl,rfl,by decide,bK (by lia),λlw hl=>⟨p,_,d,[("row",.int bb)],rfl,by rw[aj (au aa hl)];exact aa,T.bx,T.jF,by show 1<1000;decide,?_⟩⟩
 have a:=au aa hl;refine av (b6 br ai rfl) ⟨p,_,d,[("row",.int bb),("words",.ref lw)],rfl,aa,T.bx,T.jh,by show 2<1000;decide,?_⟩;have c:H lw=none:=by rw[aj (aa4 a)] at hl;exact hl
 refine q lw _ c ⟨aa,by rw[aj (aa4 a),aj (aa4 a),aa];rfl,l,λw n=>ac2 (PyProof.Rows.part_short n) j⟩ λb o g e=>by rw[aj e,aj e,aj (au g c),aj e];exact g
inductive VO(t:eZ)(vs:q7)(H:Hp)(Q:VK)(_:XK):Prop|mk(p dx lw:Addr)(bb:Int)(ws:a9)(i:Nat)(_:vs=[.ref p])(_:pJ t H p dx lw bb ws i)(_:Q (.bl (decide (i<ws.length))) H)
def Cn:bE P w K mg ap dJ 1 t.UD t.XN ["self"] (VO t):=by
 refine T.IT.ok Xq λb H Q E h=>?_;obtain⟨p,c,d,bb,a,i,rfl,C,q⟩:=h;room;refine av (aQ (eW fX (aM br rfl) (ez aD T.bD (bQ (aM br rfl))) (aE _))) ?_;simp only[Ui,Wf,Wj,vm,qw];refine Ms rfl C.ob T.bx T.jh rfl ?_;refine Ms rfl C.ob T.bx T.jF rfl ?_;refine⟨_,_,rfl,.inl (aV.of C.ls),.mk ?_⟩;rw[d5];have e:decide ((i:Int)<(a.length:Int))=decide (i<a.length):=by simp
 show Q (.bl (decide ((i:Int)<(a.length:Int)))) H;exact e▸q
inductive SW(t:eZ)(vs:q7)(H:Hp)(Q:VK)(_:XK):Prop|mk(p dx lw:Addr)(bb:Int)(ws:a9)(i:Nat)(_:vs=[.ref p])(_:pJ t H p dx lw bb ws i)(_:Q (.str (pk ws i)) H)
def tG:bE P w K mg ap dJ 2 t.T3 t.WV ["self"] (SW t):=by
 refine T.zg.ok WW λd H Q E h=>?_;obtain⟨p,a,c,bb,b,i,rfl,C,q⟩:=h;room;refine av (aQ (dc (gR (bR br T.bx T.Lg (Cn T) hr.m T.IT.b1 .nil aH)) (aC aU (aM br rfl) (aM br rfl)) aZ)) ?_;refine⟨C.ob,rfl,p,a,c,bb,b,i,rfl,C,.mk<|dM (λh=>by refine Ms rfl C.ob T.bx T.jF rfl ?_;refine Ms rfl C.ob T.bx T.jh rfl ?_;refine⟨aV.of C.ls,aB ?_,q⟩;rw[v3,i4 h,O1 h];rfl) (λh=>by rw[Qv (by lia)] at q;exact q)⟩
inductive XQ(vs:q7)(H:Hp)(Q:VK)(_:XK):Prop|mk(p:V)(_:vs=[p,.bl true])(_:Q .dj H)
def vn:bE P w K mg ap dJ 1 t.Rt t.WX ["self","good"] XQ:=by refine T.zK.ok Xs λa H Q E h=>?_;obtain⟨p,rfl,q⟩:=h;room;refine av (bq (g9 (gR bP)) ay ay) ⟨mH (bg q)⟩
inductive VU(t:eZ)(vs:q7)(H:Hp)(Q:VK)(_:XK):Prop|mk(p dx lw:Addr)(bb:Int)(ws:a9)(i:Nat)(_:vs=[.ref p,.bl true])(_:pJ t H p dx lw bb ws i)(_:∀H',pJ t H' p dx lw bb ws (i+1)->fY H H' p->Q (.str (pk ws i)) H')
def KC:bE P w K mg ap dJ 3 t.Vo t.Xf ["self","good"] (VU t):=by
 refine T.MM.ok Oi λe H Q E h=>?_;obtain⟨p,a,b,bb,c,i,rfl,C,q⟩:=h;room;refine ak (aY (bw br T.bx T.DM (vn T) hr.m T.zK.b2 .nil aH (bQ bP))) ⟨C.ob,rfl,_,rfl,?_⟩;refine ak (b7 2 Oi (bR br T.bx T.AB (tG T) hr.m T.zg.b1 .nil aH)) ⟨C.ob,rfl,p,a,b,bb,c,i,rfl,C,?_⟩;refine ak (Ds br ai Uu) ⟨p,_,a,_,_,rfl,C.ob,T.bx,T.jh,rfl,?_⟩;refine⟨_,_,rfl,rfl,a,_,C.ob,by show 3<1000;decide,?_⟩;refine av (aQ cG) (?_);have d:pJ t (ag H p (.ins t.dW a (cf bb b (i+1)))) p a b bb c (i+1):=⟨aa,by rw[aj (aa4 C.ne)];exact C.ls,C.sz⟩
 exact q _ d fY.ag
inductive F0(K:W.Frag)(t:eZ)(vs:q7)(H:Hp)(Q:VK)(_:XK):Prop|mk(p dx lw c:Addr)(cs:a9)(bb:Int)(ws:a9)(i:Nat)(_:vs=[.ref p,.ref c])(_:pJ t H p dx lw bb ws i)(_:bT K H c (cs.map V.str))(_:pk ws i∈cs)(_:∀H',pJ t H' p dx lw bb ws (i+1)->fY H H' p->Q (.str (pk ws i)) H')
def mS{cs:a9}:Mz (.str x) (cs.map V.str)=decide (x∈cs):=by
 unfold Mz;rw[List.any_map,af5,List.any_eq_true,ac4];constructor
 .rintro⟨y,a,e⟩;have:(y == x)=true:=e;rw[<- an0 this];exact a
 .intro h;exact⟨x,h,by show (x == x)=true;simp⟩
def vj{cs:a9}:(cs.map V.str).all jy=true:=by rw[List.all_map,aj9];intro _ _;rfl
def B4:bE P w K mg ap dJ 4 t.RY t.Xc ["self","words"] (F0 K t):=by refine T.IG.ok W8 λg H Q E h=>?_;obtain⟨p,a,d,c,j,bb,e,i,rfl,C,f,b,q⟩:=h;room;refine av (aQ (bw br T.bx T.SA (KC T) hr.m T.MM.b2 .nil aH (bQ (eW iA (bR br T.bx T.AB (tG T) hr.m T.zg.b1 .nil aH) bP rfl)))) ?_;refine⟨C.ob,rfl,?_⟩;refine⟨C.ob,rfl,p,a,d,bb,e,i,rfl,C,.inr f,rfl,vj,?_⟩;rw[mS,ab4 b];exact⟨p,a,d,bb,e,i,rfl,C,q⟩
inductive UX(t:eZ)(vs:q7)(H:Hp)(Q:VK)(_:XK):Prop|mk(p dx lw:Addr)(bb:Int)(ws:a9)(i:Nat)(_:vs=[.ref p])(_:pJ t H p dx lw bb ws i)(_:isName (pk ws i)=true)(_:∀H',pJ t H' p dx lw bb ws (i+1)->fY H H' p->Q (.str (pk ws i)) H')
def BV:bE P w K mg ap dJ 4 t.Ub t.Yi ["self"] (UX t):=by refine T.FZ.ok Xw λl H Q E h=>?_;obtain⟨p,a,d,bb,b,i,rfl,C,c,q⟩:=h;room;refine av (aQ (bw br T.bx T.SA (KC T) hr.m T.MM.b2 .nil aH (bQ (aS (Iq T) hr.m rfl T.JK T.zd.kp T.zd.b1 .nil aH (bQ (bR br T.bx T.AB (tG T) hr.m T.zg.b1 .nil aH)))))) ?_;refine⟨C.ob,rfl,?_⟩;refine⟨C.ob,rfl,p,a,d,bb,b,i,rfl,C,pk b i,rfl,C.pkl,λn e=>?_⟩;exact c▸⟨p,a,d,bb,b,i,rfl,C.ae e,λf g j=>q f g (e.K3 j)⟩
noncomputable def jq (z:Str):Str:="'" ++ Txt.replace z " " "_"
def iR(z:Str):(jq z).l=39::oq 32 95 z.l:=by unfold jq;rw[dF,show ((" " : Str))=⟨#[32]⟩ from by lk,show (("_" : Str))=⟨#[95]⟩ from by lk,m5];rfl
inductive MQ(t:eZ)(vs:q7)(H:Hp)(Q:VK)(_:XK):Prop|mk(p dx lw:Addr)(bb:Int)(ws:a9)(i:Nat)(z:Str)(_:vs=[.ref p])(_:pJ t H p dx lw bb ws i)(_:pk ws i=jq z)(_:1<=z.length)(_:z.length<=1000)(_:95∉z.l)(_:∀H',pJ t H' p dx lw bb ws (i+1)->fY H H' p->Q (.str z) H')
def UQ{w:Str}(h:1<=w.length):(Txt.slice w (some 1) none).l=w.l.drop 1:=by rw[PyProof.Rows.slice_from_eq (b:=(w.length:Int)) (by decide) (by lia) rfl];show (w.l.drop 1).take _=_;refine ac1 ?_;rw[B2,ah6];show w.length-1<=_;omega
def YD:bE P w K mg ap dJ 4 t.RI t.Yv ["self"] (MQ t):=by
 refine T.Wx.ok QE λy H Q E h=>?_;obtain⟨p,a,d,bb,f,i,z,rfl,C,l,n,o,b,q⟩:=h;room;have g:(jq z).length=z.length+1:=by have:=ac7 List.length (iR z);simpa [Str.length,oq] using this
 refine ak (b7 1 QE (bR br T.bx T.AB (tG T) hr.m T.zg.b1 .nil aH)) ⟨C.ob,rfl,p,a,d,bb,f,i,rfl,C,?_⟩;rw[l];refine ak (aY (bw br T.bx T.SA (KC T) hr.m T.MM.b2 .nil aH (bQ (Rh (eW j9 (ez bz T.bD (bQ bP)) ai (aE _)) (GD (cV ae2 al0 F.type_str_startswith zX bP (bQ aZ))))))) ?_;refine⟨C.ob,rfl,?_⟩;refine⟨_,rfl,bK (by lia),.mk<|.mk<|?_⟩;rw[ab4 (by lia),w4 rfl];refine⟨rfl,.mk ?_⟩;have c:(decide (0+("'" : Str).length<=(jq z).length) && Builtin.Str.subAt (jq z) "'" 0)=true:=by
  have j:("'" : Str).length=1:=by lk
  rw[ad4,ac4,j];refine⟨by lia,?_⟩;unfold Builtin.Str.subAt;rw[beq_iff_eq,<- ai1,j];simp only[Array.toList_extract,List.extract_eq_take_drop,(iR z)];rfl
 rw[c];refine⟨p,a,d,bb,f,i,rfl,C,λs u v=>?_⟩;refine av (aQ (Ba (by lk) bP)) ⟨_,rfl,bK (by lia),?_,?_⟩
 .have A:(Txt.slice (jq z) (some 1) none).length<=1001:=ac2 (ae6 _ _ _) (by lia);have x:(" " : Str).length=1:=by lk
  rw[x];lia
 .have e:Txt.replace (Txt.slice (jq z) (some 1) none) "_" " " = z:=by refine i8 ?_;rw[show ((" " : Str))=⟨#[32]⟩ from by lk,show (("_" : Str))=⟨#[95]⟩ from by lk,m5,UQ (by lia),iR];exact Dj b
  rw[e];exact q s u v
end
section
variable {i j i2 j2:Nat}{s z r2:Str}{H H' H1 H0 H'':Hp}{α β:Type}{S S':q0}{dx lw dm lk lg lm lr tt dt ld lu h dp lD lU sc:Addr}{cp:List (Key×V)}{on:c7}{mk:List (Nat×Str)}{ps ts:c6}{sp sp':List (Str×Nat×Nat)}{E:XK}{tk:a9}{ns:c9}
noncomputable def jm(sg:c7):c7->Nat
 | []=>0
 |c::r=>if c∈sg then 1+jm sg r else 0
def fh(bc bi bb:Str)(i:Nat):V :=
 if bc = "end" then (if i=bb.length then .int 0 else .dj)
 else if bc = "word" then (if (bb.l.drop i).take bi.length=bi.l then .int bi.length else .dj)
 else match bb.l[i]? with
  |none=>.dj
  |some c =>
   if bc = "any" \/ bc = "still" then .int (if bc = "any" then 1 else 0)
   else if bc = "none" then (if c∈bi.l then .dj else .int 1)
   else if c∈bi.l then .int (if bc = "many" then 1+jm bi.l (bb.l.drop (i+1)) else 1) else .dj
def getL{bb:Str}:bb.l.length=bb.length:=by simp[Str.length]
def strAt{bb:Str}{i:Int}(h0:0<=i)(h1:i<bb.length):∃c,bb.l[i.toNat]?=some c/\oE bb.l i=some c:=AE _ h0 (getL▸h1)
inductive rA(C:Addr)(fl:Str->List (Str×V))(bc:Str)(vs:q7)(H:Hp)(Q:VK)(_:XK):Prop|mk(p dx:Addr)(bi bb:Str)(i:Nat)(_:vs=[.ref p,.str bb,.int i])(_:H p=s0 C dx (fl bi))(_:bi.length<=1000)(_:bb.length<=1000)(_:i<=bb.length)(_:Q (fh bc bi bb i) H)
inductive o9(b:Bool)(vs:q7)(H:Hp)(Q:VK)(_:XK):Prop|mk(p:V)(_:vs=[p])(_:Q (.bl b) H)
inductive wD(C:Addr)(f:Str)(vs:q7)(H:Hp)(Q:VK)(_:XK):Prop|mk(p dx:Addr)(z:Str)(_:vs=[.ref p,.str z])(_:H p=s0 C dx [])(_:Q .dj (ag H p (.ins C dx [(f,.str z)])))
def Uw:bE P w K mg ap dJ 1 t.Ez t.Na ["self","text"] (wD t.iV "wanted"):=by refine T.Oc.ok RL λc H Q E h=>?_;obtain⟨p,a,z,rfl,b,q⟩:=h;room;refine av (b6 br bP rfl) ?_;exact⟨p,_,a,[],rfl,b,T.sr,T.kD,by decide,q⟩
def RD:bE P w K mg ap dJ 1 t.Ib t.NI ["self","signs"] (wD t.kO "signs"):=by refine T.Qp.ok Uh λc H Q E h=>?_;obtain⟨p,a,z,rfl,b,q⟩:=h;room;refine av (b6 br bP rfl) ?_;exact⟨p,_,a,[],rfl,b,T.Aq,T.rj,by decide,q⟩
def Sf:bE P w K mg ap dJ 1 t.Es t.Of ["self","signs"] (wD t.ee "signs"):=by refine T.OY.ok V2 λc H Q E h=>?_;obtain⟨p,a,z,rfl,b,q⟩:=h;room;refine av (b6 br bP rfl) ?_;exact⟨p,_,a,[],rfl,b,T.oR,T.mw,by decide,q⟩
def Ua:bE P w K mg ap dJ 1 t.ES t.O9 ["self","signs"] (wD t.iZ "signs"):=by refine T.Qi.ok Uj λc H Q E h=>?_;obtain⟨p,a,z,rfl,b,q⟩:=h;room;refine av (b6 br bP rfl) ?_;exact⟨p,_,a,[],rfl,b,T.wB,T.pZ,by decide,q⟩
def Io:bE P w K mg ap dJ 1 t.vG t.Bx ["self"] (o9 false):=by refine T.Ft.ok Vw λa H Q E h=>?_;obtain⟨p,rfl,q⟩:=h;room;exact av (aQ k7) q
def Vi:bE P w K mg ap dJ 1 t.BW t.F5 ["self"] (o9 true):=by refine T.Qd.ok VD λa H Q E h=>?_;obtain⟨p,rfl,q⟩:=h;room;exact av (aQ k7) q
def TH:bE P w K mg ap dJ 1 t.BR t.F8 ["self"] (o9 true):=by refine T.Nx.ok SE λa H Q E h=>?_;obtain⟨p,rfl,q⟩:=h;room;exact av (aQ k7) q
def Uo:bE P w K mg ap dJ 1 t.Cp t.Iv ["self"] (o9 true):=by refine T.NP.ok UC λa H Q E h=>?_;obtain⟨p,rfl,q⟩:=h;room;exact av (aQ k7) q
def Uq:bE P w K mg ap dJ 1 t.Cm t.Gv ["self"] (o9 true):=by refine T.Nf.ok Vn λa H Q E h=>?_;obtain⟨p,rfl,q⟩:=h;room;exact av (aQ k7) q
def XH:bE P w K mg ap dJ 1 t.Ml t.UU ["self"] (o9 true):=by refine T.Wu.ok Xr λa H Q E h=>?_;obtain⟨p,rfl,q⟩:=h;room;exact av (aQ k7) q
def CP(hi:i<=bb.length):(decide (fromIndex bb.length (i:Int)+sg.length<=bb.length) && Builtin.Str.subAt bb sg (fromIndex bb.length (i:Int)))=decide ((bb.l.drop i).take sg.length=sg.l):=by
 have e:fromIndex bb.length (i:Int)=i:=by unfold fromIndex;rw[C5 (by lia)];lia
 rw[e];have a:Builtin.Str.subAt bb sg i=decide ((bb.l.drop i).take sg.length=sg.l):=by unfold Builtin.Str.subAt;rw[af5,beq_iff_eq,ac4];rw[<- ai1];simp[Array.toList_extract,List.extract_eq_take_drop]
 rw[a,af5,ad4,ac4,ac4];refine⟨λz=>z.2,λz=>⟨?_,z⟩⟩;have:=ac7 List.length z;rw[v6,B2,getL,getL] at this;lia
def UJ:bE P w K mg ap dJ 1 t.CH t.HZ ["self","row","at"] (rA t.iV (λz=>[("wanted",.str z)]) "word"):=by
 refine T.NO.ok Sw λd H Q E h=>?_;obtain⟨p,a,e,bb,i,rfl,b,f,g,c,q⟩:=h;room;refine av (aQ (dc (gR (cV ae2 al0 F.type_str_startswith zS bP (cy (aM br rfl) cG))) (ez bz T.bD (bQ (aM br rfl))) cR)) ?_;rw[fh,C5 (by decide),w4 rfl] at q;refine⟨rfl,b,T.sr,T.kD,rfl,.mk<|.mk<|?_⟩;rw[CP c];refine dM (λh=>by rw[w4 h] at q;exact⟨b,T.sr,T.kD,rfl,_,rfl,bK (by lia),q⟩) (λh=>by rw[C5 h] at q;exact q)
def j0 {bc sg bb:Str}  (h1:bc ≠ "end") (h2:bc ≠ "word") (e:bb.l[i]?=some c):fh bc sg bb i=if bc = "any" \/ bc = "still" then .int (if bc = "any" then 1 else 0)
   else if bc = "none" then (if c∈sg.l then .dj else .int 1)
   else if c∈sg.l then .int (if bc = "many" then 1+jm sg.l (bb.l.drop (i+1)) else 1) else .dj:=by
 rw[fh,C5 h1,C5 h2,e]
def kJ {bc sg bb:Str}  (h1:bc ≠ "end") (h2:bc ≠ "word") (h:bb.length<=i):fh bc sg bb i = .dj:=by rw[fh,C5 h1,C5 h2,ad7 (getL▸h)]
def Tp:bE P w K mg ap dJ 1 t.Cr t.FH ["self","row","at"] (rA t.kO (λz=>[("signs",.str z)]) "one"):=by
 refine T.OP.ok T4 λf H Q E h=>?_;obtain⟨p,g,b,bb,i,rfl,d,j,l,n,q⟩:=h;room;refine av (aQ (dc (PW.pt (dX (aA fX cG (ez bz T.bD (bQ bP)) (aE _)) (cX (aA kP (aC lC bP cG) (aM br rfl) rfl)))) ai cR)) ?_;walk_at "rd";refine⟨bK (by lia),dM (λh=>?_) (λh=>by rw[kJ (by decide) (by decide) (by lia)] at q;exact q)⟩
 .obtain⟨c,a,e⟩:=strAt (bb:=bb) (i:=(i:Int)) (by lia) h;rw[ab9] at a;refine⟨bK (by lia),c,e,⟨d,T.Aq,T.rj,rfl,⟨b,rfl,?_⟩⟩⟩;rw[af8];rw[j0 (by decide) (by decide) a,C5 (by decide),C5 (by decide)] at q;refine dM (λh=>by rw[w4 h,C5 (by decide)] at q;exact q) (λh=>by rw[C5 h] at q;exact q)
def TZ:bE P w K mg ap dJ 1 t.Cu t.KA ["self","row","at"] (rA t.ee (λz=>[("signs",.str z)]) "none"):=by
 refine T.Qe.ok Te λf H Q E h=>?_;obtain⟨p,g,b,bb,i,rfl,d,j,l,n,q⟩:=h;room;refine av (aQ (dc (PW.pt (dX (aA fX cG (ez bz T.bD (bQ bP)) (aE _)) (cX (aA w9 (aC lC bP cG) (aM br rfl) rfl)))) ai cR)) ?_;walk_at "rd";refine⟨bK (by lia),dM (λh=>?_) (λh=>by rw[kJ (by decide) (by decide) (by lia)] at q;exact q)⟩
 .obtain⟨c,a,e⟩:=strAt (bb:=bb) (i:=(i:Int)) (by lia) h;rw[ab9] at a;refine⟨bK (by lia),c,e,⟨d,T.oR,T.mw,rfl,⟨b,rfl,?_⟩⟩⟩;rw[af8];rw[j0 (by decide) (by decide) a,C5 (by decide),w4 rfl] at q;refine mq (λh=>by rw[C5 h] at q;exact q) (λh=>by rw[w4 h] at q;exact q)
def Ym:bE P w K mg ap dJ 1 t.Ll t.Rx ["self","row","at"] (rA t.mW (λz=>[]) "any"):=by
 refine T.Yp.ok W0 λb H Q E h=>?_;obtain⟨p,d,e,bb,i,rfl,f,g,j,l,q⟩:=h;room;refine av (aQ (dc (aA fX cG (ez bz T.bD (bQ bP)) (aE _)) ai cR)) ?_;walk_at "rd";refine⟨bK (by lia),dM (λh=>by obtain⟨c,a,n⟩:=strAt (bb:=bb) (i:=(i:Int)) (by lia) h;rw[ab9] at a;rw[j0 (by decide) (by decide) a,w4 (by decide),w4 rfl] at q;exact q) (λh=>by rw[kJ (by decide) (by decide) (by lia)] at q;exact q)⟩
def VN:bE P w K mg ap dJ 1 t.BY t.Hq ["self","row","at"] (rA t.iJ (λz=>[]) "still"):=by
 refine T.Pr.ok Sg λb H Q E h=>?_;obtain⟨p,d,e,bb,i,rfl,f,g,j,l,q⟩:=h;room;refine av (aQ (dc (aA fX cG (ez bz T.bD (bQ bP)) (aE _)) ai cR)) ?_;walk_at "rd";refine⟨bK (by lia),dM (λh=>by obtain⟨c,a,n⟩:=strAt (bb:=bb) (i:=(i:Int)) (by lia) h;rw[ab9] at a;rw[j0 (by decide) (by decide) a,w4 (by decide),C5 (by decide)] at q;exact q) (λh=>by rw[kJ (by decide) (by decide) (by lia)] at q;exact q)⟩
def RP:bE P w K mg ap dJ 1 t.BH t.JR ["self","row","at"] (rA t.mU (λz=>[]) "end"):=by
 refine T.Nl.ok Wc λa H Q E h=>?_;obtain⟨p,b,c,bb,i,rfl,d,e,f,g,q⟩:=h;room;refine av (aQ (dc (aA cC cG (ez bz T.bD (bQ bP)) (aE _)) ai cR)) ?_;walk_at "rd";rw[fh,w4 rfl] at q;refine⟨bK (by lia),rfl,dM (λh=>by rw[w4 (by lia)] at q;exact q) (λh=>by rw[C5 (by lia)] at q;exact q)⟩
def nh{sg l:c7}(e:l[j]?=some c):jm sg (l.drop j)=if c∈sg then 1+jm sg (l.drop (j+1)) else 0:=by
 have a:l.drop j=c::l.drop (j+1):=by rw[List.drop_eq_getElem?_toList_append,e];rfl
 rw[a,jm]
def V4:bE P w K mg ap dJ 1 t.B9 t.HQ ["self","row","at"] (rA t.iZ (λz=>[("signs",.str z)]) "many"):=by
 refine T.Pk.ok An λs H Q E h=>?_;obtain⟨p,u,a,bb,i,rfl,o,v,x,r,q⟩:=h;room;have l:Q (if 0<jm a.l (bb.l.drop i) then .int (jm a.l (bb.l.drop i)) else .dj) H:=by
  by_cases h:i<bb.length
  .obtain⟨c,d,n⟩:=strAt (bb:=bb) (i:=(i:Int)) (by lia) (by lia);rw[ab9] at d;rw[j0 (by decide) (by decide) d,C5 (by decide),C5 (by decide),w4 rfl] at q;rw[nh d];by_cases f:c∈a.l
   .rw[w4 f] at q ⊢;rw[w4 (by lia)];exact q
   .rw[C5 f] at q ⊢;exact q
  .rw[kJ (by decide) (by decide) (by lia)] at q;have:bb.l.drop i=[]:=ai0 (by rw[getL];lia);exact this▸q
 refine ak (b7 3 An cG) ?_;walk_at "rd";refine aF (λg b=>b=H/\g=[ρ p,τ bb,ι i,ι ((i:Int)+jm a.l (bb.l.drop i))]) (jd aa7 (PW.pt (dX (aA fX dh (ez bz T.bD (bQ bP)) (aE _)) (cX (aA kP (aC lC bP dh) (aM br rfl) rfl)))) ay) ?_ ?_
 .refine⟨λm g b=>∃j:Nat,g=[ρ p,τ bb,ι i,ι (j:Int)]/\b=H/\j<=bb.length/\m=bb.length-j/\i+jm a.l (bb.l.drop i)=j+jm a.l (bb.l.drop j),⟨_,i,rfl,rfl,r,rfl,rfl⟩,?_⟩;rintro m g b ⟨j,rfl,e,y,rfl,hr⟩;rw[e];clear e b;walk_at "rd";refine⟨bK (by lia),dM (λh=>?_) (λh=>by have:bb.l.drop j=[]:=ai0 (by rw[getL];lia);rw[this,jm] at hr;lia)⟩
  .obtain⟨c,d,n⟩:=strAt (bb:=bb) (i:=(j:Int)) (by lia) h;rw[ab9] at d;rw[nh (j:=j) d] at hr;refine⟨bK (by lia),c,n,⟨o,T.wB,T.pZ,rfl,⟨a,rfl,?_⟩⟩⟩;rw[af8];refine dM (λf=>by rw[w4 f] at hr;refine⟨_,λg b z=>z,av (Am (i:=3) An.nd rfl (Or.inl rfl) ai AN) ?_⟩;walk_at "rd";exact⟨bb.length-(j+1),by lia,j+1,by simp,by lia,rfl,by lia⟩) (λf=>by rw[C5 f] at hr;refine⟨rfl,?_⟩;rw[show (i:Int)+(jm a.l (bb.l.drop i):Nat)=(j:Int) by lia])
 rintro g b ⟨e,rfl⟩;rw[e];clear e b;refine av (aQ (dc (aA j9 dh cG (aE _)) (aK cQ dh cG) cR)) ?_;walk_at "rd";refine dM (λh=>by rw[w4 (by lia)] at l;rw[show (i:Int)+(jm a.l (bb.l.drop i):Nat)-i=jm a.l (bb.l.drop i) by lia];exact l) (λh=>by rw[C5 (by lia)] at l;exact l)
def o4(bc sg bb:Str)(i:Nat):(∃n:Int,fh bc sg bb i = .int n)\/fh bc sg bb i = .dj:=by
 unfold fh;repeat' split
 all_goals first | exact .inl ⟨_,rfl⟩ | exact .inr rfl
noncomputable def cF (bc:Str):Bool:=!decide (bc = "still" \/ bc = "end")
structure xW(P:Program)(w:World)(K:W.Frag)(mg:g6)(ap:Heap)(C fe fs:Addr)(de ds:FuncData)(bc:Str)(fl:Str->List (Str×V)):Prop where
 cl:pH K C
 me:Meth K C "eaten" fe
 ms:Meth K C "eats" fs
 ne:∀z,(fl z).lookup ("eaten" : Str)=none
 ns:∀z,(fl z).lookup ("eats" : Str)=none
 ge:bE P w K mg ap dJ 1 fe de ["self","row","at"] (rA C fl bc)
 be:Binds K de ["self","row","at"] []
 gs:bE P w K mg ap dJ 1 fs ds ["self"] (o9 (cF bc))
 bs:Binds K ds ["self"] []
def LQ:xW P w K mg ap t.iV t.CH t.BW t.HZ t.F5 "word" (λz=>[("wanted",.str z)]) :=
 ⟨T.sr,T.Xd,T.WO,λ_=>by rfl,λ_=>by rfl,UJ T,T.NO.b3,by rw[show cF "word" = true by lk];exact Vi T,T.Qd.b1⟩
def RV:xW P w K mg ap t.kO t.Cr t.BR t.FH t.F8 "one" (λz=>[("signs",.str z)]) :=
 ⟨T.Aq,T.Xz,T.WH,λ_=>by rfl,λ_=>by rfl,Tp T,T.OP.b3,by rw[show cF "one" = true by lk];exact TH T,T.Nx.b1⟩
def AS:xW P w K mg ap t.ee t.Cu t.Cp t.KA t.Iv "none" (λz=>[("signs",.str z)]) :=
 ⟨T.oR,T.Xu,T.Yh,λ_=>by rfl,λ_=>by rfl,TZ T,T.Qe.b3,by rw[show cF "none" = true by lk];exact Uo T,T.NP.b1⟩
def Lr:xW P w K mg ap t.iZ t.B9 t.Cm t.HQ t.Gv "many" (λz=>[("signs",.str z)]) :=
 ⟨T.wB,T.WL,T.YH,λ_=>by rfl,λ_=>by rfl,V4 T,T.Pk.b3,by rw[show cF "many" = true by lk];exact Uq T,T.Nf.b1⟩
def Rk:xW P w K mg ap t.mW t.Ll t.Ml t.Rx t.UU "any" (λz=>[]) :=
 ⟨T.Wa,T.Zl,T.YY,λ_=>by rfl,λ_=>by rfl,Ym T,T.Yp.b3,by rw[show cF "any" = true by lk];exact XH T,T.Wu.b1⟩
def EM:xW P w K mg ap t.iJ t.BY t.vG t.Hq t.Bx "still" (λz=>[]) :=
 ⟨T.EZ,T.Yg,T.v9,λ_=>by rfl,λ_=>by rfl,VN T,T.Pr.b3,by rw[show cF "still" = false by lk];exact Io T,T.Ft.b1⟩
def To:xW P w K mg ap t.mU t.BH t.vG t.JR t.Bx "end" (λz=>[]) :=
 ⟨T.Vz,T.Xy,T.zV,λ_=>by rfl,λ_=>by rfl,RP T,T.Nl.b3,by rw[show cF "end" = false by lk];exact Io T,T.Ft.b1⟩
structure cz where
 bc:Str
 bi:Str
 bZ:Str
 bB:Str
 bo:Option Nat
 bn:Str
structure aR where
 name:Str
 bZ:Str
 bd:List cz
variable {ms:List aR}
noncomputable abbrev sorts:a9:=["word","one","none","many","any","still","end"]
abbrev ax (s:Str):Prop:=s = "any" \/ s = "still" \/ s = "end"
noncomputable def ju (t:eZ) (s:Str):Addr:=if s = "any" then t.mW else if s = "still" then t.iJ else if s = "end" then t.mU else if s = "word" then t.iV else if s = "one" then t.kO else if s = "none" then t.ee else t.iZ
noncomputable def ou (s z:Str):List (Str×V):=if ax s then [] else if s = "word" then [("wanted",.str z)] else [("signs",.str z)]
def Cw:ju t "any" = t.mW:=by rw[ju,w4 rfl]
def uW:ju t "still" = t.iJ:=by rw[ju,C5 (by decide),w4 rfl]
def BU:ju t "end" = t.mU:=by rw[ju,C5 (by decide),C5 (by decide),w4 rfl]
def zy:ju t "word" = t.iV:=by rw[ju,C5 (by decide),C5 (by decide),C5 (by decide),w4 rfl]
def BF:ju t "one" = t.kO:=by rw[ju,C5 (by decide),C5 (by decide),C5 (by decide),C5 (by decide),w4 rfl]
def xN:ju t "none" = t.ee:=by rw[ju,C5 (by decide),C5 (by decide),C5 (by decide),C5 (by decide),C5 (by decide),w4 rfl]
def yD:ju t "many" = t.iZ:=by rw[ju,C5 (by decide),C5 (by decide),C5 (by decide),C5 (by decide),C5 (by decide),C5 (by decide)]
def ET:ou "any" = λ_=>[]:=by funext z;rw[ou,w4 (by decide)]
def yE:ou "still" = λ_=>[]:=by funext z;rw[ou,w4 (by decide)]
def F1:ou "end" = λ_=>[]:=by funext z;rw[ou,w4 (by decide)]
def B0:ou "word" = λz=>([("wanted",.str z)]:List (Str×V)):=by funext z;rw[ou,C5 (by decide),w4 rfl]
def vt  (h:¬ax s) (h2:s ≠ "word"):ou s=λz=>([("signs",.str z)]:List (Str×V)):=by funext z;rw[ou,C5 h,C5 h2]
def iz  (h:s∈sorts):s = "word" \/ s = "one" \/ s = "none" \/ s = "many" \/ s = "any" \/ s = "still" \/ s = "end" := by simpa using h
def Mq(h:s∈sorts):∃fe fs de ds,xW P w K mg ap (ju t s) fe fs de ds s (ou s):=by
 rcases iz h with rfl|rfl|rfl|rfl|rfl|rfl|rfl
 .exact zy▸B0▸⟨_,_,_,_,LQ T⟩
 .rw[BF,vt (by decide) (by decide)];exact⟨_,_,_,_,RV T⟩
 .rw[xN,vt (by decide) (by decide)];exact⟨_,_,_,_,AS T⟩
 .rw[yD,vt (by decide) (by decide)];exact⟨_,_,_,_,Lr T⟩
 .exact Cw▸ET▸⟨_,_,_,_,Rk T⟩
 .exact uW▸yE▸⟨_,_,_,_,EM T⟩
 .exact BU▸F1▸⟨_,_,_,_,To T⟩
def mz(t:eZ)(H:Hp)(p:Addr)(s z:Str):Prop:=∃a,H p=s0 (ju t s) a (ou s z)
noncomputable def vU:Option Nat->V
 |none=>.dj
 |some g=>.int g
def rf (p:Addr) (R:cz):List (Str×V):=[("pattern",.ref p),("colour",.str R.bZ),("deed",.str R.bB),("goal",vU R.bo),("fold",.str R.bn)]
noncomputable def mf (M:aR) (l:Addr):List (Str×V):=[("name",.str M.name),("colour",.str M.bZ),("rules",.ref l)]
inductive eF(t:eZ)(H:Hp)(r:Addr)(R:cz):Prop|mk(a p)(_:H r=s0 t.jL a (rf p R))(_:mz t H p R.bc R.bi)
def mz.ae(h:mz t H p s z)(e:af H H'):mz t H' p s z:=by obtain⟨a,x⟩:=h;exact⟨a,e _ _ x⟩
def eF.ae(h:eF t H r R)(e:af H H'):eF t H' r R:=by obtain⟨a,p,x,y⟩:=h;exact⟨a,p,e _ _ x,y.ae e⟩
def bf(R:α->β->Prop)(as:List α)(bs:List β):Prop:=as.length=bs.length/\∀(i:Nat) a b,as[i]?=some a->bs[i]?=some b->R a b
def bf.nil{R:α->β->Prop}:bf R [] []:=⟨rfl,λi a b h=>by simp at h⟩
def bf.mono{R S:α->β->Prop}{as:List α}{bs:List β}(h:bf R as bs)(f:∀a b,R a b->S a b):bf S as bs:=⟨h.1,λi a b x y=>f a b (h.2 i a b x y)⟩
def dU{as:List α}{a x:α}(h:(as++[a])[i]?=some x):as[i]?=some x\/(i=as.length/\x=a):=by
 by_cases b:i<as.length
 .rw[aa2 b] at h;exact .inl h
 .rw[U2 (by lia)] at h;have:i-as.length=0:=by
   cases e:i-as.length with
   |zero=>rfl
   |succ n=>rw[e] at h;simp at h
  rw[this] at h;simp at h;exact .inr ⟨by lia,h.symm⟩
def bf.snoc{R:α->β->Prop}{as:List α}{bs:List β}{a:α}{b:β}(h:bf R as bs)(r:R a b):bf R (as++[a]) (bs++[b]):=by
 refine⟨by simp[h.1],λi x y f d=>?_⟩;have hl:=h.1;rcases dU f with e|⟨j,rfl⟩
 .rcases dU d with c|⟨g,rfl⟩
  .exact h.2 i x y e c
  .have:=(d6.mp e).1;lia
 .rcases dU d with c|⟨g,rfl⟩
  .have:=(d6.mp c).1;lia
  .exact r
def bf.at{R:α->β->Prop}{as:List α}{bs:List β}(h:bf R as bs){b:β}(e:bs[i]?=some b):∃a,as[i]?=some a/\R a b:=by
 have c:i<as.length:=h.1▸((d6.mp e).1)
 exact⟨as[i],i4 c,h.2 i _ _ (i4 c) e⟩
structure cY(t:eZ)(H:Hp)(as ls:c6)(ms:List aR):Prop where
 la:as.length=ms.length
 ll:ls.length=ms.length
 nd:ls.Nodup
 ob:∀(i:Nat) a l m,as[i]?=some a->ls[i]?=some l->ms[i]?=some m->∃dx rs,H a=s0 t.fE dx (mf m l)/\H l=r6 (rs.map V.ref)/\bf (eF t H) rs m.bd
def cY.ae(h:cY t H as ls ms)(e:af H H'):cY t H' as ls ms :=
 ⟨h.la,h.ll,h.nd,λi a l m b c d=>let ⟨dx,rs,x,y,z⟩:=h.ob i a l m b c d;⟨dx,rs,e _ _ x,e _ _ y,z.mono λ_ _ r=>r.ae e⟩⟩
inductive IsRules(t:eZ) (H:Hp) (a:Addr) (ms:List aR):Prop|mk(d b c e)(_:H a=s0 t.kg d [("modes",.ref b)])(_:H b=r6 (c.map V.ref))(_:cY t H c e ms)
def IsRules.ae(h:IsRules t H a ms)(e:af H H'):IsRules t H' a ms:=by obtain⟨b,c,d,f,x,y,z⟩:=h;exact⟨b,c,d,f,e _ _ x,e _ _ y,z.ae e⟩
def gZ(h1:H x=none)(h2:H dx=none):af H (ag (ag (ag H dx o1) x o2) x o3):=λb o e=>by rw[aj (au e h1),aj (au e h1),aj (au e h2)];exact e
def cD(h1:H x=none)(h2:H dx=none):af H (ag (ag H dx o1) x o2):=λb o e=>by rw[aj (au e h1),aj (au e h2)];exact e
inductive MN(t:eZ)(vs:q7)(H:Hp)(Q:VK)(_:XK):Prop|mk(x dx p:Addr)(R:cz)(_:vs=[.ref x,.ref p,.str R.bZ,.str R.bB,vU R.bo,.str R.bn])(_:H x=s0 t.jL dx [])(_:Q .dj (ag H x (.ins t.jL dx (rf p R))))
def EA:bE P w K mg ap dJ 1 t.Fq t.QB ["self","pattern","colour","deed","goal","fold"] (MN t):=by refine T.EU.ok U8 λc H Q E h=>?_;obtain⟨x,a,p,R,rfl,b,q⟩:=h;room;refine ak (b6 br bP rfl) ⟨x,_,a,[],rfl,b,T.cW,T.gj,by decide,?_⟩;refine ak (b6 br cG rfl) ⟨x,_,a,[("pattern",.ref p)],rfl,aa,T.cW,T.kj,by show 1<1000;decide,?_⟩;refine ak (b6 br dh rfl) ⟨x,_,a,[("pattern",.ref p),("colour",.str R.bZ)],rfl,aa,T.cW,T.iw,by show 2<1000;decide,?_⟩;refine ak (b6 br eE rfl) ⟨x,_,a,[("pattern",.ref p),("colour",.str R.bZ),("deed",.str R.bB)],rfl,aa,T.cW,T.jR,by show 3<1000;decide,?_⟩;refine av (b6 br gX rfl) ⟨x,_,a,[("pattern",.ref p),("colour",.str R.bZ),("deed",.str R.bB),("goal",vU R.bo)],rfl,aa,T.cW,T.jW,by show 4<1000;decide,?_⟩;rw[fV,fV,fV,fV];exact q
inductive MJ(t:eZ)(vs:q7)(H:Hp)(Q:VK)(_:XK):Prop|mk(x dx l:Addr)(n c:Str)(rs:q7)(_:vs=[.ref x,.str n,.str c,.ref l])(_:H x=s0 t.fE dx [])(_:H l=r6 rs)(_:∀l2 H',H l2=none->H' x=s0 t.fE dx (mf ⟨n,c,[]⟩ l2)->H' l2=r6 rs->fY H H' x->Q .dj H')
def ER:bE P w K mg ap dJ 1 t.Ie t.Ob ["self","name","colour","rules"] (MJ t):=by
 refine T.GX.ok TN λs H Q E h=>?_;obtain⟨x,g,l,n,c,r,rfl,j,hl,q⟩:=h;room;have d:=bL hl j;refine ak (b6 br bP rfl) ⟨x,_,g,[],rfl,j,T.gF,T.jT,by decide,?_⟩;refine ak (b6 br cG rfl) ⟨x,_,g,[("name",.str n)],rfl,aa,T.gF,T.kq,by show 1<1000;decide,?_⟩;refine av (b6 br (pO eV T.jn (bQ dh)) rfl) ⟨l,r,rfl,.inl (aV.of (by rw[aj d,aj d];exact hl)),λl2 a=>?_⟩;have f:=au aa a;have e:H l2=none:=by rw[aj (aa4 f),aj (aa4 f)] at a;exact a
 refine⟨x,_,g,[("name",.str n),("colour",.str c)],rfl,by rw[aj f];exact aa,T.gF,T.gJ,by show 2<1000;decide,?_⟩;refine q l2 _ e aa (by rw[aj (aa4 f)];exact aa) λb o p i=>?_;rw[aj i,aj (au p e),aj i,aj i];exact p
inductive Ku(t:eZ)(vs:q7)(H:Hp)(Q:VK)(_:XK):Prop|mk(x dx l:Addr)(rs:q7)(_:vs=[.ref x,.ref l])(_:H x=s0 t.kg dx [])(_:H l=r6 rs)(_:∀l2 H',H l2=none->H' x=s0 t.kg dx [("modes",.ref l2)]->H' l2=r6 rs->fY H H' x->Q .dj H')
def GH:bE P w K mg ap dJ 1 t.Iz t.Pq ["self","modes"] (Ku t):=by refine T.Hx.ok VG λj H Q E h=>?_;obtain⟨x,f,l,g,rfl,c,hl,q⟩:=h;room;refine av (b6 br (pO eV T.jn (bQ bP)) rfl) ⟨l,g,rfl,.inl (aV.of hl),λl2 a=>?_⟩;have d:=au c a;refine⟨x,_,f,[],rfl,by rw[aj d];exact c,T.jf,T.d7,by decide,?_⟩;refine q l2 _ a aa (by rw[aj (aa4 d)];exact aa) λb o e i=>?_;rw[aj i,aj (au e a)];exact e
abbrev cI(s z:Str):a9:=if ax s then [s] else [s,jq z]
structure wg(s z:Str):Prop where
 bc:s∈sorts
 ZC:ax s->z = ""
 sg:¬ax s->1<=z.length/\z.length<=200/\95∉z.l/\10∉z.l
def drop_cons{ws:List α}{x:α}{r:List α}(h:ws.drop i=x::r):ws[i]?=some x/\ws.drop (i+1)=r:=by
 constructor
 .have:=ac7 (λl=>l[0]?) h;simpa [ab6] using this
 .rw[<- ak2,h];rfl
def i9(h:ws.drop i=x::r):pk ws i=x:=by unfold pk;rw[ac8,(drop_cons h).1];rfl
def Lo{ws:a9}(h:ws.drop i=x::r):i<ws.length:=(d6.mp (drop_cons h).1).1
def yc{ws:a9}(h:ws.drop i=[]):ws.length<=i:=List.drop_eq_nil_iff.mp h
inductive MS(t:eZ)(vs:q7)(H:Hp)(Q:VK)(_:XK):Prop|mk(p dx lw:Addr)(bb:Int)(ws:a9)(i:Nat)(s z:Str)(rest:a9)(_:vs=[.ref p])(_:pJ t H p dx lw bb ws i)(_:ws.drop i=cI s z++rest)(_:wg s z)(_:∀a H' j,mz t H' a s z->pJ t H' p dx lw bb ws j->ws.drop j=rest->fY H H' p->Q (.ref a) H')
def RH:bE P w K mg ap dJ 5 t.II t.QX ["cursor"] (MS t):=by
 refine T.JC.ok Aa λW H Q E h=>?_;obtain⟨p,n,A,bb,y,i,s,z,B,rfl,C,d,G,q⟩:=h;room;have D:pk y i=s:=by
  by_cases F:ax s
  .rw[cI,w4 F] at d;exact i9 d
  .rw[cI,C5 F] at d;exact i9 d
 refine ak (b7 1 Aa (bw br T.bx T.LV (B4 T) hr.m T.IG.b2 .nil aH (bQ (jX rfl T.xq (v:=V.ref t.lS) rfl)))) ⟨C.ob,rfl,p,n,A,t.lS,sorts,bb,y,i,rfl,C,T.zq _,D▸G.bc,λX g o=>?_⟩;rw[D];refine ak (bq (aA cC bP aZ (aE _)) ay ay) ⟨rfl,.mk<|dM (λh=>by have h:=V.str.inj h;subst h;refine av (aQ (tW T.Tg rfl T.LU)) λx b c a ne=>?_;rw[cI,w4 (by decide)] at d;exact q x _ (i+1) ⟨b,Cw▸ET▸aa⟩ (g.ae (cD c a)) (drop_cons d).2 (o.ae (cD c a))) (λI=>bg ?_)⟩
 refine ak (bq (aA cC bP aZ (aE _)) ay ay) ⟨rfl,.mk<|dM (λh=>by have h:=V.str.inj h;subst h;refine av (aQ (tW T.E7 rfl T.Dy)) λx b c a ne=>?_;rw[cI,w4 (by decide)] at d;exact q x _ (i+1) ⟨b,uW▸yE▸aa⟩ (g.ae (cD c a)) (drop_cons d).2 (o.ae (cD c a))) (λJ=>bg ?_)⟩
 refine ak (bq (aA cC bP aZ (aE _)) ay ay) ⟨rfl,.mk<|dM (λh=>by have h:=V.str.inj h;subst h;refine av (aQ (tW T.Vj rfl T.LZ)) λx b c a ne=>?_;rw[cI,w4 (by decide)] at d;exact q x _ (i+1) ⟨b,BU▸F1▸aa⟩ (g.ae (cD c a)) (drop_cons d).2 (o.ae (cD c a))) (λL=>bg ?_)⟩
 have j:¬ax s:=by
  rintro (e|e|e)
  .exact I (by rw[e])
  .exact J (by rw[e])
  .exact L (by rw[e])
 rw[cI,C5 j] at d;have l:=(drop_cons d).2;obtain⟨M,Y,N,Z⟩:=G.sg j;refine ak (b7 2 Aa (bR br T.bx T.ZG (YD T) hr.m T.Wx.b1 .nil aH)) ⟨g.ob,rfl,p,n,A,bb,y,i+1,z,rfl,g,i9 l,M,by lia,N,λH2 r O=>?_⟩;have f:=(drop_cons l).2;have u:=o.trans O;refine ak (bq (aA cC bP aZ (aE _)) ay ay) ⟨rfl,.mk<|dM (λh=>by have h:=V.str.inj h;subst h;refine av (aQ (fj T.LN (Uw T) hr.m rfl T.IK T.Oc.b2 .nil aH (bQ cG))) (λx b c a ne=>⟨x,b,z,rfl,aa,rfl,?_⟩);exact q x _ (i+1+1) ⟨b,zy▸B0▸aa⟩ (r.ae (gZ c a)) f (u.ae (gZ c a))) (λR=>bg ?_)⟩
 refine ak (bq (aA cC bP aZ (aE _)) ay ay) ⟨rfl,.mk<|dM (λh=>by have h:=V.str.inj h;subst h;refine av (aQ (fj T.Vt (RD T) hr.m rfl T.Mc T.Qp.b2 .nil aH (bQ cG))) (λx b c a ne=>⟨x,b,z,rfl,aa,rfl,?_⟩);exact q x _ (i+1+1) ⟨b,by rw[BF,vt j (by decide)];exact aa⟩ (r.ae (gZ c a)) f (u.ae (gZ c a))) (λS=>bg ?_)⟩
 refine ak (bq (aA cC bP aZ (aE _)) ay ay) ⟨rfl,.mk<|dM (λh=>by have h:=V.str.inj h;subst h;refine av (aQ (fj T.Ai (Sf T) hr.m rfl T.yZ T.OY.b2 .nil aH (bQ cG))) (λx b c a ne=>⟨x,b,z,rfl,aa,rfl,?_⟩);exact q x _ (i+1+1) ⟨b,by rw[xN,vt j (by decide)];exact aa⟩ (r.ae (gZ c a)) f (u.ae (gZ c a))) (λU=>bg ?_)⟩
 have h:s = "many" := by
  rcases iz G.bc with e|e|e|e|e|e|e
  .exact absurd (by rw[e]) R
  .exact absurd (by rw[e]) S
  .exact absurd (by rw[e]) U
  .exact e
  .exact absurd (by rw[e]) I
  .exact absurd (by rw[e]) J
  .exact absurd (by rw[e]) L
 subst h;refine av (aQ (fj T.MX (Ua T) hr.m rfl T.Ky T.Qi.b2 .nil aH (bQ cG))) (λx b c a ne=>⟨x,b,z,rfl,aa,rfl,?_⟩);exact q x _ (i+1+1) ⟨b,by rw[yD,vt j (by decide)];exact aa⟩ (r.ae (gZ c a)) f (u.ae (gZ c a))
inductive Hu(t:eZ)(vs:q7)(H:Hp)(Q:VK)(_:XK):Prop|mk(p dx lw d:Addr)(nw:V)(bb:Int)(ws:a9)(i g:Nat)(cp:List (Key×V))(_:vs=[.ref p,.ref d,nw])(_:pJ t H p dx lw bb ws i)(_:H d=some (.dK cp))(_:isName (pk ws i)=true)(_:fP cp (.inr (pk ws i))=some (.int g))(_:∀H',pJ t H' p dx lw bb ws (i+1)->fY H H' p->Q (.int g) H')
def UY:bE P w K mg ap dJ 5 t.GN t.Q6 ["cursor","numbers","nowhere"] (Hu t):=by refine T.Ks.ok AJ λz H Q E h=>?_;obtain⟨p,l,v,d,A,bb,c,i,g,b,rfl,C,n,x,o,q⟩:=h;room;refine ak (b7 3 AJ (bG (cy (aM br rfl) (aM br rfl)))) ?_;refine⟨C.ob,T.bx,T.qp,rfl,?_⟩;refine⟨C.ob,T.bx,T.jh,rfl,?_⟩;refine⟨sL rfl,λpt e=>?_⟩;have f:af H (ag H pt (.tup [.int bb,.int i])):=af.ag e;have r:=C.ae f;refine ak (b7 4 AJ (bR br T.bx T.Lj (BV T) hr.m T.FZ.b1 .nil aH)) ⟨r.ob,rfl,p,l,v,bb,c,i,rfl,r,x,λs y u=>?_⟩;have a:=u _ _ (f _ _ n) (bL n C.ob);refine ak (bq (Al (vo (cS hr) eE bP)) ay ay) ⟨d,_,rfl,om.k (k:=.inr (pk c i)) a,.mk ?_⟩;rw[o];refine mH (bg ?_);refine av (aQ (KG (cS hr) bP eE ⟨rfl,rfl,rfl,rfl⟩)) ⟨d,rfl,.inl ⟨b,.inl a⟩,_,om.k (k:=.inr (pk c i)) a,?_⟩;exact o▸q s y (f.K3 u)
noncomputable abbrev ow:a9:=["stay","push","pop","into"]
abbrev gW (d:Str):Prop:=d = "push" \/ d = "into"
noncomputable def vz(cv:a9):Option Nat->a9
 |some g=>[cv.getD g ""]
 |none=>[]
def Dw:(vz cv g).length<=1:=by cases g <;> simp[vz]
def eO (cv:a9) (R:cz):a9:=cI R.bc R.bi++((if cF R.bc=true then [R.bZ] else [])++([R.bB]++(vz cv R.bo++if R.bn = "" then [] else [R.bn])))
structure jB(cv:a9)(R:cz):Prop where
 pat:wg R.bc R.bi
 cn:cF R.bc=true->isName R.bZ=true
 Zu:cF R.bc=false->R.bZ = ""
 bB:R.bB∈ow
 bo:gW R.bB->∃g,R.bo=some g/\g<cv.length
 OM:¬gW R.bB->R.bo=none
 bn:R.bn = "" \/ R.bn = "open" \/ R.bn = "close"
def numsOf(cv:a9)(cp:List (Key×V)):Prop:=∀(g:Nat) n,cv[g]?=some n->fP cp (.inr n)=some (.int g)
inductive Gf(t:eZ)(vs:q7)(H:Hp)(Q:VK)(_:XK):Prop|mk(p dx lw d:Addr)(nw:V)(bb:Int)(ws:a9)(cp:List (Key×V))(cv:a9)(R:cz)(_:vs=[.ref p,.ref d,nw])(_:pJ t H p dx lw bb ws 0)(_:ws=eO cv R)(_:H d=some (.dK cp))(_:numsOf cv cp)(_:(∀n∈cv,isName n=true))(_:jB cv R)(_:∀r H',eF t H' r R->fY H H' p->Q (.ref r) H')
def mz.K3(h:mz t H a s z)(C:pJ t H p dx lw bb ws i)(e:fY H H' p):mz t H' a s z:=by
 obtain⟨d,x⟩:=h;refine⟨d,e _ _ x (bL x C.ob λq=>?_)⟩;injection q with _ _ q
 unfold ou cf at q;split at q
 .cases q
 .split at q <;> simp at q
def Tz:bE P w K mg ap dJ 6 t.Fl t.Nu ["cursor","numbers","nowhere"] (Gf t):=by
 refine T.KQ.ok qI λvs H Q E h=>?_;obtain⟨p,b,n,d,X,bb,c,cp,cv,R,rfl,C,hws,hd,D,hnm,G,q⟩:=h;room;obtain⟨fe,fs,de,ds,F⟩:=Mq (P:=P) (w:=w) (ap:=ap) T G.pat.bc;refine ak (b7 3 qI (aS (RH T) hr.m rfl T.RM T.JC.kp T.JC.b1 .nil aH (bQ br))) ⟨p,b,n,bb,c,0,R.bc,R.bi,_,rfl,C,by rw[ak3,hws,eO],G.pat,λo H1 j1 hp1 Y f a1=>?_⟩;refine aG (λk=>∀j i,pJ t i p b n bb c j->mz t i o R.bc R.bi->fY H i p->c.drop j=R.bB::(vz cv R.bo++if R.bn = "" then [] else [R.bn])->k [ρ p,ρ d,some X,ρ o,τ R.bZ,none,none,none] i) (b7 4 qI (dc (gR (bR dh F.cl F.ms F.gs hr.m F.bs .nil aH)) (bR br T.bx T.Lj (BV T) hr.m T.FZ.b1 .nil aH) aZ)) ?_ ?_
 .obtain⟨u,y⟩:=hp1;refine⟨y,F.ns _,_,rfl,.mk<|xM (λh=>by rw[w4 h] at f;refine⟨Y.ob,rfl,p,b,n,bb,c,j1,rfl,Y,by rw[i9 f];exact G.cn h,λH2 I Z=>?_⟩;rw[i9 f];exact λ_ C1=>C1 (j1+1) _ I (mz.K3 ⟨u,y⟩ Y Z) (a1.trans Z) ((drop_cons f).2)) (λh=>by rw[h,C5 (by decide)] at f;rw[G.Zu h];exact λ_ C1=>C1 j1 _ Y ⟨u,y⟩ a1 f)⟩
 intro j2 H2 I hp2 Z A;refine ak (b7 5 qI (bw br T.bx T.LV (B4 T) hr.m T.IG.b2 .nil aH (bQ (jX rfl T.Dv (v:=V.ref t.sj) rfl)))) ⟨I.ob,rfl,p,b,n,t.sj,ow,bb,c,j2,rfl,I,T.J5 _,by rw[i9 A];exact G.bB,λH3 C3 B=>?_⟩;rw[i9 A];have J:=hp2.K3 I B;have B:=Z.trans B;have l:=(drop_cons A).2;refine aG (λk=>∀j i,pJ t i p b n bb c j->mz t i o R.bc R.bi->fY H i p->(c.drop j=if R.bn = "" then [] else [R.bn])->k [ρ p,ρ d,some X,ρ o,τ R.bZ,τ R.bB,some (vU R.bo),none] i) (b7 6 qI (dc (aA iA gX (jX rfl T.Dz (v:=V.ref t.xg) rfl) rfl) (aS (UY T) hr.m rfl T.Tj T.Ks.kp T.Ks.b3 .nil aH (ao br (cy bP cG))) cR)) ?_ ?_
 .refine⟨.inr (T.JU _),rfl,rfl,.mk ?_⟩;rw[show ([.str "push",.str "into"]:q7)=(["push","into"]:a9).map V.str from rfl,mS];refine dM (λh=>?_) (λh=>?_)
  .have h:gW R.bB:=by simpa using h
   obtain⟨g,eg,hg⟩:=G.bo h;rw[eg] at l ⊢;have e:=i9 l;have L:cv[g]?=some (cv.getD g ""):=by simp[hg]
   refine⟨p,b,n,d,X,bb,c,j2+1,g,cp,rfl,C3,B _ _ hd (bL hd C.ob),e▸(hnm _ (p0 L)),e▸(D g _ L),λH4 s M=>?_⟩;exact λ_ C1=>C1 _ _ s (J.K3 C3 M) (B.trans M) ((drop_cons l).2)
  .have h:¬gW R.bB:=by simpa using h
   rw[G.OM h] at l ⊢;exact λ_ C1=>C1 _ _ C3 J B l
 intro j4 H4 s N M a;refine aG (λk=>∀j i,pJ t i p b n bb c j->mz t i o R.bc R.bi->fY H i p->c.drop j=[]->k [ρ p,ρ d,some X,ρ o,τ R.bZ,τ R.bB,some (vU R.bo),τ R.bn] i) (b7 7 qI (dc (gR (bR br T.bx T.Lg (Cn T) hr.m T.IT.b1 .nil aH)) (bw br T.bx T.LV (B4 T) hr.m T.IG.b2 .nil aH (bQ (jX rfl T.CL (v:=V.ref t.rT) rfl))) aZ)) ?_ ?_
 .refine⟨s.ob,rfl,p,b,n,bb,c,j4,rfl,s,.mk<|dM (λh=>?_) (λh=>?_)⟩
  .have O:R.bn ≠ "" := λz=>by rw[w4 z] at a;have:=yc a;lia
   rw[C5 O] at a;refine⟨s.ob,rfl,p,b,n,t.rT,["open","close"],bb,c,j4,rfl,s,T.Jx _,?_,λH5 S a5=>by rw[i9 a];exact λ_ C1=>C1 _ _ S (N.K3 s a5) (M.trans a5) ((drop_cons a).2)⟩
   .rw[i9 a];rcases G.bn with z|z|z
    .exact absurd z O
    .rw[z];decide
    .rw[z];decide
  .have O:R.bn = "" := by
    by_cases z:R.bn = ""
    .exact z
    .rw[C5 z] at a;exact absurd (Lo a) h
   rw[w4 O] at a;rw[O];exact λ_ C1=>C1 _ _ s N M a
 intro j5 H5 S hp5 a5 hd5;have hj5:=yc hd5;refine ak (aY (bw br T.bx T.DM (vn T) hr.m T.zK.b2 .nil aH (bQ (Ka (bR br T.bx T.Lg (Cn T) hr.m T.IT.b1 .nil aH))))) ⟨S.ob,rfl,⟨S.ob,rfl,p,b,n,bb,c,j5,rfl,S,.mk ?_⟩⟩;rw[ab2 (by lia)];refine⟨_,rfl,?_⟩;refine av (aQ (fj T.Ck (EA T) hr.m rfl T.yU T.EU.b6 .nil aH (ao dh (ao eE (ao gX (cy jv jO)))))) (λx U nx W ne=>⟨x,U,o,R,rfl,aa,rfl,?_⟩);exact q x _ ⟨U,o,aa,hp5.ae (gZ nx W)⟩ (a5.ae (gZ nx W))
inductive Item where
 |bp (n c:Str)
 |cb (R:cz)
def Item.cq(cv:a9):Item->a9
 |.bp n c=>["mode",n,c]
 |.cb R=>eO cv R
variable {its:List Item}
def rowOf(cv:a9)(it:Item):Str:=Str.join ⟨#[32]⟩ (it.cq cv)
noncomputable def j8(R:cz):List aR->List aR
 | []=>[]
 | [m]=>[{ m with bd:=m.bd++[R] }]
 |m::n::r=>m::j8 R (n::r)
def stepI(ms:List aR):Item->List aR
 |.bp n c=>ms++[⟨n,c,[]⟩]
 |.cb R=>j8 R ms
def foldI(its:List Item):List aR:=its.foldl stepI []
noncomputable def xU:Item->a9
 |.bp n _=>[n]
 |.cb _=>[]
def namesOf(its:List Item):a9:=its.flatMap xU
structure ic(its:List Item):Prop where
 ne:its≠[]
 bp:∀(i:Nat) n c,its[i]?=some (.bp n c)->isName n=true/\isName c=true/\(namesOf (its.take i)).length<12/\n∉namesOf (its.take i)
 cb:∀(i:Nat) R,its[i]?=some (.cb R)->jB (namesOf its) R/\∃ms m,foldI (its.take i)=ms++[m]/\m.bd.length<12
theorem lQ(R:cz)(m:aR):∀ms:List aR,j8 R (ms++[m])=ms++[{ m with bd:=m.bd++[R] }]
 | []=>rfl
 | [x]=>rfl
 |x::y::r=>by show x::j8 R (y::r++[m])=_;rw[lQ R m (y::r)];rfl
theorem oB(R:cz):∀ms:List aR,(j8 R ms).map (·.name)=ms.map (·.name)
 | []=>rfl
 | [x]=>rfl
 |x::y::r=>by show x.name::(j8 R (y::r)).map (·.name)=_;rw[oB R (y::r)];rfl
def ae1{l:List α}{x:α}(h:l[i]?=some x):l.take (i+1)=l.take i++[x]:=by rw[List.take_succ,h];rfl
def uf(its:List Item)(it:Item):foldI (its++[it])=stepI (foldI its) it:=by unfold foldI;rw[am2];rfl
def nu(a b:List Item):namesOf (a++b)=namesOf a++namesOf b:=by unfold namesOf;rw[List.flatMap_append]
theorem jE:∀(its:List Item) (ms:List aR),(its.foldl stepI ms).map (·.name)=ms.map (·.name)++namesOf its
 | [],ms=>by simp[namesOf]
 |.bp n c::r,ms=>by rw[al4,jE r];simp[stepI,namesOf,xU]
 |.cb R::r,ms=>by rw[al4,jE r];simp[stepI,namesOf,xU,oB]
def sG(its:List Item):(foldI its).map (·.name)=namesOf its:=by unfold foldI;rw[jE];rfl
structure kL(x:Str):Prop where
 b:32∉x.l
 n:10∉x.l
 l:x.length<=202
def bV(x:Str):x.l.length=x.length:=by simp[Str.length]
def nU(h:isName x=true):kL x:=by
 unfold isName at h;simp only[ad4,ac4,aj9] at h;obtain⟨⟨b,c⟩,a⟩:=h;refine⟨λz=>absurd (a _ z) (by lk),λz=>absurd (a _ z) (by lk),by lia⟩
def zm(h:z.length<=200)(h2:10∉z.l):kL (jq z):=by
 refine⟨λy=>?_,λy=>?_,by have:=ac7 List.length (iR z);rw[bV,P3,oq,d5,bV] at this;lia⟩
 .rw[iR] at y;rcases Z5.mp y with y|y
  .exact absurd y (by decide)
  .unfold oq at y;obtain⟨c,_,e⟩:=aa9.mp y;split at e <;> lia
 .rw[iR] at y;rcases Z5.mp y with y|y
  .exact absurd y (by decide)
  .unfold oq at y;obtain⟨c,a,e⟩:=aa9.mp y;split at e
   .lia
   .exact h2 (e ▸ a)
def nV  (h:s∈sorts):kL s/\s ≠ "mode" := by rcases iz h with rfl|rfl|rfl|rfl|rfl|rfl|rfl <;> exact⟨⟨by lk,by lk,by lk⟩,by lk⟩
def DT(G:wg s z):∀x∈cI s z,kL x:=by
 intro x a;unfold cI at a;split at a
 .rw[B1.mp a];exact(nV G.bc).1
 .rename_i b;obtain⟨f,c,g,d⟩:=G.sg b;rcases Z5.mp a with e|e
  .exact e▸(nV G.bc).1
  .rw[B1.mp e];exact zm c d
def Aj(hn:∀n∈cv,isName n=true)(G:jB cv R):∀x∈eO cv R,kL x:=by
 intro x a;unfold eO at a;simp only[X1] at a;rcases a with a|a|a|a|a
 .exact DT G.pat x a
 .split at a
  .rename_i h;rw[B1.mp a];exact nU (G.cn h)
  .cases a
 .rw[B1.mp a];have:=G.bB;simp only[Z5,ad1,an3] at this;rcases this with e|e|e|e <;> rw[e] <;> exact⟨by lk,by lk,by lk⟩
 .cases e:R.bo with
  |some g =>
   rw[e] at a;rw[B1.mp a];have b:g<cv.length:=by
    by_cases h:gW R.bB
    .obtain⟨f,c,d⟩:=G.bo h;rw[e] at c;cases c;exact d
    .rw[G.OM h] at e;cases e
   refine nU (hn _ ?_);have:cv.getD g "" = cv[g]:=by simp[b]
   exact this▸ag2 b
  |none=>rw[e] at a;cases a
 .split at a
  .cases a
  .rw[B1.mp a];rcases G.bn with e|e|e <;> rw[e] <;> exact⟨by lk,by lk,by lk⟩
def K7:1<=(cI s z).length/\(cI s z).length<=2:=by
 unfold cI;split
 .exact⟨by show 1<=1;decide,by show 1<=2;decide⟩
 .exact⟨by show 1<=2;decide,by show 2<=2;decide⟩
def EB:1<=(eO cv R).length/\(eO cv R).length<=7:=by
 have a:=K7 (s:=R.bc) (z:=R.bi);have b:(if cF R.bc=true then [R.bZ] else []).length<=1:=by split <;> simp
 have c:=Dw (cv:=cv) (g:=R.bo);have d:(if R.bn = "" then [] else [R.bn]).length<=1:=by split <;> simp
 unfold eO;simp only[i5,P3,ac6];lia
def tu(G:ic its):∀n∈namesOf its,isName n=true:=by
 intro n b;unfold namesOf at b;obtain⟨f,g,d⟩:=List.mem_flatMap.mp b;obtain⟨i,h⟩:=ab8.mp g;cases f with
 |bp a c =>
  rw[(B1.mp d)];exact(G.bp i a c h).1
 |cb R=>cases d
def sQ(G:ic its)(h:its[i]?=some it):(∀x∈it.cq (namesOf its),kL x)/\it.cq (namesOf its)≠[]/\(it.cq (namesOf its)).length<=7:=by
 cases it with
 |bp n c =>
  obtain⟨a,d,_⟩:=G.bp i n c h;refine⟨λx b=>?_,by simp[Item.cq],by simp[Item.cq]⟩;simp only[Item.cq,Z5,ad1,an3] at b;rcases b with e|e|e
  .exact e▸⟨by lk,by lk,by lk⟩
  .exact e▸nU a
  .exact e▸nU d
 |cb R =>
  obtain⟨a,_⟩:=G.cb i R h;have hl:=EB (cv:=namesOf its) (R:=R);exact⟨Aj (tu G) a,λz=>by simp only[Item.cq] at z;rw[z] at hl;simp at hl,hl.2⟩
theorem uR(hcd:d≠c):∀{ps:List c7},(∀p∈ps,d∉p)->d∉d9 c ps
 | [],_,z=>by cases z
 | [x],h,z=>h x (by simp) z
 |x::y::r,h,z=>by
  unfold d9 at z;rcases X1.mp z with z|z
  .exact h x (by simp) z
  .rcases Z5.mp z with z|z
   .exact hcd z
   .exact uR hcd (λp hp=>h p (Q1 _ hp)) z
theorem qz:∀{ps:List c7},(∀p∈ps,p.length<=m)->(d9 c ps).length<=ps.length*(m+1)
 | [],_=>by simp[d9]
 | [x],h=>by have:=h x (by simp);simp[d9];lia
 |x::y::r,h=>by have b:=h x (by simp);have d:=qz (c:=c) (ps:=y::r) (λp a=>h p (Q1 _ a));unfold d9;rw[i5,P3,P3,Nat.succ_mul];lia
def ny(G:ic its)(h:its[i]?=some it):10∉(rowOf (namesOf its) it).l/\(rowOf (namesOf its) it).length<=1421/\Txt.split (rowOf (namesOf its) it) ⟨#[32]⟩=it.cq (namesOf its):=by
 obtain⟨d,f,j⟩:=sQ G h;refine⟨by unfold rowOf;rw[fZ];refine uR (by decide) λp a=>?_;obtain⟨x,e,rfl⟩:=aa9.mp a;exact(d x e).n,?_,pe f λp a=>(d p a).b⟩
 .have g:=qz (c:=32) (m:=202) (ps:=(it.cq (namesOf its)).map λp=>p.l) (λp a=>by obtain⟨x,e,rfl⟩:=aa9.mp a;rw[bV];exact(d x e).l)
  rw[<- fZ,bV,d5] at g;unfold rowOf;lia
def rowsOf(its:List Item):a9:=its.map (rowOf (namesOf its))
def rX(h:(rowsOf its)[i]?=some x):∃it,its[i]?=some it/\x=rowOf (namesOf its) it:=by unfold rowsOf at h;rw[v3] at h;obtain⟨it,a,b⟩:=D1.mp h;exact⟨it,a,b.symm⟩
def Af(G:ic its):Txt.split (Str.join ⟨#[10]⟩ (rowsOf its)) ⟨#[10]⟩=rowsOf its:=by refine pe (by unfold rowsOf;simpa using G.ne) λp a=>?_;obtain⟨i,h⟩:=ab8.mp a;obtain⟨c,b,rfl⟩:=rX h;exact(ny G b).1
def text_len(G:ic its)(hl:its.length<=200):(Str.join ⟨#[10]⟩ (rowsOf its)).length<=300000:=by
 have a:=qz (c:=10) (m:=1421) (ps:=(rowsOf its).map λp=>p.l) (λp b=>by obtain⟨x,d,rfl⟩:=aa9.mp b;obtain⟨i,h⟩:=ab8.mp d;obtain⟨f,e,rfl⟩:=rX h;rw[bV];exact(ny G e).2.1)
 rw[<- fZ,bV,d5,rowsOf,d5] at a;unfold rowsOf;lia
structure Nums(cv:a9)(cp:List (Key×V)):Prop where
 has:numsOf cv cp
 not:∀n,n∉cv->fP cp (.inr n)=none
 len:cp.length=cv.length
def Nums.nil:Nums [] []:=⟨λg n h=>by simp at h,λ_ _=>rfl,rfl⟩
def Nums.put(N:Nums cv cp)(h:n∉cv):Nums (cv++[n]) (putK cp (.inr n) (.int cv.length)):=by
 refine⟨λg m e=>?_,λm a=>by rw[yi,C5 (λz=>a (by rw[an9 z];simp))];exact N.not m λz=>a (aa8 _ z),by unfold putK;rw[iC,N.not n h,C5 (by decide),i5,i5,N.len];rfl⟩
 .rw[yi];rcases dU e with e|⟨b,c⟩
  .have:m≠n:=λz=>h (z ▸ p0 e);rw[C5 (λz=>this (an9 z))];exact N.has g m e
  .rw[c,w4 rfl,b]
inductive Vh(vs:q7)(H:Hp)(Q:VK)(_:XK):Prop|mk(a:Addr)(its:List Item)(_:vs=[.ref a])(_:H a=r6 ((rowsOf its).map V.str))(_:ic its)(_:its.length<=200)(_:∀d cp H',H' d=some (.dK cp)->Nums (namesOf its) cp->af H H'->Q (.ref d) H')
def tY   (G:jB cv R):∃x r,eO cv R=x::r/\x ≠ "mode" := by
 unfold eO cI;split
 .exact⟨R.bc,_,rfl,(nV G.pat.bc).2⟩
 .exact⟨R.bc,_,rfl,(nV G.pat.bc).2⟩
def S0:bE P w K mg ap dJ 1 t.Ep t.Ql ["rows"] Vh:=by
 refine T.E8.ok xJ λvs H Q E h=>?_;obtain⟨a,f,rfl,I,G,O,q⟩:=h;room;have J:(" " : Str)=⟨#[32]⟩:=by lk
 refine ak (b7 1 xJ kN) λd L=>?_;refine aG (λm=>∀x y e p,p d=some (.dK e)->Nums (namesOf f) e->af H p->m [ρ a,ρ d,x,y] p) (dD aa7 rfl (fF br) (jb 2 xJ) ay) ?_ ?_
 .refine⟨a,rfl,⟨_,aV.of (by rw[aj (au I L)];exact I)⟩,jw (xs:=(rowsOf f).map V.str) (λi s p=>∃x y e,s=[ρ a,ρ d,x,y]/\p d=some (.dK e)/\Nums (namesOf (f.take i)) e/\af H p) ⟨_,_,[],rfl,aa,Nums.nil,af.ag L⟩ (by rintro i s p _ ⟨x,y,e,rfl,u,l,v⟩;exact aV.of (v _ _ I)) ?_ (by rintro s p ⟨x,y,e,rfl,u,l,v⟩;refine λ_ C1=>C1 x y e _ u ?_ v;rw[d5,rowsOf,d5,ab3] at l;exact l)⟩
  .rintro i xv s D S ⟨x,y,e,rfl,u,l,U⟩;rw[v3] at S;obtain⟨bb,z,rfl⟩:=D1.mp S;obtain⟨A,g,rfl⟩:=rX z;obtain⟨g1,g2,X⟩:=ny G g;refine ak (b7 3 xJ (cV ae2 ag1 aj8 kM cG (bQ aZ))) ⟨rfl,_,_,rfl,rfl,by decide,bK (by lia),λB M=>?_⟩;rw[J,X];have F:af D (ag D B (.lst ((A.cq (namesOf f)).map V.str))):=af.ag M;have C:ag D B (.lst ((A.cq (namesOf f)).map V.str)) B=r6 ((A.cq (namesOf f)).map V.str):=aa;have r:=F _ _ u;generalize ag D B (.lst ((A.cq (namesOf f)).map V.str))=H2 at F C r;cases A with
   |bp n c =>
    obtain⟨m1,m2,m3,Y⟩:=G.bp i n c g;refine av (bq (PW.pt (dX (aA cC (aC aU dh ai) aZ (aE _)) (cX (aA j9 (ez aD T.bD (bQ dh)) ai (aE _))))) ay ay) ⟨aV.of C,aB (j:=0) rfl,rfl,.mk<|dM (λ_=>?_) (λh=>absurd rfl h)⟩;refine⟨_,_,rfl,.inl (aV.of C),.mk<|.mk<|dM (λ_=>?_) (λh=>absurd (by simp[Item.cq]) h)⟩;refine av (pS (cS hr) bP (aC aU dh ai) (ez Eb T.bD (bQ bP)) rfl) ⟨d,e,rfl,r,aV.of C,aB (j:=1) rfl,d,_,rfl,xA.k (k:=.inr n) r (l.len▸cL (by lia)),?_⟩
    .refine⟨_,_,_,rfl,aa,by rw[ae1 g,nu,l.len];exact l.put Y,λb o W=>by rw[aj (au W L)];exact F _ _ (U _ _ W)⟩
   |cb R =>
    obtain⟨Z,_⟩:=G.cb i R g;obtain⟨fw,fr,e1,e2⟩:=tY Z;have N:H2 B=r6 (V.str fw::fr.map V.str):=by rw[C];simp only[Item.cq];rw[e1];rfl
    refine av (bq (PW.pt (dX (aA cC (aC aU dh ai) aZ (aE _)) (cX (aA j9 (ez aD T.bD (bQ dh)) ai (aE _))))) ay ay) ⟨aV.of N,aB (j:=0) rfl,rfl,.mk<|dM (λh=>absurd (V.str.inj h) e2) (λ_=>bg ?_)⟩;refine⟨_,_,e,rfl,r,?_,U.trans F⟩;rw[ae1 g,nu];show Nums (namesOf (f.take i)++[]) e;rw[ad2];exact l
 intro x y e p u l v;exact av (aQ bP) (q d e p u l v)
inductive Ij(t:eZ)(vs:q7)(H:Hp)(Q:VK)(_:XK):Prop|mk(p dx lw lm:Addr)(bb:Int)(n c:Str)(as ls:c6)(ms:List aR)(_:vs=[.ref p,.ref lm])(_:pJ t H p dx lw bb ["mode",n,c] 0)(_:isName n=true)(_:isName c=true)(_:H lm=r6 (as.map V.ref))(_:cY t H as ls ms)(_:ms.length<12)(_:n∉ms.map (·.name))(_:∀m l2 dm H',H' m=s0 t.fE dm (mf ⟨n,c,[]⟩ l2)->H' l2=r6 []->H l2=none->fY H H' p->Q (.ref m) H')
def MH{M:aR}(h:H m=s0 t.fE dm (mf M l))(C:pJ t H p dx lw bb ws i):m≠p:=bL h C.ob λq=>by
 injection q with _ _ q
 unfold mf cf at q;simp at q
def VY:bE P w K mg ap dJ 5 t.Ff t.Ov ["cursor","modes"] (Ij t):=by
 refine T.Et.ok z5 λvs H Q E h=>?_;obtain⟨p,d,y,W,bb,n,c,L,ls,f,rfl,C,hn,hc,r,s,hl12,X,q⟩:=h;room;refine ak (aY (bw br T.bx T.DM (vn T) hr.m T.zK.b2 .nil aH (bQ (eW fX (ez aD T.bD (bQ bP)) (iF rfl T.uw) (aE _))))) ⟨C.ob,rfl,_,_,rfl,.inl (aV.of r),.mk ?_⟩;dsimp only;rw[ab4 (by rw[d5,s.la];lia)];refine⟨_,rfl,?_⟩;refine ak (aY (bw br T.bx T.LV (B4 T) hr.m T.IG.b2 .nil aH (bQ (bG (bQ aZ))))) ⟨C.ob,rfl,sL rfl,λpt Z=>?_⟩;have s1:af H (ag H pt (.tup [.str "mode"])):=af.ag Z;refine⟨p,d,y,pt,["mode"],bb,_,0,rfl,C.ae s1,bT.of aa,B1.mpr rfl,λH2 M A=>?_⟩;have A:=s1.K3 A;have g:=A _ _ r (bL r C.ob);refine ak (aY (bw br T.bx T.DM (vn T) hr.m T.zK.b2 .nil aH (ao (eW mj (bR br T.bx T.AB (tG T) hr.m T.zg.b1 .nil aH (by left)) (@iM _ (az (top 62)) _ ["cursor","modes","name","colour"] _ _ ("mode") _ _ [] _ _ (by walk_at "ck") (fF bP) (λ_ _ _ _=>by exact(@kc _ K _ _ _ _ br rfl (by left))) (by left) (by left) (by left) (by left)) rfl) bu (by left)) (by left) (by left) (by left)) (by left)) ?_;refine⟨M.ob,rfl,⟨M.ob,rfl,p,d,y,bb,_,0+1,rfl,M,?_⟩⟩;refine⟨W,rfl,⟨_,aV.of g⟩,ie (xs:=L.map V.ref) (λi N v=>v=H2/\N=((f.map (·.name)).take i).map V.str) ⟨rfl,rfl⟩ (cL (by rw[d5,s.la];lia)) (by rintro i N v _ ⟨rfl,_⟩;exact aV.of g) ?_ ?_⟩
 .rintro i xv N v hx B ⟨rfl,rfl⟩;rw[v3] at hx;obtain⟨a,ha,rfl⟩:=D1.mp hx;have hi:i<L.length:=(d6.mp ha).1;obtain⟨m,hm⟩:∃m,f[i]?=some m:=⟨f[i]'(s.la▸hi),i4 _⟩
  obtain⟨l,hll⟩:∃l,ls[i]?=some l:=⟨ls[i]'(s.ll▸s.la▸hi),i4 _⟩
  obtain⟨dm,rs,o1,o2,o3⟩:=s.ob i a l m ha hll hm;refine⟨A _ _ o1 (MH o1 C),T.gF,T.jT,rfl,?_⟩;refine fQ (by rw[d5];exact hi) B ⟨rfl,?_⟩;rw[ae1 (l:=f.map (·.name)) (x:=m.name) (by rw[v3,hm];rfl),o0];rfl
 .rintro N v B ⟨rfl,rfl⟩ D hD;rw[(ac1 (by rw[d5,d5,s.la];lia))];have s3:af v (ag v D (.lst ((f.map (·.name)).map V.str))):=af.ag hD;have C3:=M.ae s3;refine⟨.inl (aV.of aa),rfl,vj,?_⟩;rw[w4 rfl,mS,ab2 (p:=pk ["mode",n,c] (0+1)∈f.map (·.name)) X];refine⟨_,rfl,?_⟩;refine ak (b7 2 z5 (bR br T.bx T.Lj (BV T) hr.m T.FZ.b1 .nil aH)) ⟨C3.ob,rfl,p,d,y,bb,_,0+1,rfl,C3,hn,λH4 C4 a4=>?_⟩;refine ak (b7 3 z5 (bR br T.bx T.Lj (BV T) hr.m T.FZ.b1 .nil aH)) ⟨C4.ob,rfl,p,d,y,bb,_,0+1+1,rfl,C4,hc,λH5 O R=>?_⟩;have R:=(A.ae s3).trans (a4.trans R);refine ak (aY (bw br T.bx T.DM (vn T) hr.m T.zK.b2 .nil aH (bQ (Ka (bR br T.bx T.Lg (Cn T) hr.m T.IT.b1 .nil aH))))) ⟨O.ob,rfl,⟨O.ob,rfl,p,d,y,bb,_,0+1+1+1,rfl,O,.mk ?_⟩⟩;refine⟨_,rfl,?_⟩;refine av (aQ (fj T.Cb (ER T) hr.m rfl T.zc T.GX.b4 .nil aH (ao cG (cy dh (bM bu))))) ⟨sL rfl,λl1 hl1=>?_⟩;intro x dm nx G ne;refine⟨x,dm,l1,n,c,[],rfl,aa,by rw[aj (au aa nx),aj (au aa G)];exact aa,λl2 H6 h1 h2 h3 h4=>⟨rfl,?_⟩⟩;have I:∀b o,H5 b=some o->b≠x/\b≠dm/\b≠l1:=λb o u=>by
   have e1:=au u hl1;have J:ag H5 l1 (.lst []) b=some o:=by rw[aj e1];exact u
   exact⟨au J nx,au J G,e1⟩
  have j:∀b o,H5 b=some o->H6 b=some o:=λb o u=>by obtain⟨S,k2,k3⟩:=I b o u;refine h4 b o ?_ S;rw[aj S,aj k2,aj k3];exact u
  refine q x l2 dm H6 h2 h3 ?_ λb o u nb=>j b o (R b o u nb);cases e:H l2 with
  |none=>rfl
  |some o =>
   by_cases z:l2=p
   .rw[z,(j p _ O.ob)] at h3;cases h3
   .have U:=R _ _ e z;obtain⟨S,k2,k3⟩:=I _ _ U;rw[aj S,aj k2,aj k3,U] at h1;cases h1
inductive V9(t:eZ)(vs:q7)(H:Hp)(Q:VK)(_:XK):Prop|mk(its:List Item)(_:vs=[.str (Str.join ⟨#[10]⟩ (rowsOf its))])(_:ic its)(_:its.length<=200)(_:∀a H',IsRules t H' a (foldI its)->af H H'->Q (.ref a) H')
def vB(its:List Item):(foldI its).length=(namesOf its).length:=by rw[<- sG,d5]
def fY.fresh(s:af H H1)(h:H p=none)(a:fY H1 H2 p):af H H2:=λb o c=>a b o (s b o c) (au c h)
def eF.mJ(h:eF t H r R)(hl:H l=r6 xs):eF t (ag H l o) r R:=by obtain⟨a,p,x,⟨b,y⟩⟩:=h;exact⟨a,p,by rw[aj (bL x hl)];exact x,b,by rw[aj (bL y hl)];exact y⟩
def cY.mJ(h:cY t H as ls ms)(hl:H l=r6 xs)(hn:l∉ls):cY t (ag H l o) as ls ms :=
 ⟨h.la,h.ll,h.nd,λi a b m d c f=>by obtain⟨g,j,x,y,z⟩:=h.ob i a b m d c f;exact⟨g,j,by rw[aj (bL x hl)];exact x,by rw[aj (show b≠l from λe=>hn (e ▸ p0 c))];exact y,z.mono λ_ _ r=>r.mJ hl⟩⟩
def cY.alive(h:cY t H as ls ms)(hl:l∈ls):∃xs,H l=r6 xs:=by obtain⟨i,e⟩:=ab8.mp hl;have a:=(d6.mp e).1;obtain⟨b,c,x,y,z⟩:=h.ob i _ l _ (i4 (h.la▸h.ll▸a)) e (i4 (h.ll▸a));exact⟨_,y⟩
def cY.ZF(h:cY t H as ls ms)(hm:H m=s0 t.fE dm (mf ⟨n,c,[]⟩ l))(hl:H l=r6 [])(hn:l∉ls):cY t H (as++[m]) (ls++[l]) (ms++[⟨n,c,[]⟩]):=by
 refine⟨by simp[h.la],by simp[h.ll],by refine af3.mpr ⟨h.nd,by simp,λa p b q=>?_⟩;rw[B1.mp q];exact λe=>hn (e ▸ p),λi a j o g d f=>?_⟩
 .have u:=h.la;have v:=h.ll;rcases dU g with g|⟨w,rfl⟩
  .have:=(d6.mp g).1;rcases dU d with d|⟨r,rfl⟩
   .rcases dU f with f|⟨s,rfl⟩
    .exact h.ob i a j o g d f
    .lia
   .lia
  .rcases dU d with d|⟨r,rfl⟩
   .have:=(d6.mp d).1;lia
   .rcases dU f with f|⟨s,rfl⟩
    .have:=(d6.mp f).1;lia
    .exact⟨dm,[],hm,hl,bf.nil⟩
def J8{l:c6}(h:l.Nodup)(h1:l[i]?=some a)(h2:l[j]?=some a):i=j:=by obtain⟨d,b⟩:=d6.mp h1;obtain⟨e,c⟩:=d6.mp h2;exact(List.getElem_inj h).mp (b.trans c.symm)
def cY.ZD(h:cY t H as ls (ms++[m]))(hl:ls[ms.length]?=some l)(hH:H l=r6 (rs.map V.ref))(hA:bf (eF t H) rs m.bd)(hr:eF t H r R) :
  cY t (ag H l (.lst (rs.map V.ref++[.ref r]))) as ls (ms++[{ m with bd:=m.bd++[R] }]):=by
 refine⟨by rw[h.la];simp,by rw[h.ll];simp,h.nd,λi a j n g c d=>?_⟩;rcases dU d with d|⟨o,rfl⟩
 .have p:=(d6.mp d).1;obtain⟨f,b,x,y,z⟩:=h.ob i a j n g c (by rw[aa2 p];exact d);refine⟨f,b,by rw[aj (bL x hH)];exact x,?_,z.mono λ_ _ r=>r.mJ hH⟩;rw[aj (λe=>?_)]
  .exact y
  .subst e;have:=J8 h.nd c hl;lia
 .subst o;rw[hl] at c;cases c;obtain⟨f,b,x,y,z⟩:=h.ob _ a l m g hl (by simp);refine⟨f,rs++[r],by rw[aj (bL x hH)];exact x,by rw[aa,o0];rfl,?_⟩;exact bf.snoc (hA.mono λ_ _ r=>r.mJ hH) (hr.mJ hH)
def uT{f:α->β}{as:List α}{k:Nat}{a:α}(hl:as.length=k+1)(h:as[k]?=some a):oE (as.map f) (-1)=some (f a):=by
 unfold oE zG;rw[d5,hl];have e:((-1:Int)+((k+1:Nat):Int)).toNat=k:=by lia
 first
  | (rw[C5 (by lia),w4 (by lia)];simp only[an2];rw[show (((k+1:Nat):Int)+(-1:Int)).toNat=k by lia,v3,h];rfl)
  | (rw[C5 (by lia),w4 (by lia)];simp only[an2];rw[e,v3,h];rfl)
def U0:bE P w K mg ap dJ 7 t.Fw t.Q9 ["text"] (V9 t):=by
 refine T.Hw.ok lV λvs H Q E h=>?_;obtain⟨e,rfl,G,M,q⟩:=h;room;have nl1:("\n" : Str)=⟨#[10]⟩:=by lk
 refine ak (b7 1 lV (cV ae2 ag1 aj8 kM br (bQ aZ))) ⟨rfl,_,_,rfl,rfl,by decide,bK (by have:=text_len G M;lia),λv hlr=>?_⟩;rw[nl1,Af G];have s1:af H (ag H v (.lst ((rowsOf e).map V.str))):=af.ag hlr;have U:ag H v (.lst ((rowsOf e).map V.str)) v=r6 ((rowsOf e).map V.str):=aa;generalize ag H v (.lst ((rowsOf e).map V.str))=H1 at s1 U;refine ak (b7 2 lV (aS (S0 T) hr.m rfl T.Vu T.E8.kp T.E8.b1 .nil aH (bQ bP))) ⟨v,e,rfl,U,G,M,λd cp H2 hd2 hN s2=>?_⟩;have hr2:=s2 _ _ U;have s2:=s1.trans s2;refine ak (b7 3 lV (bM bu)) ⟨sL rfl,λlm W=>?_⟩;have s3:af H2 (ag H2 lm (.lst [])):=af.ag W;have X:ag H2 lm (.lst []) lm=r6 []:=aa;generalize ag H2 lm (.lst [])=H3 at s3 X;have hlm0:H lm=none:=s2.free W;have hr3:=s3 _ _ hr2;have hd3:=s3 _ _ hd2;have s3:=s2.trans s3;refine ak (b7 4 lV (bM bu)) ⟨sL rfl,λnw Y=>?_⟩;have Z:af H3 (ag H3 nw (.lst [])):=af.ag Y;have hw4:ag H3 nw (.lst []) nw=r6 []:=aa;generalize ag H3 nw (.lst [])=H4 at Z hw4;have hr4:=Z _ _ hr3;have hd4:=Z _ _ hd3;have hm4:=Z _ _ X;have Z:=s3.trans Z;refine aG (λk=>∀x5 x6 x7 x8 f ls s,s lm=r6 (f.map V.ref)->s nw=r6 []->cY t s f ls (foldI e)->af H s->k [τ (Str.join ⟨#[10]⟩ (rowsOf e)),ρ v,ρ d,ρ lm,ρ nw,x5,x6,x7,x8] s) (dD aa7 rfl (wG rfl T.mY (bQ bP)) (iK rfl (bF (jb 5 lV) (bF (jb 6 lV) fU))) ay) ?_ ?_
 .refine⟨v,_,rfl,aV.of hr4,qK (xs:=(rowsOf e).map V.str) (λi σ' s=>∃x5 x6 x7 x8 f ls,σ'=[τ (Str.join ⟨#[10]⟩ (rowsOf e)),ρ v,ρ d,ρ lm,ρ nw,x5,x6,x7,x8]/\s lm=r6 (f.map V.ref)/\s nw=r6 []/\s v=r6 ((rowsOf e).map V.str)/\s d=some (.dK cp)/\cY t s f ls (foldI (e.take i))/\lm∉ls/\nw∉ls/\v∉ls/\(∀l∈ls,H l=none)/\af H s) (⟨_,_,_,_,[],[],rfl,hm4,hw4,hr4,hd4,⟨rfl,rfl,List.nodup_nil,λi a l m h=>by simp at h⟩,by simp,by simp,by simp,by simp,Z⟩) (by rintro i σ' s _ ⟨x5,x6,x7,x8,f,ls,rfl,h1,h2,h3,_⟩;exact aV.of h3) ?_ (by rintro σ' s ⟨x5,x6,x7,x8,f,ls,rfl,h1,h2,h3,h4,h5,_,_,_,_,h6⟩;rw[d5,rowsOf,d5,ab3] at h5;exact λ_ C1=>C1 _ _ _ _ f ls _ h1 h2 h5 h6)⟩
  .rintro i xv pt σ' H5 hx hpt ⟨x5,x6,x7,x8,f,ls,rfl,J,hw5,hr5,B,hM,u,C,D,hfr,s5⟩;rw[v3] at hx;obtain⟨bb,hrow,rfl⟩:=D1.mp hx;obtain⟨it,y,rfl⟩:=rX hrow;obtain⟨g1,g2,g3⟩:=ny G y;obtain⟨w1,w2,w3⟩:=sQ G y;have s6:af H5 (ag H5 pt (.tup [.int i,.str (rowOf (namesOf e) it)])):=af.ag hpt;refine⟨pt,[.int i,.str (rowOf (namesOf e) it)],rfl,bT.of aa,rfl,_,_,rfl,_,_,rfl,rfl,?_⟩;generalize ag H5 pt (.tup [.int i,.str (rowOf (namesOf e) it)])=H6 at s6;refine ak (b7 7 lV (fj T.DS (Xi T) hr.m rfl T.A3 T.WU.b3 .nil aH (cy gX jv))) (λp F np L ne=>⟨p,F,i,_,rfl,aa,by lia,by rw[g3];lia,λlw H7 hlw N a7=>⟨rfl,?_⟩⟩);rw[g3] at N;have I:af H5 H7:=λb o g=>a7 b o (by rw[aj (au (s6 _ _ g) np),aj (au (s6 _ _ g) L)];exact s6 _ _ g) (au (s6 _ _ g) np);have hp5:H5 p=none:=s6.free np;have A:=I _ _ J;have hM7:=hM.ae I;have hml:f.length=(foldI (e.take i)).length:=hM.la;cases it with
   |bp n c =>
    obtain⟨m1,m2,m3,m4⟩:=G.bp i n c y;refine av (bq (PW.pt (jz (g9 (gc dh (λ_=>rfl))) (jk (aA cC (bR jO T.bx T.AB (tG T) hr.m T.zg.b1 .nil aH) aZ (aE _))))) ay ay) ⟨_,.inl ⟨_,aV.of A,rfl⟩,?_⟩;refine(λg=>xM (λ_=>zA g) (λ_=>⟨N.ob,rfl,p,F,lw,i,_,0,rfl,N,rfl,.mk<|dM (λ_=>g) (λh=>absurd rfl h)⟩)) ?_;refine av (aY (cV Z4 aa0 aa3 bW dh (bQ (aS (VY T) hr.m rfl T.RQ T.Et.kp T.Et.b2 .nil aH (cy jO dh))))) ⟨.inl ⟨rfl,_,aV.of A⟩,p,F,lw,lm,i,n,c,f,ls,_,rfl,N,m1,m2,A,hM7,by rw[vB];exact m3,by rw[sG];exact m4,λm l2 dm H8 e1 e2 O a8=>?_⟩;have j:af H5 H8:=fY.fresh I hp5 a8;have hm8:=j _ _ J;have n1:lm≠l2:=au A O;have hn2:l2∉ls:=λz=>by obtain⟨xs,hx⟩:=hM7.alive z;rw[hx] at O;cases O
    refine⟨hm8,cL (by rw[d5,hml,vB];lia),?_⟩;refine⟨_,_,_,_,f++[m],ls++[l2],rfl,by rw[aa,o0];rfl,by rw[aj (aa4 (au X Y))];exact j _ _ hw5,by rw[aj (au hr2 W)];exact j _ _ hr5,by rw[aj (bL B J)];exact j _ _ B,by rw[ae1 y,uf];exact cY.ZF ((hM.ae j).mJ hm8 u) (by rw[aj (bL e1 hm8)];exact e1) (by rw[aj (aa4 n1)];exact e2) hn2,?_,?_,?_,?_,by intro b o g;rw[aj (au g hlm0)];exact j _ _ (s5 _ _ g)⟩
    .intro z;rcases X1.mp z with z|z
     .exact u z
     .exact n1 (B1.mp z)
    .intro z;rcases X1.mp z with z|z
     .exact C z
     .exact au (I _ _ hw5) O (B1.mp z)
    .intro z;rcases X1.mp z with z|z
     .exact D z
     .exact au (I _ _ hr5) O (B1.mp z)
    .intro l hl;rcases X1.mp hl with z|z
     .exact hfr l z
     .rw[B1.mp z];exact(s5.trans I).free O
   |cb R =>
    obtain⟨r1,ms,m,hms,hm12⟩:=G.cb i R y;obtain⟨fw,fr,f1,f2⟩:=tY r1;rw[hms] at hM hM7 hml;have hk:f.length=ms.length+1:=by rw[hml];simp
    obtain⟨a,ha⟩:∃a,f[ms.length]?=some a:=⟨f[ms.length]'(by lia),i4 _⟩
    obtain⟨l,hl⟩:∃l,ls[ms.length]?=some l:=⟨ls[ms.length]'(by rw[hM.ll];simp),i4 _⟩
    obtain⟨dm,rs,o1,o2,o3⟩:=hM.ob ms.length a l m ha hl (by simp);have o2':=I _ _ o2;have hrl:rs.length<12:=o3.1▸hm12
    have hnl:l∈ls:=p0 hl;refine av (bq (PW.pt (jz (g9 (gc dh (λ_=>rfl))) (jk (aA cC (bR jO T.bx T.AB (tG T) hr.m T.zg.b1 .nil aH) aZ (aE _))))) ay ay) ⟨_,.inl ⟨_,aV.of A,rfl⟩,xM (λh=>?_) (λ_=>?_)⟩
    .exfalso;have:f≠[]:=λz=>by rw[z] at hk;simp at hk
     cases f with
     |nil=>exact this rfl
     |cons _ _=>simp at h
    refine⟨N.ob,rfl,p,F,lw,i,_,0,rfl,N,rfl,.mk<|dM (λh=>by exfalso;refine f2 ?_;have h:=V.str.inj h;simp only[Item.cq,f1] at h;exact h) (λ_=>?_)⟩
    refine ak (b7 8 lV (aM (aC aU dh (iQ fT ai)) rfl)) ⟨aV.of A,uT hk ha,I _ _ o1,T.gF,T.gJ,rfl,?_⟩;refine ak (aY (bw jO T.bx T.DM (vn T) hr.m T.zK.b2 .nil aH (bQ (eW fX (ez aD T.bD (bQ kH)) (iF rfl T.sV) (aE _))))) ⟨N.ob,rfl,_,_,rfl,.inl (aV.of o2'),.mk ?_⟩;dsimp only;rw[ab4 (by rw[d5];lia)];refine⟨_,rfl,?_⟩;refine av (aY (cV Z4 aa0 aa3 bW kH (bQ (aS (Tz T) hr.m rfl T.RA T.KQ.kp T.KQ.b3 .nil aH (ao jO (cy cG eE)))))) ⟨.inl ⟨rfl,_,aV.of o2'⟩,p,F,lw,d,_,i,_,cp,namesOf e,R,rfl,N,rfl,I _ _ B,hN.has,tu G,r1,λr H8 hr8 a8=>?_⟩;have j:af H5 H8:=fY.fresh I hp5 a8;have S:=j _ _ o2;refine⟨S,cL (by rw[d5];lia),?_⟩;refine⟨_,_,_,_,f,ls,rfl,by rw[aj (show lm≠l from λz=>u (z ▸ hnl))];exact j _ _ J,by rw[aj (show nw≠l from λz=>C (z ▸ hnl))];exact j _ _ hw5,by rw[aj (show v≠l from λz=>D (z ▸ hnl))];exact j _ _ hr5,by rw[aj (bL B o2)];exact j _ _ B,by rw[ae1 y,uf,hms];show cY _ _ _ _ (j8 R (ms++[m]));rw[lQ];exact(hM.ae j).ZD hl S (o3.mono λ_ _ r=>r.ae j) hr8,u,C,D,hfr,by intro b o g;rw[aj (au g (hfr l (p0 hl)))];exact j _ _ (s5 _ _ g)⟩
 intro x5 x6 x7 x8 f ls s h1 h2 h5 h6;refine ak (bq (gc eE (λ_=>rfl)) ay ay) ⟨_,.inl ⟨_,aV.of h2,rfl⟩,mH (bg ?_)⟩;refine av (aQ (fj T.xO (GH T) hr.m rfl T.uY T.Hx.b2 .nil aH (bQ dh))) (λx F nx L ne=>⟨x,F,lm,_,rfl,aa,by rw[aj (au h1 nx),aj (au h1 L)];exact h1,λl2 H8 e1 e2 O e4=>⟨rfl,?_⟩⟩);have j:af s H8:=λb o g=>e4 b o (by rw[aj (au g nx),aj (au g L)];exact g) (au g nx);exact q x H8 ⟨F,l2,f,ls,e2,O,h5.ae j⟩ (h6.trans j)
def iP(R:cz)(bb:Str)(i:Nat):Bool:=decide (fh R.bc R.bi bb i ≠ .dj)
noncomputable def jI(bb:Str)(i:Nat):Nat->List cz->Option Nat
 |_,[]=>none
 |k,R::r=>if iP R bb i=true then some k else jI bb i (k+1) r
def firstM(rs:List cz)(bb:Str)(i:Nat):Option Nat:=jI bb i 0 rs
def GoodR(R:cz):Prop:=R.bc∈sorts/\R.bi.length<=200
def wo(rs:List cz):Prop:=rs.length<=200/\∀R∈rs,GoodR R
def gH{l:List α}{x:α}(h:l[i]?=some x):l.drop i=x::l.drop (i+1):=by rw[List.drop_eq_getElem?_toList_append,h];rfl
def DB{rs:List cz}(h:rs[n]?=some R):jI bb i k (rs.drop n)=if iP R bb i=true then some k else jI bb i (k+1) (rs.drop (n+1)):=by rw[gH h];rfl
def IsRules.bp(h:IsRules t H a ms){k:Nat}(hm:ms[k]?=some m) :
  ∃(dx lm:Addr) (as:c6) (b lr dm:Addr) (rs:c6),H a=s0 t.kg dx [("modes",.ref lm)]/\H lm=r6 (as.map V.ref)/\as.length=ms.length/\as[k]?=some b/\H b=s0 t.fE dm (mf m lr)/\H lr=r6 (rs.map V.ref)/\bf (eF t H) rs m.bd:=by
 obtain⟨dx,lm,as,f,j,d,c⟩:=h;have g:=(d6.mp hm).1;obtain⟨b,i⟩:∃b,as[k]?=some b:=⟨as[k]'(c.la▸g),i4 _⟩
 obtain⟨lr,e⟩:∃b,f[k]?=some b:=⟨f[k]'(c.ll▸g),i4 _⟩
 obtain⟨dm,rs,l,n,o⟩:=c.ob k b lr m i e hm;exact⟨dx,lm,as,b,lr,dm,rs,j,d,c.la,i,l,n,o⟩
def cM{as:c6}(h:as[k]?=some b):oE (as.map V.ref) ((k:Nat):Int)=some (.ref b):=aB (by rw[v3,h];rfl)
inductive My(t:eZ)(vs:q7)(H:Hp)(Q:VK)(_:XK):Prop|mk(a:Addr)(ms:List aR)(m:aR)(k i:Nat)(bb:Str)(_:vs=[.ref a,.int k,.str bb,.int i])(_:IsRules t H a ms)(_:ms[k]?=some m)(_:wo m.bd)(_:bb.length<=1000)(_:i<=bb.length)(_:∀H',af H H'->Q (vU (firstM m.bd bb i)) H')
def IJ:bE P w K mg ap dJ 2 t.Im t.PV ["rules","mode","row","at"] (My t):=by
 refine T.xY.ok zI λvs H Q E h=>?_;obtain⟨a,ms,m,k,i,bb,rfl,M,N,ba,g,O,q⟩:=h;room;obtain⟨dx,lm,as,b,S,U,W,X,v,Y,Z,A,j,B⟩:=M.bp N;refine aF (λc d=>(∃x y,c=[ρ a,ι k,τ bb,ι i,x,y])/\af H d/\firstM m.bd bb i=none) (dD aa7 rfl (wG rfl T.mY (bQ (aM (aC aU (aM br rfl) bP) rfl))) (iK rfl (bF (jb 4 zI) (bF (jb 5 zI) fU))) ay) ?_ ?_
 .refine⟨X,T.jf,T.d7,rfl,⟨aV.of v,cM Z,A,T.gF,T.gJ,rfl,S,_,rfl,aV.of j,qK (xs:=W.map V.ref) (λn c d=>(∃x y,c=[ρ a,ι k,τ bb,ι i,x,y])/\af H d/\firstM m.bd bb i=jI bb i n (m.bd.drop n)) ⟨⟨_,_,rfl⟩,af.refl H,rfl⟩ (by rintro n c d _ ⟨_,l,_⟩;exact aV.of (l _ _ j)) ?_ (by rintro c d ⟨h1,h2,L⟩;rw[d5,B.1,List.drop_length] at L;exact⟨h1,h2,L⟩)⟩⟩
  .rintro n xv pt c F G C ⟨⟨x,y,rfl⟩,l,o⟩;rw[v3] at G;obtain⟨r,p,rfl⟩:=D1.mp G;obtain⟨R,e⟩:∃R,m.bd[n]?=some R:=⟨m.bd[n]'(B.1▸(d6.mp p).1),i4 _⟩
   obtain⟨dr,I,D,J,s⟩:=B.2 n r R p e;obtain⟨g1,g2⟩:=ba.2 R (p0 e);obtain⟨fe,fs,de,ds,u⟩:=Mq (P:=P) (w:=w) (ap:=ap) T g1;have f:af H (ag F pt (.tup [.int n,.ref r])):=l.trans (af.ag C);refine⟨pt,[.int n,.ref r],rfl,bT.of aa,rfl,_,_,rfl,_,_,rfl,rfl,?_⟩;rw[DB e] at o;generalize ag F pt (.tup [.int n,.ref r])=H2 at f;refine av (bq (aA nR (bw (aM gX rfl) u.cl u.me u.ge hr.m u.be .nil aH (cy cG dh)) cR (aE _)) ay ay) (⟨(f _ _ D),T.cW,T.gj,rfl,⟨f _ _ s,u.ne _,I,J,R.bi,bb,i,rfl,f _ _ s,by lia,g,O,rfl,.mk<|mq (λh=>by refine av (aQ eE) (?_);rw[w4 (show iP R bb i=true from ab4 h)] at o;have:=q H2 f;rw[o] at this;exact this) (λh=>bg ⟨⟨_,_,rfl⟩,f,by rw[C5 (by rw[iP,ab2 (λz=>z h)];decide)] at o;exact o⟩)⟩⟩)
 rintro c d ⟨⟨x,y,rfl⟩,l,hn⟩;refine av (aQ cR) ?_;have:=q d l;rw[hn] at this;exact this
noncomputable def aX(n:Nat):V:=.int (n:Int)
noncomputable def cT(on:c7)(d:Str)(g:Option Nat):c7 :=
 if d = "push" then on++[g.getD 0] else if d = "into" then on.dropLast++[g.getD 0] else if d = "pop" then (if on.length=1 then [0] else on.dropLast) else on
def Oa(R:cz):Prop:=gW R.bB->∃g,R.bo=some g
theorem xT:∀(l:List α) (x:α),l≠[]->l.set (l.length-1) x=l.dropLast++[x]
 | [],_,h=>absurd rfl h
 | [a],x,_=>rfl
 |a::b::r,x,_=>by
  have:=xT (b::r) x (by simp);show a::(b::r).set ((b::r).length-1) x=a::((b::r).dropLast++[x])
  rw[this]
def K5(h:0<n):zG n (-1)=some (n-1):=by
 unfold zG;first
  | (rw[C5 (by lia),w4 (by lia)];congr 1;lia)
  | (rw[w4 (by lia)];congr 1;lia)
inductive V5(t:eZ)(vs:q7)(H:Hp)(Q:VK)(_:XK):Prop|mk(lo r:Addr)(on:c7)(R:cz)(_:vs=[.ref lo,.ref r])(_:H lo=r6 (on.map aX))(_:eF t H r R)(_:on≠[])(_:on.length<=100000)(_:Oa R)(_:Q .dj (ag H lo (.lst ((cT on R.bB R.bo).map aX))))
def UT(h:H a=some o):ag H a o=H:=by
 funext b;by_cases e:b=a
 .rw[e,aa,h]
 .rw[aj e]
def E4:bE P w K mg ap dJ 1 t.F7 t.Qo ["modes","rule"] (V5 t):=by
 refine T.yS.ok Ut λB H Q E h=>?_;obtain⟨lo,r,c,R,rfl,a,⟨C,D,b,u⟩,f,p,s,q⟩:=h;room;have i:0<c.length:=by cases c with | nil=>exact absurd rfl f | cons _ _=>simp
 refine av (bq (aA cC (aM bP rfl) aZ (aE _)) ay ay) (⟨b,T.cW,T.iw,rfl,⟨rfl,.mk<|dM (λh=>by have h:=V.str.inj h;obtain⟨g,l⟩:=s (.inl h);refine av (aY (cV Z4 aa0 aa3 bW br (bQ (aM bP rfl)))) ⟨.inl ⟨rfl,_,aV.of a⟩,⟨b,T.cW,T.jR,rfl,⟨a,cL (by rw[d5];lia),?_⟩⟩⟩;rw[cT,w4 h,l,o0] at q;exact l▸q) (λj=>?_)⟩⟩)
 .have j:R.bB ≠ "push" := λz=>j (by rw[z]);refine av (bq (aA cC (aM bP rfl) aZ (aE _)) ay ay) (⟨b,T.cW,T.iw,rfl,⟨rfl,.mk<|dM (λh=>by have h:=V.str.inj h;obtain⟨g,l⟩:=s (.inr h);refine av (jo (aM bP rfl) (wH br (iQ fT ai) set_list)) (⟨b,T.cW,T.jR,rfl,⟨lo,_,_,_,rfl,rfl,a,K5 (by rw[d5];exact i),?_⟩⟩);rw[cT,C5 j,w4 h,l,o0] at q;rw[xT _ _ (by simpa using f),l,<- List.map_dropLast];exact q) (λn=>?_)⟩⟩)
  .have n:R.bB ≠ "into" := λz=>n (by rw[z]);refine av (bq (aA cC (aM bP rfl) aZ (aE _)) ay ay) (⟨b,T.cW,T.iw,rfl,⟨rfl,.mk<|dM (λh=>?_) (λo=>bg (by rw[cT,C5 j,C5 n,C5 (λz=>o (by rw[z])),UT a] at q;exact q))⟩⟩)
   .rw[cT,C5 j,C5 n,w4 (V.str.inj h)] at q;obtain⟨y,A⟩:∃y,(c.map aX)[(c.map aX).length-1]?=some y:=⟨_,i4 (by rw[d5];lia)⟩
    refine ak (aY (qD Z4 aj1 al1 qJ br)) ⟨.inl ⟨rfl,_,aV.of a⟩,a,A,?_⟩;refine av (bq (g9 (gc br (λ_=>rfl))) ay ay) ⟨_,.inl ⟨_,aV.of aa,rfl⟩,?_⟩;rw[<- List.map_dropLast];by_cases d:c.length=1
    .rw[w4 d] at q;have e:=ad5 (by rw[af9,d]);rw[e];refine zA (av (aY (cV Z4 aa0 aa3 bW br (bQ (iF rfl T.nJ)))) ⟨.inl ⟨rfl,_,aV.of aa⟩,aa,by decide,?_⟩);rw[fV];exact q
    .rw[C5 d] at q;have e:c.dropLast≠[]:=λz=>by have:=ac7 List.length z;rw[af9] at this;simp at this;lia
     cases hd:c.dropLast with
     |nil=>exact absurd hd e
     |cons x r =>
      rw[hd] at q;exact mH (bg q)
def MF(h:on≠[]):cT on d g≠[]:=by
 unfold cT;split
 .simp
 .split
  .simp
  .split
   .split
    .simp
    .intro z;have:=ac7 List.length z;rw[af9] at this;cases on with
     |nil=>exact h rfl
     |cons x r =>
      cases r with
      |nil=>rename_i a _ ;simp at *
      |cons y r=>simp at this
   .exact h
def gA(h:on.getLast?=some k):oE (on.map aX) (-1)=some (aX k):=by
 obtain⟨a,rfl⟩:∃a,on=a++[k]:=by
  rcases al3 on with rfl|⟨p,x,rfl⟩
  .simp at h
  .simp at h;exact⟨p,by rw[h,al2]⟩
 exact uT (k:=a.length) (by simp) (by simp)
structure eK(ms:List aR):Prop where
 pos:0<ms.length
 len:ms.length<=200
 ok:∀m∈ms,wo m.bd
 bB:∀m∈ms,∀R∈m.bd,R.bB∈ow
 bo:∀m∈ms,∀R∈m.bd,gW R.bB->∃g,R.bo=some g/\g<ms.length
def eK.gd(G:eK ms)(h:m∈ms)(h2:R∈m.bd):Oa R:=λz=>let ⟨g,e,_⟩:=G.bo m h R h2 z;⟨g,e⟩
def lK(ms:List aR)(on:c7):Prop:=on≠[]/\∀x∈on,x<ms.length
def lK.bB(G:eK ms)(h:lK ms on)(h1:m∈ms)(h2:R∈m.bd):lK ms (cT on R.bB R.bo):=by
 refine⟨MF h.1,λx a=>?_⟩;unfold cT at a;split at a
 .rename_i e;obtain⟨g,b,c⟩:=G.bo m h1 R h2 (.inl e);rcases X1.mp a with a|a
  .exact h.2 x a
  .rw[B1.mp a,b];exact c
 .split at a
  .rename_i e;obtain⟨g,b,c⟩:=G.bo m h1 R h2 (.inr e);rcases X1.mp a with a|a
   .exact h.2 x (List.dropLast_subset _ a)
   .rw[B1.mp a,b];exact c
  .split at a
   .split at a
    .rw[B1.mp a];exact G.pos
    .exact h.2 x (List.dropLast_subset _ a)
   .exact h.2 x a
noncomputable def cE(on:c7):Nat:=on.getLastD 0
def iI(h:on≠[]):on.getLast?=some (cE on):=by unfold cE;rw[ae7,List.getLast?_eq_some_getLast h];rfl
def sy(h:on≠[]):cE on∈on:=List.mem_of_getLast? (iI h)
def lK.bp(h:lK ms on):∃m,ms[cE on]?=some m:=⟨ms[cE on]'(h.2 _ (sy h.1)),i4 _⟩
def iD(rs:List cz)(bb:Str)(i:Nat):Option cz:=(firstM rs bb i).bind (rs[·]?)
def jK(rs:List cz)(bb:Str):Option cz:=(iD rs bb 0).bind λR=>if cF R.bc=true then none else some R
theorem mZ:∀{rs:List cz} {k n:Nat},jI bb i k rs=some n->k<=n/\∃R,rs[n-k]?=some R/\iP R bb i=true/\∀j,j<n-k->∀R',rs[j]?=some R'->iP R' bb i=false
 | [],k,n,h=>by cases h
 |R::r,k,n,h=>by
  rw[jI] at h;split at h
  .rename_i hf;cases h;refine⟨N0 _,R,by rw[aj6];rfl,hf,λj hj=>?_⟩;lia
  .rename_i hf;obtain⟨h1,R',h2,h3,h4⟩:=mZ h;have e:n-k=(n-(k+1))+1:=by lia
   refine⟨by lia,R',by rw[e,ah2];exact h2,h3,λj hj b a=>?_⟩;cases j with
   |zero =>
    rw[af6] at a;cases a;simpa using hf
   |succ j=>exact h4 j (by lia) b (by rw[ah2] at a;exact a)
def yj(h:firstM rs bb i=some n):∃R,rs[n]?=some R/\iD rs bb i=some R/\iP R bb i=true:=by obtain⟨_,R,a,b,_⟩:=mZ h;rw[Nat.sub_zero] at a;exact⟨R,a,by rw[iD,h];exact a,b⟩
inductive SM(t:eZ)(vs:q7)(H:Hp)(Q:VK)(_:XK):Prop|mk(a:Addr)(ms:List aR)(m:aR)(k:Nat)(bb:Str)(_:vs=[.ref a,.int k,.str bb])(_:IsRules t H a ms)(_:ms[k]?=some m)(_:wo m.bd)(_:bb.length<=1000)(_:∀H',af H H'->(jK m.bd bb=none->Q .dj H')/\∀R r,jK m.bd bb=some R->eF t H r R->Q (.ref r) H')
def Fg:bE P w K mg ap dJ 3 t.Iu t.M7 ["rules","mode","row"] (SM t):=by
 refine T.yp.ok zR λM H Q E h=>?_;obtain⟨a,y,m,k,bb,rfl,u,v,ba,d,q⟩:=h;room;refine ak (b7 3 zR (aS (IJ T) hr.m rfl T.Hh T.xY.kp T.xY.b4 .nil aH (ao br (ao bP (cy cG ai))))) ⟨a,y,m,k,0,bb,rfl,u,v,ba,d,by lia,λi c=>?_⟩;obtain⟨N,O,S,b,U,z,W,A,j,B,C,l,o,D⟩:=u.bp v;cases hf:firstM m.bd bb 0 with
 |none =>
  have e:jK m.bd bb=none:=by rw[jK,iD,hf];rfl
  exact ak (bq (aA we dh cR (aE _)) ay ay) ⟨rfl,.mk<|dM (λ_=>av (aQ cR) ((q i c).1 e)) (λh=>absurd rfl h)⟩
 |some n =>
  obtain⟨R,x,p,_⟩:=yj hf;obtain⟨r,s,f⟩:=D.at x;obtain⟨F,X⟩:=ba.2 R (p0 x);obtain⟨Y,fs,Z,ds,g⟩:=Mq (P:=P) (w:=w) (ap:=ap) T F;refine ak (bq (aA we dh cR (aE _)) ay ay) ⟨rfl,.mk<|dM (λh=>by cases h) (λ_=>bg ?_)⟩;refine ak (b7 4 zR (aC aU (aM (aC aU (aM br rfl) bP) rfl) dh)) (⟨(c _ _ A),T.jf,T.d7,rfl,⟨aV.of (c _ _ j),cM C,c _ _ l,T.gF,T.gJ,rfl,aV.of (c _ _ o),cM s,?_⟩⟩);obtain⟨dr,G,I,J,L⟩:=id f;have e:jK m.bd bb=if cF R.bc=true then none else some R:=by rw[jK,p];rfl
  refine av (aQ (dc (gR (bR (aM eE rfl) g.cl g.ms g.gs hr.m g.bs .nil aH)) cR eE)) (⟨(c _ _ I),T.cW,T.gj,rfl,⟨c _ _ L,g.ns _,_,rfl,.mk<|xM (λh=>by rw[w4 h] at e;exact(q i c).1 e) (λh=>(by rw[C5 (by rw[h];decide)] at e;exact(q i c).2 R r e f))⟩⟩)
def lZ(ms:List aR)(k:Nat)(bb:Str):Option cz:=(ms[k]?).bind λm=>jK m.bd bb
noncomputable def k8(ms:List aR)(bb:Str)(first:Nat):Nat->c7->c7->Option c7
 |0,_,_=>none
 |f+1,on,ring=>match lZ ms (cE on) bb with
  |none=>none
  |some R=>if R.bB = "pop" /\ on.length=1/\first≠0 then none else if cE (cT on R.bB R.bo)=first then some (ring++[cE on]) else k8 ms bb first f (cT on R.bB R.bo) (ring++[cE on])
def jD(ms:List aR)(first:Nat)(bb:Str):Option c7:=k8 ms bb first ms.length [first] []
def qb:(cT on d g).length<=on.length+1:=by
 unfold cT;split
 .simp
 .split
  .simp
  .split
   .split
    .simp
    .simp;lia
   .lia
def ze(h:jK rs bb=some R):R∈rs:=by
 unfold jK at h;cases e:iD rs bb 0 with
 |none=>rw[e] at h;cases h
 |some R' =>
  rw[e] at h;have:(if cF R'.bc=true then none else some R')=some R:=h;split at this
  .cases this
  .cases this;unfold iD at e;cases e2:firstM rs bb 0 with
   |none=>rw[e2] at e;cases e
   |some n=>rw[e2] at e;exact p0 e
inductive Au(t:eZ)(vs:q7)(H:Hp)(Q:VK)(_:XK):Prop|mk(a:Addr)(ms:List aR)(first:Nat)(bb:Str)(_:vs=[.ref a,.int first,.str bb])(_:IsRules t H a ms)(_:eK ms)(_:first<ms.length)(_:bb.length<=1000)(_:∀H',af H H'->(jD ms first bb=none->Q .dj H')/\∀ring l,jD ms first bb=some ring->H' l=r6 (ring.map aX)->H l=none->Q (.ref l) H')
def I9:bE P w K mg ap dJ 4 t.HD t.NX ["rules","first","row"] (Au t):=by
 refine T.yu.ok tQ λvs H Q E h=>?_;obtain⟨a,n,first,bb,rfl,hR,G,p,y,q⟩:=h;room;refine ak (b7 3 tQ (bM bu)) ⟨sL rfl,λg B=>?_⟩;have s1:af H (ag H g (.lst [])):=af.ag B;have C:ag H g (.lst []) g=r6 []:=aa;generalize ag H g (.lst [])=H1 at s1 C;refine ak (b7 4 tQ (bM (bQ bP))) ⟨sL rfl,λlo D=>?_⟩;have N:af H1 (ag H1 lo (.lst [.int first])):=af.ag D;have O:ag H1 lo (.lst [.int first]) lo=r6 ([first].map aX):=aa;have S:=N _ _ C;have U:=au C D;have W:=s1.free D;generalize ag H1 lo (.lst [.int first])=H2 at N O S;show At _ _ _ [ρ a,ι first,τ bb,ρ g,ρ lo,none] H2;obtain⟨dx,lm,as,ls,ha,hlm,hM⟩:=id hR;refine aG (λk=>∀x j,af H j->jD n first bb=none->k [ρ a,ι first,τ bb,ρ g,ρ lo,x] j) (jd aa7 (aA fX (ez aD T.bD (bQ dh)) (ez aD T.bD (bQ (aM br rfl))) (aE _)) ay) ?_ ?_
 .refine⟨λf s j=>∃d ring,(∃x,s=[ρ a,ι first,τ bb,ρ g,ρ lo,x])/\j g=r6 (ring.map aX)/\j lo=r6 (d.map aX)/\af H j/\f+ring.length=n.length/\lK n d/\d.length<=ring.length+1/\jD n first bb=k8 n bb first f d ring,⟨n.length,[first],[],⟨_,rfl⟩,S,O,s1.trans N,by simp,⟨by simp,by simpa using p⟩,by simp,rfl⟩,?_⟩;rintro f s H3 ⟨d,ring,⟨x,rfl⟩,X,F,l,hfl,i,honl,c⟩;have hlen:=G.len;refine⟨_,_,rfl,.inl (aV.of X),⟨(l _ _ ha),T.jf,T.d7,rfl,⟨_,_,rfl,.inl (aV.of (l _ _ hlm)),.mk<|.mk<|dM (λh=>?_) (λh=>?_)⟩⟩⟩
  .rw[d5,d5,hM.la] at h;obtain⟨f',rfl⟩:∃f',f=f'+1:=⟨f-1,by lia⟩
   obtain⟨m,Y⟩:=i.bp;have u:=p0 Y;have hid:lZ n (cE d) bb=jK m.bd bb:=by rw[lZ,Y];rfl
   rw[k8,hid] at c;refine⟨_,λs j z=>z,?_⟩;obtain⟨dx',lm',as',b,lr,dm,rs,ha',hlm',hal',M,hmo,hlr,hA⟩:=(hR.ae l).bp Y;cases hi0:jK m.bd bb with
   |none =>
    rw[hi0] at c;refine ak (b7 5 tQ (aS (Fg T) hr.m rfl T.IC T.yp.kp T.yp.b3 .nil aH (ao br (cy (aC aU eE (iQ fT ai)) cG)))) ⟨aV.of F,gA (iI i.1),a,n,m,cE d,bb,rfl,hR.ae l,Y,G.ok m u,y,λv I=>⟨λ_=>?_,(λR r e=>by rw[hi0] at e;cases e)⟩⟩;exact ak (bq (aA we gX cR (aE _)) ay ay) ⟨rfl,.mk<|dM (λ_=>av (aQ cR) ((q v (l.trans I)).1 c)) (λh=>absurd rfl h)⟩
   |some R =>
    rw[hi0] at c;have Z:=ze hi0;refine ak (b7 5 tQ (aS (Fg T) hr.m rfl T.IC T.yp.kp T.yp.b3 .nil aH (ao br (cy (aC aU eE (iQ fT ai)) cG)))) ⟨aV.of F,gA (iI i.1),a,n,m,cE d,bb,rfl,hR.ae l,Y,G.ok m u,y,λv I=>⟨(λe=>by rw[hi0] at e;cases e),λR' r e hr1=>?_⟩⟩;rw[hi0] at e;cases e;refine ak (bq (aA we gX cR (aE _)) ay ay) ⟨rfl,.mk<|dM (λh=>by cases h) (λ_=>bg ?_)⟩;have hr4:=hr1.ae I;have J:=I _ _ X;have L:=I _ _ F;obtain⟨dr,pa,o1,hpat⟩:=id hr4;refine aG (λk=>∀j,j=v->¬(R.bB = "pop" /\ d.length=1/\first≠0)->k [ρ a,ι first,τ bb,ρ g,ρ lo,ρ r] j) (bq (PW.pt (dX (aA cC (aM gX rfl) aZ (aE _)) (dX (aA cC (ez aD T.bD (bQ eE)) ai (aE _)) (cX (aA tX bP (iF rfl T.nJ) (aE _)))))) ay ay) ?_ ?_
    .refine⟨o1,T.cW,T.iw,rfl,⟨rfl,.mk<|dM (λh1=>?_) (λh1=>bg (λ_ C1=>C1 _ rfl (λz=>h1 (by rw[z.1]))))⟩⟩;refine⟨_,_,rfl,.inl (aV.of L),rfl,.mk<|dM (λh2=>?_) (λh2=>bg (λ_ C1=>C1 _ rfl (λz=>h2 (by rw[d5,z.2.1];rfl))))⟩;refine⟨rfl,.mk<|mq (λh3=>?_) (λh3=>bg (λ_ C1=>C1 _ rfl (λz=>z.2.2 (by have:=V.int.inj h3;lia))))⟩;have h2:=V.int.inj h2;rw[d5] at h2;have hc:R.bB = "pop" /\ d.length=1/\first≠0:=⟨V.str.inj h1,by lia,λz=>h3 (by rw[z];rfl)⟩
     simp only[w4 hc] at c;exact av (aQ cR) ((q v (l.trans I)).1 c)
    intro j e hnc;rw[e];clear e j;simp only[C5 hnc] at c;refine ak (aY (cV Z4 aa0 aa3 bW dh (bQ (aC aU eE (iQ fT ai))))) ⟨.inl ⟨rfl,_,aV.of J⟩,aV.of L,gA (iI i.1),J,cL (by rw[d5];lia),?_⟩;have hg5:ag v g (.lst (ring.map aX++[aX (cE d)])) g=r6 ((ring++[cE d]).map aX):=by rw[aa,o0];rfl
    have ho5:ag v g (.lst (ring.map aX++[aX (cE d)])) lo=r6 (d.map aX):=by rw[aj (aa4 U)];exact L
    have hr5:eF t (ag v g (.lst (ring.map aX++[aX (cE d)]))) r R:=hr4.mJ J;have s5:af H (ag v g (.lst (ring.map aX++[aX (cE d)]))):=λb o M=>by rw[aj (au M B)];exact I _ _ (l _ _ M)
    generalize ag v g (.lst (ring.map aX++[aX (cE d)]))=H5 at hg5 ho5 hr5 s5;refine ak (aY (aS (E4 T) hr.m rfl T.HE T.yS.kp T.yS.b2 .nil aH (cy eE gX))) ⟨lo,r,d,R,rfl,ho5,hr5,i.1,by lia,G.gd u Z,?_⟩;have A:=i.bB G u Z;have hol6:(cT d R.bB R.bo).length<=d.length+1:=qb;have hg6:ag H5 lo (.lst ((cT d R.bB R.bo).map aX)) g=r6 ((ring++[cE d]).map aX):=by rw[aj U];exact hg5
    have s6:af H (ag H5 lo (.lst ((cT d R.bB R.bo).map aX))):=λb o M=>by rw[aj (au M W)];exact s5 _ _ M
    refine av (bq (aA cC (aC aU eE (iQ fT ai)) bP (aE _)) ay ay) ⟨aV.of aa,gA (iI A.1),rfl,.mk<|dM (λh=>?_) (λh=>bg ?_)⟩
    .have h:cE (cT d R.bB R.bo)=first:=by have:=V.int.inj h;lia
     rw[w4 h] at c;exact av (aQ dh) ((q _ s6).2 _ g c hg6 B)
    .have h:¬cE (cT d R.bB R.bo)=first:=λz=>h (by rw[<- z];rfl);rw[C5 h] at c;refine⟨f',by lia,_,_,⟨_,rfl⟩,hg6,aa,s6,by simp only[i5,P3,ac6];lia,A,by simp only[i5,P3,ac6];lia,c⟩
  .rw[d5,d5,hM.la] at h;have:f=0:=by lia
   subst this;exact λ_ C1=>C1 _ _ l c
 intro x j l hn;exact av (aQ cR) ((q j l).1 hn)
noncomputable abbrev MC:Str:=" !\"#$&'()*+,-./0123456789:;<=>?@ABCDEFGHIJKLMNOPQRSTUVWXYZ[\\]^_`abcdefghijklmnopqrstuvwxyz{|}~"
def iy:a9:="" :: MC.l.map λc=>(⟨#[c]⟩:Str)
inductive Ln(vs:q7)(H:Hp)(Q:VK)(_:XK):Prop|mk(_:vs=[])(_:∀l H',H' l=r6 (iy.map V.str)->H l=none->af H H'->Q (.ref l) H')
def Mp:bE P w K mg ap dJ 1 t.Ao t.JN [] Ln:=by refine T.zP.ok ML λe H Q E h=>?_;obtain⟨rfl,q⟩:=h;room;refine av (aQ (aK gM (bM (bQ aZ)) (pO (Ae rfl) T.jn (bQ (iF rfl T.C0))))) ⟨sL rfl,λc b=>⟨_,rfl,by lk,λd a=>?_⟩⟩;refine⟨af.ag a _ _ aa,aa,bK (by simp only[uy,d5,P3,ac6];lk),λl hl=>?_⟩;refine q l _ ?_ (((af.ag b).to a).free hl) (((af.ag b).to a).to hl);rw[aa,iy,ab5,ag3];rfl
def CQ:∀r∈iy,r.length<=1:=by
 intro r hr;rcases Z5.mp hr with e|e
 .rw[e];decide
 .obtain⟨c,_,rfl⟩:=aa9.mp e;exact N0 1
noncomputable def lH(ms:List aR)(bb:Str):Nat->Nat->Option c7
 |0,_=>none
 |n+1,k=>match jD ms k bb with
  |some r=>some r
  |none=>lH ms bb n (k+1)
noncomputable def kI(ms:List aR):a9->Option (c7×Str)
 | []=>none
 |bb::r=>match lH ms bb ms.length 0 with
  |some ring=>some (ring,bb)
  |none=>kI ms r
def oF(ms:List aR):Option (c7×Str):=kI ms iy
theorem abf:∀{n k:Nat},lH ms bb n k=none->∀j,k<=j->j<k+n->jD ms j bb=none
 |0,k,_,j,h1,h2=>by lia
 |n+1,k,h,j,h1,h2=>by
  rw[lH] at h;cases e:jD ms k bb with
  |some r=>rw[e] at h;cases h
  |none =>
   rw[e] at h;by_cases z:j=k
   .rw[z];exact e
   .exact abf h j (by lia) (by lia)
theorem aaV:∀{rows:a9},kI ms rows=none->∀bb∈rows,∀j,j<ms.length->jD ms j bb=none
 | [],_,bb,h,_,_=>by cases h
 |r::rs,h,bb,hr,j,hj=>by
  rw[kI] at h;cases e:lH ms r ms.length 0 with
  |some r=>rw[e] at h;cases h
  |none =>
   rw[e] at h;rcases Z5.mp hr with z|z
   .rw[z];exact abf e j (Z9 _) (by lia)
   .exact aaV h bb z j hj
def adx(h:oF ms=none):∀bb∈iy,∀j,j<ms.length->jD ms j bb=none:=aaV h
noncomputable def nameAt(ms:List aR)(k:Nat):Str:=match ms[k]? with
 |some m=>m.name
 |none=>""
noncomputable def Us (bb:Str):V:=if bb = "" then .dj else .str bb
inductive V7(t:eZ)(vs:q7)(H:Hp)(Q:VK)(_:XK):Prop|mk(a:Addr)(ms:List aR)(_:vs=[.ref a])(_:IsRules t H a ms)(_:eK ms)(_:∀H',af H H'->(oF ms=none->Q .dj H')/\∀ring bb p l,oF ms=some (ring,bb)->H' p=t0 [.ref l,Us bb]->H' l=r6 ((ring.map (nameAt ms)).map V.str)->Q (.ref p) H')
theorem yH(G:eK ms):∀{f:Nat} {on ring r:c7},lK ms on->(∀x∈ring,x<ms.length)->k8 ms bb first f on ring=some r->∀x∈r,x<ms.length
 |0,on,ring,r,_,_,h=>by cases h
 |f+1,on,ring,r,ho,hr,h=>by
  rw[k8] at h;obtain⟨m,hm⟩:=ho.bp;have hid:lZ ms (cE on) bb=jK m.bd bb:=by rw[lZ,hm];rfl
  rw[hid] at h;have b:∀x∈ring++[cE on],x<ms.length:=λx a=>by
   rcases X1.mp a with a|a
   .exact hr x a
   .rw[B1.mp a];exact ho.2 _ (sy ho.1)
  cases e:jK m.bd bb with
  |none=>rw[e] at h;cases h
  |some R =>
   rw[e] at h;have h:(if R.bB = "pop" /\ on.length=1/\first≠0 then none else if cE (cT on R.bB R.bo)=first then some (ring++[cE on]) else k8 ms bb first f (cT on R.bB R.bo) (ring++[cE on]))=some r:=h;split at h
   .cases h
   .split at h
    .cases h;exact b
    .exact yH G (ho.bB G (p0 hm) (ze e)) b h
theorem vQ:∀{f:Nat} {on ring r:c7},k8 ms bb first f on ring=some r->r.length<=ring.length+f
 |0,on,ring,r,h=>by cases h
 |f+1,on,ring,r,h=>by
  rw[k8] at h;cases e:lZ ms (cE on) bb with
  |none=>rw[e] at h;cases h
  |some R =>
   rw[e] at h;have h:(if R.bB = "pop" /\ on.length=1/\first≠0 then none else if cE (cT on R.bB R.bo)=first then some (ring++[cE on]) else k8 ms bb first f (cT on R.bB R.bo) (ring++[cE on]))=some r:=h;split at h
   .cases h
   .split at h
    .cases h;simp
    .have:=vQ h;rw[i5,P3,ac6] at this;lia
def VV:bE P w K mg ap dJ 5 t.J2 t.NT ["rules"] (V7 t):=by
 refine T.Kl.ok sO λvs H Q E h=>?_;obtain⟨a,d,rfl,R,G,q⟩:=h;room;have hlen:=G.len;refine aF (λg j=>(∃x y z,g=[ρ a,x,y,z])/\af H j/\oF d=none) (dD aa7 rfl (fF (Hl (Mp T) hr.m rfl T.LA T.zP.kp T.zP.b0 .nil aH)) (jb 1 sO) ay) ?_ ?_
 .refine⟨rfl,λl H1 F hl0 X=>⟨l,rfl,⟨_,aV.of F⟩,jw (xs:=iy.map V.str) (λi g j=>(∃x y z,g=[ρ a,x,y,z])/\j l=r6 (iy.map V.str)/\af H j/\oF d=kI d (iy.drop i)) ⟨⟨_,_,_,rfl⟩,F,X,rfl⟩ (by rintro i g j _ ⟨_,h,_⟩;exact aV.of h) ?_ (by rintro g j ⟨h1,_,h2,h3⟩;rw[d5,List.drop_length] at h3;exact⟨h1,h2,h3⟩)⟩⟩
  .rintro i xv g H2 I ⟨⟨x,y,z,rfl⟩,Y,Z,f⟩;rw[v3] at I;obtain⟨bb,p,rfl⟩:=D1.mp I;have hrl:=CQ bb (p0 p);rw[gH p,kI] at f;obtain⟨dx,lm,as,ls,ha,r,hM⟩:=id R;refine av (dD aa7 rfl (fm rfl T.iG (bQ (ez aD T.bD (bQ (aM br rfl))))) (jb 2 sO) ay) (⟨(Z _ _ ha),T.jf,T.d7,rfl,⟨_,_,rfl,.inl (aV.of (Z _ _ r)),(d.length:Int),by rw[d5,hM.la],by lia,by lia,fH (n:=((d.length:Nat):Int).toNat) (λk g j=>(∃y z,g=[ρ a,τ bb,y,z])/\j l=r6 (iy.map V.str)/\af H j/\lH d bb d.length 0=lH d bb (d.length-k) k) ⟨⟨_,_,rfl⟩,Y,Z,rfl⟩ ?_ (by rintro g H3 ⟨⟨y,z,rfl⟩,s,B,c⟩;rw[ab9,aj6] at c;refine⟨⟨_,_,_,rfl⟩,s,B,?_⟩;rw[f,c];rfl)⟩⟩)
   .rintro k g H3 hk ⟨⟨y,z,rfl⟩,s,B,c⟩;have u:k<d.length:=by lia
    rw[show d.length-k=(d.length-(k+1))+1 by lia,lH] at c;cases hf:jD d k bb with
    |none =>
     rw[hf] at c;refine ak (b7 3 sO (aS (I9 T) hr.m rfl T.Gk T.yu.kp T.yu.b3 .nil aH (ao br (cy cG bP)))) ⟨a,d,k,bb,(by rw[ah4];rfl),R.ae B,G,u,by lia,λH4 S=>⟨λ_=>?_,(λring lg e=>by rw[hf] at e;cases e)⟩⟩;exact av (bq (aA nR dh cR (aE _)) ay ay) ⟨rfl,.mk<|mq (λh=>absurd rfl h) (λ_=>bg ⟨⟨_,_,rfl⟩,S _ _ s,B.trans S,c⟩)⟩
    |some ring =>
     rw[hf] at c;have f:oF d=some (ring,bb):=by rw[f,c]
     refine ak (b7 3 sO (aS (I9 T) hr.m rfl T.Gk T.yu.kp T.yu.b3 .nil aH (ao br (cy cG bP)))) ⟨a,d,k,bb,(by rw[ah4];rfl),R.ae B,G,u,by lia,λH4 S=>⟨(λe=>by rw[hf] at e;cases e),λring' lg e J hlg0=>?_⟩⟩;rw[hf] at e;cases e;have L:=B.trans S;have hlt:∀x∈ring,x<d.length:=yH G ⟨by simp,by simpa using u⟩ (by simp) hf;have M:ring.length<1000000:=by have:=vQ hf;simp only[ac6] at this;lia
     refine av (bq (aA nR dh cR (aE _)) ay ay) ⟨rfl,.mk<|mq (λ_=>?_) (λh=>by cases h)⟩;refine av (aQ (bG (ao (@iM _ (az (top 36)) _ ["rules","row","first","ring"] _ _ ("mode") _ _ [("rules",0)] _ _ (by walk_at "ck") (fF dh) (λ_ _ _ _=>by exact(@kc _ K _ _ _ _ (aC (Gq (K:=K) rfl) (@kc _ K _ _ _ _ br rfl (by left)) bP (λ_ _=>rfl)) rfl (by left))) (by left) (by left) (by left) (by left)) (ao (dc (gc bP (λ_=>rfl)) bP cR) bu (by left)) (by left)))) ⟨lg,rfl,⟨_,aV.of J⟩,ie (xs:=ring.map aX) (λi U v=>U=((ring.take i).map (nameAt d)).map V.str/\af H4 v) ⟨rfl,af.refl H4⟩ (by rw[d5];exact Nat.lt_trans M (by decide)) (by rintro i U v _ ⟨_,C⟩;exact aV.of (C _ _ J)) ?_ ?_⟩
     .rintro i xv U v I N ⟨rfl,C⟩;rw[v3] at I;obtain⟨n,O,rfl⟩:=D1.mp I;obtain⟨m,hm⟩:∃m,d[n]?=some m:=⟨d[n]'(hlt n (p0 O)),i4 _⟩
      obtain⟨dx,lm,as,b,lr,dm,rs,ha,r,hal,hb,hmo,hlr,hA⟩:=(R.ae (L.trans C)).bp hm;refine⟨ha,T.jf,T.d7,rfl,⟨aV.of r,cM hb,hmo,T.gF,T.jT,rfl,?_⟩⟩;have hi:=(d6.mp O).1;refine fQ (by rw[d5];exact hi) N ⟨?_,C⟩;rw[ae1 O,o0,o0];show _=_++[V.str (nameAt d n)]
      rw[nameAt,hm]
     .rintro U v N ⟨rfl,C⟩ D hD;have e5:ring.take (ring.map aX).length=ring:=by rw[d5,ab3]
      rw[e5];have s6:af H (ag v D (.lst ((ring.map (nameAt d)).map V.str))):=(L.trans C).to hD;have A:ag v D (.lst ((ring.map (nameAt d)).map V.str)) D=r6 ((ring.map (nameAt d)).map V.str):=aa;generalize ag v D (.lst ((ring.map (nameAt d)).map V.str))=H6 at s6 A;by_cases W:bb = ""
      .refine⟨false,⟨bK (by lia),(by rw[W];rfl)⟩,mH ⟨sL rfl,λtp o=>?_⟩⟩;exact(q _ (s6.to o)).2 ring bb tp D f (by rw[aa,Us,w4 W]) (af.ag o _ _ A)
      .have hrl1:bb.length≠0:=λz=>W (i8 (by rw[show (Str.ofString "").l=[] from by lk];exact ad5 (by rw[bV];exact z)));refine⟨true,⟨bK (by lia),?_⟩,zA ⟨sL rfl,λtp o=>(q _ (s6.to o)).2 ring bb tp D f (by rw[aa,Us,C5 W]) (af.ag o _ _ A)⟩⟩
       .have:(bb.length:Int)≠0:=by lia
        simpa using this
 rintro g j ⟨⟨x,y,z,rfl⟩,X,O⟩;exact av (aQ cR) ((q j X).1 O)
def fN(R:cz)(bb:Str)(i:Nat):Nat:=match fh R.bc R.bi bb i with
 |.int n=>n.toNat
 |_=>0
structure Cfg where
 on:c7
 aP:a9
 bj:List (Nat×Str)
noncomputable def dG(ms:List aR)(k:Nat):Str:=match ms[k]? with
 |some m=>m.bZ
 |none=>""
noncomputable def gE(ms:List aR)(k:Nat):List cz:=match ms[k]? with
 |some m=>m.bd
 |none=>[]
def iB (c:Cfg) (R:cz) (bb:Str):Cfg:=⟨cT c.on R.bB R.bo,c.aP++List.replicate (fN R bb c.aP.length) R.bZ,if R.bn = "" then c.bj else c.bj++[(c.aP.length,R.bn)]⟩
def fc(ms:List aR)(bb:Str)(c:Cfg):Option Cfg:=match iD (gE ms (cE c.on)) bb c.aP.length with
 |some R=>some (iB c R bb)
 |none=>if c.aP.length<bb.length then some ⟨c.on,c.aP++[dG ms (cE c.on)],c.bj⟩ else none
noncomputable def goN(ms:List aR)(bb:Str):Nat->Cfg->Option Cfg
 |0,c=>match fc ms bb c with
  |none=>some c
  |some _=>none
 |n+1,c=>match fc ms bb c with
  |none=>some c
  |some c'=>goN ms bb n c'
def xZ(h:fc ms bb c=some c')(g:goN ms bb n c'=some d):goN ms bb (n+1) c=some d:=by rw[goN,h];exact g
def rY(h:fc ms bb c=none):goN ms bb n c=some c:=by
 cases n with
 |zero=>rw[goN,h]
 |succ n=>rw[goN,h]
theorem mO:∀{n m:Nat} {c d:Cfg},n<=m->goN ms bb n c=some d->goN ms bb m c=some d
 |0,m,c,d,_,h=>by
  rw[goN] at h;cases e:fc ms bb c with
  |none=>rw[e] at h;cases h;exact rY e
  |some c'=>rw[e] at h;cases h
 |n+1,0,c,d,h0,_=>by lia
 |n+1,m+1,c,d,h0,h=>by
  rw[goN] at h ⊢;cases e:fc ms bb c with
  |none=>rw[e] at h;exact h
  |some c'=>rw[e] at h;exact mO (by lia) h
def M5(bb:Str)(i:Nat):Str:=match bb.l[i]? with
 |some c=>⟨#[c]⟩
 |none=>""
def adX   (h1:s ≠ "end") (h2:s ≠ "word") (e:bb.l[i]?=some c):fh s sg bb i ≠ .dj↔((s = "any" \/ s = "still")\/(s = "none" /\ c∉sg.l)\/(s ≠ "none" /\ c∈sg.l)):=by
 rw[j0 h1 h2 e];by_cases d:s = "any" \/ s = "still"
 .rw[w4 d];exact⟨λ_=>.inl d,λ_ z=>by cases z⟩
 .rw[C5 d];by_cases b:s = "none"
  .rw[w4 b];by_cases a:c∈sg.l
   .rw[w4 a];exact⟨λz=>absurd rfl z,λz=>by rcases z with z|z|z;(exact absurd z d);(exact absurd a z.2);(exact absurd b z.1)⟩
   .rw[C5 a];exact⟨λ_=>.inr (.inl ⟨b,a⟩),λ_ z=>by cases z⟩
  .rw[C5 b];by_cases a:c∈sg.l
   .rw[w4 a];exact⟨λ_=>.inr (.inr ⟨b,a⟩),λ_ z=>by cases z⟩
   .rw[C5 a];exact⟨λz=>absurd rfl z,λz=>by rcases z with z|z|z;(exact absurd z d);(exact absurd z.1 b);(exact absurd z.2 a)⟩
def adl(hi:i<=bb.length)(h:iP R (M5 bb i) 0=true)(hs:R.bc∈sorts):iP R bb i=true:=by
 unfold iP at h ⊢;rw[ac4] at h ⊢;have hl:=bV bb;cases e:bb.l[i]? with
 |none =>
  have a:i=bb.length:=by have:=List.getElem?_eq_none_iff.mp e;lia
  have b:M5 bb i = "" := by unfold M5;rw[e]
  rw[b] at h;have g:(Str.ofString "").l=[]:=by lk
  rcases iz hs with hs|hs|hs|hs|hs|hs|hs <;> rw[hs] at h ⊢
  .rw[fh,C5 (by decide),w4 rfl] at h ⊢;rw[show (("" : Str)).l=[] from g] at h;have:bb.l.drop i=[]:=ai0 (by lia);rw[this];exact h
  all_goals first
   | (exfalso;exact h (kJ (by decide) (by decide) (by decide)))
   | (rw[fh,w4 rfl,w4 a];intro z;cases z)
 |some c =>
  have a:i<bb.length:=by have:=(d6.mp e).1;lia
  have b:M5 bb i=⟨#[c]⟩:=by unfold M5;rw[e]
  rw[b] at h;rcases iz hs with hs|hs|hs|hs|hs|hs|hs <;> rw[hs] at h ⊢
  .rw[fh,C5 (by decide),w4 rfl] at h ⊢;rw[(gH e)];intro z;apply h;by_cases y:((⟨#[c]⟩:Str).l.drop 0).take R.bi.length=R.bi.l
   .exfalso;have f:[c].take R.bi.length=R.bi.l:=y;have d:=ac7 List.length f;rw[bV,v6] at d;have:(c::bb.l.drop (i+1)).take R.bi.length=R.bi.l:=by
     rw[<- f];cases hsl:R.bi.length with
     |zero=>rfl
     |succ n =>
      rw[hsl] at d;have:n=0:=by simp at d;lia
      subst this;rfl
    rw[w4 this] at z;cases z
   .rw[C5 y]
  all_goals first
   | (rw[fh,w4 rfl,C5 (by show ¬0=1;decide)] at h;exact absurd rfl h)
   |exact(adX (by decide) (by decide) e).mpr ((adX (by decide) (by decide) rfl).mp h)
def aaW  (h:s∈sorts) (h2:cF s=false):s = "still" \/ s = "end" := by
 rcases iz h with rfl|rfl|rfl|rfl|rfl|rfl|rfl;all_goals first
  |exact .inl rfl
  |exact .inr rfl
  | (exfalso;revert h2;lk)
def adH(hi:i<=bb.length)(h:iP R bb i=true)(hs:R.bc∈sorts)(h2:cF R.bc=false):iP R (M5 bb i) 0=true:=by
 unfold iP at h ⊢;rw[ac4] at h ⊢;have hl:=bV bb;cases e:bb.l[i]? with
 |none =>
  have a:i=bb.length:=by have:=List.getElem?_eq_none_iff.mp e;lia
  have b:M5 bb i = "" := by unfold M5;rw[e]
  rw[b];rcases aaW hs h2 with hs|hs <;> rw[hs] at h ⊢
  .exact absurd (kJ (by decide) (by decide) (by lia)) h
  .rw[fh,w4 rfl,w4 (by lk)];intro z;cases z
 |some c =>
  have a:i<bb.length:=by have:=(d6.mp e).1;lia
  have b:M5 bb i=⟨#[c]⟩:=by unfold M5;rw[e]
  rw[b];rcases aaW hs h2 with hs|hs <;> rw[hs] at h ⊢
  .rw[j0 (by decide) (by decide) rfl,w4 (by decide)];intro z;cases z
  .rw[fh,w4 rfl,C5 (by lia)] at h;exact absurd rfl h
theorem acd:∀{rs:List cz} {k n:Nat} {R:cz},rs[n]?=some R->iP R bb i=true->(∀j,j<n->∀R',rs[j]?=some R'->iP R' bb i=false)->jI bb i k rs=some (k+n)
 | [],k,n,R,h,_,_=>by simp at h
 |R0::r,k,0,R,h,hf,_=>by rw[af6] at h;cases h;rw[jI,w4 hf];rfl
 |R0::r,k,n+1,R,h,hf,hn=>by rw[jI,C5 (by rw[(hn 0 (by lia) R0 rfl)];decide),acd (rs:=r) (n:=n) h hf (λj b R' a=>hn (j+1) (by lia) R' a)];congr 1;lia
def aeB(ba:∀R∈rs,R.bc∈sorts)(hi:i<=bb.length)(h:iD rs bb i=some R)(h2:cF R.bc=false):jK rs (M5 bb i)=some R:=by
 unfold iD at h;cases e:firstM rs bb i with
 |none=>rw[e] at h;cases h
 |some n =>
  rw[e] at h;obtain⟨_,a,b,f,c⟩:=mZ e;rw[Nat.sub_zero] at b c;have:a=R:=aa1 (b.symm.trans h);subst this;have l:firstM rs (M5 bb i) 0=some n:=by
   have:=acd (bb:=M5 bb i) (i:=0) (k:=0) b (adH hi f (ba _ (p0 b)) h2) (λj o a d=>by
    cases z:iP a (M5 bb i) 0 with
    |false=>rfl
    |true =>
     have:=adl hi z (ba _ (p0 d));rw[c j o a d] at this;cases this)
   rw[Nat.zero_add] at this;exact this
  rw[jK,iD,l];show (rs[n]?).bind _=_;rw[b];show (if cF a.bc=true then none else some a)=some a;rw[C5 (by rw[h2];decide)]
theorem E5(sg:c7):∀l:c7,jm sg l<=l.length
 | []=>N0 _
 |c::r=>by
  rw[jm];split
  .have:=E5 sg r;rw[P3];lia
  .exact Z9 _
def TL(hi:i<=bb.length)(h:fh s sg bb i = .int n):i+n.toNat<=bb.length:=by
 have hl:=bV bb;by_cases a:s = "end"
 .rw[fh,w4 a] at h;split at h
  .have:=V.int.inj h;lia
  .cases h
 .by_cases b:s = "word"
  .rw[fh,C5 a,w4 b] at h;split at h
   .rename_i d;have:=ac7 List.length d;rw[v6,B2,bV,bV] at this;have:=V.int.inj h;lia
   .cases h
  .cases e:bb.l[i]? with
   |none=>rw[fh,C5 a,C5 b,e] at h;cases h
   |some c =>
    have f:i<bb.length:=by have:=(d6.mp e).1;lia
    have hr:=E5 sg.l (bb.l.drop (i+1));rw[B2] at hr;rw[j0 a b e] at h;split at h
    .have:=V.int.inj h;split at this <;> lia
    .split at h
     .split at h
      .cases h
      .have:=V.int.inj h;lia
     .split at h
      .have:=V.int.inj h;split at this <;> lia
      .cases h
def zN(hs:R.bc∈sorts)(hi:i<=bb.length):i+fN R bb i<=bb.length:=by
 unfold fN;rcases o4 R.bc R.bi bb i with ⟨n,e⟩|e
 .exact e▸TL hi e
 .exact e▸hi
def LJ    (he:cF s=true) (hg:s = "word" -> 1<=sg.length) (h:fh s sg bb i = .int n):1<=n:=by
 have d:s ≠ "end" := λz=>by rw[z] at he;revert he;lk
 have f:s ≠ "still" := λz=>by rw[z] at he;revert he;lk
 by_cases b:s = "word"
 .rw[fh,C5 d,w4 b] at h;split at h
  .have:=V.int.inj h;have:=hg b;lia
  .cases h
 .cases e:bb.l[i]? with
  |none=>rw[fh,C5 d,C5 b,e] at h;cases h
  |some c =>
   rw[j0 d b e] at h;split at h
   .rename_i a;have:=V.int.inj h;rcases a with a|a
    .rw[w4 a] at this;lia
    .exact absurd a f
   .split at h
    .split at h
     .cases h
     .have:=V.int.inj h;lia
    .split at h
     .have:=V.int.inj h;split at this <;> omega
     .cases h
def MK(hs:R.bc∈sorts)(he:cF R.bc=true)(hg:¬ax R.bc->1<=R.bi.length)(hf:iP R bb i=true):1<=fN R bb i:=by
 unfold iP at hf;rw[ac4] at hf;unfold fN;rcases o4 R.bc R.bi bb i with ⟨n,e⟩|e
 .have:=LJ he (λz=>hg (by rw[z];decide)) e;rw[e];show 1<=n.toNat;lia
 .exact absurd e hf
def ahK(hs:R.bc∈sorts)(he:cF R.bc=false):fN R bb i=0:=by
 unfold fN;rcases aaW hs he with h|h <;> rw[h]
 .cases e:bb.l[i]? with
  |none=>rw[fh,C5 (by decide),C5 (by decide),e]
  |some c=>rw[j0 (by decide) (by decide) e,w4 (by decide),C5 (by decide)];rfl
 .rw[fh,w4 rfl];split
  .rename_i e;split at e <;> cases e;rfl
  .rfl
def abb(r:c7)(k:Nat):cE (r++[k])=k:=by unfold cE;simp
inductive GM(H:Hp)(lk:Addr)(mk:List (Nat×Str)):Prop|mk(a)(_:H lk=r6 (a.map V.ref))(_:bf (λp m=>H p=t0 [aX m.1,.str m.2]) a mk)
def GM.ae(h:GM H lk mk)(s:af H H'):GM H' lk mk:=by obtain⟨c,a,b⟩:=h;exact⟨c,s _ _ a,b.mono λ_ _ e=>s _ _ e⟩
def GM.mJ(h:GM H lk mk)(hl:H l=r6 xs)(hn:lk≠l):GM (ag H l o) lk mk:=by obtain⟨c,a,b⟩:=h;exact⟨c,by rw[aj hn];exact a,b.mono λp m e=>by rw[aj (bL e hl)];exact e⟩
inductive GF(H0 H:Hp)(lk:Addr)(mk:List (Nat×Str)):Prop|mk(a)(_:H lk=r6 (a.map V.ref))(_:bf (λp m=>H p=t0 [aX m.1,.str m.2]) a mk)(_:∀p∈a,H0 p=none)
def GF.gm(h:GF H0 H lk mk):GM H lk mk:=by obtain⟨c,a,b,_⟩:=h;exact⟨c,a,b⟩
def GF.ae(h:GF H0 H lk mk)(s:af H H'):GF H0 H' lk mk:=by obtain⟨d,a,b,c⟩:=h;exact⟨d,s _ _ a,b.mono λ_ _ e=>s _ _ e,c⟩
def GF.mJ(h:GF H0 H lk mk)(hl:H l=r6 xs)(hn:lk≠l):GF H0 (ag H l o) lk mk:=by obtain⟨d,a,b,c⟩:=h;exact⟨d,by rw[aj hn];exact a,b.mono λp m e=>by rw[aj (bL e hl)];exact e,c⟩
structure Told(H:Hp)(tp lt lo lk:Addr)(d:Cfg):Prop where
 tp:H tp=t0 [.ref lt,.ref lo,.ref lk]
 lt:H lt=r6 (d.aP.map V.str)
 lo:H lo=r6 (d.on.map aX)
 lk:GM H lk d.bj
inductive SG(t:eZ)(vs:q7)(H:Hp)(Q:VK)(_:XK):Prop|mk(a lo:Addr)(ms:List aR)(on:c7)(bb:Str)(n:Nat)(d:Cfg)(_:vs=[.ref a,.ref lo,.str bb])(_:IsRules t H a ms)(_:eK ms)(_:H lo=r6 (on.map aX))(_:lK ms on)(_:bb.length<=1000)(_:on.length<=50000)(_:n<=40000)(_:goN ms bb n ⟨on,[],[]⟩=some d)(_:∀tp lt lo' lk H',Told H' tp lt lo' lk d->GF H H' lk d.bj->H lt=none->H lo'=none->H lk=none->lt≠lo'->lt≠lk->lo'≠lk->af H H'->Q (.ref tp) H')
theorem sJ(x:α):∀n:Nat,(List.replicate n [x]).flatten=List.replicate n x
 |0=>rfl
 |n+1=>by rw[ag6,am1,sJ x n,ag6];rfl
def Me(h:iP R bb i=true):fh R.bc R.bi bb i=aX (fN R bb i):=by
 unfold iP at h;rw[ac4] at h;unfold fN;have a:∀n,fh R.bc R.bi bb i = .int n->0<=n:=by
  intro n;unfold fh;intro e;repeat' split at e
  all_goals first
   | (have:=V.int.inj e;lia)
   |cases e
 rcases o4 R.bc R.bi bb i with ⟨n,e⟩|e
 .rw[e];have:=a n e;show V.int n=V.int ((n.toNat:Nat):Int);rw[show ((n.toNat:Nat):Int)=n by lia]
 .exact absurd e h
def V8:bE P w K mg ap dJ 3 t.EX t.PX ["rules","modes","row"] (SG t):=by
 refine T.Gj.ok nB λvs H Q E h=>?_;obtain⟨a,lh,y,on,bb,n,d,rfl,hR,G,hlh,ba,S,honl,hn,hgo,q⟩:=h;room;refine ak (b7 3 nB (pO eV T.jn (bQ bP))) ⟨lh,_,rfl,.inl (aV.of hlh),λs X=>?_⟩;have s1:af H (ag H s (.lst (on.map aX))):=af.ag X;have Y:ag H s (.lst (on.map aX)) s=r6 (on.map aX):=aa;generalize ag H s (.lst (on.map aX))=H1 at s1 Y;refine ak (b7 4 nB (bM bu)) ⟨sL rfl,λlt Z=>?_⟩;have s2:af H1 (ag H1 lt (.lst [])):=af.ag Z;have ht2:ag H1 lt (.lst []) lt=r6 []:=aa;have ho2:=s2 _ _ Y;have v:s≠lt:=au Y Z;have C:H lt=none:=s1.free Z;generalize ag H1 lt (.lst [])=H2 at s2 ht2 ho2;have s2:=s1.trans s2;refine ak (b7 5 nB (bM bu)) ⟨sL rfl,λlk L=>?_⟩;have s3:af H2 (ag H2 lk (.lst [])):=af.ag L;have hk3:ag H2 lk (.lst []) lk=r6 []:=aa;have ho3:=s3 _ _ ho2;have ht3:=s3 _ _ ht2;have nok:s≠lk:=au ho2 L;have QY:lt≠lk:=au ht2 L;have U:H lk=none:=s2.free L;generalize ag H2 lk (.lst [])=H3 at s3 hk3 ho3 ht3;show At _ _ _ [ρ a,ρ lh,τ bb,ρ s,ρ lt,ρ lk,none,none,none,none] H3;refine av (jd aa7 (gR k7) ay) ⟨λm σ' D=>∃c,(∃x6 x7 x8 x9,σ'=[ρ a,ρ lh,τ bb,ρ s,ρ lt,ρ lk,x6,x7,x8,x9])/\D s=r6 (c.on.map aX)/\D lt=r6 (c.aP.map V.str)/\GF H D lk c.bj/\lK y c.on/\c.aP.length<=bb.length/\c.on.length+m<=on.length+n/\c.bj.length+m<=n/\goN y bb m c=some d/\af H D,⟨n,⟨on,[],[]⟩,⟨_,_,_,_,rfl⟩,ho3,ht3,⟨[],hk3,bf.nil,by simp⟩,ba,Z9 _,N0 _,by simp,hgo,s2.trans s3⟩,?_⟩;rintro m σ' H4 ⟨c,⟨x6,x7,x8,x9,rfl⟩,ho4,ht4,hk4,i,I,hol4,hml4,f,s4⟩;refine⟨zA ⟨_,λσ' D z=>z,?_⟩⟩;refine ak (b7 6 nB (ez aD T.bD (bQ eE))) ⟨_,_,rfl,.inl (aV.of ht4),?_⟩;rw[d5];show At _ _ _ [ρ a,ρ lh,τ bb,ρ s,ρ lt,ρ lk,ι c.aP.length,x7,x8,x9] H4;obtain⟨md,hm⟩:=i.bp;have M:=p0 hm;obtain⟨dx,lm,as,b,lr,dm,rs,ha,hlm,hal,A,hmo,hlr,hA⟩:=(hR.ae s4).bp hm;have hru:gE y (cE c.on)=md.bd:=by rw[gE,hm]
 refine ak (b7 7 nB (aC aU (aM br rfl) (aC aU dh (iQ fT ai)))) (⟨ha,T.jf,T.d7,rfl,⟨aV.of ho4,gA (iI i.1),aV.of hlm,cM A,?_⟩⟩);refine ak (b7 8 nB (aS (IJ T) hr.m rfl T.Hh T.xY.kp T.xY.b4 .nil aH (ao br (ao (aC aU dh (iQ fT ai)) (cy cG jv))))) ⟨aV.of ho4,gA (iI i.1),a,y,md,cE c.on,c.aP.length,bb,rfl,hR.ae s4,hm,G.ok md M,S,I,λH5 W=>?_⟩;have ho5:=W _ _ ho4;have B:=W _ _ ht4;have N:=hk4.ae W;have s5':=s4.trans W;cases hf:firstM md.bd bb c.aP.length with
 |none =>
  have hrn:iD (gE y (cE c.on)) bb c.aP.length=none:=by rw[hru,iD,hf];rfl
  refine av (bq (aA nR kH cR (aE _)) ay ay) ⟨rfl,.mk<|mq (λh=>absurd rfl h) (λ_=>?_)⟩;refine av (bq (aA fX jv (ez bz T.bD (bQ cG)) (aE _)) ay ay) ⟨_,rfl,bK (by lia),.mk<|.mk<|dM (λh=>?_) (λh=>?_)⟩
  .have hlt':c.aP.length<bb.length:=by lia
   have u:fc y bb c=some ⟨c.on,c.aP++[dG y (cE c.on)],c.bj⟩:=by rw[fc,hrn];show (if c.aP.length<bb.length then _ else _)=_;rw[w4 hlt']
   have ecol:dG y (cE c.on)=md.bZ:=by rw[dG,hm]
   refine av (aY (cV Z4 aa0 aa3 bW eE (bQ (aM jO rfl)))) ⟨.inl ⟨rfl,_,aV.of B⟩,⟨(W _ _ hmo),T.gF,T.kq,rfl,⟨B,cL (by rw[d5];lia),?_⟩⟩⟩;obtain⟨m',rfl⟩:∃m',m=m'+1:=by
    cases m with
    |zero=>rw[goN,u] at f;cases f
    |succ m'=>exact⟨m',rfl⟩
   rw[goN,u] at f;refine⟨m',by lia,⟨c.on,c.aP++[dG y (cE c.on)],c.bj⟩,⟨_,_,_,_,rfl⟩,by rw[aj v];exact ho5,by rw[aa];show _=r6 ((c.aP++[dG y (cE c.on)]).map V.str);rw[o0,ecol];rfl,N.mJ B (aa4 QY),i,by show (c.aP++[dG y (cE c.on)]).length<=_;rw[i5,P3,ac6];lia,by show c.on.length+m'<=_;lia,by show c.bj.length+m'<=_;lia,f,by intro b o A;rw[aj (au A C)];exact s5' _ _ A⟩
  .have u:fc y bb c=none:=by rw[fc,hrn];show (if c.aP.length<bb.length then _ else _)=_;rw[C5 (by lia)]
   have hd:d=c:=by rw[rY u] at f;exact(aa1 f).symm
   subst hd;refine av (aQ (bG (ao eE (cy dh gX)))) ⟨sL rfl,λtp l=>?_⟩;refine q tp lt s lk _ ⟨aa,af.ag l _ _ B,af.ag l _ _ ho5,(N.ae (af.ag l)).gm⟩ (N.ae (af.ag l)) C X U (aa4 v) QY nok (s5'.to l)
 |some j =>
  obtain⟨R,hj,hruR,hfit⟩:=yj hf;have hRm:=p0 hj;obtain⟨g1,g2⟩:=(G.ok md M).2 R hRm;obtain⟨r,hr0,hr1⟩:=hA.at hj;obtain⟨fe,fs,de,ds,PK⟩:=Mq (P:=P) (w:=w) (ap:=ap) T g1;have u:fc y bb c=some (iB c R bb):=by rw[fc,hru,hruR]
  obtain⟨m',rfl⟩:∃m',m=m'+1:=by
   cases m with
   |zero=>rw[goN,u] at f;cases f
   |succ m'=>exact⟨m',rfl⟩
  rw[goN,u] at f;have hr5:=hr1.ae W;have hel:=zN (R:=R) (bb:=bb) g1 I;refine av (bq (aA nR kH cR (aE _)) ay ay) ⟨rfl,.mk<|mq (λ_=>?_) (λh=>by cases h)⟩;refine ak (b7 9 nB (aC aU (aM jO rfl) kH)) (⟨(W _ _ hmo),T.gF,T.gJ,rfl,⟨aV.of (W _ _ hlr),cM hr0,?_⟩⟩);obtain⟨dr,pa,o1,dp,o2⟩:=id hr5;refine ak (aY (cV Z4 F.slot_list_extend F.type_list_extend CY eE (bQ (aK EW (bM (bQ (aM l9 rfl))) (bw (aM l9 rfl) PK.cl PK.me PK.ge hr.m PK.be .nil aH (cy cG jv)))))) ⟨.inl ⟨rfl,_,aV.of B⟩,⟨o1,T.cW,T.kj,rfl,⟨sL rfl,λl1 hl1=>?_⟩⟩⟩;have s6:af H5 (ag H5 l1 (.lst [.str R.bZ])):=af.ag hl1;have hl6:ag H5 l1 (.lst [.str R.bZ]) l1=r6 [.str R.bZ]:=aa;generalize ag H5 l1 (.lst [.str R.bZ])=H6 at s6 hl6;refine⟨(s6 _ _ o1),T.cW,T.gj,rfl,⟨s6 _ _ o2,PK.ne _,pa,dp,R.bi,bb,c.aP.length,rfl,s6 _ _ o2,by lia,S,I,?_⟩⟩;rw[Me hfit];refine⟨hl6,by lia,by lia,by rw[ab9];exact bK (by simp only[P3,ac6];lia),λl2 hl2=>?_⟩;rw[ab9,sJ];have s7:af H5 (ag H6 l2 (.lst (List.replicate (fN R bb c.aP.length) (V.str R.bZ)))):=s6.to hl2;have hl7:ag H6 l2 (.lst (List.replicate (fN R bb c.aP.length) (V.str R.bZ))) l2=r6 (List.replicate (fN R bb c.aP.length) (V.str R.bZ)):=aa;generalize ag H6 l2 (.lst (List.replicate (fN R bb c.aP.length) (V.str R.bZ)))=H7 at s7 hl7;have ht7:=s7 _ _ B;have hk7:=N.ae s7;refine⟨ht7,hl7,bK (by rw[d5,af2];lia),?_⟩;have ht8:ag H7 lt (.lst (c.aP.map V.str++List.replicate (fN R bb c.aP.length) (V.str R.bZ))) lt=r6 ((iB c R bb).aP.map V.str):=by rw[aa];show _=r6 ((c.aP++List.replicate (fN R bb c.aP.length) R.bZ).map V.str);rw[o0,List.map_replicate]
  have ho8:ag H7 lt (.lst (c.aP.map V.str++List.replicate (fN R bb c.aP.length) (V.str R.bZ))) s=r6 (c.on.map aX):=by rw[aj v];exact (s7 _ _ ho5)
  have hk8:GF H (ag H7 lt (.lst (c.aP.map V.str++List.replicate (fN R bb c.aP.length) (V.str R.bZ)))) lk c.bj:=hk7.mJ ht7 (aa4 QY);have O:eF t (ag H7 lt (.lst (c.aP.map V.str++List.replicate (fN R bb c.aP.length) (V.str R.bZ)))) r R:=(hr5.ae s7).mJ ht7;have s8:af H (ag H7 lt (.lst (c.aP.map V.str++List.replicate (fN R bb c.aP.length) (V.str R.bZ)))):=λb o A=>by rw[aj (au A C)];exact s7 _ _ (s5' _ _ A)
  generalize ag H7 lt (.lst (c.aP.map V.str++List.replicate (fN R bb c.aP.length) (V.str R.bZ)))=H8 at ht8 ho8 hk8 O s8;refine aG (λk=>∀x7 x8 D,D s=r6 (c.on.map aX)->D lt=r6 ((iB c R bb).aP.map V.str)->GF H D lk (iB c R bb).bj->eF t D r R->af H D->k [ρ a,ρ lh,τ bb,ρ s,ρ lt,ρ lk,ι c.aP.length,x7,x8,ρ r] D) (bq (aA tX (aM l9 rfl) aZ (aE _)) ay ay) ?_ ?_
  .obtain⟨dr8,pa8,o8,p8⟩:=id O;refine⟨o8,T.cW,T.jW,rfl,⟨rfl,.mk<|mq (λh=>?_) (λh=>bg (λ_ C1=>C1 _ _ _ ho8 ht8 (by have em:(iB c R bb).bj=c.bj:=w4 (V.str.inj h);exact em▸hk8) O s8))⟩⟩
   .obtain⟨ps,hps,hAp,hfr⟩:=hk8;refine av (aY (cV Z4 aa0 aa3 bW gX (bQ (bG (cy jv (aM l9 rfl)))))) ⟨.inl ⟨rfl,_,aV.of hps⟩,⟨o8,T.cW,T.jW,rfl,⟨sL rfl,λtp l=>?_⟩⟩⟩;have J:af H8 (ag H8 tp (.tup [.int c.aP.length,.str R.bn])):=af.ag l;have hp9:ag H8 tp (.tup [.int c.aP.length,.str R.bn]) tp=t0 [.int c.aP.length,.str R.bn]:=aa;generalize ag H8 tp (.tup [.int c.aP.length,.str R.bn])=H9 at J hp9;have x:=J _ _ hps;have hpl:ps.length<=100000:=by rw[hAp.1];lia
    refine⟨x,cL (by rw[d5];lia),λ_ C1=>C1 _ _ _ (by rw[aj nok];exact J _ _ ho8) (by rw[aj QY];exact J _ _ ht8) ?_ ((O.ae J).mJ x) (by intro b o A;rw[aj (au A U)];exact J _ _ (s8 _ _ A))⟩
    .have em:(iB c R bb).bj=c.bj++[(c.aP.length,R.bn)]:=C5 (λz=>h (by rw[z]));rw[em];refine⟨ps++[tp],by rw[aa,o0];rfl,bf.snoc (hAp.mono λp m e=>by rw[aj (bL (J _ _ e) x)];exact J _ _ e) (by rw[aj (bL hp9 x)];exact hp9),λp hp=>?_⟩
     .rcases X1.mp hp with hp|hp
      .exact hfr p hp
      .rw[B1.mp hp];exact s8.free l
  intro y7 y8 H9 ho9 ht9 hk9 hr9 J;refine av (aY (aS (E4 T) hr.m rfl T.HE T.yS.kp T.yS.b2 .nil aH (cy dh l9))) ⟨s,r,c.on,R,rfl,ho9,hr9,i.1,by lia,G.gd M hRm,?_⟩;have hdl:=qb (on:=c.on) (d:=R.bB) (g:=R.bo);refine⟨m',by lia,iB c R bb,⟨_,_,_,_,rfl⟩,aa,by rw[aj (aa4 v)];exact ht9,hk9.mJ ho9 (aa4 nok),i.bB G M hRm,by show (c.aP++List.replicate _ _).length<=_;rw[i5,af2];exact hel,by show (cT c.on R.bB R.bo).length+m'<=_;lia,?_,f,by intro b o A;rw[aj (au A X)];exact J _ _ A⟩
  .show (if R.bn = "" then c.bj else c.bj++[(c.aP.length,R.bn)]).length+m'<=_;split
   .lia
   .rw[i5,P3,ac6];lia
def join_eq(sep:Str)(ys:a9):Txt.join sep ys=Str.join sep ys:=an0 (PyProof.Rows.join_plain_closes sep ys)
def mG{A B:Prop}(h:b=c)(k:if c=true then A else B):if b=true then A else B:=h▸k
inductive V1(K:W.Frag)(vs:q7)(H:Hp)(Q:VK)(_:XK):Prop|mk(a:Addr)(ns:c9)(k m:Int)(_:vs=[.ref a,.int k,.int m])(_:aV K H a (ns.map V.int))(_:0<=k)(_:k<=100000)(_:0<m)(_:m<=1000000)(_:ns.length<=63)(_:∀d H',0<=d->d<m->af H H'->Q (.int d) H')
def dP:bE P w K mg ap dJ 1 t.Jc t.Qk ["_law_script","_law_k","_law_many"] (V1 K):=by
 refine T.cA.ok xo λN H Q E h=>?_;obtain⟨a,b,k,m,rfl,l,s,G,o,I,hl,q⟩:=h;room;refine aG (λC=>∀c f,(b=[]->c=0)->f=H->C [ρ a,ι k,ι m,ι c,none,none] f) (b7 3 xo (dc (aA j9 (ez aD T.bD (bQ br)) ai (aE _)) (aC aU br (aK kE bP (ez aD T.bD (bQ br)))) ai)) (by refine⟨_,_,rfl,.inl l,.mk<|.mk<|dM (λh=>?_) (λh=>λ_ R=>R 0 _ (λ_=>rfl) rfl)⟩;refine⟨_,_,rfl,.inl l,h,?_⟩;obtain⟨J,u⟩:=sX k h;obtain⟨v,D,L⟩:=AE (b.map V.int) J u;rw[v3] at D;obtain⟨c,O,rfl⟩:=D1.mp D;exact⟨l,L,λ_ R=>R c _ (λz=>by rw[z] at h;simp at h) rfl⟩) ?_
 intro c f y e;rw[e];clear e f;refine aG (λC=>∀x f,(b=[]->x=0)->f=H->C [ρ a,ι k,ι m,ι c,ι x,none] f) (b7 4 xo (aK VQ dh (aK bh (aK jN ai (aK Mu bP (ez (CV rfl) T.Oj (cy ai (ez aD T.bD (bQ br)))))) ai))) ?_ ?_
 .have A:(1:Int)<=(if ((b.map V.int).length:Int)>1 then ((b.map V.int).length:Int) else 1)/\(if ((b.map V.int).length:Int)>1 then ((b.map V.int).length:Int) else 1)<1073741824:=by rw[d5];split <;> lia
  refine⟨_,_,rfl,.inl l,_,_,rfl,⟨by lia,A.2⟩,.inl ⟨by decide,by decide⟩,by have:0<=k / (if ((b.map V.int).length:Int)>1 then ((b.map V.int).length:Int) else 1):=Int.ediv_nonneg s (by lia);lia,λ_ R=>R _ _ (λz=>by rw[y z,Int.zero_ediv]) rfl⟩
 intro x f B e;rw[e];clear e f;refine aG (λC=>∀f,af H f->C [ρ a,ι k,ι m,ι c,ι x,none] f) (bq (PW.pt (dX (aA mj eE (bG (cy ai (iQ fT ai))) rfl) (cX (aA cC (aK kE (aC aU br ai) ai) ai (aE _))))) ay ay) ?_ ?_
 .refine⟨sL rfl,λp M=>⟨.inr (bT.of aa),rfl,rfl,.mk ?_⟩⟩;have i:af H (ag H p (.tup [.int 0,.int (-1)])):=af.ag M;by_cases d:Mz (V.int x) [.int 0,.int (-1)]=true
  .refine mG (c:=false) (by show (!Mz (V.int x) [.int 0,.int (-1)])=false;rw[d];rfl) ?_;exact bg (λ_ R=>R _ i)
  .refine mG (c:=true) (by show (!Mz (V.int x) [.int 0,.int (-1)])=true;rw[Bool.not_eq_true] at d;rw[d];rfl) ?_;obtain⟨F,r0,rfl⟩:∃F r0,b=F::r0:=by
    cases b with
    |nil=>rw[B rfl] at d;exact absurd (by decide) d
    |cons x r=>exact⟨x,r,rfl⟩
   refine⟨l.ae i,aB (j:=0) rfl,(by show (0:Int)<2;decide),rfl,.mk<|dM (λu=>?_) (λu=>bg (λ_ R=>R _ i))⟩;have n:=sX (x % 1048576) o;exact av (aQ (aK kE (aK kE eE ai) cG)) ⟨(by show (0:Int)<1048576;decide),o,q _ _ n.1 n.2 i⟩
 intro f i;refine ak (b7 5 xo (aK bh (aK bh (aK kE dh ai) (aK jN (aK jN ai bP) bP)) ai)) ?_;walk_at "rd";refine⟨by decide,.inl ⟨by decide,by decide⟩,.inr ⟨by lia,by lia⟩,?_⟩;refine av (aQ (aK kE (aK kE (aK jN (aK kE (aK jN gX ai) ai) ai) ai) cG)) ?_;walk_at "rd";have n:=sX ((c % 1000003+31*k*k+1)*48271 % 999983*7919 % 524287) o;exact⟨.inr ⟨by decide,by decide⟩,by decide,.inr ⟨by decide,by decide⟩,by decide,o,q _ _ n.1 n.2 i⟩
def af.up(s:af G H)(h:G x=none):af G (L2.ag H x o):=λb u e=>by rw[aj (au e h)];exact s b u e
theorem vN:∀{n:Nat} {c d:Cfg},goN ms bb n c=some d->d.bj.length<=c.bj.length+n
 |0,c,d,h=>by
  rw[goN] at h;cases e:fc ms bb c with
  |none=>rw[e] at h;cases h;lia
  |some c'=>rw[e] at h;cases h
 |n+1,c,d,h=>by
  rw[goN] at h;cases e:fc ms bb c with
  |none=>rw[e] at h;cases h;lia
  |some c' =>
   rw[e] at h;have:=vN h;have a:c'.bj.length<=c.bj.length+1:=by
    rw[fc] at e;split at e
    .cases e;show (if _ then _ else _:List (Nat×Str)).length<=_;split
     .lia
     .simp
    .split at e
     .cases e;show c.bj.length<=_;lia
     .cases e
   lia
open Classical in
noncomputable def hid(S:q0)(H:Hp):Hp:=λb=>if S b then none else H b
def aq:af (hid S H) H:=λb o h=>by
 unfold hid at h;split at h
 .cases h
 .exact h
def aT(h:H b=some o)(n:¬S b):hid S H b=some o:=by unfold hid;rw[C5 n];exact h
def bI(h:hid S H b=some o):¬S b:=λz=>by unfold hid at h;rw[w4 z] at h;cases h
def aJ(s:af H H'):af (hid S H) (hid S H'):=λb o h=>aT (s _ _ (aq _ _ h)) (bI h)
def iN(hl:S l):hid S (ag H l o)=hid S H:=by
 funext b;unfold hid;split
 .rfl
 .rename_i h;rw[aj (λz=>h (by rw[z];exact hl))]
def ug(h:∀b,S b->S' b):af (hid S' H) (hid S H):=λb o e=>aT (aq _ _ e) (λz=>bI e (h b z))
def Ex(S:q0)(H:Hp):Prop:=∀b,S b->∃o,H b=some o
def Ex.new(e:Ex S H){b:Addr}(h:H b=none):¬S b:=λz=>by obtain⟨o,a⟩:=e b z;rw[h] at a;cases a
def Ex.ae(e:Ex S H)(s:af H H'):Ex S H':=λb z=>let ⟨o,ho⟩:=e b z;⟨o,s _ _ ho⟩
def Ex.none(H:Hp):Ex (λ_=>False) H:=λ_ z=>z.elim
def vP(x:Str)(i n:Nat)(hi:i<=x.length):(Txt.slice x (some (i:Int)) (some ((i:Int)+n))).l=(x.l.drop i).take n:=by
 by_cases h:i+n<=x.length
 .have:=an0 (PyProof.Rows.slice_closesL (x:=x) (i:=(i:Int)) (j:=(i:Int)+n) (by lia) (by lia) (by lia));rw[this];have e:((i:Int)+n-i).toNat=n:=by lia
  simp[e]
 .have e:Txt.slice x (some (i:Int)) (some ((i:Int)+n))=Txt.slice x (some (i:Int)) (some (x.length:Int)):=by
   have a:Builtin.Str.strSliceIndices (some (i:Int)) (some ((i:Int)+n)) 1 x.length=Builtin.Str.strSliceIndices (some (i:Int)) (some (x.length:Int)) 1 x.length:=by
    have b:¬((i:Int)+n<0):=by lia
    have c:¬((x.length:Int)<0):=by lia
    have d:(1:Int)>0:=by decide
    have f:(x.length:Int)<=i+n:=by lia
    simp only[Builtin.Str.strSliceIndices,b,c,d,ao9,if_true,Int.min_eq_right f,Int.min_self]
   unfold Txt.slice;rw[a]
  have:=an0 (PyProof.Rows.slice_closesL (x:=x) (i:=(i:Int)) (j:=(x.length:Int)) (by lia) (by lia) (by lia));rw[e,this];show (x.l.drop (i:Int).toNat).take ((x.length:Int)-i).toNat=_;rw[ab9,ac1 (by rw[B2,bV];lia),ac1 (by rw[B2,bV];lia)]
inductive alh(vs:q7)(H:Hp)(Q:VK)(_:XK):Prop|mk(k z bb:Str)(i:Nat)(_:vs=[.str k,.str z,.str bb,.int i])(_:z.length<=200)(_:bb.length<=1000)(_:i<=bb.length)(_:Q (fh k z bb i) H)
def HJ:bE P w K mg ap dJ 1 t.Ip t.Nv ["_law_kind","_law_arg","_law_row_here","_law_at"] alh:=by
 refine T.yQ.ok A7 λM H Q E h=>?_;obtain⟨k,z,bb,i,rfl,N,u,v,q⟩:=h;room;refine ak (bq (aA cC br aZ (aE _)) ay ay) ⟨rfl,.mk<|dM (λh=>?_) (λn=>bg ?_)⟩
 .have h:=V.str.inj h;refine av (aQ (dc (aA cC dh (ez bz T.bD (bQ cG)) (aE _)) ai cR)) ⟨_,rfl,bK (by lia),rfl,.mk<|dM (λe=>by rw[fh,w4 h,w4 (by have:=V.int.inj e;lia)] at q;exact q) (λe=>by rw[fh,w4 h,C5 (λz=>e (by rw[z]))] at q;exact q)⟩
 have n:k ≠ "end" := λy=>n (by rw[y]);refine ak (bq (aA cC br aZ (aE _)) ay ay) ⟨rfl,.mk<|dM (λh=>?_) (λr=>bg ?_)⟩
 .have h:=V.str.inj h;refine av (aQ (dc (aA cC (bS ko cG (bO dh) (bO (aK bh dh (ez bz T.bD (bQ bP))))) bP (aE _)) (ez bz T.bD (bQ bP)) cR)) ⟨_,rfl,bK (by lia),bK (by lia),rfl,.mk<|dM (λe=>by rw[fh,C5 n,w4 h,<- vP bb i z.length v,w4 (by rw[V.str.inj e])] at q;exact⟨_,rfl,bK (by lia),q⟩) (λe=>by rw[fh,C5 n,w4 h,<- vP bb i z.length v,C5 (λz=>e (by rw[i8 z]))] at q;exact q)⟩
 have r:k ≠ "word" := λy=>r (by rw[y]);refine ak (bq (aA cC dh (ez bz T.bD (bQ cG)) (aE _)) ay ay) ⟨_,rfl,bK (by lia),rfl,.mk<|dM (λh=>by have h:=V.int.inj h;rw[kJ n r (by lia)] at q;exact av (aQ cR) q) (λx=>bg ?_)⟩
 have x:i<bb.length:=by have:¬i=bb.length:=λy=>x (by rw[y]);lia
 obtain⟨c,A,B⟩:=strAt (bb:=bb) (i:=(i:Int)) (by lia) (by lia);rw[ab9] at A;have d:=j0 (sg:=z) n r A;refine ak (bq (aA cC br aZ (aE _)) ay ay) ⟨rfl,.mk<|dM (λh=>by have h:=V.str.inj h;rw[d,w4 (Or.inr h),C5 (by rw[h];decide)] at q;exact av (aQ ai) q) (λs=>bg ?_)⟩
 have s:k ≠ "still" := λy=>s (by rw[y]);refine ak (bq (PW.pt (jz (aA cC br aZ (aE _)) (jk (aA cC br aZ (aE _))))) ay ay) ⟨rfl,.mk<|dM (λh=>by rw[d,w4 (Or.inl (V.str.inj h)),w4 (V.str.inj h)] at q;exact av (aQ (dc (PW.pt (jz (aA cC br aZ (aE _)) (jk (aA w9 (aC lC cG dh) bP rfl)))) ai cR)) ⟨rfl,.mk<|dM (λ_=>q) (λy=>absurd h y)⟩) (λf=>⟨rfl,.mk<|dM (λD=>?_) (λg=>bg ?_)⟩)⟩
 .rw[d,C5 (by rintro (y|y);exact f (by rw[y]);exact s y),w4 (V.str.inj D)] at q;refine av (aQ (dc (PW.pt (jz (aA cC br aZ (aE _)) (jk (aA w9 (aC lC cG dh) bP rfl)))) ai cR)) ⟨rfl,.mk<|dM (λy=>absurd y f) (λ_=>⟨bK (by lia),B,_,_,rfl,rfl,.mk ?_⟩)⟩;rw[af8];by_cases a:c∈z.l
  .rw[w4 a] at q;exact mG (c:=false) (by rw[ab4 a];rfl) q
  .rw[C5 a] at q;exact mG (c:=true) (by rw[ab2 a];rfl) q
 have f:k ≠ "any" := λy=>f (by rw[y]);have g:k ≠ "none" := λy=>g (by rw[y]);rw[C5 (by rintro (y|y);exact f y;exact s y),C5 g] at d;refine ak (bq (aA w9 (aC lC cG dh) bP rfl) ay ay) ⟨bK (by lia),B,_,_,rfl,rfl,.mk ?_⟩;rw[af8];by_cases a:c∈z.l
 .rw[w4 a] at d;rw[d] at q;refine mG (c:=false) (by rw[ab4 a];rfl) (bg ?_);refine ak (b7 4 A7 (aK bh dh ai)) ⟨?_⟩;show At _ _ _ [τ k,τ z,τ bb,ι i,ι ((i:Int)+1)] H;have F:1+jm z.l (bb.l.drop (i+1))<=bb.length-i:=by have:=E5 (sg:=z.l) (bb.l.drop (i+1));rw[B2,bV] at this;lia
  refine aF (λo l=>l=H/\o=[τ k,τ z,τ bb,ι i,some (.int ((i:Int)+(if k = "many" then 1+jm z.l (bb.l.drop (i+1)) else 1:Nat)))]) (jd aa7 (PW.pt (dX (aA cC br aZ (aE _)) (dX (aA fX eE (ez bz T.bD (bQ cG)) (aE _)) (cX (aA kP (aC lC cG eE) bP rfl))))) ay) ?_ ?_
  .refine⟨λm o l=>l=H/\∃j:Nat,o=[τ k,τ z,τ bb,ι i,ι ((i:Int)+(j:Int))]/\1<=j/\i+j<=bb.length/\m=bb.length-j/\(k = "many" -> 1+jm z.l (bb.l.drop (i+1))=j+jm z.l (bb.l.drop (i+j)))/\(k ≠ "many" -> j=1),⟨_,rfl,1,rfl,N0 _,by lia,rfl,λ_=>rfl,λ_=>rfl⟩,?_⟩;rintro m o l ⟨e,j,rfl,G,O,rfl,p,I⟩;rw[e];clear e l;refine⟨rfl,.mk<|dM (λh=>?_) (λh=>by have h:k ≠ "many" := λy=>h (by rw[y]);exact⟨rfl,by rw[C5 h,I h]⟩)⟩
   .have h:=V.str.inj h;have p:=p h;refine⟨_,rfl,bK (by lia),.mk<|.mk<|dM (λf=>?_) (λf=>by refine⟨rfl,?_⟩;have:bb.l.drop (i+j)=[]:=ak5 (by rw[bV];lia);rw[this] at p;rw[w4 h,p];rfl)⟩
    .obtain⟨J,C,L⟩:=strAt (bb:=bb) (i:=(i:Int)+j) (by lia) (by lia);rw[show ((i:Int)+j).toNat=i+j by lia] at C;refine⟨bK (by lia),L,_,_,rfl,rfl,.mk ?_⟩;rw[af8];have b:=nh (sg:=z.l) C;refine dM (λg=>by rw[w4 g] at b;exact⟨_,λo l z=>z,av (b7 4 A7 (aK bh eE ai)) ⟨bb.length-(j+1),by lia,rfl,j+1,by rw[Int.natCast_add];simp[Int.add_assoc],by lia,by lia,rfl,λ_=>by rw[p,b,show i+(j+1)=i+j+1 by lia];lia,λy=>absurd h y⟩⟩) (λg=>by rw[C5 g] at b;exact⟨rfl,by rw[w4 h,p,b,Nat.add_zero]⟩)
  rintro o l ⟨rfl,rfl⟩;refine av (aQ (aK cQ eE dh)) ⟨?_⟩;have e:(i:Int)+(if k = "many" then 1+jm z.l (bb.l.drop (i+1)) else 1:Nat)-i=(if k = "many" then 1+(jm z.l (bb.l.drop (i+1)):Int) else 1):=by
   by_cases y:k = "many"
   .rw[w4 y,w4 y];lia
   .rw[C5 y,C5 y];lia
  rw[<- e] at q;exact q
 .rw[C5 a] at d;rw[d] at q;exact mG (c:=true) (by rw[ab2 a];rfl) (av (aQ cR) q)
def adb(h:xs≠[]):b9 xs none (some (-1:Int))=xs.dropLast:=by
 unfold b9;have e:HT.iW xs.length xs.length (some (-1:Int))=xs.length-1:=by show (if (-1:Int)<0 then ((-1:Int)+(xs.length:Int)).toNat else min (-1:Int).toNat xs.length)=_;rw[w4 (by decide)];lia
 rw[HT.ye,e,ak3,Nat.sub_zero,List.dropLast_eq_take]
inductive afj(vs:q7)(H:Hp)(Q:VK)(_:XK):Prop|mk(lp:Addr)(on:c7)(dd:Str)(g:Option Nat)(_:vs=[.ref lp,.str dd,vU g])(_:H lp=r6 (on.map aX))(_:on≠[])(_:on.length<=100000)(_:dd∈ow)(_:(gW dd->∃n,g=some n))(_:∀l H',H' l=r6 ((cT on dd g).map aX)->(l=lp\/H l=none)->af H H'->Q (.ref l) H')
def Sy:bE P w K mg ap dJ 1 t.afU t.ajn ["_law_pile","_law_deed_here","_law_goal"] afj:=by
 refine T.agB.ok wR λG H Q E h=>?_;obtain⟨s,j,u,g,rfl,f,o,C,i,p,q⟩:=h;room;have v:=aV.of (K:=K) f;have e:j.map aX≠[]:=by simpa using o
 have F:j.length≠0:=λy=>o (ad5 y);refine ak (bq (aA cC bP aZ (aE _)) ay ay) ⟨rfl,.mk<|dM (λh=>by have h:=V.str.inj h;refine av (aQ br) (q s H ?_ (.inl rfl) (af.refl H));rw[f,cT,C5 (by rw[h];decide),C5 (by rw[h];decide),C5 (by rw[h];decide)]) (λx=>bg ?_)⟩
 have x:u ≠ "stay" := λy=>x (by rw[y]);refine ak (bq (aA cC bP aZ (aE _)) ay ay) ⟨rfl,.mk<|dM (λh=>by have h:=V.str.inj h;obtain⟨n,rfl⟩:=p (.inl h);refine av (aQ (aK gM br (bM (bQ cG)))) ⟨sL rfl,λz c=>⟨af.ag c _ _ f,aa,bK (by simp only[d5,P3,ac6];lia),λA b=>q A _ ?_ (.inr ((af.ag c).free b)) ((af.ag c).to b)⟩⟩;rw[aa,cT,w4 h,o0];rfl) (λl=>bg ?_)⟩
 have l:u ≠ "push" := λy=>l (by rw[y]);refine ak (bq (aA cC bP aZ (aE _)) ay ay) ⟨rfl,.mk<|dM (λh=>?_) (λr=>bg ?_)⟩
 .have h:=V.str.inj h;obtain⟨n,rfl⟩:=p (.inr h);refine av (aQ (aK gM (bS cZ br cP (bO (iQ fT ai))) (bM (bQ cG)))) ⟨v,λd a=>?_⟩;have B:af H (ag H d (.lst (b9 (j.map aX) none (some (-1:Int))))):=af.ag a;have b:ag H d (.lst (b9 (j.map aX) none (some (-1:Int)))) d=r6 ((j.map aX).dropLast):=by rw[aa,adb e]
  generalize ag H d (.lst (b9 (j.map aX) none (some (-1:Int))))=H0 at B b;refine⟨sL rfl,λz c=>⟨af.ag c _ _ b,aa,bK (by simp only[af9,d5,P3,ac6];lia),λA b=>q A _ ?_ (.inr ((B.to c).free b)) (B.trans ((af.ag c).to b))⟩⟩;rw[aa,cT,C5 l,w4 h,o0,List.map_dropLast];rfl
 have r:u ≠ "into" := λy=>r (by rw[y]);have D:u = "pop" := by
  unfold ow at i;simp only[Z5,ad1,an3] at i;rcases i with y|y|y|y
  .exact absurd y x
  .exact absurd y l
  .exact y
  .exact absurd y r
 refine av (aQ (dc (aA j9 (ez aD T.bD (bQ br)) ai (aE _)) (bS cZ br cP (bO (iQ fT ai))) (bM (bQ ai)))) ⟨_,_,rfl,.inl v,.mk<|.mk<|dM (λh=>by rw[d5] at h;refine⟨v,λd a=>q d _ ?_ (.inr a) (af.ag a)⟩;rw[aa,adb e,cT,C5 l,C5 r,w4 D,C5 (by lia),List.map_dropLast]) (λh=>by rw[d5] at h;refine⟨sL rfl,λd a=>q d _ ?_ (.inr a) (af.ag a)⟩;rw[aa,cT,C5 l,C5 r,w4 D,w4 (by lia)];rfl)⟩
inductive Wr(t:eZ)(vs:q7)(H:Hp)(Q:VK)(_:XK):Prop|mk(r:Addr)(S:q0)(R:cz)(_:vs=[.ref r])(_:eF t (hid S H) r R)(_:Ex S H)(_:∀r' H',eF t (hid S H') r' R->af H H'->Q (.ref r') H')
def VS:bE P w K mg ap dJ 3 t.GQ t.PY ["rule"] (Wr t):=by
 refine T.GW.ok RZ λj H Q E h=>?_;obtain⟨r,S,R,rfl,⟨l,f,d,g⟩,i,q⟩:=h;room;have a:=aq _ _ d;refine av (aQ (fj T.Ck (EA T) hr.m rfl T.yU T.EU.b6 .nil aH (ao (aM br rfl) (ao (aM br rfl) (ao (aM br rfl) (cy (aM br rfl) (aM br rfl))))))) ?_;refine⟨a,T.cW,T.gj,rfl,?_⟩;refine⟨a,T.cW,T.kj,rfl,?_⟩;refine⟨a,T.cW,T.iw,rfl,?_⟩;refine⟨a,T.cW,T.jR,rfl,?_⟩;refine⟨a,T.cW,T.jW,rfl,?_⟩;refine λx b e c ne=>⟨x,b,f,R,rfl,aa,rfl,?_⟩
 exact q x _ ⟨b,f,aT aa (i.new e),g.ae (aJ (gZ e c))⟩ (gZ e c)
inductive YF(t:eZ)(vs:q7)(H:Hp)(Q:VK)(_:XK):Prop|mk(b l dm:Addr)(S:q0)(m:aR)(rs:c6)(_:vs=[.ref b])(_:hid S H b=s0 t.fE dm (mf m l))(_:hid S H l=r6 (rs.map V.ref))(_:bf (eF t (hid S H)) rs m.bd)(_:Ex S H)(_:m.bd.length<=200)(_:∀b' l' dm' rs' H',hid S H' b'=s0 t.fE dm' (mf m l')->hid S H' l'=r6 (rs'.map V.ref)->bf (eF t (hid S H')) rs' m.bd->H l'=none->af H H'->Q (.ref b') H')
def U9:bE P w K mg ap dJ 4 t.EC t.OE ["mode"] (YF t):=by
 refine T.HR.ok Rv λvs H Q E h=>?_;obtain⟨b,l,dm,S,m,rs,rfl,G,I,C,N,O,q⟩:=h;room;have j:=aq _ _ G;have hl:=aq _ _ I;refine av (aQ (fj T.Cb (ER T) hr.m rfl T.zc T.GX.b4 .nil aH (ao (aM br rfl) (ao (aM br rfl) (ao (@iM _ (az (top 20)) _ ["mode"] _ _ ("rule") _ _ [] _ _ (by walk_at "ck") (fF (aM br rfl)) (λ_ _ _ _=>by exact(aS (VS T) hr.m rfl T.VJ T.GW.kp T.GW.b1 .nil aH (ao br bu (by left)) (by left) (by left) (by left))) (by left) (by left) (by left) (by left)) bu (by left)) (by left)) (by left)) (by left) (by left) (by left))) ?_;refine⟨j,T.gF,T.jT,rfl,?_⟩;refine⟨j,T.gF,T.kq,rfl,?_⟩;refine⟨j,T.gF,T.gJ,rfl,?_⟩;refine⟨l,rfl,⟨_,aV.of hl⟩,ie (xs:=rs.map V.ref) (λi F c=>∃a,F=a.map V.ref/\bf (eF t (hid S c)) a (m.bd.take i)/\af H c) ⟨[],rfl,bf.nil,af.refl H⟩ (cL (by rw[d5,C.1];lia)) (by rintro i F c _ ⟨_,_,_,f⟩;exact aV.of (f _ _ hl)) (by rintro i xv F c R p ⟨a,rfl,d,f⟩;rw[v3] at R;obtain⟨r,s,rfl⟩:=D1.mp R;have U:=(d6.mp s).1;have u:m.bd[i]?=some (m.bd[i]'(C.1▸U)):=i4 _;refine⟨r,S,_,rfl,(C.2 i r _ s u).ae (aJ f),N.ae f,λr' W J g=>fQ (by rw[d5];exact U) p ⟨a++[r'],by rw[o0];rfl,?_,f.trans g⟩⟩;rw[ae1 u];exact bf.snoc (d.mono λ_ _ y=>y.ae (aJ g)) J) ?_⟩
 .rintro F c p ⟨a,rfl,d,f⟩ D X;rw[d5,C.1,ab3] at d;have g:af H (ag c D (.lst (a.map V.ref))):=f.to X;have v:ag c D (.lst (a.map V.ref)) D=r6 (a.map V.ref):=aa;have z:bf (eF t (hid S (ag c D (.lst (a.map V.ref))))) a m.bd:=d.mono λ_ _ y=>y.ae (aJ (af.ag X));generalize ag c D (.lst (a.map V.ref))=W at g v z;refine λx A n e ne=>⟨x,A,D,m.name,m.bZ,_,rfl,aa,cD n e _ _ v,λl2 H4 Y e2 e3 e4=>⟨rfl,?_⟩⟩
  have Z:af W H4:=λb o j=>e4 b o (cD n e _ _ j) (au j n);have B:=N.ae g;exact q x l2 A a H4 (aT e2 (B.new n)) (aT e3 (B.new ((cD n e).free Y))) (z.mono λ_ _ y=>y.ae (aJ Z)) (g.free ((cD n e).free Y)) (g.trans Z)
inductive RO(t:eZ)(vs:q7)(H:Hp)(Q:VK)(_:XK):Prop|mk(a:Addr)(S:q0)(ms:List aR)(_:vs=[.ref a])(_:IsRules t (hid S H) a ms)(_:Ex S H)(_:eK ms)(_:∀a' H',IsRules t (hid S H') a' ms->af H H'->Q (.ref a') H')
def V6:bE P w K mg ap dJ 5 t.KZ t.Pd ["rules"] (RO t):=by
 refine T.J4.ok Tr λvs H Q E h=>?_;obtain⟨a,S,ms,rfl,⟨dx,lm,as,ls,X,A,B⟩,hz,G,q⟩:=h;room;have ha:=aq _ _ X;have C:=aq _ _ A;have hlen:=G.len;refine av (aQ (fj T.xO (GH T) hr.m rfl T.uY T.Hx.b2 .nil aH (ao (@iM _ (az (top 19)) _ ["rules"] _ _ ("mode") _ _ [] _ _ (by walk_at "ck") (fF (aM br rfl)) (λ_ _ _ _=>by exact(aS (U9 T) hr.m rfl T.SS T.HR.kp T.HR.b1 .nil aH (ao br bu (by left)) (by left) (by left) (by left))) (by left) (by left) (by left) (by left)) bu (by left)) (by left) (by left) (by left))) ?_;refine⟨ha,T.jf,T.d7,rfl,?_⟩;refine⟨lm,rfl,⟨_,aV.of C⟩,ie (xs:=as.map V.ref) (λi R g=>∃c Ou,R=c.map V.ref/\cY t (hid S g) c Ou (ms.take i)/\af H g) ⟨[],[],rfl,⟨rfl,rfl,List.nodup_nil,λi a l m h=>by simp at h⟩,af.refl H⟩ (cL (by rw[d5,B.la];lia)) (by rintro i R g _ ⟨_,_,_,_,p⟩;exact aV.of (p _ _ C)) ?_ ?_⟩
 .rintro i xv R g U F ⟨c,Ou,rfl,f,p⟩;rw[v3] at U;obtain⟨b,I,rfl⟩:=D1.mp U;have hi:=(d6.mp I).1;have r:i<ms.length:=B.la▸hi
  have J:ms[i]?=some ms[i]:=i4 r;obtain⟨l,hl⟩:∃l,ls[i]?=some l:=⟨ls[i]'(B.ll▸r),i4 _⟩
  obtain⟨dm,rs,o1,o2,o3⟩:=B.ob i b l _ I hl J;have Y:=aJ (S:=S) p;refine⟨b,l,dm,S,ms[i],rs,rfl,Y _ _ o1,Y _ _ o2,o3.mono λ_ _ y=>y.ae Y,hz.ae p,(G.ok _ (ag2 r)).1,λb' l' Z rs' H3 e1 e2 e3 e4 u=>fQ (by rw[d5];exact hi) F ⟨c++[b'],Ou++[l'],by rw[o0];rfl,?_,p.trans u⟩⟩;have d:=f.ae (aJ u);rw[ae1 J];refine⟨by rw[i5,i5,d.la];rfl,by rw[i5,i5,d.ll];rfl,?_,λj a' l'' m' W v z=>?_⟩
  .refine af3.mpr ⟨d.nd,by simp,λx U y hy=>?_⟩;rw[B1.mp hy];intro e;obtain⟨xs,n⟩:=f.alive U;have n:=aq _ _ n;rw[e,e4] at n;cases n
  .have k1:=d.la;have k2:=d.ll;rcases dU W with W|⟨i1,rfl⟩
   .have:=(d6.mp W).1;rcases dU v with v|⟨i2,rfl⟩
    .rcases dU z with z|⟨i3,rfl⟩
     .exact d.ob j a' l'' m' W v z
     .lia
    .lia
   .rcases dU v with v|⟨i2,rfl⟩
    .have:=(d6.mp v).1;lia
    .rcases dU z with z|⟨i3,rfl⟩
     .have:=(d6.mp z).1;lia
     .exact⟨Z,rs',e1,e2,e3⟩
 .rintro R g F ⟨c,Ou,rfl,f,p⟩ D hD;rw[d5,B.la,ab3] at f;have u:af H (ag g D (.lst (c.map V.ref))):=p.to hD;have L:ag g D (.lst (c.map V.ref)) D=r6 (c.map V.ref):=aa;have d:cY t (hid S (ag g D (.lst (c.map V.ref)))) c Ou ms:=f.ae (aJ (af.ag hD));generalize ag g D (.lst (c.map V.ref))=H3 at u L d;refine λx M N s ne=>⟨x,M,D,_,rfl,aa,cD N s _ _ L,λl2 H4 e1 e2 e3 e4=>⟨rfl,?_⟩⟩
  have s4:af H3 H4:=λb o I=>e4 b o (cD N s _ _ I) (au I N);have O:=hz.ae u;exact q x H4 ⟨M,l2,c,Ou,aT e2 (O.new N),aT e3 (O.new ((cD N s).free e1)),d.ae (aJ s4)⟩ (u.trans s4)
inductive RJ(t:eZ)(vs:q7)(H:Hp)(Q:VK)(_:XK):Prop|mk(a:Addr)(ms:List aR)(_:vs=[.ref a])(_:IsRules t H a ms)(_:eK ms)(_:oF ms=none)(_:∀H',af H H'->Q .dj H')
def R8:bE P w K mg ap dJ 6 t.Hi t.QM ["rules"] (RJ t):=by refine T.Jo.ok JP λi H Q E h=>?_;obtain⟨a,b,rfl,c,G,d,q⟩:=h;room;refine ak (b7 1 JP (aS (VV T) hr.m rfl T.UR T.Kl.kp T.Kl.b1 .nil aH (bQ br))) ⟨a,b,rfl,c,G,λf g=>⟨λ_=>?_,(λring bb p l e=>by rw[d] at e;cases e)⟩⟩;exact av (bq (aA nR bP cR (aE _)) ay ay) ⟨rfl,.mk<|mq (λh=>absurd rfl h) (λ_=>bg (q f g))⟩
structure bC where
 bb:Str
 ce:c7
 d:Cfg
variable {Gs Gs' As Bs:List bC}
noncomputable def gf (bb:Str) (lb lt lo lk:Addr):List (Str×V):=[("signs",.str bb),("before",.ref lb),("tints",.ref lt),("behind",.ref lo),("folded",.ref lk)]
structure yr(t:eZ)(H:Hp)(g dx lb lt lo lk:Addr)(G:bC):Prop where
 ob:H g=s0 t.cj dx (gf G.bb lb lt lo lk)
 lb:H lb=r6 (G.ce.map aX)
 lt:H lt=r6 (G.d.aP.map V.str)
 lo:H lo=r6 (G.d.on.map aX)
 lk:GM H lk G.d.bj
inductive fC(t:eZ)(H:Hp)(g:Addr)(G:bC):Prop|mk(a b lt c d)(_:yr t H g a b lt c d G)
def fC.ae(h:fC t H g G)(s:af H H'):fC t H' g G :=
 let ⟨dx,lb,lt,lo,lk,e⟩:=h;⟨dx,lb,lt,lo,lk,s _ _ e.ob,s _ _ e.lb,s _ _ e.lt,s _ _ e.lo,e.lk.ae s⟩
structure rq(ms:List aR)(G:bC):Prop where
 ok:lK ms G.ce
 len:G.ce.length<=20000
 bb:G.bb.length<=1000
 go:∃n,n<=30000/\goN ms G.bb n ⟨G.ce,[],[]⟩=some G.d
 ok2:lK ms G.d.on
 len2:G.d.on.length<=20000
 tl:G.d.aP.length=G.bb.length
inductive LW(t:eZ)(vs:q7)(H:Hp)(Q:VK)(_:XK):Prop|mk(x dx a lb:Addr)(S:q0)(ms:List aR)(G:bC)(_:vs=[.ref x,.ref a,.ref lb,.str G.bb])(_:H x=s0 t.cj dx [])(_:IsRules t H a ms)(_:eK ms)(_:hid S H lb=r6 (G.ce.map aX))(_:Ex S H)(_:¬S x)(_:rq ms G)(_:∀lt lo lk H',yr t (hid S H') x dx lb lt lo lk G->fY H H' x->Q .dj H')
def Jb:bE P w K mg ap dJ 4 t.KI t.O7 ["self","rules","modes","row"] (LW t):=by
 refine T.Ey.ok JG λvs H Q E h=>?_;obtain⟨x,g,a,s,Sh,W,G,rfl,X,Y,B,f,y,F,S,q⟩:=h;room;have l:=aq _ _ f;obtain⟨n,hn,I⟩:=S.go;have Z:=S.len;refine ak (b7 4 JG (aS (V8 T) hr.m rfl T.Vy T.Gj.kp T.Gj.b3 .nil aH (ao bP (cy cG dh)))) ⟨a,s,W,G.ce,G.bb,n,G.d,rfl,Y,B,l,S.ok,S.bb,by lia,by lia,I,λtp lt J R H1 D L f1 f2 f3 n1 n2 n3 A=>?_⟩;have u:=A _ _ X;have r:∀{b o},H1 b=some o->(∀C g fs,o ≠ .ins C g fs)->b≠x:=λ{b o} e h=>bL e u (λz=>h _ _ _ z);have c:=r D.tp (by intro _ _ _ z;cases z);refine ak (b6 br dh rfl) ⟨x,_,g,[],rfl,u,T.cB,T.cU,by decide,?_⟩;refine ak (b6 br cG rfl) ⟨x,_,g,[("signs",.str G.bb)],rfl,aa,T.cB,T.i0,by show 1<1000;decide,?_⟩;refine ak (b6 br (aC aO eE ai) rfl) ⟨bT.of (by rw[aj c,aj c];exact D.tp),aB (j:=0) rfl,x,_,g,[("signs",.str G.bb),("before",.ref s)],rfl,aa,T.cB,T.mD,by show 2<1000;decide,?_⟩;refine ak (b6 br (aC aO eE ai) rfl) ⟨bT.of (by rw[aj c,aj c,aj c];exact D.tp),aB (j:=1) rfl,x,_,g,[("signs",.str G.bb),("before",.ref s),("tints",.ref lt)],rfl,aa,T.cB,T.iY,by show 3<1000;decide,?_⟩;refine av (b6 br (aC aO eE ai) rfl) ⟨bT.of (by rw[aj c,aj c,aj c,aj c];exact D.tp),aB (j:=2) rfl,x,_,g,[("signs",.str G.bb),("before",.ref s),("tints",.ref lt),("behind",.ref J)],rfl,aa,T.cB,T.kQ,by show 4<1000;decide,?_⟩;rw[fV,fV,fV,fV];obtain⟨ps,k1,k2⟩:=D.lk;obtain⟨M,N,v,O⟩:=L;refine q lt J R _ ⟨aT aa F,aT (by rw[aj (r (A _ _ l) (by intro _ _ _ z;cases z))];exact A _ _ l) (bI f),aT (by rw[aj (r D.lt (by intro _ _ _ z;cases z))];exact D.lt) (y.new f1),aT (by rw[aj (r D.lo (by intro _ _ _ z;cases z))];exact D.lo) (y.new f2),M,aT (by rw[aj (r k1 (by intro _ _ _ z;cases z))];exact N) (y.new f3),⟨v.1,λi p m U hm=>by have e:=v.2 i p m U hm;exact aT (by rw[aj (r e (by intro _ _ _ z;cases z))];exact e) (y.new (O p (p0 U)))⟩⟩ λb o hb nb=>by rw[aj nb];exact A _ _ hb
def Chain(ms:List aR):c7->a9->List bC->Prop
 |_,[],[]=>True
 |b,r::rs,G::Gs=>G.bb=r/\G.ce=b/\rq ms G/\Chain ms G.d.on rs Gs
 |_,_,_=>False
theorem Chain.len:∀{b:c7} {rs:a9} {Gs:List bC},Chain ms b rs Gs->Gs.length=rs.length
 |_,[],[],_=>rfl
 |_,_::_,_::_,h=>by simp[h.2.2.2.len]
 |_,[],_::_,h=>h.elim
 |_,_::_,[],h=>h.elim
theorem Chain.rows:∀{b:c7} {rs:a9} {Gs:List bC},Chain ms b rs Gs->Gs.map (·.bb)=rs
 |_,[],[],_=>rfl
 |_,_::_,_::_,h=>by rw[ab5,h.1,h.2.2.2.rows]
 |_,[],_::_,h=>h.elim
 |_,_::_,[],h=>h.elim
noncomputable def ki:c7->List bC->c7
 |b,[]=>b
 |_,G::Gs=>ki G.d.on Gs
def t8{rs:a9}(hc:Chain ms b (rs.drop i) (Gs.drop i))(hr:rs[i]?=some r):∃G,Gs[i]?=some G/\G.bb=r/\G.ce=b/\rq ms G/\Chain ms G.d.on (rs.drop (i+1)) (Gs.drop (i+1)):=by
 rw[gH hr] at hc;cases e:Gs.drop i with
 |nil=>rw[e] at hc;exact hc.elim
 |cons G t =>
  rw[e] at hc;have a:Gs[i]?=some G:=by have:=ac7 (λl=>l[0]?) e;simpa [ab6] using this
  have c:Gs.drop (i+1)=t:=by rw[<- ak2,e];rfl
  exact c▸⟨G,a,hc⟩
structure bJ(t:eZ)(H:Hp)(x dx a lg:Addr)(gs:c6)(ms:List aR)(Gs:List bC):Prop where
 ob:H x=s0 t.bA dx [("rules",.ref a),("gone_rows",.ref lg)]
 ru:IsRules t H a ms
 lg:H lg=r6 (gs.map V.ref)
 go:bf (fC t H) gs Gs
def bJ.ae(h:bJ t H x dx a lg gs ms Gs)(s:af H H'):bJ t H' x dx a lg gs ms Gs:=⟨s _ _ h.ob,h.ru.ae s,s _ _ h.lg,h.go.mono λ_ _ z=>z.ae s⟩
inductive KJ(t:eZ)(vs:q7)(H:Hp)(Q:VK)(_:XK):Prop|mk(x dx a lb lr:Addr)(S:q0)(fs:List (Str×V))(ms:List aR)(b:c7)(rs:a9)(Gs:List bC)(_:vs=[.ref x,.ref lb,.ref lr])(_:H x=s0 t.bA dx fs)(_:fs.lookup ("rules" : Str)=some (.ref a))(_:IsRules t H a ms)(_:eK ms)(_:hid S H lb=r6 (b.map aX))(_:Ex S H)(_:H lr=r6 (rs.map V.str))(_:rs.length<=100000)(_:Chain ms b rs Gs)(_:∀lg gs H',H' lg=r6 (gs.map V.ref)->bf (fC t (hid S H')) gs Gs->H lg=none->af H H'->Q (.ref lg) H')
def ED:bE P w K mg ap dJ 6 t.EY t.NC ["self","modes","rows"] (KJ t):=by
 refine T.Gu.ok ua λvs H Q E h=>?_;obtain⟨x,dx,a,u,lr,S,fs,ms,b,rs,Gs,rfl,hx,hfs,hR,G,y,hE,L,hrl,hC,q⟩:=h;room;refine ak (b7 3 ua (bM bu)) ⟨sL rfl,λlg n=>?_⟩;have Z:af H (ag H lg (.lst [])):=af.ag n;have M:ag H lg (.lst []) lg=r6 []:=aa;generalize ag H lg (.lst [])=H1 at Z M;obtain⟨A,p⟩:∃A,A=λc=>S c\/c=lg:=⟨_,rfl⟩
 have N:A lg:=p▸.inr rfl
 have hE2:∀{H':Hp} {xs:q7},af H H'->H' lg=r6 xs->Ex A H':=λ{H' xs} s' h' c v=>by
  rw[p] at v;rcases v with v|v
  .exact(hE.ae s') c v
  .exact v▸⟨_,h'⟩
 refine aG (λk=>∀j x1 F I H',H' lg=r6 (j.map V.ref)->bf (fC t (hid S H')) j Gs->af H H'->k [ρ x,x1,ρ lr,ρ lg,F,I] H') (dD aa7 rfl (fF cG) (jb 4 ua) ay) ?_ ?_
 .refine⟨lr,rfl,⟨_,aV.of (Z _ _ L)⟩,jw (xs:=rs.map V.str) (λi B H'=>∃j u b,(∃F I,B=[ρ x,ρ u,ρ lr,ρ lg,F,I])/\H' lg=r6 (j.map V.ref)/\bf (fC t (hid A H')) j (Gs.take i)/\hid A H' u=r6 (b.map aX)/\Chain ms b (rs.drop i) (Gs.drop i)/\af H H') ⟨[],u,b,⟨_,_,rfl⟩,M,bf.nil,aT (Z _ _ (aq _ _ y)) (by rw[p];rintro (z|z);(exact bI y z);(exact au (aq _ _ y) n z)),hC,Z⟩ (by rintro i B H' _ ⟨_,_,_,_,_,_,_,_,l⟩;exact aV.of (l _ _ L)) ?_ (by rintro B H2 ⟨j,u,b,⟨F,I,rfl⟩,f,e,_,_,l⟩;rw[d5,<- hC.len,ab3] at e;exact λ_ C1=>C1 j _ _ _ _ f (e.mono λ_ _ z=>z.ae (ug (λc v=>p▸.inl v))) l)⟩
  .rintro i xv B H2 O ⟨j,u,b,⟨F,I,rfl⟩,f,e,R,hC2,l⟩;rw[v3] at O;obtain⟨r,U,rfl⟩:=D1.mp O;obtain⟨Gi,hGi,e1,e2,hS,hC3⟩:=t8 hC2 U;subst e1 e2;have hi:=(d6.mp U).1;have W:=hE2 l f;refine ak (b7 5 ua (fj T.tZ (Jb T) hr.m rfl T.rB T.Ey.b4 .nil aH (ao (aM br rfl) (cy bP eE)))) (⟨(l _ _ hx),T.aL,T.jA,hfs,(λg dg J s ne=>⟨g,dg,a,u,A,ms,Gi,rfl,aa,(hR.ae l).ae (cD J s),G,(aJ (cD J s)) _ _ R,W.ae (cD J s),W.new J,hS,λlt lo lk H3 C a3=>⟨rfl,?_⟩⟩)⟩);have s3:af H2 H3:=λb o X=>a3 b o (cD J s _ _ X) (au X J);have D:=s3 _ _ f;have Y:=aq _ _ C.ob;have ngl:=bL Y D;have hlen:j.length<=100000:=by rw[e.1,v6];lia
   refine ak (aY (cV Z4 aa0 aa3 bW dh (bQ gX))) ⟨.inl ⟨rfl,_,aV.of D⟩,D,cL (by rw[d5];lia),?_⟩;refine av (b7 1 ua (aM gX rfl)) ⟨(by rw[aj ngl];exact Y),T.cB,T.iY,rfl,?_⟩;refine⟨j++[g],lo,Gi.d.on,⟨_,_,rfl⟩,by rw[aa,o0];rfl,by rw[ae1 hGi,iN N];exact bf.snoc (e.mono λ_ _ z=>z.ae (aJ s3)) ⟨dg,u,lt,lo,lk,C⟩,by rw[iN N];exact C.lo,hC3,λb o X=>by rw[aj (au X n)];exact s3 _ _ (l _ _ X)⟩
 intro j x1 F I H2 f e l;exact av (aQ dh) (q lg j H2 f e n l)
inductive Ly(t:eZ)(vs:q7)(H:Hp)(Q:VK)(_:XK):Prop|mk(x dx a lr:Addr)(S:q0)(ms:List aR)(rs:a9)(Gs:List bC)(_:vs=[.ref x,.ref a,.ref lr])(_:H x=s0 t.bA dx [])(_:¬S x)(_:Ex S H)(_:IsRules t (hid (λc=>S c\/c=x) H) a ms)(_:eK ms)(_:oF ms=none)(_:H lr=r6 (rs.map V.str))(_:rs.length<=100000)(_:Chain ms [0] rs Gs)(_:∀a' lg gs H',bJ t (hid S H') x dx a' lg gs ms Gs->H lg=none->fY H H' x->Q .dj H')
def VB:bE P w K mg ap dJ 7 t.FL t.QF ["self","rules","rows"] (Ly t):=by
 refine T.QV.ok RT λvs H Q E h=>?_;obtain⟨x,i,a,lr,S,ms,rs,Gs,rfl,hx,M,hE,hR,G,F,N,hrl,hC,q⟩:=h;room;obtain⟨r,s⟩:∃r,r=λc=>S c\/c=x:=⟨_,rfl⟩
 rw[<- s] at hR;have O:r x:=s▸.inr rfl
 have hE2:Ex r H:=λc n=>by
  rw[s] at n;rcases n with n|n
  .exact hE c n
  .exact n▸⟨_,hx⟩
 have hle:∀c,S c->r c:=λc n=>by rw[s];exact .inl n
 refine ak (aY (aS (R8 T) hr.m rfl T.Ri T.Jo.kp T.Jo.b1 .nil aH (bQ bP))) ⟨a,ms,rfl,hR.ae aq,G,F,λH1 s1=>?_⟩;refine ak (b6 br (aS (V6 T) hr.m rfl T.Ro T.J4.kp T.J4.b1 .nil aH (bQ bP)) rfl) ⟨a,r,ms,rfl,hR.ae (aJ s1),hE2.ae s1,G,λl H2 u I=>?_⟩;have I:=s1.trans I;have R:=I _ _ hx;refine⟨x,_,i,[],rfl,R,T.aL,T.jA,by decide,?_⟩;have v:ag H2 x (.ins t.bA i (dQ "rules" (.ref l) [])) x=s0 t.bA i [("rules",.ref l)]:=aa;have a3:fY H (ag H2 x (.ins t.bA i (dQ "rules" (.ref l) []))) x:=I.K3 fY.ag;have D:ag H2 x (.ins t.bA i (dQ "rules" (.ref l) [])) lr=r6 (rs.map V.str):=by rw[aj (bL (I _ _ N) R)];exact I _ _ N
 have y:Ex S (ag H2 x (.ins t.bA i (dQ "rules" (.ref l) []))):=λc n=>by obtain⟨o,ho⟩:=(hE.ae I) c n;exact⟨o,by rw[aj (λz=>M (by rw[<- z];exact n))];exact ho⟩
 rw[<- (iN O)] at u;generalize ag H2 x (.ins t.bA i (dQ "rules" (.ref l) []))=H3 at v a3 D u y;refine av (b6 br (bw br T.aL T.NY (ED T) hr.m T.Gu.b3 .nil aH (cy (bM (bQ (iF rfl T.nJ))) cG)) rfl) ⟨v,rfl,sL rfl,λlb f=>⟨x,i,l,lb,lr,S,_,ms,[0],rs,Gs,rfl,af.ag f _ _ v,rfl,(u.ae aq).ae (af.ag f),G,aT aa (y.new f),y.ae (af.ag f),af.ag f _ _ D,hrl,hC,λJ gs H4 U hA4 f4 s4=>?_⟩⟩;have L:=(af.ag f).trans s4;have A:=L _ _ v;refine⟨x,_,i,[("rules",.ref l)],rfl,A,T.aL,T.aW,by show 1<1000;decide,?_⟩;have W:=(af.ag f).free f4;have X:=bL U A;have Y:H J=none:=by
  cases e:H J with
  |none=>rfl
  |some o=>have:=a3 _ _ e X;rw[W] at this;cases this
 have sh:af (hid r H4) (hid S (ag H4 x (.ins t.bA i (dQ "gone_rows" (.ref J) [("rules",.ref l)])))):=λb o B=>by have Z:=bI B;exact aT (by rw[aj (λz=>Z (by rw[z];exact O))];exact aq _ _ B) (λz=>Z (hle b z))
 refine q l J gs _ ⟨aT aa M,(u.ae (aJ L)).ae sh,aT (by rw[aj X];exact U) (y.new W),hA4.mono λg Gi hg=>by obtain⟨dg,lb',lt,lo,lk,e⟩:=hg;have j:∀{b o},hid S H4 b=some o->b≠x->hid S (ag H4 x (.ins t.bA i (dQ "gone_rows" (.ref J) [("rules",.ref l)]))) b=some o:=λ{b o} B h=>aT (by rw[aj h];exact aq _ _ B) (bI B);have nk:∀{b o},hid S H4 b=some o->(∀C d fs,o ≠ .ins C d fs)->b≠x:=λ{b o} B h=>bL (aq _ _ B) A (λz=>h _ _ _ z);obtain⟨ps,k1,k2⟩:=e.lk;refine⟨dg,lb',lt,lo,lk,j e.ob (bL (aq _ _ e.ob) A (by intro z;injection z with _ _ z;cases z)),j e.lb (nk e.lb (by intro _ _ _ z;cases z)),j e.lt (nk e.lt (by intro _ _ _ z;cases z)),j e.lo (nk e.lo (by intro _ _ _ z;cases z)),ps,j k1 (nk k1 (by intro _ _ _ z;cases z)),k2.mono λp m h=>j h (nk h (by intro _ _ _ z;cases z))⟩⟩ Y (by intro b o B nb;rw[aj nb];exact L _ _ (a3 _ _ B nb))
inductive R4(t:eZ)(vs:q7)(H:Hp)(Q:VK)(_:XK):Prop|mk(x dx a lg:Addr)(gs:c6)(ms:List aR)(Gs:List bC)(_:vs=[.ref x])(_:bJ t H x dx a lg gs ms Gs)(_:Gs.length<=100000)(_:∀l H',H' l=r6 ((Gs.map (·.bb)).map V.str)->H l=none->af H H'->Q (.ref l) H')
def mP:bE P w K mg ap dJ 1 t.Ir t.Nc ["self"] (R4 t):=by
 refine T.pM.ok RC λu H Q E h=>?_;obtain⟨x,v,a,r,j,y,Gs,rfl,I,hl,q⟩:=h;room;refine av (aQ (@iM _ (az (AA 44 1)) _ ["self"] _ _ ("gone") _ _ [] _ _ (by walk_at "ck") (fF (aM br rfl)) (λ_ _ _ _=>by exact(@kc _ K _ _ _ _ br rfl (by left))) (by left) (by left) (by left) (by left))) (⟨I.ob,T.aL,T.aW,rfl,⟨r,rfl,⟨_,aV.of I.lg⟩,ie (xs:=j.map V.ref) (λi d f=>d=((Gs.take i).map (·.bb)).map V.str/\f=H) ⟨rfl,rfl⟩ (cL (by rw[d5,I.go.1];lia)) (by rintro i d f _ ⟨_,rfl⟩;exact aV.of I.lg) (by rintro i z d f l b ⟨rfl,rfl⟩;rw[v3] at l;obtain⟨g,n,rfl⟩:=D1.mp l;have o:=(d6.mp n).1;have c:Gs[i]?=some (Gs[i]'(I.go.1▸o)):=i4 _;obtain⟨A,B,lt,C,F,e⟩:=I.go.2 i g _ n c;refine⟨e.ob,T.cB,T.cU,rfl,(fQ (by rw[d5];exact o) b ⟨?_,rfl⟩)⟩;rw[ae1 c,o0,o0];rfl) ?_⟩⟩)
 .rintro d f b ⟨rfl,rfl⟩ D p;have s:Gs.take (j.map V.ref).length=Gs:=by rw[d5,I.go.1,ab3]
  rw[s];exact q D _ aa p (af.ag p)
inductive Ja(t:eZ)(vs:q7)(H:Hp)(Q:VK)(_:XK):Prop|mk(x dx a lg:Addr)(gs:c6)(ms:List aR)(Gs:List bC)(i:Nat)(_:vs=[.ref x,.int i])(_:bJ t H x dx a lg gs ms Gs)(_:i<Gs.length)(_:Q .dj H)
def Fj:bE P w K mg ap dJ 1 t.Bh t.JT ["self","row"] (Ja t):=by refine T.zf.ok Kn λb H Q E h=>?_;obtain⟨x,c,a,d,e,f,g,i,rfl,I,j,q⟩:=h;room;have hl:=I.go.1;refine av (bq (PW.pt (jz (aA fX bP ai (aE _)) (jk (aA xS bP (ez aD T.bD (bQ (aM br rfl))) (aE _))))) ay ay) ⟨.mk<|dM (λh=>absurd h (by lia)) (λ_=>?_)⟩;exact(⟨I.ob,T.aL,T.aW,rfl,⟨_,_,rfl,.inl (aV.of I.lg),.mk<|.mk<|dM (λh=>absurd h (by rw[d5];lia)) (λ_=>bg q)⟩⟩)
inductive Di(t:eZ)(vs:q7)(H:Hp)(Q:VK)(_:XK):Prop|mk(x dx a lg:Addr)(gs:c6)(ms:List aR)(Gs:List bC)(G:bC)(i:Nat)(_:vs=[.ref x,.int i])(_:bJ t H x dx a lg gs ms Gs)(_:Gs[i]?=some G)(_:∀g,fC t H g G->Q (.ref g) H)
def zO:bE P w K mg ap dJ 2 t.KH t.Pj ["self","row"] (Di t):=by refine T.Bk.ok Sm λo H Q E h=>?_;obtain⟨x,c,a,e,f,j,l,G,i,rfl,I,d,q⟩:=h;room;obtain⟨g,n,b⟩:=I.go.at d;refine ak (aY (bw br T.aL T.Jz (Fj T) hr.m T.zf.b2 .nil aH (bQ bP))) ⟨I.ob,rfl,x,c,a,e,f,j,l,i,rfl,I,(d6.mp d).1,?_⟩;exact av (aQ (aC aU (aM br rfl) bP)) (⟨I.ob,T.aL,T.aW,rfl,⟨aV.of I.lg,cM n,q g b⟩⟩)
inductive GZ(t:eZ)(f:bC->q7)(vs:q7)(H:Hp)(Q:VK)(_:XK):Prop|mk(x dx a lg:Addr)(gs:c6)(ms:List aR)(Gs:List bC)(G:bC)(i:Nat)(_:vs=[.ref x,.int i])(_:bJ t H x dx a lg gs ms Gs)(_:Gs[i]?=some G)(_:∀l H',H' l=r6 (f G)->H l=none->af H H'->Q (.ref l) H')
def Sq:bE P w K mg ap dJ 3 t.En t.QS ["self","row"] (GZ t λG=>G.ce.map aX):=by refine T.Pb.ok Tt λs H Q E h=>?_;obtain⟨x,b,a,c,d,f,j,G,i,rfl,I,n,q⟩:=h;room;refine av (aQ (pO eV T.jn (bQ (aM (bw br T.aL T.Ig (zO T) hr.m T.Bk.b2 .nil aH (bQ bP)) rfl)))) ⟨I.ob,rfl,x,b,a,c,d,f,j,G,i,rfl,I,n,λg o=>?_⟩;obtain⟨p,r,lt,u,v,e⟩:=o;exact⟨e.ob,T.cB,T.i0,rfl,r,_,rfl,.inl (aV.of e.lb),λl hl=>q l _ aa hl (af.ag hl)⟩
def Rm:bE P w K mg ap dJ 3 t.HM t.Oq ["self","row"] (GZ t λG=>G.d.aP.map V.str):=by refine T.OI.ok UE λs H Q E h=>?_;obtain⟨x,b,a,c,f,j,n,G,i,rfl,I,o,q⟩:=h;room;refine av (aQ (pO eV T.jn (bQ (aM (bw br T.aL T.Ig (zO T) hr.m T.Bk.b2 .nil aH (bQ bP)) rfl)))) ⟨I.ob,rfl,x,b,a,c,f,j,n,G,i,rfl,I,o,λg p=>?_⟩;obtain⟨r,u,lt,v,y,e⟩:=p;exact⟨e.ob,T.cB,T.mD,rfl,lt,_,rfl,.inl (aV.of e.lt),λl hl=>q l _ aa hl (af.ag hl)⟩
inductive MB(t:eZ)(vs:q7)(H:Hp)(Q:VK)(_:XK):Prop|mk(x dx a lg:Addr)(gs:c6)(ms:List aR)(Gs:List bC)(G:bC)(i:Nat)(_:vs=[.ref x,.int i])(_:bJ t H x dx a lg gs ms Gs)(_:Gs[i]?=some G)(_:∀l H' ps,H' l=r6 (ps.map V.ref)->bf (λp m=>H p=t0 [aX m.1,.str m.2]) ps G.d.bj->H l=none->af H H'->Q (.ref l) H')
def JA:bE P w K mg ap dJ 3 t.Fi t.Qz ["self","row"] (MB t):=by refine T.EJ.ok Tn λy H Q E h=>?_;obtain⟨x,b,a,c,d,f,j,G,i,rfl,I,n,q⟩:=h;room;refine av (aQ (pO eV T.jn (bQ (aM (bw br T.aL T.Ig (zO T) hr.m T.Bk.b2 .nil aH (bQ bP)) rfl)))) ⟨I.ob,rfl,x,b,a,c,d,f,j,G,i,rfl,I,n,λg o=>?_⟩;obtain⟨p,z,lt,A,r,e⟩:=o;obtain⟨s,u,v⟩:=e.lk;exact⟨e.ob,T.cB,T.kQ,rfl,r,_,rfl,.inl (aV.of u),λl hl=>q l _ s aa v hl (af.ag hl)⟩
noncomputable def cN:a9->a9->Nat
 |x::xs,y::ys=>if x=y then cN xs ys+1 else 0
 |_,_=>0
theorem jJ:∀(xs ys:a9),cN xs ys<=xs.length/\cN xs ys<=ys.length
 | [],ys=>⟨Z9 _,Z9 _⟩
 |_::_,[]=>⟨Z9 _,Z9 _⟩
 |x::xs,y::ys=>by
  have h:=jJ xs ys;rw[cN];by_cases e:x=y
  .rw[w4 e,P3,P3];lia
  .rw[C5 e];exact⟨Z9 _,Z9 _⟩
theorem oZ:∀(xs ys:a9),xs.take (cN xs ys)=ys.take (cN xs ys)
 | [],ys=>by simp[cN]
 |_::_,[]=>by simp[cN]
 |x::xs,y::ys=>by
  rw[cN];by_cases e:x=y
  .rw[w4 e,an6,an6,oZ xs ys,e]
  .rw[C5 e];rfl
def um{xs ys:a9}(h1:xs[i]?=some x)(h2:ys[i]?=some y):cN (xs.drop i) (ys.drop i)=if x=y then cN (xs.drop (i+1)) (ys.drop (i+1))+1 else 0:=by rw[gH h1,gH h2,cN]
def qQ{xs ys:a9}(h:i=xs.length\/i=ys.length):cN (xs.drop i) (ys.drop i)=0:=by
 rcases h with h|h
 .rw[h,List.drop_length,cN];intros;simp_all
 .rw[h,List.drop_length];cases xs.drop ys.length <;> rfl
inductive MZ(vs:q7)(H:Hp)(Q:VK)(_:XK):Prop|mk(a b:Addr)(xs ys:a9)(_:vs=[.ref a,.ref b])(_:H a=r6 (xs.map V.str))(_:H b=r6 (ys.map V.str))(_:∀H',af H H'->Q (.int (cN xs ys:Nat)) H')
def JO:bE P w K mg ap dJ 1 t.Gd t.QH ["some","others"] MZ:=by
 refine T.xQ.ok sS λF H Q E h=>?_;obtain⟨a,b,xs,ys,rfl,u,v,q⟩:=h;room;refine ak (b7 2 sS ai) ?_;refine aF (λf n=>(∃j l,f=[ρ a,ρ b,ι (cN xs ys:Nat),j,l])/\af H n) (dD aa7 rfl (V3 rfl T.X3 (cy br bP)) (iK rfl (bF (jb 3 sS) (bF (jb 4 sS) fU))) ay) ?_ ?_
 .refine⟨a,b,_,_,rfl,aV.of u,aV.of v,EH (xs:=xs.map V.str) (ys:=ys.map V.str) (λi f n=>(∃j l,f=[ρ a,ρ b,ι (i:Nat),j,l])/\af H n/\cN xs ys=i+cN (xs.drop i) (ys.drop i)) ⟨⟨_,_,rfl⟩,af.refl H,by simp⟩ (by rintro i f n _ _ ⟨_,d,_⟩;exact⟨aV.of (d _ _ u),aV.of (d _ _ v)⟩) ?_ (by rintro i f o C J L ⟨⟨j,l,rfl⟩,d,g⟩;rw[d5,d5] at C;rw[qQ C] at g;exact⟨⟨_,_,by rw[g];rfl⟩,d⟩)⟩
  .rintro i G I p f o z A D ⟨⟨j,l,rfl⟩,d,g⟩;rw[v3] at z A;obtain⟨x,r,rfl⟩:=D1.mp z;obtain⟨y,s,rfl⟩:=D1.mp A;rw[um r s] at g;have B:af H (ag o p (.tup [.str x,.str y])):=d.trans (af.ag D);refine⟨p,[.str x,.str y],rfl,bT.of aa,rfl,_,_,rfl,_,_,rfl,rfl,?_⟩;by_cases e:x=y
   .rw[w4 e] at g;refine ak (bq (aA tX dh eE (aE _)) ay ay) ⟨rfl,.mk<|mG (c:=false) (by simp[e]) (bg ?_)⟩;refine av (Am (i:=2) sS.nd rfl (Or.inl rfl) ai AN) ⟨_,rfl,_,_,rfl,rfl,⟨_,_,rfl⟩,B,?_⟩;lia
   .rw[C5 e] at g;refine ak (bq (aA tX dh eE (aE _)) ay ay) ⟨rfl,.mk<|mG (c:=true) (by simp[e]) ?_⟩;refine av (aQ cG) (?_);have:=q _ B;rw[g] at this;exact this
 rintro f o ⟨⟨j,l,rfl⟩,d⟩;exact av (aQ cG) (q _ d)
inductive MU(vs:q7)(H:Hp)(Q:VK)(_:XK):Prop|mk(a b:Addr)(xs ys:a9)(_:vs=[.ref a,.ref b])(_:H a=r6 (xs.map V.str))(_:H b=r6 (ys.map V.str))(_:∀H',af H H'->Q (.int (cN xs.reverse ys.reverse:Nat)) H')
def Lq:bE P w K mg ap dJ 2 t.AF t.Fe ["some","others"] MU:=by
 refine T.zJ.ok Le λp H Q E h=>?_;obtain⟨a,b,e,f,rfl,g,i,q⟩:=h;room;refine av (aQ (aS (JO T) hr.m rfl T.Kf T.xQ.kp T.xQ.b2 .nil aH (cy (sW rfl rfl T.jn rfl T.uo (bQ br)) (sW rfl rfl T.jn rfl T.uo (bQ bP))))) ⟨a,_,rfl,aV.of g,λj c=>⟨b,_,rfl,aV.of (af.ag c _ _ i),λl d=>⟨j,l,e.reverse,f.reverse,rfl,List.map_reverse▸af.ag d _ _ aa,by rw[List.map_reverse];exact aa,λn o=>q n (((af.ag c).trans (af.ag d)).trans o)⟩⟩⟩
theorem vC:∀{Gs:List bC} {j:Nat} {G:bC},Gs[j]?=some G->ki b (Gs.take (j+1))=G.d.on
 |G'::Gs,0,G,h=>by cases h;rfl
 |G'::Gs,j+1,G,h=>by rw[an6,ki];exact vC (Gs:=Gs) (by simpa using h)
inductive LM(t:eZ)(vs:q7)(H:Hp)(Q:VK)(_:XK):Prop|mk(x dx a lg:Addr)(gs:c6)(S:q0)(Gs:List bC)(i:Nat)(_:vs=[.ref x,.int i])(_:H x=s0 t.bA dx [("rules",.ref a),("gone_rows",.ref lg)])(_:H lg=r6 (gs.map V.ref))(_:bf (fC t (hid S H)) gs Gs)(_:Ex S H)(_:i<=Gs.length)(_:∀lb H',hid S H' lb=r6 ((ki [0] (Gs.take i)).map aX)->af H H'->Q (.ref lb) H')
def Ab:bE P w K mg ap dJ 1 t.EK t.Pw ["self","row"] (LM t):=by
 refine T.Bl.ok Ug λA H Q E h=>?_;obtain⟨x,B,a,n,C,S,d,i,rfl,o,c,p,r,D,q⟩:=h;room;refine av (aQ (dc (aA j9 bP ai (aE _)) (aM (aC aU (aM br rfl) (aK cQ bP ai)) rfl) (bM (bQ (iF rfl T.nJ))))) ⟨.mk<|dM (λh=>?_) (λh=>?_)⟩
 .obtain⟨j,rfl⟩:∃j,i=j+1:=⟨i-1,by lia⟩
  obtain⟨G,f⟩:∃G,d[j]?=some G:=⟨d[j]'(by lia),i4 _⟩
  obtain⟨g,s,u,l,lt,v,F,e⟩:=p.at f;have y:((j+1:Nat):Int)-1=j:=by lia
  refine⟨o,T.aL,T.aW,rfl,⟨?_⟩⟩;show LP _ (.ref n) (.int (((j+1:Nat):Int)-1)) H _;rw[y];refine⟨aV.of c,cM s,aq _ _ e.ob,T.cB,T.iY,rfl,?_⟩;refine q v H ?_ (af.refl H);rw[vC f];exact e.lo
 .have z:i=0:=by lia
  subst z;exact⟨sL rfl,λl b=>q l _ (aT aa (r.new b)) (af.ag b)⟩
inductive Ls(t:eZ)(vs:q7)(H:Hp)(Q:VK)(_:XK):Prop|mk(x dx a lg:Addr)(gs:c6)(i k:Nat)(_:vs=[.ref x,.int i,.int k])(_:H x=s0 t.bA dx [("rules",.ref a),("gone_rows",.ref lg)])(_:H lg=r6 (gs.map V.ref))(_:i+k<=gs.length)(_:Q .dj H)
def U5:bE P w K mg ap dJ 1 t.Jt t.P6 ["self","row","many"] (Ls t):=by refine T.Nb.ok Vv λd H Q E h=>?_;obtain⟨x,e,a,f,g,i,k,rfl,c,b,j,q⟩:=h;room;refine av (bq (PW.pt (jz (aA fX bP ai (aE _)) (jz (aA fX cG ai (aE _)) (jk (aA j9 (aK bh bP cG) (ez aD T.bD (bQ (aM br rfl))) (aE _)))))) ay ay) ⟨.mk<|dM (λh=>absurd h (by lia)) (λ_=>?_)⟩;refine⟨.mk<|dM (λh=>absurd h (by lia)) (λ_=>?_)⟩;refine⟨⟨c,T.aL,T.aW,rfl,⟨_,_,rfl,.inl (aV.of b),.mk<|.mk<|dM (λh=>absurd h (by rw[d5];lia)) (λ_=>bg q)⟩⟩⟩
structure qA(ms:List aR)(Gs:List bC)(i k:Nat)(Gs':List bC):Prop where
 len:Gs'.length=Gs.length
 le:i+k<=Gs.length
 pre:∀j,j<i->Gs'[j]?=Gs[j]?
 suf:∀j,i+k<=j->Gs'[j]?=Gs[j]?
 mid:∀j,i<=j->j<i+k->∃G G',Gs[j]?=some G/\Gs'[j]?=some G'/\G'.bb=G.bb/\G'.ce=ki [0] (Gs'.take j)/\G.ce≠ki [0] (Gs'.take j)/\rq ms G'
 stop:∀G,Gs[i+k]?=some G->G.ce=ki [0] (Gs'.take (i+k))
noncomputable def nj(Gs Gs':List bC)(n:Nat):List bC:=Gs'.take n++Gs.drop n
def Vc(hl:Gs'.length=Gs.length)(h:n<=Gs.length):(nj Gs Gs' n)[n]?=Gs[n]?:=by rw[nj,U2 (by rw[v6];lia),v6,ab6];congr 1;lia
def yO(hl:Gs'.length=Gs.length)(h:n<=Gs.length):(nj Gs Gs' n).take n=Gs'.take n:=by
 have e:n=(Gs'.take n).length:=by rw[v6];lia
 rw[nj];conv=>lhs;arg 1;rw[e]
 rw[List.take_left]
def wC(hl:Gs'.length=Gs.length)(h:n<=Gs.length):(nj Gs Gs' n).length=Gs.length:=by rw[nj,i5,v6,B2];lia
def Lv(hl:Gs'.length=Gs.length)(h:n<Gs.length)(hG:Gs'[n]?=some G'):(nj Gs Gs' n).set n G'=nj Gs Gs' (n+1):=by
 have e:(Gs'.take n).length=n:=by rw[v6];lia
 rw[nj,nj,List.set_append_right _ _ (by rw[e];exact N0 _),e,aj6,ae1 hG,ac0];congr 1;rw[gH (i4 h)];rfl
def qA.first(h:qA ms Gs i k Gs'):nj Gs Gs' i=Gs:=by
 apply aj3;intro j;rw[nj];have:=h.le;have:=h.len;by_cases a:j<i
 .rw[aa2 (by rw[v6];lia),ao1,w4 a,h.pre j a]
 .rw[U2 (by rw[v6];lia),v6,ab6];congr 1;lia
def qA.last(h:qA ms Gs i k Gs'):nj Gs Gs' (i+k)=Gs':=by
 apply aj3;intro j;rw[nj];have:=h.le;have:=h.len;by_cases a:j<i+k
 .rw[aa2 (by rw[v6];lia),ao1,w4 a]
 .rw[U2 (by rw[v6];lia),v6,ab6,h.suf j (by lia)];congr 1;lia
def bf.put{R:α->β->Prop}{xs:List α}{ys:List β}{n:Nat}{x:α}{y:β}(h:bf R xs ys)(r:R x y):bf R (xs.set n x) (ys.set n y):=by
 refine⟨by rw[List.length_set,List.length_set];exact h.1,λi a b c d=>?_⟩;rw[List.getElem?_set] at c d;by_cases e:n=i
 .rw[w4 e] at c d;split at c
  .split at d
   .cases c;cases d;exact r
   .cases d
  .cases c
 .rw[C5 e] at c d;exact h.2 i a b c d
theorem tK:∀{xs ys:c7},xs.map aX=ys.map aX->xs=ys
 | [],[],_=>rfl
 | [],_::_,h=>by simp at h
 |_::_,[],h=>by simp at h
 |x::xs,y::ys,h=>by
  rw[ab5,ab5] at h;injection h with h1 h2
  injection h1 with h1
  rw[tK h2,Int.ofNat_inj.mp h1]
def oV(xs ys:c7):qV (xs.map aX) (ys.map aX):=AY (λn:Nat=>(n:Int)) (λn:Nat=>(n:Int)) xs ys
inductive SV(t:eZ)(vs:q7)(H:Hp)(Q:VK)(_:XK):Prop|mk(x dx a lg:Addr)(gs:c6)(S:q0)(ms:List aR)(Gs Gs':List bC)(i k:Nat)(_:vs=[.ref x,.int i])(_:H x=s0 t.bA dx [("rules",.ref a),("gone_rows",.ref lg)])(_:IsRules t (hid S H) a ms)(_:eK ms)(_:H lg=r6 (gs.map V.ref))(_:S lg)(_:bf (fC t (hid S H)) gs Gs)(_:Ex S H)(_:Gs.length<=100000)(_:qA ms Gs i k Gs')(_:∀gs' H',H' lg=r6 (gs'.map V.ref)->bf (fC t (hid S H')) gs' Gs'->fY H H' lg->Q (.int (k:Nat)) H')
def Uc:bE P w K mg ap dJ 6 t.J6 t.Py ["self","row"] (SV t):=by
 refine T.PZ.ok AL λvs H Q E h=>?_;obtain⟨x,dx,a,lg,gs,S,ms,A,s,i,k,rfl,hx,hR,G,U,W,hA,hE,hlen,O,q⟩:=h;room;have hxl:=bL hx U;have hl:=O.len;have hle:=O.le;refine ak (b7 2 AL bP) (?_);refine aG (λC1=>∀l x2 B,x2=some (.int ((i+k:Nat):Int))->B lg=r6 (l.map V.ref)->bf (fC t (hid S B)) l s->fY H B lg->C1 [ρ x,ι i,x2] B) (jd aa7 (PW.pt (dX (aA fX cG (ez aD T.bD (bQ (aM br rfl))) (aE _)) (cX (aA (lW (aa6 (cS hr))) (aM (aC aU (aM br rfl) cG) rfl) (bw br T.aL T.G5 (Ab T) hr.m T.Bl.b2 .nil aH (bQ cG)) (aE _))))) ay) ?_ ?_
 .refine⟨λm M B=>∃j l,M=[ρ x,ι i,ι ((i+j:Nat):Int)]/\j<=k/\m=k-j/\B lg=r6 (l.map V.ref)/\bf (fC t (hid S B)) l (nj A s (i+j))/\fY H B lg,⟨k,0,gs,rfl,Z9 _,rfl,U,(by rw[Nat.add_zero,O.first];exact hA),fY.refl H lg⟩,?_⟩;rintro m M H1 ⟨j,c,rfl,hj,rfl,d,f,N⟩;have n:=N _ _ hx hxl;have s1:af (hid S H) (hid S H1):=λb o r=>aT (N _ _ (aq _ _ r) (λz=>bI r (z▸W))) (bI r);have hR1:=hR.ae s1;have X:Ex S H1:=λb r=>by
   by_cases e:b=lg
   .exact e▸⟨_,d⟩
   .obtain⟨o,ho⟩:=hE b r;exact⟨o,N _ _ ho e⟩
  have hg1:c.length=A.length:=by rw[f.1,wC hl (by lia)]
  refine(⟨n,T.aL,T.aW,rfl,⟨_,_,rfl,.inl (aV.of d),.mk<|.mk<|dM (λh=>?_) (λh=>?_)⟩⟩)
  .rw[d5] at h;have Y:i+j<A.length:=by lia
   obtain⟨G0,u⟩:∃G0,A[i+j]?=some G0:=⟨A[i+j],i4 Y⟩
   have hG1:(nj A s (i+j))[i+j]?=some G0:=by rw[Vc hl (by lia)];exact u
   obtain⟨g,hg,dg,lb,lt,lo,lk,e⟩:=f.at hG1;refine⟨n,T.aL,T.aW,rfl,⟨aV.of d,cM hg,aq _ _ e.ob,T.cB,T.i0,rfl,?_⟩⟩;refine⟨n,rfl,x,dx,a,lg,c,S,_,i+j,rfl,n,d,f,X,(by rw[wC hl (by lia)];lia),λlb2 H2 Z D=>?_⟩;rw[yO hl (by lia)] at Z;refine⟨aV.of (D _ _ (aq _ _ e.lb)),aV.of (aq _ _ Z),oV _ _,.mk ?_⟩;have p:=D _ _ d;have v:=D _ _ n;have F:=f.mono λ_ _ z=>z.ae (aJ D);have hE2:=X.ae D;refine mq (λhne=>?_) (λheq=>?_)
   .have hjk:j<k:=by
     rcases Nat.lt_or_ge j k with z|z
     .exact z
     .exfalso;have I:j=k:=by lia
      subst I;exact hne (by rw[O.stop G0 u])
    obtain⟨G1,G',z1,hG',er,eb,_,hSt⟩:=O.mid (i+j) (by lia) (by lia);rw[u] at z1;cases z1;refine⟨_,λM B z=>z,ak (jo (fj T.tZ (Jb T) hr.m rfl T.rB T.Ey.b4 .nil aH (ao (aM br rfl) (cy (bw br T.aL T.G5 (Ab T) hr.m T.Bl.b2 .nil aH (bQ cG)) (aM (aC aU (aM br rfl) cG) rfl)))) (wH (aM br rfl) cG set_list)) ?_⟩;refine⟨v,T.aL,T.jA,rfl,?_⟩;refine⟨v,rfl,x,dx,a,lg,c,S,_,i+j,rfl,v,p,F,hE2,(by rw[wC hl (by lia)];lia),λlb3 H3 hb3 s3=>?_⟩;rw[yO hl (by lia),<- eb] at hb3;have C:=s3 _ _ p;have hx3:=s3 _ _ v;have hE3:=hE2.ae s3;have J:=D.trans s3;refine⟨hx3,T.aL,T.aW,rfl,⟨aV.of C,cM hg,J _ _ (aq _ _ e.ob),T.cB,T.cU,rfl,?_⟩⟩;refine λg' dg' R y ne=>⟨g',dg',a,lb3,S,ms,G',(by rw[er];rfl),aa,((hR1.ae aq).ae J).ae (cD R y),G,(aJ (cD R y)) _ _ hb3,hE3.ae (cD R y),hE3.new R,hSt,λlt4 lo4 lk4 H4 hG4 a4=>⟨rfl,?_⟩⟩
    have L:af H3 H4:=λb o r=>a4 b o (cD R y _ _ r) (au r R);have s14:=J.trans L;refine⟨L _ _ hx3,T.aL,T.aW,rfl,⟨lg,_,_,i+j,rfl,rfl,L _ _ C,?_,?_⟩⟩
    .have hz:(c.map V.ref).length=A.length:=by rw[d5];exact hg1
     rw[hz,zG,w4 (by lia),w4 (by lia),ab9]
    refine av (Am (i:=2) AL.nd rfl (Or.inl rfl) ai AN) ⟨_,rfl,_,_,rfl,rfl,?_⟩;refine⟨k-(j+1),by lia,j+1,c.set (i+j) g',by show [some (V.ref x),some (V.int i),some (V.int (((i+j:Nat):Int)+1))]=_;rw[show (((i+(j+1):Nat)):Int)=((i+j:Nat):Int)+1 by lia],by lia,rfl,by rw[aa,List.map_set],by rw[iN W,show i+(j+1)=i+j+1 from rfl,<- Lv hl Y hG'];exact(f.mono λ_ _ z=>z.ae (aJ s14)).put ⟨dg',lb3,lt4,lo4,lk4,hG4⟩,by intro b o r nb;rw[aj nb];exact s14 _ _ (N _ _ r nb)⟩
   .have I:j=k:=by
     rcases Nat.lt_or_ge j k with z|z
     .exfalso;obtain⟨G1,G',z1,hG',er,eb,hnb,hSt⟩:=O.mid (i+j) (by lia) (by lia);rw[u] at z1;cases z1;exact hnb (tK heq)
     .lia
    subst I;rw[O.last] at F;exact λ_ k1=>k1 c _ _ rfl p F (N.ae D)
  .rw[d5] at h;have ej:j=k:=by have:=O.le;lia
   subst ej;rw[O.last] at f;exact λ_ k1=>k1 c _ _ rfl d f N
 intro c x2 H1 rfl h1 h2 h3;refine av (aQ (aK cQ cG bP)) ⟨?_⟩;have:=q c H1 h1 h2 h3;rw[show (k:Int)=((i+k:Nat):Int)-i by lia] at this;exact this
def Cf(hj:j<=xs.length)(h:i<=j):b9 xs (some (i:Int)) (some (j:Int))=(xs.drop i).take (j-i):=by rw[b9,HT.nO,HT.nO,ad9 hj,ad9 (ac2 h hj)]
def gk(h:i<=xs.length):b9 xs (some (i:Int)) none=xs.drop i:=by rw[b9,HT.nO,HT.ye,ad9 h,ac1 (B2▸N0 _)]
def ZE{a n m x s:Nat}(h:n+m+n<=s):min a n+m+(n-x)<=s:=by omega
def gP(hj:j<=xs.length):b9 xs none (some (j:Int))=xs.take j:=by rw[b9,HT.nO,HT.ye,ad9 hj];rfl
def apart(hx:H x=s0 C dx fs)(hb:H b=some o)(h:∀C' d' fs',o = .ins C' d' fs'->fs'.length≠fs.length):hid (λc=>c=x) H b=some o:=by refine aT hb λz=>?_;rw[z,hx] at hb;cases hb;exact h _ _ _ rfl rfl
def Iw(s z:Str):(ou s z).length<=1:=by
 rw[ou];by_cases b:ax s
 .rw[w4 b];exact Z9 _
 .rw[C5 b];by_cases e:s = "word"
  .rw[w4 e];exact N0 _
  .rw[C5 e];exact N0 _
def IsRules.apart    (h:IsRules t H a ms) (hx:H x=s0 t.bA dx [("rules",.ref a'),("gone_rows",.ref lg)]):IsRules t (hid (λc=>c=x) H) a ms:=by
 obtain⟨d,e,f,g,j,n,b⟩:=h;refine⟨d,e,f,g,K63.apart hx j (λ_ _ _ z=>by cases z;simp),K63.apart hx n (λ_ _ _ z=>by cases z),b.la,b.ll,b.nd,λi a l m o q s=>?_⟩;obtain⟨u,v,w,y,A⟩:=b.ob i a l m o q s;refine⟨u,v,K63.apart hx w (λ_ _ _ z=>by cases z;simp[mf]),K63.apart hx y (λ_ _ _ z=>by cases z),A.mono λr R hr=>?_⟩;obtain⟨B,p,C,D,E⟩:=hr;refine⟨B,p,K63.apart hx C (λ_ _ _ z=>by cases z;simp[rf]),D,K63.apart hx E (λ_ _ _ z=>?_)⟩;injection z with _ _ z
 rw[<- z];have:=Iw R.bc R.bi;intro z;have z:(ou R.bc R.bi).length=2:=z;lia
def fC.apart    (h:fC t H g G) (hx:H x=s0 t.bA dx [("rules",.ref a'),("gone_rows",.ref lg)]):fC t (hid (λc=>c=x) H) g G:=by obtain⟨a,b,lt,d,f,e⟩:=h;obtain⟨i,j,l⟩:=e.lk;exact⟨a,b,lt,d,f,K63.apart hx e.ob (λ_ _ _ z=>by cases z;simp[gf]),K63.apart hx e.lb (λ_ _ _ z=>by cases z),K63.apart hx e.lt (λ_ _ _ z=>by cases z),K63.apart hx e.lo (λ_ _ _ z=>by cases z),i,K63.apart hx j (λ_ _ _ z=>by cases z),l.mono λp m h=>K63.apart hx h (λ_ _ _ z=>by cases z)⟩
structure iL(ms:List aR)(Gs:List bC)(i k:Nat)(fs:a9)(ah bk:Nat)(Gm:List bC)(c:Nat)(Gs':List bC):Prop where
 le:i+k<=Gs.length
 eah:ah=cN (((Gs.map (·.bb)).drop i).take k) fs
 ebk:bk=cN ((((Gs.map (·.bb)).drop i).take k).drop ah).reverse (fs.drop ah).reverse
 mid:Chain ms (ki [0] (Gs.take (i+ah))) ((fs.drop ah).take (fs.length-bk-ah)) Gm
 on:qA ms (Gs.take (i+ah)++Gm++Gs.drop (i+k-bk)) (i+ah+Gm.length) c Gs'
def iL.small(h:iL ms Gs i k fs ah bk Gm c Gs'):ah<=k/\ah<=fs.length/\ah+bk<=k/\ah+bk<=fs.length/\Gm.length=fs.length-bk-ah:=by have a:=jJ (((Gs.map (·.bb)).drop i).take k) fs;have b:=jJ ((((Gs.map (·.bb)).drop i).take k).drop ah).reverse (fs.drop ah).reverse;have d:=h.mid.len;rw[<- h.eah,v6,B2,d5] at a;rw[<- h.ebk,ac3,ac3,B2,B2,v6,B2,d5] at b;rw[v6,B2] at d;lia
def bf.take{R:α->β->Prop}{xs:List α}{ys:List β}(h:bf R xs ys)(n:Nat):bf R (xs.take n) (ys.take n):=by
 refine⟨by rw[v6,v6,h.1],λi a b c d=>?_⟩;rw[ao1] at c d;by_cases e:i<n
 .rw[w4 e] at c d;exact h.2 i a b c d
 .rw[C5 e] at c;cases c
def bf.drop{R:α->β->Prop}{xs:List α}{ys:List β}(h:bf R xs ys)(n:Nat):bf R (xs.drop n) (ys.drop n):=by refine⟨by rw[B2,B2,h.1],λi a b c d=>?_⟩;rw[ab6] at c d;exact h.2 _ a b c d
def bf.append{R:α->β->Prop}{xs xs':List α}{ys ys':List β}(h:bf R xs ys)(h':bf R xs' ys'):bf R (xs++xs') (ys++ys'):=by
 refine⟨by rw[i5,i5,h.1,h'.1],λi a b c d=>?_⟩;have e:=h.1;by_cases f:i<xs.length
 .rw[aa2 f] at c;rw[aa2 (by lia)] at d;exact h.2 i a b c d
 .rw[U2 (by lia)] at c;rw[U2 (by lia),<- e] at d;exact h'.2 _ a b c d
def Cq:af (hid S' (hid S H)) (hid (λc=>S c\/S' c) H):=λb o h=>by have a:=aq _ _ h;exact aT (aq _ _ a) (λz=>z.elim (bI a) (bI h))
inductive GJ(t:eZ)(vs:q7)(H:Hp)(Q:VK)(_:XK):Prop|mk(S:q0)(x dx a lg lr:Addr)(gs:c6)(ms:List aR)(Gs:List bC)(i k:Nat)(fs:a9)(ah bk:Nat)(Gm:List bC)(c:Nat)(Gs':List bC)(_:vs=[.ref x,.int i,.int k,.ref lr])(_:Ex S H)(_:bJ t (hid S H) x dx a lg gs ms Gs)(_:eK ms)(_:H lr=r6 (fs.map V.str))(_:Gs.length<=50000)(_:fs.length<=50000)(_:(k=Gs.length->fs≠[]))(_:iL ms Gs i k fs ah bk Gm c Gs')(_:∀lg' gs' H',bJ t (hid S H') x dx a lg' gs' ms Gs'->H lg'=none->fY H H' x->Q (.int ((Gm.length+c:Nat):Int)) H')
def xK:bE P w K mg ap dJ 8 t.E2 t.Qh ["self","row","many","rows"] (GJ t):=by
 refine T.zx.ok qH λvs H Q E h=>?_;obtain⟨S,x,g,a,s,lr,d,ms,Gs,i,k,fs,e,bk,Gm,c,Gs',rfl,O,IS,GM_,v,hl1,hl2,hne,C,q⟩:=h;room;have I:=IS.ae aq;have hxS:¬S x:=bI IS.ob;obtain⟨b1,b2,b3,b4,b5⟩:=C.small;have hle:=C.le;have hgl:=I.go.1;refine ak (aY (bw br T.aL T.Yl (U5 T) hr.m T.Nb.b3 .nil aH (cy bP cG))) ⟨I.ob,rfl,x,g,a,s,d,i,k,rfl,I.ob,I.lg,(by lia),?_⟩;refine aF (λR U=>U=H/\R=[ρ x,ι i,ι k,ρ lr,none,none,none,none,none]) (bq (PW.pt (dX (aA cC cG (ez aD T.bD (bQ (aM br rfl))) (aE _)) (cX (g9 (gc dh (λ_=>rfl)))))) ay ay) ?_ ?_
 .refine(⟨I.ob,T.aL,T.aW,rfl,⟨_,_,rfl,.inl (aV.of I.lg),rfl,.mk<|dM (λh=>?_) (λh=>bg ⟨rfl,rfl⟩)⟩⟩);have hk:k=Gs.length:=by
   injection h with h
   rw[d5] at h;lia
  have hf:=hne hk;refine⟨true,.inl ⟨_,aV.of v,?_⟩,mG (c:=false) rfl (bg ⟨rfl,rfl⟩)⟩;cases fs with
  |nil=>exact absurd rfl hf
  |cons _ _=>rfl
 rintro R U ⟨eH,eσ⟩;rw[eH,eσ];clear eH eσ R U;refine ak (b7 4 qH (bS cZ (bR br T.aL T.rE (mP T) hr.m T.pM.b1 .nil aH) (bO bP) (bO (aK bh bP cG)))) ⟨I.ob,rfl,x,g,a,s,d,ms,Gs,rfl,I,(by lia),λl1 H1 h1 f1 s1=>?_⟩;obtain⟨A,B⟩:∃A,A=((Gs.map (·.bb)).drop i).take k:=⟨_,rfl⟩
 have ea:e=cN A fs:=B▸C.eah
 have eb:bk=cN (A.drop e).reverse (fs.drop e).reverse:=B▸C.ebk
 have htl:A.length=k:=by rw[B,v6,B2,d5];lia
 refine⟨aV.of h1,λW f2=>?_⟩;have e2:b9 ((Gs.map (·.bb)).map V.str) (some (i:Int)) (some ((i:Int)+k))=A.map V.str:=by rw[<- Int.natCast_add,Cf (by rw[d5,d5];omega) (by lia),B,ac9,ad6];congr 1;lia
 have h2:ag H1 W (.lst (b9 ((Gs.map (·.bb)).map V.str) (some (i:Int)) (some ((i:Int)+k)))) W=r6 (A.map V.str):=by rw[aa,e2]
 have s2:af H (ag H1 W (.lst (b9 ((Gs.map (·.bb)).map V.str) (some (i:Int)) (some ((i:Int)+k))))):=s1.trans (af.ag f2);generalize ag H1 W (.lst (b9 ((Gs.map (·.bb)).map V.str) (some (i:Int)) (some ((i:Int)+k))))=H2 at h2 s2;refine ak (b7 5 qH (aS (JO T) hr.m rfl T.Kf T.xQ.kp T.xQ.b2 .nil aH (cy eE dh))) ⟨W,lr,A,fs,rfl,h2,s2 _ _ v,λH3 s3'=>?_⟩;rw[<- ea];have s3:=s2.trans s3';refine ak (b7 6 qH (aS (Lq T) hr.m rfl T.Lz T.zJ.kp T.zJ.b2 .nil aH (cy (bS cZ eE (bO gX) cP) (bS cZ dh (bO gX) cP)))) ⟨aV.of (s3' _ _ h2),λl4 f4=>⟨aV.of (af.ag f4 _ _ (s3 _ _ v)),λl5 f5=>⟨l4,l5,A.drop e,fs.drop e,rfl,by rw[af.ag f5 _ _ aa,gk (by rw[d5];lia),ad6],by rw[aa,gk (by rw[d5];omega),ad6],λH6 j=>?_⟩⟩⟩
 rw[<- eb];have j:af H H6:=((s3.trans (af.ag f4)).trans (af.ag f5)).trans j;refine aF (λR U=>U=H6/\R=[ρ x,ι i,ι k,ρ lr,ρ W,ι e,ι bk,ι ((i+e:Nat):Int),none]) (b7 7 qH (aK bh bP gX)) ⟨rfl,rfl⟩ ?_;rintro R U ⟨eH,eσ⟩;rw[eH,eσ];clear eH eσ R U;have l:=j _ _ I.ob;have G:=j _ _ I.lg;have J:=j _ _ v;have L:=(aJ (S:=S) j) _ _ IS.ob;have hR6:IsRules t (hid (λc=>S c\/c=x) H6) a ms:=((IS.ru.ae (aJ j)).apart L).ae Cq;have hA6:bf (fC t (hid (λc=>S c\/c=x) H6)) d Gs:=IS.go.mono λ_ _ z=>((z.ae (aJ j)).apart L).ae Cq;have hE6:Ex (λc=>S c\/c=x) H6:=λb f=>by
  rcases f with f|f
  .exact(O.ae j) b f
  .exact f▸⟨_,l⟩
 refine ak (b7 8 qH (bw br T.aL T.NY (ED T) hr.m T.Gu.b3 .nil aH (cy (bw br T.aL T.G5 (Ab T) hr.m T.Bl.b2 .nil aH (bQ jO)) (bS cZ dh (bO gX) (bO (aK cQ (ez aD T.bD (bQ dh)) jv)))))) ⟨l,rfl,l,rfl,x,g,a,s,d,λc=>S c\/c=x,Gs,i+e,rfl,l,G,hA6,hE6,(by lia),λlb H7 hb7 s7=>?_⟩;refine⟨_,_,rfl,.inl (aV.of (s7 _ _ J)),aV.of (s7 _ _ J),λl8 f8=>?_⟩;have e8:b9 (fs.map V.str) (some (e:Int)) (some (((fs.map V.str).length:Int)-bk))=((fs.drop e).take (fs.length-bk-e)).map V.str:=by rw[d5,show ((fs.length:Int)-bk)=((fs.length-bk:Nat):Int) by lia,Cf (by rw[d5];lia) (by lia),ac9,ad6]
 have h8:ag H7 l8 (.lst (b9 (fs.map V.str) (some (e:Int)) (some (((fs.map V.str).length:Int)-bk)))) l8=r6 (((fs.drop e).take (fs.length-bk-e)).map V.str):=by rw[aa,e8]
 have s8:af H6 (ag H7 l8 (.lst (b9 (fs.map V.str) (some (e:Int)) (some (((fs.map V.str).length:Int)-bk))))):=s7.trans (af.ag f8);have hb8:=(aJ (S:=λc=>S c\/c=x) (af.ag (o:=.lst (b9 (fs.map V.str) (some (e:Int)) (some (((fs.map V.str).length:Int)-bk)))) f8)) _ _ hb7;generalize ag H7 l8 (.lst (b9 (fs.map V.str) (some (e:Int)) (some (((fs.map V.str).length:Int)-bk))))=H8 at h8 s8 hb8;refine⟨x,g,a,lb,l8,λc=>S c\/c=x,_,ms,_,_,Gm,rfl,s8 _ _ l,rfl,(hR6.ae aq).ae s8,GM_,hb8,hE6.ae s8,h8,(by rw[v6,B2];omega),C.mid,λlm gm H9 X hA9 f9 u=>?_⟩;have u:=s8.trans u;have D:=u _ _ l;have M:=u _ _ G;have hgm:gm.length=Gm.length:=hA9.1;refine ak (b6 br (aK gM (aK gM (bS cZ (aM br rfl) cP (bO jO)) kH) (bS cZ (aM br rfl) (bO (aK cQ (aK bh bP cG) jv)) cP)) rfl) (⟨D,T.aL,T.aW,rfl,⟨aV.of M,λp1 g1=>?_⟩⟩);have z1:(d.map V.ref).length=Gs.length:=by rw[d5];exact hgl
 have z2:(gm.map V.ref).length=Gm.length:=by rw[d5];exact hgm
 have c1:b9 (d.map V.ref) none (some ((i+e:Nat):Int))=(d.take (i+e)).map V.ref:=by rw[gP (by rw[z1];lia),ac9]
 have c2:b9 (d.map V.ref) (some ((i:Int)+k-bk)) none=(d.drop (i+k-bk)).map V.ref:=by rw[show ((i:Int)+k-bk)=((i+k-bk:Nat):Int) by lia,gk (by rw[z1];lia),ad6]
 have sz:=ad0;refine⟨aa,af.ag g1 _ _ X,(by rw[c1,z2,d5,v6];lia),λp2 g2=>?_⟩;refine⟨(af.ag g2 _ _ (af.ag g1 _ _ D)),T.aL,T.aW,rfl,?_⟩;refine⟨aV.of (af.ag g2 _ _ (af.ag g1 _ _ M)),λp3 g3=>?_⟩;refine⟨af.ag g3 _ _ aa,aa,by rw[i5,c1,c2,z2,d5,d5,v6,B2];exact ZE (by lia),λlg' F=>?_⟩
 have e10:b9 (d.map V.ref) none (some ((i+e:Nat):Int))++gm.map V.ref++b9 (d.map V.ref) (some ((i:Int)+k-bk)) none=(d.take (i+e)++gm++d.drop (i+k-bk)).map V.ref:=by rw[c1,c2,o0,o0]
 have Y:af H9 (ag (ag (ag H9 p1 (.lst (b9 (d.map V.ref) none (some ((i+e:Nat):Int))))) p2 (.lst (b9 (d.map V.ref) none (some ((i+e:Nat):Int))++gm.map V.ref))) p3 (.lst (b9 (d.map V.ref) (some ((i:Int)+k-bk)) none))):=((af.ag g1).trans (af.ag g2)).trans (af.ag g3);revert F;show ag (ag (ag H9 p1 (.lst (b9 (d.map V.ref) none (some ((i+e:Nat):Int))))) p2 (.lst (b9 (d.map V.ref) none (some ((i+e:Nat):Int))++gm.map V.ref))) p3 (.lst (b9 (d.map V.ref) (some ((i:Int)+k-bk)) none)) lg'=none->_;generalize ag (ag (ag H9 p1 (.lst (b9 (d.map V.ref) none (some ((i+e:Nat):Int))))) p2 (.lst (b9 (d.map V.ref) none (some ((i+e:Nat):Int))++gm.map V.ref))) p3 (.lst (b9 (d.map V.ref) (some ((i:Int)+k-bk)) none))=HA at Y;intro F;have N:=Y _ _ D;refine⟨x,_,g,_,rfl,af.ag F _ _ N,T.aL,T.aW,(by show 2<1000;decide),?_⟩;have hxl:x≠lg':=au N F;have p:ag (ag HA lg' (.lst (b9 (d.map V.ref) none (some ((i+e:Nat):Int))++gm.map V.ref++b9 (d.map V.ref) (some ((i:Int)+k-bk)) none))) x (.ins t.bA g (dQ "gone_rows" (.ref lg') [("rules",.ref a),("gone_rows",.ref s)])) x=s0 t.bA g [("rules",.ref a),("gone_rows",.ref lg')]:=aa;have Z:ag (ag HA lg' (.lst (b9 (d.map V.ref) none (some ((i+e:Nat):Int))++gm.map V.ref++b9 (d.map V.ref) (some ((i:Int)+k-bk)) none))) x (.ins t.bA g (dQ "gone_rows" (.ref lg') [("rules",.ref a),("gone_rows",.ref s)])) lg'=r6 ((d.take (i+e)++gm++d.drop (i+k-bk)).map V.ref):=by rw[aj (aa4 hxl),aa,e10]
 have kB:∀b o,HA b=some o->b≠x->ag (ag HA lg' (.lst (b9 (d.map V.ref) none (some ((i+e:Nat):Int))++gm.map V.ref++b9 (d.map V.ref) (some ((i:Int)+k-bk)) none))) x (.ins t.bA g (dQ "gone_rows" (.ref lg') [("rules",.ref a),("gone_rows",.ref s)])) b=some o:=λb o f nb=>by rw[aj nb,aj (au f F)];exact f
 show At _ _ _ _ (ag (ag HA lg' (.lst (b9 (d.map V.ref) none (some ((i+e:Nat):Int))++gm.map V.ref++b9 (d.map V.ref) (some ((i:Int)+k-bk)) none))) x (.ins t.bA g (dQ "gone_rows" (.ref lg') [("rules",.ref a),("gone_rows",.ref s)])));generalize ag (ag HA lg' (.lst (b9 (d.map V.ref) none (some ((i+e:Nat):Int))++gm.map V.ref++b9 (d.map V.ref) (some ((i:Int)+k-bk)) none))) x (.ins t.bA g (dQ "gone_rows" (.ref lg') [("rules",.ref a),("gone_rows",.ref s)]))=HB at p Z kB;have n:af H9 HA:=Y;have hmB:=kB _ _ (n _ _ X) (bL X D);have sB:af (hid (λc=>S c\/c=x) H9) (hid (λc=>(S c\/c=x)\/c=lg') HB):=λb o f=>by
  have nb:=bI (S:=λc=>S c\/c=x) f;have r:=n _ _ (aq _ _ f);refine aT (kB b o r (λz=>nb (.inr z))) λz=>?_;rcases z with z|z
  .exact nb z
  .exact au r F z
 have hE:Ex (λc=>(S c\/c=x)\/c=lg') HB:=λb f=>by
  rcases f with (z|z)|z
  .obtain⟨o,ho⟩:=(((O.ae j).ae u).ae n) b z;exact⟨o,kB b o ho (λy=>hxS (y▸z))⟩
  .exact z▸⟨_,p⟩
  .exact z▸⟨_,Z⟩
 have hR9:IsRules t (hid (λc=>S c\/c=x) H9) a ms:=hR6.ae (aJ u);have hG9:bf (fC t (hid (λc=>S c\/c=x) H9)) d Gs:=hA6.mono λ_ _ z=>z.ae (aJ u);have hGG:bf (fC t (hid (λc=>(S c\/c=x)\/c=lg') HB)) (d.take (i+e)++gm++d.drop (i+k-bk)) (Gs.take (i+e)++Gm++Gs.drop (i+k-bk)) :=
  (((hG9.take (i+e)).append hA9).append (hG9.drop (i+k-bk))).mono λ_ _ z=>z.ae sB
 refine av (aQ (aK bh (ez aD T.bD (bQ kH)) (bw br T.aL T.Yk (Uc T) hr.m T.PZ.b2 .nil aH (bQ (aK bh jO (ez aD T.bD (bQ kH))))))) ⟨_,_,rfl,.inl (aV.of hmB),?_⟩;refine⟨p,rfl,_,_,rfl,.inl (aV.of hmB),x,g,a,lg',_,λc=>(S c\/c=x)\/c=lg',ms,_,Gs',i+e+Gm.length,c,by rw[z2];rfl,p,hR9.ae sB,GM_,Z,.inr rfl,hGG,hE,by rw[i5,i5,v6,B2];lia,C.on,λgs2 HC h1 h2 a2=>?_⟩
 refine⟨?_⟩;have:=q lg' gs2 HC ⟨aT (a2 _ _ p hxl) hxS,(hR9.ae sB).ae (λb o f=>aT (a2 _ _ (aq _ _ f) (λz=>bI f (.inr z))) (λz=>bI f (.inl (.inl z)))),aT h1 ((((O.ae j).ae u).ae n).new F),h2.mono λ_ _ z=>z.ae (ug λc hc=>.inl (.inl hc))⟩ ?_ ?_
 .rw[Int.natCast_add,<- z2] at this;exact this
 .exact((j.trans u).trans n).free F
 .intro b o f nb;have r:=((j.trans u).trans n) _ _ f;exact a2 _ _ (kB _ _ r nb) (au r F)
def rq.one(h:rq ms G)(h':rq ms G')(e1:G.bb=G'.bb)(e2:G.ce=G'.ce):G=G':=by
 obtain⟨n,_,g⟩:=h.go;obtain⟨m,_,a⟩:=h'.go;rw[<- e1,<- e2] at a;have y:=mO (Nat.le_max_right n m) a;rw[(mO (Nat.le_max_left n m) g)] at y;injection y with y
 cases G;cases G';simp_all
theorem Chain.one:∀{b:c7} {rs:a9} {Gs Gs':List bC},Chain ms b rs Gs->Chain ms b rs Gs'->Gs=Gs'
 |_,[],[],[],_,_=>rfl
 |b,r::rs,G::Gs,G'::Gs',h,h'=>by have e:=h.2.2.1.one h'.2.2.1 (h.1.trans h'.1.symm) (h.2.1.trans h'.2.1.symm);subst e;rw[Chain.one h.2.2.2 h'.2.2.2]
 |_,[],[],_::_,_,h=>h.elim
 |_,[],_::_,_,h,_=>h.elim
 |_,_::_,[],_,h,_=>h.elim
 |_,_::_,_::_,[],_,h=>h.elim
theorem Chain.split:∀{b:c7} {rs:a9} {Gs:List bC} (n:Nat),Chain ms b rs Gs->Chain ms b (rs.take n) (Gs.take n)/\Chain ms (ki b (Gs.take n)) (rs.drop n) (Gs.drop n)
 |_,rs,Gs,0,h=>⟨by rw[List.take_zero,List.take_zero];trivial,h⟩
 |_,[],[],n+1,h=>⟨trivial,trivial⟩
 |b,r::rs,G::Gs,n+1,h=>by obtain⟨h1,h2,h3,h4⟩:=h;obtain⟨a,c⟩:=Chain.split n h4;exact⟨⟨h1,h2,h3,a⟩,c⟩
 |_,[],_::_,_+1,h=>h.elim
 |_,_::_,[],_+1,h=>h.elim
def Chain.at(h:Chain ms b rs Gs)(hG:Gs[j]?=some G):rs[j]?=some G.bb/\G.ce=ki b (Gs.take j)/\rq ms G:=by
 have k:=(h.split j).2;rw[gH hG] at k;cases e:rs.drop j with
 |nil=>rw[e] at k;exact k.elim
 |cons r t =>
  rw[e] at k;refine⟨?_,k.2.1,k.2.2.1⟩;have:=ac7 (λl=>l[0]?) e;simp only[ab6,Nat.add_zero,af6] at this;rw[this,k.1]
noncomputable def gC:List bC->List bC->Nat
 |A::As,B::Bs=>if A.ce=B.ce then 0 else gC As Bs+1
 |_,_=>0
theorem Cj:∀(As Bs:List bC),gC As Bs<=As.length/\gC As Bs<=Bs.length
 | [],_=>⟨Z9 _,Z9 _⟩
 |_::_,[]=>⟨Z9 _,Z9 _⟩
 |A::As,B::Bs=>by
  have h:=Cj As Bs;rw[gC];by_cases e:A.ce=B.ce
  .rw[w4 e];exact⟨Z9 _,Z9 _⟩
  .rw[C5 e,P3,P3];lia
theorem BO:∀{As Bs:List bC} {j:Nat} {A B:bC},j<gC As Bs->As[j]?=some A->Bs[j]?=some B->A.ce≠B.ce
 |A::As,B::Bs,0,A',B',h,h1,h2=>by cases h1;cases h2;rw[gC] at h;intro e;rw[w4 e] at h;exact ah0 _ h
 |A::As,B::Bs,j+1,A',B',h,h1,h2=>by
  rw[gC] at h;by_cases e:A.ce=B.ce
  .rw[w4 e] at h;exact absurd h (Nat.not_lt_zero _)
  .rw[C5 e] at h;exact BO (As:=As) (Bs:=Bs) (j:=j) (by lia) (by simpa using h1) (by simpa using h2)
 | [],_,j,_,_,h,_,_=>by rw[gC] at h;exact absurd h (Nat.not_lt_zero _);intros;simp_all
 |_::_,[],j,_,_,h,_,_=>by rw[gC] at h;exact absurd h (Nat.not_lt_zero _);intros;simp_all
theorem wL:∀{As Bs:List bC} {A B:bC},As[gC As Bs]?=some A->Bs[gC As Bs]?=some B->A.ce=B.ce
 |A::As,B::Bs,A',B',h1,h2=>by
  rw[gC] at h1 h2;by_cases e:A.ce=B.ce
  .rw[w4 e] at h1 h2;cases h1;cases h2;exact e
  .rw[C5 e] at h1 h2;exact wL (As:=As) (Bs:=Bs) (by simpa using h1) (by simpa using h2)
 | [],_,_,_,h1,_=>by simp at h1
 |_::_,[],_,_,_,h2=>by simp at h2
def DL(hA:Chain ms b rs As)(hB:Chain ms b' rs Bs):As.drop (gC As Bs)=Bs.drop (gC As Bs):=by
 have h:=hA.len;have i:=hB.len;by_cases f:gC As Bs<As.length
 .obtain⟨A,a⟩:∃A,As[gC As Bs]?=some A:=⟨_,i4 f⟩
  obtain⟨B,c⟩:∃B,Bs[gC As Bs]?=some B:=⟨_,i4 (by lia)⟩
  have e:=wL a c;rw[(hA.at a).2.1,(hB.at c).2.1] at e;have d:=(hA.split (gC As Bs)).2;have g:=(hB.split (gC As Bs)).2;rw[e] at d;exact d.one g
 .rw[ai0 (by lia),ai0 (by lia)]
def Zn(h:i+k<=g)(e:g'=i+f+(g-(i+k)))(hf:b<=f)(hk:b<=k):g'-(i+f-b)=g-(i+k-b):=by lia
def Ze(h:i+k<=g)(e:g'=i+f+(g-(i+k)))(hf:b<=f)(hk:b<=k):g'=i+f-b+(g-(i+k-b)):=by lia
def ar2{a b k:Nat}(h:a+b<=k):a+(k-a-b)=k-b:=by lia
def ar3:i+k-b-i=k-b:=by lia
def ar4(h:a+b<=f):i+a+(f-b-a)=i+f-b:=by lia
def ar5(h:a+b<=f)(h2:i+f<=n):min (f-b-a) (n-(i+a))=f-b-a:=by lia
def zZ(hC:Chain ms [0] rs Gs)(hle:i+k<=rs.length)(hC':Chain ms [0] (rs.take i++fs++rs.drop (i+k)) Gs') :
  ∃ah bk Gm c,iL ms Gs i k fs ah bk Gm c Gs'/\ah=cN ((rs.drop i).take k) fs/\bk=cN (((rs.drop i).take k).drop ah).reverse (fs.drop ah).reverse/\Gm.length=fs.length-bk-ah/\c=gC (Gs'.drop (i+fs.length-bk)) (Gs.drop (i+k-bk))/\ah+bk<=k/\ah+bk<=fs.length:=by
 have hr:=hC.rows;have hl:=hC.len;have n:=hC'.len;obtain⟨b,f⟩:∃b,b=(rs.drop i).take k:=⟨_,rfl⟩
 have s:b.length=k:=by rw[f,v6,B2];lia
 obtain⟨ah,D⟩:∃ah,ah=cN b fs:=⟨_,rfl⟩
 obtain⟨bk,E⟩:∃bk,bk=cN (b.drop ah).reverse (fs.drop ah).reverse:=⟨_,rfl⟩
 have I:=jJ b fs;have a2:=jJ (b.drop ah).reverse (fs.drop ah).reverse;rw[<- D] at I;rw[<- E,ac3,ac3,B2,B2] at a2;have t:ah+bk<=fs.length:=by lia
 have F:ah+bk<=k:=by lia
 have t1:b.take ah=fs.take ah:=D▸oZ b fs
 have t2:(b.drop ah).reverse.take bk=(fs.drop ah).reverse.take bk:=E▸oZ _ _
 have t3:b.drop (k-bk)=fs.drop (fs.length-bk):=by have:=ac7 List.reverse t2;rw[List.reverse_take,List.reverse_take,List.reverse_reverse,List.reverse_reverse,ac3,ac3,B2,B2,ak2,ak2,s] at this;rw[show ah+(k-ah-bk)=k-bk from ar2 F,show ah+(fs.length-ah-bk)=fs.length-bk from ar2 t] at this;exact this
 have L:rs.drop i=b++rs.drop (i+k):=by rw[f,<- ak2,ad8]
 have u:rs=rs.take i++(b++rs.drop (i+k)):=by rw[<- L,ad8]
 have a:(rs.take i).length=i:=by rw[v6];lia
 have e1:(rs.take i++fs++rs.drop (i+k)).take (i+ah)=rs.take (i+ah):=by
  conv=>rhs;rw[u]
  rw[ac0];conv=>lhs;rw[List.take_append,a,ac1 (by rw[a];lia),show i+ah-i=ah by lia,ae8 I.2]
  conv=>rhs;rw[List.take_append,a,ac1 (by rw[a];lia),show i+ah-i=ah by lia,ae8 (by lia)]
  rw[t1]
 have e2:(rs.take i++fs++rs.drop (i+k)).drop (i+fs.length-bk)=rs.drop (i+k-bk):=by
  conv=>rhs;rw[u]
  rw[ac0];conv=>lhs;rw[List.drop_append,a,ak5 (by rw[a];lia),show i+fs.length-bk-i=fs.length-bk from ar3,ak0 (by lia)]
  conv=>rhs;rw[List.drop_append,a,ak5 (by rw[a];lia),show i+k-bk-i=k-bk from ar3,ak0 (s▸Nat.sub_le _ _)]
  rw[t3]
 have e3:((rs.take i++fs++rs.drop (i+k)).drop (i+ah)).take (fs.length-bk-ah)=(fs.drop ah).take (fs.length-bk-ah):=by rw[ac0,List.drop_append,a,ak5 (by rw[a];exact ae4 _ _),show i+ah-i=ah from aj7 ..,ak0 I.2,ao4,ae8 (by rw[B2];lia)]
 obtain⟨p1,p2⟩:=hC.split (i+ah);obtain⟨v,M⟩:=hC'.split (i+ah);rw[e1] at v;have T:=p1.one v;obtain⟨U,_⟩:=M.split (fs.length-bk-ah);rw[e3,<- T] at U;obtain⟨_,W⟩:=hC.split (i+k-bk);obtain⟨_,o⟩:=hC'.split (i+fs.length-bk);rw[e2] at o;have N:(rs.take i++fs++rs.drop (i+k)).length=i+fs.length+(rs.length-(i+k)):=by rw[i5,i5,a,B2]
 rw[N] at n;have O:((Gs'.drop (i+ah)).take (fs.length-bk-ah)).length=fs.length-bk-ah:=by rw[v6,B2];exact ar5 t (n▸ae4 _ _)
 have P:i+ah+(fs.length-bk-ah)=i+fs.length-bk:=ar4 t;have lt:(Gs.take (i+ah)).length=i+ah:=v6▸ad9 (by rw[hl];exact (ac2 (an7 (ac2 (ae4 _ _) F) i) hle))
 have lG1:(Gs.take (i+ah)++(Gs'.drop (i+ah)).take (fs.length-bk-ah)).length=i+fs.length-bk:=by rw[i5,O,lt];exact P
 have Q:Gs.take (i+ah)++(Gs'.drop (i+ah)).take (fs.length-bk-ah)=Gs'.take (i+fs.length-bk):=by rw[T,<- P];exact List.take_add.symm
 have dl:=Cj (Gs'.drop (i+fs.length-bk)) (Gs.drop (i+k-bk));rw[B2,B2] at dl;refine⟨ah,bk,(Gs'.drop (i+ah)).take (fs.length-bk-ah),_,⟨hl▸hle,by rw[hr,<- f];exact D,by rw[hr,<- f];exact E,U,?_⟩,f▸D,f▸E,O,rfl,F,t⟩;rw[O,P,Q];have h:i+k<=Gs.length:=hl▸hle
 have w:Gs'.length=i+fs.length+(Gs.length-(i+k)):=hl▸n
 have x:=ac2 (Nat.le_add_left _ _) t;have y:=ac2 (Nat.le_add_left _ _) F;have g:=Ze h w x y;have r:(Gs'.take (i+fs.length-bk)).length=i+fs.length-bk:=v6▸ad9 (by rw[g];exact ae4 _ _)
 refine⟨by rw[i5,r,B2];first | exact g | exact g.symm | lia,by rw[i5,r,B2];first | exact g | exact g.symm | lia,λj X=>by rw[aa2 (by lia),ao1,w4 X],λj X=>by rw[U2 (by lia),r];have:=ac7 (λl=>l[j-(i+fs.length-bk)-gC (Gs'.drop (i+fs.length-bk)) (Gs.drop (i+k-bk))]?) (DL o W);simp only[ab6] at this;rw[ab6];rw[show i+fs.length-bk+(gC (Gs'.drop (i+fs.length-bk)) (Gs.drop (i+k-bk))+(j-(i+fs.length-bk)-gC (Gs'.drop (i+fs.length-bk)) (Gs.drop (i+k-bk))))=j by lia] at this;rw[this];congr 1;lia,λj h1 h2=>?_,λG S=>?_⟩
 .obtain⟨d,rfl⟩:∃d,j=i+fs.length-bk+d:=⟨j-(i+fs.length-bk),by lia⟩
  obtain⟨A,p⟩:∃A,Gs'[i+fs.length-bk+d]?=some A:=⟨_,i4 (by lia)⟩
  obtain⟨B,hB⟩:∃B,Gs[i+k-bk+d]?=some B:=⟨_,i4 (by lia)⟩
  have C:(Gs'.drop (i+fs.length-bk))[d]?=some A:=ab6▸p
  have q:(Gs.drop (i+k-bk))[d]?=some B:=ab6▸hB
  obtain⟨x1,Y,x3⟩:=hC'.at p;obtain⟨y1,_,_⟩:=W.at q;obtain⟨H,_,_⟩:=o.at C;refine⟨B,A,by rw[U2 (by rw[r];exact ae4 _ _),r,aj7];exact q,p,?_,Y,by rw[<- Y];exact λz=>BO (by lia) C q z.symm,x3⟩
  .rw[y1] at H;injection H with H
   exact H.symm
 .rw[U2 (by lia),r,aj7] at S;have Z:=(d6.mp S).1;rw[B2] at Z;obtain⟨A,p⟩:∃A,(Gs'.drop (i+fs.length-bk))[gC (Gs'.drop (i+fs.length-bk)) (Gs.drop (i+k-bk))]?=some A:=⟨_,i4 (by rw[B2,(Zn h w x y)];exact Z)⟩
  have e:=wL p S;rw[ab6] at p;rw[<- e];exact(hC'.at p).2.1
def yq(x:Str)(n:Nat):(Txt.slice x none (some (n:Int))).l=x.l.take n:=by
 by_cases h:n<=x.length
 .have:=an0 (PyProof.Rows.slice_closes_toL (x:=x) (j:=(n:Int)) (by lia) (by lia));rw[this];simp
 .have e:Txt.slice x none (some (n:Int))=Txt.slice x none (some (x.length:Int)):=by
   have a:Builtin.Str.strSliceIndices none (some (n:Int)) 1 x.length=Builtin.Str.strSliceIndices none (some (x.length:Int)) 1 x.length:=by
    have b:¬((n:Int)<0):=by lia
    have c:¬((x.length:Int)<0):=by lia
    have d:(1:Int)>0:=by decide
    have f:(x.length:Int)<=n:=by lia
    simp only[Builtin.Str.strSliceIndices,b,c,d,ao9,if_true,Int.min_eq_right f,Int.min_self]
   unfold Txt.slice;rw[a]
  have:=an0 (PyProof.Rows.slice_closes_toL (x:=x) (j:=(x.length:Int)) (by lia) (by lia));rw[ac1 (l:=x.l) (i:=n) (by rw[bV];lia),e,this];show ((x.l.drop (0:Int).toNat).take ((x.length:Int)-0).toNat)=_;exact ac1 (by show x.l.length<=_;rw[bV];lia)
noncomputable def lM(x:Str)(j:Nat)(z:Str):Str:=Txt.slice x none (some (j:Int))++z++Txt.slice x (some (j:Int)) none
noncomputable def qF(x:Str)(j:Nat)(y:Str)(k:Nat):Str:=Txt.slice x none (some (j:Int))++Txt.slice y (some (k:Int)) none
inductive z9(t:eZ)(vs:q7)(H:Hp)(Q:VK)(_:XK):Prop|mk(x dx a lg:Addr)(gs:c6)(ms:List aR)(Gs:List bC)(G:bC)(i j:Nat)(_:vs=[.ref x,.int i,.int j])(_:bJ t H x dx a lg gs ms Gs)(_:Gs[i]?=some G)(_:j<=G.bb.length)(_:G.bb.length<=1000)(_:Q .dj H)
def xh:bE P w K mg ap dJ 2 t.B8 t.IB ["self","row","at"] (z9 t):=by refine T.pK.ok Jq λs H Q E h=>?_;obtain⟨x,b,a,d,f,l,n,G,i,j,rfl,I,c,u,hl,q⟩:=h;room;obtain⟨g,p,r,v,lt,y,z,e⟩:=I.go.at c;refine ak (aY (bw br T.aL T.Jz (Fj T) hr.m T.zf.b2 .nil aH (bQ bP))) ⟨I.ob,rfl,x,b,a,d,f,l,n,i,rfl,I,(d6.mp c).1,?_⟩;refine av (bq (PW.pt (jz (aA fX cG ai (aE _)) (jk (aA j9 cG (ez bz T.bD (bQ (aM (aC aU (aM br rfl) bP) rfl))) (aE _))))) ay ay) ⟨.mk<|dM (λh=>absurd h (by lia)) (λ_=>?_)⟩;exact(⟨I.ob,T.aL,T.aW,rfl,⟨aV.of I.lg,cM p,e.ob,T.cB,T.cU,rfl,_,rfl,bK (by lia),.mk<|.mk<|dM (λh=>absurd h (by lia)) (λ_=>bg q)⟩⟩)
inductive yk(t:eZ)(vs:q7)(H:Hp)(Q:VK)(_:XK):Prop|mk(x dx a lg:Addr)(gs:c6)(ms:List aR)(Gs:List bC)(G G2:bC)(i j i2 j2:Nat)(_:vs=[.ref x,.int i,.int j,.int i2,.int j2])(_:bJ t H x dx a lg gs ms Gs)(_:Gs[i]?=some G)(_:j<=G.bb.length)(_:G.bb.length<=1000)(_:Gs[i2]?=some G2)(_:j2<=G2.bb.length)(_:G2.bb.length<=1000)(_:HT.gY [(i:Int),j] [(i2:Int),j2]=false)(_:∀H',af H H'->Q .dj H')
def SJ:bE P w K mg ap dJ 3 t.B5 t.IY ["self","row","at","row2","at2"] (yk t):=by refine T.BG.ok Il λC H Q E h=>?_;obtain⟨x,b,a,f,g,l,n,G,s,i,j,o,p,rfl,I,u,v,hl,c,d,e,y,q⟩:=h;room;refine ak (aY (bw br T.aL T.t9 (xh T) hr.m T.pK.b3 .nil aH (cy bP cG))) ⟨I.ob,rfl,x,b,a,f,g,l,n,G,i,j,rfl,I,u,v,hl,?_⟩;refine ak (aY (bw br T.aL T.t9 (xh T) hr.m T.pK.b3 .nil aH (cy dh eE))) ⟨I.ob,rfl,x,b,a,f,g,l,n,s,o,p,rfl,I,c,d,e,?_⟩;refine av (bq (aA (nN (aa6 (cS hr))) (bG (cy bP cG)) (bG (cy dh eE)) (aE _)) ay ay) ⟨sL rfl,λz A=>⟨sL rfl,λB r=>⟨z,B,[(i:Int),j],[(o:Int),p],rfl,rfl,bT.of (af.ag r _ _ aa),bT.of aa,.mk ?_⟩⟩⟩;exact y▸mH (bg (q _ ((af.ag A).trans (af.ag r))))
inductive X5(t:eZ)(vs:q7)(H:Hp)(Q:VK)(_:XK):Prop|mk(S:q0)(x dx a lg:Addr)(gs:c6)(ms:List aR)(Gs:List bC)(G:bC)(i j:Nat)(z:Str)(fs:a9)(ah bk:Nat)(Gm:List bC)(c:Nat)(Gs':List bC)(_:vs=[.ref x,.int i,.int j,.str z])(_:Ex S H)(_:bJ t (hid S H) x dx a lg gs ms Gs)(_:eK ms)(_:Gs[i]?=some G)(_:j<=G.bb.length)(_:G.bb.length<=1000)(_:z.length<=1000)(_:Txt.split (lM G.bb j z) (Str.ofString "\n")=fs)(_:Gs.length<=50000)(_:fs.length<=50000)(_:fs≠[])(_:iL ms Gs i 1 fs ah bk Gm c Gs')(_:∀lg' gs' H',bJ t (hid S H') x dx a lg' gs' ms Gs'->H lg'=none->fY H H' x->Q (.int ((Gm.length+c:Nat):Int)) H')
def RG:bE P w K mg ap dJ 9 t.Bt t.HG ["self","row","at","text"] (X5 t):=by
 refine T.CG.ok AM λvs H Q E h=>?_;obtain⟨S,x,d,a,D,F,J,L,G,i,j,z,fs,O,bk,R,c,l,rfl,n,M,r,N,U,hl,hz,s,u,v,y,C,q⟩:=h;room;have I:=M.ae aq;have sz:=ad0;obtain⟨g,W,X,lb,lt,lo,lk,e⟩:=I.go.at N;have b1:=ae6 G.bb none (some (j:Int));have b2:=ae6 G.bb (some (j:Int)) none;refine ak (aY (bw br T.aL T.t9 (xh T) hr.m T.pK.b3 .nil aH (cy bP cG))) ⟨I.ob,rfl,x,d,a,D,F,J,L,G,i,j,rfl,I,N,U,hl,?_⟩;refine ak (b7 4 AM (aM (aC aU (aM br rfl) bP) rfl)) (⟨I.ob,T.aL,T.aW,rfl,⟨aV.of I.lg,cM W,e.ob,T.cB,T.cU,rfl,?_⟩⟩);have l1:(Txt.slice G.bb none (some (j:Int))++z).length<=2000:=by rw[T0];lia
 have l2:(lM G.bb j z).length<=3000:=by unfold lM;rw[T0];lia
 refine av (aQ (bw br T.aL T.Bw (xK T) hr.m T.zx.b4 .nil aH (ao bP (cy ai (cV ae2 ag1 aj8 kM (aK bY (aK bY (bS ko eE cP (bO cG)) dh) (bS ko eE (bO cG) cP)) (bQ aZ)))))) ⟨I.ob,rfl,(by lia),_,_,rfl,rfl,(by lia),(by lia),_,_,rfl,rfl,(by lia),rfl,lM G.bb j z,Str.ofString "\n",rfl,rfl,rfl,(by lia),λp Y=>?_⟩;rw[s];have f:af H (ag H p (.lst (fs.map V.str))):=af.ag Y;exact⟨S,x,d,a,D,p,F,J,L,i,1,fs,O,bk,R,c,l,rfl,n.ae f,M.ae (aJ f),r,aa,u,v,(λ_=>y),C,λA B Z I' f' a'=>q A B Z I' (f.free f') (λb o hb nb=>a' b o (f _ _ hb) nb)⟩
inductive WY(t:eZ)(vs:q7)(H:Hp)(Q:VK)(_:XK):Prop|mk(S:q0)(x dx a lg:Addr)(gs:c6)(ms:List aR)(Gs:List bC)(G G2:bC)(i j i2 j2:Nat)(ah bk:Nat)(Gm:List bC)(c:Nat)(Gs':List bC)(_:vs=[.ref x,.int i,.int j,.int i2,.int j2])(_:Ex S H)(_:bJ t (hid S H) x dx a lg gs ms Gs)(_:eK ms)(_:Gs[i]?=some G)(_:j<=G.bb.length)(_:G.bb.length<=1000)(_:Gs[i2]?=some G2)(_:j2<=G2.bb.length)(_:G2.bb.length<=1000)(_:HT.gY [(i:Int),j] [(i2:Int),j2]=false)(_:i<=i2)(_:Gs.length<=50000)(_:iL ms Gs i (i2-i+1) [qF G.bb j G2.bb j2] ah bk Gm c Gs')(_:∀lg' gs' H',bJ t (hid S H') x dx a lg' gs' ms Gs'->H lg'=none->fY H H' x->Q (.int ((Gm.length+c:Nat):Int)) H')
def S3:bE P w K mg ap dJ 9 t.Ce t.El ["self","row","at","row2","at2"] (WY t):=by
 refine T.BP.ok AZ λvs H Q E h=>?_;obtain⟨S,x,s,a,N,O,R,U,G,l,i,j,n,f,ah,bk,Gm,c,v,rfl,y,W,z,X,hj,hl,r,A,B,hx,hii,D,C,q⟩:=h;room;have I:=W.ae aq;have sz:=ad0;refine ak (aY (bw br T.aL T.PB (SJ T) hr.m T.BG.b5 .nil aH (ao bP (ao cG (cy dh eE))))) ⟨I.ob,rfl,x,s,a,N,O,R,U,G,l,i,j,n,f,rfl,I,X,hj,hl,r,A,B,hx,λY Z=>?_⟩;have d:=I.ae Z;obtain⟨g,hg,dg,lb,lt,lo,lk,e⟩:=d.go.at X;obtain⟨g2,F,J,lb2,OA,lo2,lk2,e2⟩:=d.go.at r;have b1:=ae6 G.bb none (some (j:Int));have b2:=ae6 l.bb (some (f:Int)) none;refine ak (b7 5 AZ (aK bY (bS ko (aM (aC aU (aM br rfl) bP) rfl) cP (bO cG)) (bS ko (aM (aC aU (aM br rfl) dh) rfl) (bO eE) cP))) (⟨d.ob,T.aL,T.aW,rfl,⟨aV.of d.lg,cM hg,e.ob,T.cB,T.cU,rfl,(by lia),⟨d.ob,T.aL,T.aW,rfl,⟨aV.of d.lg,cM F,e2.ob,T.cB,T.cU,rfl,(by lia),_,_,rfl,rfl,(by lia),?_⟩⟩⟩⟩);show At _ _ _ [ρ x,ι i,ι j,ι n,ι f,τ (qF G.bb j l.bb f)] Y;refine av (aQ (bw br T.aL T.Bw (xK T) hr.m T.zx.b4 .nil aH (ao bP (cy (aK bh (aK cQ dh bP) ai) (bM (bQ gX)))))) ⟨d.ob,rfl,sL rfl,λp fp=>?_⟩;have u:af H (ag Y p (.lst [.str (qF G.bb j l.bb f)])):=Z.trans (af.ag fp);have ek:((n:Int)-i+1)=((n-i+1:Nat):Int):=by lia
 refine⟨S,x,s,a,N,p,O,R,U,i,n-i+1,[qF G.bb j l.bb f],ah,bk,Gm,c,v,?_,y.ae u,W.ae (aJ u),z,aa,D,(show 1<=50000 by decide),(λ_=>by simp),C,λL M H' I' f' a'=>q L M H' I' (u.free f') (λb o hb nb=>a' b o (u _ _ hb) nb)⟩;rw[<- ek];rfl
def sE(x:Str)(i:Nat)(hi:i<=x.length):(Txt.slice x (some (i:Int)) none).l=x.l.drop i:=by have:=an0 (PyProof.Rows.slice_closes_fromL (x:=x) (i:=(i:Int)) (b:=(x.length:Int)) (by lia) (by lia) rfl);rw[this];show (x.l.drop (i:Int).toNat).take ((x.length:Int)-i).toNat=_;rw[ab9,ac1 (by rw[B2,bV];lia)]
def qc(h:j<=x.length):(lM x j z).l=x.l.take j++z.l++x.l.drop j:=by unfold lM;rw[dF,dF,yq,sE _ _ h]
def BJ(h:k<=y.length):(qF x j y k).l=x.l.take j++y.l.drop k:=by unfold qF;rw[dF,yq,sE _ _ h]
noncomputable def abX(A:List c7):c7:=A.flatMap λr=>r++[10]
noncomputable def Mj(B:List c7):c7:=B.flatMap λr=>10::r
def tU(h:F≠[]):d9 10 (x::F)=x++10::d9 10 F:=by
 cases F with
 |nil=>exact absurd rfl h
 |cons y r=>rfl
theorem aci(h:F≠[]):∀(A:List c7),d9 10 (A++F)=abX A++d9 10 F
 | []=>rfl
 |a::A=>by have e:abX (a::A)=a++[10]++abX A:=rfl;rw[List.cons_append,tU (by simp[h]),aci h A,e];simp
theorem vh:∀(x:c7) (B:List c7),d9 10 (x::B)=x++Mj B
 |x,[]=>by simp[d9,Mj]
 |x,b::B=>by have e:Mj (b::B)=10::b++Mj B:=rfl;rw[tU (by simp),vh b B,e];rfl
theorem acq:∀(F B:List c7),F≠[]->d9 10 (F++B)=d9 10 F++Mj B
 | [],_,h=>absurd rfl h
 | [x],B,_=>by rw[List.singleton_append,vh];rfl
 |x::y::F,B,_=>by have ih:=acq (y::F) B (by simp);have b:d9 10 (x::(y::F))=x++10::d9 10 (y::F):=tU (by simp);show d9 10 (x::((y::F)++B))=d9 10 (x::(y::F))++Mj B;rw[(tU (by simp)),ih,b,ac0,List.cons_append]
def abi{A F B:List c7}(h:F≠[]):d9 10 (A++F++B)=abX A++d9 10 F++Mj B:=by rw[ac0,aci (by simp[h]),acq F B h,ac0]
noncomputable def cu:c7->List c7
 | []=>[[]]
 |c::r=>if c=10 then []::cu r else match cu r with
  | []=>[[c]]
  |x::xs=>(c::x)::xs
theorem i7:∀l:c7,cu l≠[]
 | []=>by simp[cu]
 |c::r=>by
  rw[cu];by_cases h:c=10
  .rw[w4 h];simp
  .rw[C5 h];cases cu r with
   |nil=>simp
   |cons x xs=>simp
theorem q9:∀l:c7,d9 10 (cu l)=l
 | []=>rfl
 |c::r=>by
  have ih:=q9 r;rw[cu];by_cases h:c=10
  .rw[w4 h,tU (i7 r),ih,h];rfl
  .rw[C5 h];cases e:cu r with
   |nil=>exact absurd e (i7 r)
   |cons x xs =>
    rw[e] at ih;show d9 10 ((c::x)::xs)=_;rw[vh] at ih ⊢;rw[<- ih];rfl
theorem uz:∀(l:c7),∀x∈cu l,∀c∈x,c∈l/\c≠10
 | [],x,hx,c,hc=>by rw[cu,B1] at hx;rw[hx] at hc;cases hc
 |d::r,x,hx,c,hc=>by
  have ih:=uz r;rw[cu] at hx;by_cases h:d=10
  .rw[w4 h] at hx;rcases Z5.mp hx with z|z
   .rw[z] at hc;cases hc
   .have:=ih x z c hc;exact⟨Q1 _ this.1,this.2⟩
  .rw[C5 h] at hx;cases e:cu r with
   |nil=>exact absurd e (i7 r)
   |cons y ys =>
    rw[e] at hx ih;rcases Z5.mp hx with z|z
    .rw[z] at hc;rcases Z5.mp hc with w|w
     .rw[w];exact⟨by simp,h⟩
     .have:=ih y (by simp) c w;exact⟨Q1 _ this.1,this.2⟩
    .have:=ih x (Q1 _ z) c hc;exact⟨Q1 _ this.1,this.2⟩
theorem lP:∀l:c7,(cu l).length=l.count 10+1/\((cu l).map List.length).sum+l.count 10=l.length
 | []=>⟨rfl,rfl⟩
 |c::r=>by
  obtain⟨i1,i2⟩:=lP r;rw[cu];by_cases h:c=10
  .subst h;rw[w4 rfl,List.count_cons_self,P3,ab5,am3,P3,ac6];lia
  .rw[C5 h,List.count_cons_of_ne h];cases e:cu r with
   |nil=>exact absurd e (i7 r)
   |cons x xs =>
    rw[e] at i1 i2;show ((c::x)::xs).length=_/\(((c::x)::xs).map List.length).sum+_=_;rw[P3] at i1 ⊢;rw[ab5,am3] at i2 ⊢;rw[P3,P3];lia
def mK(s:Str):a9:=(cu s.l).map λl=>⟨l.toArray⟩
def kK(s:Str):(mK s).map (λp=>p.l)=cu s.l:=by unfold mK;rw[ag3];exact List.map_id'' (λ_=>rfl) _
def tN(s:Str):mK s≠[]:=by unfold mK;intro z;exact i7 _ (ah7.mp z)
def Br(h:x∈mK s):∀c∈x.l,c∈s.l/\c≠10:=λc a=>by have:x.l∈(mK s).map (λp=>p.l):=List.mem_map_of_mem h;rw[kK] at this;exact uz _ _ this c a
def Yc:Str.ofString "\n" = ⟨#[10]⟩:=by lk
def G6  {ps:a9} (hn:ps≠[]) (hf:∀p∈ps,10∉p.l) (e:s.l=d9 10 (ps.map λp=>p.l)):Txt.split s (Str.ofString "\n")=ps:=by have:s=Str.join ⟨#[10]⟩ ps:=i8 (by rw[fZ];exact e);exact this▸Yc▸pe hn hf
def nK (s:Str):Txt.split s (Str.ofString "\n")=mK s:=G6 (tN s) (λp a z=>(Br a 10 z).2 rfl) (by rw[kK,q9])
def TU(rs:a9):Prop:=∀x∈rs,10∉x.l
noncomputable def jc(rs:a9)(i j:Nat):Nat:=((rs.take i).map λr=>r.length+1).sum+j
abbrev Zt(rs:a9):List c7:=rs.map λp=>p.l
theorem aby:∀A:a9,(abX (Zt A)).length=(A.map λr=>r.length+1).sum
 | []=>rfl
 |a::A=>by have e:abX (Zt (a::A))=a.l++[10]++abX (Zt A):=rfl;rw[e,i5,aby A,ab5,am3,i5,bV];rfl
def abH(h:rs[i]?=some r):d9 10 (Zt rs)=abX (Zt (rs.take i))++r.l++Mj (Zt (rs.drop (i+1))):=by
 have e:rs=rs.take i++[r]++rs.drop (i+1):=by rw[ac0,List.singleton_append,<- gH h,ad8]
 conv=>lhs;rw[e]
 unfold Zt;rw[o0,o0,abi (by simp)];rfl
def abM(h:rs[i]?=some r)(hj:j<=r.length):(d9 10 (Zt rs)).take (jc rs i j)=abX (Zt (rs.take i))++r.l.take j:=by rw[abH h,ac0,jc,<- aby,List.take_length_add_append,ae8 (by rw[bV];exact hj)]
def abz(h:rs[i]?=some r)(hj:j<=r.length):(d9 10 (Zt rs)).drop (jc rs i j)=r.l.drop j++Mj (Zt (rs.drop (i+1))):=by rw[abH h,ac0,jc,<- aby,List.drop_length_add_append,ak0 (by rw[bV];exact hj)]
def abv(h:rs[i]?=some r)(hj:j<=r.length):jc rs i j<=(d9 10 (Zt rs)).length:=by rw[abH h,i5,i5,aby,bV,jc];lia
def fG(rs:a9)(i j:Nat)(r z:Str):a9:=rs.take i++mK (lM r j z)++rs.drop (i+1)
def jx(rs:a9)(i j i2 j2:Nat)(r r2:Str):a9:=rs.take i++[qF r j r2 j2]++rs.drop (i2+1)
def aeD{r w:Str}(hr:rs[i]?=some r)(hj:j<=r.length)(hN:TU rs)(hw:w.l=d9 10 (Zt rs)) :
  PySem.Txt.split (PySem.Txt.slice w none (some (jc rs i j:Int))++z++PySem.Txt.slice w (some (jc rs i j:Int)) none) (Str.ofString "\n")=fG rs i j r z:=by
 have hl:=abv hr hj;have b:w.length=(d9 10 (Zt rs)).length:=by rw[<- bV,hw]
 refine G6 (by unfold fG;simp[tN]) (λp a=>?_) ?_
 .unfold fG at a;rcases X1.mp a with a|a
  .rcases X1.mp a with a|a
   .exact hN p (ae5 a)
   .exact λy=>(Br a 10 y).2 rfl
  .exact hN p (ag0 a)
 .rw[dF,dF,yq,sE _ _ (by lia),hw,abM hr hj,abz hr hj];unfold fG;rw[o0,o0,abi (by intro y;exact tN _ (List.map_eq_nil_iff.mp y)),kK,q9,qc hj];simp[Zt]
def aew{r w:Str}(hr:rs[i]?=some r)(hj:j<=r.length)(hr2:rs[i2]?=some r2)(hj2:j2<=r2.length)(hN:TU rs)(hw:w.l=d9 10 (Zt rs)) :
  PySem.Txt.split (PySem.Txt.slice w none (some (jc rs i j:Int))++PySem.Txt.slice w (some (jc rs i2 j2:Int)) none) (Str.ofString "\n")=jx rs i j i2 j2 r r2:=by
 have c:=abv hr2 hj2;have d:w.length=(d9 10 (Zt rs)).length:=by rw[<- bV,hw]
 have b:=BJ (x:=r) (y:=r2) (j:=j) (k:=j2) hj2;refine G6 (by unfold jx;simp) (λp a=>?_) ?_
 .unfold jx at a;rcases X1.mp a with a|a
  .rcases X1.mp a with a|a
   .exact hN p (ae5 a)
   .rw[B1.mp a,b];intro y;rcases X1.mp y with y|y
    .exact hN r (p0 hr) (ae5 y)
    .exact hN r2 (p0 hr2) (ag0 y)
  .exact hN p (ag0 a)
 .rw[dF,yq,sE _ _ (by lia),hw,abM hr hj,abz hr2 hj2];unfold jx;rw[o0,o0,abi (by simp)];show _=abX (Zt (rs.take i))++(qF r j r2 j2).l++Mj (Zt (rs.drop (i2+1)));rw[b];simp
noncomputable def tot(rs:a9):Nat:=(rs.map λr=>r.length).sum
def k9(a b:a9):tot (a++b)=tot a+tot b:=by unfold tot;rw[o0,al6]
def kY(a:Str)(b:a9):tot (a::b)=a.length+tot b:=by unfold tot;rw[ab5,am3]
theorem nQ:∀{rs:a9} {r:Str},r∈rs->r.length<=tot rs
 |a::b,r,h=>by
  rw[kY];rcases Z5.mp h with h|h
  .rw[h];lia
  .have:=nQ h;lia
def Df(rs:a9):tot rs=((Zt rs).map List.length).sum:=by unfold tot Zt;rw[ag3];exact ac7 List.sum (an5 λx _=>(bV x).symm)
def n8(s:Str):(mK s).length=s.l.count 10+1/\tot (mK s)+s.l.count 10=s.length:=by
 have a:(mK s).length=(cu s.l).length:=by unfold mK;rw[d5]
 rw[Df];unfold Zt;rw[kK,a,<- bV s];exact (lP s.l)
def VR(h:rs[i]?=some r):tot rs=tot (rs.take i)+r.length+tot (rs.drop (i+1)):=by
 have e:rs=rs.take i++[r]++rs.drop (i+1):=by rw[ac0,List.singleton_append,<- gH h,ad8]
 conv=>lhs;rw[e]
 rw[k9,k9];rfl
def xH(hj:j<=x.length)(h:k<=y.length):(qF x j y k).length=j+(y.length-k):=by rw[<- bV,BJ h,i5,v6,B2,bV,bV];lia
def G9  :(Str.ofString "mode " ++ n++Str.ofString " " ++ c:Str)=rowOf cv (.bp n c):=by
 refine i8 ?_;unfold rowOf;rw[fZ,dF,dF,dF];show _=(Str.ofString "mode").l++32::(n.l++32::c.l)
 have a:(Str.ofString "mode ").l=(Str.ofString "mode").l++[32]:=by lk
 have b:(Str.ofString " ").l=[32]:=by lk
 rw[a,b];simp
noncomputable def gQ(m:aR):List Item:=.bp m.name m.bZ::m.bd.map .cb
def itemsOf(ms:List aR):List Item:=ms.flatMap gQ
def jj(a b:List aR):itemsOf (a++b)=itemsOf a++itemsOf b:=by unfold itemsOf;rw[List.flatMap_append]
def jg(m:aR):itemsOf [m]=gQ m:=by unfold itemsOf;simp
def zD(rs:List cz):namesOf (rs.map Item.cb)=[]:=by
 induction rs with
 |nil=>rfl
 |cons r t ih=>show xU (.cb r)++namesOf (t.map Item.cb)=[];rw[ih];rfl
def MY(m:aR):namesOf (gQ m)=[m.name]:=by show xU (.bp m.name m.bZ)++namesOf (m.bd.map Item.cb)=_;rw[zD];rfl
def ji(ms:List aR):namesOf (itemsOf ms)=ms.map (·.name):=by
 induction ms with
 |nil=>rfl
 |cons m r ih =>
  rw[show m::r=[m]++r from rfl,jj,nu,jg,MY,ih];rfl
def rM(rs:List cz):∀(ms:List aR) (m:aR),(rs.map Item.cb).foldl stepI (ms++[m])=ms++[{ m with bd:=m.bd++rs }]:=by
 induction rs with
 |nil=>intro ms m;simp
 |cons r t ih =>
  intro ms m;rw[ab5,al4,show stepI (ms++[m]) (Item.cb r)=j8 r (ms++[m]) from rfl,lQ,ih];simp
def Ic(ms:List aR)(m:aR):(gQ m).foldl stepI ms=ms++[m]:=by rw[gQ,al4];show (m.bd.map Item.cb).foldl stepI (ms++[⟨m.name,m.bZ,[]⟩])=_;rw[rM];simp
def pN(ms:List aR):∀acc:List aR,(itemsOf ms).foldl stepI acc=acc++ms:=by
 induction ms with
 |nil=>intro acc;simp[itemsOf]
 |cons m r ih =>
  intro acc;rw[show m::r=[m]++r from rfl,jj,am2,jg,Ic,ih];simp
def Ag(ms:List aR):foldI (itemsOf ms)=ms:=by have:=pN ms [];simpa [foldI] using this
structure K1(ms:List aR):Prop where
 pos:0<ms.length
 Bg:ms.length<=12
 nd:(ms.map (·.name)).Nodup
 nm:∀m∈ms,isName m.name=true/\isName m.bZ=true
 six:∀m∈ms,m.bd.length<=12
 cb:∀m∈ms,∀R∈m.bd,jB (ms.map (·.name)) R
theorem vO(B:K1 ms):∀n,n<=ms.length->∀(i:Nat) it,(itemsOf (ms.take n))[i]?=some it ->
  (∀nm c,it = .bp nm c->isName nm=true/\isName c=true/\(namesOf ((itemsOf (ms.take n)).take i)).length<12/\nm∉namesOf ((itemsOf (ms.take n)).take i)) /\
  (∀R,it = .cb R->jB (ms.map (·.name)) R/\∃ms' m,foldI ((itemsOf (ms.take n)).take i)=ms'++[m]/\m.bd.length<12)
 |0,_,i,it,h=>by simp[itemsOf] at h
 |n+1,hn,i,it,h=>by
  have hm:=i4 hn;have e:itemsOf (ms.take (n+1))=itemsOf (ms.take n)++gQ ms[n]:=by rw[ae1 hm,jj,jg]
  rw[e] at h ⊢;have b:=ag2 hn;have v:=B.six _ b;have w:=B.Bg;by_cases o:i<(itemsOf (ms.take n)).length
  .rw[aa2 o] at h;rw[ae8 (by lia)];exact vO B n (by lia) i it h
  .rw[U2 (by lia)] at h;rw[show (itemsOf (ms.take n)++gQ ms[n]).take i=itemsOf (ms.take n)++(gQ ms[n]).take (i-(itemsOf (ms.take n)).length) by
    rw[List.take_append,ac1 (by lia)]]
   generalize i-(itemsOf (ms.take n)).length=j at h;cases j with
   |zero =>
    have h:Item.bp ms[n].name ms[n].bZ=it:=by simpa [gQ] using h
    subst h;refine⟨λnm c e=>?_,(λR e=>by cases e)⟩;cases e;obtain⟨p,q⟩:=B.nm _ b;rw[List.take_zero,ad2,ji];refine⟨p,q,by rw[d5,v6];lia,λa=>?_⟩;rw[ac9] at a;have f:=B.nd;obtain⟨j,g⟩:=ab8.mp a;have l:j<n:=by have:=(d6.mp g).1;rw[v6] at this;lia
    rw[af1 l] at g;have r:(ms.map (·.name))[n]?=some ms[n].name:=by rw[v3,hm];rfl
    obtain⟨x,s⟩:=d6.mp g;obtain⟨y,t⟩:=d6.mp r;have:=(List.getElem_inj f).mp (s.trans t.symm);lia
   |succ j =>
    have h:(ms[n].bd.map Item.cb)[j]?=some it:=by simpa [gQ] using h
    rw[v3] at h;obtain⟨z,d,rfl⟩:=D1.mp h;refine⟨(λnm c e=>by cases e),λR e=>?_⟩;cases e;refine⟨B.cb _ b _ (p0 d),ms.take n,⟨ms[n].name,ms[n].bZ,ms[n].bd.take j⟩,by unfold foldI;rw[am2,pN,ao4];have:=Ic (ms.take n) ⟨ms[n].name,ms[n].bZ,ms[n].bd.take j⟩;rw[<- this];congr 1;rw[gQ,gQ,an6,ac9],by show (ms[n].bd.take j).length<12;have u:=(d6.mp d).1;rw[v6];lia⟩
def K1.items(B:K1 ms):ic (itemsOf ms):=by
 have h:=vO B ms.length (N0 _);rw[ab3] at h;refine⟨by intro z;have:=ji ms;rw[z] at this;have hl:=ac7 List.length this;rw[d5] at hl;have:=B.pos;simp[namesOf] at hl;lia,λi n c e=>(h i _ e).1 n c rfl,λi R e=>by rw[ji];exact(h i _ e).2 R rfl⟩
theorem K1.len(B:K1 ms):∀n,n<=ms.length->(itemsOf (ms.take n)).length<=n*13
 |0,_=>by simp[itemsOf]
 |n+1,hn=>by have hm:=i4 hn;have a:=B.len n (by lia);have b:=B.six _ (ag2 hn);rw[ae1 hm,jj,jg,i5,gQ,P3,d5];lia
def K1.VM(B:K1 ms):(itemsOf ms).length<=200:=by have:=B.len ms.length (N0 _);rw[ab3] at this;have:=B.Bg;lia
def K1.good(B:K1 ms):eK ms:=by
 have d:=B.Bg;refine⟨B.pos,by lia,λm a=>⟨by have:=B.six m a;lia,λR b=>?_⟩,λm a R b=>(B.cb m a R b).bB,λm a R b f=>by obtain⟨g,e,h⟩:=(B.cb m a R b).bo f;exact⟨g,e,by rw[d5] at h;exact h⟩⟩
 .have g:=(B.cb m a R b).pat;refine⟨g.bc,?_⟩;by_cases c:ax R.bc
  .rw[g.ZC c];lk
  .exact(g.sg c).2.1
abbrev fwd (d:Str):Prop:=d = "push" \/ d = "into"
def yw(hd:fwd d):cE (cT on d (some g))=g:=by
 unfold cT cE;rcases hd with rfl|rfl
 .rw[w4 rfl,ae7];simp
 .rw[C5 (by decide),w4 rfl,ae7];simp
theorem aaR:∀(n:Nat) (l:c7),l.Nodup->(∀x∈l,x<n)->l.length<=n
 |0,l,_,h=>by
  cases l with
  |nil=>exact N0 _
  |cons x r=>exact absurd (h x (by simp)) (by lia)
 |n+1,l,hd,h=>by
  have h1:=aaR n (l.erase n) (hd.erase n) λx a=>by obtain⟨c,b⟩:=hd.mem_erase_iff.mp a;have:=h x b;lia
  rw[List.length_erase] at h1;split at h1 <;> lia
section
variable {ms:List aR}{bb:Str}
def acm(ms:List aR)(bb:Str)(a b:Nat):Prop:=∃R,lZ ms a bb=some R/\fwd R.bB/\R.bo=some b
def Pth(ms:List aR)(bb:Str):c7->Prop
 | []=>True
 | [_]=>True
 |a::b::r=>acm ms bb a b/\Pth ms bb (b::r)
def Pth.tail(h:Pth ms bb (a::r)):Pth ms bb r:=by
 cases r with
 |nil=>trivial
 |cons b r=>exact h.2
theorem Pth.suffix:∀{A B:c7},Pth ms bb (A++B)->Pth ms bb B
 | [],B,h=>h
 |a::A,B,h=>Pth.suffix (A:=A) (Pth.tail h)
theorem Pth.snoc:∀{l:c7} {z g:Nat},Pth ms bb (l++[z])->acm ms bb z g->Pth ms bb (l++[z]++[g])
 | [],z,g,_,h=>⟨h,trivial⟩
 | [a],z,g,h,h2=>⟨h.1,h2,trivial⟩
 |a::b::l,z,g,h,h2=>⟨h.1,Pth.snoc (l:=b::l) h.2 h2⟩
def aaL(hR:lZ ms (cE on) bb=some R)(hd:fwd R.bB)(hg:R.bo=some g)(hx:g=first\/k8 ms bb first fuel (cT on R.bB R.bo) (ring++[cE on])≠none):k8 ms bb first (fuel+1) on ring≠none:=by
 have a:R.bB ≠ "pop" := by rcases hd with z|z <;> rw[z] <;> decide
 rw[k8,hR];show (if R.bB = "pop" /\ on.length=1/\first≠0 then none else if cE (cT on R.bB R.bo)=first then some (ring++[cE on]) else k8 ms bb first fuel (cT on R.bB R.bo) (ring++[cE on]))≠none;have b:cE (cT on R.bB R.bo)=g:=hg▸yw hd
 rw[C5 (λz=>a z.1),b];by_cases z:g=first
 .rw[w4 z];intro w;cases w
 .rw[C5 z];exact hx.resolve_left z
theorem abm:∀(r:c7) (x z:Nat) (fuel:Nat) (on ring:c7),Pth ms bb (x::r)->(x::r).getLast?=some z->acm ms bb z first->cE on=x->(x::r).length<=fuel->k8 ms bb first fuel on ring≠none
 | [],x,z,fuel,on,ring,_,hl,hz,ht,hf=>by
  cases hl;obtain⟨R,h1,h2,h3⟩:=hz;obtain⟨f,rfl⟩:∃f,fuel=f+1:=⟨fuel-1,by rw[al5] at hf;lia⟩
  exact aaL (ht▸h1) h2 h3 (.inl rfl)
 |y::r,x,z,fuel,on,ring,hp,hl,hz,ht,hf=>by
  obtain⟨⟨R,h1,h2,h3⟩,a⟩:=hp;rw[P3] at hf;obtain⟨f,rfl⟩:∃f,fuel=f+1:=⟨fuel-1,by lia⟩
  refine aaL (ht▸h1) h2 h3 (.inr ?_);exact abm r y z f _ _ a (by rw[List.getLast?_cons_cons] at hl;exact hl) hz (h3▸yw h2) (by lia)
def agc(ms:List aR)(bb:Str):Nat->Nat->Prop
 |0,k=>lZ ms k bb=none
 |m+1,k=>∃g,acm ms bb k g/\agc ms bb m g
def adi(ms:List aR)(bb:Str):Nat->Nat->Prop
 |0,k=>∃R,lZ ms k bb=some R/\R.bB = "pop"
 |m+1,k=>∃g R,lZ ms k bb=some R/\R.bB = "into" /\ R.bo=some g/\adi ms bb m g
def aco {us:c7} :cT (us++[q]) "into" (some g)=us++[g]:=by rw[cT,C5 (by decide),w4 rfl,List.dropLast_concat];rfl
def abJ (us:c7) (k:Nat) (g:Option Nat):cT (us++[k]) "pop" g=if us=[] then [0] else us:=by
 rw[cT,C5 (by decide),C5 (by decide),w4 rfl,List.dropLast_concat];by_cases z:us=[]
 .rw[w4 z,w4 (by rw[z];rfl)]
 .rw[C5 z,C5];have:=ag5.mpr z;rw[i5,al5];lia
def D7 (on:c7) (g:Option Nat):cT on "stay" g=on:=by rw[cT,C5 (by decide),C5 (by decide),C5 (by decide)]
def acN{A B:c7}(h:vis++[k]=A++g::B):(g::B).getLast?=some k:=by
 have e:=ac7 List.getLast? h;rw[List.getLast?_append] at e;cases h2:(g::B).getLast? with
 |none=>rw[List.getLast?_eq_none_iff] at h2;cases h2
 |some z=>rw[List.getLast?_append,h2] at e;simpa using e.symm
theorem acG:∀(m q fuel:Nat) (us ring:c7),adi ms bb m q->us≠[]->cE us=first->m+1<=fuel->k8 ms bb first fuel (us++[q]) ring≠none
 |0,q,fuel,us,ring,⟨R,h1,h2⟩,hne,ht,hf=>by
  obtain⟨f,rfl⟩:∃f,fuel=f+1:=⟨fuel-1,by lia⟩
  have hl:(us++[q]).length≠1:=by have:=ag5.mpr hne;rw[i5,al5];lia
  rw[k8,abb,h1];show (if R.bB = "pop" /\ (us++[q]).length=1/\first≠0 then none else if cE (cT (us++[q]) R.bB R.bo)=first then some _ else k8 ms bb first f (cT (us++[q]) R.bB R.bo) _)≠none;rw[C5 (λz=>hl z.2.1),h2,abJ,C5 hne,w4 ht];intro w;cases w
 |m+1,q,fuel,us,ring,⟨g,R,h1,h2,h3,h4⟩,hne,ht,hf=>by
  obtain⟨f,rfl⟩:∃f,fuel=f+1:=⟨fuel-1,by lia⟩
  refine aaL (by rw[abb];exact h1) (.inr h2) h3 (.inr ?_);rw[h2,h3,aco];exact acG m g f us _ h4 hne ht (by lia)
theorem abo:∀(m q fuel:Nat) (ring:c7),adi ms bb m q->m+1<=fuel->k8 ms bb 0 fuel [q] ring≠none
 |0,q,fuel,ring,⟨R,h1,h2⟩,hf=>by
  obtain⟨f,rfl⟩:∃f,fuel=f+1:=⟨fuel-1,by lia⟩
  rw[k8,show cE [q]=q from rfl,h1];show (if R.bB = "pop" /\ [q].length=1/\(0:Nat)≠0 then none else if cE (cT [q] R.bB R.bo)=0 then some _ else k8 ms bb 0 f (cT [q] R.bB R.bo) _)≠none;rw[C5 (λz=>z.2.2 rfl),h2,show cT [q] "pop" R.bo=[0] from abJ [] q R.bo,w4 (show cE [0]=0 from rfl)];intro w;cases w
 |m+1,q,fuel,ring,⟨g,R,h1,h2,h3,h4⟩,hf=>by
  obtain⟨f,rfl⟩:∃f,fuel=f+1:=⟨fuel-1,by lia⟩
  refine aaL (on:=[q]) h1 (.inr h2) h3 (.inr ?_);have:cT [q] R.bB R.bo=[g]:=by rw[h2,h3];exact aco (us:=[])
  rw[this];exact abo m g f _ h4 (by lia)
def ends(G:eK ms)(hn:∀j,j<ms.length->jD ms j bb=none):∀(f:Nat) (vis:c7) (k:Nat),Pth ms bb (vis++[k])->(vis++[k]).Nodup->(∀x∈vis++[k],x<ms.length)->ms.length<=vis.length+1+f->f+1<=ms.length->∃m,m<=f/\(agc ms bb m k\/adi ms bb m k):=by
 intro f;induction f with
 |zero =>
  intro vis k D v b K F;have E:=b k (by simp);cases hR:lZ ms k bb with
  |none=>exact⟨0,N0 _,.inl hR⟩
  |some R =>
   refine⟨0,N0 _,.inr ⟨R,hR,?_⟩⟩;obtain⟨c,C⟩:R.bB∈ow/\(gW R.bB->∃g,R.bo=some g/\g<ms.length):=by
    obtain⟨m,s⟩:∃m,ms[k]?=some m:=⟨ms[k],i4 E⟩
    have hid:lZ ms k bb=jK m.bd bb:=by rw[lZ,s];rfl
    rw[hid] at hR;exact⟨G.bB m (p0 s) R (ze hR),G.bo m (p0 s) R (ze hR)⟩
   have c:= by simpa using c
   have u:¬fwd R.bB:=λl=>by
    obtain⟨g,n,o⟩:=C l;have t:acm ms bb k g:=⟨R,hR,l,n⟩
    by_cases a:g∈vis++[k]
    .obtain⟨A,B,d⟩:=List.append_of_mem a;rw[d] at D v;have i:=acN d;have H:=aaR _ _ (af3.mp v).2.1 λx p=>b x (by rw[d];exact Z2 _ p);exact abm B g k ms.length [g] [] (Pth.suffix D) i t rfl H (hn g o)
    .have:=aaR ms.length (vis++[k]++[g]) (af3.mpr ⟨v,by simp,λx p y I e=>a (by rw[B1.mp I] at e;rw[<- e];exact p)⟩) λx p=>by
      rcases X1.mp p with z|z
      .exact b x z
      .rw[B1.mp z];exact o
     rw[i5,i5,al5,al5] at this;lia
   rcases c with z|z|z|z
   .exfalso;have:=hn k E;rw[jD] at this;obtain⟨q,r⟩:∃q,ms.length=q+1:=⟨ms.length-1,by lia⟩
    rw[r,k8,show cE [k]=k from rfl,hR] at this;have this:(if R.bB = "pop" /\ [k].length=1/\k≠0 then none else if cE (cT [k] R.bB R.bo)=k then some ([]++[k]) else k8 ms bb k q (cT [k] R.bB R.bo) ([]++[k]))=none:=this;rw[C5 (λw=>by rw[z] at w;exact absurd w.1 (by decide)),z,D7,w4 (show cE [k]=k from rfl)] at this;cases this
   .exact absurd (.inl z) u
   .exact z
   .exact absurd (.inr z) u
 |succ f ih =>
  intro vis k D v b K F;have E:=b k (by simp);cases hR:lZ ms k bb with
  |none=>exact⟨0,Z9 _,.inl hR⟩
  |some R =>
   obtain⟨c,C⟩:R.bB∈ow/\(gW R.bB->∃g,R.bo=some g/\g<ms.length):=by
    obtain⟨m,s⟩:∃m,ms[k]?=some m:=⟨ms[k],i4 E⟩
    have hid:lZ ms k bb=jK m.bd bb:=by rw[lZ,s];rfl
    rw[hid] at hR;exact⟨G.bB m (p0 s) R (ze hR),G.bo m (p0 s) R (ze hR)⟩
   have c:= by simpa using c
   have go:fwd R.bB->∃g m,R.bo=some g/\m<=f/\(agc ms bb m g\/adi ms bb m g):=λl=>by
    obtain⟨g,n,o⟩:=C l;have t:acm ms bb k g:=⟨R,hR,l,n⟩
    by_cases a:g∈vis++[k]
    .exfalso;obtain⟨A,B,d⟩:=List.append_of_mem a;rw[d] at D v;have i:=acN d;have H:=aaR _ _ (af3.mp v).2.1 λx p=>b x (by rw[d];exact Z2 _ p);exact abm B g k ms.length [g] [] (Pth.suffix D) i t rfl H (hn g o)
    .obtain⟨m,L,M⟩:=ih (vis++[k]) g (Pth.snoc D t) (af3.mpr ⟨v,by simp,λx p y I e=>a (by rw[B1.mp I] at e;rw[<- e];exact p)⟩) (λx p=>by
      rcases X1.mp p with z|z
      .exact b x z
      .rw[B1.mp z];exact o) (by rw[i5,al5];lia) (by lia)
     exact⟨g,m,n,L,M⟩
   rcases c with z|z|z|z
   .exfalso;have:=hn k E;rw[jD] at this;obtain⟨q,r⟩:∃q,ms.length=q+1:=⟨ms.length-1,by lia⟩
    rw[r,k8,show cE [k]=k from rfl,hR] at this;have this:(if R.bB = "pop" /\ [k].length=1/\k≠0 then none else if cE (cT [k] R.bB R.bo)=k then some ([]++[k]) else k8 ms bb k q (cT [k] R.bB R.bo) ([]++[k]))=none:=this;rw[C5 (λw=>by rw[z] at w;exact absurd w.1 (by decide)),z,D7,w4 (show cE [k]=k from rfl)] at this;cases this
   .obtain⟨g,m,n,s,h|h⟩:=go (.inl z)
    .exact⟨m+1,by lia,.inl ⟨g,⟨R,hR,.inl z,n⟩,h⟩⟩
    .exfalso;obtain⟨q,r⟩:∃q,ms.length=q+1:=⟨ms.length-1,by lia⟩
     have J:=hn k E;rw[jD,r] at J;refine aaL (on:=[k]) hR (.inl z) n (.inr ?_) J;have:cT [k] R.bB R.bo=[k]++[g]:=by rw[z,n,cT,w4 rfl];rfl
     rw[this];exact acG m g q [k] _ h (by simp) rfl (by lia)
   .exact⟨0,Z9 _,.inr ⟨R,hR,z⟩⟩
   .obtain⟨g,m,n,s,h|h⟩:=go (.inr z)
    .exact⟨m+1,by lia,.inl ⟨g,⟨R,hR,.inr z,n⟩,h⟩⟩
    .exact⟨m+1,by lia,.inr ⟨g,R,hR,z,n,h⟩⟩
end
def adO(h:on≠[]):∃r,on=r++[cE on]:=by
 rcases List.eq_nil_or_concat on with rfl|⟨p,x,rfl⟩
 .exact absurd rfl h
 .exact⟨p,by rw[List.concat_eq_append,abb]⟩
def abZ  {d:Str}  (h:d = "push"):cT on d (some g)=on++[g]:=by rw[cT,w4 h];rfl
def abl   {d:Str}  (h:d = "into"):cT (r++[k]) d (some g)=r++[g]:=by rw[cT,h,C5 (by decide),w4 rfl,List.dropLast_concat];rfl
def acn(ms:List aR)(bb:Str)(c:Cfg):Prop:=∃R,iD (gE ms (cE c.on)) bb c.aP.length=some R/\cF R.bc=false
def Still(ms:List aR)(bb:Str):Nat->Cfg->Cfg->Prop
 |0,c,d=>c=d
 |n+1,c,d=>∃R,iD (gE ms (cE c.on)) bb c.aP.length=some R/\cF R.bc=false/\Still ms bb n (iB c R bb) d
theorem Still.go:∀{n m:Nat} {c d e:Cfg},Still ms bb n c d->goN ms bb m d=some e->goN ms bb (n+m) c=some e
 |0,m,c,d,e,h,g=>by rw[Nat.zero_add,show c=d from h];exact g
 |n+1,m,c,d,e,⟨R,h1,_,h3⟩,g=>by rw[show n+1+m=(n+m)+1 by lia];exact xZ (by rw[fc,h1]) (h3.go g)
def ads(hs:R.bc∈sorts)(he:cF R.bc=false):(iB c R bb).aP=c.aP:=by show c.aP++List.replicate (fN R bb c.aP.length) R.bZ=c.aP;rw[ahK hs he];exact ad2 _
theorem Still.trans:∀{n m:Nat} {c d e:Cfg},Still ms bb n c d->Still ms bb m d e->Still ms bb (n+m) c e
 |0,m,c,d,e,h,g=>by rw[Nat.zero_add,show c=d from h];exact g
 |n+1,m,c,d,e,⟨R,h1,h2,h3⟩,g=>by rw[show n+1+m=(n+m)+1 by lia];exact⟨R,h1,h2,h3.trans g⟩
structure aaS(ms:List aR)(bb:Str):Prop where
 g:eK ms
 three:ms.length<=4
 sg:∀m∈ms,∀R∈m.bd,¬ax R.bc->1<=R.bi.length
 nr:∀r∈iy,∀j,j<ms.length->jD ms j r=none
 bb:∀c∈bb.l,c∈MC.l
def aaS.short{bb:Str}(G:aaS ms bb)(i:Nat):M5 bb i∈iy:=by
 unfold M5;cases e:bb.l[i]? with
 |none=>exact ab7 ..
 |some c=>exact Q1 _ (aa9.mpr ⟨c,G.bb c (p0 e),rfl⟩)
def aaS.cb{bb:Str}(G:aaS ms bb)(hk:k<ms.length)(h:iD (gE ms k) bb i=some R):∃m,ms[k]?=some m/\R∈m.bd/\R.bc∈sorts/\iP R bb i=true:=by
 have b:=i4 hk;rw[gE,b] at h;have h:=h;unfold iD at h;cases e:firstM ms[k].bd bb i with
 |none=>rw[e] at h;cases h
 |some n =>
  rw[e] at h;obtain⟨_,c,a,f,_⟩:=mZ e;rw[Nat.sub_zero] at a;have:c=R:=aa1 (a.symm.trans h);subst this;have d:=p0 a;exact⟨_,b,d,((G.g.ok _ (ag2 hk)).2 c d).1,f⟩
def aaS.idle{bb:Str}(G:aaS ms bb)(hk:k<ms.length)(hi:i<=bb.length)(h:iD (gE ms k) bb i=some R)(he:cF R.bc=false):lZ ms k (M5 bb i)=some R:=by have a:=i4 hk;rw[gE,a] at h;rw[lZ,a];exact aeB (λR b=>((G.g.ok _ (ag2 hk)).2 R b).1) hi h he
def aaS.step{bb:Str}(G:aaS ms bb)(ba:lK ms c.on)(hi:c.aP.length<=bb.length){us:c7}(e:c.on=us++[k])(h:acn ms bb c):∃R,lZ ms k (M5 bb c.aP.length)=some R/\Still ms bb 1 c (iB c R bb)/\(iB c R bb).aP=c.aP/\lK ms (iB c R bb).on/\(iB c R bb).on=cT (us++[k]) R.bB R.bo:=by
 obtain⟨R,a,b⟩:=h;have d:=ba.2 _ (sy ba.1);have i:cE c.on=k:=by rw[e,abb]
 obtain⟨m,j,l,n,_⟩:=G.cb d a;have f:=G.idle d hi a b;rw[i] at f;exact⟨R,f,⟨R,a,b,rfl⟩,ads n b,ba.bB G.g (p0 j) l,by rw[<- e];rfl⟩
theorem phN(G:aaS ms bb):∀(m k:Nat) (us:c7) (c:Cfg),agc ms (M5 bb c.aP.length) m k->c.on=us++[k]->lK ms c.on->c.aP.length<=bb.length ->
  ∃n d,Still ms bb n c d /\ ¬acn ms bb d/\d.aP=c.aP/\lK ms d.on/\n<=m/\d.on.length<=c.on.length+m
 |m,k,us,c,h,e,ba,hi=>by
  by_cases hid:acn ms bb c
  .obtain⟨R,r1,r2,r3,r4,r5⟩:=G.step ba hi e hid;cases m with
   |zero =>
    have h:=h;rw[h] at r1;cases r1
   |succ m =>
    obtain⟨g,⟨t,b,i,j⟩,f⟩:=h;rw[r1] at b;cases b;rw[<- r3] at f;have l:∃a,(iB c R bb).on=a++[g]/\(iB c R bb).on.length<=c.on.length+1:=by
     rw[r5,j,e];rcases i with z|z
     .exact⟨us++[k],by rw[abZ z],by rw[abZ z,i5];exact N0 _⟩
     .exact⟨us,by rw[abl z],by rw[abl z,i5,i5];exact ae4 _ _⟩
    obtain⟨a,o,u⟩:=l;obtain⟨n,d,p,q,r,s,v,w⟩:=phN G m g a (iB c R bb) f o r4 (by rw[r3];exact hi);exact⟨1+n,d,r2.trans p,q,by rw[r,r3],s,by lia,by lia⟩
  .exact⟨0,c,rfl,hid,rfl,ba,Z9 _,ae4 _ _⟩
theorem phP(G:aaS ms bb):∀(m k:Nat) (us:c7) (c:Cfg),adi ms (M5 bb c.aP.length) m k->c.on=us++[k]->lK ms c.on->c.aP.length<=bb.length ->
  (∃n d,Still ms bb n c d /\ ¬acn ms bb d/\d.aP=c.aP/\lK ms d.on/\n<=m/\d.on.length<=c.on.length)\/∃n d,Still ms bb n c d/\d.on=(if us=[] then [0] else us)/\d.aP=c.aP/\lK ms d.on/\n<=m+1
 |m,k,us,c,h,e,ba,hi=>by
  by_cases hid:acn ms bb c
  .obtain⟨R,r1,r2,r3,r4,r5⟩:=G.step ba hi e hid;cases m with
   |zero =>
    obtain⟨j,a,b⟩:=h;rw[r1] at a;cases a;exact .inr ⟨1,_,r2,by rw[r5,b,abJ],r3,r4,N0 _⟩
   |succ m =>
    obtain⟨g,j,a,b,l,f⟩:=h;rw[r1] at a;cases a;rw[<- r3] at f;have i:(iB c R bb).on=us++[g]:=by rw[r5,l,abl b]
    have o:(iB c R bb).on.length=c.on.length:=by rw[i,e,i5,i5];rfl
    rcases phP G m g us (iB c R bb) f i r4 (r3▸hi) with ⟨n,d,a1,a2,a3,a4,a5,a6⟩|⟨n,d,a1,a2,a3,a4,a5⟩
    .exact .inl ⟨1+n,d,r2.trans a1,a2,by rw[a3,r3],a4,by lia,by lia⟩
    .exact .inr ⟨1+n,d,r2.trans a1,a2,by rw[a3,r3],a4,by lia⟩
  .exact .inl ⟨0,c,rfl,hid,rfl,ba,Z9 _,N0 _⟩
def amx(G:aaS ms bb):∀(l:Nat) (c:Cfg),c.on.length=l->lK ms c.on->c.aP.length<=bb.length ->
  ∃n d,Still ms bb n c d /\ ¬acn ms bb d/\d.aP=c.aP/\lK ms d.on/\n+4*d.on.length<=4*c.on.length+20:=by
 have H:=G.three;have b:=G.g.pos;have one:∀i k,k<ms.length->∃m,m<=ms.length-1/\(agc ms (M5 bb i) m k\/adi ms (M5 bb i) m k):=λi k s=>ends G.g (G.nr _ (G.short i)) (ms.length-1) [] k trivial (by simp) (by simpa using s) (by rw[ac6];lia) (by lia);intro l;induction l with
 |zero=>intro c C D;exact absurd (ah3.mp C) D.1
 |succ l ih =>
  intro c hl ba q;obtain⟨us,e⟩:=adO ba.1;have s:cE c.on<ms.length:=ba.2 _ (sy ba.1);have I:c.on.length=us.length+1:=by rw[e,i5];rfl
  obtain⟨m,J,h|h⟩:=one c.aP.length (cE c.on) s
  .obtain⟨n,d,o,a,f,p,A,E⟩:=phN G m _ us c h e ba q;exact⟨n,d,o,a,f,p,by lia⟩
  .rcases phP G m _ us c h e ba q with ⟨n,d,o,a,f,p,A,E⟩|⟨n,d,o,a,f,p,A⟩
   .exact⟨n,d,o,a,f,p,by lia⟩
   .by_cases z:us=[]
    .rw[w4 z] at a;obtain⟨m0,F,t|t⟩:=one d.aP.length 0 b
     .obtain⟨u,r,v,w,x,y,B,j⟩:=phN G m0 0 [] d t a p (f▸q);rw[a] at j;have j:r.on.length<=1+m0:=j;exact⟨n+u,r,o.trans v,w,by rw[x,f],y,by lia⟩
     .exact absurd (G.nr _ (G.short d.aP.length) 0 b) (abo m0 0 _ _ t (by lia))
    .rw[C5 z] at a;obtain⟨u,r,v,w,x,y,B⟩:=ih d (by rw[a];lia) p (f▸q);rw[a] at B;exact⟨n+u,r,o.trans v,w,by rw[x,f],y,by lia⟩
def ajr(G:aaS ms bb):∀(D:Nat) (c:Cfg),bb.length-c.aP.length=D->lK ms c.on->c.aP.length<=bb.length ->
  ∃n d,goN ms bb n c=some d/\d.aP.length=bb.length/\lK ms d.on/\n+4*d.on.length<=4*c.on.length+25*D+20:=by
 intro D;induction D using Nat.strongRecOn with
 |ind D ih =>
  intro c J ba y;obtain⟨r,a,s,C,l,o,K⟩:=amx G _ c rfl ba y;have t:a.aP.length<=bb.length:=by rw[l];exact y
  cases hr:iD (gE ms (cE a.on)) bb a.aP.length with
  |none =>
   by_cases h:a.aP.length<bb.length
   .have f:fc ms bb a=some ⟨a.on,a.aP++[dG ms (cE a.on)],a.bj⟩:=by rw[fc,hr];show (if a.aP.length<bb.length then _ else _)=_;rw[w4 h]
    have b:(a.aP++[dG ms (cE a.on)]).length=a.aP.length+1:=by simp
    obtain⟨q,d,u,v,w,j⟩:=ih (bb.length-(a.aP.length+1)) (by rw[l] at h ⊢;lia) ⟨a.on,a.aP++[dG ms (cE a.on)],a.bj⟩ (by show bb.length-(a.aP++[dG ms (cE a.on)]).length=_;rw[b]) o (by show (a.aP++[dG ms (cE a.on)]).length<=_;rw[b];lia);have j:q+4*d.on.length<=4*a.on.length+25*(bb.length-(a.aP.length+1))+20:=j;rw[l] at h j;exact⟨r+(q+1),d,s.go (xZ f u),v,w,by lia⟩
   .have f:fc ms bb a=none:=by rw[fc,hr];show (if a.aP.length<bb.length then _ else _)=_;rw[C5 h]
    exact⟨r+0,a,s.go (rY f),by lia,o,by lia⟩
  |some R =>
   obtain⟨m,F,z,A,H⟩:=G.cb (o.2 _ (sy o.1)) hr;have p:=p0 F;have I:cF R.bc=true:=by
    cases e:cF R.bc with
    |true=>rfl
    |false=>exact absurd ⟨R,hr,e⟩ C
   have f:fc ms bb a=some (iB a R bb):=by rw[fc,hr]
   have B:=MK (i:=a.aP.length) A I (G.sg m p R z) H;have x:=zN (R:=R) (bb:=bb) (i:=a.aP.length) A t;have b:(iB a R bb).aP.length=a.aP.length+fN R bb a.aP.length:=by show (a.aP++List.replicate _ _).length=_;rw[i5,af2]
   have L:(iB a R bb).on.length<=a.on.length+1:=qb;obtain⟨q,d,u,v,w,j⟩:=ih (bb.length-(iB a R bb).aP.length) (by rw[b];rw[l] at B x ⊢;lia) (iB a R bb) rfl (o.bB G.g p z) (by rw[b];exact x);rw[b] at j;rw[l] at B x j;exact⟨r+(q+1),d,s.go (xZ f u),v,w,by lia⟩
theorem acs(hG:∀r:Str,(∀c∈r.l,c∈MC.l)->aaS ms r):∀(rs:a9) (b:c7),lK ms b->(∀r∈rs,r.length<=1000/\∀c∈r.l,c∈MC.l)->4*b.length+25*tot rs+20*rs.length<=20000->∃Gs,Chain ms b rs Gs
 | [],_,_,_,_=>⟨[],trivial⟩
 |r::rs,b,hb,h,hl=>by rw[P3,kY] at hl;obtain⟨h1,h2⟩:=h r (by simp);obtain⟨n,d,f,g,a,e⟩:=ajr (hG r h2) r.length ⟨b,[],[]⟩ (by simp) hb (by simp);obtain⟨Gs,i⟩:=acs hG rs d.on a (λx j=>h x (Q1 _ j)) (by lia);exact⟨⟨r,b,d⟩::Gs,rfl,rfl,⟨hb,by show b.length<=_;lia,h1,⟨n,by lia,f⟩,a,by show d.on.length<=_;lia,g⟩,i⟩
noncomputable def unc (R:cz):cz:={ R with bZ:="" }
def acX (m:aR):aR:={ m with bZ:="",bd:=m.bd.map unc }
theorem abA:∀(rs:List cz) (k:Nat),jI bb i k (rs.map unc)=jI bb i k rs
 | [],_=>rfl
 |R::r,k=>by rw[ab5,jI,jI,abA r (k+1)];rfl
def aeL(rs:List cz)(bb:Str)(i:Nat):iD (rs.map unc) bb i=(iD rs bb i).map unc:=by
 unfold iD;have e:firstM (rs.map unc) bb i=firstM rs bb i:=abA rs 0;rw[e];cases firstM rs bb i with
 |none=>rfl
 |some n=>exact v3
def afc(ms:List aR)(k:Nat)(bb:Str):lZ (ms.map acX) k bb=(lZ ms k bb).map unc:=by
 unfold lZ;rw[v3];cases ms[k]? with
 |none=>rfl
 |some m =>
  show jK (m.bd.map unc) bb=(jK m.bd bb).map unc;unfold jK;rw[aeL];cases iD m.bd bb 0 with
  |none=>rfl
  |some R =>
   show (if cF R.bc=true then none else some (unc R))=Option.map unc (if cF R.bc=true then none else some R);split <;> rfl
theorem acj(ms:List aR)(bb:Str)(first:Nat):∀(f:Nat) (on ring:c7),k8 (ms.map acX) bb first f on ring=k8 ms bb first f on ring
 |0,_,_=>rfl
 |f+1,on,ring=>by
  rw[k8,k8,afc];cases lZ ms (cE on) bb with
  |none=>rfl
  |some R =>
   show (if R.bB = "pop" /\ on.length=1/\first≠0 then none else if cE (cT on R.bB R.bo)=first then some (ring++[cE on]) else k8 (ms.map acX) bb first f (cT on R.bB R.bo) (ring++[cE on]))=_;rw[acj ms bb first f]
def aey(ms:List aR):oF (ms.map acX)=oF ms:=by
 have a:∀bb n k,lH (ms.map acX) bb n k=lH ms bb n k:=by
  intro bb n;induction n with
  |zero=>intro k;rfl
  |succ n ih =>
   intro k;rw[lH,lH,ih];have:jD (ms.map acX) k bb=jD ms k bb:=by unfold jD;rw[d5];exact acj ms bb k _ _ _
   rw[this]
 have b:∀rows,kI (ms.map acX) rows=kI ms rows:=by
  intro rows;induction rows with
  |nil=>rfl
  |cons bb r ih=>rw[kI,kI,d5,a,ih]
 exact b _
def aaI (c:Str):Prop:=c∈(["red","blue","green","plain","redder"]:a9)
def aaI.nm(h:aaI c):isName c=true:=by
 have a:∀c∈(["red","blue","green","plain","redder"]:a9),isName c=true:=by lk
 exact a c h
structure abF where
 c0:Str
 c1:Str
 c2:Str
 c3:Str
 c4:Str
structure abF.Ok(c:abF):Prop where
 h0:aaI c.c0
 h1:aaI c.c1
 h2:aaI c.c2
 h3:aaI c.c3
 h4:aaI c.c4
noncomputable abbrev q1 (c:Str):cz:=⟨"one","(",c,"push",some 1,"open"⟩
noncomputable abbrev q2 (c:Str):cz:=⟨"word","\"",c,"push",some 2,""⟩
noncomputable abbrev q3 (c:Str):cz:=⟨"many","ab",c,"stay",none,""⟩
noncomputable abbrev q4 (c:Str):cz:=⟨"word","#",c,"into",some 3,""⟩
noncomputable abbrev q5 (c:Str):cz:=⟨"one",")",c,"pop",none,"close"⟩
noncomputable abbrev q6 (c:Str):cz:=⟨"word","\"",c,"pop",none,""⟩
noncomputable abbrev dA:cz:=⟨"end","","","pop",none,""⟩
noncomputable abbrev q8':cz:=⟨"end","","","into",some 0,""⟩
noncomputable abbrev q9':cz:=⟨"still","","","push",some 1,"open"⟩
noncomputable abbrev qa' (c:Str):cz:=⟨"many","ab",c,"pop",none,"close"⟩
noncomputable abbrev qb' (c:Str):cz:=⟨"any","",c,"pop",none,""⟩
noncomputable abbrev qc' (c:Str):cz:=⟨"word","((",c,"push",some 1,"open"⟩
noncomputable abbrev qd' (c:Str):cz:=⟨"none","ab(\" ",c,"stay",none,""⟩
noncomputable abbrev qe (c:Str):cz:=⟨"word"," (",c,"push",some 0,""⟩
noncomputable abbrev qf' (c:Str):cz:=⟨"one","\"",c,"into",some 1,"open"⟩
noncomputable abbrev qg (c:Str):cz:=⟨"word","))",c,"pop",none,"close"⟩
noncomputable abbrev qh' (c:Str):cz:=⟨"word","#",c,"into",some 0,"close"⟩
noncomputable abbrev qi (c:Str):cz:=⟨"one","\"",c,"pop",none,""⟩
def make(w:Nat)(c:abF):List aR :=
 if w=0 then [⟨"base",c.c0,[q1 c.c1,q2 c.c2,q3 c.c3,q4 c.c1]⟩,⟨"deep",c.c4,[q1 c.c1,q5 c.c1,q2 c.c2]⟩,⟨"text",c.c2,[q6 c.c2,dA]⟩,⟨"note",c.c4,[q8']⟩]
 else if w=1 then [⟨"base",c.c0,[q9']⟩,⟨"word",c.c1,[qa' c.c3,qb' c.c2]⟩]
 else [⟨"base",c.c0,[qc' c.c1,qd' c.c2,qe c.c4,qf' c.c3]⟩,⟨"deep",c.c1,[qg c.c1,qh' c.c4,qi c.c0]⟩]
noncomputable def c00:abF:=⟨"","","","",""⟩
def ahX(w:Nat)(c:abF):(make w c).map acX=make w c00:=by
 unfold make;split
 .rfl
 .split
  .rfl
  .rfl
def acg(w:Nat)(c:abF):oF (make w c)=none:=by
 rw[<- aey,ahX];unfold make;split
 .lk
 .split
  .lk
  .lk
def anf (s z:Str):Bool:=decide (s∈sorts) && (if ax s then decide (z = "") else decide (1<=z.length/\z.length<=200/\95∉z.l/\10∉z.l))
def aaj(n:Nat)(R:cz):Bool:=anf R.bc R.bi && decide (R.bB∈ow) && (match R.bo with
 |some g=>decide (gW R.bB/\g<n)
 |none=>decide (¬gW R.bB)) && decide (R.bn = "" \/ R.bn = "open" \/ R.bn = "close")
def ach   (h:aaj names.length (unc R)=true) (hc:cF R.bc=true->aaI R.bZ) (h0:cF R.bc=false->R.bZ = ""):jB names R:=by
 unfold aaj at h;rw[ad4,ad4,ad4] at h;obtain⟨⟨⟨b,i⟩,a⟩,j⟩:=h;unfold anf at b;rw[ad4] at b;have a:(match R.bo with
  |some g=>decide (gW R.bB/\g<names.length)
  |none=>decide (¬gW R.bB))=true:=a
 refine⟨⟨of_decide_eq_true b.1,λc=>by have d:=b.2;rw[w4 (show ax (unc R).bc from c)] at d;exact of_decide_eq_true d,λc=>by have d:=b.2;rw[C5 (show ¬ax (unc R).bc from c)] at d;exact of_decide_eq_true d⟩,λc=>(hc c).nm,h0,of_decide_eq_true i,λf=>?_,λf=>?_,of_decide_eq_true j⟩
 .cases e:R.bo with
  |some g=>rw[e] at a;exact⟨g,rfl,(of_decide_eq_true a).2⟩
  |none=>rw[e] at a;exact absurd f (of_decide_eq_true a)
 .cases e:R.bo with
  |some g=>rw[e] at a;exact absurd (of_decide_eq_true a).1 f
  |none=>rfl
def abW(w:Nat)(O:c.Ok):K1 (make w c):=by
 have g:∀{b:a9} {R:cz} (k:Nat),b.length=k->aaj k (unc R)=true->cF R.bc=true->aaI R.bZ->jB b R:=λk e f h i=>ach (e▸f) (λ_=>i) (λz=>by rw[h] at z;cases z);have j:∀{b:a9} {R:cz} (k:Nat),b.length=k->aaj k (unc R)=true->cF R.bc=false->R.bZ = "" -> jB b R:=λk e f h i=>ach (e▸f) (λz=>by rw[h] at z;cases z) (λ_=>i);unfold make;split
 .refine⟨by show 0<4;decide,by show 4<=12;decide,by show (["base","deep","text","note"]:a9).Nodup;lk,?_,by intro m a;simp only[Z5,ad1,an3] at a;rcases a with rfl|rfl|rfl|rfl <;> simp,?_⟩
  .intro m a;simp only[Z5,ad1,an3] at a;rcases a with rfl|rfl|rfl|rfl
   .exact⟨show isName "base" = true by lk,O.h0.nm⟩
   .exact⟨show isName "deep" = true by lk,O.h4.nm⟩
   .exact⟨show isName "text" = true by lk,O.h2.nm⟩
   .exact⟨show isName "note" = true by lk,O.h4.nm⟩
  .intro m a R d;simp only[Z5,ad1,an3] at a;rcases a with rfl|rfl|rfl|rfl
   .simp only[Z5,ad1,an3] at d;rcases d with rfl|rfl|rfl|rfl
    .exact g 4 rfl (show aaj 4 (q1 "")=true by lk) (show cF "one" = true by lk) O.h1
    .exact g 4 rfl (show aaj 4 (q2 "")=true by lk) (show cF "word" = true by lk) O.h2
    .exact g 4 rfl (show aaj 4 (q3 "")=true by lk) (show cF "many" = true by lk) O.h3
    .exact g 4 rfl (show aaj 4 (q4 "")=true by lk) (show cF "word" = true by lk) O.h1
   .simp only[Z5,ad1,an3] at d;rcases d with rfl|rfl|rfl
    .exact g 4 rfl (show aaj 4 (q1 "")=true by lk) (show cF "one" = true by lk) O.h1
    .exact g 4 rfl (show aaj 4 (q5 "")=true by lk) (show cF "one" = true by lk) O.h1
    .exact g 4 rfl (show aaj 4 (q2 "")=true by lk) (show cF "word" = true by lk) O.h2
   .simp only[Z5,ad1,an3] at d;rcases d with rfl|rfl
    .exact g 4 rfl (show aaj 4 (q6 "")=true by lk) (show cF "word" = true by lk) O.h2
    .exact j 4 rfl (show aaj 4 dA=true by lk) (show cF "end" = false by lk) rfl
   .simp only[Z5,ad1,an3] at d;rcases d with rfl
    .exact j 4 rfl (show aaj 4 q8'=true by lk) (show cF "end" = false by lk) rfl
 .split
  .refine⟨by show 0<2;decide,by show 2<=12;decide,by show (["base","word"]:a9).Nodup;lk,?_,by intro m a;simp only[Z5,ad1,an3] at a;rcases a with rfl|rfl <;> simp,?_⟩
   .intro m a;simp only[Z5,ad1,an3] at a;rcases a with rfl|rfl
    .exact⟨show isName "base" = true by lk,O.h0.nm⟩
    .exact⟨show isName "word" = true by lk,O.h1.nm⟩
   .intro m a R d;simp only[Z5,ad1,an3] at a;rcases a with rfl|rfl
    .simp only[Z5,ad1,an3] at d;rcases d with rfl
     .exact j 2 rfl (show aaj 2 q9'=true by lk) (show cF "still" = false by lk) rfl
    .simp only[Z5,ad1,an3] at d;rcases d with rfl|rfl
     .exact g 2 rfl (show aaj 2 (qa' "")=true by lk) (show cF "many" = true by lk) O.h3
     .exact g 2 rfl (show aaj 2 (qb' "")=true by lk) (show cF "any" = true by lk) O.h2
  .refine⟨by show 0<2;decide,by show 2<=12;decide,by show (["base","deep"]:a9).Nodup;lk,?_,by intro m a;simp only[Z5,ad1,an3] at a;rcases a with rfl|rfl <;> simp,?_⟩
   .intro m a;simp only[Z5,ad1,an3] at a;rcases a with rfl|rfl
    .exact⟨show isName "base" = true by lk,O.h0.nm⟩
    .exact⟨show isName "deep" = true by lk,O.h1.nm⟩
   .intro m a R d;simp only[Z5,ad1,an3] at a;rcases a with rfl|rfl
    .simp only[Z5,ad1,an3] at d;rcases d with rfl|rfl|rfl|rfl
     .exact g 2 rfl (show aaj 2 (qc' "")=true by lk) (show cF "word" = true by lk) O.h1
     .exact g 2 rfl (show aaj 2 (qd' "")=true by lk) (show cF "none" = true by lk) O.h2
     .exact g 2 rfl (show aaj 2 (qe "")=true by lk) (show cF "word" = true by lk) O.h4
     .exact g 2 rfl (show aaj 2 (qf' "")=true by lk) (show cF "one" = true by lk) O.h3
    .simp only[Z5,ad1,an3] at d;rcases d with rfl|rfl|rfl
     .exact g 2 rfl (show aaj 2 (qg "")=true by lk) (show cF "word" = true by lk) O.h1
     .exact g 2 rfl (show aaj 2 (qh' "")=true by lk) (show cF "word" = true by lk) O.h4
     .exact g 2 rfl (show aaj 2 (qi "")=true by lk) (show cF "one" = true by lk) O.h0
def afT(w:Nat)(c:abF):(make w c).length<=4:=by
 unfold make;split
 .exact N0 _
 .split
  .show 2<=4;decide
  .show 2<=4;decide
def aeA(w:Nat)(O:c.Ok)(r:Str)(hr:∀c∈r.l,c∈MC.l):aaS (make w c) r :=
 ⟨(abW w O).good,afT w c,λm a R b d=>(((abW w O).cb m a R b).pat.sg d).1,adx (acg w c),hr⟩
noncomputable def SN(xs:c7)(i j:Nat):Nat:=((xs.take i).map (· + 1)).sum+j
def qy(xs:c7)(p:Nat×Nat):Prop:=∃l,xs[p.1]?=some l/\p.2<=l
def oj{xs:c7}(h:xs[i]?=some l):((xs.take (i+1)).map (· + 1)).sum=((xs.take i).map (· + 1)).sum+l+1:=by rw[List.take_add_one,h,o0,al6];simp;lia
def Lp(xs:c7)(h:i<=k):((xs.take i).map (· + 1)).sum<=((xs.take k).map (· + 1)).sum:=by obtain⟨d,rfl⟩:=Nat.exists_eq_add_of_le h;rw[List.take_add,o0,al6];lia
def NU(h:qy xs (i,j))(hx:i<i2):SN xs i j<SN xs i2 j2:=by obtain⟨l,c,d⟩:=h;have a:=oj c;have b:=Lp xs (show i+1<=i2 from hx);unfold SN;lia
def Hj(h:qy xs (i,j))(h2:qy xs (i2,j2)):SN xs i j<SN xs i2 j2↔(i<i2\/i=i2/\j<j2):=by
 constructor
 .intro z;rcases Nat.lt_trichotomy i i2 with q|q|q
  .exact .inl q
  .subst q;unfold SN at z;exact .inr ⟨rfl,by lia⟩
  .have:=NU (j2:=j) h2 q;lia
 .rintro (q|⟨q,w⟩)
  .exact NU h q
  .subst q;unfold SN;lia
def FA(h:qy xs (i,j))(h2:qy xs (i2,j2)):SN xs i j<=SN xs i2 j2↔(i<i2\/i=i2/\j<=j2):=by have:=Hj h2 h;lia
def o6(A B:c7)(k j:Nat):SN (A++B) (A.length+k) j=(A.map (· + 1)).sum+SN B k j:=by unfold SN;rw[List.take_length_add_append,o0,al6];lia
def xr{A B:c7}(h:i<=A.length)(j:Nat):SN (A++B) i j=SN A i j:=by unfold SN;rw[ae8 h]
def zC{A B:c7}(h:p.1<A.length):qy (A++B) p↔qy A p:=by unfold qy;rw[aa2 h]
def iU{A B:c7}:qy (A++B) (A.length+k,j)↔qy B (k,j):=by unfold qy;simp only;rw[U2 (ae4 _ _),aj7]
structure WK(l j m z lz:Nat)(ys:c7):Prop where
 len:ys.length=m+1
 sum:(ys.map (· + 1)).sum=l+z+1
 fst:∃a,ys[0]?=some a/\j<=a
 lst:ys[m]?=some ((if m>0 then 0 else j)+lz+(l-j))
noncomputable def K0(p f:Nat×Nat)(m lz:Nat):Nat×Nat :=
 if p.1<f.1\/p.1=f.1/\p.2<f.2 then p else if p.1>f.1 then (p.1+m,p.2) else (f.1+m,(if m>0 then 0 else f.2)+lz+p.2-f.2)
def Je{xs ys:c7}{l m z lz:Nat}(hl:xs[i]?=some l)(hj:j<=l)(P:WK l j m z lz ys)(hp:qy xs p) :
  qy (xs.take i++ys++xs.drop (i+1)) (K0 p (i,j) m lz)/\SN (xs.take i++ys++xs.drop (i+1)) (K0 p (i,j) m lz).1 (K0 p (i,j) m lz).2=if SN xs p.1 p.2<SN xs i j then SN xs p.1 p.2 else SN xs p.1 p.2+z:=by
 obtain⟨r,c⟩:=p;have y:=(d6.mp hl).1;have C:(xs.take i).length=i:=by rw[v6];lia
 have n:=Hj hp ⟨l,hl,hj⟩;obtain⟨s,b,h⟩:=id hp;simp only at b h;rw[ac0];unfold K0;simp only;by_cases f:r<i\/r=i/\c<j
 .rw[w4 f,w4 (n.mpr f)];rcases f with f|⟨rfl,f⟩
  .refine⟨(zC (by simp only;lia)).mpr ⟨s,by simp only;rw[af1 f];exact b,h⟩,by rw[xr (by lia)];unfold SN;rw[List.take_take,ad9 (by lia)]⟩
  .obtain⟨a,v,D⟩:=P.fst;have g:r=(xs.take r).length+0:=by lia
   have o:qy (ys++xs.drop (r+1)) (0,c):=by refine⟨a,?_,by simp only;lia⟩;rw[aa2 (by rw[P.len];lia)];exact v
   refine⟨by have:=(iU (A:=xs.take r) (B:=ys++xs.drop (r+1)) (k:=0) (j:=c)).mpr o;rw[<- g] at this;exact this,by have:=o6 (xs.take r) (ys++xs.drop (r+1)) 0 c;rw[<- g] at this;rw[this];unfold SN;simp⟩
 .rw[C5 f,C5 (λz=>f (n.mp z))];by_cases t:r>i
  .rw[w4 t];obtain⟨d,rfl⟩:∃d,r=i+1+d:=Nat.exists_eq_add_of_le (by lia);have g:i+1+d+m=(xs.take i).length+(ys.length+d):=by rw[P.len];lia
   refine⟨g▸iU.mpr (iU.mpr ⟨s,by simp only;rw[ab6];exact b,h⟩),?_⟩
   .rw[g,o6,o6,P.sum];have w:SN xs (i+1+d) c=((xs.take i).map (· + 1)).sum+(l+1)+SN (xs.drop (i+1)) d c:=by unfold SN;rw[List.take_add,o0,al6,oj hl];lia
    rw[w];simp only;lia
  .have e:r=i:=by lia
   subst e;rw[C5 t];rw[hl] at b;cases b;have g:r+m=(xs.take r).length+m:=by lia
   have q:m<ys.length:=by rw[P.len];lia
   have o:qy (ys++xs.drop (r+1)) (m,(if m>0 then 0 else j)+lz+c-j):=by refine⟨_,by simp only;rw[aa2 q];exact P.lst,by simp only;lia⟩
   refine⟨g▸iU.mpr o,by rw[g,o6,xr (by lia)];have a:=oj P.lst;rw[show ys.take (m+1)=ys from ac1 (by rw[P.len];lia),P.sum] at a;unfold SN;lia⟩
noncomputable def oG(p f g:Nat×Nat):Nat×Nat :=
 if p.1<f.1\/p.1=f.1/\p.2<=f.2 then p else if p.1<g.1\/p.1=g.1/\p.2<=g.2 then f else if p.1>g.1 then (p.1-g.1+f.1,p.2) else (f.1,f.2+p.2-g.2)
def Ji(hl:xs[i]?=some l)(hj:j<=l)(hl2:xs[i2]?=some l2)(hj2:j2<=l2)(hx:i<i2\/i=i2/\j<=j2)(hp:qy xs p) :
  qy (xs.take i++[j+(l2-j2)]++xs.drop (i2+1)) (oG p (i,j) (i2,j2))/\SN (xs.take i++[j+(l2-j2)]++xs.drop (i2+1)) (oG p (i,j) (i2,j2)).1 (oG p (i,j) (i2,j2)).2 =
   if SN xs p.1 p.2<=SN xs i j then SN xs p.1 p.2 else if SN xs p.1 p.2<=SN xs i2 j2 then SN xs i j else SN xs p.1 p.2-(SN xs i2 j2-SN xs i j):=by
 obtain⟨r,c⟩:=p;have H:=(d6.mp hl).1;have I:(xs.take i).length=i:=by rw[v6];lia
 have u:qy xs (i,j):=⟨l,hl,hj⟩
 have v:qy xs (i2,j2):=⟨l2,hl2,hj2⟩
 have w:=FA hp u;have x:=FA hp v;have J:=(FA u v).mpr hx;obtain⟨y,f,n⟩:=id hp;simp only at f n;rw[ac0];have g:∀c',c'<=j+(l2-j2)->qy (xs.take i++([j+(l2-j2)]++xs.drop (i2+1))) (i,c')/\SN (xs.take i++([j+(l2-j2)]++xs.drop (i2+1))) i c'=((xs.take i).map (· + 1)).sum+c':=λc' s=>by
  have o:i=(xs.take i).length+0:=by lia
  have a:=(iU (A:=xs.take i) (B:=[j+(l2-j2)]++xs.drop (i2+1)) (k:=0) (j:=c')).mpr ⟨_,rfl,s⟩;have b:=o6 (xs.take i) ([j+(l2-j2)]++xs.drop (i2+1)) 0 c';rw[<- o] at a b;refine⟨a,?_⟩;rw[b];unfold SN;simp
 unfold oG;simp only;by_cases h:r<i\/r=i/\c<=j
 .rw[w4 h,w4 (w.mpr h)];rcases h with h|⟨rfl,h⟩
  .refine⟨(zC (by simp only;lia)).mpr ⟨y,by simp only;rw[af1 h];exact f,n⟩,by rw[xr (by lia)];unfold SN;rw[List.take_take,ad9 (by lia)]⟩
  .exact g c (by lia)
 .rw[C5 h,C5 (λz=>h (w.mp z))];by_cases q:r<i2\/r=i2/\c<=j2
  .rw[w4 q,w4 (x.mpr q)];exact g j (by lia)
  .rw[C5 q,C5 (λz=>q (x.mp z))];by_cases C:r>i2
   .rw[w4 C];obtain⟨d,rfl⟩:∃d,r=i2+1+d:=Nat.exists_eq_add_of_le (by lia);have o:i2+1+d-i2+i=(xs.take i).length+([j+(l2-j2)].length+d):=by simp only[al5];lia
    refine⟨o▸iU.mpr (iU.mpr ⟨y,by simp only;rw[ab6];exact f,n⟩),?_⟩
    .rw[o,o6,o6];have D:SN xs (i2+1+d) c=((xs.take i2).map (· + 1)).sum+(l2+1)+SN (xs.drop (i2+1)) d c:=by unfold SN;rw[List.take_add,o0,al6,oj hl2];lia
     have E:([j+(l2-j2)].map (· + 1)).sum=j+(l2-j2)+1:=by simp
     have F:SN xs i2 j2=((xs.take i2).map (· + 1)).sum+j2:=rfl;have G:SN xs i j=((xs.take i).map (· + 1)).sum+j:=rfl;rw[D,E];simp only;lia
   .have e:r=i2:=by lia
    subst e;rw[C5 C];rw[hl2] at f;cases f;have K:j2<c:=by lia
    obtain⟨a,b⟩:=g (j+c-j2) (by lia);refine⟨a,?_⟩;rw[b];have F:SN xs r j2=((xs.take r).map (· + 1)).sum+j2:=rfl;have G:SN xs i j=((xs.take i).map (· + 1)).sum+j:=rfl;have L:SN xs r c=((xs.take r).map (· + 1)).sum+c:=rfl;lia
theorem oY:∀{A X h:c7} {t:List c7},10∉A->cu X=h::t->cu (A++X)=(A++h)::t
 | [],_,_,_,_,e=>e
 |a::A,X,h,t,hA,e=>by rw[List.cons_append,cu,C5 (λz=>hA (by rw[z];exact ab7)),(oY (A:=A) (λz=>hA (Q1 _ z)) e)];rfl
def yo{C:c7}(h:10∉C):cu C=[C]:=by have:=oY (X:=[]) h rfl;simpa using this
theorem sU{C:c7}(hC:10∉C):∀X:c7,cu (X++C)=(cu X).dropLast++[(cu X).getLastD []++C]
 | []=>by rw[ao4,yo hC];rfl
 |c::X=>by
  rw[List.cons_append,cu,cu,(sU hC X)];cases e:cu X with
  |nil=>exact absurd e (i7 X)
  |cons x xs =>
   by_cases a:c=10
   .rw[w4 a,w4 a];rfl
   .rw[C5 a,C5 a];cases xs with
    |nil=>rfl
    |cons y ys=>rfl
theorem yG:∀ys:c7,(ys.map (· + 1)).sum=ys.sum+ys.length
 | []=>rfl
 |y::ys=>by rw[ab5,am3,am3,yG ys,P3];lia
def By{R B:c7}(hR:10∉R)(hj:j<=R.length) :
  WK R.length j ((cu B).length-1) B.length ((cu B).getLastD []).length ((cu (R.take j++B++R.drop j)).map List.length):=by
 have c:10∉R.take j:=λz=>hR (ae5 z);have d:10∉R.drop j:=λz=>hR (ag0 z);obtain⟨a,f⟩:=lP (R.take j++B++R.drop j);obtain⟨g,l⟩:=lP B;have n:(R.take j++B++R.drop j).count 10=B.count 10:=by rw[aj2,aj2,ai5.mpr c,ai5.mpr d];lia
 have o:(R.take j++B++R.drop j).length=R.length+B.length:=by rw[i5,i5,v6,B2];lia
 rw[n] at a f;rw[o] at f;cases e:cu B with
 |nil=>exact absurd e (i7 B)
 |cons h t =>
  have b:=sU d (R.take j++B);rw[(oY c e)] at b;have q:(R.take j).length=j:=by rw[v6];lia
  have i:(R.drop j).length=R.length-j:=by rw[B2]
  rw[e] at g l;refine⟨by rw[d5,a,g];lia,by rw[yG,d5,a];lia,?_,?_⟩
  .rw[b];cases t with
   |nil=>exact⟨_,rfl,by simp;lia⟩
   |cons y ys=>exact⟨_,rfl,by simp;lia⟩
  .rw[b];cases t with
   |nil =>
    show some (((R.take j++h)++R.drop j).length)=_;rw[i5,i5,q,i];rfl
   |cons y ys =>
    rw[o0,U2 (by simp)];have r:(h::y::ys).length-1-(((R.take j++h)::y::ys).dropLast.map List.length).length=0:=by simp
    rw[r];show some (((((R.take j++h)::y::ys).getLastD [])++R.drop j).length)=_;rw[i5,i];have s:((R.take j++h)::y::ys).getLastD []=(h::y::ys).getLastD []:=by rw[ae7,ae7,List.getLast?_cons_cons,List.getLast?_cons_cons]
    rw[s,w4 (by simp)];simp
def i6(rs:a9)(i j:Nat):jc rs i j=SN (rs.map (·.length)) i j:=by unfold jc SN;rw[<- ac9,ag3];rfl
def VP(rs:a9)(p:Nat×Nat):Prop:=∃r,rs[p.1]?=some r/\p.2<=r.length
def xx:VP rs p↔qy (rs.map (·.length)) p:=by
 unfold VP qy;rw[v3];constructor
 .rintro⟨r,h,a⟩;exact⟨_,by rw[h];rfl,a⟩
 .rintro⟨l,h,a⟩;obtain⟨r,b,c⟩:=D1.mp h;exact⟨r,b,c▸a⟩
def yt(s:Str):(mK s).map (·.length)=(cu s.l).map List.length:=by rw[<- kK,ag3];exact an5 λx _=>(bV x).symm
def gK(z:Str):Nat:=(mK z).length-1
def sM(z:Str):Nat:=((cu z.l).getLastD []).length
def qt(p f:Nat×Nat)(z:Str):Nat×Nat:=K0 p f (gK z) (sM z)
def DW(hr:rs[i]?=some r)(hj:j<=r.length)(hN:TU rs)(hp:VP rs p) :
  VP (fG rs i j r z) (qt p (i,j) z)/\jc (fG rs i j r z) (qt p (i,j) z).1 (qt p (i,j) z).2=if jc rs p.1 p.2<jc rs i j then jc rs p.1 p.2 else jc rs p.1 p.2+z.length:=by
 have P:=By (R:=r.l) (B:=z.l) (j:=j) (hN r (p0 hr)) (by rw[bV];exact hj);rw[<- (qc (x:=r) (z:=z) hj),<- yt,bV,bV] at P;have b:(cu z.l).length=(mK z).length:=by unfold mK;rw[d5]
 rw[b] at P;rw[xx,i6,i6,i6];unfold fG;rw[o0,o0,ac9,ad6];exact (Je (xs:=rs.map (·.length)) (i:=i) (p:=p) (by rw[v3,hr];rfl) hj P (xx.mp hp))
def CS(hr:rs[i]?=some r)(hj:j<=r.length)(hr2:rs[i2]?=some r2)(hj2:j2<=r2.length)(hx:i<i2\/i=i2/\j<=j2)(hp:VP rs p) :
  VP (jx rs i j i2 j2 r r2) (oG p (i,j) (i2,j2))/\jc (jx rs i j i2 j2 r r2) (oG p (i,j) (i2,j2)).1 (oG p (i,j) (i2,j2)).2 =
   if jc rs p.1 p.2<=jc rs i j then jc rs p.1 p.2 else if jc rs p.1 p.2<=jc rs i2 j2 then jc rs i j else jc rs p.1 p.2-(jc rs i2 j2-jc rs i j):=by
 rw[xx,i6,i6,i6,i6];unfold jx;rw[o0,o0,ac9,ad6];show qy (_++[(qF r j r2 j2).length]++_) _/\SN (_++[(qF r j r2 j2).length]++_) _ _=_;rw[(xH (x:=r) (y:=r2) hj hj2)];exact (Ji (xs:=rs.map (·.length)) (p:=p) (by rw[v3,hr];rfl) hj (by rw[v3,hr2];rfl) hj2 hx (xx.mp hp))
noncomputable def bX(sp:List (Str×Nat×Nat))(ps:c6):List (Key×V):=List.zipWith (λx p=>((Sum.inr x.1:Key),V.ref p)) sp ps
structure Qq(H:Hp)(d:Addr)(sp:List (Str×Nat×Nat))(ps:c6):Prop where
 len:ps.length=sp.length
 ob:H d=some (.dK (bX sp ps))
 pl:bf (λp (x:Str×Nat×Nat)=>H p=t0 [aX x.2.1,aX x.2.2]) ps sp
def Qq.ae(h:Qq H d sp ps)(s:af H H'):Qq H' d sp ps:=⟨h.len,s _ _ h.ob,h.pl.mono λ_ _ e=>s _ _ e⟩
def DP(H:Hp)(d:Addr)(sp:List (Str×Nat×Nat)):Prop:=∃a,Qq H d sp a
def DP.ae(h:DP H d sp)(s:af H H'):DP H' d sp:=by obtain⟨b,a⟩:=h;exact⟨b,a.ae s⟩
noncomputable abbrev bU(sp:List (Str×Nat×Nat)):a9:=sp.map (·.1)
def dH(h:ps.length=sp.length):(bX sp ps).length=sp.length:=by unfold bX;rw[an4,h];simp
theorem nX:∀{sp:List (Str×Nat×Nat)} {ps:c6},ps.length=sp.length->(bX sp ps).map (·.1)=(bU sp).map Sum.inr
 | [],[],_=>rfl
 |x::sp,p::ps,h=>by show Sum.inr x.1::(bX sp ps).map (·.1)=_;rw[(nX (sp:=sp) (ps:=ps) (by simpa using h))];rfl
 | [],_::_,h=>by simp at h
 |_::_,[],h=>by simp at h
def zo(h1:sp[i]?=some x)(h2:ps[i]?=some p):(bX sp ps)[i]?=some (Sum.inr x.1,V.ref p):=by unfold bX;rw[List.getElem?_zipWith,h1,h2]
theorem r8:∀{sp:List (Str×Nat×Nat)} {ps:c6},n∉bU sp->fP (bX sp ps) (Sum.inr n)=none
 | [],_,_=>by unfold bX;exact ym
 |x::sp,[],_=>ym
 |x::sp,p::ps,h=>by show fP ((Sum.inr x.1,V.ref p)::bX sp ps) _=none;rw[fk (λz=>h (by rw[an9 z.symm];exact ab7 ..))];exact r8 λz=>h (Q1 _ z)
theorem kG:∀{sp:List (Str×Nat×Nat)} {ps:c6} {i:Nat} {x:Str×Nat×Nat} {p:Addr},(bU sp).Nodup->sp[i]?=some x->ps[i]?=some p->fP (bX sp ps) (Sum.inr x.1)=some (.ref p)
 | [],_,_,_,_,_,h,_=>by simp at h
 |_::_,[],_,_,_,_,_,h=>by simp at h
 |y::sp,q::ps,0,x,p,_,h1,h2=>by simp only[af6,ah5] at h1 h2;subst h1 h2;exact fK rfl
 |y::sp,q::ps,i+1,x,p,hn,h1,h2=>by simp only[ah2] at h1 h2;have hn:=ah8.mp hn;show fP ((Sum.inr y.1,V.ref q)::bX sp ps) _=_;rw[fk (λz=>hn.1 (by show y.1∈_;rw[an9 z];exact aa9.mpr ⟨x,p0 h1,rfl⟩))];exact kG hn.2 h1 h2
def rG(sp:List (Str×Nat×Nat))(n:Str)(v:Nat×Nat):List (Str×Nat×Nat):=if n∈bU sp then sp.map (λx=>if x.1=n then (n,v) else x) else sp++[(n,v)]
def uv(sp:List (Str×Nat×Nat))(n:Str)(v:Nat×Nat):bU (rG sp n v)=if n∈bU sp then bU sp else bU sp++[n]:=by
 unfold rG bU;split
 .rw[ag3];refine an5 λx _=>?_;show (if x.1=n then (n,v) else x).1=x.1;by_cases e:x.1=n
  .rw[w4 e,e]
  .rw[C5 e]
 .rw[o0];rfl
def LC(h:(bU sp).Nodup):(bU (rG sp n v)).Nodup:=by
 rw[uv];split
 .exact h
 .rename_i a;exact Cz h a
def IE(h:ps.length=sp.length):bX (sp++sp') (ps++ps')=bX sp ps++bX sp' ps':=by unfold bX;exact List.zipWith_append h.symm
theorem FU:∀{sp:List (Str×Nat×Nat)} {ps:c6},ps.length=sp.length->(bX sp ps).map (λkv=>if kv.1=Sum.inr n then (kv.1,V.ref p) else kv)=bX (sp.map λx=>if x.1=n then (n,v) else x) (List.zipWith (λ(x:Str×Nat×Nat) q=>if x.1=n then p else q) sp ps)
 | [],[],_=>rfl
 |x::sp,q::ps,h=>by
  show (if (Sum.inr x.1:Key)=Sum.inr n then (Sum.inr x.1,V.ref p) else (Sum.inr x.1,V.ref q))::(bX sp ps).map _=(Sum.inr (if x.1=n then (n,v) else x).1,V.ref (if x.1=n then p else q))::bX _ _;rw[(FU (n:=n) (v:=v) (p:=p) (sp:=sp) (ps:=ps) (by simpa using h))];by_cases e:x.1=n
  .rw[w4 (by rw[e]),w4 e,w4 e,e]
  .rw[C5 (λz=>e (an9 z)),C5 e,C5 e]
 | [],_::_,h=>by simp at h
 |_::_,[],h=>by simp at h
def Kd(h:Qq H d sp ps)(hp:H p=t0 [aX v.1,aX v.2]) :
  ∃ps',ps'.length=(rG sp n v).length/\putK (bX sp ps) (Sum.inr n) (.ref p)=bX (rG sp n v) ps'/\bf (λp (x:Str×Nat×Nat)=>H p=t0 [aX x.2.1,aX x.2.2]) ps' (rG sp n v):=by
 have b:((bX sp ps).any λj=>decide (j.1=Sum.inr n))=decide (n∈bU sp):=by
  rw[iC];by_cases e:n∈bU sp
  .rw[ab4 e];obtain⟨x,l,rfl⟩:=aa9.mp e;cases q:fP (bX sp ps) (Sum.inr x.1) with
   |some y=>rfl
   |none =>
    have:=HW q;rw[nX h.len] at this;exact absurd (aa9.mpr ⟨x.1,e,rfl⟩) this
  .rw[ab2 e,r8 e];rfl
 unfold putK;rw[b];unfold rG;by_cases e:n∈bU sp
 .rw[w4 (ab4 e),w4 e];refine⟨_,by rw[an4,d5,h.len];simp,FU h.len,by rw[an4,d5,h.len];simp,?_⟩
  .intro i q x a c;rw[v3] at c;obtain⟨y,f,rfl⟩:=D1.mp c;rw[List.getElem?_zipWith,f] at a;cases g2:ps[i]? with
   |none=>rw[g2] at a;cases a
   |some q' =>
    rw[g2] at a;have a:=aa1 a;by_cases g:y.1=n
    .rw[w4 g] at a ⊢;exact a▸hp
    .rw[C5 g] at a ⊢;exact a▸h.pl.2 i q' y g2 f
 .rw[C5 e,C5 (show ¬decide (n∈bU sp)=true by simp[e])];exact⟨ps++[p],by simp[h.len],(IE (sp':=[(n,v)]) (ps':=[p]) h.len).symm,bf.snoc h.pl hp⟩
noncomputable def jS(sp:List (Str×Nat×Nat))(n:Str):List (Str×Nat×Nat):=sp.filter λx=>decide (x.1≠n)
def HV(h:(bU sp).Nodup):(bU (jS sp n)).Nodup:=List.Nodup.sublist (List.Sublist.map _ (List.filter_sublist ..)) h
theorem xj:∀{sp:List (Str×Nat×Nat)} {ps:c6},bf (λp (x:Str×Nat×Nat)=>H p=t0 [aX x.2.1,aX x.2.2]) ps sp ->
  ∃ps',ps'.length=(jS sp n).length/\jY (bX sp ps) (Sum.inr n)=bX (jS sp n) ps'/\bf (λp (x:Str×Nat×Nat)=>H p=t0 [aX x.2.1,aX x.2.2]) ps' (jS sp n)
 | [],[],_=>⟨[],rfl,rfl,bf.nil⟩
 |x::sp,p::ps,h=>by
  obtain⟨ps',l,e,a⟩:=xj (n:=n) ⟨by simpa using h.1,λi a b c d=>h.2 (i+1) a b (by simpa using c) (by simpa using d)⟩;by_cases z:x.1=n
  .have c:jS (x::sp) n=jS sp n:=by unfold jS;rw[List.filter_cons_of_neg (by simp[z])]
   exact c▸⟨ps',l,by show jY ((Sum.inr x.1,V.ref p)::bX sp ps) _=_;rw[DX (by rw[z])];exact e,a⟩
  .have c:jS (x::sp) n=x::jS sp n:=by unfold jS;rw[List.filter_cons_of_pos (by simp[z])]
   rw[c];refine⟨p::ps',by simp[l],by show jY ((Sum.inr x.1,V.ref p)::bX sp ps) _=(Sum.inr x.1,V.ref p)::bX (jS sp n) ps';rw[D8 (λy=>z (an9 y)),e],by simp[l],?_⟩
   .intro i j o d f;cases i with
    |zero =>
     simp only[af6,ah5] at d f;subst d f;exact (h.2 0 p x rfl rfl)
    |succ i=>exact a.2 i j o (by simpa using d) (by simpa using f)
 | [],_::_,h=>by have:=h.1;simp at this
 |_::_,[],h=>by have:=h.1;simp at this
theorem yK:∀(cp acc:List (Key×V)),((acc++cp).map (·.1)).Nodup->m9 acc cp=acc++cp
 | [],acc,_=>by rw[ad2];rfl
 |kv::r,acc,h=>by
  have hn:fP acc kv.1=none:=by
   cases q:fP acc kv.1 with
   |none=>rfl
   |some y =>
    rw[o0,ab5] at h;exact absurd rfl ((af3.mp h).2.2 _ (LO q) _ (ab7 ..))
  show m9 (putK acc kv.1 kv.2) r=_;rw[yM _ hn];have:=yK r (acc++[(kv.1,kv.2)]) (by simpa using h);rw[this];simp
def uE(h:ps.length=sp.length)(hn:(bU sp).Nodup):m9 [] (bX sp ps)=bX sp ps:=by
 have:=yK (bX sp ps) [] (by rw[ao4,nX h];exact List.pairwise_map.mpr (hn.imp λh z=>h (an9 z)))
 simpa using this
noncomputable def BK(sp:List (Str×Nat×Nat))(n:Str):Nat×Nat:=((sp.find? λx=>decide (x.1=n)).map (·.2)).getD (0,0)
def yh(hn:(bU sp).Nodup)(h:sp[i]?=some x):BK sp x.1=x.2:=by
 unfold BK;induction sp generalizing i with
 |nil=>simp at h
 |cons y sp ih =>
  cases i with
  |zero =>
   simp only[af6,ah5] at h;subst h;rw[List.find?_cons_of_pos (by simp)];rfl
  |succ i =>
   simp only[ah2] at h;have hn:=ah8.mp hn;rw[List.find?_cons_of_neg (by simp only[ac4];intro z;exact hn.1 (by show y.1∈_;exact z▸aa9.mpr ⟨x,p0 h,rfl⟩))]
   exact ih hn.2 h
def dB(sp:List (Str×Nat×Nat)):List (Str×Nat×Nat):=(gy (bU sp)).map λn=>(n,BK sp n)
def pL(sp:List (Str×Nat×Nat)):bU (dB sp)=gy (bU sp):=by unfold dB;show List.map _ (List.map _ _)=_;rw[ag3];exact List.map_id' _
def Dc(hn:(bU sp).Nodup):(bU (dB sp)).Nodup:=by rw[pL];exact(gB _).nodup_iff.mpr hn
def kX(h:n∈bU sp):∃(i:Nat) (x:Str×Nat×Nat),sp[i]?=some x/\x.1=n:=by obtain⟨x,a,e⟩:=aa9.mp h;obtain⟨i,b⟩:=ab8.mp a;exact⟨i,x,b,e⟩
def AQ(hn:(bU sp).Nodup)(h:x∈dB sp):x∈sp:=by unfold dB at h;obtain⟨n,b,rfl⟩:=aa9.mp h;obtain⟨i,y,a,rfl⟩:=kX ((gB _).mem_iff.mp b);rw[yh hn a];exact p0 a
def wU(hn:(bU sp).Nodup)(h1:DP H a (dB sp))(h2:DP H b sp):EF K H a b:=by
 obtain⟨g,h1⟩:=h1;obtain⟨h,h2⟩:=h2;have hl:(dB sp).length=sp.length:=by unfold dB;rw[d5,(gB _).length_eq,d5]
 refine⟨_,_,h1.ob,h2.ob,by rw[dH h1.len,dH h2.len,hl],λs q=>?_⟩;obtain⟨i,c⟩:=ab8.mp q;have d:=(d6.mp c).1;rw[dH h1.len] at d;have e:(dB sp)[i]?=some (dB sp)[i]:=i4 d;have l:g[i]?=some (g[i]'(h1.len▸d)):=i4 _;rw[zo e l] at c;cases c;obtain⟨j,f⟩:=ab8.mp (AQ hn (p0 e));have n:h[j]?=some (h[j]'(h2.len▸((d6.mp f).1))):=i4 _;refine⟨_,kG hn f n,.inr ⟨_,_,_,_,rfl,rfl,.inr ⟨bT.of (h1.pl.2 i _ _ l e),bT.of (h2.pl.2 j _ _ n f)⟩,rfl,λk x y o p=>?_⟩⟩;rw[o] at p;cases p;have:x=aX (dB sp)[i].2.1\/x=aX (dB sp)[i].2.2:=by have:=p0 o;simpa using this
 rcases this with rfl|rfl <;> exact⟨rfl,.inl rfl⟩
def Ul(a b c d:Nat):HT.lexLt [(a:Int),b] [(c:Int),d]=decide (a<c\/a=c/\b<d):=by
 simp only[HT.lexLt,HT.lex];by_cases e:(a:Int)=c
 .rw[w4 e];have g:a=c:=by lia
  by_cases f:(b:Int)=d
  .rw[w4 f];exact(ab2 (by lia)).symm
  .rw[C5 f];exact decide_eq_decide.mpr (by lia)
 .rw[C5 e];exact decide_eq_decide.mpr (by lia)
def FO(a b c d:Nat):HT.lexLe [(a:Int),b] [(c:Int),d]=decide (a<c\/a=c/\b<=d):=by
 simp only[HT.lexLe,HT.lex];by_cases e:(a:Int)=c
 .rw[w4 e];have g:a=c:=by lia
  by_cases f:(b:Int)=d
  .rw[w4 f];exact(ab4 (by lia)).symm
  .rw[C5 f];exact decide_eq_decide.mpr (by lia)
 .rw[C5 e];exact decide_eq_decide.mpr (by lia)
def VH{xs:List α}{v:α}(h:xs[xs.length-1]?=some v):oE xs (-1)=some v:=by
 have hl:=(d6.mp h).1;have e:zG xs.length (-1)=some (xs.length-1):=by unfold zG;rw[C5 (by decide)];show (if _ then _ else _)=_;rw[w4 (by lia)];congr 1;lia
 unfold oE;exact e▸h
abbrev Eh(H:Hp)(p:Addr)(v:Nat×Nat):Prop:=H p=t0 [aX v.1,aX v.2]
def GA:∃y,(mK z)[(mK z).length-1]?=some y/\y.length=sM z:=by
 have hl:=ag5.mpr (tN z);refine⟨(mK z)[(mK z).length-1]'(by omega),i4 _,?_⟩;unfold sM;have e:(cu z.l).getLastD []=((mK z)[(mK z).length-1]'(by lia)).l:=by rw[<- kK,ae7,List.getLast?_eq_getElem?,v3,d5,i4 (by lia)];rfl
 rw[e,bV]
inductive TM(vs:q7)(H:Hp)(Q:VK)(_:XK):Prop|mk(S:q0)(p f:Addr)(v w:Nat×Nat)(z:Str)(_:vs=[.ref p,.ref f,.str z])(_:Ex S H)(_:Eh (hid S H) p v)(_:Eh (hid S H) f w)(_:z.length<=1000)(_:v.1<=100000)(_:v.2<=100000)(_:w.1<=100000)(_:w.2<=100000)(_:∀p' H',Eh (hid S H') p' (qt v w z)->af H H'->Q (.ref p') H')
def Ve:bE P w K mg ap dJ 1 t.Kr t.Qc ["place","first","text"] TM:=by
 refine T.HL.ok wK λW H Q E h=>?_;obtain⟨S,p,f,v,w,z,rfl,x,g,s,X,Y,Z,b3,b4,q⟩:=h;room;have i:=aq _ _ g;have n:=aq _ _ s;have sz:=ad0;have F:bT K H p ([(v.1:Int),(v.2:Int)].map V.int):=bT.of i;have G:bT K H f ([(w.1:Int),(w.2:Int)].map V.int):=bT.of n;refine ak (bq (aA (S1 (aa6 (cS hr))) br bP (aE _)) ay ay) ⟨p,f,_,_,rfl,rfl,F,G,.mk ?_⟩;rw[Ul];refine dM (λh=>by refine av (aQ br) (q p H ?_ (af.refl H));unfold qt K0;rw[w4 h];exact g) (λh=>?_)
 .refine bg ?_;refine ak (b7 3 wK (cV ae2 ag1 aj8 kM cG (bQ aZ))) ⟨rfl,z,Str.ofString "\n",rfl,rfl,rfl,(by lia),λl hl=>?_⟩;rw[nK];have a:af H (ag H l (.lst ((mK z).map V.str))):=af.ag hl;have d:ag H l (.lst ((mK z).map V.str)) l=r6 ((mK z).map V.str):=aa;generalize ag H l (.lst ((mK z).map V.str))=H1 at a d;have I:=(n8 z).1;have J:z.l.count 10<=z.length:=by rw[<- bV];exact List.count_le_length
  refine ak (b7 4 wK (aK cQ (ez aD T.bD (bQ dh)) ai)) ⟨l,_,rfl,.inl (aV.of d),.mk ?_⟩;have L:(((mK z).map V.str).length:Int)-1=(gK z:Nat):=by unfold gK;rw[d5];lia
  show At _ _ _ [ρ p,ρ f,τ z,ρ l,some (.int ((((mK z).map V.str).length:Int)-1)),none] H1;rw[L];have hm:gK z<=1000:=by unfold gK;lia
  refine ak (bq (aA j9 (aC aO br ai) (aC aO bP ai) (aE _)) ay ay) ⟨bT.of (a _ _ i),aB (j:=0) rfl,bT.of (a _ _ n),aB (j:=0) rfl,.mk<|.mk<|?_⟩;refine dM (λo=>?_) (λo=>?_)
  .refine av (aQ (bG (cy (aK bh (aC aO br ai) eE) (aC aO br ai)))) ⟨bT.of (a _ _ i),aB (j:=0) rfl,bT.of (a _ _ i),aB (j:=1) rfl,(sL rfl),λr c=>q r _ ?_ (a.trans (af.ag c))⟩;have o:v.1>w.1:=by omega
   unfold qt K0;rw[C5 h,w4 o];exact aT aa ((x.ae a).new c)
  .have o:¬v.1>w.1:=by lia
   refine bg ?_;obtain⟨y,A,y2⟩:=GA (z:=z);have yl:y.length<=1000:=by have B:=(n8 z).2;have:=nQ (p0 A);lia
   refine aG (λk=>∀b D,b=(if gK z>0 then 0 else w.2)->D=H1->k [ρ p,ρ f,τ z,ρ l,ι (gK z:Nat),ι (b:Nat)] D) (b7 5 wK (dc (aA j9 eE ai (aE _)) ai (aC aO bP ai))) ?_ ?_
   .refine⟨.mk<|dM (λB=>λ_ m=>m 0 _ (by rw[w4 (by lia)]) rfl) (λB=>⟨bT.of (a _ _ n),aB (j:=1) rfl,λ_ m=>m w.2 _ (by rw[C5 (by lia)]) rfl⟩)⟩
   intro b D u M;subst M;have N:b<=100000:=by rw[u];split <;> omega
   have O:¬gK z>0->b=w.2:=λe=>by rw[u,C5 e]
   have R:w.2<=v.2:=by lia
   refine av (aQ (bG (cy (aK bh (aC aO bP ai) eE) (aK cQ (aK bh (aK bh gX (ez bz T.bD (bQ (aC aU dh (iQ fT ai))))) (aC aO br ai)) (aC aO bP ai))))) ⟨bT.of (a _ _ n),aB (j:=0) rfl,aV.of d,VH (by rw[d5,v3,A];rfl),_,rfl,bK (by lia),bT.of (a _ _ i),aB (j:=1) rfl,bT.of (a _ _ n),aB (j:=1) rfl,(sL rfl),λr c=>q r _ ?_ (a.trans (af.ag c))⟩;unfold qt K0;rw[C5 h,C5 o,<- u];refine aT ?_ ((x.ae a).new c);show ag _ r (.tup [.int ((w.1:Int)+(gK z:Nat)),.int ((b:Int)+(y.length:Int)+(v.2:Int)-(w.2:Int))]) r=t0 [aX (w.1+gK z),aX (b+sM z+v.2-w.2)];rw[aa];have U:((b:Int)+(y.length:Int)+(v.2:Int)-(w.2:Int))=((b+sM z+v.2-w.2:Nat):Int):=by lia
   rw[U];rfl
inductive Rj(vs:q7)(H:Hp)(Q:VK)(_:XK):Prop|mk(S:q0)(p f g:Addr)(v w u:Nat×Nat)(_:vs=[.ref p,.ref f,.ref g])(_:Ex S H)(_:Eh (hid S H) p v)(_:Eh (hid S H) f w)(_:Eh (hid S H) g u)(_:∀p' H',Eh (hid S H') p' (oG v w u)->af H H'->Q (.ref p') H')
def TV:bE P w K mg ap dJ 1 t.Kg t.P4 ["place","first","second"] Rj:=by
 refine T.J0.ok R3 λA H Q E h=>?_;obtain⟨S,p,f,g,v,w,u,rfl,s,c,d,r,q⟩:=h;room;have e:=aq _ _ c;have l:=aq _ _ d;have n:=aq _ _ r;have x:bT K H p ([(v.1:Int),(v.2:Int)].map V.int):=bT.of e;have y:bT K H f ([(w.1:Int),(w.2:Int)].map V.int):=bT.of l;have z:bT K H g ([(u.1:Int),(u.2:Int)].map V.int):=bT.of n;refine ak (bq (aA (Bo (aa6 (cS hr))) br bP (aE _)) ay ay) ⟨p,f,_,_,rfl,rfl,x,y,.mk ?_⟩;rw[FO];refine dM (λh=>by refine av (aQ br) (q p H ?_ (af.refl H));unfold oG;rw[w4 h];exact c) (λh=>bg ?_)
 refine ak (bq (aA (Bo (aa6 (cS hr))) br cG (aE _)) ay ay) ⟨p,g,_,_,rfl,rfl,x,z,.mk ?_⟩;rw[FO];refine dM (λo=>by refine av (aQ bP) (q f H ?_ (af.refl H));unfold oG;rw[C5 h,w4 o];exact d) (λo=>bg ?_)
 refine ak (bq (aA j9 (aC aO br ai) (aC aO cG ai) (aE _)) ay ay) ⟨bT.of e,aB (j:=0) rfl,bT.of n,aB (j:=0) rfl,.mk<|.mk<|dM (λi=>?_) (λi=>bg ?_)⟩
 .refine av (aQ (bG (cy (aK bh (aK cQ (aC aO br ai) (aC aO cG ai)) (aC aO bP ai)) (aC aO br ai)))) ⟨bT.of e,aB (j:=0) rfl,bT.of n,aB (j:=0) rfl,bT.of l,aB (j:=0) rfl,bT.of e,aB (j:=1) rfl,(sL rfl),λb a=>q b _ ?_ (af.ag a)⟩;have i:v.1>u.1:=by omega
  unfold oG;rw[C5 h,C5 o,w4 i];refine aT ?_ (s.new a);show ag H b (.tup [.int ((v.1:Int)-(u.1:Int)+(w.1:Int)),.int v.2]) b=t0 [aX (v.1-u.1+w.1),aX v.2];rw[aa,show ((v.1:Int)-(u.1:Int)+(w.1:Int))=((v.1-u.1+w.1:Nat):Int) by lia];rfl
 .have i:¬v.1>u.1:=by lia
  refine av (aQ (bG (cy (aC aO bP ai) (aK cQ (aK bh (aC aO bP ai) (aC aO br ai)) (aC aO cG ai))))) ⟨bT.of l,aB (j:=0) rfl,bT.of l,aB (j:=1) rfl,bT.of e,aB (j:=1) rfl,bT.of n,aB (j:=1) rfl,(sL rfl),λb a=>q b _ ?_ (af.ag a)⟩;unfold oG;rw[C5 h,C5 o,C5 i];refine aT ?_ (s.new a);show ag H b (.tup [.int w.1,.int ((w.2:Int)+(v.2:Int)-(u.2:Int))]) b=t0 [aX w.1,aX (w.2+v.2-u.2)];rw[aa,show ((w.2:Int)+(v.2:Int)-(u.2:Int))=((w.2+v.2-u.2:Nat):Int) by lia];rfl
noncomputable def df (i:Nat) (lt lv d:Addr) (b:V):List (Str×V):=[("row",.int i),("taken",.ref lt),("given",.ref lv),("places_ahead",.ref d),("places_behind",b)]
inductive K9(t:eZ)(vs:q7)(H:Hp)(Q:VK)(_:XK):Prop|mk(x dx lt lv d:Addr)(i:Nat)(_:vs=[.ref x,.int i,.ref lt,.ref lv,.ref d])(_:H x=s0 t.dw dx [])(_:Q .dj (ag H x (.ins t.dw dx (df i lt lv d .dj))))
def Sd:bE P w K mg ap dJ 1 t.GV t.Ol ["self","row","taken","given","places"] (K9 t):=by refine T.P9.ok S4 λe H Q E h=>?_;obtain⟨x,a,lt,b,d,i,rfl,c,q⟩:=h;room;refine ak (b6 br bP rfl) ⟨x,_,a,[],rfl,c,T.fW,T.oU,by decide,?_⟩;refine ak (b6 br cG rfl) ⟨x,_,a,[("row",.int i)],rfl,aa,T.fW,T.lN,by show 1<1000;decide,?_⟩;refine ak (b6 br dh rfl) ⟨x,_,a,[("row",.int i),("taken",.ref lt)],rfl,aa,T.fW,T.lE,by show 2<1000;decide,?_⟩;refine ak (b6 br eE rfl) ⟨x,_,a,[("row",.int i),("taken",.ref lt),("given",.ref b)],rfl,aa,T.fW,T.jt,by show 3<1000;decide,?_⟩;refine av (b6 br cR rfl) ⟨x,_,a,[("row",.int i),("taken",.ref lt),("given",.ref b),("places_ahead",.ref d)],rfl,aa,T.fW,T.gw,by show 4<1000;decide,?_⟩;rw[fV,fV,fV,fV];exact q
noncomputable def sf (tt d ld lu:Addr):List (Str×V):=[("tinted",.ref tt),("places",.ref d),("done",.ref ld),("undone",.ref lu)]
def wY(s:af H H')(h:H n=none):af (hid S H) (hid (λc=>S c\/c=n) H'):=λb o e=>aT (s _ _ (aq _ _ e)) (by
 rintro (z|z)
 .exact bI e z
 .exact au (aq _ _ e) h z)
def g8(hS:S n):af (hid S H) (hid S (ag H n o)):=by rw[iN hS];exact af.refl _
inductive Mm(t:eZ)(vs:q7)(H:Hp)(Q:VK)(_:XK):Prop|mk(x dx a lr:Addr)(R:q0)(ms:List aR)(rs:a9)(Gs:List bC)(_:vs=[.ref x,.ref a,.ref lr])(_:H x=s0 t.aG dx [])(_:Ex R H)(_:IsRules t (hid (λc=>R c\/c=x) H) a ms)(_:eK ms)(_:oF ms=none)(_:H lr=r6 (rs.map V.str))(_:rs.length<=100000)(_:Chain ms [0] rs Gs)(_:∀tt dt a' lg gs d ld lu H',bJ t (hid (λc=>((R c\/c=x)\/c=ld)\/c=lu) H') tt dt a' lg gs ms Gs->H' x=s0 t.aG dx (sf tt d ld lu)->DP (hid (λc=>((R c\/c=x)\/c=ld)\/c=lu) H') d []->H' ld=r6 []->H' lu=r6 []->H ld=none->ld≠lu->H lu=none->fY H H' x->Q .dj H')
def Rr:bE P w K mg ap dJ 9 t.Jw t.Pu ["self","rules","rows"] (Mm t):=by
 refine T.Q0.ok U3 λvs H Q E h=>?_;obtain⟨x,g,a,lr,R,ms,rs,Gs,rfl,W,X,hR,G,v,Y,Z,hC,q⟩:=h;room;refine ak (b6 br (fj T.Dm (VB T) hr.m rfl T.AR T.QV.b3 .nil aH (cy bP cG)) rfl) (λf U p ndt ne=>?_);have J:af H (ag (ag H U (.own f)) f (.ins t.bA U [])):=cD p ndt;refine⟨f,U,a,lr,(λc=>R c\/c=x),ms,rs,Gs,rfl,aa,(λz=>z.elim (λr=>by obtain⟨o,e⟩:=X _ r;rw[p] at e;cases e) (λz=>au W p z.symm)),(λb z=>z.elim (λr=>by obtain⟨o,e⟩:=X _ r;exact⟨o,J _ _ e⟩) (λz=>by rw[show b=x from z];exact⟨_,J _ _ W⟩)),hR.ae (wY J p),G,v,J _ _ Y,Z,hC,λa' lg gs H1 I1 f1 a1=>⟨rfl,?_⟩⟩;have s1:af H H1:=fY.fresh J p a1;clear a1 J f1;refine⟨x,_,g,[],rfl,s1 _ _ W,T.aN,T.bN,by decide,?_⟩;have y:ag H1 x (.ins t.aG g (dQ "tinted" (.ref f) [])) x=s0 t.aG g [("tinted",.ref f)]:=aa;have a2:fY H (ag H1 x (.ins t.aG g (dQ "tinted" (.ref f) []))) x:=s1.K3 fY.ag;have I2:=I1.ae (g8 (n:=x) (o:=.ins t.aG g (dQ "tinted" (.ref f) [])) (.inr rfl));generalize ag H1 x (.ins t.aG g (dQ "tinted" (.ref f) []))=H2 at y a2 I2;refine ak (b6 br kN rfl) (λd A=>⟨x,_,g,[("tinted",.ref f)],rfl,af.ag A _ _ y,T.aN,T.bH,by show 1<1000;decide,?_⟩);have B:d≠x:=λz=>by rw[z,y] at A;cases A
 have C:ag (ag H2 d (.dK [])) x (.ins t.aG g (dQ "places" (.ref d) [("tinted",.ref f)])) x=s0 t.aG g [("tinted",.ref f),("places",.ref d)]:=aa;have L:ag (ag H2 d (.dK [])) x (.ins t.aG g (dQ "places" (.ref d) [("tinted",.ref f)])) d=some (.dK []):=by rw[aj B,aa]
 have a3:fY H (ag (ag H2 d (.dK [])) x (.ins t.aG g (dQ "places" (.ref d) [("tinted",.ref f)]))) x:=λb o M u=>by rw[aj u];exact af.ag A _ _ (a2 b o M u)
 have I3:=(I2.ae (aJ (af.ag A (o:=.dK [])))).ae (g8 (n:=x) (o:=.ins t.aG g (dQ "places" (.ref d) [("tinted",.ref f)])) (.inr rfl));generalize ag (ag H2 d (.dK [])) x (.ins t.aG g (dQ "places" (.ref d) [("tinted",.ref f)]))=H3 at C L a3 I3;refine ak (b6 br (bM bu) rfl) ⟨sL rfl,λi l=>⟨x,_,g,[("tinted",.ref f),("places",.ref d)],rfl,af.ag l _ _ C,T.aN,T.fR,by show 2<1000;decide,?_⟩⟩;have D:i≠x:=λz=>by rw[z,C] at l;cases l
 have F:ag (ag H3 i (.lst [])) x (.ins t.aG g (dQ "done" (.ref i) [("tinted",.ref f),("places",.ref d)])) x=s0 t.aG g [("tinted",.ref f),("places",.ref d),("done",.ref i)]:=aa;have I:af (hid (λc=>R c\/c=x) H3) (hid (λc=>(R c\/c=x)\/c=i) (ag (ag H3 i (.lst [])) x (.ins t.aG g (dQ "done" (.ref i) [("tinted",.ref f),("places",.ref d)])))):=(wY (af.ag l) l).trans (g8 (.inl (.inr rfl)));have s:ag (ag H3 i (.lst [])) x (.ins t.aG g (dQ "done" (.ref i) [("tinted",.ref f),("places",.ref d)])) i=r6 []:=by rw[aj D,aa]
 have a4:fY H (ag (ag H3 i (.lst [])) x (.ins t.aG g (dQ "done" (.ref i) [("tinted",.ref f),("places",.ref d)]))) x:=λb o M u=>by rw[aj u];exact af.ag l _ _ (a3 b o M u)
 have I4:=I3.ae I;have N:=I _ _ (aT L (λz=>z.elim (λr=>by obtain⟨o,e⟩:=X _ r;rw[a2 _ _ e B] at A;cases A) B));have hl0:H i=none:=by
  cases e:H i with
  |none=>rfl
  |some o=>have:=a3 _ _ e D;rw[l] at this;cases this
 generalize ag (ag H3 i (.lst [])) x (.ins t.aG g (dQ "done" (.ref i) [("tinted",.ref f),("places",.ref d)]))=H4 at F s a4 I4 N;clear I;refine av (b6 br (bM bu) rfl) ⟨sL rfl,λlu j=>⟨x,_,g,[("tinted",.ref f),("places",.ref d),("done",.ref i)],rfl,af.ag j _ _ F,T.aN,T.eS,by show 3<1000;decide,?_⟩⟩;have O:lu≠x:=λz=>by rw[z,F] at j;cases j
 have S:af (hid (λc=>(R c\/c=x)\/c=i) H4) (hid (λc=>((R c\/c=x)\/c=i)\/c=lu) (ag (ag H4 lu (.lst [])) x (.ins t.aG g (sf f d i lu)))):=(wY (af.ag j) j).trans (g8 (.inl (.inl (.inr rfl))));have nlu:i≠lu:=λz=>by rw[z,j] at s;cases s
 have hu0:H lu=none:=by
  cases e:H lu with
  |none=>rfl
  |some o=>have:=a4 _ _ e O;rw[j] at this;cases this
 exact q f U a' lg gs d i lu _ (I4.ae S) aa ⟨[],rfl,S _ _ N,bf.nil⟩ (by show ag _ _ _ _=_;rw[aj D];exact af.ag j _ _ s) (by show ag _ _ _ _=_;rw[aj O,aa]) hl0 nlu hu0 (λb o M u=>by show ag _ _ _ _=_;rw[aj u];exact af.ag j _ _ (a4 b o M u))
inductive LX(t:eZ)(vs:q7)(H:Hp)(Q:VK)(_:XK):Prop|mk(x dx tt d ld lu:Addr)(_:vs=[.ref x])(_:H x=s0 t.aG dx (sf tt d ld lu))(_:Q (.ref tt) H)
def RN:bE P w K mg ap dJ 1 t.JZ t.Nd ["self"] (LX t):=by refine T.OR.ok SI λb H Q E h=>?_;obtain⟨x,c,e,d,f,g,rfl,a,q⟩:=h;room;exact av (aQ (aM br rfl)) (⟨a,T.aN,T.bN,rfl,q⟩)
inductive IV(t:eZ)(vs:q7)(H:Hp)(Q:VK)(_:XK):Prop|mk(x dx tt d ld lu:Addr)(sp:List (Str×Nat×Nat))(_:vs=[.ref x])(_:H x=s0 t.aG dx (sf tt d ld lu))(_:DP H d sp)(_:(bU sp).Nodup)(_:sp.length<64)(_:∀d' H',DP H' d' (dB sp)->H d'=none->af H H'->Q (.ref d') H')
def sC(hx:sp[i]?=some x)(hl:pp.length=i):bX (sp.take (i+1)) (pp++[p])=bX (sp.take i) pp++[(Sum.inr x.1,V.ref p)]:=by have a:=(d6.mp hx).1;rw[ae1 hx,IE (by rw[v6,hl];lia)];rfl
def KU:bE P w K mg ap dJ 1 t.Gw t.Q2 ["self"] (IV t):=by
 refine T.Ho.ok U1 λvs H Q E h=>?_;obtain⟨x,dx,tt,d,ld,lu,a,rfl,Y,⟨ps,A⟩,S,U,q⟩:=h;room;have B:(dB a).length=a.length:=by unfold dB;rw[d5,(gB _).length_eq,d5]
 have C:(gy (bU a)).length=a.length:=by rw[(gB _).length_eq,d5]
 refine av (aQ (nZ (@pA _ rfl) (by rfl) T.qN (by lk) (ao (@iM _ (az (AA 49 3)) _ ["self"] _ _ ("name") _ _ [("self",0)] _ _ (by walk_at "ck") (fF (sY (@qm _ rfl) (by rfl) T.yW (by lk) (ao (aM br rfl) bu (by left)) (by left) (by left) (by left) (by left))) (λ_ _ _ _=>by exact(bG (ao bP (ao (pV (cS hr) (@kc _ K _ _ _ _ br rfl (by left)) bP (λ_ _=>rfl)) bu (by left)) (by left)))) (by left) (by left) (by left) (by left)) bu (by left)) (by left) (by left) (by left) (by left))) (⟨Y,T.aN,T.bH,rfl,⟨d,_,bU a,rfl,A.ob,nX A.len,by rw[d5];exact U,λl hl=>⟨l,rfl,⟨_,aV.of aa⟩,?_⟩⟩⟩);have M:af H (ag H l (.lst ((gy (bU a)).map V.str))):=af.ag hl;have F:ag H l (.lst ((gy (bU a)).map V.str)) l=r6 ((gy (bU a)).map V.str):=aa;generalize ag H l (.lst ((gy (bU a)).map V.str))=H1 at M F;refine ie (xs:=(gy (bU a)).map V.str) (λi N z=>∃s f,N=s.map V.ref/\f.length=i/\bf (λq Z=>z q=t0 [kV Z.1,Z.2]) s (bX ((dB a).take i) f)/\bf (λp (y:Str×Nat×Nat)=>z p=t0 [aX y.2.1,aX y.2.2]) f ((dB a).take i)/\af H1 z) ⟨[],[],rfl,rfl,bf.nil,bf.nil,af.refl H1⟩ (cL (by rw[d5];lia)) (by rintro i N z _ ⟨s,f,_,_,_,_,u⟩;exact aV.of (u _ _ F)) ?_ (by rintro N z I ⟨s,f,rfl,b,g,r,u⟩ D W;rw[d5,C,<- B,ab3] at g r;rw[d5,C,<- B] at b;refine⟨D,s,bX (dB a) f,rfl,aa,(g.mono λ_ _ e=>af.ag W _ _ e),by rw[dH b];lia,λd' L=>?_⟩;rw[uE b (Dc S)];have s3:=(af.ag W (o:=.lst (s.map V.ref))).trans (af.ag L (o:=.dK (bX (dB a) f)));exact q d' _ ⟨f,b,aa,r.mono λ_ _ e=>s3 _ _ e⟩ ((M.trans (u.trans (af.ag W))).free L) (M.trans (u.trans s3)))
 .rintro i xv N z G I ⟨s,f,rfl,b,g,r,u⟩;rw[v3] at G;obtain⟨n,v,rfl⟩:=D1.mp G;have J:(dB a)[i]?=some (n,BK a n):=by unfold dB;rw[v3,v];rfl
  obtain⟨j,y,O,rfl⟩:=kX ((gB _).mem_iff.mp (p0 v));obtain⟨pj,ep⟩:∃pj,ps[j]?=some pj:=⟨_,i4 (A.len▸((d6.mp O).1))⟩
  have c:=M.trans u;have hg:=om.k (k:=Sum.inr y.1) (c _ _ A.ob);rw[kG S O ep] at hg;refine⟨c _ _ Y,T.aN,T.bH,rfl,d,_,rfl,hg,sL rfl,λp R=>fQ (by rw[d5];exact ((d6.mp v).1)) I ⟨s++[p],f++[pj],by rw[o0];rfl,by rw[i5,b];rfl,by rw[sC J b];exact bf.snoc (g.mono λ_ _ e=>af.ag R _ _ e) aa,by rw[ae1 J];refine bf.snoc (r.mono λ_ _ e=>af.ag R _ _ e) ?_;have:=A.pl.2 j _ _ ep O;rw[yh S O];exact af.ag R _ _ (c _ _ this),u.trans (af.ag R)⟩⟩
inductive VL(t:eZ)(vs:q7)(H:Hp)(Q:VK)(_:XK):Prop|mk(S:q0)(x dx tt d ld lu dt a lg:Addr)(gs:c6)(ms:List aR)(Gs:List bC)(G:bC)(sp:List (Str×Nat×Nat))(n:Str)(i j:Nat)(_:vs=[.ref x,.str n,.int i,.int j])(_:S x)(_:Ex S H)(_:H x=s0 t.aG dx (sf tt d ld lu))(_:isName n=true)(_:bJ t (hid S H) tt dt a lg gs ms Gs)(_:Gs[i]?=some G)(_:j<=G.bb.length)(_:G.bb.length<=1000)(_:DP (hid S H) d sp)(_:sp.length<64)(_:∀d' H',H' x=s0 t.aG dx (sf tt d' ld lu)->DP (hid S H') d' (rG sp n (i,j))->fY H H' x->Q .dj H')
def Wb:bE P w K mg ap dJ 4 t.Jj t.OD ["self","name","row","at"] (VL t):=by
 refine T.NW.ok HP λvs H Q E h=>?_;obtain⟨S,x,dx,W,d,ld,lu,X,a,lg,gs,ms,Gs,G,f,n,i,j,rfl,hSx,Y,F,J,I,hG,hj,hl,⟨ps,Z⟩,h64,q⟩:=h;room;have sz:=ad0;have nl:n.length<=8:=by unfold isName at J;simp only[ad4,ac4] at J;exact J.1.2
 refine ak (bq (g9 (gR (aS (Iq T) hr.m rfl T.JK T.zd.kp T.zd.b1 .nil aH (bQ bP)))) ay ay) ⟨n,rfl,by lia,λL s=>?_⟩;rw[J];refine⟨mH (bg ?_)⟩;have I1:=(I.ae (aJ s)).ae aq;refine ak (aY (bw (aM br rfl) T.aL T.t9 (xh T) hr.m T.pK.b3 .nil aH (cy cG dh))) (⟨(s _ _ F),T.aN,T.bN,rfl,⟨I1.ob,rfl,W,X,a,lg,gs,ms,Gs,G,i,j,rfl,I1,hG,hj,hl,?_⟩⟩);have u:=Z.ae (aJ s);refine ak (b7 4 HP (pO o5 T.qN (bQ (aM br rfl)))) (⟨(s _ _ F),T.aN,T.bH,rfl,⟨d,_,rfl,aq _ _ u.ob,λd' v=>?_⟩⟩);have N:af L (ag L d' (.dK (bX f ps))):=af.ag v;have M:ag L d' (.dK (bX f ps)) d'=some (.dK (bX f ps)):=aa;generalize ag L d' (.dK (bX f ps))=H2 at N M;refine ak (pS (cS hr) eE bP (bG (cy cG dh)) rfl) ⟨sL rfl,λp g=>⟨d',_,rfl,xA.k (k:=Sum.inr n) (af.ag g _ _ M) (by rw[dH Z.len];lia),?_⟩⟩;have l:=s.trans N;have O:=Y.ae l;have c:H d'=none:=s.free v;have R:¬S p:=O.new g;have A:d'≠x:=λz=>by rw[z,F] at c;cases c
 have U:Eh (hid S (ag H2 p (.tup [aX i,aX j]))) p (i,j):=aT aa R;have D2:Qq (hid S (ag H2 p (.tup [aX i,aX j]))) d f ps:=(u.ae (aJ N)).ae (aJ (af.ag g));obtain⟨B,l',k',a'⟩:=Kd (n:=n) D2 U;rw[k'];have r:=af.ag g (o:=.tup [aX i,aX j]) _ _ (l _ _ F);have C:af H (ag H2 p (.tup [aX i,aX j])):=l.trans (af.ag g);have D:ag H2 p (.tup [aX i,aX j]) d'=some (.dK (bX f ps)):=af.ag g _ _ M;show At _ _ _ _ (ag (ag H2 p (.tup [aX i,aX j])) d' (.dK (bX (rG f n (i,j)) B)));generalize ag H2 p (.tup [aX i,aX j])=H3 at a' r C D;refine av (b6 br eE rfl) ⟨x,_,dx,_,rfl,(by rw[aj (aa4 A)];exact r),T.aN,T.bH,by show 4<1000;decide,?_⟩;refine q d' _ aa ⟨B,l',aT (by rw[aj A,aa]) (Y.new c),a'.mono λb y e=>aT (by have e:=aq _ _ e;rw[aj (bL e r),aj (bL e D)];exact e) (bI e)⟩ λb o hb nb=>by rw[aj nb,aj (au hb c)];exact C _ _ hb
inductive Lc(t:eZ)(vs:q7)(H:Hp)(Q:VK)(_:XK):Prop|mk(S:q0)(x dx tt d ld lu:Addr)(sp:List (Str×Nat×Nat))(n:Str)(_:vs=[.ref x,.str n])(_:S x)(_:Ex S H)(_:H x=s0 t.aG dx (sf tt d ld lu))(_:n∈bU sp)(_:(bU sp).Nodup)(_:DP (hid S H) d sp)(_:∀d' H',H' x=s0 t.aG dx (sf tt d' ld lu)->DP (hid S H') d' (jS sp n)->fY H H' x->Q .dj H')
def UG:bE P w K mg ap dJ 1 t.Hv t.Pe ["self","name"] (Lc t):=by
 refine T.M8.ok Er λW H Q E h=>?_;obtain⟨S,x,A,X,d,Y,Z,p,n,rfl,F,G,c,I,s,⟨f,u⟩,q⟩:=h;room;obtain⟨j,y,B,rfl⟩:=kX I;obtain⟨pj,L⟩:∃pj,f[j]?=some pj:=⟨_,i4 (u.len▸((d6.mp B).1))⟩
 have C:=kG s B L;have g:=aq _ _ u.ob;refine ak (bq (Al (vo (cS hr) bP (aM br rfl))) ay ay) ⟨c,T.aN,T.bH,rfl,d,_,rfl,om.k (k:=Sum.inr y.1) g,.mk ?_⟩;rw[C];refine mH (bg ?_);refine ak (b7 2 Er (pO o5 T.qN (bQ (aM br rfl)))) (⟨c,T.aN,T.bH,rfl,⟨d,_,rfl,g,λd' a=>?_⟩⟩);have i:af H (ag H d' (.dK (bX p f))):=af.ag a;have r:ag H d' (.dK (bX p f)) d'=some (.dK (bX p f)):=aa;generalize ag H d' (.dK (bX p f))=H2 at i r;refine ak (aY (xR cG bP ⟨rfl,rfl,rfl,rfl⟩)) ⟨d',rfl,.inl ⟨_,.inl r⟩,_,Sum.inr y.1,_,r,rfl,C,?_⟩;have l:d'≠x:=λz=>by rw[z,c] at a;cases a
 obtain⟨v,N,O,R⟩:=xj (n:=y.1) (u.ae (aJ i)).pl;rw[O];refine av (b6 br cG rfl) ⟨x,_,A,_,rfl,(by rw[aj (aa4 l)];exact i _ _ c),T.aN,T.bH,by show 4<1000;decide,?_⟩;refine q d' _ aa ⟨v,N,aT (by rw[aj l,aa]) (G.new a),R.mono λb z e=>aT (by have e:=aq _ _ e;rw[aj (bL e (i _ _ c)),aj (bL e r)];exact e) (bI e)⟩ λb o D U=>by rw[aj U,aj (au D a)];exact i _ _ D
inductive Tv(t:eZ)(vs:q7)(H:Hp)(Q:VK)(_:XK):Prop|mk(S:q0)(x dx tt d ld lu dt a lg lt:Addr)(gs:c6)(ms:List aR)(Gs:List bC)(ds:q7)(i:Nat)(m:Int)(_:vs=[.ref x,.int i,.ref lt,.int m])(_:S x)(_:S ld)(_:Ex S H)(_:H x=s0 t.aG dx (sf tt d ld lu))(_:bJ t (hid S H) tt dt a lg gs ms Gs)(_:Gs.length<=100000)(_:H ld=r6 ds)(_:ds.length<=100000)(_:∀dd mE lv lu' H',H' x=s0 t.aG dx (sf tt d ld lu')->H' ld=r6 (ds++[.ref dd])->H' lu'=r6 []->H' dd=s0 t.dw mE (df i lt lv d .dj)->H' lv=r6 (b9 ((Gs.map (·.bb)).map V.str) (some (i:Int)) (some ((i:Int)+m)))->H dd=none->H lv=none->H lu'=none->lu'≠lv->(∀b o,H b=some o->b≠x->b≠ld->H' b=some o)->Q .dj H')
def Jf:bE P w K mg ap dJ 3 t.Fd t.P5 ["self","row","taken","many"] (Tv t):=by
 refine T.IZ.ok F9 λvs H Q E h=>?_;obtain⟨S,x,O,R,d,ld,lu,dt,a,lg,lt,gs,ms,G,W,i,m,rfl,hSx,hSl,hE,y,I,X,A,hdl,q⟩:=h;room;have I0:=I.ae aq;refine ak (b7 4 F9 (bS cZ (bR (aM br rfl) T.aL T.rE (mP T) hr.m T.pM.b1 .nil aH) (bO bP) (bO (aK bh bP dh)))) (⟨y,T.aN,T.bN,rfl,⟨I0.ob,rfl,R,dt,a,lg,gs,ms,G,rfl,I0,X,λl1 Y h1 f1 s1=>?_⟩⟩);refine⟨aV.of h1,λg J=>?_⟩;have B:ag Y g (.lst (b9 ((G.map (·.bb)).map V.str) (some (i:Int)) (some ((i:Int)+m)))) g=r6 (b9 ((G.map (·.bb)).map V.str) (some (i:Int)) (some ((i:Int)+m))):=aa;have C:af H (ag Y g (.lst (b9 ((G.map (·.bb)).map V.str) (some (i:Int)) (some ((i:Int)+m))))):=s1.trans (af.ag J);have c:H g=none:=s1.free J;generalize ag Y g (.lst (b9 ((G.map (·.bb)).map V.str) (some (i:Int)) (some ((i:Int)+m))))=H2 at B C;have p:=C _ _ A;refine ak (aY (cV Z4 aa0 aa3 bW (aM br rfl) (bQ (fj T.MG (Sd T) hr.m rfl T.Fz T.P9.b5 .nil aH (ao bP (ao cG (cy eE (aM br rfl)))))))) (⟨(C _ _ y),T.aN,T.fR,rfl,⟨.inl ⟨rfl,_,aV.of p⟩,C _ _ y,T.aN,T.bH,rfl,λj u v L ne=>⟨j,u,lt,g,d,i,rfl,aa,rfl,?_⟩⟩⟩);rw[fV];have F:af H2 (ag (ag H2 u (.own j)) j (.ins t.dw u (df i lt g d .dj))):=cD v L;have r:ag (ag H2 u (.own j)) j (.ins t.dw u (df i lt g d .dj)) j=s0 t.dw u (df i lt g d .dj):=aa;generalize ag (ag H2 u (.own j)) j (.ins t.dw u (df i lt g d .dj))=H3 at F r;have D:=C.trans F;refine⟨F _ _ p,cL (by lia),?_⟩;have M:ld≠x:=bL A y;have N:ag H3 ld (.lst (W++[.ref j])) x=s0 t.aG O (sf R d ld lu):=by rw[aj (aa4 M)];exact D _ _ y
 refine av (b6 br (bM bu) rfl) ⟨sL rfl,λl f=>⟨x,_,O,_,rfl,af.ag f _ _ N,T.aN,T.eS,by show 4<1000;decide,?_⟩⟩;have Z:l≠x:=λz=>by rw[z,N] at f;cases f
 have nul:l≠ld:=λz=>by rw[z,aa] at f;cases f
 have s:H3 l=none:=by rw[aj nul] at f;exact f
 have U:∀{b o},ag H3 ld (.lst (W++[.ref j])) b=some o->b≠x->ag (ag (ag H3 ld (.lst (W++[.ref j]))) l (.lst [])) x (.ins t.aG O (dQ "undone" (.ref l) (sf R d ld lu))) b=some o:=λ{b o} e n=>by rw[aj n];exact af.ag f _ _ e
 have n1:j≠x:=λz=>by rw[z,C _ _ y] at v;cases v
 have n2:g≠ld:=λz=>by rw[z,A] at c;cases c
 have n3:g≠x:=λz=>by rw[z,y] at c;cases c
 exact q j u g l _ aa (U aa M) (by rw[aj Z,aa]) (U (by rw[aj (bL r (F _ _ p))];exact r) n1) (U (by rw[aj n2];exact F _ _ B) n3) (C.free v) c (D.free s) (λz=>by rw[z,F _ _ B] at s;cases s) (λb o hb n1 n2=>U (by rw[aj n2];exact D _ _ hb) n1)
structure SDone(t:eZ)(S:q0)(H H':Hp)(x dx tt dt a ld:Addr)(ms:List aR)(Gs Gs':List bC)(ds:q7)(sp':List (Str×Nat×Nat))(d:Addr)(i:Nat)(taken given:q7):Prop where
 ex:∃d' lu dd mE lt lv lg gs,H' x=s0 t.aG dx (sf tt d' ld lu)/\bJ t (hid (λc=>(S c\/c=dd)\/c=lu) H') tt dt a lg gs ms Gs'/\DP (hid (λc=>(S c\/c=dd)\/c=lu) H') d' sp'/\H' lu=r6 []/\H' ld=r6 (ds++[.ref dd])/\H' dd=s0 t.dw mE (df i lt lv d .dj)/\H' lt=r6 taken/\H' lv=r6 given/\H d'=none/\H dd=none/\H lt=none/\H lv=none/\H lu=none/\lt≠lu/\lv≠lu
 keep:∀b o,H b=some o->b≠x->b≠tt->b≠ld->H' b=some o
inductive UN(t:eZ)(vs:q7)(H:Hp)(Q:VK)(_:XK):Prop|mk(S:q0)(x dx tt d ld lu dt a lg:Addr)(gs:c6)(ms:List aR)(Gs:List bC)(G:bC)(sp:List (Str×Nat×Nat))(ds:q7)(i j:Nat)(z:Str)(fs:a9)(ah bk:Nat)(Gm:List bC)(c:Nat)(Gs':List bC)(_:vs=[.ref x,.int i,.int j,.str z])(_:S x)(_:S ld)(_:Ex S H)(_:H x=s0 t.aG dx (sf tt d ld lu))(_:bJ t (hid S H) tt dt a lg gs ms Gs)(_:DP (hid S H) d sp)(_:(bU sp).Nodup)(_:sp.length<64)(_:(∀y∈sp,y.2.1<=100000/\y.2.2<=100000))(_:H ld=r6 ds)(_:ds.length<=100000)(_:eK ms)(_:Gs[i]?=some G)(_:j<=G.bb.length)(_:G.bb.length<=1000)(_:z.length<=1000)(_:Txt.split (lM G.bb j z) (Str.ofString "\n")=fs)(_:Gs.length<=50000)(_:Gs'.length<=100000)(_:fs.length<=50000)(_:fs≠[])(_:iL ms Gs i 1 fs ah bk Gm c Gs')(_:∀H',SDone t S H H' x dx tt dt a ld ms Gs Gs' ds (sp.map λy=>(y.1,qt y.2 (i,j) z)) d i (b9 ((Gs.map (·.bb)).map V.str) (some (i:Int)) (some ((i:Int)+1))) (b9 ((Gs'.map (·.bb)).map V.str) (some (i:Int)) (some ((i:Int)+((JV z (Str.ofString "\n"):Int)+1))))->Q (.int ((Gm.length+c:Nat):Int)) H')
def ir(sp:List (Str×Nat×Nat))(f:Str×Nat×Nat->Nat×Nat):bU (sp.map λy=>(y.1,f y))=bU sp:=by show List.map _ (List.map _ _)=_;rw[ag3];rfl
def uX(h:H1 d=some (.dK cp))(s:af (ag H1 d (.mC o (.dK cp))) H2):af H1 (ag H2 d (.dK cp)):=λb u e=>by
 by_cases z:b=d
 .rw[z,h] at e;cases e;rw[z,aa]
 .rw[aj z];exact s _ _ (by rw[aj z];exact e)
def Cc(h:H1 d=some (.dK cp))(e:hid S H1 p=t0 xs):hid S (ag H1 d (.mC o (.dK cp))) p=t0 xs :=
 aT (by rw[aj (bL (aq _ _ e) h)];exact aq _ _ e) (bI e)
def IP(h:Ex S H1):Ex S (ag H1 d u):=λb z=>by
 by_cases e:b=d
 .exact⟨u,by rw[e,aa]⟩
 .obtain⟨o,a⟩:=h b z;exact⟨o,by rw[aj e];exact a⟩
def Vs:bE P w K mg ap dJ 10 t.BD t.JF ["self","row","at","text"] (UN t):=by
 refine T.yy.ok qR λvs H Q E h=>?_;obtain⟨S,x,dx,tt,d,ld,lu,dt,a,lg,gs,ms,Gs,G,s,ds,i,j,z,fs,ah,bk,Gm,c,Gs',rfl,M,hSl,hE,hx,I,⟨ps,N⟩,hn,h64,hb,hld,hdl,GM_,hG,hj,hl,hz,hfs,hl1,hl1',hl2,hne,C,q⟩:=h;room;have I0:=I.ae aq;have hi:i<=50000:=by have:=(d6.mp hG).1;lia
 refine ak (b7 4 qR (bR (aM br rfl) T.aL T.rE (mP T) hr.m T.pM.b1 .nil aH)) (⟨hx,T.aN,T.bN,rfl,⟨I0.ob,rfl,tt,dt,a,lg,gs,ms,Gs,rfl,I0,by lia,λla H1 h1 f1 s1=>?_⟩⟩);have I1:=I.ae (aJ s1);refine ak (b7 5 qR (bw (aM br rfl) T.aL T.NK (RG T) hr.m T.CG.b4 .nil aH (ao bP (cy cG dh)))) (⟨(s1 _ _ hx),T.aN,T.bN,rfl,⟨aq _ _ I1.ob,rfl,S,tt,dt,a,lg,gs,ms,Gs,G,i,j,z,fs,ah,bk,Gm,c,Gs',rfl,hE.ae s1,I1,GM_,hG,hj,hl,hz,hfs,hl1,hl2,hne,C,λlg' gs' H2 I2 f2 a2=>?_⟩⟩);have htt:=aq _ _ I.ob;have nS:¬S tt:=bI I.ob;have k2:∀{b o},H b=some o->b≠tt->H2 b=some o:=λ{b o} e n=>a2 b o (s1 _ _ e) n;have hx2:=k2 hx (λy=>nS (y▸M));have hld2:=k2 hld (λy=>nS (y▸hSl));have hla2:=a2 _ _ h1 (bL h1 (s1 _ _ htt));have hE2:Ex S H2:=λb y=>let ⟨o,ho⟩:=hE b y;⟨o,k2 ho (λe=>nS (e▸y))⟩;have hd2:Qq (hid S H2) d s ps:=by refine⟨N.len,aT (k2 (aq _ _ N.ob) (bL (aq _ _ N.ob) htt)) (bI N.ob),N.pl.mono λp y e=>aT (k2 (aq _ _ e) (bL (aq _ _ e) htt)) (bI e)⟩
 have O:∀{b},H2 b=none->b≠tt->H b=none:=λ{b} e n=>by
  cases g:H b with
  |none=>rfl
  |some o=>rw[k2 g n] at e;cases e
 have tt2:=aq _ _ I2.ob;refine ak (aY (bw br T.aN T.Ph (Jf T) hr.m T.IZ.b4 .nil aH (ao bP (cy (bS cZ eE (bO bP) (bO (aK bh bP ai))) (aK bh (cV ae2 F.slot_str_count F.type_str_count JB dh (bQ aZ)) ai))))) ⟨hx2,rfl,aV.of hla2,λlt flt=>⟨rfl,z,Str.ofString "\n",rfl,rfl,.mk ?_⟩⟩;have A:af H2 (ag H2 lt (.lst (b9 ((Gs.map (·.bb)).map V.str) (some (i:Int)) (some ((i:Int)+1))))):=af.ag flt;have v:ag H2 lt (.lst (b9 ((Gs.map (·.bb)).map V.str) (some (i:Int)) (some ((i:Int)+1)))) lt=r6 (b9 ((Gs.map (·.bb)).map V.str) (some (i:Int)) (some ((i:Int)+1))):=aa;generalize ag H2 lt (.lst (b9 ((Gs.map (·.bb)).map V.str) (some (i:Int)) (some ((i:Int)+1))))=H3 at A v;have R:H lt=none:=O flt (λy=>by rw[y,tt2] at flt;cases flt);refine⟨S,x,dx,tt,d,ld,lu,dt,a,lg',lt,gs',ms,Gs',ds,i,_,rfl,M,hSl,hE2.ae A,A _ _ hx2,I2.ae (aJ A),hl1',A _ _ hld2,hdl,λdd mE lv lu' H4 Y e2 e3 e4 e5 e6 e7 e9 e10 e8=>?_⟩;have s34:∀{b o},H2 b=some o->b≠x->b≠ld->H4 b=some o:=λ{b o} e n1 n2=>e8 b o (A _ _ e) n1 n2;have sh:af (hid S H2) (hid S H4):=λb o e=>aT (s34 (aq _ _ e) (λy=>bI e (y▸M)) (λy=>bI e (y▸hSl))) (bI e);have sh2:af (hid S H2) (hid (λc=>(S c\/c=dd)\/c=lu') H4):=λb o e=>aT (aq _ _ (sh _ _ e)) (by
  have e0:=A _ _ (aq _ _ e);rintro ((y|y)|y)
  .exact bI e y
  .rw[y,e6] at e0;cases e0
  .rw[y,e9] at e0;cases e0)
 have I4':=I2.ae sh2;have CI:lt≠lu':=λy=>by rw[y,e9] at v;cases v
 have hd4:=hd2.ae sh;have hE4:Ex S H4:=λb y=>by
  by_cases z1:b=x
  .exact⟨_,z1▸Y⟩
  .by_cases z2:b=ld
   .exact⟨_,z2▸e2⟩
   .obtain⟨o,ho⟩:=hE2 b y;exact⟨o,s34 ho z1 z2⟩
 have U:H4 lt=r6 (b9 ((Gs.map (·.bb)).map V.str) (some (i:Int)) (some ((i:Int)+1))):=e8 _ _ v (bL v (A _ _ hx2)) (λy=>by rw[y,hld] at R;cases R);have J:=aq _ _ hd4.ob;have fdd:H dd=none:=O (A.free e6) (λy=>by rw[y,A _ _ tt2] at e6;cases e6);have flu:H lu'=none:=O (A.free e9) (λy=>by rw[y,A _ _ tt2] at e9;cases e9);have flv:H lv=none:=O (A.free e7) (λy=>by rw[y,A _ _ tt2] at e7;cases e7);have k4:∀b o,H b=some o->b≠x->b≠tt->b≠ld->H4 b=some o:=λb o e n1 n2 n3=>s34 (k2 e n2) n1 n3;have tt4:=aq _ _ (I2.ae sh).ob;clear s34 sh sh2 e8 e6 e7 e9 A v I2 hd2 hE2 O I1 I0 hla2 hx2 hld2;refine ak (b6 br (nZ (@pA _ rfl) (by rfl) T.qN (by lk) (ao (Ca (@iM _ (az (AA 49 6)) _ ["self","row","at","text","ahead","count"] _ _ ("name") _ _ [("text",3),("row",1),("at",2),("self",0)] _ _ (by walk_at "ck") (rQ (aM br rfl)) (λ_ _ _ _=>by exact(bG (ao eE (ao (aS (Ve T) hr.m rfl T.Rl T.HL.kp T.HL.b3 .nil aH (ao (pV (cS hr) (@kc _ K _ _ _ _ dh rfl (by left)) eE (λ_ _=>rfl)) (ao (bG (ao bP (ao cG bu (by left)) (by left))) (ao br bu (by left)) (by left)) (by left)) (by left) (by left) (by left)) bu (by left)) (by left)))) (by left) (by left) (by left) (by left))) bu (by left)) (by left) (by left) (by left) (by left)) rfl) (⟨Y,T.aN,T.bH,rfl,⟨d,_,rfl,J,λo nf=>?_⟩⟩);have hsl:(s.map λy=>(y.1,qt y.2 (i,j) z)).length=s.length:=d5 ..;refine vW (λk ys H5=>∃Z L,ys=Z.map V.ref/\L.length=k/\bf (λq kv=>H5 q=t0 [kV kv.1,kv.2]) Z (bX ((s.map λy=>(y.1,qt y.2 (i,j) z)).take k) L)/\bf (λp (y:Str×Nat×Nat)=>hid S H5 p=t0 [aX y.2.1,aX y.2.2]) L ((s.map λy=>(y.1,qt y.2 (i,j) z)).take k)/\af (ag H4 d (.mC o (.dK (bX s ps)))) H5) ⟨[],[],rfl,rfl,bf.nil,bf.nil,af.refl _⟩ (cL (by rw[dH N.len];lia)) (by rintro k ys H5 _ ⟨Z,L,_,_,_,_,s5⟩;exact s5 _ _ aa) ?_ ?_
 .rintro k kv ys H5 hkv hyl ⟨Z,L,rfl,B,W,hp5,s5⟩;have hk:k<s.length:=by rw[<- dH N.len];exact(d6.mp hkv).1
  have hy:s[k]?=some s[k]:=i4 hk;obtain⟨pk,ep⟩:∃pk,ps[k]?=some pk:=⟨_,i4 (N.len▸hk)⟩
  generalize s[k]=y at hy;rw[zo hy ep] at hkv;cases hkv;have hyk:(s.map λy=>(y.1,qt y.2 (i,j) z))[k]?=some (y.1,qt y.2 (i,j) z):=by rw[v3,hy];rfl
  obtain⟨y1,y2⟩:=hb y (p0 hy);have hE5:Ex S H5:=(IP hE4).ae s5;have hpk:=(aJ s5) _ _ (Cc (o:=o) J (hd4.pl.2 k _ _ ep hy));refine⟨s5 _ _ (by rw[aj (bL Y J)];exact Y),T.aN,T.bH,rfl,d,_,rfl,.inl ⟨_,Sum.inr y.1,.inr ⟨o,s5 _ _ aa⟩,rfl,(kG hn hy ep).symm⟩,sL rfl,λf hf=>⟨S,pk,f,y.2,(i,j),z,rfl,hE5.ae (af.ag hf),(aJ (af.ag hf)) _ _ hpk,aT aa (hE5.new hf),hz,y1,y2,(by show i<=_;lia),(by show j<=_;lia),λp' H6 hp' s6=>⟨sL rfl,λr hr'=>fQ (by rw[dH N.len];exact hk) hyl ⟨Z++[r],L++[p'],by rw[o0];rfl,by rw[i5,B];rfl,by rw[sC hyk B];exact bf.snoc (W.mono λ_ _ e=>af.ag hr' _ _ (s6 _ _ (af.ag hf _ _ e))) aa,by rw[ae1 hyk];exact bf.snoc (hp5.mono λ_ _ e=>(aJ ((af.ag hf).trans (s6.trans (af.ag hr')))) _ _ e) ((aJ (af.ag hr')) _ _ hp'),s5.trans ((af.ag hf).trans (s6.trans (af.ag hr')))⟩⟩⟩⟩
 .rintro ys H5 hyl ⟨Z,L,rfl,B,W,hp5,s5⟩ D hD;rw[dH N.len,<- hsl,ab3] at W hp5;rw[dH N.len,<- hsl] at B;have hnd:(bU (s.map λy=>(y.1,qt y.2 (i,j) z))).Nodup:=by rw[ir];exact hn
  have hd5:H5 d=some (.mC o (.dK (bX s ps))):=s5 _ _ aa;have ndD:d≠D:=au hd5 hD;refine⟨d,o,_,by rw[aj ndD];exact hd5,nf,D,Z,bX (s.map λy=>(y.1,qt y.2 (i,j) z)) L,rfl,by rw[aj (aa4 ndD),aa],⟨W.1,λk b kv g1 g2=>by have e:=W.2 k b kv g1 g2;rw[aj (bL e hd5)];exact af.ag hD _ _ e⟩,by rw[dH B,hsl];lia,λd' hd'=>?_⟩
  rw[uE B hnd];have s6:af H4 (ag (ag H5 D (.lst (Z.map V.ref))) d (.dK (bX s ps))):=uX J (s5.trans (af.ag hD));have hpp:bf (λp (y:Str×Nat×Nat)=>hid S (ag (ag H5 D (.lst (Z.map V.ref))) d (.dK (bX s ps))) p=t0 [aX y.2.1,aX y.2.2]) L (s.map λy=>(y.1,qt y.2 (i,j) z)):=hp5.mono λp y e=>aT (by rw[aj (bL (aq _ _ e) hd5)];exact af.ag hD _ _ (aq _ _ e)) (bI e);generalize ag (ag H5 D (.lst (Z.map V.ref))) d (.dK (bX s ps))=H6 at s6 hpp hd';have s7:af H6 (ag H6 d' (.dK (bX (s.map λy=>(y.1,qt y.2 (i,j) z)) L))):=af.ag hd';have hd7:ag H6 d' (.dK (bX (s.map λy=>(y.1,qt y.2 (i,j) z)) L)) d'=some (.dK (bX (s.map λy=>(y.1,qt y.2 (i,j) z)) L)):=aa;have l:H4 d'=none:=s6.free hd';generalize ag H6 d' (.dK (bX (s.map λy=>(y.1,qt y.2 (i,j) z)) L))=H7 at s7 hd7;have X:=s6.trans s7;refine⟨x,_,dx,_,rfl,X _ _ Y,T.aN,T.bH,by show 4<1000;decide,?_⟩;have ndx:d'≠x:=λy=>by rw[y,Y] at l;cases l
  have ku:∀{b u},H4 b=some u->b≠x->ag H7 x (.ins t.aG dx (dQ "places" (.ref d') (sf tt d ld lu'))) b=some u:=λ{b u} e n=>by rw[aj n];exact X _ _ e
  have su2:af (hid (λc=>(S c\/c=dd)\/c=lu') H7) (hid (λc=>(S c\/c=dd)\/c=lu') (ag H7 x (.ins t.aG dx (dQ "places" (.ref d') (sf tt d ld lu'))))):=g8 (.inl (.inl M));have more:∀{b:Addr} {o:HO},hid S H7 b=some o->(∀C y fs,o ≠ .ins C y fs)->(∀ys,o ≠ .lst ys)->hid (λc=>(S c\/c=dd)\/c=lu') H7 b=some o:=λ{b o} h n1 n2=>aT (aq _ _ h) (by
   have h:=aq _ _ h;rintro ((y|y)|y)
   .exact bI (by assumption) y
   .rw[y,(X _ _ e4)] at h;exact n1 _ _ _ (aa1 h).symm
   .rw[y,(X _ _ e3)] at h;exact n2 _ (aa1 h).symm)
  refine av (aQ gX) (q _ ⟨⟨d',lu',dd,mE,lt,lv,lg',gs',aa,(I4'.ae (aJ X)).ae su2,⟨L,B,su2 _ _ (more (aT hd7 (hE4.new l)) (λ_ _ _ z=>by cases z) (λ_ z=>by cases z)),hpp.mono λp y e=>su2 _ _ (more ((aJ s7) _ _ e) (λ_ _ _ z=>by cases z) (λ_ z=>by cases z))⟩,ku e3 (λy=>by rw[y,Y] at e3;cases e3),ku e2 (λy=>by rw[y,Y] at e2;cases e2),ku e4 (λy=>by rw[y,hx] at fdd;cases fdd),ku U (λy=>by rw[y,Y] at U;cases U),ku e5 (λy=>by rw[y,Y] at e5;cases e5),?_,fdd,R,flv,flu,CI,aa4 e10⟩,λb u e n1 n2 n3=>ku (k4 b u e n1 n2 n3) n1⟩)
  .cases g:H d' with
   |none=>rfl
   |some u =>
    have:=k4 d' u g ndx (λy=>by rw[y,tt4] at l;cases l) (λy=>by rw[y,e2] at l;cases l);rw[l] at this;cases this
inductive Rf(t:eZ)(vs:q7)(H:Hp)(Q:VK)(_:XK):Prop|mk(S:q0)(x dx tt d ld lu dt a lg:Addr)(gs:c6)(ms:List aR)(Gs:List bC)(G:bC)(sp:List (Str×Nat×Nat))(ds:q7)(G2:bC)(i j i2 j2:Nat)(ah bk:Nat)(Gm:List bC)(c:Nat)(Gs':List bC)(_:vs=[.ref x,.int i,.int j,.int i2,.int j2])(_:S x)(_:S ld)(_:Ex S H)(_:H x=s0 t.aG dx (sf tt d ld lu))(_:bJ t (hid S H) tt dt a lg gs ms Gs)(_:DP (hid S H) d sp)(_:(bU sp).Nodup)(_:sp.length<64)(_:(∀y∈sp,y.2.1<=100000/\y.2.2<=100000))(_:H ld=r6 ds)(_:ds.length<=100000)(_:eK ms)(_:Gs[i]?=some G)(_:j<=G.bb.length)(_:G.bb.length<=1000)(_:Gs[i2]?=some G2)(_:j2<=G2.bb.length)(_:G2.bb.length<=1000)(_:HT.gY [(i:Int),j] [(i2:Int),j2]=false)(_:i<=i2)(_:Gs.length<=50000)(_:Gs'.length<=100000)(_:iL ms Gs i (i2-i+1) [qF G.bb j G2.bb j2] ah bk Gm c Gs')(_:∀H',SDone t S H H' x dx tt dt a ld ms Gs Gs' ds (sp.map λy=>(y.1,oG y.2 (i,j) (i2,j2))) d i (b9 ((Gs.map (·.bb)).map V.str) (some (i:Int)) (some ((i2:Int)+1))) (b9 ((Gs'.map (·.bb)).map V.str) (some (i:Int)) (some ((i:Int)+1)))->Q (.int ((Gm.length+c:Nat):Int)) H')
def V0:bE P w K mg ap dJ 10 t.BZ t.FD ["self","row","at","row2","at2"] (Rf t):=by
 refine T.CA.ok qO λvs H Q E h=>?_;obtain⟨S,x,dx,tt,d,ld,lu,dt,a,lg,gs,ms,Gs,G,s,ds,G2,i,j,A,J,ah,bk,Gm,c,Gs',rfl,N,hSl,hE,hx,I,⟨ps,O⟩,hn,h64,hb,hld,hdl,GM_,hG,hj,hl,hG2,hj2,hlb,hxx,hii,hl1,hl1',C,q⟩:=h;room;have I0:=I.ae aq;have hi:i<=50000:=by have:=(d6.mp hG).1;lia
 refine ak (b7 5 qO (bR (aM br rfl) T.aL T.rE (mP T) hr.m T.pM.b1 .nil aH)) (⟨hx,T.aN,T.bN,rfl,⟨I0.ob,rfl,tt,dt,a,lg,gs,ms,Gs,rfl,I0,by lia,λla H1 h1 f1 s1=>?_⟩⟩);have I1:=I.ae (aJ s1);refine ak (b7 6 qO (bw (aM br rfl) T.aL T.Qs (S3 T) hr.m T.BP.b5 .nil aH (ao bP (ao cG (cy dh eE))))) (⟨(s1 _ _ hx),T.aN,T.bN,rfl,⟨aq _ _ I1.ob,rfl,S,tt,dt,a,lg,gs,ms,Gs,G,G2,i,j,A,J,ah,bk,Gm,c,Gs',rfl,hE.ae s1,I1,GM_,hG,hj,hl,hG2,hj2,hlb,hxx,hii,hl1,C,λlg' gs' H2 I2 f2 a2=>?_⟩⟩);have htt:=aq _ _ I.ob;have nS:¬S tt:=bI I.ob;have k2:∀{b o},H b=some o->b≠tt->H2 b=some o:=λ{b o} e n=>a2 b o (s1 _ _ e) n;have hx2:=k2 hx (λy=>nS (y▸N));have hld2:=k2 hld (λy=>nS (y▸hSl));have hla2:=a2 _ _ h1 (bL h1 (s1 _ _ htt));have hE2:Ex S H2:=λb y=>let ⟨o,ho⟩:=hE b y;⟨o,k2 ho (λe=>nS (e▸y))⟩;have hd2:Qq (hid S H2) d s ps:=by refine⟨O.len,aT (k2 (aq _ _ O.ob) (bL (aq _ _ O.ob) htt)) (bI O.ob),O.pl.mono λp y e=>aT (k2 (aq _ _ e) (bL (aq _ _ e) htt)) (bI e)⟩
 have R:∀{b},H2 b=none->b≠tt->H b=none:=λ{b} e n=>by
  cases g:H b with
  |none=>rfl
  |some o=>rw[k2 g n] at e;cases e
 have tt2:=aq _ _ I2.ob;refine ak (aY (bw br T.aN T.Ph (Jf T) hr.m T.IZ.b4 .nil aH (ao bP (cy (bS cZ gX (bO bP) (bO (aK bh dh ai))) ai)))) ⟨hx2,rfl,aV.of hla2,λlt flt=>?_⟩;have B:af H2 (ag H2 lt (.lst (b9 ((Gs.map (·.bb)).map V.str) (some (i:Int)) (some ((A:Int)+1))))):=af.ag flt;have v:ag H2 lt (.lst (b9 ((Gs.map (·.bb)).map V.str) (some (i:Int)) (some ((A:Int)+1)))) lt=r6 (b9 ((Gs.map (·.bb)).map V.str) (some (i:Int)) (some ((A:Int)+1))):=aa;generalize ag H2 lt (.lst (b9 ((Gs.map (·.bb)).map V.str) (some (i:Int)) (some ((A:Int)+1))))=H3 at B v;have U:H lt=none:=R flt (λy=>by rw[y,tt2] at flt;cases flt);refine⟨S,x,dx,tt,d,ld,lu,dt,a,lg',lt,gs',ms,Gs',ds,i,_,rfl,N,hSl,hE2.ae B,B _ _ hx2,I2.ae (aJ B),hl1',B _ _ hld2,hdl,λdd mE lv lu' H4 Z e2 e3 e4 e5 e6 e7 e9 e10 e8=>?_⟩;have s34:∀{b o},H2 b=some o->b≠x->b≠ld->H4 b=some o:=λ{b o} e n1 n2=>e8 b o (B _ _ e) n1 n2;have sh:af (hid S H2) (hid S H4):=λb o e=>aT (s34 (aq _ _ e) (λy=>bI e (y▸N)) (λy=>bI e (y▸hSl))) (bI e);have sh2:af (hid S H2) (hid (λc=>(S c\/c=dd)\/c=lu') H4):=λb o e=>aT (aq _ _ (sh _ _ e)) (by
  have e0:=B _ _ (aq _ _ e);rintro ((y|y)|y)
  .exact bI e y
  .rw[y,e6] at e0;cases e0
  .rw[y,e9] at e0;cases e0)
 have I4':=I2.ae sh2;have CI:lt≠lu':=λy=>by rw[y,e9] at v;cases v
 have hd4:=hd2.ae sh;have hE4:Ex S H4:=λb y=>by
  by_cases z1:b=x
  .exact⟨_,z1▸Z⟩
  .by_cases z2:b=ld
   .exact⟨_,z2▸e2⟩
   .obtain⟨o,ho⟩:=hE2 b y;exact⟨o,s34 ho z1 z2⟩
 have W:H4 lt=r6 (b9 ((Gs.map (·.bb)).map V.str) (some (i:Int)) (some ((A:Int)+1))):=e8 _ _ v (bL v (B _ _ hx2)) (λy=>by rw[y,hld] at U;cases U);have L:=aq _ _ hd4.ob;have fdd:H dd=none:=R (B.free e6) (λy=>by rw[y,B _ _ tt2] at e6;cases e6);have flu:H lu'=none:=R (B.free e9) (λy=>by rw[y,B _ _ tt2] at e9;cases e9);have flv:H lv=none:=R (B.free e7) (λy=>by rw[y,B _ _ tt2] at e7;cases e7);have k4:∀b o,H b=some o->b≠x->b≠tt->b≠ld->H4 b=some o:=λb o e n1 n2 n3=>s34 (k2 e n2) n1 n3;have tt4:=aq _ _ (I2.ae sh).ob;clear s34 sh sh2 e8 e6 e7 e9 B v I2 hd2 hE2 R I1 I0 hla2 hx2 hld2;refine ak (b6 br (nZ (@pA _ rfl) (by rfl) T.qN (by lk) (ao (Ca (@iM _ (az (AA 49 7)) _ ["self","row","at","row2","at2","ahead","count"] _ _ ("name") _ _ [("row",1),("at",2),("row2",3),("at2",4),("self",0)] _ _ (by walk_at "ck") (rQ (aM br rfl)) (λ_ _ _ _=>by exact(bG (ao gX (ao (aS (TV T) hr.m rfl T.Si T.J0.kp T.J0.b3 .nil aH (ao (pV (cS hr) (@kc _ K _ _ _ _ eE rfl (by left)) gX (λ_ _=>rfl)) (ao (bG (ao br (ao bP bu (by left)) (by left))) (ao (bG (ao cG (ao dh bu (by left)) (by left))) bu (by left)) (by left)) (by left)) (by left) (by left) (by left)) bu (by left)) (by left)))) (by left) (by left) (by left) (by left))) bu (by left)) (by left) (by left) (by left) (by left)) rfl) (⟨Z,T.aN,T.bH,rfl,⟨d,_,rfl,L,λo nf=>?_⟩⟩);have hsl:(s.map λy=>(y.1,oG y.2 (i,j) (A,J))).length=s.length:=d5 ..;refine vW (λk ys H5=>∃qs M,ys=qs.map V.ref/\M.length=k/\bf (λq kv=>H5 q=t0 [kV kv.1,kv.2]) qs (bX ((s.map λy=>(y.1,oG y.2 (i,j) (A,J))).take k) M)/\bf (λp (y:Str×Nat×Nat)=>hid S H5 p=t0 [aX y.2.1,aX y.2.2]) M ((s.map λy=>(y.1,oG y.2 (i,j) (A,J))).take k)/\af (ag H4 d (.mC o (.dK (bX s ps)))) H5) ⟨[],[],rfl,rfl,bf.nil,bf.nil,af.refl _⟩ (cL (by rw[dH O.len];lia)) (by rintro k ys H5 _ ⟨qs,M,_,_,_,_,s5⟩;exact s5 _ _ aa) ?_ ?_
 .rintro k kv ys H5 hkv hyl ⟨qs,M,rfl,F,X,hp5,s5⟩;have hk:k<s.length:=by rw[<- dH O.len];exact(d6.mp hkv).1
  have hy:s[k]?=some s[k]:=i4 hk;obtain⟨pk,ep⟩:∃pk,ps[k]?=some pk:=⟨_,i4 (O.len▸hk)⟩
  generalize s[k]=y at hy;rw[zo hy ep] at hkv;cases hkv;have hyk:(s.map λy=>(y.1,oG y.2 (i,j) (A,J)))[k]?=some (y.1,oG y.2 (i,j) (A,J)):=by rw[v3,hy];rfl
  have hE5:Ex S H5:=(IP hE4).ae s5;have hpk:=(aJ s5) _ _ (Cc (o:=o) L (hd4.pl.2 k _ _ ep hy));refine⟨s5 _ _ (by rw[aj (bL Z L)];exact Z),T.aN,T.bH,rfl,d,_,rfl,.inl ⟨_,Sum.inr y.1,.inr ⟨o,s5 _ _ aa⟩,rfl,(kG hn hy ep).symm⟩,sL rfl,λf hf=>⟨sL rfl,λg hg=>⟨S,pk,f,g,y.2,(i,j),(A,J),rfl,(hE5.ae (af.ag hf)).ae (af.ag hg),(aJ (af.ag hg)) _ _ ((aJ (af.ag hf)) _ _ hpk),(aJ (af.ag hg)) _ _ (aT aa (hE5.new hf)),aT aa ((hE5.ae (af.ag hf)).new hg),λp' H6 hp' s6=>⟨sL rfl,λr hr'=>fQ (by rw[dH O.len];exact hk) hyl ⟨qs++[r],M++[p'],by rw[o0];rfl,by rw[i5,F];rfl,by rw[sC hyk F];exact bf.snoc (X.mono λ_ _ e=>af.ag hr' _ _ (s6 _ _ (af.ag hg _ _ (af.ag hf _ _ e)))) aa,by rw[ae1 hyk];exact bf.snoc (hp5.mono λ_ _ e=>(aJ ((af.ag hf).trans ((af.ag hg).trans (s6.trans (af.ag hr'))))) _ _ e) ((aJ (af.ag hr')) _ _ hp'),s5.trans ((af.ag hf).trans ((af.ag hg).trans (s6.trans (af.ag hr'))))⟩⟩⟩⟩⟩
 .rintro ys H5 hyl ⟨qs,M,rfl,F,X,hp5,s5⟩ D hD;rw[dH O.len,<- hsl,ab3] at X hp5;rw[dH O.len,<- hsl] at F;have hnd:(bU (s.map λy=>(y.1,oG y.2 (i,j) (A,J)))).Nodup:=by rw[ir];exact hn
  have hd5:H5 d=some (.mC o (.dK (bX s ps))):=s5 _ _ aa;have ndD:d≠D:=au hd5 hD;refine⟨d,o,_,by rw[aj ndD];exact hd5,nf,D,qs,bX (s.map λy=>(y.1,oG y.2 (i,j) (A,J))) M,rfl,by rw[aj (aa4 ndD),aa],⟨X.1,λk b kv g1 g2=>by have e:=X.2 k b kv g1 g2;rw[aj (bL e hd5)];exact af.ag hD _ _ e⟩,by rw[dH F,hsl];lia,λd' hd'=>?_⟩
  rw[uE F hnd];have s6:af H4 (ag (ag H5 D (.lst (qs.map V.ref))) d (.dK (bX s ps))):=uX L (s5.trans (af.ag hD));have hpp:bf (λp (y:Str×Nat×Nat)=>hid S (ag (ag H5 D (.lst (qs.map V.ref))) d (.dK (bX s ps))) p=t0 [aX y.2.1,aX y.2.2]) M (s.map λy=>(y.1,oG y.2 (i,j) (A,J))):=hp5.mono λp y e=>aT (by rw[aj (bL (aq _ _ e) hd5)];exact af.ag hD _ _ (aq _ _ e)) (bI e);generalize ag (ag H5 D (.lst (qs.map V.ref))) d (.dK (bX s ps))=H6 at s6 hpp hd';have s7:af H6 (ag H6 d' (.dK (bX (s.map λy=>(y.1,oG y.2 (i,j) (A,J))) M))):=af.ag hd';have hd7:ag H6 d' (.dK (bX (s.map λy=>(y.1,oG y.2 (i,j) (A,J))) M)) d'=some (.dK (bX (s.map λy=>(y.1,oG y.2 (i,j) (A,J))) M)):=aa;have l:H4 d'=none:=s6.free hd';generalize ag H6 d' (.dK (bX (s.map λy=>(y.1,oG y.2 (i,j) (A,J))) M))=H7 at s7 hd7;have Y:=s6.trans s7;refine⟨x,_,dx,_,rfl,Y _ _ Z,T.aN,T.bH,by show 4<1000;decide,?_⟩;have ndx:d'≠x:=λy=>by rw[y,Z] at l;cases l
  have ku:∀{b u},H4 b=some u->b≠x->ag H7 x (.ins t.aG dx (dQ "places" (.ref d') (sf tt d ld lu'))) b=some u:=λ{b u} e n=>by rw[aj n];exact Y _ _ e
  have su2:af (hid (λc=>(S c\/c=dd)\/c=lu') H7) (hid (λc=>(S c\/c=dd)\/c=lu') (ag H7 x (.ins t.aG dx (dQ "places" (.ref d') (sf tt d ld lu'))))):=g8 (.inl (.inl N));have more:∀{b:Addr} {o:HO},hid S H7 b=some o->(∀C y fs,o ≠ .ins C y fs)->(∀ys,o ≠ .lst ys)->hid (λc=>(S c\/c=dd)\/c=lu') H7 b=some o:=λ{b o} h n1 n2=>aT (aq _ _ h) (by
   have h:=aq _ _ h;rintro ((y|y)|y)
   .exact bI (by assumption) y
   .rw[y,(Y _ _ e4)] at h;exact n1 _ _ _ (aa1 h).symm
   .rw[y,(Y _ _ e3)] at h;exact n2 _ (aa1 h).symm)
  refine av (aQ jv) (q _ ⟨⟨d',lu',dd,mE,lt,lv,lg',gs',aa,(I4'.ae (aJ Y)).ae su2,⟨M,F,su2 _ _ (more (aT hd7 (hE4.new l)) (λ_ _ _ z=>by cases z) (λ_ z=>by cases z)),hpp.mono λp y e=>su2 _ _ (more ((aJ s7) _ _ e) (λ_ _ _ z=>by cases z) (λ_ z=>by cases z))⟩,ku e3 (λy=>by rw[y,Z] at e3;cases e3),ku e2 (λy=>by rw[y,Z] at e2;cases e2),ku e4 (λy=>by rw[y,hx] at fdd;cases fdd),ku W (λy=>by rw[y,Z] at W;cases W),ku e5 (λy=>by rw[y,Z] at e5;cases e5),?_,fdd,U,flv,flu,CI,aa4 e10⟩,λb u e n1 n2 n3=>ku (k4 b u e n1 n2 n3) n1⟩)
  .cases g:H d' with
   |none=>rfl
   |some u =>
    have:=k4 d' u g ndx (λy=>by rw[y,tt4] at l;cases l) (λy=>by rw[y,e2] at l;cases l);rw[l] at this;cases this
noncomputable def sg7:c7:=[97,98,40,41,34,35,32]
def abN:10∉sg7:=by decide
def aeH  (h0:0<=d) (h1:d<9):∃c,c∈sg7/\oE (Str.ofString "ab()\"# (a").l d=some c:=by
 obtain⟨n,rfl⟩:∃n:Nat,d=n:=⟨d.toNat,by lia⟩
 have b:n<9:=by lia
 have a:∀n:Nat,n<9->∃c,c∈sg7/\oE (Str.ofString "ab()\"# (a").l (n:Int)=some c:=by
  intro n b;have:n=0\/n=1\/n=2\/n=3\/n=4\/n=5\/n=6\/n=7\/n=8:=by lia
  rcases this with rfl|rfl|rfl|rfl|rfl|rfl|rfl|rfl|rfl
  .exact⟨97,by decide,by lk⟩
  .exact⟨98,by decide,by lk⟩
  .exact⟨40,by decide,by lk⟩
  .exact⟨41,by decide,by lk⟩
  .exact⟨34,by decide,by lk⟩
  .exact⟨35,by decide,by lk⟩
  .exact⟨32,by decide,by lk⟩
  .exact⟨40,by decide,by lk⟩
  .exact⟨97,by decide,by lk⟩
 exact a n b
theorem ur:∀(cs:c7),(Str.join "" (cs.map λc=>(⟨#[c]⟩:Str))).l=cs
 | []=>rfl
 | [c]=>rfl
 |c::d::r=>by show ((⟨#[c]⟩:Str) ++ "" ++ Str.join "" ((d::r).map λc=>(⟨#[c]⟩:Str))).l=_;rw[dF,ur (d::r),dF];rfl
theorem vM:∀(cs:c7),((cs.map λc=>(⟨#[c]⟩:Str)).map (·.length)).sum=cs.length
 | []=>rfl
 |c::r=>by rw[ab5,ab5,am3,vM r,P3];show 1+r.length=_;lia
theorem aei:∀(l:a9),(∀x∈l,x.length<=6)->(l.map (·.length)).sum<=l.length*6
 | [],_=>by simp
 |a::r,h=>by have h1:=h a (by simp);have c:=aei r (λx b=>h x (by simp[b]));rw[ab5,am3,P3];lia
structure aaT(z:Str):Prop where
 le:z.length<=6
 ch:∀c∈z.l,c∈sg7
inductive amc(K:W.Frag)(vs:q7)(H:Hp)(Q:VK)(_:XK):Prop|mk(a:Addr)(ns:c9)(k:Int)(_:vs=[.ref a,.int k])(_:aV K H a (ns.map V.int))(_:ns.length<=63)(_:0<=k)(_:k<=90000)(_:∀z H',aaT z->af H H'->Q (.str z) H')
def Uv:bE P w K mg ap dJ 2 t.Jl t.Ng ["_law_script","_law_k"] (amc K):=by
 refine T.F6.ok oS λO H Q E h=>?_;obtain⟨a,v,k,rfl,x,hl,r,A,q⟩:=h;room;refine ak (lJ (i:=2) oS.nd rfl (Or.inr rfl) aZ) ?_;refine av (aQ (cV ae2 F.slot_str_join F.type_str_join CK aZ (ao (@iM _ (az (top 79)) _ ["_law_script","_law_k","_law_signs"] _ _ ("_law_n") _ _ [("_law_signs",2),("_law_script",0),("_law_k",1)] _ _ (by walk_at "ck") (fm rfl T.iG (ao (aS (dP T) hr.m rfl T.dR T.cA.kp T.cA.b3 .nil aH (ao br (ao bP (ao ai bu (by left)) (by left)) (by left)) (by left) (by left) (by left)) bu (by left)) (by left)) (λ_ _ _ _=>by exact(aC lC br (aS (dP T) hr.m rfl T.dR T.cA.kp T.cA.b3 .nil aH (ao bP (ao (aK bh (aK bh cG ai) dh) (ao ai bu (by left)) (by left)) (by left)) (by left) (by left) (by left)) (λ_ _=>rfl))) (by left) (by left) (by left) (by left)) bu (by left)) (by left) (by left) (by left) (by left) (by left))) ⟨rfl,a,v,_,_,rfl,x,r,(by lia),(by decide),(by decide),hl,λd R S U B=>⟨d,rfl,by lia,by lia,tT (n:=d.toNat) (λi s C=>∃b,s=(b.map λc=>(⟨#[c]⟩:Str)).map V.str/\b.length=i/\(∀c∈b,c∈sg7)/\af H C) ⟨[],rfl,rfl,(λc h=>by cases h),B⟩ (cL (by lia)) ?_ ?_⟩⟩
 .rintro i s F G g ⟨b,rfl,j,f,o⟩;refine⟨a,v,_,_,rfl,x.ae o,(by lia),(by lia),(by decide),(by decide),hl,λe W I J L=>?_⟩;obtain⟨c,p,u⟩:=aeH I J;refine⟨by decide,u,fQ G g ⟨b++[c],by rw[o0,o0];rfl,by rw[i5,j];rfl,λy M=>?_,o.trans L⟩⟩;rcases X1.mp M with z|z
  .exact f y z
  .rw[B1.mp z];exact p
 .rintro s F g ⟨b,rfl,j,f,o⟩ D N;refine⟨_,D,_,rfl,rfl,aV.of aa,by rw[vM,show (Str.ofString "").length=0 by lk];exact bK (by lia),by rw[join_eq];have l:=ur b;refine q _ _ ⟨by rw[<- bV,l];lia,λc p=>?_⟩ (o.to N);rw[l] at p;exact f c p⟩
structure abg(z:Str):Prop where
 le:z.length<=18+z.l.count 10
 few:z.l.count 10<=2
 ch:∀c∈z.l,c=10\/c∈sg7
def aaT.nl(h:aaT z):10∉z.l:=λy=>abN (h.ch 10 y)
def adI(hr:∀r∈rs,aaT r)(hn:rs≠[])(hl:rs.length<=3):abg (Str.join ⟨#[10]⟩ rs)/\(Str.join ⟨#[10]⟩ rs).length<=20:=by
 have a:=fZ 10 rs;have d:∀(rs:a9),(∀r∈rs,aaT r)->rs≠[]->(d9 10 (rs.map λp=>p.l)).count 10+1=rs.length/\(d9 10 (rs.map λp=>p.l)).length+1<=7*rs.length/\∀c∈d9 10 (rs.map λp=>p.l),c=10\/c∈sg7:=by
  intro rs;induction rs with
  |nil=>intro _ h;exact absurd rfl h
  |cons r t ih =>
   intro h _;have b:=h r (by simp);have l:=bV r;have n:=b.le;cases t with
   |nil =>
    refine⟨?_,?_,λc a=>.inr (b.ch c a)⟩
    .show r.l.count 10+1=1;rw[ai5.mpr b.nl]
    .show r.l.length+1<=7;lia
   |cons u v =>
    obtain⟨o,q,f⟩:=ih (λx g=>h x (Q1 _ g)) (by simp);have e:d9 10 ((r::u::v).map λp=>p.l)=r.l++10::d9 10 ((u::v).map λp=>p.l):=tU (by simp);rw[e];refine⟨?_,?_,λc a=>?_⟩
    .rw[aj2,ai5.mpr b.nl,List.count_cons_self,P3];lia
    .rw[i5,P3,P3];lia
    .rcases X1.mp a with z|z
     .exact .inr (b.ch c z)
     .rcases Z5.mp z with z|z
      .exact .inl z
      .exact f c z
 obtain⟨s,w,i⟩:=d rs hr hn;have j:=bV (Str.join ⟨#[10]⟩ rs);rw[a] at j;refine⟨⟨?_,?_,?_⟩,?_⟩
 .rw[a];lia
 .rw[a];lia
 .rw[a];exact i
 .lia
inductive ahQ(K:W.Frag)(vs:q7)(H:Hp)(Q:VK)(_:XK):Prop|mk(a:Addr)(ns:c9)(k:Int)(_:vs=[.ref a,.int k])(_:aV K H a (ns.map V.int))(_:ns.length<=63)(_:0<=k)(_:k<=80000)(_:∀z H',abg z->z.length<=20->af H H'->Q (.str z) H')
def dC:bE P w K mg ap dJ 3 t.afR t.akv ["_law_script","_law_k"] (ahQ K):=by
 refine T.agD.ok dq λY H Q E h=>?_;obtain⟨a,s,k,rfl,u,hl,v,L,q⟩:=h;room;refine aF (λG o=>∃b p,b≠[]/\b.length<=3/\(∀r∈b,aaT r)/\o p=r6 (b.map V.str)/\G=[ρ a,ι k,ρ p]/\af H o) (@B3 _ 2 _ (az (top 80)) _ ["_law_script","_law_k","_law_rows"] _ _ ("_law_n") _ _ _ _ [("_law_script",0),("_law_k",1)] _ _ dq.nd rfl (Or.inl rfl) (by walk_at "ck") (fm rfl T.iG (ao (aK bh ai (aS (dP T) hr.m rfl T.dR T.cA.kp T.cA.b3 .nil aH (ao br (ao bP (ao ai bu (by left)) (by left)) (by left)) (by left) (by left) (by left))) bu (by left)) (by left)) (λ_ _ _ _=>by exact(aS (Uv T) hr.m rfl T.Uz T.F6.kp T.F6.b2 .nil aH (ao br (ao (aK bh (aK bh bP ai) (aK jN ai cG)) bu (by left)) (by left)) (by left) (by left) (by left))) (by left) (by left) (by left) (by left) (by left) (by left)) ?_ ?_
 .refine⟨a,s,_,_,rfl,u,v,(by lia),(by decide),(by decide),hl,λd M N Z l=>⟨1+d,rfl,by lia,by lia,tT (n:=(1+d).toNat) (λi x o=>∃b,x=b.map V.str/\(∀r∈b,aaT r)/\af H o) ⟨[],rfl,(λc h=>by cases h),l⟩ (cL (by lia)) ?_ (by rintro x I g ⟨b,rfl,f,j⟩ D U;rw[d5] at g;exact⟨b,D,(λz=>by rw[z] at g;simp at g;lia),by lia,f,aa,rfl,j.to U⟩)⟩⟩
  .rintro i x I O g ⟨b,rfl,f,j⟩;refine⟨.inl ⟨by decide,by decide⟩,a,s,_,rfl,u.ae j,hl,(by lia),(by lia),λz H3 R S=>fQ O g ⟨b++[z],by rw[o0];rfl,λy A=>?_,j.trans S⟩⟩;rcases X1.mp A with e|e
   .exact f y e
   .rw[B1.mp e];exact R
 rintro G M ⟨b,p,B,C,f,F,rfl,l⟩;obtain⟨W,X⟩:=adI f B C;refine av (aQ (dc (aA cC (aS (dP T) hr.m rfl T.dR T.cA.kp T.cA.b3 .nil aH (ao br (cy (aK bh bP ai) ai))) ai (aE _)) aZ (cV ae2 PySem.F.slot_str_join PySem.F.type_str_join CK aZ (bQ cG)))) ⟨a,s,_,_,rfl,u.ae l,(by lia),(by lia),(by decide),(by decide),hl,λd I N h2 j=>⟨rfl,.mk<|dM (λ_=>q _ _ ⟨by lk,by lk,λc J=>by rw[show (Str.ofString "").l=[] by lk] at J;cases J⟩ (by lk) (l.trans j)) (λ_=>?_)⟩⟩
 .refine⟨rfl,_,p,_,rfl,rfl,aV.of (j _ _ F),by have h5:=aei b (λy A=>(f y A).le);rw[show ("\n" : Str).length=1 from by lk];exact bK (by lia),by rw[join_eq,show ((("\n" : Str)))=⟨#[10]⟩ from by lk];exact q _ _ W X (l.trans j)⟩
def bf.U7{R:α->β->Prop}{a:α}{b:β}{as:List α}{bs:List β}(h:R a b)(t:bf R as bs):bf R (a::as) (b::bs):=by
 refine⟨by rw[P3,P3,t.1],λi x y c d=>?_⟩;cases i with
 |zero=>cases c;cases d;exact h
 |succ i=>exact t.2 i x y c d
def tupQ(R:cz):q7:=[.str R.bc,.str R.bi,.str R.bZ,.str R.bB,vU R.bo,.str R.bn]
def TR'(H:Hp)(p:Addr)(R:cz):Prop:=H p=t0 (tupQ R)
def TM'(H:Hp)(tm:Addr)(m:aR):Prop:=∃a b,H tm=t0 [.str m.name,.str m.bZ,.ref a]/\H a=r6 (b.map V.ref)/\bf (TR' H) b m.bd
def TMs(H:Hp)(lm:Addr)(ms:List aR):Prop:=∃a,H lm=r6 (a.map V.ref)/\bf (TM' H) a ms
def TR'.ae(h:TR' H p R)(s:af H H'):TR' H' p R:=s _ _ h
def TM'.ae(h:TM' H p m)(s:af H H'):TM' H' p m:=by obtain⟨d,e,a,b,c⟩:=h;exact⟨d,e,s _ _ a,s _ _ b,c.mono λ_ _ z=>z.ae s⟩
def TM'.of(h:H' tm=t0 [.str m.name,.str m.bZ,.ref lr])(hl:H lr=r6 (ps.map V.ref))(hr:bf (TR' H) ps m.bd)(s:af H H'):TM' H' tm m :=
 ⟨lr,ps,h,s _ _ hl,hr.mono λ_ _ z=>z.ae s⟩
def IW  (h0:0<=d) (h1:d<5):∃c,aaI c/\oE ((["red","blue","green","plain","redder"]:a9).map V.str) d=some (.str c):=by
 obtain⟨n,rfl⟩:∃n:Nat,d=n:=⟨d.toNat,by lia⟩
 have:n=0\/n=1\/n=2\/n=3\/n=4:=by lia
 unfold aaI;rcases this with rfl|rfl|rfl|rfl|rfl
 .exact⟨"red",by simp,rfl⟩
 .exact⟨"blue",by simp,rfl⟩
 .exact⟨"green",by simp,rfl⟩
 .exact⟨"plain",by simp,rfl⟩
 .exact⟨"redder",by simp,rfl⟩
noncomputable abbrev aeh(c:abF):q7:=[.str c.c0,.str c.c1,.str c.c2,.str c.c3,.str c.c4]
inductive aiI(K:W.Frag)(vs:q7)(H:Hp)(Q:VK)(_:XK):Prop|mk(a:Addr)(ns:c9)(_:vs=[.ref a])(_:aV K H a (ns.map V.int))(_:ns.length<=63)(_:∀w c lm H',c.Ok->TMs H' lm (make w c)->af H H'->Q (.ref lm) H')
def Sv:bE P w K mg ap dJ 2 t.afC t.akB ["_law_script"] (aiI K):=by
 refine T.aho.ok oM λvs H Q E h=>?_;obtain⟨a,ns,rfl,hS,hl,q⟩:=h;room;refine @ak _ _ _ _ _ _ _ (@lJ _ _ 1 _ _ _ _ oM.nd rfl (Or.inr rfl) (bM (@j6 _ _ ["red","blue","green","plain","redder"] rfl)) (by left) (by left)) ⟨sL rfl,λR g=>?_⟩;refine aF (λu b=>∃c F,abF.Ok c/\b F=r6 (aeh c)/\af H b/\u=[ρ a,ρ R,ρ F,none,none,none,none,none,none]) (@B3 _ 2 _ (az (top 68)) _ ["_law_script","_law_some","_law_c","_law_way","_law_base","_law_deep","_law_quoted","_law_modes_here","_law_word"] _ _ ("_law_k") _ _ _ _ [("_law_some",1),("_law_script",0)] _ _ oM.nd rfl (Or.inl rfl) (by walk_at "ck") (fm rfl T.iG (ao ai bu (by left)) (by left)) (λ_ _ _ _=>by exact(aC (Gq (K:=K) rfl) br (aS (dP T) hr.m rfl T.dR T.cA.kp T.cA.b3 .nil aH (ao bP (ao (aK bh ai cG) (ao ai bu (by left)) (by left)) (by left)) (by left) (by left) (by left)) (λ_ _=>rfl))) (by left) (by left) (by left) (by left) (by left) (by left)) ?_ ?_
 .refine⟨5,rfl,by lia,by lia,tT (n:=5) (λi ys b=>∃cs,ys=cs.map V.str/\cs.length=i/\(∀c∈cs,aaI c)/\b R=r6 ((["red","blue","green","plain","redder"]:a9).map V.str)/\af H b) ⟨[],rfl,rfl,(λc h=>by cases h),aa,af.ag g⟩ (by show 5<sizeLine;decide) ?_ ?_⟩
  .rintro i ys H2 hi hyl ⟨cs,rfl,hcl,hcs,hlo,M⟩;refine⟨a,ns,_,_,rfl,hS.ae M,(by lia),(by lia),(by decide),(by decide),hl,λe H3 g p s3=>?_⟩;obtain⟨c,I,hat⟩:=IW g p;refine⟨aV.of (s3 _ _ hlo),hat,fQ hi hyl ⟨cs++[c],by rw[o0];rfl,by rw[i5,hcl];rfl,λy hy=>?_,s3 _ _ hlo,M.trans s3⟩⟩;rcases X1.mp hy with z|z
   .exact hcs y z
   .rw[B1.mp z];exact I
  .rintro ys H2 hyl ⟨cs,rfl,hcl,hcs,hlo,M⟩ D hD;match cs,hcl,hcs with
   | [a0,a1,a2,a3,a4],_,hcs=>exact⟨⟨a0,a1,a2,a3,a4⟩,D,⟨hcs _ (by simp),hcs _ (by simp),hcs _ (by simp),hcs _ (by simp),hcs _ (by simp)⟩,aa,M.to hD,rfl⟩
 rintro u H1 ⟨c,F,O,I,s1,rfl⟩;refine aF (λu b=>∃d,b F=r6 (aeh c)/\af H b/\u=[ρ a,ρ R,ρ F,ι d,none,none,none,none,none]) (b7 3 oM (aS (dP T) hr.m rfl T.dR T.cA.kp T.cA.b3 .nil aH (ao br (cy ai ai)))) ⟨a,ns,_,_,rfl,hS.ae s1,(by lia),(by lia),(by decide),(by decide),hl,λd H2 g p M=>⟨d.toNat,M _ _ I,s1.trans M,by rw[show (d.toNat:Int)=d by lia];rfl⟩⟩ ?_;rintro u H2 ⟨d,I,M,rfl⟩;refine aF (λu b=>b F=r6 (aeh c)/\af H b/\u=[ρ a,ρ R,ρ F,ι d,none,none,none,none,none]) (bq (aA cC dh ai (aE _)) ay ay) (by refine⟨rfl,.mk<|dM (λh=>?_) (λh=>bg ⟨I,M,rfl⟩)⟩;refine aF (λu b=>∃r s l,TR' b r (q1 c.c1)/\TR' b s (q2 c.c2)/\b l=r6 [.ref r,.ref s]/\af H2 b/\u=[ρ a,ρ R,ρ F,ι d,ρ l,none,none,none,none]) (b7 4 oM (bM (cy (bG (ao aZ (ao aZ (ao (aC aU cG ai) (ao aZ (cy ai aZ)))))) (bG (ao aZ (ao aZ (ao (aC aU cG ai) (ao aZ (cy ai aZ))))))))) ⟨aV.of (I),aB (j:=1) rfl,sL rfl,λr g=>⟨aV.of (af.ag g _ _ (I)),aB (j:=2) rfl,sL rfl,λs p=>⟨sL rfl,λl f=>⟨r,s,l,af.ag f _ _ (af.ag p _ _ (aa)),af.ag f _ _ (aa),aa,((af.ag g).to p).to f,rfl⟩⟩⟩⟩ ?_;rintro u H3 ⟨a0,a1,b0,Y,S,Z,J,rfl⟩;have B:=J _ _ I;refine aF (λu b=>∃r s l,TR' b r (q3 c.c3)/\TR' b s (q4 c.c1)/\b l=r6 [.ref a0,.ref a1,.ref r,.ref s]/\af H3 b/\u=[ρ a,ρ R,ρ F,ι d,ρ l,none,none,none,none]) (b7 4 oM (aK gM eE (bM (cy (bG (ao aZ (ao aZ (ao (aC aU cG ai) (ao aZ (cy cR aZ)))))) (bG (ao aZ (ao aZ (ao (aC aU cG ai) (ao aZ (cy ai aZ)))))))))) ⟨aV.of (B),aB (j:=3) rfl,sL rfl,λr g=>⟨aV.of (af.ag g _ _ (B)),aB (j:=1) rfl,sL rfl,λs p=>⟨sL rfl,λl1 f=>⟨af.ag f _ _ (af.ag p _ _ (af.ag g _ _ (Z))),aa,sL rfl,λl x=>⟨r,s,l,af.ag x _ _ (af.ag f _ _ (af.ag p _ _ (aa))),af.ag x _ _ (af.ag f _ _ (aa)),aa,(((af.ag g).to p).to f).to x,rfl⟩⟩⟩⟩⟩ ?_;rintro u H4 ⟨a2,a3,b1,ra2,ra3,L,C,rfl⟩;have N:=C _ _ B;refine aF (λu b=>∃r s l,TR' b r (q1 c.c1)/\TR' b s (q5 c.c1)/\b l=r6 [.ref r,.ref s]/\af H4 b/\u=[ρ a,ρ R,ρ F,ι d,ρ b1,ρ l,none,none,none]) (b7 5 oM (bM (cy (bG (ao aZ (ao aZ (ao (aC aU cG ai) (ao aZ (cy ai aZ)))))) (bG (ao aZ (ao aZ (ao (aC aU cG ai) (ao aZ (cy cR aZ))))))))) ⟨aV.of (N),aB (j:=1) rfl,sL rfl,λr g=>⟨aV.of (af.ag g _ _ (N)),aB (j:=1) rfl,sL rfl,λs p=>⟨sL rfl,λl f=>⟨r,s,l,af.ag f _ _ (af.ag p _ _ (aa)),af.ag f _ _ (aa),aa,((af.ag g).to p).to f,rfl⟩⟩⟩⟩ ?_;rintro u H5 ⟨d0,d1,b2,rd0,rd1,hb2,v,rfl⟩;have U:=v _ _ N;refine aF (λu b=>∃r s l,TR' b r (q6 c.c2)/\TR' b s (dA)/\b l=r6 [.ref r,.ref s]/\af H5 b/\u=[ρ a,ρ R,ρ F,ι d,ρ b1,ρ b2,ρ l,none,none]) (b7 6 oM (bM (cy (bG (ao aZ (ao aZ (ao (aC aU cG ai) (ao aZ (cy cR aZ)))))) (bG (ao aZ (ao aZ (ao aZ (ao aZ (cy cR aZ))))))))) ⟨aV.of (U),aB (j:=2) rfl,sL rfl,λr g=>⟨sL rfl,λs p=>⟨sL rfl,λl f=>⟨r,s,l,af.ag f _ _ (af.ag p _ _ (aa)),af.ag f _ _ (aa),aa,((af.ag g).to p).to f,rfl⟩⟩⟩⟩ ?_;rintro u H6 ⟨e0,e1,b3,re0,re1,hb3,A,rfl⟩;have hc6:=A _ _ U;have L:=A _ _ (v _ _ L);have hb2:=A _ _ hb2;refine aF (λu b=>∃W X t2 dl l,b W=t0 [.str "base",.str c.c0,.ref b1]/\b X=t0 [.str "deep",.str c.c4,.ref dl]/\b t2=t0 [.str "text",.str c.c2,.ref b3]/\b dl=r6 [.ref d0,.ref d1,.ref a1]/\b l=r6 [.ref W,.ref X,.ref t2]/\af H6 b/\u=[ρ a,ρ R,ρ F,ι d,ρ b1,ρ b2,ρ b3,ρ l,none]) (b7 7 oM (bM (ao (bG (ao aZ (cy (aC aU cG ai) eE))) (cy (bG (ao aZ (cy (aC aU cG ai) (aK gM gX (bM (bQ (aC aU eE ai))))))) (bG (ao aZ (cy (aC aU cG ai) jv))))))) ⟨aV.of (hc6),aB (j:=0) rfl,sL rfl,λW g=>⟨aV.of (af.ag g _ _ (hc6)),aB (j:=4) rfl,aV.of (af.ag g _ _ (L)),aB (j:=1) rfl,sL rfl,λl1 p=>⟨af.ag p _ _ (af.ag g _ _ (hb2)),aa,sL rfl,λdl f=>⟨sL rfl,λX x=>⟨aV.of (af.ag x _ _ (af.ag f _ _ (af.ag p _ _ (af.ag g _ _ (hc6))))),aB (j:=2) rfl,sL rfl,λt2 G=>⟨sL rfl,λl g5=>⟨W,X,t2,dl,l,af.ag g5 _ _ (af.ag G _ _ (af.ag x _ _ (af.ag f _ _ (af.ag p _ _ (aa))))),af.ag g5 _ _ (af.ag G _ _ (aa)),af.ag g5 _ _ (aa),af.ag g5 _ _ (af.ag G _ _ (af.ag x _ _ (aa))),aa,(((((af.ag g).to p).to f).to x).to G).to g5,rfl⟩⟩⟩⟩⟩⟩⟩ ?_;rintro u H7 ⟨W,X,t2,dl,l,ht0,ht1,ht2,hdl,hl0,s7,rfl⟩;have hc7:=s7 _ _ hc6;refine av (aQ (aK gM jO (bM (bQ (bG (ao aZ (cy (aC aU cG ai) (bM (bQ (bG (ao aZ (ao aZ (ao aZ (ao aZ (cy ai aZ))))))))))))))) ⟨aV.of (hc7),aB (j:=4) rfl,sL rfl,λf0 g=>⟨sL rfl,λl1 p=>⟨sL rfl,λt3 f=>⟨sL rfl,λl2 x=>⟨af.ag x _ _ (af.ag f _ _ (af.ag p _ _ (af.ag g _ _ (hl0)))),aa,sL rfl,λlm G=>?_⟩⟩⟩⟩⟩;have z:af H7 _:=((((af.ag g).to p).to f).to x).to (o:=.lst [.ref W,.ref X,.ref t2,.ref t3]) G;have s67:=s7.trans z;have s57:=A.trans s67;have s47:=v.trans s57;have s37:=C.trans s47;refine q 0 c lm _ O ⟨[W,X,t2,t3],aa,.U7 (.of (z _ _ ht0) L (.U7 (Y.ae (C.trans (v.trans A))) (.U7 (S.ae (C.trans (v.trans A))) (.U7 (ra2.ae (v.trans A)) (.U7 (ra3.ae (v.trans A)) .nil)))) s67) (.U7 (.of (z _ _ ht1) hdl (.U7 (rd0.ae (A.trans s7)) (.U7 (rd1.ae (A.trans s7)) (.U7 (S.ae ((C.trans (v.trans A)).trans s7)) .nil))) z) (.U7 (.of (z _ _ ht2) hb3 (.U7 re0 (.U7 re1 .nil)) s67) (.U7 (.of (H:=ag (ag H7 f0 (.tup (tupQ q8'))) l1 (.lst [.ref f0])) (af.ag G _ _ (af.ag x _ _ (aa))) aa (.U7 (af.ag p _ _ (aa)) .nil) (((af.ag f).to x).to G)) .nil)))⟩ (M.trans (J.trans s37))) ?_
 rintro u H2 ⟨I,M,rfl⟩;refine aF (λu b=>b F=r6 (aeh c)/\af H b/\u=[ρ a,ρ R,ρ F,ι d,none,none,none,none,none]) (bq (aA cC dh ai (aE _)) ay ay) (by refine⟨rfl,.mk<|dM (λh=>?_) (λh=>bg ⟨I,M,rfl⟩)⟩;refine aF (λu b=>∃r s l,TR' b r (qa' c.c3)/\TR' b s (qb' c.c2)/\b l=r6 [.ref r,.ref s]/\af H2 b/\u=[ρ a,ρ R,ρ F,ι d,none,none,none,none,ρ l]) (b7 8 oM (bM (cy (bG (ao aZ (ao aZ (ao (aC aU cG ai) (ao aZ (cy cR aZ)))))) (bG (ao aZ (ao aZ (ao (aC aU cG ai) (ao aZ (cy cR aZ))))))))) ⟨aV.of (I),aB (j:=3) rfl,sL rfl,λr g=>⟨aV.of (af.ag g _ _ (I)),aB (j:=2) rfl,sL rfl,λs p=>⟨sL rfl,λl f=>⟨r,s,l,af.ag f _ _ (af.ag p _ _ (aa)),af.ag f _ _ (aa),aa,((af.ag g).to p).to f,rfl⟩⟩⟩⟩ ?_;rintro u H3 ⟨a0,a1,b0,Y,S,Z,J,rfl⟩;have B:=J _ _ I;refine av (aQ (bM (cy (bG (ao aZ (cy (aC aU cG ai) (bM (bQ (bG (ao aZ (ao aZ (ao aZ (ao aZ (cy ai aZ))))))))))) (bG (ao aZ (cy (aC aU cG ai) kH)))))) ⟨aV.of (B),aB (j:=0) rfl,sL rfl,λf0 g=>⟨sL rfl,λl1 p=>⟨sL rfl,λW f=>⟨aV.of (af.ag f _ _ (af.ag p _ _ (af.ag g _ _ (B)))),aB (j:=1) rfl,sL rfl,λX x=>⟨sL rfl,λlm G=>?_⟩⟩⟩⟩⟩;have z:af H3 _:=((((af.ag g).to p).to f).to x).to (o:=.lst [.ref W,.ref X]) G;refine q 1 c lm _ O ⟨[W,X],aa,.U7 (.of (H:=ag (ag H3 f0 (.tup (tupQ q9'))) l1 (.lst [.ref f0])) (af.ag G _ _ (af.ag x _ _ (aa))) aa (.U7 (af.ag p _ _ (aa)) .nil) (((af.ag f).to x).to G)) (.U7 (.of (af.ag G _ _ (aa)) Z (.U7 Y (.U7 S .nil)) z) .nil)⟩ (M.trans (J.trans z))) ?_
 rintro u H2 ⟨I,M,rfl⟩;refine aF (λu b=>∃r s l,TR' b r (qc' c.c1)/\TR' b s (qd' c.c2)/\b l=r6 [.ref r,.ref s]/\af H2 b/\u=[ρ a,ρ R,ρ F,ι d,ρ l,none,none,none,none]) (b7 4 oM (bM (cy (bG (ao aZ (ao aZ (ao (aC aU cG ai) (ao aZ (cy ai aZ)))))) (bG (ao aZ (ao aZ (ao (aC aU cG ai) (ao aZ (cy cR aZ))))))))) ⟨aV.of (I),aB (j:=1) rfl,sL rfl,λr g=>⟨aV.of (af.ag g _ _ (I)),aB (j:=2) rfl,sL rfl,λs p=>⟨sL rfl,λl f=>⟨r,s,l,af.ag f _ _ (af.ag p _ _ (aa)),af.ag f _ _ (aa),aa,((af.ag g).to p).to f,rfl⟩⟩⟩⟩ ?_;rintro u H3 ⟨a0,a1,b0,Y,S,Z,J,rfl⟩;have B:=J _ _ I;refine aF (λu b=>∃r s l,TR' b r (qe c.c4)/\TR' b s (qf' c.c3)/\b l=r6 [.ref a0,.ref a1,.ref r,.ref s]/\af H3 b/\u=[ρ a,ρ R,ρ F,ι d,ρ l,none,none,none,none]) (b7 4 oM (aK gM eE (bM (cy (bG (ao aZ (ao aZ (ao (aC aU cG ai) (ao aZ (cy ai aZ)))))) (bG (ao aZ (ao aZ (ao (aC aU cG ai) (ao aZ (cy ai aZ)))))))))) ⟨aV.of (B),aB (j:=4) rfl,sL rfl,λr g=>⟨aV.of (af.ag g _ _ (B)),aB (j:=3) rfl,sL rfl,λs p=>⟨sL rfl,λl1 f=>⟨af.ag f _ _ (af.ag p _ _ (af.ag g _ _ (Z))),aa,sL rfl,λl x=>⟨r,s,l,af.ag x _ _ (af.ag f _ _ (af.ag p _ _ (aa))),af.ag x _ _ (af.ag f _ _ (aa)),aa,(((af.ag g).to p).to f).to x,rfl⟩⟩⟩⟩⟩ ?_;rintro u H4 ⟨a2,a3,b1,ra2,ra3,L,C,rfl⟩;have N:=C _ _ B;refine aF (λu b=>∃r s l,TR' b r (qg c.c1)/\TR' b s (qh' c.c4)/\b l=r6 [.ref r,.ref s]/\af H4 b/\u=[ρ a,ρ R,ρ F,ι d,ρ b1,ρ l,none,none,none]) (b7 5 oM (bM (cy (bG (ao aZ (ao aZ (ao (aC aU cG ai) (ao aZ (cy cR aZ)))))) (bG (ao aZ (ao aZ (ao (aC aU cG ai) (ao aZ (cy ai aZ))))))))) ⟨aV.of (N),aB (j:=1) rfl,sL rfl,λr g=>⟨aV.of (af.ag g _ _ (N)),aB (j:=4) rfl,sL rfl,λs p=>⟨sL rfl,λl f=>⟨r,s,l,af.ag f _ _ (af.ag p _ _ (aa)),af.ag f _ _ (aa),aa,((af.ag g).to p).to f,rfl⟩⟩⟩⟩ ?_;rintro u H5 ⟨d0,d1,b2,rd0,rd1,hb2,v,rfl⟩;have U:=v _ _ N;have L:=v _ _ L;refine av (aQ (bM (cy (bG (ao aZ (cy (aC aU cG ai) eE))) (bG (ao aZ (cy (aC aU cG ai) (aK gM gX (bM (bQ (bG (ao aZ (ao aZ (ao (aC aU cG ai) (ao aZ (cy cR aZ))))))))))))))) ⟨aV.of (U),aB (j:=0) rfl,sL rfl,λW g=>⟨aV.of (af.ag g _ _ (U)),aB (j:=1) rfl,aV.of (af.ag g _ _ (U)),aB (j:=0) rfl,sL rfl,λf0 p=>⟨sL rfl,λl1 f=>⟨af.ag f _ _ (af.ag p _ _ (af.ag g _ _ (hb2))),aa,sL rfl,λdl x=>⟨sL rfl,λX G=>⟨sL rfl,λlm g5=>?_⟩⟩⟩⟩⟩⟩;have z:af H5 _:=(((((af.ag g).to p).to f).to x).to G).to (o:=.lst [.ref W,.ref X]) g5;refine q 2 c lm _ O ⟨[W,X],aa,.U7 (.of (af.ag g5 _ _ (af.ag G _ _ (af.ag x _ _ (af.ag f _ _ (af.ag p _ _ (aa)))))) L (.U7 (Y.ae (C.trans v)) (.U7 (S.ae (C.trans v)) (.U7 (ra2.ae v) (.U7 (ra3.ae v) .nil)))) z) (.U7 ⟨dl,[d0,d1,f0],af.ag g5 _ _ (aa),af.ag g5 _ _ (af.ag G _ _ (aa)),.U7 (rd0.ae z) (.U7 (rd1.ae z) (.U7 (af.ag g5 _ _ (af.ag G _ _ (af.ag x _ _ (af.ag f _ _ (aa))))) .nil))⟩ .nil)⟩ (M.trans (J.trans (C.trans (v.trans z))))
theorem rg:∀(rs:List cz) (k:Nat),(jI bb i k rs).bind (λn=>if k<=n then rs[n-k]? else none)=rs.find? (λR=>iP R bb i)
 | [],k=>rfl
 |R::r,k=>by
  rw[jI,aj4];cases hf:iP R bb i with
  |true=>simp
  |false =>
   simp only[ak6,ao9];rw[<- rg r (k+1)];cases e:jI bb i (k+1) r with
   |none=>rfl
   |some n =>
    have hn:=(mZ e).1;show (if k<=n then (R::r)[n-k]? else none)=(if k+1<=n then r[n-(k+1)]? else none)
    rw[w4 (by lia),w4 hn,show n-k=(n-(k+1))+1 by lia,ah2]
def sH(rs:List cz)(bb:Str)(i:Nat):iD rs bb i=rs.find? (λR=>iP R bb i):=by
 rw[<- rg rs 0,iD,firstM];cases jI bb i 0 rs with
 |none=>rfl
 |some n=>rfl
def bf.ams{ys:List cz}(h:bf (TR' H) fs (ys.filter p))(hx:TR' H tr x):bf (TR' H) (if p x=true then fs++[tr] else fs) ((ys++[x]).filter p):=by
 rw[List.filter_append];by_cases e:p x=true
 .rw[w4 e];have:[x].filter p=[x]:=by simp[e]
  rw[this];exact bf.snoc h hx
 .rw[C5 e];have:[x].filter p=[]:=by simp[e]
  rw[this,ad2];exact h
structure WSt(H H':Hp)(ms:List aR)(bb:Str)(lq'' lt lk:Addr)(c d:Cfg)(B j n:Nat):Prop where
 s:H' lq''=r6 (c.on.map aX)
 t:H' lt=r6 (c.aP.map V.str)
 k:GM H' lk c.bj
 ft:H lt=none
 fk':H lk=none
 nst:lq''≠lt
 nsk:lq''≠lk
 ntk:lt≠lk
 ok:lK ms c.on
 tl:c.aP.length<=bb.length
 ol:c.on.length<=B+j
 ml:c.bj.length<=j
 kn:j<=n
 go:goN ms bb (n-j) c=some d
 ae:af H H'
def WSt.to{B k n:Nat}(h:WSt H H' ms bb lq'' lt lk c d B k n)(z:af H' H''):WSt H H'' ms bb lq'' lt lk c d B k n:=⟨z _ _ h.s,z _ _ h.t,h.k.ae z,h.ft,h.fk',h.nst,h.nsk,h.ntk,h.ok,h.tl,h.ol,h.ml,h.kn,h.go,h.ae.trans z⟩
inductive alv(vs:q7)(H:Hp)(Q:VK)(_:XK):Prop|mk(lm lp:Addr)(ms:List aR)(on:c7)(bb:Str)(n:Nat)(d:Cfg)(_:vs=[.ref lm,.ref lp,.str bb])(_:TMs H lm ms)(_:K1 ms)(_:H lp=r6 (on.map aX))(_:lK ms on)(_:bb.length<=1000)(_:on.length<=20000)(_:n<=30000)(_:goN ms bb n ⟨on,[],[]⟩=some d)(_:∀tp lt lo lk H',H' tp=t0 [.ref lt,.ref lo,.ref lk]->H' lt=r6 (d.aP.map V.str)->H' lo=r6 (d.on.map aX)->GM H' lk d.bj->H lt=none->H lk=none->af H H'->Q (.ref tp) H')
def alk:bE P w K mg ap dJ 2 t.afD t.akQ ["_law_modes_here","_law_pile","_law_row_here"] alv:=by
 refine T.ahl.ok ZN λvs H Q E h=>?_;obtain⟨lm,lp,N,on,bb,n,d,rfl,hM,F,hlp,hok0,hrow,hbl,hn,hgo,q⟩:=h;room;have G:=F.good;obtain⟨ts,hts,hA⟩:=hM;refine ak (b7 3 ZN (bM bu)) ⟨sL rfl,λW g0=>?_⟩;have s1:af H (ag H W (.lst [])):=af.ag g0;have h1:ag H W (.lst []) W=r6 []:=aa;generalize ag H W (.lst [])=H1 at s1 h1;refine ak (b7 4 ZN (bM bu)) ⟨sL rfl,λlk g1=>?_⟩;have s2:af H1 (ag H1 lk (.lst [])):=af.ag g1;have h2:ag H1 lk (.lst []) lk=r6 []:=aa;generalize ag H1 lk (.lst [])=H2 at s2 h2;refine ak (lJ (i:=5) ZN.nd rfl (Or.inr rfl) ai) ?_;refine ak (b7 6 ZN k7) ?_;show At _ _ _ [ρ lm,ρ lp,τ bb,ρ W,ρ lk,ι 0,some (.bl false),none,none,none,none,none,none,none,none,none] H2;have flk:H lk=none:=s1.free g1;refine aF (λY O=>∃a lt j x7 x8 Z l r u A B C,Y=[ρ lm,ρ a,τ bb,ρ lt,ρ lk,ι d.aP.length,some (.bl true),x7,x8,Z,l,r,u,A,B,C]/\WSt H O N bb a lt lk d d on.length j n) (jd aa7 (g9 (gR jv)) ay) ?_ ?_
 .refine⟨λm Y O=>∃c a lt j b x7 x8 Z l r u A B C,Y=[ρ lm,ρ a,τ bb,ρ lt,ρ lk,ι c.aP.length,some (.bl b),x7,x8,Z,l,r,u,A,B,C]/\WSt H O N bb a lt lk c d on.length j n/\(b=true->c=d/\m=0)/\(b=false->m=n-j+1),⟨n+1,⟨on,[],[]⟩,lp,W,0,false,_,_,_,_,_,_,_,_,_,rfl,⟨s2 _ _ (s1 _ _ hlp),s2 _ _ h1,⟨[],h2,bf.nil⟩,g0,flk,au hlp g0,au (s1 _ _ hlp) g1,au h1 g1,hok0,Z9 _,N0 _,N0 _,Z9 _,hgo,s1.trans s2⟩,(λy=>by cases y),λ_=>rfl⟩,?_⟩;rintro m Y H4 ⟨c,a,lt,j,b,x7,x8,Z,l,r,u,A,B,C,rfl,S,hb1,hb0⟩;cases b with
  |true =>
   obtain⟨rfl,rfl⟩:=hb1 rfl;exact⟨a,lt,j,x7,x8,Z,l,r,u,A,B,C,rfl,S⟩
  |false =>
   have hm:=hb0 rfl;clear hb0 hb1;refine⟨_,λY O z=>z,?_⟩;obtain⟨I,hmd⟩:=S.ok.bp;obtain⟨tm,htm,lr,ps,t1,t2,t3⟩:=hA.at hmd;have hmm:=p0 hmd;have h12:=F.six I hmm;have hru:iD (gE N (cE c.on)) bb c.aP.length=(I.bd.filter (λR=>iP R bb c.aP.length)).head?:=by rw[sH,gE,hmd,List.head?_filter]
   have htl:=S.tl;have hkn:=S.kn;have hol:=S.ol;have hml:=S.ml;refine ak (b7 7 ZN (aC aO (aC aU br (aC aU bP (iQ fT ai))) ai)) ⟨aV.of S.s,gA (iI S.ok.1),aV.of (S.ae _ _ hts),cM htm,bT.of (S.ae _ _ t1),aB (j:=1) rfl,?_⟩;show At _ _ _ [ρ lm,ρ a,τ bb,ρ lt,ρ lk,ι c.aP.length,some (.bl false),τ I.bZ,x8,Z,l,r,u,A,B,C] H4;refine aF (λY O=>∃lf fs,Y=[ρ lm,ρ a,τ bb,ρ lt,ρ lk,ι c.aP.length,some (.bl false),τ I.bZ,ρ lf,Z,l,r,u,A,B,C]/\O lf=r6 (fs.map V.ref)/\bf (TR' O) fs (I.bd.filter (λR=>iP R bb c.aP.length))/\H4 lf=none/\af H4 O) (@D6 _ 8 _ (az (top 72)) _ ["_law_modes_here","_law_pile","_law_row_here","_law_tints","_law_marks","_law_at","_law_is_over","_law_colour","_law_fits","_law_kind","_law_arg","_law_paint","_law_deed_here","_law_goal","_law_fold","_law_eaten_here"] _ _ _ ("_law_rule") _ _ _ _ [("_law_row_here",2),("_law_at",5)] _ _ _ ZN.nd rfl (Or.inl rfl) (by walk_at "ck") (fF (aC aO (aC aU br (aC aU bP (iQ fT ai) (λ_ _=>rfl)) (λ_ _=>rfl)) ai (λ_ _=>rfl))) (λ_ _ _ _=>by exact(aA nR (aS (HJ T) hr.m rfl T.Hf T.yQ.kp T.yQ.b4 .nil aH (ao (aC (Ct (K:=K) rfl) cG ai (λ_ _=>rfl)) (ao (aC (Ct (K:=K) rfl) cG ai (λ_ _=>rfl)) (ao br (ao bP bu (by left)) (by left)) (by left)) (by left)) (by left) (by left) (by left)) cR (aE _))) (λ_ _ _ _=>by exact cG) (by left) (by left) (by left) (by left) (by left) (by left)) ?_ ?_
   .refine⟨aV.of S.s,gA (iI S.ok.1),aV.of (S.ae _ _ hts),cM htm,bT.of (S.ae _ _ t1),aB (j:=2) rfl,lr,rfl,⟨_,aV.of (S.ae _ _ t2)⟩,zp (xs:=ps.map V.ref) (λi ys O=>O=H4/\∃fs,ys=fs.map V.ref/\bf (TR' H4) fs ((I.bd.take i).filter (λR=>iP R bb c.aP.length))) ⟨rfl,[],rfl,bf.nil⟩ (cL (by rw[d5,t3.1];lia)) (by rintro i ys O _ ⟨rfl,_⟩;exact aV.of (S.ae _ _ t2)) ?_ (by rintro ys H5 hyl ⟨e5,fs,rfl,hF⟩ D hD;rw[d5,t3.1,ab3] at hF;rw[e5] at hD ⊢;exact⟨D,fs,rfl,aa,hF.mono λ_ _ z=>z.ae (af.ag hD),hD,af.ag hD⟩)⟩
    .rintro i v ys H5 hv hyl ⟨e5,fs,rfl,hF⟩;rw[e5];clear e5 H5;rw[v3] at hv;obtain⟨tr,htr,rfl⟩:=D1.mp hv;have hil:=(d6.mp htr).1;obtain⟨x,hx⟩:∃x,I.bd[i]?=some x:=⟨I.bd[i]'(t3.1▸hil),i4 _⟩
     have hT:TR' H4 tr x:=(t3.2 i tr x htr hx).ae S.ae;have hT2:H4 tr=t0 (tupQ x):=hT;have hR:=F.cb I hmm x (p0 hx);have hz:x.bi.length<=200:=by
      by_cases hb:ax x.bc
      .rw[hR.pat.ZC hb];decide
      .exact(hR.pat.sg hb).2.1
     have htake:=ae1 hx;have hxl:i<(ps.map V.ref).length:=by rw[d5];exact hil
     have:=bf.ams (p:=λR=>iP R bb c.aP.length) hF hT;rw[<- htake] at this;refine⟨bT.of hT2,aB (j:=0) rfl,bT.of hT2,aB (j:=1) rfl,x.bc,x.bi,bb,c.aP.length,rfl,hz,hrow,htl,rfl,.mk ?_⟩;by_cases h:fh x.bc x.bi bb c.aP.length = .dj
     .have hp:¬iP x bb c.aP.length=true:=λz=>(of_decide_eq_true z) h;rw[C5 hp] at this;exact mG (c:=false) (by rw[ab4 h];rfl) (q8 hxl (by lia) ⟨rfl,fs,rfl,this⟩)
     .have hp:iP x bb c.aP.length=true:=ab4 h;rw[w4 hp] at this;exact mG (c:=true) (by rw[ab2 h];rfl) (q8 hxl (by rw[i5];simpa using hyl) ⟨rfl,fs++[tr],by rw[o0];rfl,this⟩)
   rintro Y H5 ⟨lf,fs,rfl,X,hF,f5,s5⟩;have f:=S.to s5;have stepN:∀c',fc N bb c=some c'->j+1<=n/\goN N bb (n-(j+1)) c'=some d:=λc' L=>by
    have hg:=S.go;cases e:n-j with
    |zero=>rw[e,goN,L] at hg;cases hg
    |succ m =>
     rw[e,goN,L] at hg;refine⟨by lia,?_⟩;rw[show n-(j+1)=m by lia];exact hg
   cases hh:(I.bd.filter (λR=>iP R bb c.aP.length)).head? with
   |none =>
    have hnil:I.bd.filter (λR=>iP R bb c.aP.length)=[]:=List.head?_eq_none_iff.mp hh;have hfs:fs=[]:=by have:=hF.1;rw[hnil] at this;exact ah3.mp this
    subst hfs;rw[hh] at hru;by_cases hend:c.aP.length=bb.length
    .have L:fc N bb c=none:=by rw[fc,hru];exact C5 (by lia)
     have hd:d=c:=by have hg:=S.go;rw[rY L] at hg;exact(aa1 hg).symm
     refine av (bq (PW.pt (dX (aA cC (ez aD T.bD (bQ kH)) ai (aE _)) (cX (aA cC gX (ez bz T.bD (bQ cG)) (aE _))))) ay ay) ⟨_,_,rfl,.inl (aV.of X),rfl,.mk<|dM (λ_=>⟨_,rfl,bK (by lia),rfl,.mk<|dM (λ_=>?_) (λh=>absurd (by rw[hend]) h)⟩) (λh=>absurd rfl h)⟩;exact av (b7 6 ZN k7) ⟨0,by lia,c,a,lt,j,true,_,_,_,_,_,_,_,_,_,rfl,f,(λ_=>⟨hd.symm,rfl⟩),λy=>by cases y⟩
    .have hlt:c.aP.length<bb.length:=by lia
     have L:fc N bb c=some ⟨c.on,c.aP++[dG N (cE c.on)],c.bj⟩:=by rw[fc,hru];exact w4 hlt
     obtain⟨hk1,hg1⟩:=stepN _ L;have ecol:dG N (cE c.on)=I.bZ:=by rw[dG,hmd]
     refine av (bq (PW.pt (dX (aA cC (ez aD T.bD (bQ kH)) ai (aE _)) (cX (aA cC gX (ez bz T.bD (bQ cG)) (aE _))))) ay ay) ⟨_,_,rfl,.inl (aV.of X),rfl,.mk<|dM (λ_=>⟨_,rfl,bK (by lia),rfl,.mk<|dM (λh=>absurd (V.int.inj h) (by lia)) (λ_=>?_)⟩) (λh=>absurd rfl h)⟩;refine av (bq (aA cC (ez aD T.bD (bQ kH)) ai (aE _)) ay ay) ⟨_,_,rfl,.inl (aV.of X),rfl,.mk<|dM (λ_=>?_) (λh=>absurd rfl h)⟩;refine ak (aY (cV Z4 aa0 aa3 bW dh (bQ jO))) ⟨.inl ⟨rfl,_,aV.of f.t⟩,f.t,cL (by rw[d5];lia),?_⟩;refine av (lJ (i:=5) ZN.nd rfl (Or.inr rfl) (aK bh gX ai)) ⟨n-(j+1)+1,by lia,⟨c.on,c.aP++[dG N (cE c.on)],c.bj⟩,a,lt,j+1,false,some (.str I.bZ),some (.ref lf),Z,l,r,u,A,B,C,?_,⟨by rw[aj f.nst];exact f.s,by rw[aa];show _=r6 ((c.aP++[dG N (cE c.on)]).map V.str);rw[o0,ecol];rfl,f.k.mJ f.t (aa4 f.ntk),f.ft,f.fk',f.nst,f.nsk,f.ntk,f.ok,by show (c.aP++[dG N (cE c.on)]).length<=_;rw[i5,P3,ac6];lia,by show c.on.length<=_;lia,by show c.bj.length<=_;lia,hk1,hg1,by intro b o hb;rw[aj (au hb f.ft)];exact f.ae _ _ hb⟩,(λy=>by cases y),λ_=>rfl⟩
     .show [ρ lm,ρ a,τ bb,ρ lt,ρ lk,ι ((c.aP.length:Int)+1),some (.bl false),τ I.bZ,ρ lf,Z,l,r,u,A,B,C]=[ρ lm,ρ a,τ bb,ρ lt,ρ lk,some (.int (((c.aP++[dG N (cE c.on)]).length:Nat):Int)),some (.bl false),τ I.bZ,ρ lf,Z,l,r,u,A,B,C]
      rw[i5,Int.natCast_add];rfl
   |some R =>
    obtain⟨hx,hfx⟩:=ao2.mp (List.mem_of_head? hh);have hR:=F.cb I hmm R hx;have hne:fs≠[]:=λz=>by have:=hF.1;rw[z] at this;rw[ah3.mp this.symm] at hh;cases hh
    obtain⟨tr,htr⟩:∃tr,fs[0]?=some tr:=⟨fs[0]'(ag5.mpr hne),i4 _⟩
    have hT5:TR' H5 tr R:=hF.2 0 tr R htr (by rw[<- List.head?_eq_getElem?];exact hh);have hT5:H5 tr=t0 (tupQ R):=hT5;rw[hh] at hru;have L:fc N bb c=some (iB c R bb):=by rw[fc,hru]
    obtain⟨hk1,hg1⟩:=stepN _ L;have hdl:=qb (on:=c.on) (d:=R.bB) (g:=R.bo);have hel:=zN (R:=R) (bb:=bb) hR.pat.bc htl;have hz:R.bi.length<=200:=by
     by_cases hb:ax R.bc
     .rw[hR.pat.ZC hb];decide
     .exact(hR.pat.sg hb).2.1
    refine av (bq (PW.pt (dX (aA cC (ez aD T.bD (bQ kH)) ai (aE _)) (cX (aA cC gX (ez bz T.bD (bQ cG)) (aE _))))) ay ay) ⟨_,_,rfl,.inl (aV.of X),rfl,.mk<|dM (λh=>absurd (V.int.inj h) (by rw[d5];have:=ag5.mpr hne;lia)) (λ_=>?_)⟩;refine av (bq (aA cC (ez aD T.bD (bQ kH)) ai (aE _)) ay ay) ⟨_,_,rfl,.inl (aV.of X),rfl,.mk<|dM (λh=>absurd (V.int.inj h) (by rw[d5];have:=ag5.mpr hne;lia)) (λ_=>?_)⟩;refine ak (jo (aC aU kH ai) (iK rfl (bF (jb 9 ZN) (bF (jb 10 ZN) (bF (jb 11 ZN) (bF (jb 12 ZN) (bF (jb 13 ZN) (bF (jb 14 ZN) fU)))))))) ⟨aV.of X,cM (k:=0) htr,tr,_,rfl,bT.of hT5,rfl,_,_,rfl,_,_,rfl,_,_,rfl,_,_,rfl,_,_,rfl,_,_,rfl,rfl,?_⟩;refine ak (b7 15 ZN (aS (HJ T) hr.m rfl T.Hf T.yQ.kp T.yQ.b4 .nil aH (ao l9 (ao ly (cy cG gX))))) ⟨R.bc,R.bi,bb,c.aP.length,rfl,hz,hrow,htl,?_⟩;rw[Me hfx];show At _ _ _ [ρ lm,ρ a,τ bb,ρ lt,ρ lk,ι c.aP.length,some (.bl false),τ I.bZ,ρ lf,τ R.bc,τ R.bi,τ R.bZ,τ R.bB,some (vU R.bo),τ R.bn,some (aX (fN R bb c.aP.length))] H5;refine aF (λY O=>Y=[ρ lm,ρ a,τ bb,ρ lt,ρ lk,ι c.aP.length,some (.bl false),τ I.bZ,ρ lf,τ R.bc,τ R.bi,τ R.bZ,τ R.bB,some (vU R.bo),τ R.bn,some (aX (fN R bb c.aP.length))]/\GM O lk (iB c R bb).bj/\(∀b o,H5 b=some o->b≠lk->O b=some o)) (bq (aA tX (pv 14) aZ (aE _)) ay ay) ?_ ?_
    .refine⟨rfl,.mk<|mq (λh=>?_) (λh=>bg ⟨rfl,by have h:R.bn = "" := V.str.inj h;have em:(iB c R bb).bj=c.bj:=w4 h;rw[em];exact f.k,λb o e _=>e⟩)⟩
     .have h:R.bn ≠ "" := λz=>h (by rw[z]);obtain⟨ps',hps,hAp⟩:=f.k;refine av (aY (cV Z4 aa0 aa3 bW eE (bQ (bG (cy gX (pv 14)))))) ⟨.inl ⟨rfl,_,aV.of hps⟩,sL rfl,λtp htp=>?_⟩;have J:af H5 (ag H5 tp (.tup [.int c.aP.length,.str R.bn])):=af.ag htp;have hp11:ag H5 tp (.tup [.int c.aP.length,.str R.bn]) tp=t0 [.int c.aP.length,.str R.bn]:=aa;generalize ag H5 tp (.tup [.int c.aP.length,.str R.bn])=H11 at J hp11;have M:=J _ _ hps;have hpl:ps'.length<=100000:=by rw[hAp.1];lia
      refine⟨M,cL (by rw[d5];lia),rfl,?_,λb o e n=>by rw[aj n];exact J _ _ e⟩;have em:(iB c R bb).bj=c.bj++[(c.aP.length,R.bn)]:=C5 h;rw[em];refine⟨ps'++[tp],by rw[aa,o0];rfl,bf.snoc (hAp.mono λp m e=>by rw[aj (bL (J _ _ e) M)];exact J _ _ e) (by rw[aj (bL hp11 M)];exact hp11)⟩
    rintro Y H6 ⟨rfl,hk6,k6⟩;have hs6:=k6 _ _ f.s f.nsk;have ht6:=k6 _ _ f.t f.ntk;have s6:af H H6:=λb o e=>k6 _ _ (f.ae _ _ e) (au e f.fk');refine ak (b7 3 ZN (aK gM dh (aK EW (bM (bQ kU)) (pv 15)))) ⟨sL rfl,λl1 hl1=>⟨aa,by lia,by lia,(by rw[ab9];exact bK (by simp only[P3,ac6];lia)),λl2 hl2=>?_⟩⟩;rw[ab9,sJ];have s9:af H6 (ag (ag H6 l1 (.lst [.str R.bZ])) l2 (.lst (List.replicate (fN R bb c.aP.length) (V.str R.bZ)))):=(af.ag hl1).to hl2;have hl9:ag (ag H6 l1 (.lst [.str R.bZ])) l2 (.lst (List.replicate (fN R bb c.aP.length) (V.str R.bZ))) l2=r6 (List.replicate (fN R bb c.aP.length) (V.str R.bZ)):=aa;generalize ag (ag H6 l1 (.lst [.str R.bZ])) l2 (.lst (List.replicate (fN R bb c.aP.length) (V.str R.bZ)))=H9 at s9 hl9;refine⟨s9 _ _ ht6,hl9,bK (by rw[d5,af2];lia),λlt' U=>?_⟩;have s10:af H9 (ag H9 lt' (.lst (c.aP.map V.str++List.replicate (fN R bb c.aP.length) (V.str R.bZ)))):=af.ag U;have ht10:ag H9 lt' (.lst (c.aP.map V.str++List.replicate (fN R bb c.aP.length) (V.str R.bZ))) lt'=r6 ((iB c R bb).aP.map V.str):=by rw[aa];show _=r6 ((c.aP++List.replicate (fN R bb c.aP.length) R.bZ).map V.str);rw[o0,List.map_replicate]
    generalize ag H9 lt' (.lst (c.aP.map V.str++List.replicate (fN R bb c.aP.length) (V.str R.bZ)))=H10 at s10 ht10;have s610:=s9.trans s10;have hk10:=hk6.ae s610;have hs10:=s610 _ _ hs6;have nst':a≠lt':=au (s9 _ _ hs6) U;obtain⟨pk,hpk,_⟩:=id (hk6.ae s9);have nkt':lk≠lt':=au hpk U;have ft':H lt'=none:=(s6.trans s9).free U;refine ak (lJ (i:=5) ZN.nd rfl (Or.inr rfl) (aK bh gX (pv 15))) ⟨?_⟩;refine av (b7 1 ZN (aS (Sy T) hr.m rfl T.alU T.agB.kp T.agB.b3 .nil aH (ao bP (cy (pv 12) (pv 13))))) ⟨a,c.on,R.bB,R.bo,rfl,hs10,S.ok.1,by lia,hR.bB,(λhg=>let ⟨g,e,_⟩:=hR.bo hg;⟨g,e⟩),λlq' H11 hq' hn' J=>?_⟩;have n1:lq'≠lt':=by
     rcases hn' with rfl|y
     .exact nst'
     .exact aa4 (au ht10 y)
    have n2:lq'≠lk:=by
     obtain⟨pk,hpk,_⟩:=id hk10;rcases hn' with rfl|y
     .exact S.nsk
     .exact aa4 (au hpk y)
    refine⟨n-(j+1)+1,by lia,iB c R bb,lq',lt',j+1,false,some (.str I.bZ),some (.ref lf),some (.str R.bc),some (.str R.bi),some (.str R.bZ),some (.str R.bB),some (vU R.bo),some (.str R.bn),some (aX (fN R bb c.aP.length)),?_,⟨hq',J _ _ ht10,hk10.ae J,ft',S.fk',n1,n2,aa4 nkt',S.ok.bB G hmm hx,by show (c.aP++List.replicate (fN R bb c.aP.length) R.bZ).length<=_;rw[i5,af2];exact hel,by show (cT c.on R.bB R.bo).length<=_;lia,?_,hk1,hg1,(s6.trans s610).trans J⟩,(λy=>by cases y),λ_=>rfl⟩
    .show _=[some (V.ref lm),ρ lq',τ bb,ρ lt',ρ lk,some (.int (((c.aP++List.replicate (fN R bb c.aP.length) R.bZ).length:Nat):Int)),some (.bl false),τ I.bZ,ρ lf,τ R.bc,τ R.bi,τ R.bZ,τ R.bB,some (vU R.bo),τ R.bn,some (aX (fN R bb c.aP.length))]
     rw[i5,af2,Int.natCast_add];rfl
    .show (if R.bn = "" then c.bj else c.bj++[(c.aP.length,R.bn)]).length<=_;by_cases h:R.bn = ""
     .rw[w4 h];lia
     .rw[C5 h,i5];show c.bj.length+1<=_;lia
 rintro Y H3 ⟨a,lt,j,x7,x8,Z,l,r,u,A,B,C,rfl,S⟩;refine av (aQ (bG (ao dh (cy bP eE)))) ⟨sL rfl,λtp htp=>?_⟩;have S2:=S.to (af.ag (o:=.tup [.ref lt,.ref a,.ref lk]) htp);exact q tp lt a lk _ aa S2.t S2.s S2.k S2.ft S2.fk' S2.ae
def Cy(h:goN ms bb n c=some d)(g:goN ms bb m c=some e):d=e:=by exact aa1 ((mO (Nat.le_max_left n m) h).symm.trans (mO (Nat.le_max_right n m) g))
def NL'(H:Hp)(p:Addr)(on:c7):Prop:=H p=r6 (on.map aX)
def TL'(H:Hp)(p:Addr)(G:bC):Prop:=H p=r6 (G.d.aP.map V.str)
def ML'(H:Hp)(p:Addr)(G:bC):Prop:=GM H p G.d.bj
structure W6(H:Hp)(lP' lT lM':Addr)(Gs:List bC):Prop where
 p:∃as:c6,H lP'=r6 (as.map V.ref)/\bf (NL' H) as ([0]::Gs.map (·.d.on))
 t:∃bs:c6,H lT=r6 (bs.map V.ref)/\bf (TL' H) bs Gs
 m:∃cs:c6,H lM'=r6 (cs.map V.ref)/\bf (ML' H) cs Gs
def W6.ae(h:W6 H lP' lT lM' Gs)(s:af H H'):W6 H' lP' lT lM' Gs:=by obtain⟨⟨a,b,c⟩,⟨bs,d,e⟩,⟨f,g,i⟩⟩:=h;exact⟨⟨a,s _ _ b,c.mono λ_ _ z=>s _ _ z⟩,⟨bs,s _ _ d,e.mono λ_ _ z=>s _ _ z⟩,⟨f,s _ _ g,i.mono λ_ _ z=>GM.ae z s⟩⟩
theorem aah:∀{b:c7} {rs:a9} {Gs:List bC} {i:Nat} {G:bC},Chain ms b rs Gs->Gs[i]?=some G->(b::Gs.map (·.d.on))[i]?=some G.ce
 |_,_::_,G::Gs,0,G',h,e=>by cases e;show some _=_;rw[h.2.1]
 |_,_::_,G::Gs,i+1,G',h,e=>by have:=aah (i:=i) h.2.2.2 e;exact this
 |_,[],[],_,_,_,e=>by cases e
 |_,[],_::_,_,_,h,_=>h.elim
 |_,_::_,[],_,_,h,_=>h.elim
def aiu{xs:c6}(hn:on≠[])(h:on.map aX=xs.map V.ref):False:=by
 cases on with
 |nil=>exact hn rfl
 |cons a r =>
  cases xs with
  |nil=>cases h
  |cons b r=>cases (List.cons.inj h).1
inductive agz(vs:q7)(H:Hp)(Q:VK)(_:XK):Prop|mk(lm lr:Addr)(ms:List aR)(rs:a9)(Gs:List bC)(_:vs=[.ref lm,.ref lr])(_:TMs H lm ms)(_:K1 ms)(_:H lr=r6 (rs.map V.str))(_:rs.length<=1000)(_:Chain ms [0] rs Gs)(_:∀tp lP' lT lM' H',H' tp=t0 [.ref lP',.ref lT,.ref lM']->W6 H' lP' lT lM' Gs->H lP'=none->H lT=none->H lM'=none->af H H'->Q (.ref tp) H')
def TMs.ae(h:TMs H p ms)(s:af H H'):TMs H' p ms:=by obtain⟨c,a,b⟩:=h;exact⟨c,s _ _ a,b.mono λ_ _ z=>z.ae s⟩
def zU:bE P w K mg ap dJ 4 t.Fy t.NZ ["_law_modes_here","_law_rows"] agz:=by
 refine T.tL.ok tw λvs H Q E h=>?_;obtain⟨lm,lr,ms,rs,Gs,rfl,hM,F,hlr,hrl,hC,q⟩:=h;room;have hGl:=hC.len;refine ak (b7 2 tw (bM (bQ (bM (bQ ai))))) ⟨sL rfl,λg g0=>⟨sL rfl,λa A=>?_⟩⟩;have s0:af H (ag H g (.lst [.int 0])):=af.ag g0;have X:ag H g (.lst [.int 0]) g=r6 ([0].map aX):=aa;generalize ag H g (.lst [.int 0])=H0 at s0 X A;have D:af H0 (ag H0 a (.lst [.ref g])):=af.ag A;have eP:ag H0 a (.lst [.ref g]) a=r6 ([g].map V.ref):=aa;generalize ag H0 a (.lst [.ref g])=H1 at D eP;refine ak (b7 3 tw (bM bu)) ⟨sL rfl,λlT gT=>?_⟩;have I:af H1 (ag H1 lT (.lst [])):=af.ag gT;have eT:ag H1 lT (.lst []) lT=r6 []:=aa;generalize ag H1 lT (.lst [])=H2 at I eT;refine ak (b7 4 tw (bM bu)) ⟨sL rfl,λlM' l=>?_⟩;have f:af H2 (ag H2 lM' (.lst [])):=af.ag l;have eM:ag H2 lM' (.lst []) lM'=r6 []:=aa;generalize ag H2 lM' (.lst [])=H3 at f eM;have s3:af H H3:=(s0.trans D).trans (I.trans f);have fP':H a=none:=s0.free A;have fT':H lT=none:=(s0.trans D).free gT;have fM':H lM'=none:=((s0.trans D).trans I).free l;have nPT:a≠lT:=au eP gT;have nPM:a≠lM':=au (I _ _ eP) l;have nTM:lT≠lM':=au eT l;have n0:¬(g=a\/g=lT\/g=lM'):=by
  rintro (y|y|y)
  .exact au X A y
  .exact au (D _ _ X) gT y
  .exact au (I _ _ (D _ _ X)) l y
 show At _ _ _ [ρ lm,ρ lr,ρ a,ρ lT,ρ lM',none,none,none,none] H3;refine aF (λL j=>(∃x5 x6 x7 x8,L=[ρ lm,ρ lr,ρ a,ρ lT,ρ lM',x5,x6,x7,x8])/\W6 j a lT lM' Gs/\af H j) (dD aa7 rfl (fF bP) (jb 5 tw) ay) ?_ ?_
 .refine⟨lr,rfl,⟨_,aV.of (s3 _ _ hlr)⟩,jw (xs:=rs.map V.str) (λi L j=>∃x bs M s b,(∃x5 x6 x7 x8,L=[ρ lm,ρ lr,ρ a,ρ lT,ρ lM',x5,x6,x7,x8])/\j a=r6 ((x++[s]).map V.ref)/\j lT=r6 (bs.map V.ref)/\j lM'=r6 (M.map V.ref)/\bf (NL' (hid (λc=>c=a\/c=lT\/c=lM') j)) (x++[s]) ([0]::(Gs.take i).map (·.d.on))/\NL' (hid (λc=>c=a\/c=lT\/c=lM') j) s b/\bf (TL' (hid (λc=>c=a\/c=lT\/c=lM') j)) bs (Gs.take i)/\bf (ML' (hid (λc=>c=a\/c=lT\/c=lM') j)) M (Gs.take i)/\Chain ms b (rs.drop i) (Gs.drop i)/\af H j) ⟨[],[],[],g,[0],⟨_,_,_,_,rfl⟩,f _ _ (I _ _ eP),f _ _ eT,eM,bf.snoc bf.nil (aT (f _ _ (I _ _ (D _ _ X))) n0),aT (f _ _ (I _ _ (D _ _ X))) n0,bf.nil,bf.nil,hC,s3⟩ (by rintro i L j _ ⟨_,_,_,_,_,_,_,_,_,_,_,_,_,_,J⟩;exact aV.of (J _ _ hlr)) ?_ (by rintro L H4 ⟨x,bs,M,s,b,hZ,Y,hT,hm,aP,_,u,v,_,J⟩;rw[d5,<- hGl,ab3] at aP u v;exact⟨hZ,⟨⟨_,Y,aP.mono λ_ _ z=>aq _ _ z⟩,⟨_,hT,u.mono λ_ _ z=>aq _ _ z⟩,⟨_,hm,v.mono λ_ _ z=>GM.ae z λb o e=>aq _ _ e⟩⟩,J⟩)⟩
  .rintro i xv L H4 hxv ⟨x,bs,M,s,b,⟨x5,x6,x7,x8,rfl⟩,Y,hT,hm,aP,Z,u,v,hC4,J⟩;rw[v3] at hxv;obtain⟨r,hri,rfl⟩:=D1.mp hxv;obtain⟨G,N,e1,e2,hS,hC5⟩:=t8 hC4 hri;subst e1 e2;obtain⟨n,hn,hgo⟩:=hS.go;have hl1:x.length+1<=1001:=by have:=aP.1;simp only[i5,P3,ac6,d5,v6] at this;lia
   have hl2:bs.length<=1000:=by rw[u.1,v6];lia
   have hl3:M.length<=1000:=by rw[v.1,v6];lia
   have hb4:=aq _ _ Z;refine ak (jo (aS (alk T) hr.m rfl T.alP T.ahl.kp T.ahl.b3 .nil aH (ao br (cy (aC aU cG (iQ fT ai)) gX))) (iK rfl (bF (jb 6 tw) (bF (jb 7 tw) (bF (jb 8 tw) fU))))) ⟨aV.of Y,(o0▸aeP _ _),lm,s,ms,G.ce,G.bb,n,G.d,rfl,hM.ae J,F,hb4,hS.ok,hS.bb,hS.len,by lia,hgo,λtp lt B lk H5 k1 k2 k3 k4 f1 f2 s5=>⟨tp,_,rfl,bT.of k1,rfl,_,_,rfl,_,_,rfl,_,_,rfl,rfl,?_⟩⟩;have C:=s5 _ _ Y;have O:=s5 _ _ hT;have R:=s5 _ _ hm;have U:∀{p:Addr} {xs:c6},H5 p=r6 (xs.map V.ref)->B≠p:=λ{p xs} h y=>by rw[<- y,k3] at h;exact aiu hS.ok2.1 (HO.lst.inj (aa1 h))
   have nlo:¬(B=a\/B=lT\/B=lM'):=by
    rintro (y|y|y)
    .exact U C y
    .exact U O y
    .exact U R y
   have CI:¬(lt=a\/lt=lT\/lt=lM'):=by
    rintro (y|y|y)
    .exact au Y f1 y.symm
    .exact au hT f1 y.symm
    .exact au hm f1 y.symm
   have nlk:¬(lk=a\/lk=lT\/lk=lM'):=by
    rintro (y|y|y)
    .exact au Y f2 y.symm
    .exact au hT f2 y.symm
    .exact au hm f2 y.symm
   refine ak (aY (cV Z4 aa0 aa3 bW cG (bQ jO))) ⟨.inl ⟨rfl,_,aV.of C⟩,C,cL (by simp only[i5,P3,ac6,d5];lia),?_⟩;have hT6:ag H5 a (.lst ((x++[s]).map V.ref++[.ref B])) lT=_:=(aj (aa4 nPT)).trans O;refine ak (aY (cV Z4 aa0 aa3 bW dh (bQ jv))) ⟨.inl ⟨rfl,_,aV.of hT6⟩,hT6,cL (by rw[d5];lia),?_⟩;have hm7:ag (ag H5 a (.lst ((x++[s]).map V.ref++[.ref B]))) lT (.lst (bs.map V.ref++[.ref lt])) lM'=_:=(aj (aa4 nTM)).trans ((aj (aa4 nPM)).trans R);refine av (aY (cV Z4 aa0 aa3 bW eE (bQ kH))) ⟨.inl ⟨rfl,_,aV.of hm7⟩,hm7,cL (by rw[d5];lia),?_⟩;have eh:hid (λc=>c=a\/c=lT\/c=lM') (ag (ag (ag H5 a (.lst ((x++[s]).map V.ref++[.ref B]))) lT (.lst (bs.map V.ref++[.ref lt]))) lM' (.lst (M.map V.ref++[.ref lk])))=hid (λc=>c=a\/c=lT\/c=lM') H5:=by rw[iN (S:=λc=>c=a\/c=lT\/c=lM') (.inr (.inr rfl)),iN (S:=λc=>c=a\/c=lT\/c=lM') (.inr (.inl rfl)),iN (S:=λc=>c=a\/c=lT\/c=lM') (.inl rfl)]
   have W:af (hid (λc=>c=a\/c=lT\/c=lM') H4) (hid (λc=>c=a\/c=lT\/c=lM') H5):=aJ s5;have ko':NL' (hid (λc=>c=a\/c=lT\/c=lM') H5) B G.d.on:=aT k3 nlo;refine⟨x++[s],bs++[lt],M++[lk],B,G.d.on,⟨_,_,_,_,rfl⟩,by rw[aj nPM,aj nPT,aa,o0 (l₁:=x++[s])];rfl,by rw[aj nTM,aa,o0];rfl,by rw[aa,o0];rfl,by rw[eh,ae1 N,o0];exact bf.snoc (aP.mono λ_ _ z=>W _ _ z) ko',by rw[eh];exact ko',by rw[eh,ae1 N];exact bf.snoc (u.mono λ_ _ z=>W _ _ z) (aT k2 CI),?_,hC5,λb o Z=>by rw[aj (au Z fM'),aj (au Z fT'),aj (au Z fP')];exact s5 _ _ (J _ _ Z)⟩
   .rw[eh,ae1 N];refine bf.snoc (v.mono λ_ _ z=>GM.ae z W) ?_;obtain⟨pm,j1,j2⟩:=k4;refine⟨pm,aT j1 nlk,j2.mono λp m e=>aT e ?_⟩;rintro (y|y|y)
    .exact (bL e C) y
    .exact (bL e O) y
    .exact (bL e R) y
 rintro L H4 ⟨⟨x5,x6,x7,x8,rfl⟩,hW,J⟩;refine av (aQ (bG (ao cG (cy dh eE)))) ⟨sL rfl,λtp htp=>?_⟩;exact q tp a lT lM' _ aa (hW.ae (af.ag htp)) fP' fT' fM' (J.to htp)
abbrev Mark:=Nat×Str
abbrev Fold:=Nat×Nat×Option (Nat×Nat)
abbrev Dd:=List Fold×c7
noncomputable def closed(f:Option Fold)(r p:Nat):Fold:=((f.getD (0,0,none)).1,(f.getD (0,0,none)).2.1,some (r,p))
def eu(r:Nat)(st:Dd)(m:Mark):Dd :=
 if m.2 = "open" then (st.1++[(r,m.1,none)],st.2++[st.1.length]) else match st.2.getLast? with
  |none=>st
  |some n=>(st.1.set n (closed st.1[n]? r m.1),st.2.dropLast)
noncomputable def cO(rows:List (List Mark)):Nat->Dd
 |0=>([],[])
 |i+1=>(rows[i]?.getD []).foldl (eu i) (cO rows i)
def wM(rows:List (List Mark)):List Fold:=(cO rows rows.length).1
noncomputable def X8(f:Fold):Bool:=f.2.2.isNone
structure WF(st:Dd):Prop where
 nd:st.2.Nodup
 ok:∀n∈st.2,∃f,st.1[n]?=some f/\X8 f=true
 ct:st.1.countP X8=st.2.length
def z6{l:c7}{n:Nat}(h:l.getLast?=some n):l=l.dropLast++[n]:=by obtain⟨a,rfl⟩:=List.getLast?_eq_some_iff.mp h;rw[List.dropLast_concat]
def WF.step(h:WF st):WF (eu r st m):=by
 unfold eu;by_cases q:m.2 = "open"
 .rw[w4 q];refine⟨by refine af3.mpr ⟨h.nd,by simp,λa u b v=>?_⟩;obtain⟨f,d,_⟩:=h.ok a u;have:=(d6.mp d).1;rw[B1.mp v];lia,λn c=>?_,by show (st.1++[_]).countP X8=(st.2++[_]).length;rw[List.countP_append,h.ct,i5];rfl⟩
  .rcases X1.mp c with c|c
   .obtain⟨f,d,l⟩:=h.ok n c;refine⟨f,?_,l⟩;show (st.1++_)[n]?=_;rw[aa2 (d6.mp d).1];exact d
   .rw[B1.mp c];exact⟨(r,m.1,none),by show (st.1++_)[st.1.length]?=_;rw[U2 (N0 _),aj6];rfl,rfl⟩
 .rw[C5 q];cases e:st.2.getLast? with
  |none=>exact h
  |some n =>
   have j:=z6 e;obtain⟨f,d,l⟩:=h.ok n (by rw[j];simp);have s:=h.nd;rw[j] at s;have i:=af3.mp s;refine⟨i.1,λk t=>?_,?_⟩
   .have o:k∈st.2:=j▸aa8 _ t
    obtain⟨g,w,x⟩:=h.ok k o;refine⟨g,?_,x⟩;show (st.1.set n _)[k]?=_;rw[am8 (λz=>i.2.2 k t n (by simp) z.symm)];exact w
   .show (st.1.set n _).countP X8=st.2.dropLast.length;rw[List.countP_set ((d6.mp d).1),h.ct];have hl:st.2.length=st.2.dropLast.length+1:=by
     conv=>lhs;rw[j]
     rw[i5];rfl
    rw[((d6.mp d).2),w4 l,C5 (by unfold closed X8;simp)];lia
theorem WF.bn:∀{ms:List Mark} {st:Dd},WF st->WF (ms.foldl (eu r) st)
 | [],_,h=>h
 |m::ms,st,h=>WF.bn (ms:=ms) h.step
theorem A0(rows:List (List Mark)):∀i,WF (cO rows i)
 |0=>⟨List.nodup_nil,λn hn=>by simp[cO] at hn,rfl⟩
 |i+1=>(A0 rows i).bn
def GL(r:Nat)(st:Dd)(m:Mark):(eu r st m).1.length<=st.1.length+1/\(eu r st m).2.length<=st.2.length+1:=by
 unfold eu;split
 .simp
 .split
  .lia
  .simp;lia
theorem qd(r:Nat):∀(ms:List Mark) (st:Dd),(ms.foldl (eu r) st).1.length<=st.1.length+ms.length/\(ms.foldl (eu r) st).2.length<=st.2.length+ms.length
 | [],st=>by simp
 |m::ms,st=>by have h1:=qd r ms (eu r st m);have a:=GL r st m;rw[al4,P3];lia
def Small(rows:List (List Mark)):Prop:=rows.length<=100/\∀r∈rows,r.length<=9000
theorem nM(h:Small rows):∀i,(cO rows i).1.length<=9000*i/\(cO rows i).2.length<=9000*i
 |0=>by simp[cO]
 |i+1=>by
  have ih:=nM h i;have a:=qd i (rows[i]?.getD []) (cO rows i);have b:(rows[i]?.getD []).length<=9000:=by
   cases e:rows[i]? with
   |none=>simp
   |some r=>exact h.2 r (p0 e)
  rw[cO];lia
inductive ql(H:Hp)(l:Addr)(ms:List Mark):Prop|mk(a)(_:H l=r6 (a.map V.ref))(_:bf (λp (m:Mark)=>H p=t0 [.int m.1,.str m.2]) a ms)
inductive Va(H:Hp)(l:Addr)(rows:List (List Mark)):Prop|mk(a)(_:H l=r6 (a.map V.ref))(_:bf (ql H) a rows)
def ql.ae{ms:List Mark}(h:ql H l ms)(s:af H H'):ql H' l ms:=by obtain⟨c,a,b⟩:=h;exact⟨c,s _ _ a,b.mono λ_ _ z=>s _ _ z⟩
def jr(H:Hp)(p:Addr)(f:Fold):Prop:=match f.2.2 with
 |none=>H p=t0 [.int f.1,.int f.2.1,.dj]
 |some e=>∃q,H p=t0 [.int f.1,.int f.2.1,.ref q]/\H q=t0 [.int e.1,.int e.2]
def jr.tup(h:jr H p f):∃v,H p=t0 [.int f.1,.int f.2.1,v]:=by
 obtain⟨a,b,e⟩:=f;cases e with
 |none=>exact⟨_,h⟩
 |some e=>obtain⟨q,h,_⟩:=h;exact⟨_,h⟩
def jr.ae(h:jr H p f)(s:∀b xs,H b=t0 xs->H' b=t0 xs):jr H' p f:=by
 obtain⟨a,b,e⟩:=f;cases e with
 |none=>exact s _ _ h
 |some e=>obtain⟨q,c,d⟩:=h;exact⟨q,s _ _ c,s _ _ d⟩
inductive l7(H:Hp)(l:Addr)(fs:List Fold):Prop|mk(a)(_:H l=r6 (a.map V.ref))(_:bf (jr H) a fs)
def l7.ae(h:l7 H l fs)(s:af H H'):l7 H' l fs:=by obtain⟨c,a,b⟩:=h;exact⟨c,s _ _ a,b.mono λ_ _ z=>z.ae λb d=>s b _⟩
def lX(h:H l=r6 xs):∀b zs,H b=t0 zs->ag H l (.lst ys) b=t0 zs:=λb zs e=>by rw[aj (bL e h)];exact e
def bf.set{R:α->β->Prop}{as:List α}{bs:List β}{a:α}{b:β}{n:Nat}(h:bf R as bs)(r:R a b):bf R (as.set n a) (bs.set n b):=by
 refine⟨by simp[h.1],λi x y c d=>?_⟩;rw[List.getElem?_set] at c d;by_cases e:n=i
 .rw[w4 e] at c d;split at c
  .split at d
   .cases c;cases d;exact r
   .cases d
  .cases c
 .rw[C5 e] at c d;exact h.2 i x y c d
structure Mid(H0 H:Hp)(lt lw:Addr)(st:Dd):Prop where
 ft:l7 H lt st.1
 fw:H lw=r6 (st.2.map aX)
 ne:lt≠lw
 s:af H0 H
def Mid.to(h:Mid H0 H lt lw st)(s:af H H'):Mid H0 H' lt lw st:=⟨h.ft.ae s,s _ _ h.fw,h.ne,h.s.trans s⟩
def Mid.opened    {r:Nat} {m:Mark} (h:Mid H0 H lt lw st) (h1:H0 lt=none) (h2:H0 lw=none) (hm:m.2 = "open")  (hps:H lt=r6 (ps.map V.ref)) (hA:bf (jr H) ps st.1) (hp:ag H lw (.lst (st.2.map aX++[aX st.1.length])) p=none) :
  Mid H0 (ag (ag (ag H lw (.lst (st.2.map aX++[aX st.1.length]))) p (.tup [.int r,.int m.1,.dj])) lt (.lst (ps.map V.ref++[.ref p]))) lt lw (eu r st m):=by
 unfold eu;rw[w4 hm];have d:lt≠p:=λz=>by rw[<- z,aj h.ne,hps] at hp;cases hp
 have f:lw≠p:=λz=>by rw[<- z,aa] at hp;cases hp
 have a:∀b c,H b=t0 c->ag (ag (ag H lw (.lst (st.2.map aX++[aX st.1.length]))) p (.tup [.int r,.int m.1,.dj])) lt (.lst (ps.map V.ref++[.ref p])) b=t0 c:=λb c e=>by rw[aj (bL e hps)];have g:=lX (ys:=st.2.map aX++[aX st.1.length]) h.fw b c e;rw[aj (au g hp)];exact g
 refine⟨⟨ps++[p],by rw[aa,o0];rfl,(hA.mono λ_ _ z=>z.ae a).snoc (by show ag _ lt _ p=_;rw[aj (aa4 d),aa])⟩,by rw[aj (aa4 h.ne),aj f,aa,o0];rfl,h.ne,λb o e=>(af.up (af.to (af.up h.s h2 (o:=.lst (st.2.map aX++[aX st.1.length]))) hp (o:=.tup [.int r,.int m.1,.dj])) h1 (o:=.lst (ps.map V.ref++[.ref p]))) b o e⟩
def Mid.XY    {r n:Nat} {m:Mark}  (h:Mid H0 H lt lw st) (h1:H0 lt=none) (h2:H0 lw=none) (hm:m.2 ≠ "open") (e:st.2.getLast?=some n) (hf:st.1[n]?=some f)  (hps:H lt=r6 (ps.map V.ref)) (hA:bf (jr H) ps st.1)
  (s3:af (ag H lw (.lst (st.2.map aX).dropLast)) H3) (hp:H3 p=t0 [.int f.1,.int f.2.1,.ref q]) (hq:H3 q=t0 [.int r,.int m.1]):Mid H0 (ag H3 lt (.lst ((ps.map V.ref).set n (.ref p)))) lt lw (eu r st m):=by
 have g:eu r st m=(st.1.set n (f.1,f.2.1,some (r,m.1)),st.2.dropLast):=by unfold eu;rw[C5 hm,e];show (st.1.set n (closed st.1[n]? r m.1),_)=_;rw[hf];rfl
 have a:=s3 _ _ (by rw[aj h.ne];exact hps);rw[g];refine⟨⟨ps.set n p,by rw[aa,List.map_set],(hA.mono λ_ _ z=>z.ae (λb c z=>lX a b c (s3 _ _ (lX h.fw b c z)))).set ⟨q,lX a _ _ hp,lX a _ _ hq⟩⟩,by rw[aj (aa4 h.ne),s3 _ _ aa,List.map_dropLast],h.ne,λb o z=>by rw[aj (au z h1)];exact s3 _ _ (by rw[aj (au z h2)];exact h.s _ _ z)⟩
def BI{l:c7}(h:l.getLast?=some n):(l.map aX)[(l.map aX).length-1]?=some (aX n):=by rw[d5,v3,<- List.getLast?_eq_getElem?,h];rfl
def uV   {m:Mark} (hm:m.2 ≠ "open") (e:st.2=[]):eu r st m=st:=by unfold eu;rw[C5 hm,e];rfl
def vH{l:c7}(h:l≠[]):∃n,l.getLast?=some n:=⟨l.getLast h,List.getLast?_eq_getLast h⟩
def B6(h:j<n):zG n (j:Int)=some j:=by rw[zG,w4 (by lia),w4 (by lia),ab9]
inductive MW(vs:q7)(H:Hp)(Q:VK)(_:XK):Prop|mk(l:Addr)(rows:List (List Mark))(_:vs=[.ref l])(_:Va H l rows)(_:Small rows)(_:∀lt H',l7 H' lt (wM rows)->H lt=none->af H H'->Q (.ref lt) H')
def RU:bE P w K mg ap dJ 2 t.Jr t.M6 ["rows_marks"] MW:=by
 refine T.Gg.ok m8 λvs H Q E h=>?_;obtain⟨l,rows,rfl,hR,hS,q⟩:=h;room;obtain⟨ls,hl,hA⟩:=id hR;refine ak (b7 1 m8 (bM bu)) ⟨sL rfl,λlt A=>?_⟩;refine ak (b7 2 m8 (bM bu)) ⟨sL rfl,λlw B=>?_⟩;have s1:af H (ag H lt (.lst [])):=af.ag A;have R:lt≠lw:=λz=>by rw[<- z,aa] at B;cases B
 have I:H lw=none:=s1.free B;have M0:Mid H (ag (ag H lt (.lst [])) lw (.lst [])) lt lw ([],[]):=⟨⟨[],by rw[aj R,aa];rfl,bf.nil⟩,by rw[aa];rfl,R,s1.to B⟩
 generalize ag (ag H lt (.lst [])) lw (.lst [])=H1 at M0;show At _ _ _ [ρ l,ρ lt,ρ lw,none,none,none,none,none] H1;refine aF (λy S=>(∃U W C D F,y=[ρ l,ρ lt,ρ lw,U,W,C,D,F])/\Mid H S lt lw (cO rows rows.length)) (dD aa7 rfl (wG rfl T.mY (bQ br)) (iK rfl (bF (jb 3 m8) (bF (jb 4 m8) fU))) ay) ?_ ?_
 .refine⟨l,_,rfl,aV.of (M0.s _ _ hl),qK (xs:=ls.map V.ref) (λi y S=>(∃U W C D F,y=[ρ l,ρ lt,ρ lw,U,W,C,D,F])/\Mid H S lt lw (cO rows i)) ⟨⟨_,_,_,_,_,rfl⟩,M0⟩ (by rintro i y X _ ⟨_,M⟩;exact aV.of (M.s _ _ hl)) ?_ (by rintro y X ⟨h1,M⟩;rw[d5,hA.1] at M;exact⟨h1,M⟩)⟩
  .rintro i xv pt y X Y L ⟨⟨U,W,C,D,F,rfl⟩,M⟩;rw[v3] at Y;obtain⟨O,Z,rfl⟩:=D1.mp Y;obtain⟨bb,u⟩:∃r,rows[i]?=some r:=⟨rows[i]'(hA.1▸(d6.mp Z).1),i4 _⟩
   obtain⟨ps,J,hP⟩:=hA.2 i O bb Z u;have hi:=(d6.mp u).1;have hrl:=hS.2 bb (p0 u);have M2:=M.to (af.ag L (o:=.tup [.int i,.ref O]));refine⟨pt,[.int i,.ref O],rfl,bT.of aa,rfl,_,_,rfl,_,_,rfl,rfl,?_⟩;generalize ag X pt (.tup [.int i,.ref O])=H3 at M2;have eN:cO rows (i+1)=bb.foldl (eu i) (cO rows i):=by rw[cO,u];rfl
   refine av (dD aa7 rfl (fF eE) (iK rfl (bF (jb 5 m8) (bF (jb 6 m8) fU))) ay) ⟨O,rfl,⟨_,aV.of (M2.s _ _ J)⟩,jw (xs:=ps.map V.ref) (λj y S=>(∃C D F,y=[ρ l,ρ lt,ρ lw,ι i,ρ O,C,D,F])/\Mid H S lt lw ((bb.take j).foldl (eu i) (cO rows i))) ⟨⟨_,_,_,rfl⟩,M2⟩ (by rintro j y H4 _ ⟨_,M⟩;exact aV.of (M.s _ _ J)) ?_ (by rintro y H4 ⟨⟨C,D,F,rfl⟩,d⟩;rw[d5,hP.1,ab3,<- eN] at d;exact⟨⟨_,_,_,_,_,rfl⟩,d⟩)⟩
   .rintro j xv y H4 Y ⟨⟨C,D,F,rfl⟩,d⟩;rw[v3] at Y;obtain⟨p,hp,rfl⟩:=D1.mp Y;obtain⟨m,hm⟩:∃r,bb[j]?=some r:=⟨bb[j]'(hP.1▸(d6.mp hp).1),i4 _⟩
    have L:=d.s _ _ (hP.2 j p m hp hm);have eT:(bb.take (j+1)).foldl (eu i) (cO rows i)=eu i ((bb.take j).foldl (eu i) (cO rows i)) m:=by rw[List.take_add_one,hm,Option.toList_some,am2];rfl
    have wf:WF ((bb.take j).foldl (eu i) (cO rows i)):=(A0 rows i).bn;have hjl:=(d6.mp hm).1;have ln:=qd i (bb.take j) (cO rows i);have ln2:=nM hS i;rw[v6] at ln;have hrr:=hS.1;rw[eT];generalize (bb.take j).foldl (eu i) (cO rows i)=st at d wf ln;obtain⟨qs,g,x⟩:=id d.ft;refine⟨p,[.int m.1,.str m.2],rfl,bT.of L,rfl,_,_,rfl,_,_,rfl,rfl,?_⟩;refine av (bq (aA cC jv aZ (aE _)) ay ay) ⟨rfl,.mk<|dM (λh=>?_) (λh=>?_)⟩
    .have ho:m.2 = "open" := by injection h
     have eq1:ag H4 lw (.lst (st.2.map aX++[.int ((qs.map V.ref).length:Nat)])) lt=r6 (qs.map V.ref):=by rw[aj d.ne];exact g
     refine ak (aY (cV Z4 aa0 aa3 bW cG (bQ (ez aD T.bD (bQ bP))))) ⟨.inl ⟨rfl,_,aV.of d.fw⟩,_,_,rfl,.inl (aV.of g),d.fw,cL (by rw[d5];lia),?_⟩;refine av (aY (cV Z4 aa0 aa3 bW bP (bQ (bG (ao dh (cy gX cR)))))) ⟨.inl ⟨rfl,_,aV.of eq1⟩,sL rfl,λp2 G=>⟨by rw[aj (λz=>by rw[<- z,aj d.ne,g] at G;cases G),aj d.ne];exact g,cL (n:=(qs.map V.ref).length) (by rw[d5,x.1];lia),?_⟩⟩
     .refine⟨⟨_,_,_,rfl⟩,?_⟩;have e0:(qs.map V.ref).length=st.1.length:=by rw[d5,x.1]
      rw[e0] at G ⊢;exact d.opened A I ho g x G
    .have ho:m.2 ≠ "open" := λz=>h (by rw[z]);refine av (bq (gc cG (λ_=>rfl)) ay ay) ⟨!(st.2.map aX).isEmpty,.inl ⟨_,aV.of d.fw,rfl⟩,?_⟩;by_cases hw:st.2=[]
     .refine mG (c:=false) (by rw[hw];rfl) ?_;refine bg ⟨⟨_,_,_,rfl⟩,?_⟩;rw[uV ho hw];exact d
     .refine mG (c:=true) (by cases e:st.2 with | nil=>exact absurd e hw | cons a b=>rfl) ?_;obtain⟨n,hn⟩:=vH hw;obtain⟨f,hf,_⟩:=wf.ok n (List.mem_of_getLast? hn);have hnl:=(d6.mp hf).1;obtain⟨pf,hpf,hFA⟩:=x.at hf;obtain⟨v,hv⟩:=hFA.tup;refine ak (b7 7 m8 (qD Z4 aj1 al1 qJ cG)) ⟨.inl ⟨rfl,_,aV.of d.fw⟩,d.fw,BI hn,?_⟩;have N:ag H4 lw (.lst (st.2.map aX).dropLast) lt=r6 (qs.map V.ref):=by rw[aj d.ne];exact g
      have hv5:=lX (ys:=(st.2.map aX).dropLast) d.fw _ _ hv;refine av (jo (bG (ao (aC aO (aC aU bP jO) ai) (cy (aC aO (aC aU bP jO) ai) (bG (cy dh gX))))) (wH bP jO set_list)) ⟨aV.of N,cM hpf,bT.of hv5,aB (j:=0) rfl,aV.of N,cM hpf,bT.of hv5,aB (j:=1) rfl,sL rfl,λq6 h6=>⟨sL rfl,λp7 h7=>?_⟩⟩;have s7:=(af.ag h6 (o:=.tup [.int i,.int m.1])).to h7 (o:=.tup [.int f.1,.int f.2.1,.ref q6]);refine⟨lt,_,_,n,rfl,rfl,s7 _ _ N,B6 (by rw[d5,x.1];exact hnl),⟨_,_,_,rfl⟩,?_⟩;exact d.XY A I ho hn hf g x s7 aa (af.ag h7 _ _ aa)
 rintro y X ⟨⟨U,W,C,D,F,rfl⟩,M⟩;exact av (aQ bP) (q lt X M.ft A M.s)
inductive xX(t:eZ)(vs:q7)(H:Hp)(Q:VK)(_:XK):Prop|mk(x dx tt d ld lu dt a lg:Addr)(gs:c6)(ms:List aR)(Gs:List bC)(_:vs=[.ref x])(_:H x=s0 t.aG dx (sf tt d ld lu))(_:bJ t H tt dt a lg gs ms Gs)(_:Gs.length<=100)(_:(∀G∈Gs,G.d.bj.length<=9000))(_:∀l H',l7 H' l (wM (Gs.map λG=>G.d.bj))->H l=none->af H H'->Q (.ref l) H')
def Gp:bE P w K mg ap dJ 4 t.HU t.ND ["self"] (xX t):=by
 refine T.E6.ok Um λvs H Q E h=>?_;obtain⟨x,dx,o,d,ld,lu,s,a,B,C,F,b,rfl,J,I,hl,R,q⟩:=h;room;refine av (aQ (aS (RU T) hr.m rfl T.sP T.Gg.kp T.Gg.b1 .nil aH (ao (@iM _ (az (AA 49 2)) _ ["self"] _ _ ("row") _ _ [("self",0)] _ _ (by walk_at "ck") (fm rfl T.iG (ao (sY aD (by rfl) T.bD (by lk) (ao (bR (aM br rfl) T.aL T.rE (mP T) hr.m T.pM.b1 .nil aH (by left)) bu (by left)) (by left) (by left) (by left) (by left)) bu (by left)) (by left)) (λ_ _ _ _=>by exact(bw (@kc _ K _ _ _ _ br rfl (by left)) T.aL T.QJ (JA T) hr.m T.EJ.b2 .nil aH (ao bP bu (by left)) (by left) (by left) (by left))) (by left) (by left) (by left) (by left)) bu (by left)) (by left) (by left) (by left))) (⟨J,T.aN,T.bN,rfl,⟨I.ob,rfl,o,s,a,B,C,F,b,rfl,I,by lia,λla H1 S f1 U=>?_⟩⟩);refine⟨_,_,rfl,.inl (aV.of S),_,rfl,by rw[d5,d5];lia,by rw[d5,d5];lia,?_⟩;rw[show ((((b.map (·.bb)).map V.str).length:Nat):Int).toNat=b.length by rw[d5,d5];lia];refine tT (n:=b.length) (λi y L=>∃c,y=c.map V.ref/\bf (ql L) c ((b.take i).map λG=>G.d.bj)/\af H L) ⟨[],rfl,bf.nil,U⟩ (cL (by lia)) ?_ (by rintro y W g ⟨c,rfl,u,f⟩ D A;rw[ab3] at u;refine⟨D,_,rfl,⟨c,aa,u.mono λ_ _ z=>z.ae (af.ag A)⟩,⟨by rw[d5];exact hl,λr hr=>?_⟩,λlt N O f3 j=>q lt N O ((f.to A).free f3) ((f.to A).trans j)⟩;obtain⟨G,v,rfl⟩:=aa9.mp hr;exact R G v)
 .rintro i y W X g ⟨c,rfl,u,f⟩;obtain⟨G,v⟩:∃G,b[i]?=some G:=⟨b[i],i4 X⟩
  have M:=I.ae f;show _;refine⟨(f _ _ J),T.aN,T.bN,rfl,⟨M.ob,rfl,o,s,a,B,C,F,b,G,i,by rw[ah4];rfl,M,v,λl N Y Z h2 O j=>by refine⟨_,by lia,rfl,by lia,by rw[i5,g];rfl,c++[l],by rw[o0];rfl,?_,f.trans j⟩;rw[ae1 v,o0];exact bf.snoc (u.mono λ_ _ z=>z.ae j) ⟨Y,Z,h2.mono λp m e=>j _ _ e⟩⟩⟩
inductive aeT(vs:q7)(H:Hp)(Q:VK)(_:XK):Prop|mk(l:Addr)(Gs:List bC)(_:vs=[.ref l])(_:(∃cs:c6,H l=r6 (cs.map V.ref)/\bf (ML' H) cs Gs))(_:Gs.length<=100)(_:(∀G∈Gs,G.d.bj.length<=9000))(_:∀lt H',l7 H' lt (wM (Gs.map λG=>G.d.bj))->H lt=none->af H H'->Q (.ref lt) H')
def FY:bE P w K mg ap dJ 2 t.ahE t.akS ["_law_rows_marks"] aeT:=by
 refine T.afz.ok wQ λvs H Q E h=>?_;obtain⟨l,W,rfl,⟨ls,hl,X⟩,hS1,hS2,q⟩:=h;room;have sz:=ad0;obtain⟨rows,b⟩:∃rows,rows=W.map λG=>G.d.bj:=⟨_,rfl⟩
 have hS:Small rows:=b▸⟨by rw[d5];exact hS1,λr hr=>by obtain⟨G,Y,rfl⟩:=aa9.mp hr;exact hS2 G Y⟩
 have hrG:rows.length=W.length:=by rw[b,d5]
 rw[<- b] at q;refine ak (b7 1 wQ (bM bu)) ⟨sL rfl,λlt B=>?_⟩;refine ak (b7 2 wQ (bM bu)) ⟨sL rfl,λlw C=>?_⟩;have s1:af H (ag H lt (.lst [])):=af.ag B;have O:lt≠lw:=λz=>by rw[<- z,aa] at C;cases C
 have F:H lw=none:=s1.free C;have M0:Mid H (ag (ag H lt (.lst [])) lw (.lst [])) lt lw ([],[]):=⟨⟨[],by rw[aj O,aa];rfl,bf.nil⟩,by rw[aa];rfl,O,s1.to C⟩
 generalize ag (ag H lt (.lst [])) lw (.lst [])=H1 at M0;show At _ _ _ [ρ l,ρ lt,ρ lw,none,none,none,none] H1;refine aF (λx R=>(∃S y u A,x=[ρ l,ρ lt,ρ lw,S,y,u,A])/\Mid H R lt lw (cO rows rows.length)) (dD aa7 rfl (fm rfl T.iG (bQ (ez aD T.bD (bQ br)))) (jb 3 wQ) ay) ?_ ?_
 .refine⟨_,_,rfl,.inl (aV.of (M0.s _ _ hl)),_,rfl,by rw[d5,X.1];lia,by rw[d5,X.1];lia,?_⟩;rw[show (((ls.map V.ref).length:Nat):Int).toNat=rows.length by rw[d5,X.1,hrG];lia];refine fH (n:=rows.length) (λi x R=>(∃S y u A,x=[ρ l,ρ lt,ρ lw,S,y,u,A])/\Mid H R lt lw (cO rows i)) ⟨⟨_,_,_,_,rfl⟩,M0⟩ ?_ (λx H2 z=>z)
  .rintro i x H3 hi ⟨⟨S,y,u,A,rfl⟩,M2⟩;obtain⟨G,Y⟩:∃G,W[i]?=some G:=⟨W[i]'(by lia),i4 _⟩
   obtain⟨bb,I⟩:∃bb,bb=G.d.bj:=⟨_,rfl⟩
   have J:rows[i]?=some bb:=by rw[b,v3,Y,I];rfl
   obtain⟨lm,htp,ps,L,Z⟩:=X.at Y;rw[<- I] at Z;have hrl:=hS.2 bb (p0 J);have eN:cO rows (i+1)=bb.foldl (eu i) (cO rows i):=by rw[cO,J];rfl
   show At _ _ _ [ρ l,ρ lt,ρ lw,ι (0+(i:Int)),y,u,A] H3;rw[ah4];refine av (dD aa7 rfl (fF (aC aU br dh)) (iK rfl (bF (jb 4 wQ) (bF (jb 5 wQ) fU))) ay) ⟨aV.of (M2.s _ _ hl),cM htp,lm,rfl,⟨_,aV.of (M2.s _ _ L)⟩,jw (xs:=ps.map V.ref) (λj x R=>(∃y u A,x=[ρ l,ρ lt,ρ lw,ι i,y,u,A])/\Mid H R lt lw ((bb.take j).foldl (eu i) (cO rows i))) ⟨⟨_,_,_,rfl⟩,M2⟩ (by rintro j x H4 _ ⟨_,M⟩;exact aV.of (M.s _ _ L)) ?_ (by rintro x H4 ⟨⟨y,u,A,rfl⟩,a⟩;rw[d5,Z.1,ab3,<- eN] at a;exact⟨⟨_,_,_,_,rfl⟩,a⟩)⟩
   .rintro j xv x H4 hx ⟨⟨y,u,A,rfl⟩,a⟩;rw[v3] at hx;obtain⟨p,hp,rfl⟩:=D1.mp hx;obtain⟨m,hm⟩:∃r,bb[j]?=some r:=⟨bb[j]'(Z.1▸(d6.mp hp).1),i4 _⟩
    have hpt:=a.s _ _ (Z.2 j p m hp hm);have eT:(bb.take (j+1)).foldl (eu i) (cO rows i)=eu i ((bb.take j).foldl (eu i) (cO rows i)) m:=by rw[List.take_add_one,hm,Option.toList_some,am2];rfl
    have wf:WF ((bb.take j).foldl (eu i) (cO rows i)):=(A0 rows i).bn;have hjl:=(d6.mp hm).1;have ln:=qd i (bb.take j) (cO rows i);have ln2:=nM hS i;rw[v6] at ln;have hrr:=hS.1;rw[eT];generalize (bb.take j).foldl (eu i) (cO rows i)=st at a wf ln;refine⟨p,[.int m.1,.str m.2],rfl,bT.of hpt,rfl,_,_,rfl,_,_,rfl,rfl,?_⟩;refine av (bq (aA cC gX aZ (aE _)) ay ay) ⟨rfl,.mk<|dM (λh=>?_) (λh=>?_)⟩
    .have ho:m.2 = "open" := by injection h
     obtain⟨N,e,g⟩:=id a.ft;have eq1:ag H4 lw (.lst (st.2.map aX++[.int ((N.map V.ref).length:Nat)])) lt=r6 (N.map V.ref):=by rw[aj a.ne];exact e
     refine ak (aY (cV Z4 aa0 aa3 bW cG (bQ (ez aD T.bD (bQ bP))))) ⟨.inl ⟨rfl,_,aV.of a.fw⟩,_,_,rfl,.inl (aV.of e),a.fw,cL (by rw[d5];lia),?_⟩;refine av (aY (cV Z4 aa0 aa3 bW bP (bQ (bG (ao dh (cy eE cR)))))) ⟨.inl ⟨rfl,_,aV.of eq1⟩,sL rfl,λp2 D=>⟨by rw[aj (λz=>by rw[<- z,aj a.ne,e] at D;cases D),aj a.ne];exact e,cL (n:=(N.map V.ref).length) (by rw[d5,g.1];lia),?_⟩⟩
     .refine⟨⟨_,_,_,rfl⟩,?_⟩;have e0:(N.map V.ref).length=st.1.length:=by rw[d5,g.1]
      rw[e0] at D ⊢;exact a.opened B F ho e g D
    .have ho:m.2 ≠ "open" := λz=>h (by rw[z]);refine av (bq (aA j9 (ez aD T.bD (bQ cG)) ai (aE _)) ay ay) ⟨_,_,rfl,.inl (aV.of a.fw),.mk<|.mk<|?_⟩;by_cases hw:st.2=[]
     .refine mG (c:=false) (by rw[hw];rfl) ?_;refine bg ⟨⟨_,_,_,rfl⟩,?_⟩;rw[uV ho hw];exact a
     .refine mG (c:=true) (ab4 (by rw[d5];have:=ag5.mpr hw;lia)) ?_;obtain⟨N,e,g⟩:=id a.ft;obtain⟨n,hn⟩:=vH hw;obtain⟨f,hf,_⟩:=wf.ok n (List.mem_of_getLast? hn);have hnl:=(d6.mp hf).1;obtain⟨pf,hpf,hFA⟩:=g.at hf;obtain⟨v,hv⟩:=hFA.tup;refine ak (b7 6 wQ (qD Z4 aj1 al1 qJ cG)) ⟨.inl ⟨rfl,_,aV.of a.fw⟩,a.fw,BI hn,?_⟩;have U:ag H4 lw (.lst (st.2.map aX).dropLast) lt=r6 (N.map V.ref):=by rw[aj a.ne];exact e
      have hv5:=lX (ys:=(st.2.map aX).dropLast) a.fw _ _ hv;refine av (jo (aK Lb (bS Rn (aC aU bP jv) cP (bO ai)) (bG (bQ (bG (cy dh eE))))) (wH bP jv set_list)) ⟨aV.of U,cM hpf,bT.of hv5,(by show ¬(HT.iW 3 0 none=0/\HT.iW 3 3 (some 2)=3);decide),λu h6=>⟨sL rfl,λdA h7=>⟨sL rfl,λy8 h8=>?_⟩⟩⟩;have s8:=((af.ag h6 (o:=.tup [.int f.1,.int f.2.1])).to h7 (o:=.tup [.int i,.int m.1])).to h8 (o:=.tup [.ref dA]);refine⟨bT.of (xs:=[.int f.1,.int f.2.1]) (af.ag h8 _ _ (af.ag h7 _ _ aa)),bT.of aa,by simp,sL rfl,λz=>absurd z (by simp),λ_ p9' h9=>?_⟩
      have s9:=s8.to h9 (o:=.tup ([.int f.1,.int f.2.1]++[.ref dA]));refine⟨lt,_,_,n,rfl,rfl,s9 _ _ U,B6 (by rw[d5,g.1];exact hnl),⟨_,_,_,rfl⟩,?_⟩;exact a.XY B F ho hn hf e g s9 aa (af.ag h9 _ _ (af.ag h8 _ _ aa))
 rintro x H2 ⟨⟨S,y,u,A,rfl⟩,M⟩;exact av (aQ bP) (q lt H2 M.ft B M.s)
def ja{xs:a9}(h:xs[j]?=some x):oE (xs.map V.str) (j:Int)=some (.str x):=by have a:=(d6.mp h).1;rw[oE,zG,w4 (by lia),w4 (by rw[d5];lia),ab9,an2,v3,h];rfl
def Ko{xs:a9}(h:a+j<xs.length):(xs.drop a).reverse[j]?=xs[xs.length-1-j]?:=by rw[ai6 (by rw[B2];lia),B2,ab6];congr 1;lia
def Lf{A B:bC}(h1:As[d]?=some A)(h2:Bs[d]?=some B):gC (As.drop d) (Bs.drop d)=if A.ce=B.ce then 0 else gC (As.drop (d+1)) (Bs.drop (d+1))+1:=by rw[gH h1,gH h2,gC]
def Gx(h:As.length<=d):gC (As.drop d) (Bs.drop d)=0:=by
 rw[ai0 h,gC]
 intros
 simp_all
def ar7(h:b=j+(x+1)):b=j+1+x:=by lia
def aef{xs:a9}(hj:j<xs.length)(h:xs[xs.length-1-j]?=some x):oE (xs.map V.str) ((λi j=>i-j) (-1:Int) (j:Int))=some (.str x):=by show oE (xs.map V.str) (-1-(j:Int))=_;rw[oE,zG,C5 (by lia),w4 (by rw[d5];lia),an2,show (-1-(j:Int)+((xs.map V.str).length:Int)).toNat=xs.length-1-j by rw[d5];lia,v3,h];rfl
def uH(Gs Gs':List bC)(tk fs:a9)(i:Nat):Nat :=
 fs.length-cN (tk.drop (cN tk fs)).reverse (fs.drop (cN tk fs)).reverse-cN tk fs+gC (Gs'.drop (i+fs.length-cN (tk.drop (cN tk fs)).reverse (fs.drop (cN tk fs)).reverse)) (Gs.drop (i+tk.length-cN (tk.drop (cN tk fs)).reverse (fs.drop (cN tk fs)).reverse))
inductive ais(vs:q7)(H:Hp)(Q:VK)(_:XK):Prop|mk(lm lo lc:Addr)(ms:List aR)(rs fs:a9)(Gs Gs':List bC)(i k:Nat)(_:vs=[.ref lm,.ref lo,.int i,.int k,.ref lc])(_:TMs H lm ms)(_:K1 ms)(_:H lo=r6 (rs.map V.str))(_:H lc=r6 (fs.map V.str))(_:rs.length<=500)(_:fs.length<=500)(_:Chain ms [0] rs Gs)(_:Chain ms [0] (rs.take i++fs++rs.drop (i+k)) Gs')(_:i+k<=rs.length)(_:∀H',af H H'->Q (.int (uH Gs Gs' ((rs.drop i).take k) fs i:Nat)) H')
def Vk:bE P w K mg ap dJ 5 t.afu t.akY ["_law_modes_here","_law_rows","_law_row_here","_law_many","_law_fresh"] ais:=by
 refine T.abP.ok fB λvs H Q E h=>?_;obtain⟨u,o,D,ms,c,fs,Gs,U,i,k,rfl,hM,F,L,G,hr1,hr2,hC,W,hle,q⟩:=h;room;unfold uH at q;obtain⟨f,X⟩:∃f,f=(c.drop i).take k:=⟨_,rfl⟩
 have ltk:f.length=k:=by rw[X,v6,B2];lia
 rw[<- X] at q;have hGl:=hC.len;have hGl':=W.len;have hl':(c.take i++fs++c.drop (i+k)).length=i+fs.length+(c.length-(i+k)):=by rw[i5,i5,v6,B2];lia
 refine ak (b7 5 fB (bS cZ bP (bO cG) (bO (aK bh cG dh)))) ⟨aV.of L,λn g0=>?_⟩;have s0:af H (ag H n (.lst (b9 (c.map V.str) (some (i:Int)) (some ((λa b=>a+b) (i:Int) (k:Int)))))):=af.ag g0;have I:ag H n (.lst (b9 (c.map V.str) (some (i:Int)) (some ((λa b=>a+b) (i:Int) (k:Int))))) n=r6 (f.map V.str):=by rw[aa];show r6 (b9 (c.map V.str) (some (i:Int)) (some ((i:Int)+k)))=_;rw[show ((i:Int)+k)=((i+k:Nat):Int) by lia,Cf (by rw[d5];exact hle) (by lia),X,ac9,ad6,show i+k-i=k by lia]
 refine ak (b7 6 fB ai) ?_;show At _ _ _ [ρ u,ρ o,ι i,ι k,ρ D,ρ n,ι 0,none,none,none,none,none] (ag H n (.lst (b9 (c.map V.str) (some (i:Int)) (some ((λa b=>a+b) (i:Int) (k:Int))))));generalize ag H n (.lst (b9 (c.map V.str) (some (i:Int)) (some ((λa b=>a+b) (i:Int) (k:Int)))))=H0 at s0 I;have s:=s0 _ _ G;obtain⟨ah,ea⟩:∃ah,ah=cN f fs:=⟨_,rfl⟩
 rw[<- ea] at q;obtain⟨bk,eb⟩:∃bk,bk=cN (f.drop ah).reverse (fs.drop ah).reverse:=⟨_,rfl⟩
 rw[<- eb] at q;have a1:=jJ f fs;have a2:=jJ (f.drop ah).reverse (fs.drop ah).reverse;rw[<- ea] at a1;rw[<- eb,ac3,ac3,B2,B2] at a2;have hbf:ah+bk<=fs.length:=by lia
 have hbk:ah+bk<=f.length:=by lia
 refine aF (λg M=>M=H0/\g=[ρ u,ρ o,ι i,ι k,ρ D,ρ n,ι ah,none,none,none,none,none]) (jd aa7 (PW.pt (dX (aA fX jv (ez (vE rfl) T.HY (cy (ez aD T.bD (bQ gX)) (ez aD T.bD (bQ eE)))) (aE _)) (cX (aA cC (aC aU gX jv) (aC aU eE jv) (aE _))))) ay) ?_ ?_
 .refine⟨λm g M=>∃j,g=[ρ u,ρ o,ι i,ι k,ρ D,ρ n,ι (j:Nat),none,none,none,none,none]/\M=H0/\m=f.length-j/\j<=ah/\ah=j+cN (f.drop j) (fs.drop j),⟨_,0,rfl,rfl,rfl,Z9 _,by rw[ak3,ak3,Nat.zero_add];exact ea⟩,?_⟩;rintro m g M ⟨j,rfl,rfl,rfl,hja,N⟩;refine⟨_,_,rfl,.inl (aV.of I),_,_,rfl,.inl (aV.of s),_,_,rfl,.mk<|.mk<|?_⟩;rw[d5,d5];refine dM (λl=>?_) (λl=>?_)
  .have l:j<f.length/\j<fs.length:=by split at l <;> lia
   obtain⟨x,hx⟩:∃x,f[j]?=some x:=⟨_,i4 l.1⟩
   obtain⟨y,hy⟩:∃y,fs[j]?=some y:=⟨_,i4 l.2⟩
   rw[um hx hy] at N;refine⟨aV.of I,ja hx,aV.of s,ja hy,rfl,.mk<|dM (λr=>?_) (λr=>by rw[C5 (λz=>r (by rw[z]))] at N;exact⟨rfl,by rw[show ah=j by lia]⟩)⟩
   .injection r with r
    rw[w4 r] at N;exact⟨_,λg M z=>z,av (b7 6 fB (aK bh jv ai)) ⟨f.length-(j+1),by lia,j+1,rfl,rfl,rfl,by lia,by lia⟩⟩
  .have l:j=f.length\/j=fs.length:=by split at l <;> lia
   rw[qQ l] at N;exact⟨rfl,by rw[show ah=j by lia]⟩
 rintro g M ⟨e,rfl⟩;rw[e];clear e M;obtain⟨TT,Y⟩:∃TT,TT=(f.drop ah).reverse:=⟨_,rfl⟩
 obtain⟨FF,Z⟩:∃FF,FF=(fs.drop ah).reverse:=⟨_,rfl⟩
 have lT:TT.length=f.length-ah:=by rw[Y,ac3,B2]
 have lF:FF.length=fs.length-ah:=by rw[Z,ac3,B2]
 have eb':bk=cN TT FF:=by rw[Y,Z];exact eb
 refine ak (b7 7 fB ai) ?_;refine aF (λg H2=>H2=H0/\g=[ρ u,ρ o,ι i,ι k,ρ D,ρ n,ι ah,ι bk,none,none,none,none]) (jd aa7 (PW.pt (dX (aA fX jO (aK cQ (ez (vE rfl) T.HY (cy (ez aD T.bD (bQ gX)) (ez aD T.bD (bQ eE)))) jv) (aE _)) (cX (aA cC (aC aU gX (aK cQ (iQ fT ai) jO)) (aC aU eE (aK cQ (iQ fT ai) jO)) (aE _))))) ay) ?_ ?_
 .refine⟨λm g H2=>∃j,g=[ρ u,ρ o,ι i,ι k,ρ D,ρ n,ι ah,ι (j:Nat),none,none,none,none]/\H2=H0/\m=f.length-j/\j<=bk/\bk=j+cN (TT.drop j) (FF.drop j),⟨_,0,rfl,rfl,rfl,Z9 _,by rw[ak3,ak3,Nat.zero_add];exact eb'⟩,?_⟩;rintro m g H2 ⟨j,rfl,rfl,rfl,hjb,N⟩;refine⟨_,_,rfl,.inl (aV.of I),_,_,rfl,.inl (aV.of s),_,_,rfl,.mk<|.mk<|.mk<|?_⟩;rw[d5,d5];refine dM (λl=>?_) (λl=>?_)
  .have l:j+ah<f.length/\j+ah<fs.length:=by split at l <;> lia
   obtain⟨x,hx⟩:∃x,f[f.length-1-j]?=some x:=⟨_,i4 (by lia)⟩
   obtain⟨y,hy⟩:∃y,fs[fs.length-1-j]?=some y:=⟨_,i4 (by lia)⟩
   have hx':TT[j]?=some x:=by rw[Y,Ko (by lia)];exact hx
   have hy':FF[j]?=some y:=by rw[Z,Ko (by lia)];exact hy
   rw[um hx' hy'] at N;refine⟨aV.of I,aef (by lia) hx,aV.of s,aef (by lia) hy,rfl,.mk<|dM (λr=>?_) (λr=>by rw[C5 (λz=>r (by rw[z]))] at N;exact⟨rfl,by rw[show bk=j by lia]⟩)⟩
   .injection r with r
    rw[w4 r] at N;exact⟨_,λg M z=>z,av (b7 7 fB (aK bh jO ai)) ⟨f.length-(j+1),by lia,j+1,rfl,rfl,rfl,by lia,by lia⟩⟩
  .have l:j=TT.length\/j=FF.length:=by split at l <;> lia
   rw[qQ l] at N;exact⟨rfl,by rw[show bk=j by lia]⟩
 rintro g H2 ⟨e,rfl⟩;rw[e];clear e H2;refine ak (b7 8 fB (aC aO (aS (zU T) hr.m rfl T.Ay T.tL.kp T.tL.b2 .nil aH (cy br bP)) ai)) ⟨u,o,ms,c,Gs,rfl,hM.ae s0,F,s0 _ _ L,by lia,hC,λtp v lT' lM' H3 e1 W1 f1 f2 f3 s3=>⟨bT.of e1,aB (j:=0) rfl,?_⟩⟩;obtain⟨as,ha1,ha2⟩:=W1.p;have s03:=s0.trans s3;show At _ _ _ [ρ u,ρ o,ι i,ι k,ρ D,ρ n,ι ah,ι bk,ρ v,none,none,none] H3;refine ak (b7 9 fB (aC aO (aS (zU T) hr.m rfl T.Ay T.tL.kp T.tL.b2 .nil aH (cy br (aK gM (aK gM (bS cZ bP cP (bO cG)) eE) (bS cZ bP (bO (aK bh cG dh)) cP)))) ai)) ⟨aV.of (s03 _ _ L),λp1 g1=>?_⟩;have sA:af H3 (ag H3 p1 (.lst (b9 (c.map V.str) none (some (i:Int))))):=af.ag g1;have eA:ag H3 p1 (.lst (b9 (c.map V.str) none (some (i:Int)))) p1=r6 ((c.take i).map V.str):=by rw[aa,gP (by rw[d5];lia),ac9]
 generalize ag H3 p1 (.lst (b9 (c.map V.str) none (some (i:Int))))=HA at sA eA;have s0A:=s03.trans sA;refine⟨eA,s0A _ _ G,bK (by rw[d5,d5,v6];lia),λp2 g2=>?_⟩;have sB:af HA (ag HA p2 (.lst ((c.take i).map V.str++fs.map V.str))):=af.ag g2;have eB:ag HA p2 (.lst ((c.take i).map V.str++fs.map V.str)) p2=r6 ((c.take i++fs).map V.str):=by rw[aa,o0]
 generalize ag HA p2 (.lst ((c.take i).map V.str++fs.map V.str))=HB at sB eB;have s0B:=s0A.trans sB;refine⟨aV.of (s0B _ _ L),λp3 g3=>?_⟩;have O:af HB (ag HB p3 (.lst (b9 (c.map V.str) (some ((λa b=>a+b) (i:Int) (k:Int))) none))):=af.ag g3;have eC:ag HB p3 (.lst (b9 (c.map V.str) (some ((λa b=>a+b) (i:Int) (k:Int))) none)) p3=r6 ((c.drop (i+k)).map V.str):=by rw[aa];show r6 (b9 (c.map V.str) (some ((i:Int)+k)) none)=_;rw[show ((i:Int)+k)=((i+k:Nat):Int) by lia,gk (by rw[d5];exact hle),ad6]
 generalize ag HB p3 (.lst (b9 (c.map V.str) (some ((λa b=>a+b) (i:Int) (k:Int))) none))=HC at O eC;have s0C:=s0B.trans O;refine⟨O _ _ eB,eC,bK (by rw[d5,d5,i5,v6,B2];lia),λp4 g4=>?_⟩;have sD':af HC (ag HC p4 (.lst ((c.take i++fs).map V.str++(c.drop (i+k)).map V.str))):=af.ag g4;have eD:ag HC p4 (.lst ((c.take i++fs).map V.str++(c.drop (i+k)).map V.str)) p4=r6 ((c.take i++fs++c.drop (i+k)).map V.str):=by rw[aa,o0 (l₁:=c.take i++fs)]
 generalize ag HC p4 (.lst ((c.take i++fs).map V.str++(c.drop (i+k)).map V.str))=HD at sD' eD;have s0D:=s0C.trans sD';refine⟨u,p4,ms,_,U,rfl,hM.ae s0D,F,eD,by rw[hl'];lia,W,λtq J lU lV' H4 e2 W2' _ _ _ s4=>⟨bT.of e2,aB (j:=0) rfl,?_⟩⟩;have R:=s0D.trans s4;have s34:af H3 H4:=(((sA.trans sB).trans O).trans sD').trans s4;obtain⟨as',hb1,hb2⟩:=W2'.p;have ha1:=s34 _ _ ha1;have ha2:=ha2.mono (λ_ _ z=>(s34 _ _ z:NL' H4 _ _));show At _ _ _ [ρ u,ρ o,ι i,ι k,ρ D,ρ n,ι ah,ι bk,ρ v,ρ J,none,none] H4;have lb:as'.length=U.length+1:=by rw[hb2.1,P3,d5]
 obtain⟨C,hAA⟩:∃C,C=U.drop (i+fs.length-bk):=⟨_,rfl⟩
 obtain⟨S,hBB⟩:∃S,S=Gs.drop (i+f.length-bk):=⟨_,rfl⟩
 have lA:C.length=Gs.length-(i+f.length-bk):=by rw[hAA,B2];lia
 have lB:S.length=Gs.length-(i+f.length-bk):=by rw[hBB,B2]
 rw[<- hAA,<- hBB] at q;refine ak (b7 10 fB (aK cQ (aK cQ (ez aD T.bD (bQ eE)) jv) jO)) ⟨_,_,rfl,.inl (aV.of (R _ _ G)),.mk<|.mk<|?_⟩;show At _ _ _ [ρ u,ρ o,ι i,ι k,ρ D,ρ n,ι ah,ι bk,ρ v,ρ J,some (.int ((((fs.map V.str).length:Nat):Int)-ah-bk)),none] H4;rw[d5,show ((fs.length:Int)-ah-bk)=((fs.length-bk-ah:Nat):Int) by lia];refine ak (b7 11 fB (aK cQ (aK bh cG (ez aD T.bD (bQ eE))) jO)) ⟨_,_,rfl,.inl (aV.of (R _ _ G)),.mk<|.mk<|?_⟩;show At _ _ _ [ρ u,ρ o,ι i,ι k,ρ D,ρ n,ι ah,ι bk,ρ v,ρ J,ι ((fs.length-bk-ah:Nat):Int),some (.int ((i:Int)+(((fs.map V.str).length:Nat):Int)-bk))] H4;rw[d5,show ((i:Int)+(fs.length:Int)-bk)=((i+fs.length-bk:Nat):Int) by lia];refine aF (λg H5=>H5=H4/\∃x11,g=[ρ u,ρ o,ι i,ι k,ρ D,ρ n,ι ah,ι bk,ρ v,ρ J,ι ((fs.length-bk-ah+gC C S:Nat):Int),x11]) (jd aa7 (PW.pt (dX (aA fX kU (aK cQ (ez aD T.bD (bQ l9)) ai) (aE _)) (cX (aA (lW (aa6 (cS hr))) (aC aU l9 kU) (aC aU kH (aK bh (aK cQ kU (ez aD T.bD (bQ eE))) dh)) (aE _))))) ay) ?_ ?_
 .refine⟨λm g H5=>∃d,g=[ρ u,ρ o,ι i,ι k,ρ D,ρ n,ι ah,ι bk,ρ v,ρ J,ι ((fs.length-bk-ah+d:Nat):Int),ι ((i+fs.length-bk+d:Nat):Int)]/\H5=H4/\m=C.length-d/\d<=C.length/\gC C S=d+gC (C.drop d) (S.drop d),⟨_,0,rfl,rfl,rfl,Z9 _,by rw[ak3,ak3,Nat.zero_add]⟩,?_⟩;rintro m g H5 ⟨d,rfl,rfl,rfl,hdl,hd⟩;refine⟨_,_,rfl,.inl (aV.of hb1),.mk<|.mk<|.mk<|?_⟩;rw[d5,lb];refine dM (λl=>?_) (λl=>by rw[Gx (by lia)] at hd;exact⟨rfl,_,by rw[show gC C S=d from hd]⟩)
  .have l:d<C.length:=by lia
   obtain⟨A,hA⟩:∃A,C[d]?=some A:=⟨_,i4 l⟩
   obtain⟨B,hB⟩:∃B,S[d]?=some B:=⟨_,i4 (by rw[lB,<- lA];exact l)⟩
   rw[Lf hA hB] at hd;rw[hAA,ab6] at hA;rw[hBB,ab6] at hB;obtain⟨o1,ho1,e1⟩:=ha2.at (aah hC hB);obtain⟨o2,ho2,e2⟩:=hb2.at (aah W hA);have hat:oE (as.map V.ref) (((i+fs.length-bk+d:Nat):Int)-((fs.length:Nat):Int)+((k:Nat):Int))=some (.ref o1):=by rw[show (((i+fs.length-bk+d:Nat):Int)-((fs.length:Nat):Int)+((k:Nat):Int))=((i+f.length-bk+d:Nat):Int) by lia];exact cM ho1
   refine⟨aV.of hb1,cM ho2,_,_,rfl,.inl (aV.of (R _ _ G)),aV.of ha1,(by rw[d5];exact hat),aV.of e2,aV.of e1,oV _ _,.mk<|mq (λr=>by rw[C5 (λz=>r (by rw[z]))] at hd;exact⟨_,λg M z=>z,ak (b7 10 fB (aK bh ly ai)) ⟨av (b7 11 fB (aK bh kU ai)) ⟨C.length-(d+1),by lia,d+1,rfl,rfl,rfl,by lia,ar7 hd⟩⟩⟩) (λr=>by rw[w4 (tK r)] at hd;exact⟨rfl,_,by rw[show gC C S=d from hd]⟩)⟩
 rintro g H5 ⟨e,x11,rfl⟩;rw[e];exact av (aQ ly) (q _ R)
def Ah(h1:jr H p f)(h2:jr H q f):jM K H 3 (.ref p) (.ref q):=by
 obtain⟨a,b,e⟩:=f;cases e with
 |none =>
  refine .inr ⟨p,q,_,_,rfl,rfl,.inr ⟨bT.of h1,bT.of h2⟩,rfl,λj x y c d=>?_⟩;rw[c] at d;cases d;rcases j with _|_|_|j
  .cases c;exact .inl ⟨rfl,.inl rfl⟩
  .cases c;exact .inl ⟨rfl,.inl rfl⟩
  .cases c;exact .inl ⟨rfl,.inl rfl⟩
  .cases c
 |some e =>
  obtain⟨g,h,i⟩:=h1;obtain⟨l,n,o⟩:=h2;refine .inr ⟨p,q,_,_,rfl,rfl,.inr ⟨bT.of h,bT.of n⟩,rfl,λj x y c d=>?_⟩;rcases j with _|_|_|j
  .cases c;cases d;exact .inl ⟨rfl,.inl rfl⟩
  .cases c;cases d;exact .inl ⟨rfl,.inl rfl⟩
  .cases c;cases d;refine .inr ⟨g,l,_,_,rfl,rfl,.inr ⟨bT.of i,bT.of o⟩,rfl,λj x y c d=>?_⟩;rw[c] at d;cases d;rcases j with _|_|j
   .cases c;exact .inl ⟨rfl,.inl rfl⟩
   .cases c;exact .inl ⟨rfl,.inl rfl⟩
   .cases c
  .cases c
def yx(h1:bf (jr H) ps fs)(h2:bf (jr H) qs fs):∀(j:Nat) (x y:V),(ps.map V.ref)[j]?=some x->(qs.map V.ref)[j]?=some y->jM K H 3 x y:=by
 intro j x y a b;rw[v3] at a b;obtain⟨p,c,rfl⟩:=D1.mp a;obtain⟨q,e,rfl⟩:=D1.mp b;have d:=h1.1▸(d6.mp c).1
 exact Ah (h1.2 j p _ c (i4 d)) (h2.2 j q _ e (i4 d))
def wJ(a2:bf (λp (m:Nat×Str)=>H p=t0 [aX m.1,.str m.2]) ps mk)(b2:bf (λp (m:Nat×Str)=>H p=t0 [aX m.1,.str m.2]) qs mk):∀(j:Nat) (x y:V),(ps.map V.ref)[j]?=some x->(qs.map V.ref)[j]?=some y->jM K H 1 x y:=by
 intro j x y a b;rw[v3] at a b;obtain⟨p,c,rfl⟩:=D1.mp a;obtain⟨q,e,rfl⟩:=D1.mp b;have f:=a2.1▸(d6.mp c).1
 have d:=i4 f;refine .inr ⟨p,q,_,_,rfl,rfl,.inr ⟨bT.of (a2.2 j p _ c d),bT.of (b2.2 j q _ e d)⟩,rfl,λj' x y a b=>?_⟩;rw[a] at b;cases b;cases j' with
 |zero=>cases a;exact⟨rfl,.inl rfl⟩
 |succ j' =>
  cases j' with
  |zero=>cases a;exact⟨rfl,.inl rfl⟩
  |succ j'=>cases a
theorem abp(hG:∀r:Str,(∀c∈r.l,c∈MC.l)->aaS ms r):∀(rs:a9) (b:c7) (Gs:List bC),Chain ms b rs Gs->(∀r∈rs,∀c∈r.l,c∈MC.l)->∀G∈Gs,G.d.bj.length<=4*b.length+25*tot rs+20*rs.length
 | [],_,[],_,_,G,hg=>by cases hg
 |r::rs,b,G0::Gs,hc,h,G,hg=>by
  obtain⟨e1,e2,S,hc⟩:=hc;obtain⟨l,_,a⟩:=S.go;obtain⟨n,d,e,o,p,f⟩:=ajr (hG r (h r (by simp))) r.length ⟨b,[],[]⟩ (by simp) (e2 ▸ S.ok) (by simp);rw[e1,e2] at a;have g:=Cy e a;rw[P3,kY];rcases Z5.mp hg with rfl|hg
  .have:d.bj.length<=0+n:=vN e;rw[g] at this;lia
  .have:=abp hG rs G0.d.on Gs hc (λx j=>h x (Q1 _ j)) G hg;rw[<- g] at this;lia
 | [],_,_::_,h,_,_,_=>h.elim
 |_::_,_,[],h,_,_,_=>h.elim
noncomputable abbrev kk(a b c d:V):List (Key×V):=[(.inr "rows",a),(.inr "spots",b),(.inr "done",c),(.inr "undone",d)]
abbrev aaU(a b c d:Addr):HO:=.dK (kk (.ref a) (.ref b) (.ref c) (.ref d))
inductive acz(t:eZ)(vs:q7)(H:Hp)(Q:VK)(_:XK):Prop|mk(x dx tt d ld lu dt a lg lm kd lr ds lD lU:Addr)(gs:c6)(ms:List aR)(rs:a9)(Gs:List bC)(sp:List (Str×Nat×Nat))(_:vs=[.ref x,.ref kd,.ref lm])(_:H x=s0 t.aG dx (sf tt d ld lu))(_:bJ t H tt dt a lg gs ms Gs)(_:DP H d sp)(_:H kd=some (aaU lr ds lD lU))(_:TMs H lm ms)(_:K1 ms)(_:H lr=r6 (rs.map V.str))(_:DP H ds sp)(_:(bU sp).Nodup)(_:sp.length<64)(_:rs.length<=100)(_:Chain ms [0] rs Gs)(_:(∀G∈Gs,G.d.bj.length<=9000))(_:∀H',af H H'->Q (.bl true) H')
def xE:bE P w K mg ap dJ 6 t.ahA t.akz ["_law_scribe","_law_kept","_law_modes_here"] (acz t):=by
 refine T.acZ.ok jl λvs H Q E h=>?_;obtain⟨x,J,b,d,ld,lu,j,a,S,U,L,M,ds,lD,lU,X,N,rs,i,sp,rfl,O,I,hd,hk,hM,F,u,hds,nd,hsp,hrl,hC,Y,q⟩:=h;room;have hGl:=hC.len;have hrw:=hC.rows;refine ak (b7 3 jl (pV (cS hr) bP aZ (λ_ _=>rfl))) ⟨L,_,rfl,.inl ⟨_,Sum.inr "rows",.inl hk,rfl,rfl⟩,?_⟩;refine ak (jo (aS (zU T) hr.m rfl T.Ay T.tL.kp T.tL.b2 .nil aH (cy cG dh)) (iK rfl (bF (jb 4 jl) (bF (jb 5 jl) (bF (jb 6 jl) fU))))) ⟨U,M,N,rs,i,rfl,hM,F,u,by lia,hC,λtp l lT e H1 e1 W f1 f2 f3 Z=>⟨tp,_,rfl,bT.of e1,rfl,_,_,rfl,_,_,rfl,_,_,rfl,rfl,?_⟩⟩;refine ak (b7 7 jl (bR br T.aN T.WN (RN T) hr.m T.OR.b1 .nil aH)) ⟨Z _ _ O,rfl,x,J,b,d,ld,lu,rfl,Z _ _ O,?_⟩;show At _ _ _ [ρ x,ρ L,ρ U,ρ M,ρ l,ρ lT,ρ e,ρ b,none] H1;have I1:=I.ae Z;refine aF (λo R=>o=[ρ x,ρ L,ρ U,ρ M,ρ l,ρ lT,ρ e,ρ b,none]/\af H1 R) (bq (PW.pt (jz (aA (lW (aa6 (cS hr))) (bR jO T.aL T.rE (mP T) hr.m T.pM.b1 .nil aH) dh (aE _)) (jz (aA (Mx (hu4 hr)) (bR br T.aN T.QZ (KU T) hr.m T.Ho.b1 .nil aH) (pV (cS hr) bP aZ (λ_ _=>rfl)) (aE _)) (jk (aA (UL 3 (hu4 hr)) (bR br T.aN T.P7 (Gp T) hr.m T.E6.b1 .nil aH) (aS (FY T) hr.m rfl T.alC T.afz.kp T.afz.b1 .nil aH (bQ jv)) (aE _)))))) ay ay) (by refine⟨I1.ob,rfl,b,j,a,S,X,N,i,rfl,I1,by lia,λla H2 e2 f2 r=>?_⟩;rw[hrw] at e2;have f:=Z.trans r;refine⟨aV.of e2,aV.of (f _ _ u),pG _ _,.mk<|mq (λh=>absurd rfl h) (λ_=>?_)⟩;refine⟨f _ _ O,rfl,x,J,b,d,ld,lu,sp,rfl,f _ _ O,hd.ae f,nd,hsp,λdm H3 hm f3 v=>?_⟩;have g:=f.trans v;refine⟨L,_,rfl,.inl ⟨_,Sum.inr "spots",.inl (g _ _ hk),rfl,rfl⟩,dm,ds,rfl,rfl,wU nd hm (hds.ae g),.mk<|mH ?_⟩;have I3:=I.ae g;refine⟨g _ _ O,rfl,x,J,b,d,ld,lu,j,a,S,X,N,i,rfl,g _ _ O,I3,by lia,Y,λl1 H4 hF f4 s4=>?_⟩;have s34:=(r.trans v).trans s4;refine⟨e,i,rfl,(W.ae s34).m,by lia,Y,λl2 H5 hF2 f5 s5=>?_⟩;obtain⟨p1,a1,b1⟩:=hF.ae s5;obtain⟨p2,a2,b2⟩:=hF2;exact⟨l1,l2,_,_,rfl,rfl,.inl ⟨aV.of a1,aV.of a2⟩,(by rw[d5,d5,b1.1,b2.1]),yx b1 b2,.mk<|mH (bg ⟨rfl,s34.trans s5⟩)⟩) ?_
 rintro o H2 ⟨rfl,r⟩;have A:=W.ae r;have r:=Z.trans r;obtain⟨as,hP,aP⟩:=A.p;obtain⟨bs,hT,aT'⟩:=A.t;obtain⟨cs,hm,aM'⟩:=A.m;refine aF (λo R=>(∃y,o=[ρ x,ρ L,ρ U,ρ M,ρ l,ρ lT,ρ e,ρ b,y])/\af H2 R) (dD aa7 rfl (fm rfl T.iG (bQ (ez aD T.bD (bQ dh)))) (jb 8 jl) ay) ?_ ?_
 .refine⟨_,_,rfl,.inl (aV.of (r _ _ u)),(rs.length:Int),by rw[d5],by lia,by lia,fH (n:=((rs.length:Nat):Int).toNat) (λk o R=>(∃y,o=[ρ x,ρ L,ρ U,ρ M,ρ l,ρ lT,ρ e,ρ b,y])/\af H2 R) ⟨⟨_,rfl⟩,af.refl _⟩ ?_ (λo R z=>z)⟩;rintro k o H3 hk' ⟨⟨y,rfl⟩,v⟩;have hk':k<i.length:=by lia
  obtain⟨G,c⟩:∃G,i[k]?=some G:=⟨i[k],i4 hk'⟩
  obtain⟨p1,hp1,e1⟩:=aP.at (aah hC c);obtain⟨p2,hp2,e2⟩:=aT'.at c;obtain⟨p3,hp3,qs,e3,e4⟩:=aM'.at c;have B:∀{ps:c6} {p:Addr},ps[k]?=some p->oE (ps.map V.ref) ((0:Int)+k)=some (.ref p):=λh=>by rw[ah4];exact cM h
  have I3:=I.ae (r.trans v);refine av (bq (PW.pt (jz (aA (lW (aa6 (cS hr))) (bw jO T.aL T.Xm (Sq T) hr.m T.Pb.b2 .nil aH (bQ kH)) (aC aU eE kH) (aE _)) (jz (aA (lW (aa6 (cS hr))) (bw jO T.aL T.Wz (Rm T) hr.m T.OI.b2 .nil aH (bQ kH)) (aC aU gX kH) (aE _)) (jk (aA (UL 1 (ak7 (an7 (by decide:2<=64) _) hr.units)) (bw jO T.aL T.QJ (JA T) hr.m T.EJ.b2 .nil aH (bQ kH)) (aC aU jv kH) (aE _)))))) ay ay) ⟨I3.ob,rfl,b,j,a,S,X,N,i,G,k,(by rw[ah4];rfl),I3,c,λl3 H4 h4 f4 s4=>?_⟩;have C:=v.trans s4;refine⟨aV.of (C _ _ hP),B hp1,aV.of h4,aV.of (C _ _ e1),oV _ _,.mk<|mq (λh=>absurd rfl h) (λ_=>?_)⟩;have I4:=I3.ae s4;refine⟨I4.ob,rfl,b,j,a,S,X,N,i,G,k,(by rw[ah4];rfl),I4,c,λl4 H5 h5 f5 s5=>?_⟩;have D:=C.trans s5;refine⟨aV.of (D _ _ hT),B hp2,aV.of h5,aV.of (D _ _ e2),pG _ _,.mk<|mq (λh=>absurd rfl h) (λ_=>?_)⟩;have I5:=I4.ae s5;refine⟨I5.ob,rfl,b,j,a,S,X,N,i,G,k,(by rw[ah4];rfl),I5,c,λl5 H6 ps5 h6 m6 f6 s6=>?_⟩;have s:=D.trans s6;exact⟨aV.of (s _ _ hm),B hp3,l5,p3,_,_,rfl,rfl,.inl ⟨aV.of h6,aV.of (s _ _ e3)⟩,(by rw[d5,d5,m6.1,e4.1]),wJ (m6.mono λ_ _ z=>s6 _ _ z) (e4.mono λ_ _ z=>s _ _ z),.mk<|mH (bg ⟨⟨_,rfl⟩,s⟩)⟩
 rintro o H3 ⟨⟨y,rfl⟩,v⟩;exact av (aQ k7) (q _ (r.trans v))
inductive JH(K:W.Frag)(vs:q7)(H:Hp)(Q:VK)(_:XK):Prop|mk(a lr:Addr)(ns:c9)(b:Int)(rs:a9)(_:vs=[.ref a,.int b,.ref lr])(_:aV K H a (ns.map V.int))(_:ns.length<=63)(_:0<=b)(_:b<=90000)(_:H lr=r6 (rs.map V.str))(_:rs≠[])(_:rs.length<=1000)(_:(∀x∈rs,x.length<=1000))(_:∀p v H',VP rs v->Eh H' p v->H p=none->af H H'->Q (.ref p) H')
def xB:bE P w K mg ap dJ 2 t.Hz t.NV ["_law_script","_law_k","_law_rows"] (JH K):=by
 refine T.qo.ok Kc λN H Q E h=>?_;obtain⟨a,C,u,b,g,rfl,v,hl,l,D,f,n,F,o,q⟩:=h;room;have x:=ag5.mpr n;refine aF (λy G=>∃i,i<g.length/\af H G/\y=[ρ a,ι b,ρ C,ι i]) (b7 3 Kc (aS (dP T) hr.m rfl T.dR T.cA.kp T.cA.b3 .nil aH (ao br (cy bP (ez aD T.bD (bQ cG)))))) ⟨_,_,rfl,.inl (aV.of f),a,u,_,_,rfl,v,l,by lia,by rw[d5];lia,by rw[d5];lia,hl,λd I J L e=>⟨d.toNat,by rw[d5] at L;lia,e,by rw[show (d.toNat:Int)=d by lia];rfl⟩⟩ ?_;rintro y I ⟨i,M,e,rfl⟩;obtain⟨r,c⟩:∃r,g[i]?=some r:=⟨g[i],i4 M⟩
 have z:=o r (p0 c);have s:oE (g.map V.str) (i:Int)=some (.str r):=aB (by rw[v3,c];rfl);refine av (aQ (bG (cy dh (aS (dP T) hr.m rfl T.dR T.cA.kp T.cA.b3 .nil aH (ao br (cy (aK bh bP ai) (aK bh (ez bz T.bD (bQ (aC aU cG dh))) ai))))))) ⟨aV.of (e _ _ f),s,_,rfl,bK (by lia),a,u,_,_,rfl,v.ae e,by lia,by lia,by lia,by lia,hl,λd O J R A=>⟨sL rfl,λp B=>?_⟩⟩;obtain⟨j,rfl⟩:∃j:Nat,d=j:=⟨d.toNat,by lia⟩
 exact q p (i,j) _ ⟨r,c,by show j<=_;lia⟩ aa ((e.trans A).free B) ((e.trans A).to B)
theorem afn:∀(l:a9),(l.map λr=>((r.length+1:Nat):Int)).sum=(((l.map λr=>r.length+1).sum:Nat):Int)
 | []=>rfl
 |a::l=>by rw[ab5,am3,afn l,ab5,am3,Int.natCast_add];rfl
inductive aip(vs:q7)(H:Hp)(Q:VK)(_:XK):Prop|mk(lr p:Addr)(rs:a9)(v:Nat×Nat)(_:vs=[.ref lr,.ref p])(_:H lr=r6 (rs.map V.str))(_:Eh H p v)(_:v.1<=rs.length)(_:rs.length<=1000)(_:(∀x∈rs,x.length<=1000))(_:∀H',af H H'->Q (.int (jc rs v.1 v.2:Nat)) H')
def Ti:bE P w K mg ap dJ 1 t.agn t.ajk ["_law_rows","_law_spot_here"] aip:=by
 refine T.abQ.ok m7 λI H Q E h=>?_;obtain⟨z,p,a,v,rfl,i,y,A,B,l,q⟩:=h;room;have C:b9 (a.map V.str) none (some (v.1:Int))=(a.take v.1).map V.str:=by rw[gP (by rw[d5];exact A),ac9]
 refine av (aQ (aK bh (sY (afw rfl) (by rfl) T.amu (by lk) (ao (@iM _ (az (top 76)) _ ["_law_rows","_law_spot_here"] _ _ ("_law_one") _ _ [] _ _ (by walk_at "ck") (fF (bS cZ br cP (bO (aC aO bP ai (λ_ _=>rfl))))) (λ_ _ _ _=>by exact(aK bh (sY bz (by rfl) T.bD (by lk) (ao br bu (by left)) (by left) (by left) (by left) (by left)) ai)) (by left) (by left) (by left) (by left)) bu (by left)) (by left) (by left) (by left) (by left)) (aC aO bP ai (λ_ _=>rfl)))) ⟨bT.of y,aB (j:=0) rfl,aV.of i,λb F=>?_⟩;have n:af H (ag H b (.lst (b9 (a.map V.str) none (some (v.1:Int))))):=af.ag F;have o:ag H b (.lst (b9 (a.map V.str) none (some (v.1:Int)))) b=r6 ((a.take v.1).map V.str):=by rw[aa,C]
 generalize ag H b (.lst (b9 (a.map V.str) none (some (v.1:Int))))=H1 at n o;refine⟨b,rfl,⟨_,aV.of o⟩,ie (xs:=(a.take v.1).map V.str) (λk d f=>d=(((a.take v.1).take k).map λr=>((r.length+1:Nat):Int)).map V.int/\f=H1) ⟨rfl,rfl⟩ (cL (by rw[d5,v6];lia)) (by rintro k d f _ ⟨_,e⟩;rw[e];exact aV.of o) (by rintro k J d f s c ⟨rfl,e⟩;have u:=(d6.mp s).1;rw[v3] at s;obtain⟨r,hr,rfl⟩:=D1.mp s;have x:=ae5 (p0 hr);have:=l r x;refine⟨_,rfl,bK (by lia),.mk<|fQ u c ⟨?_,e⟩⟩;rw[ae1 hr,o0,o0,List.map_singleton,List.map_singleton,Int.natCast_add];rfl) ?_⟩
 .rintro d f c ⟨rfl,e⟩ D g;rw[d5,ab3];refine⟨D,((a.take v.1).map λr=>((r.length+1:Nat):Int)),rfl,aV.of aa,bT.of (e▸(n.to (by rw[e] at g;exact g)) _ _ y),aB (j:=1) rfl,.mk ?_⟩;have G:(((a.take v.1).map λr=>((r.length+1:Nat):Int)).sum+(v.2:Int))=((jc a v.1 v.2:Nat):Int):=by unfold jc;rw[Int.natCast_add,afn]
  show Q (V.int (((a.take v.1).map λr=>((r.length+1:Nat):Int)).sum+(v.2:Int))) _;rw[G];exact q _ (e▸n.to (by rw[e] at g;exact g))
def acr{rs:a9}(hx:rs[i]?=some x)(h:i<r):jc (rs.drop i) (r-i) c=x.length+1+jc (rs.drop (i+1)) (r-(i+1)) c:=by unfold jc;rw[gH hx];obtain⟨d,rfl⟩:∃d,r=i+1+d:=Nat.exists_eq_add_of_le h;rw[show i+1+d-i=d+1 by lia,show i+1+d-(i+1)=d by lia,an6,ab5,am3];lia
inductive aiA(vs:q7)(H:Hp)(Q:VK)(_:XK):Prop|mk(lr:Addr)(rs:a9)(v:Nat×Nat)(_:vs=[.ref lr,.int (jc rs v.1 v.2:Nat)])(_:H lr=r6 (rs.map V.str))(_:VP rs v)(_:(∀x∈rs,x.length<=100000))(_:∀p H',Eh H' p v->H p=none->af H H'->Q (.ref p) H')
def dO:bE P w K mg ap dJ 1 t.ahY t.ajl ["_law_rows","_law_flat_here"] aiA:=by
 refine T.afI.ok cr λJ H Q E h=>?_;obtain⟨u,a,⟨r,c⟩,rfl,j,⟨x0,b,l⟩,v,q⟩:=h;room;have n:=(d6.mp b).1;have n:=n;have b:=b;have l:=l;refine ak (b7 2 cr ai) ?_;refine aF (λf s=>f=[ρ u,ι c,ι r]/\s=H) (jd aa7 (aA j9 bP (ez bz T.bD (bQ (aC aU br cG))) (aE _)) ay) ?_ ?_
 .refine⟨λm f s=>∃i:Nat,f=[ρ u,ι (jc (a.drop i) (r-i) c:Nat),ι i]/\i<=r/\m=r-i/\s=H,⟨r,0,rfl,Z9 _,rfl,rfl⟩,?_⟩;rintro m f F ⟨i,rfl,L,rfl,y⟩;subst y;obtain⟨x,g⟩:∃x,a[i]?=some x:=⟨a[i]'(by lia),i4 _⟩
  have G:=v x (p0 g);have o:oE (a.map V.str) (i:Int)=some (.str x):=aB (by rw[v3,g];rfl);have two:i<r\/i=r/\x=x0/\jc (a.drop i) (r-i) c=c:=by
   by_cases d:i<r
   .exact .inl d
   .have e:i=r:=by lia
    subst e;rw[b] at g;exact .inr ⟨rfl,(aa1 g).symm,by unfold jc;rw[aj6];simp⟩
  refine⟨aV.of j,o,_,rfl,bK (by lia),.mk<|.mk<|dM (λh=>?_) (λh=>?_)⟩
  .have d:i<r:=by
    rcases two with z|⟨B,C,A⟩
    .exact z
    .rw[C,A] at h;lia
   have e:=acr (c:=c) g d;refine⟨_,λf s z=>z,ak (b7 1 cr (aK cQ (aK cQ bP (ez bz T.bD (bQ (aC aU br cG)))) ai)) ⟨aV.of j,o,_,rfl,bK (by lia),.mk<|.mk<|?_⟩⟩;refine av (b7 2 cr (aK bh cG ai)) ⟨r-(i+1),by lia,i+1,?_,d,rfl,rfl⟩;have I:((jc (a.drop i) (r-i) c:Nat):Int)-(x.length:Int)-1=((jc (a.drop (i+1)) (r-(i+1)) c:Nat):Int):=by lia
   show [some (V.ref u),some (.int (((jc (a.drop i) (r-i) c:Nat):Int)-(x.length:Int)-1)),ι ((i:Int)+1)]=_;rw[I];rfl
  .rcases two with z|⟨B,C,A⟩
   .have e:=acr (c:=c) g z;exact absurd (by lia) h
   .subst B;rw[A];exact⟨rfl,rfl⟩
 rintro f F ⟨rfl,y⟩;subst y;exact av (aQ (bG (cy cG bP))) ⟨sL rfl,λp D=>q p _ aa D (af.ag D)⟩
noncomputable def aac(f b e n:Nat):Nat:=if f ≥ e/\(f>b\/n≠0\/e>b) then f-(e-b)+n else if f>b then b else f
def DPn(H H':Hp)(d:Addr)(sp:List (Str×Nat×Nat)):Prop:=∃a,Qq H' d sp a/\∀p∈a,H p=none
inductive aiz(vs:q7)(H:Hp)(Q:VK)(_:XK):Prop|mk(lr ds pf pl:Addr)(rs now:a9)(sp:List (Str×Nat×Nat))(w u:Nat×Nat)(z:Str)(g:Nat×Nat->Nat×Nat)(_:vs=[.ref lr,.ref ds,.ref pf,.ref pl,.str z])(_:H lr=r6 (rs.map V.str))(_:DP H ds sp)(_:Eh H pf w)(_:Eh H pl u)(_:(bU sp).Nodup)(_:sp.length<64)(_:VP rs w)(_:VP rs u)(_:(∀y∈sp,VP rs y.2))(_:rs.length<=1000)(_:tot rs<=1000)(_:z.length<=1000)(_:now.length<=3000)(_:tot now<=3000)(_:rs≠[])(_:(∀x:Str,x.l=d9 10 (Zt rs)->PySem.Txt.split (PySem.Txt.slice x none (some (jc rs w.1 w.2:Int))++z++PySem.Txt.slice x (some (jc rs u.1 u.2:Int)) none) (Str.ofString "\n")=now))(_:(jc rs w.1 w.2<=jc rs u.1 u.2))(_:(∀y∈sp,VP now (g y.2)/\jc now (g y.2).1 (g y.2).2=aac (jc rs y.2.1 y.2.2) (jc rs w.1 w.2) (jc rs u.1 u.2) z.length))(_:∀tp ln df H',H' tp=t0 [.ref ln,.ref df]->H' ln=r6 (now.map V.str)->DPn H H' df (sp.map λy=>(y.1,g y.2))->H ln=none->H df=none->af H H'->Q (.ref tp) H')
def VP.lt(h:VP rs v):v.1<=rs.length:=by obtain⟨r,a,_⟩:=h;have:=(d6.mp a).1;lia
def acT(h:VP rs v):jc rs v.1 v.2<=tot rs+rs.length:=by
 obtain⟨r,a,d⟩:=h;have hl:=abv a d;have b:Zt rs≠[]:=λz=>by have:rs=[]:=List.map_eq_nil_iff.mp z;rw[this] at a;simp at a
 have c:∀F,F≠[]->(d9 10 F).length+1=(F.map List.length).sum+F.length:=by
  intro F;induction F with
  |nil=>intro h;exact absurd rfl h
  |cons x t ih =>
   intro _;cases t with
   |nil=>show x.length+1=_;simp
   |cons y r =>
    have:=ih (by simp);rw[tU (by simp),i5,P3,ab5,am3,P3];lia
 have k:=c _ b;rw[<- Df,d5] at k;lia
def afh :(z ≠ "")↔z.length≠0:=by
 constructor
 .intro h e;refine h (i8 ?_);have:z.l=[]:=ah3.mp (by rw[bV];exact e);rw[this];lk
 .intro h e;rw[e] at h;exact h (by lk)
def Jv(h:n∉bU sp):putK (bX sp ps) (Sum.inr n) v=bX sp ps++[(Sum.inr n,v)]:=yM v (r8 h)
def el:bE P w K mg ap dJ 2 t.aie t.ajB ["_law_rows","_law_spots","_law_first","_law_last","_law_text"] aiz:=by
 refine T.ahO.ok cx λvs H Q E h=>?_;obtain⟨L,ds,Z,pl,rs,l,j,w,u,z,g,rfl,M,⟨ps,X⟩,hpf,hpl,hn,h64,hw,hu,hv,hrl,htot,hz,hnl,hnt,hne,N,hle,hg,q⟩:=h;room;have sz:=ad0;have hr1:∀x∈rs,x.length<=1000:=λx hx=>by have:=nQ hx;lia
 have bw':=acT hw;have bu':=acT hu;refine ak (b7 5 cx (aS (Ti T) hr.m rfl T.adK T.abQ.kp T.abQ.b2 .nil aH (cy br cG))) ⟨L,Z,rs,w,rfl,M,hpf,hw.lt,hrl,hr1,λH1 s1=>?_⟩;refine ak (b7 6 cx (aS (Ti T) hr.m rfl T.adK T.abQ.kp T.abQ.b2 .nil aH (cy br dh))) ⟨L,pl,rs,u,rfl,s1 _ _ M,s1 _ _ hpl,hu.lt,hrl,hr1,λH2 s2=>?_⟩;have s2:=s1.trans s2;obtain⟨b,eb⟩:∃b,b=jc rs w.1 w.2:=⟨_,rfl⟩
 obtain⟨e,ee⟩:∃e,e=jc rs u.1 u.2:=⟨_,rfl⟩
 rw[<- eb] at bw' hle hg N ⊢;rw[<- ee] at bu' hle hg N ⊢;obtain⟨x,ex⟩:∃x,x=Str.join ⟨#[10]⟩ rs:=⟨_,rfl⟩
 have hxc:x.l=d9 10 (Zt rs):=ex▸fZ 10 rs
 have hxl:x.length<=2000:=by
  have key:∀F,(d9 10 F).length<=(F.map List.length).sum+F.length:=by
   intro F;induction F with
   |nil=>exact Z9 _
   |cons y t ih =>
    cases t with
    |nil=>show y.length<=_;simp
    |cons y' r =>
     rw[tU (by simp),i5,P3,ab5,am3,P3];lia
  have k:=key (Zt rs);rw[<- Df,d5] at k;rw[<- bV,hxc];lia
 have hlr2:=s2 _ _ M;refine aF (λI s=>I=[ρ L,ρ ds,ρ Z,ρ pl,τ z,ι b,ι e,τ x,none,none,none,none]/\s=H2) (b7 7 cx (cV ae2 F.slot_str_join F.type_str_join CK aZ (bQ br))) ⟨rfl,_,L,_,rfl,rfl,aV.of hlr2,by have:(rs.map (·.length)).sum=tot rs:=rfl;rw[this,show (Str.ofString "\n").length=1 by lk];exact bK (by lia),by rw[join_eq,show ((Str.ofString "\n"))=⟨#[10]⟩ from by lk,<- ex];exact⟨rfl,rfl⟩⟩ ?_
 rintro I s ⟨rfl,hH⟩;subst hH;have b1:=ae6 x none (some (b:Int));have b2:=ae6 x (some (e:Int)) none;have l1:(Txt.slice x none (some (b:Int))++z).length<=3000:=by rw[T0];lia
 refine ak (b7 8 cx (cV ae2 ag1 aj8 kM (aK bY (aK bY (bS ko jO cP (bO gX)) eE) (bS ko jO (bO jv) cP)) (bQ aZ))) ⟨(by lia),_,_,rfl,rfl,(by lia),(by lia),_,_,rfl,rfl,(by lia),rfl,_,Str.ofString "\n",rfl,rfl,rfl,(by rw[T0];lia),λB hln=>?_⟩;rw[N x hxc];have s3:af H (ag s B (.lst (l.map V.str))):=s2.trans (af.ag hln);have hln3:ag s B (.lst (l.map V.str)) B=r6 (l.map V.str):=aa;have fln:H B=none:=s2.free hln;generalize ag s B (.lst (l.map V.str))=H3 at s3 hln3;refine ak (b7 9 cx kN) (λdf hdf=>?_);have s4:af H3 (ag H3 df (.dK [])):=af.ag hdf;have hd4:ag H3 df (.dK []) df=some (.dK []):=aa;have O:H df=none:=s3.free hdf;generalize ag H3 df (.dK [])=H4 at s4 hd4;have s04:=s3.trans s4;have i:=s4 _ _ hln3;have G:=s04 _ _ X.ob;have R:df≠ds:=λy=>by rw[y,X.ob] at O;cases O
 have nnd:∀x∈l,x.length<=100000:=λx hx=>by have:=nQ hx;lia
 have hsl:(j.map λy=>(y.1,g y.2)).length=j.length:=d5 ..;show At _ _ _ [ρ L,ρ ds,ρ Z,ρ pl,τ z,ι b,ι e,τ x,ρ B,ρ df,none,none] H4;refine aF (λI s=>∃C D,I=[ρ L,ρ ds,ρ Z,ρ pl,τ z,ι b,ι e,τ x,ρ B,ρ df,C,D]/\DPn H s df (j.map λy=>(y.1,g y.2))/\s B=r6 (l.map V.str)/\af H s) (Bp (dD aa7 rfl (rQ bP) (jb 10 cx) ay)) ?_ ?_
 .refine⟨ds,_,rfl,G,λo nf=>?_⟩;have hf:∀{b u},H b=some u->b≠ds->ag H4 ds (.mC o (.dK (bX j ps))) b=some u:=λ{b u} y n=>by rw[aj n];exact s04 _ _ y
  refine u9 (λk I s=>∃C D Y,I=[ρ L,ρ ds,ρ Z,ρ pl,τ z,ι b,ι e,τ x,ρ B,ρ df,C,D]/\Y.length=k/\s df=some (.dK (bX ((j.map λy=>(y.1,g y.2)).take k) Y))/\bf (λp (y:Str×Nat×Nat)=>s p=t0 [aX y.2.1,aX y.2.2]) Y ((j.map λy=>(y.1,g y.2)).take k)/\fY (ag H4 ds (.mC o (.dK (bX j ps)))) s df/\∀p∈Y,H p=none) ⟨_,_,[],rfl,rfl,by rw[aj R];exact hd4,bf.nil,fY.refl _ _,(λp h=>by cases h)⟩ (by rintro k I s _ ⟨_,_,Y,_,_,_,_,a,_⟩;exact a _ _ aa (aa4 R)) ?_ ?_
  .rintro k kv I H5 hkv ⟨C,D,Y,rfl,J,S,hA5,a5,fn5⟩;have hk:k<j.length:=by rw[<- dH X.len];exact(d6.mp hkv).1
   have hy:j[k]?=some j[k]:=i4 hk;obtain⟨pk,ep⟩:∃pk,ps[k]?=some pk:=⟨_,i4 (X.len▸hk)⟩
   generalize j[k]=y at hy;rw[zo hy ep] at hkv;cases hkv;have hym:=p0 hy;have hyv:=hv y hym;obtain⟨g1,g2⟩:=hg y hym;have hyk:(j.map λy=>(y.1,g y.2))[k]?=some (y.1,g y.2):=by rw[v3,hy];rfl
   have k5:∀{b u},H b=some u->b≠ds->H5 b=some u:=λ{b u} c n=>a5 _ _ (hf c n) (λd=>by rw[d,O] at c;cases c);have v:H5 ds=some (.mC o (.dK (bX j ps))):=a5 _ _ aa (aa4 R);have hpk:Eh H5 pk y.2:=by have c:=X.pl.2 k _ _ ep hy;exact k5 c (bL c X.ob)
   have hlr5:=k5 M (bL M X.ob);have U:H5 B=r6 (l.map V.str):=a5 _ _ (by rw[aj (bL i G)];exact i) (bL i hd4);obtain⟨f,ef⟩:∃f,f=jc rs y.2.1 y.2.2:=⟨_,rfl⟩
   rw[<- ef] at g2;refine ak (b7 11 cx (aS (Ti T) hr.m rfl T.adK T.abQ.kp T.abQ.b2 .nil aH (cy br (pV (cS hr) bP ly (λ_ _=>rfl))))) ⟨ds,_,rfl,.inl ⟨_,Sum.inr y.1,.inr ⟨o,v⟩,rfl,(kG hn hy ep).symm⟩,L,pk,rs,y.2,rfl,hlr5,hpk,hyv.lt,hrl,hr1,λH6 s6=>?_⟩;rw[<- ef];refine aF (λI s=>I=[ρ L,ρ ds,ρ Z,ρ pl,τ z,ι b,ι e,τ x,ρ B,ρ df,τ y.1,ι (aac f b e z.length:Nat)]/\s=H6) (bq (PW.pt (dX (aA xS kU jv (aE _)) (cX (PW.pt (jz (aA j9 kU gX (aE _)) (jz (aA tX eE aZ (aE _)) (jk (aA j9 jv gX (aE _))))))))) ay ay) ?_ ?_
   .refine⟨.mk<|dM (λh1=>⟨.mk<|dM (λh2=>?_) (λh2=>⟨rfl,.mk<|mq (λh3=>?_) (λh3=>⟨.mk<|dM (λh4=>?_) (λh4=>?_)⟩)⟩)⟩) (λh1=>?_)⟩
    .have A:f ≥ e/\(f>b\/z.length≠0\/e>b):=⟨by lia,.inl (by lia)⟩
     refine av (b7 11 cx (aK bh (aK cQ kU (aK cQ jv gX)) (ez bz T.bD (bQ eE)))) ⟨_,rfl,bK (by lia),?_,rfl⟩;have ec:((f:Int)-((e:Int)-b)+(z.length:Int))=((aac f b e z.length:Nat):Int):=by rw[aac,w4 A];lia
     show [some (V.ref L),ρ ds,ρ Z,ρ pl,τ z,ι b,ι e,τ x,ρ B,ρ df,τ y.1,some (.int ((f:Int)-((e:Int)-b)+(z.length:Int)))]=_;rw[ec]
    .have A:f ≥ e/\(f>b\/z.length≠0\/e>b):=⟨by lia,.inr (.inl (afh.mp λy=>h3 (by rw[y])))⟩
     refine av (b7 11 cx (aK bh (aK cQ kU (aK cQ jv gX)) (ez bz T.bD (bQ eE)))) ⟨_,rfl,bK (by lia),?_,rfl⟩;have ec:((f:Int)-((e:Int)-b)+(z.length:Int))=((aac f b e z.length:Nat):Int):=by rw[aac,w4 A];lia
     show [some (V.ref L),ρ ds,ρ Z,ρ pl,τ z,ι b,ι e,τ x,ρ B,ρ df,τ y.1,some (.int ((f:Int)-((e:Int)-b)+(z.length:Int)))]=_;rw[ec]
    .have A:f ≥ e/\(f>b\/z.length≠0\/e>b):=⟨by lia,.inr (.inr (by lia))⟩
     refine av (b7 11 cx (aK bh (aK cQ kU (aK cQ jv gX)) (ez bz T.bD (bQ eE)))) ⟨_,rfl,bK (by lia),?_,rfl⟩;have ec:((f:Int)-((e:Int)-b)+(z.length:Int))=((aac f b e z.length:Nat):Int):=by rw[aac,w4 A];lia
     show [some (V.ref L),ρ ds,ρ Z,ρ pl,τ z,ι b,ι e,τ x,ρ B,ρ df,τ y.1,some (.int ((f:Int)-((e:Int)-b)+(z.length:Int)))]=_;rw[ec]
    .have W:¬(f ≥ e/\(f>b\/z.length≠0\/e>b)):=λy=>y.2.elim (λy=>by lia) λy=>y.elim (λy=>afh.mpr y (V.str.inj h3)) λy=>by lia
     refine av (bq (aA j9 kU gX (aE _)) ay ay) ⟨.mk<|dM (λh=>by refine av (b7 11 cx gX) ⟨?_,rfl⟩;rw[aac,C5 W,w4 (by lia)];rfl) (λh=>by refine bg ⟨?_,rfl⟩;rw[aac,C5 W,C5 (by lia)];rfl)⟩
    .have W:¬(f ≥ e/\(f>b\/z.length≠0\/e>b)):=λy=>h1 (by lia);refine av (bq (aA j9 kU gX (aE _)) ay ay) ⟨.mk<|dM (λh=>by refine av (b7 11 cx gX) ⟨?_,rfl⟩;rw[aac,C5 W,w4 (by lia)];rfl) (λh=>by refine bg ⟨?_,rfl⟩;rw[aac,C5 W,C5 (by lia)];rfl)⟩
   rintro I s ⟨rfl,hH⟩;subst hH;rw[<- g2];refine av (pS (cS hr) l9 ly (aS (dO T) hr.m rfl T.alI T.afI.kp T.afI.b2 .nil aH (cy kH kU)) rfl) ⟨B,l,g y.2,rfl,s6 _ _ U,g1,nnd,λp H7 hp fp s7=>⟨df,_,rfl,xA.k (k:=Sum.inr y.1) (s7 _ _ (s6 _ _ S)) (by rw[dH (by rw[v6,hsl,J];lia),v6,hsl];lia),?_⟩⟩;have hnk:y.1∉bU ((j.map λy=>(y.1,g y.2)).take k):=λc=>by
    have e1:bU ((j.map λy=>(y.1,g y.2)).take k)=(bU j).take k:=by show List.map _ _=_;rw[ac9];show List.take k (bU (j.map λy=>(y.1,g y.2)))=_;rw[ir]
    rw[e1] at c;obtain⟨i',hi'⟩:=ab8.mp c;have hlt:i'<k:=by have:=(d6.mp hi').1;rw[v6] at this;lia
    rw[af1 hlt] at hi';have hyn:(bU j)[k]?=some y.1:=by rw[v3,hy];rfl
    have hl':=(d6.mp hi').1;have:=(List.getElem?_inj hl' hn).mp (hi'.trans hyn.symm);lia
   rw[Jv hnk];refine⟨_,_,Y++[p],rfl,by rw[i5,J];rfl,by rw[aa,sC hyk J],?_,(λc u d nd=>by rw[aj nd];exact s7 _ _ (s6 _ _ (a5 c u d nd))),λc hc=>?_⟩
   .rw[ae1 hyk];have kk:∀{c xs},H7 c=t0 xs->ag H7 df (.dK (bX ((j.map λy=>(y.1,g y.2)).take k) Y++[(Sum.inr y.1,V.ref p)])) c=t0 xs:=λ{c xs} d=>by rw[aj (bL d (s7 _ _ (s6 _ _ S)))];exact d
    exact bf.snoc (hA5.mono λ_ _ d=>kk (s7 _ _ (s6 _ _ d))) (kk hp)
   .rcases X1.mp hc with hc|hc
    .exact fn5 c hc
    .rw[B1.mp hc];by_cases yd':p=ds
     .rw[yd',s6 _ _ v] at fp;cases fp
     .cases e:H p with
      |none=>rfl
      |some u=>rw[s6 _ _ (k5 e yd')] at fp;cases fp
  .rintro I H5 ⟨C,D,Y,rfl,J,S,hA5,a5,fn5⟩;rw[dH X.len,<- hsl,ab3] at S hA5;rw[dH X.len,<- hsl] at J;have v:H5 ds=some (.mC o (.dK (bX j ps))):=a5 _ _ aa (aa4 R);refine⟨ds,o,_,v,nf,C,D,rfl,⟨Y,⟨J,by rw[aj R];exact S,hA5.mono λc y d=>by rw[aj (bL d v)];exact d⟩,fn5⟩,by rw[aj (bL i G)];exact a5 _ _ (by rw[aj (bL i G)];exact i) (bL i hd4),λc u d=>?_⟩
   .by_cases c1:c=ds
    .rw[c1,X.ob] at d;cases d;rw[c1,aa]
    .rw[aj c1];exact a5 _ _ (hf d c1) (λy=>by rw[y,O] at d;cases d)
 rintro I H5 ⟨C,D,rfl,hD5,U,s5⟩;exact av (aQ (bG (cy kH l9))) ⟨sL rfl,λtp htp=>q tp B df _ aa (af.ag htp _ _ U) (let ⟨ps,a,b⟩:=hD5;⟨ps,a.ae (af.ag htp),b⟩) fln O (s5.to htp)⟩
def aaZ(rs:a9):Prop:=∀r∈rs,∀c∈r.l,c∈sg7
def aaZ.nl(h:aaZ rs):TU rs:=λx a y=>abN (h x a 10 y)
def ahy(hr:rs[i]?=some r)(hj:j<=r.length)(hS:aaZ rs)(hz:abg z) :
  aaZ (fG rs i j r z)/\tot (fG rs i j r z)<=tot rs+18/\(fG rs i j r z).length<=rs.length+2/\fG rs i j r z≠[]:=by
 have s:i<rs.length:=(d6.mp hr).1;have g:=qc (x:=r) (z:=z) hj;have a:=hS r (p0 hr);have t:r.l.count 10=0:=ai5.mpr (λy=>abN (a 10 y));have n:(r.l.take j).count 10=0:=ai5.mpr (λy=>abN (a 10 (ae5 y)));have o:(r.l.drop j).count 10=0:=ai5.mpr (λy=>abN (a 10 (ag0 y)));have f:(lM r j z).l.count 10=z.l.count 10:=by rw[g,aj2,aj2,n,o];lia
 have h:(lM r j z).length=r.length+z.length:=by rw[<- bV,g,i5,i5,v6,B2,bV,bV];lia
 have u:=n8 (lM r j z);have p:=hz.le;have l:=hz.few;unfold fG;refine⟨λx b c d=>?_,by rw[k9,k9,VR hr];lia,by rw[i5,i5,v6,B2];lia,λe=>by have:=tN (lM r j z);simp only[List.append_eq_nil_iff] at e;exact this e.1.2⟩
 .rcases X1.mp b with b|b
  .rcases X1.mp b with b|b
   .exact hS x (ae5 b) c d
   .obtain⟨m,q⟩:=Br b c d;rw[g] at m;rcases X1.mp m with m|m
    .rcases X1.mp m with m|m
     .exact a c (ae5 m)
     .exact(hz.ch c m).elim (λy=>absurd y q) id
    .exact a c (ag0 m)
  .exact hS x (ag0 b) c d
def agP(hr:rs[i]?=some r)(hj:j<=r.length)(hr2:rs[i2]?=some r2)(hj2:j2<=r2.length)(hx:i<i2\/i=i2/\j<=j2)(hS:aaZ rs) :
  aaZ (jx rs i j i2 j2 r r2)/\tot (jx rs i j i2 j2 r r2)<=tot rs/\(jx rs i j i2 j2 r r2).length<=rs.length/\jx rs i j i2 j2 r r2≠[]:=by
 have b:i2<rs.length:=(d6.mp hr2).1;have d:=BJ (x:=r) (y:=r2) (j:=j) hj2;have f:=xH (x:=r) (y:=r2) hj hj2;unfold jx;refine⟨λx hx c a=>?_,?_,?_,λe=>?_⟩
 .rcases X1.mp hx with hx|hx
  .rcases X1.mp hx with hx|hx
   .exact hS x (ae5 hx) c a
   .rw[B1.mp hx,d] at a;rcases X1.mp a with m|m
    .exact hS r (p0 hr) c (ae5 m)
    .exact hS r2 (p0 hr2) c (ag0 m)
  .exact hS x (ag0 hx) c a
 .have g:=VR hr;have o:=VR hr2;rw[k9,k9,kY,f,show tot []=0 from rfl];rcases hx with hx|⟨rfl,hx⟩
  .have e:rs.drop (i+1)=(rs.drop (i+1)).take (i2-(i+1))++rs.drop i2:=by
    conv=>lhs;rw[<- ad8 (i2-(i+1)) (rs.drop (i+1))]
    rw[ak2];congr 2;lia
   have l:rs.drop i2=r2::rs.drop (i2+1):=by obtain⟨h,e⟩:=d6.mp hr2;rw[List.drop_eq_getElem_cons h,e]
   rw[e,k9,l,kY] at g;lia
  .rw[hr] at hr2;cases hr2;lia
 .rw[i5,i5,v6,B2];simp only[P3,ac6];lia
 .simp at e
def afM:(if f<b then f else f+n)=aac f b b n:=by
 unfold aac;by_cases h:f<b
 .rw[w4 h,C5 (λy=>by lia),C5 (by lia)]
 .rw[C5 h];by_cases a:f ≥ b/\(f>b\/n≠0\/b>b)
  .rw[w4 a];lia
  .rw[C5 a];by_cases c:f>b
   .exact absurd ⟨by lia,.inl c⟩ a
   .rw[C5 c];have:n=0:=Decidable.byContradiction λy=>a ⟨by lia,.inr (.inl y)⟩;lia
def ahT(h:b<=e):(if f<=b then f else if f<=e then b else f-(e-b))=aac f b e 0:=by
 unfold aac;by_cases c:f<=b
 .rw[w4 c];by_cases a:f ≥ e/\(f>b\/(0:Nat)≠0\/e>b)
  .rw[w4 a];lia
  .rw[C5 a,C5 (by lia)]
 .rw[C5 c];by_cases d:f<=e
  .rw[w4 d];by_cases a:f ≥ e/\(f>b\/(0:Nat)≠0\/e>b)
   .rw[w4 a];lia
   .rw[C5 a,w4 (by lia)]
  .rw[C5 d,w4 ⟨by lia,.inl (by lia)⟩];lia
noncomputable def kr:a9:=["a","ab","b"]
def afd:∀n∈kr,isName n=true:=by lk
def alT(h0:0<=d)(h1:d<3):∃n,n∈kr/\oE (kr.map V.str) d=some (.str n):=by
 obtain⟨k,rfl⟩:∃k:Nat,d=k:=⟨d.toNat,by lia⟩
 have:k=0\/k=1\/k=2:=by lia
 unfold kr;rcases this with rfl|rfl|rfl
 .exact⟨"a",by simp,rfl⟩
 .exact⟨"ab",by simp,rfl⟩
 .exact⟨"b",by simp,rfl⟩
structure DK where
 i:Nat
 tk:a9
 fs:a9
 sp:List (Str×Nat×Nat)
 sp2:List (Str×Nat×Nat)
 rb:a9
 ra:a9
noncomputable def ce(rs:a9)(k:DK):a9:=rs.take k.i++k.tk++rs.drop (k.i+k.fs.length)
noncomputable def aal(rs:a9)(k:DK):a9:=rs.take k.i++k.fs++rs.drop (k.i+k.tk.length)
structure Rw(n:Nat)(rs:a9):Prop where
 ne:rs≠[]
 len:rs.length<=4+2*n
 sg:aaZ rs
 sz:tot rs<=24+18*n
def Rw.mono(h:Rw n rs)(hn:n<=m):Rw m rs:=⟨h.ne,by have:=h.len;lia,h.sg,by have:=h.sz;lia⟩
def Rw.bb(h:Rw n rs)(hn:n<=12):∀r∈rs,r.length<=240:=λr hr=>by have:=h.sz;have:=nQ hr;lia
def Rw.all(h:Rw n rs)(hn:n<=12):tot rs<=240/\rs.length<=28:=by have:=h.len;have:=h.sz;exact⟨by lia,by lia⟩
structure Sk(rs:a9)(sp:List (Str×Nat×Nat)):Prop where
 nd:(bU sp).Nodup
 nm:∀x∈bU sp,x∈kr
 vp:∀y∈sp,VP rs y.2
def Sk.len(h:Sk rs sp):sp.length<=3:=by have a:(bU sp).length<=kr.length:=h.nd.length_le_of_subset h.nm;have b:(bU sp).length=sp.length:=d5 _;have c:kr.length=3:=rfl;lia
def rN(n:Nat):List DK->a9->Prop
 | [],_=>True
 |k::r,rs=>(k.i+k.fs.length<=rs.length/\(rs.drop k.i).take k.fs.length=k.fs/\k.tk≠[]/\k.fs≠[])/\ce rs k=k.rb/\Rw n k.rb/\Sk k.rb k.sp/\rN n r k.rb
def So(n:Nat):List DK->a9->Prop
 | [],_=>True
 |k::r,rs=>(k.i+k.tk.length<=rs.length/\(rs.drop k.i).take k.tk.length=k.tk/\k.tk≠[]/\k.fs≠[])/\k.rb=rs/\aal rs k=k.ra/\Rw n k.ra/\Sk k.ra k.sp2/\Sk rs k.sp/\So n r k.ra
theorem rN.mono(hn:n<=m):∀{l:List DK} {rs:a9},rN n l rs->rN m l rs
 | [],_,_=>trivial
 |_::_,_,⟨a,e,b,c,d⟩=>⟨a,e,b.mono hn,c,d.mono hn⟩
theorem So.mono(hn:n<=m):∀{l:List DK} {rs:a9},So n l rs->So m l rs
 | [],_,_=>trivial
 |_::_,_,⟨a,e,f,b,c,g,d⟩=>⟨a,e,f,b.mono hn,c,g,d.mono hn⟩
def GO{A B Z:a9}:((A++B++Z).drop A.length).take B.length=B:=by rw[ac0,List.drop_left,List.take_left]
def turn{B A:a9}(hl:i+B.length<=rs.length)(e:(rs.drop i).take B.length=B) :
  (rs.take i++A++rs.drop (i+B.length)).take i++B++(rs.take i++A++rs.drop (i+B.length)).drop (i+A.length)=rs/\i+A.length<=(rs.take i++A++rs.drop (i+B.length)).length/\((rs.take i++A++rs.drop (i+B.length)).drop i).take A.length=A:=by
 have a:(rs.take i).length=i:=by rw[v6];lia
 refine⟨?_,by rw[i5,i5,a];lia,by have:=GO (A:=rs.take i) (B:=A) (Z:=rs.drop (i+B.length));rw[a] at this;exact this⟩
 .have b:(rs.take i++A++rs.drop (i+B.length)).take i=rs.take i:=by
   rw[ac0];conv=>lhs;lhs;rw[<- a]
   rw[List.take_left]
  have c:(rs.take i++A++rs.drop (i+B.length)).drop (i+A.length)=rs.drop (i+B.length):=by rw[show i+A.length=(rs.take i++A).length by rw[i5,a],List.drop_left]
  rw[b,c,<- ak2,<- e,ac0];conv=>lhs;rhs;rw[v6,B2,ad9 (by lia)]
  rw[ad8,ad8]
def xm(hC:Chain ms [0] rs Gs)(hle:i+tk.length<=rs.length)(htk:(rs.drop i).take tk.length=tk)(hC':Chain ms [0] (rs.take i++fs++rs.drop (i+tk.length)) Gs') :
  ∃ah bk Gm c,iL ms Gs i tk.length fs ah bk Gm c Gs'/\Gm.length+c=uH Gs Gs' tk fs i:=by
 obtain⟨ah,bk,Gm,c,d,a,b,e,f,_,_⟩:=zZ hC hle hC';refine⟨ah,bk,Gm,c,d,?_⟩;rw[htk] at a b;unfold uH;rw[e,f,<- a,<- b]
def rN.add(hl:i+tk.length<=rs.length)(e:(rs.drop i).take tk.length=tk)(ht:tk≠[])(hf:fs≠[])(R:Rw n rs)(S:Sk rs sp)(h:rN n l rs):rN n (⟨i,tk,fs,sp,sp2,rs,rs.take i++fs++rs.drop (i+tk.length)⟩::l) (rs.take i++fs++rs.drop (i+tk.length)):=by obtain⟨a,b,c⟩:=turn (A:=fs) hl e;exact⟨⟨b,c,ht,hf⟩,a,R,S,h⟩
def A2{rs:a9}(h:rs[i]?=some r):(rs.drop i).take 1=[r]:=by rw[gH h];rfl
def Rw.put(R:Rw n rs)(hr:rs[i]?=some r)(hj:j<=r.length)(hz:abg z):Rw (n+1) (fG rs i j r z):=by obtain⟨a,b,c,d⟩:=ahy hr hj R.sg hz;exact⟨d,by have:=R.len;lia,a,by have:=R.sz;lia⟩
def Sk.put(S:Sk rs sp)(hr:rs[i]?=some r)(hj:j<=r.length)(hN:TU rs):Sk (fG rs i j r z) (sp.map λy=>(y.1,qt y.2 (i,j) z)):=by refine⟨by rw[ir];exact S.nd,by rw[ir];exact S.nm,λy a=>?_⟩;obtain⟨w,b,rfl⟩:=aa9.mp a;exact(DW hr hj hN (S.vp w b)).1
def Rw.cut(R:Rw n rs)(hr:rs[i]?=some r)(hj:j<=r.length)(hr2:rs[i2]?=some r2)(hj2:j2<=r2.length)(hx:i<i2\/i=i2/\j<=j2):Rw (n+1) (jx rs i j i2 j2 r r2):=by obtain⟨a,b,c,d⟩:=agP hr hj hr2 hj2 hx R.sg;exact⟨d,by have:=R.len;lia,a,by have:=R.sz;lia⟩
def Sk.cut(S:Sk rs sp)(hr:rs[i]?=some r)(hj:j<=r.length)(hr2:rs[i2]?=some r2)(hj2:j2<=r2.length)(hx:i<i2\/i=i2/\j<=j2):Sk (jx rs i j i2 j2 r r2) (sp.map λy=>(y.1,oG y.2 (i,j) (i2,j2))):=by refine⟨by rw[ir];exact S.nd,by rw[ir];exact S.nm,λy a=>?_⟩;obtain⟨w,b,rfl⟩:=aa9.mp a;exact(CS hr hj hr2 hj2 hx (S.vp w b)).1
structure Lw6(ms:List aR):Prop where
 fit:K1 ms
 free:∀r:Str,(∀c∈r.l,c∈MC.l)->aaS ms r
def aeo:∀c∈sg7,c∈MC.l:=by lk
def Lw6.chain(L:Lw6 ms)(R:Rw n rs)(hn:n<=12):∃Gs,Chain ms [0] rs Gs:=by obtain⟨a,b⟩:=R.all hn;exact acs L.free rs [0] ⟨by simp,λy d=>by rw[B1.mp d];exact L.fit.pos⟩ (λr hr=>⟨by have:=R.bb hn r hr;lia,λc e=>aeo c (R.sg r hr c e)⟩) (by show 4*1+_+_<=_;lia)
def Lw6.bj(L:Lw6 ms)(R:Rw n rs)(hn:n<=12)(hC:Chain ms [0] rs Gs):∀G∈Gs,G.d.bj.length<=9000:=λG f=>by obtain⟨a,b⟩:=R.all hn;have:=abp L.free rs [0] Gs hC (λr hr c g=>aeo c (R.sg r hr c g)) G f;have e:([0]:c7).length=1:=rfl;lia
def uq(hx:H x=s0 C dx ((k,v)::r))(hy:H y=s0 C' dy ((k',v')::r'))(h:k≠k'):x≠y:=λz=>by rw[z,hy] at hx;cases hx;exact h rfl
inductive wF(t:eZ)(vs:q7)(H:Hp)(Q:VK)(_:XK):Prop|mk(S:q0)(x dx tt d ld lu dt a lg dd mE lt lv da:Addr)(b:V)(gs:c6)(ms:List aR)(Gs:List bC)(ds us:q7)(i:Nat)(fs gv:a9)(ah bk:Nat)(Gm:List bC)(c:Nat)(Gs':List bC)(_:vs=[.ref x])(_:S x)(_:S ld)(_:S lu)(_:S dd)(_:ld≠lu)(_:Ex S H)(_:H x=s0 t.aG dx (sf tt d ld lu))(_:bJ t (hid S H) tt dt a lg gs ms Gs)(_:H ld=r6 (ds++[.ref dd]))(_:H lu=r6 us)(_:us.length<=100000)(_:H dd=s0 t.dw mE (df i lt lv da b))(_:H lt=r6 (fs.map V.str))(_:lt≠ld)(_:lt≠lu)(_:H lv=r6 (gv.map V.str))(_:lv≠ld)(_:lv≠lu)(_:eK ms)(_:Gs.length<=50000)(_:fs.length<=50000)(_:gv.length<=50000)(_:fs≠[])(_:iL ms Gs i gv.length fs ah bk Gm c Gs')(_:∀lg' gs' H',bJ t (hid S H') tt dt a lg' gs' ms Gs'->H' x=s0 t.aG dx (sf tt da ld lu)->H' ld=r6 ds->H' lu=r6 (us++[.ref dd])->H' dd=s0 t.dw mE (df i lt lv da (.ref d))->(∀b o,H b=some o->b≠x->b≠ld->b≠lu->b≠dd->b≠tt->H' b=some o)->Q (.int ((Gm.length+c:Nat):Int)) H')
def UZ:bE P w K mg ap dJ 9 t.BX t.Fo ["self"] (wF t):=by
 refine T.BQ.ok AH λvs H Q E h=>?_;obtain⟨S,x,s,tt,d,ld,lu,dt,a,lg,dd,u,lt,v,g,b,gs,ms,Gs,B,us,i,fs,gv,ah,bk,Gm,c,Gs',rfl,C,D,F,G,J,hE,r,I,j,A,hul,f,l,nt1,nt2,p,nv1,nv2,hM,hG,hf,hgv,hne,hC,q⟩:=h;room;have L:x≠dd:=uq r f (by decide);have M:x≠ld:=λz=>by rw[z,j] at r;cases r
 have N:x≠lu:=λz=>by rw[z,A] at r;cases r
 have O:dd≠ld:=λz=>by rw[z,j] at f;cases f
 have R:dd≠lu:=λz=>by rw[z,A] at f;cases f
 have nS:¬S tt:=bI I.ob;refine aG (λk=>∀U,U=H->k [ρ x,none] U) (bq (g9 (gc (aM br rfl) (λ_=>rfl))) ay ay) (⟨r,T.aN,T.fR,rfl,⟨_,.inl ⟨_,aV.of j,rfl⟩,by rw[show (B++[V.ref dd]).isEmpty=false by simp];exact mH (bg (λ_ C1=>C1 _ rfl))⟩⟩) ?_
 intro U e;rw[e];clear e U;refine ak (b7 1 AH (qD Z4 aj1 al1 qJ (aM br rfl))) (⟨r,T.aN,T.fR,rfl,⟨.inl ⟨rfl,_,aV.of j⟩,j,show _=some (V.ref dd) by simp,?_⟩⟩);rw[List.dropLast_concat];have Y:fY H (ag H ld (.lst B)) ld:=fY.ag;have l1:ag H ld (.lst B) ld=r6 B:=aa;have I1:=I.ae (g8 (n:=ld) (o:=.lst B) D);generalize ag H ld (.lst B)=H1 at *;have x1:=Y _ _ r M;have u1:=Y _ _ A (aa4 J);have d1:=Y _ _ f O;refine ak (aY (cV Z4 aa0 aa3 bW (aM br rfl) (bQ bP))) (⟨x1,T.aN,T.eS,rfl,⟨.inl ⟨rfl,_,aV.of u1⟩,u1,cL (by lia),?_⟩⟩);have Z:fY H1 (ag H1 lu (.lst (us++[.ref dd]))) lu:=fY.ag;have u2:ag H1 lu (.lst (us++[.ref dd])) lu=r6 (us++[.ref dd]):=aa;have I2:=I1.ae (g8 (n:=lu) (o:=.lst (us++[.ref dd])) F);generalize ag H1 lu (.lst (us++[.ref dd]))=H2 at *;have x2:=Z _ _ x1 N;have l2:=Z _ _ l1 J;have d2:=Z _ _ d1 R;refine ak (b6 bP (aM br rfl) rfl) (⟨x2,T.aN,T.bH,rfl,⟨dd,_,u,_,rfl,d2,T.fW,T.gw,by show 5<1000;decide,?_⟩⟩);have k3:fY H2 (ag H2 dd (.ins t.dw u (df i lt v g (.ref d)))) dd:=fY.ag;have d3:ag H2 dd (.ins t.dw u (df i lt v g (.ref d))) dd=s0 t.dw u (df i lt v g (.ref d)):=aa;have I3:=I2.ae (g8 (n:=dd) (o:=.ins t.dw u (df i lt v g (.ref d))) G);show At _ _ _ _ (ag H2 dd (.ins t.dw u (df i lt v g (.ref d))));generalize ag H2 dd (.ins t.dw u (df i lt v g (.ref d)))=H3 at *;refine ak (b6 br (aM bP rfl) rfl) (⟨d3,T.fW,T.jt,rfl,⟨x,_,s,_,rfl,k3 _ _ x2 L,T.aN,T.bH,by show 4<1000;decide,?_⟩⟩);have k4:fY H3 (ag H3 x (.ins t.aG s (sf tt g ld lu))) x:=fY.ag;have x4:ag H3 x (.ins t.aG s (sf tt g ld lu)) x=s0 t.aG s (sf tt g ld lu):=aa;have I4:=I3.ae (g8 (n:=x) (o:=.ins t.aG s (sf tt g ld lu)) C);show At _ _ _ _ (ag H3 x (.ins t.aG s (sf tt g ld lu)));generalize ag H3 x (.ins t.aG s (sf tt g ld lu))=H4 at *;have kk:∀b o,H b=some o->b≠x->b≠ld->b≠lu->b≠dd->H4 b=some o:=λb o e n1 n2 n3 n4=>k4 _ _ (k3 _ _ (Z _ _ (Y _ _ e n2) n3) n4) n1;have W:=k4 _ _ d3 (aa4 L);have l4:=k4 _ _ (k3 _ _ l2 (aa4 O)) (aa4 M);have u4:=k4 _ _ (k3 _ _ u2 (aa4 R)) (aa4 N);have v4:=kk _ _ p (λz=>by rw[z,r] at p;cases p) nv1 nv2 (λz=>by rw[z,f] at p;cases p);have hE4:Ex S H4:=λb y=>by
  by_cases z1:b=x
  .exact⟨_,z1▸x4⟩
  .by_cases z2:b=ld
   .exact⟨_,z2▸l4⟩
   .by_cases z3:b=lu
    .exact⟨_,z3▸u4⟩
    .by_cases z4:b=dd
     .exact⟨_,z4▸W⟩
     .obtain⟨o,ho⟩:=hE b y;exact⟨o,kk _ _ ho z1 z2 z3 z4⟩
 have hob:=aq _ _ I4.ob;refine av (aQ (bw (aM br rfl) T.aL T.Bw (xK T) hr.m T.zx.b4 .nil aH (ao (aM bP rfl) (cy (ez aD T.bD (bQ (aM bP rfl))) (aM bP rfl))))) (⟨x4,T.aN,T.bN,rfl,⟨hob,rfl,⟨W,T.fW,T.oU,rfl,(⟨W,T.fW,T.lE,rfl,⟨v,_,rfl,.inl (aV.of v4),⟨W,T.fW,T.lN,rfl,⟨S,tt,dt,a,lg,lt,gs,ms,Gs,i,gv.length,fs,ah,bk,Gm,c,Gs',by rw[d5];rfl,hE4,I4,hM,kk _ _ l (λz=>by rw[z,r] at l;cases l) nt1 nt2 (λz=>by rw[z,f] at l;cases l),hG,hf,λ_=>hne,hC,λlg' gs' U I' _ X=>?_⟩⟩⟩⟩)⟩⟩⟩);have nt:∀{b},S b->b≠tt:=λy z=>nS (z ▸ y);exact q lg' gs' U I' (X _ _ x4 (nt C)) (X _ _ l4 (nt D)) (X _ _ u4 (nt F)) (X _ _ W (nt G)) λb o e n1 n2 n3 n4 n5=>X _ _ (kk b o e n1 n2 n3 n4) n5
inductive wI(t:eZ)(vs:q7)(H:Hp)(Q:VK)(_:XK):Prop|mk(S:q0)(x dx tt d ld lu dt a lg dd mE lt lv da db:Addr)(gs:c6)(ms:List aR)(Gs:List bC)(ds us:q7)(i:Nat)(fs gv:a9)(ah bk:Nat)(Gm:List bC)(c:Nat)(Gs':List bC)(_:vs=[.ref x])(_:S x)(_:S ld)(_:S lu)(_:ld≠lu)(_:Ex S H)(_:H x=s0 t.aG dx (sf tt d ld lu))(_:bJ t (hid S H) tt dt a lg gs ms Gs)(_:H ld=r6 ds)(_:H lu=r6 (us++[.ref dd]))(_:ds.length<=100000)(_:H dd=s0 t.dw mE (df i lt lv da (.ref db)))(_:H lt=r6 (fs.map V.str))(_:lt≠ld)(_:lt≠lu)(_:H lv=r6 (gv.map V.str))(_:lv≠ld)(_:lv≠lu)(_:eK ms)(_:Gs.length<=50000)(_:fs.length<=50000)(_:gv.length<=50000)(_:gv≠[])(_:iL ms Gs i fs.length gv ah bk Gm c Gs')(_:∀lg' gs' H',bJ t (hid S H') tt dt a lg' gs' ms Gs'->H' x=s0 t.aG dx (sf tt db ld lu)->H' ld=r6 (ds++[.ref dd])->H' lu=r6 us->(∀b o,H b=some o->b≠x->b≠ld->b≠lu->b≠tt->H' b=some o)->Q (.int ((Gm.length+c:Nat):Int)) H')
def VC:bE P w K mg ap dJ 9 t.Cd t.IU ["self"] (wI t):=by
 refine T.Cg.ok Av λvs H Q E h=>?_;obtain⟨S,x,l,tt,d,ld,lu,dt,a,lg,dd,mE,lt,lv,da,u,gs,ms,Gs,v,us,i,fs,gv,ah,bk,Gm,c,U,rfl,A,B,C,D,hE,j,I,p,g,hdl,f,r,W,X,s,Y,Z,hM,hG,hf,hgv,hne,hC,q⟩:=h;room;have nxd:x≠dd:=uq j f (by decide);have F:x≠ld:=λz=>by rw[z,p] at j;cases j
 have G:x≠lu:=λz=>by rw[z,g] at j;cases j
 have ndl:dd≠ld:=λz=>by rw[z,p] at f;cases f
 have ndu:dd≠lu:=λz=>by rw[z,g] at f;cases f
 refine aG (λk=>∀J,J=H->k [ρ x,none] J) (bq (g9 (gc (aM br rfl) (λ_=>rfl))) ay ay) (⟨j,T.aN,T.eS,rfl,⟨_,.inl ⟨_,aV.of g,rfl⟩,by rw[show (us++[V.ref dd]).isEmpty=false by simp];exact mH (bg (λ_ C1=>C1 _ rfl))⟩⟩) ?_
 intro J e;rw[e];clear e J;refine ak (b7 1 Av (qD Z4 aj1 al1 qJ (aM br rfl))) (⟨j,T.aN,T.eS,rfl,⟨.inl ⟨rfl,_,aV.of g⟩,g,show _=some (V.ref dd) by simp,?_⟩⟩);rw[List.dropLast_concat];have L:fY H (ag H lu (.lst us)) lu:=fY.ag;have u1:ag H lu (.lst us) lu=r6 us:=aa;have I1:=I.ae (g8 (n:=lu) (o:=.lst us) C);generalize ag H lu (.lst us)=H1 at *;have x1:=L _ _ j G;have l1:=L _ _ p D;have d1:=L _ _ f ndu;refine ak (aY (cV Z4 aa0 aa3 bW (aM br rfl) (bQ bP))) (⟨x1,T.aN,T.fR,rfl,⟨.inl ⟨rfl,_,aV.of l1⟩,l1,cL (by lia),?_⟩⟩);have M:fY H1 (ag H1 ld (.lst (v++[.ref dd]))) ld:=fY.ag;have l2:ag H1 ld (.lst (v++[.ref dd])) ld=r6 (v++[.ref dd]):=aa;have I2:=I1.ae (g8 (n:=ld) (o:=.lst (v++[.ref dd])) B);generalize ag H1 ld (.lst (v++[.ref dd]))=H2 at *;have x2:=M _ _ x1 F;have u2:=M _ _ u1 (aa4 D);have d2:=M _ _ d1 ndl;refine ak (b6 br (aM bP rfl) rfl) (⟨d2,T.fW,T.gw,rfl,⟨x,_,l,_,rfl,x2,T.aN,T.bH,by show 4<1000;decide,?_⟩⟩);have N:fY H2 (ag H2 x (.ins t.aG l (sf tt u ld lu))) x:=fY.ag;have x4:ag H2 x (.ins t.aG l (sf tt u ld lu)) x=s0 t.aG l (sf tt u ld lu):=aa;have I4:=I2.ae (g8 (n:=x) (o:=.ins t.aG l (sf tt u ld lu)) A);show At _ _ _ _ (ag H2 x (.ins t.aG l (sf tt u ld lu)));generalize ag H2 x (.ins t.aG l (sf tt u ld lu))=H4 at *;have O:∀b o,H b=some o->b≠x->b≠ld->b≠lu->H4 b=some o:=λb o e n1 n2 n3=>N _ _ (M _ _ (L _ _ e n3) n2) n1;have d4:=N _ _ d2 (aa4 nxd);have l4:=N _ _ l2 (aa4 F);have u4:=N _ _ u2 (aa4 G);have t4:=O _ _ r (λz=>by rw[z,j] at r;cases r) W X;have v4:=O _ _ s (λz=>by rw[z,j] at s;cases s) Y Z;have hE4:Ex S H4:=λb y=>by
  by_cases z1:b=x
  .exact⟨_,z1▸x4⟩
  .by_cases z2:b=ld
   .exact⟨_,z2▸l4⟩
   .by_cases z3:b=lu
    .exact⟨_,z3▸u4⟩
    .obtain⟨o,ho⟩:=hE b y;exact⟨o,O _ _ ho z1 z2 z3⟩
 have hob:=aq _ _ I4.ob;refine av (aQ (bw (aM br rfl) T.aL T.Bw (xK T) hr.m T.zx.b4 .nil aH (ao (aM bP rfl) (cy (ez aD T.bD (bQ (aM bP rfl))) (aM bP rfl))))) (⟨x4,T.aN,T.bN,rfl,⟨hob,rfl,⟨d4,T.fW,T.oU,rfl,(⟨d4,T.fW,T.lN,rfl,⟨lt,_,rfl,.inl (aV.of t4),⟨d4,T.fW,T.lE,rfl,⟨S,tt,dt,a,lg,lv,gs,ms,Gs,i,fs.length,gv,ah,bk,Gm,c,U,by rw[d5];rfl,hE4,I4,hM,v4,hG,hgv,λ_=>hne,hC,λlg' gs' J I' _ R=>?_⟩⟩⟩⟩)⟩⟩⟩);have nt:∀{b},S b->b≠tt:=λy z=>(bI I.ob) (z ▸ y);exact q lg' gs' J I' (R _ _ x4 (nt A)) (R _ _ l4 (nt B)) (R _ _ u4 (nt C)) λb o e n1 n2 n3 n5=>R _ _ (O b o e n1 n2 n3) n5
def Rz(C:Addr)(E:XK)(H:Hp):Prop:=∀e a,H e=none->a e=some (jQ e C none)->af H a->E (.ref C) (some e) a
inductive yI(t:eZ)(und:Bool)(vs:q7)(H:Hp)(Q:VK)(E:XK):Prop|mk(x dx tt d ld lu:Addr)(_:vs=[.ref x])(_:H x=s0 t.aG dx (sf tt d ld lu))(_:H (if und=true then ld else lu)=r6 [])(_:Rz t.dN E H)
def rJ:bE P w K mg ap (qX P w) 9 t.BX t.Fo ["self"] (yI t true):=by
 refine T.BQ.Ma AH (λc H Q E h=>by obtain⟨x,g,i,d,j,l,rfl,_⟩:=h;rfl) (λf A a s H c Q E hr h=>by obtain⟨x,g,i,d,j,l,rfl,n,hl,o⟩:=h;refine ak (bq (g9 (gc (aM br rfl) (λ_=>rfl))) ay ay) (⟨n,T.aN,T.fR,rfl,⟨_,.inl ⟨_,aV.of hl,rfl⟩,zA ?_⟩⟩);exact av (iT T.uu rfl T.nE (bQ aZ)) ⟨sL rfl,λe b=>o e _ b aa (af.ag b)⟩)
def rP:bE P w K mg ap (qX P w) 9 t.Cd t.IU ["self"] (yI t false):=by
 refine T.Cg.Ma Av (λc H Q E h=>by obtain⟨x,g,i,d,j,l,rfl,_⟩:=h;rfl) (λf A a s H c Q E hr h=>by obtain⟨x,g,i,d,j,l,rfl,n,hl,o⟩:=h;refine ak (bq (g9 (gc (aM br rfl) (λ_=>rfl))) ay ay) (⟨n,T.aN,T.eS,rfl,⟨_,.inl ⟨_,aV.of hl,rfl⟩,zA ?_⟩⟩);exact av (iT T.uu rfl T.nE (bQ aZ)) ⟨sL rfl,λe b=>o e _ b aa (af.ag b)⟩)
structure eU where
 dd:Addr
 mE:Addr
 lt:Addr
 lv:Addr
 da:Addr
variable {ds us:List (eU×DK)}
def aV.XC(h:aV K H a xs)(f:∀o,H a=some o->(∃ys,o = .lst ys\/∃u,o = .mC u (.lst ys))->H' a=some o):aV K H' a xs:=by
 rcases h with (h|⟨o,h⟩)|h
 .exact .inl (.inl (f _ h ⟨_,.inl rfl⟩))
 .exact .inl (.inr ⟨o,f _ h ⟨_,.inr ⟨_,rfl⟩⟩⟩)
 .exact .inr h
def DP.ig(h:DP H d sp)(f:∀b o,H b=some o->(∀C y fs,o ≠ .ins C y fs)->H' b=some o):DP H' d sp:=by obtain⟨c,a⟩:=h;exact⟨c,a.len,f _ _ a.ob (λ_ _ _ z=>by cases z),a.pl.mono λ_ _ e=>f _ _ e (λ_ _ _ z=>by cases z)⟩
def Kp(S S':q0)(H H':Hp):Prop:=∀b o,hid S H b=some o->(∀C y fs,o ≠ .ins C y fs)->hid S' H' b=some o
def Kp.sq(kp:Kp S S' H H')(h:aV K (hid S H) a xs):aV K (hid S' H') a xs :=
 K63.aV.XC h λo e b=>kp _ _ e λC y fs z=>by obtain⟨c,y|⟨u,y⟩⟩:=b <;> rw[y] at z <;> cases z
def KpR(H H':Hp)(ld lu:Addr):Prop:=∀b o,H b=some o->(∀C y fs,o ≠ .ins C y fs)->b≠ld->b≠lu->H' b=some o
def DA(t:eZ)(S:q0)(H:Hp)(b:V)(D:eU×DK):Prop:=H D.1.dd=s0 t.dw D.1.mE (df D.2.i D.1.lt D.1.lv D.1.da b)/\hid S H D.1.lt=r6 (D.2.tk.map V.str)/\hid S H D.1.lv=r6 (D.2.fs.map V.str)/\DP (hid S H) D.1.da D.2.sp
def DA.only(z:DA t S H b D)(g:H' D.1.dd=s0 t.dw D.1.mE (df D.2.i D.1.lt D.1.lv D.1.da b'))(kp:Kp S S' H H'):DA t S' H' b' D :=
 ⟨g,kp _ _ z.2.1 (λ_ _ _ y=>by cases y),kp _ _ z.2.2.1 (λ_ _ _ y=>by cases y),z.2.2.2.ig kp⟩
structure S6(t:eZ)(S:q0)(H:Hp)(x dx tt dt a ld lu:Addr)(ms:List aR)(rs:a9)(sp:List (Str×Nat×Nat))(n:Nat)(ds us:List (eU×DK)):Prop where
 ob:∃d,H x=s0 t.aG dx (sf tt d ld lu)/\DP (hid S H) d sp
 ti:∃lg gs Gs,bJ t (hid S H) tt dt a lg gs ms Gs/\Chain ms [0] rs Gs
 sx:S x/\S ld/\S lu/\∀D∈ds++us,S D.1.dd
 ne:ld≠lu
 ex:Ex S H
 dn:H ld=r6 (ds.map λD=>.ref D.1.dd)
 un:H lu=r6 (us.map λD=>.ref D.1.dd)
 dd:∀D∈ds,∃b,DA t S H b D
 ud:∀D∈us,∃db,DA t S H (.ref db) D/\DP (hid S H) db D.2.sp2
 nd:((ds++us).map (·.1.dd)).Nodup
 rw:Rw n rs
 sk:Sk rs sp
 pa:rN n (ds.map (·.2)).reverse rs
 fu:So n (us.map (·.2)).reverse rs
 len:ds.length+us.length<=n
def S6.ae(L:S6 t S H x dx tt dt a ld lu ms rs sp n ds us)(s:af H H'):S6 t S H' x dx tt dt a ld lu ms rs sp n ds us:=by
 obtain⟨d,f,g⟩:=L.ob;obtain⟨h,i,j,l,p⟩:=L.ti;have kp:Kp S S H H':=λb o e _=>aJ s _ _ e;refine⟨⟨d,s _ _ f,g.ae (aJ s)⟩,⟨h,i,j,l.ae (aJ s),p⟩,L.sx,L.ne,L.ex.ae s,s _ _ L.dn,s _ _ L.un,λD c=>by obtain⟨b,z⟩:=L.dd D c;exact⟨b,z.only (s _ _ z.1) kp⟩,λD c=>by obtain⟨q,z,y⟩:=L.ud D c;exact⟨q,z.only (s _ _ z.1) kp,y.ae (aJ s)⟩,L.nd,L.rw,L.sk,L.pa,L.fu,L.len⟩
def S6.later(L:S6 t S H x dx tt dt a ld lu ms rs sp n ds us)(h:n<=m):S6 t S H x dx tt dt a ld lu ms rs sp m ds us :=
 ⟨L.ob,L.ti,L.sx,L.ne,L.ex,L.dn,L.un,L.dd,L.ud,L.nd,L.rw.mono h,L.sk,L.pa.mono h,L.fu.mono h,ac2 L.len h⟩
def S6.done(L:S6 t S H x dx tt dt a ld lu ms rs sp n ds us)
  (o1:H x=s0 t.aG dx (sf tt d ld lu)) (o2:DP (hid S H) d sp) (i1:bJ t (hid S H) tt dt a lg gs ms Gs) (D4:SDone t S H H' x dx tt dt a ld ms Gs Gs' (ds.map λD=>.ref D.1.dd) sp' d i (tk.map V.str) (fs.map V.str)) (i3:Chain ms [0] rs' Gs')
  (er:rs'=rs.take i++fs++rs.drop (i+tk.length)) (hl:i+tk.length<=rs.length) (ek:(rs.drop i).take tk.length=tk) (ht:tk≠[]) (hf:fs≠[]) (R':Rw (n+1) rs') (K':Sk rs' sp') :
  ∃S' lu' D,S6 t S' H' x dx tt dt a ld lu' ms rs' sp' (n+1) (ds++[(D,⟨i,tk,fs,sp,[],rs,rs'⟩)]) []/\Kp S S' H H'/\KpR H H' ld lu/\H lu'=none/\(∀b,S b->S' b)/\H D.dd=none:=by
 obtain⟨C,E,su,F⟩:=L.sx;obtain⟨⟨O,lu',dd,p,lt,P,q,r,G,Q,R,I,J,s,T,U,f1,u,W,X,v,Y,Z⟩,f⟩:=D4;have K:¬S tt:=bI i1.ob;have j:=aq _ _ i1.ob;have kp:Kp S (λc=>(S c\/c=dd)\/c=lu') H H':=λb o e n=>by
  have h:=aq _ _ e;have l:=bI e;refine aT (f b o h (λz=>l (z ▸ C)) (λz=>by rw[z,j] at h;exact n _ _ _ (aa1 h).symm) (λz=>l (z ▸ E))) ?_;rintro ((y|y)|y)
  .exact l y
  .rw[y,u] at h;cases h
  .rw[y,v] at h;cases h
 have mk:∀{b A},H' b=r6 A->H b=none->b≠lu'->hid (λc=>(S c\/c=dd)\/c=lu') H' b=r6 A:=λ{b A} e z l=>aT e (by
  rintro ((y|y)|y)
  .exact L.ex.new z y
  .rw[y,s] at e;cases e
  .exact l y)
 have hln:=L.len;refine⟨λc=>(S c\/c=dd)\/c=lu',lu',⟨dd,p,lt,P,d⟩,⟨⟨O,G,R⟩,⟨q,r,Gs',Q,i3⟩,⟨.inl (.inl C),.inl (.inl E),.inr rfl,λD g=>?_⟩,λz=>?_,λb y=>?_,by rw[o0];exact J,I,λD g=>?_,(λD g=>by cases g),?_,R',K',by rw[o0,ag7,er];exact rN.mono (Nat.le_succ n) (rN.add hl ek ht hf L.rw L.sk L.pa),trivial,by rw[i5];show ds.length+1+0<=n+1;lia⟩,kp,λb o e n h1 _=>f b o e (λz=>by rw[z,o1] at e;exact n _ _ _ (aa1 e).symm) (λz=>by rw[z,j] at e;exact n _ _ _ (aa1 e).symm) h1,v,λb y=>.inl (.inl y),u⟩
 .rw[ad2] at g;rcases X1.mp g with y|y
  .exact .inl (.inl (F D (aa8 _ y)))
  .rw[B1.mp y];exact .inl (.inr rfl)
 .have:=L.dn;rw[z,v] at this;cases this
 .rcases y with (y|y)|y
  .by_cases M:b=x
   .exact⟨_,M▸G⟩
   .by_cases N:b=ld
    .exact⟨_,N▸J⟩
    .obtain⟨o,ho⟩:=L.ex b y;exact⟨o,f b o ho M (λz=>K (z ▸ y)) N⟩
  .exact⟨_,y▸s⟩
  .exact⟨_,y▸I⟩
 .rcases X1.mp g with y|y
  .obtain⟨b,z⟩:=L.dd D y;have B:=F D (aa8 _ y);refine⟨b,z.only (f _ _ z.1 (uq z.1 o1 (by decide)) (λy=>K (y ▸ B)) (λy=>?_)) kp⟩;have:=z.1;rw[y,L.dn] at this;cases this
  .rw[B1.mp y];exact⟨.dj,s,mk T W Y,mk U X Z,o2.ig kp⟩
 .rw[ad2,o0,af3];have:=L.nd;rw[o0,af3] at this;refine⟨this.1,by simp,λy hy z hz=>?_⟩;rw[show z=dd by simpa using hz];obtain⟨D,g,rfl⟩:=aa9.mp hy;obtain⟨b,zz⟩:=L.dd D g;intro w;have:=zz.1;rw[w,u] at this;cases this
def S6.laid(L:S6 t S H x dx tt dt a ld lu ms rs sp n ds us)(hS:S b)(h1:b≠x)(h2:b≠ld)(h3:b≠lu)(h4:∀D∈ds++us,D.1.dd≠b):S6 t S (ag H b o) x dx tt dt a ld lu ms rs sp n ds us:=by
 have g:hid S (ag H b o)=hid S H:=iN hS;obtain⟨d,h,i⟩:=L.ob;obtain⟨j,l,p,q,r⟩:=L.ti;have kp:Kp S S H (ag H b o):=λc u e _=>g▸e
 refine⟨⟨d,by rw[aj (aa4 h1)];exact h,g▸i⟩,⟨j,l,p,g▸q,r⟩,L.sx,L.ne,λc s=>?_,by rw[aj (aa4 h2)];exact L.dn,by rw[aj (aa4 h3)];exact L.un,λD f=>by obtain⟨v,z⟩:=L.dd D f;exact⟨v,z.only (by rw[aj (h4 D (aa8 _ f))];exact z.1) kp⟩,λD f=>by obtain⟨A,z,y⟩:=L.ud D f;exact⟨A,z.only (by rw[aj (h4 D (Z2 _ f))];exact z.1) kp,by rw[g];exact y⟩,L.nd,L.rw,L.sk,L.pa,L.fu,L.len⟩
 .by_cases y:c=b
  .exact⟨o,y▸aa⟩
  .obtain⟨u,w⟩:=L.ex c s;exact⟨u,by rw[aj y];exact w⟩
def S6.Zz(A:Lw6 ms)(L:S6 t S H x dx tt dt a ld lu ms rs sp n (ds++[D]) us)(hn:n<=12)
  (q:∀Gs Gs' H',Chain ms [0] rs Gs->Chain ms [0] (ce rs D.2) Gs'->S6 t S H' x dx tt dt a ld lu ms (ce rs D.2) D.2.sp n ds (us++[(D.1,{ D.2 with sp2:=sp,ra:=rs })])->Kp S S H H'->KpR H H' ld lu->Q (.int (uH Gs Gs' D.2.fs D.2.tk D.2.i:Nat)) H'):wF t [.ref x] H Q E:=by
 obtain⟨d,R,o2⟩:=L.ob;obtain⟨lg,gs,Gs,T,U⟩:=L.ti;obtain⟨W,r,s,u⟩:=L.sx;have X:=L.len;rw[i5] at X;have v:=L.pa;rw[o0,ag7] at v;obtain⟨⟨p1,p2,p3,p4⟩,p0,P,Y,p7⟩:(D.2.i+D.2.fs.length<=rs.length/\(rs.drop D.2.i).take D.2.fs.length=D.2.fs/\D.2.tk≠[]/\D.2.fs≠[])/\ce rs D.2=D.2.rb/\Rw n D.2.rb/\Sk D.2.rb D.2.sp/\rN n (ds.map λ(D:eU×DK)=>D.2).reverse D.2.rb:=v;rw[<- p0] at P Y p7;obtain⟨t1,t2,t3⟩:=turn (A:=D.2.tk) p1 p2;obtain⟨rl1,Z⟩:=P.all hn;obtain⟨ql1,ql2⟩:=L.rw.all hn;obtain⟨Gs',i3⟩:=A.chain P hn;obtain⟨ah,bk,Gm,cc,hC,B⟩:=xm (tk:=D.2.fs) (fs:=D.2.tk) U p1 p2 i3;have lG:=U.len;have j:D∈ds++[D]:=Z2 _ (B1.mpr rfl);obtain⟨b,z⟩:=L.dd D j;have p:=u D (aa8 _ j);have CI:∀{l},S l->D.1.lt≠l:=λy e=>bI z.2.1 (e ▸ y);have C:∀{l},S l->D.1.lv≠l:=λy e=>bI z.2.2.1 (e ▸ y);have htl:D.2.tk.length<=1000:=by have:=t2;have e:=Z;unfold ce at e;lia
 have F:=L.dn;rw[o0] at F;refine⟨S,x,dx,tt,d,ld,lu,dt,a,lg,D.1.dd,D.1.mE,D.1.lt,D.1.lv,D.1.da,b,gs,ms,Gs,ds.map λD=>.ref D.1.dd,us.map λD=>.ref D.1.dd,D.2.i,D.2.tk,D.2.fs,ah,bk,Gm,cc,Gs',rfl,W,r,s,p,L.ne,L.ex,R,T,F,L.un,by rw[d5];lia,z.1,aq _ _ z.2.1,CI r,CI s,aq _ _ z.2.2.1,C r,C s,A.fit.good,by lia,by lia,by lia,p3,hC,λlg' gs' H' I' G I J K c=>?_⟩;have nS:=bI T.ob;have M:=aq _ _ T.ob;have kp:Kp S S H H':=λb o e n=>by have e':=aq _ _ e;have N:=bI e;exact aT (c b o e' (λz=>N (z ▸ W)) (λz=>N (z ▸ r)) (λz=>N (z ▸ s)) (λz=>N (z ▸ p)) (λz=>by rw[z,M] at e';exact n _ _ _ (aa1 e').symm)) N
 have f:=L.nd;have dk:∀{D':eU×DK} {O},DA t S H O D'->S D'.1.dd->D'.1.dd≠D.1.dd->DA t S H' O D':=λ{D' O} g hS' ne=>by
  refine g.only (c _ _ g.1 (uq g.1 R (by decide)) (λy=>?_) (λy=>?_) ne (λy=>nS (y ▸ hS'))) kp
  .have:=g.1;rw[y,L.dn] at this;cases this
  .have:=g.1;rw[y,L.un] at this;cases this
 rw[B];refine q Gs Gs' H' U i3 ⟨⟨D.1.da,G,z.2.2.2.ig kp⟩,⟨lg',gs',Gs',I',i3⟩,⟨W,r,s,λD' h=>?_⟩,L.ne,λb y=>?_,I,by rw[o0];exact J,λD' h=>?_,λD' h=>?_,?_,P,Y,p7,?_,by rw[i5];show ds.length+(us.length+1)<=n;have:[D].length=1:=rfl;lia⟩ kp (λb o e n h1 h2=>c b o e (λy=>by rw[y,R] at e;exact n _ _ _ (aa1 e).symm) h1 h2 (λy=>by rw[y,z.1] at e;exact n _ _ _ (aa1 e).symm) (λy=>by rw[y,M] at e;exact n _ _ _ (aa1 e).symm))
 .simp only[X1,B1] at h;rcases h with y|y|y
  .exact u D' (aa8 _ (aa8 _ y))
  .exact u D' (Z2 _ y)
  .rw[y];exact p
 .by_cases y1:b=x
  .exact⟨_,by rw[y1];exact G⟩
  by_cases y2:b=ld
  .exact⟨_,by rw[y2];exact I⟩
  by_cases y3:b=lu
  .exact⟨_,by rw[y3];exact J⟩
  by_cases y4:b=D.1.dd
  .exact⟨_,by rw[y4];exact K⟩
  obtain⟨o,ho⟩:=L.ex b y;exact⟨o,c b o ho y1 y2 y3 y4 (λz=>nS (z ▸ y))⟩
 .obtain⟨O,g⟩:=L.dd D' (aa8 _ h);refine⟨O,dk g (u D' (aa8 _ (aa8 _ h))) λy=>?_⟩;rw[ac0,o0,af3] at f;exact f.2.2 _ (aa9.mpr ⟨D',h,rfl⟩) D.1.dd (by simp) y
 .rcases X1.mp h with y|y
  .obtain⟨db,g,y'⟩:=L.ud D' y;refine⟨db,dk g (u D' (Z2 _ y)) λw=>?_,y'.ig kp⟩;rw[o0,af3] at f;exact f.2.2 D.1.dd (aa9.mpr ⟨D,j,rfl⟩) D'.1.dd (aa9.mpr ⟨D',y,rfl⟩) w.symm
  .rw[B1.mp y];exact⟨d,DA.only (D:=(D.1,{ D.2 with sp2:=sp,ra:=rs })) (b:=b) z K kp,o2.ig kp⟩
 .refine(List.Perm.nodup_iff ?_).mp L.nd;have e:(ds++(us++[(D.1,{ D.2 with sp2:=sp,ra:=rs })])).map (λ(D:eU×DK)=>D.1.dd)=(ds++(us++[D])).map (λ(D:eU×DK)=>D.1.dd):=by rw[o0,o0,o0,o0];rfl
  rw[e,ac0];exact(List.Perm.append_left ds List.perm_append_comm).map _
 .rw[o0,ag7];have eb:=t1;exact⟨⟨t2,t3,p3,p4⟩,p0.symm,eb,L.rw,L.sk,Y,L.fu⟩
def S6.ZJ(A:Lw6 ms)(L:S6 t S H x dx tt dt a ld lu ms rs sp n ds (us++[D]))(hn:n<=12)
  (q:∀Gs Gs' H',Chain ms [0] rs Gs->Chain ms [0] (aal rs D.2) Gs'->S6 t S H' x dx tt dt a ld lu ms (aal rs D.2) D.2.sp2 n (ds++[D]) us->Kp S S H H'->KpR H H' ld lu->Q (.int (uH Gs Gs' D.2.tk D.2.fs D.2.i:Nat)) H'):wI t [.ref x] H Q E:=by
 obtain⟨d,N,o2⟩:=L.ob;obtain⟨lg,gs,Gs,O,P⟩:=L.ti;obtain⟨R,h,j,I⟩:=L.sx;have T:=L.len;rw[i5] at T;have p:=L.fu;rw[o0,ag7] at p;obtain⟨⟨p1,p2,p3,p4⟩,J,pa,K,p6,p8,p7⟩:(D.2.i+D.2.tk.length<=rs.length/\(rs.drop D.2.i).take D.2.tk.length=D.2.tk/\D.2.tk≠[]/\D.2.fs≠[])/\D.2.rb=rs/\aal rs D.2=D.2.ra/\Rw n D.2.ra/\Sk D.2.ra D.2.sp2/\Sk rs D.2.sp/\So n (us.map λ(D:eU×DK)=>D.2).reverse D.2.ra:=p;rw[<- pa] at K p6 p7;obtain⟨t1,t2,t3⟩:=turn (A:=D.2.fs) p1 p2;obtain⟨rl1,U⟩:=K.all hn;obtain⟨ql1,ql2⟩:=L.rw.all hn;obtain⟨Gs',W⟩:=A.chain K hn;obtain⟨ah,bk,Gm,cc,hC,r⟩:=xm (tk:=D.2.tk) (fs:=D.2.fs) P p1 p2 W;have lG:=P.len;have s:D∈us++[D]:=Z2 _ (B1.mpr rfl);obtain⟨db,z,X⟩:=L.ud D s;have Y:=I D (Z2 _ s);have CI:∀{l},S l->D.1.lt≠l:=λy e=>bI z.2.1 (e ▸ y);have u:∀{l},S l->D.1.lv≠l:=λy e=>bI z.2.2.1 (e ▸ y);have hfl:D.2.fs.length<=1000:=by have:=t2;have e:=U;unfold aal at e;lia
 have v:=L.un;rw[o0] at v;refine⟨S,x,dx,tt,d,ld,lu,dt,a,lg,D.1.dd,D.1.mE,D.1.lt,D.1.lv,D.1.da,db,gs,ms,Gs,ds.map λD=>.ref D.1.dd,us.map λD=>.ref D.1.dd,D.2.i,D.2.tk,D.2.fs,ah,bk,Gm,cc,Gs',rfl,R,h,j,L.ne,L.ex,N,O,L.dn,v,by rw[d5];lia,z.1,aq _ _ z.2.1,CI h,CI j,aq _ _ z.2.2.1,u h,u j,A.fit.good,by lia,by lia,by lia,p4,hC,λZ gs' H' I' w B C c=>?_⟩;have nS:=bI O.ob;have F:=aq _ _ O.ob;have kp:Kp S S H H':=λb o e n=>by have e':=aq _ _ e;have M:=bI e;exact aT (c b o e' (λz=>M (z ▸ R)) (λz=>M (z ▸ h)) (λz=>M (z ▸ j)) (λz=>by rw[z,F] at e';exact n _ _ _ (aa1 e').symm)) M
 have dk:∀{D':eU×DK} {G},DA t S H G D'->S D'.1.dd->DA t S H' G D':=λ{D' G} f hS'=>by
  refine f.only (c _ _ f.1 (uq f.1 N (by decide)) (λy=>?_) (λy=>?_) (λy=>nS (y ▸ hS'))) kp
  .have:=f.1;rw[y,L.dn] at this;cases this
  .have:=f.1;rw[y,L.un] at this;cases this
 rw[r];refine q Gs Gs' H' P W ⟨⟨db,w,X.ig kp⟩,⟨Z,gs',Gs',I',W⟩,⟨R,h,j,λD' g=>?_⟩,L.ne,λb y=>?_,by rw[o0];exact B,C,λD' g=>?_,λD' g=>?_,?_,K,p6,?_,p7,by rw[i5];show ds.length+1+us.length<=n;have:[D].length=1:=rfl;lia⟩ kp (λb o e n h1 h2=>c b o e (λy=>by rw[y,N] at e;exact n _ _ _ (aa1 e).symm) h1 h2 (λy=>by rw[y,F] at e;exact n _ _ _ (aa1 e).symm))
 .refine I D' ?_;simp only[X1,B1] at g ⊢;rcases g with (y|y)|y
  .exact .inl y
  .exact .inr (.inr y)
  .exact .inr (.inl y)
 .by_cases y1:b=x
  .exact⟨_,by rw[y1];exact w⟩
  by_cases y2:b=ld
  .exact⟨_,by rw[y2];exact B⟩
  by_cases y3:b=lu
  .exact⟨_,by rw[y3];exact C⟩
  obtain⟨o,ho⟩:=L.ex b y;exact⟨o,c b o ho y1 y2 y3 (λz=>nS (z ▸ y))⟩
 .rcases X1.mp g with y|y
  .obtain⟨G,f⟩:=L.dd D' y;exact⟨G,dk f (I D' (aa8 _ y))⟩
  .rw[B1.mp y];exact⟨_,dk z Y⟩
 .obtain⟨db',f,y'⟩:=L.ud D' (aa8 _ g);exact⟨db',dk f (I D' (Z2 _ (aa8 _ g))),y'.ig kp⟩
 .refine(List.Perm.nodup_iff ?_).mp L.nd;rw[ac0];exact(List.Perm.append_left ds List.perm_append_comm).map _
 .rw[o0,ag7];have eb:=t1;exact⟨⟨t2,t3,p3,p4⟩,eb.trans J.symm,by rw[J];exact L.rw,by rw[J];exact p8,by rw[J];exact L.pa⟩
def S6.mark(L:S6 t S H x dx tt dt a ld lu ms rs sp n ds us)(o:H' x=s0 t.aG dx (sf tt d' ld lu))(dp:DP (hid S H') d' sp')(ad:fY H H' x)(k:Sk rs sp'):S6 t S H' x dx tt dt a ld lu ms rs sp' n ds us/\af (hid S H) (hid S H'):=by
 obtain⟨d,f,A⟩:=L.ob;obtain⟨i,j,p,q,r⟩:=L.ti;obtain⟨s,B,C,E⟩:=L.sx;have c:af (hid S H) (hid S H'):=λb o e=>aT (ad b o (aq _ _ e) (λz=>bI e (z ▸ s))) (bI e);have kp:Kp S S H H':=λb o e _=>c _ _ e;have nl:∀{l h},H l=r6 h->H' l=r6 h:=λe=>ad _ _ e (bL e f);refine⟨⟨⟨d',o,dp⟩,⟨i,j,p,q.ae c,r⟩,L.sx,L.ne,λb y=>?_,nl L.dn,nl L.un,λD g=>by obtain⟨b,z⟩:=L.dd D g;exact⟨b,z.only (ad _ _ z.1 (uq z.1 f (by decide))) kp⟩,λD g=>by obtain⟨w,z,y⟩:=L.ud D g;exact⟨w,z.only (ad _ _ z.1 (uq z.1 f (by decide))) kp,y.ae c⟩,L.nd,L.rw,k,L.pa,L.fu,L.len⟩,c⟩
 .by_cases e:b=x
  .exact⟨_,e▸o⟩
  .obtain⟨u,v⟩:=L.ex b y;exact⟨u,ad _ _ v e⟩
def S6.re(L:S6 t S H x dx tt dt a ld lu ms rs sp n ds us)(sh:af (hid S H) (hid S' H'))(k:∀b o,(b=x\/b=ld\/b=lu\/∃D∈ds++us,b=D.1.dd)->H b=some o->H' b=some o/\S' b)(ex:Ex S' H'):S6 t S' H' x dx tt dt a ld lu ms rs sp n ds us:=by
 obtain⟨d,i,j⟩:=L.ob;obtain⟨l,p,q,r,s⟩:=L.ti;have kp:Kp S S' H H':=λb o e _=>sh _ _ e;have f:=k x _ (.inl rfl) i;have g:=k ld _ (.inr (.inl rfl)) L.dn;have h:=k lu _ (.inr (.inr (.inl rfl))) L.un;refine⟨⟨d,f.1,j.ae sh⟩,⟨l,p,q,r.ae sh,s⟩,⟨f.2,g.2,h.2,λD c=>?_⟩,L.ne,ex,g.1,h.1,λD c=>by obtain⟨b,z⟩:=L.dd D c;exact⟨b,z.only (k _ _ (.inr (.inr (.inr ⟨D,aa8 _ c,rfl⟩))) z.1).1 kp⟩,λD c=>by obtain⟨u,z,y⟩:=L.ud D c;exact⟨u,z.only (k _ _ (.inr (.inr (.inr ⟨D,Z2 _ c,rfl⟩))) z.1).1 kp,y.ae sh⟩,L.nd,L.rw,L.sk,L.pa,L.fu,L.len⟩
 .rcases X1.mp c with y|y
  .obtain⟨b,z⟩:=L.dd D y;exact(k _ _ (.inr (.inr (.inr ⟨D,c,rfl⟩))) z.1).2
  .obtain⟨b,z,_⟩:=L.ud D y;exact(k _ _ (.inr (.inr (.inr ⟨D,c,rfl⟩))) z.1).2
def S6.hide(L:S6 t S H x dx tt dt a ld lu ms rs sp n ds us)(s:af H H')(f:H dm=none)(e:H' dm=some o):S6 t (λc=>S c\/c=dm) H' x dx tt dt a ld lu ms rs sp n ds us/\af (hid S H) (hid (λc=>S c\/c=dm) H'):=by
 obtain⟨g,h,i,j⟩:=L.sx;have d:af (hid S H) (hid (λc=>S c\/c=dm) H'):=λb o e=>aT (s _ _ (aq _ _ e)) (λy=>y.elim (bI e) λz=>by rw[z] at e;have:=aq _ _ e;rw[f] at this;cases this);refine⟨L.re d (λb o l e=>⟨s _ _ e,.inl ?_⟩) λb y=>?_,d⟩
 .rcases l with rfl|rfl|rfl|⟨D,p,rfl⟩
  .exact g
  .exact h
  .exact i
  .exact j D p
 .rcases y with y|rfl
  .obtain⟨o,q⟩:=L.ex b y;exact⟨o,s _ _ q⟩
  .exact⟨_,e⟩
def S6.shown(L:S6 t (λc=>S c\/c=dm) H x dx tt dt a ld lu ms rs sp n ds us)(f:¬S dm)(sx:S x/\S ld/\S lu/\∀D∈ds++us,S D.1.dd)(o:HO):S6 t S (ag H dm o) x dx tt dt a ld lu ms rs sp n ds us/\af (hid (λc=>S c\/c=dm) H) (hid S (ag H dm o)):=by
 obtain⟨sx,h,i,j⟩:=sx;have d:af (hid (λc=>S c\/c=dm) H) (hid S (ag H dm o)):=λb o e=>aT (by rw[aj (λz=>bI e (.inr z))];exact aq _ _ e) (λy=>bI e (.inl y));refine⟨L.re d (λb o l e=>?_) λb y=>by obtain⟨o,q⟩:=L.ex b (.inl y);exact⟨o,by rw[aj (λz:b=dm=>f (z ▸ y))];exact q⟩,d⟩
 .have g:S b:=by
   rcases l with rfl|rfl|rfl|⟨D,p,rfl⟩
   .exact sx
   .exact h
   .exact i
   .exact j D p
  exact⟨by rw[aj (λz:b=dm=>f (z ▸ g))];exact e,g⟩
def Sk.set(h:Sk rs sp)(hn:n∈kr)(hv:VP rs v):Sk rs (rG sp n v):=by
 refine⟨LC h.nd,λx a=>?_,λy b=>?_⟩
 .rw[uv] at a;by_cases e:n∈bU sp
  .rw[w4 e] at a;exact h.nm x a
  .rw[C5 e] at a;rcases X1.mp a with z|z
   .exact h.nm x z
   .rw[B1.mp z];exact hn
 .unfold rG at b;by_cases e:n∈bU sp
  .rw[w4 e] at b;obtain⟨w,d,rfl⟩:=aa9.mp b;by_cases c:w.1=n
   .rw[w4 c];exact hv
   .rw[C5 c];exact h.vp w d
  .rw[C5 e] at b;rcases X1.mp b with z|z
   .exact h.vp y z
   .rw[B1.mp z];exact hv
def Sk.drop(h:Sk rs sp):Sk rs (jS sp n) :=
 ⟨HV h.nd,λx a=>h.nm x (by obtain⟨w,b,rfl⟩:=aa9.mp a;exact aa9.mpr ⟨w,(ao2.mp b).1,rfl⟩),λy c=>h.vp y ((ao2.mp c).1)⟩
def alV(h:HT.gY [(i:Int),j] [(i2:Int),j2]=false):i<i2\/i=i2/\j<=j2:=by
 simp only[HT.gY,HT.lex] at h;by_cases a:(i:Int)=i2
 .rw[w4 a] at h;by_cases b:(j:Int)=j2
  .exact .inr ⟨by lia,by lia⟩
  .rw[C5 b] at h;have:=of_decide_eq_false h;exact .inr ⟨by lia,by lia⟩
 .rw[C5 a] at h;have:=of_decide_eq_false h;exact .inl (by lia)
def aib(h:HT.gY [x1,y1] [x2,y2]=true):HT.gY [x2,y2] [x1,y1]=false:=by
 simp only[HT.gY,HT.lex] at h ⊢;by_cases a:x1=x2
 .rw[w4 a] at h;rw[w4 a.symm];by_cases b:y1=y2
  .rw[w4 b] at h;cases h
  .rw[C5 b] at h;have:=of_decide_eq_true h;rw[C5 (λz=>b z.symm)];exact ab2 (by lia)
 .rw[C5 a] at h;have:=of_decide_eq_true h;rw[C5 (λz=>a z.symm)];exact ab2 (by lia)
def ana (x:Str):x++(Str.ofString "" : Str)=x:=by refine i8 ?_;rw[dF,show (Str.ofString "").l=[] by lk,ad2]
def agA(hv:VP rs v)(hu:VP rs u)(h:v.1<u.1\/v.1=u.1/\v.2<=u.2):jc rs v.1 v.2<=jc rs u.1 u.2:=by rw[i6,i6];exact(FA (xx.mp hv) (xx.mp hu)).mpr h
def LD6(G:Hp)(p:Addr)(k:DK):Prop:=∃lt a b,G p=t0 [.int k.i,.int k.fs.length,.ref lt,.ref a,.ref b,.dj]/\G lt=r6 (k.tk.map V.str)/\G a=r6 (k.rb.map V.str)/\DP G b k.sp
def LU6(G:Hp)(p:Addr)(k:DK):Prop:=∃c d e f lt a b,G p=t0 [.int k.i,.int k.tk.length,.ref c,.ref d,.ref e,.ref f]/\G c=r6 (k.fs.map V.str)/\G d=r6 (k.ra.map V.str)/\DP G e k.sp2/\G f=t0 [.int k.i,.int k.fs.length,.ref lt,.ref a,.ref b]/\G lt=r6 (k.tk.map V.str)/\G a=r6 (k.rb.map V.str)/\DP G b k.sp
def Wl(G G':Hp):Prop:=∀b o,G b=some o->(∀C y fs,o ≠ .ins C y fs)->G' b=some o
def LD6.kp(h:LD6 G p k)(f:Wl G G'):LD6 G' p k:=by obtain⟨lt,e,g,a,b,c,d⟩:=h;exact⟨lt,e,g,f _ _ a (λ_ _ _ y=>by cases y),f _ _ b (λ_ _ _ y=>by cases y),f _ _ c (λ_ _ _ y=>by cases y),d.ig f⟩
def LU6.kp(h:LU6 G p k)(f:Wl G G'):LU6 G' p k:=by obtain⟨n,o,q,r,lt,j,l,a,b,c,d,e,g,h,i⟩:=h;exact⟨n,o,q,r,lt,j,l,f _ _ a (λ_ _ _ y=>by cases y),f _ _ b (λ_ _ _ y=>by cases y),f _ _ c (λ_ _ _ y=>by cases y),d.ig f,f _ _ e (λ_ _ _ y=>by cases y),f _ _ g (λ_ _ _ y=>by cases y),f _ _ h (λ_ _ _ y=>by cases y),i.ig f⟩
def TMs.kp(h:TMs G l ms)(f:Wl G G'):TMs G' l ms:=by obtain⟨g,a,b⟩:=h;refine⟨g,f _ _ a (λ_ _ _ y=>by cases y),b.mono λp m z=>?_⟩;obtain⟨i,j,c,d,e⟩:=z;exact⟨i,j,f _ _ c (λ_ _ _ y=>by cases y),f _ _ d (λ_ _ _ y=>by cases y),e.mono λ_ _ w=>f _ _ w (λ_ _ _ y=>by cases y)⟩
structure X6'(K:W.Frag)(t:eZ)(S:q0)(H:Hp)(sc:Addr)(ns:c9)(x dx tt dt a ld lu lm kd lr dp lD lU:Addr)(ms:List aR)(rs:a9)(sp:List (Str×Nat×Nat))(n:Nat)(ds us:List (eU×DK)):Prop where
 al:aV K (hid S H) sc (ns.map V.int)
 nl:ns.length<=63
 tm:TMs (hid S H) lm ms
 L:Lw6 ms
 s6:S6 t S H x dx tt dt a ld lu ms rs sp n ds us
 ks:S kd/\S lD/\S lU
 kd:H kd=some (aaU lr dp lD lU)
 rs:hid S H lr=r6 (rs.map V.str)
 sp:DP (hid S H) dp sp
 dn:∃ps:c6,H lD=r6 (ps.map V.ref)/\bf (LD6 (hid S H)) ps (ds.map λD=>D.2)
 un:∃ps:c6,H lU=r6 (ps.map V.ref)/\bf (LU6 (hid S H)) ps (us.map λD=>D.2)
 ne:lD≠ld/\lD≠lu/\lU≠ld/\lU≠lu/\lD≠lU
def X6'.ae{kd:Addr}{rs:a9}(zS':X6' K t S H sc ns x dx tt dt a ld lu lm kd lr dp lD lU ms rs sp n ds us)(s:af H H'):X6' K t S H' sc ns x dx tt dt a ld lu lm kd lr dp lD lU ms rs sp n ds us:=by have k:Wl (hid S H) (hid S H'):=λ_ _ e _=>aJ s _ _ e;obtain⟨b,c,d⟩:=zS'.dn;obtain⟨f,g,h⟩:=zS'.un;exact⟨zS'.al.ae (aJ s),zS'.nl,zS'.tm.kp k,zS'.L,zS'.s6.ae s,zS'.ks,s _ _ zS'.kd,aJ s _ _ zS'.rs,zS'.sp.ae (aJ s),⟨b,s _ _ c,d.mono λ_ _ z=>z.kp k⟩,⟨f,s _ _ g,h.mono λ_ _ z=>z.kp k⟩,zS'.ne⟩
structure MvP(rs now fs:a9)(sp:List (Str×Nat×Nat))(w u:Nat×Nat)(z:Str)(g:Nat×Nat->Nat×Nat):Prop where
 vw:VP rs w
 vu:VP rs u
 ord:w.1<=u.1
 le:jc rs w.1 w.2<=jc rs u.1 u.2
 z20:z.length<=20
 mK:∀x:Str,x.l=d9 10 (Zt rs)->PySem.Txt.split (PySem.Txt.slice x none (some (jc rs w.1 w.2:Int))++z++PySem.Txt.slice x (some (jc rs u.1 u.2:Int)) none) (Str.ofString "\n")=now
 pl:∀y∈sp,VP now (g y.2)/\jc now (g y.2).1 (g y.2).2=aac (jc rs y.2.1 y.2.2) (jc rs w.1 w.2) (jc rs u.1 u.2) z.length
 eq:now=rs.take w.1++fs++rs.drop (u.1+1)
def rW(hi:i<=j)(hj:j<=xs.length):b9 xs (some (i:Int)) (some (j:Int))=(xs.drop i).take (j-i):=by rw[b9,HT.nO,HT.nO,ad9 hj,ad9 (by lia)]
def Ge (z:Str):JV z (Str.ofString "\n")=gK z:=by
 have h:=ac7 List.length (nK z);unfold Txt.split at h;have b:Builtin.Str.strKind (Str.ofString "\n")=1:=by lk
 have c:¬Builtin.Str.strKind z<1:=by unfold Builtin.Str.strKind;split <;> (try split) <;> decide
 have d:(Str.ofString "\n").length=1:=by lk
 unfold gK;by_cases f:z.length<1
 .have e:z=⟨#[]⟩:=i8 (ah3.mp (by rw[bV];lia));rw[e];lk
 .rw[C5 (by rw[b,d,Bool.or_eq_true,ac4,ac4];exact λy=>y.elim f c)] at h;by_cases a:(Builtin.Str.occurrences z (Str.ofString "\n") 0 z.length (z.length+1)).isEmpty=true
  .rw[w4 a,al5] at h;show (Builtin.Str.occurrences z (Str.ofString "\n") 0 z.length (z.length+1)).length=_;rw[List.isEmpty_iff.mp a];show 0=_;lia
  .rw[C5 a,length_partsBetween] at h;unfold JV;lia
def Mv(hN:10∉r.l)(hj:j<=r.length):(mK (lM r j z)).length=gK z+1/\∃w,(mK (lM r j z))[gK z]?=some w/\w.length=(if gK z>0 then 0 else j)+sM z+(r.length-j):=by
 have P:=By (R:=r.l) (B:=z.l) (j:=j) hN (by rw[bV];exact hj);rw[<- (qc (x:=r) (z:=z) hj),<- yt,bV,bV] at P;have d:(cu z.l).length=(mK z).length:=by unfold mK;rw[d5]
 rw[d] at P;have a:=P.len;rw[d5] at a;have b:=P.lst;rw[v3] at b;obtain⟨w,f,e⟩:=D1.mp b;exact⟨a,w,f,e⟩
def MvQ(t:eZ)(S:q0)(H:Hp)(x dx tt dt a ld lu:Addr)(ms:List aR)(rs:a9)(sp:List (Str×Nat×Nat))(n:Nat)(ds us:List (eU×DK))(w u:Nat×Nat)(z:Str)(Q:VK):Prop :=
 ∀h d D f c fs g i e,MvP rs c fs sp w u z g->S6 t h f x dx tt dt a ld d ms c (sp.map λy=>(y.1,g y.2)) (n+1) (ds++[(D,⟨w.1,(rs.drop w.1).take (u.1+1-w.1),fs,sp,[],rs,c⟩)]) []->Kp S h H f->KpR H f ld lu->H d=none->(∀b,S b->h b)->H D.dd=none->Chain ms [0] rs i->Chain ms [0] c e ->
  Q (.int (uH i e ((rs.drop w.1).take (u.1+1-w.1)) fs w.1:Nat)) f
def S6.put(A:Lw6 ms)(L:S6 t S H x dx tt dt a ld lu ms rs sp n ds us)(hn:n<12)(hv:VP rs v)(hz:abg z)(h20:z.length<=20)(q:MvQ t S H x dx tt dt a ld lu ms rs sp n ds us v v z Q):UN t [.ref x,.int v.1,.int v.2,.str z] H Q E:=by
 obtain⟨d,R,T⟩:=L.ob;obtain⟨lg,gs,I,U,p⟩:=L.ti;obtain⟨sx,sl,su,sd⟩:=L.sx;obtain⟨r,b,e⟩:∃r,rs[v.1]?=some r/\v.2<=r.length:=hv;have W:=(d6.mp b).1;obtain⟨i,j⟩:=v;dsimp only at b e W q;have g:=L.rw.bb (show n<=12 by lia);obtain⟨ql1,ql2⟩:=L.rw.all (show n<=12 by lia);have J:=L.rw.put b e hz;obtain⟨rl1,rl2⟩:=J.all (by lia);obtain⟨s,u⟩:=A.chain J (by lia);obtain⟨fs,f⟩:∃fs,fs=mK (lM r j z):=⟨_,rfl⟩
 have w:(rs.drop i).take (i+1-i)=[r]:=by rw[show i+1-i=1 by lia];exact A2 b
 have c:fG rs i j r z=rs.take i++fs++rs.drop (i+[r].length):=by rw[f];rfl
 have l:i+[r].length<=rs.length:=W;have K:(rs.drop i).take [r].length=[r]:=A2 b;have lG:=p.len;have lG':=u.len;have M:(fG rs i j r z).length=i+fs.length+(rs.length-(i+[r].length)):=by rw[c,i5,i5,v6,B2];lia
 obtain⟨ah,bk,Gm,cc,hC,B⟩:=xm (tk:=[r]) (fs:=fs) p l K (c▸u);obtain⟨G,hG,o⟩:∃G,I[i]?=some G/\G.bb=r:=by
  have h:=b;conv at h=>lhs;lhs;rw[<- p.rows]
  rw[v3] at h;exact D1.mp h
 have C:fs≠[]:=f▸tN _
 have X:=L.sk.len;have Y:=L.len;have hrl:=g r (p0 b);have N:fs.length=gK z+1:=f▸(Mv (L.rw.sg.nl r (p0 b)) e).1
 refine⟨S,x,dx,tt,d,ld,lu,dt,a,lg,gs,ms,I,G,sp,ds.map λD=>.ref D.1.dd,i,j,z,fs,ah,bk,Gm,cc,s,rfl,sx,sl,L.ex,R,U,T,L.sk.nd,by lia,by intro y O;obtain⟨ry,F,hyv⟩:=L.sk.vp y O;have:=g ry (p0 F);have:=(d6.mp F).1;lia,L.dn,by rw[d5];lia,A.fit.good,hG,o▸e,by rw[o];lia,by lia,by rw[o,f];exact nK _,by lia,by lia,by lia,C,hC,λH9 Z=>?_⟩
 have ec:b9 (rs.map V.str) (some (i:Int)) (some ((i:Int)+1))=[r].map V.str:=by rw[show ((i:Int)+1)=((i+1:Nat):Int) from rfl,rW (by lia) (by rw[d5];lia),show i+1-i=1 by lia,<- ad6,<- ac9,A2 b]
 have eg:b9 ((fG rs i j r z).map V.str) (some (i:Int)) (some ((i:Int)+((JV z (Str.ofString "\n"):Int)+1)))=fs.map V.str:=by have h3:=(turn (A:=fs) l K).2.2;rw[<- c] at h3;rw[Ge,show ((i:Int)+((gK z:Int)+1))=((i+fs.length:Nat):Int) by rw[N];lia,rW (by lia) (by rw[d5,M];lia),show i+fs.length-i=fs.length by lia,<- ad6,<- ac9,h3]
 rw[p.rows,u.rows,ec,eg] at Z;obtain⟨S',P,D,L9,kp,kr,f1,f2,f3⟩:=L.done R T U Z u c l K (by simp) C J (L.sk.put b e L.rw.sg.nl);rw[B];have:=q S' P D H9 (fG rs i j r z) fs (λy=>qt y (i,j) z) I s ⟨⟨r,b,e⟩,⟨r,b,e⟩,N0 _,N0 _,h20,λx hx=>aeD b e L.rw.sg.nl hx,λy O=>?_,c⟩ (w▸L9) kp kr f1 f2 f3 p u
 .rw[w] at this;exact this
 .have:=DW (z:=z) b e L.rw.sg.nl (L.sk.vp y O);rw[afM] at this;exact this
def S6.cut            (A:Lw6 ms) (L:S6 t S H x dx tt dt a ld lu ms rs sp n ds us) (hn:n<12) (hv:VP rs v) (hu:VP rs u) (hlx:HT.gY [(v.1:Int),v.2] [(u.1:Int),u.2]=false) (q:MvQ t S H x dx tt dt a ld lu ms rs sp n ds us v u "" Q):Rf t [.ref x,.int v.1,.int v.2,.int u.1,.int u.2] H Q E:=by
 obtain⟨d,o1,o2⟩:=L.ob;obtain⟨lg,gs,W,i1,N⟩:=L.ti;obtain⟨sx,sl,su,sd⟩:=L.sx;have C:=alV hlx;have l:=agA hv hu C;obtain⟨r,e,F⟩:∃r,rs[v.1]?=some r/\v.2<=r.length:=hv;obtain⟨I,c,g⟩:∃r,rs[u.1]?=some r/\u.2<=r.length:=hu;have hi:=(d6.mp e).1;have X:=(d6.mp c).1;obtain⟨i,j⟩:=v;obtain⟨b,J⟩:=u;dsimp only at e F hi q c g X C hlx l;have o:=L.rw.bb (show n<=12 by lia);obtain⟨ql1,ql2⟩:=L.rw.all (show n<=12 by lia);have Y:=L.rw.cut e F c g C;obtain⟨rl1,rl2⟩:=Y.all (by lia);obtain⟨O,P⟩:=A.chain Y (by lia);obtain⟨fs,B⟩:∃fs,fs=[qF r j I J]:=⟨_,rfl⟩
 obtain⟨tk,p⟩:∃tk,tk=(rs.drop i).take (b+1-i):=⟨_,rfl⟩
 have s:tk.length=b+1-i:=by rw[p,v6,B2];lia
 have f:jx rs i j b J r I=rs.take i++fs++rs.drop (i+tk.length):=by rw[B,s,show i+(b+1-i)=b+1 by lia];rfl
 have K:i+tk.length<=rs.length:=by lia
 have Z:(rs.drop i).take tk.length=tk:=s▸p.symm
 have fl1:fs.length=1:=by rw[B];rfl
 have lG:=N.len;have lG':=P.len;have hl':(jx rs i j b J r I).length=i+fs.length+(rs.length-(i+tk.length)):=by rw[f,i5,i5,v6,B2];lia
 obtain⟨ah,bk,Gm,cc,hC,R⟩:=xm (tk:=tk) (fs:=fs) N K Z (f▸P);have T:∀{k z},rs[k]?=some z->∃G:bC,W[k]?=some G/\G.bb=z:=λ{k z} h=>by
  conv at h=>lhs;lhs;rw[<- N.rows]
  rw[v3] at h;exact D1.mp h
 obtain⟨G,hG,M⟩:=T e;obtain⟨G2,hG2,w⟩:=T c;have hne:fs≠[]:=by rw[B];simp
 have hnt:tk≠[]:=λy=>by rw[y] at s;simp at s;lia
 have hspl:=L.sk.len;have hlen:=L.len;have hrl:=o r (p0 e);have hrl2:=o I (p0 c);refine⟨S,x,dx,tt,d,ld,lu,dt,a,lg,gs,ms,W,G,sp,ds.map λD=>.ref D.1.dd,G2,i,j,b,J,ah,bk,Gm,cc,O,rfl,sx,sl,L.ex,o1,i1,o2,L.sk.nd,by lia,by intro y hy;obtain⟨ry,U,hyv⟩:=L.sk.vp y hy;have:=o ry (p0 U);have:=(d6.mp U).1;lia,L.dn,by rw[d5];lia,A.fit.good,hG,M▸F,by rw[M];lia,hG2,w▸g,by rw[w];lia,hlx,by lia,by lia,by lia,by rw[M,w,<- B,show b-i+1=tk.length by lia];exact hC,λH9 D4=>?_⟩
 have ec:b9 (rs.map V.str) (some (i:Int)) (some ((b:Int)+1))=tk.map V.str:=by rw[show ((b:Int)+1)=((b+1:Nat):Int) from rfl,rW (by lia) (by rw[d5];lia),p,ac9,ad6]
 have eg:b9 ((jx rs i j b J r I).map V.str) (some (i:Int)) (some ((i:Int)+1))=fs.map V.str:=by have h3:=(turn (A:=fs) K Z).2.2;rw[<- f] at h3;rw[show ((i:Int)+1)=((i+fs.length:Nat):Int) by rw[fl1];rfl,rW (by lia) (by rw[d5,hl'];lia),show i+fs.length-i=fs.length by lia,<- ad6,<- ac9,h3]
 rw[N.rows,P.rows,ec,eg] at D4;obtain⟨S',lu',D,L9,kp,kr,f1,f2,f3⟩:=L.done o1 o2 i1 D4 P f K Z hnt hne Y (L.sk.cut e F c g C);rw[R];have:=q S' lu' D H9 (jx rs i j b J r I) fs (λy=>oG y (i,j) (b,J)) W O ⟨⟨r,e,F⟩,⟨I,c,g⟩,(by show i<=b;lia),l,by lk,λx C=>by rw[ana];exact aew e F c g L.rw.sg.nl C,λy hy=>?_,by rw[f,s,show i+(b+1-i)=b+1 by lia]⟩ (p▸L9) kp kr f1 f2 f3 N P
 .rw[<- p] at this;exact this
 .have:=CS e F c g C (L.sk.vp y hy);rw[ahT l] at this;exact this
def kp1{a b c d e}:putK (kk a b c d) (.inr "undone") e=kk a b c e:=rfl
def kp2{a b c d e}:putK (kk a b c d) (.inr "rows") e=kk e b c d:=rfl
def kp3{a b c d e}:putK (kk a b c d) (.inr "spots") e=kk a e c d:=rfl
inductive ahW(K:W.Frag)(t:eZ)(vs:q7)(H:Hp)(Q:VK)(_:XK):Prop|mk(S:q0)(sc:Addr)(ns:c9)(k:Int)(x dx tt dt a ld lu lm kd lr dp lD lU:Addr)(ms:List aR)(rs:a9)(sp:List (Str×Nat×Nat))(n:Nat)(ds us:List (eU×DK))(_:vs=[.ref sc,.int k,.ref x,.ref kd,.ref lm])(_:0<=k)(_:k<=60000)(_:n<12)(_:X6' K t S H sc ns x dx tt dt a ld lu lm kd lr dp lD lU ms rs sp n ds us)(_:∀S' H' lu' lr' dp' lU' rs' sp' ds' us',X6' K t S' H' sc ns x dx tt dt a ld lu' lm kd lr' dp' lD lU' ms rs' sp' (n+1) ds' us'->Q (.bl true) H')
def Vb:bE P w K mg ap dJ 11 t.afe t.akc ["_law_script","_law_k","_law_scribe","_law_kept","_law_modes_here"] (ahW K t):=by
 refine T.agX.ok eY λvs H Q E h=>?_;obtain⟨S,sc,ns,k,x,dx,tt,dt,a,ld,lu,lm,F,N,dp,lD,lU,ms,s,sp,n,ds,us,rfl,hk0,hk1,hn,zS',q⟩:=h;room;have hS:aV K H sc (ns.map V.int):=zS'.al.ae aq;have hlr:H N=r6 (s.map V.str):=aq _ _ zS'.rs;have hl:=zS'.nl;obtain⟨q1,q2⟩:=zS'.s6.rw.all (show n<=12 by lia);have hrow:=zS'.s6.rw.bb (show n<=12 by lia);have hr6:∀y∈s,y.length<=1000:=λy hy=>by have:=hrow y hy;lia
 have hne:=zS'.s6.rw.ne;obtain⟨d,ox,_⟩:=zS'.s6.ob;refine ak (b7 5 eY (pV (cS hr) dh aZ (λ_ _=>rfl))) ⟨F,_,rfl,.inl ⟨_,Sum.inr "rows",.inl zS'.kd,rfl,rfl⟩,?_⟩;refine ak (b7 6 eY (aS (xB T) hr.m rfl T.wX T.qo.kp T.qo.b3 .nil aH (ao br (cy bP gX)))) ⟨sc,N,ns,_,s,rfl,hS,hl,hk0,(by lia),hlr,hne,(by lia),hr6,λpf v H1 hv hp fp s1=>?_⟩;refine ak (b7 7 eY jv) (?_);refine ak (b7 8 eY aZ) ?_;show At _ _ _ [ρ sc,ι k,ρ x,ρ F,ρ lm,ρ N,ρ pf,ρ pf,some (.str ""),none,none,none,none,none,none] H1;refine aF (λZ' H'=>∃S' lu' D pf pl w u z r fs g Gs I y10,MvP s r fs sp w u z g/\S6 t S' H' x dx tt dt a ld lu' ms r (sp.map λy=>(y.1,g y.2)) (n+1) (ds++[(D,⟨w.1,(s.drop w.1).take (u.1+1-w.1),fs,sp,[],s,r⟩)]) []/\Kp S S' H H'/\KpR H H' ld lu/\H lu'=none/\(∀b,S b->S' b)/\H D.dd=none/\Chain ms [0] s Gs/\Chain ms [0] r I/\Eh H' pf w/\Eh H' pl u/\Z'=[ρ sc,ι k,ρ x,ρ F,ρ lm,ρ N,ρ pf,ρ pl,τ z,some (.int (uH Gs I ((s.drop w.1).take (u.1+1-w.1)) fs w.1:Nat)),y10,none,none,none,none]) (bq (aA cC (aS (dP T) hr.m rfl T.dR T.cA.kp T.cA.b3 .nil aH (ao br (cy (aK bh bP ai) ai))) ai (aE _)) ay ay) ?_ ?_
 .refine⟨sc,ns,_,_,rfl,hS.ae s1,(by lia),(by lia),(by decide),(by decide),hl,λd1 H2 g0 g1 s2=>⟨rfl,.mk ?_⟩⟩;have s12:=s1.trans s2;refine dM (λh=>by refine ak (b7 8 eY (aS (dC T) hr.m rfl T.aml T.agD.kp T.agD.b2 .nil aH (cy br (aK bh bP ai)))) ⟨sc,ns,_,rfl,hS.ae s12,hl,by lia,by lia,λz H3 hz hz20 s3=>?_⟩;have O:=s12.trans s3;have Y:Eh H3 pf v:=(s2.trans s3) _ _ hp;refine av (b7 9 eY (bw cG T.aN T.E3 (Vs T) hr.m T.yy.b4 .nil aH (ao (aC aO jv ai) (cy (aC aO jv ai) kH)))) ⟨O _ _ ox,rfl,bT.of Y,aB (j:=0) rfl,bT.of Y,aB (j:=1) rfl,?_⟩;unfold qw;show UN t [.ref x,.int (v.1:Int),.int (v.2:Int),.str z] H3 _ _;refine(zS'.s6.ae O).put zS'.L hn hv hz hz20 ?_;intro S' lu' D H' r fs g Gs I M L9 kp kr f1 f2 f3 i2 i3;have kp0:Kp S S' H H':=λb o e n=>kp _ _ (aJ O _ _ e) n;have hpl:=kr _ _ Y (λ_ _ _ y=>by cases y) (λy=>by rw[y] at Y;have:=(zS'.s6.ae O).dn;rw[Y] at this;cases this) (λy=>by rw[y] at Y;have:=(zS'.s6.ae O).un;rw[Y] at this;cases this);exact⟨S',lu',D,pf,pf,v,v,z,r,fs,g,Gs,I,_,M,L9,kp0,(λb o e n h1 h2=>kr _ _ (O _ _ e) n h1 h2),O.free f1,f2,O.free f3,i2,i3,hpl,hpl,rfl⟩) (λh=>?_)
  .refine aF (λZ' H'=>∃l a1 a2 v1 v2,H' l=r6 [.ref a1,.ref a2]/\Eh H' a1 v1/\Eh H' a2 v2/\VP s v1/\VP s v2/\HT.gY [(v1.1:Int),v1.2] [(v2.1:Int),v2.2]=false/\af H2 H'/\Z'=[ρ sc,ι k,ρ x,ρ F,ρ lm,ρ N,ρ pf,ρ pf,some (.str ""),none,ρ l,none,none,none,none]) (b7 10 eY (ez acC T.yW (bQ (bM (cy jv (aS (xB T) hr.m rfl T.wX T.qo.kp T.qo.b3 .nil aH (ao br (cy (aK bh bP ai) gX)))))))) ⟨sc,N,ns,_,s,rfl,hS.ae s12,hl,by lia,by lia,s12 _ _ hlr,hne,by lia,hr6,λp2 u H4 hu hp2 fp2 s4=>⟨sL rfl,λl0 g0=>⟨l0,pf,p2,v.1,v.2,u.1,u.2,rfl,aV.of aa,bT.of (af.ag g0 _ _ (s4 _ _ (s2 _ _ hp))),bT.of (af.ag g0 _ _ hp2),λl g=>?_⟩⟩⟩ ?_
   .have hp4:=s4 _ _ (s2 _ _ hp);by_cases hx:HT.gY [(v.1:Int),v.2] [(u.1:Int),u.2]=true
    .rw[w4 hx];exact⟨l,p2,pf,u,v,aa,af.ag g _ _ (af.ag g0 _ _ hp2),af.ag g _ _ (af.ag g0 _ _ hp4),hu,hv,aib hx,(s4.to g0).to g,rfl⟩
    .rw[C5 hx];exact⟨l,pf,p2,v,u,aa,af.ag g _ _ (af.ag g0 _ _ hp4),af.ag g _ _ (af.ag g0 _ _ hp2),hv,hu,by simpa using hx,(s4.to g0).to g,rfl⟩
   rintro Z' H4 ⟨lp,a1,a2,v1,v2,hlp,ha1,ha2,hv1,hv2,hlex,s4,rfl⟩;refine ak (b7 6 eY (aC aU ly ai)) ⟨aV.of hlp,aB (j:=0) rfl,?_⟩;refine ak (b7 7 eY (aC aU ly ai)) ⟨aV.of hlp,aB (j:=1) rfl,?_⟩;have R:=s12.trans s4;refine av (b7 9 eY (bw cG T.aN T.QT (V0 T) hr.m T.CA.b5 .nil aH (ao (aC aO jv ai) (ao (aC aO jv ai) (cy (aC aO jO ai) (aC aO jO ai)))))) ⟨R _ _ ox,rfl,bT.of ha1,aB (j:=0) rfl,bT.of ha1,aB (j:=1) rfl,bT.of ha2,aB (j:=0) rfl,bT.of ha2,aB (j:=1) rfl,?_⟩;unfold qw;show Rf t [.ref x,.int (v1.1:Int),.int (v1.2:Int),.int (v2.1:Int),.int (v2.2:Int)] H4 _ _;refine(zS'.s6.ae R).cut zS'.L hn hv1 hv2 hlex ?_;intro S' lu' D H' r fs g Gs I M L9 kp kr f1 f2 f3 i2 i3;have kp0:Kp S S' H H':=λb o e n=>kp _ _ (aJ R _ _ e) n;have pk:∀{p:Addr} {v:Nat×Nat},Eh H4 p v->Eh H' p v:=λ{p v} h=>kr _ _ h (λ_ _ _ y=>by cases y) (λy=>by rw[y] at h;have:=(zS'.s6.ae R).dn;rw[h] at this;cases this) (λy=>by rw[y] at h;have:=(zS'.s6.ae R).un;rw[h] at this;cases this);exact⟨S',lu',D,a1,a2,v1,v2,"",r,fs,g,Gs,I,_,M,L9,kp0,(λb o e n h1 h2=>kr _ _ (R _ _ e) n h1 h2),R.free f1,f2,R.free f3,i2,i3,pk ha1,pk ha2,rfl⟩
 rintro Z' H5 ⟨S',lu',D,Z,pl,w',u,z,r,fs,g,Gs,I,y10,M,L9,kp,kr,f1,f2,f3,i2,i3,hpf,hpl,rfl⟩;have ni:∀{b:Addr} {o u:HO} {G:Hp},G b=some o->G b=some u->o=u:=λh g=>aa1 (h.symm.trans g);have kdx:H5 F=some (aaU N dp lD lU):=kr _ _ zS'.kd (λ_ _ _ y=>by cases y) (λy=>by have:=zS'.kd;rw[y,zS'.s6.dn] at this;cases this) (λy=>by have:=zS'.kd;rw[y,zS'.s6.un] at this;cases this);have hlr5:=kp _ _ zS'.rs (λ_ _ _ y=>by cases y);have hdp5:DP (hid S' H5) dp sp:=zS'.sp.ig kp;obtain⟨pD,hlD,aD'⟩:=zS'.dn;have hlD5:=kr _ _ hlD (λ_ _ _ y=>by cases y) zS'.ne.1 zS'.ne.2.1;have hspl:=zS'.s6.sk.len;obtain⟨q3,q4⟩:=L9.rw.all (show n+1<=12 by lia);have hmo:=M.ord;have h20:=M.z20;obtain⟨ru,hru,_⟩:=M.vu;have hu1:=(d6.mp hru).1;have hpD:pD.length<=12:=by have:=aD'.1;rw[d5] at this;have:=zS'.s6.len;lia
 have hnl:r.length=w'.1+fs.length+(s.length-(u.1+1)):=by rw[M.eq,i5,i5,v6,B2];lia
 refine ak (jo (aS (el T) hr.m rfl T.alq T.ahO.kp T.ahO.b5 .nil aH (ao gX (ao (pV (cS hr) dh aZ (λ_ _=>rfl)) (ao jv (cy jO kH))))) (iK rfl (bF (jb 11 eY) (bF (jb 12 eY) fU)))) ⟨F,_,rfl,.inl ⟨_,Sum.inr "spots",.inl kdx,rfl,rfl⟩,N,dp,Z,pl,s,r,sp,w',u,z,g,rfl,aq _ _ hlr5,hdp5.ae aq,hpf,hpl,zS'.s6.sk.nd,by lia,M.vw,M.vu,zS'.s6.sk.vp,by lia,by lia,by lia,by lia,by lia,hne,M.mK,M.le,M.pl,λtp ln df H6 h1 h2 h3 f4 f5 s6=>⟨tp,_,rfl,bT.of h1,rfl,_,_,rfl,_,_,rfl,rfl,?_⟩⟩;have J:Eh H6 Z w':=s6 _ _ hpf;have hpl6:Eh H6 pl u:=s6 _ _ hpl;refine ak (b7 13 eY (aK cQ (aK bh (aC aO jO ai) ai) (aC aO jv ai))) ⟨bT.of hpl6,aB (j:=0) rfl,bT.of J,aB (j:=0) rfl,.mk ?_⟩;show At _ _ _ [ρ sc,ι k,ρ x,ρ F,ρ lm,ρ N,ρ Z,ρ pl,τ z,some (.int (uH Gs I ((s.drop w'.1).take (u.1+1-w'.1)) fs w'.1:Nat)),y10,ρ ln,ρ df,ι ((u.1:Int)+1-(w'.1:Int)),none] H6;rw[show ((u.1:Int)+1-(w'.1:Int))=((u.1+1-w'.1:Nat):Int) by lia];refine ak (b7 14 eY (bS cZ kU (bO (aC aO jv ai)) (bO (aK cQ (aK bh (aK bh (aC aO jv ai) (pv 13)) (ez aD T.bD (bQ kU))) (ez aD T.bD (bQ gX)))))) ⟨bT.of J,aB (j:=0) rfl,bT.of J,aB (j:=0) rfl,_,_,rfl,.inl (aV.of h2),_,_,rfl,.inl (aV.of (s6 _ _ (aq _ _ hlr5))),aV.of h2,λlf gf=>?_⟩;have sF':af H6 (ag H6 lf (.lst (b9 (r.map V.str) (some (w'.1:Int)) (some ((w'.1:Int)+((u.1+1-w'.1:Nat):Int)+((r.map V.str).length:Int)-((s.map V.str).length:Int)))))):=af.ag gf;have eF':ag H6 lf (.lst (b9 (r.map V.str) (some (w'.1:Int)) (some ((w'.1:Int)+((u.1+1-w'.1:Nat):Int)+((r.map V.str).length:Int)-((s.map V.str).length:Int))))) lf=r6 (fs.map V.str):=by rw[aa,d5,d5,show ((w'.1:Int)+((u.1+1-w'.1:Nat):Int)+(r.length:Int)-(s.length:Int))=((w'.1+fs.length:Nat):Int) by lia,rW (by lia) (by rw[d5];lia),show w'.1+fs.length-w'.1=fs.length by lia,<- ad6,<- ac9];have h3:=GO (A:=s.take w'.1) (B:=fs) (Z:=s.drop (u.1+1));rw[<- M.eq,v6,ad9 (by lia)] at h3;rw[h3]
 show At _ _ _ [ρ sc,ι k,ρ x,ρ F,ρ lm,ρ N,ρ Z,ρ pl,τ z,some (.int (uH Gs I ((s.drop w'.1).take (u.1+1-w'.1)) fs w'.1:Nat)),y10,ρ ln,ρ df,ι ((u.1+1-w'.1:Nat):Int),ρ lf] (ag H6 lf (.lst (b9 (r.map V.str) (some (w'.1:Int)) (some ((w'.1:Int)+((u.1+1-w'.1:Nat):Int)+((r.map V.str).length:Int)-((s.map V.str).length:Int))))));generalize ag H6 lf (.lst (b9 (r.map V.str) (some (w'.1:Int)) (some ((w'.1:Int)+((u.1+1-w'.1:Nat):Int)+((r.map V.str).length:Int)-((s.map V.str).length:Int)))))=H7 at sF' eF';have s57:=s6.trans sF';have kd7:=s57 _ _ kdx;have hlr7:=s57 _ _ (aq _ _ hlr5);have hlD7:=s57 _ _ hlD5;have hpf7:Eh H7 Z w':=sF' _ _ J;have hpl7:Eh H7 pl u:=sF' _ _ hpl6;refine ak (aY (cV Z4 aa0 aa3 bW (pV (cS hr) dh aZ (λ_ _=>rfl)) (bQ (bG (ao (aC aO jv ai) (ao (ez aD T.bD (bQ (pv 14))) (ao (bS cZ gX (bO (aC aO jv ai)) (bO (aK bh (aC aO jO ai) ai))) (ao gX (cy (pV (cS hr) dh aZ (λ_ _=>rfl)) cR))))))))) ⟨F,_,rfl,.inl ⟨_,Sum.inr "done",.inl kd7,rfl,rfl⟩,.inl ⟨rfl,_,aV.of hlD7⟩,bT.of hpf7,aB (j:=0) rfl,_,_,rfl,.inl (aV.of eF'),bT.of hpf7,aB (j:=0) rfl,bT.of hpl7,aB (j:=0) rfl,aV.of hlr7,λlt gt=>?_⟩;have sT:af H7 (ag H7 lt (.lst (b9 (s.map V.str) (some (w'.1:Int)) (some ((u.1:Int)+1))))):=af.ag gt;have eT:ag H7 lt (.lst (b9 (s.map V.str) (some (w'.1:Int)) (some ((u.1:Int)+1)))) lt=r6 (((s.drop w'.1).take (u.1+1-w'.1)).map V.str):=by rw[aa,show ((u.1:Int)+1)=((u.1+1:Nat):Int) from rfl,rW (by lia) (by rw[d5];lia),ac9,ad6]
 have flt5:H5 lt=none:=s57.free gt;refine⟨F,_,rfl,.inl ⟨_,Sum.inr "spots",.inl (sT _ _ kd7),rfl,rfl⟩,sL rfl,λp gp=>?_⟩;rw[d5];have sP:af H7 (ag (ag H7 lt (.lst (b9 (s.map V.str) (some (w'.1:Int)) (some ((u.1:Int)+1))))) p (.tup [.int w'.1,.int fs.length,.ref lt,.ref N,.ref dp,.dj])):=sT.to gp;have eP:ag (ag H7 lt (.lst (b9 (s.map V.str) (some (w'.1:Int)) (some ((u.1:Int)+1))))) p (.tup [.int w'.1,.int fs.length,.ref lt,.ref N,.ref dp,.dj]) p=t0 [.int w'.1,.int fs.length,.ref lt,.ref N,.ref dp,.dj]:=aa;have eT:=af.ag gp (o:=(.tup [.int w'.1,.int fs.length,.ref lt,.ref N,.ref dp,.dj])) _ _ eT;have fp5:H5 p=none:=(s57.trans sT).free gp;refine⟨sP _ _ hlD7,cL (by rw[d5];lia),?_⟩;show At _ _ _ [ρ sc,ι k,ρ x,ρ F,ρ lm,ρ N,ρ Z,ρ pl,τ z,some (.int (uH Gs I ((s.drop w'.1).take (u.1+1-w'.1)) fs w'.1:Nat)),y10,ρ ln,ρ df,ι ((u.1+1-w'.1:Nat):Int),ρ lf] (ag (ag (ag H7 lt (.lst (b9 (s.map V.str) (some (w'.1:Int)) (some ((u.1:Int)+1))))) p (.tup [.int w'.1,.int fs.length,.ref lt,.ref N,.ref dp,.dj])) lD (.lst (pD.map V.ref++[.ref p])));generalize ag (ag H7 lt (.lst (b9 (s.map V.str) (some (w'.1:Int)) (some ((u.1:Int)+1))))) p (.tup [.int w'.1,.int fs.length,.ref lt,.ref N,.ref dp,.dj])=H8 at sP eP eT;have s58:=s57.trans sP;have U:=s58 _ _ hlD5;have nkD:F≠lD:=λy=>by have h:=s58 _ _ kdx;rw[y,U] at h;cases h
 have L8:=L9.ae s58;obtain⟨d8,ox8,_⟩:=L8.ob;have nD:∀{b:Addr} {o:HO},H8 b=some o->(∀C y fs,o ≠ .ins C y fs)->b≠x/\(∀D'∈ds++[(D,⟨w'.1,(s.drop w'.1).take (u.1+1-w'.1),fs,sp,[],s,r⟩)]++[],D'.1.dd≠b):=λ{b o} e n=>by
  refine⟨λy=>by rw[y,ox8] at e;exact n _ _ _ (aa1 e).symm,λD' hD y=>?_⟩
  .rw[ad2] at hD;obtain⟨v,zz⟩:=L8.dd D' hD;rw[<- y,zz.1] at e;exact n _ _ _ (aa1 e).symm
 have nlu:∀{b:Addr} {o:HO},H b=some o->b≠lu':=λe y=>by rw[y,f1] at e;cases e
 have LA:=L8.laid (o:=.lst (pD.map V.ref++[.ref p])) (f2 _ zS'.ks.2.1) (nD U (λ_ _ _ y=>by cases y)).1 zS'.ne.1 (nlu hlD) (nD U (λ_ _ _ y=>by cases y)).2;have kdA:ag H8 lD (.lst (pD.map V.ref++[.ref p])) F=some (aaU N dp lD lU):=(aj nkD).trans (s58 _ _ kdx);have kpA:∀b o,H8 b=some o->b≠lD->ag H8 lD (.lst (pD.map V.ref++[.ref p])) b=some o:=λb o e n=>(aj n).trans e;have eD:ag H8 lD (.lst (pD.map V.ref++[.ref p])) lD=r6 ((pD++[p]).map V.ref):=by rw[aa,o0];rfl
 have fA:∀{b:Addr},ag H8 lD (.lst (pD.map V.ref++[.ref p])) b=none->H8 b=none:=λ{b} h=>by
  by_cases y:b=lD
  .rw[y,aa] at h;cases h
  .rw[aj y] at h;exact h
 generalize ag H8 lD (.lst (pD.map V.ref++[.ref p]))=HA at LA kdA kpA eD fA;refine ak (pS (cS hr) dh aZ (bM bu) rfl) ⟨sL rfl,λlU' gU=>⟨F,_,rfl,xA.k (k:=Sum.inr "undone") (af.ag gU _ _ kdA) (by show 4<sizeLine;decide),?_⟩⟩;rw[kp1];refine ak (pS (cS hr) dh aZ kU rfl) ⟨F,_,rfl,xA.k (k:=Sum.inr "rows") aa (by show 4<sizeLine;decide),?_⟩;rw[kp2];refine ak (pS (cS hr) dh aZ (pv 12) rfl) ⟨F,_,rfl,xA.k (k:=Sum.inr "spots") aa (by show 4<sizeLine;decide),?_⟩;rw[kp3,fV,fV];have kd8:=s58 _ _ kdx;have nkl:F≠ld:=λy=>by have h:=zS'.kd;rw[y,zS'.s6.dn] at h;cases h
 obtain⟨LB,sB⟩:=LA.hide (af.ag gU) gU (o:=.lst []) aa;have LE:=LB.laid (b:=F) (o:=aaU ln df lD lU') (.inl (f2 _ zS'.ks.1)) (nD kd8 (λ_ _ _ y=>by cases y)).1 nkl (nlu zS'.kd) (nD kd8 (λ_ _ _ y=>by cases y)).2;have W:=fA gU;have nkU:F≠lU':=λy=>by rw[<- y,kd8] at W;cases W
 have nDU:lD≠lU':=λy=>by rw[<- y,U] at W;cases W
 have up:∀b o,H8 b=some o->b≠lD->b≠F->ag (ag HA lU' (.lst [])) F (aaU ln df lD lU') b=some o:=λb o e h1 h2=>(aj h2).trans (af.ag gU _ _ (kpA _ _ e h1));have eKd:ag (ag HA lU' (.lst [])) F (aaU ln df lD lU') F=some (aaU ln df lD lU'):=aa;have eLU:ag (ag HA lU' (.lst [])) F (aaU ln df lD lU') lU'=r6 []:=(aj (aa4 nkU)).trans aa;have eLD:ag (ag HA lU' (.lst [])) F (aaU ln df lD lU') lD=r6 ((pD++[p]).map V.ref):=(aj (aa4 nkD)).trans (af.ag gU _ _ eD);generalize ag (ag HA lU' (.lst [])) F (aaU ln df lD lU')=HE at LE up eKd eLU eLD;have kE':Wl (hid S' H5) (hid (λc=>S' c\/c=lU') HE):=λb o e _=>by
  have nb:=bI e;have e8:=s58 _ _ (aq _ _ e);refine aT (up b o e8 (λy=>nb (y ▸ f2 _ zS'.ks.2.1)) (λy=>nb (y ▸ f2 _ zS'.ks.1))) ?_;rintro (y|y)
  .exact nb y
  .rw[y,W] at e8;cases e8
 have k0:Wl (hid S H) (hid (λc=>S' c\/c=lU') HE):=λb o e n=>kE' _ _ (kp _ _ e n) n;have nw:∀{b:Addr} {o:HO},H8 b=some o->H5 b=none->hid (λc=>S' c\/c=lU') HE b=some o:=λ{b o} e f=>by
  have nb:=L9.ex.new f;refine aT (up b o e (λy=>nb (y ▸ f2 _ zS'.ks.2.1)) (λy=>nb (y ▸ f2 _ zS'.ks.1))) ?_;rintro (y|y)
  .exact nb y
  .rw[y,W] at e;cases e
 have tE':=(zS'.tm.kp k0).ae aq;have lrE:=k0 _ _ zS'.rs (λ_ _ _ y=>by cases y);have s68:af H6 H8:=sF'.trans sP;have lnE:=nw (s68 _ _ h2) f4;have lfE:=nw (sP _ _ eF') (s6.free gf);have dfE:DP (hid (λc=>S' c\/c=lU') HE) df (sp.map λy=>(y.1,g y.2)):=by obtain⟨pp,c1,c2⟩:=h3;refine⟨pp,c1.len,nw (s68 _ _ c1.ob) f5,?_⟩;refine⟨c1.pl.1,λi b y hb hy=>nw (s68 _ _ (c1.pl.2 i b y hb hy)) (c2 b (p0 hb))⟩
 have X:X6' K t (λc=>S' c\/c=lU') HE sc ns x dx tt dt a ld lu' lm F ln df lD lU' ms r (sp.map λy=>(y.1,g y.2)) (n+1) (ds++[(D,⟨w'.1,(s.drop w'.1).take (u.1+1-w'.1),fs,sp,[],s,r⟩)]) []:=by
  refine⟨Kp.sq (S:=S) (S':=λc=>S' c\/c=lU') k0 zS'.al,hl,zS'.tm.kp k0,zS'.L,LE,⟨.inl (f2 _ zS'.ks.1),.inl (f2 _ zS'.ks.2.1),.inr rfl⟩,eKd,lnE,dfE,⟨pD++[p],eLD,?_⟩,⟨[],eLU,bf.nil⟩,?_⟩
  .rw[o0];exact bf.snoc (aD'.mono λ_ _ z=>z.kp k0) ⟨lt,N,dp,nw eP fp5,nw eT flt5,lrE,zS'.sp.ig k0⟩
  .refine⟨zS'.ne.1,nlu hlD,λy=>?_,λy=>?_,nDU⟩
   .have h:=L8.dn;rw[<- y,W] at h;cases h
   .have h:=L8.un;rw[<- y,W] at h;cases h
 have hpfE:Eh HE Z w':=up _ _ (s68 _ _ J) (λy=>by have h:=s68 _ _ J;rw[y,U] at h;cases h) (λy=>by have h:=s68 _ _ J;rw[y,kd8] at h;cases h);have lfl:fs.length<=500:=by lia
 refine av (aQ (Rh (eW cC l9 (aS (Vk T) hr.m rfl T.adt T.abP.kp T.abP.b5 .nil aH (ao eE (ao gX (ao (aC aO jv ai) (cy (pv 13) (pv 14)))))) (aE _)) (GD (Ka (ez abL T.pP (cy l9 (acv (v:=V.ty "bool") (u:=Value.type "bool") rfl T.adu (by lk) rfl))))))) ⟨bT.of hpfE,aB (j:=0) rfl,lm,N,lf,ms,s,fs,Gs,I,w'.1,u.1+1-w'.1,rfl,tE',zS'.L.fit,aq _ _ lrE,aq _ _ lfE,by lia,by lia,i2,by rw[show w'.1+(u.1+1-w'.1)=u.1+1 by lia,<- M.eq];exact i3,by lia,λHF' sF'=>?_⟩;refine⟨rfl,.mk<|dM (λ_=>?_) (λh=>absurd rfl h)⟩;exact⟨_,_,"bool",_,_,rfl,.inl rfl,.int _,T.aaP,.mk<|q _ _ _ _ _ _ _ _ _ _ (X.ae sF')⟩
def S6.rbk(L:S6 t S H x dx tt dt a ld lu ms rs sp n (ds++[D]) us):ce rs D.2=D.2.rb/\D.2.i+D.2.fs.length<=rs.length/\(rs.drop D.2.i).take D.2.fs.length=D.2.fs/\Rw n D.2.rb:=by have b:=L.pa;rw[o0,ag7] at b;obtain⟨⟨c,d,g,h⟩,e,f,j,l⟩:(D.2.i+D.2.fs.length<=rs.length/\(rs.drop D.2.i).take D.2.fs.length=D.2.fs/\D.2.tk≠[]/\D.2.fs≠[])/\ce rs D.2=D.2.rb/\Rw n D.2.rb/\Sk D.2.rb D.2.sp/\rN n (ds.map λ(D:eU×DK)=>D.2).reverse D.2.rb:=b;exact⟨e,c,d,f⟩
def S6.rfw(L:S6 t S H x dx tt dt a ld lu ms rs sp n ds (us++[D])):aal rs D.2=D.2.ra/\D.2.i+D.2.tk.length<=rs.length/\(rs.drop D.2.i).take D.2.tk.length=D.2.tk/\Rw n D.2.ra/\D.2.rb=rs:=by have b:=L.fu;rw[o0,ag7] at b;obtain⟨⟨c,d,h,j⟩,e,f,g,l,o,p⟩:(D.2.i+D.2.tk.length<=rs.length/\(rs.drop D.2.i).take D.2.tk.length=D.2.tk/\D.2.tk≠[]/\D.2.fs≠[])/\D.2.rb=rs/\aal rs D.2=D.2.ra/\Rw n D.2.ra/\Sk D.2.ra D.2.sp2/\Sk rs D.2.sp/\So n (us.map λ(D:eU×DK)=>D.2).reverse D.2.ra:=b;exact⟨f,c,d,g,e⟩
def acA(l:List α):l=[]\/∃r x,l=r++[x]:=by
 rcases List.eq_nil_or_concat l with h|⟨r,x,h⟩
 .exact .inl h
 .exact .inr ⟨r,x,by rw[h,List.concat_eq_append]⟩
def bf.un{f:α->β->Prop}{ps:List α}{xs:List β}{x:β}(h:bf f ps (xs++[x])):∃ps' p,ps=ps'++[p]/\bf f ps' xs/\f p x:=by
 have hl:=h.1;rw[i5] at hl;have hl:ps.length=xs.length+1:=hl;rcases al3 ps with rfl|⟨ps',p,rfl⟩
 .simp at hl
 rw[al2] at hl h ⊢;rw[i5] at hl;have hl:ps'.length=xs.length:=Nat.succ.inj hl;refine⟨ps',p,rfl,⟨hl,λk q y a b=>h.2 k q y (by rw[aa2 (d6.mp a).1];exact a) (by rw[aa2 (d6.mp b).1];exact b)⟩,h.2 xs.length p x (by rw[<- hl,U2 (N0 _),aj6];rfl) (by rw[U2 (N0 _),aj6];rfl)⟩
inductive aiK(K:W.Frag)(t:eZ)(vs:q7)(H:Hp)(Q:VK)(_:XK):Prop|mk(S:q0)(sc:Addr)(ns:c9)(x dx tt dt a ld lu lm kd lr dp lD lU:Addr)(ms:List aR)(rs:a9)(sp:List (Str×Nat×Nat))(n:Nat)(ds us:List (eU×DK))(b:Bool)(_:vs=[.ref x,.ref kd,.ref lm,.bl b])(_:n<=12)(_:X6' K t S H sc ns x dx tt dt a ld lu lm kd lr dp lD lU ms rs sp n ds us)(_:∀H' lr' dp' rs' sp' ds' us',X6' K t S H' sc ns x dx tt dt a ld lu lm kd lr' dp' lD lU ms rs' sp' n ds' us'->Q (.bl true) H')
def wV(C:Addr)(H:Hp):XK:=λb c a=>∃e,b = .ref C/\c=some e/\af H a/\a e=some (jQ e C none)
def Vx:bE P w K mg ap dJ 11 t.GP t.PJ ["_law_scribe","_law_kept","_law_modes_here","_law_is_undo"] (aiK K t):=by
 refine T.FI.ok fS λvs H Q E h=>?_;obtain⟨S,sc,ns,x,dx,tt,dt,a,ld,lu,lm,kd,M,r,lD,lU,ms,J,sp,n,ds,us,b,rfl,hn,c,q⟩:=h;room;obtain⟨d,ox,_⟩:=c.s6.ob;obtain⟨pD,hlD,aD'⟩:=c.dn;obtain⟨pU,hlU,aU'⟩:=c.un;have hlr:=aq _ _ c.rs;obtain⟨q1,q2⟩:=c.s6.rw.all hn;have hlen:=c.s6.len;have lpD:pD.length=ds.length:=by rw[aD'.1,d5]
 have lpU:pU.length=us.length:=by rw[aU'.1,d5]
 cases b with
 |true =>
  refine ak (b7 4 fS (pV (cS hr) bP (dc (gR dh) aZ aZ) (λ_ _=>rfl))) ⟨zA ⟨kd,_,rfl,.inl ⟨_,Sum.inr "done",.inl c.kd,rfl,rfl⟩,?_⟩⟩;refine ak (b7 5 fS (pV (cS hr) bP (dc (gR dh) aZ aZ) (λ_ _=>rfl))) ⟨zA ⟨kd,_,rfl,.inl ⟨_,Sum.inr "undone",.inl c.kd,rfl,rfl⟩,?_⟩⟩;refine ak (b7 6 fS cR) ?_;show At _ _ _ [ρ x,ρ kd,ρ lm,some (.bl true),ρ lD,ρ lU,some .dj,none,none,none,none,none,none,none,none] H;rcases acA ds with rfl|⟨ds0,D,rfl⟩
  .refine aF (λ_ _=>False) (abx rfl rfl rfl T.nE (by decide) T.uQ.at_) ?_ (λ_ _ h=>h.elim);refine⟨λZ' C e N=>Z'=[ρ x,ρ kd,ρ lm,some (.bl true),ρ lD,ρ lU,some .dj,none,none,none,none,none,none,none,none]/\af H N/\N e=some (jQ e C none)/\C=t.dN,λam=>?_,by rintro Z' C e H3 ⟨rfl,s3,he,rfl⟩;have e0:pD=[]:=ad5 lpD;subst e0;exact⟨T.uQ.at_,T.aap,av (aQ (eW cC (ez aD T.bD (bQ eE)) ai (aE _))) ⟨_,_,rfl,.inl (aV.of (s3 _ _ hlD)),rfl,q H3 M r J sp [] us (c.ae s3)⟩⟩⟩
   .have E1:Rz t.dN (wV t.dN H) H:=λe N _ g2 g3=>⟨e,rfl,rfl,g3,g2⟩
    have P1:∀C e N,wV t.dN H (Value.ref C) (some e) N->([ρ x,ρ kd,ρ lm,some (.bl true),ρ lD,ρ lU,some .dj,none,none,none,none,none,none,none,none]:St)=[ρ x,ρ kd,ρ lm,some (.bl true),ρ lD,ρ lU,some .dj,none,none,none,none,none,none,none,none]/\af H N/\N e=some (jQ e C none)/\C=t.dN:=by rintro C e N ⟨e2,z1,z2,h3,h4⟩;cases z1;cases z2;exact⟨rfl,h3,h4,rfl⟩
    exact av (b7 6 fS (dc (gR dh) (vc br T.aN T.Px (rJ T) hr.m T.BQ.b1 .nil) (vc br T.aN T.Q8 (rP T) hr.m T.Cg.b1 .nil))) ⟨zA ⟨ox,rfl,wV t.dN H,nH rfl rfl P1,x,dx,tt,d,ld,lu,rfl,ox,c.s6.dn,E1⟩⟩
  .obtain⟨k1,k2,k3,k4⟩:=c.s6.rbk;rw[o0] at aD';obtain⟨l,p,rfl,aD',lt,R,db,e1,e2,e3,e4⟩:=bf.un aD';refine aF (λZ' N=>∃Gs s,Chain ms [0] J Gs/\Chain ms [0] D.2.rb s/\S6 t S N x dx tt dt a ld lu ms D.2.rb D.2.sp n ds0 (us++[(D.1,{ D.2 with sp2:=sp,ra:=J })])/\Kp S S H N/\KpR H N ld lu/\Z'=[ρ x,ρ kd,ρ lm,some (.bl true),ρ lD,ρ lU,ι (uH Gs s D.2.fs D.2.tk D.2.i:Nat),none,none,none,none,none,none,none,none]) (abx rfl rfl rfl T.nE (by decide) T.uQ.at_) (by refine⟨λ_ _ _ _=>False,λam=>?_,λ_ _ _ _ h=>h.elim⟩;refine av (b7 6 fS (dc (gR dh) (vc br T.aN T.Px ((UZ T).aw (CX:=qX P w)) hr.m T.BQ.b1 .nil) (vc br T.aN T.Q8 ((VC T).aw (CX:=qX P w)) hr.m T.Cg.b1 .nil))) ⟨zA ⟨ox,rfl,(λ_ _ _=>False),nH rfl rfl (λ_ _ _ h=>h.elim),?_⟩⟩;show wF t [.ref x] H _ _;refine c.s6.Zz c.L hn ?_;intro Gs s N c1 c2 L9 kp kr;rw[k1] at c2 L9;exact⟨Gs,s,c1,c2,L9,kp,kr,rfl⟩) ?_
   rintro Z' j ⟨Gs,s,c1,c2,L9,kp,kr,rfl⟩;have O:j kd=some (aaU M r lD lU):=kr _ _ c.kd (λ_ _ _ y=>by cases y) (λy=>by have h:=c.kd;rw[y,c.s6.dn] at h;cases h) (λy=>by have h:=c.kd;rw[y,c.s6.un] at h;cases h);have lD1:=kr _ _ hlD (λ_ _ _ y=>by cases y) c.ne.1 c.ne.2.1;have lU1:=kr _ _ hlU (λ_ _ _ y=>by cases y) c.ne.2.2.1 c.ne.2.2.2.1;have nDU:=c.ne.2.2.2.2;have g1:=kp _ _ e1 (λ_ _ _ y=>by cases y);have g2:=kp _ _ e2 (λ_ _ _ y=>by cases y);have g3:=kp _ _ e3 (λ_ _ _ y=>by cases y);have g4:DP (hid S j) db D.2.sp:=e4.ig kp;have g5:=kp _ _ c.rs (λ_ _ _ y=>by cases y);have g6:DP (hid S j) r sp:=c.sp.ig kp;obtain⟨d1,ox1,_⟩:=L9.ob;have nkD:kd≠lD:=λy=>by rw[y,lD1] at O;cases O
   have nkU:kd≠lU:=λy=>by rw[y,lU1] at O;cases O
   have F:∀{b:Addr} {o:HO},hid S j b=some o->b≠lD/\b≠lU/\b≠kd:=λe=>⟨λy=>bI e (y ▸ c.ks.2.1),λy=>bI e (y ▸ c.ks.2.2),λy=>bI e (y ▸ c.ks.1)⟩
   have nX':∀{b:Addr} {o:HO},j b=some o->(∀C y fs,o ≠ .ins C y fs)->b≠x/\(∀A∈ds0++(us++[(D.1,{ D.2 with sp2:=sp,ra:=J })]),A.1.dd≠b):=λ{b o} e n=>by
    refine⟨λy=>by rw[y,ox1] at e;exact n _ _ _ (aa1 e).symm,λA g y=>?_⟩
    .rcases X1.mp g with g|g
     .obtain⟨v,G⟩:=L9.dd A g;rw[<- y,G.1] at e;exact n _ _ _ (aa1 e).symm
     .obtain⟨v,G,_⟩:=L9.ud A g;rw[<- y,G.1] at e;exact n _ _ _ (aa1 e).symm
   have nkl:kd≠ld:=λy=>by have h:=c.kd;rw[y,c.s6.dn] at h;cases h
   have nku:kd≠lu:=λy=>by have h:=c.kd;rw[y,c.s6.un] at h;cases h
   have hps:l.length<=12:=by have:=lpD;rw[i5,i5] at this;rw[i5] at hlen;have e:[p].length=1:=rfl;have e2:[D].length=1:=rfl;lia
   have hpU:pU.length<=12:=by rw[lpU];lia
   refine ak (bq (aA cC (ez aD T.bD (bQ eE)) ai (aE _)) ay ay) ⟨_,_,rfl,.inl (aV.of lD1),rfl,.mk<|dM (λh=>absurd (V.int.inj h) (by rw[d5,i5];show ¬((l.length+1:Nat):Int)=0;lia)) (λ_=>bg ?_)⟩;have epop:((l++[p]).map V.ref)[((l++[p]).map V.ref).length-1]?=some (V.ref p):=by rw[v3,d5,i5,U2 (by show l.length<=l.length+1-1;lia)];show Option.map V.ref ([p][l.length+1-1-l.length]?)=_;rw[show l.length+1-1-l.length=0 by lia];rfl
   have edl:((l++[p]).map V.ref).dropLast=l.map V.ref:=o0▸List.dropLast_concat
   have p2':ag j lD (.lst ((l++[p]).map V.ref).dropLast) p=_:=(aj (F g1).1).trans (aq _ _ g1);refine ak (jo (qD Z4 aj1 al1 qJ eE) (iK rfl (bF (jb 7 fS) (bF (jb 8 fS) (bF (jb 9 fS) (bF (jb 10 fS) (bF (jb 11 fS) (bF (jb 12 fS) fU)))))))) ⟨.inl ⟨rfl,_,aV.of lD1⟩,lD1,epop,p,_,rfl,bT.of p2',rfl,_,_,rfl,_,_,rfl,_,_,rfl,_,_,rfl,_,_,rfl,_,_,rfl,rfl,?_⟩;rw[edl];have L2:=L9.laid (o:=.lst (l.map V.ref)) c.ks.2.1 (nX' lD1 (λ_ _ _ y=>by cases y)).1 c.ne.1 c.ne.2.1 (nX' lD1 (λ_ _ _ y=>by cases y)).2;have u2:∀b o,j b=some o->b≠lD->ag j lD (.lst (l.map V.ref)) b=some o:=λb o e n=>(aj n).trans e;have lD2:ag j lD (.lst (l.map V.ref)) lD=r6 (l.map V.ref):=aa;have f2:∀{b:Addr},ag j lD (.lst (l.map V.ref)) b=none->j b=none:=λ{b} h=>by
    by_cases y:b=lD
    .rw[y,aa] at h;cases h
    .rw[aj y] at h;exact h
   show At _ _ _ [ρ x,ρ kd,ρ lm,some (.bl true),ρ lD,ρ lU,ι (uH Gs s D.2.fs D.2.tk D.2.i:Nat),ι D.2.i,ι D.2.fs.length,ρ lt,ρ R,ρ db,some .dj,none,none] (ag j lD (.lst (l.map V.ref)));generalize ag j lD (.lst (l.map V.ref))=H2 at L2 u2 lD2 f2;have kd2:=u2 _ _ O nkD;have lU2:=u2 _ _ lU1 (aa4 nDU);have lt2:=u2 _ _ (aq _ _ g2) (F g2).1;have lr2:=u2 _ _ (aq _ _ g5) (F g5).1;refine ak (b7 13 fS (bG (ao jO (ao (ez aD T.bD (bQ l9)) (ao (bS cZ (pV (cS hr) bP aZ (λ_ _=>rfl)) (bO jO) (bO (aK bh jO kH))) (cy (pV (cS hr) bP aZ (λ_ _=>rfl)) (pV (cS hr) bP aZ (λ_ _=>rfl)))))))) ⟨_,_,rfl,.inl (aV.of lt2),kd,_,rfl,.inl ⟨_,Sum.inr "rows",.inl kd2,rfl,rfl⟩,aV.of lr2,λU gg=>?_⟩;have sG':af H2 (ag H2 U (.lst (b9 (J.map V.str) (some (D.2.i:Int)) (some ((D.2.i:Int)+(D.2.fs.length:Int)))))):=af.ag gg;have eG:ag H2 U (.lst (b9 (J.map V.str) (some (D.2.i:Int)) (some ((D.2.i:Int)+(D.2.fs.length:Int))))) U=r6 (D.2.fs.map V.str):=by rw[aa,show ((D.2.i:Int)+(D.2.fs.length:Int))=((D.2.i+D.2.fs.length:Nat):Int) by lia,rW (by lia) (by rw[d5];exact k2),show D.2.i+D.2.fs.length-D.2.i=D.2.fs.length by lia,<- ad6,<- ac9,k3]
   refine⟨kd,_,rfl,.inl ⟨_,Sum.inr "rows",.inl (sG' _ _ kd2),rfl,rfl⟩,kd,_,rfl,.inl ⟨_,Sum.inr "spots",.inl (sG' _ _ kd2),rfl,rfl⟩,sL rfl,λt1 gt1=>?_⟩;rw[d5];show At _ _ _ [ρ x,ρ kd,ρ lm,some (.bl true),ρ lD,ρ lU,ι (uH Gs s D.2.fs D.2.tk D.2.i:Nat),ι D.2.i,ι D.2.fs.length,ρ lt,ρ R,ρ db,some .dj,ρ t1,none] (ag (ag H2 U (.lst (b9 (J.map V.str) (some (D.2.i:Int)) (some ((D.2.i:Int)+(D.2.fs.length:Int)))))) t1 (.tup [.int D.2.i,.int D.2.tk.length,.ref U,.ref M,.ref r]));have sA:af H2 (ag (ag H2 U (.lst (b9 (J.map V.str) (some (D.2.i:Int)) (some ((D.2.i:Int)+(D.2.fs.length:Int)))))) t1 (.tup [.int D.2.i,.int D.2.tk.length,.ref U,.ref M,.ref r])):=sG'.to gt1;have eG3:=af.ag gt1 (o:=(.tup [.int D.2.i,.int D.2.tk.length,.ref U,.ref M,.ref r])) _ _ eG;have eT3:ag (ag H2 U (.lst (b9 (J.map V.str) (some (D.2.i:Int)) (some ((D.2.i:Int)+(D.2.fs.length:Int)))))) t1 (.tup [.int D.2.i,.int D.2.tk.length,.ref U,.ref M,.ref r]) t1=t0 [.int D.2.i,.int D.2.tk.length,.ref U,.ref M,.ref r]:=aa;generalize ag (ag H2 U (.lst (b9 (J.map V.str) (some (D.2.i:Int)) (some ((D.2.i:Int)+(D.2.fs.length:Int)))))) t1 (.tup [.int D.2.i,.int D.2.tk.length,.ref U,.ref M,.ref r])=H3 at sA eG3 eT3;have lU3:=sA _ _ lU2;refine ak (aY (cV Z4 aa0 aa3 bW gX (bQ (dc (gR dh) (aK Lb (pv 13) (bG (bQ (bG (ao jO (ao kH (ao l9 (cy ly kU)))))))) (aK Lb (pv 12) (bG (bQ cR))))))) ⟨.inl ⟨rfl,_,aV.of lU3⟩,.mk<|zA ⟨sL rfl,λW gp2=>⟨sL rfl,λt3 gt3=>⟨bT.of (af.ag gt3 _ _ (af.ag gp2 _ _ eT3)),bT.of aa,by simp,sL rfl,(λz=>by cases z),λ_ q6 gq6=>?_⟩⟩⟩⟩;have sB:af H3 (ag (ag (ag H3 W (.tup [.int D.2.i,.int D.2.fs.length,.ref lt,.ref R,.ref db])) t3 (.tup [.ref W])) q6 (.tup [.int D.2.i,.int D.2.tk.length,.ref U,.ref M,.ref r,.ref W])):=((af.ag gp2).to gt3).to gq6;have eP:(ag (ag (ag H3 W (.tup [.int D.2.i,.int D.2.fs.length,.ref lt,.ref R,.ref db])) t3 (.tup [.ref W])) q6 (.tup [.int D.2.i,.int D.2.tk.length,.ref U,.ref M,.ref r,.ref W])) W=t0 [.int D.2.i,.int D.2.fs.length,.ref lt,.ref R,.ref db]:=af.ag gq6 _ _ (af.ag gt3 _ _ aa);have eQ:(ag (ag (ag H3 W (.tup [.int D.2.i,.int D.2.fs.length,.ref lt,.ref R,.ref db])) t3 (.tup [.ref W])) q6 (.tup [.int D.2.i,.int D.2.tk.length,.ref U,.ref M,.ref r,.ref W])) q6=t0 [.int D.2.i,.int D.2.tk.length,.ref U,.ref M,.ref r,.ref W]:=aa;refine⟨sB _ _ lU3,cL (by rw[d5];lia),?_⟩;show At _ _ _ [ρ x,ρ kd,ρ lm,some (.bl true),ρ lD,ρ lU,ι (uH Gs s D.2.fs D.2.tk D.2.i:Nat),ι D.2.i,ι D.2.fs.length,ρ lt,ρ R,ρ db,some .dj,ρ t1,none] (ag (ag (ag (ag H3 W (.tup [.int D.2.i,.int D.2.fs.length,.ref lt,.ref R,.ref db])) t3 (.tup [.ref W])) q6 (.tup [.int D.2.i,.int D.2.tk.length,.ref U,.ref M,.ref r,.ref W])) lU (.lst (pU.map V.ref++[.ref q6])));have fp2:j W=none:=f2 (sA.free gp2);have fq6:j q6=none:=f2 (sA.free (((af.ag gp2).to gt3).free gq6));have flg:j U=none:=f2 gg;generalize (ag (ag (ag H3 W (.tup [.int D.2.i,.int D.2.fs.length,.ref lt,.ref R,.ref db])) t3 (.tup [.ref W])) q6 (.tup [.int D.2.i,.int D.2.tk.length,.ref U,.ref M,.ref r,.ref W]))=H4 at sB eP eQ;have s24:=sA.trans sB;have lU4:=s24 _ _ lU2;have L4:=L2.ae s24;have n4:∀{b:Addr} {o:HO},H4 b=some o->(∀C y fs,o ≠ .ins C y fs)->b≠x/\(∀A∈ds0++(us++[(D.1,{ D.2 with sp2:=sp,ra:=J })]),A.1.dd≠b):=λ{b o} e n=>by
    obtain⟨d4,Y,_⟩:=L4.ob;refine⟨λy=>by rw[y,Y] at e;exact n _ _ _ (aa1 e).symm,λA g y=>?_⟩
    .rcases X1.mp g with g|g
     .obtain⟨v,G⟩:=L4.dd A g;rw[<- y,G.1] at e;exact n _ _ _ (aa1 e).symm
     .obtain⟨v,G,_⟩:=L4.ud A g;rw[<- y,G.1] at e;exact n _ _ _ (aa1 e).symm
   have L5:=L4.laid (o:=.lst (pU.map V.ref++[.ref q6])) c.ks.2.2 (n4 lU4 (λ_ _ _ y=>by cases y)).1 c.ne.2.2.1 c.ne.2.2.2.1 (n4 lU4 (λ_ _ _ y=>by cases y)).2;have u5:∀b o,H4 b=some o->b≠lU->ag H4 lU (.lst (pU.map V.ref++[.ref q6])) b=some o:=λb o e n=>(aj n).trans e;have lU5:ag H4 lU (.lst (pU.map V.ref++[.ref q6])) lU=r6 ((pU++[q6]).map V.ref):=by rw[aa,o0];rfl
   generalize ag H4 lU (.lst (pU.map V.ref++[.ref q6]))=H5 at L5 u5 lU5;have Z:∀b o,j b=some o->b≠lD->b≠lU->H5 b=some o:=λb o e h1 h2=>u5 _ _ (s24 _ _ (u2 _ _ e h1)) h2;have kd5:=Z _ _ O nkD nkU;have lD5:=u5 _ _ (s24 _ _ lD2) nDU;have lr5:=Z _ _ (aq _ _ g5) (F g5).1 (F g5).2.1;have lt5:=Z _ _ (aq _ _ g2) (F g2).1 (F g2).2.1;have k15:Wl (hid S j) (hid S H5):=λb o e _=>aT (Z _ _ (aq _ _ e) (F e).1 (F e).2.1) (bI e);have tm5:=((c.tm.kp kp).kp k15).ae aq;obtain⟨r1,r2⟩:=k4.all hn;have ltk:D.2.tk.length<=500:=by have h:=ac7 List.length k1;unfold ce at h;rw[i5,i5] at h;lia
   refine ak (b7 14 fS (aS (Vk T) hr.m rfl T.adt T.abP.kp T.abP.b5 .nil aH (ao cG (ao (pV (cS hr) bP aZ (λ_ _=>rfl)) (ao jO (cy kH l9)))))) ⟨kd,_,rfl,.inl ⟨_,Sum.inr "rows",.inl kd5,rfl,rfl⟩,lm,M,lt,ms,J,D.2.tk,Gs,s,D.2.i,D.2.fs.length,rfl,tm5,c.L.fit,lr5,lt5,by lia,by lia,c1,(by rw[show J.take D.2.i++D.2.tk++J.drop (D.2.i+D.2.fs.length)=D.2.rb from k1];exact c2),k2,λH6 s6=>?_⟩;rw[k3];have kd6:=s6 _ _ kd5;refine ak (pS (cS hr) bP aZ ly rfl) ⟨kd,_,rfl,xA.k (k:=Sum.inr "rows") kd6 (by show 4<sizeLine;decide),?_⟩;rw[kp2];obtain⟨pb,b1⟩:=g4;have L6:=L5.ae s6;have n6':∀{b:Addr} {o:HO},H6 b=some o->(∀C y fs,o ≠ .ins C y fs)->b≠x/\(∀A∈ds0++(us++[(D.1,{ D.2 with sp2:=sp,ra:=J })]),A.1.dd≠b):=λ{b o} e n=>by
    obtain⟨d4,Y,_⟩:=L6.ob;refine⟨λy=>by rw[y,Y] at e;exact n _ _ _ (aa1 e).symm,λA g y=>?_⟩
    .rcases X1.mp g with g|g
     .obtain⟨v,G⟩:=L6.dd A g;rw[<- y,G.1] at e;exact n _ _ _ (aa1 e).symm
     .obtain⟨v,G,_⟩:=L6.ud A g;rw[<- y,G.1] at e;exact n _ _ _ (aa1 e).symm
   have L7:=L6.laid (o:=aaU R r lD lU) c.ks.1 (n6' kd6 (λ_ _ _ y=>by cases y)).1 nkl nku (n6' kd6 (λ_ _ _ y=>by cases y)).2;have u17:∀b o,j b=some o->b≠lD->b≠lU->b≠kd->ag H6 kd (aaU R r lD lU) b=some o:=λb o e h1 h2 h3=>(aj h3).trans (s6 _ _ (Z _ _ e h1 h2));have u57:∀b o,H5 b=some o->b≠kd->ag H6 kd (aaU R r lD lU) b=some o:=λb o e h=>(aj h).trans (s6 _ _ e);have kd7:ag H6 kd (aaU R r lD lU) kd=some (aaU R r lD lU):=aa;have f7:∀{b:Addr},ag H6 kd (aaU R r lD lU) b=none->H5 b=none:=λ{b} h=>by
    by_cases y:b=kd
    .rw[y,aa] at h;cases h
    .rw[aj y] at h;exact s6.free h
   have db7:ag H6 kd (aaU R r lD lU) db=some (.dK (bX D.2.sp pb)):=u17 _ _ (aq _ _ b1.ob) (F b1.ob).1 (F b1.ob).2.1 (F b1.ob).2.2;generalize ag H6 kd (aaU R r lD lU)=H7 at L7 u17 u57 kd7 f7 db7;refine ak (pS (cS hr) bP aZ (pO o5 T.qN (bQ kU)) rfl) ⟨db,_,rfl,db7,λdf gf=>⟨kd,_,rfl,xA.k (k:=Sum.inr "spots") (af.ag gf _ _ kd7) (by show 4<sizeLine;decide),?_⟩⟩;rw[kp3];have s8:af H7 (ag H7 df (.dK (bX D.2.sp pb))):=af.ag gf;have e8:ag H7 df (.dK (bX D.2.sp pb)) df=some (.dK (bX D.2.sp pb)):=aa;generalize ag H7 df (.dK (bX D.2.sp pb))=H8 at s8 e8;have ndf:df≠kd:=λy=>by rw[y,kd7] at gf;cases gf
   have fdf:¬S df:=L7.ex.new gf;have L8:=L7.ae s8;have n8':∀{b:Addr} {o:HO},H8 b=some o->(∀C y fs,o ≠ .ins C y fs)->b≠x/\(∀A∈ds0++(us++[(D.1,{ D.2 with sp2:=sp,ra:=J })]),A.1.dd≠b):=λ{b o} e n=>by
    obtain⟨d4,Y,_⟩:=L8.ob;refine⟨λy=>by rw[y,Y] at e;exact n _ _ _ (aa1 e).symm,λA g y=>?_⟩
    .rcases X1.mp g with g|g
     .obtain⟨v,G⟩:=L8.dd A g;rw[<- y,G.1] at e;exact n _ _ _ (aa1 e).symm
     .obtain⟨v,G,_⟩:=L8.ud A g;rw[<- y,G.1] at e;exact n _ _ _ (aa1 e).symm
   have L9':=L8.laid (o:=aaU R df lD lU) c.ks.1 (n8' (s8 _ _ kd7) (λ_ _ _ y=>by cases y)).1 nkl nku (n8' (s8 _ _ kd7) (λ_ _ _ y=>by cases y)).2;have u19:∀b o,j b=some o->b≠lD->b≠lU->b≠kd->ag H8 kd (aaU R df lD lU) b=some o:=λb o e h1 h2 h3=>(aj h3).trans (s8 _ _ (u17 _ _ e h1 h2 h3));have u59:∀b o,H5 b=some o->b≠kd->ag H8 kd (aaU R df lD lU) b=some o:=λb o e h=>(aj h).trans (s8 _ _ (u57 _ _ e h));have kd9:ag H8 kd (aaU R df lD lU) kd=some (aaU R df lD lU):=aa;have df9:ag H8 kd (aaU R df lD lU) df=some (.dK (bX D.2.sp pb)):=(aj ndf).trans e8;generalize ag H8 kd (aaU R df lD lU)=H9 at L9' u19 u59 kd9 df9;have I:Wl (hid S j) (hid S H9):=λb o e _=>aT (u19 _ _ (aq _ _ e) (F e).1 (F e).2.1 (F e).2.2) (bI e);have k09:Wl (hid S H) (hid S H9):=λb o e n=>I _ _ (kp _ _ e n) n;have nw:∀{b:Addr} {o:HO},H4 b=some o->j b=none->hid S H9 b=some o:=λ{b o} e f=>by have nb:=L9.ex.new f;exact aT (u59 _ _ (u5 _ _ e (λy=>nb (y ▸ c.ks.2.2))) (λy=>nb (y ▸ c.ks.1))) nb
   have X:X6' K t S H9 sc ns x dx tt dt a ld lu lm kd R df lD lU ms D.2.rb D.2.sp n ds0 (us++[(D.1,{ D.2 with sp2:=sp,ra:=J })]):=by refine⟨Kp.sq (S:=S) (S':=S) k09 c.al,c.nl,c.tm.kp k09,c.L,L9',c.ks,kd9,I _ _ g3 (λ_ _ _ y=>by cases y),⟨pb,b1.len,aT df9 fdf,b1.pl.mono λ_ _ e=>I _ _ e (λ_ _ _ y=>by cases y)⟩,⟨l,u59 _ _ lD5 (aa4 nkD),aD'.mono λ_ _ z=>z.kp k09⟩,⟨pU++[q6],u59 _ _ lU5 (aa4 nkU),?_⟩,c.ne⟩;rw[o0];exact bf.snoc (aU'.mono λ_ _ z=>z.kp k09) ⟨U,M,r,W,lt,R,db,nw eQ fq6,nw (sB _ _ eG3) flg,I _ _ g5 (λ_ _ _ y=>by cases y),g6.ig I,nw eP fp2,I _ _ g2 (λ_ _ _ y=>by cases y),I _ _ g3 (λ_ _ _ y=>by cases y),(show DP (hid S j) db D.2.sp from ⟨pb,b1⟩).ig I⟩
   refine av (aQ (Rh (eW cC jv (pv 14) (aE _)) (GD (Ka (ez abL T.pP (cy jv (acv (v:=V.ty "bool") (u:=Value.type "bool") rfl T.adu (by lk) rfl))))))) ⟨rfl,.mk<|dM (λ_=>?_) (λh=>absurd rfl h)⟩;exact⟨_,_,"bool",_,_,rfl,.inl rfl,.int _,T.aaP,.mk<|q _ _ _ _ _ _ _ X⟩
 |false =>
  refine ak (b7 4 fS (pV (cS hr) bP (dc (gR dh) aZ aZ) (λ_ _=>rfl))) ⟨mH ⟨kd,_,rfl,.inl ⟨_,Sum.inr "undone",.inl c.kd,rfl,rfl⟩,?_⟩⟩;refine ak (b7 5 fS (pV (cS hr) bP (dc (gR dh) aZ aZ) (λ_ _=>rfl))) ⟨mH ⟨kd,_,rfl,.inl ⟨_,Sum.inr "done",.inl c.kd,rfl,rfl⟩,?_⟩⟩;refine ak (b7 6 fS cR) ?_;show At _ _ _ [ρ x,ρ kd,ρ lm,some (.bl false),ρ lU,ρ lD,some .dj,none,none,none,none,none,none,none,none] H;rcases acA us with rfl|⟨us0,D,rfl⟩
  .refine aF (λ_ _=>False) (abx rfl rfl rfl T.nE (by decide) T.uQ.at_) ?_ (λ_ _ h=>h.elim);refine⟨λZ' C e N=>Z'=[ρ x,ρ kd,ρ lm,some (.bl false),ρ lU,ρ lD,some .dj,none,none,none,none,none,none,none,none]/\af H N/\N e=some (jQ e C none)/\C=t.dN,λam=>?_,by rintro Z' C e H3 ⟨rfl,s3,he,rfl⟩;have e0:pU=[]:=ad5 lpU;subst e0;exact⟨T.uQ.at_,T.aap,av (aQ (eW cC (ez aD T.bD (bQ eE)) ai (aE _))) ⟨_,_,rfl,.inl (aV.of (s3 _ _ hlU)),rfl,q H3 M r J sp ds [] (c.ae s3)⟩⟩⟩
   .have E1:Rz t.dN (wV t.dN H) H:=λe N _ g2 g3=>⟨e,rfl,rfl,g3,g2⟩
    have P1:∀C e N,wV t.dN H (Value.ref C) (some e) N->([ρ x,ρ kd,ρ lm,some (.bl false),ρ lU,ρ lD,some .dj,none,none,none,none,none,none,none,none]:St)=[ρ x,ρ kd,ρ lm,some (.bl false),ρ lU,ρ lD,some .dj,none,none,none,none,none,none,none,none]/\af H N/\N e=some (jQ e C none)/\C=t.dN:=by rintro C e N ⟨e2,z1,z2,h3,h4⟩;cases z1;cases z2;exact⟨rfl,h3,h4,rfl⟩
    exact av (b7 6 fS (dc (gR dh) (vc br T.aN T.Px (rJ T) hr.m T.BQ.b1 .nil) (vc br T.aN T.Q8 (rP T) hr.m T.Cg.b1 .nil))) ⟨mH ⟨ox,rfl,wV t.dN H,nH rfl rfl P1,x,dx,tt,d,ld,lu,rfl,ox,c.s6.un,E1⟩⟩
  .obtain⟨k1,k2,k3,k4,_⟩:=c.s6.rfw;rw[o0] at aU';obtain⟨l,p,rfl,aU',U,B,dpa,W,lt,lrb,dp2,e1,e2,e3,e4,e5,e6,e7,e8⟩:=bf.un aU';refine aF (λZ' N=>∃Gs s,Chain ms [0] J Gs/\Chain ms [0] D.2.ra s/\S6 t S N x dx tt dt a ld lu ms D.2.ra D.2.sp2 n (ds++[D]) us0/\Kp S S H N/\KpR H N ld lu/\Z'=[ρ x,ρ kd,ρ lm,some (.bl false),ρ lU,ρ lD,ι (uH Gs s D.2.tk D.2.fs D.2.i:Nat),none,none,none,none,none,none,none,none]) (abx rfl rfl rfl T.nE (by decide) T.uQ.at_) (by refine⟨λ_ _ _ _=>False,λam=>?_,λ_ _ _ _ h=>h.elim⟩;refine av (b7 6 fS (dc (gR dh) (vc br T.aN T.Px ((UZ T).aw (CX:=qX P w)) hr.m T.BQ.b1 .nil) (vc br T.aN T.Q8 ((VC T).aw (CX:=qX P w)) hr.m T.Cg.b1 .nil))) ⟨mH ⟨ox,rfl,(λ_ _ _=>False),nH rfl rfl (λ_ _ _ h=>h.elim),?_⟩⟩;show wI t [.ref x] H _ _;refine c.s6.ZJ c.L hn ?_;intro Gs s N c1 c2 L9 kp kr;rw[k1] at c2 L9;exact⟨Gs,s,c1,c2,L9,kp,kr,rfl⟩) ?_
   rintro Z' j ⟨Gs,s,c1,c2,L9,kp,kr,rfl⟩;have O:j kd=some (aaU M r lD lU):=kr _ _ c.kd (λ_ _ _ y=>by cases y) (λy=>by have h:=c.kd;rw[y,c.s6.dn] at h;cases h) (λy=>by have h:=c.kd;rw[y,c.s6.un] at h;cases h);have lU1:=kr _ _ hlU (λ_ _ _ y=>by cases y) c.ne.2.2.1 c.ne.2.2.2.1;have lD1:=kr _ _ hlD (λ_ _ _ y=>by cases y) c.ne.1 c.ne.2.1;have nDU:=aa4 c.ne.2.2.2.2;have g1:=kp _ _ e1 (λ_ _ _ y=>by cases y);have g2:=kp _ _ e2 (λ_ _ _ y=>by cases y);have g3:=kp _ _ e3 (λ_ _ _ y=>by cases y);have g4:DP (hid S j) dpa D.2.sp2:=e4.ig kp;have g5:=kp _ _ c.rs (λ_ _ _ y=>by cases y);have g6:DP (hid S j) r sp:=c.sp.ig kp;have g7:=kp _ _ e5 (λ_ _ _ y=>by cases y);have g8':=kp _ _ e6 (λ_ _ _ y=>by cases y);have g9':=kp _ _ e7 (λ_ _ _ y=>by cases y);have g10:DP (hid S j) dp2 D.2.sp:=e8.ig kp;obtain⟨d1,ox1,_⟩:=L9.ob;have nkU:kd≠lU:=λy=>by rw[y,lU1] at O;cases O
   have nkD:kd≠lD:=λy=>by rw[y,lD1] at O;cases O
   have F:∀{b:Addr} {o:HO},hid S j b=some o->b≠lU/\b≠lD/\b≠kd:=λe=>⟨λy=>bI e (y ▸ c.ks.2.2),λy=>bI e (y ▸ c.ks.2.1),λy=>bI e (y ▸ c.ks.1)⟩
   have nX':∀{b:Addr} {o:HO},j b=some o->(∀C y fs,o ≠ .ins C y fs)->b≠x/\(∀A∈(ds++[D])++us0,A.1.dd≠b):=λ{b o} e n=>by
    refine⟨λy=>by rw[y,ox1] at e;exact n _ _ _ (aa1 e).symm,λA g y=>?_⟩
    .rcases X1.mp g with g|g
     .obtain⟨v,G⟩:=L9.dd A g;rw[<- y,G.1] at e;exact n _ _ _ (aa1 e).symm
     .obtain⟨v,G,_⟩:=L9.ud A g;rw[<- y,G.1] at e;exact n _ _ _ (aa1 e).symm
   have nkl:kd≠ld:=λy=>by have h:=c.kd;rw[y,c.s6.dn] at h;cases h
   have nku:kd≠lu:=λy=>by have h:=c.kd;rw[y,c.s6.un] at h;cases h
   have hps:l.length<=12:=by have:=lpU;rw[i5,i5] at this;rw[i5] at hlen;have e:[p].length=1:=rfl;have e2:[D].length=1:=rfl;lia
   have hpD:pD.length<=12:=by rw[lpD];lia
   refine ak (bq (aA cC (ez aD T.bD (bQ eE)) ai (aE _)) ay ay) ⟨_,_,rfl,.inl (aV.of lU1),rfl,.mk<|dM (λh=>absurd (V.int.inj h) (by rw[d5,i5];show ¬((l.length+1:Nat):Int)=0;lia)) (λ_=>bg ?_)⟩;have epop:((l++[p]).map V.ref)[((l++[p]).map V.ref).length-1]?=some (V.ref p):=by rw[v3,d5,i5,U2 (by show l.length<=l.length+1-1;lia)];show Option.map V.ref ([p][l.length+1-1-l.length]?)=_;rw[show l.length+1-1-l.length=0 by lia];rfl
   have edl:((l++[p]).map V.ref).dropLast=l.map V.ref:=o0▸List.dropLast_concat
   have p2':ag j lU (.lst ((l++[p]).map V.ref).dropLast) p=_:=(aj (F g1).1).trans (aq _ _ g1);refine ak (jo (qD Z4 aj1 al1 qJ eE) (iK rfl (bF (jb 7 fS) (bF (jb 8 fS) (bF (jb 9 fS) (bF (jb 10 fS) (bF (jb 11 fS) (bF (jb 12 fS) fU)))))))) ⟨.inl ⟨rfl,_,aV.of lU1⟩,lU1,epop,p,_,rfl,bT.of p2',rfl,_,_,rfl,_,_,rfl,_,_,rfl,_,_,rfl,_,_,rfl,_,_,rfl,rfl,?_⟩;rw[edl];have L2:=L9.laid (o:=.lst (l.map V.ref)) c.ks.2.2 (nX' lU1 (λ_ _ _ y=>by cases y)).1 c.ne.2.2.1 c.ne.2.2.2.1 (nX' lU1 (λ_ _ _ y=>by cases y)).2;have u2:∀b o,j b=some o->b≠lU->ag j lU (.lst (l.map V.ref)) b=some o:=λb o e n=>(aj n).trans e;have lU2:ag j lU (.lst (l.map V.ref)) lU=r6 (l.map V.ref):=aa;have f2:∀{b:Addr},ag j lU (.lst (l.map V.ref)) b=none->j b=none:=λ{b} h=>by
    by_cases y:b=lU
    .rw[y,aa] at h;cases h
    .rw[aj y] at h;exact h
   show At _ _ _ [ρ x,ρ kd,ρ lm,some (.bl false),ρ lU,ρ lD,ι (uH Gs s D.2.tk D.2.fs D.2.i:Nat),ι D.2.i,ι D.2.tk.length,ρ U,ρ B,ρ dpa,ρ W,none,none] (ag j lU (.lst (l.map V.ref)));generalize ag j lU (.lst (l.map V.ref))=H2 at L2 u2 lU2 f2;have kd2:=u2 _ _ O nkU;have lD2:=u2 _ _ lD1 (aa4 nDU);have lg2:=u2 _ _ (aq _ _ g2) (F g2).1;have lr2:=u2 _ _ (aq _ _ g5) (F g5).1;refine ak (b7 13 fS (bG (ao jO (ao (ez aD T.bD (bQ l9)) (ao (bS cZ (pV (cS hr) bP aZ (λ_ _=>rfl)) (bO jO) (bO (aK bh jO kH))) (cy (pV (cS hr) bP aZ (λ_ _=>rfl)) (pV (cS hr) bP aZ (λ_ _=>rfl)))))))) ⟨_,_,rfl,.inl (aV.of lg2),kd,_,rfl,.inl ⟨_,Sum.inr "rows",.inl kd2,rfl,rfl⟩,aV.of lr2,λlh gg=>?_⟩;have sG':af H2 (ag H2 lh (.lst (b9 (J.map V.str) (some (D.2.i:Int)) (some ((D.2.i:Int)+(D.2.tk.length:Int)))))):=af.ag gg;have eG:ag H2 lh (.lst (b9 (J.map V.str) (some (D.2.i:Int)) (some ((D.2.i:Int)+(D.2.tk.length:Int))))) lh=r6 (D.2.tk.map V.str):=by rw[aa,show ((D.2.i:Int)+(D.2.tk.length:Int))=((D.2.i+D.2.tk.length:Nat):Int) by lia,rW (by lia) (by rw[d5];exact k2),show D.2.i+D.2.tk.length-D.2.i=D.2.tk.length by lia,<- ad6,<- ac9,k3]
   refine⟨kd,_,rfl,.inl ⟨_,Sum.inr "rows",.inl (sG' _ _ kd2),rfl,rfl⟩,kd,_,rfl,.inl ⟨_,Sum.inr "spots",.inl (sG' _ _ kd2),rfl,rfl⟩,sL rfl,λt1 gt1=>?_⟩;rw[d5];show At _ _ _ [ρ x,ρ kd,ρ lm,some (.bl false),ρ lU,ρ lD,ι (uH Gs s D.2.tk D.2.fs D.2.i:Nat),ι D.2.i,ι D.2.tk.length,ρ U,ρ B,ρ dpa,ρ W,ρ t1,none] (ag (ag H2 lh (.lst (b9 (J.map V.str) (some (D.2.i:Int)) (some ((D.2.i:Int)+(D.2.tk.length:Int)))))) t1 (.tup [.int D.2.i,.int D.2.fs.length,.ref lh,.ref M,.ref r]));have sA:af H2 (ag (ag H2 lh (.lst (b9 (J.map V.str) (some (D.2.i:Int)) (some ((D.2.i:Int)+(D.2.tk.length:Int)))))) t1 (.tup [.int D.2.i,.int D.2.fs.length,.ref lh,.ref M,.ref r])):=sG'.to gt1;have eG3:=af.ag gt1 (o:=(.tup [.int D.2.i,.int D.2.fs.length,.ref lh,.ref M,.ref r])) _ _ eG;have eT3:ag (ag H2 lh (.lst (b9 (J.map V.str) (some (D.2.i:Int)) (some ((D.2.i:Int)+(D.2.tk.length:Int)))))) t1 (.tup [.int D.2.i,.int D.2.fs.length,.ref lh,.ref M,.ref r]) t1=t0 [.int D.2.i,.int D.2.fs.length,.ref lh,.ref M,.ref r]:=aa;generalize ag (ag H2 lh (.lst (b9 (J.map V.str) (some (D.2.i:Int)) (some ((D.2.i:Int)+(D.2.tk.length:Int)))))) t1 (.tup [.int D.2.i,.int D.2.fs.length,.ref lh,.ref M,.ref r])=H3 at sA eG3 eT3;have lD3:=sA _ _ lD2;have p23:=sA _ _ (u2 _ _ (aq _ _ g7) (F g7).1);refine ak (aY (cV Z4 aa0 aa3 bW gX (bQ (dc (gR dh) (aK Lb (pv 13) (bG (bQ (bG (ao jO (ao kH (ao l9 (cy ly kU)))))))) (aK Lb (pv 12) (bG (bQ cR))))))) ⟨.inl ⟨rfl,_,aV.of lD3⟩,.mk<|mH ⟨sL rfl,λt3 gt3=>⟨bT.of (af.ag gt3 _ _ p23),bT.of aa,by simp,sL rfl,(λz=>by cases z),λ_ q6 gq6=>?_⟩⟩⟩;have sB:af H3 (ag (ag H3 t3 (.tup [.dj])) q6 (.tup [.int D.2.i,.int D.2.fs.length,.ref lt,.ref lrb,.ref dp2,.dj])):=(af.ag gt3).to gq6;have eQ:(ag (ag H3 t3 (.tup [.dj])) q6 (.tup [.int D.2.i,.int D.2.fs.length,.ref lt,.ref lrb,.ref dp2,.dj])) q6=t0 [.int D.2.i,.int D.2.fs.length,.ref lt,.ref lrb,.ref dp2,.dj]:=aa;refine⟨sB _ _ lD3,cL (by rw[d5];lia),?_⟩;show At _ _ _ [ρ x,ρ kd,ρ lm,some (.bl false),ρ lU,ρ lD,ι (uH Gs s D.2.tk D.2.fs D.2.i:Nat),ι D.2.i,ι D.2.tk.length,ρ U,ρ B,ρ dpa,ρ W,ρ t1,none] (ag (ag (ag H3 t3 (.tup [.dj])) q6 (.tup [.int D.2.i,.int D.2.fs.length,.ref lt,.ref lrb,.ref dp2,.dj])) lD (.lst (pD.map V.ref++[.ref q6])));have fq6:j q6=none:=f2 (sA.free ((af.ag gt3).free gq6));generalize (ag (ag H3 t3 (.tup [.dj])) q6 (.tup [.int D.2.i,.int D.2.fs.length,.ref lt,.ref lrb,.ref dp2,.dj]))=H4 at sB eQ;have s24:=sA.trans sB;have lD4:=s24 _ _ lD2;have L4:=L2.ae s24;have n4:∀{b:Addr} {o:HO},H4 b=some o->(∀C y fs,o ≠ .ins C y fs)->b≠x/\(∀A∈(ds++[D])++us0,A.1.dd≠b):=λ{b o} e n=>by
    obtain⟨d4,Y,_⟩:=L4.ob;refine⟨λy=>by rw[y,Y] at e;exact n _ _ _ (aa1 e).symm,λA g y=>?_⟩
    .rcases X1.mp g with g|g
     .obtain⟨v,G⟩:=L4.dd A g;rw[<- y,G.1] at e;exact n _ _ _ (aa1 e).symm
     .obtain⟨v,G,_⟩:=L4.ud A g;rw[<- y,G.1] at e;exact n _ _ _ (aa1 e).symm
   have L5:=L4.laid (o:=.lst (pD.map V.ref++[.ref q6])) c.ks.2.1 (n4 lD4 (λ_ _ _ y=>by cases y)).1 c.ne.1 c.ne.2.1 (n4 lD4 (λ_ _ _ y=>by cases y)).2;have u5:∀b o,H4 b=some o->b≠lD->ag H4 lD (.lst (pD.map V.ref++[.ref q6])) b=some o:=λb o e n=>(aj n).trans e;have lD5:ag H4 lD (.lst (pD.map V.ref++[.ref q6])) lD=r6 ((pD++[q6]).map V.ref):=by rw[aa,o0];rfl
   generalize ag H4 lD (.lst (pD.map V.ref++[.ref q6]))=H5 at L5 u5 lD5;have Z:∀b o,j b=some o->b≠lU->b≠lD->H5 b=some o:=λb o e h1 h2=>u5 _ _ (s24 _ _ (u2 _ _ e h1)) h2;have kd5:=Z _ _ O nkU nkD;have lU5:=u5 _ _ (s24 _ _ lU2) nDU;have lr5:=Z _ _ (aq _ _ g5) (F g5).1 (F g5).2.1;have lg5:=Z _ _ (aq _ _ g2) (F g2).1 (F g2).2.1;have k15:Wl (hid S j) (hid S H5):=λb o e _=>aT (Z _ _ (aq _ _ e) (F e).1 (F e).2.1) (bI e);have tm5:=((c.tm.kp kp).kp k15).ae aq;obtain⟨r1,r2⟩:=k4.all hn;have lfs:D.2.fs.length<=500:=by have h:=ac7 List.length k1;unfold aal at h;rw[i5,i5] at h;lia
   refine ak (b7 14 fS (aS (Vk T) hr.m rfl T.adt T.abP.kp T.abP.b5 .nil aH (ao cG (ao (pV (cS hr) bP aZ (λ_ _=>rfl)) (ao jO (cy kH l9)))))) ⟨kd,_,rfl,.inl ⟨_,Sum.inr "rows",.inl kd5,rfl,rfl⟩,lm,M,U,ms,J,D.2.fs,Gs,s,D.2.i,D.2.tk.length,rfl,tm5,c.L.fit,lr5,lg5,by lia,by lia,c1,(by rw[show J.take D.2.i++D.2.fs++J.drop (D.2.i+D.2.tk.length)=D.2.ra from k1];exact c2),k2,λH6 s6=>?_⟩;rw[k3];have kd6:=s6 _ _ kd5;refine ak (pS (cS hr) bP aZ ly rfl) ⟨kd,_,rfl,xA.k (k:=Sum.inr "rows") kd6 (by show 4<sizeLine;decide),?_⟩;rw[kp2];obtain⟨pb,b1⟩:=g4;have L6:=L5.ae s6;have n6':∀{b:Addr} {o:HO},H6 b=some o->(∀C y fs,o ≠ .ins C y fs)->b≠x/\(∀A∈(ds++[D])++us0,A.1.dd≠b):=λ{b o} e n=>by
    obtain⟨d4,Y,_⟩:=L6.ob;refine⟨λy=>by rw[y,Y] at e;exact n _ _ _ (aa1 e).symm,λA g y=>?_⟩
    .rcases X1.mp g with g|g
     .obtain⟨v,G⟩:=L6.dd A g;rw[<- y,G.1] at e;exact n _ _ _ (aa1 e).symm
     .obtain⟨v,G,_⟩:=L6.ud A g;rw[<- y,G.1] at e;exact n _ _ _ (aa1 e).symm
   have L7:=L6.laid (o:=aaU B r lD lU) c.ks.1 (n6' kd6 (λ_ _ _ y=>by cases y)).1 nkl nku (n6' kd6 (λ_ _ _ y=>by cases y)).2;have u17:∀b o,j b=some o->b≠lU->b≠lD->b≠kd->ag H6 kd (aaU B r lD lU) b=some o:=λb o e h1 h2 h3=>(aj h3).trans (s6 _ _ (Z _ _ e h1 h2));have u57:∀b o,H5 b=some o->b≠kd->ag H6 kd (aaU B r lD lU) b=some o:=λb o e h=>(aj h).trans (s6 _ _ e);have kd7:ag H6 kd (aaU B r lD lU) kd=some (aaU B r lD lU):=aa;have f7:∀{b:Addr},ag H6 kd (aaU B r lD lU) b=none->H5 b=none:=λ{b} h=>by
    by_cases y:b=kd
    .rw[y,aa] at h;cases h
    .rw[aj y] at h;exact s6.free h
   have dpa7:ag H6 kd (aaU B r lD lU) dpa=some (.dK (bX D.2.sp2 pb)):=u17 _ _ (aq _ _ b1.ob) (F b1.ob).1 (F b1.ob).2.1 (F b1.ob).2.2;generalize ag H6 kd (aaU B r lD lU)=H7 at L7 u17 u57 kd7 f7 dpa7;refine ak (pS (cS hr) bP aZ (pO o5 T.qN (bQ kU)) rfl) ⟨dpa,_,rfl,dpa7,λdf gf=>⟨kd,_,rfl,xA.k (k:=Sum.inr "spots") (af.ag gf _ _ kd7) (by show 4<sizeLine;decide),?_⟩⟩;rw[kp3];have s8:af H7 (ag H7 df (.dK (bX D.2.sp2 pb))):=af.ag gf;have e8:ag H7 df (.dK (bX D.2.sp2 pb)) df=some (.dK (bX D.2.sp2 pb)):=aa;generalize ag H7 df (.dK (bX D.2.sp2 pb))=H8 at s8 e8;have ndf:df≠kd:=λy=>by rw[y,kd7] at gf;cases gf
   have fdf:¬S df:=L7.ex.new gf;have L8:=L7.ae s8;have n8':∀{b:Addr} {o:HO},H8 b=some o->(∀C y fs,o ≠ .ins C y fs)->b≠x/\(∀A∈(ds++[D])++us0,A.1.dd≠b):=λ{b o} e n=>by
    obtain⟨d4,Y,_⟩:=L8.ob;refine⟨λy=>by rw[y,Y] at e;exact n _ _ _ (aa1 e).symm,λA g y=>?_⟩
    .rcases X1.mp g with g|g
     .obtain⟨v,G⟩:=L8.dd A g;rw[<- y,G.1] at e;exact n _ _ _ (aa1 e).symm
     .obtain⟨v,G,_⟩:=L8.ud A g;rw[<- y,G.1] at e;exact n _ _ _ (aa1 e).symm
   have L9':=L8.laid (o:=aaU B df lD lU) c.ks.1 (n8' (s8 _ _ kd7) (λ_ _ _ y=>by cases y)).1 nkl nku (n8' (s8 _ _ kd7) (λ_ _ _ y=>by cases y)).2;have u19:∀b o,j b=some o->b≠lU->b≠lD->b≠kd->ag H8 kd (aaU B df lD lU) b=some o:=λb o e h1 h2 h3=>(aj h3).trans (s8 _ _ (u17 _ _ e h1 h2 h3));have u59:∀b o,H5 b=some o->b≠kd->ag H8 kd (aaU B df lD lU) b=some o:=λb o e h=>(aj h).trans (s8 _ _ (u57 _ _ e h));have kd9:ag H8 kd (aaU B df lD lU) kd=some (aaU B df lD lU):=aa;have df9:ag H8 kd (aaU B df lD lU) df=some (.dK (bX D.2.sp2 pb)):=(aj ndf).trans e8;generalize ag H8 kd (aaU B df lD lU)=H9 at L9' u19 u59 kd9 df9;have I:Wl (hid S j) (hid S H9):=λb o e _=>aT (u19 _ _ (aq _ _ e) (F e).1 (F e).2.1 (F e).2.2) (bI e);have k09:Wl (hid S H) (hid S H9):=λb o e n=>I _ _ (kp _ _ e n) n;have nw:∀{b:Addr} {o:HO},H4 b=some o->j b=none->hid S H9 b=some o:=λ{b o} e f=>by have nb:=L9.ex.new f;exact aT (u59 _ _ (u5 _ _ e (λy=>nb (y ▸ c.ks.2.1))) (λy=>nb (y ▸ c.ks.1))) nb
   have X:X6' K t S H9 sc ns x dx tt dt a ld lu lm kd B df lD lU ms D.2.ra D.2.sp2 n (ds++[D]) us0:=by refine⟨Kp.sq (S:=S) (S':=S) k09 c.al,c.nl,c.tm.kp k09,c.L,L9',c.ks,kd9,I _ _ g3 (λ_ _ _ y=>by cases y),⟨pb,b1.len,aT df9 fdf,b1.pl.mono λ_ _ e=>I _ _ e (λ_ _ _ y=>by cases y)⟩,⟨pD++[q6],u59 _ _ lD5 (aa4 nkD),?_⟩,⟨l,u59 _ _ lU5 (aa4 nkU),aU'.mono λ_ _ z=>z.kp k09⟩,c.ne⟩;rw[o0];exact bf.snoc (aD'.mono λ_ _ z=>z.kp k09) ⟨lt,lrb,dp2,nw eQ fq6,I _ _ g8' (λ_ _ _ y=>by cases y),I _ _ g9' (λ_ _ _ y=>by cases y),g10.ig I⟩
   refine av (aQ (Rh (eW cC jv (pv 14) (aE _)) (GD (Ka (ez abL T.pP (cy jv (acv (v:=V.ty "bool") (u:=Value.type "bool") rfl T.adu (by lk) rfl))))))) ⟨rfl,.mk<|dM (λ_=>?_) (λh=>absurd rfl h)⟩;exact⟨_,_,"bool",_,_,rfl,.inl rfl,.int _,T.aaP,.mk<|q _ _ _ _ _ _ _ X⟩
def X6'.later{kd:Addr}{rs:a9}(zS':X6' K t S H sc ns x dx tt dt a ld lu lm kd lr dp lD lU ms rs sp n ds us)(h:n<=m):X6' K t S H sc ns x dx tt dt a ld lu lm kd lr dp lD lU ms rs sp m ds us:=⟨zS'.al,zS'.nl,zS'.tm,zS'.L,zS'.s6.later h,zS'.ks,zS'.kd,zS'.rs,zS'.sp,zS'.dn,zS'.un,zS'.ne⟩
inductive air(K:W.Frag)(t:eZ)(vs:q7)(H:Hp)(Q:VK)(_:XK):Prop|mk(S:q0)(sc:Addr)(ns:c9)(k:Int)(x dx tt dt a ld lu lm kd lr dp lD lU:Addr)(ms:List aR)(rs:a9)(sp:List (Str×Nat×Nat))(n:Nat)(ds us:List (eU×DK))(_:vs=[.ref sc,.int k,.ref x,.ref kd,.ref lm])(_:0<=k)(_:k<=50000)(_:n<12)(_:X6' K t S H sc ns x dx tt dt a ld lu lm kd lr dp lD lU ms rs sp n ds us)(_:∀S' H' lu' lr' dp' lU' rs' sp' ds' us',X6' K t S' H' sc ns x dx tt dt a ld lu' lm kd lr' dp' lD lU' ms rs' sp' (n+1) ds' us'->Q (.bl true) H')
def et:bE P w K mg ap dJ 12 t.agu t.ajI ["_law_script","_law_k","_law_scribe","_law_kept","_law_modes_here"] (air K t):=by
 refine T.ahd.ok du λvs H Q E h=>?_;obtain⟨S,N,ns,k,x,dx,tt,dt,a,ld,lu,lm,kd,lr,dp,lD,Y,ms,rs,u,n,ds,us,rfl,hk0,hk1,hn,f,q⟩:=h;room;have hS:aV K H N (ns.map V.int):=f.al.ae aq;refine aF (λZ' O=>∃I,af H O/\Z'=[ρ N,ι k,ρ x,ρ kd,ρ lm,ι I,none,none,none]) (b7 5 du (aS (dP T) hr.m rfl T.dR T.cA.kp T.cA.b3 .nil aH (ao br (cy bP ai)))) ⟨N,ns,_,_,rfl,hS,(by lia),(by lia),(by decide),(by decide),f.nl,λd1 H1 h0 h1 R=>⟨d1,R,rfl⟩⟩ ?_;rintro Z' H0 ⟨I,s0,rfl⟩;refine aF (λZ' O=>∃nm,nm∈kr/\af H O/\Z'=[ρ N,ι k,ρ x,ρ kd,ρ lm,ι I,τ nm,none,none]) (@lJ _ _ 6 _ _ _ _ du.nd rfl (Or.inl rfl) (aC aU (bM (@j6 _ _ ["a","ab","b"] rfl)) (@aS _ _ _ _ _ _ _ _ _ _ _ _ _ _ _ _ (dP T) hr.m rfl T.dR T.cA.kp T.cA.b3 .nil aH (ao br (ao (@aK _ _ _ _ _ _ _ _ bh bP ai) (ao ai bu (by left)) (by left)) (by left)) (by left) (by left) (by left)) (λ_ _=>rfl)) (by left) (by left)) ?_ ?_
 .refine⟨sL rfl,λl0 g0=>⟨N,ns,_,_,rfl,(hS.ae s0).ae (af.ag g0),(by lia),(by lia),(by decide),(by decide),f.nl,λdv H1 h0 h1 R=>?_⟩⟩;obtain⟨nm,e1,U⟩:=alT h0 h1;exact⟨aV.of (R _ _ aa),U,nm,e1,(s0.to g0).trans R,rfl⟩
 rintro Z' H1 ⟨nm,hnm,R,rfl⟩;clear s0 H0;have zS1:=f.ae R;refine ak (bq (aA fX gX ai (aE _)) ay ay) ⟨.mk<|dM (λh=>by refine av (aQ (aS (Vx T) hr.m rfl T.UP T.FI.kp T.FI.b4 .nil aH (ao cG (ao dh (cy eE (eW fX gX ai (aE _))))))) ⟨?_⟩;exact⟨S,N,ns,x,dx,tt,dt,a,ld,lu,lm,kd,lr,dp,lD,Y,ms,rs,u,n,ds,us,_,rfl,by lia,zS1,λO lr' dp' rs' D ds' us' X=>q S O lu lr' dp' Y rs' D ds' us' (X.later (Nat.le_succ n))⟩) (λh=>bg ?_)⟩
 refine ak (bq (aA fX gX ai (aE _)) ay ay) ⟨.mk<|dM (λh=>by refine av (aQ (aS (Vb T) hr.m rfl T.alF T.agX.kp T.agX.b5 .nil aH (ao br (ao (aK bh bP ai) (ao cG (cy dh eE)))))) (?_);exact⟨S,N,ns,k+2,x,dx,tt,dt,a,ld,lu,lm,kd,lr,dp,lD,Y,ms,rs,u,n,ds,us,rfl,by lia,by lia,hn,zS1,q⟩) (λh=>bg ?_)⟩
 have L:=f.s6;have hlr:=aq _ _ f.rs;obtain⟨ql1,ql2⟩:=L.rw.all (show n<=12 by lia);have hrow:=L.rw.bb (show n<=12 by lia);obtain⟨ps,hd⟩:=f.sp;have hdp:=aq _ _ hd.ob;have h4:=L.sk.len;obtain⟨d,o1,o2⟩:=L.ob;obtain⟨lg,gs,Gs,i1,i2⟩:=L.ti;obtain⟨sx,sl,su,sd⟩:=L.sx;have kd1:=R _ _ f.kd;have hdp1:=R _ _ hdp;refine ak (b7 7 du (pO o5 T.qN (bQ (pV (cS hr) dh aZ (λ_ _=>rfl))))) ⟨kd,_,rfl,.inl ⟨_,Sum.inr "spots",.inl kd1,rfl,rfl⟩,dp,_,rfl,hdp1,λdm gdm=>?_⟩;have s2:af H1 (ag H1 dm (.dK (bX u ps))):=af.ag gdm;have U:ag H1 dm (.dK (bX u ps)) dm=some (.dK (bX u ps)):=aa;have F:H dm=none:=R.free gdm;generalize ag H1 dm (.dK (bX u ps))=H2 at s2 U;have g:=R.trans s2;have W:¬S dm:=L.ex.new F;have ndx:dm≠x:=λz=>by rw[z,o1] at F;cases F
 have nfd:∀{b:Addr} {o:HO},H b=some o->b≠dm:=λe y=>by rw[y,F] at e;cases e
 show At _ _ _ [ρ N,ι k,ρ x,ρ kd,ρ lm,ι I,τ nm,ρ dm,none] H2;refine aF (λZ' O=>∃y8 D,Z'=[ρ N,ι k,ρ x,ρ kd,ρ lm,ι I,τ nm,ρ dm,y8]/\S6 t S O x dx tt dt a ld lu ms rs D n ds us/\DP (hid S O) dm D/\af (hid S H) (hid S O)/\fY H O x) (bq (PW.pt (dX (Al (RK (cS hr) jv jO)) (cX (aA cC gX ai (aE _))))) ay ay) ?_ ?_
 .have gen:∀{A B:TT} {Z:St} {Qf:Bool->Hp->Prop},(∀Qf',(∀c,(c=true->nm∈bU u)->Qf' c H2)->K8 A B Z H2 Qf')->(∀c,(c=true->nm∈bU u)->Qf c H2)->K8 A B Z H2 Qf:=λh k=>h _ k;refine gen (λQf k=>?_) (λc hc=>xM (λhc1=>?_) (λ_=>?_))
  .refine⟨dm,_,rfl,om.k (k:=Sum.inr nm) U,.mk ?_⟩;by_cases hm:nm∈bU u
   .obtain⟨j,y,hj,rfl⟩:=kX hm;obtain⟨pj,ep⟩:∃pj,ps[j]?=some pj:=⟨_,i4 (hd.len▸(d6.mp hj).1)⟩
    rw[kG L.sk.nd hj ep];refine xM (λ_=>?_) (λy=>by cases y);exact⟨rfl,.mk<|k _ (λ_=>hm)⟩
   .rw[r8 hm];exact xM (λy=>by cases y) (λ_=>k _ (λy=>by cases y))
  .have hm:=hc hc1;obtain⟨L3,sh3⟩:=L.hide g F U;refine ak (aY (bw cG T.aN T.XI (UG T) hr.m T.M8.b2 .nil aH (bQ jv))) ⟨g _ _ o1,rfl,λc=>S c\/c=dm,x,dx,tt,d,ld,lu,u,nm,rfl,.inl sx,L3.ex,g _ _ o1,hm,L.sk.nd,o2.ae sh3,λd' H4 g1 g2 g3=>?_⟩;obtain⟨L4,i⟩:=L3.mark g1 g2 g3 L.sk.drop;obtain⟨j,y,hj,rfl⟩:=kX hm;obtain⟨pj,ep⟩:∃pj,ps[j]?=some pj:=⟨_,i4 (hd.len▸(d6.mp hj).1)⟩
   have e4:=g3 _ _ U ndx;refine av (aY (xR jO jv ⟨rfl,rfl,rfl,rfl⟩)) ⟨dm,rfl,.inl ⟨_,.inl e4⟩,_,Sum.inr y.1,_,e4,rfl,kG L.sk.nd hj ep,?_⟩;obtain⟨J,l',k',a'⟩:=xj (n:=y.1) ((hd.ae sh3).ae i).pl;rw[k'];obtain⟨L5,l⟩:=L4.shown W ⟨sx,sl,su,sd⟩ (.dK (bX (jS u y.1) J));exact⟨_,_,rfl,L5,⟨J,l',aT aa W,a'.mono λ_ _ e=>l _ _ e⟩,(sh3.trans i).trans l,λb o e n=>(aj (nfd e)).trans (g3 _ _ (g _ _ e) n)⟩
  .refine ak (b7 8 du (aS (xB T) hr.m rfl T.wX T.qo.kp T.qo.b3 .nil aH (ao br (cy (aK bh bP ai) (pV (cS hr) dh aZ (λ_ _=>rfl)))))) ⟨kd,_,rfl,.inl ⟨_,Sum.inr "rows",.inl (s2 _ _ kd1),rfl,rfl⟩,N,lr,ns,k+2,rs,rfl,hS.ae g,f.nl,by lia,by lia,g _ _ hlr,L.rw.ne,by lia,(λy hy=>by have:=hrow y hy;lia),λpl v H4 hv p fpl s4=>?_⟩;have M:=g.trans s4;obtain⟨L4,i⟩:=L.hide M F (s4 _ _ U);obtain⟨r,hri,hj⟩:=id hv;have hr95:=hrow r (p0 hri);obtain⟨G,hG,hGr⟩:∃G,Gs[v.1]?=some G/\G.bb=r:=by
    have h:=hri;conv at h=>lhs;lhs;rw[<- i2.rows]
    rw[v3] at h;exact D1.mp h
   have p:H4 pl=t0 [aX v.1,aX v.2]:=p;refine ak (aY (bw cG T.aN T.Yd (Wb T) hr.m T.NW.b4 .nil aH (ao jv (cy (aC aO kH ai) (aC aO kH ai))))) ⟨M _ _ o1,rfl,bT.of p,aB (j:=0) rfl,bT.of p,aB (j:=1) rfl,λc=>S c\/c=dm,x,dx,tt,d,ld,lu,dt,a,lg,gs,ms,Gs,G,u,nm,v.1,v.2,rfl,.inl sx,L4.ex,M _ _ o1,afd nm hnm,i1.ae i,hG,hGr▸hj,by rw[hGr];lia,o2.ae i,by lia,λd' H5 g1 g2 g3=>?_⟩;obtain⟨L5,l⟩:=L4.mark g1 g2 g3 (L.sk.set hnm hv);have e5:=g3 _ _ (s4 _ _ U) ndx;have npl:pl≠dm:=bL p (s4 _ _ U);have hpl5:hid (λc=>S c\/c=dm) H5 pl=t0 [aX v.1,aX v.2]:=aT (g3 _ _ p (bL p (M _ _ o1))) (λy=>y.elim (L.ex.new (g.free fpl)) npl);obtain⟨J,l',k',a'⟩:=Kd (n:=nm) ((hd.ae i).ae l) hpl5;refine av (pS (cS hr) jO jv kH rfl) ⟨dm,_,rfl,xA.k (k:=Sum.inr nm) e5 (by rw[dH hd.len];exact cL (by lia)),?_⟩;rw[k'];obtain⟨L6,sh6⟩:=L5.shown W ⟨sx,sl,su,sd⟩ (.dK (bX (rG u nm v) J));exact⟨_,_,rfl,L6,⟨J,l',aT aa W,a'.mono λ_ _ e=>sh6 _ _ e⟩,(i.trans l).trans sh6,λb o e n=>(aj (nfd e)).trans (g3 _ _ (M _ _ e) n)⟩
 rintro Z' H5 ⟨y8,D,rfl,L5,D5,l,ad⟩;have nx:∀{b:Addr} {o:HO},H b=some o->(∀C y fs,o ≠ .ins C y fs)->b≠x:=λe n y=>by rw[y,o1] at e;exact n _ _ _ (aa1 e).symm
 obtain⟨pD,hlD,aD'⟩:=f.dn;obtain⟨pU,hlU,aU'⟩:=f.un;have s:=ad _ _ f.kd (nx f.kd (λ_ _ _ y=>by cases y));have lD5:=ad _ _ hlD (nx hlD (λ_ _ _ y=>by cases y));have lU5:=ad _ _ hlU (nx hlU (λ_ _ _ y=>by cases y));have nkD:lD≠kd:=λy=>by rw[y,s] at lD5;cases lD5
 have nkU:Y≠kd:=λy=>by rw[y,s] at lU5;cases lU5
 have nkl:kd≠ld:=λy=>by have h:=f.kd;rw[y,f.s6.dn] at h;cases h
 have nku:kd≠lu:=λy=>by have h:=f.kd;rw[y,f.s6.un] at h;cases h
 have nkd:∀D'∈ds++us,D'.1.dd≠kd:=λD' hD y=>by
  rcases X1.mp hD with hD|hD
  .obtain⟨v,zz⟩:=L5.dd D' hD;rw[<- y,zz.1] at s;cases s
  .obtain⟨v,zz,_⟩:=L5.ud D' hD;rw[<- y,zz.1] at s;cases s
 refine ak (pS (cS hr) dh aZ jO rfl) ⟨kd,_,rfl,xA.k (k:=Sum.inr "spots") s (by show 4<sizeLine;decide),?_⟩;rw[kp3];have L6:=L5.laid (o:=aaU lr dm lD Y) f.ks.1 (nx f.kd (λ_ _ _ y=>by cases y)) nkl nku nkd;refine av (aQ k7) (q S _ lu lr dm Y rs D ds us ?_);have k6:af (hid S H5) (hid S (ag H5 kd (aaU lr dm lD Y))):=λb o e=>aT ((aj (λy:b=kd=>bI e (y ▸ f.ks.1))).trans (aq _ _ e)) (bI e);have k06:=l.trans k6;have kg:Wl (hid S H) (hid S (ag H5 kd (aaU lr dm lD Y))):=λb o e _=>k06 _ _ e;exact⟨f.al.ae k06,f.nl,f.tm.kp kg,f.L,L6.later (Nat.le_succ n),f.ks,aa,k06 _ _ f.rs,D5.ae k6,⟨pD,(aj nkD).trans lD5,aD'.mono λ_ _ z=>z.kp kg⟩,⟨pU,(aj nkU).trans lU5,aU'.mono λ_ _ z=>z.kp kg⟩,f.ne⟩
structure Wds(H0 H:Hp)(l:Addr)(ws:a9):Prop where
 at_:H l=r6 (ws.map V.str)
 new:H0 l=none
 ae:af H0 H
def Wds.add(W:Wds H0 H l ws):Wds H0 (ag H l (.lst (ws.map V.str++[.str x]))) l (ws++[x]) :=
 ⟨by rw[aa,o0];rfl,W.new,λb o a=>by rw[aj (au a W.new)];exact W.ae _ _ a⟩
def Wds.to(W:Wds H0 H l ws)(s:af H H'):Wds H0 H' l ws:=⟨s _ _ W.at_,W.new,W.ae.trans s⟩
theorem Eu:∀(ys:a9),(∀y∈ys,y.length<=m)->(ys.map (·.length)).sum<=ys.length*m
 | [],_=>by simp
 |x::r,h=>by have h1:=h x (by simp);have b:=Eu r (λz a=>h z (Q1 _ a));rw[ab5,am3,P3,Nat.succ_mul];lia
def afi (z:Str):(PySem.Txt.replace z " " "_").length=z.length:=by have:=ac7 List.length (m5 z 32 95);rw[bV,oq,d5,bV] at this;rw[show ((" " : Str))=⟨#[32]⟩ from by lk,show (("_" : Str))=⟨#[95]⟩ from by lk];exact this
def abS  (h:isName x=true):x.length<=8/\x ≠ "" := by unfold isName at h;simp only[ad4,ac4] at h;refine⟨h.1.2,λz=>?_⟩;rw[z] at h;exact absurd h.1.1 (by decide)
def rep1{x:V}:(List.replicate (if b=true then (1:Int) else 0).toNat [x]).flatten=if b=true then [x] else []:=by cases b <;> rfl
def b01:-2 ^ 63<=(if b=true then (1:Int) else 0)/\(if b=true then (1:Int) else 0)<2 ^ 63/\1*(if b=true then (1:Int) else 0).toNat<=sizeLine:=by cases b <;> decide
def aky{x:V}:(if b=true then [x] else []).length<=1:=by cases b <;> simp
def ne_iff:(!decide (V.str x=V.str y))=true↔x≠y:=by
 by_cases e:x=y
 .subst e;simp
 .have:V.str x≠V.str y:=λz=>e (V.str.inj z);simp[e,this]
def aio   (GR:jB names R):(([V.str R.bc]++(if (!decide (V.str R.bi=V.str (Str.ofString "")))=true then [V.str (Str.ofString "'" ++ PySem.Txt.replace R.bi (Str.ofString " ") (Str.ofString "_"))] else []))++(if (!decide (V.str R.bZ=V.str (Str.ofString "")))=true then [V.str R.bZ] else []))++[V.str R.bB]=(cI R.bc R.bi++((if cF R.bc=true then [R.bZ] else [])++[R.bB])).map V.str:=by
 have c:(if (!decide (V.str R.bZ=V.str (Str.ofString "")))=true then [V.str R.bZ] else [])=(if cF R.bc=true then [R.bZ] else []).map V.str:=by
  by_cases a:cF R.bc=true
  .rw[w4 a,w4 (ne_iff.mpr (abS (GR.cn a)).2)];rfl
  .rw[C5 a,C5 (λz=>ne_iff.mp z (GR.Zu (by simpa using a)))];rfl
 have d:([V.str R.bc]++(if (!decide (V.str R.bi=V.str (Str.ofString "")))=true then [V.str (Str.ofString "'" ++ PySem.Txt.replace R.bi (Str.ofString " ") (Str.ofString "_"))] else []))=(cI R.bc R.bi).map V.str:=by
  unfold cI;by_cases b:ax R.bc
  .rw[w4 b,C5 (λz=>ne_iff.mp z (GR.pat.ZC b))];rfl
  .have e:=(GR.pat.sg b).1;rw[C5 b,w4 (ne_iff.mpr (λz=>by rw[z,show (Str.ofString "").length=0 by lk] at e;lia))];rfl
 rw[d,c,o0,o0,ac0];rfl
inductive aiU(vs:q7)(H:Hp)(Q:VK)(_:XK):Prop|mk(lm:Addr)(ms:List aR)(_:vs=[.ref lm])(_:TMs H lm ms)(_:K1 ms)(_:∀H',af H H'->Q (.str (Str.join ⟨#[10]⟩ (rowsOf (itemsOf ms)))) H')
def Eo:bE P w K mg ap dJ 1 t.agf t.akf ["_law_modes_here"] aiU:=by
 refine T.ago.ok wN λvs H Q E h=>?_;obtain⟨M,b,rfl,⟨ts,N,hA⟩,B,q⟩:=h;room;obtain⟨names,a⟩:∃names,names=b.map (·.name):=⟨_,rfl⟩
 have hnl:names.length=b.length:=by rw[a,d5]
 have hnm:∀x∈names,isName x=true:=λx F=>by rw[a] at F;obtain⟨m,G,rfl⟩:=aa9.mp F;exact(B.nm m G).1
 have A:=B.VM;have h4:=B.Bg;have hpos:=B.pos;refine ak (b7 1 wN (bM bu)) ⟨sL rfl,λd hlr=>?_⟩;have O:Wds H (ag H d (.lst [])) d []:=⟨aa,hlr,af.ag hlr⟩
 generalize ag H d (.lst [])=H0 at O;refine aF (λc p=>(∃S U Z x5 x6 x7 x8 x9 f n,c=[ρ M,ρ d,S,U,Z,x5,x6,x7,x8,x9,f,n])/\Wds H p d ((itemsOf b).map (rowOf names))) (dD aa7 rfl (fF br) (iK rfl (bF (jb 2 wN) (bF (jb 3 wN) (bF (jb 4 wN) fU)))) ay) ?_ ?_
 .refine⟨M,rfl,⟨_,aV.of (O.ae _ _ N)⟩,jw (xs:=ts.map V.ref) (λi c p=>(∃S U Z x5 x6 x7 x8 x9 f n,c=[ρ M,ρ d,S,U,Z,x5,x6,x7,x8,x9,f,n])/\Wds H p d ((itemsOf (b.take i)).map (rowOf names))) ⟨⟨_,_,_,_,_,_,_,_,_,_,rfl⟩,O⟩ (by rintro i c p _ ⟨_,W⟩;exact aV.of (W.ae _ _ N)) ?_ (by rintro c H1 ⟨hZ,v⟩;rw[d5,hA.1,ab3] at v;exact⟨hZ,v⟩)⟩
  .rintro i xv c H1 F ⟨⟨S,U,Z,x5,x6,x7,x8,x9,f,n,rfl⟩,v⟩;rw[v3] at F;obtain⟨tm,htm,rfl⟩:=D1.mp F;have hi:i<b.length:=hA.1▸(d6.mp htm).1
   have G:b[i]?=some b[i]:=i4 hi;generalize hmd:b[i]=m at G;obtain⟨lu,rs,t1,t2,t3⟩:=hA.2 i tm m htm G;obtain⟨n1,n2⟩:=B.nm m (p0 G);have r6':=B.six m (p0 G);have l1:=(abS n1).1;have l2:=(abS n2).1;have hil:=B.len i (by lia);refine⟨tm,[.str m.name,.str m.bZ,.ref lu],rfl,bT.of (v.ae _ _ t1),rfl,_,_,rfl,_,_,rfl,_,_,rfl,rfl,?_⟩;have e5:(Str.ofString "mode ").length=5:=by lk
   have e1:(Str.ofString " ").length=1:=by lk
   refine ak (aY (cV Z4 aa0 aa3 bW bP (bQ (aK bY (aK bY (aK bY aZ cG) aZ) dh)))) ⟨.inl ⟨rfl,_,aV.of v.at_⟩,_,_,rfl,rfl,bK (by show (Str.ofString "mode ").length+_<=_;lia),_,_,rfl,rfl,bK (by rw[Str.length_append];show (Str.ofString "mode ").length+_+(Str.ofString " ").length<=_;lia),_,_,rfl,rfl,bK (by rw[Str.length_append,Str.length_append];show (Str.ofString "mode ").length+_+(Str.ofString " ").length+_<=_;lia),v.at_,cL (by rw[d5,d5];lia),?_⟩;rw[show (Str.ofString "mode " ++ m.name++Str.ofString " " ++ m.bZ:Str)=rowOf names (.bp m.name m.bZ) from G9];have W2':=v.add (x:=rowOf names (.bp m.name m.bZ));generalize ag H1 d _=H2 at W2';refine av (dD aa7 rfl (fF eE) (iK rfl (bF (jb 5 wN) (bF (jb 6 wN) (bF (jb 7 wN) (bF (jb 8 wN) (bF (jb 9 wN) (bF (jb 10 wN) fU))))))) ay) ⟨lu,rfl,⟨_,aV.of (W2'.ae _ _ t2)⟩,jw (xs:=rs.map V.ref) (λj c p=>(∃S U Z x5 x6 x7 x8 x9 f n,c=[ρ M,ρ d,S,U,Z,x5,x6,x7,x8,x9,f,n])/\Wds H p d ((itemsOf (b.take i)).map (rowOf names)++[rowOf names (.bp m.name m.bZ)]++(m.bd.take j).map λR=>rowOf names (.cb R))) ⟨⟨_,_,_,_,_,_,_,_,_,_,rfl⟩,by rw[List.take_zero,List.map_nil,ad2];exact W2'⟩ (by rintro j c p _ ⟨_,W⟩;exact aV.of (W.ae _ _ t2)) ?_ (by rintro c I ⟨hZ,W3⟩;refine⟨hZ,?_⟩;rw[d5,t3.1,ab3] at W3;rw[ae1 G,jj,jg,o0,gQ,ab5,ag3];rw[ac0] at W3;exact W3)⟩
   .rintro j xv c I F ⟨⟨y2,y3,y4,y5,y6,y7,y8,y9,y10,y11,rfl⟩,W3⟩;rw[v3] at F;obtain⟨tr,htr,rfl⟩:=D1.mp F;have hj:j<m.bd.length:=t3.1▸(d6.mp htr).1
    have C:m.bd[j]?=some m.bd[j]:=i4 hj;generalize hRd:m.bd[j]=R at C;have u1:H tr=t0 (tupQ R):=t3.2 j tr R htr C;have hRm:=p0 C;have GR:jB names R:=a▸B.cb m (p0 G) R hRm
    refine⟨tr,tupQ R,rfl,bT.of (W3.ae _ _ u1),rfl,_,_,rfl,_,_,rfl,_,_,rfl,_,_,rfl,_,_,rfl,_,_,rfl,rfl,?_⟩;show At _ _ _ [ρ M,ρ d,y2,y3,y4,τ R.bc,τ R.bi,τ R.bZ,τ R.bB,some (vU R.bo),τ R.bn,y11] I;have hsg:R.bi.length<=200:=by
     by_cases hb:ax R.bc
     .rw[GR.pat.ZC hb];lk
     .exact(GR.pat.sg hb).2.1
    refine aF (λc p=>∃l,p l=r6 ((cI R.bc R.bi++((if cF R.bc=true then [R.bZ] else [])++[R.bB])).map V.str)/\af I p/\c=[ρ M,ρ d,y2,y3,y4,τ R.bc,τ R.bi,τ R.bZ,τ R.bB,some (vU R.bo),τ R.bn,ρ l]) (b7 11 wN (aK gM (aK gM (aK gM (bM (bQ gX)) (aK EW (bM (bQ (acV (by lk) jv))) (pO CW T.XZ (bQ (eW tX jv aZ (aE _)))))) (aK EW (bM (bQ jO)) (pO CW T.XZ (bQ (eW tX jO aZ (aE _)))))) (bM (bQ kH)))) ?_ ?_
    .refine⟨sL rfl,λl1 g1=>?_⟩;have k1:ag I l1 (.lst [.str R.bc]) l1=r6 [.str R.bc]:=aa;have s1:af I (ag I l1 (.lst [.str R.bc])):=af.ag g1;generalize ag I l1 (.lst [.str R.bc])=H4 at k1 s1;have eq1:(Str.ofString "_").length=1:=by lk
     have eq2:(Str.ofString "'").length=1:=by lk
     have eq3:=afi R.bi;refine⟨by rw[eq1];lia,_,rfl,bK (by rw[eq2,eq3];lia),sL rfl,λl2 g2=>⟨rfl,.inr ⟨_,rfl,aa,b01.1,b01.2.1,b01.2.2,λl3 g3=>?_⟩⟩⟩;obtain⟨X,eX⟩:∃X,X=if (!decide (V.str R.bi=V.str (Str.ofString "")))=true then [V.str (Str.ofString "'" ++ Txt.replace R.bi (Str.ofString " ") (Str.ofString "_"))] else []:=⟨_,rfl⟩
     have hX:X.length<=1:=eX▸aky
     rw[rep1,<- eX];refine⟨af.ag g3 _ _ (af.ag g2 _ _ k1),aa,bK (by rw[P3,ac6];lia),λl4 g4=>?_⟩;have J:=((s1.to g2).to g3).to2 (o:=.lst ([V.str R.bc]++X)) g4;generalize ag (ag (ag H4 l2 _) l3 _) l4 (.lst ([V.str R.bc]++X))=H5 at J ⊢;obtain⟨s4,k4⟩:=J;refine⟨sL rfl,λl5 g5=>⟨rfl,.inr ⟨_,rfl,aa,b01.1,b01.2.1,b01.2.2,λl6 g6=>?_⟩⟩⟩;obtain⟨Y,eY'⟩:∃Y,Y=if (!decide (V.str R.bZ=V.str (Str.ofString "")))=true then [V.str R.bZ] else []:=⟨_,rfl⟩
     have hY:Y.length<=1:=eY'▸aky
     rw[rep1,<- eY'];refine⟨af.ag g6 _ _ (af.ag g5 _ _ k4),aa,bK (by rw[i5,P3,ac6];lia),λr g7=>?_⟩;have J:=((s4.to g5).to g6).to2 (o:=.lst (([V.str R.bc]++X)++Y)) g7;generalize ag (ag (ag H5 l5 _) l6 _) r (.lst (([V.str R.bc]++X)++Y))=H6 at J ⊢;obtain⟨s7,k7'⟩:=J;refine⟨sL rfl,λl8 u=>⟨af.ag u _ _ k7',aa,bK (by simp only[i5,P3,ac6];lia),λl9' D=>⟨l9',by rw[aa,eX,eY',aio GR],(s7.to u).to D,rfl⟩⟩⟩
    rintro c H4 ⟨l,kl,s4,rfl⟩;obtain⟨W,eW'⟩:∃W,W=cI R.bc R.bi++((if cF R.bc=true then [R.bZ] else [])++[R.bB]):=⟨_,rfl⟩
    have hW:W.length<=4:=by
     rw[eW',i5,i5];have:=K7 (s:=R.bc) (z:=R.bi);have:(if cF R.bc=true then [R.bZ] else []).length<=1:=by split <;> simp
     rw[P3,ac6];lia
    rw[<- eW'] at kl;refine aF (λc p=>∃l,p l=r6 ((eO names R).map V.str)/\af I p/\c=[ρ M,ρ d,y2,y3,y4,τ R.bc,τ R.bi,τ R.bZ,τ R.bB,some (vU R.bo),τ R.bn,ρ l]) (b7 11 wN (aK gM (aK gM kU (aK EW (bM (bQ (aC aO (aC aU br (alw l9 (GD ai))) ai))) (pO CW T.XZ (bQ (eW nR l9 cR (aE _)))))) (aK EW (bM (bQ ly)) (pO CW T.XZ (bQ (eW tX ly aZ (aE _))))))) ?_ ?_
    .have hz:∃L,L<b.length/\(∃k,WI K (vU R.bo) H4 k/\V.int ((L:Nat):Int)=if k=true then vU R.bo else .int 0)/\(if (!decide (vU R.bo=V.dj))=true then [V.str (names.getD L "")] else [])=(vz names R.bo).map V.str:=by
      cases hg:R.bo with
      |none=>exact⟨0,hpos,⟨false,rfl,rfl⟩,rfl⟩
      |some g =>
       have hgl:g<b.length:=by
        by_cases hgo:gW R.bB
        .obtain⟨g',e,hg'⟩:=GR.bo hgo;rw[hg] at e;cases e;lia
        .rw[GR.OM hgo] at hg;cases hg
       refine⟨g,hgl,⟨((g:Int) != 0),rfl,?_⟩,rfl⟩;by_cases e:g=0
       .subst e;rfl
       .rw[w4 (by simpa using e)];rfl
     obtain⟨L,hg0,hT,eG⟩:=hz;have hmg:b[L]?=some b[L]:=i4 hg0;obtain⟨tg,htg,lg,rg',v1,_,_⟩:=hA.at hmg;have hng:names.getD L "" = b[L].name:=by rw[a];simp[hg0]
     rw[hng] at eG;have s34:=W3.ae.trans s4;refine⟨_,hT,aV.of (s34 _ _ N),cM htg,bT.of (s34 _ _ v1),aB (j:=0) rfl,sL rfl,λl5 g5=>⟨rfl,.inr ⟨_,rfl,aa,b01.1,b01.2.1,b01.2.2,λl6 g6=>?_⟩⟩⟩;rw[rep1,eG];have hY:((vz names R.bo).map V.str).length<=1:=by rw[d5];exact Dw
     refine⟨af.ag g6 _ _ (af.ag g5 _ _ kl),aa,bK (by rw[d5];lia),λr g7=>?_⟩;have J:=((s4.to g5).to g6).to2 (o:=.lst (W.map V.str++(vz names R.bo).map V.str)) g7;generalize ag (ag (ag H4 l5 _) l6 _) r (.lst (W.map V.str++(vz names R.bo).map V.str))=H6 at J ⊢;obtain⟨s7,k7'⟩:=J;refine⟨sL rfl,λl8 u=>⟨rfl,.inr ⟨_,rfl,aa,b01.1,b01.2.1,b01.2.2,λl9' D=>?_⟩⟩⟩;have eF':(if (!decide (V.str R.bn=V.str (Str.ofString "")))=true then [V.str R.bn] else [])=(if R.bn = "" then [] else [R.bn]).map V.str:=by
      by_cases e:R.bn = ""
      .rw[w4 e,C5 (λz=>ne_iff.mp z e)];rfl
      .rw[C5 e,w4 (ne_iff.mpr e)];rfl
     rw[rep1,eF'];have hF:((if R.bn = "" then [] else [R.bn]).map V.str).length<=1:=by rw[d5];split <;> simp
     refine⟨af.ag D _ _ (af.ag u _ _ k7'),aa,bK (by rw[i5,d5];lia),λla ga=>⟨la,?_,((s7.to u).to D).to ga,rfl⟩⟩;rw[aa,eW',eO,<- o0,<- o0];simp only[ac0]
    rintro c H9 ⟨l,V9',s9,rfl⟩;have rl:=EB (cv:=names) (R:=R);have W9:=W3.to s9;refine av (aY (cV Z4 aa0 aa3 bW bP (bQ (cV ae2 PySem.F.slot_str_join PySem.F.type_str_join CK aZ (bQ kU))))) ⟨.inl ⟨rfl,_,aV.of W9.at_⟩,rfl,_,l,_,rfl,rfl,aV.of V9',by have h1:=Eu (m:=202) (eO names R) (λy hy=>(Aj hnm GR y hy).l);rw[show (" " : Str).length=1 from by lk];have h2:(eO names R).length*202<=7*202:=Nat.mul_le_mul_right _ rl.2;exact bK (by lia),?_⟩
    .rw[join_eq,show ((" " : Str))=⟨#[32]⟩ from by lk];refine⟨W9.at_,cL (by simp only[d5,i5,P3,ac6,v6];lia),⟨_,_,_,_,_,_,_,_,_,_,rfl⟩,?_⟩;have e:(m.bd.take (j+1)).map (λR=>rowOf names (.cb R))=(m.bd.take j).map (λR=>rowOf names (.cb R))++[rowOf names (.cb R)]:=by rw[ae1 C,o0];rfl
     rw[e,<- ac0];exact W9.add (x:=rowOf names (.cb R))
 rintro c H1 ⟨⟨S,U,Z,x5,x6,x7,x8,x9,f,n,rfl⟩,v⟩;have hGI:=B.items;have hrows:rowsOf (itemsOf b)=(itemsOf b).map (rowOf names):=by rw[rowsOf,ji,a]
 refine av (aQ (cV ae2 F.slot_str_join F.type_str_join CK aZ (bQ bP))) ⟨rfl,_,d,_,rfl,rfl,aV.of v.at_,?_,by rw[join_eq,show ((("\n" : Str)))=⟨#[10]⟩ from by lk,<- hrows];exact q _ v.ae⟩
 .have h5:=Eu (m:=1421) ((itemsOf b).map (rowOf names)) (λy hy=>by obtain⟨it,hi,rfl⟩:=aa9.mp hy;obtain⟨i,e⟩:=ab8.mp hi;have:=(ny hGI e).2.1;rw[ji,<- a] at this;exact this)
  rw[show ("\n" : Str).length=1 from by lk];rw[d5] at h5 ⊢;have h6:(itemsOf b).length*1421<=200*1421:=Nat.mul_le_mul_right _ A;exact bK (by lia)
def X6'.told{kd:Addr}{rs:a9}(zS':X6' K t S H sc ns x dx tt dt a ld lu lm kd lr dp lD lU ms rs sp n ds us)(hn:n<=12)(q:∀H'',af H H''->Q (.bl true) H''):acz t [.ref x,.ref kd,.ref lm] H Q E:=by obtain⟨d,c,e⟩:=zS'.s6.ob;obtain⟨f,g,h,i,b⟩:=zS'.s6.ti;have o:=zS'.s6.sk.len;obtain⟨j,l⟩:=zS'.s6.rw.all hn;exact⟨x,dx,tt,d,ld,lu,dt,a,f,lm,kd,lr,dp,lD,lU,g,ms,rs,h,sp,rfl,c,i.ae aq,e.ae aq,zS'.kd,zS'.tm.ae aq,zS'.L.fit,aq _ _ zS'.rs,zS'.sp.ae aq,zS'.s6.sk.nd,by lia,by lia,b,zS'.L.bj zS'.s6.rw hn b,q⟩
def kk4{a b c d}:m9 [] (kk a b c d)=kk a b c d:=rfl
theorem acW:∀l:a9,(∀r∈l,aaT r)->tot l<=6*l.length
 | [],_=>N0 _
 |a::l,h=>by have h1:=(h a (by simp)).le;have b:=acW l (λr hr=>h r (by simp[hr]));rw[kY,P3];lia
inductive Bv(K:W.Frag)(vs:q7)(H:Hp)(Q:VK)(_:XK):Prop|mk(a:Addr)(ns:c9)(_:vs=[.ref a])(_:aV K H a (ns.map V.int))(_:ns.length<=63)(_:∀H',Q (.bl true) H')
def Vr   (F:dI K "law" "law" (top 86) f fd) (T:Txt K mg t):bE P w K mg ap dJ 13 f fd ["_law_script"] (Bv K):=by
 refine F.ok gu λvs H Q E h=>?_;obtain⟨B,U,rfl,hS,hl,q⟩:=h;room;refine ak (b7 1 gu (aS (Sv T) hr.m rfl T.alz T.aho.kp T.aho.b1 .nil aH (bQ br))) ⟨B,U,rfl,hS,hl,λw c C H1 O hM s1=>?_⟩;have Lw:Lw6 (make w c):=⟨abW w O,aeA w O⟩
 refine aF (λJ G=>∃rs s,rs≠[]/\rs.length<=4/\(∀r∈rs,aaT r)/\G s=r6 (rs.map V.str)/\af H1 G/\J=[ρ B,ρ C,ρ s,none,none,none]) (@B3 _ 2 _ (az (top 86)) _ ["_law_script","_law_modes_here","_law_rows","_law_scribe","_law_kept","_law_k"] _ _ ("_law_k") _ _ _ _ [("_law_script",0)] _ _ gu.nd rfl (Or.inl rfl) (by walk_at "ck") (fm rfl T.iG (ao (aK bh ai (aS (dP T) hr.m rfl T.dR T.cA.kp T.cA.b3 .nil aH (ao br (ao ai (ao ai bu (by left)) (by left)) (by left)) (by left) (by left) (by left))) bu (by left)) (by left)) (λ_ _ _ _=>by exact(aS (Uv T) hr.m rfl T.Uz T.F6.kp T.F6.b2 .nil aH (ao br (ao (aK bh ai (aK jN ai bP)) bu (by left)) (by left)) (by left) (by left) (by left))) (by left) (by left) (by left) (by left) (by left) (by left)) ?_ ?_
 .refine⟨B,U,_,_,rfl,hS.ae s1,(by decide),(by decide),(by decide),(by decide),hl,λd H2 h0 h1 s2=>⟨1+d,rfl,by lia,by lia,tT (n:=(1+d).toNat) (λi ys G=>∃rs,ys=rs.map V.str/\rs.length=i/\(∀r∈rs,aaT r)/\af H1 G) ⟨[],rfl,rfl,(λc h=>by cases h),s2⟩ (cL (by lia)) ?_ (by rintro ys H3 hyl ⟨rs,rfl,L,hcs,s3⟩ D hD;exact⟨rs,D,λz=>by rw[z] at L;simp at L;lia,by lia,hcs,aa,s3.to hD,rfl⟩)⟩⟩
  .rintro i ys H3 hi hyl ⟨rs,rfl,L,hcs,s3⟩;refine⟨.inl ⟨by decide,by decide⟩,B,U,_,rfl,hS.ae (s1.trans s3),hl,(by lia),(by lia),λz H4 hz s4=>fQ hi hyl ⟨rs++[z],by rw[o0];rfl,by rw[i5,L];rfl,λy hy=>?_,s3.trans s4⟩⟩;rcases X1.mp hy with y'|y'
   .exact hcs y y'
   .rw[B1.mp y'];exact hz
 rintro J H2 ⟨rs,s,hne,hr4,hrs,hlr,s2,rfl⟩;have tl:tot rs<=24:=by have:=acW rs hrs;lia
 have R0:Rw 0 rs:=⟨hne,by lia,λr hr=>(hrs r hr).ch,by lia⟩
 obtain⟨Gs,hC⟩:=Lw.chain R0 (by lia);have s02:=s1.trans s2;refine ak (b7 3 gu (fj T.Dt (Rr T) hr.m rfl T.Az T.Q0.b3 .nil aH (cy (aS (U0 T) hr.m rfl T.Vm T.Hw.kp T.Hw.b1 .nil aH (bQ (aS (Eo T) hr.m rfl T.alM T.ago.kp T.ago.b1 .nil aH (bQ bP)))) (pO eV T.jn (bQ cG))))) ⟨C,make w c,rfl,hM.ae s2,Lw.fit,λH3 s3=>⟨itemsOf (make w c),rfl,Lw.fit.items,Lw.fit.VM,λru H4 hR s4=>⟨s,_,rfl,.inl (aV.of ((s3.trans s4) _ _ hlr)),λlh gh=>?_⟩⟩⟩;rw[Ag] at hR;have hlh:ag H4 lh (.lst (rs.map V.str)) lh=r6 (rs.map V.str):=aa;have s45:af H4 (ag H4 lh (.lst (rs.map V.str))):=af.ag gh;have hR5:=hR.ae s45;refine λx dx nx ndx ne=>?_;have M:=(s3.trans s4).trans s45;generalize ag H4 lh (.lst (rs.map V.str))=H5 at hlh s45 M hR5 nx ndx ⊢;have s6:af H5 (ag (ag H5 dx (.own x)) x (.ins t.aG dx [])):=cD nx ndx;refine⟨x,dx,ru,lh,(λ_=>False),make w c,rs,Gs,rfl,aa,Ex.none _,hR5.ae (λb o e=>aT (s6 _ _ e) (by
  rintro (z|z)
  .exact z
  .exact au e nx z)),Lw.fit.good,acg w c,s6 _ _ hlh,by lia,hC,λtt dt a lg gs d ld lu p I8 N hd8 j l fld nlu flu a8=>⟨rfl,?_⟩⟩
 obtain⟨A,u⟩:∃S,S=λc=>((False\/c=x)\/c=ld)\/c=lu:=⟨_,rfl⟩
 rw[<- u] at I8 hd8;have kx:af H5 (hid A p):=λb o e=>by
  have nb:b≠x:=au e nx;refine aT (a8 _ _ (s6 _ _ e) nb) ?_;rw[u];rintro (((z|z)|z)|z)
  .exact z
  .exact nb z
  .exact au (s6 _ _ e) fld z
  .exact au (s6 _ _ e) flu z
 have al8:aV K (hid A p) B (U.map V.int):=(hS.ae (s02.trans M)).ae kx;have ms8:TMs (hid A p) C (make w c):=((hM.ae s2).ae M).ae kx;have lr8:hid A p s=r6 (rs.map V.str):=kx _ _ (M _ _ hlr);show At _ _ _ [ρ B,ρ C,ρ s,ρ x,none,none] p;refine aF (λJ G=>∃S g dp lD lU,X6' K t S G B U x dx tt dt a ld lu C g s dp lD lU (make w c) rs [] 0 [] []/\J=[ρ B,ρ C,ρ s,ρ x,ρ g,none]) (b7 4 gu (aiD (abe aZ cG (abe aZ kN (abe aZ (bM bu) (abe aZ (bM bu) aiH)))) rfl rfl (by simp) (by decide))) ?_ ?_
 .refine(λg gk'=>(λdp gd=>⟨sL rfl,λlD W=>⟨sL rfl,λlU R=>⟨af.ag R _ _ (af.ag W _ _ (af.ag gd _ _ aa)),[(Sum.inr "rows",.ref s),(Sum.inr "spots",.ref dp),(Sum.inr "done",.ref lD),(Sum.inr "undone",.ref lU)],rfl,(by show 4<=15;decide),?_⟩⟩⟩))
  rw[kk4];have ik:ag p g (.dK []) g=some (.dK []):=aa;have nkd:g≠dp:=λy=>by rw[<- y,aa] at gd;cases gd
  have e1:=af.ag gd (o:=.dK []);have e2:=e1.to W (o:=.lst []);have e3:=e2.to R (o:=.lst []);have idp:ag (ag p g (.dK [])) dp (.dK []) dp=some (.dK []):=aa;have iD':ag (ag (ag p g (.dK [])) dp (.dK [])) lD (.lst []) lD=r6 []:=aa;have nkD:g≠lD:=au (e1 _ _ ik) W;have nkU:g≠lU:=au (e2 _ _ ik) R;have npD:dp≠lD:=au idp W;have npU:dp≠lU:=au (af.ag W _ _ idp) R;have nDU:lD≠lU:=au iD' R;have fd:p dp=none:=by rw[aj (aa4 nkd)] at gd;exact gd
  have fD:p lD=none:=by rw[aj (aa4 npD),aj (aa4 nkD)] at W;exact W
  have fU':p lU=none:=by rw[aj (aa4 nDU),aj (aa4 npU),aj (aa4 nkU)] at R;exact R
  have Z:af p (ag (ag (ag (ag (ag p g (.dK [])) dp (.dK [])) lD (.lst [])) lU (.lst [])) g (aaU s dp lD lU)):=λb o e=>by rw[aj (au e gk')];exact e3 _ _ ((aj (au e gk')).trans e)
  have kd9:(ag (ag (ag (ag (ag p g (.dK [])) dp (.dK [])) lD (.lst [])) lU (.lst [])) g (aaU s dp lD lU)) g=some (aaU s dp lD lU):=aa;have dp9:(ag (ag (ag (ag (ag p g (.dK [])) dp (.dK [])) lD (.lst [])) lU (.lst [])) g (aaU s dp lD lU)) dp=some (.dK []):=(aj (aa4 nkd)).trans (af.ag R _ _ (af.ag W _ _ idp));have lD9:(ag (ag (ag (ag (ag p g (.dK [])) dp (.dK [])) lD (.lst [])) lU (.lst [])) g (aaU s dp lD lU)) lD=r6 []:=(aj (aa4 nkD)).trans (af.ag R _ _ iD');have lU9:(ag (ag (ag (ag (ag p g (.dK [])) dp (.dK [])) lD (.lst [])) lU (.lst [])) g (aaU s dp lD lU)) lU=r6 []:=(aj (aa4 nkU)).trans aa;generalize (ag (ag (ag (ag (ag p g (.dK [])) dp (.dK [])) lD (.lst [])) lU (.lst [])) g (aaU s dp lD lU))=H9 at Z kd9 dp9 lD9 lU9;obtain⟨S,v⟩:∃S,S=λc=>A c\/c=g\/c=lD\/c=lU:=⟨_,rfl⟩
  have sx:S x:=by rw[v,u];exact .inl (.inl (.inl (.inr rfl)))
  have sl:S ld:=by rw[v,u];exact .inl (.inl (.inr rfl))
  have su:S lu:=by rw[v,u];exact .inl (.inr rfl)
  have I:af (hid A p) (hid S H9):=λb o e=>by
   have e8:=aq _ _ e;refine aT (Z _ _ e8) ?_;rw[v];rintro (z|z|z|z)
   .exact bI e z
   .exact au e8 gk' z
   .exact au e8 fD z
   .exact au e8 fU' z
  have hE9:Ex S H9:=λb y=>by
   rw[v,u] at y;rcases y with (((y|y)|y)|y)|y|y|y
   .exact y.elim
   .exact⟨_,y▸Z _ _ N⟩
   .exact⟨_,y▸Z _ _ j⟩
   .exact⟨_,y▸Z _ _ l⟩
   .exact⟨_,y▸kd9⟩
   .exact⟨_,y▸lD9⟩
   .exact⟨_,y▸lU9⟩
  have ndp:¬S dp:=by
   rw[v,u];rintro ((((y|y)|y)|y)|y|y|y)
   .exact y
   .rw[y,N] at fd;cases fd
   .rw[y,j] at fd;cases fd
   .rw[y,l] at fd;cases fd
   .exact nkd y.symm
   .exact npD y
   .exact npU y
  have L9:S6 t S H9 x dx tt dt a ld lu (make w c) rs [] 0 [] []:=⟨⟨d,Z _ _ N,hd8.ae I⟩,⟨lg,gs,Gs,I8.ae I,hC⟩,⟨sx,sl,su,λD hD=>by cases hD⟩,nlu,hE9,Z _ _ j,Z _ _ l,(λD hD=>by cases hD),(λD hD=>by cases hD),by simp,R0,⟨by simp[bU],(λx hx=>by cases hx),λy hy=>by cases hy⟩,trivial,trivial,N0 0⟩
  exact⟨S,g,dp,lD,lU,⟨al8.ae I,hl,ms8.ae I,Lw,L9,v▸⟨.inr (.inl rfl),.inr (.inr (.inl rfl)),.inr (.inr (.inr rfl))⟩,kd9,I _ _ lr8,⟨[],rfl,aT dp9 ndp,bf.nil⟩,⟨[],lD9,bf.nil⟩,⟨[],lU9,bf.nil⟩,aa4 (au j fD),aa4 (au l fD),aa4 (au j fU'),aa4 (au l fU'),nDU⟩,rfl⟩
 clear lr8 ms8 al8 kx I8 hd8 N j l fld flu a8 nlu u;rintro J H9 ⟨S,g,dp,lD,lU,zS',rfl⟩;refine ak (bq (g9 (gR (aS (xE T) hr.m rfl T.agp T.acZ.kp T.acZ.b3 .nil aH (ao dh (cy eE bP))))) ay ay) (?_);unfold qw;show acz t [.ref x,.ref g,.ref C] _ _ _;refine zS'.told (by lia) λH10 s10=>⟨mH (bg ?_)⟩
 have zS10:=zS'.ae s10;refine aF (λ_ _=>True) (dD aa7 rfl (fm rfl T.iG (bQ (aS (dP T) hr.m rfl T.dR T.cA.kp T.cA.b3 .nil aH (ao br (cy ai ai))))) (jb 5 gu) ay) ?_ ?_
 .refine⟨B,U,_,_,rfl,zS10.al.ae aq,(by decide),(by decide),(by decide),(by decide),hl,λd0 H11 g0 g1 s11=>⟨d0,rfl,by lia,by lia,?_⟩⟩;refine fH (n:=d0.toNat) (λk J G=>∃S lu lr' dp lU rs sp ds us y5,X6' K t S G B U x dx tt dt a ld lu C g lr' dp lD lU (make w c) rs sp k ds us/\J=[ρ B,ρ C,ρ s,ρ x,ρ g,y5]) ⟨_,_,_,_,_,_,_,_,_,_,zS10.ae s11,rfl⟩ ?_ (λ_ _ _=>trivial);rintro k J H12 hk ⟨S,lu,lr',dp,lU,rs,sp,ds,us,y5,Y,rfl⟩;have hk12:k<12:=by lia
  refine ak (bq (g9 (gR (aS (et T) hr.m rfl T.alf T.ahd.kp T.ahd.b5 .nil aH (ao br (ao (aK bh ai (aK jN ai gX)) (ao dh (cy eE bP))))))) ay ay) ⟨.inl ⟨by decide,by decide⟩,.mk ?_⟩;unfold qw;refine⟨S,B,U,_,x,dx,tt,dt,a,ld,lu,C,g,lr',dp,lD,lU,make w c,rs,sp,k,ds,us,rfl,by lia,by lia,hk12,Y,λS' G lu' lr2 dp2 lU' rs2 sp2 ds2 us2 X=>⟨mH (bg ?_)⟩⟩;refine av (bq (g9 (gR (aS (xE T) hr.m rfl T.agp T.acZ.kp T.acZ.b3 .nil aH (ao dh (cy eE bP))))) ay ay) (?_);unfold qw;show acz t [.ref x,.ref g,.ref C] _ _ _;exact X.told hk12 λH15 s15=>⟨mH (bg ⟨_,_,_,_,_,_,_,_,_,_,X.ae s15,rfl⟩)⟩
 intro J G _;exact av (aQ k7) (q G)
end
def W7(X:K.In h)(G:h.Ns mainGlobals mg)(e:W.nsIn K mainGlobals x=some (some u))(r:RelV v u):∃u,mg x=some u/\RelV v u:=⟨u,W.mg_of X G e,r⟩
def WE     {its:n7}  (e:K.lookup a=some o) (h:o.cls = .type "tuple" /\ o.data = .seq its n/\its.size<=sizeLine/\Vals xs its.toList):∀H,bT K H a xs:=λ_=>.inr ⟨o,its,n,e,h⟩
def all_mk {l:W.OpenLaw}        (X:K.In h) (G:h.Ns mainGlobals mg) (hfa:mg "law" = some (.ref fa)) (T:Txt K mg t) (a:W.nsIn K mainGlobals "law" = some (some (.ref f))) (F:dI K "law" "law" (top 86) f d)
  : ∃fd:FuncData,(∀(s:Shared) (v:Value),BindsTo s fd ⟨[v],[]⟩ [("_law_script",v)])/\∀ap:Heap,K.In ap->ap.Ns mainGlobals mg->bE l.prog w K mg ap dJ 13 fa fd ["_law_script"] (Bv K):=by
 have e:=hfa.symm.trans (W.mg_of X G a);cases e;exact⟨d,(by obtain⟨_,_,_,_,_,_,_,_,_,e,_⟩:=F.ex;rw[e];exact λs v=>.of_eq rfl),λap _ _=>Vr F T⟩
def walk{l:W.OpenLaw}{K:Params->W.Frag}(hn:l.most=some 63)(hdf:d.params.defaults=[])
  (hY:∀(w:World) (h:Heap),YP w h->(K w.params).In h)
  (F:∀(w:World) (mg:g6) (fa:Addr) (h:Heap),(K w.params).In h->h.Ns mainGlobals mg->mg d.name=some (.ref fa) ->
   ∃fd:FuncData,(∀(s:Shared) (u:Value),BindsTo s fd ⟨[u],[]⟩ [("_law_script",u)])/\∀ap:Heap,(K w.params).In ap->ap.Ns mainGlobals mg->bE l.prog w (K w.params) mg ap dJ 13 fa fd ["_law_script"] (Bv (K w.params))) :
  W.WalkO q loose XP YP l.row.toRowW d [] (λf vs=>PySem.call f vs) :=
 L2.LD (n:=63) (k:=13) (x:="_law_script") (CX:=λ_=>dJ) (sp:=λw=>Bv (K w.params)) hn (by decide) hdf ⟨rfl,by decide,by decide⟩ hY F (λ_ _ a b hl _ c=>⟨a,b,rfl,c,hl,λ_=>rfl⟩) λ_ _ _ _ _ z=>z
end
end K63
end
open PySem PySem.W PyProof.Rows
set_option maxRecDepth 100000 in
set_option maxHeartbeats 0 in
theorem PySem.Challenge.cw_tintrow_k63_whole_scribe_holds : PySem.Challenge.rw_tintrow_k63_whole_scribe.Holds := by
 refine dE ?_
 k_fill
 refine K63.walk (l:=PySem.Challenge.rw_tintrow_k63_whole_scribe) rfl rfl (λw h Y=>PySem.W.kIn_of Y) ?F;case F =>
  intro w e f h b G c;apply K63.all_mk (t:=⟨_,_,_,_,_,_,_,_,_,_,_,_,_,_,_,_,_,_,_,_,_,_,_,_,_,_,_,_,_,_,_,_,_,_,_,_,_,_,_,_,_,_,_,_,_,_,_,_,_,_,_,_,_,_,_,_,_,_,_,_,_,_,_,_,_,_,_,_,_,_,_,_,_,_,_,_,_,_,_,_,_,_,_,_,_,_,_,_,_,_,_,_,_,_,_,_,_,_,_,_,_,_,_,_,_,_,_,_,_,_,_,_,_,_,_,_,_,_,_,_,_,_,_,_,_,_,_,_,_,_,_,_,_,_,_,_,_,_,_,_,_,_,_,_,_,_,_,_,_,_,_,_,_,_,_,_,_,_,_,_,_,_,_,_,_,_,_,_,_,_,_,_,_,_,_,_,_,_,_,_,_,_,_,_,_,_,_,_,_,_,_,_,_,_,_,_,_,_,_,_,_,_,_,_,_,_,_,_,_,_,_,_,_,_,_,_,_,_⟩) b G c;case a=>k_is
  case F=>apply L2.Ar <;> k_is
  case T =>
   constructor;all_goals try (with_reducible refine PySem.W.mg_of b G ?_;dsimp only;k_is)
   all_goals try (first | with_reducible apply L2.Meth.mk | with_reducible apply L2.Mk.mk | with_reducible apply L2.Yr.mk | with_reducible apply L2.pH.mk) <;> (try dsimp only) <;> k_is
   all_goals try (apply L2.Ar <;> (try dsimp only) <;> k_is)
   all_goals try (with_reducible refine PySem.W.mg_none_of b G ?_;k_is)
   all_goals try (show PySem.W.findIn _ _ _=_;(try dsimp only);k_is)
   all_goals try (show PySem.W.kitOne _ _ _=_;(try dsimp only);kit_is)
   all_goals try (apply K63.W7 b G;k_is;exact⟨_,rfl⟩)
   all_goals try (apply K63.WE;(dsimp only;k_is);exact⟨rfl,rfl,by show _<=sizeLine;decide,by repeat (first | exact .nil | refine .cons ⟨_,rfl⟩ ?_)⟩)
   all_goals try ((first | with_reducible apply L2.Dq.mk | with_reducible apply L2.Tf.mk) <;> (try with_reducible apply L2.Tf.mk) <;> (try with_reducible apply L2.qL.mk) <;> (try dsimp only) <;> first | k_is | kernel_rfl)
   all_goals try (with_reducible refine d.intro ?_ (d.intro ?_ ?_) <;> (try dsimp only) <;> k_is)
   all_goals try (apply L2.Ar <;> (try dsimp only) <;> k_is)
   all_goals (try dsimp only) <;> first | k_is | k_exc | kernel_rfl
