import PyProof.Rows.All
import Wide.All
import OpenK.AllK
import Wide.FinOn
import Lean
import PyProof.EqAt
import PyProof.EqKinds
import PyProof.TupleCall
import KE.KRevSl
import KE.KDictSum
import KE.KEqDict
import PyProof.P3Eq
import KE.KTryMore
import KE.KSortTup
import PyProof.NeKinds
import KE.KLam
import PyProof.SetRoads
import KE.KIntText
import PyProof.DictValues
import PyProof.DictWalks
import KE.KItemsList
import PyProof.Toks
import PyProof.StrReplace2
import PyProof.StrLawsFirst
import KE.KMinKey
import PySem.Challenge.RW_parcelmend_k42_best_challenged
import KE.RegKIsAll
import KE.RegKTryMore
noncomputable section
set_option Elab.async false
set_option linter.all false
set_option genInjectivity false
set_option genSizeOf false
set_option genSizeOfSpec false
set_option maxRecDepth 100000
section
open PyProof PyProof.Rows PySem PySem.AutoSeq1 PySem.Builtin PySem.Builtin.Getset_descriptor PySem.Builtin.ObjectAttr PySem.Builtin.Str PySem.Calls PySem.MeetsSeq PySem.MeetsSeq2 PySem.MeetsSeq3 PySem.SeqAt PySem.Spec PySem.W
def ac:=@wpAny_bind
def ah:=@if_neg
def ap:=@if_pos
def aq:=@wpAny_pure
def au:=@List.length_map
def aE:=@decide_eq_true
def aH:=@Nat.le_refl
def aR:=@decide_eq_false
def aZ:=@Heap.lt_size
def bc:=@List.length_append
def bd:=@of_decide_eq_true
def be:=@List.mem_map
def bq:=@Heap.get?_push_of_some
def bw:=@List.mem_cons
def bE:=@Nat.ne_of_lt
def bF:=@List.length_cons
def bH:=@List.getElem?_eq_some_iff
def bN:=@List.getElem?_map
def bS:=@Nat.le_trans
def bV:=@Bool.false_ne_true
def b9:=@List.map_cons
def cj:=@List.take_length
def cy:=@List.mem_cons_of_mem
def cD:=@List.mem_cons_self
def cE:=@List.mem_singleton
def cI:=@List.mem_filter
def cJ:=@List.getElem?_eq_getElem
def da:=@Heap.get?_push_size
def db:=@List.length_take
def dm:=@Array.length_toList
def dn:=@Bool.and_eq_true
def dG:=@List.append_nil
def dN:=@wpAny_mono
def dO:=@Nat.zero_le
def dU:=@List.map_append
def dW:=@List.all_eq_true
def eg:=@List.mem_append
def eK:=@Option.some.inj
def eM:=@Ne.symm
def eN:=@List.mem_of_getElem?
def eX:=@Bool.eq_false_iff
def fL:=@congrArg
def gH:=@wpAny_holding
def gJ:=@Nat.lt_of_lt_of_le
def gK:=@List.length_filter_le
def g9:=@List.mem_range
def hJ:=@Nat.le_of_lt
def hU:=@List.getD_eq_getElem?_getD
def hX:=@PySem.boot_len
def hZ:=@PassesOwn.never
def iw:=@beq_eq_false_iff_ne
def ix:=@if_false
def iy:=@List.mem_append_right
def iz:=@List.size_toArray
def iU:=@Bool.false_and
def iV:=@beq_iff_eq
def iW:=@List.lookup_cons
def iX:=@wpAny_setState_of
def jn:=@Sum.inr.inj
def jo:=@List.length_nil
def jp:=@List.any_eq_true
def jq:=@Bool.true_and
def jI:=@List.nodup_cons
def jJ:=@PySem.W.mg_none_of
def kh:=@Bool.false_eq_true
def ki:=@Nat.ne_of_gt
def kj:=@Bool.and_false
def km:=@PySem.W.mg_of
def kn:=@plainId_quiet
def ko:=@codeAny_builtin
def kO:=@wpAny_call_entry
def kP:=@wpAny_truthy_bool
def kQ:=@Heap.SameBut.update
def kR:=@Around.under_plainId
def kS:=@List.flatMap_cons
def lI:=@Option.map_some
def lJ:=@List.mem_flatMap
def mT:=@wpAny_isInstance
def mU:=@Nat.lt_irrefl
def mV:=@List.length_singleton
def mX:=@Array.getElem?_toList
def mY:=@List.length_range
def oK:=@List.zip_cons_cons
def oM:=@sizeLine_eq
def oN:=@Heap.size_push
def oO:=@PySem.W.kia_one
def oP:=@Array.getD_eq_getD_getElem?
def oQ:=@Array.getElem?_eq_getElem
def oR:=@List.append_assoc
def oS:=@PyProof.Rows.boot_list
def oU:=@List.getElem?_of_mem
def qx:=@wpAny_forIn_list
def qy:=@Bool.eq_iff_iff
def qz:=@List.any_cons
def qA:=@List.cons_append
def qB:=@wpAny_askSetting
def qC:=@List.nil_append
def qD:=@PySem.F.plainAttrs_list
def qE:=@PyProof.Rows.boot_isinstance
def rX:=@wpAny_rule
def rY:=@codeAny_mono
def rZ:=@beq_self_eq_true
def r6:=@wpAny_newObj_type
def sd:=@Nat.not_lt_zero
def se:=@List.not_mem_nil
def sf:=@or_false
def uH:=@PySem.mem_of_lookup
def uI:=@List.nodup_nil
def uJ:=@List.length_eq_zero_iff
def uK:=@PySem.W.kat_nil
def uL:=@PySem.F.called_set
def uM:=@plain_eq_loop
def uN:=@List.map_map
def uO:=@List.take_of_length_le
def wY:=@Bool.not_true
def wZ:=@if_true
def w5:=@wpAny_seqItems
def xa:=@List.filterMap_cons
def xb:=@Nat.lt_succ_self
def xc:=@Nat.lt_trans
def xf:=@call_meetsIn
def xg:=@Option.getD_some
def xh:=@wpAny_newList
def xi:=@Nat.succ_pos
def xj:=@List.getElem_mem
def xk:=@fits_of_scanBound
def xm:=@List.pairwise_map
def xn:=@PySem.F.plain_max_loop
def xp:=@PyProof.Rows.boot_sorted
def xq:=@PySem.F.slot_list_extend
def xr:=@PySem.F.type_list_extend
def Bg:=@wpAny_specialOf
def Bh:=@Option.isSome_iff_exists
def Bi:=@Int.toNat_natCast
def Bj:=@List.find?_cons
def Bk:=@PySem.F.slot_dict_get
def Bl:=@decide_eq_decide
def Bm:=@listUpdate_at
def Bn:=@seqEpoch_at
def Bo:=@Nat.zero_add
def Bp:=@List.mem_iff_getElem
def Bq:=@Heap.get?_update_self
def Br:=@wpAny_storeSet_of
def Bt:=@Obj.data_mapFields
def Bu:=@Walks.list
def Bv:=@wpAny_dictEntries
def Bw:=@List.take_add_one
def Bx:=@wpAny_tryCatch
def By:=@List.getElem?_inj
def Bz:=@List.pairwise_cons
def BA:=@PyProof.Rows.boot_dict
def BB:=@Classical.byContradiction
def BC:=@List.append_eq_nil_iff
def BD:=@List.take_zero
def Fp:=@Paired.length
def Fq:=@List.getElem_inj
def Ft:=@wpAny_pyIter_list
def Fu:=@wpAny_passesOwn
def Fv:=@List.any_eq_false
def Fw:=@Nat.le_of_eq
def Fx:=@wpAny_Call_Name_kw
def Fz:=@Nat.le_succ
def FA:=@List.getElem?_append_right
def FC:=@richCompare_meets_room
def FD:=@List.map_nil
def FE:=@Bool.or_false
def FF:=@List.all_cons
def FG:=@Heap.get?_update_other
def FH:=@Bool.false_or
def FI:=@Nat.lt_succ_of_lt
def FJ:=@wpAny_ite_split
def FK:=@List.mem_map_of_mem
def FL:=@Array.getElem?_eq_none
def FM:=@List.nodup_append
def FN:=@Heap.SameBut.refl
def FO:=@wpAny_setField
def FP:=@wpAny_updateSeq
def FQ:=@wpAny_dictEpoch
def FR:=@List.not_lt
def FS:=@Nat.not_lt
def FT:=@PySem.F.slot_dict_keyiterator_next
def FU:=@List.filter_append
def FV:=@List.filter_cons
def FW:=@Nat.succ_le_succ
def FX:=@List.filter_eq_nil_iff
def FY:=@Nat.mul_succ
def FZ:=@List.eq_nil_of_length_eq_zero
def F0:=@PyProof.Rows.boot_set
def F2:=@List.foldl_append
def L3:=@F.slot_tuple_hash
def L4:=@Nat.add_assoc
def L5:=@List.cons.injEq
def L6:=@F.slot_tuple_eq
def L7:=@PyProof.Rows.callWith_type1
def L8:=@List.mem_filterMap
def L9:=@Calls.spliced_cons
def Ma:=@wpAny_call
def Mb:=@List.getElem?_append_left
def Mc:=@AutoSeq1.sub_tuple_tuple
def Me:=@List.zip_nil_left
def Mf:=@List.zip_nil_right
def Mg:=@SeqAt.EqAt.same
def Mh:=@Calls.callWith_builtin
def Mi:=@Bool.true_or
def Mj:=@PySem.F.entry_dict_get
def Ml:=@Nat.le_of_not_lt
def Mm:=@Nat.lt_of_le_of_lt
def Mn:=@Calls.call_function_entry
def Mo:=@kind_sorted
def Mp:=@plain_sorted
def Mq:=@entry_sorted
def Mr:=@args_sorted1
def Ms:=@slot_list_sort
def Mt:=@entry_list_sort
def Mu:=@args_list_sort
def Mw:=@sortedHeap_at
def Mx:=@sortedHeap_old
def My:=@entryFor_alias
def Mz:=@wpAny_pyIter_slot
def MA:=@wpAny_typeOf
def MD:=@get?_update_seq
def ME:=@Heap.get?_update_ne
def MF:=@bne_self_eq_false
def MG:=@Nat.add_zero
def MH:=@Nat.mod_lt
def MI:=@List.range_succ
def MJ:=@wpAny_of_eq
def MK:=@List.lt_irrefl
def MM:=@Nat.succ_mul
def MN:=@wpAny_typeNameOfWhole_keyiter
def MO:=@wpAny_typeNameOf_keyiter
def MP:=@wpAny_letGo
def MQ:=@entry_eq_loop
def MR:=@Nat.le_add_right
def MV:=@List.all_map
def MW:=@Nat.mul_le_mul_right
def MX:=@List.pairwise_singleton
def MY:=@List.sum_cons
def MZ:=@plain_contains_loop
def Ut:=@wpAny_eqBool_int
def Uu:=@wpAny_tupleItemsOf
def Uv:=@Array.forIn_toList
def Uw:=@isSubtype_tuple_tuple
def Ux:=@List.mem_append_left
def Uy:=@wpAny_execs_nil
def Uz:=@wpAny_execs_cons
def UA:=@PySem.W.plainGet_of
def UB:=@Calls.spliced_nil
def UC:=@PySem.W.callWith_K
def UD:=@wpAny_standAt
def UE:=@List.of_mem_zip
def UG:=@List.length_replicate
def UH:=@Calls.evalArgs_plain
def UI:=@Option.isSome_map
def UJ:=@PySem.F.plainAttrs_dict
def UK:=@PySem.W.kqd_eqv
def UM:=@List.map_take
def UN:=@typeLookup_type
def UO:=@builtinLookup_eq_fast
def UP:=@isSubtype_type
def UQ:=@Bool.or_true
def UR:=@PySem.W.kat_cons
def UU:=@PySem.W.kat_go
def UV:=@PySem.W.kat_yes
def UW:=@PySem.W.kat_no
def UX:=@Nat.succ_lt_succ_iff
def UY:=@PySem.W.kat_one
def UZ:=@wpAny_newTuple
def U0:=@Array.toList_inj
def U1:=@List.Perm.refl
def U2:=@List.find?_eq_none
def U3:=@List.find?_some
def U4:=@List.foldl_cons
def U5:=@Obj.isFreed_of_fields
def U6:=@Obj.cls_mapFields
def U7:=@wpAny_attempt
def U8:=@wpAny_callSpecial?_slot
def U9:=@wpAny_fieldsOf
def Va:=@Bool.and_self
def Vb:=@sub_set_self
def Vc:=@PyProof.Rows.F.plain_set_update_loop
def Vd:=@List.le_antisymm
def Ve:=@PySem.F.entry_max_loop
def Vf:=@List.filter_sublist
def Vg:=@List.perm_ext_iff_of_nodup
def Vh:=@Bool.and_eq_true_iff
def Vi:=@List.map_inj_right
def Vj:=@PySem.F.slot_list_append
def Vk:=@PySem.F.type_list_append
def Vl:=@List.take_append_drop
def Vm:=@List.getElem_take
def Vn:=@List.mem_of_find?_eq_some
def Vo:=@Bool.not_eq_true
def Vp:=@List.exists_mem_of_ne_nil
def Vq:=@List.map_eq_nil_iff
def Vr:=@Bool.not_eq_true'
def arU:=@wpAny_richCompare_same_room
def arV:=@List.getElem?_set_self
def arW:=@Calls.Name_function_global
def arX:=@wpAny_isTrue_Compare1
def arY:=@PySem.W.methodCall_KW
def arZ:=@PySem.W.cellsFrom_some
def ar0:=@List.getElem?_replicate
def ar1:=@subscriptTail_builtinR
def ar2:=@PySem.F.args_dict_get_2
def ar3:=@PySem.F.args_dict_get_3
def ar4:=@PySem.F.type_dict_get
def ar5:=@wpAny_comprehension_free
def ar6:=@PySem.F.slot_dict_itemiterator_iter
def ar7:=@PySem.F.slot_dict_items
def ar8:=@List.getElem?_eq_none
def ar9:=@List.length_eraseIdx_of_lt
def asa:=@PySem.F.slot_set_iter
def asb:=@filterMap_getElem?_range
def asc:=@PySem.F.plain_extend_loop
def asd:=@PySem.F.plain_list_iadd
def ase:=@PySem.F.plain_set_new
def asf:=@PyProof.Rows.F.entry_set_update_loop
def asg:=@List.drop_eq_getElem_cons
def ash:=@Array.perm_iff_toList_perm
def asi:=@PySem.F.slot_dict_iter
def asj:=@PySem.F.entry_dict_keyiterator_next
def asm:=@PySem.F.args_dict_keyiterator_next_1
def asn:=@wpAny_isOneOf_keyiter
def aso:=@AutoSeq1.sub_list_list
def asp:=@List.pairwise_flatMap
def asq:=@PyProof.Rows.ltCps_eq
def asr:=@List.rel_of_pairwise_cons
def ass:=@List.Perm.eq_of_pairwise
def ast:=@PyProof.Rows.boot_any
def asu:=@List.getElem?_zip_eq_some
def asv:=@List.flatMap_eq_nil_iff
def asw:=@Bool.and_eq_false_iff
def asx:=@PySem.F.slot_list_contains
end
abbrev Fg:=PySem.W.Frag
abbrev VP:=PySem.Value->PySem.Shared->Prop
abbrev Po:=List (PySem.Addr×PySem.Obj)
abbrev Mv:=PySem.Str->Option PySem.Value
abbrev Oi:=Option (List Int)
abbrev Ll:=List (List Int)
abbrev Ls:=List PySem.Str
abbrev Lw:=List PySem.Value
abbrev Av:=Array PySem.Value
abbrev Oa:=Option PySem.Addr
abbrev Fy:=PySem.FuncData
namespace L2
open PySem PySem.Spec PyProof.Rows
abbrev aN:=Sum Int Str
def oV:aN->Value->Bool
 | .inl k,v=>Value.isInt k v
 | .inr x,v=>Value.isStrOf x v
def lK(w:World):aN->Int
 | .inl k=>hashInt k
 | .inr x=>hashStr w x
theorem jr:∀{k:aN} {v:Value},oV k v=true->(∃i t,k=Sum.inl i/\v=Value.int i t)\/(∃x t,k=Sum.inr x/\v=Value.str x t)
 | .inl i,v,h=>by
  obtain⟨t,e⟩:=Value.isInt_shape (k:=i) (v:=v) h;exact .inl ⟨i,t,rfl,e⟩
 | .inr x,v,h=>by
  obtain⟨t,e⟩:=Value.isStrOf_shape (x:=x) (v:=v) h;exact .inr ⟨x,t,rfl,e⟩
theorem Vs(i:Int)(t:Tok):oV (.inl i) (.int i t)=true:=by simp[oV,Value.isInt]
theorem Vt(x:Str)(t:Tok):oV (.inr x) (.str x t)=true:=by simp[oV,Value.isStrOf]
theorem Vu(a b:Int):decide ((Sum.inl a:aN)=Sum.inl b)=(a == b):=by
 by_cases e:a=b
 . subst e;simp
 . have h:¬(Sum.inl a:aN)=Sum.inl b:=fun q=>e (Sum.inl.inj q);rw[aR h];exact(iw.mpr e).symm
theorem Vv(a b:Str):decide ((Sum.inr a:aN)=Sum.inr b)=decide (a=b):=by
 by_cases e:a=b
 . subst e;simp
 . have h:¬(Sum.inr a:aN)=Sum.inr b:=fun q=>e (jn q);rw[aR h,aR e]
theorem Vw(a:Int)(b:Str):decide ((Sum.inl a:aN)=Sum.inr b)=false:=aR (fun q=>nomatch q)
theorem Vx(a:Str)(b:Int):decide ((Sum.inr a:aN)=Sum.inl b)=false:=aR (fun q=>nomatch q)
def cm(prog:Program)(w:World):PySem.KeyKind prog w aN where
 is:=oV
 hash:=lK w
 inj:=fun v a b ha hb=>by
  rcases jr ha with⟨i,t,rfl,rfl⟩ | ⟨x,t,rfl,rfl⟩
  . rcases jr hb with⟨j,u,rfl,e⟩ | ⟨y,u,rfl,e⟩
    . injection e with e1 _;rw[e1]
    . exact nomatch e
  . rcases jr hb with⟨j,u,rfl,e⟩ | ⟨y,u,rfl,e⟩
    . exact nomatch e
    . injection e with e1 _;rw[e1]
 byValue:=fun k v h=>by
  rcases jr h with⟨i,t,rfl,rfl⟩ | ⟨x,t,rfl,rfl⟩<;>rfl
 pyHash:=fun hv h=>by
  rcases jr hv with⟨i,t,rfl,rfl⟩ | ⟨x,t,rfl,rfl⟩
  . exact wpAny_pyHash_int h
  . exact wpAny_pyHash_str h
 eqBool:=fun hu hv h=>by
  rcases jr hu with⟨i,t,rfl,rfl⟩ | ⟨x,t,rfl,rfl⟩
  . rcases jr hv with⟨j,u,rfl,rfl⟩ | ⟨y,u,rfl,rfl⟩
    . rw[Vu]at h;exact Ut h
    . rw[Vw]at h;exact SeqAt.EqAt.int_str i t y u _ _ _ _ h
  . rcases jr hv with⟨j,u,rfl,rfl⟩ | ⟨y,u,rfl,rfl⟩
    . rw[Vx]at h;exact SeqAt.EqAt.str_int x t j u _ _ _ _ h
    . rw[Vv]at h;exact wpAny_eqBool_str h
 «strs»:=fun k x t v h=>by
  rcases jr h with⟨i,u,rfl,e⟩ | ⟨y,u,rfl,e⟩
  . exact nomatch e
  . injection e with e1 _
    subst e1;cases v<;>rfl
theorem Vy(prog:Program)(w:World)(i:Int)(t:Tok):(cm prog w).is (.inl i) (.int i t)=true:=Vs i t
theorem sg(prog:Program)(w:World)(x:Str)(t:Tok):(cm prog w).is (.inr x) (.str x t)=true:=Vt x t
abbrev NI:=Sum aN (List aN)
section
variable {P:Program} {w:World}
def lL(P:Program)(w:World)(h:Heap):NI->Value->Prop
 | .inl k,v=>oV k v=true
 | .inr ls,v=>∃b,v = .ref b/\IsTupleKey (cm P w) h ls b
inductive jt (P:Program) (w:World) (h:Heap):List NI->Lw->Prop
 | nil:jt P w h [] []
 | cons {i:NI} {v:Value} {ks:List NI} {vs:Lw}:lL P w h i v->jt P w h ks vs->jt P w h (i::ks) (v::vs)
def ju(P:Program)(w:World)(h:Heap)(ks:List NI)(a:Addr):Prop:=∃o items n,h.get? a=some o/\o.cls = .type "tuple"/\o.data = .seq items n/\jt P w h ks items.toList
def BE(P:Program)(w:World):NI->Int
 | .inl k=>lK w k
 | .inr ls=>tupleKeyHash (cm P w) ls
def F3:NI->Nat
 | .inl _=>1
 | .inr ls=>ls.length+1
def F4(P:Program)(w:World)(ks:List NI):Int:=reduceHash (Builtin.Tuple.tupleHashOf (ks.map (BE P w)))
def BF(ks:List NI):Nat:=(ks.map F3).sum+1
theorem lL.inj{h:Heap}{i j:NI}{v:Value}(a:lL P w h i v)(b:lL P w h j v):i=j:=by
 cases i with
 | inl k=>
  cases j with
  | inl l=>rw[(cm P w).inj v k l a b]
  | inr l=>
   obtain⟨c,rfl,_⟩:=b
   rcases jr a with⟨_,_,_,e⟩ | ⟨_,_,_,e⟩<;>cases e
 | inr k=>
  obtain⟨c,rfl,hc⟩:=a;cases j with
  | inl l=>rcases jr b with⟨_,_,_,e⟩ | ⟨_,_,_,e⟩<;>cases e
  | inr l=>
   obtain⟨d,e,hd⟩:=b;cases e;rw[hc.inj hd]
theorem jt.inj{h:Heap}{x y:List NI}{vs:Lw}(a:jt P w h x vs)(b:jt P w h y vs):x=y:=by
 induction a generalizing y with
 | nil=>cases b;rfl
 | cons p _ ih=>
  cases b with
  | cons q r=>rw[p.inj q,ih r]
theorem ju.typeIs{s:Shared}{ks:List NI}{a:Addr}(x:ju P w s.heap ks a):s.TypeIs (.ref a) "tuple":=x.elim fun o Vz=>Vz.elim fun _ VA=>VA.elim fun _ VB=>VB.elim fun ho VC=>VC.elim fun hc _=>⟨o,ho,hc⟩
theorem ju.inj{h:Heap}{a:Addr}{x y:List NI}(p:ju P w h x a)(q:ju P w h y a):x=y:=by
 obtain⟨o,its,n,e,_,d,i⟩:=p;obtain⟨o',its',n',e',_,d',i'⟩:=q;rw[e]at e';cases e';rw[d]at d';injection d' with d1 _
 subst d1;exact i.inj i'
theorem jt.keeps{h h':Heap}{ks:List NI}{vs:Lw}(k:∀ls b,IsTupleKey (cm P w) h ls b->IsTupleKey (cm P w) h' ls b)(x:jt P w h ks vs):jt P w h' ks vs:=by
 induction x with
 | nil=>exact .nil
 | @cons i v ks vs p _ ih=>
  refine .cons ?_ ih;cases i with
  | inl l=>exact p
  | inr l=>
   obtain⟨b,e,hb⟩:=p;exact⟨b,e,k _ _ hb⟩
theorem ju.keeps{h h':Heap}{ks:List NI}{a d:Addr}{o:Obj}{es:Array DictEntry}{ep:Nat}(x:ju P w h ks a)(ho:h.get? d=some o)(hd:o.data = .dict es ep)(hs:Heap.SameBut d h h'):ju P w h' ks a:=by
 obtain⟨oa,its,n,e,c,e2,i⟩:=x;have ne:a≠d:=by
  intro z;rw[z,ho]at e;cases e;rw[hd]at e2;cases e2
 exact⟨oa,its,n,(hs.2 a ne).trans e,c,e2,i.keeps fun ls b hb=>hb.keeps ho hd hs⟩
variable {A:Around} {E:VP} {s:Shared}
theorem lL.hash{i:NI}{v:Value}{Q:Int->Shared->Prop}(hu:A.units<cLine)(x:lL P w s.heap i v)(h:Q (BE P w i) { s with toks:=s.toks+F3 i }):wpAny (model P w) A (pyHash v) Q E s:=by
 cases i with
 | inl k=>exact(cm P w).pyHash (k:=k) x h
 | inr ls=>
  obtain⟨b,rfl,hb⟩:=x;exact wpAny_pyHash_tuple hu hb h
theorem lL.eq{i j:NI}{u v:Value}{Q:Bool->Shared->Prop}(hu:A.units<cLine)(x:lL P w s.heap i u)(y:lL P w s.heap j v)(h:Q (decide (i=j)) s):wpAny (model P w) A (eqBool u v) Q E s:=by
 cases i with
 | inl k=>
  cases j with
  | inl l=>
   have e:decide ((Sum.inl k:NI)=Sum.inl l)=decide (k=l):=by
    by_cases q:k=l
    . rw[q];simp
    . rw[aR q,aR (fun z=>q (Sum.inl.inj z))]
   rw[e]at h;exact(cm P w).eqBool (a:=k) (b:=l) x y h
  | inr l=>
   rw[aR (fun z=>nomatch z)]at h;obtain⟨b,rfl,o,its,n,e,c,d,_⟩:=y
   rcases jr x with⟨a,t,_,rfl⟩ | ⟨a,t,_,rfl⟩
   . exact SeqAt.EqAt.int_tuple a t ⟨o,e,c,n,d⟩ hu _ _ _ _ h
   . exact SeqAt.EqAt.str_tuple a t ⟨o,e,c,n,d⟩ hu _ _ _ _ h
 | inr k=>
  obtain⟨a,rfl,ha⟩:=x;cases j with
  | inl l=>
   rw[aR (fun z=>nomatch z)]at h;obtain⟨o,its,n,e,c,d,_⟩:=ha
   rcases jr y with⟨b,t,_,rfl⟩ | ⟨b,t,_,rfl⟩
   . exact SeqAt.EqAt.tuple_int b t ⟨o,e,c,n,d⟩ hu _ _ _ _ h
   . exact SeqAt.EqAt.tuple_str b t ⟨o,e,c,n,d⟩ hu _ _ _ _ h
  | inr l=>
   obtain⟨b,rfl,hb⟩:=y;have e:decide ((Sum.inr k:NI)=Sum.inr l)=decide (k=l):=by
    by_cases q:k=l
    . rw[q];simp
    . rw[aR q,aR (fun z=>q (jn z))]
   rw[e]at h;exact wpAny_eqBool_tuple hu ha hb h
theorem VD{ks:List NI}{a:Addr}{Q:Int->Shared->Prop}(hu:A.units+8<cLine)(hk:ju P w s.heap ks a)(h:Q (F4 P w ks) { s with toks:=s.toks+BF ks }):wpAny (model P w) A (pyHash (.ref a)) Q E s:=by
 have hT:=hk.typeIs;obtain⟨o,its,n,ho,_,hd,hi⟩:=hk;have jK:A.units<cLine:=by omega
 unfold pyHash
 first | unfold pyHashByItsType | skip
 first | refine ac (wpAny_cRoomFor_or (.inr jK) ?_) | skip
 refine ac (Bg hT L3.lookup ?_);show wpAny _ _ (if (some (Value.builtin "tuple.__hash__") == some Value.none)=true then _ else _) Q E s;rw[ah (by rw[beq_builtin_none];exact bV)];refine ac (Bg hT L3.lookup ?_);show wpAny _ _ (callSpecialIfBoundUnlessNone? (.ref a) "__hash__" _ >>= _) Q E s;refine ac (wpAny_callSpecialIfBoundUnlessNone?_slot hT L3 (kO L3 hT F.entry_tuple_hash ?_ (F.args_tuple_hash_1 _)));show wpAny _ _ (Builtin.Tuple.tupleItemsOf (.ref a) >>= _) _ _ s;refine ac (Uu ho hd ?_);refine ac ?_;rw[←Uv];refine qx _
  (fun rest (b:Array Int) s'=>∃done left,ks=done++left/\jt P w s.heap left rest/\b.toList=done.map (BE P w)/\s' = { s with toks:=s.toks+(done.map F3).sum })
  _ ?_ ?_ _ _ ⟨[],ks,rfl,hi,rfl,rfl⟩
 . rintro x rest b s' ⟨done,left,rfl,hl,hb,rfl⟩;cases hl with
   | @cons k _ jL _ h1 qF=>
    refine ac (lL.hash (i:=k) (show A.units+1<cLine by omega) h1 ?_)
    first
     | exact aq ⟨done++[k],jL,by simp,qF,by simp[hb],by simp[L4]⟩
     | exact ac (aq (aq ⟨done++[k],jL,by simp,qF,by simp[hb],by simp[L4]⟩))
 . rintro b s' ⟨done,left,rfl,hl,hb,rfl⟩;cases hl;rw[dG]at h;show wpAny _ _ (retInt (Builtin.Tuple.tupleHashOf b.toList)) _ _ _;rw[hb];refine wpAny_ret_mkInt ?_;generalize hz:Builtin.Tuple.tupleHashOf (done.map (BE P w))=z at h ⊢;show wpAny _ _ (if (decide (-(2:Int) ^ 63<=z) && decide (z<2 ^ 63))=true then _ else _) Q E _;unfold F4 reduceHash at h;rw[hz]at h
   by_cases hr:(decide (-(2:Int) ^ 63<=z) && decide (z<2 ^ 63))=true
   . rw[ap hr];rw[ap hr]at h;exact aq (by simpa [L4,BF]using h)
   . rw[ah hr];rw[ah hr]at h;exact ac (rX (aq (by simpa [L4,BF]using h)))
theorem VE{x y:List NI}{a b:Addr}{R:PySem.Fin->Shared->Prop}(hu:A.units<cLine)(hx:ju P w s.heap x a)(hy:ju P w s.heap y b)(h:R (.done (.ret (.bool (decide (x=y))))) s) :
 wpAny (model P w) A (Builtin.«tuple.__eq__» ⟨[.ref a,.ref b],[]⟩) R E s:=by
 have VF:=hy.typeIs;obtain⟨oa,xs,na,F5,_,VG,VH⟩:=hx;obtain⟨ob,ys,nb,mZ,_,oW,VI⟩:=hy;show wpAny _ _ (isInstance (.ref b) (.type "tuple") >>= _) _ _ s;refine ac (mT VF Uw ?_);simp only[wY,kh,ix];refine ac (Uu F5 VG ?_);refine ac (Uu mZ oW ?_);refine ac ?_;refine qx _
  (fun rest r s'=>r.1=none/\s'=s/\∃x' y' jM aX,rest=List.zip jM aX/\jt P w s.heap x' jM/\jt P w s.heap y' aX/\decide (x'=y')=decide (x=y)/\(jM.length == aX.length)=(xs.size == ys.size))
  _ ?_ ?_ _ _ ⟨rfl,rfl,x,y,xs.toList,ys.toList,rfl,VH,VI,rfl,by simp⟩
 . rintro⟨u,v⟩ rest r s' ⟨hr,rfl,x',y',jM,aX,hz,kT,uP,BG,hlen⟩;cases kT with
   | nil=>simp at hz
   | @cons k1 u' M0 VJ h1 VL=>
    cases uP with
    | nil=>simp at hz
    | @cons k2 v' M3 VM h2 VN=>
     simp only[oK,L5,Prod.mk.injEq]at hz;obtain⟨⟨rfl,rfl⟩,rfl⟩:=hz;refine ac (lL.eq (i:=k1) (j:=k2) hu h1 h2 ?_)
     by_cases hk:k1=k2
     . subst hk;rw[aE rfl];simp only[wY,kh,ix];refine aq ⟨rfl,rfl,M0,M3,VJ,VM,rfl,VL,VN,?_,by simpa using hlen⟩;rw[←BG]
       by_cases BH:M0=M3
       . simp[BH]
       . simp[BH]
     . rw[aR hk];simp only[Bool.not_false,wZ];have hf:decide (x=y)=false:=by rw[←BG];simp[hk]
       rw[hf]at h;exact ac (aq (aq (aq h)))
 . rintro⟨r1,r2⟩ s' ⟨hr,rfl,x',y',jM,aX,hz,kT,uP,BG,hlen⟩;simp only at hr;subst hr;refine aq ?_;have VO:(xs.size == ys.size)=decide (x=y):=by
    rw[←BG,←hlen];cases kT with
    | nil=>
     cases uP with
     | nil=>simp
     | cons _ _=>simp
    | cons _ _=>
     cases uP with
     | nil=>simp
     | cons _ _=>simp at hz
   show R (.done (.ret (.bool (xs.size == ys.size)))) s';rw[VO];exact h
theorem VQ{x y:List NI}{a b:Addr}{Q:Bool->Shared->Prop}(hu:A.units+8<cLine)(hx:ju P w s.heap x a)(hy:ju P w s.heap y b)(h:Q (decide (x=y)) s) :
 wpAny (model P w) A (eqBool (.ref a) (.ref b)) Q E s:=by
 unfold eqBool
 try with_reducible refine gH ?_
 show wpAny _ _ (if (Value.ref a == Value.ref b)=true then _ else _) Q E s
 by_cases ku:(Value.ref a == Value.ref b)=true
 . rw[ap ku];have e:a=b:=by have:=eq_of_beq ku;injection this
   subst e;obtain rfl:=hx.inj hy;exact ac (rX (aq (by simpa using h)))
 . rw[ah ku];exact ac (arU (op:=.Eq) hx.typeIs hy.typeIs L6
    (kO L6 hx.typeIs F.entry_tuple_eq (VE (show A.units+1<cLine by omega) hx hy ⟨_,rfl,(fun e=>nomatch e),kP h⟩) (F.args_tuple_eq_2 _ _)) (by omega))
theorem VR{M:Model}{ls:List aN}{a:Addr}{n:Nat}{Q:Bool->Shared->Prop}(hk:IsTupleKey (cm P w) s.heap ls a)(h:Q true s):wpAny M A (eqIsQuiet (n+1) (.ref a)) Q E s:=by
 have hT:=hk.typeIs;obtain⟨o,its,m,ho,_,hd,hi⟩:=hk;unfold eqIsQuiet;refine ac (Bg hT L6.lookup ?_);show wpAny _ _ (isInstance (.ref a) (.type "tuple") >>= _) _ _ s;refine ac (mT hT Uw ?_);simp only[wY,kh,ix];refine ac (w5 ho hd ?_);refine ac ?_;show wpAny _ _ (forIn its _ _) _ _ s;rw[←Uv];refine qx _ (fun rest r s'=>r.1=none/\s'=s/\∀v∈rest,carriedByValue v=true) _ ?_ ?_ _ _ ⟨rfl,rfl,hi.byValue⟩
 . rintro v rest r s' ⟨hr,rfl,fO⟩;rw[eqIsQuiet_byValue _ (fO v cD)];refine ac (aq ?_);simp only[wY,kh,ix];exact aq ⟨rfl,rfl,fun u VS=>fO u (cy _ VS)⟩
 . rintro⟨r1,r2⟩ s' ⟨hr,rfl,_⟩;simp only at hr;subst hr;exact aq h
theorem VT{M:Model}{ks:List NI}{a:Addr}{Q:Bool->Shared->Prop}(hk:ju P w s.heap ks a)(h:Q true s):wpAny M A (eqIsQuiet 8 (.ref a)) Q E s:=by
 have hT:=hk.typeIs;obtain⟨o,its,m,ho,_,hd,hi⟩:=hk;unfold eqIsQuiet;refine ac (Bg hT L6.lookup ?_);show wpAny _ _ (isInstance (.ref a) (.type "tuple") >>= _) _ _ s;refine ac (mT hT Uw ?_);simp only[wY,kh,ix];refine ac (w5 ho hd ?_);refine ac ?_;show wpAny _ _ (forIn its _ _) _ _ s;rw[←Uv];refine qx _ (fun rest r s'=>r.1=none/\s'=s/\∃ls,jt P w s.heap ls rest) _ ?_ ?_ _ _ ⟨rfl,rfl,ks,hi⟩
 . rintro v rest r s' ⟨hr,rfl,ls,BI⟩;cases BI with
   | @cons i _ F6 _ h1 h2=>
    have fin:∀{R:Bool->Shared->Prop},R true s'->wpAny M A (eqIsQuiet 7 v) R E s':=fun {R} q=>by
     cases i with
     | inl k=>
      rw[eqIsQuiet_byValue _ ((cm P w).byValue k v h1)];exact aq q
     | inr l=>
      obtain⟨b,rfl,hb⟩:=h1;exact VR hb q
    refine ac (fin ?_);simp only[wY,kh,ix];exact aq ⟨rfl,rfl,F6,h2⟩
 . rintro⟨r1,r2⟩ s' ⟨hr,rfl,_⟩;simp only at hr;subst hr;exact aq h
end
def oX(P:Program)(w:World):HeapKind P w (List NI) where
 is:=ju P w
 hash:=F4 P w
 draws:=BF
 room:=fun A=>A.units+8<cLine
 inj:=fun a b=>a.inj b
 keeps:=fun x ho hd hs=>x.keeps ho hd hs
 pyHash:=fun hu hk h=>VD hu hk h
 eqBool:=fun hu hx hy h=>VQ hu hx hy h
 quiet:=fun hk h=>VT hk h
theorem uQ{P:Program}{w:World}{A:Around}(hu:A.units+64<cLine):(oX P w).room A.in1:=show A.units+1+8<cLine by omega
set_option genInjectivity true in
inductive V where
 | non | bl (b:Bool) | int (i:Int) | str (x:Str) | byt (b:Array UInt8) | flt (b:UInt64) | ref (a:Addr) | ty (n:String)
 deriving DecidableEq
abbrev Lv:=List V
def RelV:V->Value->Prop
 | .non,u=>u=Value.none
 | .bl b,u=>u=Value.bool b
 | .int i,u=>∃t,u=Value.int i t
 | .str x,u=>∃t,u=Value.str x t
 | .byt b,u=>∃t,u=Value.bytes b t
 | .flt b,u=>∃t,u=Value.float b t
 | .ref a,u=>u=Value.ref a
 | .ty n,u=>u=Value.type n
abbrev a8:Lv->Lw->Prop:=Paired RelV
theorem a8.length{xs:Lv}{us:Lw}(r:a8 xs us):xs.length=us.length:=Fp r
theorem a8.get:∀{xs:Lv} {us:Lw} {i:Nat} {x:V},a8 xs us->xs[i]? = some x->∃u,us[i]? = some u/\RelV x u
 | _,_,_,_,.nil,e=>by simp at e
 | _,_,0,_,.cons r _,e=>by simp at e;subst e;exact⟨_,rfl,r⟩
 | _,_,i+1,x,.cons _ t,e=>by
  obtain⟨u,h1,h2⟩:=a8.get (i:=i) (x:=x) t (by simpa using e);exact⟨u,by simpa using h1,h2⟩
theorem a8.append:∀{xs ys:Lv} {us ws:Lw},a8 xs us->a8 ys ws->a8 (xs++ys) (us++ws)
 | _,_,_,_,.nil,s=>s
 | _,_,_,_,.cons r t,s=>.cons r (a8.append t s)
theorem a8.take:∀{xs:Lv} {us:Lw} (n:Nat),a8 xs us->a8 (xs.take n) (us.take n)
 | _,_,0,_=>.nil
 | _,_,_+1,.nil=>.nil
 | _,_,n+1,.cons r t=>.cons r (a8.take n t)
theorem a8.drop:∀{xs:Lv} {us:Lw} (n:Nat),a8 xs us->a8 (xs.drop n) (us.drop n)
 | _,_,0,r=>r
 | _,_,_+1,.nil=>.nil
 | _,_,n+1,.cons _ t=>a8.drop n t
def ia:Option V->Option Value->Prop
 | some v,some u=>RelV v u
 | none,none=>True
 | _,_=>False
def KV{κ:Type}:List (κ×V)->List (κ×Value)->Prop:=Paired fun(p:κ×V) (q:κ×Value)=>p.1=q.1/\RelV p.2 q.2
def kV:aN->V
 | .inl i=>.int i
 | .inr x=>.str x
inductive HO where
 | lst (xs:Lv)
 | tup (xs:Lv)
 | dK (kvs:List (aN×V)) | dT (kvs:List (List NI×V))
 | set (S:Int->Bool) (n:Nat)
 | ins (C dx:Addr) (fs:List (Str×V))
 | own (x:Addr)
 | xd (fs:List (Str×V))
 | met (f x:Addr)
 | rng (lo hi:Int)
 | frz (o:Obj) (u:HO)
 | tbl (ps:Av)
 | ext (φ:Heap->Prop)
abbrev Hp:=Addr->Option HO
def aj(H:Hp)(a:Addr)(o:HO):Hp:=fun b=>if b=a then some o else H b
theorem aP{H:Hp}{a:Addr}{o:HO}:aj H a o a=some o:=by unfold aj;rw[ap rfl]
theorem aL{H:Hp}{a b:Addr}{o:HO}(h:b≠a):aj H a o b=H b:=by unfold aj;rw[ah h]
theorem VU{H:Hp}{a:Addr}{o u:HO}:aj (aj H a o) a u=aj H a u:=by
 funext b;unfold aj;split<;>rfl
theorem eP{H:Hp}{a b:Addr}{o u:HO}(h:H a=some o)(h':H b=some u)(d:o≠u):a≠b:=by
 intro e;subst e;rw[h]at h';exact d (eK h')
theorem bg{H:Hp}{a b:Addr}{o:HO}(h:H a=some o)(h':H b=none):a≠b:=by
 intro e;subst e;rw[h]at h';cases h'
def NV(H:Hp):NI->V->Prop
 | .inl k,v=>v=kV k
 | .inr ls,v=>∃b,v = .ref b/\H b=some (.tup (ls.map kV))
abbrev M4 (H:Hp):List NI->Lv->Prop:=Paired (NV H)
def ib(H:Hp)(ks:List NI)(a:Addr):Prop:=∃vs,H a=some (.tup vs)/\M4 H ks vs
theorem aM{α β:Type}{F G:α->β->Prop}:∀{l₁:List α} {l₂:List β},Paired F l₁ l₂->(∀a b,F a b->G a b)->Paired G l₁ l₂
 | _,_,.nil,_=>.nil
 | _,_,.cons r t,f=>.cons (f _ _ r) (aM t f)
theorem ib.keeps{H H':Hp}{ks:List NI}{a:Addr}(x:ib H ks a)(ht:∀b xs,H b=some (.tup xs)->H' b=some (.tup xs)):ib H' ks a:=by
 obtain⟨vs,e,r⟩:=x;refine⟨vs,ht _ _ e,aM r fun i v z=>?_⟩;cases i with
 | inl k=>exact z
 | inr l=>
  obtain⟨b,e1,e2⟩:=z;exact⟨b,e1,ht _ _ e2⟩
section
variable (P:Program) (w:World)
def bG(H:Hp)(h:Heap)(a:Addr):HO->Prop
 | .lst xs=>xs.length<=sizeLine/\∃(its:Lw) (n:Nat),a8 xs its/\h.get? a=some { cls:=.type "list",data:=.seq its.toArray n }
 | .tup xs=>xs.length<=sizeLine/\∃its:Lw,a8 xs its/\IsTup h a its.toArray
 | .dK kvs=>kvs.length<=sizeLine/\(a == sysModules)=false/\∃vs,KV kvs vs/\h.DictOf (cm P w) a vs
 | .dT kvs=>kvs.length<=sizeLine/\(a == sysModules)=false/\∃xs:List (List NI×Addr×Value),
  Paired (fun(p:List NI×V) (q:List NI×Addr×Value)=>p.1=q.1/\ib H p.1 q.2.1/\RelV p.2 q.2.2) kvs xs /\
  ∃o es ep,h.get? a=some o/\o.ExactDict/\o.data = .dict es ep/\es.toList=xs.map (entryOfKey (oX P w))/\(xs.map (·.1)).Nodup
 | .set S n=>h.SetOf (intKind P w) a S n
 | .ins C dx fs=>H dx=some (.own a)/\fs.length<=1000/\dx≠a/\h.get? a=some (PySem.W.instObj C dx) /\
  ∃mA,h.Ns1 dx mA/\(∀f,ia (fs.lookup f) (mA f))/\PySem.Within mA (fs.map (·.1))
 | .own _=>∃o,h.get? a=some o
 | .xd fs=>∃mA,h.Ns1 a mA/\∀f,ia (fs.lookup f) (mA f)
 | .rng lo hi=>∃t u v,h.get? a=some { cls:=.type "range",data:=.fields #[.int lo t,.int hi u,.int 1 v] }
 | .frz o u=>h.get? a=some o/\bG H h a u
 | .tbl ps=>h.get? a=some { cls:=.none,data:=.fields ps }
 | .met f x=>h.get? a=some (PySem.W.methodObj (.ref f) (.ref x))
 | .ext φ=>φ h/\(∃o,h.get? a=some o)/\∀h1 h2:Heap,φ h1->(∀o,h1.get? a=some o->h2.get? a=some o)->φ h2
def ce(H:Hp)(h:Heap):Prop:=∀a o,H a=some o->bG P w H h a o
end
section
variable {P:Program} {w:World} {H H':Hp} {h h':Heap} {a:Addr} {o:HO}
theorem bG.lt(x:bG P w H h a o):a<h.objs.size:=by
 cases o with
 | lst xs=>obtain⟨_,_,_,_,e⟩:=x;exact aZ e
 | tup xs=>obtain⟨_,_,_,p⟩:=x;exact p.lt
 | dK kvs=>obtain⟨_,_,_,_,o,_,_,e,_⟩:=x;exact aZ e
 | dT kvs=>obtain⟨_,_,_,_,o,_,_,e,_⟩:=x;exact aZ e
 | set S n=>obtain⟨o,_,_,_,e,_⟩:=x;exact aZ e
 | ins C dx fs=>obtain⟨_,_,_,e,_⟩:=x;exact aZ e
 | own y=>obtain⟨_,e⟩:=x;exact aZ e
 | xd fs=>obtain⟨_,⟨_,_,_,e,_⟩,_⟩:=x;exact aZ e
 | rng lo hi=>obtain⟨_,_,_,e⟩:=x;exact aZ e
 | frz ob u=>obtain⟨e,_⟩:=x;exact aZ e
 | tbl ps=>exact aZ (show h.get? a=some _ from x)
 | met f y=>exact aZ (show h.get? a=some _ from x)
 | ext φ=>obtain⟨_,⟨_,e⟩,_⟩:=x;exact aZ e
theorem Paired.mapP{α β:Type}{F G:α->β->Prop}:∀{l₁:List α} {l₂:List β},Paired F l₁ l₂->(∀a b,F a b->G a b)->Paired G l₁ l₂
 | _,_,.nil,_=>.nil
 | _,_,.cons r t,f=>.cons (f _ _ r) (Paired.mapP t f)
theorem bG.stay(x:bG P w H h a o)(k:∀b u,(b=a\/H b=some (.own a))->h.get? b=some u->h'.get? b=some u)
 (ho:∀b,H b=some (.own a)->H' b=some (.own a)) (ht:∀b xs,H b=some (.tup xs)->H' b=some (.tup xs)):bG P w H' h' a o:=by
 induction o with
 | lst xs=>obtain⟨z,its,n,r,e⟩:=x;exact⟨z,its,n,r,k _ _ (.inl rfl) e⟩
 | tup xs=>obtain⟨z,its,r,ob,e,c⟩:=x;exact⟨z,its,r,ob,k _ _ (.inl rfl) e,c⟩
 | dK kvs=>obtain⟨z,y,vs,r,ob,es,ep,e,c⟩:=x;exact⟨z,y,vs,r,ob,es,ep,k _ _ (.inl rfl) e,c⟩
 | dT kvs=>
  obtain⟨z,y,xs,r,ob,es,ep,e,c⟩:=x;exact⟨z,y,xs,Paired.mapP r fun p q z=>⟨z.1,z.2.1.keeps ht,z.2.2⟩,ob,es,ep,k _ _ (.inl rfl) e,c⟩
 | set S n=>obtain⟨ob,es,ep,t,e,c⟩:=x;exact⟨ob,es,ep,t,k _ _ (.inl rfl) e,c⟩
 | ins C dx fs=>
  obtain⟨d,z,ne,e,mA,⟨od,es,ep,e2,c⟩,r⟩:=x;exact⟨ho _ d,z,ne,k _ _ (.inl rfl) e,mA,⟨od,es,ep,k _ _ (.inr d) e2,c⟩,r⟩
 | own y=>obtain⟨ob,e⟩:=x;exact⟨ob,k _ _ (.inl rfl) e⟩
 | xd fs=>obtain⟨mA,⟨od,es,ep,e,c⟩,r⟩:=x;exact⟨mA,⟨od,es,ep,k _ _ (.inl rfl) e,c⟩,r⟩
 | rng lo hi=>obtain⟨t,u,v,e⟩:=x;exact⟨t,u,v,k _ _ (.inl rfl) e⟩
 | frz ob u ih=>obtain⟨e,q⟩:=x;exact⟨k _ _ (.inl rfl) e,ih q⟩
 | tbl ps=>
  have e:h.get? a=some { cls:=.none,data:=.fields ps }:=x;show h'.get? a=some { cls:=.none,data:=.fields ps };exact k a _ (.inl rfl) e
 | met f y=>
  have e:h.get? a=some (PySem.W.methodObj (.ref f) (.ref y)):=x;show h'.get? a=some (PySem.W.methodObj (.ref f) (.ref y));exact k a _ (.inl rfl) e
 | ext φ=>obtain⟨p,⟨o,e⟩,st⟩:=x;exact⟨st _ _ p fun o q=>k _ _ (.inl rfl) q,⟨o,k _ _ (.inl rfl) e⟩,st⟩
theorem ce.lt(x:ce P w H h)(e:H a=some o):a<h.objs.size:=(x a o e).lt
theorem ce.fresh(x:ce P w H h)(e:h.objs.size<=a):H a=none:=by
 cases q:H a with
 | none=>rfl
 | some u=>exact absurd (gJ (x.lt q) e) (mU _)
theorem ce.kept(x:ce P w H h)(k:∀b u,h.get? b=some u->h'.get? b=some u):ce P w H h':=fun a o e=>
 (x a o e).stay (fun b u _ q=>k b u q) (fun _ q=>q) fun _ _ q=>q
theorem ce.laid(x:ce P w H h)(k:∀b u,h.get? b=some u->h'.get? b=some u)(hp:h.objs.size<=a)(new:bG P w (aj H a o) h' a o):ce P w (aj H a o) h':=fun b u e=>by
 have hn:=x.fresh hp
 by_cases hb:b=a
 . subst hb;rw[aP]at e;cases e;exact new
 . rw[aL hb]at e;exact(x b u e).stay (fun c v _ q=>k c v q) (fun c q=>by rw[aL (bg q hn)];exact q) fun c xs q=>by rw[aL (bg q hn)];exact q
end
def Rd(H:Hp)(a:Addr)(u:HO):Prop:=H a=some u\/∃o,H a=some (.frz o u)
theorem Rd.ok{P:Program}{w:World}{H:Hp}{h:Heap}{a:Addr}{u:HO}(r:Rd H a u)(x:ce P w H h):bG P w H h a u:=by
 rcases r with r | ⟨o,r⟩
 . exact x a u r
 . obtain⟨_,q⟩:=x a _ r;exact q
def xt:Option HO->Prop
 | some (.lst _)=>True
 | some (.dK _)=>True
 | some (.dT _)=>True
 | some (.set _ _)=>True
 | some (.ins _ _ _)=>True
 | some (.ext _)=>True
 | _=>False
section
variable {P:Program} {w:World} {H:Hp} {h h':Heap} {x e:Addr} {o':HO}
theorem ce.write(ok:ce P w H h)(mu:xt (H x))(he:e=x\/H e=some (.own x))(k:∀b u,b≠e->h.get? b=some u->h'.get? b=some u)(uR:∃u,h'.get? e=some u)
 (new:bG P w (aj H x o') h' x o'):ce P w (aj H x o') h':=fun b u q=>by
 have M5:∀c y,H c=some (.own y)->c≠x:=fun c y r z=>by subst z;rw[r]at mu;exact mu
 have VV:∀c xs,H c=some (.tup xs)->c≠x:=fun c xs r z=>by subst z;rw[r]at mu;exact mu
 by_cases hb:b=x
 . subst hb;rw[aP]at q;cases q;exact new
 . rw[aL hb]at q
   by_cases si:b=e
   . have q':H b=some (.own x):=by
      rcases he with z | z
      . exact absurd (si.trans z) hb
      . rw[si];exact z
     rw[q]at q';cases q';obtain⟨v,hv⟩:=uR;exact⟨v,by rw[si];exact hv⟩
   . refine(ok b u q).stay (fun c v hc r=>k c v ?_ r) (fun c r=>by rw[aL (M5 c b r)];exact r) fun c xs r=>by rw[aL (VV c xs r)];exact r
     rcases hc with rfl | hc
     . exact si
     . rintro rfl
       rcases he with z | z
       . exact M5 c b hc z
       . rw[hc]at z;cases z;exact hb rfl
end
structure Un(fs ex:List Addr)(H H':Hp)(h h':Heap):Prop where
 keep:∀b o,h.get? b=some o->H b=none->b∉fs->b∉ex->h'.get? b=some o
 slot:∀b o,h.get? b=some o->H b=none->b∈fs->b∉ex->∃sl,h'.get? b=some { o with slots:=sl }
 free:∀b o,h.get? b=some o->H b=none->b∉ex->H' b=none
 there:∀b o,h.get? b=some o->b∉ex->∃o',h'.get? b=some o'
 tups:∀b xs,H b=some (.tup xs)->H' b=some (.tup xs)
 frzs:∀b o u,H b=some (.frz o u)->H' b=some (.frz o u)
 tbls:∀b ps,H b=some (.tbl ps)->∃more,H' b=some (.tbl (ps++more))
section
variable {fs VW ex ex':List Addr} {H H1 H2:Hp} {h h1 h2 h':Heap} {a x e:Addr} {o:HO}
theorem Un.any(u:Un fs ex H H1 h h1){b:Addr}{ob:Obj}(q:h.get? b=some ob)(n:H b=none)(hx:b∉ex):∃sl,h1.get? b=some { ob with slots:=sl }:=by
 by_cases hb:b∈fs
 . exact u.slot b ob q n hb hx
 . exact⟨ob.slots,u.keep b ob q n hb hx⟩
theorem Un.trans(a:Un fs ex H H1 h h1)(b:Un fs ex H1 H2 h1 h2):Un fs ex H H2 h h2 where
 keep:=fun c ob q n hc hx=>b.keep c ob (a.keep c ob q n hc hx) (a.free c ob q n hx) hc hx
 slot:=fun c ob q n hc hx=>by
  obtain⟨sl,e1⟩:=a.slot c ob q n hc hx;obtain⟨F7,e2⟩:=b.slot c _ e1 (a.free c ob q n hx) hc hx;exact⟨F7,e2⟩
 free:=fun c ob q n hx=>by
  obtain⟨o',e1⟩:=a.there c ob q hx;exact b.free c o' e1 (a.free c ob q n hx) hx
 there:=fun c ob q hx=>by
  obtain⟨o',e1⟩:=a.there c ob q hx;exact b.there c o' e1 hx
 tups:=fun c xs q=>b.tups c xs (a.tups c xs q)
 frzs:=fun c ob xs q=>b.frzs c ob xs (a.frzs c ob xs q)
 tbls:=fun c ps q=>by
  obtain⟨m1,e1⟩:=a.tbls c ps q;obtain⟨m2,e2⟩:=b.tbls c _ e1;exact⟨m1++m2,by rw[e2,Array.append_assoc]⟩
theorem Un.kept(k:∀b u,h.get? b=some u->h'.get? b=some u):Un fs ex H H h h':=
 ⟨fun b ob q _ _ _=>k b ob q,fun b ob q _ _ _=>⟨ob.slots,k b ob q⟩,fun _ _ _ n _=>n,fun b ob q _=>⟨ob,k b ob q⟩,fun _ _ q=>q,fun _ _ _ q=>q,fun _ ps q=>⟨#[],by rw[q];simp⟩⟩
theorem Un.refl:Un fs ex H H h h:=Un.kept fun _ _ q=>q
theorem Un.laid(k:∀b u,h.get? b=some u->h'.get? b=some u)(hp:h.objs.size<=a)(hn:H a=none):Un fs ex H (aj H a o) h h' where
 keep:=fun b u q _ _ _=>k b u q
 slot:=fun b u q _ _ _=>⟨u.slots,k b u q⟩
 free:=fun b u q n _=>by rw[aL (bE (gJ (aZ q) hp))];exact n
 there:=fun b u q _=>⟨u,k b u q⟩
 tups:=fun b xs q=>by rw[aL (bg q hn)];exact q
 frzs:=fun b u xs q=>by rw[aL (bg q hn)];exact q
 tbls:=fun b ps q=>⟨#[],by rw[aL (bg q hn),q];simp⟩
theorem Un.write(mu:xt (H x))(he:e=x\/H e=some (.own x))(k:∀b u,b≠e->h.get? b=some u->h'.get? b=some u)(uR:∃u,h'.get? e=some u):Un fs ex H (aj H x o) h h':=by
 have hx:∀b,H b=none->b≠x:=fun b n z=>by subst z;rw[n]at mu;exact mu
 have hb:∀b,H b=none->b≠e:=fun b n z=>by
  subst z
  rcases he with r | r
  . exact hx b n r
  . rw[n]at r;cases r
 have hm:∀b u,H b=some u->¬xt (some u)->b≠x:=fun b u q nm z=>by subst z;rw[q]at mu;exact nm mu
 refine⟨fun b u q n _ _=>k b u (hb b n) q,fun b u q n _ _=>⟨u.slots,k b u (hb b n) q⟩,fun b u q n _=>by rw[aL (hx b n)];exact n,fun b u q _=>?_,
  fun b xs q=>by rw[aL (hm b _ q fun z=>z)];exact q,fun b u xs q=>by rw[aL (hm b _ q fun z=>z)];exact q,fun b ps q=>⟨#[],by rw[aL (hm b _ q fun z=>z),q];simp⟩⟩
 by_cases si:b=e
 . subst si;exact uR
 . exact⟨u,k b u si q⟩
end
def BJ(h:Heap)(H:Hp):List Addr:=(List.range h.objs.size).filter fun a=>(H a).isSome
def m6(h:Heap)(H:Hp):Heap:=PySem.W.hideAll h (BJ h H)
theorem VX(h:Heap)(H:Hp):(m6 h H).objs.size=h.objs.size:=PySem.W.hideAll_size _ _
theorem VY{h:Heap}{H:Hp}{b:Addr}{o:Obj}(e:h.get? b=some o)(n:H b=none):(m6 h H).get? b=some o:=
 PySem.W.hideAll_get _ e fun hm=>by
  have q:(H b).isSome=true:=(cI.mp hm).2;rw[n]at q;simp at q
theorem VZ{h:Heap}{H:Hp}{b:Addr}{o:Obj}(e:(m6 h H).get? b=some o):h.get? b=some o/\H b=none:=by
 have e':h.get? b=some o:=PySem.W.of_hideAll (BJ h H) e;refine⟨e',?_⟩;cases q:H b with
 | none=>rfl
 | some x=>
  have hm:b∈BJ h H:=cI.mpr ⟨g9.mpr (aZ e'),by simp[q]⟩;have z:(m6 h H).get? b=none:=PySem.W.hideAll_none (BJ h H) hm;rw[z]at e;cases e
structure Mod(K:Fg)(mg:Mv)(base:Heap):Prop where
 kin:K.In base
 glob:base.Ns mainGlobals mg
 blt:∃mb,base.Ns builtinsNs mb/\∀x:Str,x≠"__name__"->mb x=bootBuiltins x
 nolimit:base.NoLimit
structure Cx where
 prog:Program
 w:World
 K:Fg
 mg:Mv
 base:Heap
 A:Around
 N:Ls
 s₀:Shared
 H₀:Hp
 env:Env
 outer:List Env
 stack:List Env
 ex:List Addr
 fn:Str->Bool
 calm:Bool
 pn:Po
 xe:VP
def jN(l:List Env):List Addr:=l.filterMap (·.frame)
abbrev Cx.fs (X:Cx):List Addr:=jN X.outer
def BK(sc:Scope)(x:Str):Prop:=sc.names.lookup x=some .local\/sc.names.lookup x=some .cell\/sc.names.lookup x=some .free
def Loc(sc:Scope)(x:Str):Prop:=sc.names.lookup x=some .local\/sc.names.lookup x=some .cell
def Look(env:Env)(h:Heap)(m:Mv)(x:Str)(u:Value):Prop:=
 (env.kindOf x=some .local/\m x=some u)\/((env.kindOf x=some .cell\/env.kindOf x=some .free)/\∃c,env.cells.lookup x=some c/\h.IsCell c (some u))
structure Cx.Ok(X:Cx):Prop where
 mod:Mod X.K X.mg X.base
 kind:X.env.scope.kind = .function
 glob:X.env.globals=mainGlobals
 blt:X.env.builtins=builtinsNs
 above:X.s₀.heap.objs.size<=X.env.locals
 inj:∀x y c,X.env.cells.lookup x=some c->X.env.cells.lookup y=some c->x=y
 has:∀x,(X.env.kindOf x=some .cell\/X.env.kindOf x=some .free)->∃c,X.env.cells.lookup x=some c
 cab:∀x c,X.fn x=true->X.env.cells.lookup x=some c->X.s₀.heap.objs.size<=c
 hd:X.calm=true->X.A.handled=none
 frames:X.A.frames=some X.stack
 stk:X.stack=X.outer\/(X.stack=X.env::X.outer/\X.env.frame=some X.env.locals)
 exf:∀b∈X.ex,b≠X.env.locals/\∀x c,X.env.cells.lookup x=some c->c≠b
 bs:∀b o,X.base.get? b=some o->X.s₀.heap.get? b=some o/\X.H₀ b=none
 bsz:X.base.objs.size<=X.s₀.heap.objs.size
 noex:∀b o,X.base.get? b=some o->b∉X.ex
 exfs:∀b∈X.ex,b∉X.fs
 funs:X.s₀.heap.FunFrames X.base X.outer
 frf:∀b∈X.fs,X.H₀ b=none
structure Inv(X:Cx)(pins:Po)(σ:List (Option V))(H:Hp)(s:Shared):Prop where
 ok:X.Ok
 os:s.os=X.s₀.os
 bare:AllBare s.gens
 base:Un X.fs X.ex X.H₀ H X.s₀.heap s.heap
 loc:∃m,s.heap.Ns X.env.locals m/\∀(i:Nat) (x:Str) (v:V),X.N[i]? = some x->σ[i]? = some (some v)->BK X.env.scope x->∃u,RelV v u/\Look X.env s.heap m x u
 cell:∀x c,X.env.cells.lookup x=some c->∃v,s.heap.IsCell c v
 free:H X.env.locals=none
 freeC:∀x c,X.env.cells.lookup x=some c->H c=none
 pin:∀p∈X.pn++pins,s.heap.get? p.1=some p.2/\H p.1=none/\p.1≠X.env.locals/\p.1∉X.fs/\∀v,p.2.data≠.cell v
 hok:ce X.prog X.w H s.heap
 len:σ.length=X.N.length
section
variable {X:Cx} {pins:Po} {σ:List (Option V)} {H H':Hp} {s:Shared} {h':Heap}
theorem Cx.Ok.nofr(ok:X.Ok){b:Addr}{o:Obj}(e:X.base.get? b=some o):b∉X.fs:=fun hb=>by
 have:=(ok.funs.mem hb).1;rw[e]at this;cases this
theorem Inv.bs(I:Inv X pins σ H s):∀b o,X.base.get? b=some o->s.heap.get? b=some o/\H b=none:=fun b o e=>
 ⟨I.base.keep b o (I.ok.bs b o e).1 (I.ok.bs b o e).2 (I.ok.nofr e) (I.ok.noex b o e),I.base.free b o (I.ok.bs b o e).1 (I.ok.bs b o e).2 (I.ok.noex b o e)⟩
theorem Inv.bk(I:Inv X pins σ H s):∀b o,X.base.get? b=some o->s.heap.get? b=some o:=fun b o e=>(I.bs b o e).1
theorem Inv.mod(I:Inv X pins σ H s):Mod X.K X.mg X.base:=I.ok.mod
theorem Inv.kIn(I:Inv X pins σ H s):X.K.In s.heap:=I.ok.mod.kin.keeps I.bk
theorem Inv.nolimit(I:Inv X pins σ H s):s.heap.NoLimit:=I.ok.mod.nolimit.keeps I.bk
theorem Inv.lt(I:Inv X pins σ H s):X.env.locals<s.heap.objs.size:=I.loc.elim fun _ V0=>V0.elim fun hn _=>hn.lt
theorem Inv.sz(I:Inv X pins σ H s):X.s₀.heap.objs.size<=s.heap.objs.size:=bS I.ok.above (hJ I.lt)
theorem Inv.nofs(I:Inv X pins σ H s){a:Addr}(h:s.heap.objs.size<=a):a∉X.fs:=fun hb=>by
 obtain⟨_,o,ho,_⟩:=I.ok.funs.mem hb;exact absurd (gJ (aZ ho) (bS I.sz h)) (mU _)
theorem Inv.cne(I:Inv X pins σ H s):∀x c,X.env.cells.lookup x=some c->c≠X.env.locals:=fun x c e z=>by
 obtain⟨v,o,ho,hd⟩:=I.cell x c e;obtain⟨m,⟨o',es,ep,gp,jv,_⟩,_⟩:=I.loc;rw[z,gp]at ho;cases ho;rw[jv]at hd;cases hd
theorem Inv.funs(I:Inv X pins σ H s):s.heap.FunFrames X.base X.outer:=by
 have all:∀(l:List Env),(∀b∈jN l,b∈X.fs)->X.s₀.heap.FunFrames X.base l->s.heap.FunFrames X.base l:=by
  intro l
  induction l with
  | nil=>intro _ _;trivial
  | cons env r ih=>
   intro hs hl;obtain⟨hk,⟨L,o,hf,hn,ho,hd⟩,hr⟩:=hl;have hL:L∈X.fs:=hs L (by unfold jN;rw[xa,hf];exact cD);obtain⟨sl,e⟩:=I.base.slot L o ho (I.ok.frf L hL) hL fun z=>I.ok.exfs L z hL;exact⟨hk,⟨L,_,hf,hn,e,hd⟩,ih (fun b hb=>hs b (by unfold jN;rw[xa,hf];exact cy _ hb)) hr⟩
 exact all X.outer (fun _ hb=>hb) I.ok.funs
theorem Inv.stack(I:Inv X pins σ H s):s.heap.FunFrames X.base X.stack:=by
 rcases I.ok.stk with e | ⟨e,hf⟩
 . rw[e];exact I.funs
 . rw[e];obtain⟨m,hn,_⟩:=I.loc;refine .cons (by rw[I.ok.kind];decide) hf hn ?_ I.funs;exact Heap.get?_none_of_le (bS I.ok.bsz I.ok.above)
theorem Inv.stkSub(I:Inv X pins σ H s):∀b∈jN X.stack,b∈X.env.locals::X.fs:=fun b hb=>by
 rcases I.ok.stk with e | ⟨e,hf⟩
 . rw[e]at hb;exact cy _ hb
 . rw[e]at hb;unfold jN at hb;rw[xa,hf]at hb;exact hb
theorem Inv.stkFree(I:Inv X pins σ H s):∀b∈jN X.stack,H b=none:=fun b hb=>by
 rcases bw.mp (I.stkSub b hb) with e | hb
 . rw[e];exact I.free
 . obtain⟨_,o,ho,_⟩:=I.ok.funs.mem hb;exact I.base.free b o ho (I.ok.frf b hb) fun z=>I.ok.exfs b z hb
theorem Inv.step{g':Array GenState}{t':Nat}{d':Drawn}{ch:List Addr}(I:Inv X pins σ H s)
 (dH:∀b∈ch,(b∈X.ex\/X.s₀.heap.objs.size<=b)/\b≠X.env.locals/\(∀x c,X.env.cells.lookup x=some c->c≠b)/\∀p∈X.pn++pins,p.1≠b)
 (keep:∀b o,b≠X.env.locals->b∉X.fs->b∉ch->s.heap.get? b=some o->H b=none->h'.get? b=some o)
 (slot:∀b o,b≠X.env.locals->b∈X.fs->b∉ch->s.heap.get? b=some o->H b=none->∃sl,h'.get? b=some { o with slots:=sl }) (free:∀b o,b∉ch->s.heap.get? b=some o->H b=none->H' b=none)
 (there:∀b o,b∉ch->s.heap.get? b=some o->∃o',h'.get? b=some o')
 (tups:∀b xs,H b=some (.tup xs)->H' b=some (.tup xs)) (frzs:∀b o u,H b=some (.frz o u)->H' b=some (.frz o u)) (tbls:∀b ps,H b=some (.tbl ps)->∃more,H' b=some (.tbl (ps++more)))
 (ns:∀m,s.heap.Ns X.env.locals m->h'.Ns X.env.locals m) (hok:ce X.prog X.w H' h') (hg:AllBare g') :
 Inv X pins σ H' { s with heap:=h',gens:=g',drawn:=d',toks:=t' }:=by
 have M6:∀b o,X.s₀.heap.get? b=some o->b≠X.env.locals:=fun b o e=>bE (gJ (aZ e) I.ok.above);have BL:∀b o,X.s₀.heap.get? b=some o->b∉X.ex->b∉ch:=fun b o e hx hb=>by
  rcases(dH b hb).1 with z | z
  . exact hx z
  . exact absurd (gJ (aZ e) z) (mU _)
 have cellK:∀x c,X.env.cells.lookup x=some c->∀v,s.heap.IsCell c v->h'.IsCell c v:=fun x c e v V1=>V1.elim fun o V2=>V2.elim fun ho hd=>by
  have xu:c∉ch:=fun z=>(dH c z).2.2.1 x c e rfl
  by_cases hc:c∈X.fs
  . obtain⟨sl,q⟩:=slot c o (I.cne x c e) hc xu ho (I.freeC x c e);exact⟨_,q,hd⟩
  . exact⟨o,keep c o (I.cne x c e) hc xu ho (I.freeC x c e),hd⟩
 refine⟨I.ok,I.os,hg,⟨fun b o e n hb hx=>?_,fun b o e n hb hx=>?_,fun b o e n hx=>?_,fun b o e hx=>?_,fun b xs e=>tups b xs (I.base.tups b xs e),fun b o xs e=>frzs b o xs (I.base.frzs b o xs e),fun b ps e=>?_⟩,?_,fun x c e=>?_,?_,fun x c e=>?_,fun p hp=>?_,hok,I.len⟩
 . exact keep b o (M6 b o e) hb (BL b o e hx) (I.base.keep b o e n hb hx) (I.base.free b o e n hx)
 . obtain⟨sl,e1⟩:=I.base.slot b o e n hb hx;obtain⟨F7,e2⟩:=slot b _ (M6 b o e) hb (BL b o e hx) e1 (I.base.free b o e n hx);exact⟨F7,e2⟩
 . obtain⟨o',e1⟩:=I.base.there b o e hx;exact free b o' (BL b o e hx) e1 (I.base.free b o e n hx)
 . obtain⟨o',e1⟩:=I.base.there b o e hx;exact there b o' (BL b o e hx) e1
 . obtain⟨m1,e1⟩:=I.base.tbls b ps e;obtain⟨m2,e2⟩:=tbls b _ e1;exact⟨m1++m2,by rw[e2,Array.append_assoc]⟩
 . obtain⟨m,hn,hl⟩:=I.loc;refine⟨m,ns m hn,fun i x v e1 e2 e3=>?_⟩;obtain⟨u,r,l⟩:=hl i x v e1 e2 e3;refine⟨u,r,?_⟩
   rcases l with l | ⟨k,c,e,z⟩
   . exact .inl l
   . exact .inr ⟨k,c,e,cellK x c e _ z⟩
 . obtain⟨v,z⟩:=I.cell x c e;exact⟨v,cellK x c e v z⟩
 . obtain⟨m,⟨o,_,_,ho,_⟩,_⟩:=I.loc;exact free _ o (fun z=>(dH _ z).2.1 rfl) ho I.free
 . obtain⟨v,o,ho,hd⟩:=I.cell x c e;exact free c o (fun z=>(dH c z).2.2.1 x c e rfl) ho (I.freeC x c e)
 . obtain⟨e,n,ne,nf,d⟩:=I.pin p hp;have xu:p.1∉ch:=fun z=>(dH p.1 z).2.2.2 p hp rfl;exact⟨keep p.1 p.2 ne nf xu e n,free p.1 p.2 xu e n,ne,nf,d⟩
theorem Inv.un{t':Nat}(I:Inv X pins σ H s)(u:Un X.fs [] H H' s.heap h')(hok:ce X.prog X.w H' h'):Inv X pins σ H' { s with heap:=h',toks:=t' }:=by
 obtain⟨m,⟨o,es,ep,ho,r⟩,_⟩:=id I.loc;obtain⟨sl,hL⟩:=u.any ho I.free (by simp);exact I.step (g':=s.gens) (d':=s.drawn) (ch:=[]) (fun _ z=>nomatch z) (fun b o _ hb _ e n=>u.keep b o e n hb (by simp)) (fun b o _ hb _ e n=>u.slot b o e n hb (by simp)) (fun b o _ e n=>u.free b o e n (by simp)) (fun b o _ e=>u.there b o e (by simp)) u.tups u.frzs u.tbls (fun m' hm=>by
  obtain⟨o',es',xv,gp,r'⟩:=hm;rw[ho]at gp;cases gp;exact⟨_,es',xv,hL,r'⟩) hok I.bare
theorem Inv.call{g':Array GenState}{t':Nat}{d':Drawn}{ch:List Addr}(I:Inv X pins σ H s)(u:Un (jN X.stack) ch H H' s.heap h')(hok:ce X.prog X.w H' h')(hg:AllBare g')
 (dH:∀b∈ch,(b∈X.ex\/X.s₀.heap.objs.size<=b)/\b≠X.env.locals/\(∀x c,X.env.cells.lookup x=some c->c≠b)/\∀p∈X.pn++pins,p.1≠b) :
 Inv X pins σ H' { s with heap:=h',gens:=g',drawn:=d',toks:=t' }:=by
 obtain⟨m,⟨o,es,ep,ho,r⟩,_⟩:=id I.loc;obtain⟨sl,hL⟩:=u.any ho I.free fun z=>(dH _ z).2.1 rfl;exact I.step (ch:=ch) dH (fun b o hL hb hc e n=>u.keep b o e n (fun z=>(bw.mp (I.stkSub b z)).elim hL hb) hc) (fun b o _ _ hc e n=>u.any e n hc) (fun b o hc e n=>u.free b o e n hc) (fun b o hc e=>u.there b o e hc) u.tups u.frzs u.tbls (fun m' hm=>by
  obtain⟨o',es',xv,gp,r'⟩:=hm;rw[ho]at gp;cases gp;exact⟨_,es',xv,hL,r'⟩) hok hg
theorem Inv.turned{t':Nat}{it:Addr}(I:Inv X pins σ H s)(k:∀b o,b≠it->s.heap.get? b=some o->h'.get? b=some o)(hn:H it=none)(hL:it≠X.env.locals)
 (h1:it∈X.ex\/X.s₀.heap.objs.size<=it) (h2:∀x c,X.env.cells.lookup x=some c->c≠it) (h3:∀p∈X.pn++pins,p.1≠it):Inv X pins σ H { s with heap:=h',toks:=t' }:=by
 have xy:∀b u,H b=some u->b≠it:=fun b u e z=>by rw[z,hn]at e;cases e
 refine I.step (g':=s.gens) (d':=s.drawn) (ch:=[it]) (fun b hb=>?_) (fun b o _ _ hc e _=>k b o (fun z=>hc (by simp[z])) e) (fun b o _ _ hc e _=>⟨o.slots,k b o (fun z=>hc (by simp[z])) e⟩) (fun _ _ _ _ n=>n)
  (fun b o hc e=>⟨o,k b o (fun z=>hc (by simp[z])) e⟩) (fun _ _ e=>e) (fun _ _ _ e=>e) (fun b ps e=>⟨#[],by rw[e];simp⟩) (fun m hm=>?_) (fun b u e=>?_) I.bare
 . have e:b=it:=by simpa using hb
   subst e;exact⟨h1,hL,h2,h3⟩
 . obtain⟨o,es,ep,ho,r⟩:=hm;exact⟨o,es,ep,k _ o (eM hL) ho,r⟩
 . refine(I.hok b u e).stay (fun c v hc q=>k c v ?_ q) (fun _ q=>q) fun _ _ q=>q
   rcases hc with z | z
   . rw[z];exact xy b u e
   . exact xy c _ z
theorem Inv.tok(I:Inv X pins σ H s)(t:Nat):Inv X pins σ H { s with toks:=t }:=I.un (h':=s.heap) (t':=t) Un.refl I.hok
theorem Inv.kept{t':Nat}(I:Inv X pins σ H s)(k:∀b u,s.heap.get? b=some u->h'.get? b=some u):Inv X pins σ H { s with heap:=h',toks:=t' }:=I.un (Un.kept k) (I.hok.kept k)
theorem Inv.laid{a:Addr}{o:HO}{t':Nat}(I:Inv X pins σ H s)(k:∀b u,s.heap.get? b=some u->h'.get? b=some u)(hp:s.heap.objs.size<=a)(new:bG X.prog X.w (aj H a o) h' a o) :
 Inv X pins σ (aj H a o) { s with heap:=h',toks:=t' }:=I.un (Un.laid k hp (I.hok.fresh hp)) (I.hok.laid k hp new)
theorem Inv.write{x e:Addr}{o:HO}{t':Nat}(I:Inv X pins σ H s)(mu:xt (H x))(he:e=x\/H e=some (.own x))(k:∀b u,b≠e->s.heap.get? b=some u->h'.get? b=some u)(uR:∃u,h'.get? e=some u)
 (new:bG X.prog X.w (aj H x o) h' x o):Inv X pins σ (aj H x o) { s with heap:=h',toks:=t' }:=I.un (Un.write mu he k uR) (I.hok.write mu he k uR new)
theorem Inv.pins_of{F8:Po}(I:Inv X pins σ H s)(h:∀p∈F8,s.heap.get? p.1=some p.2/\H p.1=none/\p.1≠X.env.locals/\p.1∉X.fs/\∀v,p.2.data≠.cell v):Inv X F8 σ H s:=
 ⟨I.ok,I.os,I.bare,I.base,I.loc,I.cell,I.free,I.freeC,fun p hp=>(eg.mp hp).elim (fun z=>I.pin p (Ux _ z)) (h p),I.hok,I.len⟩
theorem M7{N:Ls}(hN:N.Nodup){i j:Nat}{x:Str}(a:N[i]? = some x)(b:N[j]? = some x):i=j:=by
 obtain⟨h1,e1⟩:=bH.mp a;obtain⟨h2,e2⟩:=bH.mp b;exact(Fq hN).mp (e1.trans e2.symm)
theorem M8{M:Model}{A:Around}{E:VP}{i:Nat}{x:Str}{v:V}{u:Value}{Q:Unit->Shared->Prop}(I:Inv X pins σ H s)(hN:X.N.Nodup)(hi:X.N[i]? = some x)(hx:Loc X.env.scope x)(r:RelV v u)
 (h:∀s',Inv X pins (σ.set i (some v)) H s'->(∃a,Heap.SameBut a s.heap s'.heap/\(a=X.env.locals\/X.env.cells.lookup x=some a))->Q () s') (hf:X.fn x=true\/X.env.scope.names.lookup x=some .local:=by first | exact .inl rfl | exact .inr rfl | assumption):wpAny M A (storeName X.env x u) Q E s:=by
 obtain⟨m,hn,hl⟩:=id I.loc;have V3:(X.env.scope.kind == .class || (X.env.scope.kind == .module && X.env.locals != X.env.globals))=false:=by rw[I.ok.kind];rfl
 have M9:i<σ.length:=by rw[I.len];exact(bH.mp hi).1
 have cne:=I.cne;have tracked:∀{a:Addr} {h':Heap},(∃o,s.heap.get? a=some o/\H a=none)->Heap.SameBut a s.heap h'->ce X.prog X.w H h':=fun {a h'} ha hs b ob e=>by
  obtain⟨_,_,Na⟩:=ha;refine(I.hok b ob e).stay (fun c w' hc q=>(hs.2 c ?_).trans q) (fun _ q=>q) fun _ _ q=>q;rintro rfl
  rcases hc with rfl | hc
  . rw[Na]at e;cases e
  . rw[Na]at hc;cases hc
 rcases hx with hk | hk
 . refine wpAny_storeName_local hk hn (fun h' m7 hs=>?_) V3;obtain⟨oL,_,_,iA,_⟩:=id hn;refine h _ ⟨I.ok,I.os,I.bare,⟨fun b o e n hb hx=>?_,fun b o e n hb hx=>?_,I.base.free,fun b o e hx=>?_,I.base.tups,I.base.frzs,I.base.tbls⟩,⟨_,m7,fun j y v' e1 e2 e3=>?_⟩,fun y c e=>?_,I.free,I.freeC,fun p hp=>?_,tracked ⟨oL,iA,I.free⟩ hs,by simpa using I.len⟩ ⟨_,hs,.inl rfl⟩
   . exact(hs.2 b (bE (gJ (aZ e) I.ok.above))).trans (I.base.keep b o e n hb hx)
   . obtain⟨sl,e1⟩:=I.base.slot b o e n hb hx;exact⟨sl,(hs.2 b (bE (gJ (aZ e) I.ok.above))).trans e1⟩
   . obtain⟨o',e1⟩:=I.base.there b o e hx;exact⟨o',(hs.2 b (bE (gJ (aZ e) I.ok.above))).trans e1⟩
   . by_cases hj:j=i
     . subst hj;rw[hi]at e1;cases e1;rw[arV M9]at e2;cases e2;exact⟨u,r,.inl ⟨hk,by simp⟩⟩
     . rw[List.getElem?_set_ne (eM hj)]at e2;obtain⟨u',r',q⟩:=hl j y v' e1 e2 e3;refine⟨u',r',?_⟩
       rcases q with⟨k,e⟩ | ⟨k,c,e,z⟩
       . refine .inl ⟨k,?_⟩;have:y≠x:=fun e=>hj (M7 hN e1 (e▸hi));simp[this,e]
       . exact .inr ⟨k,c,e,z.sameBut hs (cne y c e)⟩
   . obtain⟨w',z⟩:=I.cell y c e;exact⟨w',z.sameBut hs (cne y c e)⟩
   . obtain⟨e,n,ne,nf,d⟩:=I.pin p hp;exact⟨(hs.2 p.1 ne).trans e,n,ne,nf,d⟩
 . have uS:X.fn x=true:=by
    rcases hf with z | z
    . exact z
    . rw[z]at hk;cases hk
   obtain⟨c,hc⟩:=I.ok.has x (.inl hk);obtain⟨w',z⟩:=I.cell x c hc;refine wpAny_storeName_cell I.ok.kind hk hc z (fun h' eY hs=>?_);obtain⟨oc,oY,V4⟩:=id z;refine h { s with heap:=h' } ⟨I.ok,I.os,I.bare,⟨fun b o e n hb hx=>?_,fun b o e n hb hx=>?_,I.base.free,fun b o e hx=>?_,I.base.tups,I.base.frzs,I.base.tbls⟩,⟨m,hn.sameBut hs (eM (cne x c hc)),fun j y v' e1 e2 e3=>?_⟩,fun y c' e=>?_,I.free,I.freeC,fun p hp=>?_,tracked ⟨oc,oY,I.freeC x c hc⟩ hs,by simpa using I.len⟩ ⟨c,hs,.inr hc⟩
   . exact(hs.2 b (bE (gJ (aZ e) (I.ok.cab x c uS hc)))).trans (I.base.keep b o e n hb hx)
   . obtain⟨sl,e1⟩:=I.base.slot b o e n hb hx;exact⟨sl,(hs.2 b (bE (gJ (aZ e) (I.ok.cab x c uS hc)))).trans e1⟩
   . obtain⟨o',e1⟩:=I.base.there b o e hx;exact⟨o',(hs.2 b (bE (gJ (aZ e) (I.ok.cab x c uS hc)))).trans e1⟩
   . by_cases hj:j=i
     . subst hj;rw[hi]at e1;cases e1;rw[arV M9]at e2;cases e2;exact⟨u,r,.inr ⟨.inl hk,c,hc,eY⟩⟩
     . rw[List.getElem?_set_ne (eM hj)]at e2;obtain⟨u',r',q⟩:=hl j y v' e1 e2 e3;refine⟨u',r',?_⟩
       rcases q with q | ⟨k,c',e,z'⟩
       . exact .inl q
       . refine .inr ⟨k,c',e,z'.sameBut hs ?_⟩;rintro rfl;exact hj (M7 hN e1 (I.ok.inj _ _ _ e hc▸hi))
   . by_cases jO:c'=c
     . subst jO;exact⟨_,eY⟩
     . obtain⟨w2,z2⟩:=I.cell y c' e;exact⟨w2,z2.sameBut hs jO⟩
   . obtain⟨e,n,ne,nf,d⟩:=I.pin p hp;refine⟨(hs.2 p.1 ?_).trans e,n,ne,nf,d⟩;intro q;rw[q,oY]at e;have q':oc=p.2:=eK e;exact d w' (by rw[←q'];exact V4)
theorem Nb{M:Model}{A:Around}{E:VP}{i:Nat}{x:Str}{v:V}{u:Value}{Q:Unit->Shared->Prop}(I:Inv X pins σ H s)(hN:X.N.Nodup)(hi:X.N[i]? = some x)(hx:Loc X.env.scope x)(r:RelV v u)
 (h:∀s',Inv X pins (σ.set i (some v)) H s'->Q () s') (hf:X.fn x=true\/X.env.scope.names.lookup x=some .local:=by first | exact .inl rfl | exact .inr rfl | assumption):wpAny M A (storeName X.env x u) Q E s:=
 M8 I hN hi hx r (fun s' I' _=>h s' I') hf
theorem Inv.call'{s':Shared}{ch:List Addr}(I:Inv X pins σ H s)(ho:s'.os=s.os)(u:Un (jN X.stack) ch H H' s.heap s'.heap)(hok:ce X.prog X.w H' s'.heap)(hg:AllBare s'.gens)
 (dH:∀b∈ch,(b∈X.ex\/X.s₀.heap.objs.size<=b)/\b≠X.env.locals/\(∀x c,X.env.cells.lookup x=some c->c≠b)/\∀p∈X.pn++pins,p.1≠b):Inv X pins σ H' s':=by
 obtain⟨h',g',d',t',o'⟩:=s';have e:o'=s.os:=ho;subst e;exact I.call (g':=g') (t':=t') (d':=d') u hok hg dH
end
abbrev XK:=Value->Oa->Hp->Prop
abbrev St:=List (Option V)
abbrev VK:=V->Hp->Prop
abbrev TE:=St->Hp->VK->Prop
abbrev TT:=St->Hp->(Bool->Hp->Prop)->Prop
abbrev TA:=St->Hp->(Lv->Hp->Prop)->Prop
structure Ends where
 nx:St->Hp->Prop
 rt:VK
 bk:St->Hp->Prop:=fun _ _=>False
 ct:St->Hp->Prop:=fun _ _=>False
abbrev TS:=Ends->St->Hp->Prop
def EP(X:Cx)(pins:Po)(σ:St)(Q:VK)(u:Value)(s':Shared):Prop:=∃v H',Inv X pins σ H' s'/\RelV v u/\Q v H'
def TP(X:Cx)(pins:Po)(σ:St)(Q:Bool->Hp->Prop)(b:Bool)(s':Shared):Prop:=∃H',Inv X pins σ H' s'/\Q b H'
def AP(X:Cx)(pins:Po)(σ:St)(Q:Lv->Hp->Prop)(us:Lw)(s':Shared):Prop:=∃vs H',Inv X pins σ H' s'/\a8 vs us/\Q vs H'
def SP(X:Cx)(pins:Po)(D:Ends)(f:Flow)(s':Shared):Prop:=
 match f with
 | .next=>∃σ' H',Inv X pins σ' H' s'/\D.nx σ' H'
 | .brk=>∃σ' H',Inv X pins σ' H' s'/\D.bk σ' H'
 | .cont=>∃σ' H',Inv X pins σ' H' s'/\D.ct σ' H'
 | .ret u=>∃v σ' H',Inv X pins σ' H' s'/\RelV v u/\D.rt v H'
def PE(X:Cx)(e:Expr)(t:TE):Prop:=
 ∀(pins:Po) (s:Shared) (σ:St) (H:Hp) (Q:VK),Inv X pins σ H s->t σ H Q->wpAny (model X.prog X.w) X.A (eval e X.env) (EP X pins σ Q) X.xe s
def PT(X:Cx)(e:Expr)(t:TT):Prop:=
 ∀(pins:Po) (s:Shared) (σ:St) (H:Hp) (Q:Bool->Hp->Prop),Inv X pins σ H s->t σ H Q->wpAny (model X.prog X.w) X.A (isTrue e X.env (eval e X.env)) (TP X pins σ Q) X.xe s
def PW(X:Cx)(e:Expr)(t:TT):Prop:=
 ∀(whole:Sem Value) (pins:Po) (s:Shared) (σ:St) (H:Hp) (Q:Bool->Hp->Prop),Inv X pins σ H s->t σ H Q->wpAny (model X.prog X.w) X.A (isTrue e X.env whole) (TP X pins σ Q) X.xe s
theorem PW.pt{X:Cx}{e:Expr}{t:TT}(h:PW X e t):PT X e t:=h _
def PA(X:Cx)(es:List Expr)(t:TA):Prop:=
 ∀(pos:Pos) (pins:Po) (s:Shared) (σ:St) (H:Hp) (Q:Lv->Hp->Prop),Inv X pins σ H s->t σ H Q->wpAny (model X.prog X.w) X.A (spliced (backTo pos (starEach es X.env))) (AP X pins σ Q) X.xe s
def PS(X:Cx)(st:Stmt)(t:TS):Prop:=
 ∀(pins:Po) (s:Shared) (σ:St) (H:Hp) (D:Ends),Inv X pins σ H s->t D σ H->wpAny (model X.prog X.w) X.A (exec st X.env) (SP X pins D) X.xe s
def cz(X:Cx)(st:List Stmt)(t:TS):Prop:=
 ∀(pins:Po) (s:Shared) (σ:St) (H:Hp) (D:Ends),Inv X pins σ H s->t D σ H->wpAny (model X.prog X.w) X.A (execs st X.env) (SP X pins D) X.xe s
theorem thn{α:Type}{t:Sem α}{Q Q':α->Shared->Prop}{M:Model}{A:Around}{E:VP}{s:Shared}(h:wpAny M A t Q E s)(hQ:∀a s,Q a s->Q' a s):wpAny M A t Q' E s:=dN h hQ fun _ _ x=>x
section
variable {X:Cx}
def uT(i:Nat):TE:=fun σ H Q=>∃v,σ[i]? = some (some v)/\Q v H
def tC(v:V):TE:=fun _ H Q=>Q v H
theorem V5{i:Nat}{x:Str}{pos:Pos}(hN:X.N[i]? = some x)(hv:BK X.env.scope x)(hd:(x == ("__debug__":Str))=false:=by decide)(iY:(x == ("__classdict__":Str))=false:=by decide):PE X (.Name x pos) (uT i):=by
 intro pins s σ H Q I h;obtain⟨v,e,h⟩:=h;obtain⟨m,hn,hl⟩:=I.loc;obtain⟨u,r,l⟩:=hl i x v hN e hv;have fin:EP X pins σ Q u s:=⟨v,H,I,r,h⟩
 rcases l with⟨hk,hm⟩ | ⟨hk,c,hc,hcell⟩
 . exact wpAny_Name (wpAny_loadName_local I.ok.kind hk hn hm fin) hd
 . rcases hk with hk | hk
   . exact wpAny_Name (wpAny_loadName_cell I.ok.kind hk hc hcell fin) hd
   . exact wpAny_Name (wpAny_loadName_free I.ok.kind hk hc hcell fin iY) hd
theorem ar{i j pos}:PE X (.Constant (.int i) j pos) (tC (.int i)):=fun _ _ _ H _ I h=>wpAny_Constant_int ⟨.int i,H,I.tok _,⟨_,rfl⟩,h⟩
theorem fQ{b j pos}:PE X (.Constant (.bool b) j pos) (tC (.bl b)):=fun _ _ _ H _ I h=>Constant_bool ⟨.bl b,H,I,rfl,h⟩
theorem eh{j pos}:PE X (.Constant .none j pos) (tC .non):=fun _ _ _ H _ I h=>Constant_none ⟨.non,H,I,rfl,h⟩
theorem gL{x j pos}:PE X (.Constant (.str x) j pos) (tC (.str x)):=fun _ _ _ H _ I h=>Calls.Constant_str ⟨.str x,H,I.tok _,⟨_,rfl⟩,h⟩
def Gl(X:Cx)(x:Str):Prop:=X.env.kindOf x=some .globalImplicit
theorem F9{E:VP}{pins:Po}{s:Shared}{σ:St}{H:Hp}{x:Str}{u:Value}{pos:Pos}{Q:VP}(I:Inv X pins σ H s)(hg:Gl X x)(hm:X.mg x=some u)(h:Q u s)
 (hd:(x == ("__debug__":Str))=false:=by decide):wpAny (model X.prog X.w) X.A (eval (.Name x pos) X.env) Q E s:=
 arW I.ok.kind hg (Calls.loadGlobal_global (by rw[I.ok.glob];exact I.mod.glob.keeps I.bk) hm h) hd
theorem sj{E:VP}{pins:Po}{s:Shared}{σ:St}{H:Hp}{x:Str}{u:Value}{pos:Pos}{Q:VP}(I:Inv X pins σ H s)(hg:Gl X x)(hm:X.mg x=none)(hv:bootBuiltins x=some u)(h:Q u s)
 (hn:x≠"__name__":=by decide) (hd:(x == ("__debug__":Str))=false:=by decide):wpAny (model X.prog X.w) X.A (eval (.Name x pos) X.env) Q E s:=by
 obtain⟨mb,h1,h2⟩:=I.mod.blt;exact arW I.ok.kind hg (Calls.loadGlobal_builtin (by rw[I.ok.glob];exact I.mod.glob.keeps I.bk) hm (by rw[I.ok.blt];exact h1.keeps I.bk) ((h2 x hn).trans hv) h) hd
theorem uU{x:Str}{v:V}{u:Value}{pos:Pos}(hg:Gl X x)(hm:X.mg x=some u)(r:RelV v u)(hd:(x == ("__debug__":Str))=false:=by decide):PE X (.Name x pos) (tC v):=
 fun _ _ _ H _ I h=>F9 I hg hm ⟨v,H,I,r,h⟩ hd
theorem xz{x:Str}{v:V}{u:Value}{pos:Pos}(hg:Gl X x)(hm:X.mg x=none)(hv:bootBuiltins x=some u)(r:RelV v u)(hn:x≠"__name__":=by decide)(hd:(x == ("__debug__":Str))=false:=by decide):PE X (.Name x pos) (tC v):=
 fun _ _ _ H _ I h=>sj I hg hm hv ⟨v,H,I,r,h⟩ hn hd
variable {a b:Expr} {ta tb:TE} {pos:Pos}
def PC(X:Cx)(op:CmpOp)(a b:Expr)(t:TE):Prop:=
 ∀(pins:Po) (s:Shared) (σ:St) (H:Hp) (Q:VK),Inv X pins σ H s->t σ H Q ->
  wpAny (model X.prog X.w) X.A (eval a X.env) (fun v s₁=>wpAny (model X.prog X.w) X.A (eval b X.env) (fun u s₂=>wpAny (model X.prog X.w) X.A (compareOp op v u) (EP X pins σ Q) X.xe s₂) X.xe s₁) X.xe s
def tB(t:TE):TT:=fun σ H Q=>t σ H fun x H1=>∃c,x = .bl c/\Q c H1
theorem V6{op:CmpOp}{t:TE}(h:PC X op a b t)(h1:behindInMarks op b=false:=by first | exact nobehind _ (by decide) (by decide) | rfl):PE X (.Compare a [op] [b] pos) t:=fun pins s σ H Q I hw=>wpAny_Compare1 (h pins s σ H Q I hw) h1
theorem Ga{op:CmpOp}{t:TE}(h:PC X op a b t)(h1:behindInMarks op b=false:=by first | exact nobehind _ (by decide) (by decide) | rfl):PT X (.Compare a [op] [b] pos) (tB t):=by
 intro pins s σ H Q I hw;refine arX (thn (h pins s σ H _ I hw) fun v s1 h1=>thn h1 fun u s2 h2=>thn h2 fun c s3 V7=>V7.elim fun x V8=>V8.elim fun H1 V9=>V9.elim fun I1 Wa=>Wa.elim fun r1 q1=>?_) h1;obtain⟨d,rfl,q⟩:=q1;cases r1;exact kP ⟨H1,I1,q⟩
theorem ge{e:Expr}{t:TE}(h:PE X e t)(he:∀whole,isTrue e X.env whole=(do let v ←whole;standAt e.pos;holding [v] (truthy v)):=by intro _;rfl):PT X e (tB t):=by
 intro pins s σ H Q I hw;refine isTrue_plain (thn (h pins s σ H _ I hw) fun v s1 Wb=>Wb.elim fun x Wc=>Wc.elim fun H1 Wd=>Wd.elim fun I1 We=>We.elim fun r1 q1=>?_) (he _);obtain⟨d,rfl,q⟩:=q1;cases r1;exact kP ⟨H1,I1,q⟩
variable {tA BM:TT} {rest:List Expr}
def Wf(t u:TT):TT:=fun σ H Q=>t σ H fun c H1=>if c=true then u σ H1 Q else Q false H1
def Wg(t u:TT):TT:=fun σ H Q=>t σ H fun c H1=>if c=true then Q true H1 else u σ H1 Q
def Nc(t:TT):TT:=fun σ H Q=>t σ H fun c H1=>Q (!c) H1
theorem xA(ha:PT X a tA):PW X (.BoolOp .And [a] pos) tA:=by
 intro wh pins s σ H Q I h;refine isTrue_and (thn (ha pins s σ H Q I h) fun c s1 e=>?_);cases c with
 | true=>exact isTrue_and_nil e
 | false=>exact e
theorem m8(ha:PT X a tA):PW X (.BoolOp .Or [a] pos) tA:=by
 intro wh pins s σ H Q I h;refine isTrue_or (thn (ha pins s σ H Q I h) fun c s1 e=>?_);cases c with
 | false=>exact isTrue_or_nil e
 | true=>exact e
theorem uV(ha:PT X a tA)(hb:PW X (.BoolOp .And (b::rest) pos) BM):PW X (.BoolOp .And (a::b::rest) pos) (Wf tA BM):=by
 intro wh pins s σ H Q I h;refine isTrue_and (thn (ha pins s σ H _ I h) fun c s1 Wh=>Wh.elim fun H1 Wi=>Wi.elim fun I1 q1=>?_);cases c with
 | true=>exact hb wh pins s1 σ H1 Q I1 q1
 | false=>exact⟨H1,I1,q1⟩
theorem iZ(ha:PT X a tA)(hb:PW X (.BoolOp .Or (b::rest) pos) BM):PW X (.BoolOp .Or (a::b::rest) pos) (Wg tA BM):=by
 intro wh pins s σ H Q I h;refine isTrue_or (thn (ha pins s σ H _ I h) fun c s1 Wj=>Wj.elim fun H1 Wk=>Wk.elim fun I1 q1=>?_);cases c with
 | true=>exact⟨H1,I1,q1⟩
 | false=>exact hb wh pins s1 σ H1 Q I1 q1
theorem kU(ha:PT X a tA):PT X (.UnaryOp .Not a pos) (Nc tA):=by
 intro pins s σ H Q I h;exact isTrue_not (ha pins s σ H (fun c H1=>Q (!c) H1) I h)
def Wl(ta tb:TE):TE:=fun σ H Q=>ta σ H fun x H1=>∃c,x = .bl c/\if c=true then tb σ H1 Q else Q (.bl false) H1
def Wm(ta tb:TE):TE:=fun σ H Q=>ta σ H fun x H1=>∃c,x = .bl c/\if c=true then Q (.bl true) H1 else tb σ H1 Q
def Wn(ta:TE):TE:=fun σ H Q=>ta σ H fun x H1=>∃c,x = .bl c/\Q (.bl (!c)) H1
theorem jP{op}{t:TE}(h:PE X a t):PE X (.BoolOp op [a] pos) t:=fun pins s σ H Q I hw=>BoolOp_one (h pins s σ H Q I hw)
theorem jw(ha:PE X a ta)(hb:PE X (.BoolOp .And (b::rest) pos) tb):PE X (.BoolOp .And (a::b::rest) pos) (Wl ta tb):=by
 intro pins s σ H Q I h;refine BoolOp_and (thn (ha pins s σ H _ I h) fun v s1 Wo=>Wo.elim fun x Wp=>Wp.elim fun H1 Wq=>Wq.elim fun I1 Wr=>Wr.elim fun r1 q1=>?_);obtain⟨c,rfl,q1⟩:=q1;cases r1;refine kP ?_;cases c with
 | true=>exact hb pins s1 σ H1 Q I1 q1
 | false=>exact⟨.bl false,H1,I1,rfl,q1⟩
theorem Nd(ha:PE X a ta)(hb:PE X (.BoolOp .Or (b::rest) pos) tb):PE X (.BoolOp .Or (a::b::rest) pos) (Wm ta tb):=by
 intro pins s σ H Q I h;refine BoolOp_or (thn (ha pins s σ H _ I h) fun v s1 Ws=>Ws.elim fun x Wt=>Wt.elim fun H1 Wu=>Wu.elim fun I1 Wv=>Wv.elim fun r1 q1=>?_);obtain⟨c,rfl,q1⟩:=q1;cases r1;refine kP ?_;cases c with
 | false=>exact hb pins s1 σ H1 Q I1 q1
 | true=>exact⟨.bl true,H1,I1,rfl,q1⟩
theorem Gb(ha:PE X a ta):PE X (.UnaryOp .Not a pos) (Wn ta):=by
 intro pins s σ H Q I h;refine UnaryOp_ (thn (ha pins s σ H _ I h) fun v s1 Ww=>Ww.elim fun x Wx=>Wx.elim fun H1 Wy=>Wy.elim fun I1 Wz=>Wz.elim fun r1 q1=>?_);obtain⟨c,rfl,q1⟩:=q1;cases r1;exact not_of (kP ⟨.bl (!c),H1,I1,rfl,q1⟩)
def WA(t:TT)(ta tb:TE):TE:=fun σ H Q=>t σ H fun c H1=>if c=true then ta σ H1 Q else tb σ H1 Q
theorem WB{c:Expr}(hc:PT X c tA)(ha:PE X a ta)(hb:PE X b tb):PE X (.IfExp c a b pos) (WA tA ta tb):=by
 intro pins s σ H Q I h;refine wpAny_IfExp (thn (hc pins s σ H _ I h) fun d s1 WC=>WC.elim fun H1 WD=>WD.elim fun I1 q1=>?_);cases d with
 | true=>exact ha pins s1 σ H1 Q I1 q1
 | false=>exact hb pins s1 σ H1 Q I1 q1
end
def af(K:Fg)(H:Hp)(a:Addr)(xs:Lv):Prop:=
 Rd H a (.lst xs) \/
  ∃(o:Obj) (its:Av) (n:Nat),K.lookup a=some o/\o.cls = .type "list"/\o.dict=none/\o.data = .seq its n/\its.size<=sizeLine/\a8 xs its.toList
def aw(K:Fg)(H:Hp)(a:Addr)(xs:Lv):Prop:=
 Rd H a (.tup xs) \/
  ∃(o:Obj) (its:Av) (n:Nat),K.lookup a=some o/\o.cls = .type "tuple"/\o.data = .seq its n/\its.size<=sizeLine/\a8 xs its.toList
def WE:Value->Option V
 | .none=>some .non
 | .bool b=>some (.bl b)
 | .int i _=>some (.int i)
 | .str x _=>some (.str x)
 | .bytes b _=>some (.byt b)
 | .float b _=>some (.flt b)
 | .ref a=>some (.ref a)
 | .type n=>some (.ty n)
 | _=>none
theorem RelV.abs{x:V}{u:Value}(r:RelV x u):WE u=some x:=by
 cases x with
 | non=>cases r;rfl
 | bl _=>cases r;rfl
 | int _=>obtain⟨t,rfl⟩:=r;rfl
 | str _=>obtain⟨t,rfl⟩:=r;rfl
 | byt _=>obtain⟨t,rfl⟩:=r;rfl
 | flt _=>obtain⟨t,rfl⟩:=r;rfl
 | ref _=>cases r;rfl
 | ty _=>cases r;rfl
theorem RelV.inj{x y:V}{u:Value}(r:RelV x u)(q:RelV y u):x=y:=eK (r.abs.symm.trans q.abs)
theorem a8.inj:∀{xs ys:Lv} {us:Lw},a8 xs us->a8 ys us->xs=ys
 | _,_,_,.nil,.nil=>rfl
 | _,_,_,.cons r t,.cons r' t'=>by rw[r.inj r',a8.inj t t']
section
variable {X:Cx} {pins:Po} {σ:St} {H:Hp} {s:Shared} {a:Addr} {xs ys:Lv}
theorem af.of{K:Fg}(h:H a=some (.lst xs)):af K H a xs:=.inl (.inl h)
theorem aw.of{K:Fg}(h:H a=some (.tup xs)):aw K H a xs:=.inl (.inl h)
theorem Inv.list(I:Inv X pins σ H s)(h:af X.K H a xs):∃its:Lw,a8 xs its/\PlainL s.heap a its.toArray/\xs.length<=sizeLine:=by
 rcases h with h | ⟨o,its,n,hk,hc,hd,hs,hz,r⟩
 . obtain⟨z,its,n,r,e⟩:=h.ok I.hok;exact⟨its,r,⟨_,n,e,rfl,rfl,rfl⟩,z⟩
 . refine⟨its.toList,r,⟨o,n,I.kIn a o hk,hc,hd,by simpa using hs⟩,?_⟩;have e:=r.length;simp only[dm]at e;omega
theorem Inv.tuple(I:Inv X pins σ H s)(h:aw X.K H a xs):∃its:Lw,a8 xs its/\IsTup s.heap a its.toArray/\xs.length<=sizeLine:=by
 rcases h with h | ⟨o,its,n,hk,hc,hs,hz,r⟩
 . obtain⟨z,its,r,p⟩:=h.ok I.hok;exact⟨its,r,p,z⟩
 . refine⟨its.toList,r,⟨o,I.kIn a o hk,hc,n,by simpa using hs⟩,?_⟩;have e:=r.length;simp only[dm]at e;omega
theorem Inv.list_inj(I:Inv X pins σ H s)(h:af X.K H a xs)(h':af X.K H a ys):xs=ys:=by
 obtain⟨its,r,⟨o,n,e,_,_,d⟩,_⟩:=I.list h;obtain⟨its',r',⟨o',n',e',_,_,d'⟩,_⟩:=I.list h';rw[e]at e';cases e';rw[d]at d';injection d' with d1 _
 have:its=its':=by simpa using fL Array.toList d1
 subst this;exact r.inj r'
end
abbrev Cx.wish (X:Cx) (E:VP):Cx:={ X with xe:=E }
abbrev Cx.nox (X:Cx):Cx:=X.wish fun _ _=>False
theorem Cx.Ok.wish{X:Cx}(ok:X.Ok)(E:VP):(X.wish E).Ok:=
 ⟨ok.mod,ok.kind,ok.glob,ok.blt,ok.above,ok.inj,ok.has,ok.cab,ok.hd,ok.frames,ok.stk,ok.exf,ok.bs,ok.bsz,ok.noex,ok.exfs,ok.funs,ok.frf⟩
theorem Cx.Ok.unwish{X:Cx}{E:VP}(ok:(X.wish E).Ok):X.Ok:=
 ⟨ok.mod,ok.kind,ok.glob,ok.blt,ok.above,ok.inj,ok.has,ok.cab,ok.hd,ok.frames,ok.stk,ok.exf,ok.bs,ok.bsz,ok.noex,ok.exfs,ok.funs,ok.frf⟩
section
variable {X:Cx} {pins:Po} {σ:St} {H:Hp} {s:Shared} {E:VP}
theorem Inv.wish(I:Inv X pins σ H s)(E:VP):Inv (X.wish E) pins σ H s:=⟨I.ok.wish E,I.os,I.bare,I.base,I.loc,I.cell,I.free,I.freeC,I.pin,I.hok,I.len⟩
theorem Inv.unwish(I:Inv (X.wish E) pins σ H s):Inv X pins σ H s:=⟨I.ok.unwish,I.os,I.bare,I.base,I.loc,I.cell,I.free,I.freeC,I.pin,I.hok,I.len⟩
theorem SP.unwish{D:Ends}{f:Flow}{s':Shared}(h:SP (X.wish E) pins D f s'):SP X pins D f s':=by
 cases f with
 | next=>obtain⟨σ',H',I,q⟩:=h;exact⟨σ',H',I.unwish,q⟩
 | brk=>obtain⟨σ',H',I,q⟩:=h;exact⟨σ',H',I.unwish,q⟩
 | cont=>obtain⟨σ',H',I,q⟩:=h;exact⟨σ',H',I.unwish,q⟩
 | ret u=>obtain⟨v,σ',H',I,r,q⟩:=h;exact⟨v,σ',H',I.unwish,r,q⟩
theorem cz.nox{st:List Stmt}{t:TS}(h:cz X.nox st t):cz X st t:=fun pins s σ H D I hw=>
 dN (h pins s σ H D (I.wish _) hw) (fun _ _ q=>q.unwish) fun _ _ z=>False.elim z
end
section
variable {X:Cx} {st:Stmt} {rest:List Stmt} {t u:TS} {e:Expr} {te:TE} {pos:Pos}
def WF:TS:=fun D σ H=>D.nx σ H
def a9(t u:TS):TS:=fun D σ H=>t { D with nx:=u D } σ H
theorem cr:cz X [] WF:=fun _ _ σ H _ I h=>Uy ⟨σ,H,I,h⟩
theorem az(h1:PS X st t)(h2:cz X rest u):cz X (st::rest) (a9 t u):=by
 intro pins s σ H D I h;refine Uz (thn (h1 pins s σ H { D with nx:=u D } I h) fun f s1 q=>?_);cases f with
 | next=>
  obtain⟨σ',H',I',q⟩:=q;exact h2 pins s1 σ' H' D I' q
 | ret v=>exact q
 | brk=>exact q
 | cont=>exact q
theorem aB(h1:PS X st t):cz X [st] t:=by
 intro pins s σ H D I h;refine Uz (thn (h1 pins s σ H D I h) fun f s1 q=>?_);cases f with
 | next=>exact Uy q
 | ret v=>exact q
 | brk=>exact q
 | cont=>exact q
theorem Inv.quiet{pins:Po}{σ:St}{H:Hp}{s:Shared}(I:Inv X pins σ H s):interactive X.env=false:=by simp[interactive,I.ok.kind]
def WG(te:TE):TS:=fun D σ H=>te σ H fun _ H1=>D.nx σ H1
theorem m9(he:PE X e te)(hs:swapsWith e none pos.line X.env=pure false:=by rfl):PS X (.Expr e pos) (WG te):=by
 intro pins s σ H D I h;exact wpAny_Expr_any (thn (he pins s σ H _ I h) fun v s1 WH=>WH.elim fun x WI=>WI.elim fun H1 WJ=>WJ.elim fun I1 WK=>WK.elim fun r1 q1=>⟨σ,H1,I1,q1⟩) I.quiet hs
def WL(te:TE):TS:=fun D σ H=>te σ H D.rt
theorem aO(he:PE X e te):PS X (.Return (some e) pos) (WL te):=by
 intro pins s σ H D I h;exact wpAny_Return_some (thn (he pins s σ H _ I h) fun v s1 WM=>WM.elim fun x WN=>WN.elim fun H1 WO=>WO.elim fun I1 WP=>WP.elim fun r1 q1=>⟨x,σ,H1,I1,r1,q1⟩)
def WQ(c:TT)(t u:TS):TS:=fun D σ H=>c σ H fun b H1=>if b=true then t D σ H1 else u D σ H1
theorem cp{c:Expr}{a b:List Stmt}{tc:TT}(hc:PT X c tc)(ha:cz X a t)(hb:cz X b u):PS X (.If c a b pos) (WQ tc t u):=by
 intro pins s σ H D I h;refine wpAny_If (thn (hc pins s σ H _ I h) fun d s1 WR=>WR.elim fun H1 WS=>WS.elim fun I1 q1=>?_);cases d with
 | true=>exact ha pins s1 σ H1 D I1 q1
 | false=>exact hb pins s1 σ H1 D I1 q1
def WT:TS:=fun _ _ _=>False
theorem Nf:PS X st WT:=fun _ _ _ _ _ _ h=>h.elim
end
abbrev TG:=V->St->Hp->(St->Hp->Prop)->Prop
abbrev qG:=Lv->St->Hp->(St->Hp->Prop)->Prop
def PG(X:Cx)(target:Expr)(t:TG):Prop:=
 ∀(pins:Po) (s:Shared) (σ:St) (H:Hp) (v:V) (u:Value) (Q:St->Hp->Prop),Inv X pins σ H s->RelV v u->t v σ H Q ->
  wpAny (model X.prog X.w) X.A (assign target X.env u) (fun _ s'=>∃σ' H',Inv X pins σ' H' s'/\Q σ' H') X.xe s
def iB(X:Cx)(ts:List Expr)(t:qG):Prop:=
 ∀(pins:Po) (s:Shared) (σ:St) (H:Hp) (vs:Lv) (us:Lw) (Q:St->Hp->Prop),Inv X pins σ H s->a8 vs us->t vs σ H Q ->
  wpAny (model X.prog X.w) X.A (assignInOrder ((assignEach ts X.env).map (·.2)) us) (fun _ s'=>∃σ' H',Inv X pins σ' H' s'/\Q σ' H') X.xe s
section
variable {X:Cx} {pos:Pos}
def qH(i:Nat):TG:=fun v σ H Q=>Q (σ.set i (some v)) H
theorem aT{i:Nat}{x:Str}(hN:X.N.Nodup)(hi:X.N[i]? = some x)(hx:Loc X.env.scope x)(hf:X.fn x=true\/X.env.scope.names.lookup x=some .local:=by first | exact .inl rfl | exact .inr rfl | assumption):PG X (.Name x pos) (qH i):=by
 intro pins s σ H v u Q I r h;exact wpAny_assign_Name (Nb I hN hi hx r (fun s' I'=>⟨_,H,I',h⟩) hf)
def Gc:qG:=fun vs σ H Q=>vs = []/\Q σ H
def xB(t:TG)(u:qG):qG:=fun vs σ H Q=>∃v r,vs=v::r/\t v σ H fun σ' H'=>u r σ' H' Q
theorem ng:iB X [] Gc:=by
 intro pins s σ H vs us Q I r h;obtain⟨e,h⟩:=h;subst e;cases r;exact assignInOrder_nil ⟨σ,H,I,h⟩
theorem gf{e:Expr}{es:List Expr}{t:TG}{u:qG}(h1:PG X e t)(h2:iB X es u)
 (hs:(assignEach (e::es) X.env).map (·.2)=assign e X.env::(assignEach es X.env).map (·.2):=by rfl):iB X (e::es) (xB t u):=by
 intro pins s σ H vs us Q I r h;obtain⟨v,vr,e1,h⟩:=h;subst e1;cases r with
 | cons r rr=>
  rw[hs];refine assignInOrder_cons (thn (h1 pins s σ H _ _ _ I r h) fun _ s1 WU=>WU.elim fun σ1 WV=>WV.elim fun H1 WW=>WW.elim fun I1 q1=>?_);exact h2 pins s1 σ1 H1 _ _ Q I1 rr q1
def BN(K:Fg)(n:Nat)(t:qG):TG:=fun v σ H Q=>∃a xs,v = .ref a/\aw K H a xs/\xs.length=n/\t xs σ H Q
theorem sk{es:List Expr}{k:Nat}{t:qG}{n:Nat}(hc:X.calm=true)(h:iB X es t)
 (hn:(assignEach es X.env).length=n:=by rfl) (lM:(assignEach es X.env).findIdx? (·.1)=none:=by rfl):PG X (.Tuple es k pos) (BN X.K n t):=by
 intro pins s σ H v u Q I r hw;obtain⟨a,xs,e1,hq,hl,hw⟩:=hw;subst e1;cases r;obtain⟨its,rv,ht,hz⟩:=I.tuple hq;refine assign_Tuple_tuple (I.ok.hd hc) ht (by simp[hn,←hl,rv.length]) lM fun h' hx=>?_;have I1:Inv X pins σ H { s with heap:=h' }:=I.kept (t':=s.toks) fun b o e=>hx b o (bE (aZ e)) e;exact h pins _ σ H xs _ Q I1 (by simpa using rv) hw
def Gd(te:TE)(g:TG):TS:=fun D σ H=>te σ H fun x H1=>g x σ H1 D.nx
theorem WX{tg e:Expr}{te:TE}{g:TG}(he:PE X e te)(hg:PG X tg g)(hs:swapsWithSole [tg] e pos.line X.env=pure false:=by rfl)(hw:swappedStores [tg] e X.env=pure none:=by rfl)
 (h1:(assignEach [tg] X.env).map (·.2) = [assign tg X.env]:=by rfl):PS X (.Assign [tg] e pos) (Gd te g):=by
 intro pins s σ H D I h;refine wpAny_Assign_stores (thn (he pins s σ H _ I h) fun v s1 WY=>WY.elim fun x WZ=>WZ.elim fun H1 W0=>W0.elim fun I1 W1=>W1.elim fun r1 q1=>?_) hs hw;rw[h1];exact thn (hg pins s1 σ H1 x v _ I1 r1 q1) fun _ s2 q=>q
theorem bi{i:Nat}{x:Str}{e:Expr}{te:TE}{pos':Pos}(hN:X.N.Nodup)(hi:X.N[i]? = some x)(hx:Loc X.env.scope x)(he:PE X e te)(hs:swapsWith e (some (.Name x pos')) pos.line X.env=pure false:=by rfl)(hf:X.fn x=true\/X.env.scope.names.lookup x=some .local:=by first | exact .inl rfl | exact .inr rfl | assumption) :
 PS X (.Assign [.Name x pos'] e pos) (Gd te (qH i)):=by
 intro pins s σ H D I h;refine wpAny_Assign_Name (thn (he pins s σ H _ I h) fun v s1 W2=>W2.elim fun y W3=>W3.elim fun H1 W4=>W4.elim fun I1 W5=>W5.elim fun r1 q1=>?_) hs;exact Nb I1 hN hi hx r1 (fun s2 I2=>⟨_,H1,I2,q1⟩) hf
end
structure It where
 go:Nat->Hp->Prop
 yld:Nat->Hp->V->Hp->Prop
 stop:Nat->Hp->Prop
def eZ(X:Cx)(pins:Po)(H:Hp)(b:Addr):Prop:=
 H b=none/\b≠X.env.locals/\b∉X.fs/\(b∈X.ex\/X.s₀.heap.objs.size<=b)/\(∀x c,X.env.cells.lookup x=some c->c≠b)/\∀p∈X.pn++pins,p.1≠b
theorem Inv.fpOk{X:Cx}{pins:Po}{σ:St}{H H':Hp}{s:Shared}{b:Addr}(I:Inv X pins σ H s)(hb:s.heap.objs.size<=b)(hn:H' b=none):eZ X pins H' b:=by
 refine⟨hn,ki (gJ I.lt hb),I.nofs hb,.inr (bS I.sz hb),fun x c e z=>?_,fun p hp z=>?_⟩
 . obtain⟨v,q⟩:=I.cell x c e;exact absurd (gJ q.lt (by rw[z];exact hb)) (mU _)
 . exact absurd (gJ (aZ (I.pin p hp).1) (by rw[z];exact hb)) (mU _)
structure oZ(P:Program)(w:World)(K:Fg)(tg:Expr)(J:It)(fp:List Addr)(it:Addr)(tn:Nat->Heap->Prop):Prop where
 mem:it∈fp
 obj:∀i h,tn i h->∀b∈fp,∃o,h.get? b=some o/\∀v,o.data≠.cell v
 keep:∀i h h',tn i h->(∀b∈fp,∀o,h.get? b=some o->h'.get? b=some o)->tn i h'
 item:∀(X:Cx),X.prog=P->X.w=w->X.K=K->X.calm=true->∀(i:Nat) (pins:Po) (s:Shared) (σ:St) (H:Hp) (E:VP),Inv X pins σ H s->(∀b∈fp,eZ X pins H b)->tn i s.heap->J.go i H ->
  wpAny (model P w) X.A (pyNext (.ref it)) (fun r s1=>∃u,r=some u /\
   wpAny (model P w) X.A (letOwnedTupleGo tg (.ref it) u) (fun _ s2=>∃x H',Inv X pins σ H' s2/\RelV x u/\J.yld i H x H'/\tn (i+1) s2.heap/\∀b∈fp,H' b=none) E s1) E s
 done:∀(X:Cx),X.prog=P->X.w=w->X.K=K->X.calm=true->∀(i:Nat) (pins:Po) (s:Shared) (σ:St) (H:Hp) (E:VP),Inv X pins σ H s->(∀b∈fp,eZ X pins H b)->tn i s.heap->J.stop i H ->
  wpAny (model P w) X.A (pyNext (.ref it)) (fun r s1=>r=none/\Inv X pins σ H s1) E s
 self:∀(A:Around) (i:Nat) (s:Shared) (Q:VP) (E:VP),tn i s.heap->Q (.ref it) s->wpAny (model P w) A (pyIter (.ref it)) Q E s
abbrev TI:=St->Hp->(It->Hp->Prop)->Prop
def Ng(X:Cx)(pins:Po)(σ:St)(tg:Expr)(R:It->Hp->Prop)(BO:Value)(s2:Shared):Prop:=
 ∃(it:Addr) (fp:List Addr) (tn:Nat->Heap->Prop) (J:It) (H':Hp),BO = .ref it/\Inv X pins σ H' s2/\oZ X.prog X.w X.K tg J fp it tn/\tn 0 s2.heap/\(∀b∈fp,eZ X pins H' b)/\R J H'
def PI(X:Cx)(tg iter:Expr)(wi:TI):Prop:=
 ∀(pins:Po) (s:Shared) (σ:St) (H:Hp) (R:It->Hp->Prop),Inv X pins σ H s->wi σ H R ->
  wpAny (model X.prog X.w) X.A (eval iter X.env) (fun v s1=>wpAny (model X.prog X.w) X.A (pyIter v) (Ng X pins σ tg R) X.xe s1) X.xe s
theorem Ge{M:Model}{A:Around}{E:VP}{s:Shared}{tg:Expr}{it:Addr}{u:Value}{o:Obj}{n:String}{vs:Av}{Q:Unit->Shared->Prop}(ho:s.heap.get? it=some o)(hc:o.cls = .type n)(hd:o.data = .fields vs)
 (hn:["enumerate","zip","dict_itemiterator","dict_reverseitemiterator","odict_iterator","itertools.zip_longest","itertools.pairwise"].contains n=false) (hQ:Q () s):wpAny M A (letOwnedTupleGo tg (.ref it) u) Q E s:=by
 unfold letOwnedTupleGo;cases tg<;>first
  | exact aq hQ
  | (cases u<;>first
   | exact aq hQ
   | (refine ac (wpAny_load ho ?_)
      rw[hc,hd];show wpAny M A (if (["enumerate","zip","dict_itemiterator","dict_reverseitemiterator","odict_iterator","itertools.zip_longest","itertools.pairwise"].contains n && vs[0]? == some (rawInt _))=true then _ else _) Q E s;rw[ah (by intro h;rw[hn,iU]at h;cases h)];exact aq hQ))
def nh(K:Fg)(a:Addr):It:=
 ⟨fun i H=>∃xs x,af K H a xs/\xs[i]? = some x,fun i H x H'=>H'=H/\∀xs,af K H a xs->xs[i]? = some x,fun i H=>∃xs,af K H a xs/\xs.length<=i⟩
def qI(lo:Int)(n:Nat):It:=⟨fun i _=>i<n,fun i H x H'=>H'=H/\x = .int (lo+i),fun i _=>n<=i⟩
theorem W6{P:Program}{w:World}{K:Fg}{tg:Expr}(a it:Addr):oZ P w K tg (nh K a) [it] it (fun i h=>h.IsListIter it a i) where
 mem:=by simp
 obj:=fun i h st b hb=>by
  have e:b=it:=by simpa using hb
  subst e;obtain⟨o,e,c,d⟩:=st;exact⟨o,e,fun v z=>by rw[d]at z;cases z⟩
 keep:=fun i h h' st k=>st.at fun o e=>k it (by simp) o e
 item:=by
  intro X hP hw hK hc i pins s σ H E I hf st hg;subst hP hw hK;obtain⟨xs,x,hq,hx⟩:=hg;obtain⟨its,rv,p,hz⟩:=I.list hq;obtain⟨u,hu,ru⟩:=rv.get hx;obtain⟨f0,f1,f2,f3,f4,f5⟩:=hf it (by simp);refine wpAny_pyNext_list_item st p.isList (x:=u) (by simpa using hu) fun h' dq sb=>?_;have I1:Inv X pins σ H { s with heap:=h' }:=I.turned (t':=s.toks) (fun b o hb e=>(sb.2 b hb).trans e) f0 f1 f3 f4 f5;obtain⟨o,e,c,d⟩:=id dq;exact⟨u,rfl,Ge (s:={ s with heap:=h' }) e c d (by decide) ⟨x,H,I1,ru,⟨rfl,fun ys hy=>by rw[I.list_inj hy hq];exact hx⟩,dq,fun b hb=>(hf b hb).1⟩⟩
 done:=by
  intro X hP hw hK hc i pins s σ H E I hf st hg;subst hP hw hK;obtain⟨xs,hq,hx⟩:=hg;obtain⟨its,rv,p,hz⟩:=I.list hq;obtain⟨f0,f1,f2,f3,f4,f5⟩:=hf it (by simp);have hl:=rv.length;exact wpAny_pyNext_list_end (I.ok.hd hc) st p.isList (by simp;omega) fun h' eb=>⟨rfl,I.turned (t':=s.toks) (fun b o hb e=>eb b o hb e) f0 f1 f3 f4 f5⟩
 self:=fun _ _ _ _ _ st h=>wpAny_pyIter_listiter st h
theorem W7{P:Program}{w:World}{K:Fg}{tg:Expr}(it:Addr)(lo:Int)(n:Nat):oZ P w K tg (qI lo n) [it] it (fun i h=>IsRangeIter h it (lo+(i:Nat) * 1) ((n:Int) - (i:Nat)) 1) where
 mem:=by simp
 obj:=fun i h st b hb=>by
  have e:b=it:=by simpa using hb
  subst e;exact⟨_,st,fun v z=>by
   have z':Data.fields _=Data.cell v:=z;cases z'⟩
 keep:=fun i h h' st k=>k it (by simp) _ st
 item:=by
  intro X hP hw hK hc i pins s σ H E I hf st hg;subst hP hw hK;obtain⟨f0,f1,f2,f3,f4,f5⟩:=hf it (by simp);have W:=Walks.range (prog:=X.prog) (w:=X.w) (I.ok.hd hc) it lo 1 n;refine W.item i s _ _ hg st fun v h' tk hv dq kk=>?_;obtain⟨t,rfl⟩:=hv;have I1:Inv X pins σ H { s with heap:=h',toks:=tk }:=I.turned (fun b o hb e=>kk b o (by simpa using hb) e) f0 f1 f3 f4 f5;refine⟨_,rfl,Ge (s:={ s with heap:=h',toks:=tk }) (n:="range_iterator") dq rfl rfl (by decide) ⟨.int (lo+i),H,I1,⟨t,?_⟩,⟨rfl,rfl⟩,dq,fun b hb=>(hf b hb).1⟩⟩;rw[Int.mul_one]
 done:=by
  intro X hP hw hK hc i pins s σ H E I hf st hg;subst hP hw hK;obtain⟨f0,f1,f2,f3,f4,f5⟩:=hf it (by simp);exact wpAny_pyNext_range_end (I.ok.hd hc) st (by have:n<=i:=hg;omega) fun h' eb=>⟨rfl,I.turned (t':=s.toks) (fun b o hb e=>eb b o hb e) f0 f1 f3 f4 f5⟩
 self:=fun _ _ _ _ _ st h=>wpAny_pyIter_rangeiter st h
section
variable {X:Cx} {tg:Expr}
def W8(K:Fg)(tl:TE):TI:=fun σ H R=>tl σ H fun x H1=>∃a,x = .ref a/\(∃xs,af K H1 a xs)/\R (nh K a) H1
theorem bJ{l:Expr}{tl:TE}(hl:PE X l tl):PI X tg l (W8 X.K tl):=by
 intro pins s σ H R I h;refine thn (hl pins s σ H _ I h) fun v s1 W9=>W9.elim fun x Xa=>Xa.elim fun H1 Xb=>Xb.elim fun I1 Xc=>Xc.elim fun r1 q1=>?_;obtain⟨a,e,⟨xs,hq⟩,q⟩:=q1;subst e;cases r1;obtain⟨its,rv,p,hz⟩:=I1.list hq;refine Ft p.isList ?_;refine⟨s1.heap.objs.size,[s1.heap.objs.size],_,_,H1,rfl,I1.kept (t':=s1.toks) fun b o e=>bq _ e,W6 a _,⟨_,da _ rfl,rfl,rfl⟩,fun b hb=>?_,q⟩;have e:b=s1.heap.objs.size:=by simpa using hb
 subst e;exact I1.fpOk (aH _) (I1.hok.fresh (aH _))
theorem Xd{pins:Po}{σ:St}{H:Hp}{s:Shared}{R:It->Hp->Prop}{E:VP}{lo hi:Int}{t u v:Tok}{tk:Nat}(I:Inv X pins σ H s)(h1:-(2 ^ 62)<=lo)(h2:lo<2 ^ 62)(h3:-(2 ^ 62)<=hi)(h4:hi<2 ^ 62)
 (q:R (qI lo (hi - lo).toNat) H):wpAny (model X.prog X.w) X.A (pyIter (.ref s.heap.objs.size)) (Ng X pins σ tg R) E { s with heap:=s.heap.push { cls:=.type "range",data:=.fields #[.int lo t,.int hi u,.int 1 v] },toks:=tk }:=by
 refine wpAny_pyIter_range (IsRange.new ..) (small_one h1 h2 h3 h4) ?_;have I1:Inv X pins σ H { s with heap:=s.heap.push { cls:=.type "range",data:=.fields #[.int lo t,.int hi u,.int 1 v] },toks:=tk }:=I.kept fun b o e=>bq _ e;refine⟨(s.heap.push { cls:=.type "range",data:=.fields #[.int lo t,.int hi u,.int 1 v] }).objs.size,[(s.heap.push { cls:=.type "range",data:=.fields #[.int lo t,.int hi u,.int 1 v] }).objs.size],_,_,H,rfl,
  I1.kept (t':=tk) fun b o e=>bq _ e,W7 _ lo (hi - lo).toNat,?_,fun b hb=>?_,q⟩
 . have e1:lo+((0:Nat):Int) * 1=lo:=by simp
   have e2:(((hi - lo).toNat:Nat):Int) - ((0:Nat):Int)=Builtin.Range.rangeSize lo hi 1:=by rw[rangeSize_one];split<;>omega
   show IsRangeIter _ _ (lo+((0:Nat):Int) * 1) ((((hi - lo).toNat:Nat):Int) - ((0:Nat):Int)) 1;rw[e1,e2];exact da _ rfl
 . have e:b=(s.heap.push { cls:=.type "range",data:=.fields #[.int lo t,.int hi u,.int 1 v] }).objs.size:=by simpa using hb
   subst e;exact I1.fpOk (aH _) (I1.hok.fresh (aH _))
def Xe(ta:TA):TI:=fun σ H R=>ta σ H fun vs H1=>∃j:Int,vs = [.int j]/\-(2 ^ 62)<=j/\j<2 ^ 62/\R (qI 0 j.toNat) H1
theorem o0{a:Expr}{ta:TA}{p pos:Pos}(hg:Gl X "range")(hm:X.mg "range" = none)(ha:PA X [a] ta)(hs:starEach [a] X.env = [(false,eval a X.env)]:=by rfl):PI X tg (.Call (.Name "range" p) [a] [] pos) (Xe ta):=by
 intro pins s σ H R I h;refine Call_ (sj I hg hm boot_range (L7 (thn (ha pos pins s σ H _ I h) fun us s1 Xf=>Xf.elim fun vs Xg=>Xg.elim fun H1 Xh=>Xh.elim fun I1 Xi=>Xi.elim fun r1 q1=>?_) hs rfl));obtain⟨j,e,q1,q2,q⟩:=q1;subst e;cases r1 with
 | cons r rr=>
  cases rr;obtain⟨t,rfl⟩:=r;exact call_range_1 (Xd I1 (by omega) (by omega) q1 q2 (by simpa using q))
def Xj(wi:TI)(g:TG)(tb:TS):TS:=fun D σ H=>wi σ H fun J H1=>∃W:Nat->Nat->St->Hp->Prop,(∃m,W 0 m σ H1)/\∀i m σ H,W i m σ H ->
 (J.stop i H/\D.nx σ H)\/(J.go i H/\∃N:St->Hp->Prop,(∀σ' H',N σ' H'->∃m',m'<m/\W (i+1) m' σ' H')/\∀x H',J.yld i H x H'->g x σ H' fun σ2 H2=>tb { D with nx:=N,ct:=N,bk:=D.nx } σ2 H2)
def sq(fp:List Addr)(h:Heap):Po:=fp.filterMap fun b=>(h.get? b).map fun o=>(b,o)
theorem qJ{fp:List Addr}{h:Heap}{b:Addr}{o:Obj}(hb:b∈fp)(e:h.get? b=some o):(b,o)∈sq fp h:=L8.mpr ⟨b,hb,by rw[e];rfl⟩
theorem Xk{fp:List Addr}{h:Heap}{p:Addr×Obj}(hp:p∈sq fp h):p.1∈fp/\h.get? p.1=some p.2:=by
 obtain⟨b,hb,e⟩:=L8.mp hp;cases q:h.get? b with
 | none=>rw[q]at e;cases e
 | some o=>
  rw[q]at e;have e':(b,o)=p:=eK e;subst e';exact⟨hb,q⟩
theorem Inv.pinned{pins:Po}{σ:St}{H:Hp}{s:Shared}{fp:List Addr}(I:Inv X pins σ H s)(hf:∀b∈fp,eZ X pins H b)(ho:∀b∈fp,∃o,s.heap.get? b=some o/\∀v,o.data≠.cell v):Inv X (pins++sq fp s.heap) σ H s:=
 I.pins_of fun p hp=>(eg.mp hp).elim (fun z=>I.pin p (iy _ z)) fun z=>by
  obtain⟨hb,e⟩:=Xk z;obtain⟨f0,f1,f2,_⟩:=hf p.1 hb;obtain⟨o,e',d⟩:=ho p.1 hb;rw[e]at e';cases e';exact⟨e,f0,f1,f2,d⟩
theorem Inv.unpinned{pins pl:Po}{σ:St}{H:Hp}{s:Shared}(I:Inv X (pins++pl) σ H s):Inv X pins σ H s:=I.pins_of fun p hp=>I.pin p (iy _ (Ux _ hp))
theorem gr{iter:Expr}{body:List Stmt}{wi:TI}{g:TG}{tb:TS}{pos:Pos}(hp:PassesOwn (model X.prog X.w) X.A X.env X.xe)(hc:X.calm=true)(hi:PI X tg iter wi)(hg:PG X tg g)(hb:cz X body tb)
 (hs:∀x,foldedSetIterable iter X.env x=pure x:=by intro _;rfl):PS X (.For tg iter body [] pos) (Xj wi g tb):=by
 intro pins s σ H D I h;refine wpAny_For (thn (hi pins s σ H _ I h) fun v s1 h1=>thn h1 fun BO s2 h2=>?_) hs;obtain⟨it,fp,tn,J,H2,e,I2,T,iC,f2,W,⟨m0,w0⟩,turn⟩:=h2;subst e;have Gf:∀{H':Hp},(∀b∈fp,H' b=none)->∀b∈fp,eZ X pins H' b:=fun hn b hb=>⟨hn b hb,(f2 b hb).2⟩;refine codeAny_forLoop_any (fun n s'=>∃i σ' H',Inv X pins σ' H' s'/\tn i s'.heap/\(∀b∈fp,H' b=none)/\W i n σ' H') ?_ m0 ⟨0,σ,H2,I2,iC,fun b hb=>(f2 b hb).1,w0⟩;rintro n s3 ⟨i,σ3,H3,I3,sr,Nh,w3⟩
 rcases turn i n σ3 H3 w3 with⟨stop,qn⟩ | ⟨go,N,hN,step⟩
 . refine Fu hp (thn (T.done X rfl rfl rfl hc i pins s3 σ3 H3 X.xe I3 (Gf Nh) sr stop) fun r s4 Xl=>Xl.elim fun hr I4=>?_);subst hr;exact Uy ⟨σ3,H3,I4,qn⟩
 . refine Fu hp (thn (T.item X rfl rfl rfl hc i pins s3 σ3 H3 X.xe I3 (Gf Nh) sr go) fun r s4 Xm=>Xm.elim fun u Xn=>Xn.elim fun hr h4=>?_);subst hr;refine Fu hp (thn h4 fun _ s5 Xo=>Xo.elim fun x Xp=>Xp.elim fun H5 Xq=>Xq.elim fun I5 Xr=>Xr.elim fun r5 Xs=>Xs.elim fun y5 Xt=>Xt.elim fun su Gg=>?_);have Xu:=I5.pinned (Gf Gg) (T.obj _ _ su);refine Fu hp (thn (hg _ s5 σ3 H5 x u _ Xu r5 (step x H5 y5)) fun _ s6 Xv=>Xv.elim fun σ6 Xw=>Xw.elim fun H6 Xx=>Xx.elim fun I6 q6=>?_);refine Fu hp (thn (hb _ s6 σ6 H6 _ I6 q6) fun f s7 q7=>?_);have again:∀{σ7:St} {H7:Hp},Inv X (pins++sq fp s5.heap) σ7 H7 s7->N σ7 H7->∃m,m<n/\∃i σ' H',Inv X pins σ' H' s7/\tn i s7.heap/\(∀b∈fp,H' b=none)/\W i m σ' H':=fun {σ7 H7} I7 n7=>by
    obtain⟨m',hm,w7⟩:=hN σ7 H7 n7;refine⟨m',hm,i+1,σ7,H7,I7.unpinned,T.keep _ _ _ su fun b hb o e=>(I7.pin (b,o) (iy _ (iy _ (qJ hb e)))).1,fun b hb=>?_,w7⟩;obtain⟨o,e,d⟩:=T.obj _ _ su b hb;exact(I7.pin (b,o) (iy _ (iy _ (qJ hb e)))).2.1
   cases f with
   | next=>obtain⟨σ7,H7,I7,n7⟩:=q7;exact again I7 n7
   | cont=>obtain⟨σ7,H7,I7,n7⟩:=q7;exact again I7 n7
   | brk=>obtain⟨σ7,H7,I7,q7⟩:=q7;exact⟨σ7,H7,I7.unpinned,q7⟩
   | ret v=>obtain⟨x7,σ7,H7,I7,r7,q7⟩:=q7;exact⟨x7,σ7,H7,I7.unpinned,r7,q7⟩
end
theorem jQ{K:Fg}{a:Addr}{xs:Lv}{g:TG}{tb:TS}{D:Ends}{σ:St}{H:Hp}(Pv:Nat->St->Hp->Prop)(h0:Pv 0 σ H)(hl:∀i σ H,i<=xs.length->Pv i σ H->af K H a xs)
 (hs:∀i x σ H,xs[i]? = some x->Pv i σ H->g x σ H fun σ2 H2=>tb { D with nx:=Pv (i+1),ct:=Pv (i+1),bk:=D.nx } σ2 H2) (hd:∀σ H,Pv xs.length σ H->D.nx σ H) :
 ∃W:Nat->Nat->St->Hp->Prop,(∃m,W 0 m σ H)/\∀i m σ H,W i m σ H ->
  ((nh K a).stop i H/\D.nx σ H)\/((nh K a).go i H/\∃N:St->Hp->Prop,(∀σ' H',N σ' H'->∃m',m'<m/\W (i+1) m' σ' H')/\∀x H',(nh K a).yld i H x H'->g x σ H' fun σ2 H2=>tb { D with nx:=N,ct:=N,bk:=D.nx } σ2 H2):=by
 refine⟨fun i m σ H=>m=xs.length - i/\i<=xs.length/\Pv i σ H,⟨xs.length,by simp,dO _,h0⟩,?_⟩;rintro i m σ H ⟨rfl,hi,p⟩;have q:=hl i σ H hi p
 by_cases aD:i<xs.length
 . refine .inr ⟨⟨xs,xs[i],q,by simp[aD]⟩,Pv (i+1),fun σ' H' p'=>⟨xs.length - (i+1),by omega,rfl,aD,p'⟩,fun x H' y=>?_⟩;obtain⟨e,y⟩:=y;subst e;exact hs i x σ _ (y xs q) p
 . have e:i=xs.length:=by omega
   subst e;exact .inl ⟨⟨xs,q,aH _⟩,hd σ H p⟩
theorem Ni{lo:Int}{n:Nat}{g:TG}{tb:TS}{D:Ends}{σ:St}{H:Hp}(Pv:Nat->St->Hp->Prop)(h0:Pv 0 σ H)
 (hs:∀i σ H,i<n->Pv i σ H->g (.int (lo+i)) σ H fun σ2 H2=>tb { D with nx:=Pv (i+1),ct:=Pv (i+1),bk:=D.nx } σ2 H2) (hd:∀σ H,Pv n σ H->D.nx σ H) :
 ∃W:Nat->Nat->St->Hp->Prop,(∃m,W 0 m σ H)/\∀i m σ H,W i m σ H ->
  ((qI lo n).stop i H/\D.nx σ H)\/((qI lo n).go i H/\∃N:St->Hp->Prop,(∀σ' H',N σ' H'->∃m',m'<m/\W (i+1) m' σ' H')/\∀x H',(qI lo n).yld i H x H'->g x σ H' fun σ2 H2=>tb { D with nx:=N,ct:=N,bk:=D.nx } σ2 H2):=by
 refine⟨fun i m σ H=>m=n - i/\i<=n/\Pv i σ H,⟨n,by simp,dO _,h0⟩,?_⟩;rintro i m σ H ⟨rfl,hi,p⟩
 by_cases aD:i<n
 . refine .inr ⟨aD,Pv (i+1),fun σ' H' p'=>⟨n - (i+1),by omega,rfl,aD,p'⟩,fun x H' y=>?_⟩;obtain⟨e,y⟩:=y;subst e y;exact hs i σ _ aD p
 . have e:i=n:=by omega
   subst e;exact .inl ⟨aH _,hd σ H p⟩
abbrev R2:=V->V->Hp->VK->Prop
def bK(X:Cx)(f:Value->Value->Sem Value)(r:R2):Prop:=
 ∀(pins:Po) (s:Shared) (σ:St) (H:Hp) (x y:V) (v u:Value) (Q:VK),Inv X pins σ H s->RelV x v->RelV y u->r x y H Q ->
  wpAny (model X.prog X.w) X.A (f v u) (EP X pins σ Q) X.xe s
def Gh(X:Cx)(f:Value->Sem Value)(r:V->Hp->VK->Prop):Prop:=
 ∀(pins:Po) (s:Shared) (σ:St) (H:Hp) (x:V) (v:Value) (Q:VK),Inv X pins σ H s->RelV x v->r x H Q ->
  wpAny (model X.prog X.w) X.A (f v) (EP X pins σ Q) X.xe s
def gt(X:Cx)(f:Value)(r:Lv->Hp->VK->Prop):Prop:=
 ∀(pins:Po) (s:Shared) (σ:St) (H:Hp) (xs:Lv) (us:Lw) (Q:VK),Inv X pins σ H s->a8 xs us->r xs H Q ->
  wpAny (model X.prog X.w) X.A (call f us) (EP X pins σ Q) X.xe s
def BP(r:R2)(ta tb:TE):TE:=fun σ H Q=>ta σ H fun x H1=>tb σ H1 fun y H2=>r x y H2 Q
def Xy(r:V->Hp->VK->Prop)(ta:TE):TE:=fun σ H Q=>ta σ H fun x H1=>r x H1 Q
def rI(C:Int->Int->Prop)(g:Int->Int->V):R2:=fun x y H Q=>∃i j,x = .int i/\y = .int j/\C i j/\Q (g i j) H
def sw(g:Int->Int->V):R2:=fun x y H Q=>∃i j,x = .int i/\y = .int j/\Q (g i j) H
def rU(g:Int->V):V->Hp->VK->Prop:=fun x H Q=>∃i,x = .int i/\Q (g i) H
section
variable {X:Cx} {a b c:Expr} {ta tb tc:TE} {pos:Pos}
theorem Gi(ha:PE X a ta)(hb:PE X b tb){pins:Po}{s:Shared}{σ:St}{H:Hp}{R:V->V->Hp->Prop}(I:Inv X pins σ H s)
 (h:ta σ H fun x H1=>tb σ H1 fun y H2=>R x y H2) {Q:VP} {f:Value->Value->Sem Value}
 (hf:∀v u s2 x y H2,Inv X pins σ H2 s2->RelV x v->RelV y u->R x y H2->wpAny (model X.prog X.w) X.A (f v u) Q X.xe s2) :
 wpAny (model X.prog X.w) X.A (eval a X.env) (fun v s₁=>wpAny (model X.prog X.w) X.A (eval b X.env) (fun u s₂=>wpAny (model X.prog X.w) X.A (f v u) Q X.xe s₂) X.xe s₁) X.xe s:=by
 refine thn (ha pins s σ H _ I h) fun v s1 Xz=>Xz.elim fun x XA=>XA.elim fun H1 XB=>XB.elim fun I1 XC=>XC.elim fun r1 q1=>?_;refine thn (hb pins s1 σ H1 _ I1 q1) fun u s2 XD=>XD.elim fun y XE=>XE.elim fun H2 XF=>XF.elim fun I2 XG=>XG.elim fun r2 q2=>?_;exact hf v u s2 x y H2 I2 r1 r2 q2
theorem aU{op:Operator}{r:R2}(ho:bK X (binaryOp op) r)(ha:PE X a ta)(hb:PE X b tb):PE X (.BinOp a op b pos) (BP r ta tb):=by
 intro pins s σ H Q I h;exact wpAny_BinOp (Gi ha hb I h fun v u s2 x y H2 I2 rx ry q=>ho pins s2 σ H2 x y v u Q I2 rx ry q)
theorem XH{op:UnaryOp}{r:V->Hp->VK->Prop}(ho:Gh X (unaryOp op) r)(ha:PE X a ta):PE X (.UnaryOp op a pos) (Xy r ta):=by
 intro pins s σ H Q I h;exact UnaryOp_ (thn (ha pins s σ H _ I h) fun v s1 XI=>XI.elim fun x XJ=>XJ.elim fun H1 XM=>XM.elim fun I1 XN=>XN.elim fun r1 q1=>ho pins s1 σ H1 x v Q I1 r1 q1)
theorem BQ{f:Value->Value->Sem Value}{C:Int->Int->Prop}{g:Int->Int->Int}
 (rule:∀(i j:Int) (t u:Tok) (s:Shared) (Q:VP) (E:VP),C i j->Q (.int (g i j) s.toks) { s with toks:=s.toks+1 }->wpAny (model X.prog X.w) X.A (f (.int i t) (.int j u)) Q E s) :
 bK X f (rI C fun i j=>.int (g i j)):=by
 intro pins s σ H x y v u Q I rx ry h;obtain⟨i,j,rfl,rfl,hc,q⟩:=h;obtain⟨t,rfl⟩:=rx;obtain⟨t',rfl⟩:=ry;exact rule i j t t' s _ _ hc ⟨.int (g i j),H,I.tok _,⟨_,rfl⟩,q⟩
theorem Nj{f:Value->Value->Sem Value}{g:Int->Int->Int}
 (rule:∀(i j:Int) (t u:Tok) (s:Shared) (Q:VP) (E:VP),Q (.int (g i j) s.toks) { s with toks:=s.toks+1 }->wpAny (model X.prog X.w) X.A (f (.int i t) (.int j u)) Q E s) :
 bK X f (sw fun i j=>.int (g i j)):=by
 intro pins s σ H x y v u Q I rx ry h;obtain⟨i,j,rfl,rfl,q⟩:=h;obtain⟨t,rfl⟩:=rx;obtain⟨t',rfl⟩:=ry;exact rule i j t t' s _ _ ⟨.int (g i j),H,I.tok _,⟨_,rfl⟩,q⟩
theorem Gj{f:Value->Value->Sem Value}{g:Int->Int->Bool}
 (rule:∀(i j:Int) (t u:Tok) (s:Shared) (Q:VP) (E:VP),Q (.bool (g i j)) s->wpAny (model X.prog X.w) X.A (f (.int i t) (.int j u)) Q E s) :
 bK X f (sw fun i j=>.bl (g i j)):=by
 intro pins s σ H x y v u Q I rx ry h;obtain⟨i,j,rfl,rfl,q⟩:=h;obtain⟨t,rfl⟩:=rx;obtain⟨t',rfl⟩:=ry;exact rule i j t t' s _ _ ⟨.bl (g i j),H,I,rfl,q⟩
def XO(i j:Int):Prop:=0<j/\j<1073741824
def XQ(i j:Int):Prop:=0<=j/\j<=1000000/\i.natAbs<2 ^ 64
def Gk(i j:Int):Prop:=(-(2 ^ 64)<i/\i<2 ^ 64)\/(-(2 ^ 64)<j/\j<2 ^ 64)
theorem Gk.ok{i j:Int}(h:Gk i j):IntMulOk i j:=by
 rcases h with⟨h1,h2⟩ | ⟨h1,h2⟩
 . exact .of_left (intBits_le_64 h1 h2)
 . exact .of_right (intBits_le_64 h1 h2)
theorem gu:bK X (binaryOp .Add) (sw fun i j=>.int (i+j)):=Nj fun _ _ _ _ _ _ _ q=>add_int q
theorem XR:bK X (binaryOp .Sub) (sw fun i j=>.int (i - j)):=Nj fun _ _ _ _ _ _ _ q=>sub_int q
theorem qK:bK X (binaryOp .Mult) (rI Gk fun i j=>.int (i * j)):=BQ fun _ _ _ _ _ _ _ hc q=>mul_int q hc.ok
theorem Gm:bK X (binaryOp .FloorDiv) (rI XO fun i j=>.int (i / j)):=BQ fun i j _ _ _ _ _ hc q=>by
 have h1:(0:Int)<j:=hc.1;have h2:j<1073741824:=hc.2;exact floordiv_int (by omega) (by rw[Int.fdiv_eq_ediv_of_nonneg i (by omega)];exact q) (.inl (PyProof.noPylong_small (by omega)))
theorem dr:bK X (binaryOp .Mod) (rI (fun _ j=>0<j) fun i j=>.int (i % j)):=BQ fun i j _ _ _ _ _ hc q=>by
 have h1:(0:Int)<j:=hc;exact mod_int' (by omega) (by rw[Int.fmod_eq_emod_of_nonneg i (by omega)];exact q)
theorem XS:bK X (binaryOp .Pow) (rI XQ fun i j=>.int (i ^ j.toNat)):=BQ fun _ _ _ _ _ _ _ hc q=>pow_int_small hc.1 hc.2.1 hc.2.2 q
theorem XT{f:Value->Sem Value}{g:Int->Int}
 (rule:∀(i:Int) (t:Tok) (s:Shared) (Q:VP) (E:VP),Q (.int (g i) s.toks) { s with toks:=s.toks+1 }->wpAny (model X.prog X.w) X.A (f (.int i t)) Q E s) :
 Gh X f (rU fun i=>.int (g i)):=by
 intro pins s σ H x v Q I rx h;obtain⟨i,rfl,q⟩:=h;obtain⟨t,rfl⟩:=rx;exact rule i t s _ _ ⟨.int (g i),H,I.tok _,⟨_,rfl⟩,q⟩
theorem XU:Gh X (unaryOp .USub) (rU fun i=>.int (-i)):=XT fun _ _ _ _ _ q=>neg_int q
end
def Nk:V->V->Bool
 | .non,.non=>true | .non,.int _=>true | .int _,.non=>true | .non,.bl _=>true | .bl _,.non=>true | .non,.str _=>true | .str _,.non=>true
 | .int _,.int _=>true | .bl _,.bl _=>true | .str _,.str _=>true | .byt _,.byt _=>true
 | .int _,.str _=>true | .str _,.int _=>true | .bl _,.str _=>true | .str _,.bl _=>true
 | _,_=>false
def XV:R2:=fun x y H Q=>Nk x y=true/\Q (.bl (decide (x=y))) H
def XW:R2:=fun x y H Q=>Nk x y=true/\Q (.bl (!decide (x=y))) H
theorem Nl{i j:Int}:decide (V.int i=V.int j)=(i == j):=by
 rw[qy];simp
theorem Nm{i j:Bool}:decide (V.bl i=V.bl j)=(i == j):=by
 rw[qy];simp
theorem Nn{i j:Str}:decide (V.str i=V.str j)=(i == j):=by
 rw[qy];simp
theorem No{i j:Array UInt8}:decide (V.byt i=V.byt j)=(i.toList == j.toList):=by
 rw[qy];cases i;cases j;simp
section
variable {X:Cx} {a b c:Expr} {ta tb tc:TE} {pos:Pos}
theorem cA{pins:Po}{σ:St}{H:Hp}{s:Shared}{Q:VK}{k k':Bool}(I:Inv X pins σ H s)(q:Q (.bl k) H)(e:k=k'):EP X pins σ Q (.bool k') s:=by
 subst e;exact⟨.bl k,H,I,rfl,q⟩
theorem eQ:bK X (compareOp .Eq) XV:=by
 intro pins s σ H x y v u Q I rx ry h;obtain⟨hs,q⟩:=h;cases x with
 | non=>
  cases rx;cases y with
  | non=>cases ry;exact PySem.EqNone.eq_none_none (cA I q (by simp))
  | bl j=>cases ry;exact PySem.EqNone.eq_none_bool (cA I q (by simp))
  | int j=>obtain⟨t',rfl⟩:=ry;exact PySem.EqNone.eq_none_int (cA I q (by simp))
  | str j=>obtain⟨t',rfl⟩:=ry;exact PySem.EqNone.eq_none_str (cA I q (by simp))
  | _=>exact absurd (show false=true from hs) bV
 | bl i=>
  cases rx;cases y with
  | non=>cases ry;exact PySem.EqNone.eq_bool_none (cA I q (by simp))
  | bl j=>cases ry;exact eq_bool (cA I q Nm)
  | str j=>obtain⟨t',rfl⟩:=ry;exact PySem.EqMixed.eq_bool_str (cA I q (by simp))
  | _=>exact absurd (show false=true from hs) bV
 | int i=>
  obtain⟨t,rfl⟩:=rx;cases y with
  | non=>cases ry;exact PySem.EqNone.eq_int_none (cA I q (by simp))
  | int j=>obtain⟨t',rfl⟩:=ry;exact eq_int (cA I q Nl)
  | str j=>obtain⟨t',rfl⟩:=ry;exact PySem.EqMixed.eq_int_str (cA I q (by simp))
  | _=>exact absurd (show false=true from hs) bV
 | str i=>
  obtain⟨t,rfl⟩:=rx;cases y with
  | non=>cases ry;exact PySem.EqNone.eq_str_none (cA I q (by simp))
  | bl j=>cases ry;exact PySem.EqMixed.eq_str_bool (cA I q (by simp))
  | int j=>obtain⟨t',rfl⟩:=ry;exact PySem.EqMixed.eq_str_int (cA I q (by simp))
  | str j=>obtain⟨t',rfl⟩:=ry;exact eq_str (cA I q Nn)
  | _=>exact absurd (show false=true from hs) bV
 | byt i=>
  obtain⟨t,rfl⟩:=rx;cases y with
  | byt j=>obtain⟨t',rfl⟩:=ry;exact PySem.W.eq_bytes (cA I q No)
  | _=>exact absurd (show false=true from hs) bV
 | _=>cases y<;>exact absurd (show false=true from hs) bV
theorem Go:bK X (compareOp .NotEq) XW:=by
 intro pins s σ H x y v u Q I rx ry h;obtain⟨hs,q⟩:=h;cases x with
 | non=>
  cases rx;cases y with
  | non=>cases ry;exact PySem.EqNone.ne_none_none (cA I q (by simp))
  | bl j=>cases ry;exact PySem.EqNone.ne_none_bool (cA I q (by simp))
  | int j=>obtain⟨t',rfl⟩:=ry;exact PySem.EqNone.ne_none_int (cA I q (by simp))
  | str j=>obtain⟨t',rfl⟩:=ry;exact PySem.EqNone.ne_none_str (cA I q (by simp))
  | _=>exact absurd (show false=true from hs) bV
 | bl i=>
  cases rx;cases y with
  | non=>cases ry;exact PySem.EqNone.ne_bool_none (cA I q (by simp))
  | bl j=>cases ry;exact ne_bool (cA I q (fL not Nm))
  | str j=>obtain⟨t',rfl⟩:=ry;exact PySem.EqMixed.ne_bool_str (cA I q (by simp))
  | _=>exact absurd (show false=true from hs) bV
 | int i=>
  obtain⟨t,rfl⟩:=rx;cases y with
  | non=>cases ry;exact PySem.EqNone.ne_int_none (cA I q (by simp))
  | int j=>obtain⟨t',rfl⟩:=ry;exact ne_int (cA I q (fL not Nl))
  | str j=>obtain⟨t',rfl⟩:=ry;exact PySem.EqMixed.ne_int_str (cA I q (by simp))
  | _=>exact absurd (show false=true from hs) bV
 | str i=>
  obtain⟨t,rfl⟩:=rx;cases y with
  | non=>cases ry;exact PySem.EqNone.ne_str_none (cA I q (by simp))
  | bl j=>cases ry;exact PySem.EqMixed.ne_str_bool (cA I q (by simp))
  | int j=>obtain⟨t',rfl⟩:=ry;exact PySem.EqMixed.ne_str_int (cA I q (by simp))
  | str j=>obtain⟨t',rfl⟩:=ry;exact ne_str (cA I q (fL not Nn))
  | _=>exact absurd (show false=true from hs) bV
 | byt i=>
  obtain⟨t,rfl⟩:=rx;cases y with
  | byt j=>obtain⟨t',rfl⟩:=ry;exact PySem.W.ne_bytes (cA I q (fL not No))
  | _=>exact absurd (show false=true from hs) bV
 | _=>cases y<;>exact absurd (show false=true from hs) bV
theorem Gp:bK X (compareOp .Lt) (sw fun i j=>.bl (decide (i<j))):=Gj fun _ _ _ _ _ _ _ q=>lt_int q
theorem XX:bK X (compareOp .LtE) (sw fun i j=>.bl (decide (i<=j))):=Gj fun _ _ _ _ _ _ _ q=>le_int q
theorem XY:bK X (compareOp .Gt) (sw fun i j=>.bl (decide (j<i))):=Gj fun _ _ _ _ _ _ _ q=>gt_int q
theorem XZ:bK X (compareOp .Lt) (fun x y H Q=>∃i j,x = .str i/\y = .str j/\Q (.bl (decide (i.cps.toList<j.cps.toList))) H):=by
 intro pins s σ H x y v u Q I rx ry h;obtain⟨i,j,rfl,rfl,q⟩:=h;obtain⟨t,rfl⟩:=rx;obtain⟨t',rfl⟩:=ry;exact lt_str (cA I q rfl)
theorem kW:bK X (compareOp .Is) (fun x y H Q=>y = .non/\Q (.bl (decide (x = .non))) H):=by
 intro pins s σ H x y v u Q I rx ry h;obtain⟨rfl,q⟩:=h;cases ry;refine is_none_gen (cA I q ?_);cases x<;>first
  | (cases rx;rfl)
  | (obtain⟨t,rfl⟩:=rx;rfl)
theorem uW:bK X (compareOp .IsNot) (fun x y H Q=>y = .non/\Q (.bl (!decide (x = .non))) H):=by
 intro pins s σ H x y v u Q I rx ry h;obtain⟨rfl,q⟩:=h;cases ry;refine isnot_none_gen (cA I q ?_);cases x<;>first
  | (cases rx;rfl)
  | (obtain⟨t,rfl⟩:=rx;rfl)
theorem ba(b:Expr){op:CmpOp}(h:op≠.In:=by decide)(h2:op≠.NotIn:=by decide):behindInMarks op b=false:=by
 have e1:(op == CmpOp.In)=false:=by cases op<;>first | rfl | exact absurd rfl h
 have e2:(op == CmpOp.NotIn)=false:=by cases op<;>first | rfl | exact absurd rfl h2
 cases b<;>simp[behindInMarks,e1,e2]
theorem fR{op:CmpOp}{r:R2}(ho:bK X (compareOp op) r)(ha:PE X a ta)(hb:PE X b tb)(hm:behindInMarks op b=false):PE X (.Compare a [op] [b] pos) (BP r ta tb):=by
 intro pins s σ H Q I h;exact wpAny_Compare1 (Gi ha hb I h fun v u s2 x y H2 I2 rx ry q=>ho pins s2 σ H2 x y v u Q I2 rx ry q) hm
def X2(t:TE):TT:=fun σ H Q=>t σ H fun x H'=>∃k,x = .bl k/\Q k H'
theorem bA{op:CmpOp}{r:R2}(ho:bK X (compareOp op) r)(ha:PE X a ta)(hb:PE X b tb)(hm:behindInMarks op b=false):PT X (.Compare a [op] [b] pos) (X2 (BP r ta tb)):=by
 intro pins s σ H Q I h;refine arX (thn (ha pins s σ H _ I h) fun v s1 X3=>X3.elim fun x X4=>X4.elim fun H1 X5=>X5.elim fun I1 X6=>X6.elim fun r1 q1=>thn (hb pins s1 σ H1 _ I1 q1) fun u s2 X7=>X7.elim fun y X8=>X8.elim fun H2 X9=>X9.elim fun I2 Ya=>Ya.elim fun r2 q2=>
  thn (ho pins s2 σ H2 x y v u _ I2 r1 r2 q2) fun c s3 Yb=>Yb.elim fun z Yc=>Yc.elim fun H3 Yd=>Yd.elim fun I3 Ye=>Ye.elim fun r3 Yf=>Yf.elim fun k Yg=>Yg.elim fun e q3=>?_) hm
 subst e;cases r3;exact kP ⟨H3,I3,q3⟩
def Yh(r r':R2)(ta tb tc:TE):TE:=fun σ H Q=>ta σ H fun x H1=>tb σ H1 fun y H2=>r x y H2 fun z H3=>∃k,z = .bl k /\
 (if k=true then tc σ H3 fun w' H4=>r' y w' H4 Q else Q (.bl false) H3)
theorem Yi{op Gq:CmpOp}{r r':R2}(ho:bK X (compareOp op) r)(gp:bK X (compareOp Gq) r')(ha:PE X a ta)(hb:PE X b tb)(hc:PE X c tc)
 (hm:lastMarks [op,Gq] [b,c]=false:=by with_unfolding_all rfl):PE X (.Compare a [op,Gq] [b,c] pos) (Yh r r' ta tb tc):=by
 intro pins s σ H Q I h;refine Compare_chain (thn (ha pins s σ H _ I h) fun v s1 Yj=>Yj.elim fun x Yk=>Yk.elim fun H1 Yl=>Yl.elim fun I1 Ym=>Ym.elim fun r1 q1=>chain_link (thn (hb pins s1 σ H1 _ I1 q1) fun u s2 Yn=>Yn.elim fun y Yo=>Yo.elim fun H2 Yp=>Yp.elim fun I2 Yq=>Yq.elim fun r2 q2=>
  thn (ho pins s2 σ H2 x y v u _ I2 r1 r2 q2) fun d s3 Yr=>Yr.elim fun z Ys=>Ys.elim fun H3 Yt=>Yt.elim fun I3 Yu=>Yu.elim fun r3 Yv=>Yv.elim fun k Yw=>Yw.elim fun e q3=>?_)) hm
 subst e;cases r3;refine kP ?_;cases k with
 | false=>exact ite_ff ⟨.bl false,H3,I3,rfl,q3⟩
 | true=>exact ite_tt (chain_last (thn (hc pins s3 σ H3 _ I3 q3) fun w' s4 Yx=>Yx.elim fun z' Yy=>Yy.elim fun H4 Yz=>Yz.elim fun I4 YA=>YA.elim fun r4 q4=>gp pins s4 σ H4 y z' u w' Q I4 r2 r4 q4))
theorem BR:(sizeLine:Nat)<2 ^ 63:=by rw[oM];decide
theorem Np:bK X (binaryOp .Add) (fun x y H Q=>∃i j,x = .str i/\y = .str j/\i.length+j.length<=sizeLine/\Q (.str (i++j)) H):=by
 intro pins s σ H x y v u Q I rx ry h;obtain⟨i,j,rfl,rfl,hz,q⟩:=h;obtain⟨t,rfl⟩:=rx;obtain⟨t',rfl⟩:=ry;exact add_str (fun t' tk=>⟨.str (i++j),H,I.tok _,⟨_,rfl⟩,q⟩) hz
theorem vals1{x:V}{us:Lw}(r:a8 [x] us):∃u,us = [u]/\RelV x u:=by
 cases r with
 | cons r1 r2=>cases r2;exact⟨_,rfl,r1⟩
theorem vals2{x y:V}{us:Lw}(r:a8 [x,y] us):∃u w',us = [u,w']/\RelV x u/\RelV y w':=by
 cases r with
 | cons r1 r2=>
  cases r2 with
  | cons r3 r4=>cases r4;exact⟨_,_,rfl,r1,r3⟩
end
structure sA(h:Heap)(x dx C:Addr)(mA:Mv):Prop where
 obj:h.get? x=some (PySem.W.instObj C dx)
 ns:h.Ns1 dx mA
 ne:dx≠x
theorem YB{h:Heap}{dx:Addr}{mA:Mv}(n:h.Ns1 dx mA):∃od,h.get? dx=some od/\∀name,PySem.W.lookIn name od=some (mA name):=by
 obtain⟨o,es,ep,ho,hd,hk,_,hm⟩:=n;refine⟨o,ho,fun name=>?_⟩;have e:=hm name;unfold nsFind findBy at e;rw[←Array.find?_toList]at e;unfold PySem.W.lookIn;rw[hd];dsimp only;split
 . rename_i y q;rw[q]at e;exact fL some e
 . rename_i q;rw[q]at e;have a:es.toList.any (·.refKey)=false:=by
    rw[Fv];intro y hy;obtain⟨z,t,kx⟩:=hk y (Array.mem_toList_iff.mp hy);simp[DictEntry.refKey,kx]
   have a':¬es.toList.any (·.refKey)=true:=by rw[a];exact bV
   rw[ah a'];exact fL some e
theorem sA.look{h:Heap}{x dx C:Addr}{mA:Mv}(I:sA h x dx C mA):∃od,PySem.W.InstAt h x (PySem.W.instObj C dx) C (some od)/\∀name,PySem.W.lookIn name od=some (mA name):=
 (YB I.ns).elim fun od YC=>YC.elim fun ho hl=>⟨od,⟨I.obj,rfl,rfl,ho⟩,hl⟩
section
variable {prog:Program} {w:World} {A:Around} {E:VP} {s:Shared} {K:Fg} {x dx C f:Addr} {mA:Mv} {name:Str} {v:Value}
theorem YD{expr:Bool}{Q:VP}(X:K.In s.heap)(I:sA s.heap x dx C mA)(hg:PySem.W.plainGet K C name=true)(hh:PySem.W.hasDictIn K C=true)
 (ha:PySem.W.findIn K (.ref C) name=some none) (hv:mA name=some v) (xC:PySem.W.handedIn v=true) (h:Q v { s with toks:=s.toks+1 }) :
 wpAny (model prog w) A (getAttr (.ref x) name expr) Q E s:=by
 obtain⟨od,J,hl⟩:=I.look;exact PySem.W.get_value X J (UA hg).1 (PySem.W.findObj_own hh ha rfl (by rw[hl,hv])) xC h
theorem YE{pl:Sem Bool}{Q:Value×Lw->Shared->Prop}(X:K.In s.heap)(I:sA s.heap x dx C mA)(hg:PySem.W.plainGet K C name=true)
 (hf:PySem.W.findIn K (.ref C) name=some (some (.ref f))) (ht:PySem.W.isFn K (.ref f)=true) (hv:mA name=none) (h:Q (.ref f,[.ref x]) s) :
 wpAny (model prog w) A (getMethod (.ref x) name pl) Q E s:=by
 obtain⟨od,J,hl⟩:=I.look;exact PySem.W.method_fn X J (UA hg).1 (UA hg).2 hf (iV.mp ht) (by show(PySem.W.lookIn name od).map (·.isSome)=some false;rw[hl,hv];rfl) h
theorem YF{ns:Ls}{Q:Unit->Shared->Prop}(X:K.In s.heap)(I:sA s.heap x dx C mA)
 (hs:PySem.W.findIn K (.ref C) "__setattr__" = some (some (.builtin "object.__setattr__"))) (hp:PySem.W.plainOver K C=true) (ht:PySem.W.takerIn K C name=some none) (hh:PySem.W.hasDictIn K C=true)
 (hw:PySem.Within mA ns) (hsz:ns.length<=sizeLine)
 (h:∀h',sA h' x dx C (fun y=>if y=name then some v else mA y)->Heap.SameBut dx s.heap h'->Q () { s with heap:=h',toks:=s.toks+2 }) :
 wpAny (model prog w) A (setAttr (.ref x) name v) Q E s:=by
 obtain⟨od,J,hl⟩:=I.look;refine PySem.W.set_plain X J hs (PySem.W.osa_open (s:={ s with toks:=s.toks+1 }) (r:=none) X J hp ht fun b=>?_);obtain⟨cd,hc,jv⟩:=PySem.W.any_some hh;have hx:s.heap.get? x=some ⟨.ref C,some dx,.plain,#[]⟩:=I.obj;refine ac (aq (ac (ac (wpAny_loadPart hx (ac (PySem.W.Looks.here (s:={ s with toks:=s.toks+1 }) (PySem.W.looks_clsIn X hc) ?_))))));rw[jv];refine aq (a:=some dx) (ac (aq (ac ?_)));refine wpAny_nsSet1 (s:={ s with toks:=s.toks+1 }) I.ns fun h' uX Nq=>?_;obtain⟨oD,esD,epD,YG,YH,YI⟩:=uX.count (PySem.Within.cons name v hw);refine ac (wpAny_lookBehind YG (by rw[YH];exact pastItsLine_dict (bS YI (by rw[bF];omega))) ?_);exact aq (h _ ⟨(Nq.2 _ (eM I.ne)).trans I.obj,uX,I.ne⟩ Nq)
theorem YJ{R:Result->Shared->Prop}{vs:Lw}{kw:List (Str×Value)}(X:K.In s.heap)(hm:PySem.W.makesIn K C=true)
 (hi:PySem.W.findIn K (.ref C) "__init__" = some (some (.ref f))) (hf:PySem.W.typeIn K (.ref f)=some (.type "function"))
 (h:codeAny (model prog w) (A.under (.builtin "type.__call__" ⟨.ref C::vs,kw⟩)) (.call (.ref f) ⟨.ref (s.heap.objs.size+1)::vs,kw⟩) (PySem.W.InitBack (s.heap.objs.size+1) R)
  { s with heap:=(s.heap.push PySem.W.emptyDict).push (PySem.W.instObj C s.heap.objs.size) }) :
 codeAny (model prog w) A (.call (.ref C) ⟨vs,kw⟩) R s:=by
 obtain⟨hh,g,d,t,os⟩:=s;exact PySem.W.make_core (PySem.W.makes_of X hm) (PySem.W.looks_findIn X hi) (fun self=>PySem.W.bind_fn X self hf) (.inl rfl) h
end
def aA(f:Str)(v:V):List (Str×V)->List (Str×V)
 | []=>[(f,v)]
 | (g,x)::r=>if g=f then(g,v)::r else(g,x)::aA f v r
theorem bL(f g:Str)(v:V):∀fs:List (Str×V),(aA f v fs).lookup g=if g=f then some v else fs.lookup g
 | []=>by
  show List.lookup g [(f,v)]=_
  by_cases h:g=f
  . have hb:(g == f)=true:=iV.mpr h;simp only[List.lookup,hb,ap h]
  . have hb:(g == f)=false:=iw.mpr h;simp only[List.lookup,hb,ah h]
 | (k,x)::r=>by
  have ih:=bL f g v r;rw[show aA f v ((k,x)::r)=(if k=f then(k,v)::r else(k,x)::aA f v r) from rfl]
  by_cases hk:k=f
  . rw[ap hk]
    by_cases h:g=k
    . have hb:(g == k)=true:=iV.mpr h;simp only[List.lookup,hb,ap (h.trans hk)]
    . have hb:(g == k)=false:=iw.mpr h;simp only[List.lookup,hb,ah (fun e:g=f=>h (e.trans hk.symm))]
  . rw[ah hk]
    by_cases h:g=k
    . have hb:(g == k)=true:=iV.mpr h;simp only[List.lookup,hb,ah (fun e:g=f=>hk (h.symm.trans e))]
    . have hb:(g == k)=false:=iw.mpr h;simp only[List.lookup,hb];exact ih
theorem Gr(f:Str)(v:V):∀fs:List (Str×V),f∈(aA f v fs).map (·.1)/\∀g,g∈fs.map (·.1)->g∈(aA f v fs).map (·.1)
 | []=>⟨by simp[aA],fun g h=>by simp at h⟩
 | (k,x)::r=>by
  obtain⟨i1,i2⟩:=Gr f v r;rw[show aA f v ((k,x)::r)=(if k=f then(k,v)::r else(k,x)::aA f v r) from rfl]
  by_cases hk:k=f
  . rw[ap hk];subst hk;exact⟨by simp,fun g h=>by simpa using h⟩
  . rw[ah hk];refine⟨?_,fun g h=>?_⟩
    . rw[b9];exact cy _ i1
    . rw[b9]at h ⊢
      rcases bw.mp h with e | e
      . exact bw.mpr (.inl e)
      . exact cy _ (i2 g e)
theorem Gs(f:Str)(v:V):∀fs:List (Str×V),(aA f v fs).length<=fs.length+1
 | []=>by simp[aA]
 | (k,x)::r=>by
  have ih:=Gs f v r;rw[show aA f v ((k,x)::r)=(if k=f then(k,v)::r else(k,x)::aA f v r) from rfl]
  by_cases hk:k=f
  . rw[ap hk,bF,bF];omega
  . rw[ah hk,bF,bF];omega
theorem ia.some_of{v:V}{o:Option Value}(r:ia (some v) o):∃u,o=some u/\RelV v u:=by
 cases o with
 | none=>exact(show False from r).elim
 | some u=>exact⟨u,rfl,r⟩
theorem ia.none_of{o:Option Value}(r:ia none o):o=none:=by
 cases o with
 | none=>rfl
 | some u=>exact(show False from r).elim
theorem YK{v:V}{u:Value}(r:RelV v u):PySem.W.handedIn u=true:=by
 cases v with
 | non=>cases (show u=Value.none from r);rfl
 | bl b=>cases (show u=Value.bool b from r);rfl
 | int i=>obtain⟨t,e⟩:=(show∃t,u=Value.int i t from r);cases e;rfl
 | str x=>obtain⟨t,e⟩:=(show∃t,u=Value.str x t from r);cases e;rfl
 | byt b=>obtain⟨t,e⟩:=(show∃t,u=Value.bytes b t from r);cases e;rfl
 | flt b=>obtain⟨t,e⟩:=(show∃t,u=Value.float b t from r);cases e;rfl
 | ref a=>cases (show u=Value.ref a from r);rfl
 | ty n=>cases (show u=Value.type n from r);rfl
section
variable {P:Program} {w:World} {H H':Hp} {h h':Heap} {a C dx:Addr} {fs VW:List (Str×V)}
theorem BS(hok:ce P w H h)(e:H a=some (.ins C dx fs)):∃mA,sA h a dx C mA/\(∀f,ia (fs.lookup f) (mA f))/\PySem.Within mA (fs.map (·.1))/\fs.length<=1000/\H dx=some (.own a):=by
 obtain⟨d,z,ne,ob,mA,n,r,q⟩:=(show bG P w H h a (.ins C dx fs) from hok a _ e);exact⟨mA,⟨ob,n,ne⟩,r,q,z,d⟩
end
structure ic(K:Fg)(C:Addr):Prop where
 pg:PySem.W.plainGet K C Str.empty=true
 hd:PySem.W.hasDictIn K C=true
 po:PySem.W.plainOver K C=true
 sa:PySem.W.findIn K (.ref C) "__setattr__" = some (some (.builtin "object.__setattr__"))
theorem ic.get{K:Fg}{C:Addr}(c:ic K C)(f:Str):PySem.W.plainGet K C f=true:=c.pg
def gM(K:Fg)(C:Addr)(f:Str):Prop:=PySem.W.findIn K (.ref C) f=some none
theorem gM.taker{K:Fg}{C:Addr}{f:Str}(n:gM K C f):PySem.W.takerIn K C f=some none:=by
 unfold PySem.W.takerIn;rw[show PySem.W.findIn K (.ref C) f=some none from n];rfl
structure ni(K:Fg)(C:Addr)(m:Str)(f:Addr):Prop where
 at_:PySem.W.findIn K (.ref C) m=some (some (.ref f))
 fn:PySem.W.isFn K (.ref f)=true
 kp:PySem.W.keepIn K (.ref f)=true
section
variable {X:Cx} {pins:Po} {σ:St} {H:Hp} {s:Shared} {a C dx:Addr} {fs:List (Str×V)} {f:Str} {v:V} {A:Around} {E:VP}
theorem YL{b:Bool}{Q:VP}(I:Inv X pins σ H s)(e:H a=some (.ins C dx fs))(c:ic X.K C)(n:gM X.K C f)(l:fs.lookup f=some v)
 (h:∀u s',Inv X pins σ H s'->RelV v u->Q u s'):wpAny (model X.prog X.w) A (getAttr (.ref a) f b) Q E s:=by
 obtain⟨mA,O,r,_,_,_⟩:=BS I.hok e;obtain⟨u,hu,ru⟩:=ia.some_of (v:=v) (o:=mA f) (by rw[←l];exact r f);exact YD I.kIn O (c.get f) c.hd n hu (YK ru) (h u _ (I.tok _) ru)
theorem Nr{m:Str}{g:Addr}{pl:Sem Bool}{Q:Value×Lw->Shared->Prop}(I:Inv X pins σ H s)(e:H a=some (.ins C dx fs))(c:ic X.K C)(k:ni X.K C m g)(l:fs.lookup m=none)
 (h:Q (.ref g,[.ref a]) s):wpAny (model X.prog X.w) A (getMethod (.ref a) m pl) Q E s:=by
 obtain⟨mA,O,r,_,_,_⟩:=BS I.hok e;have hn:mA m=none:=ia.none_of (by rw[←l];exact r m);exact YE I.kIn O (c.get m) k.at_ k.fn hn h
theorem YM{y:V}{u:Value}{Q:Unit->Shared->Prop}(I:Inv X pins σ H s)(e:H a=some (.ins C dx fs))(c:ic X.K C)(n:gM X.K C f)(hl:fs.length<1000)(ry:RelV y u)
 (h:∀s',Inv X pins σ (aj H a (.ins C dx (aA f y fs))) s'->Q () s'):wpAny (model X.prog X.w) A (setAttr (.ref a) f u) Q E s:=by
 obtain⟨mA,O,r,wi,_,ho⟩:=BS I.hok e;have hz:(fs.map (·.1)).length<=sizeLine:=by rw[au,oM];omega
 refine YF I.kIn O c.sa c.po n.taker c.hd wi hz fun h' O' sb=>h _ ?_;have hd:∃o,h'.get? dx=some o:=O'.ns.elim fun o YN=>YN.elim fun _ YO=>YO.elim fun _ YQ=>YQ.elim fun e' _=>⟨o,e'⟩;refine I.write (x:=a) (e:=dx) (by rw[e];exact True.intro) (.inr ho) (fun b q hb z=>(sb.2 b hb).trans z) hd ?_;refine⟨by rw[aL O.ne];exact ho,?_,O.ne,O'.obj,_,O'.ns,fun g=>?_,fun g hg=>?_⟩
 . have:=Gs f y fs;omega
 . show ia ((aA f y fs).lookup g) (if g=f then some u else mA g);rw[bL]
   by_cases q:g=f
   . rw[ap q,ap q];exact ry
   . rw[ah q,ah q];exact r g
 . by_cases q:g=f
   . rw[q];exact(Gr f y fs).1
   . refine(Gr f y fs).2 g (wi g fun z=>hg ?_);show(if g=f then some u else mA g)=none;rw[ah q];exact z
theorem Inv.made(I:Inv X pins σ H s):Inv X pins σ (aj (aj H s.heap.objs.size (.own (s.heap.objs.size+1))) (s.heap.objs.size+1) (.ins C s.heap.objs.size []))
 { s with heap:=(s.heap.push PySem.W.emptyDict).push (PySem.W.instObj C s.heap.objs.size) }:=by
 have e1:(s.heap.push PySem.W.emptyDict).get? s.heap.objs.size=some PySem.W.emptyDict:=da s.heap rfl;have e2:((s.heap.push PySem.W.emptyDict).push (PySem.W.instObj C s.heap.objs.size)).get? (s.heap.objs.size+1)=some (PySem.W.instObj C s.heap.objs.size):=by
  have:=da (s.heap.push PySem.W.emptyDict) (o:=PySem.W.instObj C s.heap.objs.size) rfl
  rwa [oN]at this
 have e3:(s.heap.push PySem.W.emptyDict).Ns s.heap.objs.size (fun _=>none):=⟨PySem.W.emptyDict,#[],_,e1,rfl,(fun e he=>absurd he (by simp)),fun _=>rfl⟩;have I1:=I.laid (a:=s.heap.objs.size) (o:=.own (s.heap.objs.size+1)) (h':=s.heap.push PySem.W.emptyDict) (t':=s.toks) (fun b u q=>bq _ q) (aH _) ⟨_,e1⟩;refine I1.laid (a:=s.heap.objs.size+1) (o:=.ins C s.heap.objs.size []) (t':=s.toks) (fun b u q=>bq _ q) (Fw (oN _ _)) ?_;have ne:s.heap.objs.size≠s.heap.objs.size+1:=bE (xb _);refine⟨by rw[aL ne,aP],dO _,ne,e2,fun _=>none,(Heap.Ns1.of_empty e3).at fun o q=>bq _ q,fun _=>True.intro,fun y hy=>absurd rfl hy⟩
theorem YR{prog:Program}{w:World}{env:Env}{e:Expr}{f:Str}{pos:Pos}{s:Shared}{Q:VP}(hb:attributeBase e f env (eval e env)=eval e env)
 (h:wpAny (model prog w) A (eval e env) (fun o s₁=>wpAny (model prog w) A (getAttr o f true) Q E s₁) E s):wpAny (model prog w) A (eval (.Attribute e f pos) env) Q E s:=
 Attribute_any_ h (by rw[arm_eval_Attribute,hb])
end
def Nt(K:Fg)(ta:TE)(f:Str):TE:=fun σ H Q=>ta σ H fun x H1=>∃a C dx fs v,x = .ref a/\H1 a=some (.ins C dx fs)/\ic K C/\gM K C f/\fs.lookup f=some v/\Q v H1
def YS(K:Fg)(ta tv:TE)(f:Str):TS:=fun D σ H=>tv σ H fun y H1=>ta σ H1 fun x H2=>∃a C dx fs,x = .ref a/\H2 a=some (.ins C dx fs)/\ic K C/\gM K C f/\fs.length<1000 /\
 D.nx σ (aj H2 a (.ins C dx (aA f y fs)))
section
variable {X:Cx} {o e value:Expr} {f:Str} {pos pos' uY:Pos} {ta tv:TE}
theorem du(he:PE X e ta)(hb:attributeBase e f X.env (eval e X.env)=eval e X.env):PE X (.Attribute e f pos) (Nt X.K ta f):=by
 intro pins s σ H Q I h;refine YR hb (thn (he pins s σ H _ I h) fun u s1 YT=>YT.elim fun x YU=>YU.elim fun H1 YV=>YV.elim fun I1 YW=>YW.elim fun rx YX=>YX.elim fun a YY=>YY.elim fun C YZ=>YZ.elim fun dx Y0=>Y0.elim fun fs Y1=>Y1.elim fun v Y2=>Y2.elim fun ex Y3=>Y3.elim fun ea Y4=>Y4.elim fun c Y5=>Y5.elim fun n Y6=>Y6.elim fun l q=>?_);subst ex;obtain rfl:u=Value.ref a:=rx;exact YL I1 ea c n l fun u' s2 I2 ru=>⟨v,H1,I2,ru,q⟩
theorem ky(ha:PE X o ta)(hv:PE X value tv)(hs:swapsWith value (some (.Attribute o f pos')) pos.line X.env=pure false):PS X (.Assign [.Attribute o f pos'] value pos) (YS X.K ta tv f):=by
 intro pins s σ H D I h;refine plainObj_wpAny_Assign_Attribute (thn (hv pins s σ H _ I h) fun u s1 Y7=>Y7.elim fun y Y8=>Y8.elim fun H1 Y9=>Y9.elim fun I1 Za=>Za.elim fun ry q=>thn (ha pins s1 σ H1 _ I1 q) fun ov s2 Zb=>Zb.elim fun x Zc=>Zc.elim fun H2 Zd=>Zd.elim fun I2 Ze=>Ze.elim fun rx Zf=>Zf.elim fun a Zg=>Zg.elim fun C Zh=>Zh.elim fun dx Zi=>Zi.elim fun fs Zj=>Zj.elim fun ex Zk=>Zk.elim fun ea Zl=>Zl.elim fun c Zm=>Zm.elim fun n Zn=>Zn.elim fun l q2=>?_) hs;subst ex;obtain rfl:ov=Value.ref a:=rx;exact YM I2 ea c n l ry fun s3 I3=>⟨σ,_,I3,q2⟩
end
section
variable {X:Cx} {pins:Po} {σ:St} {H:Hp} {s:Shared} {A:Around} {E:VP} {Q:VP} {c:Value} {b:Bool}
inductive jR (K:Fg) (H:Hp):V->Value->Prop where
 | non:jR K H .non (.type "NoneType")
 | bl (x:Bool):jR K H (.bl x) (.type "bool")
 | int (i:Int):jR K H (.int i) (.type "int")
 | str (x:Str):jR K H (.str x) (.type "str")
 | flt (x:UInt64):jR K H (.flt x) (.type "float")
 | lst {a:Addr} {xs:Lv} (e:H a=some (.lst xs)):jR K H (.ref a) (.type "list")
 | frz {a:Addr} {o:Obj} {xs:Lv} (e:H a=some (.frz o (.lst xs))):jR K H (.ref a) (.type "list")
 | tup {a:Addr} {xs:Lv} (e:H a=some (.tup xs)):jR K H (.ref a) (.type "tuple")
 | dK {a:Addr} {kvs:List (aN×V)} (e:H a=some (.dK kvs)):jR K H (.ref a) (.type "dict")
 | dT {a:Addr} {kvs:List (List NI×V)} (e:H a=some (.dT kvs)):jR K H (.ref a) (.type "dict")
 | ins {a C dx:Addr} {fs:List (Str×V)} (e:H a=some (.ins C dx fs)) (cl:ic K C) (ha:PySem.W.findIn K (.ref C) "__class__" = some (some (.builtin "object.__class__")))
  (hn:PySem.W.specialIn K (.builtin "object.__class__") "__get__" = some (some (.builtin "getset_descriptor.__get__"))) (htk:PySem.W.takesIn K (.builtin "object.__class__")=some true)
  (hm:PySem.W.mroIn K C (.type "object")=some true):jR K H (.ref a) (.ref C)
theorem Nu{x:V}{u t:Value}(I:Inv X pins σ H s)(rx:RelV x u)(ty:jR X.K H x t)(e:PySem.W.kitOne X.K t c=some b)(h:∀tk,Q (.bool b) { s with toks:=tk }) :
 wpAny (model X.prog X.w) A (call (.builtin "isinstance") [u,c]) Q E s:=by
 cases ty with
 | non=>cases (show u=Value.none from rx);exact oO PySem.W.kitx_none I.kIn True.intro e (fun z=>nomatch z) h
 | bl y=>cases (show u=Value.bool y from rx);exact oO PySem.W.kitx_bool I.kIn True.intro e (fun z=>nomatch z) h
 | int i=>obtain⟨t,q⟩:=(show∃t,u=Value.int i t from rx);cases q;exact oO PySem.W.kitx_int I.kIn True.intro e (fun z=>nomatch z) h
 | str y=>obtain⟨t,q⟩:=(show∃t,u=Value.str y t from rx);cases q;exact oO PySem.W.kitx_str I.kIn True.intro e (fun z=>nomatch z) h
 | flt y=>obtain⟨t,q⟩:=(show∃t,u=Value.float y t from rx);cases q;exact oO PySem.W.kitx_float I.kIn True.intro e (fun z=>nomatch z) h
 | @lst a xs ea=>
  cases (show u=Value.ref a from rx);obtain⟨_,_,n,_,h1⟩:=(show bG X.prog X.w H s.heap a (.lst xs) from I.hok a _ ea);exact oO PySem.W.kitx_list I.kIn ⟨_,h1,rfl⟩ e (fun z=>nomatch z) h
 | @frz a ob xs ea=>
  cases (show u=Value.ref a from rx);obtain⟨_,_,_,n,_,h1⟩:=(show bG X.prog X.w H s.heap a (.frz ob (.lst xs)) from I.hok a _ ea);exact oO PySem.W.kitx_list I.kIn ⟨_,h1,rfl⟩ e (fun z=>nomatch z) h
 | @tup a xs ea=>
  cases (show u=Value.ref a from rx);obtain⟨_,_,_,p⟩:=(show bG X.prog X.w H s.heap a (.tup xs) from I.hok a _ ea);obtain⟨o,h1,h2,_⟩:=p;exact oO PySem.W.kitx_tuple I.kIn ⟨o,h1,h2⟩ e (fun z=>nomatch z) h
 | @dK a kvs ea=>
  cases (show u=Value.ref a from rx);obtain⟨_,_,vs,_,p⟩:=(show bG X.prog X.w H s.heap a (.dK kvs) from I.hok a _ ea);obtain⟨o,es,ep,h1,h2,_⟩:=p;exact oO PySem.W.kitx_dict I.kIn ⟨o,h1,h2.1⟩ e (fun z=>nomatch z) h
 | @dT a kvs ea=>
  cases (show u=Value.ref a from rx);obtain⟨_,_,xs,_,o,es,ep,h1,h2,_⟩:=(show bG X.prog X.w H s.heap a (.dT kvs) from I.hok a _ ea);exact oO PySem.W.kitx_dict I.kIn ⟨o,h1,h2.1⟩ e (fun z=>nomatch z) h
 | @ins a C dx fs ea cl ha hn htk hm=>
  cases (show u=Value.ref a from rx);obtain⟨mA,O,_⟩:=BS I.hok ea;obtain⟨od,J,_⟩:=O.look;exact oO (PySem.W.kitx_own (cl.get _) cl.hd ha hn htk hm) I.kIn J e (fun z=>nomatch z) h
end
structure cK(k:Nat)(A:Around):Prop where
 hd:A.handled=none
 dp:A.depth+3 * k+5<recursionLimit
 un:A.units+16 * k+200<cLine
 gd:A.guards=some []
theorem cK.mono{j k:Nat}{A:Around}(r:cK k A)(h:j<=k):cK j A:=⟨r.hd,by have:=r.dp;omega,by have:=r.un;omega,r.gd⟩
theorem cK.deeper{k:Nat}{A:Around}(r:cK (k+1) A)(env:Env):cK k (A.deeper env):=
 ⟨r.hd,by have:=r.dp;show A.depth+1+3 * k+5<_;omega,by have:=r.un;show A.units+3+16 * k+200<_;omega,r.gd⟩
theorem cK.in1{k:Nat}{A:Around}(r:cK (k+1) A):cK k A.in1:=
 ⟨r.hd,by have:=r.dp;show A.depth+3 * k+5<_;omega,by have:=r.un;show A.units+1+16 * k+200<_;omega,r.gd⟩
theorem Zo{A:Around}{C:Addr}{us:Lw}{kw:List (Str×Value)}:(A.under (.builtin "type.__call__" ⟨.ref C::us,kw⟩)).depth=A.depth+1:=by
 first | rfl | simp[Around.under,Code.weight,Code.isCreation,Code.isGuard,Code.isCaller,Code.frames,Code.isFrame,guardIds]
theorem Zp{A:Around}{C:Addr}{us:Lw}{kw:List (Str×Value)}:(A.under (.builtin "type.__call__" ⟨.ref C::us,kw⟩)).units=A.units+1:=by
 first | rfl | simp[Around.under,Code.cUnits,Code.frames,Code.isFrame]
theorem Zq{A:Around}{C:Addr}{us:Lw}{kw:List (Str×Value)}:(A.under (.builtin "type.__call__" ⟨.ref C::us,kw⟩)).guards=A.guards:=by
 first | rfl | simp[Around.under,pushGuards,Code.guards,Code.isGuard,guardIds]
theorem cK.make{k:Nat}{A:Around}(r:cK (k+1) A)(C:Addr)(us:Lw)(kw:List (Str×Value)):cK k (A.under (.builtin "type.__call__" ⟨.ref C::us,kw⟩)):=
 ⟨r.hd,by have:=r.dp;rw[Zo];omega,by have:=r.un;rw[Zp];omega,Zq.trans r.gd⟩
theorem cK.depth{k:Nat}{A:Around}(r:cK k A):A.depth<recursionLimit:=by have:=r.dp;omega
theorem cK.units{k:Nat}{A:Around}(r:cK k A):A.units+64<cLine:=by have:=r.un;omega
theorem cK.units0{k:Nat}{A:Around}(r:cK k A):A.units<cLine:=by have:=r.un;omega
def gN:TA:=fun _ H Q=>Q [] H
def lN(ta:TE)(tr:TA):TA:=fun σ H Q=>ta σ H fun x H1=>tr σ H1 fun xs H2=>Q (x::xs) H2
section
variable {X:Cx} {e:Expr} {es:List Expr} {te:TE} {t:TA} {pos:Pos}
theorem ae:PA X [] gN:=fun _ _ _ _ H Q I h=>UB ⟨[],H,I,.nil,h⟩
theorem aa(ha:PE X e te)(hr:PA X es t)(hs:starEach (e::es) X.env=(false,eval e X.env)::starEach es X.env:=by rfl):PA X (e::es) (lN te t):=by
 intro pos pins s σ H Q I h;rw[hs];show wpAny _ _ (spliced ((false,eval e X.env)::backTo pos (starEach es X.env))) _ _ s;refine L9 (thn (ha pins s σ H _ I h) fun u s1 Zr=>Zr.elim fun x Zs=>Zs.elim fun H1 Zt=>Zt.elim fun I1 Zu=>Zu.elim fun r1 q1=>?_);exact thn (hr pos pins s1 σ H1 _ I1 q1) fun us s2 Zv=>Zv.elim fun xs Zw=>Zw.elim fun H2 Zx=>Zx.elim fun I2 Zy=>Zy.elim fun r2 q2=>⟨x::xs,H2,I2,.cons r1 r2,q2⟩
def Gu(t:TA):TE:=fun σ H Q=>t σ H fun xs H1=>xs.length<=sizeLine/\∀p,H1 p=none->Q (.ref p) (aj H1 p (.tup xs))
def Zz(t:TA):TE:=fun σ H Q=>t σ H fun xs H1=>xs.length<=sizeLine/\∀p,H1 p=none->Q (.ref p) (aj H1 p (.lst xs))
theorem Nv{x1}(h:PA X es t):PE X (.Tuple es x1 pos) (Gu t):=by
 intro pins s σ H Q I hq;refine wpAny_Tuple_spliced (thn (h pos pins s σ H _ I hq) fun us s1 ZA=>ZA.elim fun xs ZB=>ZB.elim fun H1 ZC=>ZC.elim fun I1 ZD=>ZD.elim fun r ZE=>ZE.elim fun z q=>⟨by rw[←r.length];exact z,?_⟩);have hf:H1 s1.heap.objs.size=none:=I1.hok.fresh (aH _);refine⟨.ref s1.heap.objs.size,aj H1 s1.heap.objs.size (.tup xs),I1.laid (t':=s1.toks) (fun b u e=>bq _ e) (aH _) ?_,rfl,q _ hf⟩;exact⟨z,us,r,⟨_,da _ rfl,rfl,_,rfl⟩⟩
theorem ZF(h:PA X es t):PE X (.List es pos) (Zz t):=by
 intro pins s σ H Q I hq;refine wpAny_List_spliced (thn (h pos pins s σ H _ I hq) fun us s1 ZG=>ZG.elim fun xs ZH=>ZH.elim fun H1 ZI=>ZI.elim fun I1 ZJ=>ZJ.elim fun r ZK=>ZK.elim fun z q=>⟨by rw[←r.length];exact z,?_⟩);have hf:H1 s1.heap.objs.size=none:=I1.hok.fresh (aH _);refine⟨.ref s1.heap.objs.size,aj H1 s1.heap.objs.size (.lst xs),I1.laid (t':=s1.toks) (fun b u e=>bq _ e) (aH _) ?_,rfl,q _ hf⟩;exact⟨z,us,0,r,da _ rfl⟩
end
abbrev Sp:=Lv->Hp->VK->XK->Prop
abbrev jS:=List Env->Hp->Shared->XK->Value->Shared->Prop
structure nj(P:Program)(w:World)(K:Fg)(mg:Mv)(base:Heap)(A:Around)(outer:List Env)(s:Shared)(H:Hp):Prop where
 frames:A.frames=some outer
 mod:Mod K mg base
 bs:∀b o,base.get? b=some o->s.heap.get? b=some o/\H b=none
 bsz:base.objs.size<=s.heap.objs.size
 funs:s.heap.FunFrames base outer
 frf:∀b∈jN outer,H b=none
 hok:ce P w H s.heap
 bare:AllBare s.gens
def CE(outer:List Env)(P:Program)(w:World)(H:Hp)(s:Shared)(Q:VK)(u:Value)(s':Shared):Prop:=
 ∃v H',s'.os=s.os/\AllBare s'.gens/\Un (jN outer) [] H H' s.heap s'.heap/\ce P w H' s'.heap/\RelV v u/\Q v H'
def CR(CX:jS)(outer:List Env)(P:Program)(w:World)(H:Hp)(s:Shared)(Q:VK)(E:XK)(r:Result)(s':Shared):Prop:=
 match r with
 | .ok (.ret u)=>CE outer P w H s Q u s'
 | .ok _=>False
 | .error e=>CX outer H s E e s'
structure ak(P:Program)(w:World)(K:Fg)(mg:Mv)(base:Heap)(CX:jS)(k:Nat)(f:Addr)(fd:Fy)(ps:Ls)(sp:Sp):Prop where
 len:∀vs H Q E,sp vs H Q E->vs.length=ps.length
 run:∀(A:Around) (outer:List Env) (s:Shared) (H:Hp) (args:Args) (us:Lw) (vs:Lv) (Q:VK) (E:XK),cK k A->nj P w K mg base A outer s H->BindsTo s fd args (ps.zip us)->a8 vs us->sp vs H Q E ->
  codeAny (model P w) A (.call (.ref f) args) (CR CX outer P w H s Q E) s
theorem ak.mono{P:Program}{w:World}{K:Fg}{mg:Mv}{base:Heap}{CX:jS}{j k:Nat}{f:Addr}{fd:Fy}{ps:Ls}{sp:Sp}(F:ak P w K mg base CX j f fd ps sp)(h:j<=k) :
 ak P w K mg base CX k f fd ps sp:=⟨F.len,fun A outer s H args us vs Q E hr=>F.run A outer s H args us vs Q E (hr.mono h)⟩
theorem ak.imp{P:Program}{w:World}{K:Fg}{mg:Mv}{base:Heap}{CX:jS}{k:Nat}{f:Addr}{fd:Fy}{ps:Ls}{sp sp':Sp}(F:ak P w K mg base CX k f fd ps sp)
 (h:∀vs H Q E,sp' vs H Q E->sp vs H Q E):ak P w K mg base CX k f fd ps sp':=
 ⟨fun vs H Q E q=>F.len vs H Q E (h _ _ _ _ q),fun A outer s H args us vs Q E hr he hb hv hs=>F.run A outer s H args us vs Q E hr he hb hv (h _ _ _ _ hs)⟩
theorem nj.make{P:Program}{w:World}{K:Fg}{mg:Mv}{base:Heap}{A:Around}{outer:List Env}{s:Shared}{H:Hp}(e:nj P w K mg base A outer s H)(C:Addr)(us:Lw)(kw:List (Str×Value)) :
 nj P w K mg base (A.under (.builtin "type.__call__" ⟨.ref C::us,kw⟩)) outer s H:=⟨by first | exact e.frames | (simpa [Around.under,Code.envs,Code.isFrame,pushEnvs]using e.frames),e.mod,e.bs,e.bsz,e.funs,e.frf,e.hok,e.bare⟩
theorem nj.in1{P:Program}{w:World}{K:Fg}{mg:Mv}{base:Heap}{A:Around}{outer:List Env}{s:Shared}{H:Hp}(e:nj P w K mg base A outer s H) :
 nj P w K mg base A.in1 outer s H:=⟨e.frames,e.mod,e.bs,e.bsz,e.funs,e.frf,e.hok,e.bare⟩
section
variable {X:Cx} {pins:Po} {σ:St} {H:Hp} {s s':Shared}
theorem Inv.env0(I:Inv X pins σ H s):nj X.prog X.w X.K X.mg X.base X.A X.stack s H:=
 ⟨I.ok.frames,I.ok.mod,I.bs,bS I.ok.bsz I.sz,I.stack,I.stkFree,I.hok,I.bare⟩
theorem Inv.after{Q:VK}{u:Value}(I:Inv X pins σ H s)(h:CE X.stack X.prog X.w H s Q u s'):EP X pins σ Q u s':=by
 obtain⟨v,H',os,bare,un,hok,r,q⟩:=h;obtain⟨hh,g,d,t,Gv⟩:=s';obtain rfl:Gv=s.os:=os;exact⟨v,H',I.call (h':=hh) (g':=g) (d':=d) (t':=t) (ch:=[]) un hok bare (fun b z=>absurd z (by simp)),r,q⟩
end
def ZL(sp:Sp)(fT:Lv)(E:XK)(t:TA):TE:=fun σ H Q=>t σ H fun vs H1=>sp (vs++fT) H1 Q E
def Nw(C:Addr)(m:Str)(sp:Sp)(fT:Lv)(E:XK)(ta:TE)(t:TA):TE:=fun σ H Q=>ta σ H fun x H1=>∃a dx fs,x = .ref a/\H1 a=some (.ins C dx fs)/\fs.lookup m=none /\
 t σ H1 fun vs H2=>sp (x::(vs++fT)) H2 Q E
def ZM(C:Addr)(sp:Sp)(fT:Lv)(E:XK)(t:TA):TE:=fun σ H Q=>t σ H fun vs H1=>∀x dx,H1 x=none->H1 dx=none->dx≠x ->
 sp (.ref x::(vs++fT)) (aj (aj H1 dx (.own x)) x (.ins C dx [])) (fun v H2=>v = .non/\Q (.ref x) H2) E
def Binds(K:Fg)(fd:Fy)(ps:Ls)(ds:Lw):Prop:=
 ∀(s:Shared) (us:Lw),K.In s.heap->(us++ds).length=ps.length->BindsTo s fd ⟨us,[]⟩ (ps.zip (us++ds))
theorem Binds.all{K:Fg}{fd:Fy}{ps:Ls}(h:∀us:Lw,us.length=ps.length->bindArgs fd ⟨us,[]⟩=pure (ps.zip us)):Binds K fd ps []:=fun s us _ hl=>by
 rw[dG]at hl ⊢;exact .of_eq (h us hl)
def sB(CX:jS)(X:Cx)(E:XK):Prop:=∀(pins:Po) (σ:St) (H:Hp) (s:Shared) (e:Value) (s':Shared),Inv X pins σ H s->CX X.stack H s E e s'->X.xe e s'
section
variable {X:Cx} {CX:jS} {k:Nat} {f C:Addr} {fd:Fy} {ps:Ls} {sp:Sp} {fT:Lv} {ds:Lw} {E:XK} {x m:Str} {p pos apos:Pos} {e o:Expr} {es:List Expr} {ta:TE} {t:TA}
theorem Gw{pins:Po}{σ:St}{H:Hp}{s:Shared}{Q:VK}{us:Lw}{vs:Lv}(F:ak X.prog X.w X.K X.mg X.base CX k f fd ps sp)(hr:cK k X.A)(hb:Binds X.K fd ps ds)(hd:a8 fT ds)(hx:sB CX X E)
 (I:Inv X pins σ H s) (r:a8 vs us) (h:sp (vs++fT) H Q E):wpAny (model X.prog X.w) X.A (call (.ref f) us) (EP X pins σ Q) X.xe s:=by
 have r2:a8 (vs++fT) (us++ds):=r.append hd;have hl:(us++ds).length=ps.length:=by rw[←r2.length];exact F.len _ _ _ _ h
 refine Ma (rY (F.run X.A X.stack s H ⟨us,[]⟩ (us++ds) (vs++fT) Q E hr I.env0 (hb s us I.kIn hl) r2 h) fun r s' hq=>?_);cases r with
 | error e=>exact hx pins σ H s e s' I hq
 | ok fl=>
  cases fl with
  | ret u=>exact I.after hq
  | next=>exact False.elim hq
  | brk=>exact False.elim hq
  | cont=>exact False.elim hq
theorem aG(F:ak X.prog X.w X.K X.mg X.base CX k f fd ps sp)(hr:cK k X.A)(hg:Gl X x)(hm:X.mg x=some (.ref f))(hk:PySem.W.keepIn X.K (.ref f)=true)(hb:Binds X.K fd ps ds)(hd:a8 fT ds)(hx:sB CX X E)
 (ha:PA X (e::es) t) (oW:(x == ("__debug__":Str))=false:=by decide) (he:starEach (e::es) X.env=(false,eval e X.env)::starEach es X.env:=by rfl) (cB:(backTo pos (starEach es X.env)).any (·.1)=false:=by rfl) :
 PE X (.Call (.Name x p) (e::es) [] pos) (ZL sp fT E t):=by
 intro pins s σ H Q I h;refine Fx (F9 I hg hm ?_ oW);refine UC (h₀:=X.base) I.ok.mod.kin hk (thn (ha pos pins s σ H _ I h) fun us s1 ZN=>ZN.elim fun vs ZO=>ZO.elim fun H1 ZP=>ZP.elim fun I1 ZQ=>ZQ.elim fun r q=>⟨I1.kIn,?_⟩) he cB;exact Gw F hr hb hd hx I1 r q
theorem kX{pl:Sem Bool}(he:PE X o ta)(c:ic X.K C)(hm:ni X.K C m f)(F:ak X.prog X.w X.K X.mg X.base CX k f fd ps sp)(hr:cK k X.A)(hb:Binds X.K fd ps ds)(hd:a8 fT ds)(hx:sB CX X E)(ha:PA X (e::es) t)
 (lM:starEach (e::es) X.env=(false,eval e X.env)::starEach es X.env:=by rfl) (cB:(backTo pos (starEach es X.env)).any (·.1)=false:=by rfl)
 (ht:eval (.Call (.Attribute o m apos) (e::es) [] pos) X.env=(do
  let ov ←eval o X.env
  standAt apos.atName
  let (f,first) ←holding [ov] (getMethod ov m pl)
  callWith pos f first (backTo pos (starEach (e::es) X.env)) (backToKw pos (keywordEach [] X.env))):=by rfl) :
 PE X (.Call (.Attribute o m apos) (e::es) [] pos) (Nw C m sp fT E ta t):=by
 intro pins s σ H Q I h;refine arY (pl:=pl) (thn (he pins s σ H _ I h) fun u s1 ZR=>ZR.elim fun x ZS=>ZS.elim fun H1 ZT=>ZT.elim fun I1 ZU=>ZU.elim fun rx ZV=>ZV.elim fun a ZW=>ZW.elim fun dx ZX=>ZX.elim fun fs ZY=>ZY.elim fun ex ZZ=>ZZ.elim fun ea Z0=>Z0.elim fun l q=>?_) ht;subst ex;obtain rfl:u=Value.ref a:=rx;refine Nr I1 ea c hm l ?_;refine UC (first:=[.ref a]) (h₀:=X.base) I.ok.mod.kin hm.kp (thn (ha pos pins s1 σ H1 _ I1 q) fun us s2 Z1=>Z1.elim fun vs Z3=>Z3.elim fun H2 Z4=>Z4.elim fun I2 Z5=>Z5.elim fun r q2=>⟨I2.kIn,?_⟩) lM cB;exact Gw (us:=.ref a::us) (vs:=.ref a::vs) F hr hb hd hx I2 (.cons rfl r) q2
theorem xD{pl:Sem Bool}(he:PE X o ta)(c:ic X.K C)(hm:ni X.K C m f)(F:ak X.prog X.w X.K X.mg X.base CX k f fd ps sp)(hr:cK k X.A)(hb:Binds X.K fd ps ds)(hd:a8 fT ds)(hx:sB CX X E)
 (ht:eval (.Call (.Attribute o m apos) [] [] pos) X.env=(do
  let ov ←eval o X.env
  standAt apos.atName
  let (f,first) ←holding [ov] (getMethod ov m pl)
  callWith pos f first (backTo pos (starEach [] X.env)) (backToKw pos (keywordEach [] X.env))):=by rfl) :
 PE X (.Call (.Attribute o m apos) [] [] pos) (Nw C m sp fT E ta gN):=by
 intro pins s σ H Q I h;refine arY (pl:=pl) (thn (he pins s σ H _ I h) fun u s1 Z6=>Z6.elim fun x Z7=>Z7.elim fun H1 Z8=>Z8.elim fun I1 Z9=>Z9.elim fun rx aaa=>aaa.elim fun a aab=>aab.elim fun dx aac=>aac.elim fun fs aad=>aad.elim fun ex aae=>aae.elim fun ea aaf=>aaf.elim fun l q=>?_) ht;subst ex;obtain rfl:u=Value.ref a:=rx;refine Nr I1 ea c hm l ?_;exact PySem.W.callWith_K0 (first:=[.ref a]) I1.kIn hm.kp (Gw (us:=[.ref a]) (vs:=[.ref a]) F hr hb hd hx I1 (.cons rfl .nil) q)
structure Mk(K:Fg)(C f:Addr):Prop where
 makes:PySem.W.makesIn K C=true
 init:PySem.W.findIn K (.ref C) "__init__" = some (some (.ref f))
 fn:PySem.W.isFn K (.ref f)=true
 kp:PySem.W.keepIn K (.ref C)=true
theorem aag{pins:Po}{σ:St}{H:Hp}{s:Shared}{Q:VK}{us:Lw}{vs:Lv}(M:Mk X.K C f)(F:ak X.prog X.w X.K X.mg X.base CX k f fd ps sp)(hr:cK (k+1) X.A)(hb:Binds X.K fd ps ds)(hd:a8 fT ds)
 (hx:sB CX X E) (I:Inv X pins σ H s) (r:a8 vs us)
 (h:∀x dx,H x=none->H dx=none->dx≠x->sp (.ref x::(vs++fT)) (aj (aj H dx (.own x)) x (.ins C dx [])) (fun v H2=>v = .non/\Q (.ref x) H2) E) :
 wpAny (model X.prog X.w) X.A (call (.ref C) us) (EP X pins σ Q) X.xe s:=by
 have hq:=h (s.heap.objs.size+1) s.heap.objs.size (I.hok.fresh (Fz _)) (I.hok.fresh (aH _)) (bE (xb _));have I2:=Inv.made (C:=C) I;have r2:a8 (V.ref (s.heap.objs.size+1)::(vs++fT)) (Value.ref (s.heap.objs.size+1)::(us++ds)):=.cons rfl (r.append hd);have hl:(Value.ref (s.heap.objs.size+1)::us++ds).length=ps.length:=by
  have e:=r2.length;rw[F.len _ _ _ _ hq]at e;exact e.symm
 refine Ma (YJ (f:=f) I.kIn M.makes M.init (iV.mp M.fn) (rY (F.run _ X.stack _ _ ⟨Value.ref (s.heap.objs.size+1)::us,[]⟩ (Value.ref (s.heap.objs.size+1)::(us++ds)) _ _ E (hr.make C us [])
  (I2.env0.make C us []) (hb _ (Value.ref (s.heap.objs.size+1)::us) I2.kIn hl) r2 hq) fun r s' dP=>?_))
 cases r with
 | error e=>exact hx pins σ _ _ e s' I2 dP
 | ok fl=>
  cases fl with
  | ret u=>
   obtain⟨v,H',I3,rv,ev,q3⟩:=I2.after dP;subst ev;exact⟨rv,⟨V.ref (s.heap.objs.size+1),H',I3,rfl,q3⟩⟩
  | next=>exact False.elim dP
  | brk=>exact False.elim dP
  | cont=>exact False.elim dP
theorem uZ(M:Mk X.K C f)(F:ak X.prog X.w X.K X.mg X.base CX k f fd ps sp)(hr:cK (k+1) X.A)(hg:Gl X x)(hm:X.mg x=some (.ref C))(hb:Binds X.K fd ps ds)(hd:a8 fT ds)(hx:sB CX X E)
 (ha:PA X (e::es) t) (oW:(x == ("__debug__":Str))=false:=by decide) (he:starEach (e::es) X.env=(false,eval e X.env)::starEach es X.env:=by rfl) (cB:(backTo pos (starEach es X.env)).any (·.1)=false:=by rfl) :
 PE X (.Call (.Name x p) (e::es) [] pos) (ZM C sp fT E t):=by
 intro pins s σ H Q I h;refine Fx (F9 I hg hm ?_ oW);refine UC (h₀:=X.base) I.ok.mod.kin M.kp (thn (ha pos pins s σ H _ I h) fun us s1 aah=>aah.elim fun vs aai=>aai.elim fun H1 aaj=>aaj.elim fun I1 aak=>aak.elim fun r q=>⟨I1.kIn,?_⟩) he cB;exact aag M F hr hb hd hx I1 r q
end
def PK(X:Cx)(o3:List Keyword)(t:TA):Prop:=
 ∀(pos:Pos) (pins:Po) (s:Shared) (σ:St) (H:Hp) (Q:Lv->Hp->Prop),Inv X pins σ H s->t σ H Q->wpAny (model X.prog X.w) X.A (evalAll ((backToKw pos (keywordEach o3 X.env)).map (·.2))) (AP X pins σ Q) X.xe s
section
variable {X:Cx} {CX:jS} {k:Nat} {f C:Addr} {fd:Fy} {ps ks:Ls} {sp:Sp} {E:XK} {x m:Str} {p pos apos xE:Pos} {e o:Expr} {es:List Expr} {o3:List Keyword} {te ta:TE} {t tk:TA} {nm:Option Str}
theorem aal:PK X [] gN:=fun _ _ _ _ H Q I h=>wpAny_evalAll_nil ⟨[],H,I,.nil,h⟩
theorem aam(ha:PE X e te)(hr:PK X o3 t):PK X (⟨nm,e,xE⟩::o3) (lN te t):=by
 intro pos pins s σ H Q I h;show wpAny _ _ (evalAll ((do let v ←eval e X.env;standAt pos;pure v)::(backToKw pos (keywordEach o3 X.env)).map (·.2))) _ _ s;refine wpAny_evalAll_cons (ac (thn (ha pins s σ H _ I h) fun u s1 aan=>aan.elim fun x aao=>aao.elim fun H1 aap=>aap.elim fun I1 aaq=>aaq.elim fun r1 q1=>ac (UD (aq ?_))));exact thn (hr pos pins s1 σ H1 _ I1 q1) fun us s2 aar=>aar.elim fun xs aas=>aas.elim fun H2 aat=>aat.elim fun I2 aau=>aau.elim fun r2 q2=>⟨x::xs,H2,I2,.cons r1 r2,q2⟩
variable {g:Lw->Lw->Lw} {gV:Lv->Lv->Lv}
end
structure bh(N P:Ls)(sc:Scope):Prop where
 kind:sc.kind = .function
 co:sc.isCoroutine=false
 gen:sc.isGenerator=false
 nd:N.Nodup
 pre:N.take P.length=P
 par:∀x∈P,sc.names.lookup x=some .local\/sc.names.lookup x=some .cell
 nofree:∀y∈sc.names,y.2≠.free
theorem Nx{kindOf:Str->Option NameKind}{x:Str}:∀{binds:List (Str×Value)} {m:Mv},(∀v,(x,v)∉binds)->bindL kindOf binds m x=m x
 | [],_,_=>rfl
 | (n,v)::r,m,h=>by
  unfold bindL;rw[Nx fun w hw=>h w (cy _ hw)];split
  . have:x≠n:=by rintro rfl;exact h v cD
    simp[this]
  . rfl
theorem Ny{kindOf:Str->Option NameKind}{x:Str}:∀{binds:List (Str×Value)} {m:Mv},(∀v,(x,v)∉binds)->bindC kindOf binds m x=m x
 | [],_,_=>rfl
 | (n,v)::r,m,h=>by
  unfold bindC;rw[Ny fun w hw=>h w (cy _ hw)];split
  . rfl
  . have:x≠n:=by rintro rfl;exact h v cD
    simp[this]
theorem Nz{kindOf:Str->Option NameKind}{x:Str}{v:Value}:∀{P:Ls} {vs:Lw} {i:Nat} {m:Mv},P.Nodup->P[i]? = some x->vs[i]? = some v->kindOf x=some .local ->
 bindL kindOf (P.zip vs) m x=some v
 | [],_,_,_,_,h,_,_=>by simp at h
 | _::_,[],_,_,_,_,h,_=>by simp at h
 | p::P,w::vs,0,m,nd,h1,h2,hk=>by
  simp at h1 h2;subst h1;subst h2;show bindL kindOf ((p,w)::P.zip vs) m p=_;unfold bindL;rw[Nx fun v hv=>(jI.mp nd).1 (UE hv).1,ap hk];simp
 | p::P,w::vs,i+1,m,nd,h1,h2,hk=>by
  show bindL kindOf ((p,w)::P.zip vs) m x=_;unfold bindL;exact Nz (i:=i) (jI.mp nd).2 (by simpa using h1) (by simpa using h2) hk
theorem NA{kindOf:Str->Option NameKind}{x:Str}{v:Value}:∀{P:Ls} {vs:Lw} {i:Nat} {m:Mv},P.Nodup->P[i]? = some x->vs[i]? = some v->kindOf x≠some .local ->
 bindC kindOf (P.zip vs) m x=some v
 | [],_,_,_,_,h,_,_=>by simp at h
 | _::_,[],_,_,_,_,h,_=>by simp at h
 | p::P,w::vs,0,m,nd,h1,h2,hk=>by
  simp at h1 h2;subst h1;subst h2;show bindC kindOf ((p,w)::P.zip vs) m p=_;unfold bindC;rw[Ny fun v hv=>(jI.mp nd).1 (UE hv).1,ah hk];simp
 | p::P,w::vs,i+1,m,nd,h1,h2,hk=>by
  show bindC kindOf ((p,w)::P.zip vs) m x=_;unfold bindC;exact NA (i:=i) (jI.mp nd).2 (by simpa using h1) (by simpa using h2) hk
def start(N:Ls)(vs:Lv):St:=vs.map some++List.replicate (N.length - vs.length) none
def sC(CX:jS)(P:Program)(w:World)(K:Fg)(mg:Mv)(base:Heap)(N:Ls)(qual:Str)(scope:Scope)(f:Addr)(cd:Value)(A:Around)(outer:List Env)(s:Shared)(H:Hp)(E:XK):Cx where
 prog:=P
 w:=w
 K:=K
 mg:=mg
 base:=base
 A:=A.deeper (envOfC qual scope s.heap.objs.size f cd)
 N:=N
 s₀:=s
 H₀:=H
 env:=envOfC qual scope s.heap.objs.size f cd
 outer:=outer
 stack:=envOfC qual scope s.heap.objs.size f cd::outer
 ex:=[]
 calm:=true
 fn:=fun _=>true
 pn:=[]
 xe:=fun e s'=>wpAny (model P w) (A.deeper (envOfC qual scope s.heap.objs.size f cd)) (leaving (envOfC qual scope s.heap.objs.size f cd) e) (fun _ qL=>CX outer H s E e qL) (fun e' qL=>CX outer H s E e' qL) s'
theorem NB{sc:Scope}{n:Nat}{x:Str}(h:sc.names.lookup x=some .cell):∃c,(cellsFrom n sc.names []).lookup x=some c:=by
 have q:=arZ sc.names n [] (.inl h);exact Bh.mp q
theorem aav{CX:jS}{P:Program}{w:World}{K:Fg}{mg:Mv}{base:Heap}{N ps:Ls}{qual:Str}{scope:Scope}{f:Addr}{cd:Value}{A:Around}{outer:List Env}{s s1:Shared}{H:Hp}{E:XK}{us:Lw}{vs:Lv}
 (S:bh N ps scope) (hd:A.handled=none) (e0:nj P w K mg base A outer s H) (hl:vs.length=ps.length) (r:a8 vs us)
 (x:InCallC s s.heap.objs.size (bindL (envOfC qual scope s.heap.objs.size f cd).kindOf (ps.zip us) fun _=>none) (cellsFrom (s.heap.objs.size+1) scope.names []) (bindC (envOfC qual scope s.heap.objs.size f cd).kindOf (ps.zip us) fun _=>none) s1) :
 Inv (sC CX P w K mg base N qual scope f cd A outer s H E) [] (start N vs) H s1:=by
 have cB:ps.length<=N.length:=by have:=fL List.length S.pre;rw[db]at this;omega
 obtain⟨h1,tk,rfl,hk⟩:=x.done;have sF:∀b:Addr,b∉(sC CX P w K mg base N qual scope f cd A outer s H E).ex:=fun b z=>absurd (show b∈([]:List Addr) from z) (by simp);refine⟨⟨e0.mod,S.kind,rfl,rfl,aH _,fun y z c h1 h2=>?_,fun y hy=>?_,fun y c _ h=>?_,fun _=>hd,Around.frames_deeper e0.frames,.inr ⟨rfl,rfl⟩,fun b z=>absurd z (sF b),e0.bs,e0.bsz,fun b _ _=>sF b,fun b z=>absurd z (sF b),e0.funs,e0.frf⟩,
  rfl,e0.bare,Un.kept hk,⟨_,x.toInCall.ns,fun i y v h1 h2 h3=>?_⟩,fun y c h=>⟨_,x.cell y c h⟩,e0.hok.fresh (aH _),fun y c h=>?_,fun p hp=>absurd (show p∈([]:Po) from hp) (by simp),e0.hok.kept hk,?_⟩
 . exact name_of_addr x.apart (uH h1) (uH h2)
 . have hy:scope.names.lookup y=some .cell\/scope.names.lookup y=some .free:=hy
   rcases hy with hy | hy
   . exact NB hy
   . exact absurd rfl (S.nofree _ (uH hy))
 . exact hJ (x.above y c (uH h))
 . have hi:i<vs.length:=by
    unfold start at h2
    by_cases hi:i<vs.length
    . exact hi
    . rw[FA (by simpa using hi)]at h2;rw[ar0]at h2;split at h2<;>cases h2
   have ha:vs[i]? = some v:=by
    unfold start at h2;rw[Mb (by simpa using hi),bN]at h2;cases e:vs[i]? with
    | none=>rw[e]at h2;cases h2
    | some a=>rw[e]at h2;cases h2;rfl
   obtain⟨u,hu,rv⟩:=r.get ha;have hp:ps[i]? = some y:=by
    rw[←S.pre,List.getElem?_take_of_lt (by omega)];exact h1
   have NC:ps.Nodup:=by rw[←S.pre];exact S.nd.sublist (List.take_sublist _ _)
   refine⟨u,rv,?_⟩
   rcases S.par y (eN hp) with k | k
   . exact .inl ⟨k,Nz NC hp hu k⟩
   . obtain⟨c,e⟩:=NB (n:=s.heap.objs.size+1) k;refine .inr ⟨.inl k,c,e,?_⟩;have q:=x.cell y c e;rw[NA NC hp hu (by show scope.names.lookup y≠_;rw[k];decide)]at q;exact q
 . exact e0.hok.fresh (hJ (x.above y c (uH h)))
 . unfold start;show _=N.length;rw[bc,au,UG];omega
theorem ND{CX:jS}{P:Program}{w:World}{K:Fg}{mg:Mv}{base:Heap}{k:Nat}{f:Addr}{name qual:Str}{params:Arguments}{body:List Stmt}{scope:Scope}{dV kV doc pm aF ct oc:Value}{an od:Oa}
 {jT:Array (Option Value)} {N ps:Ls} {sp:Sp} (lk:K.lookup f=some ⟨oc,od,.func (PySem.W.fnOf name qual params body scope dV kV doc pm an aF ct),jT⟩) (iY:PySem.W.codeIn K aF qual=true) (S:bh N ps scope)
 (len:∀vs H Q E,sp vs H Q E->vs.length=ps.length)
 (sG:∀(A:Around) (outer:List Env) (s:Shared) (H:Hp) (vs:Lv) (Q:VK) (E:XK),cK k (A.deeper (envOfC qual scope s.heap.objs.size f aF))->sp vs H Q E ->
  ∃t,cz (sC CX P w K mg base N qual scope f aF A outer s H E) body t/\t { nx:=fun _ H'=>Q .non H',rt:=Q } (start N vs) H) :
 ak P w K mg base CX (k+1) f (PySem.W.fnOf name qual params body scope dV kV doc pm an aF ct) ps sp:=by
 refine⟨len,fun A outer s H args us vs Q E hr e0 hb r nn=>?_⟩;have hl:=len _ _ _ _ nn;have KX:K.In s.heap:=e0.mod.kin.keeps fun b o e=>(e0.bs b o e).1;have lim:s.heap.NoLimit:=e0.mod.nolimit.keeps fun b o e=>(e0.bs b o e).1;have aaw:∀y∈ps.zip us,scope.names.lookup y.1=some .local\/(scope.names.lookup y.1=some .cell/\((cellsFrom (s.heap.objs.size+1) scope.names []).lookup y.1).isSome=true):=fun⟨n,v⟩ hy=>by
  rcases S.par n (UE hy).1 with q | q
  . exact .inl q
  . exact .inr ⟨q,arZ _ _ _ (.inl q)⟩
 refine codeAny_call_function hr.depth (KX _ _ lk) rfl S.co S.gen rfl (PySem.W.codeRec_of KX iY) (hb _ _ _ _ ?_);refine wpAny_newFunctionEnv_cells S.kind aaw fun env he s1 x=>?_;subst he;refine⟨lim.keeps x.toInCall.keep,codeAny_func ?_⟩;obtain⟨t,ht,hq⟩:=sG A outer s H vs Q E (hr.deeper _) nn;have I:Inv (sC CX P w K mg base N qual scope f aF A outer s H E) [] (start N vs) H s1:=aav S hr.hd e0 hl r x;refine dN (ht [] s1 (start N vs) H _ I hq) (fun fl s' hs=>?_) fun e s' hs=>hs;have fin:∀{σ':St} {H':Hp} {v:V} {u:Value},Inv (sC CX P w K mg base N qual scope f aF A outer s H E) [] σ' H' s'->RelV v u->Q v H'->CE outer P w H s Q u s':=
  fun {σ' H' v u} J rv q=>⟨v,H',J.os,J.bare,J.base,J.hok,rv,q⟩
 cases fl with
 | ret u=>
  obtain⟨v,σ',H',J,rv,q⟩:=hs;exact fin J rv q
 | next=>
  obtain⟨σ',H',J,q⟩:=hs;exact fin (v:=V.non) (u:=Value.none) J rfl q
 | brk=>
  obtain⟨_,_,_,q⟩:=hs;exact False.elim q
 | cont=>
  obtain⟨_,_,_,q⟩:=hs;exact False.elim q
section
variable {X:Cx} {x:Str} {p pos:Pos} {e:Expr} {es:List Expr} {t:TA} {id T:String} {r:Lv->Hp->VK->Prop}
def BU(r:Lv->Hp->VK->Prop)(t:TA):TE:=fun σ H Q=>t σ H fun vs H1=>r vs H1 Q
theorem bZ(hc:gt X (.builtin id) r)(hg:Gl X x)(hm:X.mg x=none)(hv:bootBuiltins x=some (.builtin id))(ha:PA X (e::es) t)(hn:x≠"__name__":=by decide)(oW:(x == ("__debug__":Str))=false:=by decide)
 (he:starEach (e::es) X.env=(false,eval e X.env)::starEach es X.env:=by rfl) (cB:(backTo pos (starEach es X.env)).any (·.1)=false:=by rfl):PE X (.Call (.Name x p) (e::es) [] pos) (BU r t):=by
 intro pins s σ H Q I h;refine Fx (sj I hg hm hv ?_ hn oW);exact PyProof.Rows.callWith_builtin1 (thn (ha pos pins s σ H _ I h) fun us s1 aax=>aax.elim fun vs aay=>aay.elim fun H1 aaz=>aaz.elim fun I1 aaA=>aaA.elim fun r1 q1=>hc pins s1 σ H1 vs us Q I1 r1 q1) he cB
theorem gh(hc:gt X (.type T) r)(hg:Gl X x)(hm:X.mg x=none)(hv:bootBuiltins x=some (.type T))(ha:PA X (e::es) t)(hn:x≠"__name__":=by decide)(oW:(x == ("__debug__":Str))=false:=by decide)
 (he:starEach (e::es) X.env=(false,eval e X.env)::starEach es X.env:=by rfl) (cB:(backTo pos (starEach es X.env)).any (·.1)=false:=by rfl):PE X (.Call (.Name x p) (e::es) [] pos) (BU r t):=by
 intro pins s σ H Q I h;refine Fx (sj I hg hm hv ?_ hn oW);exact L7 (thn (ha pos pins s σ H _ I h) fun us s1 aaB=>aaB.elim fun vs aaC=>aaC.elim fun H1 aaD=>aaD.elim fun I1 aaE=>aaE.elim fun r1 q1=>hc pins s1 σ H1 vs us Q I1 r1 q1) he cB
end
end L2
namespace HT
open PySem PyProof.Rows
def lexLt:List Int->List Int->Bool
 | [],[]=>false
 | [],_::_=>true
 | _::_,[]=>false
 | x::xs,y::ys=>if x=y then lexLt xs ys else decide (x<y)
theorem o4(x y:Int)(xs ys:List Int):lexLt (x::xs) (y::ys)=if x=y then lexLt xs ys else decide (x<y):=rfl
theorem Gx:lexLt [] []=false:=rfl
theorem Gy(y:Int)(ys:List Int):lexLt [] (y::ys)=true:=rfl
theorem Gz(x:Int)(xs:List Int):lexLt (x::xs) []=false:=rfl
theorem xF(A:Around)(s:Shared)(a:Int)(t:Tok)(c:Int)(u:Tok):∃e,SeqAt.EqAt A s (.int a t) (.int c u) e/\(e=true↔a=c):=
 ⟨(a == c),SeqAt.EqAt.int_int a t c u,by simp⟩
theorem GA(A:Around)(s:Shared)(a:Int)(t:Tok)(c:Int)(u:Tok)(prog:Program)(w:World)(E:VP)(Q:VP)(h:Q (.bool (decide (a<c))) s) :
 wpAny (model prog w) A (richCompare .Lt (.int a t) (.int c u)) Q E s:=
 (PyProof.Rows.lt_int h:wpAny (model prog w) A (compareOp .Lt (.int a t) (.int c u)) Q E s)
section
open PySem.SeqAt
open PySem.AutoSeq1 (wpAny_loadPart')
open PySem.MeetsSeq PySem.MeetsSeq2 PySem.MeetsSeq3
theorem aaF(l b:Addr)(items br:Av)(n n2:Nat)(dd cW:Oa)(sl cu:Array (Option Value))(ns ms:List Int)(hi:IntsAre items.toList ns)(hj:IntsAre br.toList ms) :
 Meets (Builtin.«tuple.__lt__» ⟨[.ref l,.ref b],[]⟩)
  (fun _ R s=>s.heap.get? l=some { cls:=.type "tuple",dict:=dd,data:=.seq items n,slots:=sl }/\s.heap.get? b=some { cls:=.type "tuple",dict:=cW,data:=.seq br n2,slots:=cu } /\
   R (.ok (.ret (.bool (lexLt ns ms)))) s):=
 .of_wp fun prog w A R s h=>by
  obtain⟨hp,g,d,tk,os⟩:=s;obtain⟨hl,hb,h⟩:=h;have f2:=Mc;have z1:items.size=ns.length:=by rw[←hi.length];simp
  have z2:br.size=ms.length:=by rw[←hj.length];simp
  wp_walk using wpAny_loadPart' hl,wpAny_loadPart' hb,qx _ (fun rest b s'=>b.1=none/\s'=⟨hp,g,d,tk,os⟩/\∃(vs ws:Lw) (gv gw:List Int),rest=vs.zip ws /\
   IntsAre vs gv/\IntsAre ws gw/\gv.length+br.size=gw.length+items.size/\R (.ok (.ret (.bool (lexLt gv gw)))) ⟨hp,g,d,tk,os⟩) _
  case turn=>
   rintro⟨y,x⟩ rest b s' ⟨fc,rfl,vs,ws,gv,gw,hz,lO,gi,hlen,hR⟩;cases lO with
   | nil=>rw[Me]at hz;cases hz
   | cons a t xG=>
    cases gi with
    | nil=>rw[Mf]at hz;cases hz
    | cons c u xH=>
     rw[oK]at hz;injection hz with lQ no
     injection lQ with hy hx
     subst hy hx;rw[o4]at hR;simp only[bF]at hlen;obtain⟨e,he,qM⟩:=xF A.in1 ⟨hp,g,d,tk,os⟩ a t c u;refine ac (he prog w _ _ ?_);cases e with
     | true=>
      rw[ap (qM.mp rfl)]at hR
      wp_walk
      exact⟨rfl,rfl,_,_,_,_,no,xG,xH,by omega,hR⟩
     | false=>
      rw[ah (fun q=>absurd (qM.mpr q) bV)]at hR;have o5:=GA A.in1 ⟨hp,g,d,tk,os⟩ a t c u prog w
      wp_walk using o5
      exact⟨_,rfl,by simpa using hR⟩
  case fin=>
   rintro⟨b1,b2⟩ s' ⟨fc,rfl,vs,ws,gv,gw,hz,lO,gi,hlen,hR⟩;simp only at fc;subst fc;have hv:lexLt gv gw=decide (items.size<br.size):=by
    cases lO with
    | nil=>
     cases gi with
     | nil=>
      simp only[jo]at hlen;rw[Gx];exact(aR (by omega)).symm
     | cons c u hw=>
      simp only[jo,bF]at hlen;rw[Gy];exact(aE (by omega)).symm
    | cons a t hv=>
     cases gi with
     | nil=>
      simp only[jo,bF]at hlen;rw[Gz];exact(aR (by omega)).symm
     | cons c u hw=>
      rw[oK]at hz;cases hz
   rw[hv]at hR
   wp_walk
   exact⟨_,rfl,by simpa [Builtin.Tuple.tupleCompareSizes]using hR⟩
  case h=>
   exact⟨rfl,rfl,items.toList,br.toList,ns,ms,rfl,hi,hj,by omega,h⟩
end
section
variable {prog:Program} {w:World} {A:Around} {E:VP} {s:Shared}
theorem aaG{l b:Addr}{items br:Av}{ns ms:List Int}{Q:VP}(hl:IsTup s.heap l items)(hb:IsTup s.heap b br)(hi:IntsAre items.toList ns)(hj:IntsAre br.toList ms)
 (hu:A.units<cLine) (h:Q (.bool (lexLt ns ms)) s):wpAny (model prog w) A (compareOp .Lt (.ref l) (.ref b)) Q E s:=by
 obtain⟨⟨cls,dd,data,sl⟩,ho,hc,n,hd⟩:=id hl;obtain⟨⟨xI,cW,data2,cu⟩,gx,cX,n2,hd2⟩:=id hb;simp only at hc hd cX hd2;subst hc hd cX hd2;exact FC (op:=.Lt) ⟨_,ho,rfl⟩ ⟨_,gx,rfl⟩ PySem.F.slot_tuple_lt PySem.F.entry_tuple_lt (PySem.F.args_tuple_lt_2 _ _) (aaF l b items br n n2 dd cW sl cu ns ms hi hj)
  ⟨ho,gx,show Value.bool (lexLt ns ms)≠Value.notImplemented/\Q (.bool (lexLt ns ms)) s from ⟨(fun x=>nomatch x),h⟩⟩ hu
def fe(n d:Nat):Option Int->Nat
 | none=>d
 | some v=>if v<0 then(v+(n:Int)).toNat else min v.toNat n
theorem aaH(n d:Nat):fe n d none=d:=rfl
theorem GB(n d k:Nat):fe n d (some (k:Int))=min k n:=by
 show(if (k:Int)<0 then((k:Int)+(n:Int)).toNat else min (k:Int).toNat n)=min k n;rw[ah (by omega),Bi]
end
end HT
namespace L2
open PySem PySem.Spec PyProof.Rows
abbrev TO:=St->Hp->(Option Int->Hp->Prop)->Prop
def PO(X:Cx)(e:Option Expr)(t:TO):Prop:=
 ∀(pins:Po) (s:Shared) (σ:St) (H:Hp) (Q:Option Int->Hp->Prop),Inv X pins σ H s->t σ H Q ->
  wpAny (model X.prog X.w) X.A (evalPart e X.env) (fun u s'=>∃o H',Inv X pins σ H' s'/\IsPart u o/\Q o H') X.xe s
def aaI:TO:=fun _ H Q=>Q none H
def aaJ(t:TE):TO:=fun σ H Q=>t σ H fun x H1=>∃i,x = .int i/\Q (some i) H1
theorem intsAre_of{ns:List Int}:∀{us:Lw},a8 (ns.map V.int) us->IntsAre us ns:=by
 induction ns with
 | nil=>intro us r;rw[FD]at r;cases r;exact .nil
 | cons n ns ih=>
  intro us r;rw[b9]at r;cases r with
  | cons r1 r2=>
   obtain⟨t,e⟩:=r1;subst e;exact .cons n t (ih r2)
section
variable {X:Cx} {e:Expr} {te:TE} {lo hi:Option Expr} {tl th:TO} {pos p2:Pos}
theorem BV:PO X none aaI:=by
 intro pins s σ H Q I h;rw[evalPart_none];exact aq ⟨none,H,I,.none,h⟩
theorem vb(h:PE X e te):PO X (some e) (aaJ te):=by
 intro pins s σ H Q I hw;rw[evalPart_some];refine thn (h pins s σ H _ I hw) fun u s1 aaK=>aaK.elim fun x aaL=>aaL.elim fun H1 aaM=>aaM.elim fun I1 aaN=>aaN.elim fun r1 q1=>?_;obtain⟨i,rfl,q⟩:=q1;obtain⟨t,rfl⟩:=r1;exact⟨some i,H1,I1,.int i t,q⟩
def vc(X:Cx)(r:V->Option Int->Option Int->Hp->VK->Prop):Prop:=
 ∀(pins:Po) (s:Shared) (σ:St) (H:Hp) (x:V) (v vl vu:Value) (lo hi:Option Int) (sl:Addr) (Q:VK),Inv X pins σ H s->RelV x v->s.heap.IsSliceOf sl vl vu .none->IsPart vl lo->IsPart vu hi->r x lo hi H Q ->
  ∃T id,typeLookup (.type T) "__getitem__" = pure (some (.builtin id))/\s.TypeIs v T/\wpAny (model X.prog X.w) X.A (getItem v (.ref sl)) (EP X pins σ Q) X.xe s
def tSl(r:V->Option Int->Option Int->Hp->VK->Prop)(te:TE)(tl th:TO):TE:=fun σ H Q=>te σ H fun x H1=>tl σ H1 fun l H2=>th σ H2 fun u H3=>r x l u H3 Q
theorem xJ{r:V->Option Int->Option Int->Hp->VK->Prop}(hr:vc X r)(he:PE X e te)(hl:PO X lo tl)(hu:PO X hi th):PE X (.Subscript e (.Slice lo hi none p2) pos) (tSl r te tl th):=by
 intro pins s σ H Q I h;refine Subscript_ (thn (he pins s σ H _ I h) fun v s1 aaP=>aaP.elim fun x aaQ=>aaQ.elim fun H1 aaR=>aaR.elim fun I1 aaS=>aaS.elim fun r1 q1=>?_);refine wpAny_Slice (thn (hl pins s1 σ H1 _ I1 q1) fun vl s2 aaT=>aaT.elim fun l aaU=>aaU.elim fun H2 aaV=>aaV.elim fun I2 aaW=>aaW.elim fun pl q2=>thn (hu pins s2 σ H2 _ I2 q2) fun vu s3 aaX=>aaX.elim fun u aaY=>aaY.elim fun H3 aaZ=>aaZ.elim fun I3 aa0=>aa0.elim fun pu q3=>?_);rw[evalPart_none];refine aq ?_;have I4:Inv X pins σ H3 { s3 with heap:=s3.heap.push { cls:=.type "slice",data:=.fields #[vl,vu,.none] } }:=I3.kept (t':=s3.toks) fun b ob q=>bq _ q;obtain⟨T,id,hT,ht,hg⟩:=hr pins { s3 with heap:=s3.heap.push { cls:=.type "slice",data:=.fields #[vl,vu,.none] } } σ H3 x v vl vu l u s3.heap.objs.size Q I4 r1 (Heap.IsSliceOf.new ..) pl pu q3;show wpAny (model X.prog X.w) X.A (subscriptTail e (.Slice lo hi none p2) v (.ref s3.heap.objs.size)) (EP X pins σ Q) X.xe { s3 with heap:=s3.heap.push { cls:=.type "slice",data:=.fields #[vl,vu,.none] } };exact tail_any (ops:=[.ref s3.heap.objs.size,v]) ht hT hg (by with_unfolding_all rfl)
def o6(xs:Lv)(lo hi:Option Int):Lv:=(xs.drop (HT.fe xs.length 0 lo)).take (HT.fe xs.length xs.length hi - HT.fe xs.length 0 lo)
theorem aa1(xs:Lv)(lo hi:Option Int):(o6 xs lo hi).length<=xs.length:=by
 unfold o6;rw[db,List.length_drop];omega
def aa2(K:Fg):R2:=fun x y H Q=>∃a b ns ms,x = .ref a/\y = .ref b/\aw K H a (ns.map V.int)/\aw K H b (ms.map V.int)/\Q (.bl (HT.lexLt ns ms)) H
theorem GC(hu:X.A.units<cLine):bK X (compareOp .Lt) (aa2 X.K):=by
 intro pins s σ H x y v u Q I rx ry h;obtain⟨a,b,ns,ms,rfl,rfl,ha,hb,q⟩:=h;cases rx;cases ry;obtain⟨its,r1,p1,_⟩:=I.tuple ha;obtain⟨i4,r2,p2,_⟩:=I.tuple hb;have i1:IntsAre its.toArray.toList ns:=intsAre_of r1;have i2:IntsAre i4.toArray.toList ms:=intsAre_of r2;exact HT.aaG p1 p2 i1 i2 hu ⟨.bl (HT.lexLt ns ms),H,I,rfl,q⟩
end
def vd(n:Nat)(i:Int):Option Nat:=if 0<=i then(if i<n then some i.toNat else none) else if -(n:Int)<=i then some (i+n).toNat else none
def bT{α:Type}(xs:List α)(i:Int):Option α:=(vd xs.length i).bind fun j=>xs[j]?
theorem aa3{n:Nat}{i:Int}{j:Nat}(h:vd n i=some j):seqIndex? i n=some j/\j<n/\-(n:Int)<=i/\i<n:=by
 unfold vd at h
 by_cases h0:0<=i
 . rw[ap h0]at h
   by_cases h1:i<n
   . rw[ap h1]at h;have e:i.toNat=j:=eK h;exact⟨by rw[seqIndex_of h0 h1,e],by omega,by omega,h1⟩
   . rw[ah h1]at h;cases h
 . rw[ah h0]at h
   by_cases h1:-(n:Int)<=i
   . rw[ap h1]at h;have e:(i+n).toNat=j:=eK h;exact⟨by rw[seqIndex_neg (by omega) h1,e],by omega,h1,by omega⟩
   . rw[ah h1]at h;cases h
theorem GD{α:Type}{xs:List α}{i:Int}{v:α}(h:bT xs i=some v):∃j,seqIndex? i xs.length=some j/\xs[j]? = some v/\j<xs.length/\-(xs.length:Int)<=i/\i<xs.length:=by
 unfold bT at h;cases e:vd xs.length i with
 | none=>rw[e]at h;cases h
 | some j=>
  rw[e]at h;obtain⟨h1,h2,h3,h4⟩:=aa3 e;exact⟨j,h1,h,h2,h3,h4⟩
theorem dY{α:Type}{xs:List α}{j:Nat}{v:α}(h:xs[j]? = some v):bT xs (j:Int)=some v:=by
 have hj:j<xs.length:=(bH.mp h).1;have e:vd xs.length (j:Int)=some j:=by
  unfold vd;rw[ap (by omega),ap (by omega)];simp
 unfold bT;rw[e];exact h
def aa4(b:Expr):Prop:=∀o i,subscripted b false o i=operate [o,i] (getItem o i)
def ve(X:Cx)(r:R2):Prop:=
 ∀(value slice:Expr) (pins:Po) (s:Shared) (σ:St) (H:Hp) (x y:V) (v u:Value) (Q:VK),Inv X pins σ H s->RelV x v->RelV y u->r x y H Q ->
  subscripted slice false v u=operate [v,u] (getItem v u)->wpAny (model X.prog X.w) X.A (subscriptTail value slice v u) (EP X pins σ Q) X.xe s
def MtR(X:Cx)(id:String)(r:V->Lv->Hp->VK->Prop):Prop:=
 ∀(pins:Po) (s:Shared) (σ:St) (H:Hp) (x:V) (xs:Lv) (v:Value) (us:Lw) (Q:VK),Inv X pins σ H s->RelV x v->a8 xs us->r x xs H Q ->
  wpAny (model X.prog X.w) X.A (call (.builtin id) (v::us)) (EP X pins σ Q) X.xe s
section
variable {X:Cx} {a b:Expr} {ta tb:TE} {pos:Pos}
theorem aQ{r:R2}(hr:ve X r)(ha:PE X a ta)(hb:PE X b tb)(hs:aa4 b):PE X (.Subscript a b pos) (BP r ta tb):=by
 intro pins s σ H Q I h;exact Subscript_ (Gi ha hb I h fun v u s2 x y H2 I2 rx ry q=>hr a b pins s2 σ H2 x y v u Q I2 rx ry q (hs _ _))
def NE(K:Fg):R2:=fun x y H Q=>∃p xs i v,x = .ref p/\y = .int i/\af K H p xs/\bT xs i=some v/\Q v H
def NF(K:Fg):R2:=fun x y H Q=>∃p xs i v,x = .ref p/\y = .int i/\aw K H p xs/\bT xs i=some v/\Q v H
def aa6:R2:=fun x y H Q=>∃z i c,x = .str z/\y = .int i/\z.length<=sizeLine/\bT z.cps.toList i=some c/\Q (.str ⟨#[c]⟩) H
theorem gO:ve X (NE X.K):=by
 intro value slice pins s σ H x y v u Q I rx ry h hs;obtain⟨p,xs,i,z,rfl,rfl,hq,he,q⟩:=h;cases rx;obtain⟨t,rfl⟩:=ry;obtain⟨its,r,pl,hz⟩:=I.list hq;obtain⟨j,h1,h2,h3,h4,h5⟩:=GD he;obtain⟨w,ew,i5⟩:=r.get h2;have hl:=r.length;have hn:=BR;have fin:EP X pins σ Q w s:=⟨z,H,I,i5,q⟩
 by_cases h0:0<=i
 . have hj:i.toNat=j:=by
    rw[seqIndex_of h0 h5]at h1;exact eK h1
   exact item_listR pl.isList h0 (by omega) (by rw[hj];simpa using ew) fin hs
 . have hj:(i+(its.toArray.size:Int)).toNat=j:=by
    rw[seqIndex_neg (by omega) h4]at h1;rw[iz,←hl];exact eK h1
   exact ar1 (x:=w) pl.isList.typeIs slot_list_getitem.lookup
    (wpAny_getItem_list_neg (Q:=fun r s'=>r=w/\EP X pins σ Q r s') pl.isList (by omega) (by rw[iz]<;>omega) (by omega) (by rw[hj];simpa using ew) ⟨rfl,fin⟩) hs
theorem bO:ve X (NF X.K):=by
 intro value slice pins s σ H x y v u Q I rx ry h hs;obtain⟨p,xs,i,z,rfl,rfl,hq,he,q⟩:=h;cases rx;obtain⟨t,rfl⟩:=ry;obtain⟨its,r,pl,hz⟩:=I.tuple hq;obtain⟨j,h1,h2,h3,h4,h5⟩:=GD he;obtain⟨w,ew,i5⟩:=r.get h2;have hl:=r.length;have hn:=BR;have fin:EP X pins σ Q w s:=⟨z,H,I,i5,q⟩;exact ar1 (x:=w) pl.typeIs slot_tuple_getitem.lookup
  (getItem_tuple (j:=j) (Q:=fun r s'=>r=w/\EP X pins σ Q r s') pl (by omega) (by omega) (by rw[iz,←hl];exact h1) (by simpa using ew) ⟨rfl,fin⟩) hs
theorem GF:ve X aa6:=by
 intro value slice pins s σ H x y v u Q I rx ry h hs;obtain⟨z,i,c,rfl,rfl,hz,he,q⟩:=h;obtain⟨t,rfl⟩:=rx;obtain⟨t',rfl⟩:=ry;obtain⟨j,h1,h2,h3,h4,h5⟩:=GD he;have hl:z.cps.toList.length=z.length:=by simp[Str.length]
 rw[hl]at h1 h4 h5;have hn:=BR;exact tail_any (typeIs_str s z t) slot_str_getitem.lookup (getItem_str (c:=c) (by
  have e1:decide (i < -(2 ^ 63:Int))=false:=aR (by omega);have e2:decide (i >= 2 ^ 63)=false:=aR (by omega);rw[e1,e2,FE]) (by rw[h1];simpa using h2) ⟨.str ⟨#[c]⟩,H,I.tok _,⟨_,rfl⟩,q⟩) hs
theorem aa7(lo hi:Option Int)(n:Nat):(sliceBounds lo hi none n).1=((HT.fe n 0 lo:Nat):Int)/\(sliceBounds lo hi none n).2.1=((HT.fe n n hi:Nat):Int)/\(sliceBounds lo hi none n).2.2=1:=by
 refine⟨?_,?_,rfl⟩
 . cases lo with
   | none=>simp[sliceBounds,HT.fe]
   | some i=>
    simp only[sliceBounds,HT.fe,Option.getD_none,show(1:Int) > 0 by decide,wZ]
    by_cases h:i<0
    . simp only[h,wZ]<;>omega
    . simp only[h,ix]<;>omega
 . cases hi with
   | none=>simp[sliceBounds,HT.fe]
   | some i=>
    simp only[sliceBounds,HT.fe,Option.getD_none,show(1:Int) > 0 by decide,wZ]
    by_cases h:i<0
    . simp only[h,wZ]<;>omega
    . simp only[h,ix]<;>omega
theorem aa8(its:Lw)(lo hi:Option Int):slicePick its.toArray lo hi none=((its.drop (HT.fe its.length 0 lo)).take (HT.fe its.length its.length hi - HT.fe its.length 0 lo)).toArray:=by
 obtain⟨h1,h2,h3⟩:=aa7 lo hi its.toArray.size;unfold slicePick;rw[h1,h2,h3];simp only[sliceRange_one,pick_run,iz]<;>rfl
def aa9(K:Fg):V->Option Int->Option Int->Hp->VK->Prop:=fun x lo hi H Q=>∃a xs,x = .ref a/\af K H a xs/\∀p,H p=none->Q (.ref p) (aj H p (.lst (o6 xs lo hi)))
theorem aba:vc X (aa9 X.K):=by
 intro pins s σ H x v vl vu lo hi sl Q I rx hs pl pu h;obtain⟨a,xs,rfl,hx,q⟩:=h;cases rx;obtain⟨its,r,ht,hz⟩:=I.list hx;have hlen:=r.length;refine⟨"list",_,slot_list_getitem.lookup,ht.isList.typeIs,?_⟩;refine wpAny_getItem_list_slice ht.isList hs pl pu .none (by simp) ?_ (by rw[iz]<;>omega);rw[aa8,←hlen];refine⟨.ref s.heap.objs.size,_,I.laid (t':=s.toks) (o:=.lst (o6 xs lo hi)) (fun b ob q=>bq _ q) (aH _) ?_,rfl,q _ (I.hok.fresh (aH _))⟩;exact⟨bS (aa1 xs lo hi) hz,_,0,(r.drop (HT.fe xs.length 0 lo)).take (HT.fe xs.length xs.length hi - HT.fe xs.length 0 lo),da _ rfl⟩
def o7:V->Bool
 | .non=>true
 | .bl _=>true
 | .int _=>true
 | .str _=>true
 | _=>false
def np:V->V->Bool
 | .non,.non=>true
 | .bl a,.bl b=>a == b
 | .bl a,.int b=>(if a then 1 else 0) == b
 | .int a,.bl b=>a == (if b then 1 else 0)
 | .int a,.int b=>a == b
 | .str a,.str b=>a == b
 | _,_=>false
theorem abb{A:Around}{s:Shared}{y x:V}{u v:Value}(ry:RelV y u)(rx:RelV x v)(fy:o7 y=true)(fx:o7 x=true):SeqAt.EqAt A s u v (np y x):=by
 cases y with
 | non=>
  cases ry;cases x with
  | non=>cases rx;exact Mg _
  | bl b=>cases rx;exact SeqAt.EqAt.none_bool b
  | int b=>obtain⟨t,rfl⟩:=rx;exact SeqAt.EqAt.none_int b t
  | str b=>obtain⟨t,rfl⟩:=rx;exact SeqAt.EqAt.none_str b t
  | _=>exact absurd (show false=true from fx) bV
 | bl a=>
  cases ry;cases x with
  | non=>cases rx;exact SeqAt.EqAt.bool_none a
  | bl b=>cases rx;exact SeqAt.EqAt.bool_bool a b
  | int b=>obtain⟨t,rfl⟩:=rx;exact SeqAt.EqAt.bool_int a b t
  | str b=>obtain⟨t,rfl⟩:=rx;exact SeqAt.EqAt.bool_str a b t
  | _=>exact absurd (show false=true from fx) bV
 | int a=>
  obtain⟨t',rfl⟩:=ry;cases x with
  | non=>cases rx;exact SeqAt.EqAt.int_none a t'
  | bl b=>cases rx;exact SeqAt.EqAt.int_bool a t' b
  | int b=>obtain⟨t,rfl⟩:=rx;exact SeqAt.EqAt.int_int a t' b t
  | str b=>obtain⟨t,rfl⟩:=rx;exact SeqAt.EqAt.int_str a t' b t
  | _=>exact absurd (show false=true from fx) bV
 | str a=>
  obtain⟨t',rfl⟩:=ry;cases x with
  | non=>cases rx;exact SeqAt.EqAt.str_none a t'
  | bl b=>cases rx;exact SeqAt.EqAt.str_bool a t' b
  | int b=>obtain⟨t,rfl⟩:=rx;exact SeqAt.EqAt.str_int a t' b t
  | str b=>obtain⟨t,rfl⟩:=rx;exact SeqAt.EqAt.str_str a t' b t
  | _=>exact absurd (show false=true from fx) bV
 | _=>exact absurd (show false=true from fy) bV
def o8(x:V)(u:Value):Bool:=match u with
 | .none=>np .non x
 | .bool b=>np (.bl b) x
 | .int i _=>np (.int i) x
 | .str z _=>np (.str z) x
 | _=>false
theorem NG{x y:V}{u:Value}(r:RelV y u)(f:o7 y=true):o8 x u=np y x:=by
 cases y with
 | non=>cases r;rfl
 | bl b=>cases r;rfl
 | int i=>obtain⟨t,rfl⟩:=r;rfl
 | str z=>obtain⟨t,rfl⟩:=r;rfl
 | _=>exact absurd (show false=true from f) bV
theorem GG{x:V}:∀{xs:Lv} {us:Lw},a8 xs us->xs.all o7=true->us.any (o8 x)=xs.any fun y=>np y x
 | _,_,.nil,_=>rfl
 | y::xs,u::us,.cons r t,f=>by
  rw[FF,dn]at f;rw[qz,qz,NG r f.1,GG t f.2]
theorem GH{A:Around}{s:Shared}{x:V}{v:Value}(rx:RelV x v)(fx:o7 x=true):∀{xs:Lv} {us:Lw},a8 xs us->xs.all o7=true->∀u∈us,SeqAt.EqAt A s u v (o8 x u)
 | _,_,.nil,_=>fun u hu=>by cases hu
 | y::xs,u::us,.cons r t,f=>fun u' hu=>by
  rw[FF,dn]at f
  rcases bw.mp hu with rfl | hu
  . rw[NG r f.1];exact abb r rx f.1 fx
  . exact GH rx fx t f.2 u' hu
def nr(x:V)(xs:Lv):Bool:=xs.any fun y=>np y x
def NH(K:Fg)(neg:Bool):R2:=fun x y H Q=>∃p xs,y = .ref p/\(af K H p xs\/aw K H p xs)/\o7 x=true/\xs.all o7=true/\Q (.bl (if neg then !nr x xs else nr x xs)) H
theorem xK:bK X (compareOp .In) (NH X.K false):=by
 intro pins s σ H x y v u Q I rx ry h;obtain⟨p,xs,rfl,hq,fx,fs,q⟩:=h;cases ry
 rcases hq with hq | hq
 . obtain⟨its,r,pl,hz⟩:=I.list hq;refine SeqAt.in_listAt (o8 x) pl.isList (fun w hw=>GH rx fx r fs w (by simpa using hw)) ⟨.bl _,H,I,rfl,?_⟩;rw[show its.toArray.any (o8 x)=its.any (o8 x) by simp,GG r fs];exact q
 . obtain⟨its,r,pl,hz⟩:=I.tuple hq;refine SeqAt.in_tupleAt (o8 x) pl (fun w hw=>GH rx fx r fs w (by simpa using hw)) ⟨.bl _,H,I,rfl,?_⟩;rw[show its.toArray.any (o8 x)=its.any (o8 x) by simp,GG r fs];exact q
theorem gy:gt X (.builtin "len") (fun xs H Q=>∃p ys,xs = [.ref p]/\(af X.K H p ys\/aw X.K H p ys)/\Q (.int ys.length) H):=by
 intro pins s σ H xs us Q I r h;obtain⟨p,ys,rfl,hq,q⟩:=h;obtain⟨u,rfl,rx⟩:=vals1 r;cases rx;have hn:=BR
 rcases hq with hq | hq
 . obtain⟨its,r',pl,hz⟩:=I.list hq;have hlen:=r'.length;exact Calls.call_len_list pl.isList (by simp only[iz]<;>omega) ⟨.int ys.length,H,I.tok _,⟨s.toks+1,by rw[iz,hlen]⟩,q⟩
 . obtain⟨its,r',pl,hz⟩:=I.tuple hq;have hlen:=r'.length;exact len_tuple pl (by simp only[iz]<;>omega) ⟨.int ys.length,H,I.tok _,⟨s.toks+1,by rw[iz,hlen]⟩,q⟩
theorem xL:gt X (.type "list") (fun xs H Q=>∃p ys,xs = [.ref p]/\(af X.K H p ys\/aw X.K H p ys)/\∀l,H l=none->Q (.ref l) (aj H l (.lst ys))):=by
 intro pins s σ H xs us Q I r h;obtain⟨p,ys,rfl,hq,q⟩:=h;obtain⟨u,rfl,rx⟩:=vals1 r;cases rx;have fin:∀(its:Lw),a8 ys its->ys.length<=sizeLine->∀(h':Heap) (c':Nat),(∀b o',s.heap.get? b=some o'->h'.get? b=some o') ->
  h'.get? s.heap.objs.size=some { cls:=.type "list",dict:=none,data:=.seq its.toArray c',slots:=#[] }->EP X pins σ Q (.ref s.heap.objs.size) { s with heap:=h' }:=fun its r' hz h' c' kp e=>
  ⟨.ref s.heap.objs.size,_,I.laid (t':=s.toks) kp (aH _) (show bG X.prog X.w _ h' _ (.lst ys) from ⟨hz,its,c',r',e⟩),rfl,q _ (I.hok.fresh (aH _))⟩
 rcases hq with hq | hq
 . obtain⟨its,r',pl,hz⟩:=I.list hq;have hlen:=r'.length;obtain⟨o,ho,hc,n,hd⟩:=pl.isList;exact call_list_seq p (.inl rfl) ho hc hd (fun h' c' kp e=>fin its r' hz h' c' kp e) (by simp only[iz]<;>omega)
 . obtain⟨its,r',pl,hz⟩:=I.tuple hq;have hlen:=r'.length;obtain⟨o,ho,hc,n,hd⟩:=pl;exact call_list_seq p (.inr rfl) ho hc hd (fun h' c' kp e=>fin its r' hz h' c' kp e) (by simp only[iz]<;>omega)
def NJ(K:Fg)(T:String)(x:V)(H:Hp):Prop:=match x with
 | .str _=>T = "str"
 | .int _=>T = "int"
 | .ref p=>(T = "list"/\∃xs,af K H p xs)\/(T = "tuple"/\∃o,K.lookup p=some o/\o.cls = .type "tuple"/\o.dict=none) \/
  (T = "dict"/\((∃kvs,H p=some (.dK kvs))\/∃kvs,H p=some (.dT kvs)))\/(T = "set"/\∃S n,H p=some (.set S n))
 | _=>False
theorem NK{pins:Po}{σ:St}{H:Hp}{s:Shared}{T:String}{x:V}{v:Value}(I:Inv X pins σ H s)(r:RelV x v)(ty:NJ X.K T x H) :
 s.TypeIs v T/\∀a,v = .ref a->∃ob,s.heap.get? a=some ob/\ob.dict=none:=by
 cases x with
 | str z=>
  obtain⟨t,rfl⟩:=r;cases (show T = "str" from ty);exact⟨typeIs_str s z t,fun _ e=>nomatch e⟩
 | int i=>
  obtain⟨t,rfl⟩:=r;cases (show T = "int" from ty);exact⟨typeIs_int s i t,fun _ e=>nomatch e⟩
 | ref p=>
  cases r
  rcases ty with⟨rfl,xs,hq⟩ | ⟨rfl,o,hk,hc,hd⟩ | ⟨rfl,hk⟩ | ⟨rfl,S,n,hk⟩
  . obtain⟨its,_,pl,_⟩:=I.list hq;refine⟨pl.isList.typeIs,fun a e=>?_⟩;cases e;obtain⟨o,n,e,c,hd,_⟩:=pl;exact⟨o,e,hd⟩
  . refine⟨⟨o,I.kIn p o hk,hc⟩,fun a e=>?_⟩;cases e;exact⟨o,I.kIn _ o hk,hd⟩
  . have z:∃o,s.heap.get? p=some o/\o.ExactDict:=by
     rcases hk with⟨kvs,hk⟩ | ⟨kvs,hk⟩
     . obtain⟨_,_,_,_,o,_,_,e,ex,_⟩:=I.hok p _ hk;exact⟨o,e,ex⟩
     . obtain⟨_,_,_,_,o,_,_,e,ex,_⟩:=I.hok p _ hk;exact⟨o,e,ex⟩
    obtain⟨o,e,ex⟩:=z;refine⟨⟨o,e,ex.1⟩,fun a e2=>?_⟩;cases e2;exact⟨o,e,ex.2.1⟩
  . obtain⟨o,_,_,_,e,ex,_⟩:=I.hok p _ hk;refine⟨⟨o,e,ex.1⟩,fun a e2=>?_⟩;cases e2;exact⟨o,e,ex.2.1⟩
 | _=>exact False.elim ty
def tBM(K:Fg)(T:String)(r:V->Lv->Hp->VK->Prop)(to:TE)(t:TA):TE:=fun σ H Q=>to σ H fun x H1=>NJ K T x H1/\t σ H1 fun xs H2=>r x xs H2 Q
variable {o e:Expr} {es:List Expr} {to:TE} {t:TA} {name:Str} {apos dJ:Pos} {T id:String} {r:V->Lv->Hp->VK->Prop}
theorem nt(pa:PlainAttrs T)(slot:Slot T name id)(hty:typeOf (.builtin id)=pure (.type "method_descriptor"))(hm:MtR X id r)(ho:PE X o to)(ha:PA X (e::es) t)
 (xM:attributeBase o name X.env (eval o X.env)=eval o X.env:=by rfl)
 (abe:((backTo dJ (starEach (e::es) X.env)).all (fun x=>!x.1) && (backToKw dJ (keywordEach [] X.env)).all (fun x=>x.1.isSome)
  && decide ((e::es).length+([]:List Keyword).length+(if ([]:List Keyword).isEmpty then 0 else 1)<30))=true:=by rfl)
 (xN:(apos.endLine == dJ.line)=true:=by rfl) (hs:starEach (e::es) X.env=(false,eval e X.env)::starEach es X.env:=by rfl) (abf:(backTo dJ (starEach es X.env)).any (·.1)=false:=by rfl) :
 PE X (.Call (.Attribute o name apos) (e::es) [] dJ) (tBM X.K T r to t):=by
 intro pins s σ H Q I h;refine wpAny_Call_method_late xM abe xN rfl (thn (ho pins s σ H _ I h) fun v s1 abg=>abg.elim fun x abh=>abh.elim fun H1 abi=>abi.elim fun I1 abj=>abj.elim fun r1 abk=>abk.elim fun ty q1=>?_);obtain⟨h1,h2⟩:=NK I1 r1 ty;refine⟨T,id,pa,slot,hty,h1,h2,?_⟩;have hA:=ha dJ pins s1 σ H1 _ I1 q1;rw[hs]at hA ⊢;refine Mh (by show(false || (backTo dJ (starEach es X.env)).any (·.1))=false;rw[abf]<;>rfl) (UH ?_);exact thn hA fun us s2 abl=>abl.elim fun vs abm=>abm.elim fun H2 abn=>abn.elim fun I2 abo=>abo.elim fun r2 q2=>hm pins s2 σ H2 x vs v us Q I2 r1 r2 q2
end
def NL(X:Cx)(id:String)(r:V->Lv->Hp->VK->Prop):Prop:=
 ∀(pins:Po) (s:Shared) (σ:St) (H:Hp) (x:V) (xs:Lv) (v:Value) (us:Lw) (Q:VK),Inv X pins σ H s->RelV x v->a8 xs us->r x xs H Q ->
  wpAny (model X.prog X.w) X.A (call (.builtin id) (v::us)) (EP X pins σ Q) X.xe s
theorem a8.one:∀{x:V} {us:Lw},a8 [x] us->∃u,us = [u]/\RelV x u
 | _,_,.cons r .nil=>⟨_,rfl,r⟩
section
variable {X:Cx} {pins:Po} {σ:St} {H:Hp} {s:Shared} {l b:Addr} {xs ys zs:Lv}
theorem Inv.lset{its its':Lw}{n:Nat}{f:Av->Av}{t':Nat}(I:Inv X pins σ H s)(hH:H l=some (.lst xs))
 (e:s.heap.get? l=some { cls:=.type "list",data:=.seq its.toArray n }) (hf:f its.toArray=its'.toArray) (hv:a8 ys its') (hz:ys.length<=sizeLine) :
 Inv X pins σ (aj H l (.lst ys)) { s with heap:=s.heap.update l (Obj.mapSeq f),toks:=t' }:=by
 have q:=PySem.IsL.update e f;rw[hf]at q;refine I.write (x:=l) (e:=l) (by rw[hH];exact trivial) (.inl rfl) (fun b' u hb hu=>(FG s.heap (Obj.mapSeq f) (eM hb)).trans hu) ⟨_,q⟩ ?_;exact⟨hz,its',_,hv,q⟩
theorem Inv.lnew{its:Lw}{t':Nat}(I:Inv X pins σ H s)(hv:a8 ys its)(hz:ys.length<=sizeLine) :
 Inv X pins σ (aj H s.heap.objs.size (.lst ys)) { s with heap:=s.heap.push { cls:=.type "list",data:=.seq its.toArray },toks:=t' }:=
 I.laid (fun _ _ q=>bq _ q) (aH _) ⟨hz,its,0,hv,da _ rfl⟩
theorem Inv.fresh(I:Inv X pins σ H s):H s.heap.objs.size=none:=I.hok.fresh (aH _)
theorem Inv.lstM(I:Inv X pins σ H s)(hH:H l=some (.lst xs)):xs.length<=sizeLine/\∃(its:Lw) (n:Nat),a8 xs its/\xs.length=its.length/\s.heap.get? l=some { cls:=.type "list",data:=.seq its.toArray n }:=by
 obtain⟨z,its,n,r,e⟩:=I.hok l _ hH;exact⟨z,its,n,r,r.length,e⟩
theorem abp{n:Nat}(h:n<=sizeLine):Builtin.List.listTooLong n=false:=by
 unfold Builtin.List.listTooLong;exact aR (by omega)
end
section
variable {X:Cx}
def abq:V->Lv->Hp->VK->Prop:=fun x vs H Q=>∃l xs y,x = .ref l/\vs = [y]/\H l=some (.lst xs)/\xs.length<sizeLine/\Q .non (aj H l (.lst (xs++[y])))
theorem BW:NL X "list.append" abq:=by
 intro pins s σ H x vs v us Q I rx rv h;obtain⟨l,xs,y,rfl,rfl,hH,hz,q⟩:=h;cases rx;obtain⟨u,rfl,ru⟩:=rv.one;obtain⟨z,its,n,r,hl,e⟩:=I.lstM hH;refine call_meets F.slot_list_append ⟨_,e,rfl⟩ F.entry_list_append (F.args_list_append_2 _ _) (PySem.list_append l its.toArray n u (by rw[iz];omega)) ⟨e,?_⟩;refine⟨.non,_,I.lset (its':=its++[u]) hH e (by simp) (r.append (.cons ru .nil)) ?_,rfl,q⟩;rw[bc,mV];omega
def abr:V->Lv->Hp->VK->Prop:=fun x vs H Q=>∃l b xs zs,x = .ref l/\vs = [.ref b]/\H l=some (.lst xs)/\H b=some (.lst zs)/\xs.length+zs.length<=sizeLine/\Q .non (aj H l (.lst (xs++zs)))
theorem sH:NL X "list.extend" abr:=by
 intro pins s σ H x vs v us Q I rx rv h;obtain⟨l,b,xs,zs,rfl,rfl,hH,hB,hz,q⟩:=h;cases rx;obtain⟨u,rfl,ru⟩:=rv.one;cases ru;obtain⟨z,its,n,r,hl,e⟩:=I.lstM hH;obtain⟨z2,i4,n2,r2,qN,e2⟩:=I.lstM hB;have hsz:its.toArray.size+i4.toArray.size<=sizeLine:=by rw[iz,iz];omega
 have abt:¬(!its.toArray.isEmpty && Builtin.List.listTooLong (its.toArray.size+i4.toArray.size))=true:=by
  rw[abp hsz,kj];exact bV
 refine call_meets F.slot_list_extend ⟨_,e,rfl⟩ F.entry_list_extend (F.args_list_extend_2 _ _)
  (AutoSeq1.list_extend_list_list_0 l its.toArray n b i4.toArray n2 abt (by rw[iz];omega) (by omega)) ⟨e,e2,?_⟩
 refine⟨.non,_,I.lset (its':=its++i4) hH e (by simp) (r.append r2) ?_,rfl,q⟩;rw[bc];omega
def abu:R2:=fun x y H Q=>∃l b xs zs,x = .ref l/\y = .ref b/\H l=some (.lst xs)/\H b=some (.lst zs)/\xs.length+zs.length<=sizeLine/\∀p,H p=none->Q (.ref p) (aj H p (.lst (xs++zs)))
theorem abv:bK X (binaryOp .Add) abu:=by
 intro pins s σ H x y v u Q I rx ry h;obtain⟨l,b,xs,zs,rfl,rfl,hH,hB,hz,q⟩:=h;cases rx;cases ry;obtain⟨z,its,n,r,hl,e⟩:=I.lstM hH;obtain⟨z2,i4,n2,r2,qN,e2⟩:=I.lstM hB;refine PySem.P.add_list e e2 ?_ (by rw[iz,iz];omega);have ea:its.toArray++i4.toArray=(its++i4).toArray:=by simp
 rw[ea];exact⟨.ref _,_,I.lnew (t':=s.toks) (r.append r2) (by rw[bc];omega),rfl,q _ I.fresh⟩
end
section
variable {prog:Program} {w:World} {A:Around} {E:VP} {s:Shared}
set_option maxRecDepth 100000 in
end
section
variable {X:Cx}
end
section
variable {κ:Type} [DecidableEq κ]
def bP(kvs:List (κ×V))(k:κ):Option V:=(kvs.find? fun kv=>decide (kv.1=k)).map (·.2)
def eu(kvs:List (κ×V))(k:κ)(v:V):List (κ×V):=
 if (kvs.any fun kv=>decide (kv.1=k))=true then kvs.map (fun kv=>if kv.1=k then(kv.1,v) else kv) else kvs++[(k,v)]
theorem jx{p:κ×V}{r:List (κ×V)}{k:κ}(e:p.1=k):bP (p::r) k=some p.2:=by simp[bP,Bj,e]
theorem i6{p:κ×V}{r:List (κ×V)}{k:κ}(e:¬p.1=k):bP (p::r) k=bP r k:=by simp[bP,Bj,e]
theorem vf(k:κ):∀kvs:List (κ×V),(kvs.any fun kv=>decide (kv.1=k))=(bP kvs k).isSome
 | []=>rfl
 | p::r=>by
  rw[qz]
  by_cases e:p.1=k
  . simp only[jx e,aE e,Mi,Option.isSome_some]
  . rw[i6 e,aR e,FH];exact vf k r
theorem NM(k j:κ)(y:V):∀kvs:List (κ×V),bP (kvs.map fun kv=>if kv.1=k then(kv.1,y) else kv) j=(bP kvs j).map fun x=>if j=k then y else x
 | []=>rfl
 | p::r=>by
  have ih:=NM k j y r;rw[b9]
  by_cases h:p.1=k
  . rw[ap h]
    by_cases e:p.1=j
    . rw[jx (p:=(p.1,y)) e,jx e,lI,ap (e.symm.trans h)]
    . rw[i6 (p:=(p.1,y)) e,i6 e,ih]
  . rw[ah h]
    by_cases e:p.1=j
    . rw[jx (p:=p) e,jx e,lI,ah (fun z=>h (e.trans z))]
    . rw[i6 (p:=p) e,i6 e,ih]
theorem NN(k j:κ)(y:V):∀kvs:List (κ×V),bP kvs k=none->bP (kvs++[(k,y)]) j=if j=k then some y else bP kvs j
 | [],_=>by
  by_cases e:k=j
  . rw[ap e.symm];exact jx (p:=(k,y)) e
  . rw[ah (fun z=>e z.symm)];exact i6 (p:=(k,y)) e
 | p::r,hn=>by
  rw[qA];have hk:¬p.1=k:=fun z=>by rw[jx z]at hn;cases hn
  rw[i6 hk]at hn;have ih:=NN k j y r hn
  by_cases e:p.1=j
  . rw[jx e,jx e,ah (fun z=>hk (e.trans z))]
  . rw[i6 e,i6 e,ih]
theorem abw(kvs:List (κ×V))(k j:κ)(y:V):bP (eu kvs k y) j=if j=k then some y else bP kvs j:=by
 unfold eu
 by_cases a:(kvs.any fun kv=>decide (kv.1=k))=true
 . rw[ap a,NM];rw[vf]at a
   by_cases e:j=k
   . obtain⟨x,hx⟩:=Bh.mp a;rw[ap e,e,hx,lI,ap rfl]
   . rw[ah e];cases bP kvs j with
     | none=>rfl
     | some x=>rw[lI,ah e]
 . rw[ah a];refine NN k j y kvs ?_;rw[vf]at a;cases q:bP kvs k with
   | none=>rfl
   | some x=>rw[q]at a;exact(a rfl).elim
theorem GI(kvs:List (κ×V))(k:κ)(v:V):(eu kvs k v).length<=kvs.length+1:=by
 unfold eu;split
 . rw[au];omega
 . rw[bc,bF,jo];omega
theorem BX{kvs:List (κ×V)}{k:κ}(v:V)(h:bP kvs k=none):eu kvs k v=kvs++[(k,v)]:=by
 unfold eu;rw[vf,h];exact ah (by decide)
theorem ia.isSome_eq{o:Option V}{u:Option Value}(r:ia o u):o.isSome=u.isSome:=by
 cases o with
 | none=>cases u with
  | none=>rfl
  | some _=>exact(show False from r).elim
 | some _=>cases u with
  | none=>exact(show False from r).elim
  | some _=>rfl
theorem ia.getD{o:Option V}{u:Option Value}{d:V}{d':Value}(r:ia o u)(rd:RelV d d'):RelV (o.getD d) (u.getD d'):=by
 cases o with
 | none=>cases u with
  | none=>exact rd
  | some _=>exact(show False from r).elim
 | some _=>cases u with
  | none=>exact(show False from r).elim
  | some _=>exact r
theorem KV.val{kvs:List (κ×V)}{vs:List (κ×Value)}(r:KV kvs vs)(k:κ):ia (bP kvs k) (valueAt vs k):=by
 unfold KV at r
 induction r with
 | nil=>exact True.intro
 | @cons p q ps qs h t ih=>
  obtain⟨h1,h2⟩:=h
  by_cases e:p.1=k
  . have e':q.1=k:=h1.symm.trans e;have b:valueAt (q::qs) k=some q.2:=by simp[valueAt,Bj,e']
    rw[jx e,b];exact h2
  . have e':¬q.1=k:=fun z=>e (h1.trans z);have b:valueAt (q::qs) k=valueAt qs k:=by simp[valueAt,Bj,e']
    rw[i6 e,b];exact ih
theorem KV.any{kvs:List (κ×V)}{vs:List (κ×Value)}(r:KV kvs vs)(k:κ):(kvs.any fun kv=>decide (kv.1=k))=vs.any fun kv=>decide (kv.1=k):=by
 unfold KV at r
 induction r with
 | nil=>rfl
 | cons h t ih=>rw[qz,qz,ih,h.1]
theorem KV.repl{kvs:List (κ×V)}{vs:List (κ×Value)}(r:KV kvs vs)(k:κ){y:V}{u:Value}(ry:RelV y u) :
 KV (kvs.map fun kv=>if kv.1=k then(kv.1,y) else kv) (vs.map fun kv=>if kv.1=k then(kv.1,u) else kv):=by
 unfold KV at r ⊢
 induction r with
 | nil=>exact .nil
 | @cons p q ps qs h t ih=>
  rw[b9,b9];refine .cons ?_ ih;obtain⟨h1,h2⟩:=h
  by_cases e:p.1=k
  . rw[ap e,ap (h1.symm.trans e)];exact⟨h1,ry⟩
  . rw[ah e,ah (fun z=>e (h1.trans z))];exact⟨h1,h2⟩
theorem KV.put{kvs:List (κ×V)}{vs:List (κ×Value)}(r:KV kvs vs)(k:κ){y:V}{u:Value}(ry:RelV y u):KV (eu kvs k y) (stored vs k u):=by
 unfold eu stored;rw[r.any k]
 by_cases e:(vs.any fun kv=>decide (kv.1=k))=true
 . rw[ap e,ap e];exact r.repl k ry
 . rw[ah e,ah e];exact Paired.snoc r ⟨rfl,ry⟩
theorem KV.length{kvs:List (κ×V)}{vs:List (κ×Value)}(r:KV kvs vs):kvs.length=vs.length:=Fp r
end
theorem qO{P:Program}{w:World}{k:aN}{u:Value}(r:RelV (kV k) u):(cm P w).is k u=true:=by
 cases k with
 | inl i=>obtain⟨t,e⟩:=(show∃t,u=Value.int i t from r);subst e;exact Vy P w i t
 | inr x=>obtain⟨t,e⟩:=(show∃t,u=Value.str x t from r);subst e;exact sg P w x t
theorem NO{P:Program}{w:World}:∀{ks:List aN} {us:Lw},a8 (ks.map kV) us->ItemsAre (cm P w) ks us
 | [],_,r=>by rw[FD]at r;cases r;exact .nil
 | k::ks,_,r=>by
  rw[b9]at r;cases r with
  | cons h t=>exact .cons (qO h) (NO t)
abbrev KT (H:Hp):List (List NI×V)->List (List NI×Addr×Value)->Prop:=Paired fun p q=>p.1=q.1/\ib H p.1 q.2.1/\RelV p.2 q.2.2
theorem KT.val{H:Hp}{kvs:List (List NI×V)}{xs:List (List NI×Addr×Value)}(r:KT H kvs xs)(k:List NI):ia (bP kvs k) ((atKey xs k).map (·.2)):=by
 induction r with
 | nil=>exact True.intro
 | @cons p q ps qs h t ih=>
  obtain⟨h1,_,h2⟩:=h
  by_cases e:p.1=k
  . have e':q.1=k:=h1.symm.trans e;have b:atKey (q::qs) k=some q.2:=by simp[atKey,Bj,e']
    rw[jx e,b];exact h2
  . have e':¬q.1=k:=fun z=>e (h1.trans z);have b:atKey (q::qs) k=atKey qs k:=by simp[atKey,Bj,e']
    rw[i6 e,b];exact ih
theorem KT.repl{H:Hp}{kvs:List (List NI×V)}{xs:List (List NI×Addr×Value)}(r:KT H kvs xs)(k:List NI){y:V}{u:Value}(ry:RelV y u) :
 KT H (kvs.map fun kv=>if kv.1=k then(kv.1,y) else kv) (xs.map (putAt k u)):=by
 induction r with
 | nil=>exact .nil
 | @cons p q ps qs h t ih=>
  rw[b9,b9];refine .cons ?_ ih;obtain⟨h1,h2,h3⟩:=h;unfold putAt
  by_cases e:p.1=k
  . rw[ap e,ap (h1.symm.trans e)];exact⟨h1,h2,ry⟩
  . rw[ah e,ah (fun z=>e (h1.trans z))];exact⟨h1,h2,h3⟩
theorem KT.put{H:Hp}{kvs:List (List NI×V)}{xs:List (List NI×Addr×Value)}(r:KT H kvs xs)(k:List NI){b:Addr}{y:V}{u:Value}(hb:ib H k b)(ry:RelV y u) :
 KT H (eu kvs k y) (storedH xs k b u):=by
 have e:(kvs.any fun kv=>decide (kv.1=k))=(atKey xs k).isSome:=by
  rw[vf,(r.val k).isSome_eq,UI]
 unfold eu storedH;rw[e]
 by_cases q:(atKey xs k).isSome=true
 . rw[ap q,ap q];exact r.repl k ry
 . rw[ah q,ah q];exact Paired.snoc r ⟨rfl,hb,ry⟩
theorem KT.keeps{H H':Hp}{kvs:List (List NI×V)}{xs:List (List NI×Addr×Value)}(r:KT H kvs xs)(ht:∀b ys,H b=some (.tup ys)->H' b=some (.tup ys)):KT H' kvs xs:=
 Paired.mapP r fun _ _ z=>⟨z.1,z.2.1.keeps ht,z.2.2⟩
section
variable {P:Program} {w:World} {H:Hp} {h:Heap} {a:Addr}
theorem NP{u:HO}(ok:ce P w H h)(e:Rd H a u):bG P w H h a u:=e.ok ok
theorem o9{kvs:List (aN×V)}(ok:ce P w H h)(e:Rd H a (.dK kvs)):kvs.length<=sizeLine/\(a == sysModules)=false/\∃vs,KV kvs vs/\h.DictOf (cm P w) a vs:=
 show bG P w H h a (.dK kvs) from NP ok e
theorem qQ{kvs:List (aN×V)}(ok:ce P w H h)(e:H a=some (.dK kvs)):kvs.length<=sizeLine/\(a == sysModules)=false/\∃vs,KV kvs vs/\h.DictOf (cm P w) a vs:=o9 ok (.inl e)
theorem abx{ks:List NI}{vs:Lv}{us:Lw}(ok:ce P w H h)(x:M4 H ks vs)(r:a8 vs us):jt P w h ks us:=by
 induction x generalizing us with
 | nil=>cases r;exact .nil
 | @cons i v ks vs p _ ih=>
  cases r with
  | cons rv rr=>
   refine .cons ?_ (ih rr);cases i with
   | inl k=>
    have p:v=kV k:=p;subst p;exact qO (P:=P) (w:=w) rv
   | inr l=>
    obtain⟨b,rfl,e⟩:=p;cases rv;obtain⟨_,its,r2,o,h1,h2,n,h3⟩:=(show bG P w H h b (.tup (l.map kV)) from ok b _ e);exact⟨b,rfl,o,its.toArray,n,h1,h2,h3,by simpa using NO r2⟩
theorem sI{ks:List NI}(ok:ce P w H h)(e:ib H ks a):(oX P w).is h ks a:=by
 obtain⟨vs,e,x⟩:=e;obtain⟨_,its,r,o,h1,h2,n,h3⟩:=(show bG P w H h a (.tup vs) from ok a _ e);exact⟨o,its.toArray,n,h1,h2,h3,by simpa using abx ok x r⟩
theorem qR{kvs:List (List NI×V)}(ok:ce P w H h)(e:Rd H a (.dT kvs)):kvs.length<=sizeLine/\(a == sysModules)=false /\
 ∃xs,KT H kvs xs/\h.DictOfH (oX P w) a xs:=by
 obtain⟨z,y,xs,r,o,es,ep,h1,h2,h3,h4,h5⟩:=(show bG P w H h a (.dT kvs) from NP ok e);refine⟨z,y,xs,r,o,es,ep,h1,h2,h3,h4,fun x hx=>?_,h5⟩;have all:∀{l:List (List NI×V)} {m:List (List NI×Addr×Value)},KT H l m->∀x∈m,(oX P w).is h x.1 x.2.1:=by
  intro l m q
  induction q with
  | nil=>intro x hx;exact nomatch hx
  | @cons p q ps qs hq t ih=>
   intro x hx
   rcases bw.mp hx with e | hx
   . subst e;exact sI ok (by rw[←hq.1];exact hq.2.1)
   . exact ih x hx
 exact all r x hx
theorem aby{kvs:List (List NI×V)}(ok:ce P w H h)(e:H a=some (.dT kvs)):kvs.length<=sizeLine/\(a == sysModules)=false /\
 ∃xs,KT H kvs xs/\h.DictOfH (oX P w) a xs:=qR ok (.inl e)
end
def cw(H:Hp)(a:Addr)(y:V)(r:Option V):Prop:=
 (∃kvs k,Rd H a (.dK kvs)/\y=kV k/\r=bP kvs k)\/∃kvs k b,Rd H a (.dT kvs)/\y = .ref b/\ib H k b/\r=bP kvs k
def kY(H:Hp)(a:Addr)(y v:V)(H':Hp):Prop:=
 (∃kvs k,H a=some (.dK kvs)/\y=kV k/\kvs.length<sizeLine/\H'=aj H a (.dK (eu kvs k v))) \/
 ∃kvs k b,H a=some (.dT kvs)/\y = .ref b/\ib H k b/\kvs.length<sizeLine/\H'=aj H a (.dT (eu kvs k v))
theorem cw.k{H:Hp}{a:Addr}{kvs:List (aN×V)}{k:aN}(e:H a=some (.dK kvs)):cw H a (kV k) (bP kvs k):=.inl ⟨kvs,k,.inl e,rfl,rfl⟩
theorem cw.t{H:Hp}{a b:Addr}{kvs:List (List NI×V)}{k:List NI}(e:H a=some (.dT kvs))(eb:ib H k b):cw H a (.ref b) (bP kvs k):=.inr ⟨kvs,k,b,.inl e,rfl,eb,rfl⟩
theorem kY.k{H:Hp}{a:Addr}{kvs:List (aN×V)}{k:aN}{v:V}(e:H a=some (.dK kvs))(hl:kvs.length<sizeLine):kY H a (kV k) v (aj H a (.dK (eu kvs k v))):=.inl ⟨kvs,k,e,rfl,hl,rfl⟩
theorem kY.t{H:Hp}{a b:Addr}{kvs:List (List NI×V)}{k:List NI}{v:V}(e:H a=some (.dT kvs))(eb:ib H k b)(hl:kvs.length<sizeLine) :
 kY H a (.ref b) v (aj H a (.dT (eu kvs k v))):=.inr ⟨kvs,k,b,e,rfl,eb,hl,rfl⟩
section
variable {X:Cx} {pins:Po} {σ:St} {H:Hp} {s:Shared} {a:Addr} {y v:V} {u r:Value} {o:Option V} {A:Around} {E:VP}
theorem Inv.big(I:Inv X pins σ H s):sysModules<s.heap.objs.size:=by
 have h:mainGlobals<s.heap.objs.size:=(I.mod.glob.keeps I.bk).lt;exact xc (by decide) h
theorem abz{Q:VP}(hu:A.units+64<cLine)(I:Inv X pins σ H s)(g:cw H a y (some v))(ry:RelV y u)(h:∀w' s',Inv X pins σ H s'->RelV v w'->Q w' s') :
 wpAny (model X.prog X.w) A (getItem (.ref a) u) Q E s:=by
 rcases g with⟨kvs,k,e,ey,l⟩ | ⟨kvs,k,b,e,ey,eb,l⟩
 . subst ey;obtain⟨z,hd,vs,rel,dd⟩:=o9 I.hok e;obtain⟨w',hw,i5⟩:=ia.some_of (v:=v) (o:=valueAt vs k) (by rw[l];exact rel.val k);exact wpAny_getItem_of (qO ry) dd.mapOf hw (h w' _ (I.tok _) i5)
 . subst ey;cases (show u=Value.ref b from ry);obtain⟨z,hd,xs,rel,dd⟩:=qR I.hok e;obtain⟨w',hw,i5⟩:=ia.some_of (v:=v) (o:=(atKey xs k).map (·.2)) (by rw[l];exact rel.val k);obtain⟨p,hp,pd⟩:=Option.map_eq_some_iff.mp hw;refine wpAny_getItem_heap (uQ hu) (sI I.hok eb) dd hp ?_;rw[pd];exact h w' _ (I.tok _) i5
theorem abA{Q:VP}(hu:A.units+64<cLine)(I:Inv X pins σ H s)(g:cw H a y o)(ry:RelV y u)(h:∀s',Inv X pins σ H s'->Q (.bool o.isSome) s') :
 wpAny (model X.prog X.w) A (compareOp .In u (.ref a)) Q E s:=by
 rcases g with⟨kvs,k,e,ey,l⟩ | ⟨kvs,k,b,e,ey,eb,l⟩
 . subst ey;obtain⟨z,hd,vs,rel,dd⟩:=o9 I.hok e;refine wpAny_in_of (qO ry) hd dd.mapOf ?_;rw[←(rel.val k).isSome_eq,←l];exact h _ (I.tok _)
 . subst ey;cases (show u=Value.ref b from ry);obtain⟨z,hd,xs,rel,dd⟩:=qR I.hok e;refine wpAny_in_heap (uQ hu) (sI I.hok eb) hd dd ?_;have q:=(rel.val k).isSome_eq;rw[UI]at q;rw[←q,←l];exact h _ (I.tok _)
theorem abB{Q:VP}(hu:A.units+64<cLine)(I:Inv X pins σ H s)(g:cw H a y o)(ry:RelV y u)(h:∀s',Inv X pins σ H s'->Q (.bool (!o.isSome)) s') :
 wpAny (model X.prog X.w) A (compareOp .NotIn u (.ref a)) Q E s:=by
 rcases g with⟨kvs,k,e,ey,l⟩ | ⟨kvs,k,b,e,ey,eb,l⟩
 . subst ey;obtain⟨z,hd,vs,rel,dd⟩:=o9 I.hok e;refine wpAny_notIn_of (qO ry) hd dd.mapOf ?_;rw[←(rel.val k).isSome_eq,←l];exact h _ (I.tok _)
 . subst ey;cases (show u=Value.ref b from ry);obtain⟨z,hd,xs,rel,dd⟩:=qR I.hok e;refine wpAny_notIn_heap (uQ hu) (sI I.hok eb) hd dd ?_;have q:=(rel.val k).isSome_eq;rw[UI]at q;rw[←q,←l];exact h _ (I.tok _)
theorem NQ{h':Heap}{t':Nat}{ob:HO}(I:Inv X pins σ H s)(mu:xt (H a))(hs:Heap.SameBut a s.heap h')(he:∃q,h'.get? a=some q)(new:bG X.prog X.w (aj H a ob) h' a ob) :
 Inv X pins σ (aj H a ob) { s with heap:=h',toks:=t' }:=
 I.write (x:=a) (e:=a) mu (.inl rfl) (fun b q hb z=>(hs.2 b hb).trans z) he new
theorem NR{P:Program}{w:World}{H':Hp}{h':Heap}{kvs:List (aN×V)}{vs:List (aN×Value)}(z:kvs.length<=sizeLine)(hd:(a == sysModules)=false)(rel:KV kvs vs)(dd:h'.DictOf (cm P w) a vs) :
 bG P w H' h' a (.dK kvs):=⟨z,hd,vs,rel,dd⟩
theorem abC{H':Hp}{Q:Unit->Shared->Prop}(hu:A.units+64<cLine)(I:Inv X pins σ H s)(g:kY H a y v H')(ry:RelV y u)(rv:RelV v r)(h:∀s',Inv X pins σ H' s'->Q () s') :
 wpAny (model X.prog X.w) A (setItem (.ref a) u r) Q E s:=by
 rcases g with⟨kvs,k,e,ey,l,eH⟩ | ⟨kvs,k,b,e,ey,eb,l,eH⟩
 . subst ey eH;obtain⟨z,hd,vs,rel,dd⟩:=qQ I.hok e;have hz:vs.length<=sizeLine:=by rw[←rel.length];exact z
   have hl:(eu kvs k v).length<=sizeLine:=by have:=GI kvs k v;omega
   refine wpAny_setItem_pairs (hsz:=hz) (qO ry) dd fun h' nu hs=>h _ ?_;have he:∃q,h'.get? a=some q:=nu.elim fun q abD=>abD.elim fun _ abE=>abE.elim fun _ abF=>abF.elim fun hq _=>⟨q,hq⟩;exact NQ I (by rw[e];exact True.intro) hs he (NR hl hd (rel.put k rv) nu)
 . subst ey eH;cases (show u=Value.ref b from ry);obtain⟨z,hd,xs,rel,dd⟩:=aby I.hok e;have hz:xs.length<=sizeLine:=by rw[←Fp rel];exact z
   have hl:(eu kvs k v).length<=sizeLine:=by have:=GI kvs k v;omega
   refine wpAny_setItem_heap (hsz:=hz) (uQ hu) (sI I.hok eb) dd fun h' nu hs=>h _ ?_;obtain⟨q,es,ep,hq,h2,h3,h4,_,h5⟩:=nu;refine NQ I (by rw[e];exact True.intro) hs ⟨q,hq⟩ ⟨hl,hd,_,(rel.put k eb rv).keeps fun c ys ec=>?_,q,es,ep,hq,h2,h3,h4,h5⟩;rw[aL (eP ec e (fun z=>nomatch z))];exact ec
end
section
variable {X:Cx} {pins:Po} {σ:St} {H:Hp} {s:Shared} {a:Addr} {kvs:List (aN×V)} {k:aN} {u:Value} {A:Around} {E:VP}
end
def NS(i:Expr):Prop:=∀ov iv,subscripted i false ov iv=operate [ov,iv] (getItem ov iv)
theorem abG{prog:Program}{w:World}{A:Around}{E:VP}{s:Shared}{env:Env}{value slice:Expr}{pos:Pos}{T id:String}{Q:VP}
 (hl:typeLookup (.type T) "__getitem__" = pure (some (.builtin id))) (hs:NS slice)
 (h:wpAny (model prog w) A (eval value env) (fun o s₁=>wpAny (model prog w) A (eval slice env) (fun i s₂=>s₂.TypeIs o T/\wpAny (model prog w) A (getItem o i) Q E s₂) E s₁) E s) :
 wpAny (model prog w) A (eval (.Subscript value slice pos) env) Q E s:=by
 refine Subscript_ (dN h (fun o s₁ h₁=>dN h₁ (fun i s₂ h₂=>?_) fun _ _ x=>x) fun _ _ x=>x);obtain⟨hT,h₂⟩:=h₂;unfold subscriptTail;refine ac ?_;rw[getitemInPython_of_ne hT.not_modules];refine ac (Bg hT hl ?_);have fin:wpAny (model prog w) A (subscripted slice false o i) (fun r s₃=>wpAny (model prog w) A (letTemporaryGo value o r >>= fun _=>pure r) Q E s₃) E s₂:=by
  rw[hs o i];exact wpAny_operating (dN h₂ (fun r s₃ h₃=>ac (wpAny_letTemporaryGo (aq h₃))) fun _ _ x=>x)
 first
  | exact aq (ac fin)
  | exact ac (aq (ac fin))
  | exact ac fin
theorem abH{X:Cx}{pins:Po}{σ:St}{H:Hp}{s:Shared}{a:Addr}{y:V}{o:Option V}(I:Inv X pins σ H s)(g:cw H a y o):s.TypeIs (.ref a) "dict":=by
 rcases g with⟨kvs,k,e,_,_⟩ | ⟨kvs,k,b,e,_,_,_⟩
 . obtain⟨_,_,vs,_,dd⟩:=o9 I.hok e;exact dd.typeIs
 . obtain⟨_,_,xs,_,dd⟩:=qR I.hok e;exact dd.typeIs
def abI(td ty:TE):TE:=fun σ H Q=>td σ H fun x H1=>ty σ H1 fun y H2=>∃a v,x = .ref a/\cw H2 a y (some v)/\Q v H2
def abJ(ty td:TE):TE:=fun σ H Q=>ty σ H fun y H1=>td σ H1 fun x H2=>∃a o,x = .ref a/\cw H2 a y o/\Q (.bl o.isSome) H2
def abK(ty td:TE):TE:=fun σ H Q=>ty σ H fun y H1=>td σ H1 fun x H2=>∃a o,x = .ref a/\cw H2 a y o/\Q (.bl (!o.isSome)) H2
def abL(td ty tv:TE):TS:=fun D σ H=>tv σ H fun v H1=>td σ H1 fun x H2=>ty σ H2 fun y H3=>∃a H4,x = .ref a/\kY H3 a y v H4/\D.nx σ H4
section
variable {X:Cx} {o i e value:Expr} {pos pos' uY:Pos} {td ty tv:TE}
theorem BY(hu:X.A.units+64<cLine)(ho:PE X o td)(hi:PE X i ty)(hs:NS i):PE X (.Subscript o i pos) (abI td ty):=by
 intro pins s σ H Q I h;refine abG PySem.F.slot_dict_getitem.lookup hs (thn (ho pins s σ H _ I h) fun u s1 abM=>abM.elim fun x abN=>abN.elim fun H1 abO=>abO.elim fun I1 abP=>abP.elim fun rx q1=>thn (hi pins s1 σ H1 _ I1 q1) fun iv s2 abQ=>abQ.elim fun y abR=>abR.elim fun H2 abS=>abS.elim fun I2 abT=>abT.elim fun ry abU=>abU.elim fun a abV=>abV.elim fun v abW=>abW.elim fun ex abX=>abX.elim fun g q2=>?_);subst ex;obtain rfl:u=Value.ref a:=rx;exact⟨abH I2 g,abz hu I2 g ry fun w' s3 I3 i5=>⟨v,H2,I3,i5,q2⟩⟩
theorem NT(hu:X.A.units+64<cLine)(hi:PE X i ty)(ho:PE X o td):PC X .In i o (abJ ty td):=by
 intro pins s σ H Q I h;refine thn (hi pins s σ H _ I h) fun iv s1 abY=>abY.elim fun y abZ=>abZ.elim fun H1 ab0=>ab0.elim fun I1 ab1=>ab1.elim fun ry q1=>thn (ho pins s1 σ H1 _ I1 q1) fun u s2 ab2=>ab2.elim fun x ab3=>ab3.elim fun H2 ab4=>ab4.elim fun I2 ab5=>ab5.elim fun rx ab6=>ab6.elim fun a ab7=>ab7.elim fun ov ab8=>ab8.elim fun ex ab9=>ab9.elim fun g q2=>?_;subst ex;obtain rfl:u=Value.ref a:=rx;exact abA hu I2 g ry fun s3 I3=>⟨.bl ov.isSome,H2,I3,rfl,q2⟩
theorem NU(hu:X.A.units+64<cLine)(hi:PE X i ty)(ho:PE X o td):PC X .NotIn i o (abK ty td):=by
 intro pins s σ H Q I h;refine thn (hi pins s σ H _ I h) fun iv s1 aca=>aca.elim fun y acb=>acb.elim fun H1 acd=>acd.elim fun I1 ace=>ace.elim fun ry q1=>thn (ho pins s1 σ H1 _ I1 q1) fun u s2 acf=>acf.elim fun x acg=>acg.elim fun H2 ach=>ach.elim fun I2 aci=>aci.elim fun rx acj=>acj.elim fun a ack=>ack.elim fun ov acl=>acl.elim fun ex acm=>acm.elim fun g q2=>?_;subst ex;obtain rfl:u=Value.ref a:=rx;exact abB hu I2 g ry fun s3 I3=>⟨.bl (!ov.isSome),H2,I3,rfl,q2⟩
theorem vg(hu:X.A.units+64<cLine)(ho:PE X o td)(hi:PE X i ty)(hv:PE X value tv)(hs:swapsWith value (some (.Subscript o i pos')) pos.line X.env=pure false) :
 PS X (.Assign [.Subscript o i pos'] value pos) (abL td ty tv):=by
 intro pins s σ H D I h;refine wpAny_Assign_Subscript (thn (hv pins s σ H _ I h) fun r s1 acn=>acn.elim fun v aco=>aco.elim fun H1 acp=>acp.elim fun I1 acq=>acq.elim fun rv q1=>thn (ho pins s1 σ H1 _ I1 q1) fun u s2 acr=>acr.elim fun x acs=>acs.elim fun H2 act=>act.elim fun I2 acu=>acu.elim fun rx q2=>thn (hi pins s2 σ H2 _ I2 q2) fun iv s3 acv=>acv.elim fun y acw=>acw.elim fun H3 acx=>acx.elim fun I3 acy=>acy.elim fun ry acz=>acz.elim fun a acA=>acA.elim fun H4 acB=>acB.elim fun ex acC=>acC.elim fun g q3=>?_) hs;subst ex;obtain rfl:u=Value.ref a:=rx;exact abC hu I3 g ry rv fun s4 I4=>⟨σ,H4,I4,q3⟩
end
theorem acD{P:Program}{w:World}{H:Hp}(h:Heap)(hb:sysModules<h.objs.size):bG P w H (h.push { cls:=.type "dict",data:=.dict #[] }) h.objs.size (.dK []):=
 ⟨dO _,iw.mpr (eM (bE hb)),[],.nil,Heap.DictOf.new h⟩
theorem acE{P:Program}{w:World}{H:Hp}(h:Heap)(hb:sysModules<h.objs.size):bG P w H (h.push { cls:=.type "dict",data:=.dict #[] }) h.objs.size (.dT []):=
 ⟨dO _,iw.mpr (eM (bE hb)),[],.nil,_,#[],0,da _ rfl,⟨rfl,rfl,rfl⟩,rfl,rfl,uI⟩
def acF:TE:=fun _ H Q=>∀p,H p=none->Q (.ref p) (aj H p (.dK []))
def acG:TE:=fun _ H Q=>∀p,H p=none->Q (.ref p) (aj H p (.dT []))
section
variable {X:Cx} {pos:Pos}
theorem acH:PE X (.Dict [] [] pos) acF:=fun pins s σ H Q I h=>
 wpAny_Dict_empty ⟨.ref s.heap.objs.size,_,I.laid (a:=s.heap.objs.size) (o:=.dK []) (t':=s.toks) (fun _ _ q=>bq _ q) (aH _) (acD s.heap I.big),rfl,h _ (I.hok.fresh (aH _))⟩
theorem acI:PE X (.Dict [] [] pos) acG:=fun pins s σ H Q I h=>
 wpAny_Dict_empty ⟨.ref s.heap.objs.size,_,I.laid (a:=s.heap.objs.size) (o:=.dT []) (t':=s.toks) (fun _ _ q=>bq _ q) (aH _) (acE s.heap I.big),rfl,h _ (I.hok.fresh (aH _))⟩
end
structure M1(X:Cx)(o:Expr)(m:Str)(apos:Pos)(e:Expr)(dJ:Pos):Prop where
 base:attributeBase o m X.env (eval o X.env)=eval o X.env
 few:((backTo dJ (starEach [e] X.env)).all (fun x=>!x.1) && (backToKw dJ (keywordEach [] X.env)).all (fun x=>x.1.isSome)
  && decide (([e]:List Expr).length+([]:List Keyword).length+(if ([]:List Keyword).isEmpty then 0 else 1)<30))=true
 line:(apos.endLine == dJ.line)=true
 trees:backTo dJ (starEach [e] X.env) = [(false,eval e X.env)]
structure M2(X:Cx)(o:Expr)(m:Str)(apos:Pos)(e f:Expr)(dJ:Pos):Prop where
 base:attributeBase o m X.env (eval o X.env)=eval o X.env
 few:((backTo dJ (starEach [e,f] X.env)).all (fun x=>!x.1) && (backToKw dJ (keywordEach [] X.env)).all (fun x=>x.1.isSome)
  && decide (([e,f]:List Expr).length+([]:List Keyword).length+(if ([]:List Keyword).isEmpty then 0 else 1)<30))=true
 line:(apos.endLine == dJ.line)=true
 trees:backTo dJ (starEach [e,f] X.env) = [(false,eval e X.env),(false,eval f X.env)]
def GJ(H:Hp)(a:Addr):Prop:=(∃kvs,Rd H a (.dK kvs))\/∃kvs,Rd H a (.dT kvs)
theorem NW{X:Cx}{pins:Po}{σ:St}{H:Hp}{s:Shared}{a:Addr}(I:Inv X pins σ H s)(d:GJ H a) :
 s.TypeIs (.ref a) "dict"/\(∀b,Value.ref a = .ref b->∃ob,s.heap.get? b=some ob/\ob.dict=none)/\(a == sysModules)=false:=by
 rcases d with⟨kvs,e⟩ | ⟨kvs,e⟩
 . obtain⟨_,hd,vs,_,dd⟩:=o9 I.hok e;refine⟨dd.typeIs,fun b q=>?_,hd⟩;cases q;obtain⟨ob,_,_,h1,h2,_⟩:=dd;exact⟨ob,h1,h2.2.1⟩
 . obtain⟨_,hd,xs,_,dd⟩:=qR I.hok e;refine⟨dd.typeIs,fun b q=>?_,hd⟩;cases q;obtain⟨ob,_,_,h1,h2,_⟩:=dd;exact⟨ob,h1,h2.2.1⟩
section
variable {X:Cx} {pins:Po} {σ:St} {H:Hp} {s:Shared} {a:Addr} {y d:V} {u r:Value} {o:Option V} {A:Around} {E:VP}
theorem acJ{Q:VP}(hu:A.units+64<cLine)(I:Inv X pins σ H s)(g:cw H a y o)(ry:RelV y u)(h:∀w' s',Inv X pins σ H s'->RelV (o.getD .non) w'->Q w' s') :
 wpAny (model X.prog X.w) A (call (.builtin "dict.get") [.ref a,u]) Q E s:=by
 rcases g with⟨kvs,k,e,ey,l⟩ | ⟨kvs,k,b,e,ey,eb,l⟩
 . subst ey;obtain⟨z,hd,vs,rel,dd⟩:=o9 I.hok e;refine xf Bk dd.typeIs Mj (ar2 _ _) (meets_dict_get (cm X.prog X.w) a (qO ry) hd) ⟨_,dd.mapOf,h _ _ (I.tok _) ?_⟩;rw[l];exact(rel.val k).getD rfl
 . subst ey;cases (show u=Value.ref b from ry);obtain⟨z,hd,xs,rel,dd⟩:=qR I.hok e;refine xf Bk dd.typeIs Mj (ar2 _ _) (meetsH_dict_get (oX X.prog X.w) a b hd) ⟨uQ hu,k,xs,sI I.hok eb,dd,h _ _ (I.tok _) ?_⟩;rw[l];exact(rel.val k).getD rfl
theorem acK{Q:VP}(hu:A.units+64<cLine)(I:Inv X pins σ H s)(g:cw H a y o)(ry:RelV y u)(rd:RelV d r)(h:∀w' s',Inv X pins σ H s'->RelV (o.getD d) w'->Q w' s') :
 wpAny (model X.prog X.w) A (call (.builtin "dict.get") [.ref a,u,r]) Q E s:=by
 rcases g with⟨kvs,k,e,ey,l⟩ | ⟨kvs,k,b,e,ey,eb,l⟩
 . subst ey;obtain⟨z,hd,vs,rel,dd⟩:=o9 I.hok e;refine xf Bk dd.typeIs Mj (ar3 _ _ _) (meets_dict_get_default (cm X.prog X.w) a (qO ry) hd r) ⟨_,dd.mapOf,h _ _ (I.tok _) ?_⟩;rw[l];exact(rel.val k).getD rd
 . subst ey;cases (show u=Value.ref b from ry);obtain⟨z,hd,xs,rel,dd⟩:=qR I.hok e;refine xf Bk dd.typeIs Mj (ar3 _ _ _) (meetsH_dict_get_default (oX X.prog X.w) a b hd r) ⟨uQ hu,k,xs,sI I.hok eb,dd,h _ _ (I.tok _) ?_⟩;rw[l];exact(rel.val k).getD rd
end
def acL(td ty:TE):TE:=fun σ H Q=>td σ H fun x H1=>∃a,x = .ref a/\GJ H1 a/\ty σ H1 fun y H2=>∃o,cw H2 a y o/\Q (o.getD .non) H2
def acM(td ty tx:TE):TE:=fun σ H Q=>td σ H fun x H1=>∃a,x = .ref a/\GJ H1 a/\ty σ H1 fun y H2=>tx σ H2 fun z H3=>∃o,cw H3 a y o/\Q (o.getD z) H3
section
variable {X:Cx} {o e f:Expr} {apos dJ:Pos} {td ty tx:TE}
theorem pe(hu:X.A.units+64<cLine)(ho:PE X o td)(he:PE X e ty)(m:M1 X o "get" apos e dJ):PE X (.Call (.Attribute o "get" apos) [e] [] dJ) (acL td ty):=by
 intro pins s σ H Q I h;refine wpAny_Call_method m.base m.few m.line UJ Bk ar4 (thn (ho pins s σ H _ I h) fun u s1 acN=>acN.elim fun x acO=>acO.elim fun H1 acP=>acP.elim fun I1 acQ=>acQ.elim fun rx acR=>acR.elim fun a acS=>acS.elim fun ex acT=>acT.elim fun d q1=>?_);subst ex;obtain rfl:u=Value.ref a:=rx;obtain⟨t1,t2,_⟩:=NW I1 d;refine⟨t1,t2,?_⟩;rw[m.trees];refine Mh rfl (UH (L9 (thn (he pins s1 σ H1 _ I1 q1) fun iv s2 acU=>acU.elim fun y acV=>acV.elim fun H2 acW=>acW.elim fun I2 acX=>acX.elim fun ry acY=>acY.elim fun ov acZ=>acZ.elim fun g q2=>UB ?_)));exact acJ hu I2 g ry fun w' s3 I3 i5=>⟨_,H2,I3,i5,q2⟩
theorem NX(hu:X.A.units+64<cLine)(ho:PE X o td)(he:PE X e ty)(hf:PE X f tx)(m:M2 X o "get" apos e f dJ):PE X (.Call (.Attribute o "get" apos) [e,f] [] dJ) (acM td ty tx):=by
 intro pins s σ H Q I h;refine wpAny_Call_method m.base m.few m.line UJ Bk ar4 (thn (ho pins s σ H _ I h) fun u s1 ac0=>ac0.elim fun x ac1=>ac1.elim fun H1 ac2=>ac2.elim fun I1 ac3=>ac3.elim fun rx ac4=>ac4.elim fun a ac5=>ac5.elim fun ex ac6=>ac6.elim fun d q1=>?_);subst ex;obtain rfl:u=Value.ref a:=rx;obtain⟨t1,t2,_⟩:=NW I1 d;refine⟨t1,t2,?_⟩;rw[m.trees];refine Mh rfl (UH (L9 (thn (he pins s1 σ H1 _ I1 q1) fun iv s2 ac7=>ac7.elim fun y ac8=>ac8.elim fun H2 ac9=>ac9.elim fun I2 ada=>ada.elim fun ry q2=>
  L9 (thn (hf pins s2 σ H2 _ I2 q2) fun fv s3 adb=>adb.elim fun z adc=>adc.elim fun H3 add=>add.elim fun I3 ade=>ade.elim fun rz adf=>adf.elim fun ov adg=>adg.elim fun g q3=>UB ?_))))
 exact acK hu I3 g ry rz fun w' s4 I4 i5=>⟨_,H3,I4,i5,q3⟩
end
section
variable {X:Cx} {pins:Po} {σ:St} {H:Hp} {s:Shared} {a:Addr} {kvs:List (aN×V)} {A:Around} {E:VP}
theorem adh{Q:VP}(I:Inv X pins σ H s)(e:Rd H a (.dK kvs))(h:∀p s',H p=none->Inv X pins σ (aj H p (.dK kvs)) s'->Q (.ref p) s'):wpAny (model X.prog X.w) A (call (.type "dict") [.ref a]) Q E s:=by
 obtain⟨z,hd,vs,rel,dd⟩:=o9 I.hok e;refine kt_call_dict hd dd (by rw[←rel.length];exact z) fun h' nu hs=>?_;refine h _ _ (I.hok.fresh (aH _)) (I.laid (a:=s.heap.objs.size) (o:=.dK kvs) (t':=s.toks) (fun b q hq=>?_) (aH _) (NR z (iw.mpr (eM (bE I.big))) rel nu));exact(hs.2 b (bE (aZ hq))).trans (bq _ hq)
end
section
variable {X:Cx} {pins:Po} {σ:St} {H:Hp} {s:Shared} {a:Addr} {y:V} {u:Value} {A:Around} {E:VP}
end
end L2
namespace Att
open PySem PySem.W PySem.Calls PyProof.Rows
theorem adi{P:Params}{h:Heap}:∀(ns:List Int) (vs:Lw),WellAll P h vs (ns.map WData.int)->IntsAre vs ns:=by
 intro ns
 induction ns with
 | nil=>
  intro vs w;rw[FD]at w;cases w;exact .nil
 | cons n ns ih=>
  intro vs w;rw[b9]at w;cases w with
  | cons a b=>
   cases a;exact .cons _ _ (ih _ b)
theorem adk{l:OpenLaw}{n:Nat}(hn:l.most=some n){P:Params}{h:Heap}{args:List WData}{vals:Lw}
 (BZ:l.row.toRowW.claim.pre args=true) (cY:WellAll P h vals args) :
 ∃a vs ns,vals = [Value.ref a]/\args = [WData.list (ns.map WData.int)]/\h.get? a=some { cls:=.type "list",data:=.seq vs.toArray }/\IntsAre vs ns/\ns.length<=n:=by
 have GK:WShape.hasAll [] args [.list .int]=true:=(pre_splitW BZ).1;have hc:l.pre.holds [] { args:=args } = true:=(pre_splitW BZ).2;obtain⟨d,r,rfl,h1,h2⟩:=hasAllW_cons GK;obtain rfl:=hasAllW_nil h2;obtain⟨xs,rfl,h3⟩:=hasW_list h1;obtain⟨ns,rfl⟩:=items_int h3;have hlen:ns.length<=n:=by
  unfold OpenLaw.pre at hc;have h4:(WTm.not (.lt (.lit (.int (n:Int))) (.len (.arg 0)))).holds [] { args:=[.list (ns.map .int)] } = true:=by
   have h4:=(holds_andW hc).1;rw[hn]at h4;exact h4
  have h5:=condW_of h4 (w_not (w_lt w_lit (w_len_list (w_arg rfl))));rw[au]at h5;refine Ml fun q=>?_;have q':(n:Int)<((ns.length:Nat):Int):=by omega
  first
   | (rw[aE q']at h5;exact absurd h5 (by decide))
   | (simp at h5;omega)
 cases cY with
 | cons w1 w2=>
  cases w2;cases w1 with
  | list ho fO=>exact⟨_,_,ns,rfl,rfl,ho,adi ns _ fO,hlen⟩
theorem adl(l:OpenLaw)(args:List WData):l.row.toRowW.claim.post args (.bool true) args=true:=
 postW_of (r:=l.row.toRowW) (X:=(true == true))
  (show WShape.has [] (.bool true) .bool=true by first | rfl | decide | simp[WShape.has,WShape.arms,WShape.armsAll])
  (show(WTm.eq .res (.lit (.bool true))).value [] { args:=args,res:=some (.bool true),after:=args } = some (.bool (true == true)) from w_eq_bool (w_res rfl) w_lit) rfl
theorem adm{l:OpenLaw}{n:Nat}{q:Program}{loose:Ls}{XP:(Mv)->Heap->Prop}{YP:World->Heap->Prop}{d:DefRec}
 (hn:l.most=some n) (xO:d.params.defaults = [])
 (call:∀(w:World) (s₀ s₁:Shared) (mg mb:Mv) (fa:Addr) (o:Obj) (pm cd doc:Value) (a:Addr) (vs:Lw) (ns:List Int),
  Ground q loose [] XP w s₀ mg mb s₁.heap->YP w s₁.heap ->
  s₁.heap.get? fa=some o->o.data = .func (docDef d.name d.params d.body d.scope pm cd doc)->s₁.heap.CodeRec cd d.name->mg d.name=some (.ref fa) ->
  s₁.heap.get? a=some { cls:=.type "list",data:=.seq vs.toArray }->IntsAre vs ns->ns.length<=n->s₁.gens = #[] ->
  codeAny (model l.prog w) callerA (.call (.ref fa) ⟨[.ref a],[]⟩) (fun r s'=>r = .ok (.ret (.bool true))/\OldK s₁.heap s'.heap/\s'.os=s₁.os/\AllBare s'.gens) s₁) :
 WalkO q loose XP YP l.row.toRowW d [] (fun f vs=>PySem.call f vs):=by
 intro w s₀ s₁ mg mb G Y fa o pm cd doc dV kV ho hd iY hD xP hg args vals as BZ asC hrd cY hlo;obtain rfl:dV = .none:=Dflts.none hD xO;obtain rfl:kV = .none:=Dflts.noKw hD;obtain⟨a,vs,ns,rfl,rfl,ph,hints,hlen⟩:=adk hn BZ cY;refine enter_call (rY (call w s₀ s₁ mg mb fa o pm cd doc a vs ns G Y ho (fd_plain hd) iY xP ph hints hlen hg) fun r s' hq=>?_);obtain⟨rfl,h2,h3,h4⟩:=hq;exact⟨.inl ⟨.bool true,.bool true,[],rfl,fun _=>rfl,.bool true,adl l _,fun _=>⟨List.Pairwise.nil,fun _ hm=>(nomatch hm)⟩⟩,h2,h3,h4⟩
section
variable {prog:Program} {w:World} {A:Around} {E:VP} {s:Shared} {K:Frag}
end
end Att
namespace L2
open PySem PySem.Spec PyProof.Rows
theorem NY:∀{vs:Lw} {ns:List Int},IntsAre vs ns->a8 (ns.map V.int) vs
 | _,_,.nil=>.nil
 | _,_,.cons n t h=>.cons ⟨t,rfl⟩ (NY h)
def kZ(s:Stmt)(j:Nat):Stmt:=match s with
 | .ClassDef _ _ _ body _ _ _ _ _ _ _=>body.getD j (.Pass ⟨0,0,0,0⟩)
 | _=>.Pass ⟨0,0,0,0⟩
def dv(s:Stmt):Arguments:=match s with
 | .FunctionDef _ a _ _ _ _ _ _ _ _=>a
 | _=>{ posonlyargs:=[],args:=[],vararg:=none,kwonlyargs:=[],kw_defaults:=[],kwarg:=none,defaults:=[] }
def cF(s:Stmt):List Stmt:=match s with
 | .FunctionDef _ _ b _ _ _ _ _ _ _=>b
 | _=>[]
def aI(s:Stmt):Scope:=match s with
 | .FunctionDef _ _ _ _ _ _ sc _ _ _=>sc
 | _=>{ kind:=.function,names:=[],isGenerator:=false,isCoroutine:=false }
abbrev ao:jS:=fun _ _ _ _ _ _=>False
abbrev E0:XK:=fun _ _ _=>False
theorem av{X:Cx}:sB ao X E0:=fun _ _ _ _ _ _ _ h=>h.elim
structure ai(K:Fg)(x qual:Str)(st:Stmt)(f:Addr)(fd:Fy):Prop where
 ex:∃(oc:Value) (od:Oa) (kV doc pm:Value) (an:Oa) (aF ct:Value) (jT:Array (Option Value)),
  fd=PySem.W.fnOf x qual (dv st) (cF st) (aI st) .none kV doc pm an aF ct/\K.lookup f=some ⟨oc,od,.func fd,jT⟩/\PySem.W.codeIn K aF qual=true
 kp:PySem.W.keepIn K (.ref f)=true
section
variable {P:Program} {w:World} {K:Fg} {mg:Mv} {base:Heap}
theorem ai.ok{x qual:Str}{st:Stmt}{f:Addr}{fd:Fy}{N ps:Ls}{k:Nat}{sp:Sp}(F:ai K x qual st f fd)(S:bh N ps (aI st))(len:∀vs H Q E,sp vs H Q E->vs.length=ps.length)
 (sG:∀(aF:Value) (A:Around) (outer:List Env) (s:Shared) (H:Hp) (vs:Lv) (Q:VK) (E:XK),cK k (A.deeper (envOfC qual (aI st) s.heap.objs.size f aF))->sp vs H Q E ->
  ∃t,cz (sC ao P w K mg base N qual (aI st) f aF A outer s H E).nox (cF st) t/\t { nx:=fun _ H'=>Q .non H',rt:=Q } (start N vs) H):ak P w K mg base ao (k+1) f fd ps sp:=by
 obtain⟨oc,od,kV,doc,pm,an,aF,ct,jT,rfl,lk,iY⟩:=F.ex;refine ND lk iY S len fun A outer s H vs Q E hr nn=>?_;obtain⟨t,h,q⟩:=sG aF A outer s H vs Q E hr nn;exact⟨t,h.nox,q⟩
theorem ai.binds{x qual:Str}{st:Stmt}{f:Addr}{fd:Fy}{ps:Ls}(F:ai K x qual st f fd)
 (h:∀(kV doc pm:Value) (an:Oa) (aF ct:Value) (us:Lw),us.length=ps.length->bindArgs (PySem.W.fnOf x qual (dv st) (cF st) (aI st) .none kV doc pm an aF ct) ⟨us,[]⟩=pure (ps.zip us)):Binds K fd ps []:=by
 obtain⟨oc,od,kV,doc,pm,an,aF,ct,jT,rfl,lk,iY⟩:=F.ex;exact .all (h kV doc pm an aF ct)
theorem jU{x qual:Str}{st:Stmt}{f:Addr}{oc:Value}{od an:Oa}{jT:Array (Option Value)}{kV doc pm aF ct:Value}(l:K.lookup f=some ⟨oc,od,.func (PySem.W.fnOf x qual (dv st) (cF st) (aI st) .none kV doc pm an aF ct),jT⟩)
 (c:PySem.W.codeIn K aF qual=true) (k:PySem.W.keepIn K (.ref f)=true):ai K x qual st f (PySem.W.fnOf x qual (dv st) (cF st) (aI st) .none kV doc pm an aF ct):=⟨⟨oc,od,kV,doc,pm,an,aF,ct,jT,rfl,l,c⟩,k⟩
end
theorem bj{n:Nat}(h:n<=1000):n<sizeLine:=Mm h (by decide)
section
variable {X:Cx}
theorem pv(i:Nat){x:Str}{pos:Pos}(hN:X.N[i]? = some x:=by rfl)(hv:BK X.env.scope x:=by first | exact Or.inl rfl | exact Or.inr (Or.inl rfl) | exact Or.inr (Or.inr rfl))(hd:(x == ("__debug__":Str))=false:=by decide)
 (iY:(x == ("__classdict__":Str))=false:=by decide):PE X (.Name x pos) (uT i):=V5 hN hv hd iY
end
theorem ff{A B:Prop}(h:B):if false=true then A else B:=by
 rw[ah bV];exact h
theorem i7{A B:Prop}(h:A):if true=true then A else B:=by
 rw[ap rfl];exact h
theorem aJ{c A B:Prop}[Decidable c](h1:c->A)(h2:¬c->B):if c then A else B:=by
 by_cases h:c
 . rw[ap h];exact h1 h
 . rw[ah h];exact h2 h
def ag(H H':Hp):Prop:=∀b o,H b=some o->H' b=some o
theorem ag.refl(H:Hp):ag H H:=fun _ _ h=>h
theorem ag.trans{H H1 H2:Hp}(a:ag H H1)(b:ag H1 H2):ag H H2:=fun c o h=>b c o (a c o h)
theorem ag.free{H H':Hp}(e:ag H H'){l:Addr}(h:H' l=Option.none):H l=Option.none:=by
 cases q:H l with
 | none=>rfl
 | some o=>
  rw[e l o q]at h;cases h
theorem ag.seq{K:Fg}{H H':Hp}{a:Addr}{xs:Lv}(e:ag H H')(h:af K H a xs):af K H' a xs:=by
 rcases h with(h | ⟨o,h⟩) | h
 . exact .inl (.inl (e _ _ h))
 . exact .inl (.inr ⟨o,e _ _ h⟩)
 . exact .inr h
section
variable {κ:Type} [DecidableEq κ]
theorem GL{kvs:List (κ×V)}{k:κ}{v:V}(h:bP kvs k=some v):k∈kvs.map (·.1):=by
 have q:(kvs.any fun kv=>decide (kv.1=k))=true:=by
  rw[vf,h]
  all_goals rfl
 obtain⟨p,hp,e⟩:=jp.mp q;exact be.mpr ⟨p,hp,bd e⟩
end
section
variable {K:Fg}
theorem asF {us : Lw} {n : Nat} (h : us.length = n + 1) : ∃ u r, us = u :: r ∧ r.length = n := by
  cases us with
  | nil=>cases h
  | cons u r=>exact⟨u,r,rfl,Nat.succ.inj h⟩
theorem adn{us:Lw}{l:Ls}(hl:l.length=1)(h:us.length=l.length):∃u0,us = [u0]:=by
 rw[hl]at h
 match us,h with
 | [u0],_=>exact⟨u0,rfl⟩
theorem ai.binds1{x qual:Str}{st:Stmt}{f:Addr}{fd:Fy}{l:Ls}(F:ai K x qual st f fd)
 (h:∀(kV doc pm:Value) (an:Oa) (aF ct u0:Value),bindArgs (PySem.W.fnOf x qual (dv st) (cF st) (aI st) .none kV doc pm an aF ct) ⟨[u0],[]⟩=pure (l.zip [u0])) (hl:l.length=1:=by rfl):Binds K fd l []:=
 F.binds (ps:=l) fun kV doc pm an aF ct us e=>by
  obtain⟨u0,rfl⟩:=adn hl e;exact h kV doc pm an aF ct u0
theorem ado{us:Lw}{l:Ls}(hl:l.length=2)(h:us.length=l.length):∃u0 u1,us = [u0,u1]:=by
 rw[hl]at h
 match us,h with
 | [u0,u1],_=>exact⟨u0,u1,rfl⟩
theorem ai.binds2{x qual:Str}{st:Stmt}{f:Addr}{fd:Fy}{l:Ls}(F:ai K x qual st f fd)
 (h:∀(kV doc pm:Value) (an:Oa) (aF ct u0 u1:Value),bindArgs (PySem.W.fnOf x qual (dv st) (cF st) (aI st) .none kV doc pm an aF ct) ⟨[u0,u1],[]⟩=pure (l.zip [u0,u1])) (hl:l.length=2:=by rfl):Binds K fd l []:=
 F.binds (ps:=l) fun kV doc pm an aF ct us e=>by
  obtain⟨u0,u1,rfl⟩:=ado hl e;exact h kV doc pm an aF ct u0 u1
theorem adp{us:Lw}{l:Ls}(hl:l.length=3)(h:us.length=l.length):∃u0 u1 u2,us = [u0,u1,u2]:=by
 rw[hl]at h
 match us,h with
 | [u0,u1,u2],_=>exact⟨u0,u1,u2,rfl⟩
theorem ai.binds3{x qual:Str}{st:Stmt}{f:Addr}{fd:Fy}{l:Ls}(F:ai K x qual st f fd)
 (h:∀(kV doc pm:Value) (an:Oa) (aF ct u0 u1 u2:Value),bindArgs (PySem.W.fnOf x qual (dv st) (cF st) (aI st) .none kV doc pm an aF ct) ⟨[u0,u1,u2],[]⟩=pure (l.zip [u0,u1,u2])) (hl:l.length=3:=by rfl):Binds K fd l []:=
 F.binds (ps:=l) fun kV doc pm an aF ct us e=>by
  obtain⟨u0,u1,u2,rfl⟩:=adp hl e;exact h kV doc pm an aF ct u0 u1 u2
theorem adq{us:Lw}{l:Ls}(hl:l.length=4)(h:us.length=l.length):∃u0 u1 u2 u3,us = [u0,u1,u2,u3]:=by
 rw[hl]at h
 match us,h with
 | [u0,u1,u2,u3],_=>exact⟨u0,u1,u2,u3,rfl⟩
theorem ai.binds4{x qual:Str}{st:Stmt}{f:Addr}{fd:Fy}{l:Ls}(F:ai K x qual st f fd)
 (h:∀(kV doc pm:Value) (an:Oa) (aF ct u0 u1 u2 u3:Value),bindArgs (PySem.W.fnOf x qual (dv st) (cF st) (aI st) .none kV doc pm an aF ct) ⟨[u0,u1,u2,u3],[]⟩=pure (l.zip [u0,u1,u2,u3])) (hl:l.length=4:=by rfl):Binds K fd l []:=
 F.binds (ps:=l) fun kV doc pm an aF ct us e=>by
  obtain⟨u0,u1,u2,u3,rfl⟩:=adq hl e;exact h kV doc pm an aF ct u0 u1 u2 u3
theorem adr{us:Lw}{l:Ls}(hl:l.length=5)(h:us.length=l.length):∃u0 u1 u2 u3 u4,us = [u0,u1,u2,u3,u4]:=by
 rw[hl]at h
 match us,h with
 | [u0,u1,u2,u3,u4],_=>exact⟨u0,u1,u2,u3,u4,rfl⟩
theorem ai.binds5{x qual:Str}{st:Stmt}{f:Addr}{fd:Fy}{l:Ls}(F:ai K x qual st f fd)
 (h:∀(kV doc pm:Value) (an:Oa) (aF ct u0 u1 u2 u3 u4:Value),bindArgs (PySem.W.fnOf x qual (dv st) (cF st) (aI st) .none kV doc pm an aF ct) ⟨[u0,u1,u2,u3,u4],[]⟩=pure (l.zip [u0,u1,u2,u3,u4])) (hl:l.length=5:=by rfl):Binds K fd l []:=
 F.binds (ps:=l) fun kV doc pm an aF ct us e=>by
  obtain⟨u0,u1,u2,u3,u4,rfl⟩:=adr hl e;exact h kV doc pm an aF ct u0 u1 u2 u3 u4
theorem ads{us:Lw}{l:Ls}(hl:l.length=8)(h:us.length=l.length):∃u0 u1 u2 u3 u4 u5 u6 u7,us = [u0,u1,u2,u3,u4,u5,u6,u7]:=by
 rw[hl]at h
 match us,h with
 | [u0,u1,u2,u3,u4,u5,u6,u7],_=>exact⟨u0,u1,u2,u3,u4,u5,u6,u7,rfl⟩
theorem ai.binds8{x qual:Str}{st:Stmt}{f:Addr}{fd:Fy}{l:Ls}(F:ai K x qual st f fd)
 (h:∀(kV doc pm:Value) (an:Oa) (aF ct u0 u1 u2 u3 u4 u5 u6 u7:Value),bindArgs (PySem.W.fnOf x qual (dv st) (cF st) (aI st) .none kV doc pm an aF ct) ⟨[u0,u1,u2,u3,u4,u5,u6,u7],[]⟩=pure (l.zip [u0,u1,u2,u3,u4,u5,u6,u7])) (hl:l.length=8:=by rfl):Binds K fd l []:=
 F.binds (ps:=l) fun kV doc pm an aF ct us e=>by
  obtain⟨u0,u1,u2,u3,u4,u5,u6,u7,rfl⟩:=ads hl e;exact h kV doc pm an aF ct u0 u1 u2 u3 u4 u5 u6 u7
end
end L2
set_option maxHeartbeats 4000000
namespace L2
open PySem PySem.Spec PyProof.Rows
theorem jV{H:Hp}{p:Addr}{o:HO}(h:H p=none):ag H (aj H p o):=fun b u e=>by
 rw[aL (bg e h)];exact e
theorem qS{H0 H:Hp}{p:Addr}{o:HO}(s:ag H0 H)(h:H0 p=none):ag H0 (aj H p o):=fun b u e=>by
 rw[aL (bg e h)];exact s b u e
theorem adt{K:Fg}{H H':Hp}{a:Addr}{xs:Lv}(e:ag H H')(h:aw K H a xs):aw K H' a xs:=by
 rcases h with(h | ⟨o,h⟩) | h
 . exact .inl (.inl (e _ _ h))
 . exact .inl (.inr ⟨o,e _ _ h⟩)
 . exact .inr h
abbrev ie (x:Str):Prop:=PyData.strOk x=true
theorem xQ{x:Str}:ie x↔∀c∈x.cps.toList,c<0x110000:=by
 unfold ie PyData.strOk;rw[Array.all_eq_true'];simp
theorem NZ{x y:Str}(hx:ie x)(hy:ie y):ie (x++y):=by
 rw[xQ]at *;intro c hc;have e:(x++y).cps.toList=x.cps.toList++y.cps.toList:=by
  show(x.cps++y.cps).toList=_;simp
 rw[e,eg]at hc;exact hc.elim (hx c) (hy c)
theorem GN{c:Nat}(h:c<0x110000):ie ⟨#[c]⟩:=by
 rw[xQ];intro d hd;have e:d=c:=by simpa using hd
 rw[e];exact h
theorem adu(x y:Str):(x++y).length=x.length+y.length:=by
 show(x.cps++y.cps).size=_;rw[Array.size_append];rfl
theorem adv(c:Nat):(⟨#[c]⟩:Str).length=1:=rfl
section
variable {X:Cx}
theorem xR:gt X (.builtin "isinstance") (fun xs H Q=>∃x t c b,xs = [x,.ty c]/\jR X.K H x t/\PySem.W.kitOne X.K t (.type c)=some b/\Q (.bl b) H):=by
 intro pins s σ H xs us Q I r h;obtain⟨x,t,c,b,rfl,ty,e,q⟩:=h;obtain⟨u,u2,rfl,r1,r2⟩:=vals2 r;cases (show u2=Value.type c from r2);exact Nu I r1 ty e fun tk=>⟨.bl b,H,I.tok tk,rfl,q⟩
end
end L2
namespace HT
open PySem PyProof.Rows
theorem adw(A:Around)(s:Shared)(a:Int)(t:Tok)(c:Int)(u:Tok)(prog:Program)(w:World)(E:VP)(Q:VP)(h:Q (.bool (decide (c<=a))) s) :
 wpAny (model prog w) A (richCompare .GtE (.int a t) (.int c u)) Q E s:=
 (PyProof.Rows.ge_int h:wpAny (model prog w) A (compareOp .GtE (.int a t) (.int c u)) Q E s)
section
open PySem.SeqAt
open PySem.AutoSeq1 (wpAny_loadPart')
open PySem.MeetsSeq PySem.MeetsSeq2 PySem.MeetsSeq3
theorem adx(l b:Addr)(items br:Av)(n n2:Nat)(dd cW:Oa)(sl cu:Array (Option Value))(ns ms:List Int)(hi:IntsAre items.toList ns)(hj:IntsAre br.toList ms) :
 Meets (Builtin.«tuple.__ge__» ⟨[.ref l,.ref b],[]⟩)
  (fun _ R s=>s.heap.get? l=some { cls:=.type "tuple",dict:=dd,data:=.seq items n,slots:=sl }/\s.heap.get? b=some { cls:=.type "tuple",dict:=cW,data:=.seq br n2,slots:=cu } /\
   R (.ok (.ret (.bool (!lexLt ns ms)))) s):=
 .of_wp fun prog w A R s h=>by
  obtain⟨hp,g,d,tk,os⟩:=s;obtain⟨hl,hb,h⟩:=h;have f2:=Mc;have z1:items.size=ns.length:=by rw[←hi.length];simp
  have z2:br.size=ms.length:=by rw[←hj.length];simp
  wp_walk using wpAny_loadPart' hl,wpAny_loadPart' hb,qx _ (fun rest b s'=>b.1=none/\s'=⟨hp,g,d,tk,os⟩/\∃(vs ws:Lw) (gv gw:List Int),rest=vs.zip ws /\
   IntsAre vs gv/\IntsAre ws gw/\gv.length+br.size=gw.length+items.size/\R (.ok (.ret (.bool (!lexLt gv gw)))) ⟨hp,g,d,tk,os⟩) _
  case turn=>
   rintro⟨y,x⟩ rest b s' ⟨fc,rfl,vs,ws,gv,gw,hz,lO,gi,hlen,hR⟩;cases lO with
   | nil=>rw[Me]at hz;cases hz
   | cons a t xG=>
    cases gi with
    | nil=>rw[Mf]at hz;cases hz
    | cons c u xH=>
     rw[oK]at hz;injection hz with lQ no
     injection lQ with hy hx
     subst hy hx;rw[o4]at hR;simp only[bF]at hlen;obtain⟨e,he,qM⟩:=xF A.in1 ⟨hp,g,d,tk,os⟩ a t c u;refine ac (he prog w _ _ ?_);cases e with
     | true=>
      rw[ap (qM.mp rfl)]at hR
      wp_walk
      exact⟨rfl,rfl,_,_,_,_,no,xG,xH,by omega,hR⟩
     | false=>
      have bn:a≠c:=fun q=>absurd (qM.mpr q) bV;rw[ah bn]at hR;have o5:=adw A.in1 ⟨hp,g,d,tk,os⟩ a t c u prog w;have eb:(!decide (a<c))=decide (c<=a):=by
       by_cases q:a<c
       . rw[aE q,aR (by omega)];rfl
       . rw[aR q,aE (by omega)];rfl
      rw[eb]at hR
      wp_walk using o5
      exact⟨_,rfl,by simpa using hR⟩
  case fin=>
   rintro⟨b1,b2⟩ s' ⟨fc,rfl,vs,ws,gv,gw,hz,lO,gi,hlen,hR⟩;simp only at fc;subst fc;have hv:(!lexLt gv gw)=decide (br.size<=items.size):=by
    cases lO with
    | nil=>
     cases gi with
     | nil=>
      simp only[jo]at hlen;rw[Gx];exact(aE (by omega)).symm
     | cons c u hw=>
      simp only[jo,bF]at hlen;rw[Gy];exact(aR (by omega)).symm
    | cons a t hv=>
     cases gi with
     | nil=>
      simp only[jo,bF]at hlen;rw[Gz];exact(aE (by omega)).symm
     | cons c u hw=>
      rw[oK]at hz;cases hz
   rw[hv]at hR
   wp_walk
   exact⟨_,rfl,by simpa [Builtin.Tuple.tupleCompareSizes]using hR⟩
  case h=>
   exact⟨rfl,rfl,items.toList,br.toList,ns,ms,rfl,hi,hj,by omega,h⟩
end
section
variable {prog:Program} {w:World} {A:Around} {E:VP} {s:Shared}
theorem ady{l b:Addr}{items br:Av}{ns ms:List Int}{Q:VP}(hl:IsTup s.heap l items)(hb:IsTup s.heap b br)(hi:IntsAre items.toList ns)(hj:IntsAre br.toList ms)
 (hu:A.units<cLine) (h:Q (.bool (!lexLt ns ms)) s):wpAny (model prog w) A (compareOp .GtE (.ref l) (.ref b)) Q E s:=by
 obtain⟨⟨cls,dd,data,sl⟩,ho,hc,n,hd⟩:=id hl;obtain⟨⟨xI,cW,data2,cu⟩,gx,cX,n2,hd2⟩:=id hb;simp only at hc hd cX hd2;subst hc hd cX hd2;exact FC (op:=.GtE) ⟨_,ho,rfl⟩ ⟨_,gx,rfl⟩ PySem.F.slot_tuple_ge PySem.F.entry_tuple_ge (PySem.F.args_tuple_ge_2 _ _) (adx l b items br n n2 dd cW sl cu ns ms hi hj)
  ⟨ho,gx,show Value.bool (!lexLt ns ms)≠Value.notImplemented/\Q (.bool (!lexLt ns ms)) s from ⟨(fun x=>nomatch x),h⟩⟩ hu
end
end HT
namespace L2
open PySem PySem.Spec PyProof.Rows
section
variable {X:Cx}
def adz(K:Fg):R2:=fun x y H Q=>∃a b ns ms,x = .ref a/\y = .ref b/\aw K H a (ns.map V.int)/\aw K H b (ms.map V.int)/\Q (.bl (!HT.lexLt ns ms)) H
theorem N0(hu:X.A.units<cLine):bK X (compareOp .GtE) (adz X.K):=by
 intro pins s σ H x y v u Q I rx ry h;obtain⟨a,b,ns,ms,rfl,rfl,ha,hb,q⟩:=h;cases rx;cases ry;obtain⟨its,r,p,_⟩:=I.tuple ha;obtain⟨i4,r2,p2,_⟩:=I.tuple hb;exact HT.ady p p2 (by simpa using intsAre_of r) (by simpa using intsAre_of r2) hu ⟨.bl _,H,I,rfl,q⟩
end
mutual
inductive DV (K:Fg) (H:Hp):V->PySem.W.Dat->Prop
 | non:DV K H .non .none
 | int (i:Int):DV K H (.int i) (.int i)
 | str (x:Str):DV K H (.str x) (.str x)
 | tup {a:Addr} {xs:Lv} {ds:List PySem.W.Dat}:aw K H a xs->k6 K H xs ds->DV K H (.ref a) (.tuple ds)
 | lst {a:Addr} {xs:Lv} {ds:List PySem.W.Dat}:af K H a xs->k6 K H xs ds->DV K H (.ref a) (.list ds)
inductive k6 (K:Fg) (H:Hp):Lv->List PySem.W.Dat->Prop
 | nil:k6 K H [] []
 | cons {x:V} {d:PySem.W.Dat} {xs:Lv} {ds:List PySem.W.Dat}:DV K H x d->k6 K H xs ds->k6 K H (x::xs) (d::ds)
end
theorem B0{K:Fg}{H:Hp}:∀ns:List Int,k6 K H (ns.map V.int) (ns.map PySem.W.Dat.int)
 | []=>.nil
 | n::ns=>.cons (.int n) (B0 ns)
section
variable {X:Cx} {pins:Po} {σ:St} {H:Hp} {s:Shared}
mutual
theorem DV.reads(I:Inv X pins σ H s):∀{x:V} {d:PySem.W.Dat} {u:Value},DV X.K H x d->RelV x u->∃as,Reads s.heap u (PySem.W.kqdP d) as
 | _,_,_,.non,r=>by cases r;exact⟨_,Reads.none⟩
 | _,_,_,.int i,r=>by obtain⟨t,rfl⟩:=r;exact⟨_,Reads.int i t⟩
 | _,_,_,.str x,r=>by obtain⟨t,rfl⟩:=r;exact⟨_,Reads.str x t⟩
 | _,_,_,.tup h q,r=>by
  cases r;obtain⟨its,rv,⟨o,e,c,n,d⟩,_⟩:=I.tuple h;obtain⟨as,z⟩:=k6.reads I q rv;rw[PySem.W.kqdP];exact⟨as,reads_tuple_at e c d (by simpa using z)⟩
 | _,_,_,.lst h q,r=>by
  cases r;obtain⟨its,rv,⟨o,n,e,c,_,d⟩,_⟩:=I.list h;obtain⟨as,z⟩:=k6.reads I q rv;rw[PySem.W.kqdP];exact⟨_,reads_list_at e c d (by simpa using z)⟩
theorem k6.reads(I:Inv X pins σ H s):∀{xs:Lv} {ds:List PySem.W.Dat} {us:Lw},k6 X.K H xs ds->a8 xs us->∃as,ReadsAll s.heap us (PySem.W.kqdPs ds) as
 | _,_,_,.nil,.nil=>⟨_,ReadsAll.nil⟩
 | _,_,_,.cons q qs,.cons r rs=>by
  obtain⟨as,z⟩:=DV.reads I q r;obtain⟨bs,y⟩:=k6.reads I qs rs;rw[PySem.W.kqdPs];exact⟨_,ReadsAll.cons z y⟩
end
end
theorem vh{d:PySem.W.Dat}(h:PySem.W.kqdOk 9 d=true):SeqAt.shaped (PySem.W.kqdP d)=true:=by
 have l:=PySem.W.kqd_lay 9 d h;unfold SeqAt.shaped;rw[l.1,jq];exact aE (bS l.2 (by decide))
section
variable {X:Cx}
theorem GO(hu:X.A.units+64<cLine):bK X (compareOp .Eq) (fun x y H Q=>∃d e,DV X.K H x d/\DV X.K H y e/\PySem.W.kqdOk 9 d=true/\PySem.W.kqdOk 9 e=true/\∀b:Bool,(b=true↔d=e)->Q (.bl b) H):=by
 intro pins s σ H x y v u Q I rx ry h;obtain⟨d,e,hd,he,od,oe,q⟩:=h;obtain⟨as,ra⟩:=hd.reads I rx;obtain⟨bs,rb⟩:=he.reads I ry;exact eq_dataH ra rb (vh od) (vh oe) hu ⟨.bl _,H,I,rfl,q _ (UK 9 d e 9 od oe)⟩
theorem adA(hu:X.A.units+64<cLine):bK X (compareOp .NotEq) (fun x y H Q=>∃d e,DV X.K H x d/\DV X.K H y e/\PySem.W.kqdOk 9 d=true/\PySem.W.kqdOk 9 e=true/\∀b:Bool,(b=true↔d=e)->Q (.bl (!b)) H):=by
 intro pins s σ H x y v u Q I rx ry h;obtain⟨d,e,hd,he,od,oe,q⟩:=h;obtain⟨as,ra⟩:=hd.reads I rx;obtain⟨bs,rb⟩:=he.reads I ry;exact ne_dataH ra rb (vh od) (vh oe) hu ⟨.bl _,H,I,rfl,q _ (UK 9 d e 9 od oe)⟩
end
section
variable {X:Cx} {st:Stmt} {rest:List Stmt} {t u:TS}
def adB(M:St->Hp->Prop)(t u:TS):TS:=fun D σ H=>t { D with nx:=M } σ H/\∀σ' H',M σ' H'->u D σ' H'
theorem xT(M:St->Hp->Prop)(h1:PS X st t)(h2:cz X rest u):cz X (st::rest) (adB M t u):=by
 intro pins s σ H D I h;refine Uz (thn (h1 pins s σ H { D with nx:=M } I h.1) fun f s1 q=>?_);cases f with
 | next=>
  obtain⟨σ',H',I',q⟩:=q;exact h2 pins s1 σ' H' D I' (h.2 σ' H' q)
 | ret v=>exact q
 | brk=>exact q
 | cont=>exact q
end
theorem B1{H:Hp}{p t:Addr}{o:HO}(h:aj H p o t=none):t≠p/\H t=none:=by
 by_cases e:t=p
 . subst e;rw[aP]at h;cases h
 . exact⟨e,by rw[aL e]at h;exact h⟩
theorem fit{a b:Str}(ha:a.length<=100)(hb:b.length<=100):a.length+b.length<=sizeLine:=hJ (bj (by omega))
theorem GP{a:Str}(ha:a.length<=100):a.length<=sizeLine:=hJ (bj (by omega))
theorem vi{α:Type}{xs:List α}{r:Int}(h0:0<=r)(h1:r<xs.length):∃v,bT xs r=some v/\xs[r.toNat]? = some v:=by
 obtain⟨n,rfl⟩:∃n:Nat,r=n:=⟨r.toNat,by omega⟩;have hn:n<xs.length:=by omega
 have e:xs[n]? = some (xs[n]'hn):=by simp
 exact⟨_,dY e,by simpa using e⟩
theorem N1{ns:List Int}{r:Int}(h0:0<=r)(h1:r<ns.length):∃z,bT (ns.map V.int) r=some (V.int z)/\ns[r.toNat]? = some z:=by
 obtain⟨v,e,e2⟩:=vi (xs:=ns.map V.int) h0 (by rw[au];exact h1);rw[bN]at e2;cases q:ns[r.toNat]? with
 | none=>rw[q]at e2;cases e2
 | some z=>
  rw[q]at e2;cases e2;exact⟨z,e,rfl⟩
def bQ(K:Fg)(mg:Mv)(x:Str)(st:Stmt):Prop:=∃f fd,mg x=some (.ref f)/\ai K x x st f fd/\PySem.W.keepIn K (.ref f)=true
theorem bU{K:Fg}{h:Heap}{mg:Mv}{x:Str}{st:Stmt}{f:Addr}{od an:Oa}{sl:Array (Option Value)}{oc kV dc pm cd ct:Value}(X:K.In h)(G:h.Ns mainGlobals mg)
 (a:PySem.W.nsIn K mainGlobals x=some (some (.ref f))) (l:K.lookup f=some ⟨oc,od,.func (PySem.W.fnOf x x (dv st) (cF st) (aI st) .none kV dc pm an cd ct),sl⟩) (c:PySem.W.codeIn K cd x=true) (k:PySem.W.keepIn K (.ref f)=true) :
 bQ K mg x st:=⟨f,_,km X G a,jU l c k,k⟩
abbrev N2 (ifs:List Expr) (env:Env):Sem Bool:=
 forIn ifs true fun c r=>if r=true then do let ok ←isTrue c env (eval c env);pure (ForInStep.yield ok) else pure (ForInStep.yield r)
def gP(X:Cx)(ifs:List Expr)(t:TT):Prop:=
 ∀(pins:Po) (s:Shared) (σ:St) (H:Hp) (Q:Bool->Hp->Prop),Inv X pins σ H s->t σ H Q->wpAny (model X.prog X.w) X.A (N2 ifs X.env) (TP X pins σ Q) X.xe s
def sJ:TT:=fun _ H Q=>Q true H
theorem fh{X:Cx}:gP X [] sJ:=fun _ _ _ H _ I h=>wpAny_tests_nil ⟨H,I,h⟩
theorem ig{X:Cx}{c:Expr}{t:TT}(h:PT X c t):gP X [c] t:=fun pins s σ H Q I q=>wpAny_tests_one (h pins s σ H Q I q)
section
variable {prog:Program} {w:World} {A:Around} {R:Result->Shared->Prop} {s:Shared}
theorem adC{elt target iter:Expr}{ifs:List Expr}{scope:Scope}{pos:Pos}{it acc:Value}{env:Env}(I:Nat->Shared->Prop)
 (turn:∀n s,I n s->wpAny (model prog w) A (pyNext it) (fun r s₁=>match r with
  | none=>R (.ok .next) s₁
  | some v=>wpAny (model prog w) A (letOwnedTupleGo target it v) (fun _ s₀=>wpAny (model prog w) A (assign target env v) (fun _ s₂=>
   wpAny (model prog w) A (N2 ifs env) (fun ok s₃=>
    if ok=true then wpAny (model prog w) A (eval elt env) (fun x s₄=>
     wpAny (model prog w) A (call (.builtin "list.append") [acc,x]) (fun _ s₅=>∃m,m<n/\I m s₅) (notedBy (model prog w) A env fun e s'=>R (.error e) s') s₄) (notedBy (model prog w) A env fun e s'=>R (.error e) s') s₃
    else∃m,m<n/\I m s₃) (notedBy (model prog w) A env fun e s'=>R (.error e) s') s₂) (notedBy (model prog w) A env fun e s'=>R (.error e) s') s₀) (notedBy (model prog w) A env fun e s'=>R (.error e) s') s₁) (notedBy (model prog w) A env fun e s'=>R (.error e) s') s)
 (n:Nat) (h:I n s):codeAny (model prog w) A (.compLoop (.ListComp elt [⟨target,iter,ifs,0⟩] scope pos) 0 it acc env) R s:=by
 refine codeAny_loop rfl I (fun n s hI=>?_) n h;show wpAny _ A ((compTurn (.ListComp elt [⟨target,iter,ifs,0⟩] scope pos) 0 it acc env).onRaise (fun x=>do noteFrame x env;theTreesLotGoes x)) _ _ s;refine wpAny_noted ?_;rw[compTurn_list];refine ac (UD (ac (dN (turn n s hI) (fun r s₁ h₁=>?_) fun _ _ h'=>h')));cases r with
 | none=>exact aq h₁
 | some v=>
  refine ac (dN h₁ (fun _ s₀ h₀=>?_) fun _ _ h'=>h');refine ac (dN h₀ (fun _ s₂ h₂=>ac (dN h₂ (fun ok s₃ h₃=>?_) fun _ _ h'=>h')) fun _ _ h'=>h');cases ok with
  | false=>exact aq ⟨rfl,h₃⟩
  | true=>
   exact ac (ac (dN h₃ (fun x s₄ h₄=>ac (dN h₄ (fun _ s₅ h₅=>aq (aq ⟨rfl,h₅⟩)) fun _ _ h'=>h')) fun _ _ h'=>h'))
end
theorem adD{P:Program}{w:World}{H:Hp}{h1 h2:Heap}{C:Addr}(ok:ce P w H h1)(sb:Heap.SameBut C h1 h2)(hn:H C=none):ce P w H h2:=fun b ob e=>by
 refine(ok b ob e).stay (fun c w' hc q=>(sb.2 c ?_).trans q) (fun _ q=>q) fun _ _ q=>q;rintro rfl
 rcases hc with rfl | hc
 . rw[hn]at e;cases e
 . rw[hn]at hc;cases hc
def lR(J:It)(g:TG)(tt:TT)(te:TE)(D:Addr)(Qd:Hp->Prop)(W:Nat->Nat->St->Hp->Prop):Prop:=
 ∀i m σ H,W i m σ H->(J.stop i H/\Qd H)\/(J.go i H/\∀x H2,J.yld i H x H2->g x σ H2 fun σ3 H3=>tt σ3 H3 fun ok H4=>
  if ok=true then te σ3 H4 fun y H5=>∃ys,H5 D=some (.lst ys)/\ys.length<sizeLine/\∃m',m'<m/\W (i+1) m' σ3 (aj H5 D (.lst (ys++[y])))
  else∃m',m'<m/\W (i+1) m' σ3 H4)
section
variable {X:Cx} {pins:Po} {σ:St} {H3:Hp} {s3:Shared}
end
def df(env:Env):List (Str×NameKind)->List (Str×Addr)->List (Str×Addr)
 | [],cs=>cs
 | (n,k)::r,cs=>if k = .free then df env r ((n,(env.cells.lookup n).getD 0)::cs) else df env r cs
theorem N3{scope:Scope}{env:Env}(h:∀y∈scope.names,y.2 = .free->∃c,env.cells.lookup y.1=some c):closureFor scope env=pure (df env scope.names []):=by
 unfold closureFor;generalize scope.names=l at h;have go:∀(l:List (Str×NameKind)) (cs:List (Str×Addr)),(∀y∈l,y.2 = .free->∃c,env.cells.lookup y.1=some c) ->
  (forIn l cs fun(x:Str×NameKind) (r:List (Str×Addr))=>(if (x.2 == .free)=true then do let y ←cellOf env x.1;pure (ForInStep.yield ((x.1,y)::r)) else pure (ForInStep.yield r):Sem (ForInStep (List (Str×Addr)))))=pure (df env l cs):=by
  intro l
  induction l with
  | nil=>intro cs _;rfl
  | cons x l ih=>
   intro cs h;obtain⟨n,k⟩:=x;rw[List.forIn_cons]
   by_cases e:k = .free
   . subst e;obtain⟨c,hc⟩:=h _ cD rfl;have hc:env.cells.lookup n=some c:=hc;have e1:cellOf env n=pure c:=by unfold cellOf;rw[hc]
     simp only[e1,df,hc,wZ,xg,rZ,pure_bind];exact ih _ fun y hy=>h y (cy _ hy)
   . have e':(k == NameKind.free)=false:=by simpa using e
     simp only[e',df,e,ix,kh,pure_bind];exact ih _ fun y hy=>h y (cy _ hy)
 have:=go l [] h;simpa using this
theorem B2{env:Env}:∀{l:List (Str×NameKind)} {cs:List (Str×Addr)} {x:Str} {c:Addr},(∀y∈l,y.2 = .free->∃c,env.cells.lookup y.1=some c)->(∀x c,cs.lookup x=some c->env.cells.lookup x=some c) ->
 (df env l cs).lookup x=some c->env.cells.lookup x=some c
 | [],_,_,_,_,hc,e=>hc _ _ e
 | (n,k)::l,cs,x,c,h,hc,e=>by
  unfold df at e;have h':∀y∈l,y.2 = .free->∃c,env.cells.lookup y.1=some c:=fun y hy=>h y (cy _ hy);split at e
  . refine B2 h' (fun z d hz=>?_) e;rename_i hk;rw[iW]at hz;split at hz
    . rename_i q;obtain⟨d',hd⟩:=h (n,k) cD hk;have hd:env.cells.lookup n=some d':=hd;have:z=n:=by simpa using q
      subst this;rw[hd]at hz ⊢;exact hz
    . exact hc _ _ hz
  . exact B2 h' hc e
theorem GQ{env:Env}:∀{l:List (Str×NameKind)} {cs:List (Str×Addr)} {x:Str},(cs.lookup x).isSome=true->((df env l cs).lookup x).isSome=true
 | [],_,_,h=>h
 | (n,k)::l,cs,x,h=>by
  unfold df;split
  . refine GQ ?_;rw[iW];split
    . rfl
    . exact h
  . exact GQ h
theorem B3{env:Env}{x:Str}:∀{l:List (Str×NameKind)} {cs:List (Str×Addr)},(x,NameKind.free)∈l->((df env l cs).lookup x).isSome=true
 | (n,k)::l,cs,h=>by
  unfold df
  rcases bw.mp h with e | e
  . cases e;rw[ap rfl];refine GQ ?_;rw[iW];simp
  . split
    . exact B3 e
    . exact B3 e
def cL(X:Cx)(N:Ls)(sc:Scope)(s₀:Shared)(H₀:Hp)(C:Addr)(ex:List Addr):Cx where
 prog:=X.prog
 w:=X.w
 K:=X.K
 mg:=X.mg
 base:=X.base
 A:=X.A
 N:=N
 s₀:=s₀
 H₀:=H₀
 env:=compEnvC sc (df X.env sc.names []) C X.env
 outer:=X.stack
 stack:=X.stack
 ex:=ex
 fn:=fun _=>false
 calm:=X.calm
 pn:=[]
 xe:=fun _ _=>False
structure k7(X:Cx)(own cap:Ls)(js:List Nat)(sc:Scope):Prop where
 kind:sc.kind = .function
 nocell:∀y∈sc.names,y.2≠.cell
 names:∀y∈sc.names,y.2 = .local->sc.names.lookup y.1=some .local
 nd:(own++cap).Nodup
 frees:∀y∈sc.names,y.2 = .free->y.1∈cap
 slots:js.map (fun j=>X.N[j]?)=cap.map some
 outer':cap.map X.env.kindOf=cap.map fun _=>some NameKind.cell
 capk':cap.map (fun x=>(relabel sc X.env).names.lookup x)=cap.map fun _=>some NameKind.cell
theorem xU{α β:Type}{f:α->β}{c:β}:∀{l:List α},l.map f=l.map (fun _=>c)->∀x∈l,f x=c
 | [],_,_,h=>nomatch h
 | y::l,e,x,h=>by
  rw[b9,b9]at e;injection e with e1 e2
  rcases bw.mp h with q | q
  . rw[q];exact e1
  . exact xU e2 x q
theorem k7.outer{X:Cx}{own cap:Ls}{js:List Nat}{sc:Scope}(S:k7 X own cap js sc):∀x∈cap,X.env.kindOf x=some .cell:=xU S.outer'
theorem k7.capk{X:Cx}{own cap:Ls}{js:List Nat}{sc:Scope}(S:k7 X own cap js sc):∀x∈cap,(relabel sc X.env).names.lookup x≠some .local:=fun x hx h=>by
 rw[xU S.capk' x hx]at h;cases h
def compStart(n:Nat)(js:List Nat)(σ:St):St:=List.replicate n none++js.map fun j=>(σ[j]?).join
def GR(wi:TI)(n:Nat)(js:List Nat)(g:TG)(tt:TT)(te:TE):TE:=fun σ H Q=>wi σ H fun J H1=>∀D,H1 D=none ->
 ∃W:Nat->Nat->St->Hp->Prop,(∃m,W 0 m (compStart n js σ) (aj H1 D (.lst [])))/\lR J g tt te D (fun H'=>Q (.ref D) H') W
section
variable {X:Cx} {pins:Po} {σ:St} {H3:Hp} {s3:Shared}
theorem N4{sc:Scope}{env:Env}{x:Str}{k:NameKind}(h:(relabel sc env).names.lookup x=some k):k = .local\/k = .globalImplicit\/(x,k)∈sc.names\/(x,NameKind.free)∈sc.names:=by
 have hm:=uH h;unfold relabel at hm;obtain⟨⟨n,k'⟩,hn,e⟩:=be.mp hm;dsimp only at e;split at e
 . rename_i c;cases e;simp only[dn,iV]at c;obtain⟨⟨c,_⟩,_⟩:=c;subst c;exact .inr (.inr (.inr hn))
 . cases e;exact .inr (.inr (.inl hn))
theorem adE{elt tg iter:Expr}{ifs:List Expr}{sc:Scope}{pos:Pos}{own cap:Ls}{js:List Nat}{g:TG}{tt:TT}{te:TE}{it C D:Addr}{fp:List Addr}{tn:Nat->Heap->Prop}{J:It}{h4:Heap}{tk:Nat}{m:Mv}
 {W:Nat->Nat->St->Hp->Prop} {Qd:Hp->Prop} {m0:Nat} (S:k7 X own cap js sc) (hc:X.calm=true) (I3:Inv X pins σ H3 s3) (T:oZ X.prog X.w X.K tg J fp it tn) (sr:tn 0 s3.heap) (f3:∀b∈fp,eZ X pins H3 b)
 (eC:C=s3.heap.objs.size) (k8:h4.Ns C m) (hk:∀b o,s3.heap.get? b=some o->h4.get? b=some o)
 (hg:PG (cL X (own++cap) sc s3 H3 C fp) tg g) (ht:gP (cL X (own++cap) sc s3 H3 C fp) ifs tt) (he:PE (cL X (own++cap) sc s3 H3 C fp) elt te)
 (w0:W 0 m0 (compStart own.length js σ) H3) (ask:lR J g tt te D Qd W) :
 codeAny (model X.prog X.w) X.A (.compStart (.ListComp elt [⟨tg,iter,ifs,0⟩] sc pos) 0 (.ref it) (.ref D) (compEnvC sc (df X.env sc.names []) C X.env))
  (fun r s'=>r = .ok .next/\∃m' H',s'.heap.Ns C m'/\s'.os=s3.os/\AllBare s'.gens/\Un (jN X.stack) fp H3 H' s3.heap s'.heap/\ce X.prog X.w H' s'.heap/\H' C=none/\Qd H') { s3 with heap:=h4,toks:=tk }:=by
 have GS:∀y∈sc.names,y.2 = .free->∃c,X.env.cells.lookup y.1=some c:=fun y hy e=>I3.ok.has _ (.inl (S.outer _ (S.frees y hy e)));have jW:∀(x:Str) (c:Addr),(cL X (own++cap) sc s3 H3 C fp).env.cells.lookup x=some c->X.env.cells.lookup x=some c:=fun x c e=>
  B2 GS (fun x c h=>by cases (show([]:List (Str×Addr)).lookup x=some c from h)) e
 have ltC:∀(x:Str) (c:Addr),X.env.cells.lookup x=some c->c<s3.heap.objs.size:=fun x c e=>by
  obtain⟨v,q⟩:=I3.cell x c e;exact q.lt
 have B4:∀b∈fp,b<s3.heap.objs.size:=fun b hb=>by
  obtain⟨o,e,_⟩:=T.obj 0 _ sr b hb;exact aZ e
 have sK:(cL X (own++cap) sc s3 H3 C fp).Ok:=by
  refine⟨I3.ok.mod,S.kind,I3.ok.glob,I3.ok.blt,Fw eC.symm,fun x y c e1 e2=>I3.ok.inj x y c (jW x c e1) (jW y c e2),fun x hx=>?_,(fun x c z _=>nomatch (show false=true from z)),I3.ok.hd,I3.ok.frames,.inl rfl,fun b hb=>?_,
   I3.bs,bS I3.ok.bsz I3.sz,fun b o e hb=>?_,fun b hb hs=>?_,I3.stack,I3.stkFree⟩
  . have kT:(relabel sc X.env).names.lookup x=some .cell\/(relabel sc X.env).names.lookup x=some .free:=hx;have hm:(x,NameKind.free)∈sc.names:=by
     rcases kT with z | z
     . rcases N4 z with q | q | q | q
       . cases q
       . cases q
       . exact absurd rfl (S.nocell _ q)
       . exact q
     . rcases N4 z with q | q | q | q
       . cases q
       . cases q
       . exact q
       . exact q
    exact Bh.mp (B3 hm)
  . refine⟨?_,fun x c e=>(f3 b hb).2.2.2.2.1 x c (jW x c e)⟩;show b≠C;rw[eC];exact bE (B4 b hb)
  . rcases(f3 b hb).2.2.2.1 with z | z
    . exact I3.ok.noex b o e z
    . have h1:b<X.base.objs.size:=aZ e;exact absurd (gJ h1 (bS I3.ok.bsz z)) (mU _)
  . obtain⟨_,f1,f2,_⟩:=f3 b hb
    rcases bw.mp (I3.stkSub b hs) with z | z
    . exact f1 z
    . exact f2 z
 have hCn:H3 C=none:=by rw[eC];exact I3.hok.fresh (aH _)
 have sl:js.length=cap.length:=by have:=fL List.length S.slots;simpa using this
 have I4:Inv (cL X (own++cap) sc s3 H3 C fp) [] (compStart own.length js σ) H3 { s3 with heap:=h4,toks:=tk }:=by
  refine⟨sK,rfl,I3.bare,Un.kept hk,⟨m,k8,fun i x v e1 e2 hv=>?_⟩,fun x c e=>?_,hCn,fun x c e=>I3.freeC x c (jW x c e),fun p hp=>?_,I3.hok.kept hk,?_⟩
  . have e1:(own++cap)[i]? = some x:=e1;unfold compStart at e2
    by_cases hi:i<own.length
    . rw[Mb (by simpa using hi),ar0,ap hi]at e2;cases e2
    . rw[FA (by omega)]at e1;rw[FA (by simpa using hi),UG,bN]at e2;obtain⟨j,hj⟩:∃j,js[i - own.length]? = some j:=by
       cases q:js[i - own.length]? with
       | none=>rw[q]at e2;cases e2
       | some j=>exact⟨j,rfl⟩
      rw[hj]at e2;have e2:(σ[j]?).join=some v:=eK e2;have e3:σ[j]? = some (some v):=by
       cases q:σ[j]? with
       | none=>rw[q]at e2;cases e2
       | some z=>rw[q]at e2;rw[show z=some v from e2]
      have hs:=fL (fun l=>l[i - own.length]?) S.slots;simp only[bN,hj,e1,lI]at hs;have hN:X.N[j]? = some x:=eK hs;have hx:x∈cap:=eN e1;obtain⟨m2,uX,qN⟩:=I3.loc;obtain⟨u,ru,lk⟩:=qN j x v hN e3 (.inr (.inl (S.outer x hx)));refine⟨u,ru,?_⟩
      rcases lk with⟨k1,_⟩ | ⟨_,c,hc1,cX⟩
      . rw[S.outer x hx]at k1;cases k1
      . have hv:BK (relabel sc X.env) x:=hv;have kd:(cL X (own++cap) sc s3 H3 C fp).env.kindOf x=some .cell\/(cL X (own++cap) sc s3 H3 C fp).env.kindOf x=some .free\/(cL X (own++cap) sc s3 H3 C fp).env.kindOf x=some .local:=by
         rcases hv with z | z | z
         . exact .inr (.inr z)
         . exact .inl z
         . exact .inr (.inl z)
        rcases kd with kd | kd | kd
        . obtain⟨c',eY⟩:=sK.has x (.inl kd);have:=jW x c' eY;rw[hc1]at this;cases this;exact .inr ⟨.inl kd,c,eY,cX.keeps hk⟩
        . obtain⟨c',eY⟩:=sK.has x (.inr kd);have:=jW x c' eY;rw[hc1]at this;cases this;exact .inr ⟨.inr kd,c,eY,cX.keeps hk⟩
        . have kd:(relabel sc X.env).names.lookup x=some .local:=kd;exact absurd kd (S.capk x hx)
  . obtain⟨v,q⟩:=I3.cell x c (jW x c e);exact⟨v,q.keeps hk⟩
  . have cC:p∈([]:Po):=hp;cases cC
  . show(compStart own.length js σ).length=(own++cap).length;unfold compStart;rw[bc,UG,au,bc,sl]
 have GU:∀{H':Hp},(∀b∈fp,H' b=none)->∀b∈fp,eZ (cL X (own++cap) sc s3 H3 C fp) [] H' b:=fun {H'} hn b hb=>by
  refine⟨hn b hb,?_,fun hs=>sK.exfs b hb hs,.inl hb,fun x c e=>(f3 b hb).2.2.2.2.1 x c (jW x c e),fun p hp=>?_⟩
  . show b≠C;rw[eC];exact bE (B4 b hb)
  . have cC:p∈([]:Po):=hp;cases cC
 have N5:tn 0 h4:=T.keep 0 _ _ sr fun b _ o e=>hk b o e;have loop:codeAny (model X.prog X.w) X.A (.compLoop (.ListComp elt [⟨tg,iter,ifs,0⟩] sc pos) 0 (.ref it) (.ref D) (compEnvC sc (df X.env sc.names []) C X.env))
  (fun r s'=>r = .ok .next/\∃m' H',s'.heap.Ns C m'/\s'.os=s3.os/\AllBare s'.gens/\Un (jN X.stack) fp H3 H' s3.heap s'.heap/\ce X.prog X.w H' s'.heap/\H' C=none/\Qd H') { s3 with heap:=h4,toks:=tk }:=by
  refine adC (fun n s'=>∃i σ' H',Inv (cL X (own++cap) sc s3 H3 C fp) [] σ' H' s'/\tn i s'.heap/\(∀b∈fp,H' b=none)/\W i n σ' H') ?_ m0 ⟨0,_,H3,I4,N5,fun b hb=>(f3 b hb).1,w0⟩;rintro n s' ⟨i,σ',H',J',dq,N6,w'⟩
  rcases ask i n σ' H' w' with⟨stop,qd⟩ | ⟨go,step⟩
  . refine thn (T.done (cL X (own++cap) sc s3 H3 C fp) rfl rfl rfl hc i [] s' σ' H' _ J' (GU N6) dq stop) fun r s1 adG=>adG.elim fun hr J1=>?_;subst hr;obtain⟨m1,hn1,_⟩:=J1.loc;exact⟨rfl,m1,H',hn1,J1.os,J1.bare,J1.base,J1.hok,J1.free,qd⟩
  . refine thn (T.item (cL X (own++cap) sc s3 H3 C fp) rfl rfl rfl hc i [] s' σ' H' _ J' (GU N6) dq go) fun r s1 adI=>adI.elim fun u adJ=>adJ.elim fun hr h1=>?_;subst hr;refine thn h1 fun _ s2 adK=>adK.elim fun x adL=>adL.elim fun H5 adM=>adM.elim fun J5 adN=>adN.elim fun r5 adO=>adO.elim fun y5 adP=>adP.elim fun su Gg=>?_;have J5':=J5.pinned (GU Gg) (T.obj _ _ su);refine dN (hg _ s2 σ' H5 x u _ J5' r5 (step x H5 y5)) (fun _ s6 adR=>adR.elim fun σ6 adS=>adS.elim fun H6 adT=>adT.elim fun J6 q6=>?_) (fun _ _ z=>z.elim);refine dN (ht _ s6 σ6 H6 _ J6 q6) (fun ok s7 adU=>adU.elim fun H7 adV=>adV.elim fun J7 q7=>?_) (fun _ _ z=>z.elim);have again:∀{s9:Shared} {H9:Hp} {m':Nat},Inv (cL X (own++cap) sc s3 H3 C fp) ([]++sq fp s2.heap) σ6 H9 s9->m'<n->W (i+1) m' σ6 H9 ->
     ∃m,m<n/\∃i σ' H',Inv (cL X (own++cap) sc s3 H3 C fp) [] σ' H' s9/\tn i s9.heap/\(∀b∈fp,H' b=none)/\W i m σ' H':=fun {s9 H9 m'} J9 hm w9=>by
     refine⟨m',hm,i+1,σ6,H9,J9.unpinned,T.keep _ _ _ su fun b hb o e=>(J9.pin (b,o) (iy _ (iy _ (qJ hb e)))).1,fun b hb=>?_,w9⟩;obtain⟨o,e,d⟩:=T.obj _ _ su b hb;exact(J9.pin (b,o) (iy _ (iy _ (qJ hb e)))).2.1
    cases ok with
    | false=>
     rw[ah bV]at q7 ⊢;obtain⟨m',hm,w7⟩:=q7;exact again J7 hm w7
    | true=>
     rw[ap rfl]at q7 ⊢;refine dN (he _ s7 σ6 H7 _ J7 q7) (fun y s8 adW=>adW.elim fun yv adX=>adX.elim fun H8 adY=>adY.elim fun J8 adZ=>adZ.elim fun r8 ad0=>ad0.elim fun ys ad1=>ad1.elim fun nv ad2=>ad2.elim fun hz ad3=>ad3.elim fun m' ad4=>ad4.elim fun hm w8=>?_) (fun _ _ z=>z.elim);refine dN (BW (X:=cL X (own++cap) sc s3 H3 C fp) _ s8 σ6 H8 (.ref D) [yv] (.ref D) [y] (fun v H9=>H9=aj H8 D (.lst (ys++[yv]))) J8 rfl (.cons r8 .nil) ⟨D,ys,yv,rfl,rfl,nv,hz,rfl⟩) (fun _ s9 ad5=>ad5.elim fun _ ad6=>ad6.elim fun H9 ad7=>ad7.elim fun J9 ad8=>ad8.elim fun _ eH=>?_) (fun _ _ z=>z.elim);subst eH;exact again J9 hm w8
 exact codeAny_compStart_list loop (T.self X.A 0 _ _ _ N5 loop)
theorem N7{elt tg iter:Expr}{ifs:List Expr}{sc:Scope}{pos:Pos}{own cap:Ls}{js:List Nat}{g:TG}{tt:TT}{te:TE}{it:Addr}{fp:List Addr}{tn:Nat->Heap->Prop}{J:It}{H2:Hp}{s2:Shared}{use:Option (Value->Sem Unit)}{Qr:VP}{Er:VP}
 {Q:V->Hp->Prop} (S:k7 X own cap js sc) (hc:X.calm=true) (I2:Inv X pins σ H2 s2) (T:oZ X.prog X.w X.K tg J fp it tn) (iC:tn 0 s2.heap) (f2:∀b∈fp,eZ X pins H2 b)
 (hg:∀s₀ H₀ C ex,PG (cL X (own++cap) sc s₀ H₀ C ex) tg g) (ht:∀s₀ H₀ C ex,gP (cL X (own++cap) sc s₀ H₀ C ex) ifs tt) (he:∀s₀ H₀ C ex,PE (cL X (own++cap) sc s₀ H₀ C ex) elt te)
 (q2:∀D,H2 D=none->∃W:Nat->Nat->St->Hp->Prop,(∃m,W 0 m (compStart own.length js σ) (aj H2 D (.lst [])))/\lR J g tt te D (fun H'=>Q (.ref D) H') W)
 (fin:∀(D C:Addr) (H':Hp) (s':Shared) (m':Mv),s2.heap.objs.size<C->s'.heap.Ns C m'->Inv X pins σ H' s'->H' C=none->Q (.ref D) H'->compPost (model X.prog X.w) X.A Er use Qr (.ref D) C (.ok .next) s') :
 wpAny (model X.prog X.w) X.A (newList []) (fun acc s₃=>wpAny (model X.prog X.w) X.A (newFunctionEnv sc X.env.globals (df X.env sc.names []) [] X.env.qual none .none (some X.env)) (fun N8 s₄=>
  codeAny (model X.prog X.w) X.A (.compStart (.ListComp elt [⟨tg,iter,ifs,0⟩] sc pos) 0 (.ref it) acc { N8 with scope:=relabel sc X.env }) (compPost (model X.prog X.w) X.A Er use Qr acc N8.locals) s₄) Er s₃) Er s2:=by
 have N9:H2 s2.heap.objs.size=none:=I2.fresh;obtain⟨W,⟨m0,w0⟩,ask⟩:=q2 _ N9;have I3:=I2.lnew (ys:=[]) (its:=[]) (t':=s2.toks) .nil (dO _);have B4:∀b∈fp,b<s2.heap.objs.size:=fun b hb=>by
  obtain⟨o,e,_⟩:=T.obj 0 _ iC b hb;exact aZ e
 have f3:∀b∈fp,eZ X pins (aj H2 s2.heap.objs.size (.lst [])) b:=fun b hb=>by
  refine⟨?_,(f2 b hb).2⟩;rw[aL (bE (B4 b hb))];exact(f2 b hb).1
 refine r6 (hd:=by size_fits) (wpAny_newFunctionEnv S.nocell (by intro y hy;simp at hy) (fun h4 k8 xV=>?_) S.kind);dsimp only at k8 xV ⊢;have hkp:∀b o,(s2.heap.push { cls:=.type "list",dict:=none,data:=.seq ([]:Lw).toArray }).get? b=some o->h4.get? b=some o:=fun b o e=>
  xV.extBut b o (bE (aZ e)) (bq _ e)
 have sr:tn 0 (s2.heap.push { cls:=.type "list",dict:=none,data:=.seq ([]:Lw).toArray }):=T.keep 0 _ _ iC fun b _ o e=>bq _ e;refine rY (adE (s3:={ s2 with heap:=s2.heap.push { cls:=.type "list",dict:=none,data:=.seq ([]:Lw).toArray } }) (tk:=s2.toks+([]:List (Str×Value)).length) S hc I3 T sr f3 rfl k8 hkp (hg _ _ _ _) (ht _ _ _ _) (he _ _ _ _) w0 ask) fun r s' hr=>?_;obtain⟨er,m',H',m7,Gv,aea,un',xW,xY,qd⟩:=hr;subst er;have un1:Un (jN X.stack) fp H2 (aj H2 s2.heap.objs.size (.lst [])) s2.heap (s2.heap.push { cls:=.type "list",dict:=none,data:=.seq ([]:Lw).toArray }):=Un.laid (fun b o e=>bq _ e) (aH _) N9;refine fin _ _ H' s' m' ?_ m7 (I2.call' (s':=s') (ch:=fp) Gv (un1.trans un') xW aea (fun b hb=>⟨(f2 b hb).2.2.2.1,(f2 b hb).2.1,(f2 b hb).2.2.2.2.1,(f2 b hb).2.2.2.2.2⟩)) xY qd;show s2.heap.objs.size<(s2.heap.push { cls:=.type "list",dict:=none,data:=.seq ([]:Lw).toArray }).objs.size;rw[oN];exact xb _
theorem Inv.letGo{H:Hp}{s:Shared}{C:Addr}{h':Heap}(I:Inv X pins σ H s)(sb:Heap.SameBut C s.heap h')(hn:H C=none)(h0:X.s₀.heap.objs.size<=C)(h1:C≠X.env.locals)(h2:∀x c,X.env.cells.lookup x=some c->c≠C)(h3:∀p∈X.pn++pins,p.1≠C) :
 Inv X pins σ H { s with heap:=h' }:=by
 refine I.call' (s':={ s with heap:=h' }) (ch:=[C]) rfl ⟨fun b o e _ _ hb=>?_,fun b o e _ _ hb=>⟨o.slots,?_⟩,fun _ _ _ n _=>n,fun b o e hb=>⟨o,?_⟩,fun _ _ q=>q,fun _ _ _ q=>q,fun _ ps q=>⟨#[],by rw[q];simp⟩⟩ (adD I.hok sb hn) I.bare (fun b hb=>?_)
 . exact(sb.2 b (by simpa using hb)).trans e
 . exact(sb.2 b (by simpa using hb)).trans e
 . exact(sb.2 b (by simpa using hb)).trans e
 . have:b=C:=by simpa using hb
   subst this;exact⟨.inr h0,h1,h2,h3⟩
theorem Inv.goes{H2 H:Hp}{s2 s:Shared}{σ':St}{C:Addr}{h':Heap}(I2:Inv X pins σ' H2 s2)(hC:s2.heap.objs.size<C)(I:Inv X pins σ H s)(sb:Heap.SameBut C s.heap h')(hn:H C=none):Inv X pins σ H { s with heap:=h' }:=by
 refine I.letGo sb hn (hJ (Mm I2.sz hC)) (ki (xc I2.lt hC)) (fun x c e z=>?_) (fun p hp z=>?_)
 . obtain⟨v,q⟩:=I2.cell x c e;exact absurd (xc q.lt hC) (by rw[z];exact mU _)
 . exact absurd (xc (aZ (I2.pin p hp).1) hC) (by rw[z];exact mU _)
theorem k7.clos{own cap:Ls}{js:List Nat}{sc:Scope}(S:k7 X own cap js sc)(ok:X.Ok):closureFor sc X.env=pure (df X.env sc.names []):=
 N3 fun y hy e=>ok.has _ (.inl (S.outer _ (S.frees y hy e)))
theorem dw{elt tg iter:Expr}{ifs:List Expr}{sc:Scope}{pos:Pos}(own cap:Ls)(js:List Nat){wi:TI}{g:TG}{tt:TT}{te:TE}(S:k7 X own cap js sc)(hc:X.calm=true)(hi:PI X tg iter wi)
 (hg:∀s₀ H₀ C ex,PG (cL X (own++cap) sc s₀ H₀ C ex) tg g) (ht:∀s₀ H₀ C ex,gP (cL X (own++cap) sc s₀ H₀ C ex) ifs tt) (he:∀s₀ H₀ C ex,PE (cL X (own++cap) sc s₀ H₀ C ex) elt te)
 (hs:∀x,foldedSetIterable iter X.env x=pure x:=by intro _;rfl):PE X (.ListComp elt [⟨tg,iter,ifs,0⟩] sc pos) (GR wi own.length js g tt te):=by
 intro pins s σ H Q I h;rw[eval_ListComp];refine ar5 (use:=none) rfl hs (S.clos I.ok) S.kind S.names (thn (hi pins s σ H _ I h) fun v s1 h1=>thn h1 fun BO s2 h2=>?_);obtain⟨it,fp,tn,J,H2,e,I2,T,iC,f2,q2⟩:=h2;subst e;refine N7 (Q:=Q) S hc I2 T iC f2 hg ht he q2 fun D C H' s' m' hC m7 I' xY qd=>?_;exact⟨m',m7,fun h' sb=>⟨.ref D,H',I2.goes hC I' sb xY,rfl,qd⟩⟩
theorem ny{i:Nat}{x:Str}{elt tg iter:Expr}{ifs:List Expr}{sc:Scope}{pos px ps:Pos}(own cap:Ls)(js:List Nat){wi:TI}{g:TG}{tt:TT}{te:TE}(hN:X.N.Nodup)(hx:X.N[i]? = some x)(hl:X.env.scope.names.lookup x=some .local)(S:k7 X own cap js sc)(hc:X.calm=true)
 (hi:PI X tg iter wi) (hg:∀s₀ H₀ C ex,PG (cL X (own++cap) sc s₀ H₀ C ex) tg g) (ht:∀s₀ H₀ C ex,gP (cL X (own++cap) sc s₀ H₀ C ex) ifs tt) (he:∀s₀ H₀ C ex,PE (cL X (own++cap) sc s₀ H₀ C ex) elt te)
 (hsw:swapsWith (.ListComp elt [⟨tg,iter,ifs,0⟩] sc pos) (some (.Name x px)) ps.line X.env=pure true:=by rfl)
 (hs:∀x,foldedSetIterable iter X.env x=pure x:=by intro _;rfl):PS X (.Assign [.Name x px] (.ListComp elt [⟨tg,iter,ifs,0⟩] sc pos) ps) (Gd (GR wi own.length js g tt te) (qH i)):=by
 intro pins s σ H D I h;rw[exec_Assign_Name_used _ _ _ _ hsw];refine ac (UD (ac ?_));show wpAny _ X.A (do let _ ←comprehension (.ListComp elt [⟨tg,iter,ifs,0⟩] sc pos) sc X.env _ (newList []) false (eval iter X.env) (some (assign (.Name x px) X.env))) _ _ s;refine ac (dN (ar5 (use:=some (assign (.Name x px) X.env)) (Q:=fun _ s'=>∃σ' H',Inv X pins σ' H' s'/\D.nx σ' H') rfl hs (S.clos I.ok) S.kind S.names
  (thn (hi pins s σ H _ I h) fun v s1 h1=>thn h1 fun BO s2 h2=>?_)) (fun _ s' hq=>aq (aq hq)) fun _ _ e=>e)
 obtain⟨it,fp,tn,J,H2,e,I2,T,iC,f2,q2⟩:=h2;subst e;refine N7 (Q:=fun v H1=>qH i v σ H1 D.nx) S hc I2 T iC f2 hg ht he q2 fun D' C H' s' m' hC m7 I' xY qd=>?_;show wpAny _ X.A (assign (.Name x px) X.env (.ref D')) _ _ s';refine wpAny_assign_Name (M8 (v:=.ref D') I' hN hx (.inl hl) rfl (fun qL I'' aef=>aef.elim fun a aeg=>aeg.elim fun sb ha=>?_) (.inr hl));have ne:C≠a:=by
  rcases ha with z | z
  . rw[z];exact ki (xc I2.lt hC)
  . obtain⟨v,q⟩:=I2.cell x a z;exact ki (xc q.lt hC)
 exact⟨m',m7.sameBut sb ne,fun h' sb'=>⟨_,H',I2.goes hC I'' sb' xY,qd⟩⟩
end
section
variable {X:Cx} {e k:Expr} {te tk:TE} {pos p2:Pos}
end
section
variable {X:Cx} {a b c d:Expr} {ta tb tc td:TE} {pos:Pos}
end
abbrev iD (H:Hp) (o:HO) (Q:V->Hp->Prop):Prop:=∀p H',H p=none->ag H H'->H' p=some o->Q (.ref p) H'
theorem iD.at{H:Hp}{o:HO}{Q:V->Hp->Prop}(h:iD H o Q):∀p,H p=none->Q (.ref p) (aj H p o):=fun p hp=>h p _ hp (jV hp) aP
theorem bK.weak{X:Cx}{f:Value->Value->Sem Value}{r r':R2}(h:bK X f r)(w:∀x y H Q,r' x y H Q->r x y H Q):bK X f r':=fun pins s σ H x y v u Q I rx ry q=>h pins s σ H x y v u Q I rx ry (w _ _ _ _ q)
theorem gt.weak{X:Cx}{f:Value}{r r':Lv->Hp->VK->Prop}(h:gt X f r)(w:∀xs H Q,r' xs H Q->r xs H Q):gt X f r':=fun pins s σ H xs us Q I rx q=>h pins s σ H xs us Q I rx (w _ _ _ q)
theorem vc.weak{X:Cx}{r r':V->Option Int->Option Int->Hp->VK->Prop}(h:vc X r)(w:∀x l u H Q,r' x l u H Q->r x l u H Q):vc X r':=fun pins s σ H x v vl vu lo hi sl Q I rx hs pl pu q=>h pins s σ H x v vl vu lo hi sl Q I rx hs pl pu (w _ _ _ _ _ q)
section
variable {X:Cx} {e k:Expr} {es:List Expr} {te tk:TE} {t:TA} {pos p2:Pos}
def aei:R2:=fun x y H Q=>∃l b xs zs,x = .ref l/\y = .ref b/\H l=some (.lst xs)/\H b=some (.lst zs)/\xs.length+zs.length<=sizeLine/\iD H (.lst (xs++zs)) Q
theorem xZ:bK X (binaryOp .Add) aei:=abv.weak fun x y H Q aej=>aej.elim fun l aek=>aek.elim fun b ael=>ael.elim fun xs aem=>aem.elim fun zs aen=>aen.elim fun a1 aeo=>aeo.elim fun a2 aep=>aep.elim fun a3 aeq=>aeq.elim fun a4 aer=>aer.elim fun a5 a6=>⟨l,b,xs,zs,a1,a2,a3,a4,a5,a6.at⟩
def aes(K:Fg):V->Option Int->Option Int->Hp->VK->Prop:=fun x lo hi H Q=>∃a xs,x = .ref a/\af K H a xs/\iD H (.lst (o6 xs lo hi)) Q
theorem x6:vc X (aes X.K):=aba.weak fun x l u H Q aet=>aet.elim fun a aeu=>aeu.elim fun xs aev=>aev.elim fun a1 aew=>aew.elim fun a2 a3=>⟨a,xs,a1,a2,a3.at⟩
theorem sL:gt X (.type "list") (fun xs H Q=>∃p ys,xs = [.ref p]/\(af X.K H p ys\/aw X.K H p ys)/\iD H (.lst ys) Q):=xL.weak fun xs H Q aex=>aex.elim fun p aey=>aey.elim fun ys aez=>aez.elim fun a1 aeA=>aeA.elim fun a2 a3=>⟨p,ys,a1,a2,a3.at⟩
def aeB(t:TA):TE:=fun σ H Q=>t σ H fun xs H1=>xs.length<=sizeLine/\iD H1 (.tup xs) Q
def aeC(t:TA):TE:=fun σ H Q=>t σ H fun xs H1=>xs.length<=sizeLine/\iD H1 (.lst xs) Q
theorem PA.thn{t:TA}(h:PA X es t){A:Hp->Prop}{F:VK->Lv->Hp->Prop}{G:VK->Lv->Hp->Prop}(w:∀Q xs H,F Q xs H->G Q xs H):PA X es (fun σ H R=>∃Q:VK,t σ H (F Q)/\R=G Q):=by
 intro pos pins s σ H R I ⟨Q,q,e⟩;subst e;exact L2.thn (h pos pins s σ H _ I q) fun us s1 aeD=>aeD.elim fun vs aeE=>aeE.elim fun H1 aeF=>aeF.elim fun I1 aeG=>aeG.elim fun r1 q1=>⟨vs,H1,I1,r1,w _ _ _ q1⟩
theorem dz{x1}(h:PA X es t):PE X (.Tuple es x1 pos) (aeB t):=by
 intro pins s σ H Q I q;exact Nv (PA.thn (A:=fun _=>True) (F:=fun Q xs H1=>xs.length<=sizeLine/\iD H1 (.tup xs) Q) (G:=fun Q xs H1=>xs.length<=sizeLine/\∀p,H1 p=none->Q (.ref p) (aj H1 p (.tup xs))) h (fun Q xs H aeH=>aeH.elim fun a b=>⟨a,b.at⟩)) pins s σ H Q I ⟨Q,q,rfl⟩
theorem eA(h:PA X es t):PE X (.List es pos) (aeC t):=by
 intro pins s σ H Q I q;exact ZF (PA.thn (A:=fun _=>True) (F:=fun Q xs H1=>xs.length<=sizeLine/\iD H1 (.lst xs) Q) (G:=fun Q xs H1=>xs.length<=sizeLine/\∀p,H1 p=none->Q (.ref p) (aj H1 p (.lst xs))) h (fun Q xs H aeI=>aeI.elim fun a b=>⟨a,b.at⟩)) pins s σ H Q I ⟨Q,q,rfl⟩
end
section
variable {g:TG} {tt:TT} {te:TE} {H1:Hp} {Q:Addr->Hp->Prop}
theorem Ob{lo:Int}{n:Nat}{σ0:St}(S:St->Prop)(P:Nat->Lv->Hp->Prop)(s0:S σ0)(st:∀D,H1 D=none->P 0 [] (aj H1 D (.lst [])))
 (turn:∀D i ys σ H (k:St->V->Hp->Prop) (k':St->Hp->Prop),H1 D=none->i<n->S σ->H D=some (.lst ys)->ag H1 H->P i ys H ->
  (∀σ3 y H5,S σ3->ag H H5->ys.length<sizeLine->P (i+1) (ys++[y]) (aj H5 D (.lst (ys++[y])))->k σ3 y H5)->(∀σ3 H4,S σ3->ag H H4->P (i+1) ys H4->k' σ3 H4) ->
  g (.int (lo+i)) σ H fun σ3 H3=>tt σ3 H3 fun ok H4=>if ok=true then te σ3 H4 (k σ3) else k' σ3 H4)
 (done:∀D ys H,H1 D=none->H D=some (.lst ys)->ag H1 H->P n ys H->Q D H) :
 ∀D,H1 D=none->∃W:Nat->Nat->St->Hp->Prop,(∃m,W 0 m σ0 (aj H1 D (.lst [])))/\lR (qI lo n) g tt te D (fun H'=>Q D H') W:=by
 intro D hD;refine⟨fun i m σ H=>m=n - i/\i<=n/\S σ/\∃ys,H D=some (.lst ys)/\ag H1 H/\P i ys H,⟨n,by simp,dO _,s0,[],aP,jV hD,st D hD⟩,?_⟩;rintro i m σ H ⟨rfl,hi,hS,ys,hd,hs,hp⟩
 by_cases aD:i<n
 . refine .inr ⟨aD,fun x H2 hy=>?_⟩;obtain⟨e1,e2⟩:=hy;subst e1 e2;exact turn D i ys σ _ (fun σ3 y H5=>∃ys,H5 D=some (.lst ys)/\ys.length<sizeLine/\∃m',m'<n - i/\(m'=n - (i+1)/\i+1<=n/\S σ3/\∃zs,aj H5 D (.lst (ys++[y])) D=some (.lst zs)/\ag H1 (aj H5 D (.lst (ys++[y])))/\P (i+1) zs (aj H5 D (.lst (ys++[y])))))
    (fun σ3 H4=>∃m',m'<n - i/\(m'=n - (i+1)/\i+1<=n/\S σ3/\∃zs,H4 D=some (.lst zs)/\ag H1 H4/\P (i+1) zs H4)) hD aD hS hd hs hp
    (fun σ3 y H5 a1 a2 a3 a4=>⟨ys,a2 _ _ hd,a3,n - (i+1),by omega,rfl,aD,a1,ys++[y],aP,qS (hs.trans a2) hD,a4⟩)
    (fun σ3 H4 a1 a2 a3=>⟨n - (i+1),by omega,rfl,aD,a1,ys,a2 _ _ hd,hs.trans a2,a3⟩)
 . have e:i=n:=by omega
   subst e;exact .inl ⟨aH _,done D ys H hD hd hs hp⟩
theorem GV{K:Fg}{a:Addr}{xs:Lv}{σ0:St}(hx:af K H1 a xs)(S:St->Prop)(P:Nat->Lv->Hp->Prop)(s0:S σ0)(st:∀D,H1 D=none->P 0 [] (aj H1 D (.lst [])))
 (turn:∀D i x ys σ H (k:St->V->Hp->Prop) (k':St->Hp->Prop),H1 D=none->xs[i]? = some x->S σ->H D=some (.lst ys)->ag H1 H->P i ys H ->
  (∀σ3 y H5,S σ3->ag H H5->ys.length<sizeLine->P (i+1) (ys++[y]) (aj H5 D (.lst (ys++[y])))->k σ3 y H5)->(∀σ3 H4,S σ3->ag H H4->P (i+1) ys H4->k' σ3 H4) ->
  g x σ H fun σ3 H3=>tt σ3 H3 fun ok H4=>if ok=true then te σ3 H4 (k σ3) else k' σ3 H4)
 (done:∀D ys H,H1 D=none->H D=some (.lst ys)->ag H1 H->P xs.length ys H->Q D H) :
 ∀D,H1 D=none->∃W:Nat->Nat->St->Hp->Prop,(∃m,W 0 m σ0 (aj H1 D (.lst [])))/\lR (nh K a) g tt te D (fun H'=>Q D H') W:=by
 intro D hD;refine⟨fun i m σ H=>m=xs.length - i/\i<=xs.length/\S σ/\∃ys,H D=some (.lst ys)/\ag H1 H/\P i ys H,⟨xs.length,by simp,dO _,s0,[],aP,jV hD,st D hD⟩,?_⟩;rintro i m σ H ⟨rfl,hi,hS,ys,hd,hs,hp⟩;have q:af K H a xs:=ag.seq hs hx
 by_cases aD:i<xs.length
 . refine .inr ⟨⟨xs,xs[i],q,by simp[aD]⟩,fun x H2 hy=>?_⟩;obtain⟨e1,e2⟩:=hy;subst e1;exact turn D i x ys σ _ (fun σ3 y H5=>∃ys,H5 D=some (.lst ys)/\ys.length<sizeLine/\∃m',m'<xs.length - i/\(m'=xs.length - (i+1)/\i+1<=xs.length/\S σ3/\∃zs,aj H5 D (.lst (ys++[y])) D=some (.lst zs)/\ag H1 (aj H5 D (.lst (ys++[y])))/\P (i+1) zs (aj H5 D (.lst (ys++[y])))))
    (fun σ3 H4=>∃m',m'<xs.length - i/\(m'=xs.length - (i+1)/\i+1<=xs.length/\S σ3/\∃zs,H4 D=some (.lst zs)/\ag H1 H4/\P (i+1) zs H4)) hD (e2 xs q) hS hd hs hp
    (fun σ3 y H5 a1 a2 a3 a4=>⟨ys,a2 _ _ hd,a3,xs.length - (i+1),by omega,rfl,aD,a1,ys++[y],aP,qS (hs.trans a2) hD,a4⟩)
    (fun σ3 H4 a1 a2 a3=>⟨xs.length - (i+1),by omega,rfl,aD,a1,ys,a2 _ _ hd,hs.trans a2,a3⟩)
 . have e:i=xs.length:=by omega
   subst e;exact .inl ⟨⟨xs,q,aH _⟩,done D ys H hD hd hs hp⟩
theorem vj{lo:Int}{n:Nat}{σ0:St}(S:St->Prop)(P:Nat->Lv->Hp->Prop)(s0:S σ0)(st:∀D,H1 D=none->P 0 [] (aj H1 D (.lst [])))
 (turn:∀D i ys σ H (k:St->V->Hp->Prop),H1 D=none->i<n->S σ->H D=some (.lst ys)->ag H1 H->P i ys H ->
  (∀σ3 y H5,S σ3->ag H H5->ys.length<sizeLine->P (i+1) (ys++[y]) (aj H5 D (.lst (ys++[y])))->k σ3 y H5)->g (.int (lo+i)) σ H fun σ3 H3=>te σ3 H3 (k σ3))
 (done:∀D ys H,H1 D=none->H D=some (.lst ys)->ag H1 H->P n ys H->Q D H) :
 ∀D,H1 D=none->∃W:Nat->Nat->St->Hp->Prop,(∃m,W 0 m σ0 (aj H1 D (.lst [])))/\lR (qI lo n) g sJ te D (fun H'=>Q D H') W:=
 Ob S P s0 st (fun D i ys σ H k k' a1 a2 a3 a4 a5 a6 a7 _=>turn D i ys σ H k a1 a2 a3 a4 a5 a6 a7) done
theorem x9{K:Fg}{a:Addr}{xs:Lv}{σ0:St}(hx:af K H1 a xs)(S:St->Prop)(P:Nat->Lv->Hp->Prop)(s0:S σ0)(st:∀D,H1 D=none->P 0 [] (aj H1 D (.lst [])))
 (turn:∀D i x ys σ H (k:St->V->Hp->Prop),H1 D=none->xs[i]? = some x->S σ->H D=some (.lst ys)->ag H1 H->P i ys H ->
  (∀σ3 y H5,S σ3->ag H H5->ys.length<sizeLine->P (i+1) (ys++[y]) (aj H5 D (.lst (ys++[y])))->k σ3 y H5)->g x σ H fun σ3 H3=>te σ3 H3 (k σ3))
 (done:∀D ys H,H1 D=none->H D=some (.lst ys)->ag H1 H->P xs.length ys H->Q D H) :
 ∀D,H1 D=none->∃W:Nat->Nat->St->Hp->Prop,(∃m,W 0 m σ0 (aj H1 D (.lst [])))/\lR (nh K a) g sJ te D (fun H'=>Q D H') W:=
 GV hx S P s0 st (fun D i x ys σ H k k' a1 a2 a3 a4 a5 a6 a7 _=>turn D i x ys σ H k a1 a2 a3 a4 a5 a6 a7) done
end
end L2
namespace Lcp
open PySem
end Lcp
namespace L2
open PySem PySem.Spec PyProof.Rows
def ya(xs:Ls)(lo hi:Option Int):Ls:=(xs.drop (HT.fe xs.length 0 lo)).take (HT.fe xs.length xs.length hi - HT.fe xs.length 0 lo)
theorem B5(xs:Ls)(lo hi:Option Int):o6 (xs.map V.str) lo hi=(ya xs lo hi).map V.str:=by
 unfold o6 ya;rw[au,UM,List.map_drop]
theorem GW{xs:Ls}{k:Int}(h:0<=k):ya xs none (some k)=xs.take k.toNat:=by
 obtain⟨n,rfl⟩:∃n:Nat,k=n:=⟨k.toNat,by omega⟩;unfold ya;rw[HT.aaH,HT.GB,List.drop_zero,Nat.sub_zero];exact List.take_eq_take_iff.mpr (by simp)
theorem yb{xs:Ls}{r:Int}(h0:0<=r)(h1:r<xs.length):∃z,bT (xs.map V.str) r=some (V.str z)/\xs[r.toNat]? = some z:=by
 obtain⟨v,e,e2⟩:=vi (xs:=xs.map V.str) h0 (by rw[au];exact h1);rw[bN]at e2;cases q:xs[r.toNat]? with
 | none=>rw[q]at e2;cases e2
 | some z=>
  rw[q]at e2;cases e2;exact⟨z,e,rfl⟩
theorem Od(xs:Ls)(y:Str):xs.map V.str++[V.str y]=(xs++[y]).map V.str:=by rw[dU];rfl
theorem kz{n:Nat}(h:n<=1000):n<=sizeLine:=hJ (bj h)
end L2
namespace Lcp
open PySem L2
end Lcp
namespace L2
open PySem PySem.Spec PyProof.Rows Lcp
end L2
namespace L2
open PySem PySem.Spec PyProof.Rows
section
variable {X:Cx}
end
section
variable {X:Cx} {K:Fg}
theorem GX(K:Fg)(h:X.K=K:=by rfl):ve X (NE K):=h▸gO
theorem lS(K:Fg)(h:X.K=K:=by rfl):ve X (NF K):=h▸bO
theorem Oe(K:Fg)(h:X.K=K:=by rfl):bK X (compareOp .In) (NH K false):=h▸xK
def aeJ(K:Fg):Lv->Hp->VK->Prop:=fun xs H Q=>∃p ys,xs = [.ref p]/\(af K H p ys\/aw K H p ys)/\Q (.int ys.length) H
theorem aeK(K:Fg)(h:X.K=K:=by rfl):gt X (.builtin "len") (aeJ K):=by subst h;exact gy
end
end L2
namespace Lcp
open PySem L2
end Lcp
namespace L2
open PySem PySem.Spec PyProof.Rows
section
variable {X:Cx} {pins:Po} {σ:St} {H:Hp} {s:Shared}
theorem Inv.rehp{H':Hp}(I:Inv X pins σ H s)(h0:∀b,H b=none->H' b=none)(ht:∀b xs,H b=some (.tup xs)->H' b=some (.tup xs))(hf:∀b o u,X.H₀ b=some (.frz o u)->H' b=some (.frz o u))
 (hb:∀b ps,H b=some (.tbl ps)->H' b=some (.tbl ps)) (hok:ce X.prog X.w H' s.heap):Inv X pins σ H' s:=
 ⟨I.ok,I.os,I.bare,⟨I.base.keep,I.base.slot,fun b o e n hx=>h0 b (I.base.free b o e n hx),I.base.there,fun b xs e=>ht b xs (I.base.tups b xs e),hf,fun b ps e=>(I.base.tbls b ps e).elim fun m q=>⟨m,hb _ _ q⟩⟩,I.loc,I.cell,h0 _ I.free,
  fun x c e=>h0 _ (I.freeC x c e),fun p hp=>⟨(I.pin p hp).1,h0 _ (I.pin p hp).2.1,(I.pin p hp).2.2⟩,hok,I.len⟩
theorem Inv.freeze{d:Addr}{kvs:List (aN×V)}{o:Obj}(I:Inv X pins σ H s)(e:H d=some (.dK kvs))(ho:s.heap.get? d=some o):Inv X pins σ (aj H d (.frz o (.dK kvs))) s:=by
 have ne:∀b u,H b=some u->(∀ks,u≠.dK ks)->b≠d:=fun b u q hu z=>by rw[z,e]at q;cases q;exact hu _ rfl
 refine I.rehp (fun b q=>?_) (fun b xs q=>?_) (fun b o' u q=>?_) (fun b ps q=>?_) fun b u q=>?_
 . rw[aL (fun z=>by rw[z,e]at q;cases q)];exact q
 . rw[aL (ne b _ q (by intro ks z;cases z))];exact q
 . have q:=I.base.frzs b o' u q;rw[aL (ne b _ q (by intro ks z;cases z))];exact q
 . rw[aL (ne b _ q (by intro ks z;cases z))];exact q
 . have up:∀{c:Addr} {w:HO},H c=some w->(∀ks,w≠.dK ks)->aj H d (.frz o (.dK kvs)) c=some w:=fun {c w} hc hw=>by rw[aL (ne c _ hc hw)];exact hc
   by_cases z:b=d
   . subst z;rw[aP]at q;cases q;exact⟨ho,(I.hok b _ e).stay (fun _ _ _ q=>q) (fun c hc=>up hc (by intro ks z;cases z)) fun c xs hc=>up hc (by intro ks z;cases z)⟩
   . rw[aL z]at q;exact(I.hok b _ q).stay (fun _ _ _ q=>q) (fun c hc=>up hc (by intro ks z;cases z)) fun c xs hc=>up hc (by intro ks z;cases z)
theorem Inv.thaw{d:Addr}{kvs:List (aN×V)}{o:Obj}(I:Inv X pins σ H s)(e:H d=some (.frz o (.dK kvs)))(hz:∀o' u,X.H₀ d≠some (.frz o' u)):Inv X pins σ (aj H d (.dK kvs)) s:=by
 have ne:∀b u,H b=some u->(∀o' u',u≠.frz o' u')->b≠d:=fun b u q hu z=>by rw[z,e]at q;cases q;exact hu _ _ rfl
 have up:∀{c:Addr} {w:HO},H c=some w->(∀o' u',w≠.frz o' u')->aj H d (.dK kvs) c=some w:=fun {c w} hc hw=>by rw[aL (ne c _ hc hw)];exact hc
 refine I.rehp (fun b q=>?_) (fun b xs q=>up q (by intro _ _ z;cases z)) (fun b o' u q=>?_) (fun b ps q=>up q (by intro _ _ z;cases z)) fun b u q=>?_
 . rw[aL (fun z=>by rw[z,e]at q;cases q)];exact q
 . have nb:b≠d:=fun z=>hz o' u (z▸q);rw[aL nb];exact I.base.frzs b o' u q
 . by_cases z:b=d
   . subst z;rw[aP]at q;cases q;exact(show bG X.prog X.w H s.heap b (.dK kvs) from (show bG X.prog X.w H s.heap b (.frz o (.dK kvs)) from I.hok b _ e).2).stay (fun _ _ _ q=>q) (fun c hc=>up hc (by intro _ _ z;cases z)) fun c xs hc=>up hc (by intro _ _ z;cases z)
   . rw[aL z]at q;exact(I.hok b _ q).stay (fun _ _ _ q=>q) (fun c hc=>up hc (by intro _ _ z;cases z)) fun c xs hc=>up hc (by intro _ _ z;cases z)
theorem Inv.track{a:Addr}{o:HO}(I:Inv X pins σ H s)(hn:H a=none)(h0:X.s₀.heap.objs.size<=a)(h1:a≠X.env.locals)(h2:∀x c,X.env.cells.lookup x=some c->c≠a)(h3:∀p∈X.pn++pins,p.1≠a)
 (new:bG X.prog X.w (aj H a o) s.heap a o):Inv X pins σ (aj H a o) s:=by
 have up:∀{c:Addr} {w:HO},H c=some w->aj H a o c=some w:=fun {c w} hc=>by rw[aL (bg hc hn)];exact hc
 refine⟨I.ok,I.os,I.bare,⟨I.base.keep,I.base.slot,fun b ob e n hx=>?_,I.base.there,fun b xs e=>up (I.base.tups b xs e),fun b o' u e=>up (I.base.frzs b o' u e),fun b ps e=>(I.base.tbls b ps e).elim fun m q=>⟨m,up q⟩⟩,I.loc,I.cell,?_,fun x c e=>?_,
  fun p hp=>⟨(I.pin p hp).1,?_,(I.pin p hp).2.2⟩,fun b u q=>?_,I.len⟩
 . rw[aL (bE (gJ (aZ e) h0))];exact I.base.free b ob e n hx
 . rw[aL (eM h1)];exact I.free
 . rw[aL (h2 x c e)];exact I.freeC x c e
 . rw[aL (h3 p hp)];exact(I.pin p hp).2.1
 . by_cases z:b=a
   . subst z;rw[aP]at q;cases q;exact new
   . rw[aL z]at q;exact(I.hok b _ q).stay (fun _ _ _ q=>q) (fun c hc=>up hc) fun c xs hc=>up hc
end
section
variable {X:Cx}
theorem yc:gt X (.type "dict") (fun xs H Q=>∃a kvs,xs = [.ref a]/\H a=some (.dK kvs)/\iD H (.dK kvs) Q):=by
 intro pins s σ H xs us Q I r h;obtain⟨a,kvs,rfl,e,q⟩:=h;obtain⟨u,rfl,ru⟩:=vals1 r;cases ru;exact adh I (.inl e) fun p s' hp I'=>⟨.ref p,_,I',rfl,q.at p hp⟩
end
theorem aeL{k:aN}{v:Value}(h:oV k v=true):RelV (kV k) v:=by
 rcases jr h with⟨i,t,rfl,rfl⟩ | ⟨x,t,rfl,rfl⟩
 . exact⟨t,rfl⟩
 . exact⟨t,rfl⟩
theorem Of:∀{us:Lw} {ys:Ls},StrsAre us ys->a8 (ys.map V.str) us
 | _,_,.nil=>.nil
 | _,_,.cons x t r=>.cons ⟨t,rfl⟩ (Of r)
section
variable {prog:Program} {w:World} {A:Around} {E:VP} {s:Shared}
theorem aeM{r:Addr}{Q:VP}(sM:wpAny (model prog w) A.in1 (collect (.ref r)) (fun us s'=>∃(ys:Ls) (h':Heap) (tk:Nat),s' = { s with heap:=h',toks:=tk }/\StrsAre us ys/\us.length<64 /\
 ∀(h2:Heap) (out:Lw) (aX:Ls) (e:Nat),(∀b o,h'.get? b=some o->h2.get? b=some o)->h2.get? h'.objs.size=some (seqObj "list" out.toArray e)->StrsAre out aX->aX.Perm ys->sortedS aX=true->Q (.ref h'.objs.size) { s with heap:=h2,toks:=tk }) E s) :
 wpAny (model prog w) A (call (.builtin "sorted") [.ref r]) Q E s:=by
 refine Mn Mo Mp Mq (Mr _) ?_;unfold Builtin.«sorted»;refine ac (m:=checkCount "sorted" 1 1 _) (aq ?_);refine ac (dN sM (fun us s' aeN=>aeN.elim fun ys aeO=>aeO.elim fun h' aeP=>aeP.elim fun tk aeQ=>aeQ.elim fun es aeR=>aeR.elim fun hS aeS=>aeS.elim fun sN fin=>?_) fun _ _ e=>e);subst es;refine ac (xh ?_ (by rw[oM];omega));have iA:(h'.push (seqObj "list" us.toArray 0)).get? h'.objs.size=some (seqObj "list" us.toArray 0):=da _ rfl;show wpAny _ _ _ _ _ { s with heap:=h'.push (seqObj "list" us.toArray 0),toks:=tk };refine ac (gH (kO Ms ⟨_,iA,rfl⟩ Mt (list_sort_treeK strKind_oneLt iA hS.keysOf (fun v₁ v₂ rest e=>keyKind_strs (by rw[←e];exact hS)) sN fun dq a1 a2=>⟨_,rfl,?_⟩) (Mu _)));obtain⟨aX,h1,h2,h3⟩:=sorted_out_str hS a1 a2;obtain⟨e,he⟩:=Mw (vs:=us) (out:=(arrOf dq).map (·.2)) iA;refine aq ⟨_,rfl,fin _ ((arrOf dq).map (·.2)).toList aX e (fun b o q=>?_) (by rw[Array.toArray_toList];exact he) h1 h2 h3⟩;have hb:=aZ q;rw[Mx (bE hb) (by rw[oN];exact FI hb)];exact bq _ q
end
section
variable {X:Cx}
theorem Og{pins:Po}{σ:St}{H:Hp}{s:Shared}{h' h2:Heap}{tk e:Nat}{out:Lw}{aX:Ls}(I:Inv X pins σ H { s with heap:=h',toks:=tk })(k:∀b o,h'.get? b=some o->h2.get? b=some o)
 (he:h2.get? h'.objs.size=some (seqObj "list" out.toArray e)) (hS:StrsAre out aX) (hl:aX.length<=sizeLine):Inv X pins σ (aj H h'.objs.size (.lst (aX.map V.str))) { s with heap:=h2,toks:=tk }:=
 I.laid (s:={ s with heap:=h',toks:=tk }) (t':=tk) k (aH _) ⟨by rw[au];exact hl,out,e,Of hS,he⟩
def sO(kvs:List (aN×V))(ks:Ls):Prop:=kvs.map (·.1)=ks.map Sum.inr
theorem Oh{kvs:List (aN×V)}{ks:Ls}(h:sO kvs ks){vs:List (aN×Value)}(rel:KV kvs vs){us:Lw}(hl:us.length=vs.length)(hv:∀(j:Nat) (v:Value),us[j]? = some v->∃k x,vs[j]? = some (k,x)/\(cm X.prog X.w).is k v=true):StrsAre us ks:=by
 induction us generalizing kvs vs ks with
 | nil=>
  have:vs = []:=uJ.mp hl.symm;subst this;cases rel;unfold sO at h;cases ks with
  | nil=>exact .nil
  | cons a b=>cases h
 | cons u us ih=>
  cases rel with
  | nil=>cases hl
  | @cons p q ps qs r rr=>
   cases ks with
   | nil=>cases h
   | cons a ks=>
    unfold sO at h;rw[b9,b9]at h;injection h with h1 h2
    obtain⟨k,x,e,hk⟩:=hv 0 u rfl;have e:q=(k,x):=eK e;have hp:p.1=k:=by rw[r.1,e]
    have hk:oV k u=true:=hk;rw[←hp,h1]at hk
    rcases jr hk with⟨i,t,e1,e2⟩ | ⟨x',t,e1,e2⟩
    . cases e1
    . cases e1;subst e2;exact .cons _ _ (ih h2 rr (by simpa using hl) fun j v hj=>hv (j+1) v (by simpa using hj))
theorem aeT(hc:X.calm=true):gt X (.builtin "sorted") (fun xs H Q=>∃d kvs ks,xs = [.ref d]/\H d=some (.dK kvs)/\sO kvs ks/\kvs.length<64/\∀aX,aX.Perm ks->sortedS aX=true->iD H (.lst (aX.map V.str)) Q):=by
 intro pins s σ H xs us Q I r h;obtain⟨d,kvs,ks,rfl,e,vk,sN,q⟩:=h;obtain⟨u,rfl,ru⟩:=vals1 r;cases ru;obtain⟨z,hd,vs,rel,dd⟩:=qQ I.hok e;obtain⟨ep,pi⟩:=dd.dictAt;have hlen:=rel.length;refine aeM (PySem.W.kdu_collect (PySem.W.kdl_dict (knd:=cm X.prog X.w) (kvs:=vs) (ep:=ep) hd) (I.ok.hd hc) pi (by omega) fun h' tk acc hk sP=>?_);have hS:StrsAre acc.toList ks:=Oh (X:=X) vk rel (by rw[dm];exact sP.1) fun j v hj=>sP.2 j v (by rw[←mX];exact hj);have qN:acc.toList.length=vs.length:=by rw[dm];exact sP.1
 have I':Inv X pins σ H { s with heap:=h',toks:=tk }:=I.kept hk;refine⟨ks,h',tk,rfl,hS,by omega,fun h2 out aX e' k2 he i8 cC GY=>?_⟩;have hl:=cC.length_eq;have hl3:=StrsAre.length hS;exact⟨.ref h'.objs.size,_,Og I' k2 he i8 (kz (by omega)),rfl,(q aX cC GY).at _ (I'.hok.fresh (aH _))⟩
end
def qT(o:Obj):Nat:=match o.data with
 | .dict _ ep=>ep
 | _=>0
def Oj(d:Addr)(kvs:List (aN×V))(o:Obj):It:=
 ⟨fun i H=>H d=some (.frz o (.dK kvs))/\i<kvs.length,fun i H x H'=>∃k v p,kvs[i]? = some (k,v)/\H p=none/\x = .ref p/\H'=aj H p (.tup [kV k,v]),fun i H=>H d=some (.frz o (.dK kvs))/\kvs.length<=i⟩
theorem Ol{P:Program}{w:World}{H:Hp}{h:Heap}{d:Addr}{kvs:List (aN×V)}{o:Obj}(ok:ce P w H h)(e:H d=some (.frz o (.dK kvs))):∃vs,KV kvs vs/\h.DictAt (cm P w) d vs (qT o)/\(d == sysModules)=false:=by
 obtain⟨ho,_,hd,vs,rel,o',es,ep,gp,hc,sQ,r⟩:=(show bG P w H h d (.frz o (.dK kvs)) from ok d _ e);rw[ho]at gp;cases gp;refine⟨vs,rel,⟨o,es,ho,hc,?_,r⟩,hd⟩;unfold qT;rw[sQ]
theorem aeV{kvs:List (aN×V)}{vs:List (aN×Value)}(r:KV kvs vs){i:Nat}{k:aN}{v:V}(h:kvs[i]? = some (k,v)):∃u,vs[i]? = some (k,u)/\RelV v u:=by
 unfold KV at r
 induction r generalizing i with
 | nil=>simp at h
 | @cons p q ps qs r1 rr ih=>
  cases i with
  | zero=>
   simp at h;subst h;obtain⟨a,b⟩:=q;exact⟨b,by simp;exact r1.1.symm,r1.2⟩
  | succ i=>exact ih (by simpa using h)
theorem aeW:entryFor table "dict_itemiterator.__iter__" = some Builtin.«dict_keyiterator.__iter__»:=
 My (id':="dict_keyiterator.__iter__") (by kernel_rfl) rfl (by decide +kernel) (by kernel_rfl)
theorem aeX{prog:Program}{w:World}{A:Around}{E:VP}{s:Shared}{it d:Addr}{i n ep:Nat}{ok ov:Value}{Q:VP}(hit:IsItemIter s.heap it d i n ep ok ov)(h:Q (.ref it) s):wpAny (model prog w) A (pyIter (.ref it)) Q E s:=by
 have hT:s.TypeIs (.ref it) "dict_itemiterator":=⟨_,hit,rfl⟩;refine Mz hT ar6 (kO ar6 hT aeW ?_ (PySem.F.args_dict_itemiterator_iter_1 _));show wpAny _ _ (ret (.ref it)) _ _ s;exact aq ⟨_,rfl,"dict_itemiterator",_,hT,PySem.F.slot_dict_itemiterator_next.lookup,h⟩
theorem aeY{P:Program}{w:World}{K:Fg}{elts:List Expr}{x1:Nat}{pos:Pos}(d it:Addr)(kvs:List (aN×V))(o:Obj):oZ P w K (.Tuple elts x1 pos) (Oj d kvs o) [it] it (fun i h=>∃ok ov,IsItemIter h it d i kvs.length (qT o) ok ov) where
 mem:=by simp
 obj:=fun i h st b hb=>by
  have e:b=it:=by simpa using hb
  subst e;obtain⟨ok,ov,st⟩:=st;exact⟨_,st,fun v z=>by
   have z':Data.fields _=Data.cell v:=z;cases z'⟩
 keep:=fun i h h' aeZ k=>aeZ.elim fun ok ae0=>ae0.elim fun ov st=>⟨ok,ov,k it (by simp) _ st⟩
 item:=by
  intro X hP hw hK hc i pins s σ H E I hf st hg;subst hP hw hK;obtain⟨ok,ov,st⟩:=st;obtain⟨hd,aD⟩:=hg;obtain⟨f0,f1,f2,f3,f4,f5⟩:=hf it (by simp);obtain⟨vs,rel,pi,hS⟩:=Ol I.hok hd;have hlen:=rel.length;obtain⟨kv,qU⟩:∃kv,kvs[i]? = some kv:=⟨_,cJ aD⟩;obtain⟨k,v⟩:=kv;obtain⟨u,hu,ru⟩:=aeV rel qU;rw[hlen]at st;refine wpAny_pyNext_items_item st pi hu fun key h1 kx GZ G1 hsz cG=>⟨.ref s.heap.objs.size,rfl,?_⟩;refine wpAny_letOwnedTupleGo_items GZ fun h2 iC sb=>?_;have B6:it<s.heap.objs.size:=aZ st;have sb:Heap.SameBut it h1 h2:=sb;have I1:Inv X pins σ H { s with heap:=h2 }:=I.turned (t':=s.toks) (fun b ob hb e=>(sb.2 b hb).trans (cG b ob hb e)) f0 f1 f3 f4 f5;have hn:H s.heap.objs.size=none:=I.hok.fresh (aH _);have fp:=I.fpOk (H':=H) (aH _) hn;have ph:h2.get? s.heap.objs.size=some { cls:=.type "tuple",data:=.seq #[key,u] }:=(sb.2 _ (ki B6)).trans G1;have I2:Inv X pins σ (aj H s.heap.objs.size (.tup [kV k,v])) { s with heap:=h2 }:=by
   refine I1.track hn I.sz fp.2.1 fp.2.2.2.2.1 fp.2.2.2.2.2 ?_;exact⟨by show 2<=sizeLine;decide,[key,u],.cons (aeL kx) (.cons ru .nil),_,ph,rfl,0,rfl⟩
  refine⟨.ref s.heap.objs.size,_,I2,rfl,⟨k,v,_,qU,hn,rfl,rfl⟩,⟨key,u,by rw[hlen];exact iC⟩,fun b hb=>?_⟩;have e:b=it:=by simpa using hb
  subst e;rw[aL (bE B6)];exact f0
 done:=by
  intro X hP hw hK hc i pins s σ H E I hf st hg;subst hP hw hK;obtain⟨ok,ov,st⟩:=st;obtain⟨hd,hle⟩:=hg;obtain⟨f0,f1,f2,f3,f4,f5⟩:=hf it (by simp);obtain⟨vs,rel,pi,hS⟩:=Ol I.hok hd;have hlen:=rel.length;rw[hlen]at st;exact wpAny_pyNext_items_end (I.ok.hd hc) st pi (by rw[List.getElem?_eq_none_iff];omega) fun h' eb=>⟨rfl,I.turned (t':=s.toks) (fun b o hb e=>eb b o hb e) f0 f1 f3 f4 f5⟩
 self:=fun _ _ _ _ _ ae1 h=>ae1.elim fun ok ae2=>ae2.elim fun ov st=>aeX st h
section
variable {X:Cx}
theorem PE.weak{e:Expr}{t:TE}(h:PE X e t):PE X e (fun σ H Q=>∃Q':VK,t σ H Q'/\∀v H,Q' v H->Q v H):=by
 intro pins s σ H Q I ⟨Q',q,w⟩;exact L2.thn (h pins s σ H _ I q) fun u s1 ae3=>ae3.elim fun v ae4=>ae4.elim fun H1 ae5=>ae5.elim fun I1 ae6=>ae6.elim fun r1 q1=>⟨v,H1,I1,r1,w _ _ q1⟩
theorem PG.weak{e:Expr}{g:TG}(h:PG X e g):PG X e (fun x σ H Q=>∃Q':St->Hp->Prop,g x σ H Q'/\∀σ H,Q' σ H->Q σ H):=by
 intro pins s σ H v u Q I r ⟨Q',q,w⟩;exact L2.thn (h pins s σ H v u _ I r q) fun _ s1 ae7=>ae7.elim fun σ1 ae8=>ae8.elim fun H1 ae9=>ae9.elim fun I1 q1=>⟨σ1,H1,I1,w _ _ q1⟩
theorem cz.weak{b:List Stmt}{t:TS}(h:cz X b t):cz X b (fun D σ H=>∃D':Ends,t D' σ H/\(∀σ H,D'.nx σ H->D.nx σ H)/\(∀v H,D'.rt v H->D.rt v H)/\(∀σ H,D'.bk σ H->D.bk σ H)/\∀σ H,D'.ct σ H->D.ct σ H):=by
 intro pins s σ H D I ⟨D',q,w1,w2,w3,w4⟩;refine L2.thn (h pins s σ H D' I q) fun f s1 q1=>?_;cases f with
 | next=>obtain⟨σ1,H1,I1,q1⟩:=q1;exact⟨σ1,H1,I1,w1 _ _ q1⟩
 | ret v=>obtain⟨x,σ1,H1,I1,r,q1⟩:=q1;exact⟨x,σ1,H1,I1,r,w2 _ _ q1⟩
 | brk=>obtain⟨σ1,H1,I1,q1⟩:=q1;exact⟨σ1,H1,I1,w3 _ _ q1⟩
 | cont=>obtain⟨σ1,H1,I1,q1⟩:=q1;exact⟨σ1,H1,I1,w4 _ _ q1⟩
end
theorem afa{o:Expr}{elts:List Expr}{x1:Nat}{uY apos dJ:Pos}{X:Cx}{td:TE}(ho:PE X o td)(xM:attributeBase o "items" X.env (eval o X.env)=eval o X.env:=by rfl)(xN:(apos.endLine == dJ.line)=true:=by rfl) :
 PI X (.Tuple elts x1 uY) (.Call (.Attribute o "items" apos) [] [] dJ) (fun σ H R=>td σ H fun x H1=>∃d kvs,x = .ref d/\H1 d=some (.dK kvs)/\∀ob,(∀o' u,X.H₀ d≠some (.frz o' u))->R (Oj d kvs ob) (aj H1 d (.frz ob (.dK kvs)))):=by
 intro pins s σ H R I h;refine wpAny_Call_method0_late xM xN (thn (ho pins s σ H _ I h) fun v s1 afb=>afb.elim fun x afc=>afc.elim fun H1 afd=>afd.elim fun I1 afe=>afe.elim fun r1 aff=>aff.elim fun d afg=>afg.elim fun kvs afh=>afh.elim fun e afi=>afi.elim fun ed q=>?_);subst e;cases r1;obtain⟨z,hd,vs,rel,dd⟩:=qQ I1.hok ed;obtain⟨h1,h2⟩:=NK I1 (x:=.ref d) rfl (T:="dict") (.inr (.inr (.inl ⟨rfl,.inl ⟨kvs,ed⟩⟩)));refine⟨"dict","dict.items",UJ,ar7,PySem.F.type_dict_items,h1,h2,Mh rfl (PySem.evalArgs_none ?_)⟩;refine xf ar7 dd.typeIs PySem.F.entry_dict_items (PySem.F.args_dict_items_1 _) (meets_dict_items (cm X.prog X.w) d hd) ⟨⟨vs,dd⟩,?_⟩;have cW:=dd.push { cls:=.type "dict_items",data:=.fields #[.ref d] };obtain⟨ob,es,ep,mZ,hc,sQ,rest⟩:=id cW;have pi:(s1.heap.push { cls:=.type "dict_items",data:=.fields #[.ref d] }).DictAt (cm X.prog X.w) d vs ep:=⟨ob,es,mZ,hc,sQ,rest⟩;have I2:Inv X pins σ H1 { s1 with heap:=s1.heap.push { cls:=.type "dict_items",data:=.fields #[.ref d] } }:=I1.kept (t':=s1.toks) fun b o e=>bq _ e;refine wpAny_pyIter_items (s:={ s1 with heap:=s1.heap.push { cls:=.type "dict_items",data:=.fields #[.ref d] } }) ⟨_,da _ rfl,rfl,rfl⟩ pi ?_;have qV:qT ob=ep:=by unfold qT;rw[sQ]
 have hlen:=rel.length;have I3:Inv X pins σ H1 { s1 with heap:=(s1.heap.push { cls:=.type "dict_items",data:=.fields #[.ref d] }).push { cls:=.type "dict_itemiterator",data:=.fields #[.none,.bool false,.ref d,.int 0 0,.int vs.length 0,.int ep 0,.none,.none] } }:=
  I2.kept (t':=s1.toks) fun b o e=>bq _ e
 have hn:=I2.hok.fresh (aH (s1.heap.push { cls:=.type "dict_items",data:=.fields #[.ref d] }).objs.size);have hz:∀o' u,X.H₀ d≠some (.frz o' u):=fun o' u hq=>by
  have:=I1.base.frzs d o' u hq;rw[ed]at this;cases this
 refine⟨_,[_],_,_,_,rfl,I3.freeze ed (bq _ mZ),aeY d _ kvs ob,⟨.none,.none,?_⟩,fun b hb=>?_,q ob hz⟩
 . show Heap.get? _ _=_;rw[qV,hlen];exact da _ rfl
 . have e:b=(s1.heap.push { cls:=.type "dict_items",data:=.fields #[.ref d] }).objs.size:=by simpa using hb
   subst e;refine I2.fpOk (aH _) ?_;rw[aL (eM (bg ed hn))];exact hn
def afj(td:TE)(g:TG)(tb:TS):TS:=fun D σ H=>td σ H fun x H1=>∃d kvs,x = .ref d/\H1 d=some (.dK kvs)/\∀ob,∃W:Nat->Nat->St->Hp->Prop,(∃m,W 0 m σ (aj H1 d (.frz ob (.dK kvs))))/\∀i m σ H,W i m σ H ->
 H d=some (.frz ob (.dK kvs))/\((kvs.length<=i/\D.nx σ (aj H d (.dK kvs)))\/(i<kvs.length/\∃N:St->Hp->Prop,(∀σ' H',N σ' H'->∃m',m'<m/\W (i+1) m' σ' H') /\
  ∀k v p,kvs[i]? = some (k,v)->H p=none->g (.ref p) σ (aj H p (.tup [kV k,v])) fun σ2 H2=>
   tb { nx:=N,ct:=N,bk:=fun σ' H'=>H' d=some (.frz ob (.dK kvs))/\D.nx σ' (aj H' d (.dK kvs)),rt:=fun v' H'=>H' d=some (.frz ob (.dK kvs))/\D.rt v' (aj H' d (.dK kvs)) } σ2 H2))
theorem afk{o:Expr}{elts:List Expr}{x1:Nat}{uY apos dJ pos:Pos}{X:Cx}{td:TE}{g:TG}{tb:TS}{body:List Stmt}(hp:PassesOwn (model X.prog X.w) X.A X.env X.xe)(hc:X.calm=true)(ho:PE X o td)(hg:PG X (.Tuple elts x1 uY) g)(hb:cz X body tb)
 (xM:attributeBase o "items" X.env (eval o X.env)=eval o X.env:=by rfl) (xN:(apos.endLine == dJ.line)=true:=by rfl) (hs:∀x,foldedSetIterable (.Call (.Attribute o "items" apos) [] [] dJ) X.env x=pure x:=by intro _;rfl) :
 PS X (.For (.Tuple elts x1 uY) (.Call (.Attribute o "items" apos) [] [] dJ) body [] pos) (afj td g tb):=by
 intro pins s σ H D I h;refine thn (gr (X:=X) hp hc (afa ho.weak xM xN) hg.weak hb.weak hs pins s σ H
  { nx:=fun σ' H'=>∃d kvs ob,H' d=some (.frz ob (.dK kvs))/\(∀o' u,X.H₀ d≠some (.frz o' u))/\D.nx σ' (aj H' d (.dK kvs)),rt:=fun v' H'=>∃d kvs ob,H' d=some (.frz ob (.dK kvs))/\(∀o' u,X.H₀ d≠some (.frz o' u))/\D.rt v' (aj H' d (.dK kvs)) } I ?_) fun f s' q=>?_
 . refine⟨_,h,fun x H1 afl=>afl.elim fun d afm=>afm.elim fun kvs afn=>afn.elim fun e afo=>afo.elim fun ed q=>⟨d,kvs,e,ed,fun ob hz=>?_⟩⟩;obtain⟨W,w0,turn⟩:=q ob;refine⟨W,w0,fun i m σ H hw=>?_⟩;obtain⟨hd,c | ⟨aD,N,hN,step⟩⟩:=turn i m σ H hw
   . exact .inl ⟨⟨hd,c.1⟩,d,kvs,ob,hd,hz,c.2⟩
   . refine .inr ⟨⟨hd,aD⟩,N,hN,fun x H' afp=>afp.elim fun k afq=>afq.elim fun v afr=>afr.elim fun p afs=>afs.elim fun hk aft=>aft.elim fun hp afu=>afu.elim fun e eH=>?_⟩;subst e eH;exact⟨_,step k v p hk hp,fun σ2 H2 q2=>⟨_,q2,fun _ _ z=>z,fun v' H' afv=>afv.elim fun a b=>⟨d,kvs,ob,a,hz,b⟩,fun σ' H' afw=>afw.elim fun a b=>⟨d,kvs,ob,a,hz,b⟩,fun _ _ z=>z⟩⟩
 . cases f with
   | next=>
    obtain⟨σ',H',I',d,kvs,ob,hd,hz,q⟩:=q;exact⟨σ',_,I'.thaw hd hz,q⟩
   | ret v=>
    obtain⟨x,σ',H',I',r,d,kvs,ob,hd,hz,q⟩:=q;exact⟨x,σ',_,I'.thaw hd hz,r,q⟩
   | brk=>obtain⟨_,_,_,q⟩:=q;exact q.elim
   | cont=>obtain⟨_,_,_,q⟩:=q;exact q.elim
theorem B7:Slot "set_iterator" "__next__" "set_iterator.__next__":=
 .of (owner:="set_iterator") (n:="__next__") (by rw[UN,UO];kernel_rfl) (by decide +kernel) (by decide +kernel) (by decide +kernel)
  (by first | exact .inl (by decide +kernel) | exact .inr (by decide +kernel)) (by rw[UP];kernel_rfl)
theorem Om:Slot "set_iterator" "__iter__" "set_iterator.__iter__":=
 .of (owner:="set_iterator") (n:="__iter__") (by rw[UN,UO];kernel_rfl) (by decide +kernel) (by decide +kernel) (by decide +kernel)
  (by first | exact .inl (by decide +kernel) | exact .inr (by decide +kernel)) (by rw[UP];kernel_rfl)
theorem afx:entryFor table "set_iterator.__next__" = some Builtin.«set_iterator.__next__»:=entryFor_of_tree (by kernel_rfl)
theorem afy:entryFor table "set_iterator.__iter__" = some Builtin.«dict_keyiterator.__iter__»:=My (id':="dict_keyiterator.__iter__") (by kernel_rfl) rfl (by decide +kernel) (by kernel_rfl)
theorem afz:entryFor table "set.__iter__" = some Builtin.«frozenset.__iter__»:=My (id':="frozenset.__iter__") (by kernel_rfl) rfl (by decide +kernel) (by kernel_rfl)
theorem Oo:Manifest.owners.lookup (String.ofList ['r','o','t','a','r','e','t','i','_','t','e','s'].reverse)=some Manifest.sig_set_iterator:=by kernel_rfl
theorem afA(a:Value):argsOk "set_iterator.__next__" ⟨[a],[]⟩:=by
 unfold argsOk;rw[signature?_of (id:="set_iterator.__next__") (n:=['_','_','t','x','e','n','_','_']) (o:=['r','o','t','a','r','e','t','i','_','t','e','s']) (by kernel_rfl) Oo];kernel_rfl
theorem afB(a:Value):argsOk "set_iterator.__iter__" ⟨[a],[]⟩:=by
 unfold argsOk;rw[signature?_of (id:="set_iterator.__iter__") (n:=['_','_','r','e','t','i','_','_']) (o:=['r','o','t','a','r','e','t','i','_','t','e','s']) (by kernel_rfl) Oo];kernel_rfl
section
variable {prog:Program} {w:World} {A:Around} {E:VP} {s:Shared} {a it:Addr} {ep:Nat} {t:SetTable}
theorem afC:typeLookup (.type "set") "__len__" = pure (some (.builtin "set.__len__")):=by rw[UN,UO];kernel_rfl
theorem afD{Q:Bool->Shared->Prop}(hT:s.TypeIs (.ref a) "set")(h:Q false s):wpAny (model prog w) A (Builtin.List.listLengthHint (.ref a)) Q E s:=by
 unfold Builtin.List.listLengthHint;refine ac (Bg hT afC ?_);generalize Op:("set.__len__":String)=id0
 wp_delta
 rw[show splitId id0=some ("set","__len__") from by subst Op;decide +kernel];subst Op;refine ac (mT (T:="set") (b:=true) hT (by rw[UP];kernel_rfl) ?_);refine FJ (fun ku=>absurd ku (by decide)) (fun _=>?_);refine FJ (fun _=>?_) (fun ku=>absurd (by decide +kernel) ku);refine ac (MA hT ?_);exact aq h
end
section
variable {X:Cx}
theorem sR{pos:Pos}:PE X (.Dict [] [] pos) (fun _ H Q=>iD H (.dK []) Q):=fun pins s σ H Q I h=>acH pins s σ H Q I h.at
theorem afE{pos:Pos}:PE X (.Dict [] [] pos) (fun _ H Q=>iD H (.dT []) Q):=fun pins s σ H Q I h=>acI pins s σ H Q I h.at
theorem pj(K:Fg){e:Expr}{f:Str}{pos:Pos}{ta:TE}(he:PE X e ta)(hb:attributeBase e f X.env (eval e X.env)=eval e X.env)(h:X.K=K:=by rfl):PE X (.Attribute e f pos) (Nt K ta f):=h▸du he hb
end
section
variable {X:Cx}
variable {e e1 e2:Expr} {te t1 t2:TE} {pos:Pos}
end
end L2
namespace L2
open PySem
theorem afF{X:Cx}{st:Stmt}{Oq:List Stmt}{t u:TS}(h1:PS X st t)(h2:cz X Oq u):cz X (st::Oq) (fun D σ H=>∃P:St->Hp->Prop,t { D with nx:=P } σ H/\∀σ' H',P σ' H'->u D σ' H'):=by
 intro pins s σ H D I ⟨P,a,b⟩;exact xT P h1 h2 pins s σ H D I ⟨a,b⟩
end L2
namespace L2
theorem qW{t1 t2:TS}{D:Ends}{σ:St}{H:Hp}(h:let d:=D;let s:=σ;let u2:=t2;a9 t1 u2 d s H):a9 t1 (t2) D σ H:=h
theorem lT{t1 t2 t3:TS}{D:Ends}{σ:St}{H:Hp}(h:let d:=D;let s:=σ;let u3:=t3;let u2:=a9 t2 u3;a9 t1 u2 d s H):a9 t1 (a9 t2 (t3)) D σ H:=h
theorem pp{t1 t2 t3 t4:TS}{D:Ends}{σ:St}{H:Hp}(h:let d:=D;let s:=σ;let u4:=t4;let u3:=a9 t3 u4;let u2:=a9 t2 u3;a9 t1 u2 d s H):a9 t1 (a9 t2 (a9 t3 (t4))) D σ H:=h
theorem G2{t1 t2 t3 t4 t5:TS}{D:Ends}{σ:St}{H:Hp}(h:let d:=D;let s:=σ;let u5:=t5;let u4:=a9 t4 u5;let u3:=a9 t3 u4;let u2:=a9 t2 u3;a9 t1 u2 d s H):a9 t1 (a9 t2 (a9 t3 (a9 t4 (t5)))) D σ H:=h
theorem afG{t1 t2 t3 t4 t5 t6:TS}{D:Ends}{σ:St}{H:Hp}(h:let d:=D;let s:=σ;let u6:=t6;let u5:=a9 t5 u6;let u4:=a9 t4 u5;let u3:=a9 t3 u4;let u2:=a9 t2 u3;a9 t1 u2 d s H):a9 t1 (a9 t2 (a9 t3 (a9 t4 (a9 t5 (t6))))) D σ H:=h
theorem Ot{t1 t2 t3 t4 t5 t6 t7:TS}{D:Ends}{σ:St}{H:Hp}(h:let d:=D;let s:=σ;let u7:=t7;let u6:=a9 t6 u7;let u5:=a9 t5 u6;let u4:=a9 t4 u5;let u3:=a9 t3 u4;let u2:=a9 t2 u3;a9 t1 u2 d s H):a9 t1 (a9 t2 (a9 t3 (a9 t4 (a9 t5 (a9 t6 (t7)))))) D σ H:=h
theorem afH{t1 t2 t3 t4 t5 t6 t7 t8 t9 Ou Ov Ow vm Ox:TS}{D:Ends}{σ:St}{H:Hp}(h:let d:=D;let s:=σ;let u14:=Ox;let B8:=a9 vm u14;let u12:=a9 Ow B8;let u11:=a9 Ov u12;let u10:=a9 Ou u11;let u9:=a9 t9 u10;let u8:=a9 t8 u9;let u7:=a9 t7 u8;let u6:=a9 t6 u7;let u5:=a9 t5 u6;let u4:=a9 t4 u5;let u3:=a9 t3 u4;let u2:=a9 t2 u3;a9 t1 u2 d s H):a9 t1 (a9 t2 (a9 t3 (a9 t4 (a9 t5 (a9 t6 (a9 t7 (a9 t8 (a9 t9 (a9 Ou (a9 Ov (a9 Ow (a9 vm (Ox))))))))))))) D σ H:=h
theorem bo{X:Cx}{b:List PySem.Stmt}{D:Ends}{σ:St}{H:Hp}(h:let x:=X;let d:=D;∃t,cz x b t/\t d σ H):∃t,cz X b t/\t D σ H:=h
theorem b0{p:Prop}(h:let T:=p;T):p:=h
open PySem PySem.Spec PyProof.Rows PySem.W PySem.Builtin PySem.Builtin.ObjectAttr PySem.Builtin.Getset_descriptor
section
variable {K:Fg} {D a:Addr} {M:Model} {h:Heap}
end
section
variable {prog:Program} {w:World} {A:Around} {E:VP} {s:Shared} {K:Fg} {D a:Addr}
end
end L2
namespace L2
open PySem PySem.Spec PyProof.Rows PySem.W
section
variable {l:List Env} {B:Heap} {H H0:Hp} {h0 h h' h'':Heap} {P:Program} {w:World}
end
section
variable {X:Cx} {pins:Po} {σ:St} {H:Hp} {s:Shared} {E:XK}
end
section
variable {P:Program} {w:World} {K:Fg} {mg:Mv} {base:Heap} {N:Ls} {qual:Str} {scope:Scope} {f:Addr} {cd:Value} {A:Around} {outer:List Env} {s0:Shared} {H0:Hp} {E:XK}
end
section
variable {X:Cx} {pins:Po} {σ:St} {H:Hp} {s:Shared}
end
section
variable {X:Cx} {CX:jS} {k:Nat} {f C:Addr} {fd:Fy} {ps:Ls} {sp:Sp} {fT:Lv} {ds:Lw} {E:St->XK} {x m:Str} {p pos apos:Pos} {e o:Expr} {es:List Expr} {ta:TE} {t:TA}
end
section
variable {X:Cx}
theorem vn:∀{Ds:List Addr} {us:Lw},a8 (Ds.map V.ref) us->us=Ds.map Value.ref
 | [],_,.nil=>rfl
 | D::Ds,_,.cons r t=>by
  rw[b9,vn t]
  congr 1
theorem afM{kvs:List (aN×V)}(nd:(kvs.map (·.1)).Nodup){k:aN}{v:V}(h:(k,v)∈kvs):bP kvs k=some v:=by
 induction kvs with
 | nil=>cases h
 | cons p r ih=>
  rw[b9,jI]at nd
  rcases bw.mp h with e | h
  . subst e;exact jx rfl
  . rw[i6 fun e=>nd.1 (by rw[e];exact FK (f:=(·.1)) h)];exact ih nd.2 h
end
end L2
namespace L2
open PySem PySem.Spec PyProof.Rows
def eE{α:Type}(n:Nat)(f:Nat->Nat->Bool):PySem.W.KasT α->Option α
 | .ret a=>some a
 | .ask i j k=>if (decide (i<n) && decide (j<n) && decide (i≠j))=true then eE n f (k (f i j)) else none
theorem G3{α:Type}{n:Nat}{f:Nat->Nat->Bool}{cmp:Nat->Nat->(Bool->Shared->Prop)->Shared->Prop}{s:Shared}(hc:∀i j C,i<n->j<n->i≠j->C (f i j) s->cmp i j C s) :
 ∀(t:PySem.W.KasT α) {a:α},eE n f t=some a->∀{Q:α->Shared->Prop},Q a s->t.kasWp cmp Q s
 | .ret b,a,e,Q,q=>by
  cases e;exact q
 | .ask i j k,a,e,Q,q=>by
  unfold eE at e;split at e
  . rename_i h;simp only[dn,decide_eq_true_eq]at h;exact hc i j _ h.1.1 h.1.2 h.2 (G3 hc (k (f i j)) e q)
  . cases e
theorem Oy{α:Type}{n:Nat}{f g:Nat->Nat->Bool}(h:∀i j,i<n->j<n->i≠j->f i j=g i j):∀t:PySem.W.KasT α,eE n f t=eE n g t
 | .ret b=>rfl
 | .ask i j k=>by
  unfold eE;split
  . rename_i q;simp only[dn,decide_eq_true_eq]at q;rw[h i j q.1.1 q.1.2 q.2];exact Oy h _
  . rfl
def fb(a b c d e g:Bool)(i j:Nat):Bool:=
 match i,j with
 | 0,1=>a
 | 1,0=>!a
 | 0,2=>b
 | 2,0=>!b
 | 0,3=>c
 | 3,0=>!c
 | 1,2=>d
 | 2,1=>!d
 | 1,3=>e
 | 3,1=>!e
 | 2,3=>g
 | 3,2=>!g
 | _,_=>false
def lU(f:Nat->Nat->Bool):List Nat->Bool
 | []=>true
 | [_]=>true
 | x::y::r=>f x y && lU f (y::r)
def yd(n:Nat)(f:Nat->Nat->Bool):Bool:=
 match eE n f (PySem.W.kas_sort n) with
 | none=>false
 | some p=>p.toList.isPerm (List.range n) && lU f p.toList
def B9(n:Nat)(f:Nat->Nat->Bool):Bool:=
 (List.range n).all fun i=>(List.range n).all fun j=>(List.range n).all fun k=>!(f i j && f j k && decide (i≠k)) || f i k
theorem afN:∀a b c d e g:Bool,yd 2 (fb a b c d e g)=true:=by decide +kernel
theorem afO:∀a b c d e g:Bool,B9 3 (fb a b c d e g)=true->yd 3 (fb a b c d e g)=true:=by decide +kernel
theorem afP:∀a b c d e g:Bool,B9 4 (fb a b c d e g)=true->yd 4 (fb a b c d e g)=true:=by decide +kernel
theorem Oz{a b c d e g:Bool}(i:Nat):fb a b c d e g i i=false:=by
 match i with
 | 0=>rfl
 | 1=>rfl
 | 2=>rfl
 | 3=>rfl
 | n+4=>rfl
theorem OA{i n:Nat}(h:i<n)(hn:n<=4):i=0\/i=1\/i=2\/i=3:=by omega
theorem OB{n:Nat}{f g:Nat->Nat->Bool}(h:∀i j,i<n->j<n->i≠j->f i j=g i j):∀l:List Nat,(∀x∈l,x<n)->l.Nodup->lU g l=true->lU f l=true
 | [],_,_,_=>rfl
 | [_],_,_,_=>rfl
 | x::y::r,hm,hd,e=>by
  unfold lU at e ⊢;rw[dn]at e ⊢;have jv:=jI.mp hd;refine⟨?_,OB h (y::r) (fun z hz=>hm z (cy _ hz)) jv.2 e.2⟩;rw[h x y (hm x cD) (hm y (cy _ cD)) fun q=>jv.1 (q▸cD)];exact e.1
theorem afQ{n:Nat}(h2:2<=n)(h4:n<=4){f:Nat->Nat->Bool}(jX:∀i j,i<n->j<n->i≠j->f i j = !f j i)(tr:∀i j k,i<n->j<n->k<n->f i j=true->f j k=true->f i k=true) :
 ∃p:Array Nat,eE n f (PySem.W.kas_sort n)=some p/\p.toList.Perm (List.range n)/\lU f p.toList=true:=by
 have fg:∀i j,i<n->j<n->i≠j->f i j=fb (f 0 1) (f 0 2) (f 0 3) (f 1 2) (f 1 3) (f 2 3) i j:=by
  intro i j hi hj bn
  rcases OA hi h4 with rfl | rfl | rfl | rfl<;>rcases OA hj h4 with rfl | rfl | rfl | rfl<;>first | exact absurd rfl bn | rfl | exact jX _ _ hi hj bn
 have tg:B9 n (fb (f 0 1) (f 0 2) (f 0 3) (f 1 2) (f 1 3) (f 2 3))=true:=by
  unfold B9;rw[dW];intro i hi;rw[dW];intro j hj;rw[dW];intro k hk;have hi:=g9.mp hi;have hj:=g9.mp hj;have hk:=g9.mp hk
  by_cases gQ:i=j
  . subst gQ;rw[Oz];rfl
  by_cases OC:j=k
  . subst OC;rw[Oz,kj,iU];rfl
  by_cases OD:i=k
  . subst OD;rw[aR (fun z=>z rfl),kj];rfl
  rw[←fg i j hi hj gQ,←fg j k hj hk OC,←fg i k hi hk OD];cases e1:f i j with
  | false=>rfl
  | true=>
   cases e2:f j k with
   | false=>rfl
   | true=>
    rw[tr i j k hi hj hk e1 e2,UQ]
 have ok:yd n (fb (f 0 1) (f 0 2) (f 0 3) (f 1 2) (f 1 3) (f 2 3))=true:=by
  have h3:n=2\/n=3\/n=4:=by omega
  rcases h3 with rfl | rfl | rfl
  . exact afN _ _ _ _ _ _
  . exact afO _ _ _ _ _ _ tg
  . exact afP _ _ _ _ _ _ tg
 unfold yd at ok;rw[←Oy fg]at ok;cases e:eE n f (PySem.W.kas_sort n) with
 | none=>rw[e]at ok;cases ok
 | some p=>
  rw[e]at ok;have ok:(p.toList.isPerm (List.range n) && lU (fb (f 0 1) (f 0 2) (f 0 3) (f 1 2) (f 1 3) (f 2 3)) p.toList)=true:=ok;rw[dn]at ok;have hp:=List.isPerm_iff.mp ok.1;exact⟨p,rfl,hp,OB fg _ (fun x hx=>g9.mp (hp.mem_iff.mp hx)) (hp.nodup_iff.mpr List.nodup_range) ok.2⟩
theorem OE:∀x:List Int,HT.lexLt x x=false
 | []=>rfl
 | a::x=>by
  rw[HT.o4,ap rfl];exact OE x
theorem Ca:∀x y:List Int,x≠y->HT.lexLt x y = !HT.lexLt y x
 | [],[],h=>absurd rfl h
 | [],_::_,_=>rfl
 | _::_,[],_=>rfl
 | a::x,b::y,h=>by
  rw[HT.o4,HT.o4]
  by_cases e:a=b
  . subst e;rw[ap rfl,ap rfl];exact Ca x y fun q=>h (by rw[q])
  . rw[ah e,ah (fun q=>e q.symm)]
    by_cases l:a<b
    . rw[aE l,aR (by omega)];rfl
    . rw[aR l,aE (by omega)];rfl
theorem ye:∀x y z:List Int,HT.lexLt x y=true->HT.lexLt y z=true->HT.lexLt x z=true
 | [],[],_,h,_=>by cases h
 | [],_::_,[],_,h=>by cases h
 | [],_::_,_::_,_,_=>rfl
 | _::_,[],_,h,_=>by cases h
 | _::_,_::_,[],_,h=>by cases h
 | a::x,b::y,c::z,h1,h2=>by
  rw[HT.o4]at h1 h2 ⊢
  by_cases e1:a=b
  . subst e1;rw[ap rfl]at h1
    by_cases e2:a=c
    . subst e2;rw[ap rfl]at h2 ⊢;exact ye x y z h1 h2
    . rw[ah e2]at h2 ⊢;exact h2
  . rw[ah e1]at h1;have l1:=bd h1
    by_cases e2:b=c
    . subst e2;rw[ah e1];exact h1
    . rw[ah e2]at h2;have l2:=bd h2;rw[ah (by omega)];exact aE (by omega)
section
variable {prog:Program} {w:World} {A:Around} {E:VP} {s:Shared}
theorem afR{b:Bool}{Q:Bool->Shared->Prop}{xs:Lw}{is:List Int}(hx:IntsAre xs is):∀{ys:Lw} {js:List Int} (i:Nat),IntsAre ys js->Q (HT.lexLt is js) s ->
 PySem.W.KatLex prog w A b (decide (is.length<js.length)) Q (xs.zip ys) i s:=by
 induction hx with
 | nil=>
  intro ys js i hy q;cases hy with
  | nil=>exact uK q
  | cons c u hy=>
   refine uK (show Q (decide _) s from ?_);rw[aE (by rw[jo,bF];exact xi _)];exact q
 | cons a t hx ih=>
  intro ys js i hy q;cases hy with
  | nil=>
   refine uK (show Q (decide _) s from ?_);rw[aR (by rw[jo];exact sd _)];exact q
  | cons c u hy=>
   rename_i xs is ys js;rw[HT.o4]at q;refine UR (Ut (UU (fun e=>UV ?_) fun e=>UW ?_))
   . have e:=eq_of_beq e;rw[ap e]at q;have z:decide ((a::is).length<(c::js).length)=decide (is.length<js.length):=by
      rw[bF,bF];exact Bl.mpr UX
     rw[z];exact ih (i+1) hy q
   . have e:a≠c:=fun z=>by
      rw[z,rZ]at e;cases e
     rw[ah e]at q;cases hb:(b && i == 0) with
     | true=>exact oneLt_int q
     | false=>exact UY _ _ (HT.GA _ _ _ _ _ _ _ _ _ _ q)
def lV(h:Heap)(v:Value)(is:List Int):Prop:=∃a o xs n,v = .ref a/\h.get? a=some o/\o.cls = .type "tuple"/\o.data = .seq xs n/\IntsAre xs.toList is/\is≠[]
theorem afS{b:Bool}{Q:Bool->Shared->Prop}{x y:Value}{is js:List Int}(hx:lV s.heap x is)(hy:lV s.heap y js)(q:Q (HT.lexLt is js) s):wpAny (model prog w) A (keyLt' (tuples' b) x y) Q E s:=by
 obtain⟨ax,ox,xs,n,rfl,x1,x2,x3,x4,_⟩:=hx;obtain⟨ay,oy,ys,k,rfl,y1,y2,y3,y4,_⟩:=hy;refine PySem.W.kat_lt x1 x3 y1 y3 ?_;have e1:=x4.length;have e2:=y4.length;have z:decide (xs.size<ys.size)=decide (is.length<js.length):=by
  rw[←e1,←e2,dm,dm]
 rw[z];exact afR x4 0 y4 q
theorem lV.keep{h h':Heap}{v:Value}{is:List Int}(t:lV h v is)(k:∀b o,h.get? b=some o->o.cls = .type "tuple"->h'.get? b=some o):lV h' v is:=by
 obtain⟨a,o,xs,n,e,h1,h2,h3,h4⟩:=t;exact⟨a,o,xs,n,e,k a o h1 h2,h2,h3,h4⟩
theorem afT{h:Heap}:∀{vs:Lw} {ks:Ll},Paired (lV h) vs ks->∃fs:Lw,PySem.W.KatTups h vs fs/\fs.length=vs.length/\∀v∈fs,∃(i:Int) (t:Tok),v = .int i t:=by
 intro vs ks p
 induction p with
 | nil=>exact⟨[],trivial,rfl,fun _ h=>nomatch h⟩
 | cons x p ih=>
  obtain⟨fs,h1,h2,h3⟩:=ih;obtain⟨a,o,xs,n,rfl,x1,x2,x3,x4,x5⟩:=x;cases hl:xs.toList with
  | nil=>
   rw[hl]at x4;cases x4;exact absurd rfl x5
  | cons f r=>
   rw[hl]at x4;cases x4 with
   | cons i t z=>
    refine⟨.int i t::fs,PySem.W.KatTups.cons x1 x2 x3 (by rw[←mX,hl];rfl) h1,by rw[bF,bF,h2],fun v hv=>?_⟩
    rcases bw.mp hv with rfl | hv
    . exact⟨i,t,rfl⟩
    . exact h3 v hv
theorem yf{α β:Type}{R:α->β->Prop}:∀{xs:List α} {ys:List β},Paired R xs ys->∀i,i<xs.length->∀(d:α) (e:β),R (xs.getD i d) (ys.getD i e):=by
 intro xs ys p
 induction p with
 | nil=>exact fun i h=>absurd h (sd _)
 | cons x p ih=>
  intro i hi d e;cases i with
  | zero=>exact x
  | succ i=>exact ih i (Nat.lt_of_succ_lt_succ hi) d e
theorem OF{vs:Lw}:(List.range vs.length).map (fun i=>vs.getD i Value.none)=vs:=by
 apply List.ext_getElem
 . rw[au,mY]
 . intro i h1 h2;rw[List.getElem_map,List.getElem_range,hU,cJ h2];rfl
theorem sT{α β:Type}{R:α->β->Prop}{xs:List α}{ys:List β}(p:Paired R xs ys):xs.length=ys.length:=by
 induction p with
 | nil=>rfl
 | cons _ _ ih=>rw[bF,bF,ih]
def fK(ks:Ll)(i j:Nat):Bool:=HT.lexLt (ks.getD i []) (ks.getD j [])
theorem afU{ks:Ll}(nd:ks.Nodup){i j:Nat}(hi:i<ks.length)(hj:j<ks.length)(h:i≠j):ks.getD i []≠ks.getD j []:=by
 rw[hU,hU,cJ hi,cJ hj];exact fun z=>h ((Fq nd).mp z)
theorem afV{a:Addr}{vs:Lw}{ks:Ll}{n:Nat}{P:PySem.Fin->Shared->Prop}(ho:s.heap.get? a=some (seqObj "list" vs.toArray n))(hk:Paired (lV s.heap) vs ks)(h4:vs.length<=4)(nd:ks.Nodup)
 (h:∀p:List Nat,p.Perm (List.range vs.length)->lU (fK ks) p=true->P (.done (.ret .none)) { s with heap:=sortedHeap s.heap a vs (p.map fun i=>vs.getD i Value.none).toArray }) :
 wpAny (model prog w) A (Builtin.«list.sort» ⟨[.ref a],[]⟩) P E s:=by
 have hla:a<s.heap.objs.size:=aZ ho;have sU:vs.length=ks.length:=sT hk;rw[list_sort_plain];obtain⟨ep,yg⟩:∃ep,(s.heap.update a (Obj.mapSeq fun _=>(#[]:Av))).get? a=some (seqObj "list" #[] ep):=⟨_,MD ho (fun _=>#[])⟩;refine ac (listItems_at ho rfl ?_);refine ac (Bm ho rfl ?_);refine ac (Bn yg rfl ?_);refine ac (UZ ?_);refine ac (xh ?_);refine gH ?_;have jY:(((s.heap.update a (Obj.mapSeq fun _=>(#[]:Av))).push (seqObj "tuple" vs.toArray 0)).push (seqObj "list" #[] 0)).get? a=some (seqObj "list" #[] ep):=
  bq _ (bq _ yg)
 have kp:∀b o,s.heap.get? b=some o->o.cls = .type "tuple"->(((s.heap.update a (Obj.mapSeq fun _=>(#[]:Av))).push (seqObj "tuple" vs.toArray 0)).push (seqObj "list" #[] 0)).get? b=some o:=fun b o e c=>by
  have hb:b≠a:=fun z=>by
   rw[z,ho]at e;cases e;exact absurd (show Value.type "list" = Value.type "tuple" from c) (by decide)
  refine bq _ (bq _ ?_);rw[ME _ _ _ _ hb];exact e
 have k9:Paired (lV (((s.heap.update a (Obj.mapSeq fun _=>(#[]:Av))).push (seqObj "tuple" vs.toArray 0)).push (seqObj "list" #[] 0))) vs ks:=aM hk fun _ _ t=>t.keep kp;have e7:∀out:Av,sortedHeap s.heap a vs out=(((s.heap.update a (Obj.mapSeq fun _=>(#[]:Av))).push (seqObj "tuple" vs.toArray 0)).push (seqObj "list" #[] 0)).update a (Obj.mapSeq fun _=>out):=fun _=>rfl;show wpAny (model prog w) A _ P E { s with heap:=(((s.heap.update a (Obj.mapSeq fun _=>(#[]:Av))).push (seqObj "tuple" vs.toArray 0)).push (seqObj "list" #[] 0)) };simp only[e7]at h;generalize ((s.heap.update a (Obj.mapSeq fun _=>(#[]:Av))).push (seqObj "tuple" vs.toArray 0)).push (seqObj "list" #[] 0)=h6 at jY k9 h ⊢;dsimp only
 by_cases h2:vs.toArray.size<2
 . have jy:vs.length<2:=h2;rw[ap h2,ap h2];refine ac (aq ?_);rw[StateT.run_pure];refine ac (aq ?_);dsimp only;have eo:(arrOf (SortSt.mk' general' (vs.toArray.zip vs.toArray) #[] 7 none)).map (·.2)=vs.toArray:=by
    show(vs.toArray.zip vs.toArray).map (·.2)=vs.toArray;apply U0.mp;rw[Array.toList_map,Array.toList_zip];exact List.map_snd_zip (aH _)
   rw[eo];refine ac (Bn jY rfl ?_);refine ac (Bm jY rfl ?_ (hsz2:=by show vs.length<=_;rw[oM];omega));simp only[MF,ix,kh];have q:=h (List.range vs.length) (U1 _) (by
    have:vs.length=0\/vs.length=1:=by omega
    rcases this with z | z<;>rw[z]<;>rfl)
   rw[OF]at q;exact aq q
 . have jy:2<=vs.length:=Ml h2;rw[ah h2,ah h2];obtain⟨fs,t1,t2,t3⟩:=afT k9;refine ac (PySem.W.kat_kind (T:=.type "int") t1 (by omega) (fun v hv=>?_) rfl ?_)
   . obtain⟨i,t,rfl⟩:=t3 v hv;exact .of_pure rfl
   obtain⟨p,hr,hp,sV⟩:=afQ jy h4 (f:=fK ks) (fun i j hi hj bn=>Ca _ _ (afU nd (sU▸hi) (sU▸hj) bn)) (fun i j k _ _ _=>ye _ _ _);have Cb:p.size=vs.length:=by
    have:=hp.length_eq;rw[mY,dm]at this;exact this
   have run:(PySem.W.kas_sort vs.length).kasWp (PySem.W.kas_ask prog w A (tuples' (Value.type "int" != Value.type "tuple")) vs) (fun p' s'=>p'=p/\s' = { s with heap:=h6 }) { s with heap:=h6 }:=
    G3 (n:=vs.length) (f:=fK ks) (fun i j C hi hj _ c=>afS (yf k9 i hi _ _) (yf k9 j hj _ _) c) _ hr ⟨rfl,rfl⟩
   refine ac (dN (PySem.W.kat_run (Q:=fun dq s'=>arrOf dq=p.map (PySem.W.kas_item (vs.toArray.zip vs.toArray))/\failedOf dq=none/\s' = { s with heap:=h6 }) (G:=fun p' s'=>p'=p/\s' = { s with heap:=h6 }) rfl jy (by omega)
    (fun p' dq s' a1 a2 a3 a4=>⟨a4.1▸a2,a3,a4.2⟩) run) ?_ fun _ _ e=>e)
   rintro⟨⟨⟩,dq⟩ s' ⟨G4,hf,rfl⟩;dsimp only;rw[PySem.W.kat_snds rfl G4];refine ac (Bn jY rfl ?_);refine ac (Bm jY rfl ?_ (hsz2:=by show(p.toList.map _).length<=_;rw[au,dm,Cb,oM];omega));rw[hf];simp only[MF,ix,kh];exact aq (h p.toList hp sV)
theorem afX{r:Addr}{Q:VP}(sM:wpAny (model prog w) A.in1 (collect (.ref r)) (fun us s'=>∃(ks:Ll) (h':Heap) (tk:Nat),s' = { s with heap:=h',toks:=tk }/\Paired (lV h') us ks/\us.length<=4/\ks.Nodup /\
 ∀(h2:Heap) (p:List Nat) (e:Nat),(∀b o,h'.get? b=some o->h2.get? b=some o)->h2.get? h'.objs.size=some (seqObj "list" (p.map fun i=>us.getD i Value.none).toArray e)->p.Perm (List.range us.length)->lU (fK ks) p=true->Q (.ref h'.objs.size) { s with heap:=h2,toks:=tk }) E s) :
 wpAny (model prog w) A (call (.builtin "sorted") [.ref r]) Q E s:=by
 refine Mn Mo Mp Mq (Mr (.ref r)) ?_;unfold Builtin.«sorted»;refine ac (m:=checkCount "sorted" 1 1 _) (aq (ac (dN sM (fun us s' z=>?_) fun _ _ e=>e)));obtain⟨ks,h',tk,rfl,hT,h4,nd,fin⟩:=z;refine ac (xh ?_ (by rw[oM];omega));have iA:(h'.push (seqObj "list" us.toArray 0)).get? h'.objs.size=some (seqObj "list" us.toArray 0):=da _ rfl;show wpAny _ _ _ _ _ { s with heap:=h'.push (seqObj "list" us.toArray 0),toks:=tk };have G5:Paired (lV (h'.push (seqObj "list" us.toArray 0))) us ks:=aM hT fun _ _ t=>t.keep fun b o e _=>bq _ e;refine ac (gH (kO Ms ⟨_,iA,rfl⟩ Mt (afV iA G5 h4 nd fun p a1 a2=>⟨_,rfl,?_⟩) (Mu _)));obtain⟨e,he⟩:=Mw (vs:=us) (out:=(p.map fun i=>us.getD i Value.none).toArray) iA;refine aq ⟨_,rfl,fin _ p e (fun b o q=>?_) he a1 a2⟩;have hb:=aZ q;rw[Mx (bE hb) (by rw[oN];exact FI hb)];exact bq _ q
end
def kB:Ll->Bool
 | []=>true
 | [_]=>true
 | x::y::r=>HT.lexLt x y && kB (y::r)
theorem OG{ks:Ll}:∀p:List Nat,kB (p.map fun i=>ks.getD i [])=lU (fK ks) p
 | []=>rfl
 | [_]=>rfl
 | x::y::r=>by
  show(HT.lexLt _ _ && kB ((y::r).map fun i=>ks.getD i []))=(fK ks x y && lU (fK ks) (y::r));rw[OG (y::r)];rfl
theorem afY{α:Type}{d:α}{ks:List α}:(List.range ks.length).map (fun i=>ks.getD i d)=ks:=by
 apply List.ext_getElem
 . rw[au,mY]
 . intro i h1 h2;rw[List.getElem_map,List.getElem_range,hU,cJ h2];rfl
theorem OH{α:Type}{d:α}{ks:List α}{p:List Nat}(hp:p.Perm (List.range ks.length)):(p.map fun i=>ks.getD i d).Perm ks:=by
 have h:=hp.map fun i=>ks.getD i d;rw[afY]at h;exact h
theorem yh{α β:Type}{R:α->β->Prop}{xs:List α}{ys:List β}(h:Paired R xs ys)(d:α)(e:β):∀p:List Nat,(∀i∈p,i<xs.length)->Paired R (p.map fun i=>xs.getD i d) (p.map fun i=>ys.getD i e)
 | [],_=>.nil
 | i::p,hi=>.cons (yf h i (hi i cD) d e) (yh h d e p fun j hj=>hi j (cy _ hj))
theorem OI{α β γ:Type}{R:α->β->Prop}{S:α->γ->Prop}{T:β->γ->Prop}(h:∀x y z,R x y->S x z->T y z):∀{xs:List α} {ys:List β} {zs:List γ},Paired R xs ys->Paired S xs zs->Paired T ys zs:=by
 intro xs ys zs p
 induction p generalizing zs with
 | nil=>
  intro q;cases q;exact .nil
 | cons x p ih=>
  intro q;cases q with
  | cons y q=>exact .cons (h _ _ _ x y) (ih q)
def G6(K:Fg)(H:Hp)(ys:Lv)(ks:Ll):Prop:=Paired (fun(y:V) (k:List Int)=>∃t,y = .ref t/\aw K H t (k.map V.int)/\k≠[]) ys ks
section
variable {X:Cx}
theorem Inv.tups{pins:Po}{σ:St}{H:Hp}{s:Shared}(I:Inv X pins σ H s){ys:Lv}{ks:Ll}{its:Lw}(h:G6 X.K H ys ks)(r:a8 ys its):Paired (lV s.heap) its ks:=
 OI (R:=RelV) (fun y v k rv z=>by
  obtain⟨t,rfl,hs,hk⟩:=z;cases rv;obtain⟨is,r1,p1,_⟩:=I.tuple hs;obtain⟨o,e1,c1,n,d1⟩:=p1;exact⟨t,o,is.toArray,n,rfl,e1,c1,d1,intsAre_of r1,hk⟩) r h
end
end L2
namespace HT
open PySem PyProof.Rows
section
open PySem.SeqAt
open PySem.AutoSeq1 (wpAny_loadPart')
open PySem.MeetsSeq PySem.MeetsSeq2 PySem.MeetsSeq3
theorem Cc{α:Type}{xs:Array α}{i:Nat}{x:α}{r:List α}(h:xs.toList.drop i=x::r):xs[i]? = some x/\xs.toList.drop (i+1)=r:=by
 have h1:(xs.toList.drop i)[0]? = some x:=by rw[h];rfl
 rw[List.getElem?_drop,MG,mX]at h1;refine⟨h1,?_⟩;rw[←List.drop_drop,h];rfl
theorem OJ{α:Type}{xs:Array α}{i:Nat}(h:xs.toList.drop i = []):xs[i]? = none/\xs.size<=i:=by
 have h1:=List.drop_eq_nil_iff.mp h;rw[dm]at h1;exact⟨FL h1,h1⟩
theorem yi{α:Type}{xs:Array α}{i:Nat}{x:α}{r:List α}(h:xs.toList.drop i=x::r):i<xs.size:=by
 have h1:=fL List.length h;rw[List.length_drop,dm,bF]at h1;omega
end
section
variable {prog:Program} {w:World} {A:Around} {E:VP} {s:Shared}
end
end HT
namespace L2
open PySem PySem.Spec PyProof.Rows
section
variable {X:Cx}
end
open PySem.W
section
variable {X:Cx}
def afZ(K:Fg):V->V->Hp->VK->Prop:=fun x y H Q=>∃d e,DV K H x d/\DV K H y e/\PySem.W.kqdOk 9 d=true/\PySem.W.kqdOk 9 e=true/\∀b:Bool,(b=true↔d=e)->Q (.bl (!b)) H
theorem OK(K:Fg)(hu:X.A.units+64<cLine)(h:X.K=K:=by rfl):bK X (compareOp .NotEq) (afZ K):=h▸adA hu
end
end L2
namespace L2
open PySem
def pq(m:Nat):Prop:=m=7\/m=15\/m=31\/m=63
def Cd(mask:Nat):Nat->Nat->Nat
 | 0,i=>i
 | m+1,i=>Cd mask m ((i * 5+1) % (mask+1))
def OL(mask:Nat):Bool:=(List.range (mask+1)).all fun i=>(List.range (mask+1)).all fun j=>(List.range (mask+1)).any fun m=>Cd mask m i == j
theorem af0{mask:Nat}(h:pq mask):OL mask=true:=by
 rcases h with rfl | rfl | rfl | rfl
 . decide +kernel
 . decide +kernel
 . decide +kernel
 . decide +kernel
theorem af1{mask i j:Nat}(h:pq mask)(hi:i<=mask)(hj:j<=mask):∃m,m<=mask/\Cd mask m i=j:=by
 have:=af0 h;unfold OL at this;rw[dW]at this;have:=this i (g9.mpr (by omega));rw[dW]at this;have:=this j (g9.mpr (by omega));obtain⟨m,hm,e⟩:=jp.mp this;exact⟨m,by have:=g9.mp hm;omega,eq_of_beq e⟩
def jZ(mask:Nat):Nat->Nat->Nat->Nat×Nat
 | 0,i,p=>(i,p)
 | m+1,i,p=>jZ mask m ((i * 5+1+p / 32) % (mask+1)) (p / 32)
theorem OM(mask:Nat):∀(m i:Nat),jZ mask m i 0=(Cd mask m i,0)
 | 0,i=>rfl
 | m+1,i=>by
  show jZ mask m ((i * 5+1+0 / 32) % (mask+1)) (0 / 32)=_;rw[Nat.zero_div,MG,OM mask m];rfl
theorem ON(mask:Nat):∀(m k i p:Nat),jZ mask (m+k) i p=jZ mask k (jZ mask m i p).1 (jZ mask m i p).2
 | 0,k,i,p=>by rw[Bo];rfl
 | m+1,k,i,p=>by
  rw[Nat.succ_add];exact ON mask m k _ _
theorem OO(mask:Nat):∀(m i p:Nat),(jZ mask m i p).2=p / 32 ^ m
 | 0,i,p=>by simp[jZ]
 | m+1,i,p=>by
  show(jZ mask m _ (p / 32)).2=_;rw[OO mask m,Nat.div_div_eq_div_mul,Nat.pow_succ,Nat.mul_comm]
theorem OP(mask:Nat):∀(m i p:Nat),i<=mask->(jZ mask m i p).1<=mask
 | 0,i,p,h=>h
 | m+1,i,p,h=>OP mask m _ _ (Nat.le_of_lt_succ (MH (i * 5+1+p / 32) (xi mask)))
theorem af2{mask i p j:Nat}(h:pq mask)(hi:i<=mask)(hp:p<2 ^ 64)(hj:j<=mask):∃m,m<SetTable.turns mask/\(jZ mask m i p).1=j:=by
 have h2:(jZ mask 13 i p).2=0:=by
  rw[OO];exact Nat.div_eq_of_lt (xc hp (by decide))
 obtain⟨m,hm,e⟩:=af1 h (OP mask 13 i p hi) hj;refine⟨13+m,by unfold SetTable.turns;omega,?_⟩;rw[ON,h2,OM];exact e
theorem OQ(mask:Nat)(ow:Array (Option Nat)):∀(f i p:Nat),SetTable.layClean.free mask ow f i p=none->∀m,m<f->(ow.getD (jZ mask m i p).1 (some 0)).isNone=false
 | 0,i,p,_,m,h=>absurd h (sd _)
 | f+1,i,p,e,m,h=>by
  unfold SetTable.layClean.free at e;cases hq:(List.range (SetTable.runEnd mask i+1 - i)).find? fun k=>(ow.getD (i+k) (some 0)).isNone with
  | some k=>rw[hq]at e;cases e
  | none=>
   rw[hq]at e;cases m with
   | zero=>
    have:=U2.mp hq 0 (g9.mpr (by unfold SetTable.runEnd;split<;>omega));rw[MG]at this;cases hz:(ow.getD i (some 0)).isNone with
    | true=>exact absurd hz this
    | false=>exact hz
   | succ m=>exact OQ mask ow f _ _ e m (by omega)
theorem OR(mask:Nat)(ow:Array (Option Nat)):∀(f i p j:Nat),SetTable.layClean.free mask ow f i p=some j->(ow.getD j (some 0)).isNone=true
 | 0,i,p,j,e=>by cases e
 | f+1,i,p,j,e=>by
  unfold SetTable.layClean.free at e;cases hq:(List.range (SetTable.runEnd mask i+1 - i)).find? fun k=>(ow.getD (i+k) (some 0)).isNone with
  | some k=>
   rw[hq]at e;cases e;exact U3 (p:=fun k=>(ow.getD (i+k) (some 0)).isNone) hq
  | none=>
   rw[hq]at e;exact OR mask ow f _ _ j e
theorem OS{α:Type}:∀{l:List (Option α)} {j:Nat} {x:α},l[j]? = some none->((l.set j (some x)).filterMap id).Perm (x::l.filterMap id)
 | [],j,x,h=>by cases h
 | o::l,0,x,h=>by
  cases h;simp
 | o::l,j+1,x,h=>by
  have ih:=OS (l:=l) (j:=j) (x:=x) h;rw[List.set_cons_succ];cases o with
  | none=>simpa using ih
  | some y=>
   simp only[xa,id];exact(ih.cons y).trans (.swap ..)
structure Lay(mask:Nat)(r:Array (Option Nat)×Nat):Prop where
 size:r.1.size=mask+1
 perm:(r.1.toList.filterMap id).Perm (List.range r.2)
theorem Lay.step{mask:Nat}(hm:pq mask){r:Array (Option Nat)×Nat}(x:Lay mask r)(hk:r.2<=mask)(h:Int):∃j,SetTable.layClean.free mask r.1 (SetTable.turns mask) (SetTable.bits h % (mask+1)) (SetTable.bits h)=some j/\Lay mask (r.1.setIfInBounds j (some r.2),r.2+1):=by
 obtain⟨ow,k⟩:=r;dsimp only at *;have hz:ow.size=mask+1:=x.size;have hlen:=x.perm.length_eq;dsimp only at hlen;rw[mY]at hlen;cases hf:SetTable.layClean.free mask ow (SetTable.turns mask) (SetTable.bits h % (mask+1)) (SetTable.bits h) with
 | none=>
  exfalso;have fO:∀j,j<=mask->(ow.getD j (some 0)).isNone=false:=fun j hj=>by
   obtain⟨m,h1,h2⟩:=af2 hm (i:=SetTable.bits h % (mask+1)) (p:=SetTable.bits h) (Nat.le_of_lt_succ (MH (SetTable.bits h) (xi mask))) (by
    unfold SetTable.bits;have h1:=Int.emod_lt_of_pos h (show(0:Int)<2 ^ 64 by decide);have h0:=Int.emod_nonneg h (show(2 ^ 64:Int)≠0 by decide);omega) hj
   have:=OQ mask ow _ _ _ hf m h1
   rwa [h2]at this
  have:(ow.toList.filterMap id).length=ow.toList.length:=by
   rw[List.length_filterMap_eq_countP,List.countP_eq_length];intro o ho;obtain⟨j,hj,e⟩:=Bp.mp ho;rw[dm]at hj;have:=fO j (by omega);rw[oP,oQ hj]at this;rw[←e,Array.getElem_toList];cases hq:ow[j]with
   | none=>rw[hq]at this;cases this
   | some y=>rfl
  have e9:ow.toList.length=ow.size:=dm;omega
 | some j=>
  have hs:=OR mask ow _ _ _ _ hf;have hj:j<ow.size:=by
   refine Nat.lt_of_not_le fun z=>?_;rw[oP,FL z]at hs;cases hs
  have hn:ow.toList[j]? = some none:=by
   rw[oP,oQ hj]at hs;rw[mX,oQ hj];cases hq:ow[j]with
   | none=>rfl
   | some y=>rw[hq]at hs;cases hs
  refine⟨j,rfl,⟨by simp[hz],?_⟩⟩;dsimp only;rw[Array.toList_setIfInBounds,MI];exact(OS hn).trans ((x.perm.cons k).trans (List.perm_append_singleton k _).symm)
theorem OT{mask:Nat}(hm:pq mask):∀(hs:List Int) (r:Array (Option Nat)×Nat),Lay mask r->r.2+hs.length<=mask+1->∃r',hs.foldl (fun(acc:Option (Array (Option Nat)×Nat)) h=>do
 let (owner,k) ←acc
 let j ←SetTable.layClean.free mask owner (SetTable.turns mask) (SetTable.bits h % (mask+1)) (SetTable.bits h)
 pure (owner.setIfInBounds j (some k),k+1)) (some r)=some r'/\Lay mask r'/\r'.2=r.2+hs.length
 | [],r,x,_=>⟨r,rfl,x,rfl⟩
 | h::hs,r,x,hl=>by
  rw[bF]at hl;obtain⟨j,e,x'⟩:=x.step hm (by omega) h;obtain⟨r',e1,x1,e2⟩:=OT hm hs _ x' (by dsimp only;omega);refine⟨r',?_,x1,by rw[e2,bF];dsimp only;omega⟩;rw[U4,←e1]
  congr 1
  show(SetTable.layClean.free mask r.1 (SetTable.turns mask) (SetTable.bits h % (mask+1)) (SetTable.bits h)).bind _=_;rw[e];rfl
theorem OU{mask f m:Nat}{led plain:Bool}{hs:Array Int}(hm:pq mask)(hl:hs.size<=mask):∃t order,SetTable.laid mask f m led plain hs=some (t,order)/\order.toList.Perm (List.range hs.size)/\t.fits hs.size=true/\t.led=led/\t.plain=plain/\t.mask=mask:=by
 have x0:Lay mask (Array.replicate (mask+1) none,0):=⟨by simp,by simp⟩;obtain⟨r,e,x,e2⟩:=OT hm hs.toList _ x0 (by dsimp only;rw[dm];omega);have hc:SetTable.layClean mask hs=some r.1:=by
  unfold SetTable.layClean;rw[←Array.foldl_toList,e];rfl
 dsimp only at e2;rw[Bo,dm]at e2;have ho:((List.range (mask+1)).filterMap fun j=>(r.1.getD j none).map (j,·)).map (·.2)=r.1.toList.filterMap id:=by
  have e3:r.1.toList=(List.range (mask+1)).map fun j=>r.1.getD j none:=by
   refine List.ext_getElem? fun j=>?_;rw[bN,mX]
   by_cases hj:j<mask+1
   . rw[List.getElem?_range hj,oQ (by rw[x.size];exact hj),lI,oP,oQ (by rw[x.size];exact hj)];rfl
   . rw[FL (by rw[x.size];omega),ar8 (by rw[mY];omega)];rfl
  rw[e3,List.filterMap_map,List.map_filterMap]
  congr 1
  funext j
  show Option.map _ (Option.map _ (r.1.getD j none))=r.1.getD j none;cases r.1.getD j none<;>rfl
 have hlen:((List.range (mask+1)).filterMap fun j=>(r.1.getD j none).map (j,·)).length=hs.size:=by
  have:=fL List.length ho;rw[au,x.perm.length_eq,mY,e2]at this;exact this
 unfold SetTable.laid;rw[hc];refine⟨_,_,rfl,?_,?_,rfl,rfl,rfl⟩
 . show(((List.range (mask+1)).filterMap fun j=>(r.1.getD j none).map (j,·)).map (·.2)).Perm _;rw[ho,←e2];exact x.perm
 . unfold SetTable.fits SetTable.fill;have hp:((((List.range (mask+1)).filterMap fun j=>(r.1.getD j none).map (j,·)).map (·.1)).toArray).size=hs.size:=by
    rw[iz,au];exact hlen
   have e9:(#[]:Array Nat).size=0:=rfl;rw[dn];refine⟨iV.mpr hp,aE ?_⟩;show _+(#[]:Array Nat).size<=mask;rw[e9,MG];exact bS (Fw hp) hl
open PySem.Spec PyProof.Rows
def fk(w:World):Bool:=w.params.followText "set-order"
def iE(e:Int×Value):Str:=match e.2 with
 | .str y _=>y
 | _=>Str.ofString ""
def nA(w:World)(e:Int×Value):Prop:=∃y tk,e=(lK w (.inr y),Value.str y tk)
structure eF(w:World)(o:Obj)(es:Array (Int×Value))(ep:Nat)(t:SetTable)(xs:Ls):Prop where
 ex:o.ExactSet
 dat:o.data = .set es ep t
 good:∀e∈es.toList,nA w e
 perm:(es.toList.map iE).Perm xs
 nd:xs.Nodup
 len:xs.length<=1000
 fit:t.fits es.size=true
 led:t.led = !fk w
 pl:es.size≠0->t.plain=false
 msk:es.size=0->pq t.mask
def cf(w:World)(h:Heap)(a:Addr)(xs:Ls):Prop:=∃o es ep t,h.get? a=some o/\eF w o es ep t xs
theorem cf.at'{w:World}{h h':Heap}{a:Addr}{xs:Ls}(x:cf w h a xs)(k:∀o,h.get? a=some o->h'.get? a=some o):cf w h' a xs:=
 x.elim fun o af3=>af3.elim fun es af4=>af4.elim fun ep af5=>af5.elim fun t af6=>af6.elim fun e r=>⟨o,es,ep,t,k o e,r⟩
theorem cf.typeIs{w:World}{s:Shared}{a:Addr}{xs:Ls}(x:cf w s.heap a xs):s.TypeIs (.ref a) "set":=x.elim fun o af7=>af7.elim fun _ af8=>af8.elim fun _ af9=>af9.elim fun _ aga=>aga.elim fun e r=>⟨o,e,r.ex.1⟩
section
variable {w:World} {P:Program} {o:Obj} {es:Array (Int×Value)} {ep:Nat} {t:SetTable} {xs:Ls}
theorem eF.elems(x:eF w o es ep t xs):ElemsOf (cm P w) es.toList:=fun e he=>by
 obtain⟨y,tk,rfl⟩:=x.good e he;exact⟨⟨.inr y,sg P w y tk,rfl⟩,rfl⟩
theorem eF.size(x:eF w o es ep t xs):es.size=xs.length:=by
 have:=x.perm.length_eq;rw[au,dm]at this;exact this
theorem eF.bnd(x:eF w o es ep t xs):es.size<scanBound:=by
 rw[x.size];have:=x.len;show _<4096;omega
theorem OV{y:Str}{e:Int×Value}(g:nA w e):(cm P w).is (.inr y) e.2=true↔iE e=y:=by
 obtain⟨z,tk,rfl⟩:=g;constructor
 . intro h;have:=(cm P w).inj _ _ _ h (sg P w z tk);injection this with this
   exact this.symm
 . intro h;rw[←h];exact sg P w z tk
theorem eF.find_some(x:eF w o es ep t xs){y:Str}{j:Nat}(h:List.findIdx? (fun e=>(cm P w).is (.inr y) e.2) es.toList=some j):y∈xs:=by
 obtain⟨hj,hp,_⟩:=List.findIdx?_eq_some_iff_getElem.mp h;have hm:=xj hj;exact x.perm.mem_iff.mp (be.mpr ⟨_,hm,(OV (x.good _ hm)).mp hp⟩)
theorem eF.find_none(x:eF w o es ep t xs){y:Str}(h:List.findIdx? (fun e=>(cm P w).is (.inr y) e.2) es.toList=none):y∉xs:=fun hy=>by
 obtain⟨e,he,hk⟩:=be.mp (x.perm.mem_iff.mpr hy);have:=List.findIdx?_eq_none_iff.mp h e he;rw[(OV (x.good _ he)).mpr hk]at this;cases this
end
theorem agb(t:SetTable)(es:Array (Int×Value))(h:Int)(x:Value):(layNew t es h x).2.1.led=t.led:=by
 unfold layNew;split
 . dsimp only;unfold SetTable.orStandIn;split<;>rfl
 . rfl
theorem agc{mask f m:Nat}{led plain:Bool}{hs:Array Int}{r:SetTable×Array Nat}(e:SetTable.laid mask f m led plain hs=some r):r.1.led=led/\r.1.plain=plain/\r.1.mask=mask/\r.1.dummies = #[]:=by
 unfold SetTable.laid at e;cases hq:SetTable.layClean mask hs with
 | none=>rw[hq]at e;cases e
 | some ow=>
  rw[hq]at e;cases e;exact⟨rfl,rfl,rfl,rfl⟩
theorem agd(t:SetTable)(es:Array (Int×Value))(n:Nat):(relayAll t es n).2.1.led=t.led/\(t.plain=false->(relayAll t es n).2.1.plain=false):=by
 unfold relayAll;split
 . rename_i t' order e;dsimp only;split
   . obtain⟨h1,h2,_⟩:=agc e;exact⟨h1,fun z=>h2.trans z⟩
   . exact⟨rfl,fun _=>rfl⟩
 . exact⟨rfl,fun _=>rfl⟩
def i9(xs:Ls)(y:Str):Ls:=if y∈xs then xs else xs++[y]
theorem OW{xs:Ls}{y:Str}(h:xs.Nodup):(i9 xs y).Nodup:=by
 unfold i9;split
 . exact h
 . rename_i z;rw[FM];exact⟨h,by simp,fun a ha b hb=>by rw[cE.mp hb];exact fun q=>z (q▸ha)⟩
theorem G7{xs:Ls}{y z:Str}:z∈i9 xs y↔z∈xs\/z=y:=by
 unfold i9;split
 . rename_i h;exact⟨.inl,fun q=>q.elim id fun q=>q▸h⟩
 . simp
theorem Ce(xs:Ls)(y:Str):(i9 xs y).length<=xs.length+1:=by
 unfold i9;split
 . omega
 . simp
section
variable {prog:Program} {w:World} {A:Around} {E:VP} {s:Shared} {a:Addr}
theorem eF.store{h:Heap}{o:Obj}{es es':Array (Int×Value)}{ep:Nat}{t t':SetTable}(ho:h.get? a=some o)(x:o.ExactSet)(d:o.data = .set es ep t):(h.update a (Obj.putSet es' t')).get? a=some { o with data:=.set es' (ep+1) t' }:=by
 have q:=Bq (Obj.putSet es' t') ho (by rw[putSet_of es' t' d];rfl)
 rwa [putSet_of es' t' d]at q
theorem OX{g:Bool->Sem Unit}(hg:∀(b:Bool) (s₁:Shared) (Q':Unit->Shared->Prop),Q' () s₁->wpAny (model prog w) A (g b) Q' E s₁){o:Obj}{es cM:Array (Int×Value)}{ep:Nat}{t t2:SetTable}{ys:Ls}{wd:Bool}{R:Option Bool->Shared->Prop}
 (ho:s.heap.get? a=some o) (hx:o.ExactSet) (hd:o.data = .set es ep t) (gd:∀e∈cM.toList,nA w e) (pm:(cM.toList.map iE).Perm ys) (nd:ys.Nodup) (ln:ys.length<=1000) (hf:t2.fits cM.size=true) (ld:t2.led = !fk w) (pl:t2.plain=false) (ne:cM.size≠0)
 (h:∀h',Heap.SameBut a s.heap h'->cf w h' a ys->R (some true) { s with heap:=h' }) :
 wpAny (model prog w) A (do { storeSet a cM t2;if (!wd && t2.tooFull)=true then do { g (relayAll t2 cM (SetTable.grown cM.size)).2.2;storeSet a (relayAll t2 cM (SetTable.grown cM.size)).1 (relayAll t2 cM (SetTable.grown cM.size)).2.1;pure (some true) } else pure (some true) }) R E s:=by
 have sz:cM.size=ys.length:=by have:=pm.length_eq;rw[au,dm]at this;exact this
 have b1:cM.size<scanBound:=by rw[sz];show _<4096;omega
 refine ac (Br ho hd ?_ (xk b1));have o1:=eF.store (es':=cM) (t':=t2) ho hx hd;have sb:=kQ s.heap a (Obj.putSet cM t2);split
 . have hp:=relayAll_perm t2 cM (SetTable.grown cM.size);have py:=relayAll_fits t2 cM (SetTable.grown cM.size);have Cf:=agd t2 cM (SetTable.grown cM.size);generalize hR:relayAll t2 cM (SetTable.grown cM.size)=Rl at hp py Cf ⊢;obtain⟨G8,t3,g2⟩:=Rl;dsimp only at hp py Cf ⊢;have OY:G8.size=cM.size:=by rw[←dm,hp.length_eq,dm]
   refine ac (hg _ _ _ (ac (Br o1 rfl ?_ (xk (by rw[OY];exact b1)))));have o2:=eF.store (es':=G8) (t':=t3) o1 hx rfl;exact aq (h _ (sb.trans (kQ _ a _)) ⟨_,G8,_,t3,o2,hx,rfl,fun e he=>gd e (hp.mem_iff.mp he),(hp.map iE).trans pm,nd,ln,py,Cf.1.trans ld,fun _=>Cf.2 pl,fun z=>absurd (OY.symm.trans z) ne⟩)
 . exact aq (h _ sb ⟨_,cM,_,t2,o1,hx,rfl,gd,pm,nd,ln,hf,ld,fun _=>pl,fun z=>absurd z ne⟩)
theorem G9{xs:Ls}{y:Str}{tk:Tok}{Q:Bool->Shared->Prop}(hS:cf w s.heap a xs)(hl:xs.length<1000)(h:∀b h',Heap.SameBut a s.heap h'->cf w h' a (i9 xs y)->Q b { s with heap:=h' }) :
 wpAny (model prog w) A (setAddHashed a (.str y tk) (lK w (.inr y))) Q E s:=by
 obtain⟨o,es,ep,t,ho,x⟩:=hS;have el:ElemsOf (cm prog w) es.toList:=x.elems;unfold setAddHashed setAddHashedIn;refine gH (ac (iX ho x.dat x.fit ?_));dsimp only;rw[byScan_of (x:=.str y tk) rfl x.bnd el];simp only[↓reduceIte];unfold setAddByScan;refine ac (ac (rX (ac (wpAny_setScan_of (knd:=cm prog w) (k:=.inr y) (sg prog w y tk) ho x.dat x.fit el ?_))));cases hr:List.findIdx? (fun e=>(cm prog w).is (.inr y) e.2) es.toList with
 | some j=>
  dsimp only;refine aq (aq ?_);have hy:=x.find_some hr;exact h false s.heap (FN a s.heap) (by unfold i9;rw[ap hy];exact⟨o,es,ep,t,ho,x⟩)
 | none=>
  dsimp only;have hy:=x.find_none hr;have yj:=layNew_perm t es (lK w (.inr y)) (.str y tk);have Cg:=layNew_fits t es (lK w (.inr y)) (.str y tk);have Ci:=agb t es (lK w (.inr y)) (.str y tk);have e0:(cm prog w).hash (.inr y)=lK w (.inr y):=rfl
  try rw[e0]
  generalize hL:layNew t es (lK w (.inr y)) (.str y tk)=L at yj Cg Ci ⊢;obtain⟨cM,t1,wd,asI⟩:=L;dsimp only at yj Cg Ci ⊢;rw[Array.toList_push]at yj;have gd:∀e∈cM.toList,nA w e:=fun e he=>by
   rcases eg.mp (yj.mem_iff.mp he) with z | z
   . exact x.good e z
   . exact⟨y,tk,cE.mp z⟩
  have ea:i9 xs y=xs++[y]:=by unfold i9;rw[ah hy]
  have pm:(cM.toList.map iE).Perm (i9 xs y):=by
   rw[ea];refine(yj.map iE).trans ?_;rw[dU];exact x.perm.append_right _
  have ne:cM.size≠0:=fun z=>by
   have:=pm.length_eq;rw[ea,au,dm,z,bc]at this;simp at this
  have ln:(i9 xs y).length<=1000:=by have:=Ce xs y;omega
  have hgw:∀(b:Bool) {s₁:Shared} {Q':Unit->Shared->Prop},Q' () s₁->wpAny (model prog w) A (match b with | true=>rule "set.scan.the-table-gave-way" | false=>pure ()) Q' E s₁:=fun b s₁ Q' hq=>by
   cases b
   . exact aq hq
   . exact rX hq
  refine ac (hgw _ ?_);have fin:∀h',Heap.SameBut a s.heap h'->cf w h' a (i9 xs y)->wpAny (model prog w) A (pure true:Sem Bool) Q E { s with heap:=h' }:=fun h' k z=>aq (h true h' k z);split
  . refine ac ?_;rw[hashByValue_scannable (x:=.str y tk) 8 rfl];refine aq ?_;refine OX ?_ ho x.ex x.dat gd pm (OW x.nd) ln ?_ ?_ ?_ ne (fun h' k z=>fin h' k z)
    . intro b s₁ Q' hq;cases b
      . exact aq hq
      . exact rX hq
    . exact SetTable.fits_plain_off Cg
    . exact Ci.trans x.led
    . rfl
  . rename_i Ha;refine ac (aq ?_);simp only[↓reduceIte];refine OX ?_ ho x.ex x.dat gd pm (OW x.nd) ln Cg (Ci.trans x.led) (by simpa using Ha) ne (fun h' k z=>fin h' k z);intro b s₁ Q' hq;cases b
    . exact aq hq
    . exact rX hq
end
theorem Hb{α:Type}:∀{l:List α} {i:Nat} (h:i<l.length),(l[i]::l.eraseIdx i).Perm l
 | [],i,h=>absurd h (sd _)
 | x::r,0,h=>.refl _
 | x::r,i+1,h=>by
  have h':i<r.length:=by simpa using h
  show(r[i]::x::r.eraseIdx i).Perm _;exact(List.Perm.swap ..).trans ((Hb (l:=r) (i:=i) h').cons x)
theorem OZ{α:Type}(next:Nat->Nat):∀(f k:Nat) (left:List α) (out:Array α),f=left.length->(pickOrder.go next f k left out).toList.Perm (out.toList++left)
 | 0,k,left,out,h=>by
  rw[uJ.mp h.symm];simp[pickOrder.go]
 | f+1,k,left,out,h=>by
  have hp:next k % left.length<left.length:=MH _ (by omega);unfold pickOrder.go;rw[cJ hp];dsimp only;refine(OZ next f (k+1) _ _ (by rw[ar9 hp];omega)).trans ?_;rw[Array.toList_push,oR];exact List.Perm.append_left _ (Hb hp)
theorem O0{α:Type}(next:Nat->Nat)(xs:Array α):(pickOrder next xs).toList.Perm xs.toList:=by
 have:=OZ next xs.size 0 xs.toList #[] (by simp);simpa [pickOrder]using this
section
variable {prog:Program} {w:World} {A:Around} {E:VP} {s:Shared} {a:Addr}
theorem agf{n:Nat}(hn:n≠0){Q:Nat->Shared->Prop}(h:∀i d,i<n->Q i { s with drawn:=d }):wpAny (model prog w) A (choose .order n) Q E s:=fun Γ p hΓ=>by
 unfold choose;rw[Sem.wp_choose];refine⟨hn,?_⟩;simp only[Sem.wp_pure];exact h _ _ (MH _ (Nat.pos_of_ne_zero hn))
theorem O1{α:Type}:∀(n:Nat) (l:List α) (s:Shared) (Q:List α->Shared->Prop),n=l.length->(∀out d,out.Perm l->Q out { s with drawn:=d })->wpAny (model prog w) A (drawOrder n l) Q E s
 | 0,l,s,Q,hn,h=>by
  have hl:=uJ.mp hn.symm;subst hl;exact aq (h [] s.drawn .nil)
 | n+1,l,s,Q,hn,h=>by
  cases l with
  | nil=>cases hn
  | cons x r=>
   show wpAny _ _ (choose .order (x::r).length >>= _) _ _ _;refine ac (agf (by simp) fun i d hi=>?_);rw[cJ hi];dsimp only;refine ac (O1 n ((x::r).eraseIdx i) _ _ (by rw[ar9 hi];simp at hn ⊢;omega) fun out d2 hp=>aq ?_);exact h _ d2 ((hp.cons _).trans (Hb hi))
end
def ja(h:Heap)(it a:Addr)(ep n:Nat)(f:Value)(i:Nat):Prop:=∃o,h.get? it=some o/\o.cls = .type "set_iterator"/\o.data = .fields #[f,rawInt i,.ref a,rawInt n,rawInt ep]
theorem ja.at'{h h':Heap}{it a:Addr}{ep n i:Nat}{f:Value}(x:ja h it a ep n f i)(k:∀o,h.get? it=some o->h'.get? it=some o):ja h' it a ep n f i:=x.elim fun o agg=>agg.elim fun e r=>⟨o,k _ e,r⟩
theorem ja.typeIs{s:Shared}{it a:Addr}{ep n i:Nat}{f:Value}(x:ja s.heap it a ep n f i):s.TypeIs (.ref it) "set_iterator":=x.elim fun o agh=>agh.elim fun e agi=>agi.elim fun r _=>⟨o,e,r⟩
inductive Md (w:World) (h:Heap) (I a T:Addr) (es:Array (Int×Value)) (ep:Nat) (t:SetTable) (os:List (Int×Value)) (i:Nat):Prop
 | text (b:fk w=true) (e:os=(pickOrder (w.params.setOrder a ep) es).toList) (x:ja h I a ep es.size (rawInt 0) i)
 | draw (pl:List Nat) (b:fk w=false) (e:os.length=pl.length/\∀(k j:Nat),pl[k]? = some j->os[k]? = es[j]?) (x:ja h I a ep es.size (.ref T) i) (y:∃o n,h.get? T=some o/\o.data = .seq (pl.map fun j=>rawInt (j:Nat)).toArray n) (z:I≠T)
 | tab (sl:Nat) (b:fk w=false) (l:es.size<=1) (e:os=es.toList) (x:ja h I a ep es.size (rawInt sl) i) (y:SetTable.below t.place sl=i)
def vo(w:World)(I a T:Addr)(os:List (Int×Value))(i:Nat)(h:Heap):Prop:=∃o es ep t xs,h.get? a=some o/\eF w o es ep t xs/\os.Perm es.toList/\I≠a/\Md w h I a T es ep t os i
section
variable {prog:Program} {w:World} {A:Around} {E:VP} {s:Shared} {a it:Addr}
theorem Hc{ep n i:Nat}{f v:Value}{Q:Unit->Shared->Prop}(x:ja s.heap it a ep n f i)(q:∀h',Heap.SameBut it s.heap h'->ja h' it a ep n v i->Q () { s with heap:=h' }):wpAny (model prog w) A (setField (.ref it) 0 v) Q E s:=by
 obtain⟨o,ho,hc,hd⟩:=x;exact FO ho hd (by simp) (q _ (kQ ..) ⟨_,Bq _ ho (U5 (Bt hd _)),(U6 ..).trans hc,by rw[Bt hd];simp⟩)
theorem Hd{ep n i:Nat}{f:Value}{Q:Unit->Shared->Prop}(x:ja s.heap it a ep n f i)(q:∀h',Heap.SameBut it s.heap h'->ja h' it a ep n f (i+1)->Q () { s with heap:=h' }):wpAny (model prog w) A (setField (.ref it) 1 (rawInt ((i:Int)+1))) Q E s:=by
 obtain⟨o,ho,hc,hd⟩:=x;exact FO ho hd (by simp) (q _ (kQ ..) ⟨_,Bq _ ho (U5 (Bt hd _)),(U6 ..).trans hc,by rw[Bt hd];simp[rawInt]⟩)
theorem He{ep n i:Nat}{f:Value}{R:PySem.Fin->Shared->Prop}{E':VP}(hh:A.handled=none)(x:ja s.heap it a ep n f i)
 (q:∀h' e,Heap.ExtBut it s.heap h'->Shared.TypeIs { s with heap:=h' } e "StopIteration"->E' e { s with heap:=h' }):wpAny (model prog w) A.in1 (do { setField (.ref it) 2 .none;raiseNew (←newExc (.type "StopIteration") []) }) R E' s:=by
 obtain⟨o,ho,hc,hd⟩:=x;refine ac (FO ho hd (by simp) ?_);show wpAny _ _ (newExc (.type "StopIteration") [] >>= _) _ _ _;refine ac ?_;simp only[newExc,newTuple];refine ac (r6 ?_ (by size_fits));refine ac (m:=firstArgMember _ _) (MJ (a:=Value.none) (by first | rfl | (simp only[firstArgMember];rfl)) ?_);refine r6 ?_ (by size_fits);simp only[raiseNew];refine ac (wpAny_handled ?_);rw[show A.in1.handled=none from hh];refine ac (aq (wpAny_throw ?_));refine q _ _ (((kQ ..).extBut.push _).push _) ?_;exact⟨_,da _ rfl,rfl⟩
theorem O2(j:Nat):SetTable.below #[j] 0=0/\SetTable.below #[j] (j+1)=1:=by
 constructor
 . simp[SetTable.below,SetTable.below.go]
 . simp[SetTable.below,SetTable.below.go]
theorem O3{o:Obj}{es:Array (Int×Value)}{ep:Nat}{t:SetTable}{i:Nat}{Q:Option (Value×Nat)->Shared->Prop}(b:fk w=true)(ho:s.heap.get? a=some o)(hd:o.data = .set es ep t)(hf:t.fits es.size=true)
 (q:Q (((pickOrder (w.params.setOrder a ep) es)[i]?).map fun e=>(e.2,0)) s):wpAny (model prog w) A (setNext a 0 i ep) Q E s:=by
 have hb:w.params.followText "set-order" = true:=b;unfold setNext;refine ac (iX ho hd hf ?_);refine ac (m:=setsByText) (ac (qB (aq ?_)));show wpAny _ _ (if w.params.followText "set-order" = true then _ else _) _ _ s;rw[ap hb,ah (show ¬((ep != ep)=true) by simp)];refine ac ?_;unfold setWalk;refine ac (iX ho hd hf ?_);refine ac (m:=setsByText) (ac (qB (aq ?_)));show wpAny _ _ (if w.params.followText "set-order" = true then _ else _) _ _ s;rw[ap hb];exact ac (qB (aq (aq q)))
theorem O4{o:Obj}{es:Array (Int×Value)}{ep:Nat}{t:SetTable}{sl i:Nat}{Q:Option (Value×Nat)->Shared->Prop}(b:fk w=false)(ho:s.heap.get? a=some o)(hd:o.data = .set es ep t)(hf:t.fits es.size=true)(hl:t.led = !fk w)(l:es.size<=1)
 (q:Q (match es[SetTable.below t.place sl]?,t.place[SetTable.below t.place sl]? with | some (_,x),some j=>some (x,j+1) | _,_=>none) s):wpAny (model prog w) A (setNext a sl i ep) Q E s:=by
 have hb:w.params.followText "set-order" = false:=b;unfold setNext;refine ac (iX ho hd hf ?_);refine ac (m:=setsByText) (ac (qB (aq ?_)));show wpAny _ _ (if w.params.followText "set-order" = true then _ else _) _ _ s;rw[ah (by rw[hb];exact bV)];show wpAny _ _ (if (!t.plain && decide (es.size > 1))=true then _ else _) _ _ s;rw[ah (by rw[aR (by omega),kj];exact bV)];show wpAny _ _ ((if (!t.led && !es.isEmpty)=true then _ else _) >>= _) _ _ s;rw[ah (by rw[hl,b];exact bV)];exact ac (aq (aq q))
theorem vp{ep n i:Nat}{f:Value}{o:Obj}{es:Array (Int×Value)}{t:SetTable}{Q:Option Value->Shared->Prop}(x:ja s.heap it a ep es.size f i)(ho:s.heap.get? a=some o)(hd:o.data = .set es ep t)(hf:t.fits es.size=true)
 {E1:VP}
 (q:wpAny (model prog w) A.in1 (if let .int slot _:=f then
  (do
   match ←setNext a slot.toNat i ep with
   | some (x,next)=>setField (.ref it) 0 (rawInt next);setField (.ref it) 1 (rawInt ((i:Int)+1));ret x
   | none=>setField (.ref it) 2 .none;raiseNew (←newExc (.type "StopIteration") []))
  else(do
   let some places ←seqItems? f | unsupported "internal:set_iterator"
   match places[i]? with
   | some (.int place _)=>let x ←setNextDrawn a place.toNat ep;setField (.ref it) 1 (rawInt ((i:Int)+1));ret x
   | some _=>unsupported "internal:set_iterator"
   | none=>setField (.ref it) 0 (rawInt 0);setField (.ref it) 2 .none;raiseNew (←newExc (.type "StopIteration") [])))
  (fun fin s'=>∃v,fin = .done (.ret v)/\Q (some v) s') (fun e s'=>Shared.TypeIs s' e "StopIteration"/\Q none s') s) :
 wpAny (model prog w) A (pyNext (.ref it)) Q E s:=by
 obtain⟨oi,hoi,hc,hdi⟩:=id x;unfold pyNext;refine ac (U7 (U8 (name:=Str.ofString "__next__") x.typeIs B7 (kO B7 x.typeIs afx ?_ (afA _))));unfold Builtin.«set_iterator.__next__»;refine ac (aq ?_);refine ac (U9 hoi hdi ?_);show wpAny _ _ (setEntries a >>= _) _ _ s;unfold setEntries;refine ac (ac (iX ho hd hf (aq ?_)));dsimp only;rw[ah (by simp)];refine dN q (fun fin s' z=>?_) (fun e s' z=>?_)
 . obtain⟨v,rfl,z⟩:=z;exact⟨v,rfl,aq z⟩
 . exact ac (mT (T:="StopIteration") (b:=true) z.1 isSubtype_stop (aq z.2))
end
section
variable {prog:Program} {w:World} {A:Around} {E:VP} {s:Shared} {a I T:Addr}
theorem Md.keep{h h':Heap}{es:Array (Int×Value)}{ep:Nat}{t:SetTable}{os:List (Int×Value)}{i:Nat}(x:Md w h I a T es ep t os i)(k:∀b,b=I\/b=T->∀o,h.get? b=some o->h'.get? b=some o):Md w h' I a T es ep t os i:=by
 cases x with
 | text b e x=>exact .text b e (x.at' (k I (.inl rfl)))
 | draw pl b e x y z=>
  obtain⟨o,n,e1,e2⟩:=y;exact .draw pl b e (x.at' (k I (.inl rfl))) ⟨o,n,k T (.inr rfl) o e1,e2⟩ z
 | tab sl b l e x y=>exact .tab sl b l e (x.at' (k I (.inl rfl))) y
theorem agl{os:List (Int×Value)}{i:Nat}{e:Int×Value}{Q:Option Value->Shared->Prop}(x:vo w I a T os i s.heap)(hi:os[i]? = some e)(q:∀h',Heap.SameBut I s.heap h'->vo w I a T os (i+1) h'->Q (some e.2) { s with heap:=h' }) :
 wpAny (model prog w) A (pyNext (.ref I)) Q E s:=by
 obtain⟨o,es,ep,t,xs,ho,X,pm,vq,m⟩:=x;have done:∀h',Heap.SameBut I s.heap h'->Md w h' I a T es ep t os (i+1)->Q (some e.2) { s with heap:=h' }:=fun h' k m'=>q h' k ⟨o,es,ep,t,xs,by rw[k.2 a (fun z=>vq z.symm)];exact ho,X,pm,vq,m'⟩;cases m with
 | text b eo x=>
  have lc:(pickOrder (w.params.setOrder a ep) es)[i]? = some e:=by rw[eo,mX]at hi;exact hi
  refine vp (E1:=E) (n:=0) x ho X.dat X.fit ?_;show wpAny _ _ (setNext a 0 i ep >>= _) _ _ _;refine ac (O3 b ho X.dat X.fit ?_);rw[lc];refine ac (Hc x fun h1 k1 x1=>ac (Hd (s:={ s with heap:=h1 }) x1 fun h2 k2 x2=>aq ⟨_,rfl,done h2 (k1.trans k2) (.text b eo x2)⟩))
 | draw pl b eo x y z=>
  obtain⟨oT,nT,hT,Cj⟩:=y;have aD:i<pl.length:=by
   rw[←eo.1];exact(bH.mp hi).1
  have cB:pl[i]? = some pl[i]:=cJ aD;have he:es[pl[i]]? = some e:=(eo.2 i _ cB).symm.trans hi;refine vp (E1:=E) (n:=0) x ho X.dat X.fit ?_;show wpAny _ _ (seqItems? (.ref T) >>= _) _ _ _;refine ac (w5 hT Cj ?_);have Hf:(pl.map fun j=>rawInt (j:Nat)).toArray[i]? = some (rawInt (pl[i]:Nat)):=by simp[aD]
  dsimp only;rw[Hf];show wpAny _ _ (setNextDrawn a pl[i] ep >>= _) _ _ _;refine ac ?_;unfold setNextDrawn;refine ac (iX ho X.dat X.fit ?_);dsimp only;rw[ah (show ¬((ep != ep)=true) by simp),he];refine aq ?_;refine ac (Hd x fun h2 k2 x2=>aq ⟨_,rfl,done h2 k2 (.draw pl b eo x2 ⟨oT,nT,by rw[k2.2 T (fun q=>z q.symm)];exact hT,Cj⟩ z)⟩)
 | tab sl b l eo x y=>
  have hz:es.size=1/\i=0:=by
   rw[eo]at hi;have:=(bH.mp hi).1;rw[dm]at this;omega
  have Hg:es[i]? = some e:=by rw[eo,mX]at hi;exact hi
  have bf:t.place.size=1:=by
   have:=X.fit;unfold SetTable.fits at this;simp only[dn,iV]at this;omega
  obtain⟨j,hj⟩:∃j,t.place = #[j]:=by
   rcases hp:t.place with⟨l⟩
   rw[hp]at bf
   match l,bf with
   | [j],_=>exact⟨j,rfl⟩
  refine vp (E1:=E) (n:=0) x ho X.dat X.fit ?_;show wpAny _ _ (setNext a sl i ep >>= _) _ _ _;refine ac (O4 b ho X.dat X.fit X.led l ?_);have sW:t.place[i]? = some j:=by rw[hj,hz.2];rfl
  rw[y,Hg,sW];refine ac (Hc x fun h1 k1 x1=>ac (Hd (s:={ s with heap:=h1 }) x1 fun h2 k2 x2=>aq ⟨_,rfl,done h2 (k1.trans k2) (.tab (j+1) b l eo x2 (by rw[hj,(O2 j).2,hz.2]))⟩))
theorem agm{os:List (Int×Value)}{Q:Option Value->Shared->Prop}(hh:A.handled=none)(x:vo w I a T os os.length s.heap)(q:∀h',Heap.ExtBut I s.heap h'->Q none { s with heap:=h' }):wpAny (model prog w) A (pyNext (.ref I)) Q E s:=by
 obtain⟨o,es,ep,t,xs,ho,X,pm,vq,m⟩:=x;have hn:os.length=es.size:=by rw[pm.length_eq,dm]
 have hq:∀h' e,Heap.ExtBut I s.heap h'->Shared.TypeIs { s with heap:=h' } e "StopIteration"->Shared.TypeIs { s with heap:=h' } e "StopIteration"/\Q none { s with heap:=h' }:=fun h' e k z=>⟨z,q h' k⟩;cases m with
 | text b eo x=>
  refine vp (E1:=E) (n:=0) x ho X.dat X.fit ?_;show wpAny _ _ (setNext a 0 os.length ep >>= _) _ _ _;refine ac (O3 b ho X.dat X.fit ?_);have lc:(pickOrder (w.params.setOrder a ep) es)[os.length]? = none:=by
   have:(pickOrder (w.params.setOrder a ep) es).toList[os.length]? = none:=by rw[←eo];simp
   rwa [mX]at this
  rw[lc];exact He hh x hq
 | draw pl b eo x y z=>
  obtain⟨oT,nT,hT,Cj⟩:=y;refine vp (E1:=E) (n:=0) x ho X.dat X.fit ?_;show wpAny _ _ (seqItems? (.ref T) >>= _) _ _ _;refine ac (w5 hT Cj ?_);have Hf:(pl.map fun j=>rawInt (j:Nat)).toArray[os.length]? = none:=by simp[eo.1]
  dsimp only;rw[Hf];refine ac (Hc x fun h1 k1 x1=>?_);refine He (s:={ s with heap:=h1 }) hh x1 fun h' e k z=>hq h' e (k1.extBut.trans k) z
 | tab sl b l eo x y=>
  refine vp (E1:=E) (n:=0) x ho X.dat X.fit ?_;show wpAny _ _ (setNext a sl os.length ep >>= _) _ _ _;refine ac (O4 b ho X.dat X.fit X.led l ?_);have Hg:es[os.length]? = none:=by rw[hn];simp
  rw[y,Hg];exact He hh x hq
theorem agn(hh:A.handled=none)(I a T:Addr)(os:List (Int×Value)):Walks prog w A I [I,a,T] [I] os.length (fun i v=>∃e,os[i]? = some e/\v=e.2) (fun i h=>vo w I a T os i h) where
 sub:=fun b hb=>by simp at hb;simp[hb]
 frame:=fun i h h' st hk=>by
  obtain⟨o,es,ep,t,xs,ho,X,pm,vq,m⟩:=st;exact⟨o,es,ep,t,xs,hk a (by simp) o ho,X,pm,vq,m.keep fun b hb o e=>hk b (by rcases hb with rfl | rfl<;>simp) o e⟩
 item:=fun i s Q E hi st hQ=>by
  refine agl st (cJ hi) fun h' k dq=>?_;exact hQ _ h' s.toks ⟨_,cJ hi,rfl⟩ dq fun b o hb e=>k.extBut b o (fun h=>hb (by simp[h])) e
 done:=fun s Q E st hQ=>agm hh st fun h' qX=>hQ h' s.toks fun b o hb e=>qX b o (fun h=>hb (by simp[h])) e
 self:=fun i s Q E st hQ=>by
  obtain⟨o,es,ep,t,xs,ho,X,pm,vq,m⟩:=st;have hT:s.TypeIs (.ref I) "set_iterator":=by
   cases m with
   | text b e x=>exact x.typeIs
   | draw pl b e x y z=>exact x.typeIs
   | tab sl b l e x y=>exact x.typeIs
  refine Mz hT Om (kO Om hT afy ?_ (afB _));show wpAny _ _ (ret (.ref I)) _ _ s;exact aq ⟨_,rfl,"set_iterator",_,hT,B7.lookup,hQ⟩
theorem O5{es:Array (Int×Value)}:∀{pl:List Nat},(∀j∈pl,j<es.size)->(pl.filterMap (es[·]?)).length=pl.length/\∀(k j:Nat),pl[k]? = some j->(pl.filterMap (es[·]?))[k]? = es[j]?
 | [],_=>⟨rfl,fun k j h=>by cases h⟩
 | p::r,h=>by
  have bf:p<es.size:=h p (by simp);have hp:es[p]? = some es[p]:=oQ bf;obtain⟨h1,h2⟩:=O5 (pl:=r) fun j hj=>h j (cy _ hj);rw[List.filterMap_cons_some hp];refine⟨by simp[h1],fun k j hk=>?_⟩;cases k with
  | zero=>cases hk;exact hp.symm
  | succ k=>exact h2 k j hk
theorem ago{xs:Ls}{Q:VP}(x:cf w s.heap a xs)(hQ:∀I T d h' os,s.heap.objs.size<=I->(∀b o,s.heap.get? b=some o->h'.get? b=some o)->(T=a\/s.heap.objs.size<=T)->vo w I a T os 0 h'->(os.map iE).Perm xs->(∀e∈os,nA w e)->Q (.ref I) { s with heap:=h',drawn:=d }) :
 wpAny (model prog w) A (pyIter (.ref a)) Q E s:=by
 obtain⟨o,es,ep,t,ho,X⟩:=id x;have aD:=aZ ho;refine Mz x.typeIs asa (kO asa x.typeIs afz ?_ (PySem.F.args_set_iter_1 _));unfold Builtin.«frozenset.__iter__»;refine ac (m:=Builtin.Frozenset.slot0 _ _) (aq ?_);refine ac ?_;unfold Builtin.Frozenset.sizeOf setEntries;refine ac (ac (iX ho X.dat X.fit (aq (aq ?_))));refine ac ?_;unfold setDrawn;refine ac (iX ho X.dat X.fit ?_);refine ac (m:=setsByText) (ac (qB (aq ?_)));show wpAny _ _ (pure (!fk w && (!t.plain && decide (es.size > 1)))) _ _ _;refine aq ?_;have fin:∀(f:Value) (d:_) (h1:Heap),(∀b o,s.heap.get? b=some o->h1.get? b=some o)->s.heap.objs.size<=h1.objs.size ->
  (∀h',(∀b o,h1.get? b=some o->h'.get? b=some o)->ja h' h1.objs.size a ep es.size f 0->h1.objs.size<h'.objs.size->∃T os,(T=a\/s.heap.objs.size<=T)/\os.Perm es.toList/\Md w h' h1.objs.size a T es ep t os 0) ->
  wpAny (model prog w) A.in1 (setEpoch a >>= fun e=>newFields "set_iterator" [f,rawInt 0,.ref a,rawInt es.size,rawInt e] >>= fun v=>ret v) (fun fin s'=>∃v,fin = .done (.ret v)/\∃T r,s'.TypeIs v T/\typeLookup (.type T) "__next__" = pure (some r)/\Q v s') E { s with heap:=h1,drawn:=d }:=by
  intro f d h1 k1 hz hm;refine ac ?_;unfold setEpoch;refine ac (iX (s:={ s with heap:=h1,drawn:=d }) (k1 a o ho) X.dat X.fit (aq ?_));refine ac (r6 ?_);have ht:ja (h1.push { cls:=.type "set_iterator",data:=.fields #[f,rawInt 0,.ref a,rawInt es.size,rawInt ep] }) h1.objs.size a ep es.size f 0:=⟨_,da _ rfl,rfl,rfl⟩;obtain⟨T,os,hT,pm,m⟩:=hm _ (fun b o e=>bq _ e) ht (by rw[oN];exact xb _);refine aq ⟨_,rfl,"set_iterator",_,ht.typeIs (s:={ s with heap:=_,drawn:=d }),B7.lookup,?_⟩;refine hQ h1.objs.size T d _ os hz (fun b o e=>bq _ (k1 b o e)) hT ⟨o,es,ep,t,xs,bq _ (k1 a o ho),X,pm,ki (gJ aD hz),m⟩ ((pm.map iE).trans X.perm) fun e he=>X.good e (pm.mem_iff.mp he)
 cases hb:(!fk w && (!t.plain && decide (es.size > 1))) with
 | false=>
  rw[ah bV];refine ac (m:=pure (rawInt 0)) (aq ?_);refine fin (rawInt 0) s.drawn s.heap (fun b o e=>e) (aH _) fun h' k ht hl=>?_;cases hw:fk w with
  | true=>exact⟨a,_,.inl rfl,O0 _ _,.text hw rfl ht⟩
  | false=>
   have hs:es.size<=1:=by
    refine Ml fun z=>?_;rw[hw,X.pl (by omega),aE (by omega:es.size > 1)]at hb;cases hb
   refine⟨a,_,.inl rfl,.refl _,.tab 0 hw hs rfl ht ?_⟩;have bf:t.place.size=es.size:=by
    have:=X.fit;unfold SetTable.fits at this;simp only[dn,iV]at this;exact this.1
   rcases hp:t.place with⟨l⟩
   rw[hp]at bf
   match l,bf with
   | [],_=>rfl
   | [j],_=>exact(O2 j).1
   | _::_::_,z=>simp at z;omega
 | true=>
  have hw:fk w=false:=by cases hw:fk w with | false=>rfl | true=>rw[hw]at hb;cases hb
  rw[ap rfl];refine ac (O1 es.size (List.range es.size) s _ (by simp) fun pl d hp=>?_);have hsz:es.size<=sizeLine:=xk X.bnd;refine ac (UZ ?_ (by rw[au,hp.length_eq,mY];exact hsz));have cB:∀j∈pl,j<es.size:=fun j hj=>g9.mp (hp.mem_iff.mp hj);obtain⟨g1,g2⟩:=O5 cB;refine fin (.ref s.heap.objs.size) d (s.heap.push { cls:=.type "tuple",data:=.seq (pl.map fun(i:Nat)=>rawInt i).toArray }) (fun b o e=>bq _ e) (by rw[oN];exact Fz _) fun h' k ht hl=>?_;refine⟨s.heap.objs.size,pl.filterMap (es[·]?),.inr (aH _),?_,.draw pl hw ⟨g1,g2⟩ ht ⟨_,0,k _ _ (da _ rfl),rfl⟩ (ki (by rw[oN];exact xb _))⟩;exact(hp.filterMap _).trans (by rw[asb])
end
theorem Hh{w:World}:∀{os:List (Int×Value)},(∀e∈os,nA w e)->StrsAre (os.map (·.2)) (os.map iE)
 | [],_=>.nil
 | e::r,h=>by
  obtain⟨y,tk,rfl⟩:=h e (by simp);exact .cons y tk (Hh fun e he=>h e (cy _ he))
section
variable {prog:Program} {w:World} {A:Around} {E:VP} {s:Shared} {a:Addr}
theorem agp{xs:Ls}{R:Result->Shared->Prop}(hh:A.handled=none)(x:cf w s.heap a xs)(S:Addr)(Hi:S≠a)(res:Value)(c₀:Nat)(hS:s.heap.get? S=some { cls:=.type "list",data:=.seq #[] c₀ })
 (hR:∀(h':Heap) (tk:Nat) (d:Drawn) (os:List (Int×Value)) (acc:Av) (c':Nat),(∀b o,b≠S->s.heap.get? b=some o->h'.get? b=some o)->h'.get? S=some { cls:=.type "list",dict:=none,data:=.seq acc c',slots:=#[] }->acc.toList=os.map (·.2)->(os.map iE).Perm xs->(∀e∈os,nA w e)->R (.ok (.ret res)) { s with heap:=h',toks:=tk,drawn:=d }) (hn:xs.length<=sizeLine) :
 wpAny (model prog w) A.in1 (Builtin.List.listExtendWith (.ref S) (.ref a) res) (fun fin s'=>match fin with | .done f=>R (.ok f) s' | .again c'=>c'.quiet=true/\codeAny (model prog w) A c' R s') (fun e s'=>R (.error e) s') s:=by
 unfold Builtin.List.listExtendWith;refine ac (MA (T:="set") x.typeIs ?_);have h1:Builtin.List.listSameRef (.ref S) (.ref a)=false:=by simp[Builtin.List.listSameRef,Hi]
 have h2:(Value.type "set" == Value.type "list")=false:=by decide
 have h3:(Value.type "set" == Value.type "tuple")=false:=by decide
 simp only[h1,h2,h3,FE,kh,ix];refine ac (ago x fun I T d hp os hI kp hT st pm gd=>?_);have yk:=aZ hS;have ln:os.length=xs.length:=by have:=pm.length_eq;rwa [au]at this
 have hST:S≠T:=fun z=>hT.elim (fun q=>Hi (z.trans q)) fun q=>absurd (gJ (z▸yk) q) (mU _);have ym:S∉[I,a,T]:=by
  simp only[bw,se,sf,not_or];exact⟨bE (gJ yk hI),Hi,hST⟩
 have W:=agn (prog:=prog) (w:=w) (A:=A.in1) hh I a T os;have key:∀(h:Heap) (c₁ tk:Nat),vo w I a T os 0 h->(∀b o,b≠S->s.heap.get? b=some o->h.get? b=some o)->h.get? S=some { cls:=.type "list",data:=.seq #[] c₁ } ->
  codeAny (model prog w) A (.builtin "list.extend.loop" ⟨[.ref S,.ref I,res],[]⟩) R { s with heap:=h,toks:=tk,drawn:=d }:=by
  intro h c₁ tk lM hk yo;refine codeAny_extend_loopS W.toS (by omega) S ym res os.length 0 _ #[] c₁ rfl (dO _) lM yo (ItemsOf.nil _) fun s' O6 c' hm i8 sP=>?_;rw[Moved.eq_with hm];refine hR s'.heap s'.toks d os O6 c' (fun b o hb e=>hm.heap b o (fun pz=>?_) (hk b o hb e)) i8 ?_ pm gd
  . rcases bw.mp pz with e' | pz
    . exact hb e'
    . have aD:=aZ e;rw[cE.mp pz]at aD;exact absurd (gJ aD hI) (mU _)
  . refine List.ext_getElem? fun j=>?_;rw[mX,bN]
    by_cases hj:j<os.length
    . have O7:j<O6.size:=by rw[sP.1];exact hj
      obtain⟨e,he,hv⟩:=sP.2 j _ (oQ O7);rw[he,oQ O7,hv];rfl
    . rw[FL (by rw[sP.1];omega),ar8 (by omega)];rfl
 have yo:=kp _ _ hS;refine ac (gH (afD (cf.typeIs (s:={ s with heap:=hp,drawn:=d }) (x.at' fun o e=>kp a o e)) ?_));refine FJ (fun _=>?_) (fun _=>aq ⟨kn asc _,key _ c₀ _ st (fun b o _ e=>kp b o e) yo⟩);refine ac (rX (ac ?_));show wpAny _ _ (updateSeq S (·.push .none) >>= fun _=>updateSeq S (·.pop)) _ _ _;refine ac (FP (s:={ s with heap:=hp,drawn:=d }) yo rfl ?_);have O8:=Bq (Obj.mapSeq (·.push Value.none)) yo rfl;refine FP (hz:=by seq_fits) O8 rfl ?_;have hS₃:=Bq (Obj.mapSeq (·.pop)) O8 rfl;refine aq ⟨kn asc _,key _ _ _ (W.frame 0 _ _ st fun b hb o e=>?_) (fun b o hb e=>?_) hS₃⟩
 . have O9:b≠S:=fun h=>ym (h▸hb);exact(FG _ _ (eM O9)).trans ((FG _ _ (eM O9)).trans e)
 . exact(FG _ _ (eM hb)).trans ((FG _ _ (eM hb)).trans (kp b o e))
theorem ags{xs:Ls}{R:Lw->Shared->Prop}(hh:A.handled=none)(x:cf w s.heap a xs)
 (h:∀(h':Heap) (tk:Nat) (d:Drawn) (us:Lw) (ys:Ls),(∀b o,s.heap.get? b=some o->h'.get? b=some o)->StrsAre us ys->ys.Perm xs->R us { s with heap:=h',toks:=tk,drawn:=d }) (hn:xs.length<=sizeLine):wpAny (model prog w) A (collect (.ref a)) R E s:=by
 obtain⟨o,_,_,_,ho,_⟩:=id x;have aD:=aZ ho;unfold collect;refine ac (wpAny_runValue (ko PyProof.Rows.entry_proto_collect' ?_));rw[kR PySem.F.plain_proto_collect _];show wpAny _ A.in1 (newList [] >>= fun l=>again (.builtin "list.__iadd__" ⟨[l,.ref a],[]⟩)) _ _ s;refine ac (r6 (aq ⟨kn asd _,ko PyProof.Rows.entry_list_iadd' ?_⟩));rw[kR asd _];show wpAny _ A.in1 (Builtin.List.listExtendWith (.ref s.heap.objs.size) (.ref a) (.ref s.heap.objs.size)) _ _ _;have key:=agp (prog:=prog) (A:=A) (s:={ s with heap:=s.heap.push { cls:=.type "list",data:=.seq ([]:Lw).toArray } })
  (R:=fun(q:Result) (s':Shared)=>∃(h':Heap) (tk:Nat) (d:Drawn) (os:List (Int×Value)) (acc:Av) (c':Nat),q = .ok (.ret (.ref s.heap.objs.size))/\s' = { s with heap:=h',toks:=tk,drawn:=d }/\(∀b o,s.heap.get? b=some o->h'.get? b=some o) /\
   h'.get? s.heap.objs.size=some { cls:=.type "list",dict:=none,data:=.seq acc c',slots:=#[] }/\acc.toList=os.map (·.2)/\(os.map iE).Perm xs/\∀e∈os,nA w e)
  hh (x.at' fun o e=>bq _ e) s.heap.objs.size (ki aD) (.ref s.heap.objs.size) 0 (da _ rfl)
  (fun h' tk d os acc c' hk i8 e1 e2 e3=>⟨h',tk,d,os,acc,c',rfl,rfl,fun b o e=>hk b o (bE (aZ e)) (bq _ e),i8,e1,e2,e3⟩) hn
 refine dN key (fun fin s' z=>?_) fun e s' z=>?_
 . cases fin with
   | done f=>
    obtain⟨h',tk,d,os,acc,c',e,rfl,hk,i8,e1,e2,e3⟩:=z;cases e;show wpAny _ A (load s.heap.objs.size >>= _) _ _ _;refine ac (wpAny_load (s:={ s with heap:=h',toks:=tk,drawn:=d }) i8 (aq ?_));exact h h' tk d _ _ hk (by rw[e1];exact Hh e3) e2
   | again c₁=>
    refine⟨z.1,rY z.2 fun q s₂ y=>?_⟩;obtain⟨h',tk,d,os,acc,c',rfl,rfl,hk,i8,e1,e2,e3⟩:=y;show wpAny _ A (load s.heap.objs.size >>= _) _ _ _;refine ac (wpAny_load (s:={ s with heap:=h',toks:=tk,drawn:=d }) i8 (aq ?_));exact h h' tk d _ _ hk (by rw[e1];exact Hh e3) e2
 . obtain⟨_,_,_,_,_,_,e',_⟩:=z;cases e'
theorem agt{r:Addr}{Q:VP}(sM:wpAny (model prog w) A.in1 (collect (.ref r)) (fun us s'=>∃(ys:Ls) (h':Heap) (tk:Nat) (d:Drawn),s' = { s with heap:=h',toks:=tk,drawn:=d }/\StrsAre us ys/\us.length<64 /\
 ∀(h2:Heap) (out:Lw) (aX:Ls) (e:Nat),(∀b o,h'.get? b=some o->h2.get? b=some o)->h2.get? h'.objs.size=some (seqObj "list" out.toArray e)->StrsAre out aX->aX.Perm ys->sortedS aX=true->Q (.ref h'.objs.size) { s with heap:=h2,toks:=tk,drawn:=d }) E s) :
 wpAny (model prog w) A (call (.builtin "sorted") [.ref r]) Q E s:=by
 refine Mn Mo Mp Mq (Mr _) ?_;unfold Builtin.«sorted»;refine ac (m:=checkCount "sorted" 1 1 _) (aq ?_);refine ac (dN sM (fun us s' agu=>agu.elim fun ys agv=>agv.elim fun h' agw=>agw.elim fun tk agx=>agx.elim fun d agy=>agy.elim fun es agz=>agz.elim fun hS agA=>agA.elim fun sN fin=>?_) fun _ _ e=>e);subst es;refine ac (xh ?_ (by rw[oM];omega));have iA:(h'.push (seqObj "list" us.toArray 0)).get? h'.objs.size=some (seqObj "list" us.toArray 0):=da _ rfl;show wpAny _ _ _ _ _ { s with heap:=h'.push (seqObj "list" us.toArray 0),toks:=tk,drawn:=d };refine ac (gH (kO Ms ⟨_,iA,rfl⟩ Mt (list_sort_treeK strKind_oneLt iA hS.keysOf (fun v₁ v₂ rest e=>keyKind_strs (by rw[←e];exact hS)) sN fun dq a1 a2=>⟨_,rfl,?_⟩) (Mu _)));obtain⟨aX,h1,h2,h3⟩:=sorted_out_str hS a1 a2;obtain⟨e,he⟩:=Mw (vs:=us) (out:=(arrOf dq).map (·.2)) iA;refine aq ⟨_,rfl,fin _ ((arrOf dq).map (·.2)).toList aX e (fun b o q=>?_) (by rw[Array.toArray_toList];exact he) h1 h2 h3⟩;have hb:=aZ q;rw[Mx (bE hb) (by rw[oN];exact FI hb)];exact bq _ q
end
def nB(w:World)(a:Addr)(xs:Ls):HO:=.ext fun h=>cf w h a xs
theorem Hl{P:Program}{w:World}{H:Hp}{h:Heap}{a:Addr}{xs:Ls}(x:cf w h a xs):bG P w H h a (nB w a xs):=
 ⟨x,x.elim fun o agB=>agB.elim fun _ agC=>agC.elim fun _ agD=>agD.elim fun _ agE=>agE.elim fun e _=>⟨o,e⟩,fun _ _ z k=>z.at' k⟩
theorem Hm{P:Program}{w:World}{H:Hp}{h:Heap}{a:Addr}{xs:Ls}(ok:ce P w H h)(e:H a=some (nB w a xs)):cf w h a xs:=(show bG P w H h a (nB w a xs) from ok a _ e).1
section
variable {X:Cx} {pins:Po} {σ:List (Option V)} {H:Hp} {s:Shared}
theorem Inv.drew{d:Drawn}(I:Inv X pins σ H s):Inv X pins σ H { s with drawn:=d }:=⟨I.ok,I.os,I.bare,I.base,I.loc,I.cell,I.free,I.freeC,I.pin,I.hok,I.len⟩
theorem Ck(hc:X.calm=true):gt X (.builtin "sorted") (fun vs H Q=>∃p xs,vs = [.ref p]/\H p=some (nB X.w p xs)/\xs.length<64/\∀ys,ys.Perm xs->sortedS ys=true->iD H (.lst (ys.map V.str)) Q):=by
 intro pins s σ H xs us Q I r h;obtain⟨p,zs,rfl,e,sN,q⟩:=h;obtain⟨u,rfl,ru⟩:=vals1 r;cases ru;refine agt (ags (I.ok.hd hc) (Hm I.hok e) (fun h' tk d us ys k hs hp=>?_) (kz (by omega)));have hl:=hp.length_eq;have qN:=StrsAre.length hs;have I':Inv X pins σ H { s with heap:=h',toks:=tk,drawn:=d }:=(I.kept (t':=tk) k).drew;refine⟨ys,h',tk,d,rfl,hs,by omega,fun h2 out aX e' k2 he i8 cC GY=>?_⟩;have hl3:=cC.length_eq;exact⟨.ref h'.objs.size,_,Og (s:={ s with drawn:=d }) I' k2 he i8 (kz (by omega)),rfl,(q aX (cC.trans hp) GY).at _ (I'.hok.fresh (aH _))⟩
end
theorem Pa{es:Array (Int×Value)}{order:Array Nat}(hp:order.toList.Perm (List.range es.size)):(order.filterMap (es[·]?)).toList.Perm es.toList:=by
 rw[Array.toList_filterMap];exact(hp.filterMap _).trans (by rw[asb])
theorem agF{n:Nat}(h:n<=40):pq (SetTable.sizeAbove n - 1)/\n<=SetTable.sizeAbove n - 1/\SetTable.sizeAbove n<=64:=by
 have hd:(List.range 41).all (fun n=>decide ((SetTable.sizeAbove n - 1=7\/SetTable.sizeAbove n - 1=15\/SetTable.sizeAbove n - 1=31\/SetTable.sizeAbove n - 1=63)/\n<=SetTable.sizeAbove n - 1/\SetTable.sizeAbove n<=64))=true:=by decide +kernel
 unfold pq;exact bd (dW.mp hd n (g9.mpr (by omega)))
section
variable {prog:Program} {w:World} {A:Around} {E:VP} {s:Shared} {a:Addr}
theorem Hn:eF w { cls:=.type "set",dict:=none,data:=.set #[] 0 (.fresh 0 0 (!fk w)) } #[] 0 (.fresh 0 0 (!fk w)) []:=
 ⟨⟨rfl,rfl,rfl⟩,rfl,(fun e he=>by cases he),.nil,.nil,by decide,rfl,rfl,fun h=>absurd rfl h,fun _=>.inl rfl⟩
theorem agG{o:Obj}{es:Array (Int×Value)}{ep:Nat}{t:SetTable}{xs:Ls}{n:Nat}{Q:Unit->Shared->Prop}(ho:s.heap.get? a=some o)(X:eF w o es ep t xs)(hn:n<=40)(hx:xs.length<=n)
 (q:∀h' o' es' t',Heap.SameBut a s.heap h'->h'.get? a=some o'->eF w o' es' (ep+1) t' xs->n<=t'.mask->Q () { s with heap:=h' }):wpAny (model prog w) A (setRelay a n) Q E s:=by
 obtain⟨m1,m2,m3⟩:=agF hn;unfold setRelay;refine ac (iX ho X.dat X.fit ?_);dsimp only;have sl:¬(SetTable.sizeAbove n > sizeLine):=by rw[oM];omega
 rw[ah sl];have hz:=X.size;have hsz:(es.map (·.1)).size=es.size:=Array.size_map;obtain⟨t',order,e,hp,hf,hl,cB,hm⟩:=OU (mask:=SetTable.sizeAbove n - 1) (f:=t.finger) (m:=t.movedTo (SetTable.sizeAbove n - 1)) (led:=t.led) (plain:=t.plain) (hs:=es.map (·.1)) m1 (by rw[hsz];omega);rw[hsz]at hp hf;have e':t.relaid (es.map (·.1)) n=some (t',order):=e;rw[e'];have pm:=Pa hp;have z1:(order.filterMap (es[·]?)).size=es.size:=by rw[←dm,pm.length_eq,dm]
 refine ac ?_;show wpAny _ _ (if ((order.filterMap (es[·]?)).size != es.size)=true then _ else _) _ _ _;rw[ah (by rw[z1];simp)];refine aq ?_;dsimp only;refine Br ho X.dat ?_ (by rw[z1];exact xk X.bnd);refine q _ _ _ t' (kQ ..) (eF.store ho X.ex X.dat) ⟨X.ex,rfl,fun e he=>X.good e (pm.mem_iff.mp he),(pm.map iE).trans X.perm,X.nd,X.len,by rw[z1];exact hf,hl.trans X.led,fun z=>cB.trans (X.pl (by rw[←z1];exact z)),fun _=>by rw[hm];exact m1⟩ (by rw[hm];exact m2)
theorem Pb{xs:Ls}{n:Nat}{Q:Unit->Shared->Prop}(x:cf w s.heap a xs)(hn:xs.length+n<=20)
 (q:∀h' o' es' xv t',Heap.SameBut a s.heap h'->h'.get? a=some o'->eF w o' es' xv t' xs->(t'.fill=0->n<=t'.mask)->Q () { s with heap:=h' }):wpAny (model prog w) A (setRoomFor a n) Q E s:=by
 obtain⟨o,es,ep,t,ho,X⟩:=x;have bf:t.place.size=xs.length:=by
  have:=X.fit;unfold SetTable.fits at this;simp only[dn,iV]at this;rw[this.1,X.size]
 unfold setRoomFor;refine ac (iX ho X.dat X.fit ?_);show wpAny _ _ (match t.roomFor n with | some wanted=>setRelay a wanted | x=>pure PUnit.unit) _ _ _;unfold SetTable.roomFor
 by_cases hq:(t.fill+n) * 5 >= t.mask * 3
 . rw[ap hq];refine agG ho X (by rw[bf];omega) (by rw[bf];omega) fun h' o' es' t' k h1 h2 h3=>q h' o' es' _ t' k h1 h2 fun _=>by rw[bf]at h3;omega
 . rw[ah hq];exact aq (q s.heap o es ep t (FN _ _) ho X fun z=>by rw[z]at hq;omega)
end
section
variable {prog:Program} {w:World} {A:Around} {E:VP} {s:Shared} {a f:Addr}
theorem agH{o:Obj}{es:Array (Int×Value)}{ep:Nat}{t:SetTable}{xs:Ls}{Q:Array (Int×Value)->Shared->Prop}(ho:s.heap.get? a=some o)(X:eF w o es ep t xs)(c:fk w=true\/es.size<=1)(q:∀arr:Array (Int×Value),arr.toList.Perm es.toList->Q arr s) :
 wpAny (model prog w) A (setWalk a) Q E s:=by
 unfold setWalk;refine ac (iX ho X.dat X.fit ?_);refine ac (m:=setsByText) (ac (qB (aq ?_)));cases hb:fk w with
 | true=>
  have hb:w.params.followText "set-order" = true:=hb;show wpAny _ _ (if w.params.followText "set-order" = true then _ else _) _ _ s;rw[ap hb];exact ac (qB (aq (q _ (O0 _ _))))
 | false=>
  have hs:es.size<=1:=by
   rcases c with c | c
   . rw[c]at hb;cases hb
   . exact c
  have hb:w.params.followText "set-order" = false:=hb;show wpAny _ _ (if w.params.followText "set-order" = true then _ else _) _ _ s;rw[ah (by rw[hb];exact bV)];show wpAny _ _ (if (!t.plain && decide (es.size > 1))=true then _ else _) _ _ s;rw[ah (by rw[aR (by omega),kj];exact bV)];show wpAny _ _ ((if (!t.led && decide (es.size > 1))=true then _ else _) >>= _) _ _ s;rw[ah (by rw[aR (by omega),kj];exact bV)];exact ac (aq (aq (q _ (.refl _))))
theorem agI{Pd:List Addr}{Q:Bool->Shared->Prop}(h:∀b∈Pd,∃xs,cf w s.heap b xs)(q:Q true s):wpAny (model prog w) A (setsQuiet Pd) Q E s:=by
 unfold setsQuiet;refine ac (qx _ (fun rest r s'=>r.1=none/\s'=s/\∀b∈rest,∃xs,cf w s.heap b xs) _ ?_ ?_ _ _ ⟨rfl,rfl,h⟩)
 . rintro b rest r s' ⟨e1,rfl,hr⟩;obtain⟨xs,o,es,ep,t,ho,X⟩:=hr b (by simp);unfold setEntries;refine ac (ac (iX ho X.dat X.fit (aq ?_)));refine ac (wpAny_forIn_array' _ (fun Pe r2 s2=>r2.1=none/\s2=s'/\∀e∈Pe,nA w e) _ ?_ ?_ _ _ ⟨rfl,rfl,X.good⟩)
   . rintro e Pe r2 s2 ⟨e3,rfl,hg⟩;obtain⟨y,tk,rfl⟩:=hg e (by simp);exact aq ⟨rfl,rfl,fun e he=>hg e (cy _ he)⟩
   . rintro⟨r2,u2⟩ s2 ⟨e3,rfl,_⟩;dsimp only at e3;subst e3;exact aq ⟨rfl,rfl,fun b hb=>hr b (cy _ hb)⟩
 . rintro⟨r,u⟩ s' ⟨e1,rfl,_⟩;dsimp only at e1;subst e1;exact aq q
theorem agJ{o:Obj}{es:Array (Int×Value)}{ep:Nat}{t:SetTable}{xo xs:Ls}{Q:Array (Int×Value)->Shared->Prop}(ho:s.heap.get? a=some o)(X:eF w o es ep t xo)(y:cf w s.heap f xs)(bn:f≠a)
 (q:∀h' (arr:Array (Int×Value)),Heap.SameBut f s.heap h'->cf w h' f xs->arr.toList.Perm es.toList->Q arr { s with heap:=h' }):wpAny (model prog w) A (setWalkUnseen a [f] (some f)) Q E s:=by
 unfold setWalkUnseen;refine ac (iX ho X.dat X.fit ?_);refine ac (m:=setsByText) (ac (qB (aq ?_)));show wpAny _ _ (if (fk w || (t.led && t.plain) || decide (es.size<=1))=true then _ else _) _ _ _
 by_cases c:(fk w || (t.led && t.plain) || decide (es.size<=1))=true
 . rw[ap c];refine agH ho X ?_ fun arr pm=>q s.heap arr (FN _ _) y pm
   by_cases hz:es.size<=1
   . exact .inr hz
   . rw[X.pl (by omega),aR hz,kj,FE,FE]at c;exact .inl c
 . rw[ah c];refine ac (agI (fun b hb=>?_) ?_)
   . rcases bw.mp hb with rfl | hb
     . exact⟨xo,o,es,ep,t,ho,X⟩
     . rw[cE.mp hb];exact⟨xs,y⟩
   . show wpAny _ _ (if (!true)=true then _ else _) _ _ _;rw[ah (by decide)];refine ac (rX ?_);obtain⟨of,ef,epf,tf,Ho,F⟩:=id y;show wpAny _ _ (setState f >>= _) _ _ _;refine ac (iX Ho F.dat F.fit ?_);dsimp only;split
     . refine ac (Br Ho F.dat ?_ (xk F.bnd));refine aq (q _ es (kQ ..) ⟨_,ef,_,_,eF.store Ho F.ex F.dat,F.ex,rfl,F.good,F.perm,F.nd,F.len,?_,?_,?_,?_⟩ (.refl _))
       . have:=F.fit;cases tf;exact this
       . show(tf.led && t.led)=_;rw[F.led,X.led,Va]
       . intro z;show(tf.plain && t.plain)=false;rw[F.pl z,iU]
       . exact F.msk
     . exact aq (q s.heap es (FN _ _) y (.refl _))
theorem Pf{each:Sem Unit}{o:Obj}{eo:Array (Int×Value)}{ep:Nat}{t:SetTable}{xo xs:Ls}{Q:Unit->Shared->Prop}(ho:s.heap.get? a=some o)(X:eF w o eo ep t xo)(y:cf w s.heap f xs)(bn:f≠a)(hz:xs.length+xo.length<=20)
 (hE:∀(s':Shared) (Q:Unit->Shared->Prop),s'.heap.get? a=some o->Q () s'->wpAny (model prog w) A each Q E s')
 (q:∀h' ys,Heap.SameBut f s.heap h'->cf w h' f ys->(∀z,z∈ys↔z∈xs\/z∈xo)->Q () { s with heap:=h' }):wpAny (model prog w) A (setMerge f a each) Q E s:=by
 have ze:=X.size;unfold setMerge;rw[ah (by simpa using bn)];refine ac (iX ho X.dat X.fit ?_);dsimp only
 by_cases he:eo.isEmpty=true
 . rw[ap he];have h0:xo = []:=uJ.mp (by rw[←ze];simpa using he);exact aq (q s.heap xs (FN _ _) y fun z=>by rw[h0];simp)
 . rw[ah he];refine ac (Pb (n:=eo.size) y (by rw[ze];exact hz) fun h1 of cM Pg t1 k1 e1 F hm=>?_);have nG:h1.get? a=some o:=by rw[k1.2 a (eM bn)];exact ho
   refine ac (iX (s:={ s with heap:=h1 }) e1 F.dat F.fit ?_);dsimp only;have bf:t1.place.size=xs.length:=by
    have:=F.fit;unfold SetTable.fits at this;simp only[dn,iV]at this;rw[this.1,F.size]
   have Ph:eo.size≠0:=fun z=>he (by simpa using z);have hx0:t1.fill=0->xs = []/\cM.size=0:=fun z=>by
    unfold SetTable.fill at z;have:xs.length=0:=by omega
    exact⟨uJ.mp this,by rw[F.size,this]⟩
   by_cases Cm:t1.fill=0
   . obtain⟨hx,hes⟩:=hx0 Cm;unfold SetTable.road;rw[ah (by rw[Cm];simp)]
     by_cases hr:(t1.mask == t.mask && t.dummies.isEmpty)=true
     . rw[ap hr];dsimp only;refine Br e1 F.dat ?_ (xk X.bnd);refine q _ xo (k1.trans (kQ ..)) ⟨_,eo,_,_,eF.store e1 F.ex F.dat,F.ex,rfl,X.good,X.perm,X.nd,X.len,?_,?_,?_,fun z=>absurd z Ph⟩ fun z=>by rw[hx];simp
       . have:=X.fit;cases t;exact this
       . show(t1.led && t.led)=_;rw[F.led,X.led,Va]
       . intro z;show(t1.plain && t.plain)=false;rw[X.pl z,kj]
     . rw[ah hr];dsimp only;have hsz:(eo.map (·.1)).size=eo.size:=Array.size_map;obtain⟨t',order,e,hp,hf,hl,cB,hmk⟩:=OU (mask:=t1.mask) (f:=t1.finger) (m:=t1.moves) (led:=t1.led && t.led) (plain:=t1.plain && t.plain) (hs:=eo.map (·.1)) (F.msk hes) (by rw[hsz];exact hm Cm);rw[hsz]at hp hf;rw[e];have pm:=Pa hp;have z1:(order.filterMap (eo[·]?)).size=eo.size:=by rw[←dm,pm.length_eq,dm]
       refine ac ?_;show wpAny _ _ (if ((order.filterMap (eo[·]?)).size != eo.size)=true then _ else _) _ _ _;rw[ah (by rw[z1];simp)];refine aq ?_;dsimp only;refine Br e1 F.dat ?_ (by rw[z1];exact xk X.bnd);refine q _ xo (k1.trans (kQ ..)) ⟨_,_,_,t',eF.store e1 F.ex F.dat,F.ex,rfl,fun e he=>X.good e (pm.mem_iff.mp he),(pm.map iE).trans X.perm,X.nd,X.len,by rw[z1];exact hf,?_,?_,fun z=>absurd (z1.symm.trans z) Ph⟩ fun z=>by rw[hx];simp
       . rw[hl,F.led,X.led,Va]
       . intro z;rw[cB,X.pl (by rw[←z1];exact z),kj]
   . unfold SetTable.road;rw[ap (by simpa using Cm)];dsimp only;refine ac (agJ (s:={ s with heap:=h1 }) nG X ⟨of,cM,Pg,t1,e1,F⟩ bn fun h2 arr k2 y2 pm=>?_);have gx:h2.get? a=some o:=by rw[k2.2 a (eM bn)];exact nG
     refine ac (wpAny_forIn_array' _ (fun rest _ s'=>∃h3 ys,s' = { s with heap:=h3 }/\Heap.SameBut f s.heap h3/\cf w h3 f ys/\(∀e∈rest,nA w e)/\ys.length+rest.length<=40/\∀z,(z∈ys\/z∈rest.map iE)↔(z∈xs\/z∈xo)) _ ?_ ?_ _ _ ⟨h2,xs,rfl,k1.trans k2,y2,fun e he=>X.good e (pm.mem_iff.mp he),?_,fun z=>?_⟩)
     . rintro e rest r s' ⟨h3,ys,rfl,k3,y3,hg,hl,pz⟩;obtain⟨z,tk,rfl⟩:=hg e (by simp);have Cn:h3.get? a=some o:=by rw[k3.2 a (eM bn)];exact ho
       rw[bF]at hl;refine ac (gH (G9 (s:={ s with heap:=h3 }) y3 (by omega) fun b h4 k4 y4=>?_));have Co:h4.get? a=some o:=by rw[k4.2 a (eM bn)];exact Cn
       refine ac (hE _ _ Co ?_);refine ac (iX (s:={ s with heap:=h4 }) Co X.dat X.fit ?_);dsimp only;rw[ah (by simp)];refine aq ⟨h4,i9 ys z,rfl,k3.trans k4,y4,fun e he=>hg e (cy _ he),by have:=Ce ys z;omega,fun u=>?_⟩;rw[←pz u,G7,b9,bw];have ek:iE (lK w (.inr z),Value.str z tk)=z:=rfl;rw[ek];constructor
       . rintro((p | p) | p)
         . exact .inl p
         . exact .inr (.inl p)
         . exact .inr (.inr p)
       . rintro(p | p | p)
         . exact .inl (.inl p)
         . exact .inl (.inr p)
         . exact .inr p
     . rintro r s' ⟨h3,ys,rfl,k3,y3,_,_,pz⟩;exact aq (q h3 ys k3 y3 fun z=>by rw[←pz z];simp)
     . have e9:eo.toList.length=eo.size:=dm;have e8:=pm.length_eq;omega
     . have:z∈arr.toList.map iE↔z∈xo:=((pm.map iE).trans X.perm).mem_iff;rw[this]
end
theorem kC{α:Type}[DecidableEq α]:∀{xs ys:List α},xs.Nodup->(∀z∈xs,z∈ys)->xs.length<=ys.length
 | [],ys,_,_=>dO _
 | x::xs,ys,hn,h=>by
  have hx:=h x (by simp);have m7:=jI.mp hn;have:=kC (xs:=xs) (ys:=ys.erase x) m7.2 fun z hz=>(List.mem_erase_of_ne (fun e=>m7.1 (by rw[←e];exact hz))).mpr (h z (cy _ hz));rw[List.length_erase_of_mem hx]at this;have hp:0<ys.length:=List.length_pos_of_mem hx;rw[bF];omega
section
variable {prog:Program} {w:World} {A:Around} {E:VP} {s:Shared} {a f:Addr}
theorem Hq{v:Value}{Q:Bool->Shared->Prop}(hT:s.TypeIs v "set")(q:Q true s):wpAny (model prog w) A (Builtin.Frozenset.isAnySet v) Q E s:=by
 unfold Builtin.Frozenset.isAnySet;show wpAny _ _ (isInstance v (.type "set") >>= _) _ _ _;exact ac (mT (T:="set") (b:=true) hT Vb (aq q))
theorem agM{v:Value}{Q:Bool->Shared->Prop}(hT:s.TypeIs v "dict")(q:Q false s):wpAny (model prog w) A (Builtin.Frozenset.isAnySet v) Q E s:=by
 unfold Builtin.Frozenset.isAnySet;show wpAny _ _ (isInstance v (.type "set") >>= _) _ _ _;refine ac (mT (T:="dict") (b:=false) hT PySem.F.sub_dict_set ?_);exact mT (T:="dict") (b:=false) hT PySem.F.sub_dict_frozenset q
theorem agN{Q:VP}(h:Q (.ref s.heap.objs.size) { s with heap:=s.heap.push { cls:=.type "set",dict:=none,data:=.set #[] 0 (.fresh 0 0 (!fk w)) } }):wpAny (model prog w) A (newSet (.type "set")) Q E s:=by
 unfold newSet;refine ac (m:=setsByText) (ac (qB (aq ?_)));exact r6 h
theorem agO{xs:Ls}{Q:VP}(x:cf w s.heap a xs)(hz:xs.length<=20)(q:∀h' ys,(∀b o,s.heap.get? b=some o->h'.get? b=some o)->s.heap.objs.size<h'.objs.size->cf w h' s.heap.objs.size ys->(∀z,z∈ys↔z∈xs)->Q (.ref s.heap.objs.size) { s with heap:=h' }) :
 wpAny (model prog w) A (Builtin.Frozenset.copyOf a) Q E s:=by
 obtain⟨o,es,ep,t,ho,X⟩:=id x;have aD:=aZ ho;unfold Builtin.Frozenset.copyOf;refine ac ?_;unfold Builtin.Frozenset.baseOf;refine ac (mT (T:="set") (b:=true) x.typeIs Vb (aq ?_));rw[ap rfl];refine ac (agN ?_);refine ac (m:=Builtin.Frozenset.addrOf _) (aq ?_);have nG:=bq { cls:=.type "set",dict:=none,data:=.set #[] 0 (.fresh 0 0 (!fk w)) } ho;refine ac (Pf (s:={ s with heap:=_ }) nG X ⟨_,_,_,_,da _ rfl,Hn⟩ (ki aD) (by simpa using hz) (fun s' Q _ h=>aq h) fun h' ys k y hm=>aq ?_);refine q h' ys (fun b o e=>?_) ?_ y fun z=>by rw[hm z];simp
 . rw[k.2 b (bE (aZ e))];exact bq _ e
 . obtain⟨o',_,_,_,e',_⟩:=y;exact aZ e'
theorem agP:entryFor table "set.__or__" = some Builtin.«frozenset.__or__»:=My (id':="frozenset.__or__") (by kernel_rfl) rfl (by decide +kernel) (by kernel_rfl)
theorem agQ{l r:Addr}{xs ys:Ls}{Q:VP}(x:cf w s.heap l xs)(y:cf w s.heap r ys)(bn:l≠r)(hz:xs.length+ys.length<=20)
 (q:∀h' zs,(∀b o,s.heap.get? b=some o->h'.get? b=some o)->cf w h' s.heap.objs.size zs->(∀z,z∈zs↔z∈xs\/z∈ys)->Q (.ref s.heap.objs.size) { s with heap:=h' }) :
 wpAny (model prog w) A (call (.builtin "set.__or__") [.ref l,.ref r]) (fun v s'=>v≠.notImplemented/\Q v s') E s:=by
 refine kO PySem.F.slot_set_or x.typeIs agP ?_ (PySem.F.args_set_or_2 _ _);unfold Builtin.«frozenset.__or__»;show wpAny _ _ (Builtin.Frozenset.slot1 "__or__" ⟨[.ref l,.ref r],[]⟩ >>= _) _ _ _;refine ac (m:=Builtin.Frozenset.slot1 _ _) (aq ?_);dsimp only;rw[ah bV];dsimp only;refine ac ?_;show wpAny _ _ (Builtin.Frozenset.isAnySet (.ref l) >>= _) _ _ _;refine ac (Hq x.typeIs ?_);refine Hq y.typeIs ?_;show wpAny _ _ (if (!true)=true then _ else _) _ _ _;rw[ah (by decide)];refine ac (m:=Builtin.Frozenset.addrOf _) (aq ?_);refine ac ?_;show wpAny _ _ (Builtin.Frozenset.copyOf l >>= _) _ _ _;obtain⟨ox,_,_,_,hox,_⟩:=id x;have hlx:=aZ hox;refine ac (agO x (by omega) fun h1 zs k1 yq z1 m1=>?_);show wpAny _ _ (if (Value.ref r != Value.ref l)=true then _ else _) _ _ _;rw[ap (by simp[bne];exact fun z=>bn z.symm)];have y1:=y.at' (h':=h1) fun o e=>k1 _ o e;obtain⟨o,es,ep,t,ho,X⟩:=id y1;obtain⟨oy,_,_,_,hoy,_⟩:=id y;have hly:=aZ hoy;have lz:zs.length<=xs.length:=by
  obtain⟨_,_,_,_,_,Z⟩:=z1;obtain⟨_,_,_,_,_,X0⟩:=x;exact kC Z.nd fun z hz=>(m1 z).mp hz
 refine ac (m:=Builtin.Frozenset.addrOf _) (aq (ac (gH ?_)));unfold Builtin.Frozenset.updateFrom;refine ac (Hq (s:={ s with heap:=h1 }) y1.typeIs ?_);rw[ap rfl];refine ac (m:=Builtin.Frozenset.addrOf _) (aq ?_);refine ac (m:=setEpoch r) (wpAny_setEpoch_of (s:={ s with heap:=h1 }) ho X.dat X.fit ?_);refine Pf (s:={ s with heap:=h1 }) ho X z1 (ki hly) (by omega) (fun s' Q' e q'=>?_) fun h2 us k2 u2 m2=>?_
 . unfold Builtin.Frozenset.unchanged;refine ac (wpAny_setEpoch_of e X.dat X.fit ?_);rw[ah (by simp)];exact aq q'
 . refine aq (aq ⟨_,rfl,(by intro z;cases z),q h2 us (fun b o e=>?_) u2 fun z=>by rw[m2 z,m1 z]⟩);rw[k2.2 b (bE (aZ e))];exact k1 b o e
def iF(w:World):Obj:={ cls:=.type "set",dict:=none,data:=.set #[] 0 (.fresh 0 0 (!fk w)) }
theorem agU(v:Value){Q₁:VP}(h:Q₁ (.ref s.heap.objs.size) { s with heap:=s.heap.push (iF w) }):codeAny (model prog w) A (.call (.builtin "set.__new__") ⟨[.type "set",v],[]⟩) (wants Q₁ E) s:=by
 refine codeAny_of_tree ?_;show wpAny _ A.in1 (do { checkBuiltinCall "set.__new__" ⟨[.type "set",v],[]⟩;again (.builtin "set.__new__" ⟨[.type "set",v],[]⟩) }) _ _ s;refine ac (MJ (PySem.F.newCall_set_1 v) (aq ⟨kn ase _,ko PySem.F.entry_set_new ?_⟩));rw[kR ase _];unfold Builtin.«set.__new__» Builtin.Frozenset.newClass;have agV:=Vb;obtain⟨hp,g,d,tk,os⟩:=s;dsimp only
 wp_walk
 refine qB (aq ?_);dsimp only;simp only[newObj];exact ac (wpAny_alloc (aq (aq h)))
theorem Pj{v:Value}{Q:VP}(hq:∀A':Around,A'.handled=A.handled->wpAny (model prog w) A' (Builtin.Frozenset.updateFrom "set.__init__" s.heap.objs.size v) (fun _ s'=>Q (.ref s.heap.objs.size) s') E { s with heap:=s.heap.push (iF w) }) :
 wpAny (model prog w) A (call (.type "set") [v]) Q E s:=by
 obtain⟨c,tl,asM⟩:=uL.mro;have asN:=uL.made;have agV:=uL.sub;refine Ma (codeAny_of_tree ?_);show wpAny _ _ (callAny (.type "set") _) _ _ _;refine aq ⟨Code.quiet_builtin _ (by decide +kernel),ko PySem.F.entry_type_call ?_⟩;rw[Around.under_plain (weight_type_call_type "set" [v] []) rfl];have h1:=uL.notType;have h2:=uL.canCreate;have hct:=PySem.F.typeCall_set_1 v
 repeat (any_goals (first | assumption | wp_step))
 refine rY (agU v (E:=E) (Q₁:=fun obj s₁=>obj = .ref s.heap.objs.size/\s₁ = { s with heap:=s.heap.push (iF w) }) ⟨rfl,rfl⟩) fun r s₁ hr=>?_;cases r with
 | error e=>exact hr
 | ok fl=>
  cases fl with
  | ret obj=>
   obtain⟨rfl,rfl⟩:=hr;have hS:(s.heap.push (iF w)).get? s.heap.objs.size=some (iF w):=da _ rfl;have hT:Shared.TypeIs { s with heap:=s.heap.push (iF w) } (.ref s.heap.objs.size) "set":=⟨_,hS,rfl⟩;have hli:=uL.init.lookup;have hbi:=uL.init.bind (.ref s.heap.objs.size)
   repeat (any_goals (first | assumption | wp_step))
   refine rY (codeAny_call_builtin (R:=wants (fun r s₂=>r = .none/\Q (.ref s.heap.objs.size) s₂) E) uL.init.plain PySem.F.entry_set_init (check_set_init_1 hT ?_)) fun r₂ s₂ Hr=>?_
   . unfold Builtin.«set.__init__» noKeywords;have dP:=hq;generalize hUF:Builtin.Frozenset.updateFrom=UF at dP ⊢;have i8:(s.heap.push (iF w)).get? s.heap.objs.size=some { cls:=.type "set",dict:=none,data:=.set #[] 0 (.fresh 0 0 (!fk w)) }:=hS
     wp_walk
     exact dN (dP _ rfl) (fun _ s' z=>aq ⟨rfl,z⟩) fun _ _ e=>e
   . cases r₂ with
     | error e=>exact Hr
     | ok fl₂=>
      cases fl₂ with
      | ret r=>
       obtain⟨rfl,z⟩:=Hr
       repeat (any_goals (first | assumption | wp_step))
      | _=>exact Hr.elim
  | _=>exact hr.elim
theorem agX{v:Value}{Q:Bool->Shared->Prop}(hT:s.TypeIs v "list")(q:Q false s):wpAny (model prog w) A (Builtin.Frozenset.isAnySet v) Q E s:=by
 unfold Builtin.Frozenset.isAnySet;show wpAny _ _ (isInstance v (.type "set") >>= _) _ _ _;refine ac (mT (T:="list") (b:=false) hT PySem.F.sub_list_set ?_);exact mT (T:="list") (b:=false) hT PySem.F.sub_list_frozenset q
theorem agY{R:Result->Shared->Prop}{I S:Addr}{fp wr:List Addr}{n:Nat}{P:Nat->Value->Prop}{St:Nat->Heap->Prop}(W:Walks prog w A.in1 I fp wr n P St)(ym:S∉fp){ys:Ls}(hv:∀i v,P i v->∃y tk,ys[i]? = some y/\v = .str y tk)(hb:n<=500)(hn:ys.length=n) :
 ∀(k i:Nat) (s:Shared) (xs:Ls),n - i=k->i<=n->St i s.heap->cf w s.heap S xs->xs.length<=i->(∀h' tk zs,(∀b o,b≠S->b∉wr->s.heap.get? b=some o->h'.get? b=some o)->cf w h' S zs->(∀z,z∈zs↔z∈xs\/z∈ys.drop i)->R (.ok (.ret .none)) { s with heap:=h',toks:=tk }) ->
  codeAny (model prog w) A (.builtin "set.update.loop" ⟨[.ref S,.ref I],[]⟩) R s:=by
 have Pk:S∉wr:=fun h=>ym (W.sub _ h);intro k
 induction k with
 | zero=>
  intro i s xs hk hi lM hS hl hR;have cH:i=n:=by omega
  subst cH;refine ko asf ?_;rw[kR Vc _];show wpAny _ A.in1 (pyNext (.ref I) >>= _) _ _ s;refine ac (W.done s _ _ lM fun h' tk hm=>?_);show wpAny _ A.in1 (ret Value.none) _ _ _;exact aq (hR h' tk xs (fun b o _ hb e=>hm b o hb e) (hS.at' fun o e=>hm S o Pk e) fun z=>by rw[List.drop_eq_nil_of_le (by omega)];simp)
 | succ k ih=>
  intro i s xs hk hi lM hS hl hR;have aD:i<n:=by omega
  refine ko asf ?_;rw[kR Vc _];show wpAny _ A.in1 (pyNext (.ref I) >>= _) _ _ s;refine ac (W.item i s _ _ aD lM fun v h1 vt hP yt hm=>?_);obtain⟨y,tk,hy,rfl⟩:=hv i v hP;have i8:cf w h1 S xs:=hS.at' fun o e=>hm S o Pk e;show wpAny _ A.in1 (holding [Value.str y tk] (setAdd S (.str y tk)) >>= _) _ _ _;refine ac (gH ?_);unfold setAdd;refine gH (ac ((cm prog w).pyHash (k:=.inr y) (sg prog w y tk) ?_));refine G9 (s:={ s with heap:=h1,toks:=vt+1 }) i8 (by omega) fun b h2 k2 S2=>?_;have ld:=Ce xs y;have hd:ys.drop i=y::ys.drop (i+1):=by
   obtain⟨lc,e⟩:=bH.mp hy;rw[←e];exact asg lc
  refine aq ⟨kn Vc _,ih (i+1) { s with heap:=h2,toks:=vt+1 } (i9 xs y) (by omega) aD (W.frame _ h1 _ yt fun b hb o e=>?_) S2 (by omega) fun h' nH zs kk Z mem=>?_⟩
  . rw[k2.2 b (fun h:b=S=>ym (by rw[←h];exact hb))];exact e
  . refine hR h' nH zs (fun b o hb hw e=>kk b o hb hw ?_) Z fun z=>?_
    . rw[k2.2 b hb];exact hm b o hw e
    . rw[mem z,G7,hd,bw];constructor
      . rintro((p | p) | p)
        . exact .inl p
        . exact .inr (.inl p)
        . exact .inr (.inr p)
      . rintro(p | p | p)
        . exact .inl (.inl p)
        . exact .inl (.inr p)
        . exact .inr p
theorem agZ{l:Addr}{items:Av}{ys:Ls}{Q:VP}(hh:A.handled=none)(hl:s.heap.IsList l items)(hv:∀(i:Nat) (v:Value),items[i]? = some v->∃y tk,ys[i]? = some y/\v=Value.str y tk)(hb:items.size<=500)(hn:ys.length=items.size)
 (q:∀h' tk zs,(∀b o,s.heap.get? b=some o->h'.get? b=some o)->cf w h' s.heap.objs.size zs->(∀z,z∈zs↔z∈ys)->Q (.ref s.heap.objs.size) { s with heap:=h',toks:=tk }):wpAny (model prog w) A (call (.type "set") [.ref l]) Q E s:=by
 refine Pj fun A' hA=>?_;have yq:(s.heap.push (iF w)).IsList l items:=hl.push _;obtain⟨ol,vv,iG,nl,Pm⟩:=id hl;have yk:l<s.heap.objs.size:=aZ vv;unfold Builtin.Frozenset.updateFrom;refine ac (agX (s:={ s with heap:=_ }) yq.typeIs ?_);rw[ah bV];refine ac (MA (s:={ s with heap:=_ }) yq.typeIs ?_);rw[ah (by decide)];refine ac (Ft (s:={ s with heap:=_ }) yq ?_);refine ac (wpAny_runValue ?_);have hz:(s.heap.push (iF w)).objs.size=s.heap.objs.size+1:=oN _ _;have ag0:l≠(s.heap.push (iF w)).objs.size:=by rw[hz];exact bE (FI yk)
 refine agY (Bu (A:=A'.in1) (by rw[show A'.in1.handled=A'.handled from rfl,hA,hh]) _ l ag0 items) (S:=s.heap.objs.size) ?_ hv hb hn (items.size - 0) 0 _ [] (by omega) (dO _) ⟨⟨_,da _ rfl,rfl,rfl⟩,yq.push _⟩
  ⟨_,_,_,_,bq _ (da _ rfl),Hn⟩ (dO _) fun h' tk zs k Z m=>?_
 . simp only[bw,se,sf,not_or];exact⟨by rw[hz];exact bE (xb _),ki yk⟩
 . show wpAny _ _ _ _ _ _;refine aq (q h' tk zs (fun b o e=>k b o (bE (aZ e)) (fun hb=>?_) (bq _ (bq _ e))) Z fun z=>by rw[m z];simp);have:=aZ e;rw[cE.mp hb,hz]at this;exact absurd (Nat.lt_of_succ_lt this) (mU _)
end
section
variable {prog:Program} {w:World} {A:Around} {E:VP} {s:Shared}
theorem ag1{d:Addr}{o:Obj}{es:Array DictEntry}{ep:Nat}{ks:Ls}{Q:VP}(ho:s.heap.get? d=some o)(hc:o.cls = .type "dict")(hd:o.data = .dict es ep)(hm:(d == sysModules)=false)(hn:ks.length=es.size)(hb:ks.length<=20)
 (hk:∀(i:Nat) (e:DictEntry),es[i]? = some e->∃y tk,ks[i]? = some y/\e.key=Value.str y tk/\e.hash=lK w (.inr y))
 (q:∀h' zs,(∀b o,s.heap.get? b=some o->h'.get? b=some o)->cf w h' s.heap.objs.size zs->(∀z,z∈zs↔z∈ks)->Q (.ref s.heap.objs.size) { s with heap:=h' }):wpAny (model prog w) A (call (.type "set") [.ref d]) Q E s:=by
 refine Pj fun A' hA=>?_;have aD:=aZ ho;have nG:=bq (iF w) ho;have hT:Shared.TypeIs { s with heap:=s.heap.push (iF w) } (.ref d) "dict":=⟨_,nG,hc⟩;unfold Builtin.Frozenset.updateFrom;refine ac (agM hT ?_);rw[ah bV];refine ac (MA hT ?_);rw[ap (by decide)];refine ac (rX ?_);refine ac (m:=Builtin.Frozenset.addrOf _) (aq ?_);rw[hm,ah bV];refine ac (FQ (s:={ s with heap:=s.heap.push (iF w) }) nG hd ?_);refine ac (Bv (s:={ s with heap:=s.heap.push (iF w) }) nG hd ?_);have hS0:cf w (s.heap.push (iF w)) s.heap.objs.size []:=⟨_,_,_,_,da _ rfl,Hn⟩;refine ac (Pb (s:={ s with heap:=s.heap.push (iF w) }) (n:=es.size) hS0 (by rw[←hn];simpa using hb) fun h1 o1 cM Pg t1 k1 e1 X1 _=>?_);have bn:d≠s.heap.objs.size:=bE aD;have gx:h1.get? d=some o:=by rw[k1.2 d bn];exact nG
 refine ac (Bv (s:={ s with heap:=h1 }) gx hd ?_);refine ac ?_;rw[Std.Legacy.Range.forIn_eq_forIn_range'];simp only[Std.Legacy.Range.size,Nat.sub_zero,Nat.add_sub_cancel,Nat.div_one];refine qx _ (fun rest _ s'=>∃h' i zs,s' = { s with heap:=h' }/\rest=List.range' i (es.size - i)/\i<=es.size/\Heap.SameBut s.heap.objs.size (s.heap.push (iF w)) h'/\cf w h' s.heap.objs.size zs/\zs.length<=i/\∀z,z∈zs↔z∈ks.take i) _ ?_ ?_ _ _ ⟨h1,0,[],rfl,by simp,dO _,k1,⟨_,_,_,_,e1,X1⟩,aH _,fun z=>by simp⟩
 . rintro x rest b s' ⟨h',i,zs,rfl,hr,hi,kk,Z,hl,mem⟩;have Pn:i<es.size:=by
    rcases Nat.lt_or_ge i es.size with h | h
    . exact h
    . rw[Nat.sub_eq_zero_of_le h]at hr;simp at hr
   obtain⟨rfl,no⟩:x=i/\rest=List.range' (i+1) (es.size - (i+1)):=by
    have e:es.size - i=(es.size - (i+1))+1:=by omega
    rw[e,List.range'_succ]at hr;injection hr with h1 h2;exact⟨h1,h2⟩
   have Cn:h'.get? d=some o:=by rw[kk.2 d bn];exact nG
   refine ac (Bv (s:={ s with heap:=h' }) Cn hd ?_);have hg:es[x]? = some es[x]:=oQ Pn;obtain⟨y,tk,hy,kx,Hs⟩:=hk x _ hg;rw[hg];dsimp only;rw[kx,Hs];refine ac (gH (G9 (s:={ s with heap:=h' }) Z (by omega) fun b h2 k2 Z2=>?_));have Co:h2.get? d=some o:=by rw[k2.2 d bn];exact Cn
   refine ac (FQ (s:={ s with heap:=h2 }) Co hd ?_);rw[ah (by simp)];refine aq ⟨h2,x+1,i9 zs y,rfl,no,Pn,kk.trans k2,Z2,by have:=Ce zs y;omega,fun z=>?_⟩;rw[G7,mem z,Bw,hy];simp
 . rintro b s' ⟨h',i,zs,rfl,hr,hi,kk,Z,hl,mem⟩;have cH:i=es.size:=by
    rcases Nat.lt_or_ge i es.size with h | h
    . have e:es.size - i=(es.size - (i+1))+1:=by omega
      rw[e,List.range'_succ]at hr;exact nomatch hr
    . exact Nat.le_antisymm hi h
   refine aq (q h' zs (fun b o e=>?_) Z fun z=>by rw[mem z,cH,←hn,cj]);rw[kk.2 b (bE (aZ e))];exact bq _ e
end
def Ht(w:World)(H:Hp)(ys:Ls)(Q:VK):Prop:=∀r xs H',H r=none->ag H H'->H' r=some (nB w r xs)->xs.Nodup->(∀z,z∈xs↔z∈ys)->Q (.ref r) H'
theorem cf.nd{w:World}{h:Heap}{a:Addr}{xs:Ls}(x:cf w h a xs):xs.Nodup:=x.elim fun _ ag3=>ag3.elim fun _ ag4=>ag4.elim fun _ ag5=>ag5.elim fun _ ag6=>ag6.elim fun _ X=>X.nd
theorem Pq{us:Lw}{ys:Ls}(h:StrsAre us ys):us.length=ys.length/\∀(i:Nat) (v:Value),us[i]? = some v->∃y tk,ys[i]? = some y/\v=Value.str y tk:=by
 induction h with
 | nil=>exact⟨rfl,fun i v e=>by cases e⟩
 | cons y t _ ih=>
  refine⟨by simp[ih.1],fun i v e=>?_⟩;cases i with
  | zero=>cases e;exact⟨y,t,rfl,rfl⟩
  | succ i=>exact ih.2 i v e
theorem Ps:∀{ys:Ls} {us:Lw},a8 (ys.map V.str) us->StrsAre us ys
 | [],us,r=>by cases r;exact .nil
 | y::ys,us,r=>by
  cases r with
  | cons a b=>
   obtain⟨t,rfl⟩:=a;exact .cons y t (Ps b)
section
variable {X:Cx}
theorem Hu(hc:X.calm=true):gt X (.type "set") (fun vs H Q=>∃p ys,vs = [.ref p]/\af X.K H p (ys.map V.str)/\ys.length<=500/\Ht X.w H ys Q):=by
 intro pins s σ H xs us Q I r h;obtain⟨p,ys,rfl,hp,hz,q⟩:=h;obtain⟨u,rfl,ru⟩:=vals1 r;cases ru;obtain⟨its,rv,ht,hz'⟩:=I.list hp;have hs:=Pq (Ps rv);refine agZ (I.ok.hd hc) ht.isList (ys:=ys) (fun i v e=>hs.2 i v (by simpa using e)) (by simp;omega) (by simp[hs.1]) fun h' tk zs k Z m=>?_;have hn:=I.hok.fresh (aH s.heap.objs.size);exact⟨.ref s.heap.objs.size,_,I.laid (t':=tk) (a:=s.heap.objs.size) (o:=nB X.w s.heap.objs.size zs) k (aH _) (Hl Z),rfl,q _ zs _ hn (jV hn) aP Z.nd m⟩
theorem Pu:gt X (.type "set") (fun vs H Q=>∃p kvs ks,vs = [.ref p]/\H p=some (.dK kvs)/\sO kvs ks/\ks.length<=20/\Ht X.w H ks Q):=by
 intro pins s σ H xs us Q I r h;obtain⟨p,kvs,ks,rfl,e,vk,hz,q⟩:=h;obtain⟨u,rfl,ru⟩:=vals1 r;cases ru;obtain⟨z,hd,vs,rel,dd⟩:=qQ I.hok e;obtain⟨o,es,ep,ho,hx,hdt,hko,lW,vw⟩:=id dd;have hlen:=rel.length;have l1:kvs.length=ks.length:=by have:=fL List.length vk;simpa using this
 have l2:es.size=vs.length:=by have:=lW.length;simpa using this
 have hS:StrsAre (es.toList.map (·.key)) ks:=Oh (X:=X) vk rel (by rw[au,dm];exact l2) fun j v hj=>by
  rw[bN]at hj;cases he:es.toList[j]? with
  | none=>rw[he]at hj;cases hj
  | some en=>
   rw[he]at hj;cases hj;have hjl:=(bH.mp he).1;rw[dm]at hjl;obtain⟨kv,qU⟩:∃kv,vs[j]? = some kv:=⟨vs[j]'(by omega),cJ _⟩;exact⟨kv.1,kv.2,qU,(lW.get? he qU).1⟩
 refine ag1 (ks:=ks) ho hx.1 hdt hd (by omega) hz (fun i en hi=>?_) fun h' zs k Z m=>?_
 . obtain⟨y,tk,hy,hk⟩:=(Pq hS).2 i en.key (by rw[bN,mX,hi];rfl);obtain⟨k',Pw,Hs⟩:=hko en (Array.mem_of_getElem? hi);refine⟨y,tk,hy,hk,?_⟩;rw[hk]at Pw;rw[Hs,(cm X.prog X.w).inj _ _ _ Pw (sg X.prog X.w y tk)];rfl
 . have hn:=I.hok.fresh (aH s.heap.objs.size);exact⟨.ref s.heap.objs.size,_,I.laid (t':=s.toks) (a:=s.heap.objs.size) (o:=nB X.w s.heap.objs.size zs) k (aH _) (Hl Z),rfl,q _ zs _ hn (jV hn) aP Z.nd m⟩
theorem aha:bK X (binaryOp .BitOr) (fun x y H Q=>∃p q xs ys,x = .ref p/\y = .ref q/\p≠q/\H p=some (nB X.w p xs)/\H q=some (nB X.w q ys)/\xs.length+ys.length<=20/\Ht X.w H (xs++ys) Q):=by
 intro pins s σ H x y v u Q I rx ry h;obtain⟨p,q,xs,ys,rfl,rfl,bn,e1,e2,hz,qq⟩:=h;cases rx;cases ry;have x1:=Hm I.hok e1;have x2:=Hm I.hok e2;refine wpAny_binaryOp_same (op:=.BitOr) (T:="set") x1.typeIs x2.typeIs PySem.F.fills_set_or PySem.F.slot_set_or (agQ x1 x2 bn hz fun h' zs k Z m=>?_);have hn:=I.hok.fresh (aH s.heap.objs.size);exact⟨.ref s.heap.objs.size,_,I.laid (t':=s.toks) (a:=s.heap.objs.size) (o:=nB X.w s.heap.objs.size zs) k (aH _) (Hl Z),rfl,qq _ zs _ hn (jV hn) aP Z.nd fun z=>by rw[m z];simp⟩
end
open PySem.W (tabObj)
def iH(P:Addr)(ps:Av):HO:=.ext fun h=>h.get? P=some (tabObj ps)
def yu(c':Addr)(qual:Str):HO:=.ext fun h=>h.CodeRec (.ref c') qual
def gz(H:Hp)(P:Addr)(pos:Pos)(qual:Str):Prop:=H P=some (iH P #[])\/∃c',H P=some (iH P #[rawInt pos.line,rawInt pos.col,.ref c'])/\H c'=some (yu c' qual)
theorem yx{Pr:Program}{w:World}{H:Hp}{h:Heap}{a:Addr}{p:Heap->Prop}{o:Obj}(e:h.get? a=some o)(hp:p h)(hk:∀h1 h2:Heap,p h1->(∀o,h1.get? a=some o->h2.get? a=some o)->p h2):bG Pr w H h a (.ext p):=⟨hp,⟨_,e⟩,hk⟩
theorem ahb{c':Addr}{qual:Str}{h1 h2:Heap}(h:h1.CodeRec (.ref c') qual)(k:∀o,h1.get? c'=some o->h2.get? c'=some o):h2.CodeRec (.ref c') qual:=by
 obtain⟨c,oc,vs,t,e,jy,h3,h4⟩:=h;cases e;exact⟨c',oc,vs,t,rfl,k _ jy,h3,h4⟩
section
variable {X:Cx} {c P:Addr} {params:Arguments} {body:Expr} {scope:Scope} {pos:Pos} {qual:Str}
end
end L2
namespace L2
open PySem PySem.Spec PyProof.Rows
section
variable {X:Cx}
end
section
variable {X:Cx} {tg:Expr}
def ahc(K:Fg):Lv->Hp->VK->Prop:=fun xs H Q=>∃(p:Addr) (bs:List Bool),xs = [.ref p]/\af K H p (bs.map V.bl)/\Q (.bl (bs.all id)) H
theorem ahd(bs:List Bool):(List.range bs.length).all (fun i=>bs.getD i false)=bs.all id:=by
 rw[qy,dW,dW];constructor
 . intro h b hb;obtain⟨i,hi,e⟩:=Bp.mp hb;have:=h i (g9.mpr hi);rw[hU,cJ hi,xg,e]at this;exact this
 . intro h i hi;have hi:=g9.mp hi;rw[hU,cJ hi,xg];exact h _ (xj hi)
theorem ahe(K:Fg)(h:X.K=K:=by rfl)(hc:X.calm=true:=by rfl):gt X (.builtin "all") (ahc K):=by
 subst h;intro pins s σ H xs us Q I r h;obtain⟨p,bs,rfl,hq,q⟩:=h;obtain⟨u,rfl,rx⟩:=vals1 r;cases rx;obtain⟨its,rv,pl,hz⟩:=I.list hq;have hlen:=rv.length;rw[au]at hlen;refine call_all_walk (Ft pl.isList ?_);have bn:p≠s.heap.objs.size:=by
  obtain⟨o,ho,_⟩:=pl.isList;exact bE (aZ ho)
 refine⟨_,_,_,_,_,_,fun i=>bs.getD i false,rfl,Bu (A:=X.A.in1) (I.ok.hd hc) _ p bn its.toArray,⟨⟨_,da _ rfl,rfl,rfl⟩,pl.isList.push _⟩,?_,fun h' tk kk=>?_⟩
 . intro i v s' Q' E hv dP;have hv:its[i]? = some v:=by simpa using hv
   have hi:i<bs.length:=by
    have:=(bH.mp hv).1;omega
   obtain⟨u,hu,ru⟩:=rv.get (i:=i) (x:=V.bl bs[i]) (by rw[bN,cJ hi];rfl);rw[hv]at hu;cases hu;have ru:v = .bool bs[i]:=by cases ru;rfl
   subst ru;have dP:Q' (bs.getD i false) s':=dP;rw[hU,cJ hi,xg]at dP;exact kP dP
 . have e:its.toArray.size=bs.length:=by simp;omega
   rw[e,ahd];exact⟨.bl _,H,I.kept fun b o e=>kk b o (by
    have:=aZ e;rw[cE];exact bE this) (bq _ e),rfl,q⟩
end
theorem Inv.turnedL{X:Cx}{pins:Po}{σ:St}{H:Hp}{s:Shared}{h':Heap}{t':Nat}{fp:List Addr}(I:Inv X pins σ H s)(k:∀b o,b∉fp->s.heap.get? b=some o->h'.get? b=some o)(hf:∀b∈fp,eZ X pins H b):Inv X pins σ H { s with heap:=h',toks:=t' }:=by
 have xy:∀b u,H b=some u->b∉fp:=fun b u e z=>by rw[(hf b z).1]at e;cases e
 have hL:X.env.locals∉fp:=fun z=>(hf _ z).2.1 rfl;refine I.step (g':=s.gens) (d':=s.drawn) (ch:=fp) (fun b hb=>?_) (fun b o _ _ hc e _=>k b o hc e) (fun b o _ _ hc e _=>⟨o.slots,k b o hc e⟩) (fun _ _ _ _ n=>n)
  (fun b o hc e=>⟨o,k b o hc e⟩) (fun _ _ e=>e) (fun _ _ _ e=>e) (fun b ps e=>⟨#[],by rw[e];simp⟩) (fun m hm=>?_) (fun b u e=>?_) I.bare
 . obtain⟨f0,f1,f2,f3,f4,f5⟩:=hf b hb;exact⟨f3,f1,f4,f5⟩
 . obtain⟨o,es,ep,ho,r⟩:=hm;exact⟨o,es,ep,k _ o hL ho,r⟩
 . refine(I.hok b u e).stay (fun c v hc q=>k c v ?_ q) (fun _ q=>q) fun _ _ q=>q
   rcases hc with z | z
   . rw[z];exact xy b u e
   . exact xy c _ z
def yz(K:Fg)(a:Addr):It:=
 ⟨fun i H=>∃xs x,af K H a xs/\xs[i]? = some x,fun i H v H'=>∃p x,H p=none/\(∀xs,af K H a xs->xs[i]? = some x)/\v = .ref p/\H'=aj H p (.tup [.int i,x]),fun i H=>∃xs,af K H a xs/\xs.length<=i⟩
theorem ahf{P:Program}{w:World}{K:Fg}{elts:List Expr}{x1:Nat}{pos:Pos}(a e it:Addr)(bn:e≠it):oZ P w K (.Tuple elts x1 pos) (yz K a) [e,it] e (fun i h=>(∃old,IsEnum h e it i old)/\h.IsListIter it a i) where
 mem:=by simp
 obj:=fun i h st b hb=>by
  obtain⟨⟨old,st⟩,o,e',c,d⟩:=st
  rcases bw.mp hb with rfl | hb
  . exact⟨_,st,fun v z=>by
     have z':Data.fields _=Data.cell v:=z;cases z'⟩
  . have hb:=cE.mp hb;subst hb;exact⟨o,e',fun v z=>by rw[d]at z;cases z⟩
 keep:=fun i h h' ahg k=>ahg.elim fun ahh iC=>ahh.elim fun old st=>⟨⟨old,k e (by simp) _ st⟩,iC.at fun o e'=>k it (by simp) o e'⟩
 item:=by
  intro X hP hw hK hc i pins s σ H E I hf st hg;subst hP hw hK;obtain⟨⟨old,st⟩,iC⟩:=st;obtain⟨xs,x,hq,hx⟩:=hg;obtain⟨its,rv,p,hz⟩:=I.list hq;obtain⟨u,hu,ru⟩:=rv.get hx;refine wpAny_pyNext_enum_item st iC p.isList (x:=u) (by simpa using hu) bn fun h1 ho Hv G1 hsz cG=>⟨.ref s.heap.objs.size,rfl,?_⟩;refine wpAny_letOwnedTupleGo_enum ho fun h2 Hw sb=>?_;have sb:Heap.SameBut e h1 h2:=sb;have Px:e<s.heap.objs.size:=aZ st;have B6:it<s.heap.objs.size:=by
   obtain⟨o,e',_⟩:=iC;exact aZ e'
  have I1:Inv X pins σ H { s with heap:=h2,toks:=s.toks+1 }:=I.turnedL (fp:=[e,it]) (fun b ob hb e'=>by
   simp only[bw,se,sf,not_or]at hb;exact(sb.2 b hb.1).trans (cG b ob hb.1 hb.2 e')) hf
  have hn:H s.heap.objs.size=none:=I.hok.fresh (aH _);have fp:=I.fpOk (H':=H) (aH _) hn;have ph:h2.get? s.heap.objs.size=some { cls:=.type "tuple",data:=.seq #[.int i s.toks,u] }:=(sb.2 _ (ki Px)).trans G1;have I2:Inv X pins σ (aj H s.heap.objs.size (.tup [.int i,x])) { s with heap:=h2,toks:=s.toks+1 }:=by
   refine I1.track hn I.sz fp.2.1 fp.2.2.2.2.1 fp.2.2.2.2.2 ?_;exact⟨by show 2<=sizeLine;decide,[.int i s.toks,u],.cons ⟨_,rfl⟩ (.cons ru .nil),_,ph,rfl,0,rfl⟩
  refine⟨.ref s.heap.objs.size,_,I2,rfl,⟨_,x,hn,fun ys hy=>by rw[I.list_inj hy hq];exact hx,rfl,rfl⟩,⟨⟨u,by simpa using Hw⟩,Hv.at fun o e'=>(sb.2 it (eM bn)).trans e'⟩,fun b hb=>?_⟩;have Hz:=(hf b hb).1;rw[aL,Hz];simp only[bw,se,sf]at hb
  rcases hb with rfl | rfl
  . exact bE Px
  . exact bE B6
 done:=by
  intro X hP hw hK hc i pins s σ H E I hf st hg;subst hP hw hK;obtain⟨⟨old,st⟩,iC⟩:=st;obtain⟨xs,hq,hx⟩:=hg;obtain⟨its,rv,p,hz⟩:=I.list hq;have hl:=rv.length;exact wpAny_pyNext_enum_end (I.ok.hd hc) st iC p.isList (by simp;omega) fun h' eb=>⟨rfl,I.turnedL (t':=s.toks) (fp:=[e,it]) (fun b o hb e'=>eb b o (fun z=>hb (by simp[z])) e') hf⟩
 self:=fun _ _ _ _ _ st h=>st.elim fun ahi _=>ahi.elim fun _ st=>wpAny_pyIter_enum st h
section
variable {X:Cx}
def ahj(K:Fg)(ta:TA):TI:=fun σ H R=>ta σ H fun vs H1=>∃a,vs = [.ref a]/\(∃xs,af K H1 a xs)/\R (yz K a) H1
theorem Py{l:Expr}{ta:TA}{p pos p2:Pos}{elts:List Expr}{x1:Nat}(hg:Gl X "enumerate")(hm:X.mg "enumerate" = none)(ha:PA X [l] ta)(hs:starEach [l] X.env = [(false,eval l X.env)]:=by rfl) :
 PI X (.Tuple elts x1 p2) (.Call (.Name "enumerate" p) [l] [] pos) (ahj X.K ta):=by
 intro pins s σ H R I h;refine Call_ (sj I hg hm boot_enumerate (L7 (thn (ha pos pins s σ H _ I h) fun us s1 ahk=>ahk.elim fun vs ahl=>ahl.elim fun H1 ahm=>ahm.elim fun I1 ahn=>ahn.elim fun r1 q1=>?_) hs rfl));obtain⟨a,e,⟨xs,hq⟩,q⟩:=q1;subst e;obtain⟨u,rfl,rx⟩:=vals1 r1;cases rx;obtain⟨its,rv,pl,hz⟩:=I1.list hq;refine call_enumerate_list pl.isList fun h' en it hsz kp=>?_;refine wpAny_pyIter_enum en ?_;refine⟨s1.heap.objs.size+1,[s1.heap.objs.size+1,s1.heap.objs.size],_,_,H1,rfl,I1.kept (t':=s1.toks) kp,ahf a _ _ (Nat.succ_ne_self _),⟨⟨_,en⟩,it⟩,fun b hb=>?_,q⟩;have e:s1.heap.objs.size<=b:=by
  simp only[bw,se,sf]at hb
  rcases hb with rfl | rfl
  . exact Fz _
  . exact aH _
 exact I1.fpOk e (I1.hok.fresh e)
end
section
variable {prog:Program} {w:World} {A:Around} {E:VP} {s:Shared}
theorem Pz{x y:Str}(h:x≠y):decide (x.cps.toList<y.cps.toList) = !decide (y.cps.toList<x.cps.toList):=by
 have ne:x.cps.toList≠y.cps.toList:=fun z=>h (by
  obtain⟨⟨x⟩⟩:=x;obtain⟨⟨y⟩⟩:=y;have z:x=y:=z;rw[z])
 by_cases l:x.cps.toList<y.cps.toList
 . rw[aE l,aR (List.lt_asymm l)];rfl
 . rw[aR l];have l':y.cps.toList<x.cps.toList:=by
    rcases Classical.em (y.cps.toList<x.cps.toList) with z | z
    . exact z
    . exact absurd (Vd (FR.mp z) (FR.mp l)) ne
   rw[aE l'];rfl
end
section
variable {X:Cx}
end
theorem take_snoc{α:Type}{ys:List α}{i:Nat}{y:α}(h:ys[i]? = some y):ys.take (i+1)=ys.take i++[y]:=by
 rw[List.take_succ,h];rfl
section
variable {g:TG} {te:TE} {H1:Hp} {Q:Addr->Hp->Prop}
theorem yA{K:Fg}{a:Addr}{xs:Lv}{σ0:St}(hx:af K H1 a xs)(S:St->Prop)(ys:Lv)(hl:ys.length=xs.length)(big:xs.length<=sizeLine)(s0:S σ0)
 (turn:∀(i:Nat) x y σ H (k:St->V->Hp->Prop),xs[i]? = some x->ys[i]? = some y->S σ->ag H1 H->(∀σ3 H5,S σ3->ag H H5->k σ3 y H5)->g x σ H fun σ3 H3=>te σ3 H3 (k σ3))
 (done:∀D H,H1 D=none->H D=some (.lst ys)->ag H1 H->Q D H) :
 ∀D,H1 D=none->∃W:Nat->Nat->St->Hp->Prop,(∃m,W 0 m σ0 (aj H1 D (.lst [])))/\lR (nh K a) g sJ te D (fun H'=>Q D H') W:=by
 refine x9 hx S (fun i zs _=>zs=ys.take i) s0 (fun _ _=>rfl) (fun D i x zs σ H k a1 a2 a3 a4 a5 a6 a7=>?_) fun D zs H a1 a2 a3 a4=>?_
 . have hi:i<ys.length:=by rw[hl];exact(bH.mp a2).1
   have hy:=cJ hi;refine turn i x ys[i] σ H k a2 hy a3 a5 fun σ3 H5 b1 b2=>a7 σ3 _ H5 b1 b2 ?_ ?_
   . rw[a6,db];omega
   . rw[a6,take_snoc hy]
 . rw[a4,←hl,cj]at a2;exact done D H a1 a2 a3
end
end L2
namespace HT
open PySem PyProof.Rows
abbrev At:=Int ⊕ Str
def pA:At->At->Bool
 | .inl a,.inl b=>decide (a<b)
 | .inr x,.inr y=>decide (x.cps.toList<y.cps.toList)
 | _,_=>false
def kin:At->At->Prop
 | .inl _,.inl _=>True
 | .inr _,.inr _=>True
 | _,_=>False
def gj:List At->List At->Bool
 | [],[]=>false
 | [],_::_=>true
 | _::_,[]=>false
 | x::xs,y::ys=>if x=y then gj xs ys else pA x y
def fm:List At->List At->Prop
 | x::xs,y::ys=>if x=y then fm xs ys else kin x y
 | _,_=>True
theorem yB(x y:At)(xs ys:List At):gj (x::xs) (y::ys)=if x=y then gj xs ys else pA x y:=rfl
theorem yC(x y:At)(xs ys:List At):fm (x::xs) (y::ys)=if x=y then fm xs ys else kin x y:=rfl
inductive lh:Lw->List At->Prop
 | nil:lh [] []
 | int (n:Int) (t:Tok) {vs:Lw} {as:List At}:lh vs as->lh (.int n t::vs) (.inl n::as)
 | str (x:Str) (t:Tok) {vs:Lw} {as:List At}:lh vs as->lh (.str x t::vs) (.inr x::as)
theorem lh.length{vs:Lw}{as:List At}(h:lh vs as):vs.length=as.length:=by
 induction h with
 | nil=>rfl
 | int _ _ _ ih=>exact fL (· + 1) ih
 | str _ _ _ ih=>exact fL (· + 1) ih
theorem aho(A:Around)(s:Shared)(a:Str)(t:Tok)(c:Str)(u:Tok)(prog:Program)(w:World)(E:VP)(Q:VP)(h:Q (.bool (decide (a.cps.toList<c.cps.toList))) s) :
 wpAny (model prog w) A (richCompare .Lt (.str a t) (.str c u)) Q E s:=
 (PyProof.Rows.lt_str h:wpAny (model prog w) A (compareOp .Lt (.str a t) (.str c u)) Q E s)
section
open PySem.SeqAt
open PySem.AutoSeq1 (wpAny_loadPart')
open PySem.MeetsSeq PySem.MeetsSeq2 PySem.MeetsSeq3
end
section
variable {prog:Program} {w:World} {A:Around} {E:VP} {s:Shared}
end
end HT
namespace L2
open PySem PyProof.Rows
theorem vx{α β:Type}{n:Nat}{f:Nat->Nat->Bool}{g:α->PySem.W.KasT β}{a:α}:∀{t:PySem.W.KasT α},eE n f t=some a->eE n f (t.bind g)=eE n f (g a)
 | .ret b,e=>by cases e;rfl
 | .ask i j k,e=>by
  show(if _ then eE n f ((k (f i j)).bind g) else none)=_;unfold eE at e;split at e
  . rename_i h;rw[ap h];exact vx e
  . cases e
theorem yD{α:Type}{n i j:Nat}{f:Nat->Nat->Bool}{k:Bool->PySem.W.KasT α}(hi:i<n)(hj:j<n)(bn:i≠j):eE n f (.ask i j k)=eE n f (k (f i j)):=by
 show(if _ then _ else _)=_;rw[ap];rw[aE hi,aE hj,aE bn];rfl
structure Pl(n:Nat)(p:Array Nat):Prop where
 sz:p.size=n
 lt:∀i,i<n->p.getD i 0<n
 ne:∀i j,i<n->j<n->i≠j->p.getD i 0≠p.getD j 0
theorem yE{p:Array Nat}{i:Nat}(h:i<p.size):p.getD i 0=p.toList[i]'(by simpa using h):=by
 simp[Array.getD,h]
theorem Pl.of{n:Nat}{p:Array Nat}(h:p.toList.Perm (List.range n)):Pl n p:=by
 have hs:p.size=n:=by
  have:=h.length_eq;simpa using this
 have hd:p.toList.Nodup:=h.nodup_iff.mpr List.nodup_range;refine⟨hs,fun i hi=>?_,fun i j hi hj bn e=>?_⟩
 . rw[yE (by omega)];exact g9.mp (h.mem_iff.mp (xj _))
 . rw[yE (by omega),yE (by omega)]at e;exact bn ((Fq hd).mp e)
def qY(f:Nat->Nat->Bool)(p:Array Nat)(k:Nat):Prop:=∀i j,i<j->j<k->f (p.getD i 0) (p.getD j 0)=true
def HA(f:Nat->Nat->Bool)(p:Array Nat)(k:Nat):Prop:=∀i j,i<j->j<k->f (p.getD j 0) (p.getD i 0)=true
section
variable {n:Nat} {f:Nat->Nat->Bool} (jX:∀i j,i<n->j<n->i≠j->f i j = !f j i) (tr:∀i j k,i<n->j<n->k<n->f i j=true->f j k=true->f i k=true)
include jX tr
theorem HB{p:Array Nat}(hp:Pl n p):∀(u m:Nat),m+u=n->1<=m->qY f p m->∃r,eE n f (PySem.W.kas_asc p u m)=some r/\m<=r/\r<=n/\qY f p r/\(r=n\/f (p.getD r 0) (p.getD (r - 1) 0)=true)
 | 0,m,e,h1,hs=>⟨m,rfl,aH _,by omega,hs,.inl (by omega)⟩
 | u+1,m,e,h1,hs=>by
  unfold PySem.W.kas_asc;have a1:=hp.lt m (by omega);have a2:=hp.lt (m - 1) (by omega);have a3:=hp.ne m (m - 1) (by omega) (by omega) (by omega);rw[yD a1 a2 a3];cases c:f (p.getD m 0) (p.getD (m - 1) 0) with
  | true=>exact⟨m,by rw[ap rfl];rfl,aH _,by omega,hs,.inr c⟩
  | false=>
   rw[ah (by simp)];have c':f (p.getD (m - 1) 0) (p.getD m 0)=true:=by rw[jX _ _ a2 a1 (eM a3),c];rfl
   obtain⟨r,e1,e2,e3,e4,e5⟩:=HB hp u (m+1) (by omega) (by omega) (fun i j gQ hj=>by
    by_cases HC:j<m
    . exact hs i j gQ HC
    . obtain rfl:j=m:=by omega
      by_cases hi:i=j - 1
      . subst hi;exact c'
      . exact tr _ _ _ (hp.lt _ (by omega)) a2 a1 (hs i (j - 1) (by omega) (by omega)) c')
   exact⟨r,e1,by omega,e3,e4,e5⟩
theorem PB{p:Array Nat}(hp:Pl n p):∀(u m:Nat),m+u=n->1<=m->HA f p m->∃r,eE n f (PySem.W.kas_desc u p m 0)=some (p,r,0)/\m<=r/\r<=n/\HA f p r
 | 0,m,e,h1,hs=>⟨m,rfl,aH _,by omega,hs⟩
 | u+1,m,e,h1,hs=>by
  unfold PySem.W.kas_desc;have a1:=hp.lt m (by omega);have a2:=hp.lt (m - 1) (by omega);have a3:=hp.ne m (m - 1) (by omega) (by omega) (by omega);rw[yD a1 a2 a3];cases c:f (p.getD m 0) (p.getD (m - 1) 0) with
  | true=>
   rw[ap rfl,ah (by omega)];obtain⟨r,e1,e2,e3,e4⟩:=PB hp u (m+1) (by omega) (by omega) (fun i j gQ hj=>by
    by_cases HC:j<m
    . exact hs i j gQ HC
    . obtain rfl:j=m:=by omega
      by_cases hi:i=j - 1
      . subst hi;exact c
      . exact tr _ _ _ a1 a2 (hp.lt _ (by omega)) c (hs i (j - 1) (by omega) (by omega)))
   exact⟨r,e1,by omega,e3,e4⟩
  | false=>
   have c':f (p.getD (m - 1) 0) (p.getD m 0)=true:=by rw[jX _ _ a2 a1 (eM a3),c];rfl
   rw[ah (by simp),yD a2 a1 (eM a3),c',ap rfl];exact⟨m,rfl,aH _,by omega,hs⟩
omit jX tr in
theorem PD{p:Array Nat}{r:Nat}(hr:r<=p.size)(k:Nat):(PySem.W.kas_rev p 0 r).getD k 0=if k<r then p.getD (r - 1 - k) 0 else p.getD k 0:=by
 unfold PySem.W.kas_rev;rw[oP,oP,oP,getElem?_mirror_all hr]
 by_cases h:k<r
 . rw[ap ⟨dO _,h⟩,ap h,Bo]
 . rw[ah (by omega),ah h]
omit jX tr in
theorem ahp{p:Array Nat}{r:Nat}(hp:p.toList.Perm (List.range n)):(PySem.W.kas_rev p 0 r).toList.Perm (List.range n):=
 (ash.mp (mirror_perm p 0 r _)).trans hp
theorem ahq{p:Array Nat}(hp:p.toList.Perm (List.range n))(h2:2<=n):∃r q,eE n f (PySem.W.kas_count n p)=some (r,q)/\1<=r/\r<=n/\q.toList.Perm (List.range n)/\qY f q r:=by
 have P:=Pl.of hp;obtain⟨r,e1,e2,e3,e4,e5⟩:=HB jX tr P (n - 1) 1 (by omega) (aH _) (fun i j gQ hj=>by omega);unfold PySem.W.kas_count;rw[vx e1]
 by_cases hr:r=n
 . rw[ap (by simpa using hr)];exact⟨r,p,rfl,e2,e3,hp,e4⟩
 rw[ah (by simpa using hr)]
 by_cases h1:r > 1
 . rw[ap h1,yD (P.lt _ (by omega)) (P.lt _ (by omega)) (P.ne _ _ (by omega) (by omega) (by omega)),e4 0 (r - 1) (by omega) (by omega),ap rfl];exact⟨r,p,rfl,e2,e3,hp,e4⟩
 obtain rfl:r=1:=by omega
 rw[ah h1];have hD:HA f p 2:=fun i j gQ hj=>by
  obtain rfl:j=1:=by omega
  obtain rfl:i=0:=by omega
  exact e5.resolve_left hr
 obtain⟨m,d1,d2,d3,d4⟩:=PB jX tr P (n - 2) 2 (by omega) (by omega) hD;unfold PySem.W.kas_descPart;rw[show n - (1+1)=n - 2 by omega,vx d1];show∃r q,eE n f (if (0:Nat) > 0 then _ else PySem.W.kas_tail3 m n p)=_/\_;rw[ah (mU 0)];unfold PySem.W.kas_tail3;have hq:=ahp (r:=m) hp;obtain⟨k,k1,k2,k3,k4,k5⟩:=HB jX tr (Pl.of hq) (n - m) m (by omega) (by omega) (fun i j gQ hj=>by
  rw[PD (by rw[P.sz];omega),PD (by rw[P.sz];omega),ap (by omega),ap hj];exact d4 _ _ (by omega) (by omega))
 rw[vx k1];exact⟨k,_,rfl,by omega,k3,hq,k4⟩
theorem HD{p:Array Nat}(P:Pl n p){k:Nat}(hk:k<n)(hs:qY f p k):∀(u l r:Nat),l<=r->r<=k->r - l<=u->(∀i,i<l->f (p.getD i 0) (p.getD k 0)=true)->(∀i,r<=i->i<k->f (p.getD k 0) (p.getD i 0)=true) ->
 ∃q,eE n f (PySem.W.kas_place p k u l r)=some q/\q<=k/\(∀i,i<q->f (p.getD i 0) (p.getD k 0)=true)/\(∀i,q<=i->i<k->f (p.getD k 0) (p.getD i 0)=true)
 | 0,l,r,hl,hr,hu,ha,hb=>⟨l,rfl,by omega,ha,fun i h1 h2=>hb i (by omega) h2⟩
 | u+1,l,r,hl,hr,hu,ha,hb=>by
  unfold PySem.W.kas_place
  by_cases h:l >= r
  . rw[ap h];exact⟨l,rfl,by omega,ha,fun i h1 h2=>hb i (by omega) h2⟩
  rw[ah h];have b1:l<=(l+r) / 2:=by omega
  have b2:(l+r) / 2<r:=by omega
  have a1:=P.lt k hk;have a2:=P.lt ((l+r) / 2) (by omega);have a3:=P.ne k ((l+r) / 2) hk (by omega) (by omega);rw[yD a1 a2 a3];cases c:f (p.getD k 0) (p.getD ((l+r) / 2) 0) with
  | true=>
   rw[ap rfl];refine HD P hk hs u l _ b1 (by omega) (by omega) ha fun i h1 h2=>?_
   by_cases hi:i=(l+r) / 2
   . subst hi;exact c
   . exact tr _ _ _ a1 a2 (P.lt i (by omega)) c (hs _ i (by omega) h2)
  | false=>
   rw[ah (by simp)];have c':f (p.getD ((l+r) / 2) 0) (p.getD k 0)=true:=by rw[jX _ _ a2 a1 (eM a3),c];rfl
   refine HD P hk hs u _ r b2 hr (by omega) (fun i h1=>?_) hb
   by_cases hi:i=(l+r) / 2
   . subst hi;exact c'
   . exact tr _ _ _ (P.lt i (by omega)) a2 a1 (hs i _ (by omega) (by omega)) c'
theorem PF:∀(u k:Nat) {p:Array Nat},k+u=n->p.toList.Perm (List.range n)->qY f p k->∃q,eE n f (PySem.W.kas_bin u p k)=some q/\q.toList.Perm (List.range n)/\qY f q n
 | 0,k,p,e,hp,hs=>⟨p,rfl,hp,by rw[←e];exact hs⟩
 | u+1,k,p,e,hp,hs=>by
  have P:=Pl.of hp;unfold PySem.W.kas_bin;obtain⟨l,e1,e2,e3,e4⟩:=HD jX tr P (k:=k) (by omega) hs k 0 k (dO _) (aH _) (by omega) (fun i h=>absurd h (sd _)) (fun i h1 h2=>by omega);rw[vx e1];have hq:(bubble p k (k - l)).toList.Perm (List.range n):=(ash.mp (bubble_perm p k _)).trans hp;have at':∀i,(bubble p k (k - l)).getD i 0=if i=l then p.getD k 0 else if l<i/\i<=k then p.getD (i - 1) 0 else p.getD i 0:=by
   intro i;have z:=getElem?_bubble (xs:=p) (src:=k) (by rw[P.sz];omega) (k - l) (by omega) i;rw[show k - (k - l)=l by omega]at z;rw[oP,z];split
   . rw[oP]
   . split
     . rw[oP]
     . rw[oP]
  refine PF u (k+1) (by omega) hq fun i j gQ hj=>?_;rw[at',at']
  by_cases h1:i=l
  . rw[ap h1,ah (by omega),ap ⟨by omega,by omega⟩];exact e4 _ (by omega) (by omega)
  rw[ah h1]
  by_cases h2:j=l
  . rw[ap h2,ah (by omega)];exact e3 i (by omega)
  rw[ah h2]
  by_cases h3:l<i
  . rw[ap ⟨h3,by omega⟩,ap ⟨by omega,by omega⟩];exact hs _ _ (by omega) (by omega)
  rw[ah (by omega)]
  by_cases h4:l<j
  . rw[ap ⟨h4,by omega⟩];exact hs _ _ (by omega) (by omega)
  rw[ah (by omega)];exact hs _ _ gQ (by omega)
theorem ahr(h2:2<=n):∃p:Array Nat,eE n f (PySem.W.kas_sort n)=some p/\p.toList.Perm (List.range n)/\qY f p n:=by
 obtain⟨r,q,e1,e2,e3,e4,e5⟩:=ahq jX tr (p:=(List.range n).toArray) (by simp) h2;unfold PySem.W.kas_sort;rw[vx e1]
 by_cases h:r<n
 . show∃p,eE n f (if r<n then _ else _)=_/\_;rw[ap h];show∃p,eE n f (PySem.W.kas_bin (n - max r 1) q (max r 1))=_/\_;rw[show max r 1=r by omega];exact PF jX tr (n - r) r (by omega) e4 e5
 . show∃p,eE n f (if r<n then _ else _)=_/\_;rw[ah h];obtain rfl:r=n:=by omega
   exact⟨q,rfl,e4,e5⟩
end
open PySem.Spec
open HT (At gj fm pA kin lh)
def aV:At->V
 | .inl n=>.int n
 | .inr x=>.str x
theorem HE:∀{as:List At} {us:Lw},a8 (as.map aV) us->lh us as
 | [],us,h=>by cases h;exact .nil
 | .inl n::as,us,h=>by
  cases h with
  | cons r t=>
   obtain⟨tk,rfl⟩:=(show∃tk,_=Value.int n tk from r);exact .int n tk (HE t)
 | .inr x::as,us,h=>by
  cases h with
  | cons r t=>
   obtain⟨tk,rfl⟩:=(show∃tk,_=Value.str x tk from r);exact .str x tk (HE t)
theorem ahs(x:At):pA x x=false:=by
 cases x with
 | inl a=>exact aR (by omega)
 | inr a=>exact aR (MK _)
theorem aht{x y z:At}(h1:pA x y=true)(h2:pA y z=true):pA x z=true:=by
 cases x<;>cases y<;>cases z<;>first | exact aE (by have a:=bd h1;have b:=bd h2;omega) | exact aE (List.lt_trans (bd h1) (bd h2)) | cases h1 | cases h2
theorem ahu{x y:At}(h:x≠y)(k:kin x y):pA x y = !pA y x:=by
 cases x with
 | inl a=>
  cases y with
  | inl b=>
   show decide _ = !decide _;have bn:a≠b:=fun z=>h (by rw[z])
   by_cases l:a<b
   . rw[aE l,aR (by omega)];rfl
   . rw[aR l,aE (by omega)];rfl
  | inr b=>exact k.elim
 | inr a=>
  cases y with
  | inl b=>exact k.elim
  | inr b=>exact Pz fun z=>h (by rw[z])
theorem PH:∀x y:List At,x≠y->fm x y->gj x y = !gj y x
 | [],[],h,_=>absurd rfl h
 | [],_::_,_,_=>rfl
 | _::_,[],_,_=>rfl
 | a::x,b::y,h,k=>by
  rw[HT.yB,HT.yB];rw[HT.yC]at k
  by_cases e:a=b
  . subst e;rw[ap rfl,ap rfl];rw[ap rfl]at k;exact PH x y (fun q=>h (by rw[q])) k
  . rw[ah e,ah (fun q=>e q.symm)];rw[ah e]at k;exact ahu e k
theorem PJ:∀x y z:List At,gj x y=true->gj y z=true->gj x z=true
 | [],[],_,h,_=>by cases h
 | [],_::_,[],_,h=>by cases h
 | [],_::_,_::_,_,_=>rfl
 | _::_,[],_,h,_=>by cases h
 | _::_,_::_,[],_,h=>by cases h
 | a::x,b::y,c::z,h1,h2=>by
  rw[HT.yB]at h1 h2 ⊢
  by_cases e1:a=b
  . subst e1;rw[ap rfl]at h1
    by_cases e2:a=c
    . subst e2;rw[ap rfl]at h2 ⊢;exact PJ x y z h1 h2
    . rw[ah e2]at h2 ⊢;exact h2
  . rw[ah e1]at h1
    by_cases e2:b=c
    . subst e2;rw[ah e1];exact h1
    . rw[ah e2]at h2;have l:=aht h1 h2;rw[ah (fun q=>by rw[q,ahs]at l;cases l)];exact l
section
variable {prog:Program} {w:World} {A:Around} {E:VP} {s:Shared}
theorem ahv{b:Bool}{Q:Bool->Shared->Prop}{xs:Lw}{is:List At}(hx:lh xs is):∀{ys:Lw} {js:List At} (i:Nat),lh ys js->fm is js->Q (gj is js) s ->
 PySem.W.KatLex prog w A b (decide (is.length<js.length)) Q (xs.zip ys) i s:=by
 induction hx with
 | nil=>
  intro ys js i hy ok q;have z:∀(c:At) (js:List At),decide (([]:List At).length<(c::js).length)=true:=fun c js=>aE (xi _);cases hy with
  | nil=>exact uK q
  | int c u hy=>exact uK (show Q (decide _) s from by rw[z];exact q)
  | str c u hy=>exact uK (show Q (decide _) s from by rw[z];exact q)
 | int a t hx ih=>
  intro ys js i hy ok q;cases hy with
  | nil=>
   refine uK (show Q (decide _) s from ?_);rw[aR (by rw[jo];exact sd _)];exact q
  | str c u hy=>
   rw[HT.yC,ah (by intro z;cases z)]at ok;exact ok.elim
  | int c u hy=>
   rename_i xs is ys js;rw[HT.yB]at q;rw[HT.yC]at ok;refine UR (Ut (UU (fun e=>UV ?_) fun e=>UW ?_))
   . have e:=eq_of_beq e;rw[ap (by rw[e])]at q ok;have z:decide ((Sum.inl a::is).length<(Sum.inl c::js).length)=decide (is.length<js.length):=by
      rw[bF,bF];exact Bl.mpr UX
     rw[z];exact ih (i+1) hy ok q
   . have e:(Sum.inl a:At)≠Sum.inl c:=fun z=>by
      cases z;rw[rZ]at e;cases e
     rw[ah e]at q;cases hb:(b && i == 0) with
     | true=>exact oneLt_int q
     | false=>exact UY _ _ (HT.GA _ _ _ _ _ _ _ _ _ _ q)
 | str a t hx ih=>
  intro ys js i hy ok q;cases hy with
  | nil=>
   refine uK (show Q (decide _) s from ?_);rw[aR (by rw[jo];exact sd _)];exact q
  | int c u hy=>
   rw[HT.yC,ah (by intro z;cases z)]at ok;exact ok.elim
  | str c u hy=>
   rename_i xs is ys js;rw[HT.yB]at q;rw[HT.yC]at ok;refine UR (wpAny_eqBool_str (UU (fun e=>UV ?_) fun e=>UW ?_))
   . have e:=bd e;rw[ap (by rw[e])]at q ok;have z:decide ((Sum.inr a::is).length<(Sum.inr c::js).length)=decide (is.length<js.length):=by
      rw[bF,bF];exact Bl.mpr UX
     rw[z];exact ih (i+1) hy ok q
   . have e:(Sum.inr a:At)≠Sum.inr c:=fun z=>by
      cases z;rw[aE rfl]at e;cases e
     rw[ah e]at q;cases hb:(b && i == 0) with
     | true=>exact oneLt_str q
     | false=>exact UY _ _ (HT.aho _ _ _ _ _ _ _ _ _ _ q)
def lX(h:Heap)(v:Value)(as:List At):Prop:=∃a o xs n,v = .ref a/\h.get? a=some o/\o.cls = .type "tuple"/\o.data = .seq xs n/\lh xs.toList as/\∃x r,as = .inr x::r
theorem ahw{b:Bool}{Q:Bool->Shared->Prop}{x y:Value}{is js:List At}(hx:lX s.heap x is)(hy:lX s.heap y js)(ok:fm is js)(q:Q (gj is js) s):wpAny (model prog w) A (keyLt' (tuples' b) x y) Q E s:=by
 obtain⟨ax,ox,xs,n,rfl,x1,x2,x3,x4,_⟩:=hx;obtain⟨ay,oy,ys,k,rfl,y1,y2,y3,y4,_⟩:=hy;refine PySem.W.kat_lt x1 x3 y1 y3 ?_;have e1:=x4.length;have e2:=y4.length;have z:decide (xs.size<ys.size)=decide (is.length<js.length):=by
  rw[←e1,←e2,dm,dm]
 rw[z];exact ahv x4 0 y4 ok q
theorem lX.keep{h h':Heap}{v:Value}{is:List At}(t:lX h v is)(k:∀b o,h.get? b=some o->o.cls = .type "tuple"->h'.get? b=some o):lX h' v is:=by
 obtain⟨a,o,xs,n,e,h1,h2,h3,h4⟩:=t;exact⟨a,o,xs,n,e,k a o h1 h2,h2,h3,h4⟩
theorem ahx{h:Heap}:∀{vs:Lw} {ks:List (List At)},Paired (lX h) vs ks->∃fs:Lw,PySem.W.KatTups h vs fs/\fs.length=vs.length/\∀v∈fs,∃(i:Str) (t:Tok),v = .str i t:=by
 intro vs ks p
 induction p with
 | nil=>exact⟨[],trivial,rfl,fun _ h=>nomatch h⟩
 | cons x p ih=>
  obtain⟨fs,h1,h2,h3⟩:=ih;obtain⟨a,o,xs,n,rfl,x1,x2,x3,x4,y,r,rfl⟩:=x;cases hl:xs.toList with
  | nil=>
   rw[hl]at x4;cases x4
  | cons f r=>
   rw[hl]at x4;cases x4 with
   | str i t z=>
    refine⟨.str y t::fs,PySem.W.KatTups.cons x1 x2 x3 (by rw[←mX,hl];rfl) h1,by rw[bF,bF,h2],fun v hv=>?_⟩
    rcases bw.mp hv with rfl | hv
    . exact⟨y,t,rfl⟩
    . exact h3 v hv
def fA(ks:List (List At))(i j:Nat):Bool:=gj (ks.getD i []) (ks.getD j [])
theorem ahy{ks:List (List At)}(nd:ks.Nodup){i j:Nat}(hi:i<ks.length)(hj:j<ks.length)(h:i≠j):ks.getD i []≠ks.getD j []:=by
 rw[hU,hU,cJ hi,cJ hj];exact fun z=>h ((Fq nd).mp z)
theorem PL{ks:List (List At)}{i:Nat}(hi:i<ks.length):ks.getD i []∈ks:=by
 rw[hU,cJ hi];exact xj hi
theorem ahz{f:Nat->Nat->Bool}{p:Array Nat}(h:qY f p p.size):p.toList.Pairwise fun i j=>f i j=true:=by
 rw[List.pairwise_iff_getElem];intro i j hi hj gQ;have lc:i<p.size:=by simpa using hi
 have jz:j<p.size:=by simpa using hj
 have:=h i j gQ jz;rw[yE lc,yE jz]at this;exact this
theorem ahA{a:Addr}{vs:Lw}{ks:List (List At)}{n:Nat}{P:PySem.Fin->Shared->Prop}(ho:s.heap.get? a=some (seqObj "list" vs.toArray n))(hk:Paired (lX s.heap) vs ks)(h4:vs.length<64)(nd:ks.Nodup)(ok:∀x∈ks,∀y∈ks,fm x y)
 (h:∀p:List Nat,p.Perm (List.range vs.length)->p.Pairwise (fun i j=>fA ks i j=true)->P (.done (.ret .none)) { s with heap:=sortedHeap s.heap a vs (p.map fun i=>vs.getD i Value.none).toArray }) :
 wpAny (model prog w) A (Builtin.«list.sort» ⟨[.ref a],[]⟩) P E s:=by
 have hla:a<s.heap.objs.size:=aZ ho;have sU:vs.length=ks.length:=sT hk;rw[list_sort_plain];obtain⟨ep,yg⟩:∃ep,(s.heap.update a (Obj.mapSeq fun _=>(#[]:Av))).get? a=some (seqObj "list" #[] ep):=⟨_,MD ho (fun _=>#[])⟩;refine ac (listItems_at ho rfl ?_);refine ac (Bm ho rfl ?_);refine ac (Bn yg rfl ?_);refine ac (UZ ?_);refine ac (xh ?_);refine gH ?_;have jY:(((s.heap.update a (Obj.mapSeq fun _=>(#[]:Av))).push (seqObj "tuple" vs.toArray 0)).push (seqObj "list" #[] 0)).get? a=some (seqObj "list" #[] ep):=
  bq _ (bq _ yg)
 have kp:∀b o,s.heap.get? b=some o->o.cls = .type "tuple"->(((s.heap.update a (Obj.mapSeq fun _=>(#[]:Av))).push (seqObj "tuple" vs.toArray 0)).push (seqObj "list" #[] 0)).get? b=some o:=fun b o e c=>by
  have hb:b≠a:=fun z=>by
   rw[z,ho]at e;cases e;exact absurd (show Value.type "list" = Value.type "tuple" from c) (by decide)
  refine bq _ (bq _ ?_);rw[ME _ _ _ _ hb];exact e
 have k9:Paired (lX (((s.heap.update a (Obj.mapSeq fun _=>(#[]:Av))).push (seqObj "tuple" vs.toArray 0)).push (seqObj "list" #[] 0))) vs ks:=aM hk fun _ _ t=>t.keep kp;have e7:∀out:Av,sortedHeap s.heap a vs out=(((s.heap.update a (Obj.mapSeq fun _=>(#[]:Av))).push (seqObj "tuple" vs.toArray 0)).push (seqObj "list" #[] 0)).update a (Obj.mapSeq fun _=>out):=fun _=>rfl;show wpAny (model prog w) A _ P E { s with heap:=(((s.heap.update a (Obj.mapSeq fun _=>(#[]:Av))).push (seqObj "tuple" vs.toArray 0)).push (seqObj "list" #[] 0)) };simp only[e7]at h;generalize ((s.heap.update a (Obj.mapSeq fun _=>(#[]:Av))).push (seqObj "tuple" vs.toArray 0)).push (seqObj "list" #[] 0)=h6 at jY k9 h ⊢;dsimp only
 by_cases h2:vs.toArray.size<2
 . have jy:vs.length<2:=h2;rw[ap h2,ap h2];refine ac (aq ?_);rw[StateT.run_pure];refine ac (aq ?_);dsimp only;have eo:(arrOf (SortSt.mk' general' (vs.toArray.zip vs.toArray) #[] 7 none)).map (·.2)=vs.toArray:=by
    show(vs.toArray.zip vs.toArray).map (·.2)=vs.toArray;apply U0.mp;rw[Array.toList_map,Array.toList_zip];exact List.map_snd_zip (aH _)
   rw[eo];refine ac (Bn jY rfl ?_);refine ac (Bm jY rfl ?_ (hsz2:=by show vs.length<=_;rw[oM];omega));simp only[MF,ix,kh];have q:=h (List.range vs.length) (U1 _) (by
    have:vs.length=0\/vs.length=1:=by omega
    rcases this with z | z<;>rw[z]<;>simp[MI])
   rw[OF]at q;exact aq q
 . have jy:2<=vs.length:=Ml h2;rw[ah h2,ah h2];obtain⟨fs,t1,t2,t3⟩:=ahx k9;refine ac (PySem.W.kat_kind (T:=.type "str") t1 (by omega) (fun v hv=>?_) rfl ?_)
   . obtain⟨i,t,rfl⟩:=t3 v hv;exact .of_pure rfl
   have PM:∀i j,i<vs.length->j<vs.length->fm (ks.getD i []) (ks.getD j []):=fun i j hi hj=>ok _ (PL (sU▸hi)) _ (PL (sU▸hj));obtain⟨p,hr,hp,sV⟩:=ahr (n:=vs.length) (f:=fA ks) (fun i j hi hj bn=>PH _ _ (ahy nd (sU▸hi) (sU▸hj) bn) (PM i j hi hj)) (fun i j k _ _ _=>PJ _ _ _) jy;have Cb:p.size=vs.length:=by
    have:=hp.length_eq;rw[mY,dm]at this;exact this
   have run:(PySem.W.kas_sort vs.length).kasWp (PySem.W.kas_ask prog w A (tuples' (Value.type "str" != Value.type "tuple")) vs) (fun p' s'=>p'=p/\s' = { s with heap:=h6 }) { s with heap:=h6 }:=
    G3 (n:=vs.length) (f:=fA ks) (fun i j C hi hj _ c=>ahw (yf k9 i hi _ _) (yf k9 j hj _ _) (PM i j hi hj) c) _ hr ⟨rfl,rfl⟩
   refine ac (dN (PySem.W.kat_run (Q:=fun dq s'=>arrOf dq=p.map (PySem.W.kas_item (vs.toArray.zip vs.toArray))/\failedOf dq=none/\s' = { s with heap:=h6 }) (G:=fun p' s'=>p'=p/\s' = { s with heap:=h6 }) rfl jy (by omega)
    (fun p' dq s' a1 a2 a3 a4=>⟨a4.1▸a2,a3,a4.2⟩) run) ?_ fun _ _ e=>e)
   rintro⟨⟨⟩,dq⟩ s' ⟨G4,hf,rfl⟩;dsimp only;rw[PySem.W.kat_snds rfl G4];refine ac (Bn jY rfl ?_);refine ac (Bm jY rfl ?_ (hsz2:=by show(p.toList.map _).length<=_;rw[au,dm,Cb,oM];omega));rw[hf];simp only[MF,ix,kh];exact aq (h p.toList hp (ahz (by rw[Cb];exact sV)))
theorem ahB{r:Addr}{Q:VP}(sM:wpAny (model prog w) A.in1 (collect (.ref r)) (fun us s'=>∃(ks:List (List At)) (h':Heap) (tk:Nat),s' = { s with heap:=h',toks:=tk }/\Paired (lX h') us ks/\us.length<64/\ks.Nodup/\(∀x∈ks,∀y∈ks,fm x y) /\
 ∀(h2:Heap) (p:List Nat) (e:Nat),(∀b o,h'.get? b=some o->h2.get? b=some o)->h2.get? h'.objs.size=some (seqObj "list" (p.map fun i=>us.getD i Value.none).toArray e)->p.Perm (List.range us.length)->p.Pairwise (fun i j=>fA ks i j=true)->Q (.ref h'.objs.size) { s with heap:=h2,toks:=tk }) E s) :
 wpAny (model prog w) A (call (.builtin "sorted") [.ref r]) Q E s:=by
 refine Mn Mo Mp Mq (Mr (.ref r)) ?_;unfold Builtin.«sorted»;refine ac (m:=checkCount "sorted" 1 1 _) (aq (ac (dN sM (fun us s' z=>?_) fun _ _ e=>e)));obtain⟨ks,h',tk,rfl,hT,h4,nd,ok,fin⟩:=z;refine ac (xh ?_ (by rw[oM];omega));have iA:(h'.push (seqObj "list" us.toArray 0)).get? h'.objs.size=some (seqObj "list" us.toArray 0):=da _ rfl;show wpAny _ _ _ _ _ { s with heap:=h'.push (seqObj "list" us.toArray 0),toks:=tk };have G5:Paired (lX (h'.push (seqObj "list" us.toArray 0))) us ks:=aM hT fun _ _ t=>t.keep fun b o e _=>bq _ e;refine ac (gH (kO Ms ⟨_,iA,rfl⟩ Mt (ahA iA G5 h4 nd ok fun p a1 a2=>⟨_,rfl,?_⟩) (Mu _)));obtain⟨e,he⟩:=Mw (vs:=us) (out:=(p.map fun i=>us.getD i Value.none).toArray) iA;refine aq ⟨_,rfl,fin _ p e (fun b o q=>?_) he a1 a2⟩;have hb:=aZ q;rw[Mx (bE hb) (by rw[oN];exact FI hb)];exact bq _ q
end
def nI(H:Hp)(ys:Lv)(ks:List (List At)):Prop:=Paired (fun(y:V) (k:List At)=>∃t,y = .ref t/\H t=some (.tup (k.map aV))/\∃x r,k = .inr x::r) ys ks
section
variable {X:Cx}
theorem Inv.tupA{pins:Po}{σ:St}{H:Hp}{s:Shared}(I:Inv X pins σ H s){ys:Lv}{ks:List (List At)}{its:Lw}(h:nI H ys ks)(r:a8 ys its):Paired (lX s.heap) its ks:=
 OI (R:=RelV) (fun y v k rv z=>by
  obtain⟨t,rfl,hs,hk⟩:=z;cases rv;obtain⟨is,r1,p1,_⟩:=I.tuple (aw.of (K:=X.K) hs);obtain⟨o,e1,c1,n,d1⟩:=p1;exact⟨t,o,is.toArray,n,rfl,e1,c1,d1,HE r1,hk⟩) r h
theorem ahC:gt X (.builtin "sorted") (fun xs H Q=>∃q ys ks,xs = [.ref q]/\af X.K H q ys/\nI H ys ks/\ys.length<64/\ks.Nodup/\(∀x∈ks,∀y∈ks,fm x y)/\∀aX jL,nI H aX jL->jL.Perm ks->jL.Pairwise (fun x y=>gj x y=true)->iD H (.lst aX) Q):=by
 intro pins s σ H xs us Q I r h;obtain⟨q,ys,ks,rfl,hq,ht,h4,nd,ok,fin⟩:=h;obtain⟨u,rfl,ru⟩:=vals1 r;cases ru;obtain⟨its,rv,hl,hz⟩:=I.list hq;have hlen:=sT rv;have yF:=sT ht;have tp:=I.tupA ht rv;have kp:∀b o,s.heap.get? b=some o->((s.heap.push (seqObj "list" #[] 0)).update s.heap.objs.size (Obj.mapSeq (·++its.toArray))).get? b=some o:=fun b o e=>by
  rw[ME _ _ _ _ (bE (aZ e))];exact bq _ e
 refine ahB (collect_list hl.isList ?_ (kz (by omega)));generalize (s.heap.push (seqObj "list" #[] 0)).update s.heap.objs.size (Obj.mapSeq (·++its.toArray))=h' at kp ⊢;have I':Inv X pins σ H { s with heap:=h',toks:=s.toks }:=I.kept kp;refine⟨ks,h',s.toks,rfl,aM tp fun _ _ t=>t.keep fun b o e _=>kp b o e,by omega,nd,ok,fun h2 p e k2 he hp ha=>?_⟩;have hm:∀i∈p,i<ys.length:=fun i hi=>by
  have:=g9.mp (hp.mem_iff.mp hi);omega
 have cB:=hp.length_eq;rw[mY]at cB;refine⟨.ref h'.objs.size,_,I'.laid (s:={ s with heap:=h',toks:=s.toks }) (t':=s.toks) (o:=.lst (p.map fun i=>ys.getD i .non)) k2 (aH _) ⟨by rw[au];exact kz (by omega),_,e,yh rv _ _ p hm,he⟩,rfl,?_⟩;exact(fin _ (p.map fun i=>ks.getD i []) (yh ht _ _ p hm) (OH (by rw[←yF,hlen];exact hp)) (xm.mpr ha)).at _ (I'.hok.fresh (aH _))
end
end L2
namespace HT
open PySem PyProof.Rows
theorem ahD(A:Around)(s:Shared)(a:Int)(t:Tok)(c:Int)(u:Tok)(prog:Program)(w:World)(E:VP)(Q:VP)(h:Q (.bool (decide (a<=c))) s) :
 wpAny (model prog w) A (richCompare .LtE (.int a t) (.int c u)) Q E s:=
 (PyProof.Rows.le_int h:wpAny (model prog w) A (compareOp .LtE (.int a t) (.int c u)) Q E s)
section
open PySem.SeqAt
open PySem.AutoSeq1 (wpAny_loadPart')
open PySem.MeetsSeq PySem.MeetsSeq2 PySem.MeetsSeq3
theorem ahE(l b:Addr)(items br:Av)(n n2:Nat)(dd cW:Oa)(sl cu:Array (Option Value))(ns ms:List Int)(hi:IntsAre items.toList ns)(hj:IntsAre br.toList ms) :
 Meets (Builtin.«tuple.__le__» ⟨[.ref l,.ref b],[]⟩)
  (fun _ R s=>s.heap.get? l=some { cls:=.type "tuple",dict:=dd,data:=.seq items n,slots:=sl }/\s.heap.get? b=some { cls:=.type "tuple",dict:=cW,data:=.seq br n2,slots:=cu } /\
   R (.ok (.ret (.bool (!lexLt ms ns)))) s):=
 .of_wp fun prog w A R s h=>by
  obtain⟨hp,g,d,tk,os⟩:=s;obtain⟨hl,hb,h⟩:=h;have f2:=Mc;have z1:items.size=ns.length:=by rw[←hi.length];simp
  have z2:br.size=ms.length:=by rw[←hj.length];simp
  wp_walk using wpAny_loadPart' hl,wpAny_loadPart' hb,qx _ (fun rest b s'=>b.1=none/\s'=⟨hp,g,d,tk,os⟩/\∃(vs ws:Lw) (gv gw:List Int),rest=vs.zip ws /\
   IntsAre vs gv/\IntsAre ws gw/\gv.length+br.size=gw.length+items.size/\R (.ok (.ret (.bool (!lexLt gw gv)))) ⟨hp,g,d,tk,os⟩) _
  case turn=>
   rintro⟨y,x⟩ rest b s' ⟨fc,rfl,vs,ws,gv,gw,hz,lO,gi,hlen,hR⟩;cases lO with
   | nil=>rw[Me]at hz;cases hz
   | cons a t xG=>
    cases gi with
    | nil=>rw[Mf]at hz;cases hz
    | cons c u xH=>
     rw[oK]at hz;injection hz with lQ no
     injection lQ with hy hx
     subst hy hx;rw[o4]at hR;simp only[bF]at hlen;obtain⟨e,he,qM⟩:=xF A.in1 ⟨hp,g,d,tk,os⟩ a t c u;refine ac (he prog w _ _ ?_);cases e with
     | true=>
      rw[ap (qM.mp rfl).symm]at hR
      wp_walk
      exact⟨rfl,rfl,_,_,_,_,no,xG,xH,by omega,hR⟩
     | false=>
      have bn:a≠c:=fun q=>absurd (qM.mpr q) bV;rw[ah (eM bn)]at hR;have o5:=ahD A.in1 ⟨hp,g,d,tk,os⟩ a t c u prog w;have eb:(!decide (c<a))=decide (a<=c):=by
       by_cases q:c<a
       . rw[aE q,aR (by omega)];rfl
       . rw[aR q,aE (by omega)];rfl
      rw[eb]at hR
      wp_walk using o5
      exact⟨_,rfl,by simpa using hR⟩
  case fin=>
   rintro⟨b1,b2⟩ s' ⟨fc,rfl,vs,ws,gv,gw,hz,lO,gi,hlen,hR⟩;simp only at fc;subst fc;have hv:(!lexLt gw gv)=decide (items.size<=br.size):=by
    cases lO with
    | nil=>
     cases gi with
     | nil=>
      simp only[jo]at hlen;rw[Gx];exact(aE (by omega)).symm
     | cons c u hw=>
      simp only[jo,bF]at hlen;rw[Gz];exact(aE (by omega)).symm
    | cons a t hv=>
     cases gi with
     | nil=>
      simp only[jo,bF]at hlen;rw[Gy];exact(aR (by omega)).symm
     | cons c u hw=>
      rw[oK]at hz;cases hz
   rw[hv]at hR
   wp_walk
   exact⟨_,rfl,by simpa [Builtin.Tuple.tupleCompareSizes]using hR⟩
  case h=>
   exact⟨rfl,rfl,items.toList,br.toList,ns,ms,rfl,hi,hj,by omega,h⟩
end
section
variable {prog:Program} {w:World} {A:Around} {E:VP} {s:Shared}
theorem ahF{l b:Addr}{items br:Av}{ns ms:List Int}{Q:VP}(hl:IsTup s.heap l items)(hb:IsTup s.heap b br)(hi:IntsAre items.toList ns)(hj:IntsAre br.toList ms)
 (hu:A.units<cLine) (h:Q (.bool (!lexLt ms ns)) s):wpAny (model prog w) A (compareOp .LtE (.ref l) (.ref b)) Q E s:=by
 obtain⟨⟨cls,dd,data,sl⟩,ho,hc,n,hd⟩:=id hl;obtain⟨⟨xI,cW,data2,cu⟩,gx,cX,n2,hd2⟩:=id hb;simp only at hc hd cX hd2;subst hc hd cX hd2;exact FC (op:=.LtE) ⟨_,ho,rfl⟩ ⟨_,gx,rfl⟩ PySem.F.slot_tuple_le PySem.F.entry_tuple_le (PySem.F.args_tuple_le_2 _ _) (ahE l b items br n n2 dd cW sl cu ns ms hi hj)
  ⟨ho,gx,show Value.bool (!lexLt ms ns)≠Value.notImplemented/\Q (.bool (!lexLt ms ns)) s from ⟨(fun x=>nomatch x),h⟩⟩ hu
end
end HT
namespace L2
open PySem PySem.Spec PyProof.Rows
section
variable {X:Cx}
def ahG(K:Fg):R2:=fun x y H Q=>∃a b ns ms,x = .ref a/\y = .ref b/\aw K H a (ns.map V.int)/\aw K H b (ms.map V.int)/\Q (.bl (!HT.lexLt ms ns)) H
theorem ahH(hu:X.A.units<cLine):bK X (compareOp .LtE) (ahG X.K):=by
 intro pins s σ H x y v u Q I rx ry h;obtain⟨a,b,ns,ms,rfl,rfl,ha,hb,q⟩:=h;cases rx;cases ry;obtain⟨its,r,p,_⟩:=I.tuple ha;obtain⟨i4,r2,p2,_⟩:=I.tuple hb;exact HT.ahF p p2 (by simpa using intsAre_of r) (by simpa using intsAre_of r2) hu ⟨.bl _,H,I,rfl,q⟩
theorem ahI:bK X (compareOp .Gt) (fun x y H Q=>∃i j,x = .str i/\y = .str j/\Q (.bl (decide (j.cps.toList<i.cps.toList))) H):=by
 intro pins s σ H x y v u Q I rx ry h;obtain⟨i,j,rfl,rfl,q⟩:=h;obtain⟨t,rfl⟩:=rx;obtain⟨t',rfl⟩:=ry;exact PySem.P.gt_str (cA I q rfl)
theorem PN{a:Str}(h:ie a):∀(k:Nat) (b:Array Nat),(∀c∈b.toList,c<0x110000)->ie ⟨(List.replicate k a.cps).foldl (· ++ ·) b⟩/\Str.length ⟨(List.replicate k a.cps).foldl (· ++ ·) b⟩=b.size+k * a.length
 | 0,b,hb=>⟨xQ.mpr hb,by show b.size=_;omega⟩
 | k+1,b,hb=>by
  rw[List.replicate_succ,U4];obtain⟨e1,e2⟩:=PN h k (b++a.cps) (fun c hc=>by
   rw[Array.toList_append]at hc
   rcases eg.mp hc with z | z
   . exact hb c z
   . exact xQ.mp h c z)
  refine⟨e1,e2.trans ?_⟩;have:a.length=a.cps.size:=rfl;rw[Array.size_append,MM];omega
theorem PP:bK X (binaryOp .Mult) (fun x y H Q=>∃(a:Str) (n:Int),x = .str a/\y = .int n/\0<=n/\n<=9/\a.length<=9/\ie a/\∀z:Str,ie z->z.length<=n.toNat * a.length->Q (.str z) H):=by
 intro pins s σ H x y v u Q I rx ry h;obtain⟨a,n,rfl,rfl,h0,h9,hl,ok,q⟩:=h;obtain⟨t,rfl⟩:=rx;obtain⟨t',rfl⟩:=ry;have b1:n.toNat * a.length<=81:=Nat.mul_le_mul (show n.toNat<=9 by omega) hl;refine PySem.P.mul_str (by rw[aR (by omega),aR (by omega)];rfl) (fun h1 h2 h3=>?_) (fun h1 h2=>?_) ?_
 . have:(9:Int)<=(2 ^ 63 - 1) / n:=(Int.le_ediv_iff_mul_le (by omega)).mpr (by omega);omega
 . exact aR (by rw[Nat.mul_comm];exact FS.mpr (bS b1 (by decide)))
 . by_cases h1:n<1
   . rw[ap h1];exact⟨by decide,.str Str.empty,H,I.tok _,⟨_,rfl⟩,q _ (by decide +kernel) (dO _)⟩
   rw[ah h1]
   by_cases h2:(n == 1 || a.length == 0)=true
   . rw[ap h2];refine⟨.str a,H,I,⟨_,rfl⟩,q _ ok ?_⟩;rw[Bool.or_eq_true]at h2
     rcases h2 with h2 | h2
     . have:=eq_of_beq h2;subst this;exact Fw (Nat.one_mul _).symm
     . have:=eq_of_beq h2;omega
   . rw[ah h2];obtain⟨e1,e2⟩:=PN ok n.toNat #[] (fun c hc=>by simp at hc);refine⟨?_,.str _,H,I.tok _,⟨_,rfl⟩,q _ e1 (by rw[e2];simp)⟩;have sz:(#[]:Array Nat).size=0:=rfl;exact kz (by rw[sz]at e2;omega)
end
def vy(h:Heap)(d:Addr)(es:Array DictEntry)(ep:Nat):Prop:=∃o,h.get? d=some o/\o.cls = .type "dict"/\o.data = .dict es ep
theorem vy.typeIs{s:Shared}{d:Addr}{es:Array DictEntry}{ep:Nat}(x:vy s.heap d es ep):s.TypeIs (.ref d) "dict":=x.elim fun o ahJ=>ahJ.elim fun e ahK=>ahK.elim fun c _=>⟨o,e,c⟩
section
variable {prog:Program} {w:World} {A:Around} {E:VP} {s:Shared} {d it:Addr} {es:Array DictEntry} {ep i:Nat}
theorem ahL{Q:VP}(hd:(d == sysModules)=false)(hm:vy s.heap d es ep)(hQ:Q (.ref s.heap.objs.size) { s with heap:=s.heap.push { cls:=.type "dict_keyiterator",data:=.fields #[.ref d,.int 0 0,.int es.size 0,.int ep 0] } }) :
 wpAny (model prog w) A (pyIter (.ref d)) Q E s:=by
 obtain⟨o,ho,hc,sQ⟩:=id hm;refine Mz hm.typeIs asi (kO asi hm.typeIs PySem.F.entry_dict_iter ?_ (PySem.F.args_dict_iter_1 _));unfold Builtin.«dict.__iter__»;refine ac ?_;unfold Builtin.Dict.dictSlotNone;refine ac (wpAny_notOrdered_dict hm.typeIs ?_);show wpAny _ _ (pure (Value.ref d)) _ _ s;refine aq ?_;show wpAny _ _ (Builtin.Dict.showsAll d >>= _) _ _ s;unfold Builtin.Dict.showsAll;rw[ah (by rw[hd];exact bV)];refine ac (aq (ac (Bv ho sQ (ac (FQ ho sQ ?_)))));exact ac (r6 (aq ⟨_,rfl,"dict_keyiterator",_,⟨_,da _ rfl,rfl⟩,FT.lookup,hQ⟩))
theorem ahM{Q:Option Value->Shared->Prop}(hit:s.heap.IsKeyIter it d i es.size ep)(hm:vy s.heap d es ep)(hx:i<es.size)(hQ:∀h',h'.IsKeyIter it d (i+1) es.size ep->Heap.SameBut it s.heap h'->Q (some es[i].key) { s with heap:=h' }) :
 wpAny (model prog w) A (pyNext (.ref it)) Q E s:=by
 obtain⟨o,ho,hc,hd⟩:=id hit;obtain⟨od,gA,iY,yG⟩:=id hm;unfold pyNext;refine ac (U7 (U8 (name:=Str.ofString "__next__") hit.typeIs FT (kO FT hit.typeIs asj ?_ (asm _))));refine ac (aq (ac (ac ?_)))
 first | refine ac (MN hit.typeIs (aq ?_)) | refine ac (MO hit.typeIs (aq ?_));skip
 refine ac (U9 ho hd ?_);have HF:Builtin.Dict_items.ownsTuple "dict_keyiterator" = false:=by decide
 simp only[HF,kh,ix];show wpAny _ _ (if (Value.ref d == Value.none)=true then _ else _) _ _ s;rw[ah (show ¬((Value.ref d == Value.none)=true) from bV)];refine ac (aq (ac (Bv gA yG ?_)));rw[ah (by simp)];refine ac (aq (ac (FQ gA yG ?_)));rw[ah (by simp)];refine aq ?_;simp only[show ¬((i:Int)<0) from by omega,ix,Bi,oQ hx];refine ac ?_
 first | refine ac (MN hit.typeIs (aq ?_)) | refine ac (MO hit.typeIs (aq ?_));skip
 refine ac (asn hit.typeIs ?_);show wpAny _ _ (setField (.ref it) 1 (rawInt ((i:Int)+1)) >>= _) _ _ s;refine ac (FO ho hd (by simp) ?_);have PQ:(s.heap.update it (Obj.mapFields (·.setIfInBounds 1 (rawInt ((i:Int)+1))))).IsKeyIter it d (i+1) es.size ep:=
  ⟨_,Bq _ ho (U5 (Bt hd _)),(U6 ..).trans hc,by rw[Bt hd];simp[rawInt]⟩
 refine ac (gH (ac (asn (s:={ s with heap:=s.heap.update it (Obj.mapFields (·.setIfInBounds 1 (rawInt ((i:Int)+1)))) }) PQ.typeIs ?_)));show wpAny _ _ (pure es[i].key) _ _ _;exact aq (aq ⟨_,rfl,aq (hQ _ PQ (kQ ..))⟩)
theorem ahN{Q:Option Value->Shared->Prop}(hh:A.handled=none)(hit:s.heap.IsKeyIter it d i es.size ep)(hm:vy s.heap d es ep)(j0:es.size<=i)(hQ:∀h',Heap.ExtBut it s.heap h'->Q none { s with heap:=h' }):wpAny (model prog w) A (pyNext (.ref it)) Q E s:=by
 obtain⟨o,ho,hc,hd⟩:=id hit;obtain⟨od,gA,iY,yG⟩:=id hm;unfold pyNext;refine ac (U7 (U8 (name:=Str.ofString "__next__") hit.typeIs FT (kO FT hit.typeIs asj ?_ (asm _))));refine ac (aq (ac (ac ?_)))
 first | refine ac (MN hit.typeIs (aq ?_)) | refine ac (MO hit.typeIs (aq ?_));skip
 refine ac (U9 ho hd ?_);have HF:Builtin.Dict_items.ownsTuple "dict_keyiterator" = false:=by decide
 simp only[HF,kh,ix];show wpAny _ _ (if (Value.ref d == Value.none)=true then _ else _) _ _ s;rw[ah (show ¬((Value.ref d == Value.none)=true) from bV)];refine ac (aq (ac (Bv gA yG ?_)));rw[ah (by simp)];refine ac (aq (ac (FQ gA yG ?_)));rw[ah (by simp)];refine aq ?_;simp only[show ¬((i:Int)<0) from by omega,ix,Bi,FL j0];refine ac ?_
 first | refine ac (MN hit.typeIs (aq ?_)) | refine ac (MO hit.typeIs (aq ?_));skip
 show wpAny _ _ (setField (.ref it) 0 .none >>= _) _ _ s;refine ac (FO ho hd (by simp) ?_);show wpAny _ _ (newExc (.type "StopIteration") [] >>= _) _ _ _;refine ac ?_;simp only[newExc,newTuple];refine ac (r6 ?_ (by size_fits));refine ac (m:=firstArgMember _ _) (MJ (a:=Value.none) (by first | rfl | (simp only[firstArgMember];rfl)) ?_);refine r6 ?_ (by size_fits);simp only[raiseNew];refine ac (wpAny_handled ?_);rw[show A.in1.handled=none from hh];refine ac (aq (wpAny_throw ?_));refine ac (mT (T:="StopIteration") (b:=true) ⟨_,da _ rfl,rfl⟩ isSubtype_stop (aq (hQ _ (((kQ ..).extBut.push _).push _))))
end
section
variable {X:Cx} {pins:Po} {σ:St} {H:Hp} {s:Shared}
theorem Inv.freezeT{d:Addr}{kvs:List (List NI×V)}{o:Obj}(I:Inv X pins σ H s)(e:H d=some (.dT kvs))(ho:s.heap.get? d=some o):Inv X pins σ (aj H d (.frz o (.dT kvs))) s:=by
 have ne:∀b u,H b=some u->(∀ks,u≠.dT ks)->b≠d:=fun b u q hu z=>by rw[z,e]at q;cases q;exact hu _ rfl
 refine I.rehp (fun b q=>?_) (fun b xs q=>?_) (fun b o' u q=>?_) (fun b ps q=>?_) fun b u q=>?_
 . rw[aL (fun z=>by rw[z,e]at q;cases q)];exact q
 . rw[aL (ne b _ q (by intro ks z;cases z))];exact q
 . have q:=I.base.frzs b o' u q;rw[aL (ne b _ q (by intro ks z;cases z))];exact q
 . rw[aL (ne b _ q (by intro ks z;cases z))];exact q
 . have up:∀{c:Addr} {w:HO},H c=some w->(∀ks,w≠.dT ks)->aj H d (.frz o (.dT kvs)) c=some w:=fun {c w} hc hw=>by rw[aL (ne c _ hc hw)];exact hc
   by_cases z:b=d
   . subst z;rw[aP]at q;cases q;exact⟨ho,(I.hok b _ e).stay (fun _ _ _ q=>q) (fun c hc=>up hc (by intro ks z;cases z)) fun c xs hc=>up hc (by intro ks z;cases z)⟩
   . rw[aL z]at q;exact(I.hok b _ q).stay (fun _ _ _ q=>q) (fun c hc=>up hc (by intro ks z;cases z)) fun c xs hc=>up hc (by intro ks z;cases z)
theorem Inv.thawT{d:Addr}{kvs:List (List NI×V)}{o:Obj}(I:Inv X pins σ H s)(e:H d=some (.frz o (.dT kvs)))(hz:∀o' u,X.H₀ d≠some (.frz o' u)):Inv X pins σ (aj H d (.dT kvs)) s:=by
 have ne:∀b u,H b=some u->(∀o' u',u≠.frz o' u')->b≠d:=fun b u q hu z=>by rw[z,e]at q;cases q;exact hu _ _ rfl
 have up:∀{c:Addr} {w:HO},H c=some w->(∀o' u',w≠.frz o' u')->aj H d (.dT kvs) c=some w:=fun {c w} hc hw=>by rw[aL (ne c _ hc hw)];exact hc
 refine I.rehp (fun b q=>?_) (fun b xs q=>up q (by intro _ _ z;cases z)) (fun b o' u q=>?_) (fun b ps q=>up q (by intro _ _ z;cases z)) fun b u q=>?_
 . rw[aL (fun z=>by rw[z,e]at q;cases q)];exact q
 . have nb:b≠d:=fun z=>hz o' u (z▸q);rw[aL nb];exact I.base.frzs b o' u q
 . by_cases z:b=d
   . subst z;rw[aP]at q;cases q;exact(show bG X.prog X.w H s.heap b (.dT kvs) from (show bG X.prog X.w H s.heap b (.frz o (.dT kvs)) from I.hok b _ e).2).stay (fun _ _ _ q=>q) (fun c hc=>up hc (by intro _ _ z;cases z)) fun c xs hc=>up hc (by intro _ _ z;cases z)
   . rw[aL z]at q;exact(I.hok b _ q).stay (fun _ _ _ q=>q) (fun c hc=>up hc (by intro _ _ z;cases z)) fun c xs hc=>up hc (by intro _ _ z;cases z)
end
def HG(d:Addr)(kvs:List (List NI×V))(o:Obj):It:=
 ⟨fun i H=>H d=some (.frz o (.dT kvs))/\i<kvs.length,fun i H x H'=>∃k v b,kvs[i]? = some (k,v)/\x = .ref b/\ib H k b/\H'=H,fun i H=>H d=some (.frz o (.dT kvs))/\kvs.length<=i⟩
theorem HH{P:Program}{w:World}{H:Hp}{h:Heap}{d:Addr}{kvs:List (List NI×V)}(ok:bG P w H h d (.dT kvs)):(d == sysModules)=false/\∃es ep,vy h d es ep/\es.size=kvs.length/\(∃o,h.get? d=some o/\qT o=ep)/\∀(i:Nat) (k:List NI) (v:V),kvs[i]? = some (k,v)->∃(e:DictEntry) (b:Addr),es[i]? = some e/\e.key=Value.ref b/\ib H k b:=by
 obtain⟨_,y,xs,r,o,es,ep,h1,h2,h3,h4,_⟩:=ok;have hl:=Fp r;have hs:es.size=xs.length:=by have:=fL List.length h4;simpa using this
 refine⟨y,es,ep,⟨o,h1,h2.1,h3⟩,by omega,⟨o,h1,by unfold qT;rw[h3]⟩,fun i k v hi=>?_⟩;have get:∀{l:List (List NI×V)} {m:List (List NI×Addr×Value)},Paired (fun(p:List NI×V) (q:List NI×Addr×Value)=>p.1=q.1/\ib H p.1 q.2.1/\RelV p.2 q.2.2) l m->∀{i:Nat},l[i]? = some (k,v)->∃q,m[i]? = some q/\ib H k q.2.1:=by
  intro l m q
  induction q with
  | nil=>intro i h;cases h
  | @cons p q ps qs hq t ih=>
   intro i h;cases i with
   | zero=>cases h;exact⟨q,rfl,hq.2.1⟩
   | succ i=>exact ih h
 obtain⟨q,hq,hn⟩:=get r hi;refine⟨entryOfKey (oX P w) q,q.2.1,?_,rfl,hn⟩;rw[←mX,h4,bN,hq];rfl
theorem ahO{P:Program}{w:World}{K:Fg}{tg:Expr}(d it:Addr)(kvs:List (List NI×V))(o:Obj):oZ P w K tg (HG d kvs o) [it] it (fun i h=>h.IsKeyIter it d i kvs.length (qT o)) where
 mem:=by simp
 obj:=fun i h st b hb=>by
  have e:b=it:=by simpa using hb
  subst e;obtain⟨o,e,c,d⟩:=st;exact⟨o,e,fun v z=>by rw[d]at z;cases z⟩
 keep:=fun i h h' st k=>st.elim fun o ahP=>ahP.elim fun e r=>⟨o,k it (by simp) o e,r⟩
 item:=by
  intro X hP hw hK hc i pins s σ H E I hf st hg;subst hP hw hK;obtain⟨hd,aD⟩:=hg;obtain⟨f0,f1,f2,f3,f4,f5⟩:=hf it (by simp);obtain⟨ho,mZ⟩:=(show bG X.prog X.w H s.heap d (.frz o (.dT kvs)) from I.hok d _ hd);obtain⟨_,es,ep,hr,hsz,⟨o',gp,qV⟩,hk⟩:=HH mZ;rw[ho]at gp;cases gp;obtain⟨kv,qU⟩:∃kv,kvs[i]? = some kv:=⟨_,cJ aD⟩;obtain⟨k,v⟩:=kv;obtain⟨e,b,he,hb,hn⟩:=hk i k v qU;rw[←hsz,qV]at st;have hi:i<es.size:=by omega
  refine ahM st hr hi fun h' dq sb=>?_;have I1:Inv X pins σ H { s with heap:=h' }:=I.turned (t':=s.toks) (fun b o hb e=>(sb.2 b hb).trans e) f0 f1 f3 f4 f5;obtain⟨oi,ei,ci,di⟩:=id dq;have kx:es[i].key = .ref b:=by rw[oQ hi]at he;cases he;exact hb
  rw[hsz,←qV]at dq;exact⟨_,rfl,Ge (s:={ s with heap:=h' }) ei ci di (by decide) ⟨.ref b,H,I1,kx,⟨k,v,b,qU,rfl,hn,rfl⟩,dq,fun b hb=>(hf b hb).1⟩⟩
 done:=by
  intro X hP hw hK hc i pins s σ H E I hf st hg;subst hP hw hK;obtain⟨hd,hle⟩:=hg;obtain⟨f0,f1,f2,f3,f4,f5⟩:=hf it (by simp);obtain⟨ho,mZ⟩:=(show bG X.prog X.w H s.heap d (.frz o (.dT kvs)) from I.hok d _ hd);obtain⟨_,es,ep,hr,hsz,⟨o',gp,qV⟩,hk⟩:=HH mZ;rw[ho]at gp;cases gp;rw[←hsz,qV]at st;exact ahN (I.ok.hd hc) st hr (by omega) fun h' eb=>⟨rfl,I.turned (t':=s.toks) (fun b o hb e=>eb b o hb e) f0 f1 f3 f4 f5⟩
 self:=fun _ _ _ _ _ st h=>wpAny_pyIter_keyiter st h
theorem ahQ{tg e:Expr}{X:Cx}{td:TE}(ho:PE X e td):PI X tg e (fun σ H R=>td σ H fun x H1=>∃d kvs,x = .ref d/\H1 d=some (.dT kvs)/\∀ob,(∀o' u,X.H₀ d≠some (.frz o' u))->R (HG d kvs ob) (aj H1 d (.frz ob (.dT kvs)))):=by
 intro pins s σ H R I h;refine thn (ho pins s σ H _ I h) fun v s1 ahR=>ahR.elim fun x ahS=>ahS.elim fun H1 ahT=>ahT.elim fun I1 ahU=>ahU.elim fun r1 ahV=>ahV.elim fun d ahW=>ahW.elim fun kvs ahX=>ahX.elim fun e ahY=>ahY.elim fun ed q=>?_;subst e;cases r1;obtain⟨lo,es,ep,hr,hsz,⟨o',gp,qV⟩,hk⟩:=HH (show bG X.prog X.w H1 s1.heap d (.dT kvs) from I1.hok d _ ed);refine ahL lo hr ?_;have hz:∀o' u,X.H₀ d≠some (.frz o' u):=fun o' u hq=>by
  have:=I1.base.frzs d o' u hq;rw[ed]at this;cases this
 have I2:Inv X pins σ H1 { s1 with heap:=s1.heap.push { cls:=.type "dict_keyiterator",data:=.fields #[.ref d,.int 0 0,.int es.size 0,.int ep 0] } }:=I1.kept (t':=s1.toks) fun b o e=>bq _ e;have hn:=I1.hok.fresh (aH s1.heap.objs.size);refine⟨_,[_],_,_,_,rfl,I2.freezeT ed (bq _ gp),ahO d _ kvs o',?_,fun b hb=>?_,q o' hz⟩
 . rw[←hsz,qV];exact⟨_,da _ rfl,rfl,rfl⟩
 . have e:b=s1.heap.objs.size:=by simpa using hb
   subst e;refine I1.fpOk (aH _) ?_;rw[aL (eM (bg ed hn))];exact hn
section
variable {X:Cx} {e e1 e2 e3 e4:Expr} {te t1 t2 t3 t4:TE} {pos:Pos}
end
def PR(H1:Hp)(d:Addr)(kvs:List (List NI×V))(σ0:St)(g:TG)(tt:TT)(te:TE)(Q:VK):Prop:=∀ob D,aj H1 d (.frz ob (.dT kvs)) D=none ->
 ∃W:Nat->Nat->St->Hp->Prop,(∃m,W 0 m σ0 (aj (aj H1 d (.frz ob (.dT kvs))) D (.lst [])))/\lR (HG d kvs ob) g tt te D (fun H'=>H' d=some (.frz ob (.dT kvs))/\Q (.ref D) (aj H' d (.dT kvs))) W
def ahZ(td:TE)(n:Nat)(js:List Nat)(g:TG)(tt:TT)(te:TE):TE:=fun σ H Q=>td σ H fun x H1=>∃d kvs,x = .ref d/\H1 d=some (.dT kvs)/\PR H1 d kvs (compStart n js σ) g tt te Q
section
variable {X:Cx}
theorem PU{elt tg iter:Expr}{ifs:List Expr}{sc:Scope}{pos:Pos}(own cap:Ls)(js:List Nat){td:TE}{g:TG}{tt:TT}{te:TE}(S:k7 X own cap js sc)(hc:X.calm=true)(hi:PE X iter td)
 (hg:∀s₀ H₀ C ex,PG (cL X (own++cap) sc s₀ H₀ C ex) tg g) (ht:∀s₀ H₀ C ex,gP (cL X (own++cap) sc s₀ H₀ C ex) ifs tt) (he:∀s₀ H₀ C ex,PE (cL X (own++cap) sc s₀ H₀ C ex) elt te)
 (hs:∀x,foldedSetIterable iter X.env x=pure x:=by intro _;rfl):PE X (.ListComp elt [⟨tg,iter,ifs,0⟩] sc pos) (ahZ td own.length js g tt te):=by
 intro pins s σ H Q I h;refine thn (dw own cap js S hc (ahQ hi.weak) hg ht he hs pins s σ H (fun v H'=>∃d kvs ob,H' d=some (.frz ob (.dT kvs))/\(∀o' u,X.H₀ d≠some (.frz o' u))/\Q v (aj H' d (.dT kvs))) I ⟨_,h,fun x H1 ah0=>ah0.elim fun d ah1=>ah1.elim fun kvs ah2=>ah2.elim fun e ah3=>ah3.elim fun ed q=>⟨d,kvs,e,ed,fun ob hz D hD=>?_⟩⟩) fun u s' ah4=>ah4.elim fun v ah5=>ah5.elim fun H' ah6=>ah6.elim fun I' ah7=>ah7.elim fun r ah8=>ah8.elim fun d ah9=>ah9.elim fun kvs aia=>aia.elim fun ob aib=>aib.elim fun hd aic=>aic.elim fun hz q=>⟨v,_,I'.thawT hd hz,r,q⟩;obtain⟨W,w0,ask⟩:=q ob D hD;refine⟨W,w0,fun i m σ H hw=>?_⟩
 rcases ask i m σ H hw with⟨a,b⟩ | z
 . exact .inl ⟨a,d,kvs,ob,b.1,hz,b.2⟩
 . exact .inr z
end
open PySem.W
section
variable {M:Model} {A:Around} {E:VP} {s:Shared} {base:Heap} {env:Env} {outer:List Env} {L e:Addr} {cls:Value} {dct:Oa} {Q:Unit->Shared->Prop}
end
open PySem.Builtin PySem.Builtin.ObjectAttr
section
variable {prog:Program} {w:World} {A:Around} {E:VP} {h:Heap} {g:Array GenState} {d:Drawn} {t:Nat} {os:OsState} {K:Fg} {C M fI:Addr} {fld:Str}
end
end L2
namespace L2
open PySem PySem.Spec PyProof.Rows PySem.W
section
variable {X:Cx} {pins:Po} {σ:St} {H:Hp} {s:Shared}
end
section
variable {X:Cx} {pins:Po} {σ:St} {H:Hp} {s:Shared} {E:XK}
end
section
variable {P:Program} {w:World} {K:Fg} {mg:Mv} {base:Heap} {N:Ls} {qual:Str} {scope:Scope} {f:Addr} {cd:Value} {A:Around} {outer:List Env} {s0:Shared} {H0:Hp} {E:XK}
end
section
variable {prog:Program} {w:World} {A:Around} {E:VP} {s:Shared} {env:Env} {K:Fg} {C M fI:Addr} {fld:Str}
end
section
variable {P:Program} {w:World} {K:Fg} {mg:Mv} {base:Heap} {N:Ls} {qual:Str} {scope:Scope} {f:Addr} {cd:Value} {A:Around} {outer:List Env} {s0:Shared} {H0:Hp} {E:XK}
end
open PySem.Builtin PySem.Builtin.ObjectAttr PySem.Builtin.Getset_descriptor
section
variable {X:Cx}
end
section
variable {prog:Program} {w:World} {A:Around} {E:VP} {s:Shared} {K:Fg} {D a:Addr} {fld:Str} {v:Value}
end
section
variable {X:Cx}
end
end L2
namespace L2
open PySem PySem.Spec PyProof.Rows
section
variable {X:Cx}
end
open PySem.Builtin.Str in
open PySem.Builtin PySem.Builtin.Str in
section
variable {X:Cx}
end
open HT (At gj fm)
section
variable {X:Cx} {pins:Po} {σ:St} {H0:Hp} {l q I S:Addr} {as:List Addr} {ks:Nat->List At} {R:Result->Shared->Prop} {Q:VP} {E:VP}
theorem Inv.isL{H:Hp}{s:Shared}(I:Inv X pins σ H s)(h:H l=some (.lst (as.map V.ref))):s.heap.IsList l (as.map Value.ref).toArray:=by
 obtain⟨its,r,p,_⟩:=I.list (af.of (K:=X.K) h);rw[vn r]at p;exact p.isList
theorem eZ.of{H H':Hp}{b:Addr}(f:eZ X pins H b)(n:H' b=none):eZ X pins H' b:=⟨n,f.2⟩
theorem Inv.turnF{H:Hp}{s:Shared}{h':Heap}{t':Nat}{b:Addr}(I:Inv X pins σ H s)(f:eZ X pins H b)(k:∀c o,c≠b->s.heap.get? c=some o->h'.get? c=some o):Inv X pins σ H { s with heap:=h',toks:=t' }:=
 I.turned k f.1 f.2.1 f.2.2.2.1 f.2.2.2.2.1 f.2.2.2.2.2
end
def vz(P:Addr)(H H':Hp):Prop:=∀b o,H b=some o->b≠P->H' b=some o
section
variable {X:Cx} {c P:Addr} {params:Arguments} {body e:Expr} {scope:Scope} {p pos lpos xE:Pos} {qual x:Str} {k:Nat} {te tb:TE}
theorem gz.same{H H':Hp}(s:ag H H')(h:gz H P lpos qual):gz H' P lpos qual:=by
 rcases h with h | ⟨c',h1,h2⟩
 . exact .inl (s _ _ h)
 . exact .inr ⟨c',s _ _ h1,s _ _ h2⟩
end
end L2
namespace L2
open PySem PySem.Spec PyProof.Rows
section
variable {X:Cx} {pins:Po} {σ:St} {H0:Hp} {l q I S:Addr} {as:List Addr} {kA:Nat->Hp->Addr->Prop} {g:Nat->Nat->Bool} {Rb:Nat->Prop} {R:Result->Shared->Prop} {Q:VP} {E:VP}
def HI(X:Cx)(q:Addr)(as:List Addr)(kA:Nat->Hp->Addr->Prop)(H0:Hp)(σ:St):Prop:=∀(i:Nat) (a:Addr),as[i]? = some a->∀(pins:Po) (H:Hp) (s:Shared),Inv X pins σ H s->ag H0 H ->
 wpAny (model X.prog X.w) X.A.in1 (call (.ref q) [.ref a]) (fun u s'=>∃kt H',Inv X pins σ H' s'/\u = .ref kt/\ag H H'/\kA i H' kt) (fun _ _=>False) s
structure Cp(X:Cx)(n:Nat)(kA:Nat->Hp->Addr->Prop)(g:Nat->Nat->Bool)(Rb:Nat->Prop):Prop where
 mono:∀{i H H' kt},ag H H'->kA i H kt->kA i H' kt
 tr:∀a b c,g a b=true->g b c=true->g a c=true
 irr:∀a,g a a=false
 r0:Rb 0
 rs:∀i j,Rb j->i<n->g i j=true->Rb i
 cmp:∀(i j:Nat) (kt kb:Addr) (pins:Po) (σ:St) (H:Hp) (s:Shared) (Q:VP) (E:VP),Rb j->0<i->i<n->Inv X pins σ H s->kA i H kt->kA j H kb->Q (.bool (g i j)) s->wpAny (model X.prog X.w) X.A.in1 (richCompare .Gt (.ref kt) (.ref kb)) Q E s
theorem aid(hc:X.calm=true)(hu:X.A.in1.units<cLine)(yH:l≠I)(sX:S≠I)(PV:H0 l=some (.lst (as.map V.ref)))(C:Cp X as.length kA g Rb)
 (turn:HI X q as kA H0 σ) (hR:∀i a H' s',as[i]? = some a->(∀j,j<as.length->g j i=false)->Inv X pins σ H' s'->ag H0 H'->R (.ok (.ret (.ref a))) s') :
 ∀(r j i:Nat) (H:Hp) (s:Shared) (ab kb:Addr) (c:Nat),as.length - (j+1)=r->j+1<=as.length->Inv X pins σ H s->ag H0 H->eZ X pins H I->eZ X pins H S->s.heap.get? S=some (seqObj "list" #[.ref ab,.ref kb] c)->s.heap.IsListIter I l (j+1) ->
  as[i]? = some ab->kA i H kb->Rb i->(∀j',j'<=j->g j' i=false)->codeAny (model X.prog X.w) X.A (.builtin "max.loop" ⟨[.ref I,.ref q,.ref S],[]⟩) R s:=by
 have yI:(toString "max"++toString ".loop":String) = "max.loop":=by decide
 have hsz:(as.map Value.ref).toArray.size=as.length:=by simp
 intro r
 induction r with
 | zero=>
  intro j i H s ab kb c hr hj Iv sm fI fS hS hit ku HJ rb best;have W:=Bu (prog:=X.prog) (w:=X.w) (A:=X.A.in1) (Iv.ok.hd hc) I l yH (as.map Value.ref).toArray;have cH:j+1=as.length:=by omega
  refine ko Ve ?_;rw[kR xn _];show wpAny _ X.A.in1 (seqItems? (.ref S) >>= _) _ _ _;refine ac (w5 hS rfl ?_);show wpAny _ X.A.in1 (tryCatch (pyNext (.ref I)) _ >>= _) _ _ _;refine ac (Bx (W.done _ _ _ ⟨by rw[hsz,←cH];exact hit,Iv.isL (sm _ _ PV)⟩ fun h' nH dA=>?_));have I1:Inv X pins σ H { s with heap:=h',toks:=nH }:=Iv.turnF fI fun b o hb e=>dA b o (by simpa using hb) e;have i8:=dA S _ (by simpa using sX) hS;have s1:=kQ h' S (Obj.mapSeq fun _=>(#[]:Av));show wpAny _ X.A.in1 (updateSeq S (fun _=>#[]) >>= _) _ _ _;refine ac ?_;refine FP i8 rfl (ac (MP (aq ?_)));exact hR i ab H _ ku (fun j' jz=>best j' (by omega)) (I1.turnF (t':=nH) fS fun b o hb e=>(s1.2 b hb).trans e) sm
 | succ r ih=>
  intro j i H s ab kb c hr hj Iv sm fI fS hS hit ku HJ rb best;have W:=Bu (prog:=X.prog) (w:=X.w) (A:=X.A.in1) (Iv.ok.hd hc) I l yH (as.map Value.ref).toArray;have aD:j+1<as.length:=by omega
  refine ko Ve ?_;rw[kR xn _];show wpAny _ X.A.in1 (seqItems? (.ref S) >>= _) _ _ _;refine ac (w5 hS rfl ?_);show wpAny _ X.A.in1 (tryCatch (pyNext (.ref I)) _ >>= _) _ _ _;refine ac (Bx (W.item (j+1) _ _ _ (by rw[hsz];exact aD) ⟨hit,Iv.isL (sm _ _ PV)⟩ fun v h' nH hP yt dA=>?_));have lY:(as.map Value.ref)[j+1]? = some v:=by simpa using hP
  obtain⟨a,ha,rfl⟩:∃a,as[j+1]? = some a/\v = .ref a:=by
   rw[bN]at lY;cases e:as[j+1]? with
   | none=>rw[e]at lY;cases lY
   | some a=>rw[e]at lY;cases lY;exact⟨a,rfl,rfl⟩
  obtain⟨qZ,yJ,oY,gA⟩:=id yt.1;have I1:Inv X pins σ H { s with heap:=h',toks:=nH }:=Iv.turnF fI fun b o hb e=>dA b o (by simpa using hb) e;have yK:h'.get? S=some (seqObj "list" #[.ref ab,.ref kb] c):=dA S _ (by simpa using sX) hS;have Ip:Inv X (pins++sq [I,S] h') σ H { s with heap:=h',toks:=nH }:=I1.pinned (fp:=[I,S]) (fun b hb=>by
   rcases bw.mp hb with e | e
   . rw[e];exact fI
   . rw[cE.mp e];exact fS) (fun b hb=>by
   rcases bw.mp hb with e | e
   . rw[e];exact⟨qZ,yJ,fun v z=>by rw[gA]at z;cases z⟩
   . rw[cE.mp e];exact⟨_,yK,fun v z=>nomatch z⟩)
  show wpAny _ X.A.in1 (tryCatch (holding [.ref a] (call (.ref q) [.ref a])) _ >>= _) _ _ _;refine ac (Bx (gH (dN (turn (j+1) a ha _ H _ Ip sm) (fun x s2 he=>?_) fun _ _ hF=>hF.elim)));obtain⟨kt,H2,sY,rfl,bW,q0⟩:=he;have pI:=sY.pin (I,qZ) (iy _ (iy _ (qJ (by simp) yJ)));have pS:=sY.pin (S,seqObj "list" #[.ref ab,.ref kb] c) (iy _ (iy _ (qJ (by simp) yK)));have I2:=sY.unpinned;have PX:=sm.trans bW;have Cq:eZ X pins H2 I:=fI.of pI.2.1;have vA:eZ X pins H2 S:=fS.of pS.2.1;have aie:s2.heap.IsListIter I l (j+1+1):=⟨qZ,pI.1,oY,gA⟩;show wpAny _ X.A.in1 (tryCatch (holding [.ref a,.ref kt] (richCompare .Gt (.ref kt) (.ref kb) >>= _)) _ >>= _) _ _ _;refine ac (Bx (gH (ac (C.cmp (j+1) i kt kb _ _ _ _ _ _ rb (xi _) aD I2 q0 (C.mono bW HJ) ?_))));refine ac (gH (kP ?_));refine ac (MP (aq ?_))
  by_cases fc:g (j+1) i=true
  . have s1:=kQ s2.heap S (Obj.mapSeq fun _=>#[.ref a,.ref kt]);obtain⟨c2,cX⟩:∃c2,(s2.heap.update S (Obj.mapSeq fun _=>#[.ref a,.ref kt])).get? S=some (seqObj "list" #[.ref a,.ref kt] c2):=⟨_,MD pS.1 fun _=>#[.ref a,.ref kt]⟩;simp only[fc,wZ];refine ac ?_;refine FP pS.1 rfl (ac (MP ?_));rw[yI];refine aq ⟨kn xn _,ih (j+1) (j+1) H2 _ a kt c2 (by omega) aD (I2.turnF (t':=s2.toks) vA fun b o hb e=>(s1.2 b hb).trans e) PX Cq vA cX ⟨qZ,(s1.2 I sX.symm).trans pI.1,oY,gA⟩ ha q0 (C.rs _ _ rb aD fc) fun j' jz=>?_⟩
    by_cases e:j'=j+1
    . subst e;exact C.irr _
    . cases z:g j' (j+1) with
      | false=>rfl
      | true=>have:=C.tr _ _ _ z fc;rw[best j' (by omega)]at this;cases this
  . have pB:g (j+1) i=false:=by simpa using fc
    simp only[pB,kh,ix];refine ac (MP ?_);rw[yI];refine aq ⟨kn xn _,ih (j+1) i H2 _ ab kb c (by omega) aD I2 PX Cq vA pS.1 aie ku (C.mono bW HJ) rb fun j' jz=>?_⟩
    by_cases e:j'=j+1
    . subst e;exact pB
    . exact best j' (by omega)
theorem aif{H:Hp}{s:Shared}(Iv:Inv X pins σ H s)(hc:X.calm=true)(hu:X.A.in1.units<cLine)(hl:H l=some (.lst (as.map V.ref)))(bn:0<as.length)(C:Cp X as.length kA g Rb)
 (turn:HI X q as kA H σ) (hQ:∀i a H' s',as[i]? = some a->(∀j,j<as.length->g j i=false)->Inv X pins σ H' s'->ag H H'->Q (.ref a) s') :
 wpAny (model X.prog X.w) X.A (call (.builtin "max") [.ref l] [(Str.ofString "key",.ref q)]) Q E s:=by
 have yI:(toString "max"++toString ".loop":String) = "max.loop":=by decide
 have BI:=Iv.isL hl;obtain⟨ol,vv,_⟩:=id BI;have hll:l<s.heap.objs.size:=aZ vv;have hsz:(as.map Value.ref).toArray.size=as.length:=by simp
 refine kmk_tree PySem.F.kind_max PySem.F.plain_max PySem.F.entry_max (kmk_max_key _ _) ?_;show wpAny _ X.A.in1 (Builtin.Builtins.bindParams "max" ["key","default"] 0 ⟨[],[(Str.ofString "key",.ref q)]⟩ >>= _) _ _ s;refine ac (MJ (show Builtin.Builtins.bindParams "max" ["key","default"] 0 ⟨[],[(Str.ofString "key",.ref q)]⟩=pure [some (.ref q),none] from rfl) ?_);refine ac (aq ?_);refine ac (Ft BI ?_);refine ac (xh ?_ (dO _));rw[yI];refine aq ⟨kn xn _,?_⟩;have hS:(s.heap.push { cls:=.type "list_iterator",data:=.fields #[.ref l,.int 0 0] }).objs.size=s.heap.objs.size+1:=size_push' ..;have yH:l≠s.heap.objs.size:=bE hll;have sX:(s.heap.push { cls:=.type "list_iterator",data:=.fields #[.ref l,.int 0 0] }).objs.size≠s.heap.objs.size:=by rw[hS];exact ki (xb _)
 have fI:eZ X pins H s.heap.objs.size:=Iv.fpOk (aH _) (Iv.hok.fresh (aH _));have fS:eZ X pins H (s.heap.push { cls:=.type "list_iterator",data:=.fields #[.ref l,.int 0 0] }).objs.size:=Iv.fpOk (by rw[hS];exact Fz _) (Iv.hok.fresh (by rw[hS];exact Fz _));have gI:((s.heap.push { cls:=.type "list_iterator",data:=.fields #[.ref l,.int 0 0] }).push (seqObj "list" #[] 0)).get? s.heap.objs.size=some { cls:=.type "list_iterator",data:=.fields #[.ref l,.int 0 0] }:=
  bq _ (da _ rfl)
 have gS:((s.heap.push { cls:=.type "list_iterator",data:=.fields #[.ref l,.int 0 0] }).push (seqObj "list" #[] 0)).get? (s.heap.push { cls:=.type "list_iterator",data:=.fields #[.ref l,.int 0 0] }).objs.size=some (seqObj "list" #[] 0):=da _ rfl;have I0:Inv X pins σ H { s with heap:=(s.heap.push { cls:=.type "list_iterator",data:=.fields #[.ref l,.int 0 0] }).push (seqObj "list" #[] 0) }:=Iv.kept (t':=s.toks) fun b o e=>bq _ (bq _ e);generalize (s.heap.push { cls:=.type "list_iterator",data:=.fields #[.ref l,.int 0 0] }).objs.size=S at *;generalize s.heap.objs.size=I at *;generalize (s.heap.push { cls:=.type "list_iterator",data:=.fields #[.ref l,.int 0 0] }).push (seqObj "list" #[] 0)=h0 at *;have W:=Bu (prog:=X.prog) (w:=X.w) (A:=X.A.in1) (Iv.ok.hd hc) I l yH (as.map Value.ref).toArray;refine ko Ve ?_;rw[kR xn _];show wpAny _ X.A.in1 (seqItems? (.ref S) >>= _) _ _ _;refine ac (w5 gS rfl ?_);show wpAny _ X.A.in1 (tryCatch (pyNext (.ref I)) _ >>= _) _ _ _;refine ac (Bx (W.item 0 _ _ _ (by rw[hsz];exact bn) ⟨⟨_,gI,rfl,rfl⟩,I0.isL hl⟩ fun v h' nH hP yt dA=>?_));have lY:(as.map Value.ref)[0]? = some v:=by simpa using hP
 obtain⟨a,ha,rfl⟩:∃a,as[0]? = some a/\v = .ref a:=by
  rw[bN]at lY;cases e:as[0]? with
  | none=>rw[e]at lY;cases lY
  | some a=>rw[e]at lY;cases lY;exact⟨a,rfl,rfl⟩
 obtain⟨qZ,yJ,oY,gA⟩:=id yt.1;have I1:Inv X pins σ H { s with heap:=h',toks:=nH }:=I0.turnF fI fun b o hb e=>dA b o (by simpa using hb) e;have yK:h'.get? S=some (seqObj "list" #[] 0):=dA S _ (by simpa using sX) gS;have Ip:Inv X (pins++sq [I,S] h') σ H { s with heap:=h',toks:=nH }:=I1.pinned (fp:=[I,S]) (fun b hb=>by
  rcases bw.mp hb with e | e
  . rw[e];exact fI
  . rw[cE.mp e];exact fS) (fun b hb=>by
  rcases bw.mp hb with e | e
  . rw[e];exact⟨qZ,yJ,fun v z=>by rw[gA]at z;cases z⟩
  . rw[cE.mp e];exact⟨_,yK,fun v z=>nomatch z⟩)
 show wpAny _ X.A.in1 (tryCatch (holding [.ref a] (call (.ref q) [.ref a])) _ >>= _) _ _ _;refine ac (Bx (gH (dN (turn 0 a ha _ H _ Ip (ag.refl H)) (fun x s2 he=>?_) fun _ _ hF=>hF.elim)));obtain⟨kt,H2,sY,rfl,bW,q0⟩:=he;have pI:=sY.pin (I,qZ) (iy _ (iy _ (qJ (by simp) yJ)));have pS:=sY.pin (S,seqObj "list" #[] 0) (iy _ (iy _ (qJ (by simp) yK)));have I2:=sY.unpinned;have Cq:eZ X pins H2 I:=fI.of pI.2.1;have vA:eZ X pins H2 S:=fS.of pS.2.1;have s1:=kQ s2.heap S (Obj.mapSeq fun _=>#[.ref a,.ref kt]);obtain⟨c2,cX⟩:∃c2,(s2.heap.update S (Obj.mapSeq fun _=>#[.ref a,.ref kt])).get? S=some (seqObj "list" #[.ref a,.ref kt] c2):=⟨_,MD pS.1 fun _=>#[.ref a,.ref kt]⟩;show wpAny _ X.A.in1 (updateSeq S (fun _=>#[.ref a,.ref kt]) >>= _) _ _ _;refine ac ?_;refine FP pS.1 rfl ?_;rw[yI];refine aq ⟨kn xn _,aid (H0:=H) hc hu yH sX hl C turn (fun i a H' s' e b I' sm=>hQ i a H' s' e b I' sm) _ 0 0 H2 _ a kt c2 rfl bn (I2.turnF (t':=s2.toks) vA fun b o hb e=>(s1.2 b hb).trans e) bW Cq vA cX ⟨qZ,(s1.2 I sX.symm).trans pI.1,oY,gA⟩ ha q0 C.r0 fun j' jz=>?_⟩;have e:j'=0:=by omega
 subst e;exact C.irr _
end
end L2
namespace HT
open PySem PyProof.Rows
theorem PY(A:Around)(s:Shared)(a:Int)(t:Tok)(c:Int)(u:Tok)(prog:Program)(w:World)(E:VP)(Q:VP)(h:Q (.bool (decide (c<a))) s) :
 wpAny (model prog w) A (richCompare .Gt (.int a t) (.int c u)) Q E s:=
 (PyProof.Rows.gt_int h:wpAny (model prog w) A (compareOp .Gt (.int a t) (.int c u)) Q E s)
section
open PySem.SeqAt
open PySem.AutoSeq1 (wpAny_loadPart')
open PySem.MeetsSeq PySem.MeetsSeq2 PySem.MeetsSeq3
end
section
variable {prog:Program} {w:World} {A:Around} {E:VP} {s:Shared}
end
end HT
namespace L2
open PySem PySem.Spec PyProof.Rows
section
variable {X:Cx}
end
open PySem.W (tabObj)
def yL(q c':Addr)(qual:Str)(params:Arguments)(body:Expr)(scope:Scope)(clos:List (Str×Addr)):HO:=.ext fun h=>∃pm jb,h.get? q=some (PySem.W.kla_obj "<lambda>" qual params body scope clos pm c' jb)
def PZ(P:Addr)(qual:Str)(params:Arguments)(body:Expr)(scope:Scope)(clos:List (Str×Addr))(pos:Pos):TE:=fun σ H Q=>gz H P pos qual/\∀q c' H',H q=none->H' P≠none->(∀b o,H b=some o->b≠P->H' b=some o)->gz H' P pos qual->H' c'=some (yu c' qual)->H' q=some (yL q c' qual params body scope clos)->Q (.ref q) H'
section
variable {X:Cx} {c P:Addr} {params:Arguments} {body:Expr} {scope:Scope} {clos:List (Str×Addr)} {pos:Pos} {qual:Str}
theorem aih(Cr:X.env.code = .ref c)(hd:PySem.W.codeHdIn X.K c P=true)(hb:X.base.BuiltinsAt X.mg P)(iG:closureFor scope X.env=pure clos)(hq:X.env.qual ++ "<lambda>" = qual:=by rfl)(Cs:X.env.globals=mainGlobals:=by rfl)(HK:defaultsOf params X.env=([],[]):=by rfl) :
 PE X (.Lambda params body scope pos) (PZ P qual params body scope clos pos):=by
 intro pins s σ H Q I h;obtain⟨tb,q⟩:=h;subst hq;refine PySem.W.kla_eval HK ?_;have hg:s.heap.Ns mainGlobals X.mg:=I.mod.glob.keeps I.bk;obtain⟨bm,ob,b1,b2,b3,b4,b5,b6⟩:=hb;have fc:s.heap.BuiltinsAt X.mg P:=⟨bm,ob,b1,b2,b3,b4,I.bk _ _ b5,b6⟩;have C:=PySem.W.codeHd_of_K I.kIn hd;have hgP:∀ps,s.heap.get? P=some (tabObj ps)->mainGlobals≠P:=fun ps e z=>by
  obtain⟨o,es,ep,e',d',_⟩:=hg;rw[z,e]at e';cases e';cases d'
 have aD:∀b o,s.heap.get? b=some o->b<s.heap.objs.size:=fun b o e=>aZ e
 rcases tb with e | ⟨c',e1,e2⟩
 . have hP:s.heap.get? P=some (tabObj #[]):=(show bG X.prog X.w H s.heap P (iH P #[]) from I.hok P _ e).1;refine PySem.W.kla_makeFunction iG Cs hg Cr C hP trivial rfl (hgP _ hP) fc fun c' jb h' tk hx j0 hl P0 HL=>?_;have I1:Inv X pins σ (aj H P (iH P (#[] ++ #[rawInt pos.line,rawInt pos.col,.ref c']))) { s with heap:=h',toks:=tk }:=
    I.write (x:=P) (e:=P) (by rw[e];exact True.intro) (.inl rfl) (fun b u hb e=>hx b u hb e) ⟨_,HL⟩ (yx HL HL fun h1 h2 a k=>k _ a)
   have nc:H c'=none:=I.hok.fresh j0;have cP:c'≠P:=fun z=>absurd (aD _ _ hP) (FS.mpr (z▸j0));have nc1:aj H P (iH P (#[] ++ #[rawInt pos.line,rawInt pos.col,.ref c'])) c'=none:=by rw[aL cP];exact nc
   have aik:=P0;obtain⟨c2,oc,vs,t,ec,oY,gA,hov⟩:=aik;cases ec;have I2:=I1.track (o:=yu c' (X.env.qual ++ "<lambda>")) nc1 (bS I.sz j0) (ki (gJ I.lt j0)) (fun x cc ex z=>by
    obtain⟨v,oo,hv,_⟩:=I.cell x cc ex;exact absurd (aD _ _ hv) (FS.mpr (z▸j0))) (fun p hp z=>absurd (aD _ _ (I.pin p hp).1) (FS.mpr (z▸j0))) (yx oY P0 fun h1 h2 a k=>ahb a k)
   have gq:(h'.push (PySem.W.kla_obj "<lambda>" (X.env.qual ++ "<lambda>") params body scope clos ((X.mg "__name__").getD .none) c' jb)).get? h'.objs.size=some (PySem.W.kla_obj "<lambda>" (X.env.qual ++ "<lambda>") params body scope clos ((X.mg "__name__").getD .none) c' jb):=da _ rfl;have I3:=I2.laid (t':=tk) (h':=h'.push (PySem.W.kla_obj "<lambda>" (X.env.qual ++ "<lambda>") params body scope clos ((X.mg "__name__").getD .none) c' jb)) (a:=h'.objs.size) (o:=yL h'.objs.size c' (X.env.qual ++ "<lambda>") params body scope clos)
    (fun b u e=>bq _ e) (aH _) (yx gq ⟨_,_,gq⟩ fun h1 h2 ail k=>ail.elim fun pm aim=>aim.elim fun cv a=>⟨pm,cv,k _ a⟩)
   have hsz:s.heap.objs.size<=h'.objs.size:=bS j0 (hJ hl);have nq:H h'.objs.size=none:=I.hok.fresh hsz;have qP:h'.objs.size≠P:=fun z=>absurd (aD _ _ hP) (FS.mpr (z▸hsz));have qc:h'.objs.size≠c':=(bE hl).symm;refine⟨.ref h'.objs.size,_,I3,rfl,q _ c' _ nq ?_ (fun b o eb nb=>?_) (.inr ⟨c',?_,?_⟩) ?_ aP⟩
   . rw[aL qP.symm,aL cP.symm,aP];exact fun z=>nomatch z
   . rw[aL (bg eb nq),aL (bg eb nc),aL nb];exact eb
   . rw[aL qP.symm,aL cP.symm,aP];rfl
   . rw[aL qc.symm,aP]
   . rw[aL qc.symm,aP]
 . have hP:s.heap.get? P=some (tabObj #[rawInt pos.line,rawInt pos.col,.ref c']):=(show bG X.prog X.w H s.heap P (iH P _) from I.hok P _ e1).1;have hf:codeAmong pos (#[rawInt pos.line,rawInt pos.col,.ref c']:Av).toList=some (.ref c'):=by
    show(if ((pos.line:Int) == pos.line && (pos.col:Int) == pos.col)=true then _ else _)=_;rw[ap (by simp)]
   refine PySem.W.kla_makeFunctionHit iG Cs hg Cr C hP trivial hf fc fun jb h' tk hk hsz=>?_;have gq:(h'.push (PySem.W.kla_obj "<lambda>" (X.env.qual ++ "<lambda>") params body scope clos ((X.mg "__name__").getD .none) c' jb)).get? h'.objs.size=some (PySem.W.kla_obj "<lambda>" (X.env.qual ++ "<lambda>") params body scope clos ((X.mg "__name__").getD .none) c' jb):=da _ rfl;have I3:=I.laid (t':=tk) (h':=h'.push (PySem.W.kla_obj "<lambda>" (X.env.qual ++ "<lambda>") params body scope clos ((X.mg "__name__").getD .none) c' jb)) (a:=h'.objs.size) (o:=yL h'.objs.size c' (X.env.qual ++ "<lambda>") params body scope clos)
    (fun b u e=>bq _ (hk b u e)) hsz (yx gq ⟨_,_,gq⟩ fun h1 h2 ain k=>ain.elim fun pm aio=>aio.elim fun cv a=>⟨pm,cv,k _ a⟩)
   have nq:H h'.objs.size=none:=I.hok.fresh hsz;refine⟨.ref h'.objs.size,_,I3,rfl,q _ c' _ nq ?_ (fun b o eb nb=>?_) (.inr ⟨c',?_,?_⟩) ?_ aP⟩
   . rw[aL (bg e1 nq),e1];exact fun z=>nomatch z
   . rw[aL (bg eb nq)];exact eb
   . rw[aL (bg e1 nq)];exact e1
   . rw[aL (bg e2 nq)];exact e2
   . rw[aL (bg e2 nq)];exact e2
end
end L2
namespace L2
open PySem PySem.Spec PyProof.Rows
open PySem.W (envX)
def yM(P:Program)(w:World)(K:Fg)(mg:Mv)(base:Heap)(N:Ls)(qual:Str)(scope:Scope)(f:Addr)(cd:Value)(clos:List (Str×Addr))(A:Around)(outer:List Env)(s:Shared)(H:Hp)(E:XK):Cx where
 prog:=P
 w:=w
 K:=K
 mg:=mg
 base:=base
 A:=A.deeper (envX qual scope s.heap.objs.size f cd clos)
 N:=N
 s₀:=s
 H₀:=H
 env:=envX qual scope s.heap.objs.size f cd clos
 outer:=outer
 stack:=envX qual scope s.heap.objs.size f cd clos::outer
 ex:=[]
 calm:=true
 fn:=fun _=>false
 pn:=[]
 xe:=fun e s'=>wpAny (model P w) (A.deeper (envX qual scope s.heap.objs.size f cd clos)) (leaving (envX qual scope s.heap.objs.size f cd clos) e) (fun _ qL=>ao outer H s E e qL) (fun e' qL=>ao outer H s E e' qL) s'
structure q5(X:Cx)(x:Str)(cap:Ls)(js:List Nat)(sc:Scope):Prop where
 kind:sc.kind = .function
 co:sc.isCoroutine=false
 gen:sc.isGenerator=false
 nocell:∀y∈sc.names,y.2≠.cell
 par:sc.names.lookup x=some .local
 frees:∀y∈sc.names,y.2 = .free->y.1∈cap
 slots:js.map (fun j=>X.N[j]?)=cap.map some
 outer':cap.map X.env.kindOf=cap.map fun _=>some NameKind.cell
 capk':cap.map (fun y=>sc.names.lookup y)=cap.map fun _=>some NameKind.free
def vB(v:V)(js:List Nat)(σ:St):St:=some v::js.map fun j=>(σ[j]?).join
section
variable {X:Cx} {pins:Po} {σ:St} {H:Hp} {s:Shared} {x:Str} {cap:Ls} {js:List Nat} {scope:Scope} {q c':Addr} {qual:Str} {params:Arguments} {body:Expr} {pm jb:Value} {v:V} {u:Value} {A:Around} {k:Nat} {Q:VK} {E:XK} {t:TE}
theorem q5.outer(S:q5 X x cap js scope):∀y∈cap,X.env.kindOf y=some .cell:=xU S.outer'
theorem q5.capk(S:q5 X x cap js scope):∀y∈cap,scope.names.lookup y=some .free:=xU S.capk'
theorem q5.clos(S:q5 X x cap js scope)(ok:X.Ok):closureFor scope X.env=pure (df X.env scope.names []):=
 N3 fun y hy e=>ok.has _ (.inl (S.outer _ (S.frees y hy e)))
theorem aip(S:q5 X x cap js scope)(I:Inv X pins σ H s)(hd:A.handled=none)(aiq:A.depth<recursionLimit)(py:A.frames=some X.stack)(ho:s.heap.get? q=some (PySem.W.kla_obj "<lambda>" qual params body scope (df X.env scope.names []) pm c' jb))(HM:s.heap.CodeRec (.ref c') qual)
 (hb:bindArgs (PySem.W.kla_fn "<lambda>" qual params body scope (df X.env scope.names []) pm (.ref c') jb) ⟨[u],[]⟩=pure [(x,u)]) (r:RelV v u)
 (ht:PE (yM X.prog X.w X.K X.mg X.base (x::cap) qual scope q (.ref c') (df X.env scope.names []) A X.stack s H E) body t) (hq:t (vB v js σ) H Q) :
 codeAny (model X.prog X.w) A (.call (.ref q) ⟨[u],[]⟩) (CR ao X.stack X.prog X.w H s Q E) s:=by
 have e0:=I.env0;have lim:s.heap.NoLimit:=I.nolimit;have GS:∀y∈scope.names,y.2 = .free->∃c,X.env.cells.lookup y.1=some c:=fun y hy e=>I.ok.has _ (.inl (S.outer _ (S.frees y hy e)));have jW:∀(y:Str) (c:Addr),(df X.env scope.names []).lookup y=some c->X.env.cells.lookup y=some c:=fun y c e=>
  B2 GS (fun y c h=>by cases (show([]:List (Str×Addr)).lookup y=some c from h)) e
 refine PySem.W.kla_callFunE aiq ho rfl S.co S.gen rfl HM ?_;rw[hb];refine aq ?_;refine wpAny_newFunctionEnv S.nocell (fun y hy=>by rw[cE.mp hy];exact S.par) (fun h' k8 xV=>⟨lim.fresh _ xV,PySem.W.kla_codeExpr ?_⟩) S.kind;have hk:∀b o,s.heap.get? b=some o->h'.get? b=some o:=fun b o e=>xV.extBut b o (bE (aZ e)) (bq _ e);have sF:∀b:Addr,b∉(yM X.prog X.w X.K X.mg X.base (x::cap) qual scope q (.ref c') (df X.env scope.names []) A X.stack s H E).ex:=fun b z=>absurd (show b∈([]:List Addr) from z) (by simp);have sK:(yM X.prog X.w X.K X.mg X.base (x::cap) qual scope q (.ref c') (df X.env scope.names []) A X.stack s H E).Ok:=by
  refine⟨e0.mod,S.kind,rfl,rfl,aH _,fun y z c h1 h2=>I.ok.inj y z c (jW y c h1) (jW z c h2),fun y hy=>?_,(fun y c z _=>nomatch (show false=true from z)),fun _=>hd,Around.frames_deeper py,.inr ⟨rfl,rfl⟩,fun b z=>absurd z (sF b),e0.bs,e0.bsz,fun b _ _=>sF b,fun b z=>absurd z (sF b),e0.funs,e0.frf⟩;have hy:scope.names.lookup y=some .cell\/scope.names.lookup y=some .free:=hy
  rcases hy with hy | hy
  . exact absurd rfl (S.nocell _ (uH hy))
  . exact Bh.mp (B3 (uH hy))
 have J:Inv (yM X.prog X.w X.K X.mg X.base (x::cap) qual scope q (.ref c') (df X.env scope.names []) A X.stack s H E) [] (vB v js σ) H { s with heap:=h',toks:=s.toks + [(x,u)].length }:=by
  refine⟨sK,rfl,I.bare,Un.kept hk,⟨_,k8,fun i y z h1 h2 h3=>?_⟩,fun y c h=>?_,I.hok.fresh (aH _),fun y c h=>I.freeC y c (jW y c h),fun p hp=>absurd (show p∈([]:Po) from hp) (by simp),I.hok.kept hk,?_⟩
  . cases i with
    | zero=>
     have h1:x=y:=eK h1;have h2:some v=some z:=eK h2;subst h1;cases h2;exact⟨u,r,.inl ⟨S.par,by show([(x,u)]:List (Str×Value)).reverse.lookup x=some u;simp[List.lookup]⟩⟩
    | succ i=>
     have h1:cap[i]? = some y:=h1;have h2:(js.map fun j=>(σ[j]?).join)[i]? = some (some z):=h2;rw[bN]at h2;cases hj:js[i]? with
     | none=>rw[hj]at h2;cases h2
     | some j=>
      rw[hj]at h2;have h2:(σ[j]?).join=some z:=eK h2;have e3:σ[j]? = some (some z):=by
       cases e:σ[j]? with
       | none=>rw[e]at h2;cases h2
       | some a=>rw[e]at h2;rw[show a=some z from h2]
      have hs:=fL (fun l=>l[i]?) S.slots;simp only[bN,hj,h1,lI]at hs;have hN:X.N[j]? = some y:=eK hs;have hy:y∈cap:=eN h1;obtain⟨m2,uX,qN⟩:=I.loc;obtain⟨a,ra,lk⟩:=qN j y z hN e3 (.inr (.inl (S.outer y hy)));refine⟨a,ra,?_⟩
      rcases lk with⟨k1,_⟩ | ⟨_,c,hc1,cX⟩
      . rw[S.outer y hy]at k1;cases k1
      . have kd:scope.names.lookup y=some .free:=S.capk y hy;obtain⟨c2,eY⟩:=sK.has y (.inr kd);have e:=jW y c2 eY;rw[hc1]at e;cases e;exact .inr ⟨.inr kd,c,eY,cX.keeps hk⟩
  . obtain⟨a,ha⟩:=I.cell y c (jW y c h);exact⟨a,ha.keeps hk⟩
  . show(vB v js σ).length=(x::cap).length;unfold vB;have:=fL List.length S.slots;rw[au,au]at this;rw[bF,bF,au,this]
 refine dN (ht [] _ (vB v js σ) H _ J hq) (fun a s' hs=>?_) fun e s' hs=>hs;obtain⟨z,H',J',rv,q'⟩:=hs;exact⟨z,H',J'.os,J'.bare,J'.base,J'.hok,rv,q'⟩
end
def air(X:Cx)(P:Addr)(qual:Str)(lpos:Pos)(js:List Nat)(te tb:TE):TE:=fun σ H Q=>lN te gN σ H fun us H1=>∃(l:Addr) (as:List Addr) (kA:Nat->Hp->Addr->Prop) (g:Nat->Nat->Bool) (Rb:Nat->Prop),us = [.ref l]/\l≠P/\H1 l=some (.lst (as.map V.ref))/\0<as.length/\Cp X as.length kA g Rb/\gz H1 P lpos qual /\
 (∀i a,as[i]? = some a->∀H2,vz P H1 H2->tb (vB (.ref a) js σ) H2 fun v H3=>∃kt,v = .ref kt/\ag H2 H3/\kA i H3 kt) /\
 ∀i a H',as[i]? = some a->(∀j,j<as.length->g j i=false)->vz P H1 H'->gz H' P lpos qual->Q (.ref a) H'
section
variable {X:Cx} {c P:Addr} {params:Arguments} {body e:Expr} {scope:Scope} {p pos lpos xE:Pos} {qual x:Str} {cap:Ls} {js:List Nat} {k:Nat} {te tb:TE}
theorem ais(he:PE X e te)(S:q5 X x cap js scope)(hr:cK (k+1) X.A.in1)(hc:X.calm=true)(Cr:X.env.code = .ref c)(hd:PySem.W.codeHdIn X.K c P=true)(hb:X.base.BuiltinsAt X.mg P)(hg:Gl X "max")(hm:X.mg "max" = none)
 (sG:∀(q c':Addr) (s:Shared) (H:Hp) (E:XK),cK k (X.A.in1.deeper (envX qual scope s.heap.objs.size q (.ref c') (df X.env scope.names [])))->PE (yM X.prog X.w X.K X.mg X.base (x::cap) qual scope q (.ref c') (df X.env scope.names []) X.A.in1 X.stack s H E) body tb)
 (HN:∀(pm jb u:Value) (c':Addr),bindArgs (PySem.W.kla_fn "<lambda>" qual params body scope (df X.env scope.names []) pm (.ref c') jb) ⟨[u],[]⟩=pure [(x,u)])
 (hq:X.env.qual ++ "<lambda>" = qual:=by rfl) (Cs:X.env.globals=mainGlobals:=by rfl) (HK:defaultsOf params X.env=([],[]):=by rfl)
 (h1:backTo pos (starEach [e] X.env)=(false,eval e X.env)::backTo pos (starEach [] X.env):=by rfl) (h2:starEach [e] X.env = [(false,eval e X.env)]:=by rfl) (h3:(backTo pos (starEach [e] X.env)).any (·.1)=false:=by rfl) :
 PE X (.Call (.Name "max" p) [e] [⟨some "key",.Lambda params body scope lpos,xE⟩] pos) (air X P qual lpos js te tb):=by
 intro pins s σ H Q I h;have hu:X.A.in1.units<cLine:=by have:=hr.un;omega
 refine Fx (sj I hg hm boot_max ?_ (by decide) (by decide));have ha:PA X [e] (lN te gN):=aa he ae h2;refine callWith_kw (thn (ha pos pins s σ H _ I h) fun us s1 ait=>ait.elim fun vs aiu=>aiu.elim fun H1 aiv=>aiv.elim fun I1 aiw=>aiw.elim fun r aix=>aix.elim fun l aiy=>aiy.elim fun as aiz=>aiz.elim fun kA aiA=>aiA.elim fun g aiB=>aiB.elim fun Rb aiC=>aiC.elim fun e1 aiD=>aiD.elim fun lP aiE=>aiE.elim fun hl aiF=>aiF.elim fun bn aiG=>aiG.elim fun C aiH=>aiH.elim fun tb1 aiJ=>aiJ.elim fun aiK fin=>?_) h1 h3;subst e1;obtain⟨u1,rfl,ru⟩:=vals1 r;cases ru;have hk:PK X [⟨some "key",.Lambda params body scope lpos,xE⟩] (lN (PZ P qual params body scope (df X.env scope.names []) lpos) gN):=aam (aih Cr hd hb (S.clos I.ok) hq Cs HK) aal;refine thn (hk pos pins s1 σ H1 (fun zs H2=>∃q c',zs = [.ref q]/\vz P H1 H2/\gz H2 P lpos qual/\H2 c'=some (yu c' qual)/\H2 q=some (yL q c' qual params body scope (df X.env scope.names []))) I1 ⟨tb1,fun q c' H2 nq nP kp HP eY dP=>⟨q,c',rfl,kp,HP,eY,dP⟩⟩) fun ws s2 aiL=>aiL.elim fun zs aiM=>aiM.elim fun H2 aiN=>aiN.elim fun I2 aiO=>aiO.elim fun rz aiP=>aiP.elim fun q aiQ=>aiQ.elim fun c' aiR=>aiR.elim fun ez aiS=>aiS.elim fun kp aiT=>aiT.elim fun HP aiU=>aiU.elim fun cX ii=>?_;subst ez;obtain⟨w1,rfl,rw1⟩:=vals1 rz;cases rw1;have turn:HI X q as kA H2 σ:=by
  intro i a ha F8 H3 s3 I3 sm;obtain⟨pm,jb,ho⟩:=(show bG X.prog X.w H3 s3.heap q (yL q c' qual params body scope (df X.env scope.names [])) from I3.hok q _ (sm _ _ ii)).1;have HM:s3.heap.CodeRec (.ref c') qual:=(show bG X.prog X.w H3 s3.heap c' (yu c' qual) from I3.hok c' _ (sm _ _ cX)).1;refine Ma (rY (aip (E:=E0) (v:=.ref a) (u:=.ref a) S I3 hr.hd hr.depth I3.env0.in1.frames ho HM (HN pm jb _ c') rfl (sG q c' _ _ _ (hr.deeper _)) (aiK i a ha H3 fun b o e n=>sm _ _ (kp b o e n))) fun r s' nJ=>?_);cases r with
  | error e=>exact(show False from nJ).elim
  | ok fl=>
   cases fl with
   | ret u=>
    obtain⟨v,H',I',rv,kt,ev,sm',q0⟩:=I3.after nJ;subst ev;cases rv;exact⟨kt,H',I',rfl,sm',q0⟩
   | next=>exact False.elim nJ
   | brk=>exact False.elim nJ
   | cont=>exact False.elim nJ
 refine aif I2 hc hu (kp _ _ hl lP) bn C turn fun i a H' s' ha best I' sm=>?_;exact⟨.ref a,H',I',rfl,fin i a H' ha best (fun b o e n=>sm _ _ (kp b o e n)) (HP.same sm)⟩
end
end L2
namespace L2
open PySem PySem.Spec PyProof.Rows
section
variable {X:Cx} {e e1 e2 e3:Expr} {te t1 t2 t3:TE} {pos:Pos}
end
structure vC(K:Fg)(x qual:Str)(st:Stmt)(f c:Addr)(fd:Fy):Prop where
 ex:∃(oc:Value) (od:Oa) (kV doc pm:Value) (an:Oa) (ct:Value) (jT:Array (Option Value)),fd=PySem.W.fnOf x qual (dv st) (cF st) (aI st) .none kV doc pm an (.ref c) ct /\
  K.lookup f=some ⟨oc,od,.func (PySem.W.fnOf x qual (dv st) (cF st) (aI st) .none kV doc pm an (.ref c) ct),jT⟩/\PySem.W.codeIn K (.ref c) qual=true
 kp:PySem.W.keepIn K (.ref f)=true
theorem vC.fn{K:Fg}{x qual:Str}{st:Stmt}{f c:Addr}{fd:Fy}(F:vC K x qual st f c fd):ai K x qual st f fd:=by
 obtain⟨⟨oc,od,kV,doc,pm,an,ct,jT,e,l,h⟩,k⟩:=F;subst e;exact⟨⟨oc,od,kV,doc,pm,an,.ref c,ct,jT,rfl,l,h⟩,k⟩
open PySem.W (tabObj CodeHd)
theorem aiX{P:Program}{w:World}{K:Fg}{mg mb:Mv}{CX:jS}{k:Nat}{fa a Pt c:Addr}{fd:Fy}{x qual:Str}{lpos:Pos}{sp:Sp}{s₁:Shared}{vs:Lw}{ns:List Int}
 (KX:K.In s₁.heap) (k8:s₁.heap.Ns mainGlobals mg) (hb:s₁.heap.Ns builtinsNs mb) (sZ:∀x:Str,x≠"__name__"->mb x=bootBuiltins x) (aiY:s₁.heap.NoLimit) (hg:s₁.gens = #[])
 (bmain:∃bm ob,mg "__builtins__" = some (.ref bm)/\bm≠builtinsNs/\s₁.heap.get? bm=some ob/\ob.cls = .type "module"/\ob.dict=some builtinsNs/\ob.data = .plain)
 (hP:s₁.heap.get? Pt=some (tabObj #[])) (hC:CodeHd s₁.heap c Pt) (HQ:K.lookup Pt=none)
 (ha:s₁.heap.get? a=some { cls:=.type "list",data:=.seq vs.toArray }) (hi:IntsAre vs ns) (hl:ns.length<=sizeLine) (hr:cK k callerA)
 (F:∀base:Heap,K.In base->base.Ns mainGlobals mg->base.BuiltinsAt mg Pt->ak P w K mg base CX k fa fd [x] sp) (HN:∀(s:Shared) (u:Value),BindsTo s fd ⟨[u],[]⟩ [(x,u)])
 (nn:∀H:Hp,H Pt=some (iH Pt #[])->af K H a (ns.map V.int)->sp [.ref a] H (fun v H'=>v = .bl true/\gz H' Pt lpos qual) fun _ _ _=>False)
 (HR:∀H e s',CX [] H s₁ (fun _ _ _=>False) e s'->False) :
 codeAny (model P w) callerA (.call (.ref fa) ⟨[.ref a],[]⟩) (fun r s'=>r = .ok (.ret (.bool true))/\OldK s₁.heap s'.heap/\s'.os=s₁.os/\AllBare s'.gens) s₁:=by
 have rv:=NY hi;have aiZ:=hi.length;have P1:a≠Pt:=fun z=>by rw[z,hP]at ha;cases ha
 have core:∀H:Hp,H Pt=some (iH Pt #[])->(∀b,b≠Pt->H b=none\/∃o xs,H b=some (.frz o (.lst xs)))->af K H a (ns.map V.int)->ce P w H s₁.heap->(∀b,H b≠none->b=a\/b=Pt)->(H a≠none->K.lookup a=none) ->
  codeAny (model P w) callerA (.call (.ref fa) ⟨[.ref a],[]⟩) (fun r s'=>r = .ok (.ret (.bool true))/\OldK s₁.heap s'.heap/\s'.os=s₁.os/\AllBare s'.gens) s₁:=by
  intro H hT hO hS hok hA hK;have HS:∀{b:Addr} {o:Obj},s₁.heap.get? b=some o->H b=none->(m6 s₁.heap H).get? b=some o:=fun e n=>VY e n;have P2:∀{b:Addr} {o:Obj},s₁.heap.get? b=some o->(∀it n,o.data≠.seq it n)->(∀ps,o.data≠.fields ps)->H b=none:=fun {b o} e d1 d2=>by
   cases q:H b with
   | none=>rfl
   | some u=>
    rcases hA b (by rw[q];simp) with e' | e'
    . subst e';rw[ha]at e;cases e;exact absurd rfl (d1 _ _)
    . subst e';rw[hP]at e;cases e;exact absurd rfl (d2 _)
  have Ct:∀{b:Addr} {m:Mv},s₁.heap.Ns b m->(m6 s₁.heap H).Ns b m:=fun {b m} ⟨o,es,ep,e,d,r⟩=>⟨o,es,ep,HS e (P2 e (fun it n z=>by rw[d]at z;cases z) fun ps z=>by rw[d]at z;cases z),d,r⟩;have P4:K.In (m6 s₁.heap H):=fun b o e=>HS (KX b o e) (by
   cases q:H b with
   | none=>rfl
   | some u=>
    rcases hA b (by rw[q];simp) with e' | e'
    . subst e';rw[hK (by rw[q];simp)]at e;cases e
    . subst e';rw[HQ]at e;cases e)
  have hM:Mod K mg (m6 s₁.heap H):=⟨P4,Ct k8,⟨mb,Ct hb,sZ⟩,aiY.elim fun mc ai0=>ai0.elim fun h1 h2=>⟨mc,Ct h1,h2⟩⟩;have e0:nj P w K mg (m6 s₁.heap H) callerA [] s₁ H:=⟨rfl,hM,fun b o e=>VZ e,Fw (VX _ _),trivial,fun b hb=>absurd (show b∈([]:List Addr) from hb) (by simp),hok,.of_eq hg⟩;have hBt:(m6 s₁.heap H).BuiltinsAt mg Pt:=by
   obtain⟨bm,ob',b1,b2,b3,b4,b5,b6⟩:=bmain;refine⟨bm,ob',b1,b2,fun z=>?_,fun z=>?_,HS b3 (P2 b3 (fun it n z=>by rw[b6]at z;cases z) fun ps z=>by rw[b6]at z;cases z),b4,b5,b6⟩
   . obtain⟨o,es,ep,e,d,_⟩:=k8;rw[z,e]at b3;cases b3;rw[d]at b6;cases b6
   . rw[z,hP]at b3;cases b3;cases b6
  refine rY ((F _ P4 (Ct k8) hBt).run callerA [] s₁ H ⟨[.ref a],[]⟩ [.ref a] [.ref a] _ _ hr e0 (HN s₁ (.ref a)) (.cons rfl .nil) (nn H hT hS)) fun r s' h=>?_;cases r with
  | error e=>exact(HR H e s' h).elim
  | ok fl=>
   cases fl with
   | next=>exact False.elim h
   | brk=>exact False.elim h
   | cont=>exact False.elim h
   | ret u=>
    obtain⟨v,H',os,bare,un,xW,r',q',tb⟩:=h;subst q';obtain rfl:u=Value.bool true:=r';have old:∀b o,s₁.heap.get? b=some o->b≠Pt->s'.heap.get? b=some o:=fun b o e nb=>by
     cases q:H b with
     | none=>exact un.keep b o e q (by intro z;exact absurd (show b∈([]:List Addr) from z) (by simp)) (by simp)
     | some u=>
      rcases hO b nb with z | ⟨ob,xs,z⟩
      . rw[q]at z;cases z
      . have z2:=un.frzs b ob _ z;obtain⟨e1,_⟩:=hok b _ z;obtain⟨e2,_⟩:=xW b _ z2;rw[e]at e1;cases e1;exact e2
    have tab:s'.heap.get? Pt=some (tabObj #[])\/∃more,s'.heap.get? Pt=some (tabObj (#[]++more)):=by
     rcases tb with z | ⟨c',z,_⟩
     . exact .inl (show bG P w H' s'.heap Pt (iH Pt #[]) from xW Pt _ z).1
     . exact .inr ⟨_,by rw[Array.empty_append];exact(show bG P w H' s'.heap Pt (iH Pt _) from xW Pt _ z).1⟩
    refine⟨rfl,⟨fun b o e=>?_,fun b o e=>?_⟩,os,bare⟩
    . by_cases nb:b=Pt
      . subst nb;rw[hP]at e;cases e
        rcases tab with z | ⟨more,z⟩
        . exact .inl z
        . exact .inr (.inl ⟨(hC.tab hP).isCodeTable,rfl,#[],more,rfl,z⟩)
      . exact .inl (old b o e nb)
    . by_cases nb:b=Pt
      . subst nb
        rcases tab with z | ⟨more,z⟩
        . exact⟨_,z⟩
        . exact⟨_,z⟩
      . exact⟨o,old b o e nb⟩
 have P5:∀H:Hp,H Pt=some (iH Pt #[])->bG P w H s₁.heap Pt (iH Pt #[]):=fun H _=>yx hP hP fun h1 h2 z k=>k _ z;cases hk:K.lookup a with
 | some o=>
  have e:=KX a o hk;rw[ha]at e;cases e;refine core (fun b=>if b=Pt then some (iH Pt #[]) else none) (ap rfl) (fun b nb=>.inl (ah nb)) (.inr ⟨_,vs.toArray,_,hk,rfl,rfl,rfl,by rw[iz,aiZ];exact hl,by simpa using rv⟩) (fun b u z=>?_) (fun b z=>?_) fun z=>absurd (ah P1) z
  . by_cases hb:b=Pt
    . have z':=(ap hb).symm.trans z;cases z';subst hb;exact P5 _ (ap rfl)
    . have z':=(ah hb).symm.trans z;cases z'
  . by_cases hb:b=Pt
    . exact .inr hb
    . exact absurd (ah hb) z
 | none=>
  refine core (fun b=>if b=Pt then some (iH Pt #[]) else if b=a then some (.frz { cls:=.type "list",data:=.seq vs.toArray } (.lst (ns.map V.int))) else none) (ap rfl) (fun b nb=>?_) (.inl (.inr ⟨{ cls:=.type "list",data:=.seq vs.toArray },by show(if a=Pt then _ else if a=a then _ else _)=_;rw[ah P1,ap rfl]⟩)) (fun b u z=>?_) (fun b z=>?_) fun _=>hk
  . show(if b=Pt then _ else if b=a then _ else _)=_\/∃o xs,(if b=Pt then _ else if b=a then _ else _)=_;rw[ah nb]
    by_cases hb:b=a
    . exact .inr ⟨_,_,ap hb⟩
    . exact .inl (ah hb)
  . have z:(if b=Pt then some (iH Pt #[]) else if b=a then some (.frz { cls:=.type "list",data:=.seq vs.toArray } (.lst (ns.map V.int))) else none)=some u:=z
    by_cases hb:b=Pt
    . rw[ap hb]at z;cases z;subst hb;exact P5 _ (ap rfl)
    . rw[ah hb]at z
      by_cases pB:b=a
      . rw[ap pB]at z;cases z;subst pB;exact⟨ha,by rw[au];exact hl,vs,_,rv,ha⟩
      . rw[ah pB]at z;cases z
  . have z:(if b=Pt then some (iH Pt #[]) else if b=a then some (HO.frz { cls:=.type "list",data:=.seq vs.toArray } (.lst (ns.map V.int))) else none)≠none:=z
    by_cases hb:b=Pt
    . exact .inr hb
    . rw[ah hb]at z
      by_cases pB:b=a
      . exact .inl pB
      . rw[ah pB]at z;exact absurd rfl z
theorem ai3{l:PySem.W.OpenLaw}{n k:Nat}{q:Program}{loose:Ls}{XP:(Mv)->Heap->Prop}{YP:World->Heap->Prop}{d:DefRec}{K:Params->Fg}{CX:World->jS}{sp:World->Sp}{x qual:Str}{lpos:Pos}{Pt:Addr}
 (hn:l.most=some n) (uX:n<=sizeLine) (xO:d.params.defaults = []) (hr:cK k callerA)
 (hY:∀(w:World) (h:Heap),YP w h->(K w.params).In h/\h.get? Pt=some (tabObj #[]))
 (F:∀(w:World) (mg:Mv) (fa:Addr) (h:Heap),(K w.params).In h->h.Ns mainGlobals mg->mg d.name=some (.ref fa) ->
  ∃(fd:Fy) (c:Addr),(∀(s:Shared) (u:Value),BindsTo s fd ⟨[u],[]⟩ [(x,u)])/\PySem.W.codeHdIn (K w.params) c Pt=true/\(K w.params).lookup Pt=none /\
   ∀base:Heap,(K w.params).In base->base.Ns mainGlobals mg->base.BuiltinsAt mg Pt->ak l.prog w (K w.params) mg base (CX w) k fa fd [x] (sp w))
 (nn:∀(w:World) (H:Hp) (a:Addr) (ns:List Int),ns.length<=n->H Pt=some (iH Pt #[])->af (K w.params) H a (ns.map V.int)->sp w [.ref a] H (fun v H'=>v = .bl true/\gz H' Pt lpos qual) fun _ _ _=>False)
 (HR:∀(w:World) (H:Hp) (s:Shared) (e:Value) (s':Shared),CX w [] H s (fun _ _ _=>False) e s'->False) :
 PySem.W.WalkO q loose XP YP l.row.toRowW d [] (fun f vs=>PySem.call f vs):=by
 refine Att.adm hn xO fun w s₀ s₁ mg mb fa o pm cd doc a vs ns G Y ho hd iY xP ph hints hlen hg=>?_;obtain⟨KX,hP⟩:=hY w _ Y;obtain⟨fd,c,hb,hC,HQ,hF⟩:=F w mg fa _ KX G.T.g xP;exact aiX KX G.T.g G.T.b G.T.builtins G.T.nolimit hg G.T.bmain hP (PySem.W.codeHd_of_K KX hC) HQ ph hints (bS hlen uX) hr hF hb (fun H hO hS=>nn w H a ns hlen hO hS) fun H e s'=>HR w H s₁ e s'
end L2
namespace HT
open PySem PyProof.Rows
section
open PySem.SeqAt
open PySem.AutoSeq1 (wpAny_loadPart')
open PySem.MeetsSeq PySem.MeetsSeq2 PySem.MeetsSeq3
variable {P:Program} {w:World} {A:Around} {s:Shared}
def pC(P:Program)(w:World)(A:Around)(s:Shared)(y x:Value):Prop:=∀(E:VP) (Q:Bool->Shared->Prop),Q true s->wpAny (model P w) A (eqBool y x) Q E s
theorem pC.of{y x:Value}(h:EqAt A s y x true):pC P w A s y x:=fun E Q q=>h P w E Q q
theorem pC.refs{l b:Addr}(ne:l≠b)(h:∀(E Q:VP),Q (.bool true) s->wpAny (model P w) A (richCompare .Eq (.ref l) (.ref b)) Q E s):pC P w A s (.ref l) (.ref b):=fun E Q q=>by
 unfold eqBool;refine gH (FJ (fun e=>absurd (by have z:=eq_of_beq e;injection z) ne) fun _=>?_);exact ac (h E _ (kP q))
theorem ai4(l b:Addr)(it eR:Av)(n n2:Nat)(dd cW:Oa)(sl cu:Array (Option Value))(hz:it.size=eR.size)(k:Nat) :
 ∀i:Nat,it.size - i=k->MeetsIn P w (Builtin.«list.__eq__.loop» ⟨[.ref l,.ref b,rawInt i,rawInt 3],[]⟩)
  (fun A R s=>s.heap.get? l=some ⟨.type "list",dd,.seq it n,sl⟩/\s.heap.get? b=some ⟨.type "list",cW,.seq eR n2,cu⟩/\(∀j (h1:j<it.size) (h2:j<eR.size),pC P w A.in1 s it[j] eR[j])/\R (.ok (.ret (.bool false))) s):=by
 induction k with
 | zero=>
  intro i hk A R s h;obtain⟨hp,g,d,tk,os⟩:=s;obtain⟨g1,g2,he,h⟩:=h
  wp_walk using wpAny_loadPart' g1,wpAny_loadPart' g2
  have e1:it[((i:Nat):Int).toNat]? = none:=by simp;omega
  have e2:eR[((i:Nat):Int).toNat]? = none:=by simp;omega
  rw[e1,e2]
  wp_walk using wpAny_loadPart' g1,wpAny_loadPart' g2
  show R (.ok (.ret (.bool (it.size != eR.size)))) _;rw[hz];simpa using h
 | succ k ih=>
  intro i hk A R s h;obtain⟨hp,g,d,tk,os⟩:=s;obtain⟨g1,g2,he,h⟩:=h
  wp_walk using wpAny_loadPart' g1,wpAny_loadPart' g2
  have l1:i<it.size:=by omega
  have l2:i<eR.size:=by omega
  have e1:it[((i:Nat):Int).toNat]? = some it[i]:=by simp[l1]
  have e2:eR[((i:Nat):Int).toNat]? = some eR[i]:=by simp[l2]
  have e3:((i:Int)+1)=((i+1:Nat):Int):=by push_cast;rfl
  rw[e1,e2];refine ac (he i l1 l2 _ _ ?_)
  wp_walk
  rw[e3];exact⟨kn uM _,ko MQ (by
   rw[kR uM _];exact ih (i+1) (by omega) A R _ ⟨g1,g2,he,h⟩)⟩
theorem ai5(l b:Addr)(it eR:Av)(n n2:Nat)(dd cW:Oa)(sl cu:Array (Option Value))(hz:it.size=eR.size) :
 MeetsIn P w (Builtin.«list.__ne__» ⟨[.ref l,.ref b],[]⟩)
  (fun A R s=>s.heap.get? l=some ⟨.type "list",dd,.seq it n,sl⟩/\s.heap.get? b=some ⟨.type "list",cW,.seq eR n2,cu⟩/\(∀j (h1:j<it.size) (h2:j<eR.size),pC P w A.in1 s it[j] eR[j])/\R (.ok (.ret (.bool false))) s):=by
 intro A R s h;obtain⟨hp,g,d,tk,os⟩:=s;obtain⟨g1,g2,he,h⟩:=h;have f3:=aso;have nz:¬(it.size != eR.size)=true:=by simp[hz]
 wp_walk using wpAny_loadPart' g1,wpAny_loadPart' g2
 exact⟨kn uM _,ko MQ (by
  rw[kR uM _];exact ai4 l b it eR n n2 dd cW sl cu hz _ 0 rfl A R _ ⟨g1,g2,he,h⟩)⟩
theorem ai6{l b:Addr}{it eR:Av}{Q E:VP}(h1:s.heap.IsList l it)(h2:s.heap.IsList b eR)(hz:it.size=eR.size)(hu:A.units<cLine)
 (he:∀j (h1:j<it.size) (h2:j<eR.size),pC P w A.in1 s it[j] eR[j]) (q:Q (.bool false) s):wpAny (model P w) A (compareOp .NotEq (.ref l) (.ref b)) Q E s:=by
 obtain⟨⟨cls,dd,data,sl⟩,ho,hc,n,hd⟩:=id h1;obtain⟨⟨xI,cW,data2,cu⟩,gx,cX,n2,hd2⟩:=id h2;simp only at hc hd cX hd2;subst hc hd cX hd2;show wpAny (model P w) A (richCompare .NotEq (.ref l) (.ref b)) Q E s;refine arU (op:=.NotEq) ⟨_,ho,rfl⟩ ⟨_,gx,rfl⟩ PySem.F.slot_list_ne (xf PySem.F.slot_list_ne ⟨_,ho,rfl⟩ PySem.F.entry_list_ne (PySem.F.args_list_ne_2 _ _) (ai5 l b it eR n n2 dd cW sl cu hz) ?_) hu;exact⟨ho,gx,he,show Value.bool false≠Value.notImplemented/\Q (.bool false) s from ⟨(fun x=>nomatch x),q⟩⟩
end
end HT
namespace L2
open PySem PySem.Spec PyProof.Rows
open PySem.W (KeqHits)
section
variable {X:Cx}
theorem P6{A:Around}{s:Shared}{o3:List (aN×V)}{ws:List (aN×Value)}(nd:(o3.map (·.1)).Nodup)(i5:KV o3 ws):∀{ka:List (aN×V)} {va:List (aN×Value)},KV ka va->(∀p∈ka,p∈o3/\∃r,p.2 = .ref r)->KeqHits A s ws va true
 | _,_,.nil,_=>.nil
 | _,_,.cons (a:=p) (b:=pv) rv tv,hm=>by
  obtain⟨hp,r,er⟩:=hm p cD;have hq:=afM nd (k:=p.1) (v:=p.2) hp;have rel:=i5.val p.1;rw[hq]at rel;cases hy:valueAt ws p.1 with
  | none=>rw[hy]at rel;exact rel.elim
  | some y=>
   rw[hy]at rel;have rel:RelV p.2 y:=rel;obtain⟨pk,Cu⟩:=pv;have r2:RelV p.2 Cu:=rv.2;have hk:p.1=pk:=rv.1;rw[er]at rel r2;have e:y=Cu:=by cases rel;cases r2;rfl
   subst hk e;exact .hit (e:=true) (b:=true) hy (Mg _) (P6 nd i5 tv fun q hq=>hm q (cy _ hq))
theorem ai7(hu:X.A.units+65<cLine):bK X (compareOp .NotEq) (fun x y H Q=>∃(p q a1 a2 l1 l2:Addr) (kvs:List (aN×V)) (ts:List Addr),x = .ref p/\y = .ref q/\H p=some (.lst [.ref a1,.ref l1])/\H q=some (.lst [.ref a2,.ref l2])/\a1≠a2/\l1≠l2/\H a1=some (.dK kvs)/\H a2=some (.dK kvs)/\(kvs.map (·.1)).Nodup/\(∀p∈kvs,∃r,p.2 = .ref r) /\
 H l1=some (.lst (ts.map V.ref))/\H l2=some (.lst (ts.map V.ref))/\Q (.bl false) H):=by
 intro pins s σ H x y v u Q I rx ry h;obtain⟨p,q,a1,a2,l1,l2,kvs,ts,rfl,rfl,hp,hq,na,nl,h1,h2,nd,hr,k1,k2,q'⟩:=h;cases rx;cases ry;obtain⟨_,hd,vs,rel,dd⟩:=qQ I.hok h1;obtain⟨_,jv,ws,yN,nu⟩:=qQ I.hok h2;obtain⟨i1,v1,p1,_⟩:=I.list (af.of (K:=X.K) hp);obtain⟨i2,v2,p2,_⟩:=I.list (af.of (K:=X.K) hq);obtain⟨j1,w1,m1,_⟩:=I.list (af.of (K:=X.K) k1);obtain⟨j2,w2,m2,_⟩:=I.list (af.of (K:=X.K) k2);have e1:i1 = [.ref a1,.ref l1]:=vn (Ds:=[a1,l1]) v1;have e2:i2 = [.ref a2,.ref l2]:=vn (Ds:=[a2,l2]) v2;have e3:=vn w1;have e4:=vn w2;subst e1 e2 e3 e4;have Cv:∀{a:Addr} {it:Av},PlainL s.heap a it->s.heap.IsList a it:=fun ai8=>ai8.elim fun o ai9=>ai9.elim fun n aja=>aja.elim fun e ajb=>ajb.elim fun c ajc=>ajc.elim fun _ d=>⟨o,e,c,n,d⟩;refine HT.ai6 (Cv p1) (Cv p2) rfl (by omega) (fun j h1 h2=>?_) ⟨.bl false,H,I,rfl,q'⟩;have u1:X.A.in1.units<cLine:=by show X.A.units+1<cLine;omega
 match j,h1,h2 with
 | 0,_,_=>
  refine HT.pC.refs na fun E Q q=>?_;refine PySem.W.keq_eq (knd:=cm X.prog X.w) (r:=true) hd jv dd nu u1 (fun _=>P6 nd yN rel fun p hp=>⟨hp,hr p hp⟩) ?_;have e:vs.length=ws.length:=by rw[←rel.length,←yN.length]
  rw[e,rZ];exact q
 | 1,_,_=>
  refine HT.pC.of (SeqAt.EqAt.of_refs nl ?_);have z:=SeqAt.RcAt.lists (A:=X.A.in1) (s:=s) (e:=fun _=>true) (Cv m1) (Cv m2) rfl u1 fun j _ _=>Mg _;have t:((List.range ((ts.map Value.ref).toArray.size)).all fun _=>true)=true:=dW.mpr fun _ _=>rfl;rw[t]at z;exact z
end
end L2
namespace L2
open PySem PySem.Spec PyProof.Rows
structure nK(K:Fg)(C:Addr):Prop where
 ha:PySem.W.findIn K (.ref C) "__class__" = some (some (.builtin "object.__class__"))
 hn:PySem.W.specialIn K (.builtin "object.__class__") "__get__" = some (some (.builtin "getset_descriptor.__get__"))
 htk:PySem.W.takesIn K (.builtin "object.__class__")=some true
 hm:PySem.W.mroIn K C (.type "object")=some true
section
variable {X:Cx}
theorem yO:gt X (.builtin "isinstance") (fun xs H Q=>∃a C D dx fs b,xs = [.ref a,.ref D]/\H a=some (.ins C dx fs)/\ic X.K C/\nK X.K C/\PySem.W.kitOne X.K (.ref C) (.ref D)=some b/\Q (.bl b) H):=by
 intro pins s σ H xs us Q I r h;obtain⟨a,C,D,dx,fs,b,rfl,ea,cl,i,e,q⟩:=h;obtain⟨u,u2,rfl,r1,r2⟩:=vals2 r;cases (show u2=Value.ref D from r2);exact Nu I r1 (jR.ins ea cl i.ha i.hn i.htk i.hm) e fun tk=>⟨.bl b,H,I.tok tk,rfl,q⟩
def ajd(K:Fg):R2:=fun x y H Q=>∃a b xs,x = .ref a/\y = .ref b/\af K H a xs/\af K H b []/\Q (.bl (decide (xs.length=0))) H
theorem HU(hu:X.A.units<cLine):bK X (compareOp .Eq) (ajd X.K):=by
 intro pins s σ H x y v u Q I rx ry h;obtain⟨a,b,xs,rfl,rfl,ha,hb,q⟩:=h;cases rx;cases ry;obtain⟨its,rv,pl,_⟩:=I.list ha;obtain⟨i4,q8,rc,_⟩:=I.list hb;cases q8;have hl:=Fp rv
 by_cases h0:xs.length=0
 . rw[aE h0]at q;have hz:its.toArray.size=([]:Lw).toArray.size:=by show its.length=0;omega
   refine SeqAt.eq_listAt (e:=fun _=>true) pl.isList rc.isList hz hu (fun j h1 h2=>absurd h2 (by simp)) ?_;have:(List.range its.toArray.size).all (fun _=>true)=true:=by simp
   rw[this];exact⟨.bl true,H,I,rfl,q⟩
 . rw[aR h0]at q;refine SeqAt.eq_list_lengthsAt pl.isList rc.isList (by show(its.length != 0)=true;exact bne_iff_ne.mpr (by omega)) hu ⟨.bl false,H,I,rfl,q⟩
def aje(K:Fg):Lv->Hp->VK->Prop:=fun xs H Q=>∃(p:Addr) (bs:List Bool),xs = [.ref p]/\af K H p (bs.map V.bl)/\Q (.bl (bs.any id)) H
theorem ajf(bs:List Bool):(List.range bs.length).any (fun i=>bs.getD i false)=bs.any id:=by
 rw[qy,jp,jp];constructor
 . rintro⟨i,hi,e⟩;have hi:=g9.mp hi;rw[hU,cJ hi,xg]at e;exact⟨bs[i],xj hi,e⟩
 . rintro⟨b,hb,e⟩;obtain⟨i,hi,rfl⟩:=Bp.mp hb;refine⟨i,g9.mpr hi,?_⟩;rw[hU,cJ hi,xg];exact e
theorem P7(K:Fg)(h:X.K=K:=by rfl)(hc:X.calm=true:=by rfl):gt X (.builtin "any") (aje K):=by
 subst h;intro pins s σ H xs us Q I r h;obtain⟨p,bs,rfl,hq,q⟩:=h;obtain⟨u,rfl,rx⟩:=vals1 r;cases rx;obtain⟨its,rv,pl,hz⟩:=I.list hq;have hlen:=rv.length;rw[au]at hlen;refine call_any_walk (Ft pl.isList ?_);have bn:p≠s.heap.objs.size:=by
  obtain⟨o,ho,_⟩:=pl.isList;exact bE (aZ ho)
 refine⟨_,_,_,_,_,_,fun i=>bs.getD i false,rfl,Bu (A:=X.A.in1) (I.ok.hd hc) _ p bn its.toArray,⟨⟨_,da _ rfl,rfl,rfl⟩,pl.isList.push _⟩,?_,fun h' tk kk=>?_⟩
 . intro i v s' Q' E hv dP;have hv:its[i]? = some v:=by simpa using hv
   have hi:i<bs.length:=by
    have:=(bH.mp hv).1;omega
   obtain⟨u,hu,ru⟩:=rv.get (i:=i) (x:=V.bl bs[i]) (by rw[bN,cJ hi];rfl);rw[hv]at hu;cases hu;have ru:v = .bool bs[i]:=by cases ru;rfl
   subst ru;have dP:Q' (bs.getD i false) s':=dP;rw[hU,cJ hi,xg]at dP;exact kP dP
 . have e:its.toArray.size=bs.length:=by simp;omega
   rw[e,ajf];exact⟨.bl _,H,I.kept fun b o e=>kk b o (by
    have:=aZ e;rw[cE];exact bE this) (bq _ e),rfl,q⟩
end
def yP(K:Fg)(a b:Addr):It:=
 ⟨fun i H=>∃xs ys x y,af K H a xs/\af K H b ys/\xs[i]? = some x/\ys[i]? = some y,fun i H v H'=>∃p x y,H p=none/\(∀xs,af K H a xs->xs[i]? = some x)/\(∀ys,af K H b ys->ys[i]? = some y)/\v = .ref p/\H'=aj H p (.tup [x,y]),fun i H=>∃xs ys,af K H a xs/\af K H b ys/\(xs.length<=i\/ys.length<=i)⟩
theorem ajg{P:Program}{w:World}{K:Fg}{elts:List Expr}{x1:Nat}{pos:Pos}(a b z TI TO i1 i2:Addr)(D:ZipApart z TI TO i1 i2 a b):oZ P w K (.Tuple elts x1 pos) (yP K a b) [z,TI,TO,i1,i2] z (fun i h=>IsZip h z TI TO .none/\IsPair h TI (.ref i1) (.ref i2)/\(∃u v,IsPair h TO u v)/\h.IsListIter i1 a i/\h.IsListIter i2 b i) where
 mem:=by simp
 obj:=fun i h st c hc=>by
  obtain⟨hz,lZ,⟨u,v,nL⟩,⟨o1,e1,c1,d1⟩,⟨o2,e2,c2,d2⟩⟩:=st;simp only[bw,se,sf]at hc
  rcases hc with rfl | rfl | rfl | rfl | rfl
  . exact⟨_,hz,fun v z=>by have z':Data.fields _=Data.cell v:=z;cases z'⟩
  . exact⟨_,lZ,fun v z=>by have z':Data.seq _ _=Data.cell v:=z;cases z'⟩
  . exact⟨_,nL,fun v z=>by have z':Data.seq _ _=Data.cell v:=z;cases z'⟩
  . exact⟨o1,e1,fun v z=>by rw[d1]at z;cases z⟩
  . exact⟨o2,e2,fun v z=>by rw[d2]at z;cases z⟩
 keep:=fun i h h' ajh k=>ajh.elim fun hz aji=>aji.elim fun lZ ajj=>ajj.elim fun ajk ajl=>ajl.elim fun h1 h2=>ajk.elim fun u ajm=>ajm.elim fun v nL=>⟨k z (by simp) _ hz,k TI (by simp) _ lZ,⟨u,v,k TO (by simp) _ nL⟩,h1.at fun o e=>k i1 (by simp) o e,h2.at fun o e=>k i2 (by simp) o e⟩
 item:=by
  intro X hP hw hK hc i pins s σ H E I hf st hg;subst hP hw hK;obtain⟨hz,lZ,⟨u0,v0,nL⟩,h1,h2⟩:=st;obtain⟨xs,ys,x,y,hq,ii,hx,hy⟩:=hg;obtain⟨its,rv,p,_⟩:=I.list hq;obtain⟨i4,q8,p2,_⟩:=I.list ii;obtain⟨u,hu,ru⟩:=rv.get hx;obtain⟨u2,hu2,ru2⟩:=q8.get hy;have lz:z<s.heap.objs.size:=aZ hz;have lTI:TI<s.heap.objs.size:=aZ lZ;have lTO:TO<s.heap.objs.size:=aZ nL;have l1:i1<s.heap.objs.size:=by obtain⟨o,e,_⟩:=h1;exact aZ e
  have l2:i2<s.heap.objs.size:=by obtain⟨o,e,_⟩:=h2;exact aZ e
  refine wpAny_pyNext_zip_item D hz lZ nL h1 h2 p.isList p2.isList (x:=u) (y:=u2) (by simpa using hu) (by simpa using hu2) fun h' a1 a2 a3 a4 a5 a6 cG=>⟨.ref s.heap.objs.size,rfl,?_⟩;refine wpAny_letOwnedTupleGo_zip a1 fun jy Hw sb=>?_;have sb:Heap.SameBut z h' jy:=sb;have I1:Inv X pins σ H { s with heap:=jy,toks:=s.toks }:=I.turnedL (fp:=[z,TI,TO,i1,i2]) (fun c ob hb e'=>by
   simp only[bw,se,sf,not_or]at hb;exact(sb.2 c hb.1).trans (cG c ob hb.1 hb.2.2.1 hb.2.2.2.1 hb.2.2.2.2 e')) hf
  have hn:H s.heap.objs.size=none:=I.hok.fresh (aH _);have fp:=I.fpOk (H':=H) (aH _) hn;have ph:jy.get? s.heap.objs.size=some { cls:=.type "tuple",data:=.seq #[u,u2] }:=(sb.2 _ (ki lz)).trans a5;have I2:Inv X pins σ (aj H s.heap.objs.size (.tup [x,y])) { s with heap:=jy,toks:=s.toks }:=by
   refine I1.track hn I.sz fp.2.1 fp.2.2.2.2.1 fp.2.2.2.2.2 ?_;exact⟨by show 2<=sizeLine;decide,[u,u2],.cons ru (.cons ru2 .nil),_,ph,rfl,0,rfl⟩
  have ajr:IsPair jy TI (.ref i1) (.ref i2):=(sb.2 TI D.TIz).trans (cG TI _ D.TIz D.TITO D.TIi1 D.TIi2 lZ);refine⟨.ref s.heap.objs.size,_,I2,rfl,⟨_,x,y,hn,fun jM h'=>by rw[I.list_inj h' hq];exact hx,fun aX h'=>by rw[I.list_inj h' ii];exact hy,rfl,rfl⟩,⟨Hw,ajr,⟨u,u2,(sb.2 TO D.TOz).trans a2⟩,a3.at fun o e=>(sb.2 i1 D.i1z).trans e,a4.at fun o e=>(sb.2 i2 D.i2z).trans e⟩,fun c hb=>?_⟩;have Hz:=(hf c hb).1;rw[aL,Hz];simp only[bw,se,sf]at hb
  rcases hb with rfl | rfl | rfl | rfl | rfl
  . exact bE lz
  . exact bE lTI
  . exact bE lTO
  . exact bE l1
  . exact bE l2
 done:=by
  intro X hP hw hK hc i pins s σ H E I hf st hg;subst hP hw hK;obtain⟨hz,lZ,⟨u0,v0,nL⟩,h1,h2⟩:=st;obtain⟨xs,ys,hq,ii,hx⟩:=hg;obtain⟨its,rv,p,_⟩:=I.list hq;obtain⟨i4,q8,p2,_⟩:=I.list ii;have hl:=rv.length;have qN:=q8.length;refine wpAny_pyNext_zip_end (I.ok.hd hc) D hz lZ nL h1 h2 p.isList p2.isList ?_ fun h' eb=>⟨rfl,I.turnedL (t':=s.toks) (fp:=[z,TI,TO,i1,i2]) (fun c o hb e'=>eb c o (fun q=>hb (by simp[q])) (fun q=>hb (by simp[q])) (fun q=>hb (by simp[q])) (fun q=>hb (by simp[q])) e') hf⟩
  rcases hx with hx | hx
  . exact .inl (by simp;omega)
  . exact .inr (by simp;omega)
 self:=fun _ _ _ _ _ st h=>st.elim fun hz _=>wpAny_pyIter_zip hz h
theorem ajs{N a b:Nat}(la:a<N)(lb:b<N):ZipApart (N+4) (N+2) (N+3) N (N+1) a b:=by constructor<;>(show ¬(_:Nat)=_;omega)
section
variable {X:Cx}
theorem PE.or{e:Expr}{t1 t2:TE}(h1:PE X e t1)(h2:PE X e t2):PE X e (fun σ H Q=>t1 σ H Q\/t2 σ H Q):=fun pins s σ H Q I h=>h.elim (h1 pins s σ H Q I) (h2 pins s σ H Q I)
def ajt(K:Fg)(ta:TA):TI:=fun σ H R=>ta σ H fun vs H1=>∃a b,vs = [.ref a,.ref b]/\(∃xs,af K H1 a xs)/\(∃ys,af K H1 b ys)/\R (yP K a b) H1
theorem aju{l l2:Expr}{ta:TA}{p pos p2:Pos}{elts:List Expr}{x1:Nat}(hg:Gl X "zip")(hm:X.mg "zip" = none)(ha:PA X [l,l2] ta)(he:starEach [l,l2] X.env=(false,eval l X.env)::starEach [l2] X.env:=by rfl)(cB:(backTo pos (starEach [l2] X.env)).any (·.1)=false:=by rfl) :
 PI X (.Tuple elts x1 p2) (.Call (.Name "zip" p) [l,l2] [] pos) (ajt X.K ta):=by
 intro pins s σ H R I h;refine Call_ (sj I hg hm boot_zip (L7 (thn (ha pos pins s σ H _ I h) fun us s1 ajv=>ajv.elim fun vs ajw=>ajw.elim fun H1 ajx=>ajx.elim fun I1 ajy=>ajy.elim fun r1 q1=>?_) he cB));obtain⟨a,b,e,⟨xs,hq⟩,⟨ys,ii⟩,q⟩:=q1;subst e;obtain⟨u,u2,rfl,rx,ry⟩:=vals2 r1;cases (show u=Value.ref a from rx);cases (show u2=Value.ref b from ry);obtain⟨its,rv,pl,_⟩:=I1.list hq;obtain⟨i4,q8,rc,_⟩:=I1.list ii;have la:a<s1.heap.objs.size:=by obtain⟨o,e,_⟩:=pl.isList;exact aZ e
 have lb:b<s1.heap.objs.size:=by obtain⟨o,e,_⟩:=rc.isList;exact aZ e
 refine call_zip_2 pl.isList rc.isList fun h' hz lZ nL h1 h2 hsz kp=>?_;refine wpAny_pyIter_zip hz ?_;refine⟨s1.heap.objs.size+4,[s1.heap.objs.size+4,s1.heap.objs.size+2,s1.heap.objs.size+3,s1.heap.objs.size,s1.heap.objs.size+1],_,_,H1,rfl,I1.kept (t':=s1.toks) kp,ajg a b _ _ _ _ _ (ajs la lb),⟨hz,lZ,⟨_,_,nL⟩,h1,h2⟩,fun c hb=>?_,q⟩;have e:s1.heap.objs.size<=c:=by
  simp only[bw,se,sf]at hb
  rcases hb with rfl | rfl | rfl | rfl | rfl
  . exact MR _ _
  . exact MR _ _
  . exact MR _ _
  . exact aH _
  . exact MR _ _
 exact I1.fpOk e (I1.hok.fresh e)
theorem ajz{K:Fg}{a b:Addr}{xs ys:Lv}{g:TG}{tb:TS}{D:Ends}{σ:St}{H:Hp}(el:xs.length=ys.length)(Pv:Nat->St->Hp->Prop)(h0:Pv 0 σ H)(hl:∀i σ H,i<=xs.length->Pv i σ H->af K H a xs/\af K H b ys)
 (hs:∀i x y p σ H,xs[i]? = some x->ys[i]? = some y->Pv i σ H->H p=none->g (.ref p) σ (aj H p (.tup [x,y])) fun σ2 H2=>tb { D with nx:=Pv (i+1),ct:=Pv (i+1),bk:=D.nx } σ2 H2) (hd:∀σ H,Pv xs.length σ H->D.nx σ H) :
 ∃W:Nat->Nat->St->Hp->Prop,(∃m,W 0 m σ H)/\∀i m σ H,W i m σ H ->
  ((yP K a b).stop i H/\D.nx σ H)\/((yP K a b).go i H/\∃N:St->Hp->Prop,(∀σ' H',N σ' H'->∃m',m'<m/\W (i+1) m' σ' H')/\∀x H',(yP K a b).yld i H x H'->g x σ H' fun σ2 H2=>tb { D with nx:=N,ct:=N,bk:=D.nx } σ2 H2):=by
 refine⟨fun i m σ H=>m=xs.length - i/\i<=xs.length/\Pv i σ H,⟨xs.length,by simp,dO _,h0⟩,?_⟩;rintro i m σ H ⟨rfl,hi,p⟩;obtain⟨q1,q2⟩:=hl i σ H hi p
 by_cases aD:i<xs.length
 . have ajA:i<ys.length:=by omega
   refine .inr ⟨⟨xs,ys,xs[i],ys[i],q1,q2,by simp[aD],by simp[ajA]⟩,Pv (i+1),fun σ' H' p'=>⟨xs.length - (i+1),by omega,rfl,aD,p'⟩,fun x H' y=>?_⟩;obtain⟨c,x',y',hb,e1,e2,rfl,rfl⟩:=y;exact hs i x' y' c σ _ (e1 xs q1) (e2 ys q2) p hb
 . have e:i=xs.length:=by omega
   subst e;exact .inl ⟨⟨xs,ys,q1,q2,.inl (aH _)⟩,hd σ H p⟩
end
end L2
namespace HT
open PySem PyProof.Rows
def pD(A:Around)(s:Shared)(y x:Value)(b:Bool):Prop:=
 ∀(prog:Program) (w:World) (E:VP) (Q:VP),Q (.bool b) s->wpAny (model prog w) A (richCompare .Gt y x) Q E s
inductive j3 (A:Around) (s:Shared):Lw->Lw->Bool->Prop
 | nil {ws:Lw}:j3 A s [] ws false
 | more {v:Value} {vs:Lw}:j3 A s (v::vs) [] true
 | eq {v w:Value} {vs ws:Lw} {r:Bool}:SeqAt.EqAt A s v w true->j3 A s vs ws r->j3 A s (v::vs) (w::ws) r
 | ne {v w:Value} {vs ws:Lw} {r:Bool}:SeqAt.EqAt A s v w false->pD A s v w r->j3 A s (v::vs) (w::ws) r
section
open PySem.SeqAt
open PySem.AutoSeq1 (wpAny_loadPart')
open PySem.MeetsSeq PySem.MeetsSeq2 PySem.MeetsSeq3
theorem ajB(l b:Addr)(items br:Av)(n n2:Nat)(dd cW:Oa)(sl cu:Array (Option Value))(k:Nat):∀(i:Nat) (vs ws:Lw) (r:Bool),items.toList.drop i=vs->br.toList.drop i=ws->i<=items.size->i<=br.size->vs.length=k ->
 Meets (Builtin.«list.__eq__.loop» ⟨[.ref l,.ref b,rawInt i,rawInt 4],[]⟩) (fun A R s=>s.heap.get? l=some { cls:=.type "list",dict:=dd,data:=.seq items n,slots:=sl }/\s.heap.get? b=some { cls:=.type "list",dict:=cW,data:=.seq br n2,slots:=cu } /\
  j3 A.in1 s vs ws r/\R (.ok (.ret (.bool r))) s):=by
 have stop:∀(i:Nat) (v:Bool),(items[i]? = none\/br[i]? = none)->v=decide (br.size<items.size)->Meets (Builtin.«list.__eq__.loop» ⟨[.ref l,.ref b,rawInt i,rawInt 4],[]⟩) (fun A R s=>s.heap.get? l=some { cls:=.type "list",dict:=dd,data:=.seq items n,slots:=sl }/\s.heap.get? b=some { cls:=.type "list",dict:=cW,data:=.seq br n2,slots:=cu }/\R (.ok (.ret (.bool v))) s):=by
  intro i v hn hv prog w A R s h;obtain⟨hp,g,d,tk,os⟩:=s;obtain⟨hl,hb,h⟩:=h
  wp_walk using wpAny_loadPart' hl,wpAny_loadPart' hb
  have e:((i:Nat):Int).toNat=i:=Bi i;rw[e];rw[hv]at h
  rcases hn with hn | hn
  . rw[hn]
    wp_walk using wpAny_loadPart' hl,wpAny_loadPart' hb
    exact h
  . rw[hn];cases items[i]? with
    | none=>
     wp_walk using wpAny_loadPart' hl,wpAny_loadPart' hb
     exact h
    | some x=>
     wp_walk using wpAny_loadPart' hl,wpAny_loadPart' hb
     exact h
 induction k with
 | zero=>
  intro i vs ws r e1 e2 l1 l2 hk prog w A R s h;obtain⟨hl,hb,hg,h⟩:=h;have ev:=uJ.mp hk;rw[ev]at hg e1;obtain⟨q1,q2⟩:=OJ e1;cases hg;exact stop i false (.inl q1) (aR (by omega)).symm prog w A R s ⟨hl,hb,h⟩
 | succ k ih=>
  intro i vs ws r e1 e2 l1 l2 hk prog w A R s h;obtain⟨hl,hb,hg,h⟩:=h;cases hg with
  | nil=>cases hk
  | more=>
   have p1:=yi e1;obtain⟨q1,q2⟩:=OJ e2;exact stop i true (.inr q1) (aE (by omega)).symm prog w A R s ⟨hl,hb,h⟩
  | eq he hg=>
   have p1:=yi e1;have p2:=yi e2;obtain⟨g1,r1⟩:=Cc e1;obtain⟨g2,r2⟩:=Cc e2;obtain⟨hp,g,d,tk,os⟩:=s
   wp_walk using wpAny_loadPart' hl,wpAny_loadPart' hb
   have e:((i:Nat):Int).toNat=i:=Bi i;rw[e,g1,g2];refine ac (he prog w _ _ ?_)
   wp_walk
   have hc:((i:Int)+1)=((i+1:Nat):Int):=by omega
   rw[hc];refine⟨kn uM _,ko MQ ?_⟩;rw[kR uM _];exact ih (i+1) _ _ _ r1 r2 p1 p2 (by simpa using hk) prog w A R _ ⟨hl,hb,hg,h⟩
  | ne he hv=>
   have p1:=yi e1;have p2:=yi e2;obtain⟨g1,r1⟩:=Cc e1;obtain⟨g2,r2⟩:=Cc e2;obtain⟨hp,g,d,tk,os⟩:=s
   wp_walk using wpAny_loadPart' hl,wpAny_loadPart' hb
   have e:((i:Nat):Int).toNat=i:=Bi i;rw[e,g1,g2];refine ac (he prog w _ _ ?_);have o5:=hv prog w
   wp_walk using wpAny_loadPart' hl,wpAny_loadPart' hb
   rw[g1,g2]
   wp_walk using o5
   first | exact h | exact⟨_,rfl,by simpa using h⟩
theorem ajC(l b:Addr)(items br:Av)(n n2:Nat)(dd cW:Oa)(sl cu:Array (Option Value))(r:Bool) :
 Meets (Builtin.«list.__gt__» ⟨[.ref l,.ref b],[]⟩) (fun A R s=>s.heap.get? l=some { cls:=.type "list",dict:=dd,data:=.seq items n,slots:=sl }/\s.heap.get? b=some { cls:=.type "list",dict:=cW,data:=.seq br n2,slots:=cu } /\
  j3 A.in1 s items.toList br.toList r/\R (.ok (.ret (.bool r))) s):=by
 intro prog w A R s h;obtain⟨hp,g,d,tk,os⟩:=s;obtain⟨hl,hb,hg,h⟩:=h;have f3:=aso
 wp_walk using wpAny_loadPart' hl,wpAny_loadPart' hb
 refine⟨kn uM _,ko MQ ?_⟩;rw[kR uM _];exact ajB l b items br n n2 dd cW sl cu _ 0 _ _ r rfl rfl (dO _) (dO _) rfl prog w A R _ ⟨hl,hb,hg,h⟩
theorem ajD(l b:Addr)(items br:Av)(n n2:Nat)(dd cW:Oa)(sl cu:Array (Option Value))(r:Bool) :
 Meets (Builtin.«tuple.__gt__» ⟨[.ref l,.ref b],[]⟩)
  (fun A R s=>s.heap.get? l=some { cls:=.type "tuple",dict:=dd,data:=.seq items n,slots:=sl }/\s.heap.get? b=some { cls:=.type "tuple",dict:=cW,data:=.seq br n2,slots:=cu } /\
   j3 A.in1 s items.toList br.toList r/\R (.ok (.ret (.bool r))) s):=
 .of_wp fun prog w A R s h=>by
  obtain⟨hp,g,d,tk,os⟩:=s;obtain⟨hl,hb,hg0,h⟩:=h;have f2:=Mc
  wp_walk using wpAny_loadPart' hl,wpAny_loadPart' hb,qx _ (fun rest b s'=>b.1=none/\s'=⟨hp,g,d,tk,os⟩/\∃(vs ws:Lw),rest=vs.zip ws /\
   j3 A.in1 ⟨hp,g,d,tk,os⟩ vs ws r/\vs.length+br.size=ws.length+items.size) _
  case turn=>
   rintro⟨y,x⟩ rest b s' ⟨fc,rfl,vs,ws,hz,hg,hlen⟩;cases hg with
   | nil=>rw[Me]at hz;cases hz
   | more=>rw[Mf]at hz;cases hz
   | eq he hg=>
    rw[oK]at hz;injection hz with lQ no
    injection lQ with hy hx
    subst hy hx;simp only[bF]at hlen;refine ac (he prog w _ _ ?_)
    wp_walk
    exact⟨rfl,rfl,_,_,no,hg,by omega⟩
   | ne he hv=>
    rw[oK]at hz;injection hz with lQ no
    injection lQ with hy hx
    subst hy hx;refine ac (he prog w _ _ ?_);have o5:=hv prog w
    wp_walk using o5
    exact⟨_,rfl,by simpa using h⟩
  case fin=>
   rintro⟨b1,b2⟩ s' ⟨fc,rfl,vs,ws,hz,hg,hlen⟩;simp only at fc;subst fc;have hv:r=decide (br.size<items.size):=by
    cases hg with
    | nil=>
     simp only[jo]at hlen;exact(aR (by omega)).symm
    | more=>
     simp only[jo,bF]at hlen;exact(aE (by omega)).symm
    | eq _ _=>rw[oK]at hz;cases hz
    | ne _ _=>rw[oK]at hz;cases hz
   rw[hv]at h
   wp_walk
   exact⟨_,rfl,by simpa [Builtin.Tuple.tupleCompareSizes]using h⟩
  case h=>
   exact⟨rfl,rfl,items.toList,br.toList,rfl,hg0,by simp[Nat.add_comm]⟩
end
section
variable {A:Around} {s:Shared}
theorem pD.lists{l b:Addr}{items br:Av}{r:Bool}(hl:s.heap.IsList l items)(hb:s.heap.IsList b br)(hg:j3 A.in1 s items.toList br.toList r)(hu:A.units<cLine):pD A s (.ref l) (.ref b) r:=fun prog w E Q h=>by
 obtain⟨⟨cls,dd,data,sl⟩,ho,hc,n,hd⟩:=id hl;obtain⟨⟨xI,cW,data2,cu⟩,gx,cX,n2,hd2⟩:=id hb;simp only at hc hd cX hd2;subst hc hd cX hd2;exact FC (op:=.Gt) ⟨_,ho,rfl⟩ ⟨_,gx,rfl⟩ PySem.F.slot_list_gt PySem.F.entry_list_gt (PySem.F.args_list_gt_2 _ _) (ajC l b items br n n2 dd cW sl cu r)
  ⟨ho,gx,hg,show Value.bool r≠Value.notImplemented/\Q (.bool r) s from ⟨(fun x=>nomatch x),h⟩⟩ hu
theorem pD.tuples{l b:Addr}{items br:Av}{r:Bool}(hl:IsTup s.heap l items)(hb:IsTup s.heap b br)(hg:j3 A.in1 s items.toList br.toList r)(hu:A.units<cLine):pD A s (.ref l) (.ref b) r:=fun prog w E Q h=>by
 obtain⟨⟨cls,dd,data,sl⟩,ho,hc,n,hd⟩:=id hl;obtain⟨⟨xI,cW,data2,cu⟩,gx,cX,n2,hd2⟩:=id hb;simp only at hc hd cX hd2;subst hc hd cX hd2;exact FC (op:=.Gt) ⟨_,ho,rfl⟩ ⟨_,gx,rfl⟩ PySem.F.slot_tuple_gt PySem.F.entry_tuple_gt (PySem.F.args_tuple_gt_2 _ _) (ajD l b items br n n2 dd cW sl cu r)
  ⟨ho,gx,hg,show Value.bool r≠Value.notImplemented/\Q (.bool r) s from ⟨(fun x=>nomatch x),h⟩⟩ hu
theorem P8{A:Around}{s:Shared}:∀{vs ws:Lw} {ns ms:List Int},IntsAre vs ns->IntsAre ws ms->j3 A s vs ws (lexLt ms ns)
 | _,_,_,_,.nil,.nil=>.nil
 | _,_,_,_,.nil,.cons _ _ _=>.nil
 | _,_,_,_,.cons _ _ _,.nil=>.more
 | _,_,_,_,.cons a t hv,.cons c u hw=>by
  rw[o4];obtain⟨e,he,hi⟩:=xF A s a t c u
  by_cases z:a=c
  . rw[hi.mpr z]at he;rw[ap z.symm];exact .eq he (P8 hv hw)
  . rw[eX.mpr fun w=>z (hi.mp w)]at he;rw[ah fun w=>z w.symm];exact .ne he fun prog w E Q h=>PY A s a t c u prog w E Q h
end
def nQ:Ll->Ll->Bool
 | [],_=>false
 | _::_,[]=>true
 | x::xs,y::ys=>if x=y then nQ xs ys else lexLt y x
def l7(n:Int)(xs:Ll)(m:Int)(ys:Ll):Bool:=if n=m then nQ xs ys else decide (m<n)
theorem HV:∀xs:Ll,nQ xs xs=false
 | []=>rfl
 | x::xs=>by
  rw[nQ,ap rfl];exact HV xs
theorem P9:∀xs ys zs:Ll,nQ xs ys=true->nQ ys zs=true->nQ xs zs=true
 | [],_,_,h,_=>by cases h
 | _::_,[],_,_,h=>by cases h
 | _::_,_::_,[],_,_=>rfl
 | x::xs,y::ys,z::zs,h,k=>by
  rw[nQ]at h k ⊢
  by_cases a:x=y
  . rw[ap a]at h
    by_cases b:y=z
    . rw[ap b]at k;rw[ap (a.trans b)];exact P9 xs ys zs h k
    . rw[ah b]at k;rw[ah (a▸b),a];exact k
  . rw[ah a]at h
    by_cases b:y=z
    . rw[←b,ah a];exact h
    . rw[ah b]at k;have t:=L2.ye _ _ _ k h;rw[ah fun w=>by rw[w,L2.OE]at t;cases t];exact t
theorem ajF(n:Int)(xs:Ll):l7 n xs n xs=false:=by rw[l7,ap rfl];exact HV xs
theorem ajG{n m k:Int}{xs ys zs:Ll}(h:l7 n xs m ys=true)(h':l7 m ys k zs=true):l7 n xs k zs=true:=by
 unfold l7 at h h' ⊢
 by_cases a:n=m
 . rw[ap a]at h
   by_cases b:m=k
   . rw[ap b]at h';rw[ap (a.trans b)];exact P9 _ _ _ h h'
   . rw[ah b]at h';rw[ah (a▸b),a];exact h'
 . rw[ah a]at h;have h:=bd h
   by_cases b:m=k
   . rw[←b,ah a];exact aE h
   . rw[ah b]at h';have h':=bd h';rw[ah (by omega)];exact aE (by omega)
end HT
namespace L2
open PySem PySem.Spec PyProof.Rows
def pE(H:Hp)(v:V)(m:List Int):Prop:=∃t,v = .ref t/\H t=some (.tup (m.map V.int))
theorem pE.same{H H':Hp}(s:ag H H'){v:V}{m:List Int}(h:pE H v m):pE H' v m:=h.elim fun t ajH=>ajH.elim fun a b=>⟨t,a,s _ _ b⟩
def nU(m:List Int):PySem.W.Dat:=.tuple (m.map PySem.W.Dat.int)
theorem vD(k:Nat)(m:List Int):PySem.W.kqdOk (k+1) (nU m)=true:=by
 show(m.map PySem.W.Dat.int).all (PySem.W.kqdOk k)=true;rw[MV];refine dW.mpr fun i _=>?_;cases k<;>rfl
theorem HW{a b:List Int}(h:nU a=nU b):a=b:=by
 unfold nU at h;injection h with h
 induction a generalizing b with
 | nil=>
  cases b with
  | nil=>rfl
  | cons y b=>cases h
 | cons x a ih=>
  cases b with
  | nil=>cases h
  | cons y b=>
   rw[b9,b9]at h;injection h with h1 h2
   injection h1 with h1
   rw[h1,ih h2]
theorem ajI{a b:Ll}(h:a.map nU=b.map nU):a=b:=by
 induction a generalizing b with
 | nil=>
  cases b with
  | nil=>rfl
  | cons y b=>cases h
 | cons x a ih=>
  cases b with
  | nil=>cases h
  | cons y b=>
   rw[b9,b9]at h;injection h with h1 h2
   rw[HW h1,ih h2]
section
variable {X:Cx} {pins:Po} {σ:St} {H:Hp} {s:Shared}
theorem yQ{K:Fg}{v:V}{m:List Int}(h:pE H v m):DV K H v (nU m):=by
 obtain⟨t,rfl,h⟩:=h;exact .tup (aw.of h) (B0 _)
theorem HX{K:Fg}:∀{vs:Lv} {ms:Ll},Paired (pE H) vs ms->k6 K H vs (ms.map nU)
 | _,_,.nil=>.nil
 | _,_,.cons h r=>.cons (yQ h) (HX r)
theorem HY(A:Around)(hu:A.units+65<cLine)(I:Inv X pins σ H s){x y:V}{v u:Value}{d e:PySem.W.Dat}(rx:RelV x v)(ry:RelV y u)(hd:DV X.K H x d)(he:DV X.K H y e)(od:PySem.W.kqdOk 9 d=true)(oe:PySem.W.kqdOk 9 e=true) :
 ∃b,SeqAt.EqAt A.in1 s v u b/\(b=true↔d=e):=by
 obtain⟨as,ra⟩:=hd.reads I rx;obtain⟨bs,rb⟩:=he.reads I ry;exact⟨_,PySem.W.keq_at (A:=A) ra rb (vh od) (vh oe) (by show A.units+1+64<cLine;omega),UK 9 d e 9 od oe⟩
theorem Qa(A:Around)(hu:A.units+65<cLine)(I:Inv X pins σ H s):∀{xs ys:Lv} {us ws:Lw} {ns ms:Ll},Paired (pE H) xs ns->Paired (pE H) ys ms->a8 xs us->a8 ys ws->HT.j3 A.in1 s us ws (HT.nQ ns ms)
 | _,_,_,_,_,_,.nil,_,.nil,_=>.nil
 | _,_,_,_,_,_,.cons _ _,.nil,.cons _ _,.nil=>.more
 | _,_,_,_,_,_,.cons (b:=n) (l₂:=ns) h hs,.cons (b:=m) (l₂:=ms) k ks,.cons r rs,.cons q qs=>by
  rw[HT.nQ];obtain⟨e,he,hi⟩:=HY A hu I r q (yQ h) (yQ k) (vD 8 n) (vD 8 m)
  by_cases z:n=m
  . rw[ap z];rw[hi.mpr (by rw[z])]at he;exact .eq he (Qa A hu I hs ks rs qs)
  . rw[ah z];rw[eX.mpr fun w=>z (HW (hi.mp w))]at he;obtain⟨t,rfl,ht⟩:=h;obtain⟨t',rfl,yR⟩:=k;cases r;cases q;obtain⟨Hv,v1,p1,_⟩:=I.tuple (aw.of (K:=X.K) ht);obtain⟨eR,v2,p2,_⟩:=I.tuple (aw.of (K:=X.K) yR);exact .ne he (HT.pD.tuples p1 p2 (HT.P8 (by simpa using intsAre_of v1) (by simpa using intsAre_of v2)) (by show A.units+1<cLine;omega))
def pF(H:Hp)(kt:Addr)(n:Int)(xs:Ll):Prop:=∃l zs,H kt=some (.tup [.int n,.ref l])/\H l=some (.lst zs)/\Paired (pE H) zs xs
theorem pF.same{H H':Hp}(s:ag H H'){kt:Addr}{n:Int}{xs:Ll}(h:pF H kt n xs):pF H' kt n xs:=h.elim fun l ajJ=>ajJ.elim fun zs ajK=>ajK.elim fun a ajL=>ajL.elim fun b c=>⟨l,zs,s _ _ a,s _ _ b,aM c fun _ _=>pE.same s⟩
theorem Qb(A:Around)(hu:A.units+68<cLine)(I:Inv X pins σ H s){a b:Addr}{n m:Int}{xs ys:Ll}(h:pF H a n xs)(k:pF H b m ys):HT.pD A s (.ref a) (.ref b) (HT.l7 n xs m ys):=by
 obtain⟨l1,zs,h1,h2,h3⟩:=h;obtain⟨l2,ws,k1,k2,k3⟩:=k;obtain⟨Hv,v1,p1,_⟩:=I.tuple (aw.of (K:=X.K) h1);obtain⟨eR,v2,p2,_⟩:=I.tuple (aw.of (K:=X.K) k1);refine HT.pD.tuples p1 p2 ?_ (by omega);cases v1 with
 | cons e1 t1=>
  cases v2 with
  | cons e2 t2=>
   obtain⟨vt,rfl⟩:=(show∃tk,_=Value.int n tk from e1);obtain⟨HZ,rfl⟩:=(show∃tk,_=Value.int m tk from e2);cases t1 with
   | cons f1 g1=>
    cases t2 with
    | cons f2 g2=>
     cases f1;cases f2;cases g1;cases g2;show HT.j3 A.in1 s [Value.int n vt,.ref l1] [Value.int m HZ,.ref l2] _;unfold HT.l7;obtain⟨e,he,hi⟩:=HT.xF A.in1 s n vt m HZ
     by_cases z:n=m
     . rw[ap z];rw[hi.mpr z]at he;refine .eq he ?_;obtain⟨e',qX,lc⟩:=HY (x:=.ref l1) (y:=.ref l2) A (by omega) I rfl rfl (.lst (af.of h2) (HX h3)) (.lst (af.of k2) (HX k3)) (by
        show(xs.map nU).all (PySem.W.kqdOk 8)=true;rw[MV];exact dW.mpr fun i _=>vD 7 i) (by
        show(ys.map nU).all (PySem.W.kqdOk 8)=true;rw[MV];exact dW.mpr fun i _=>vD 7 i)
       by_cases y:xs=ys
       . rw[lc.mpr (by rw[y])]at qX;rw[y,HT.HV];exact .eq qX .nil
       . have ef:e'=false:=eX.mpr fun w=>y (by have w:=lc.mp w;injection w with w;exact ajI w);rw[ef]at qX;obtain⟨j1,w1,m1,_⟩:=I.list (af.of (K:=X.K) h2);obtain⟨j2,w2,m2,_⟩:=I.list (af.of (K:=X.K) k2);exact .ne qX (HT.pD.lists m1.isList m2.isList (by simpa using Qa A.in1 (by show A.units+1+65<cLine;omega) I h3 k3 w1 w2) (by show A.units+1<cLine;omega))
     . rw[ah z];rw[eX.mpr fun w=>z (hi.mp w)]at he;exact .ne he fun prog w E Q h=>HT.PY A.in1 s n vt m HZ prog w E Q h
theorem ajM(hu:X.A.in1.units+68<cLine)(n:Nat)(ns:Nat->Int)(ks:Nat->Ll):Cp X n (fun i H kt=>pF H kt (ns i) (ks i)) (fun i j=>HT.l7 (ns i) (ks i) (ns j) (ks j)) (fun _=>True):=by
 refine⟨fun s h=>h.same s,fun a b c h k=>HT.ajG h k,fun a=>HT.ajF _ _,trivial,fun _ _ _ _ _=>trivial,?_⟩;intro i j kt kb pins σ H s Q E _ hi hn I h1 h2 q;exact Qb X.A.in1 hu I h1 h2 _ _ E Q q
def ajN:R2:=fun x y H Q=>∃a b n m xs ys,x = .ref a/\y = .ref b/\pF H a n xs/\pF H b m ys/\Q (.bl (HT.l7 n xs m ys)) H
theorem ajO(hu:X.A.units+68<cLine):bK X (compareOp .Gt) ajN:=by
 intro pins s σ H x y v u Q I rx ry h;obtain⟨a,b,n,m,xs,ys,rfl,rfl,ha,hb,q⟩:=h;cases rx;cases ry;exact Qb X.A hu I ha hb _ _ _ _ ⟨.bl _,H,I,rfl,q⟩
end
end L2
abbrev atC:PySem.Str:="shelf"
abbrev atD:PySem.Str:="decided"
abbrev atE:PySem.Str:="name"
abbrev atF:PySem.Str:="wishes"
abbrev atG:PySem.Str:="self"
abbrev atH:PySem.Str:="_law_cell"
abbrev atJ:PySem.Str:="parcel"
abbrev atK:PySem.Str:="_law_names_here"
abbrev atL:PySem.Str:="is_within"
abbrev atM:PySem.Str:="chosen"
abbrev atN:PySem.Str:="_law_parcels_here"
abbrev atO:PySem.Str:="_law_k"
abbrev atP:PySem.Str:="_law_chosen"
abbrev atQ:PySem.Str:="make"
abbrev atR:PySem.Str:="number"
abbrev atU:PySem.Str:="does_meet"
abbrev atV:PySem.Str:="parcels"
abbrev atW:PySem.Str:="_law_one"
abbrev atX:PySem.Str:="_law_script"
abbrev atY:PySem.Str:="_law_draw"
abbrev atZ:PySem.Str:="with_case"
abbrev at0:PySem.Str:="cases_of"
abbrev at1:PySem.Str:="claim"
abbrev at2:PySem.Str:="parcel_decided"
abbrev at5:PySem.Str:="holds_where"
abbrev at6:PySem.Str:="reason"
abbrev at7:PySem.Str:="other"
abbrev at8:PySem.Str:="files"
abbrev at9:PySem.Str:="makes_of"
abbrev aua:PySem.Str:="rank"
abbrev aub:PySem.Str:="_law_name"
abbrev auc:PySem.Str:="_law_cell_at"
abbrev aud:PySem.Str:="needs"
abbrev aue:PySem.Str:="paths_of"
abbrev auf:PySem.Str:="is_place"
abbrev aug:PySem.Str:="set_decided"
abbrev auh:PySem.Str:="_law_wishes"
abbrev aui:PySem.Str:="path"
abbrev auj:PySem.Str:="_law_now"
abbrev auk:PySem.Str:="meeting"
abbrev aul:PySem.Str:="paper_for"
abbrev aum:PySem.Str:="_law_names"
abbrev aun:PySem.Str:="is_done_by"
abbrev auo:PySem.Str:="reason_for"
abbrev aup:PySem.Str:="_law_claim"
abbrev auq:PySem.Str:="_law_other"
abbrev aur:PySem.Str:="paper"
abbrev aus:PySem.Str:="case"
abbrev aut:PySem.Str:="faults_of"
abbrev auu:PySem.Str:="is_broken"
abbrev auv:PySem.Str:="_law_claim_here"
abbrev auw:PySem.Str:="shuts"
abbrev aux:PySem.Str:="is_wish_broken"
abbrev auy:PySem.Str:="is_need_broken"
abbrev auz:PySem.Str:="is_shut_broken"
abbrev auA:PySem.Str:="things"
abbrev auB:PySem.Str:="papers"
abbrev auC:PySem.Str:="_law_lines"
abbrev auD:PySem.Str:="lines"
abbrev auE:PySem.Str:="clash_faults"
abbrev auF:PySem.Str:="makes_listed"
abbrev auG:PySem.Str:="best_set"
abbrev auH:PySem.Str:="_law_parcels"
abbrev auI:PySem.Str:="wish"
abbrev auJ:PySem.Str:="_law_path"
abbrev auK:PySem.Str:="need_faults"
abbrev auL:PySem.Str:="shut_faults"
abbrev auM:PySem.Str:="keys_unlike"
abbrev auN:PySem.Str:="_law_parcel"
abbrev auO:PySem.Str:="offers"
abbrev auP:PySem.Str:="names"
abbrev auQ:PySem.Str:="parcels_of"
abbrev auR:PySem.Str:="is_decided"
abbrev auS:PySem.Str:="_law_meets"
abbrev auT:PySem.Str:="_law_sound"
abbrev auU:PySem.Str:="_law_worth"
abbrev auV:PySem.Str:="least"
abbrev auW:PySem.Str:="below"
abbrev auX:PySem.Str:="second"
abbrev auY:PySem.Str:="_law_made"
abbrev auZ:PySem.Str:="_law_sets"
abbrev au0:PySem.Str:="_law_wish"
abbrev au1:PySem.Str:="_law_worth_here"
abbrev au2:PySem.Str:="is_sound"
abbrev au3:PySem.Str:="width_of"
abbrev au4:PySem.Str:="may_meet"
abbrev au5:PySem.Str:="is_clash"
abbrev au6:PySem.Str:="_law_met"
abbrev au7:PySem.Str:="first"
abbrev au8:PySem.Str:="_law_paths"
abbrev au9:PySem.Str:="shelved"
abbrev ava:PySem.Str:="sets_of"
abbrev avb:PySem.Str:="are_met"
abbrev avc:PySem.Str:="_law_at"
abbrev avd:PySem.Str:="holds"
namespace K42
open PySem L2
open HT (At gj fm)
structure dB where
 nm:Str
 ls:List Int
 bl:Oi
structure aS where
 nm:Str
 ms:List Int
 rk:Int
 fs:List (Str×Ls)
 ns:List dB
 ss:List dB
 os:Ls
abbrev Lp:=List aS
def re(ms:List Int):Oi->Bool
 | none=>true
 | some b=>HT.lexLt ms b
def bB(c:dB)(p:aS):Bool:=(decide (c.nm=p.nm) && (!HT.lexLt p.ms c.ls && re p.ms c.bl)) || (nr (.str c.nm) (p.os.map V.str) && (decide (c.ls = []) && c.bl.isNone))
def dQ{α β:Type}(f:Nat->α->List β):List α->Nat->List β
 | [],_=>[]
 | x::r,k=>f k x++dQ f r (k+1)
theorem Qc{α β:Type}{f:Nat->α->List β}:∀{l m:List α} {k:Nat},dQ f (l++m) k=dQ f l k++dQ f m (k+l.length)
 | [],m,k=>rfl
 | x::r,m,k=>by
  show f k x++dQ f (r++m) (k+1)=(f k x++dQ f r (k+1))++dQ f m (k+(r.length+1));rw[Qc,oR,show k+1+r.length=k+(r.length+1) by omega]
theorem gB{α:Type}{l:List α}{i:Nat}{x:α}(h:l[i]? = some x):l.take (i+1)=l.take i++[x]:=by
 rw[List.take_succ,h];rfl
theorem ajP{α:Type}{l:List α}{i:Nat}{x:α}(h:l[i]? = some x):(l.take i).length=i:=by
 rw[db];have:=(bH.mp h).1;omega
theorem Qe{α β:Type}{f:Nat->α->List β}{l:List α}{i:Nat}{x:α}(h:l[i]? = some x):dQ f (l.take (i+1)) 0=dQ f (l.take i) 0++f i x:=by
 rw[gB h,Qc,ajP h,Bo];show _++(f i x++[])=_;rw[dG]
theorem yS{α β:Type}{f:α->List β}{l:List α}{i:Nat}{x:α}(h:l[i]? = some x):(l.take (i+1)).flatMap f=(l.take i).flatMap f++f x:=by
 rw[gB h,List.flatMap_append];simp
theorem pG{α:Type}{f:α->Bool}{l:List α}{i:Nat}{x:α}(h:l[i]? = some x):(l.take (i+1)).filter f=(l.take i).filter f++(if f x=true then [x] else []):=by
 rw[gB h,FU]
 by_cases q:f x=true
 . rw[ap q];simp[q]
 . rw[ah q];simp[q]
theorem Cw{α β:Type}{f:Nat->α->List β}{y:β}:∀{l:List α} {k:Nat},y∈dQ f l k->∃i x,x∈l/\k<=i/\y∈f i x
 | [],k,h=>by cases h
 | x::r,k,h=>by
  rcases eg.mp h with h | h
  . exact⟨k,x,.head _,aH _,h⟩
  . obtain⟨i,z,a,b,c⟩:=Cw h;exact⟨i,z,.tail _ a,by omega,c⟩
theorem Ia{α β:Type}{f g:Nat->α->List β}(h:∀i x,(f i x).Perm (g i x)):∀{l:List α} {k:Nat},(dQ f l k).Perm (dQ g l k)
 | [],_=>.refl _
 | x::r,k=>(h k x).append (Ia h)
theorem Cy{α β:Type}{f:Nat->α->List β}{m:Nat}(h:∀i x,(f i x).length<=m):∀{l:List α} {k:Nat},(dQ f l k).length<=l.length * m
 | [],_=>by simp[dQ]
 | x::r,k=>by
  show(f k x++dQ f r (k+1)).length<=(r.length+1) * m;rw[bc,MM];have:=h k x;have:=Cy h (l:=r) (k:=k+1);omega
theorem Ib{α β:Type}{f:Nat->α->List β}(h1:∀i x,(f i x).Nodup)(h2:∀i j x z y,i<j->y∈f i x->y∉f j z):∀{l:List α} {k:Nat},(dQ f l k).Nodup
 | [],_=>uI
 | x::r,k=>by
  show(f k x++dQ f r (k+1)).Nodup;refine FM.mpr ⟨h1 k x,Ib h1 h2,fun a ha b hb e=>?_⟩;subst e;obtain⟨i,z,_,c,d⟩:=Cw hb;exact h2 k i x z a (by omega) ha d
def nV:Str:="need"
def li:Str:="shut"
def l8:Str:="clash"
def dC(x y:Str):Bool:=decide (x.cps.toList<y.cps.toList)
def jA(p:aS)(ps:Lp)(i:Nat)(c:dB):List (List At):=if ps.filter (bB c) = [] then [[.inr nV,.inr p.nm,.inl i]] else []
def jB(p:aS)(ps:Lp):Lp:=ps.filter fun o=>decide (o.nm≠p.nm)
def rf(p:aS)(ps:Lp)(i:Nat)(c:dB):List (List At):=((jB p ps).filter (bB c)).map fun o=>[.inr li,.inr p.nm,.inl i,.inr o.nm]
def bu(p:aS):Ls:=p.fs.map (·.1)
def vE(p o:aS):Ls:=(bu p).filter fun x=>decide (x∈bu o)
def kE(p o:aS):List (List At):=(vE p o).map fun x=>[.inr l8,.inr p.nm,.inr o.nm,.inr x]
def nW(p:aS)(ps:Lp):List (List At):=dQ (jA p ps) p.ns 0
def pH(p:aS)(ps:Lp):List (List At):=dQ (rf p ps) p.ss 0
def rg(p:aS)(ps:Lp):List (List At):=(ps.filter fun o=>dC p.nm o.nm).flatMap (kE p)
def fo(ps:Lp)(p:aS):List (List At):=nW p ps++pH p ps++rg p ps
def kF(ps:Lp):List (List At):=ps.flatMap (fo ps)
theorem Qf{α β:Type}{f g:α->List β}(h:∀x,(f x).Perm (g x)):∀l:List α,(l.flatMap f).Perm (l.flatMap g)
 | []=>.refl _
 | x::r=>by rw[kS,kS];exact(h x).append (Qf h r)
theorem Qg{α β:Type}{f:α->List β}{l m:List α}(h:l.Perm m):(l.flatMap f).Perm (m.flatMap f):=by
 induction h with
 | nil=>exact .refl _
 | cons x _ ih=>rw[kS,kS];exact(U1 _).append ih
 | swap x y l=>
  rw[kS,kS,kS,kS,←oR,←oR];exact List.perm_append_comm.append (.refl _)
 | trans _ _ a b=>exact a.trans b
theorem ajQ{ps qs:Lp}(h:ps.Perm qs)(p:aS):(fo ps p).Perm (fo qs p):=by
 refine((Ia fun i c=>?_).append (Ia fun i c=>?_)).append ?_
 . unfold jA;have e:(ps.filter (bB c) = [])↔(qs.filter (bB c) = []):=by
    have z:=h.filter (bB c);constructor
    . intro a;rw[a]at z;exact z.nil_eq.symm
    . intro a;rw[a]at z;exact z.eq_nil
   by_cases q:ps.filter (bB c) = []
   . rw[ap q,ap (e.mp q)]
   . rw[ah q,ah (fun a=>q (e.mpr a))]
 . exact((h.filter _).filter _).map _
 . exact Qg (h.filter _)
theorem ajR{ps qs:Lp}(h:ps.Perm qs):(kF ps).Perm (kF qs):=(Qg h).trans (Qf (ajQ h) qs)
inductive Kd:List At->Prop
 | need (n:Str) (i:Nat):Kd [.inr nV,.inr n,.inl i]
 | shut (n:Str) (i:Nat) (o:Str):Kd [.inr li,.inr n,.inl i,.inr o]
 | clash (n o x:Str):Kd [.inr l8,.inr n,.inr o,.inr x]
theorem Ic{p:aS}{ps:Lp}{a:List At}(h:a∈nW p ps):∃i:Nat,a = [.inr nV,.inr p.nm,.inl i]:=by
 obtain⟨i,c,_,_,h⟩:=Cw h;unfold jA at h;split at h
 . exact⟨i,cE.mp h⟩
 . cases h
theorem Ie{p:aS}{ps:Lp}{a:List At}(h:a∈pH p ps):∃(i:Nat) (o:Str),a = [.inr li,.inr p.nm,.inl i,.inr o]:=by
 obtain⟨i,c,_,_,h⟩:=Cw h;obtain⟨o,_,rfl⟩:=be.mp h;exact⟨i,o.nm,rfl⟩
theorem Qh{p:aS}{ps:Lp}{a:List At}(h:a∈rg p ps):∃o x:Str,a = [.inr l8,.inr p.nm,.inr o,.inr x]:=by
 obtain⟨o,_,h⟩:=lJ.mp h;obtain⟨x,_,rfl⟩:=be.mp h;exact⟨_,_,rfl⟩
theorem Ig{p:aS}{ps:Lp}{a:List At}(h:a∈fo ps p):Kd a/\a[1]? = some (.inr p.nm):=by
 rcases eg.mp h with h | h
 . rcases eg.mp h with h | h
   . obtain⟨i,rfl⟩:=Ic h;exact⟨.need _ _,rfl⟩
   . obtain⟨i,o,rfl⟩:=Ie h;exact⟨.shut _ _ _,rfl⟩
 . obtain⟨o,x,rfl⟩:=Qh h;exact⟨.clash _ _ _,rfl⟩
theorem Cz{ps:Lp}{a:List At}(h:a∈kF ps):Kd a:=by
 obtain⟨p,_,h⟩:=lJ.mp h;exact(Ig h).1
theorem ajS{a:List At}(h:Kd a):∃x r,a = .inr x::r:=by
 cases h<;>exact⟨_,_,rfl⟩
theorem Ih:nV≠li:=by decide +kernel
theorem Ii:nV≠l8:=by decide +kernel
theorem Ij:li≠l8:=by decide +kernel
theorem iI{x y:At}{r t:List At}(h:x≠y->HT.kin x y)(h2:x=y->fm r t):fm (x::r) (y::t):=by
 show if x=y then fm r t else HT.kin x y
 by_cases e:x=y
 . rw[ap e];exact h2 e
 . rw[ah e];exact h e
theorem Ik{r:List At}:fm [] r:=by
 cases r<;>trivial
theorem ajT{a b:List At}(ha:Kd a)(hb:Kd b):fm a b:=by
 cases ha with
 | need n i=>
  cases hb with
  | need m j=>exact iI (fun _=>trivial) fun _=>iI (fun _=>trivial) fun _=>iI (fun _=>trivial) fun _=>Ik
  | shut m j q=>exact iI (fun _=>trivial) fun e=>absurd (jn e) Ih
  | clash m q y=>exact iI (fun _=>trivial) fun e=>absurd (jn e) Ii
 | shut n i o=>
  cases hb with
  | need m j=>exact iI (fun _=>trivial) fun e=>absurd (jn e).symm Ih
  | shut m j q=>exact iI (fun _=>trivial) fun _=>iI (fun _=>trivial) fun _=>iI (fun _=>trivial) fun _=>iI (fun _=>trivial) fun _=>Ik
  | clash m q y=>exact iI (fun _=>trivial) fun e=>absurd (jn e) Ij
 | clash n o x=>
  cases hb with
  | need m j=>exact iI (fun _=>trivial) fun e=>absurd (jn e).symm Ii
  | shut m j q=>exact iI (fun _=>trivial) fun e=>absurd (jn e).symm Ij
  | clash m q y=>exact iI (fun _=>trivial) fun _=>iI (fun _=>trivial) fun _=>iI (fun _=>trivial) fun _=>iI (fun _=>trivial) fun _=>Ik
theorem Qi{α β:Type}{f:α->β}{l:List α}(inj:∀a b,f a=f b->a=b)(h:l.Nodup):(l.map f).Nodup:=List.Pairwise.map f (fun a b ne e=>ne (inj a b e)) h
theorem Il{α β:Type}{f:α->β}:∀{l:List α},(l.map f).Nodup->∀{q:α->Bool},((l.filter q).map f).Nodup
 | l,h,q=>List.Nodup.sublist ((Vf).map f) h
theorem ajU{p:aS}{ps:Lp}(hn:(ps.map (·.nm)).Nodup)(hp:(bu p).Nodup):(fo ps p).Nodup:=by
 refine FM.mpr ⟨FM.mpr ⟨?_,?_,?_⟩,?_,?_⟩
 . refine Ib (fun i c=>?_) fun i j c d y gQ h1 h2=>?_
   . unfold jA;split
     . simp
     . exact uI
   . unfold jA at h1 h2;split at h1
     . split at h2
       . have e:=(cE.mp h1).symm.trans (cE.mp h2);simp only[L5,Sum.inl.injEq]at e;omega
       . cases h2
     . cases h1
 . refine Ib (fun i c=>?_) fun i j c d y gQ h1 h2=>?_
   . have z:=Il (Il hn (q:=fun o=>decide (o.nm≠p.nm))) (q:=bB c);have w:=Qi (f:=fun n:Str=>([.inr li,.inr p.nm,.inl (i:Int),.inr n]:List At)) (fun a b e=>by simpa using e) z;rw[uN]at w;exact w
   . obtain⟨o,_,e1⟩:=be.mp h1;obtain⟨o',_,e2⟩:=be.mp h2;have e:=e1.trans e2.symm;simp only[L5,Sum.inl.injEq]at e;omega
 . intro a ha b hb e;obtain⟨i,rfl⟩:=Ic ha;obtain⟨j,o,e2⟩:=Ie hb;rw[e2]at e;exact Ih (by injection e with e _;exact jn e)
 . refine asp.mpr ⟨fun o _=>Qi (fun a b e=>by simpa using e) (List.Nodup.sublist Vf hp),?_⟩;have z:(ps.filter fun o=>dC p.nm o.nm).Pairwise fun a b=>a.nm≠b.nm:=xm.mp (Il hn (q:=fun o=>dC p.nm o.nm));refine z.imp fun {a b} ne x hx y hy e=>?_;obtain⟨u,_,e1⟩:=be.mp hx;obtain⟨v,_,e2⟩:=be.mp hy;have e:=(e1.trans e).trans e2.symm;simp only[L5,Sum.inr.injEq]at e;exact ne e.2.2.1
 . intro a ha b hb e;obtain⟨o,x,e2⟩:=Qh hb;rw[e2]at e
   rcases eg.mp ha with ha | ha
   . obtain⟨i,rfl⟩:=Ic ha;exact Ii (by injection e with e _;exact jn e)
   . obtain⟨i,o,rfl⟩:=Ie ha;exact Ij (by injection e with e _;exact jn e)
theorem ajV{ps:Lp}(hn:(ps.map (·.nm)).Nodup)(hp:∀p∈ps,(bu p).Nodup):(kF ps).Nodup:=by
 refine asp.mpr ⟨fun p h=>ajU hn (hp p h),(xm.mp hn).imp fun {a b} ne x hx y hy e=>?_⟩;have e1:=(Ig hx).2;have e2:=(Ig hy).2;rw[e,e2]at e1;exact ne (jn (eK e1)).symm
def CA:Nat->Nat
 | 0=>0
 | n+1=>n+CA n
structure lj(p:aS):Prop where
 ns:p.ns.length<=2
 ss:p.ss.length<=2
 fs:p.fs.length<=3
 nd:(bu p).Nodup
theorem ajW{α:Type}{q:α->Bool}{x:α}{l:List α}(hx:x∈l)(h:q x=false):(l.filter q).length+1<=l.length:=by
 induction l with
 | nil=>cases hx
 | cons y r ih=>
  rw[FV,bF]
  rcases bw.mp hx with rfl | hx
  . rw[ah (by rw[h];simp)];exact FW (gK _ _)
  . have:=ih hx;split
    . rw[bF];omega
    . omega
theorem Im{α β:Type}{f:α->List β}{m:Nat}(h:∀x,(f x).length<=m):∀l:List α,(l.flatMap f).length<=l.length * m
 | []=>by simp
 | x::r=>by
  rw[kS,bc,bF,MM];have:=h x;have:=Im h r;omega
theorem ajX{ps pre post:Lp}{p:aS}(hf:lj p)(e:ps=pre++p::post)(so:ps.Pairwise fun a b=>dC a.nm b.nm=true):(fo ps p).length+2<=2+2 * ps.length+3 * post.length:=by
 have hp:p∈ps:=by rw[e];simp
 have l1:(nW p ps).length<=2 * 1:=bS (Cy (m:=1) fun i c=>by unfold jA;split<;>simp) (MW 1 hf.ns);have o1:(jB p ps).length+1<=ps.length:=ajW hp (by simp);have l2:(pH p ps).length<=2 * (jB p ps).length:=bS (Cy (m:=(jB p ps).length) fun i c=>by
  unfold rf;rw[au];exact gK _ _) (MW _ hf.ss)
 have irr:∀a:Str,dC a a=false:=fun a=>aR (MK _);have asy:∀a b:Str,dC a b=true->dC b a=false:=fun a b h=>aR fun z=>MK _ (List.lt_trans (bd h) z);have b1:(ps.filter fun o=>dC p.nm o.nm).length<=post.length:=by
  rw[e]at so ⊢;obtain⟨s1,s2,s3⟩:=List.pairwise_append.mp so;rw[FU,FV,ah (by rw[irr];simp)];have:pre.filter (fun o=>dC p.nm o.nm) = []:=FX.mpr fun a ha=>by rw[asy _ _ (s3 a ha p (.head _))];simp
  rw[this,qC];exact gK _ _
 have l3:(rg p ps).length<=post.length * 3:=bS (Im (m:=3) (fun o=>by
  unfold kE vE bu;rw[au];exact bS (gK _ _) (by rw[au];exact hf.fs)) _) (MW 3 b1)
 unfold fo;rw[bc,bc];omega
theorem Qj{ps:Lp}(hf:∀p∈ps,lj p)(so:ps.Pairwise fun a b=>dC a.nm b.nm=true):∀(post pre:Lp),ps=pre++post->(post.flatMap (fo ps)).length<=2 * ps.length * post.length+3 * CA post.length
 | [],pre,e=>by simp
 | p::post,pre,e=>by
  have ih:=Qj hf so post (pre++[p]) (by rw[e];simp);have h1:=ajX (hf p (by rw[e];simp)) e so;rw[kS,bc,bF,FY];show _<=_+3 * (post.length+CA post.length);omega
theorem ajZ{ps:Lp}(hf:∀p∈ps,lj p)(so:ps.Pairwise fun a b=>dC a.nm b.nm=true)(h4:ps.length<=4):(kF ps).length<64:=by
 have h:=Qj hf so ps [] rfl;unfold kF;have:ps.length=0\/ps.length=1\/ps.length=2\/ps.length=3\/ps.length=4:=by omega
 rcases this with z | z | z | z | z<;>rw[z]at h<;>simp only[CA]at h<;>omega
theorem aj0{α:Type}:∀{l m:List α},l.Nodup->m.Nodup->(∀x,x∈l↔x∈m)->l.Perm m:=fun h1 h2 h=>(Vg h1 h2).mpr h
end K42
namespace K42
open PySem L2
def bt(i:Nat):Stmt:=PySem.Challenge.pw_parcelmend_k42_best_challenged.main.body.getD i (.Pass ⟨0,0,0,0⟩)
abbrev rh:Stmt:=kZ (bt 10) 0
abbrev tj:Stmt:=kZ (bt 11) 0
abbrev lm:Stmt:=kZ (bt 11) 1
abbrev iJ:Stmt:=kZ (bt 11) 2
abbrev kG:Stmt:=kZ (bt 11) 3
abbrev tq:Stmt:=kZ (bt 39) 0
abbrev iK:Stmt:=kZ (bt 22) 0
abbrev ri:Stmt:=kZ (bt 23) 0
abbrev pJ:Stmt:=kZ (bt 23) 1
abbrev rj:Stmt:=kZ (bt 24) 0
abbrev rm:Stmt:=kZ (bt 24) 1
abbrev tu:Stmt:=kZ (bt 40) 0
abbrev j4:Stmt:=bt 5
abbrev vF:Stmt:=bt 6
abbrev CB:Stmt:=bt 7
abbrev nX:Stmt:=bt 9
abbrev CD:Stmt:=bt 13
abbrev yT:Stmt:=bt 14
abbrev CF:Stmt:=bt 15
abbrev vG:Stmt:=bt 16
abbrev CH:Stmt:=bt 17
abbrev CJ:Stmt:=bt 18
abbrev CM:Stmt:=bt 19
abbrev vH:Stmt:=bt 20
abbrev pK:Stmt:=bt 25
abbrev pL:Stmt:=bt 26
abbrev CO:Stmt:=bt 27
abbrev yU:Stmt:=bt 28
abbrev yV:Stmt:=bt 29
abbrev vI:Stmt:=bt 30
abbrev CP:Stmt:=bt 31
abbrev CQ:Stmt:=bt 32
abbrev CU:Stmt:=bt 33
abbrev CV:Stmt:=bt 34
abbrev CW:Stmt:=bt 35
abbrev CY:Stmt:=bt 41
abbrev CZ:Stmt:=bt 42
abbrev tw:Stmt:=bt 43
abbrev C0:Stmt:=bt 44
abbrev yW:Stmt:=bt 45
abbrev C1:Stmt:=bt 46
abbrev yX:Stmt:=bt 47
abbrev yY:Stmt:=bt 48
abbrev yZ:Stmt:=bt 50
abbrev pM:Stmt:=bt 51
abbrev y0:Stmt:=bt 52
abbrev y6:Stmt:=bt 53
abbrev C2:Stmt:=bt 54
abbrev C3:Stmt:=bt 55
abbrev C4:Stmt:=bt 56
abbrev C5:Stmt:=bt 57
abbrev C6:Stmt:=bt 58
abbrev C7:Stmt:=bt 59
abbrev C8:Stmt:=bt 60
abbrev C9:Stmt:=bt 61
abbrev Db:Stmt:=bt 62
abbrev pN:Stmt:=bt 63
structure bX(mg:Mv):Prop where
 range:mg "range" = none
 len:mg "len" = none
 list:mg "list" = none
 dict:mg "dict" = none
 tuple:mg "tuple" = none
 sorted:mg "sorted" = none
 enumerate:mg "enumerate" = none
 isinstance:mg "isinstance" = none
 bool:mg "bool" = none
 int:mg "int" = none
 str:mg "str" = none
 any:mg "any" = none
 zip:mg "zip" = none
 set:mg "set" = none
 all:mg "all" = none
 max:mg "max" = none
theorem aj1{x:Str}(ok:ie x){r:Int}(h0:0<=r)(h1:r<x.length):∃c,bT x.cps.toList r=some c/\c<0x110000:=by
 obtain⟨n,rfl⟩:∃n:Nat,r=n:=⟨r.toNat,by omega⟩;have hn:n<x.cps.toList.length:=by
  have:x.cps.toList.length=x.length:=by simp[Str.length]
  omega
 exact⟨_,dY (cJ hn),xQ.mp ok _ (xj hn)⟩
def rn:Str:="abcdefghijklmnopqrstuvwxyz"
theorem aj2:ie rn:=by decide +kernel
theorem Dc:rn.length=26:=by decide +kernel
theorem Io(n:Int):∃c,bT rn.cps.toList (n % 26)=some c/\c<0x110000:=aj1 aj2 (by omega) (by rw[Dc];omega)
theorem Qk{a b c d:V}(n:Int){R:V->Prop}(ha:R a)(hb:R b)(hc:R c)(hd:R d):∃v,bT [a,b,c,d] (n % 4)=some v/\R v:=by
 have h:n % 4=0\/n % 4=1\/n % 4=2\/n % 4=3:=by omega
 rcases h with h | h | h | h<;>rw[h]
 . exact⟨_,rfl,ha⟩
 . exact⟨_,rfl,hb⟩
 . exact⟨_,rfl,hc⟩
 . exact⟨_,rfl,hd⟩
theorem Iq{a b c:V}(n:Int){R:V->Prop}(ha:R a)(hb:R b)(hc:R c):∃v,bT [a,b,c] (n % 3)=some v/\R v:=by
 have h:n % 3=0\/n % 3=1\/n % 3=2:=by omega
 rcases h with h | h | h<;>rw[h]
 . exact⟨_,rfl,ha⟩
 . exact⟨_,rfl,hb⟩
 . exact⟨_,rfl,hc⟩
def cZ(H:Hp)(b:V):Oi->Prop
 | none=>b = .non
 | some bs=>∃a,b = .ref a/\H a=some (.tup (bs.map V.int))
def dL(H:Hp)(v:V)(c:dB):Prop:=∃t l b,v = .ref t/\H t=some (.tup [.str c.nm,.ref l,b])/\H l=some (.tup (c.ls.map V.int))/\cZ H b c.bl
theorem cZ.same{H H':Hp}{b:V}{o:Oi}(s:ag H H')(h:cZ H b o):cZ H' b o:=by
 cases o with
 | none=>exact h
 | some bs=>
  obtain⟨a,e1,e2⟩:=h;exact⟨a,e1,s _ _ e2⟩
theorem dL.same{H H':Hp}{v:V}{c:dB}(s:ag H H')(h:dL H v c):dL H' v c:=by
 obtain⟨t,l,b,e,h1,h2,h3⟩:=h;exact⟨t,l,b,e,s _ _ h1,s _ _ h2,h3.same s⟩
section
variable {P:Program} {w:World} {K:Fg} {mg:Mv} {base:Heap}
def Ir(K:Fg):Sp:=fun vs H Q _=>∃(a:Addr) (k:Int) (ns:List Int),vs = [.ref a,.int k]/\0<=k/\af K H a (ns.map V.int)/\∀n:Int,Q (.int n) H
theorem aj3:bh [atX,atO] [atX,atO] (aI yZ):=⟨rfl,rfl,rfl,by decide +kernel,rfl,by decide +kernel,by decide +kernel⟩
theorem Ql{f:Addr}{fd:Fy}(F:ai K auc auc yZ f fd)(B:bX mg):ak P w K mg base ao 1 f fd [atX,atO] (Ir K):=by
 refine F.ok aj3 (fun vs H Q E h=>?_) (fun aF A outer s H vs Q E hr h=>?_)
 . obtain⟨a,k,ns,rfl,_⟩:=h;rfl
 . refine bo ?_;intro xX dX;obtain⟨a,k,ns,rfl,k0,hA,q⟩:=h;refine⟨_,(az (cp (bA Gp (pv 1) (bZ gy (by rfl) B.len hX (aa (pv 0) ae)) (ba _))
    (aB (aO (aQ gO (pv 0) (pv 1) (fun _ _=>rfl)))) cr)
    (aB (aO ar))),?_⟩
   refine qW ?_;intro dD sS dM;refine⟨_,rfl,_,rfl,a,_,rfl,.inl hA,_,_,rfl,rfl,_,rfl,?_⟩;refine aJ (fun h=>?_) (fun h=>?_)
   . have h':=bd h;rw[au]at h';obtain⟨z,hz,_⟩:=N1 (ns:=ns) (r:=k) k0 h';exact⟨_,rfl,_,rfl,a,_,_,_,rfl,rfl,hA,hz,q z⟩
   . exact q 0
def Qm(c k:Int):Int:=(c+7919 * k+1) * 48271 % 2147483647 * ((c+7919 * k+1) * 48271 % 2147483647 / 1009+69621) % 2147483647
def vJ:Sp:=fun vs H Q _=>∃c k:Int,vs = [.int c,.int k]/\-1000<=k/\k<=1000/\∀n:Int,n=Qm c k->Q (.int n) H
theorem Qn:bh [atH,atO,"_law_number"] [atH,atO] (aI pM):=⟨rfl,rfl,rfl,by decide +kernel,rfl,by decide +kernel,by decide +kernel⟩
theorem y7{f:Addr}{fd:Fy}(F:ai K atY atY pM f fd):ak P w K mg base ao 1 f fd [atH,atO] vJ:=by
 refine F.ok Qn (fun vs H Q E h=>?_) (fun aF A outer s H vs Q E hr h=>?_)
 . obtain⟨c,k,rfl,_⟩:=h;rfl
 . refine bo ?_;intro xX dX;obtain⟨c,k,rfl,k0,k1,q⟩:=h;refine⟨_,(az (bi (i:=2) Qn.nd rfl (Or.inl rfl) (aU dr (aU qK (aU gu (aU gu (pv 0) (aU qK ar (pv 1))) ar) ar) ar))
    (aB (aO (aU dr (aU qK (pv 2) (aU gu (aU Gm (pv 2) ar) ar)) ar)))),?_⟩
   refine qW ?_;intro dD sS dM;refine⟨_,rfl,_,rfl,_,_,rfl,rfl,.inl ⟨by omega,by omega⟩,_,_,rfl,rfl,_,_,rfl,rfl,_,_,rfl,rfl,.inr ⟨by omega,by omega⟩,_,_,rfl,rfl,(by show(0:Int)<2147483647;decide),?_⟩;refine⟨_,rfl,_,rfl,_,_,rfl,rfl,⟨by omega,by omega⟩,_,_,rfl,rfl,_,_,rfl,rfl,.inl ⟨by omega,by omega⟩,_,_,rfl,rfl,(by show(0:Int)<2147483647;decide),?_⟩;exact q _ rfl
structure Dd(xs:Ls):Prop where
 len:xs.length=6
 all:∀x∈xs,ie x
def Iu:Sp:=fun vs H Q _=>∃c:Int,vs = [.int c]/\∀l H' xs,H l=none->ag H H'->H' l=some (.lst (xs.map V.str))->Dd xs->Q (.ref l) H'
theorem De:bh [atH,"_law_small","_law_head","_law_tail"] [atH] (aI y0):=⟨rfl,rfl,rfl,by decide +kernel,rfl,by decide +kernel,by decide +kernel⟩
theorem Qo{f fq:Addr}{fd iL:Fy}(F:ai K aum aum y0 f fd)(B:bX mg)(bC:ai K atY atY pM fq iL)(b8:mg atY = some (.ref fq)):ak P w K mg base ao 2 f fd [atH] Iu:=by
 have dg:ak P w K mg base ao 1 fq iL [atH,atO] vJ:=y7 bC;have dh:=bC.binds2 (l:=[atH,atO]) (fun _ _ _ _ _ _ _ _=>rfl);refine F.ok De (fun vs H Q E h=>?_) (fun aF A outer s H vs Q E hr h=>?_)
 . obtain⟨c,rfl,_⟩:=h;rfl
 . refine bo ?_;intro xX dX;obtain⟨c,rfl,q⟩:=h;refine⟨_,(az (bi (i:=1) De.nd rfl (Or.inr rfl) gL)
    (az (bi (i:=2) De.nd rfl (Or.inr rfl) (aU PP (aQ GF (pv 1) (aU dr (aG dg hr rfl b8 bC.kp dh .nil av (aa (pv 0) (aa ar ae))) ar) (fun _ _=>rfl)) (aU dr (aG dg hr rfl b8 bC.kp dh .nil av (aa (pv 0) (aa ar ae))) ar)))
    (az (bi (i:=3) De.nd rfl (Or.inr rfl) (aU PP (aQ GF (pv 1) (aU dr (aG dg hr rfl b8 bC.kp dh .nil av (aa (pv 0) (aa ar ae))) ar) (fun _ _=>rfl)) (aU dr (aG dg hr rfl b8 bC.kp dh .nil av (aa (pv 0) (aa ar ae))) ar)))
    (aB (aO (dw [atO] ["_law_head","_law_small",atH,"_law_tail"] [2,1,0,3] ⟨rfl,by decide +kernel,by decide +kernel,by decide +kernel,by decide +kernel,rfl,rfl,rfl⟩ rfl (o0 rfl B.range (aa ar ae)) (fun _ _ _ _=>(aT (i:=0) (show List.Nodup ([atO,"_law_head","_law_small",atH,"_law_tail"]:Ls) by decide +kernel) rfl (Or.inl rfl))) (fun _ _ _ _=>fh) (fun _ _ _ _=>(aU Np (aU Np (pv 1) (aQ GF (pv 2) (aU dr (aU gu (aG dg hr rfl b8 bC.kp dh .nil av (aa (pv 3) (aa ar ae))) (aU qK ar (pv 0))) ar) (fun _ _=>rfl))) (pv 4))))))))),?_⟩
   refine pp ?_;intro dD sS kH eS dM;have l1:∀z,(⟨#[z]⟩:Str).length=1:=fun z=>adv z;refine⟨_,rfl,_,rfl,_,_,rfl,by decide,by decide,fun d0 _=>?_⟩;obtain⟨z0,hz0,zb0⟩:=Io d0;refine⟨_,_,rfl,rfl,(by show(0:Int)<26;decide),_,_,z0,rfl,rfl,GP (by show rn.length<=100;rw[Dc];decide),hz0,_,rfl,_,_,rfl,by decide,by decide,fun d1 _=>?_⟩;refine⟨_,_,rfl,rfl,(by show(0:Int)<4;decide),_,_,rfl,rfl,by omega,by omega,by rw[l1];decide,GN zb0,fun hd hdo Pm=>?_⟩;rw[l1]at Pm;refine⟨_,rfl,_,rfl,_,_,rfl,by decide,by decide,fun d2 _=>?_⟩;obtain⟨z2,Dh,zb2⟩:=Io d2;refine⟨_,_,rfl,rfl,(by show(0:Int)<26;decide),_,_,z2,rfl,rfl,GP (by show rn.length<=100;rw[Dc];decide),Dh,_,rfl,_,_,rfl,by decide,by decide,fun d3 _=>?_⟩;refine⟨_,_,rfl,rfl,(by show(0:Int)<4;decide),_,_,rfl,rfl,by omega,by omega,by rw[l1];decide,GN zb2,fun tl tlo tll=>?_⟩;rw[l1]at tll;have asV:hd.length<=3:=by omega
   have asW:tl.length<=3:=by omega
   refine⟨6,rfl,by omega,by omega,?_⟩;refine vj (σ0:=[none,some (.str hd),some (.str rn),some (.int c),some (.str tl)]) (fun σ=>∃v,σ = [v,some (.str hd),some (.str rn),some (.int c),some (.str tl)]) (fun i ys _=>∃xs:Ls,ys=xs.map V.str/\xs.length=i/\∀x∈xs,ie x) ⟨_,rfl⟩ (fun _ _=>⟨[],rfl,rfl,fun _ h=>nomatch h⟩) ?_ ?_
   . intro D i ys σ H2 k hD hi pO jv hs ro hk;refine b0 ?_;intro tT;obtain⟨v,rfl⟩:=pO;obtain⟨xs,rfl,hx,hl⟩:=ro;have hi6:i<6:=by simpa using hi
     refine⟨_,rfl,_,rfl,_,rfl,_,_,rfl,by decide,by decide,fun d4 _=>?_⟩;obtain⟨z,hz,zb⟩:=Io (d4+5 * (0+(i:Int)));refine⟨_,rfl,_,_,rfl,rfl,.inl ⟨by omega,by omega⟩,_,_,rfl,rfl,_,_,rfl,rfl,(by show(0:Int)<26;decide),_,_,z,rfl,rfl,GP (by show rn.length<=100;rw[Dc];decide),hz,_,_,rfl,rfl,fit (by omega) (by rw[l1];decide),_,rfl,_,_,rfl,rfl,fit (by rw[adu,l1];omega) (by omega),?_⟩;refine hk _ _ _ ⟨_,rfl⟩ (ag.refl _) (bj (by rw[au];omega)) ⟨xs++[_],Od xs _,by rw[bc,hx];rfl,fun y hy=>?_⟩
     rcases eg.mp hy with hy | hy
     . exact hl y hy
     . rw[cE.mp hy];exact NZ (NZ hdo (GN zb)) tlo
   . intro D ys H2 hD jv hs rp;obtain⟨xs,rfl,hx,hl⟩:=rp;exact q D H2 xs hD hs jv ⟨hx,hl⟩
end
theorem aka{κ:Type}[DecidableEq κ]{kvs:List (κ×V)}{k:κ}(h:k∉kvs.map (·.1)):bP kvs k=none:=by
 cases e:bP kvs k with
 | none=>rfl
 | some v=>exact absurd (GL e) h
section
variable {κ β:Type} [DecidableEq κ] {F:κ×V->β->Prop} {key:β->κ}
theorem Di(hk:∀kv p,F kv p->kv.1=key p):∀{kvs:List (κ×V)} {ps:List β},Paired F kvs ps->kvs.map (·.1)=ps.map key
 | _,_,.nil=>rfl
 | _,_,.cons r t=>by rw[b9,b9,hk _ _ r,Di hk t]
end
structure Txt(K:Fg)(mg:Mv)(C:Addr):Prop where
 cl:ic K C
 nN:gM K C atE
 nM:gM K C atQ
 nR:gM K C aua
 nF:gM K C at8
 nE:gM K C aud
 nS:gM K C auw
 nO:gM K C auO
 mgC:mg "Parcel" = some (.ref C)
structure Iw(fl:List (Str×V))(nm mk rk:V)(pf pn ps po:Addr):Prop where
 name:fl.lookup (atE:Str)=some nm
 make:fl.lookup (atQ:Str)=some mk
 rank:fl.lookup (aua:Str)=some rk
 files:fl.lookup (at8:Str)=some (.ref pf)
 needs:fl.lookup (aud:Str)=some (.ref pn)
 shuts:fl.lookup (auw:Str)=some (.ref ps)
 offers:fl.lookup (auO:Str)=some (.ref po)
def tz(nm mk rk:V)(pf pn ps po:Addr):List (Str×V):=aA auO (.ref po) (aA auw (.ref ps) (aA aud (.ref pn) (aA at8 (.ref pf) (aA aua rk (aA atQ mk (aA atE nm []))))))
theorem akb(nm mk rk:V)(pf pn ps po:Addr):Iw (tz nm mk rk pf pn ps po) nm mk rk pf pn ps po:=by
 unfold tz;constructor
 . rw[bL,ah (by decide +kernel),bL,ah (by decide +kernel),bL,ah (by decide +kernel),bL,ah (by decide +kernel),bL,ah (by decide +kernel),bL,ah (by decide +kernel),bL,ap rfl]
 . rw[bL,ah (by decide +kernel),bL,ah (by decide +kernel),bL,ah (by decide +kernel),bL,ah (by decide +kernel),bL,ah (by decide +kernel),bL,ap rfl]
 . rw[bL,ah (by decide +kernel),bL,ah (by decide +kernel),bL,ah (by decide +kernel),bL,ah (by decide +kernel),bL,ap rfl]
 . rw[bL,ah (by decide +kernel),bL,ah (by decide +kernel),bL,ah (by decide +kernel),bL,ap rfl]
 . rw[bL,ah (by decide +kernel),bL,ah (by decide +kernel),bL,ap rfl]
 . rw[bL,ah (by decide +kernel),bL,ap rfl]
 . rw[bL,ap rfl]
section
variable {P:Program} {w:World} {K:Fg} {mg:Mv} {base:Heap}
structure Qp(K:Fg)(H:Hp)(xs:Lv)(fs:List (V×Lv)):Prop where
 len:xs.length=fs.length
 item:∀(i:Nat) (p:V) (ls:Lv),fs[i]? = some (p,ls)->∃t l,xs[i]? = some (.ref t)/\aw K H t [p,.ref l]/\af K H l ls
structure Dj(H H':Hp)(D:Addr)(xs:Lv)(fs:List (V×Lv))(k:Nat):Prop where
 len:xs.length=k
 item:∀(i:Nat) (p:V) (ls:Lv),i<k->fs[i]? = some (p,ls)->∃t l,xs[i]? = some (.ref t)/\H t=none/\H l=none/\t≠D/\l≠D/\H' t=some (.tup [p,.ref l])/\H' l=some (.lst ls)
def y8:Expr:=match (cF rh).getD 3 (.Pass ⟨0,0,0,0⟩) with
 | .Assign _ e _=>e
 | _=>.Constant .none 0 ⟨0,0,0,0⟩
def tD:Scope:=match y8 with
 | .ListComp _ _ sc _=>sc
 | _=>{ kind:=.function,names:=[],isGenerator:=false,isCoroutine:=false }
def Qq:Expr:=match y8 with
 | .ListComp e _ _ _=>e
 | _=>.Constant .none 0 ⟨0,0,0,0⟩
def Ix:Expr:=match y8 with
 | .ListComp _ [⟨t,_,_,_⟩] _ _=>t
 | _=>.Constant .none 0 ⟨0,0,0,0⟩
def Qs:Expr:=match y8 with
 | .ListComp _ [⟨_,t,_,_⟩] _ _=>t
 | _=>.Constant .none 0 ⟨0,0,0,0⟩
theorem Iy(X:Cx):k7 X [aui,auD] [] [] tD:=⟨rfl,by decide +kernel,by decide +kernel,by decide +kernel,by decide +kernel,rfl,rfl,rfl⟩
def Qt(K:Fg):Lv->Hp->VK->Prop:=fun xs H Q=>∃p ys,xs = [.ref p]/\(af K H p ys\/aw K H p ys)/\∀l,H l=none->Q (.ref l) (aj H l (.lst ys))
theorem akc{X:Cx}(hc:X.calm=true)(s₀:Shared)(H₀:Hp)(C₀:Addr)(ex:List Addr):PG (cL X (([aui,auD]:Ls)++([]:Ls)) tD s₀ H₀ C₀ ex) Ix (BN X.K 2 (xB (qH 0) (xB (qH 1) Gc))):=
 sk (X:=cL X (([aui,auD]:Ls)++([]:Ls)) tD s₀ H₀ C₀ ex) hc (gf (aT (i:=0) (Iy X).nd rfl (Or.inl rfl)) (gf (aT (i:=1) (Iy X).nd rfl (Or.inl rfl)) ng))
theorem akd{X:Cx}(ti:X.mg "list" = none)(s₀:Shared)(H₀:Hp)(C₀:Addr)(ex:List Addr):PE (cL X (([aui,auD]:Ls)++([]:Ls)) tD s₀ H₀ C₀ ex) Qq (Gu (lN (uT 0) (lN (BU (Qt X.K) (lN (uT 1) gN)) gN))):=
 Nv (X:=cL X (([aui,auD]:Ls)++([]:Ls)) tD s₀ H₀ C₀ ex) (aa (pv 0) (aa (gh (xL (X:=cL X (([aui,auD]:Ls)++([]:Ls)) tD s₀ H₀ C₀ ex)) (by rfl) ti oS (aa (pv 1) ae)) ae))
theorem ake{X:Cx}{wi:TI}(hc:X.calm=true)(ti:X.mg "list" = none)(hi:PI X Ix Qs wi):PE X y8 (GR wi 2 [] (BN X.K 2 (xB (qH 0) (xB (qH 1) Gc))) sJ (Gu (lN (uT 0) (lN (BU (Qt X.K) (lN (uT 1) gN)) gN)))):=
 dw [aui,auD] [] [] (elt:=Qq) (tg:=Ix) (iter:=Qs) (ifs:=[]) (sc:=tD) (Iy X) hc hi (akc hc) (fun _ _ _ _=>fh) (akd ti)
theorem akf:bh [atG,atE,atQ,aua,at8,aud,auw,auO] [atG,atE,atQ,aua,at8,aud,auw,auO] (aI rh):=⟨rfl,rfl,rfl,by decide +kernel,rfl,by decide +kernel,by decide +kernel⟩
def Iz(K:Fg)(C:Addr):Sp:=fun vs H Q _=>∃(x dx fa na sa oa:Addr) (nm mk rk:V) (xs ns ss os:Lv) (fs:List (V×Lv)),vs = [.ref x,nm,mk,rk,.ref fa,.ref na,.ref sa,.ref oa]/\H x=some (.ins C dx []) /\
 af K H fa xs/\Qp K H xs fs/\af K H na ns/\af K H sa ss/\af K H oa os/\fs.length<=1000 /\
 ∀(fl:List (Str×V)) (pf pn ps po:Addr) (jM:Lv) (H':Hp),Iw fl nm mk rk pf pn ps po->H' x=some (.ins C dx fl)->H pf=none->H pn=none->H ps=none->H po=none ->
  H' pf=some (.lst jM)->Dj H H' pf jM fs fs.length->H' pn=some (.lst ns)->H' ps=some (.lst ss)->H' po=some (.lst os)->(∀b o,H b=some o->b≠x->H' b=some o)->Q .non H'
structure gR(C dx x:Addr)(H Hk:Hp)(fl:List (Str×V)):Prop where
 same:∀b o,H b=some o->b≠x->Hk b=some o
 free:∀b,Hk b=none->H b=none
 ob:Hk x=some (.ins C dx fl)
section
variable {C dx x p a:Addr} {H Hk:Hp} {fl nY:List (Str×V)} {o o':HO} {xs:Lv}
theorem gR.put(S:gR C dx x H Hk fl):gR C dx x H (aj Hk x (.ins C dx nY)) nY:=
 ⟨fun b o e hb=>by rw[aL hb];exact S.same b o e hb,fun b e=>S.free b (B1 e).2,aP⟩
theorem gR.lay(S:gR C dx x H Hk fl)(hp:Hk p=none):gR C dx x H (aj Hk p o) fl:=
 ⟨fun b u e hb=>by rw[aL (bg (S.same b u e hb) hp)];exact S.same b u e hb,fun b e=>S.free b (B1 e).2,by rw[aL (bg S.ob hp)];exact S.ob⟩
theorem gR.sqL(S:gR C dx x H Hk fl)(hx:H x=some (.ins C dx nY))(h:af K H a xs):af K Hk a xs:=by
 rcases h with(h | ⟨o,h⟩) | h
 . exact .inl (.inl (S.same _ _ h (eP h hx (by intro z;cases z))))
 . exact .inl (.inr ⟨o,S.same _ _ h (eP h hx (by intro z;cases z))⟩)
 . exact .inr h
theorem gR.sqT(S:gR C dx x H Hk fl)(hx:H x=some (.ins C dx nY))(h:aw K H a xs):aw K Hk a xs:=by
 rcases h with(h | ⟨o,h⟩) | h
 . exact .inl (.inl (S.same _ _ h (eP h hx (by intro z;cases z))))
 . exact .inl (.inr ⟨o,S.same _ _ h (eP h hx (by intro z;cases z))⟩)
 . exact .inr h
theorem aW(h:Hk a=some o)(n:a≠p):aj Hk p o' a=some o:=by rw[aL n];exact h
theorem lp{f:Str}{v:V}{n:Nat}(h:fl.length<=n):(aA f v fl).length<=n+1:=bS (Gs _ _ _) (by omega)
theorem few{n:Nat}(h:fl.length<=n)(h2:n<1000):fl.length<1000:=by omega
theorem tE:([]:List (Str×V)).length<=0:=aH _
end
theorem akg{H Hk Hj:Hp}{D:Addr}{xs:Lv}{fs:List (V×Lv)}{k:Nat}(fn:Dj H Hk D xs fs k)(h:∀b o,Hk b=some o->b≠D->H b=none->Hj b=some o):Dj H Hj D xs fs k:=by
 refine⟨fn.len,fun i p ls hi hp=>?_⟩;obtain⟨t,l,e1,e2,e3,e4,e5,e6,e7⟩:=fn.item i p ls hi hp;exact⟨t,l,e1,e2,e3,e4,e5,h t _ e6 e4 e2,h l _ e7 e5 e3⟩
theorem akh{f C:Addr}{fd:Fy}(F:ai K "__init__" "Parcel.__init__" rh f fd)(T:Txt K mg C)(ti:mg "list" = none) :
 ak P w K mg base ao 1 f fd [atG,atE,atQ,aua,at8,aud,auw,auO] (Iz K C):=by
 refine F.ok akf (fun vs H Q E h=>?_) (fun aF A outer s H vs Q E hr h=>?_)
 . obtain⟨x,dx,fa,na,sa,oa,nm,mk,rk,xs,ns,ss,os,fs,rfl,_⟩:=h;rfl
 . refine bo ?_;intro xX dX;obtain⟨x,dx,fa,na,sa,oa,nm,mk,rk,xs,ns,ss,os,fs,rfl,hx,md,lq,lr,hsa,F5,Qu,k⟩:=h;refine⟨_,az (ky (pv 0) (pv 1) rfl) (az (ky (pv 0) (pv 2) rfl) (az (ky (pv 0) (pv 3) rfl)
    (az (ky (pv 0) (ake rfl ti (bJ (pv 4))) rfl)
    (az (ky (pv 0) (gh xL (by rfl) ti oS (aa (pv 5) ae)) rfl)
    (az (ky (pv 0) (gh xL (by rfl) ti oS (aa (pv 6) ae)) rfl)
    (aB (ky (pv 0) (gh xL (by rfl) ti oS (aa (pv 7) ae)) rfl))))))),?_⟩
   refine Ot ?_;intro dD sS uU7 uU6 Dk kH eS dM;have S0:gR C dx x H H []:=⟨fun _ _ e _=>e,fun _ e=>e,hx⟩;refine⟨_,rfl,_,rfl,x,C,dx,_,rfl,S0.ob,T.cl,T.nN,few tE (by decide),?_⟩;have S1:gR C dx x H _ (aA atE nm []):=S0.put;refine⟨_,rfl,_,rfl,x,C,dx,_,rfl,S1.ob,T.cl,T.nM,few (lp tE) (by decide),?_⟩;have S2:gR C dx x H _ (aA atQ mk (aA atE nm [])):=S1.put;refine⟨_,rfl,_,rfl,x,C,dx,_,rfl,S2.ob,T.cl,T.nR,few (lp (lp tE)) (by decide),?_⟩;have S3:gR C dx x H _ (aA aua rk (aA atQ mk (aA atE nm []))):=S2.put;generalize aj (aj (aj H x (.ins C dx (aA atE nm []))) x (.ins C dx (aA atQ mk (aA atE nm [])))) x (.ins C dx (aA aua rk (aA atQ mk (aA atE nm []))))=H1 at S3 ⊢;refine⟨_,rfl,fa,rfl,⟨xs,S3.sqL hx md⟩,fun D hD=>?_⟩;refine⟨fun i m σ H2=>m=xs.length - i/\i<=xs.length/\∃(u v:Option V) (ys:Lv),σ = [u,v]/\H2 D=some (.lst ys)/\ag H1 H2/\Dj H H2 D ys fs i,⟨xs.length,by simp,dO _,none,none,[],rfl,aP,jV hD,rfl,fun i p ls hi=>absurd hi (sd _)⟩,?_⟩;intro i m σ H2 pO;refine b0 ?_;intro tT;obtain⟨rfl,hi,u,v,ys,rfl,y9,s2,fn⟩:=pO
   skip
   have IA:af K H2 fa xs:=s2.seq (S3.sqL hx md)
   by_cases aD:i<xs.length
   . refine .inr ⟨⟨xs,xs[i],IA,by simp[aD]⟩,fun z H3 y=>?_⟩;obtain⟨e,y⟩:=y;subst e;have ez:=y xs IA;have hif:i<fs.length:=by rw[←lq.len];exact aD
     obtain⟨⟨p,ls⟩,cB⟩:∃q,fs[i]? = some q:=⟨fs[i],by simp[hif]⟩;obtain⟨t,l,e1,e2,e3⟩:=lq.item i p ls cB;rw[ez]at e1;cases e1;have t2:=adt s2 (S3.sqT hx e2);have l2:=s2.seq (S3.sqL hx e3);refine⟨t,_,rfl,t2,rfl,_,_,rfl,_,_,rfl,rfl,?_⟩;refine⟨_,rfl,_,rfl,l,_,rfl,.inl l2,fun l' qF=>⟨(by show 2<=sizeLine;decide),fun t' yR=>?_⟩⟩;obtain⟨n1,n2⟩:=B1 yR;have dl:D≠l':=bg y9 qF;have dt:D≠t':=bg y9 n2;refine⟨ys,aW (aW y9 dl) dt,bj (by rw[fn.len];omega),xs.length - (i+1),by omega,rfl,aD,_,_,ys++[.ref t'],rfl,aP,?_,⟨by rw[bc,fn.len];rfl,fun j p' F6 hj cC=>?_⟩⟩
     . exact qS (qS (qS s2 (s2.free qF)) (s2.free n2)) hD
     . by_cases Dl:j=i
       . subst Dl;rw[cB]at cC;cases cC;refine⟨t',l',by rw[FA (by rw[fn.len];omega),fn.len];simp,S3.free _ (s2.free n2),S3.free _ (s2.free qF),dt.symm,dl.symm,aW aP dt.symm,aW (aW aP n1.symm) dl.symm⟩
       . have jz:j<i:=by omega
         obtain⟨t0,l0,g1,g2,g3,g4,g5,g6,g7⟩:=fn.item j p' F6 jz cC;exact⟨t0,l0,by rw[Mb (by rw[fn.len];exact jz)];exact g1,g2,g3,g4,g5,aW (aW (aW g6 (bg g6 qF)) (bg g6 n2)) g4,aW (aW (aW g7 (bg g7 qF)) (bg g7 n2)) g5⟩
   . have ei:i=xs.length:=by omega
     subst ei;refine .inl ⟨⟨xs,IA,aH _⟩,?_⟩;have S4:gR C dx x H H2 (aA aua rk (aA atQ mk (aA atE nm []))):=⟨fun b o e hb=>s2 b o (S3.same b o e hb),fun b e=>S3.free b (s2.free e),s2 _ _ S3.ob⟩;have Dm:D≠x:=eP y9 S4.ob (by intro z;cases z);have hD0:H D=none:=S3.free _ hD;refine⟨_,rfl,x,C,dx,_,rfl,S4.ob,T.cl,T.nF,few (lp (lp (lp tE))) (by decide),?_⟩;have S5:gR C dx x H _ (aA at8 (.ref D) (aA aua rk (aA atQ mk (aA atE nm [])))):=S4.put;refine⟨_,rfl,na,_,rfl,.inl (S5.sqL hx lr),fun pn rq=>?_⟩;have S6:=S5.lay (o:=.lst ns) rq;have IC:pn≠x:=(bg S5.ob rq).symm;refine⟨_,rfl,x,C,dx,_,rfl,S6.ob,T.cl,T.nE,few (lp (lp (lp (lp tE)))) (by decide),?_⟩;have S7:gR C dx x H _ (aA aud (.ref pn) (aA at8 (.ref D) (aA aua rk (aA atQ mk (aA atE nm []))))):=S6.put;refine⟨_,rfl,sa,_,rfl,.inl (S7.sqL hx hsa),fun ps bf=>?_⟩;have S8:=S7.lay (o:=.lst ss) bf;have Qv:ps≠x:=(bg S7.ob bf).symm;refine⟨_,rfl,x,C,dx,_,rfl,S8.ob,T.cl,T.nS,few (lp (lp (lp (lp (lp tE))))) (by decide),?_⟩;have S9:gR C dx x H _ (aA auw (.ref ps) (aA aud (.ref pn) (aA at8 (.ref D) (aA aua rk (aA atQ mk (aA atE nm [])))))):=S8.put;refine⟨_,rfl,oa,_,rfl,.inl (S9.sqL hx F5),fun po lW=>?_⟩;have Qw:=S9.lay (o:=.lst os) lW;have xpo:po≠x:=(bg S9.ob lW).symm;refine⟨_,rfl,x,C,dx,_,rfl,Qw.ob,T.cl,T.nO,few (lp (lp (lp (lp (lp (lp tE)))))) (by decide),?_⟩;have Qx:gR C dx x H _ (tz nm mk rk D pn ps po):=Qw.put;have k5:∀b o,H2 b=some o->b≠x->(aj H2 x (.ins C dx (aA at8 (.ref D) (aA aua rk (aA atQ mk (aA atE nm [])))))) b=some o:=fun b o e hb=>aW e hb;have kp:=fun b o (e:H2 b=some o) (hb:b≠x)=>aW (p:=x) (o':=.ins C dx (aA aud (.ref pn) (aA at8 (.ref D) (aA aua rk (aA atQ mk (aA atE nm [])))))) (aW (p:=pn) (o':=.lst ns) (k5 b o e hb) (bg (k5 b o e hb) rq)) hb;have kq:=fun b o (e:H2 b=some o) (hb:b≠x)=>aW (p:=x) (o':=.ins C dx (aA auw (.ref ps) (aA aud (.ref pn) (aA at8 (.ref D) (aA aua rk (aA atQ mk (aA atE nm []))))))) (aW (p:=ps) (o':=.lst ss) (kp b o e hb) (bg (kp b o e hb) bf)) hb;have kr:=fun b o (e:H2 b=some o) (hb:b≠x)=>aW (p:=x) (o':=.ins C dx (tz nm mk rk D pn ps po)) (aW (p:=po) (o':=.lst os) (kq b o e hb) (bg (kq b o e hb) lW)) hb;have Qy:(aj (aj (aj H2 x (.ins C dx (aA at8 (.ref D) (aA aua rk (aA atQ mk (aA atE nm [])))))) pn (.lst ns)) x (.ins C dx (aA aud (.ref pn) (aA at8 (.ref D) (aA aua rk (aA atQ mk (aA atE nm []))))))) pn=some (.lst ns):=aW aP IC;have Qz:=aW (p:=x) (o':=.ins C dx (aA auw (.ref ps) (aA aud (.ref pn) (aA at8 (.ref D) (aA aua rk (aA atQ mk (aA atE nm []))))))) (aW (p:=ps) (o':=.lst ss) Qy (bg Qy bf)) IC;have pn3:=aW (p:=x) (o':=.ins C dx (tz nm mk rk D pn ps po)) (aW (p:=po) (o':=.lst os) Qz (bg Qz lW)) IC;have QA:=aW (p:=x) (o':=.ins C dx (aA auw (.ref ps) (aA aud (.ref pn) (aA at8 (.ref D) (aA aua rk (aA atQ mk (aA atE nm []))))))) (aP (H:=aj (aj (aj H2 x (.ins C dx (aA at8 (.ref D) (aA aua rk (aA atQ mk (aA atE nm [])))))) pn (.lst ns)) x (.ins C dx (aA aud (.ref pn) (aA at8 (.ref D) (aA aua rk (aA atQ mk (aA atE nm []))))))) (a:=ps) (o:=.lst ss)) Qv;have ps2:=aW (p:=x) (o':=.ins C dx (tz nm mk rk D pn ps po)) (aW (p:=po) (o':=.lst os) QA (bg QA lW)) Qv;refine k (tz nm mk rk D pn ps po) D pn ps po ys _ (akb nm mk rk D pn ps po) Qx.ob hD0 (S5.free _ rq) (S7.free _ bf) (S9.free _ lW) (kr D _ y9 Dm) ?_ pn3 ps2 (aW aP xpo) Qx.same;rw[lq.len]at fn;exact akg fn fun b o e hb hn=>kr b o e fun z=>by rw[z,hx]at hn;cases hn
end
def fU(H:Hp)(v:V)(f:Str×Ls):Prop:=∃t l,v = .ref t/\H t=some (.tup [.str f.1,.ref l])/\H l=some (.lst (f.2.map V.str))
def iM(H:Hp)(a:Addr)(cs:List dB):Prop:=∃ys,H a=some (.lst ys)/\Paired (dL H) ys cs
def gT(C:Addr)(H:Hp)(v:V)(p:aS):Prop:=∃a dx fl rk m pf pn ps po xs,v = .ref a/\H a=some (.ins C dx fl)/\Iw fl (.str p.nm) (.ref m) rk pf pn ps po/\H m=some (.tup (p.ms.map V.int)) /\
 H pf=some (.lst xs)/\Paired (fU H) xs p.fs/\H po=some (.lst (p.os.map V.str))/\rk = .int p.rk/\iM H pn p.ns/\iM H ps p.ss
theorem iM.same{H H':Hp}{a:Addr}{cs:List dB}(s:ag H H')(h:iM H a cs):iM H' a cs:=by
 obtain⟨ys,h1,h2⟩:=h;exact⟨ys,s _ _ h1,aM h2 fun _ _=>dL.same s⟩
theorem fU.same{H H':Hp}{v:V}{f:Str×Ls}(s:ag H H')(h:fU H v f):fU H' v f:=by
 obtain⟨t,l,e,a,b⟩:=h;exact⟨t,l,e,s _ _ a,s _ _ b⟩
theorem gT.same{C:Addr}{H H':Hp}{v:V}{p:aS}(s:ag H H')(h:gT C H v p):gT C H' v p:=by
 obtain⟨a,dx,fl,rk,m,pf,pn,ps,po,xs,e,h1,h2,h3,h4,h5,h6⟩:=h;exact⟨a,dx,fl,rk,m,pf,pn,ps,po,xs,e,s _ _ h1,h2,s _ _ h3,s _ _ h4,aM h5 (fun _ _=>fU.same s),s _ _ h6.1,h6.2.1,h6.2.2.1.same s,h6.2.2.2.same s⟩
abbrev gC (C:Addr) (H:Hp):Lv->Lp->Prop:=Paired (gT C H)
theorem gC.same{C:Addr}{H H':Hp}{vs:Lv}{ps:Lp}(s:ag H H')(h:gC C H vs ps):gC C H' vs ps:=aM h fun _ _=>gT.same s
def msk(L:List Addr)(H:Hp):Hp:=fun b=>if b∈L then none else H b
theorem vK{L:List Addr}{H:Hp}:ag (msk L H) H:=fun b o e=>by
 unfold msk at e;split at e
 . cases e
 . exact e
theorem vL{L:List Addr}{H H':Hp}(s:ag H H'):ag (msk L H) (msk L H'):=fun b o e=>by
 unfold msk at e ⊢;split at e
 . cases e
 . rw[ah ‹_›];exact s _ _ e
theorem QB{L:List Addr}{H:Hp}{p:Addr}{o:HO}(h:p∈L):msk L (aj H p o)=msk L H:=by
 funext b
 unfold msk;split
 . rfl
 . have hb:¬b∈L:=‹_›;rw[aL (fun z=>hb (by rw[z];exact h))]
theorem ij{L:List Addr}{H:Hp}{b:Addr}{o:HO}(n:b∉L)(h:H b=some o):msk L H b=some o:=by
 unfold msk;rw[ah n];exact h
def jC(H:Hp)(L:List Addr):Prop:=∀b∈L,∃o,H b=some o/\∀vs,o≠.tup vs
theorem jC.free{H:Hp}{L:List Addr}(h:jC H L){b:Addr}(n:H b=none):b∉L:=fun z=>by
 obtain⟨o,e,_⟩:=h b z;rw[n]at e;cases e
theorem jC.tup{H:Hp}{L:List Addr}(h:jC H L){b:Addr}{vs:Lv}(n:H b=some (.tup vs)):b∉L:=fun z=>by
 obtain⟨o,e,q⟩:=h b z;rw[n]at e;cases e;exact q _ rfl
theorem ID{α β:Type}{F:α->β->Prop}:∀{xs:List α} {ys:List β},Paired F xs ys->∀{i:Nat} {y:β},ys[i]? = some y->∃x,xs[i]? = some x/\F x y
 | _,_,.nil,i,y,h=>by cases h
 | _,_,.cons r t,0,y,h=>by cases h;exact⟨_,rfl,r⟩
 | _,_,.cons r t,i+1,y,h=>ID t (i:=i) h
theorem bD{α β:Type}{F:α->β->Prop}:∀{xs:List α} {ys:List β},Paired F xs ys->∀{i:Nat} {x:α},xs[i]? = some x->∃y,ys[i]? = some y/\F x y
 | _,_,.nil,i,y,h=>by cases h
 | _,_,.cons r t,0,y,h=>by cases h;exact⟨_,rfl,r⟩
 | _,_,.cons r t,i+1,y,h=>bD t (i:=i) h
theorem aK{α β:Type}{F:α->β->Prop}:∀{xs:List α} {ys:List β},Paired F xs ys->xs.length=ys.length
 | _,_,.nil=>rfl
 | _,_,.cons _ t=>fL (· + 1) (aK t)
theorem dj{α β:Type}{F:α->β->Prop}{x:α}{y:β}(h:F x y):∀{xs:List α} {ys:List β},Paired F xs ys->Paired F (xs++[x]) (ys++[y])
 | _,_,.nil=>.cons h .nil
 | _,_,.cons r t=>.cons r (dj h t)
theorem QC{α β:Type}{F:α->β->Prop}:∀{xs:List α} {ys:List β},xs.length=ys.length->(∀(i:Nat) (y:β),ys[i]? = some y->∃x,xs[i]? = some x/\F x y)->Paired F xs ys
 | [],[],_,_=>.nil
 | [],_::_,h,_=>nomatch h
 | _::_,[],h,_=>nomatch h
 | x::xs,y::ys,h,k=>by
  obtain⟨x',e,r⟩:=k 0 y rfl;cases e;exact .cons r (QC (Nat.succ.inj h) fun i z hz=>k (i+1) z hz)
def tF(fs:List (Str×Ls)):List (V×Lv):=fs.map fun f=>(.str f.1,f.2.map V.str)
section
variable {P:Program} {w:World} {K:Fg} {mg:Mv} {base:Heap}
theorem akp{H:Hp}{xs:Lv}{fs:List (Str×Ls)}(h:Paired (fU H) xs fs):Qp K H xs (tF fs):=by
 refine⟨by rw[tF,au];exact aK h,fun i p ls e=>?_⟩;rw[tF,bN]at e;cases hf:fs[i]? with
 | none=>rw[hf]at e;cases e
 | some f=>
  rw[hf]at e;cases e;obtain⟨x,hx,t,l,rfl,a,b⟩:=ID h hf;exact⟨t,l,hx,aw.of a,af.of b⟩
theorem cZ.msk{H H':Hp}{L:List Addr}(hL:jC H L)(s:ag H H'){b:V}{o:Oi}(h:cZ H b o):cZ (msk L H') b o:=by
 cases o with
 | none=>exact h
 | some bs=>
  obtain⟨a,e1,e2⟩:=h;exact⟨a,e1,ij (hL.tup e2) (s _ _ e2)⟩
theorem dL.msk{H H':Hp}{L:List Addr}(hL:jC H L)(s:ag H H'){v:V}{c:dB}(h:dL H v c):dL (msk L H') v c:=by
 obtain⟨t,l,b,e,h1,h2,h3⟩:=h;exact⟨t,l,b,e,ij (hL.tup h1) (s _ _ h1),ij (hL.tup h2) (s _ _ h2),h3.msk hL s⟩
theorem akq{C:Addr}{H:Hp}{Q:VK}{E:XK}{m fa na sa oa:Addr}{p:aS}{xs ns ss:Lv}(hm:H m=some (.tup (p.ms.map V.int)))(hf:H fa=some (.lst xs))(lq:Paired (fU H) xs p.fs)
 (hn:H na=some (.lst ns)) (k8:Paired (dL H) ns p.ns) (hs:H sa=some (.lst ss)) (hss:Paired (dL H) ss p.ss) (ho:H oa=some (.lst (p.os.map V.str))) (Qu:p.fs.length<=1000) (q:∀x H',H x=none->ag H H'->(∀L,jC H L->gT C (msk L H') (.ref x) p)->Q (.ref x) H') :
 ∀x dx,H x=none->H dx=none->dx≠x->Iz K C (.ref x::([.str p.nm,.ref m,.int p.rk,.ref fa,.ref na,.ref sa,.ref oa]++[])) (aj (aj H dx (.own x)) x (.ins C dx [])) (fun v H2=>v = .non/\Q (.ref x) H2) E:=by
 intro x dx hx IE nx;have s1:ag H (aj (aj H dx (.own x)) x (.ins C dx [])):=qS (jV IE) hx;have IF:(tF p.fs).length=p.fs.length:=by rw[tF,au]
 refine⟨x,dx,fa,na,sa,oa,.str p.nm,.ref m,.int p.rk,xs,ns,ss,p.os.map V.str,tF p.fs,rfl,aP,af.of (s1 _ _ hf),?_,af.of (s1 _ _ hn),af.of (s1 _ _ hs),af.of (s1 _ _ ho),by rw[IF];exact Qu,?_⟩
 . exact akp (aM lq fun _ _=>fU.same s1)
 intro fl pf pn ps po jM H' hF mZ n1 n2 n3 n4 za uS rq bf lW keep;have s2:ag H H':=fun b o e=>keep b o (s1 _ _ e) (bg e hx);have fr:∀b,(aj (aj H dx (.own x)) x (.ins C dx [])) b=none->H b=none:=fun b z=>s1.free z;refine⟨rfl,q x H' hx s2 fun L hL=>⟨x,dx,fl,.int p.rk,m,pf,pn,ps,po,jM,rfl,ij (hL.free hx) mZ,hF,ij (hL.tup hm) (s2 _ _ hm),ij (hL.free (fr _ n1)) za,?_,ij (hL.free (fr _ n4)) lW,rfl,
  ⟨ns,ij (hL.free (fr _ n2)) rq,aM k8 fun _ _=>dL.msk hL s2⟩,⟨ss,ij (hL.free (fr _ n3)) bf,aM hss fun _ _=>dL.msk hL s2⟩⟩⟩
 refine QC (by rw[uS.len,IF]) fun i f hi=>?_;obtain⟨t,l,e1,e2,e3,e4,e5,e6,e7⟩:=uS.item i (.str f.1) (f.2.map V.str) (by rw[IF];exact(bH.mp hi).1) (by rw[tF,bN,hi];rfl);exact⟨_,e1,t,l,rfl,ij (hL.free (fr _ e2)) e6,ij (hL.free (fr _ e3)) e7⟩
structure ft(K:Fg)(mg:Mv)(S fN fM fP:Addr):Prop where
 cl:ic K S
 nS:gM K S au9
 mN:ni K S auP fN
 mM:ni K S at9 fM
 mP:ni K S atJ fP
 mgC:mg "Shelf" = some (.ref S)
def eO(p:aS):List NI:=[.inl (.inr p.nm),.inr (p.ms.map Sum.inl)]
theorem IG{H:Hp}{b m:Addr}{nm:Str}{mk:List Int}(hb:H b=some (.tup [.str nm,.ref m]))(hm:H m=some (.tup (mk.map V.int))):ib H [.inl (.inr nm),.inr (mk.map Sum.inl)] b:=
 ⟨_,hb,.cons rfl (.cons ⟨m,rfl,by rw[hm,uN];rfl⟩ .nil)⟩
def QD(kvs:List (List NI×V))(vs:Lv)(ps:Lp)(i:Nat):Prop:=kvs.length<=i/\(∀(j:Nat) (p:aS) (v:V),j<i->ps[j]? = some p->vs[j]? = some v->bP kvs (eO p)=some v)/\Paired (fun(kv:List NI×V) (p:aS)=>kv.1=eO p) kvs (ps.take i)
def ik(S:Addr)(H:Hp)(v:V)(vs:Lv)(ps:Lp):Prop:=∃a dx fl d kvs,v = .ref a/\H a=some (.ins S dx fl)/\fl.lookup (au9:Str)=some (.ref d)/\fl.lookup (atJ:Str)=none/\fl.lookup (auP:Str)=none/\fl.lookup (at9:Str)=none/\H d=some (.dT kvs)/\QD kvs vs ps ps.length
theorem ik.same{S:Addr}{H H':Hp}{v:V}{vs:Lv}{ps:Lp}(s:ag H H')(h:ik S H v vs ps):ik S H' v vs ps:=by
 obtain⟨a,dx,fl,d,kvs,e,h1,h2,h3,h3a,h3b,h4,h5⟩:=h;exact⟨a,dx,fl,d,kvs,e,s _ _ h1,h2,h3,h3a,h3b,s _ _ h4,h5⟩
def IH(K:Fg)(C S:Addr):Sp:=fun vs H Q _=>∃(x dx a:Addr) (xs:Lv) (ps:Lp),vs = [.ref x,.ref a]/\H x=some (.ins S dx [])/\H a=some (.lst xs)/\gC C H xs ps/\ps.length<=100/\(ps.map eO).Nodup /\
 ∀H',(∀b o,H b=some o->b≠x->H' b=some o)->ik S H' (.ref x) xs ps->Q .non H'
theorem QE:bh [atG,atV,atJ] [atG,atV] (aI tj):=⟨rfl,rfl,rfl,by decide +kernel,rfl,by decide +kernel,by decide +kernel⟩
theorem aku{f C S fN fM fP:Addr}{fd:Fy}(F:ai K "__init__" "Shelf.__init__" tj f fd)(T:Txt K mg C)(U:ft K mg S fN fM fP):ak P w K mg base ao 1 f fd [atG,atV] (IH K C S):=by
 refine F.ok QE (fun vs H Q E h=>?_) (fun aF A outer s H vs Q E hr h=>?_)
 . obtain⟨x,dx,a,xs,ps,rfl,_⟩:=h;rfl
 . refine bo ?_;intro xX dX;obtain⟨x,dx,a,xs,ps,rfl,hx,ha,bf,Dn,vM,q⟩:=h;have hu:=hr.units;refine⟨_,(az (ky (pv 0) afE rfl)
    (aB (gr hZ rfl (bJ (pv 1)) (aT (i:=2) QE.nd rfl (Or.inl rfl))
    (aB (vg hu (du (pv 0) rfl) (dz (aa (du (pv 2) rfl) (aa (du (pv 2) rfl) ae))) (pv 2) rfl))))),?_⟩
   refine qW ?_;intro dD sS dM;refine fun d H1 n1 s1 e1=>?_;refine⟨_,rfl,x,S,dx,_,rfl,s1 _ _ hx,U.cl,U.nS,(by decide),?_⟩;have Dm:d≠x:=(bg hx n1).symm;have ax:a≠x:=eP ha hx (by intro z;cases z);have nl:=aK bf;refine⟨_,rfl,a,rfl,⟨_,af.of (by rw[aL ax];exact s1 _ _ ha)⟩,?_⟩;refine jQ (xs:=xs) (fun i σ H2=>∃u kvs,σ = [some (.ref x),some (.ref a),u]/\(∀b o,H b=some o->b≠x->H2 b=some o)/\H2 x=some (.ins S dx (aA au9 (.ref d) []))/\H2 d=some (.dT kvs)/\QD kvs xs ps i)
    ⟨none,[],rfl,fun b o e hb=>by rw[aL hb];exact s1 _ _ e,aP,by rw[aL Dm];exact e1,aH _,fun j p v hj=>absurd hj (sd _),.nil⟩ ?_ ?_ ?_
   . intro i σ H2 hi ro;refine b0 ?_;intro tT;obtain⟨u,kvs,rfl,k2,_⟩:=ro;exact af.of (k2 _ _ ha ax)
   . intro i v σ H2 hv rp;refine b0 ?_;intro tT;obtain⟨u,kvs,rfl,k2,vN,hd2,hk⟩:=rp
     skip
     obtain⟨p,hp,b,dy,fl,rk,m,pf,pn,pP,po,ys,rfl,h1,h2,h3,h4,h5,h6⟩:=bD bf hv;have bx:b≠x:=eP h1 hx (by intro z;injection z with _ _ z;subst z;have:=h2.name;cases this);have b2:=k2 _ _ h1 bx;have m2:=k2 _ _ h3 (eP h3 hx (by intro z;cases z));have yF:(aA (au9:Str) (V.ref d) []).lookup (au9:Str)=some (.ref d):=by rw[bL,ap rfl]
     refine⟨_,rfl,_,rfl,x,S,dx,_,_,rfl,vN,U.cl,U.nS,yF,_,rfl,b,C,dy,_,_,rfl,b2,T.cl,T.nN,h2.name,_,rfl,b,C,dy,_,_,rfl,b2,T.cl,T.nM,h2.make,(by show 2<=sizeLine;decide),fun t H3 n3 s3 e3=>?_⟩;have aD:=(bH.mp hv).1;refine⟨d,_,rfl,kY.t (s3 _ _ hd2) (IG e3 (s3 _ _ m2)) (bj (by have:=hk.1;omega)),?_⟩;refine⟨_,_,rfl,fun c o e hc=>?_,?_,aP,?_,fun j p' v' hj cC xC=>?_,?_⟩
     . rw[aL (fun z=>by rw[z,n1]at e;cases e)];exact s3 _ _ (k2 _ _ e hc)
     . rw[aL Dm.symm];exact s3 _ _ vN
     . exact bS (GI _ _ _) (FW hk.1)
     . rw[abw]
       by_cases Dl:j=i
       . subst Dl;rw[hp]at cC;rw[hv]at xC;cases cC;cases xC;exact ap rfl
       . have jz:j<i:=by omega
         rw[ah]
         . exact hk.2.1 j p' v' jz cC xC
         . intro z;have z:eO p'=eO p:=z;refine Dl ((By (l:=ps.map eO) (i:=j) (j:=i) ?_ vM).mp ?_)
           . rw[au];have:=(bH.mp cC).1;omega
           . rw[bN,bN,hp,cC,lI,lI,z]
     . have akv:bP kvs (eO p)=none:=by
        refine aka ?_;rw[Di (key:=eO) (fun _ _ z=>z) hk.2.2];intro hm;obtain⟨p',cC,e'⟩:=be.mp hm;obtain⟨j,hj⟩:=oU cC;rw[List.getElem?_take]at hj;split at hj
        . have gQ:j=i:=(By (l:=ps.map eO) (by rw[au];exact(bH.mp hj).1) vM).mp (by rw[bN,bN,hj,hp,lI,lI,e']);omega
        . cases hj
       show Paired _ (eu kvs (eO p) (.ref b)) (ps.take (i+1));rw[BX _ akv,Bw,hp];refine dj ?_ hk.2.2;rfl
   . intro σ H2 hQ4;refine b0 ?_;intro tT;obtain⟨u,kvs,rfl,k2,vN,hd2,hk⟩:=hQ4
     skip
     rw[nl]at hk;exact q H2 k2 ⟨x,dx,_,d,kvs,rfl,vN,by rw[bL,ap rfl],by rw[bL,ah (by decide +kernel)];rfl,by rw[bL,ah (by decide +kernel)];rfl,by rw[bL,ah (by decide +kernel)];rfl,hd2,hk⟩
def Do(K:Fg)(S:Addr):Sp:=fun vs H Q _=>∃(sv v:V) (m:Addr) (xs:Lv) (ps:Lp) (j:Nat) (p:aS),vs = [sv,.str p.nm,.ref m]/\ik S H sv xs ps/\ps[j]? = some p/\xs[j]? = some v/\H m=some (.tup (p.ms.map V.int))/\∀H',ag H H'->Q v H'
theorem akx:bh [atG,atE,atQ] [atG,atE,atQ] (aI kG):=⟨rfl,rfl,rfl,by decide +kernel,rfl,by decide +kernel,by decide +kernel⟩
theorem II{f S fN fM fP:Addr}{fd:Fy}(F:ai K atJ "Shelf.parcel" kG f fd)(U:ft K mg S fN fM fP):ak P w K mg base ao 1 f fd [atG,atE,atQ] (Do K S):=by
 refine F.ok akx (fun vs H Q E h=>?_) (fun aF A outer s H vs Q E hr h=>?_)
 . obtain⟨sv,v,m,xs,ps,j,p,rfl,_⟩:=h;rfl
 . refine bo ?_;intro xX dX;obtain⟨sv,v,m,xs,ps,j,p,rfl,⟨a,dx,fl,d,kvs,rfl,h1,h2,h3,_,_,h4,h5⟩,hp,hv,hm,q⟩:=h;have hu:=hr.units;have QF:=h5.2.1 j p v (bH.mp hp).1 hp hv;refine⟨_,(az (cp (Ga (NU hu (dz (aa (pv 1) (aa (pv 2) ae))) (du (pv 0) rfl)) (by rfl))
    (aB Nf) cr)
    (aB (aO (BY hu (du (pv 0) rfl) (dz (aa (pv 1) (aa (pv 2) ae))) (fun _ _=>rfl))))),?_⟩
   refine qW ?_;intro dD sS dM;refine⟨_,rfl,_,rfl,(by show 2<=sizeLine;decide),fun t H1 n1 s1 e1=>?_⟩;have g1:cw H1 d (.ref t) (bP kvs (eO p)):=cw.t (s1 _ _ h4) (IG e1 (s1 _ _ hm));refine⟨_,rfl,a,S,dx,_,_,rfl,s1 _ _ h1,U.cl,U.nS,h2,d,_,rfl,g1,_,rfl,?_⟩;rw[QF];refine aJ (fun h=>absurd h (by show ¬((!true)=true);decide)) (fun h=>?_);refine⟨_,rfl,a,S,dx,_,_,rfl,s1 _ _ h1,U.cl,U.nS,h2,_,rfl,_,rfl,(by show 2<=sizeLine;decide),fun t2 H2 n2 s2 e2=>?_⟩;have bW:=s1.trans s2;have g2:cw H2 d (.ref t2) (bP kvs (eO p)):=cw.t (bW _ _ h4) (IG e2 (bW _ _ hm));rw[QF]at g2;exact⟨d,v,rfl,g2,q H2 bW⟩
end
open PySem.Spec PyProof.Rows
theorem QG:∀(p:Str) (l:Ls),risingS p l=true->(p::l).Pairwise (fun a b=>a.cps.toList<=b.cps.toList)
 | p,[],_=>MX _ _
 | p,x::r,h=>by
  have h:(!ltCps x.cps.toList p.cps.toList && risingS x r)=true:=h;obtain⟨h1,h2⟩:=Vh.mp h;have ih:=QG x r h2;have le:p.cps.toList<=x.cps.toList:=by
   rw[asq]at h1;intro z;rw[aE z]at h1;cases h1
  refine Bz.mpr ⟨fun y hy=>?_,ih⟩
  rcases bw.mp hy with e | hy
  . rw[e];exact le
  . exact List.le_trans le (asr ih hy)
theorem IJ:∀{l:Ls},sortedS l=true->l.Pairwise (fun a b=>a.cps.toList<=b.cps.toList)
 | [],_=>.nil
 | x::r,h=>QG x r h
theorem aky{a b:Ls}(p:a.Perm b)(h1:sortedS a=true)(h2:sortedS b=true):a=b:=by
 refine ass (fun x y _ _ h h'=>?_) (IJ h1) (IJ h2) p;have e:=Vd h h';obtain⟨⟨x⟩⟩:=x;obtain⟨⟨y⟩⟩:=y;have e:x=y:=e;rw[e]
section
variable {β:Type}
def dk(tr:List (Str×β))(x:Str)(ls:β):List (Str×β):=if (tr.any fun f=>decide (f.1=x))=true then tr.map (fun f=>if f.1=x then(f.1,ls) else f) else tr++[(x,ls)]
theorem QH{tr:List (Str×β)}{x:Str}{ls:β}{f:Str×β}(h:f∈dk tr x ls):f=(x,ls)\/f∈tr:=by
 unfold dk at h;split at h
 . obtain⟨g,hg,e⟩:=be.mp h;split at e
   . rename_i hx;left;rw[←e,hx]
   . right;rw[←e];exact hg
 . rcases eg.mp h with h | h
   . exact .inr h
   . exact .inl (cE.mp h)
theorem akz(tr:List (Str×β))(x:Str)(ls:β):(dk tr x ls).map (·.1)=if (tr.any fun f=>decide (f.1=x))=true then tr.map (·.1) else tr.map (·.1)++[x]:=by
 unfold dk;split
 . rw[uN];refine List.map_congr_left fun f _=>?_;show(if f.1=x then(f.1,ls) else f).1=f.1;split<;>rfl
 . rw[dU];rfl
theorem akA{tr:List (Str×β)}{x:Str}:(tr.any fun f=>decide (f.1=x))=true↔x∈tr.map (·.1):=by
 rw[jp,be];constructor
 . rintro⟨f,hf,e⟩;exact⟨f,hf,bd e⟩
 . rintro⟨f,hf,e⟩;exact⟨f,hf,aE e⟩
theorem QI{tr:List (Str×β)}{x:Str}{ls:β}(h:(tr.map (·.1)).Nodup):((dk tr x ls).map (·.1)).Nodup:=by
 rw[akz];split
 . exact h
 . rename_i hx;rw[FM];refine⟨h,by simp,fun a ha b hb=>?_⟩;rw[cE.mp hb];intro e;exact hx (akA.mpr (e▸ha))
theorem QJ(tr:List (Str×β))(x:Str)(ls:β):(dk tr x ls).length<=tr.length+1:=by
 unfold dk;split
 . rw[au];omega
 . rw[bc,mV];omega
theorem QK{F:aN×V->Str×β->Prop}(hk:∀kv f,F kv f->kv.1=Sum.inr f.1){x:Str}{ls:β}{v:V}(hv:F (.inr x,v) (x,ls)){kvs:List (aN×V)}{tr:List (Str×β)}(h:Paired F kvs tr):Paired F (eu kvs (.inr x) v) (dk tr x ls):=by
 have e:(kvs.any fun kv=>decide (kv.1=Sum.inr x))=(tr.any fun f=>decide (f.1=x)):=by
  induction h with
  | nil=>rfl
  | cons r t ih=>
   rw[qz,qz,ih,hk _ _ r]
   congr 1
   exact Bl.mpr ⟨fun z=>jn z,fun z=>by rw[z]⟩
 unfold eu dk;rw[e];split
 . clear e;rename_i hh;clear hh
   induction h with
   | nil=>exact .nil
   | @cons kv f kvs tr r t ih=>
    refine .cons ?_ ih;have hr:=hk _ _ r;dsimp only
    by_cases hx:f.1=x
    . have QL:kv.1=Sum.inr x:=by rw[hr,hx]
      rw[ap QL,ap hx,QL,hx];exact hv
    . rw[ah (fun z=>hx (jn (hr.symm.trans z))),ah hx];exact r
 . exact dj hv h
end
theorem IK{β:Type}{F:aN×V->Str×β->Prop}(hk:∀kv f,F kv f->kv.1=Sum.inr f.1){kvs:List (aN×V)}{tr:List (Str×β)}(h:Paired F kvs tr):sO kvs (tr.map (·.1)):=by
 unfold sO
 induction h with
 | nil=>rfl
 | cons r t ih=>rw[b9,b9,b9,ih,hk _ _ r]
theorem Dp{β:Type}{F:aN×V->Str×β->Prop}(hk:∀kv f,F kv f->kv.1=Sum.inr f.1){kvs:List (aN×V)}{tr:List (Str×β)}(h:Paired F kvs tr){x:Str}(hx:x∈tr.map (·.1)):∃v ls,bP kvs (.inr x)=some v/\(x,ls)∈tr/\F (.inr x,v) (x,ls):=by
 induction h with
 | nil=>cases hx
 | @cons kv f kvs tr r t ih=>
  have hr:=hk _ _ r
  by_cases e:f.1=x
  . refine⟨kv.2,f.2,by rw[jx (hr.trans (by rw[e]))],?_,?_⟩
    . rw[←e];exact cD
    . rw[←e,←hr];exact r
  . rcases bw.mp hx with z | z
    . exact absurd z.symm e
    . obtain⟨v,ls,a,b,c⟩:=ih z;exact⟨v,ls,by rw[i6 (fun q=>e (jn (hr.symm.trans q)))];exact a,cy _ b,c⟩
theorem zd{β:Type}{F:aN×V->Str×β->Prop}(hk:∀kv f,F kv f->kv.1=Sum.inr f.1){kvs:List (aN×V)}{tr:List (Str×β)}(h:Paired F kvs tr){x:Str}(hx:x∉tr.map (·.1)):bP kvs (.inr x)=none:=by
 induction h with
 | nil=>rfl
 | @cons kv f kvs tr r t ih=>
  have hr:=hk _ _ r;rw[b9,bw,not_or]at hx;rw[i6 (fun q=>hx.1 (jn (hr.symm.trans q)).symm)];exact ih hx.2
theorem QM{β:Type}{tr:List (Str×β)}(h:(tr.map (·.1)).Nodup){x:Str}{a b:β}(ha:(x,a)∈tr)(hb:(x,b)∈tr):a=b:=by
 induction tr with
 | nil=>cases ha
 | cons f tr ih=>
  rw[b9,jI]at h
  rcases bw.mp ha with ea | ha
  . rcases bw.mp hb with eb | hb
    . rw[←ea]at eb;exact(Prod.mk.inj eb).2.symm
    . exact absurd (FK (f:=(·.1)) hb) (by rw[←ea]at h;exact h.1)
  . rcases bw.mp hb with eb | hb
    . exact absurd (FK (f:=(·.1)) ha) (by rw[←eb]at h;exact h.1)
    . exact ih h.2 ha hb
abbrev Ch:=List (Str×List Int)
def cO(H:Hp)(kv:aN×V)(e:Str×List Int):Prop:=kv.1 = .inr e.1/\∃m,kv.2 = .ref m/\H m=some (.tup (e.2.map V.int))
theorem cO.same{H H':Hp}(s:ag H H'){kv:aN×V}{e:Str×List Int}(h:cO H kv e):cO H' kv e:=h.elim fun a akB=>akB.elim fun m akC=>akC.elim fun b c=>⟨a,m,b,s _ _ c⟩
def dE(H:Hp)(c:Addr)(ch:Ch):Prop:=∃kvs,H c=some (.dK kvs)/\Paired (cO H) kvs ch
theorem dE.same{H H':Hp}(s:ag H H'){c:Addr}{ch:Ch}(h:dE H c ch):dE H' c ch:=h.elim fun kvs akD=>akD.elim fun a b=>⟨kvs,s _ _ a,aM b fun _ _=>cO.same s⟩
section
variable {P:Program} {w:World} {K:Fg} {mg:Mv} {base:Heap}
def zf(xs:Lv)(ps:Lp)(v:V)(p:aS):Prop:=∃j:Nat,ps[j]? = some p/\xs[j]? = some v
def QN(xs:Lv)(ps:Lp)(ch:Ch):Prop:=∀e∈ch,∃v p,zf xs ps v p/\p.nm=e.1/\p.ms=e.2
def QO(S:Addr):Sp:=fun vs H Q _=>∃(sv:V) (c:Addr) (xs:Lv) (ps:Lp) (ch:Ch),vs = [sv,.ref c]/\ik S H sv xs ps/\dE H c ch/\QN xs ps ch/\ch.length<64 /\
 ∀D H' QP lu,H D=none->ag H H'->H' D=some (.lst QP)->Paired (zf xs ps) QP lu->(lu.map (·.nm)).Perm (ch.map (·.1))->(∀p∈lu,(p.nm,p.ms)∈ch)->sortedS (lu.map (·.nm))=true->Q (.ref D) H'
theorem akE:bh [atC,atM] [atC,atM] (aI CD):=⟨rfl,rfl,rfl,by decide +kernel,rfl,by decide +kernel,by decide +kernel⟩
theorem akF{f S fN fM cQ:Addr}{fd il:Fy}(F:ai K auQ auQ CD f fd)(B:bX mg)(U:ft K mg S fN fM cQ)(fV:ai K atJ "Shelf.parcel" kG cQ il):ak P w K mg base ao 2 f fd [atC,atM] (QO S):=by
 have zh:ak P w K mg base ao 1 cQ il [atG,atE,atQ] (Do K S):=II fV U;have zi:=fV.binds3 (l:=[atG,atE,atQ]) (fun _ _ _ _ _ _ _ _ _=>rfl);refine F.ok akE (fun vs H Q E h=>?_) (fun aF A outer s H vs Q E hr h=>?_)
 . obtain⟨sv,c,xs,ps,ch,rfl,_⟩:=h;rfl
 . refine bo ?_;intro xX dX;obtain⟨sv,c,xs,ps,ch,rfl,hS,hC,hV,sN,q⟩:=h;have hu:=hr.units;obtain⟨kvs,e1,e2⟩:=id hC;have hk:∀kv f,cO H kv f->kv.1=Sum.inr f.1:=fun kv f z=>z.1;have kl:=aK e2;refine⟨_,(aB (aO (dw [atE] [atC,atM] [0,1] ⟨rfl,by decide +kernel,by decide +kernel,by decide +kernel,by decide +kernel,rfl,rfl,rfl⟩ rfl (bJ (bZ (aeT rfl) (by rfl) B.sorted xp (aa (pv 1) ae))) (fun _ _ _ _=>(aT (i:=0) (show List.Nodup ([atE,atC,atM]:Ls) by decide +kernel) rfl (Or.inl rfl))) (fun _ _ _ _=>fh) (fun _ _ _ _=>(kX (pv 1) U.cl U.mP zh hr zi .nil av (aa (pv 0) (aa (BY hu (pv 2) (pv 0) (fun _ _=>rfl)) ae))))))),?_⟩;refine⟨_,rfl,c,kvs,_,rfl,e1,IK hk e2,by omega,fun ys hp hs a H1 n1 s1 a1=>?_⟩;refine⟨a,rfl,⟨_,af.of a1⟩,?_⟩;refine x9 (σ0:=[none,some sv,some (.ref c)]) (af.of a1) (fun σ=>∃v,σ = [v,some sv,some (.ref c)]) (fun i zs _=>∃lu,Paired (zf xs ps) zs lu/\lu.map (·.nm)=ys.take i/\∀p∈lu,(p.nm,p.ms)∈ch) ⟨_,rfl⟩ (fun _ _=>⟨[],.nil,rfl,fun _ h=>nomatch h⟩) ?_ ?_
   . intro D i x zs σ H2 k hD hi pO hd h2 ro dA;refine b0 ?_;intro tT;obtain⟨v,rfl⟩:=pO;obtain⟨lu,pr,pn,pc⟩:=ro
     skip
     rw[bN]at hi;cases hy:ys[i]? with
     | none=>rw[hy]at hi;cases hi
     | some y=>
      rw[hy]at hi;cases hi;have IM:y∈ch.map (·.1):=hp.mem_iff.mp (eN hy);obtain⟨u,ms,g1,g2,_,m,rfl,g3⟩:=Dp hk e2 IM;obtain⟨v2,p,cH,en,em⟩:=hV _ g2;obtain⟨j,j1,j2⟩:=id cH;have en:p.nm=y:=en;have em:p.ms=ms:=em;subst en em;obtain⟨sa,dx,fl,d,kk,rfl,b1,b2,b3,b4,b5⟩:=hS.same (s1.trans h2);have bW:=s1.trans h2;refine⟨_,rfl,sa,dx,fl,rfl,b1,b3,_,rfl,_,rfl,_,rfl,c,_,rfl,(by rw[←g1];exact cw.k (k:=.inr p.nm) (bW _ _ e1)),?_⟩;refine⟨_,v2,m,xs,ps,j,p,rfl,⟨sa,dx,fl,d,kk,rfl,b1,b2,b3,b4,b5⟩,j1,j2,bW _ _ g3,fun H3 s3=>?_⟩;have hl:zs.length<=64:=by
       have e:=fL List.length pn;rw[au,db]at e;have:=aK pr;have:=hp.length_eq;rw[au]at this;omega
      refine dA _ _ _ ⟨_,rfl⟩ s3 (bj (by omega)) ⟨lu++[p],dj cH pr,?_,fun p' cC=>?_⟩
      . rw[dU,pn,Bw,hy];rfl
      . rcases eg.mp cC with z | z
        . exact pc p' z
        . rw[cE.mp z];exact g2
   . intro D zs H2 hD hd h2 rp;refine b0 ?_;intro tT;obtain⟨lu,pr,pn,pc⟩:=rp
     skip
     rw[au,cj]at pn;refine q D H2 zs lu (s1.free hD) (s1.trans h2) hd pr ?_ pc ?_
     . rw[pn];exact hp
     . rw[pn];exact hs
end
end K42
namespace K42
open PySem L2 PySem.Spec
section
variable {g:TG} {tt:TT} {te:TE} {H1:Hp} {Q:Hp->Prop}
theorem jD{K:Fg}{a D:Addr}{xs:Lv}{σ0:St}(hD:H1 D=none)(hx:af K H1 a xs)(S:St->Prop)(P:Nat->Lv->Hp->Prop)(s0:S σ0)(st:P 0 [] (aj H1 D (.lst [])))
 (turn:∀i x ys σ H (k:St->V->Hp->Prop) (k':St->Hp->Prop),xs[i]? = some x->S σ->H D=some (.lst ys)->ag H1 H->P i ys H ->
  (∀σ3 y H5,S σ3->ag H H5->ys.length<sizeLine->P (i+1) (ys++[y]) (aj H5 D (.lst (ys++[y])))->k σ3 y H5)->(∀σ3 H4,S σ3->ag H H4->P (i+1) ys H4->k' σ3 H4) ->
  g x σ H fun σ3 H3=>tt σ3 H3 fun ok H4=>if ok=true then te σ3 H4 (k σ3) else k' σ3 H4)
 (done:∀ys H,H D=some (.lst ys)->ag H1 H->P xs.length ys H->Q H) :
 ∃W:Nat->Nat->St->Hp->Prop,(∃m,W 0 m σ0 (aj H1 D (.lst [])))/\lR (nh K a) g tt te D (fun H'=>Q H') W:=by
 refine⟨fun i m σ H=>m=xs.length - i/\i<=xs.length/\S σ/\∃ys,H D=some (.lst ys)/\ag H1 H/\P i ys H,⟨xs.length,by simp,dO _,s0,[],aP,jV hD,st⟩,?_⟩;intro i m σ H pO;refine b0 ?_;intro tT;obtain⟨rfl,hi,hS,ys,hd,hs,hp⟩:=pO
 skip
 have q:af K H a xs:=ag.seq hs hx
 by_cases aD:i<xs.length
 . refine .inr ⟨⟨xs,xs[i],q,by simp[aD]⟩,fun x H2 hy=>?_⟩;obtain⟨e1,e2⟩:=hy;subst e1;exact turn i x ys σ _ (fun σ3 y H5=>∃ys,H5 D=some (.lst ys)/\ys.length<sizeLine/\∃m',m'<xs.length - i/\(m'=xs.length - (i+1)/\i+1<=xs.length/\S σ3/\∃zs,aj H5 D (.lst (ys++[y])) D=some (.lst zs)/\ag H1 (aj H5 D (.lst (ys++[y])))/\P (i+1) zs (aj H5 D (.lst (ys++[y])))))
    (fun σ3 H4=>∃m',m'<xs.length - i/\(m'=xs.length - (i+1)/\i+1<=xs.length/\S σ3/\∃zs,H4 D=some (.lst zs)/\ag H1 H4/\P (i+1) zs H4)) (e2 xs q) hS hd hs hp
    (fun σ3 y H5 a1 a2 a3 a4=>⟨ys,a2 _ _ hd,a3,xs.length - (i+1),by omega,rfl,aD,a1,ys++[y],aP,qS (hs.trans a2) hD,a4⟩)
    (fun σ3 H4 a1 a2 a3=>⟨xs.length - (i+1),by omega,rfl,aD,a1,ys,a2 _ _ hd,hs.trans a2,a3⟩)
 . have e:i=xs.length:=by omega
   subst e;exact .inl ⟨⟨xs,q,aH _⟩,done ys H hd hs hp⟩
theorem vO{K:Fg}{a D:Addr}{xs:Lv}{σ0:St}(hD:H1 D=none)(hx:af K H1 a xs)(S:St->Prop)(P:Nat->Lv->Hp->Prop)(s0:S σ0)(st:P 0 [] (aj H1 D (.lst [])))
 (turn:∀i x ys σ H (k:St->V->Hp->Prop),xs[i]? = some x->S σ->H D=some (.lst ys)->ag H1 H->P i ys H ->
  (∀σ3 y H5,S σ3->ag H H5->ys.length<sizeLine->P (i+1) (ys++[y]) (aj H5 D (.lst (ys++[y])))->k σ3 y H5)->g x σ H fun σ3 H3=>te σ3 H3 (k σ3))
 (done:∀ys H,H D=some (.lst ys)->ag H1 H->P xs.length ys H->Q H) :
 ∃W:Nat->Nat->St->Hp->Prop,(∃m,W 0 m σ0 (aj H1 D (.lst [])))/\lR (nh K a) g sJ te D (fun H'=>Q H') W:=
 jD hD hx S P s0 st (fun i x ys σ H k k' a1 a2 a3 a4 a5 a6 _=>turn i x ys σ H k a1 a2 a3 a4 a5 a6) done
end
abbrev dI (ms:List Int):PySem.W.Dat:=.tuple (ms.map PySem.W.Dat.int)
theorem QQ{a b:List Int}:dI a=dI b↔a=b:=⟨fun h=>(Vi fun x y z=>PySem.W.Dat.int.inj z).mp (PySem.W.Dat.tuple.inj h),fun h=>by rw[h]⟩
theorem zj(n:Nat)(ms:List Int):PySem.W.kqdOk (n+1) (dI ms)=true:=by
 simp only[dI,PySem.W.kqdOk,dW,be];rintro d ⟨i,_,rfl⟩;simp[PySem.W.kqdOk]
theorem Dq{K:Fg}{H:Hp}{m:Addr}{ms:List Int}(h:H m=some (.tup (ms.map V.int))):DV K H (.ref m) (dI ms):=.tup (aw.of h) (B0 ms)
theorem Dr{X:Cx}(K:Fg){es:List Expr}{k:Nat}{pos:Pos}{t:qG}{n:Nat}(hc:X.calm=true)(h:iB X es t)(hK:X.K=K:=by rfl)
 (hn:(assignEach es X.env).length=n:=by rfl) (lM:(assignEach es X.env).findIdx? (·.1)=none:=by rfl):PG X (.Tuple es k pos) (BN K n t):=hK▸sk hc h hn lM
theorem tG:∀xs:Ls,(xs.map V.str).all o7=true
 | []=>rfl
 | x::xs=>by rw[b9,FF,tG xs];rfl
theorem jc{α:Type}{f:α->Bool}{l:List α}{i:Nat}{x:α}(h:l[i]? = some x):(l.take (i+1)).filter f=(l.take i).filter f++(if f x=true then [x] else []):=pG h
theorem Dt{b:Bool}{ls:List Int}(h:b=true↔dI ls=PySem.W.Dat.tuple []):b=decide (ls = []):=by
 rw[show PySem.W.Dat.tuple []=dI [] from rfl,QQ]at h
 by_cases q:ls = []
 . rw[aE q];exact h.mpr q
 . rw[aR q];exact eX.mpr fun z=>q (h.mp z)
section
variable {P:Program} {w:World} {K:Fg} {mg:Mv} {base:Heap}
def IN:Sp:=fun vs H Q _=>∃(a l:Addr) (b:V) (mk ls:List Int) (bl:Oi),vs = [.ref a,.ref l,b]/\H a=some (.tup (mk.map V.int))/\H l=some (.tup (ls.map V.int))/\cZ H b bl/\Q (.bl (!HT.lexLt mk ls && re mk bl)) H
theorem akG:bh [atQ,auV,auW] [atQ,auV,auW] (aI j4):=⟨rfl,rfl,rfl,by decide +kernel,rfl,by decide +kernel,by decide +kernel⟩
theorem QR{f:Addr}{fd:Fy}(F:ai K atL atL j4 f fd):ak P w K mg base ao 1 f fd [atQ,auV,auW] IN:=by
 refine F.ok akG (fun vs H Q E h=>?_) (fun aF A outer s H vs Q E hr h=>?_)
 . obtain⟨a,l,b,mk,ls,bl,rfl,_⟩:=h;rfl
 . refine bo ?_;intro xX dX;obtain⟨a,l,b,mk,ls,bl,rfl,hA,hL,hB,q⟩:=h;have hu:=hr.units0;refine⟨_,aB (aO (jw (fR (N0 hu) (pv 0) (pv 1) (ba _)) (jP (Nd (fR kW (pv 2) eh (ba _)) (jP (fR (GC hu) (pv 0) (pv 2) (ba _))))))),?_⟩;refine⟨_,rfl,_,rfl,a,l,mk,ls,rfl,rfl,aw.of hA,aw.of hL,_,rfl,aJ (fun h1=>?_) (fun h1=>?_)⟩
   . rw[h1,jq]at q;cases bl with
     | none=>
      have hB:b = .non:=hB;subst hB;exact⟨_,rfl,rfl,_,rfl,i7 q⟩
     | some bs=>
      obtain⟨c,rfl,hC⟩:=hB;refine⟨_,rfl,rfl,_,rfl,ff ?_⟩;exact⟨_,rfl,_,rfl,a,c,mk,bs,rfl,rfl,aw.of hA,aw.of hC,q⟩
   . rw[eX.mpr h1,iU]at q;exact q
def Du(C:Addr):Sp:=fun vs H Q _=>∃(cv pv:V) (c:dB) (p:aS),vs = [cv,pv]/\dL H cv c/\gT C H pv p/\∀H',ag H H'->Q (.bl (bB c p)) H'
theorem Dv:bh [at1,atJ,atE,auV,auW] [at1,atJ] (aI nX):=⟨rfl,rfl,rfl,by decide +kernel,rfl,by decide +kernel,by decide +kernel⟩
theorem IP{f cR C:Addr}{fd fu:Fy}(F:ai K atU atU nX f fd)(c4:ai K atL atL j4 cR fu)(dR:mg atL = some (.ref cR))(T:Txt K mg C) :
 ak P w K mg base ao 2 f fd [at1,atJ] (Du C):=by
 have IQ:ak P w K mg base ao 1 cR fu [atQ,auV,auW] IN:=QR c4;have IR:=c4.binds3 (l:=[atQ,auV,auW]) (fun _ _ _ _ _ _ _ _ _=>rfl);refine F.ok Dv (fun vs H Q E h=>?_) (fun aF A outer s H vs Q E hr h=>?_)
 . obtain⟨cv,v,c,p,rfl,_⟩:=h;rfl
 . refine bo ?_;intro xX dX;obtain⟨cv,v,cl,p,rfl,⟨c,l,b,rfl,c1,c2,c3⟩,⟨a,dx,fl,rk,m,pf,pn,ps,po,xs,rfl,hA,hF,hM,_,_,hO,_⟩,q⟩:=h;have hu:=hr.units;refine⟨_,az (bi (i:=2) Dv.nd rfl (Or.inl rfl) (aQ bO (pv 0) ar (fun _ _=>rfl)))
    (az (bi (i:=3) Dv.nd rfl (Or.inl rfl) (aQ bO (pv 0) ar (fun _ _=>rfl)))
    (az (bi (i:=4) Dv.nd rfl (Or.inl rfl) (aQ bO (pv 0) ar (fun _ _=>rfl)))
    (xT (fun σ H2=>σ = [some (.ref c),some (.ref a),some (.str cl.nm),some (.ref l),some b]/\H2=H/\(decide (cl.nm=p.nm) && (!HT.lexLt p.ms cl.ls && re p.ms cl.bl))=false)
     (cp (PW.pt (uV (bA eQ (du (pv 1) rfl) (pv 2) (ba _)) (xA (ge (aG IQ hr rfl dR c4.kp IR .nil av (aa (du (pv 1) rfl) (aa (pv 3) (aa (pv 4) ae))))))))
      (aB (aO fQ)) cr)
    (aB (aO (jw (fR xK (pv 2) (du (pv 1) rfl) (by rfl)) (jw (fR (GO hu) (pv 3) (dz ae) (ba _)) (jP (fR kW (pv 4) eh (ba _)))))))))),?_⟩
   refine pp ?_;intro dD sS kH eS dM;have a0:bT [V.str cl.nm,.ref l,b] 0=some (V.str cl.nm):=rfl;have a1:bT [V.str cl.nm,.ref l,b] 1=some (V.ref l):=rfl;have a2:bT [V.str cl.nm,.ref l,b] 2=some b:=rfl;refine⟨_,rfl,c,_,_,_,rfl,rfl,aw.of c1,a0,?_⟩;refine⟨_,rfl,c,_,_,_,rfl,rfl,aw.of c1,a1,?_⟩;refine⟨_,rfl,c,_,_,_,rfl,rfl,aw.of c1,a2,?_⟩;refine⟨?_,?_⟩
   . refine⟨_,rfl,a,C,dx,_,_,rfl,hA,T.cl,T.nN,hF.name,_,rfl,rfl,_,rfl,?_⟩;refine aJ (fun h1=>?_) (fun h1=>?_)
     . have e1:p.nm=cl.nm:=by
        have:=bd h1;injection this
       refine⟨_,rfl,a,C,dx,_,_,rfl,hA,T.cl,T.nM,hF.make,_,rfl,_,rfl,m,l,b,p.ms,cl.ls,cl.bl,rfl,hM,c2,c3,_,rfl,?_⟩;refine aJ (fun h2=>?_) (fun h2=>?_)
       . have e:bB cl p=true:=by unfold bB;rw[h2,aE e1.symm];rfl
         rw[e]at q;exact q _ (ag.refl H)
       . exact⟨rfl,rfl,by rw[eX.mpr h2,kj]⟩
     . refine⟨rfl,rfl,?_⟩;have:cl.nm≠p.nm:=fun e=>h1 (by rw[e];exact aE rfl);rw[aR this,iU]
   . rintro σ' H' ⟨rfl,rfl,hN⟩;unfold bB at q;rw[hN,FH]at q;refine⟨_,rfl,_,rfl,a,C,dx,_,_,rfl,hA,T.cl,T.nO,hF.offers,po,_,rfl,.inl (af.of hO),rfl,tG _,_,rfl,aJ (fun h1=>?_) (fun h1=>?_)⟩
     . have IS:nr (.str cl.nm) (p.os.map V.str)=true:=h1;rw[IS,jq]at q;refine⟨_,rfl,(by show 0<=sizeLine;decide),fun t H1 n1 s1 e1=>?_⟩;refine⟨dI cl.ls,dI [],Dq (s1 _ _ c2),Dq e1,zj 8 _,zj 8 _,fun b1 tH=>⟨b1,rfl,aJ (fun h2=>?_) (fun h2=>?_)⟩⟩
       . rw[Dt tH]at h2;rw[h2,jq]at q;refine⟨_,rfl,rfl,?_⟩;cases nZ:cl.bl with
         | none=>
          rw[nZ]at c3 q;have c3:b = .non:=c3;subst c3;exact q _ s1
         | some bs=>
          rw[nZ]at c3 q;obtain⟨d,rfl,_⟩:=c3;exact q _ s1
       . have e:=Dt tH;rw[eX.mpr h2]at e;rw[←e,iU]at q;exact q _ s1
     . have IS:nr (.str cl.nm) (p.os.map V.str)=false:=eX.mpr h1;rw[IS,iU]at q;exact q _ (ag.refl _)
abbrev akH (C:Addr) (H:Hp) (ps:Lp) (Q:VK):Prop:=∀D H' ys,H D=none->ag H H'->H' D=some (.lst ys)->gC C H' ys ps->Q (.ref D) H'
def IV(C:Addr):Sp:=fun vs H Q _=>∃(cv:V) (a:Addr) (c:dB) (xs:Lv) (ps:Lp),vs = [cv,.ref a]/\dL H cv c/\H a=some (.lst xs)/\gC C H xs ps/\ps.length<=100/\akH C H (ps.filter (bB c)) Q
theorem akI:bh [at1,atV] [at1,atV] (aI vG):=⟨rfl,rfl,rfl,by decide +kernel,rfl,by decide +kernel,by decide +kernel⟩
theorem QS{f fX cR C:Addr}{fd jd fu:Fy}(F:ai K auk auk vG f fd)(eV:ai K atU atU nX fX jd)(im:mg atU = some (.ref fX))(c4:ai K atL atL j4 cR fu)(dR:mg atL = some (.ref cR))(T:Txt K mg C) :
 ak P w K mg base ao 3 f fd [at1,atV] (IV C):=by
 have zk:ak P w K mg base ao 2 fX jd [at1,atJ] (Du C):=IP eV c4 dR T;have zm:=eV.binds2 (l:=[at1,atJ]) (fun _ _ _ _ _ _ _ _=>rfl);refine F.ok akI (fun vs H Q E h=>?_) (fun aF A outer s H vs Q E hr h=>?_)
 . obtain⟨cv,a,c,xs,ps,rfl,_⟩:=h;rfl
 . refine bo ?_;intro xX dX;obtain⟨cv,a,c,xs,ps,rfl,hc,ha,bf,Dn,q⟩:=h;have hl:=aK bf;refine⟨_,(aB (aO (dw [atJ] [at1] [0] ⟨rfl,by decide +kernel,by decide +kernel,by decide +kernel,by decide +kernel,rfl,rfl,rfl⟩ rfl (bJ (pv 1)) (fun _ _ _ _=>(aT (i:=0) (show List.Nodup ([atJ,at1]:Ls) by decide +kernel) rfl (Or.inl rfl))) (fun _ _ _ _=>ig (ge (aG zk hr rfl im eV.kp zm .nil av (aa (pv 1) (aa (pv 0) ae))))) (fun _ _ _ _=>(pv 0))))),?_⟩;refine⟨_,rfl,a,rfl,⟨_,af.of ha⟩,?_⟩;intro D hD;refine jD (σ0:=[none,some cv]) hD (af.of ha) (fun σ=>∃v,σ = [v,some cv]) (fun j zs _=>zs.length<=j/\gC C H zs ((ps.take j).filter (bB c))) ⟨_,rfl⟩ ⟨aH _,.nil⟩ ?_ ?_
   . rintro j y zs σ H3 k k' hy ⟨v,rfl⟩ fw h3 ⟨zl,zp⟩ cG gU;obtain⟨p,hp,hE⟩:=bD bf hy;have aD:=(bH.mp hp).1;refine⟨_,rfl,_,rfl,cv,y,c,p,rfl,hc.same h3,hE.same h3,fun H4 h4=>⟨_,rfl,?_⟩⟩;refine aJ (fun h=>?_) (fun h=>?_)
     . refine⟨_,rfl,cG _ _ _ ⟨_,rfl⟩ h4 (bj (by omega)) ⟨by rw[bc,mV];omega,?_⟩⟩;rw[jc hp,ap h];exact dj hE zp
     . refine gU _ _ ⟨_,rfl⟩ h4 ⟨by omega,?_⟩;rw[jc hp,ah h,dG];exact zp
   . rintro zs H3 fw h3 ⟨zl,zp⟩;rw[hl,cj]at zp;exact q D H3 zs hD h3 fw (zp.same h3)
def IW(C:Addr):Sp:=fun vs H Q _=>∃(v:V) (p:aS),vs = [v]/\gT C H v p/\p.fs.length<=100/\iD H (.lst ((bu p).map V.str)) Q
theorem akJ:bh [atJ] [atJ] (aI vH):=⟨rfl,rfl,rfl,by decide +kernel,rfl,by decide +kernel,by decide +kernel⟩
theorem QT{f C:Addr}{fd:Fy}(F:ai K aue aue vH f fd)(T:Txt K mg C):ak P w K mg base ao 1 f fd [atJ] (IW C):=by
 refine F.ok akJ (fun vs H Q E h=>?_) (fun aF A outer s H vs Q E hr h=>?_)
 . obtain⟨v,p,rfl,_⟩:=h;rfl
 . refine bo ?_;intro xX dX;obtain⟨v,p,rfl,⟨a,dx,fl,rk,m,pf,pn,ps,po,xs,rfl,hA,hF,hM,md,lq,_⟩,Dn,q⟩:=h;have hl:=aK lq;refine⟨_,(aB (aO (dw [aui,auD] [] [] ⟨rfl,by decide +kernel,by decide +kernel,by decide +kernel,by decide +kernel,rfl,rfl,rfl⟩ rfl (bJ (du (pv 0) rfl)) (fun _ _ _ _=>(Dr (n:=2) K rfl (gf (aT (i:=0) (show List.Nodup ([aui,auD]:Ls) by decide +kernel) rfl (Or.inl rfl)) (gf (aT (i:=1) (show List.Nodup ([aui,auD]:Ls) by decide +kernel) rfl (Or.inl rfl)) ng)))) (fun _ _ _ _=>fh) (fun _ _ _ _=>(pv 0))))),?_⟩;refine⟨_,rfl,a,C,dx,_,_,rfl,hA,T.cl,T.nF,hF.files,pf,rfl,⟨_,af.of md⟩,?_⟩;intro D hD;refine vO (σ0:=[none,none]) hD (af.of md) (fun σ=>∃u v,σ = [u,v]) (fun j zs _=>zs=((bu p).take j).map V.str) ⟨_,_,rfl⟩ rfl ?_ ?_
   . rintro j y zs σ H3 k hy ⟨u,v,rfl⟩ fw h3 rfl cG;obtain⟨f,hf,t,l,rfl,f1,f2⟩:=bD lq hy;have aD:=(bH.mp hf).1;have sW:(bu p)[j]? = some f.1:=by unfold bu;rw[bN,hf];rfl
     refine⟨t,_,rfl,aw.of (h3 _ _ f1),rfl,_,_,rfl,_,_,rfl,rfl,?_⟩;refine⟨_,rfl,cG _ _ _ ⟨_,_,rfl⟩ (ag.refl _) (bj (by rw[au,db];omega)) ?_⟩;rw[gB sW,dU];rfl
   . rintro zs H3 fw h3 rfl;have e:(bu p).take xs.length=bu p:=uO (by unfold bu;rw[au];omega);rw[e]at fw;exact q D H3 hD h3 fw
end
end K42
namespace L2
open PySem PySem.Spec
theorem QU{K:Fg}{a:Addr}{xs:Lv}{g:TG}{tb:TS}{D:Ends}{σ:St}{H:Hp}(Pv:Nat->St->Hp->Prop)(h0:Pv 0 σ H)(hl:∀i σ H,i<=xs.length->Pv i σ H->af K H a xs)
 (hs:∀i x p σ H,xs[i]? = some x->Pv i σ H->H p=none->g (.ref p) σ (aj H p (.tup [.int i,x])) fun σ2 H2=>tb { D with nx:=Pv (i+1),ct:=Pv (i+1),bk:=D.nx } σ2 H2) (hd:∀σ H,Pv xs.length σ H->D.nx σ H) :
 ∃W:Nat->Nat->St->Hp->Prop,(∃m,W 0 m σ H)/\∀i m σ H,W i m σ H ->
  ((yz K a).stop i H/\D.nx σ H)\/((yz K a).go i H/\∃N:St->Hp->Prop,(∀σ' H',N σ' H'->∃m',m'<m/\W (i+1) m' σ' H')/\∀x H',(yz K a).yld i H x H'->g x σ H' fun σ2 H2=>tb { D with nx:=N,ct:=N,bk:=D.nx } σ2 H2):=by
 refine⟨fun i m σ H=>m=xs.length - i/\i<=xs.length/\Pv i σ H,⟨xs.length,by simp,dO _,h0⟩,?_⟩;rintro i m σ H ⟨rfl,hi,p⟩;have q:=hl i σ H hi p
 by_cases aD:i<xs.length
 . refine .inr ⟨⟨xs,xs[i],q,by simp[aD]⟩,Pv (i+1),fun σ' H' p'=>⟨xs.length - (i+1),by omega,rfl,aD,p'⟩,fun x H' y=>?_⟩;obtain⟨b,x',hb,e,rfl,rfl⟩:=y;exact hs i x' b σ _ (e xs q) p hb
 . have e:i=xs.length:=by omega
   subst e;exact .inl ⟨⟨xs,q,aH _⟩,hd σ H p⟩
end L2
namespace K42
open PySem L2 PySem.Spec
open HT (At gj fm)
def lw(H:Hp)(v:V)(k:List At):Prop:=∃t,v = .ref t/\H t=some (.tup (k.map aV))
abbrev iN (H:Hp):Lv->List (List At)->Prop:=Paired (lw H)
theorem lw.same{H H':Hp}(s:ag H H'){v:V}{k:List At}(h:lw H v k):lw H' v k:=h.elim fun t akK=>akK.elim fun a b=>⟨t,a,s _ _ b⟩
theorem iN.same{H H':Hp}(s:ag H H'){vs:Lv}{ks:List (List At)}(h:iN H vs ks):iN H' vs ks:=aM h fun _ _=>lw.same s
theorem lw.mut{H:Hp}{p:Addr}{ys:Lv}{o:HO}(hp:H p=some (.lst ys)){v:V}{k:List At}(h:lw H v k):lw (aj H p o) v k:=h.elim fun t akL=>akL.elim fun a b=>⟨t,a,aW b (eP b hp (by intro z;cases z))⟩
theorem iN.mut{H:Hp}{p:Addr}{ys:Lv}{o:HO}(hp:H p=some (.lst ys)){vs:Lv}{ks:List (List At)}(h:iN H vs ks):iN (aj H p o) vs ks:=aM h fun _ _=>lw.mut hp
theorem rA{α β:Type}{F:α->β->Prop}:∀{xs jM:List α} {ys aX:List β},Paired F xs ys->Paired F jM aX->Paired F (xs++jM) (ys++aX)
 | _,_,_,_,.nil,h=>h
 | _,_,_,_,.cons r t,h=>.cons r (rA t h)
theorem j5{H H2:Hp}{p:Addr}{o:HO}(n:H p=none)(s:ag H H2):ag H (aj H2 p o):=fun b u e=>aW (s _ _ e) (bg e n)
abbrev akM (H:Hp) (ks:List (List At)) (Q:VK):Prop:=∀D H' ys,H D=none->ag H H'->H' D=some (.lst ys)->iN H' ys ks->Q (.ref D) H'
theorem QV{f:Nat->dB->List (List At)}{m:Nat}(h:∀i x,(f i x).length<=m){l:List dB}{i:Nat}:(dQ f (l.take i) 0).length<=l.length * m:=
 bS (Cy h) (MW _ (by rw[db];omega))
theorem akN(p:aS)(ps:Lp)(i:Nat)(c:dB):(jA p ps i c).length<=1:=by unfold jA;split<;>simp
theorem akO(p:aS)(ps:Lp)(i:Nat)(c:dB):(rf p ps i c).length<=ps.length:=by
 unfold rf jB;rw[au];exact bS (gK _ _) (gK _ _)
section
variable {P:Program} {w:World} {K:Fg} {mg:Mv} {base:Heap}
def vP(C:Addr)(f:aS->Lp->List (List At)):Sp:=fun vs H Q _=>∃(v:V) (a:Addr) (xs:Lv) (p:aS) (ps:Lp),vs = [v,.ref a]/\gT C H v p/\H a=some (.lst xs)/\gC C H xs ps/\ps.length<=9/\p.ns.length<=9/\p.ss.length<=9/\(∀o∈p::ps,o.fs.length<=9)/\akM H (f p ps) Q
theorem Dw:bh [atJ,atV,"faults",atR,at1] [atJ,atV] (aI CH):=⟨rfl,rfl,rfl,by decide +kernel,rfl,by decide +kernel,by decide +kernel⟩
theorem akP{f pQ fX cR C:Addr}{fd tI jd fu:Fy}(F:ai K auK auK CH f fd)(B:bX mg)(T:Txt K mg C)(lx:ai K auk auk vG pQ tI)(rB:mg auk = some (.ref pQ))
 (eV:ai K atU atU nX fX jd) (im:mg atU = some (.ref fX)) (c4:ai K atL atL j4 cR fu) (dR:mg atL = some (.ref cR)):ak P w K mg base ao 4 f fd [atJ,atV] (vP C nW):=by
 have IX:ak P w K mg base ao 3 pQ tI [at1,atV] (IV C):=QS lx eV im c4 dR T;have IY:=lx.binds2 (l:=[at1,atV]) (fun _ _ _ _ _ _ _ _=>rfl);refine F.ok Dw (fun vs H Q E h=>?_) (fun aF A outer s H vs Q E hr h=>?_)
 . obtain⟨v,a,xs,p,ps,rfl,_⟩:=h;rfl
 . refine bo ?_;intro xX dX;obtain⟨v,a,xs,p,ps,rfl,⟨b,dx,fl,rk,m,pf,pn,pP,po,fx,rfl,hA,hF,hM,md,lq,hO,hR,⟨cx,tJ,gk⟩,_⟩,ha,bf,l1,l2,l3,l4,q⟩:=h;refine⟨_,(az (bi (i:=2) Dw.nd rfl (Or.inl rfl) (eA ae))
    (az (gr hZ rfl (Py (by rfl) B.enumerate (aa (du (pv 0) rfl) ae)) (sk rfl (gf (aT (i:=3) Dw.nd rfl (Or.inl rfl)) (gf (aT (i:=4) Dw.nd rfl (Or.inl rfl)) ng)))
    (aB (cp (bA eQ (bZ gy (by rfl) B.len hX (aa (aG IX hr rfl rB lx.kp IY .nil av (aa (pv 4) (aa (pv 1) ae))) ae)) ar (ba _))
     (aB (m9 (nt qD Vj Vk BW (pv 2) (aa (dz (aa gL (aa (du (pv 0) rfl) (aa (pv 3) ae)))) ae)))) cr)))
    (aB (aO (pv 2))))),?_⟩
   refine lT ?_;intro dD sS eS dM;refine⟨(by show 0<=sizeLine;decide),fun p1 H1 n1 s1 e1=>?_⟩;refine⟨_,rfl,b,C,dx,_,_,rfl,s1 _ _ hA,T.cl,T.nE,hF.needs,pn,rfl,⟨_,af.of (s1 _ _ tJ)⟩,?_⟩;have cl:=aK gk;refine QU (xs:=cx) (fun i σ H2=>∃u v zs,σ = [some (.ref b),some (.ref a),some (.ref p1),u,v]/\ag H H2/\H2 p1=some (.lst zs)/\iN H2 zs (dQ (jA p ps) (p.ns.take i) 0)) ⟨none,none,[],rfl,s1,e1,.nil⟩ ?_ ?_ ?_
   . intro i σ H2 hi hQ;obtain⟨u,v,zs,rfl,s2,e2,z2⟩:=hQ;exact af.of (s2 _ _ tJ)
   . intro i z t σ H2 hz hQ ht;refine b0 ?_;intro tT;obtain⟨u,v,zs,rfl,s2,e2,z2⟩:=hQ;obtain⟨c,hc,IZ⟩:=bD gk hz;have st:ag H2 (aj H2 t (.tup [.int i,z])):=jV ht;refine⟨t,_,rfl,aw.of aP,rfl,_,_,rfl,_,_,rfl,rfl,?_⟩;have s3:=s2.trans st;refine⟨_,rfl,_,rfl,z,a,c,xs,ps,rfl,IZ.same s3,s3 _ _ ha,bf.same s3,by omega,fun D H4 ys n4 s4 e4 z4=>⟨D,_,rfl,.inl (af.of e4),rfl,_,rfl,?_⟩⟩;have lz:=aK z4;have tK:=st.trans s4;have gs:=Qe (f:=jA p ps) hc;have zl:=aK z2;have gl:=QV (m:=1) (akN p ps) (l:=p.ns) (i:=i);refine aJ (fun h=>?_) (fun h=>?_)
     . have h0:ps.filter (bB c) = []:=by
        have:=bd h;injection this with this
        exact FZ (by omega)
       refine⟨_,rfl,.inl ⟨rfl,_,af.of (tK _ _ e2)⟩,_,rfl,b,C,dx,_,_,rfl,(s3.trans s4) _ _ hA,T.cl,T.nN,hF.name,_,rfl,(by show 3<=sizeLine;decide),fun p5 H5 n5 s5 e5=>?_⟩;have tL:=(tK.trans s5) _ _ e2;refine⟨p1,_,_,rfl,rfl,tL,bj (by omega),?_⟩;refine⟨_,_,_,rfl,j5 n1 ((s3.trans s4).trans s5),aP,?_⟩;rw[gs,jA,ap h0];exact dj (lw.mut (k:=[.inr nV,.inr p.nm,.inl i]) tL ⟨p5,rfl,e5⟩) ((z2.same (tK.trans s5)).mut tL)
     . have h0:ps.filter (bB c)≠[]:=fun z=>h (by rw[lz,z];exact aE rfl);refine⟨_,_,zs,rfl,s3.trans s4,tK _ _ e2,?_⟩;rw[gs,jA,ah h0,dG];exact z2.same tK
   . intro σ H2 hQ;obtain⟨u,v,zs,rfl,s2,e2,z2⟩:=hQ;rw[cl,cj]at z2;exact⟨_,rfl,q p1 H2 zs n1 s2 e2 z2⟩
theorem zn:bh [atJ,atV,"others","faults",atR,at1] [atJ,atV] (aI CJ):=⟨rfl,rfl,rfl,by decide +kernel,rfl,by decide +kernel,by decide +kernel⟩
theorem akQ{f pQ fX cR C:Addr}{fd tI jd fu:Fy}(F:ai K auL auL CJ f fd)(B:bX mg)(T:Txt K mg C)(lx:ai K auk auk vG pQ tI)(rB:mg auk = some (.ref pQ))
 (eV:ai K atU atU nX fX jd) (im:mg atU = some (.ref fX)) (c4:ai K atL atL j4 cR fu) (dR:mg atL = some (.ref cR)):ak P w K mg base ao 4 f fd [atJ,atV] (vP C pH):=by
 have IX:ak P w K mg base ao 3 pQ tI [at1,atV] (IV C):=QS lx eV im c4 dR T;have IY:=lx.binds2 (l:=[at1,atV]) (fun _ _ _ _ _ _ _ _=>rfl);refine F.ok zn (fun vs H Q E h=>?_) (fun aF A outer s H vs Q E hr h=>?_)
 . obtain⟨v,a,xs,p,ps,rfl,_⟩:=h;rfl
 . refine bo ?_;intro xX dX;obtain⟨v,a,xs,p,ps,rfl,⟨b,dx,fl,rk,m,pf,pn,pP,po,fx,rfl,hA,hF,hM,md,lq,hO,hR,_,⟨cx,tJ,gk⟩⟩,ha,bf,l1,l2,l3,l4,q⟩:=h;have hlen:=aK bf;refine⟨_,(xT (fun σ H2=>∃D zs,σ = [some (.ref b),some (.ref a),some (.ref D),none,none,none]/\ag H H2/\H2 D=some (.lst zs)/\gC C H2 zs (jB p ps)) (ny (i:=2) [at7] [atJ] [0] zn.nd rfl rfl ⟨rfl,by decide +kernel,by decide +kernel,by decide +kernel,by decide +kernel,rfl,rfl,rfl⟩ rfl (bJ (pv 1)) (fun _ _ _ _=>(aT (i:=0) (show List.Nodup ([at7,atJ]:Ls) by decide +kernel) rfl (Or.inl rfl))) (fun _ _ _ _=>ig (bA Go (pj K (pv 0) rfl) (pj K (pv 1) rfl) (ba _))) (fun _ _ _ _=>(pv 0)))
    (az (bi (i:=3) zn.nd rfl (Or.inl rfl) (eA ae))
    (az (gr hZ rfl (Py (by rfl) B.enumerate (aa (du (pv 0) rfl) ae)) (sk rfl (gf (aT (i:=4) zn.nd rfl (Or.inr rfl)) (gf (aT (i:=5) zn.nd rfl (Or.inl rfl)) ng)))
    (aB (m9 (nt qD xq xr sH (pv 3) (aa (dw [at7] [atJ,atR] [0,4] ⟨rfl,by decide +kernel,by decide +kernel,by decide +kernel,by decide +kernel,rfl,rfl,rfl⟩ rfl (bJ (aG IX hr rfl rB lx.kp IY .nil av (aa (pv 5) (aa (pv 2) ae)))) (fun _ _ _ _=>(aT (i:=0) (show List.Nodup ([at7,atJ,atR]:Ls) by decide +kernel) rfl (Or.inl rfl))) (fun _ _ _ _=>fh) (fun _ _ _ _=>(dz (aa gL (aa (pj K (pv 1) rfl) (aa (pv 2) (aa (pj K (pv 0) rfl) ae))))))) ae)))))
    (aB (aO (pv 3)))))),?_⟩
   refine⟨?_,?_⟩
   . refine⟨_,rfl,a,rfl,⟨_,af.of ha⟩,?_⟩;intro D hD;refine jD (σ0:=[none,some (.ref b)]) hD (af.of ha) (fun σ=>∃v,σ = [v,some (.ref b)]) (fun j zs _=>zs.length<=j/\gC C H zs (jB p (ps.take j))) ⟨_,rfl⟩ ⟨aH _,.nil⟩ ?_ ?_
     . rintro j y zs σ H3 k k' hy ⟨v,rfl⟩ fw h3 ⟨zl,zp⟩ cG gU;obtain⟨o,ho,hE⟩:=bD bf hy;have aD:=(bH.mp ho).1;obtain⟨b',tM,nY,I8,m',I9,Ja,Jb,Jc,vQ,rfl,tN,tO,_⟩:=id hE;refine⟨_,rfl,b',C,tM,_,_,rfl,h3 _ _ tN,T.cl,T.nN,tO.name,_,rfl,b,C,dx,_,_,rfl,h3 _ _ hA,T.cl,T.nN,hF.name,rfl,_,rfl,?_⟩;refine aJ (fun h=>?_) (fun h=>?_)
       . refine⟨_,rfl,cG _ _ _ ⟨_,rfl⟩ (ag.refl _) (bj (by omega)) ⟨by rw[bc,mV];omega,?_⟩⟩;have h0:o.nm≠p.nm:=fun z=>by
          rw[z]at h;simp at h
         unfold jB;rw[jc ho,ap (aE h0)];exact dj hE zp
       . refine gU _ _ ⟨_,rfl⟩ (ag.refl _) ⟨by omega,?_⟩;have h0:¬o.nm≠p.nm:=fun z=>h (by simpa using z);unfold jB;rw[jc ho,ah (by rw[aR h0];decide),dG];exact zp
     . rintro zs H3 fw h3 ⟨zl,zp⟩;rw[hlen,cj]at zp;exact⟨D,zs,rfl,h3,fw,zp.same h3⟩
   . intro σ' H0 Jd;obtain⟨D0,oz,rfl,s0,d0,Dx⟩:=Jd;refine⟨(by show 0<=sizeLine;decide),fun p1 H1 n1 s1 e1=>?_⟩;have QW:=s0.trans s1;have Dy:H p1=none:=s0.free n1;refine⟨_,rfl,b,C,dx,_,_,rfl,QW _ _ hA,T.cl,T.nS,hF.shuts,pP,rfl,⟨_,af.of (QW _ _ tJ)⟩,?_⟩;have cl:=aK gk;refine QU (xs:=cx) (fun i σ H2=>∃u v zs,σ = [some (.ref b),some (.ref a),some (.ref D0),some (.ref p1),u,v]/\ag H0 H2/\H2 p1=some (.lst zs)/\iN H2 zs (dQ (rf p ps) (p.ss.take i) 0)) ⟨none,none,[],rfl,s1,e1,.nil⟩ ?_ ?_ ?_
     . intro i σ H2 hi hQ;obtain⟨u,v,zs,rfl,s2,e2,z2⟩:=hQ;exact af.of (s2 _ _ (s0 _ _ tJ))
     . intro i z t σ H2 hz hQ ht;refine b0 ?_;intro tT;obtain⟨u,v,zs,rfl,s2,e2,z2⟩:=hQ;obtain⟨c,hc,IZ⟩:=bD gk hz;have st:ag H2 (aj H2 t (.tup [.int i,z])):=jV ht;refine⟨t,_,rfl,aw.of aP,rfl,_,_,rfl,_,_,rfl,rfl,?_⟩;have s3:=s2.trans st;have ol:(jB p ps).length<=ps.length:=gK _ _;refine⟨_,rfl,.inl ⟨rfl,_,af.of (st _ _ e2)⟩,_,rfl,_,rfl,z,D0,c,oz,jB p ps,rfl,IZ.same (s0.trans s3),s3 _ _ d0,Dx.same s3,by omega,fun D H4 ys n4 s4 e4 z4=>⟨D,rfl,⟨_,af.of e4⟩,?_⟩⟩;have lz:=aK z4;have QX:=s3.trans s4;have gs:=Qe (f:=rf p ps) hc;have zl:=aK z2;have gl:=bS (QV (m:=ps.length) (akO p ps) (l:=p.ss) (i:=i)) (Nat.mul_le_mul l3 l1);have nY:((jB p ps).filter (bB c)).length<=ps.length:=bS (gK _ _) ol;intro D5 pR;refine vO (σ0:=[none,some (.ref b),some (.int i)]) pR (af.of e4) (fun σ=>∃v,σ = [v,some (.ref b),some (.int i)]) (fun j aY H5=>iN H5 aY ((((jB p ps).filter (bB c)).take j).map fun o=>[.inr li,.inr p.nm,.inl i,.inr o.nm])) ⟨_,rfl⟩ .nil ?_ ?_
       . rintro j y aY σ H5 k hy ⟨v,rfl⟩ ip h5 zp cG;obtain⟨o,ho,b',tM,asZ,I8,m',I9,Ja,Jb,Jc,vQ,rfl,tN,tO,_⟩:=bD z4 hy;have aD:=(bH.mp ho).1;have zo:=aK zp;rw[au,db]at zo;refine⟨_,rfl,b,C,dx,_,_,rfl,((s0.trans QX).trans h5) _ _ hA,T.cl,T.nN,hF.name,_,rfl,_,rfl,b',C,tM,_,_,rfl,h5 _ _ tN,T.cl,T.nN,tO.name,(by show 4<=sizeLine;decide),fun p6 H6 n6 s6 e6=>?_⟩;have d6:=s6 _ _ ip;refine cG _ _ _ ⟨_,rfl⟩ s6 (bj (by omega)) ?_;rw[gB ho,dU];exact dj (lw.mut (k:=[.inr li,.inr p.nm,.inl i,.inr o.nm]) d6 ⟨p6,rfl,e6⟩) ((zp.same s6).mut d6)
       . rintro aY H5 ip h5 zp;rw[uO (by omega)]at zp;have zo:=aK zp;rw[au]at zo;have tL:=(st.trans (s4.trans h5)) _ _ e2;refine⟨p1,D5,_,_,rfl,rfl,tL,ip,hJ (bj (by omega)),?_⟩;refine⟨_,_,_,rfl,j5 n1 (QX.trans h5),aP,?_⟩;rw[gs];exact rA ((z2.same (st.trans (s4.trans h5))).mut tL) (zp.mut tL)
     . intro σ H2 hQ;obtain⟨u,v,zs,rfl,s2,e2,z2⟩:=hQ;rw[cl,cj]at z2;exact⟨_,rfl,q p1 H2 zs Dy (s0.trans s2) e2 z2⟩
end
open PyProof.Rows
theorem tP{z:Str}{xs:Ls}:nr (.str z) (xs.map V.str)=true↔z∈xs:=by
 unfold nr;rw[jp];constructor
 . rintro⟨v,hv,e⟩;obtain⟨y,hy,rfl⟩:=be.mp hv;have:y=z:=by simpa [np]using e
   rw[←this];exact hy
 . intro h;exact⟨.str z,FK h,by simp[np]⟩
theorem Je{α β:Type}{f:α->List β}{l:List α}{i:Nat}:((l.take i).flatMap f).length<=(l.flatMap f).length:=by
 have e:l.flatMap f=(l.take i).flatMap f++(l.drop i).flatMap f:=by rw[←List.flatMap_append,Vl]
 rw[e,bc];omega
theorem QY{p o:aS}:(kE p o).length<=p.fs.length:=by
 unfold kE vE bu;rw[au];exact bS (gK _ _) (by rw[au];exact aH _)
section
variable {P:Program} {w:World} {K:Fg} {mg:Mv} {base:Heap}
theorem zq:bh [atJ,atV,"others","faults",at7,"paths"] [atJ,atV] (aI CM):=⟨rfl,rfl,rfl,by decide +kernel,rfl,by decide +kernel,by decide +kernel⟩
theorem akR{f pT C:Addr}{fd tQ:Fy}(F:ai K auE auE CM f fd)(B:bX mg)(T:Txt K mg C)(j6:ai K aue aue vH pT tQ)(og:mg aue = some (.ref pT)):ak P w K mg base ao 2 f fd [atJ,atV] (vP C rg):=by
 have zr:ak P w K mg base ao 1 pT tQ [atJ] (IW C):=QT j6 T;have zu:=j6.binds1 (l:=[atJ]) (fun _ _ _ _ _ _ _=>rfl);refine F.ok zq (fun vs H Q E h=>?_) (fun aF A outer s H vs Q E hr h=>?_)
 . obtain⟨v,a,xs,p,ps,rfl,_⟩:=h;rfl
 . refine bo ?_;intro xX dX;obtain⟨v,a,xs,p,ps,rfl,hP,ha,bf,l1,l2,l3,l4,q⟩:=h;obtain⟨b,dx,fl,rk,m,pf,pn,pP,po,fx,rfl,hA,hF,_⟩:=id hP;have hlen:=aK bf;have lp:p.fs.length<=9:=l4 p (.head _);refine⟨_,(xT (fun σ H2=>∃D zs,σ = [some (.ref b),some (.ref a),some (.ref D),none,none,none]/\ag H H2/\H2 D=some (.lst zs)/\gC C H2 zs (ps.filter fun o=>dC p.nm o.nm)) (ny (i:=2) [at7] [atJ] [0] zq.nd rfl rfl ⟨rfl,by decide +kernel,by decide +kernel,by decide +kernel,by decide +kernel,rfl,rfl,rfl⟩ rfl (bJ (pv 1)) (fun _ _ _ _=>(aT (i:=0) (show List.Nodup ([at7,atJ]:Ls) by decide +kernel) rfl (Or.inl rfl))) (fun _ _ _ _=>ig (bA ahI (pj K (pv 0) rfl) (pj K (pv 1) rfl) (ba _))) (fun _ _ _ _=>(pv 0)))
    (az (bi (i:=3) zq.nd rfl (Or.inl rfl) (eA ae))
    (az (gr hZ rfl (bJ (pv 2)) (aT (i:=4) zq.nd rfl (Or.inr rfl))
    (az (bi (i:=5) zq.nd rfl (Or.inr rfl) (aG zr hr rfl og j6.kp zu .nil av (aa (pv 4) ae)))
     (aB (m9 (nt qD xq xr sH (pv 3) (aa (dw [aui] [atJ,at7,"paths"] [0,4,5] ⟨rfl,by decide +kernel,by decide +kernel,by decide +kernel,by decide +kernel,rfl,rfl,rfl⟩ rfl (bJ (aG zr hr rfl og j6.kp zu .nil av (aa (pv 0) ae))) (fun _ _ _ _=>(aT (i:=0) (show List.Nodup ([aui,atJ,at7,"paths"]:Ls) by decide +kernel) rfl (Or.inl rfl))) (fun _ _ _ _=>ig (bA (Oe K) (pv 0) (pv 3) (by rfl))) (fun _ _ _ _=>(dz (aa gL (aa (pj K (pv 1) rfl) (aa (pj K (pv 2) rfl) (aa (pv 0) ae))))))) ae))))))
    (aB (aO (pv 3)))))),?_⟩
   refine⟨?_,?_⟩
   . refine⟨_,rfl,a,rfl,⟨_,af.of ha⟩,?_⟩;intro D hD;refine jD (σ0:=[none,some (.ref b)]) hD (af.of ha) (fun σ=>∃v,σ = [v,some (.ref b)]) (fun j zs _=>zs.length<=j/\gC C H zs ((ps.take j).filter fun o=>dC p.nm o.nm)) ⟨_,rfl⟩ ⟨aH _,.nil⟩ ?_ ?_
     . rintro j y zs σ H3 k k' hy ⟨v,rfl⟩ fw h3 ⟨zl,zp⟩ cG gU;obtain⟨o,ho,hE⟩:=bD bf hy;have aD:=(bH.mp ho).1;obtain⟨b',tM,nY,I8,m',I9,Ja,Jb,Jc,vQ,rfl,tN,tO,_⟩:=id hE;refine⟨_,rfl,b',C,tM,_,_,rfl,h3 _ _ tN,T.cl,T.nN,tO.name,_,rfl,b,C,dx,_,_,rfl,h3 _ _ hA,T.cl,T.nN,hF.name,_,_,rfl,rfl,_,rfl,?_⟩;refine aJ (fun h=>?_) (fun h=>?_)
       . refine⟨_,rfl,cG _ _ _ ⟨_,rfl⟩ (ag.refl _) (bj (by omega)) ⟨by rw[bc,mV];omega,?_⟩⟩;rw[jc ho,ap (show dC p.nm o.nm=true from h)];exact dj hE zp
       . refine gU _ _ ⟨_,rfl⟩ (ag.refl _) ⟨by omega,?_⟩;rw[jc ho,ah (show ¬dC p.nm o.nm=true from h),dG];exact zp
     . rintro zs H3 fw h3 ⟨zl,zp⟩;rw[hlen,cj]at zp;exact⟨D,zs,rfl,h3,fw,zp.same h3⟩
   . intro σ' H0 Jd;obtain⟨D0,oz,rfl,s0,d0,Dx⟩:=Jd;refine⟨(by show 0<=sizeLine;decide),fun p1 H1 n1 s1 e1=>?_⟩;have Dy:H p1=none:=s0.free n1;refine⟨_,rfl,D0,rfl,⟨_,af.of (s1 _ _ d0)⟩,?_⟩;have ol:(ps.filter fun o=>dC p.nm o.nm).length<=ps.length:=gK _ _;have ozl:=aK Dx;have QZ:((ps.filter fun o=>dC p.nm o.nm).flatMap (kE p)).length<=81:=by
      refine bS (Im (m:=9) (fun o=>bS QY lp) _) ?_;omega
     refine jQ (xs:=oz) (fun i σ H2=>∃u v zs,σ = [some (.ref b),some (.ref a),some (.ref D0),some (.ref p1),u,v]/\ag H0 H2/\H2 p1=some (.lst zs)/\iN H2 zs (((ps.filter fun o=>dC p.nm o.nm).take i).flatMap (kE p))) ⟨none,none,[],rfl,s1,e1,.nil⟩ ?_ ?_ ?_
     . intro i σ H2 hi hQ;obtain⟨u,v,zs,rfl,s2,e2,z2⟩:=hQ;exact af.of (s2 _ _ d0)
     . intro i z σ H2 hz hQ;refine b0 ?_;intro tT;obtain⟨u,v,zs,rfl,s2,e2,z2⟩:=hQ;obtain⟨o,ho,hE⟩:=bD Dx hz;have om:o∈ps:=(cI.mp (eN ho)).1;have lo:o.fs.length<=9:=l4 o (.tail _ om);obtain⟨b',tM,nY,I8,m',I9,Ja,Jb,Jc,vQ,rfl,tN,tO,_⟩:=id hE;refine⟨_,rfl,_,o,rfl,hE.same s2,by omega,fun l5 H5 n5 s5 e5=>?_⟩;have ly:=s2.trans s5;refine⟨_,rfl,.inl ⟨rfl,_,af.of (s5 _ _ e2)⟩,_,rfl,_,p,rfl,hP.same (s0.trans ly),by omega,fun l6 H6 n6 s6 e6=>⟨l6,rfl,⟨_,af.of e6⟩,?_⟩⟩;have zl:=aK z2;have gs:=yS (f:=kE p) ho;have gl:=Je (f:=kE p) (l:=ps.filter fun o=>dC p.nm o.nm) (i:=i);intro D7 Jf;refine jD (σ0:=[none,some (.ref b),some (.ref b'),some (.ref l5)]) Jf (af.of e6) (fun σ=>∃v,σ = [v,some (.ref b),some (.ref b'),some (.ref l5)]) (fun j aY H7=>aY.length<=j/\iN H7 aY ((((bu p).take j).filter fun x=>decide (x∈bu o)).map fun x=>[.inr l8,.inr p.nm,.inr o.nm,.inr x])) ⟨_,rfl⟩ ⟨aH _,.nil⟩ ?_ ?_
       . rintro j y aY σ H7 k k' hy ⟨v,rfl⟩ tR h7 ⟨zo,zp⟩ cG gU;rw[bN]at hy;cases hx:(bu p)[j]? with
         | none=>rw[hx]at hy;cases hy
         | some x=>
          rw[hx]at hy;cases hy;have aD:=(bH.mp hx).1;have pl:(bu p).length=p.fs.length:=by unfold bu;rw[au]
          refine⟨_,rfl,_,rfl,l5,_,rfl,.inl (af.of (h7 _ _ (s6 _ _ e5))),rfl,tG _,_,rfl,?_⟩;refine aJ (fun h=>?_) (fun h=>?_)
          . have h0:x∈bu o:=tP.mp h;refine⟨_,rfl,b,C,dx,_,_,rfl,((s0.trans ly).trans (s6.trans h7)) _ _ hA,T.cl,T.nN,hF.name,_,rfl,b',C,tM,_,_,rfl,(ly.trans (s6.trans h7)) _ _ tN,T.cl,T.nN,tO.name,_,rfl,(by show 4<=sizeLine;decide),fun p8 H8 n8 s8 e8=>?_⟩;have d8:=s8 _ _ tR;refine cG _ _ _ ⟨_,rfl⟩ s8 (bj (by omega)) ⟨by rw[bc,mV];omega,?_⟩;rw[jc hx,ap (aE h0),dU];exact dj (lw.mut (k:=[.inr l8,.inr p.nm,.inr o.nm,.inr x]) d8 ⟨p8,rfl,e8⟩) ((zp.same s8).mut d8)
          . have h0:x∉bu o:=fun z=>h (tP.mpr z);refine gU _ _ ⟨_,rfl⟩ (ag.refl _) ⟨by omega,?_⟩;rw[jc hx,ah (by rw[aR h0];decide),dG];exact zp
       . rintro aY H7 tR h7 ⟨zo,zp⟩;rw[au,cj]at zp;have zl2:=aK zp;have cl:(kE p o).length<=9:=bS QY lp;have zl3:aY.length=(kE p o).length:=zl2;have Jg:=(s5.trans (s6.trans h7)) _ _ e2;refine⟨p1,D7,_,_,rfl,rfl,Jg,tR,hJ (bj (by omega)),?_⟩;refine⟨_,_,_,rfl,j5 n1 (ly.trans (s6.trans h7)),aP,?_⟩;rw[gs];exact rA ((z2.same (s5.trans (s6.trans h7))).mut Jg) (zp.mut Jg)
     . intro σ H2 hQ;obtain⟨u,v,zs,rfl,s2,e2,z2⟩:=hQ;rw[ozl,cj]at z2;exact⟨_,rfl,q p1 H2 zs Dy (s0.trans s2) e2 z2⟩
end
theorem akV{l:Ls}(h:sortedS l=true)(nd:l.Nodup):l.Pairwise fun a b=>dC a b=true:=by
 have h1:=IJ h;refine(List.Pairwise.and h1 nd).imp fun {a b} z=>?_;obtain⟨z1,z2⟩:=z;have e:=Pz z2;unfold dC;rw[e,aR (FR.mpr z1)];rfl
theorem akW{H:Hp}:∀{ys:Lv} {ks:List (List At)},iN H ys ks->(∀k∈ks,Kd k)->nI H ys ks:=by
 intro ys ks h
 induction h with
 | nil=>exact fun _=>.nil
 | cons r t ih=>
  intro hk;obtain⟨t',rfl,e⟩:=r;exact .cons ⟨t',rfl,e,ajS (hk _ (.head _))⟩ (ih fun k dA=>hk k (.tail _ dA))
theorem nI.same{H H':Hp}(s:ag H H'){ys:Lv}{ks:List (List At)}(h:nI H ys ks):nI H' ys ks:=aM h fun _ _ akX=>akX.elim fun t akY=>akY.elim fun a akZ=>akZ.elim fun b c=>⟨t,a,s _ _ b,c⟩
theorem ak0{C:Addr}{H:Hp}{xs:Lv}{ps:Lp}(h:gC C H xs ps):∀{vs:Lv} {qs:Lp},Paired (zf xs ps) vs qs->gC C H vs qs:=by
 intro vs qs p
 induction p with
 | nil=>exact .nil
 | cons r t ih=>
  obtain⟨j,j1,j2⟩:=r;obtain⟨x,hx,hp⟩:=ID h j1;rw[j2]at hx;cases hx;exact .cons hp ih
theorem ak1{xs:Lv}{ps:Lp}:∀{vs:Lv} {qs:Lp},Paired (zf xs ps) vs qs->∀q∈qs,q∈ps:=by
 intro vs qs p
 induction p with
 | nil=>exact fun _ h=>nomatch h
 | cons r t ih=>
  intro q hq;obtain⟨j,j1,j2⟩:=r
  rcases bw.mp hq with rfl | hq
  . exact eN j1
  . exact ih q hq
structure Told(ps:Lp)(ch:Ch)(ks:List (List At)):Prop where
 ex:∃qs:Lp,(∀q∈qs,q∈ps/\(q.nm,q.ms)∈ch)/\(qs.map (·.nm)).Perm (ch.map (·.1))/\ks.Perm (kF qs)
 so:ks.Pairwise fun x y=>gj x y=true
abbrev ak2 (H:Hp) (ps:Lp) (ch:Ch) (Q:VK):Prop:=∀D H' ys ks,H D=none->ag H H'->H' D=some (.lst ys)->nI H' ys ks->Told ps ch ks->Q (.ref D) H'
structure Dz(C S:Addr)(H:Hp)(sv:V)(c:Addr)(ps:Lp)(ch:Ch):Prop where
 sh:∃xs,ik S H sv xs ps/\gC C H xs ps/\QN xs ps ch
 cho:dE H c ch
 nd:(ch.map (·.1)).Nodup
 four:ch.length<=4
 few:∀p∈ps,lj p
section
variable {P:Program} {w:World} {K:Fg} {mg:Mv} {base:Heap}
def DA(C S:Addr):Sp:=fun vs H Q _=>∃(sv:V) (c:Addr) (ps:Lp) (ch:Ch),vs = [sv,.ref c]/\Dz C S H sv c ps ch/\ak2 H ps ch Q
structure Defs(K:Fg)(mg:Mv)(C S:Addr):Prop where
 B:bX mg
 T:Txt K mg C
 wit:∃f fd,ai K atL atL j4 f fd/\mg atL = some (.ref f)
 mee:∃f fd,ai K atU atU nX f fd/\mg atU = some (.ref f)
 mtg:∃f fd,ai K auk auk vG f fd/\mg auk = some (.ref f)
 nfa:∃f fd,ai K auK auK CH f fd/\mg auK = some (.ref f)
 sfa:∃f fd,ai K auL auL CJ f fd/\mg auL = some (.ref f)
 cfa:∃f fd,ai K auE auE CM f fd/\mg auE = some (.ref f)
 pat:∃f fd,ai K aue aue vH f fd/\mg aue = some (.ref f)
 pof:∃f fd,ai K auQ auQ CD f fd/\mg auQ = some (.ref f)
 shf:∃fN fM f fd,ft K mg S fN fM f/\ai K atJ "Shelf.parcel" kG f fd
theorem DB:bh [atC,atM,atV,"faults",atJ] [atC,atM] (aI yT):=⟨rfl,rfl,rfl,by decide +kernel,rfl,by decide +kernel,by decide +kernel⟩
theorem Q0{f C S:Addr}{fd:Fy}(F:ai K aut aut yT f fd)(D:Defs K mg C S):ak P w K mg base ao 5 f fd [atC,atM] (DA C S):=by
 have B:=D.B;have T:=D.T;obtain⟨cR,fu,c4,dR⟩:=D.wit;obtain⟨fX,jd,eV,im⟩:=D.mee;obtain⟨pQ,tI,lx,rB⟩:=D.mtg;obtain⟨Q1,Q2,zv,Jh⟩:=D.nfa;obtain⟨Q3,Q4,zw,Ji⟩:=D.sfa;obtain⟨Q5,Q6,zx,Jj⟩:=D.cfa;obtain⟨pT,tQ,j6,og⟩:=D.pat;obtain⟨Q7,Q8,zy,Jk⟩:=D.pof;obtain⟨fN,fM,cQ,il,U,fV⟩:=D.shf;have ak3:ak P w K mg base ao 2 Q7 Q8 [atC,atM] (QO S):=akF zy B U fV;have ak4:ak P w K mg base ao 4 Q1 Q2 [atJ,atV] (vP C nW):=akP zv B T lx rB eV im c4 dR;have ak5:ak P w K mg base ao 4 Q3 Q4 [atJ,atV] (vP C pH):=akQ zw B T lx rB eV im c4 dR;have ak6:ak P w K mg base ao 2 Q5 Q6 [atJ,atV] (vP C rg):=akR zx B T j6 og;have ak7:=zy.binds2 (l:=[atC,atM]) (fun _ _ _ _ _ _ _ _=>rfl);have ak8:=zv.binds2 (l:=[atJ,atV]) (fun _ _ _ _ _ _ _ _=>rfl);have ak9:=zw.binds2 (l:=[atJ,atV]) (fun _ _ _ _ _ _ _ _=>rfl);have ala:=zx.binds2 (l:=[atJ,atV]) (fun _ _ _ _ _ _ _ _=>rfl);refine F.ok DB (fun vs H Q E h=>?_) (fun aF A outer s H vs Q E hr h=>?_)
 . obtain⟨sv,c,ps,ch,rfl,_⟩:=h;rfl
 . refine bo ?_;intro xX dX;obtain⟨sv,c,ps,ch,rfl,⟨⟨xs,hS,bf,hV⟩,hC,vM,h4,hfw⟩,q⟩:=h;have iO:=hr.mono (j:=2) (by decide);refine⟨_,(az (bi (i:=2) DB.nd rfl (Or.inl rfl) (aG ak3 iO rfl Jk zy.kp ak7 .nil av (aa (pv 0) (aa (pv 1) ae))))
    (az (bi (i:=3) DB.nd rfl (Or.inl rfl) (eA ae))
    (az (gr hZ rfl (bJ (pv 2)) (aT (i:=4) DB.nd rfl (Or.inl rfl))
    (az (m9 (nt qD xq xr sH (pv 3) (aa (aG ak4 hr rfl Jh zv.kp ak8 .nil av (aa (pv 4) (aa (pv 2) ae))) ae)))
     (az (m9 (nt qD xq xr sH (pv 3) (aa (aG ak5 hr rfl Ji zw.kp ak9 .nil av (aa (pv 4) (aa (pv 2) ae))) ae)))
     (aB (m9 (nt qD xq xr sH (pv 3) (aa (aG ak6 iO rfl Jj zx.kp ala .nil av (aa (pv 4) (aa (pv 2) ae))) ae)))))))
    (aB (aO (bZ ahC (by rfl) B.sorted xp (aa (pv 3) ae))))))),?_⟩
   refine pp ?_;intro dD sS kH eS dM;refine⟨_,rfl,_,rfl,sv,c,xs,ps,ch,rfl,hS,hC,hV,by omega,fun D0 H0 vs qs n0 s0 d0 cH Jl hcm hso=>?_⟩;have j7:gC C H0 vs qs:=ak0 (bf.same s0) cH;have qm:=ak1 cH;have qf:∀q∈qs,lj q:=fun q hq=>hfw q (qm q hq);have qn:(qs.map (·.nm)).Nodup:=Jl.nodup_iff.mpr vM;have q4:qs.length<=4:=by
    have:=Jl.length_eq;rw[au,au]at this;omega
   have qso:qs.Pairwise fun a b=>dC a.nm b.nm=true:=xm.mp (akV hso qn);have QZ:=ajZ qf qso q4;have vl:=aK j7;have Jm:∀q∈qs,∀o∈q::qs,o.fs.length<=9:=fun q hq o ho=>by
    have hm:o∈qs:=by
     rcases bw.mp ho with rfl | ho
     . exact hq
     . exact ho
    have:=(qf o hm).fs;omega
   refine⟨(by show 0<=sizeLine;decide),fun p1 H1 n1 s1 e1=>?_⟩;have Dy:H p1=none:=s0.free n1;refine⟨_,rfl,D0,rfl,⟨_,af.of (s1 _ _ d0)⟩,?_⟩;refine jQ (xs:=vs) (fun i σ H2=>∃u zs,σ = [some sv,some (.ref c),some (.ref D0),some (.ref p1),u]/\ag H0 H2/\H2 p1=some (.lst zs)/\iN H2 zs ((qs.take i).flatMap (fo qs))) ⟨none,[],rfl,s1,e1,.nil⟩ ?_ ?_ ?_
   . intro i σ H2 hi hQ;obtain⟨u,zs,rfl,s2,e2,z2⟩:=hQ;exact af.of (s2 _ _ d0)
   . intro i z σ H2 hz hQ;refine b0 ?_;intro tT;obtain⟨u,zs,rfl,s2,e2,z2⟩:=hQ;obtain⟨p,hp,hE⟩:=bD j7 hz;have pm:=eN hp;have pf:=qf p pm;have zl:=aK z2;have gs:=yS (f:=fo qs) hp;have gl:=Je (f:=fo qs) (l:=qs) (i:=i+1);have gl':((qs.take (i+1)).flatMap (fo qs)).length<64:=Mm gl QZ;rw[gs,bc,fo,bc,bc]at gl';have l2:=pf.ns;have l3:=pf.ss;refine⟨_,rfl,.inl ⟨rfl,_,af.of e2⟩,_,rfl,_,rfl,z,D0,vs,p,qs,rfl,hE.same s2,s2 _ _ d0,j7.same s2,by omega,by omega,by omega,Jm p pm,fun D3 H3 oh n3 s3 d3 z3=>?_⟩;have Jn:=s3 _ _ e2;have zl3:=aK z3;refine⟨p1,D3,_,_,rfl,rfl,Jn,d3,hJ (bj (by omega)),?_⟩;have m3:ag H0 (aj H3 p1 (.lst (zs++oh))):=j5 n1 (s2.trans s3);refine⟨_,rfl,.inl ⟨rfl,_,af.of aP⟩,_,rfl,_,rfl,z,D0,vs,p,qs,rfl,hE.same m3,m3 _ _ d0,j7.same m3,by omega,by omega,by omega,Jm p pm,fun D4 H4 vR n4 s4 d4 z4=>?_⟩;have e4:=s4 _ _ (aP (H:=H3) (a:=p1) (o:=.lst (zs++oh)));have zl4:=aK z4;refine⟨p1,D4,_,_,rfl,rfl,e4,d4,hJ (bj (by rw[bc];omega)),?_⟩;have m4:ag H0 (aj H4 p1 (.lst (zs++oh++vR))):=j5 n1 (m3.trans s4);refine⟨_,rfl,.inl ⟨rfl,_,af.of aP⟩,_,rfl,_,rfl,z,D0,vs,p,qs,rfl,hE.same m4,m4 _ _ d0,j7.same m4,by omega,by omega,by omega,Jm p pm,fun D5 H5 pU n5 s5 d5 z5=>?_⟩;have e5:=s5 _ _ (aP (H:=H4) (a:=p1) (o:=.lst (zs++oh++vR)));have zl5:=aK z5;refine⟨p1,D5,_,_,rfl,rfl,e5,d5,hJ (bj (by rw[bc,bc];omega)),?_⟩;refine⟨_,_,rfl,j5 n1 (m4.trans s5),aP,?_⟩;rw[gs];have y3:iN (aj H3 p1 (.lst (zs++oh))) (zs++oh) ((qs.take i).flatMap (fo qs)++nW p qs):=rA ((z2.same s3).mut Jn) (z3.mut Jn);have y4:iN (aj H4 p1 (.lst (zs++oh++vR))) (zs++oh++vR) ((qs.take i).flatMap (fo qs)++nW p qs++pH p qs):=rA ((y3.same s4).mut e4) (z4.mut e4);have y5:=rA ((y4.same s5).mut (o:=.lst (zs++oh++vR++pU)) e5) (z5.mut (o:=.lst (zs++oh++vR++pU)) e5);unfold fo;rw[←oR,←oR];exact y5
   . intro σ H2 hQ;obtain⟨u,zs,rfl,s2,e2,z2⟩:=hQ;rw[vl,cj]at z2;have z2:iN H2 zs (kF qs):=z2;have zl:=aK z2;refine⟨_,rfl,p1,zs,kF qs,rfl,af.of e2,akW z2 fun k hk=>Cz hk,by omega,ajV qn fun p hp=>(qf p hp).nd,fun x hx y hy=>ajT (Cz hx) (Cz hy),fun aX jL ht hp hw p3 H3 n3 s3 e3=>?_⟩;exact q p3 H3 aX jL ((s0.trans s2).free n3) ((s0.trans s2).trans s3) e3 (nI.same s3 ht) ⟨⟨qs,fun p hp=>⟨qm p hp,hcm p hp⟩,Jl,hp⟩,hw⟩
def Q9(C S:Addr):Sp:=fun vs H Q _=>∃(sv:V) (c:Addr) (ps:Lp) (ch:Ch),vs = [sv,.ref c]/\Dz C S H sv c ps ch/\∀H' ks,ag H H'->Told ps ch ks->Q (.bl (decide (ks = []))) H'
theorem alh:bh [atC,atM] [atC,atM] (aI CF):=⟨rfl,rfl,rfl,by decide +kernel,rfl,by decide +kernel,by decide +kernel⟩
theorem ali{f pV C S:Addr}{fd tS:Fy}(F:ai K au2 au2 CF f fd)(D:Defs K mg C S)(oj:ai K aut aut yT pV tS)(vS:mg aut = some (.ref pV)):ak P w K mg base ao 6 f fd [atC,atM] (Q9 C S):=by
 have B:=D.B;have zA:ak P w K mg base ao 5 pV tS [atC,atM] (DA C S):=Q0 oj D;have Jo:=oj.binds2 (l:=[atC,atM]) (fun _ _ _ _ _ _ _ _=>rfl);refine F.ok alh (fun vs H Q E h=>?_) (fun aF A outer s H vs Q E hr h=>?_)
 . obtain⟨sv,c,ps,ch,rfl,_⟩:=h;rfl
 . refine bo ?_;intro xX dX;obtain⟨sv,c,ps,ch,rfl,hA,q⟩:=h;refine⟨_,(aB (aO (fR eQ (bZ gy (by rfl) B.len hX (aa (aG zA hr rfl vS oj.kp Jo .nil av (aa (pv 0) (aa (pv 1) ae))) ae)) ar (ba _)))),?_⟩;refine⟨_,rfl,_,rfl,sv,c,ps,ch,rfl,hA,fun D0 H0 ys ks n0 s0 d0 ht hT=>⟨D0,_,rfl,.inl (af.of d0),rfl,?_⟩⟩;have yl:=aK ht;have e:=q H0 ks s0 hT;have z:decide (ks = [])=decide (V.int (ys.length:Int)=V.int 0):=by
    refine Bl.mpr ⟨fun z=>?_,fun z=>?_⟩
    . rw[z]at yl;have yl:ys.length=0:=yl;rw[yl];rfl
    . injection z with z
      exact FZ (by omega)
   rw[z]at e;exact e
end
end K42
namespace L2
open PySem PySem.Spec PyProof.Rows
def me(H:Hp)(ys:Lv)(ks:Ll):Prop:=Paired (fun(y:V) (k:List Int)=>∃t,y = .ref t/\H t=some (.tup (k.map V.int))/\k≠[]) ys ks
theorem me.at{K:Fg}{H:Hp}{ys:Lv}{ks:Ll}(h:me H ys ks):G6 K H ys ks:=aM h fun _ _ alj=>alj.elim fun t alk=>alk.elim fun e alm=>alm.elim fun a b=>⟨t,e,aw.of a,b⟩
theorem me.same{H H':Hp}{ys:Lv}{ks:Ll}(s:ag H H')(h:me H ys ks):me H' ys ks:=aM h fun _ _ aln=>aln.elim fun t alo=>alo.elim fun e alp=>alp.elim fun a b=>⟨t,e,s _ _ a,b⟩
section
variable {X:Cx}
theorem alq:gt X (.builtin "sorted") (fun xs H Q=>∃q ys ks,xs = [.ref q]/\af X.K H q ys/\me H ys ks/\ys.length<=4/\ks.Nodup/\∀aX jL,me H aX jL->jL.Perm ks->kB jL=true->iD H (.lst aX) Q):=by
 intro pins s σ H xs us Q I r h;obtain⟨q,ys,ks,rfl,hq,Ra,h4,nd,fin⟩:=h;obtain⟨u,rfl,ru⟩:=vals1 r;cases ru;have ht:G6 X.K H ys ks:=Ra.at;obtain⟨its,rv,hl,hz⟩:=I.list hq;have hlen:=sT rv;have yF:=sT ht;have tp:=I.tups ht rv;have kp:∀b o,s.heap.get? b=some o->((s.heap.push (seqObj "list" #[] 0)).update s.heap.objs.size (Obj.mapSeq (·++its.toArray))).get? b=some o:=fun b o e=>by
  rw[ME _ _ _ _ (bE (aZ e))];exact bq _ e
 refine afX (collect_list hl.isList ?_ (kz (by omega)));generalize (s.heap.push (seqObj "list" #[] 0)).update s.heap.objs.size (Obj.mapSeq (·++its.toArray))=h' at kp ⊢;have I':Inv X pins σ H { s with heap:=h',toks:=s.toks }:=I.kept kp;refine⟨ks,h',s.toks,rfl,aM tp fun _ _ t=>t.keep fun b o e _=>kp b o e,by omega,nd,fun h2 p e k2 he hp ha=>?_⟩;have hm:∀i∈p,i<ys.length:=fun i hi=>by
  have:=g9.mp (hp.mem_iff.mp hi);omega
 have cB:=hp.length_eq;rw[mY]at cB;refine⟨.ref h'.objs.size,_,I'.laid (s:={ s with heap:=h',toks:=s.toks }) (t':=s.toks) (o:=.lst (p.map fun i=>ys.getD i .non)) k2 (aH _) ⟨by rw[au];exact kz (by omega),_,e,yh rv _ _ p hm,he⟩,rfl,?_⟩;exact(fin _ (p.map fun i=>ks.getD i []) (yh Ra _ _ p hm) (OH (by rw[←yF,hlen];exact hp)) (by rw[OG];exact ha)).at _ (I'.hok.fresh (aH _))
end
theorem Rc{H1:Hp}{d:Addr}{kvs:List (List NI×V)}{σ0:St}{g:TG}{tt:TT}{te:TE}{Q:VK}(hd:H1 d=some (.dT kvs))(S:St->Prop)(P:Nat->Lv->Prop)(s0:S σ0)(st:P 0 [])
 (turn:∀i k v b ys σ H (kk:St->V->Hp->Prop) (k':St->Hp->Prop),kvs[i]? = some (k,v)->ib H k b->(∀c vs,H c=some (.tup vs)->H1 c=some (.tup vs))->S σ->P i ys ->
  (∀σ3 y,S σ3->P (i+1) (ys++[y])->kk σ3 y H)->(∀σ3,S σ3->P (i+1) ys->k' σ3 H) ->
  g (.ref b) σ H fun σ3 H3=>tt σ3 H3 fun ok H4=>if ok=true then te σ3 H4 (kk σ3) else k' σ3 H4)
 (small:kvs.length<sizeLine) (long:∀i ys,P i ys->ys.length<=i)
 (done:∀D H' ys,H1 D=none->ag H1 H'->H' D=some (.lst ys)->P kvs.length ys->Q (.ref D) H') :
 PR H1 d kvs σ0 g tt te Q:=by
 intro ob D hD;obtain⟨Rf,Rg⟩:=B1 hD;refine⟨fun i m σ H=>m=kvs.length - i/\i<=kvs.length/\S σ/\∃ys,H=aj (aj H1 d (.frz ob (.dT kvs))) D (.lst ys)/\P i ys,⟨kvs.length,by simp,dO _,s0,[],rfl,st⟩,?_⟩;rintro i m σ H ⟨rfl,hi,hS,ys,rfl,hp⟩;have py:aj (aj H1 d (.frz ob (.dT kvs))) D (.lst ys) d=some (.frz ob (.dT kvs)):=by rw[aL Rf.symm,aP]
 by_cases aD:i<kvs.length
 . refine .inr ⟨⟨py,aD⟩,fun x H2 hy=>?_⟩;obtain⟨k,v,b,e1,rfl,nb,rfl⟩:=hy;refine turn i k v b ys σ _ _ _ e1 nb (fun c vs hc=>?_) hS hp (fun σ3 y a1 a2=>?_) (fun σ3 a1 a2=>?_)
   . have nc:c≠D:=fun z=>by rw[z,aP]at hc;cases hc
     rw[aL nc]at hc;have nd:c≠d:=fun z=>by rw[z,aP]at hc;cases hc
     rw[aL nd]at hc;exact hc
   . refine⟨ys,aP,Mm (bS (long i ys hp) hi) small,kvs.length - (i+1),by omega,rfl,aD,a1,ys++[y],VU,a2⟩
   . exact⟨kvs.length - (i+1),by omega,rfl,aD,a1,ys,rfl,a2⟩
 . have e:i=kvs.length:=by omega
   subst e;refine .inl ⟨⟨py,aH _⟩,py,done D _ ys Rg (fun b o e=>?_) ?_ hp⟩
   . by_cases hb:b=d
     . subst hb;rw[aP,←e,hd]
     . rw[aL hb,aL (bg e Rg),aL hb];exact e
   . rw[aL Rf,aP]
end L2
namespace K42
open PySem L2 PySem.Spec PyProof.Rows
seal PE PS cz PA PT PW PG iB PI gP
theorem Rh{H:Hp}{b:Addr}{nm:Str}{mk:List Int}(h:ib H [.inl (.inr nm),.inr (mk.map Sum.inl)] b):∃m,H b=some (.tup [.str nm,.ref m])/\H m=some (.tup (mk.map V.int)):=by
 obtain⟨vs,e,r⟩:=h;cases r with
 | cons r1 t=>
  cases t with
  | cons r2 t=>
   cases t;have r1:_=V.str nm:=r1;obtain⟨m,e2,h2⟩:=(show∃m,_=V.ref m/\H m=_ from r2);subst r1 e2;refine⟨m,e,?_⟩;rw[h2,uN];rfl
section
variable {P:Program} {w:World} {K:Fg} {mg:Mv} {base:Heap}
def vT(S:Addr):Sp:=fun vs H Q _=>∃(sv:V) (xs:Lv) (ps:Lp),vs = [sv]/\ik S H sv xs ps/\ps.length<64/\∀l (ys:Ls) H',H l=none->ag H H'->H' l=some (.lst (ys.map V.str))->sortedS ys=true->ys.Nodup->(∀z,z∈ys↔z∈ps.map aS.nm)->Q (.ref l) H'
theorem alr:bh [atG] [atG] (aI lm):=⟨rfl,rfl,rfl,by decide +kernel,rfl,by decide +kernel,by decide +kernel⟩
theorem Jp:∀{a b:Ls},a.Nodup->(∀z∈a,z∈b)->a.length<=b.length:=fun h k=>kC h k
theorem zB{f S f2 f3:Addr}{fd:Fy}(F:ai K auP "Shelf.names" lm f fd)(B:bX mg)(U:ft K mg S f f2 f3):ak P w K mg base ao 1 f fd [atG] (vT S):=by
 refine F.ok alr (fun vs H Q E h=>?_) (fun aF A outer s H vs Q E hr h=>?_)
 . obtain⟨sv,xs,ps,rfl,_⟩:=h;rfl
 . refine bo ?_;intro xX dX;obtain⟨sv,xs,ps,rfl,⟨a,dx,fl,d,kvs,rfl,h1,hf,_,_,_,h2,Jq⟩,sN,q⟩:=h;have h3:=Jq.2.2;rw[cj]at h3;refine⟨_,(aB (aO (bZ (Ck rfl) (by rfl) B.sorted xp (aa (gh (Hu rfl) (by rfl) B.set F0 (aa (PU [atE,atQ] [] [] ⟨rfl,by decide +kernel,by decide +kernel,by decide +kernel,by decide +kernel,rfl,rfl,rfl⟩ rfl (du (pv 0) rfl)
    (fun _ _ _ _=>(Dr (n:=2) K rfl (gf (aT (i:=0) (show List.Nodup ([atE,atQ]:Ls) by decide +kernel) rfl (Or.inl rfl)) (gf (aT (i:=1) (show List.Nodup ([atE,atQ]:Ls) by decide +kernel) rfl (Or.inl rfl)) ng)))) (fun _ _ _ _=>fh) (fun _ _ _ _=>(pv 0))) ae)) ae)))),?_⟩
   have lk:=aK h3;refine⟨_,rfl,a,S,dx,_,_,rfl,h1,U.cl,U.nS,hf,d,kvs,rfl,h2,?_⟩;refine Rc h2 (fun σ=>∃u v,σ = [u,v]) (fun i ys=>ys=((ps.take i).map aS.nm).map V.str) ⟨_,_,rfl⟩ rfl ?_ (bj (by omega)) (fun i ys e=>by rw[e,au,au,db];omega) ?_
   . rintro i k v b ys σ H2 kk k' hk nb up ⟨u,u',rfl⟩ rfl c1 c2;obtain⟨p,hp,hE⟩:=bD h3 hk;rw[show k=eO p from hE]at nb;obtain⟨m,hb,hm⟩:=Rh nb;refine⟨b,_,rfl,aw.of hb,rfl,_,_,rfl,_,_,rfl,rfl,?_⟩;dsimp only[sJ];rw[ap rfl];refine⟨_,rfl,c1 _ _ ⟨_,_,rfl⟩ ?_⟩;rw[Bw,hp,dU,dU];rfl
   . rintro D H2 ys hD s2 eD rfl;rw[lk,cj]at eD;refine⟨D,ps.map aS.nm,rfl,af.of eD,by rw[au];omega,fun r xs H3 n3 s3 e3 nd mem=>?_⟩;have hl:=Jp nd fun z hz=>(mem z).mp hz;rw[au]at hl;refine⟨r,xs,rfl,e3,by omega,fun aX hp hs=>fun l H4 n4 s4 e4=>?_⟩;exact q l aX H4 ((s2.trans s3).free n4) (s2.trans (s3.trans s4)) e4 hs (hp.nodup_iff.mpr nd) fun z=>(hp.mem_iff).trans (mem z)
def bp(ps:Lp)(nm:Str):Ll:=(ps.filter fun p=>decide (p.nm=nm)).map aS.ms
theorem Ri{ps:Lp}(nd:(ps.map eO).Nodup)(nm:Str):(bp ps nm).Nodup:=by
 unfold bp;have h1:((ps.filter fun p=>decide (p.nm=nm)).map eO).Nodup:=(Vf.map eO).nodup nd;have h2:∀p∈ps.filter fun p=>decide (p.nm=nm),p.nm=nm:=fun p hp=>bd (cI.mp hp).2;generalize ps.filter (fun p=>decide (p.nm=nm))=qs at h1 h2;clear nd
 induction qs with
 | nil=>exact uI
 | cons p qs ih=>
  rw[b9,jI]at h1 ⊢;refine⟨fun hm=>h1.1 ?_,ih h1.2 fun r hr=>h2 r (cy _ hr)⟩;obtain⟨r,hr,e⟩:=be.mp hm;refine be.mpr ⟨r,hr,?_⟩;unfold eO;rw[e,h2 p cD,h2 r (cy _ hr)]
structure gD(ps:Lp):Prop where
 nd:(ps.map eO).Nodup
 mm:∀p∈ps,p.ms≠[]
 four:∀nm,(bp ps nm).length<=4
 len:ps.length<64
def DC(S:Addr):Sp:=fun vs H Q _=>∃(sv:V) (nm:Str) (xs:Lv) (ps:Lp),vs = [sv,.str nm]/\ik S H sv xs ps/\gD ps/\∀l ys ks H',H l=none->ag H H'->H' l=some (.lst ys)->me H' ys ks->ks.Perm (bp ps nm)->kB ks=true->Q (.ref l) H'
theorem als:bh [atG,atE] [atG,atE] (aI iJ):=⟨rfl,rfl,rfl,by decide +kernel,rfl,by decide +kernel,by decide +kernel⟩
theorem Jr{f S f1 f3:Addr}{fd:Fy}(F:ai K at9 "Shelf.makes_of" iJ f fd)(B:bX mg)(U:ft K mg S f1 f f3):ak P w K mg base ao 1 f fd [atG,atE] (DC S):=by
 refine F.ok als (fun vs H Q E h=>?_) (fun aF A outer s H vs Q E hr h=>?_)
 . obtain⟨sv,nm,xs,ps,rfl,_⟩:=h;rfl
 . refine bo ?_;intro xX dX;obtain⟨sv,nm,xs,ps,rfl,⟨a,dx,fl,d,kvs,rfl,h1,hf,_,_,_,h2,Jq⟩,ok,q⟩:=h;have h3:=Jq.2.2;rw[cj]at h3;refine⟨_,(aB (aO (bZ alq (by rfl) B.sorted xp (aa (PU ["key"] [atE] [1] ⟨rfl,by decide +kernel,by decide +kernel,by decide +kernel,by decide +kernel,rfl,rfl,rfl⟩ rfl (du (pv 0) rfl)
    (fun _ _ _ _=>(aT (i:=0) (show List.Nodup (["key",atE]:Ls) by decide +kernel) rfl (Or.inl rfl))) (fun _ _ _ _=>ig (bA eQ (aQ (lS K) (pv 0) ar (fun _ _=>rfl)) (pv 1) (ba _))) (fun _ _ _ _=>(aQ (lS K) (pv 0) ar (fun _ _=>rfl)))) ae)))),?_⟩
   have lk:=aK h3;have vU:=ok.len;refine⟨_,rfl,a,S,dx,_,_,rfl,h1,U.cl,U.nS,hf,d,kvs,rfl,h2,?_⟩;refine Rc h2 (fun σ=>∃u,σ = [u,some (.str nm)]) (fun i ys=>ys.length<=i/\me H ys (bp (ps.take i) nm)) ⟨_,rfl⟩ ⟨aH _,.nil⟩ ?_ (bj (by omega)) (fun i ys e=>e.1) ?_
   . rintro i k v b ys σ H2 kk k' hk nb up ⟨u,rfl⟩ ⟨zl,zt⟩ c1 c2;obtain⟨p,hp,hE⟩:=bD h3 hk;rw[show k=eO p from hE]at nb;obtain⟨m,hb,hm⟩:=Rh nb;have pz:p∈ps:=eN hp;have e1:bp (ps.take (i+1)) nm=bp (ps.take i) nm++(if p.nm=nm then [p.ms] else []):=by
      unfold bp;rw[Bw,hp,FU,dU]
      by_cases z:p.nm=nm
      . rw[ap z];simp[z]
      . rw[ah z];simp[z]
     refine⟨_,rfl,b,_,_,_,rfl,rfl,aw.of hb,rfl,_,rfl,rfl,_,rfl,?_⟩;refine aJ (fun h=>?_) (fun h=>?_)
     . have hz:p.nm=nm:=by
        have:=bd h;injection this
       refine⟨_,rfl,b,_,_,_,rfl,rfl,aw.of hb,rfl,c1 _ _ ⟨_,rfl⟩ ⟨by rw[bc];simp;omega,?_⟩⟩;rw[e1,ap hz];refine dj ⟨m,rfl,up _ _ hm,?_⟩ zt;exact ok.mm p pz
     . have hz:p.nm≠nm:=fun z=>h (aE (by rw[z]));refine c2 _ ⟨_,rfl⟩ ⟨by omega,?_⟩;rw[e1,ah hz,dG];exact zt
   . rintro D H2 ys hD s2 eD ⟨zl,zt⟩;rw[lk,cj]at zt;have hl:=aK zt;have h4:=ok.four nm;refine⟨D,ys,_,rfl,af.of eD,zt.same s2,by omega,Ri ok.nd nm,fun aX jL t' p' a'=>fun l H3 n3 s3 e3=>?_⟩;exact q l aX jL H3 (s2.free n3) (s2.trans s3) e3 (t'.same s3) p' a'
end
structure cq where
 nm:Str
 io:Option (List Int×Oi)
def jE(w:cq)(mk:Oi):Bool:=match w.io,mk with
 | none,mk=>mk.isNone
 | some _,none=>false
 | some c,some m=>!HT.lexLt m c.1 && re m c.2
def DE(H:Hp)(t:Addr)(nm:Str):Option (List Int×Oi)->Prop
 | none=>H t=some (.tup [.str "out",.str nm])
 | some c=>∃l b,H t=some (.tup [.str "in",.str nm,.ref l,b])/\H l=some (.tup (c.1.map V.int))/\cZ H b c.2
def c9(H:Hp)(v:V)(w:cq):Prop:=∃t,v = .ref t/\DE H t w.nm w.io
theorem DE.same{H H':Hp}(s:ag H H'){t:Addr}{nm:Str}{io:Option (List Int×Oi)}(h:DE H t nm io):DE H' t nm io:=by
 cases io with
 | none=>exact s _ _ h
 | some c=>
  obtain⟨l,b,h1,h2,h3⟩:=h;exact⟨l,b,s _ _ h1,s _ _ h2,h3.same s⟩
theorem c9.same{H H':Hp}(s:ag H H'){v:V}{w:cq}(h:c9 H v w):c9 H' v w:=h.elim fun t alt=>alt.elim fun a b=>⟨t,a,b.same s⟩
theorem c9.nm{H:Hp}{v:V}{w:cq}(h:c9 H v w):∃t ws,v = .ref t/\H t=some (.tup ws)/\ws[1]? = some (.str w.nm):=by
 obtain⟨t,rfl,h⟩:=h;obtain⟨nm,io⟩:=w;cases io with
 | none=>exact⟨t,_,rfl,h,rfl⟩
 | some c=>
  obtain⟨l,b,h1,_⟩:=h;exact⟨t,_,rfl,h1,rfl⟩
theorem Rj:¬(V.str "in" = V.str "out"):=by
 intro z;injection z with z
 exact absurd z (by decide +kernel)
section
variable {P:Program} {w:World} {K:Fg} {mg:Mv} {base:Heap}
def Js:Sp:=fun vs H Q _=>∃(wv mv:V) (w:cq) (mk:Oi),vs = [wv,mv]/\c9 H wv w/\cZ H mv mk/\Q (.bl (jE w mk)) H
theorem alu:bh [auI,atQ] [auI,atQ] (aI yU):=⟨rfl,rfl,rfl,by decide +kernel,rfl,by decide +kernel,by decide +kernel⟩
theorem Rk{f cR:Addr}{fd fu:Fy}(F:ai K aun aun yU f fd)(c4:ai K atL atL j4 cR fu)(dR:mg atL = some (.ref cR)):ak P w K mg base ao 2 f fd [auI,atQ] Js:=by
 have IQ:ak P w K mg base ao 1 cR fu [atQ,auV,auW] IN:=QR c4;have IR:=c4.binds3 (l:=[atQ,auV,auW]) (fun _ _ _ _ _ _ _ _ _=>rfl);refine F.ok alu (fun vs H Q E h=>?_) (fun aF A outer s H vs Q E hr h=>?_)
 . obtain⟨wv,mv,w,mk,rfl,_⟩:=h;rfl
 . refine bo ?_;intro xX dX;obtain⟨wv,mv,w,mk,rfl,⟨t,rfl,hw⟩,hm,q⟩:=h;refine⟨_,(az (cp (bA eQ (aQ bO (pv 0) ar (fun _ _=>rfl)) gL (ba _))
    (aB (aO (fR kW (pv 1) eh (ba _)))) cr)
    (aB (aO (jw (fR uW (pv 1) eh (ba _)) (jP (aG IQ hr rfl dR c4.kp IR .nil av (aa (pv 1) (aa (aQ bO (pv 0) ar (fun _ _=>rfl)) (aa (aQ bO (pv 0) ar (fun _ _=>rfl)) ae))))))))),?_⟩
   refine qW ?_;intro dD sS dM;obtain⟨nm,io⟩:=w;cases io with
   | none=>
    refine⟨_,rfl,t,_,_,_,rfl,rfl,aw.of hw,rfl,rfl,_,rfl,?_⟩;refine aJ (fun h=>?_) (fun h=>absurd (aE rfl) h);refine⟨_,rfl,rfl,?_⟩;cases mk with
    | none=>
     have hm:mv = .non:=hm;subst hm;exact q
    | some m=>
     obtain⟨a,rfl,_⟩:=hm;exact q
   | some c=>
    obtain⟨l,b,h1,h2,h3⟩:=hw;refine⟨_,rfl,t,_,_,_,rfl,rfl,aw.of h1,rfl,rfl,_,rfl,?_⟩;refine aJ (fun h=>absurd (bd h) Rj) (fun h=>?_);cases mk with
    | none=>
     have hm:mv = .non:=hm;subst hm;refine⟨_,rfl,rfl,_,rfl,ff ?_⟩;exact q
    | some m=>
     obtain⟨a,rfl,hA⟩:=hm;refine⟨_,rfl,rfl,_,rfl,i7 ?_⟩;refine⟨_,rfl,_,rfl,t,_,_,_,rfl,rfl,aw.of h1,rfl,_,rfl,t,_,_,_,rfl,rfl,aw.of h1,rfl,?_⟩;exact⟨a,l,b,m,c.1,c.2,rfl,hA,h2,h3,q⟩
def zC(S:Addr):Sp:=fun vs H Q _=>∃(sv:V) (nm:Str) (xs:Lv) (ps:Lp),vs = [sv,.str nm]/\ik S H sv xs ps/\gD ps /\
 ∀l ys ks H',H l=none->ag H H'->H' l=some (.lst (.non::ys))->me H' ys ks->ks.Perm (bp ps nm)->kB ks=true->Q (.ref l) H'
theorem alv:bh [atC,atE] [atC,atE] (aI pK):=⟨rfl,rfl,rfl,by decide +kernel,rfl,by decide +kernel,by decide +kernel⟩
theorem DF{f S f1 bY f3:Addr}{fd dZ:Fy}(F:ai K at0 at0 pK f fd)(B:bX mg)(U:ft K mg S f1 bY f3)(cS:ai K at9 "Shelf.makes_of" iJ bY dZ):ak P w K mg base ao 2 f fd [atC,atE] (zC S):=by
 have zD:ak P w K mg base ao 1 bY dZ [atG,atE] (DC S):=Jr cS B U;have zE:=cS.binds2 (l:=[atG,atE]) (fun _ _ _ _ _ _ _ _=>rfl);refine F.ok alv (fun vs H Q E h=>?_) (fun aF A outer s H vs Q E hr h=>?_)
 . obtain⟨sv,nm,xs,ps,rfl,_⟩:=h;rfl
 . refine bo ?_;intro xX dX;obtain⟨sv,nm,xs,ps,rfl,hS,ok,q⟩:=h;refine⟨_,(aB (aO (aU xZ (eA (aa eh ae)) (kX (pv 0) U.cl U.mM zD hr zE .nil av (aa (pv 1) ae))))),?_⟩;refine⟨(by show 1<=sizeLine;decide),fun p1 H1 n1 s1 e1=>?_⟩;obtain⟨a,dx,fl,d,kvs,rfl,b1,b2,b3,b4,b5,b6⟩:=hS.same s1;refine⟨_,rfl,a,dx,fl,rfl,b1,b5,_,rfl,?_⟩;refine⟨_,nm,xs,ps,rfl,⟨a,dx,fl,d,kvs,rfl,b1,b2,b3,b4,b5,b6⟩,ok,fun l ys ks H2 n2 s2 e2 tv pm ad=>?_⟩;have hl:=aK tv;have h4:=ok.four nm;rw[←pm.length_eq,←hl]at h4;refine⟨p1,l,_,_,rfl,rfl,s2 _ _ e1,e2,kz (by simp;omega),fun p3 H3 n3 s3 e3=>?_⟩;exact q p3 ys ks H3 ((s1.trans s2).free n3) ((s1.trans s2).trans s3) e3 (tv.same s3) pm ad
structure fz(ps:Lp)(ys:Ls):Prop where
 srt:sortedS ys=true
 nd:ys.Nodup
 mem:∀z,z∈ys↔z∈ps.map aS.nm
theorem fz.uniq{ps:Lp}{a b:Ls}(h:fz ps a)(k:fz ps b):a=b:=
 aky ((Vg h.nd k.nd).mpr fun z=>by rw[h.mem,k.mem]) h.srt k.srt
def gW(ps:Lp)(n:Int)(nm:Str):Int:=n * ((bp ps nm).length+1:Nat)
def Rm(S:Addr):Sp:=fun vs H Q _=>∃(sv:V) (xs:Lv) (ps:Lp),vs = [sv]/\ik S H sv xs ps/\gD ps/\∀H' ys,ag H H'->fz ps ys->Q (.int (ys.foldl (gW ps) 1)) H'
theorem DG:bh [atC,"width",atE] [atC] (aI CZ):=⟨rfl,rfl,rfl,by decide +kernel,rfl,by decide +kernel,by decide +kernel⟩
theorem alw{f fY S dF bY f3:Addr}{fd je gX dZ:Fy}(F:ai K au3 au3 CZ f fd)(B:bX mg)(U:ft K mg S dF bY f3)(fB:ai K auP "Shelf.names" lm dF gX)(cS:ai K at9 "Shelf.makes_of" iJ bY dZ)
 (eG:ai K at0 at0 pK fY je) (iq:mg at0 = some (.ref fY)):ak P w K mg base ao 3 f fd [atC] (Rm S):=by
 have pW:ak P w K mg base ao 1 dF gX [atG] (vT S):=zB fB B U;have pX:=fB.binds1 (l:=[atG]) (fun _ _ _ _ _ _ _=>rfl);have tU:ak P w K mg base ao 2 fY je [atC,atE] (zC S):=DF eG B U cS;have tV:=eG.binds2 (l:=[atC,atE]) (fun _ _ _ _ _ _ _ _=>rfl);refine F.ok DG (fun vs H Q E h=>?_) (fun aF A outer s H vs Q E hr h=>?_)
 . obtain⟨sv,xs,ps,rfl,_⟩:=h;rfl
 . refine bo ?_;intro xX dX;obtain⟨sv,xs,ps,rfl,hS,ok,q⟩:=h;have fD:=hr.mono (j:=1) (by decide);have vU:=ok.len;refine⟨_,(az (bi (i:=1) DG.nd rfl (Or.inl rfl) ar)
    (az (gr hZ rfl (bJ (xD (pv 0) U.cl U.mN pW fD pX .nil av)) (aT (i:=2) DG.nd rfl (Or.inl rfl))
    (aB (bi (i:=1) DG.nd rfl (Or.inl rfl) (aU qK (pv 1) (bZ gy (by rfl) B.len hX (aa (aG tU hr rfl iq eG.kp tV .nil av (aa (pv 0) (aa (pv 2) ae))) ae))))))
    (aB (aO (pv 1))))),?_⟩
   refine lT ?_;intro dD sS eS dM;obtain⟨a,dx,fl,d,kvs,rfl,b1,b2,b3,b4,b5,b6⟩:=id hS;refine⟨_,rfl,a,dx,fl,rfl,b1,b4,?_⟩;dsimp only[gN,qA,qC];refine⟨_,xs,ps,rfl,hS,vU,fun l ys H1 n1 s1 e1 srt nd mem=>?_⟩;refine⟨l,rfl,⟨_,af.of e1⟩,?_⟩;refine jQ (D:={ dD with nx:=eS dD }) (xs:=ys.map V.str) (fun i σ H2=>∃u n,σ = [some (.ref a),some (.int n),u]/\n=(ys.take i).foldl (gW ps) 1/\ag H1 H2) ⟨none,1,rfl,rfl,ag.refl _⟩ ?_ ?_ ?_
   . rintro i σ H2 hi ⟨u,n,rfl,_,s2⟩;exact af.of (s2 _ _ e1)
   . intro i x σ H2 hx hQ;refine b0 ?_;intro tT;obtain⟨u,n,rfl,en,s2⟩:=hQ;rw[bN]at hx;cases hy:ys[i]? with
     | none=>rw[hy]at hx;cases hx
     | some y=>
      rw[hy]at hx;cases hx;refine⟨_,rfl,_,rfl,_,rfl,?_⟩;refine⟨_,y,xs,ps,rfl,hS.same (s1.trans s2),ok,fun c zs ks H3 n3 s3 e3 tv pm ad=>?_⟩;have hl:=aK tv;have h4:=ok.four y;have hle:=pm.length_eq;refine⟨c,_,rfl,.inl (af.of e3),_,_,rfl,rfl,.inr ⟨by simp;omega,by simp;omega⟩,?_⟩;refine⟨_,_,rfl,?_,s2.trans s3⟩;rw[Bw,hy,F2,←en];show _=gW ps n y;unfold gW;rw[←hle,←hl];rfl
   . rintro σ H2 ⟨u,n,rfl,en,s2⟩;rw[au,cj]at en;subst en;exact⟨_,rfl,q H2 ys (s1.trans s2) ⟨srt,nd,mem⟩⟩
end
theorem alx{g:TG}{tb:TS}{D:Ends}{σ:L2.St}{H1:Hp}{d:Addr}{kvs:List (aN×V)}{ob:Obj}(Pv:Nat->L2.St->Hp->Prop)(h0:Pv 0 σ (aj H1 d (.frz ob (.dK kvs))))(hf:∀i σ H,Pv i σ H->H d=some (.frz ob (.dK kvs)))
 (hs:∀i k v p σ H,kvs[i]? = some (k,v)->Pv i σ H->H p=none->g (.ref p) σ (aj H p (.tup [kV k,v])) fun σ2 H2=>
  tb { nx:=Pv (i+1),ct:=Pv (i+1),bk:=fun σ' H'=>H' d=some (.frz ob (.dK kvs))/\D.nx σ' (aj H' d (.dK kvs)),rt:=fun v' H'=>H' d=some (.frz ob (.dK kvs))/\D.rt v' (aj H' d (.dK kvs)) } σ2 H2)
 (hd:∀σ H,Pv kvs.length σ H->D.nx σ (aj H d (.dK kvs))):∃W:Nat->Nat->L2.St->Hp->Prop,(∃m,W 0 m σ (aj H1 d (.frz ob (.dK kvs))))/\∀i m σ H,W i m σ H ->
 H d=some (.frz ob (.dK kvs))/\((kvs.length<=i/\D.nx σ (aj H d (.dK kvs)))\/(i<kvs.length/\∃N:L2.St->Hp->Prop,(∀σ' H',N σ' H'->∃m',m'<m/\W (i+1) m' σ' H') /\
  ∀k v p,kvs[i]? = some (k,v)->H p=none->g (.ref p) σ (aj H p (.tup [kV k,v])) fun σ2 H2=>
   tb { nx:=N,ct:=N,bk:=fun σ' H'=>H' d=some (.frz ob (.dK kvs))/\D.nx σ' (aj H' d (.dK kvs)),rt:=fun v' H'=>H' d=some (.frz ob (.dK kvs))/\D.rt v' (aj H' d (.dK kvs)) } σ2 H2)):=by
 refine⟨fun i m σ H=>m=kvs.length - i/\i<=kvs.length/\Pv i σ H,⟨kvs.length,by simp,dO _,h0⟩,?_⟩;rintro i m σ H ⟨rfl,hi,p⟩;refine⟨hf i σ H p,?_⟩
 by_cases aD:i<kvs.length
 . exact .inr ⟨aD,Pv (i+1),fun σ' H' p'=>⟨kvs.length - (i+1),by omega,rfl,aD,p'⟩,fun k v q hk hq=>hs i k v q σ H hk p hq⟩
 . have e:i=kvs.length:=by omega
   subst e;exact .inl ⟨aH _,hd σ H p⟩
abbrev Dec:=List (Str×Oi)
def lA(H:Hp)(kv:aN×V)(e:Str×Oi):Prop:=kv.1 = .inr e.1/\cZ H kv.2 e.2
theorem lA.same{H H':Hp}(s:ag H H'){kv:aN×V}{e:Str×Oi}(h:lA H kv e):lA H' kv e:=⟨h.1,h.2.same s⟩
def fE(H:Hp)(c:Addr)(de:Dec):Prop:=∃kvs,H c=some (.dK kvs)/\Paired (lA H) kvs de
theorem fE.same{H H':Hp}(s:ag H H'){c:Addr}{de:Dec}(h:fE H c de):fE H' c de:=h.elim fun kvs aly=>aly.elim fun a b=>⟨kvs,s _ _ a,aM b fun _ _=>lA.same s⟩
def bR(de:Dec):Ch:=de.filterMap fun e=>e.2.map fun m=>(e.1,m)
theorem DH(a b:Dec):bR (a++b)=bR a++bR b:=List.filterMap_append
theorem DI{de:Dec}{x:Str}(h:x∈(bR de).map (·.1)):x∈de.map (·.1):=by
 obtain⟨e,he,rfl⟩:=be.mp h;obtain⟨d,hd,hm⟩:=L8.mp he;cases hz:d.2 with
 | none=>rw[hz]at hm;cases hm
 | some m=>
  rw[hz]at hm;have hm:(d.1,m)=e:=eK hm;rw[←hm];exact be.mpr ⟨d,hd,rfl⟩
theorem alz{de:Dec}(nd:(de.map (·.1)).Nodup){i:Nat}{e:Str×Oi}(h:de[i]? = some e):e.1∉(de.take i).map (·.1):=by
 rw[UM];intro hm;obtain⟨j,hj,ej⟩:=Bp.mp hm;rw[db,au]at hj;rw[Vm]at ej;have e1:(de.map (·.1))[j]? = some e.1:=by rw[cJ (by rw[au];omega),ej]
 have e2:(de.map (·.1))[i]? = some e.1:=by rw[bN,h];rfl
 have:=(By (l:=de.map (·.1)) (i:=j) (j:=i) (by rw[au];omega) nd).mp (by rw[e1,e2]);omega
theorem Jt(de:Dec):(bR de).length<=de.length:=List.length_filterMap_le _ _
section
variable {P:Program} {w:World} {K:Fg} {mg:Mv} {base:Heap}
def Rn:Sp:=fun vs H Q _=>∃(d:Addr) (nm:Str) (cv:V) (de:Dec) (o:Oi),vs = [.ref d,.str nm,cv]/\fE H d de/\cZ H cv o/\nm∉de.map (·.1)/\de.length<=100/\∀r H',H r=none->ag H H'->fE H' r (de++[(nm,o)])->Q (.ref r) H'
theorem DJ:bh [atD,atE,aus,"further"] [atD,atE,aus] (aI pL):=⟨rfl,rfl,rfl,by decide +kernel,rfl,by decide +kernel,by decide +kernel⟩
theorem alA{f:Addr}{fd:Fy}(F:ai K atZ atZ pL f fd)(B:bX mg):ak P w K mg base ao 1 f fd [atD,atE,aus] Rn:=by
 refine F.ok DJ (fun vs H Q E h=>?_) (fun aF A outer s H vs Q E hr h=>?_)
 . obtain⟨d,nm,cv,de,o,rfl,_⟩:=h;rfl
 . refine bo ?_;intro xX dX;obtain⟨d,nm,cv,de,o,rfl,⟨kvs,hd,pr⟩,hc,hn,hl,q⟩:=h;have hu:=hr.units;have hk:∀kv f,lA H kv f->kv.1=Sum.inr f.1:=fun kv f z=>z.1;refine⟨_,(az (bi (i:=3) DJ.nd rfl (Or.inl rfl) (gh yc (by rfl) B.dict BA (aa (pv 0) ae)))
    (az (vg hu (pv 3) (pv 1) (pv 2) rfl)
    (aB (aO (pv 3))))),?_⟩
   refine lT ?_;intro dD sS eS dM;have pl:=aK pr;refine⟨_,rfl,d,_,rfl,hd,fun p1 H1 n1 s1 e1=>?_⟩;refine⟨_,rfl,_,rfl,_,rfl,p1,_,rfl,kY.k (k:=.inr nm) e1 (bj (by omega)),?_⟩;refine⟨_,rfl,?_⟩;have s2:=j5 (o:=.dK (eu kvs (.inr nm) cv)) n1 s1;refine q p1 _ n1 s2 ⟨_,aP,?_⟩;have ek:eu kvs (.inr nm) cv=kvs++[(.inr nm,cv)]:=BX _ (zd hk pr hn);show Paired _ (eu kvs (.inr nm) cv) _;refine ek▸?_;rw[ek]at s2;exact dj ⟨rfl,hc.same s2⟩ (aM pr fun _ _=>lA.same s2)
def Ju:Sp:=fun vs H Q _=>∃(d:Addr) (de:Dec),vs = [.ref d]/\fE H d de/\(de.map (·.1)).Nodup/\de.length<=100/\∀r H',H r=none->ag H H'->dE H' r (bR de)->Q (.ref r) H'
theorem DK:bh [atD,atM,atE,atQ] [atD] (aI yW):=⟨rfl,rfl,rfl,by decide +kernel,rfl,by decide +kernel,by decide +kernel⟩
theorem Ro{f:Addr}{fd:Fy}(F:ai K aug aug yW f fd):ak P w K mg base ao 1 f fd [atD] Ju:=by
 refine F.ok DK (fun vs H Q E h=>?_) (fun aF A outer s H vs Q E hr h=>?_)
 . obtain⟨d,de,rfl,_⟩:=h;rfl
 . refine bo ?_;intro xX dX;obtain⟨d,de,rfl,⟨kvs,hd,pr⟩,nd,hl,q⟩:=h;have hu:=hr.units;have hk:∀kv f,cO H kv f->kv.1=Sum.inr f.1:=fun kv f z=>z.1;refine⟨_,(az (bi (i:=1) DK.nd rfl (Or.inl rfl) sR)
    (az (afk hZ rfl (pv 0) (sk rfl (gf (aT (i:=2) DK.nd rfl (Or.inl rfl)) (gf (aT (i:=3) DK.nd rfl (Or.inl rfl)) ng)))
    (aB (cp (bA uW (pv 3) eh (ba _))
     (aB (vg hu (pv 1) (pv 2) (pv 3) rfl)) cr)))
    (aB (aO (pv 1))))),?_⟩
   refine lT ?_;intro dD sS eS dM;have pl:=aK pr;refine fun r H1 n1 s1 e1=>?_;have od:r≠d:=(bg hd n1).symm;refine⟨_,rfl,d,kvs,rfl,s1 _ _ hd,fun ob=>?_⟩;refine alx (fun i σ H5=>∃u v tW,σ = [some (.ref d),some (.ref r),u,v]/\(∀b x,H b=some x->b≠d->H5 b=some x)/\H5 d=some (.frz ob (.dK kvs))/\H5 r=some (.dK tW)/\Paired (cO H) tW (bR (de.take i)))
    ⟨none,none,[],rfl,fun b x e hb=>aW (s1 _ _ e) hb,aP,aW e1 od,.nil⟩ ?_ ?_ ?_
   . rintro i σ H5 ⟨u,v,tW,rfl,_,h,_⟩;exact h
   . intro i k v p σ H5 hi hQ hp;refine b0 ?_;intro tT;obtain⟨u,v',tW,rfl,k5,h5,DL,tX⟩:=hQ;obtain⟨⟨x,o⟩,hf,a1,a2⟩:=bD pr hi;have a1:k = .inr x:=a1;subst a1;have aD:=(bH.mp hf).1;have sp:ag H5 (aj H5 p (.tup [kV (.inr x),v])):=jV hp;have et:bR (de.take (i+1))=bR (de.take i)++bR [(x,o)]:=by rw[gB hf,DH]
     refine⟨p,_,rfl,aw.of aP,rfl,_,_,rfl,_,_,rfl,rfl,?_⟩;refine⟨_,rfl,rfl,_,rfl,?_⟩;cases o with
     | none=>
      have a2:v = .non:=a2;subst a2;refine ff ?_;refine⟨_,_,tW,rfl,fun b z e hb=>sp _ _ (k5 _ _ e hb),sp _ _ h5,sp _ _ DL,?_⟩;rw[et,show bR [(x,none)] = [] from rfl,dG];exact tX
     | some m=>
      obtain⟨c,rfl,hc⟩:=a2;refine i7 ?_;have hxn:x∉(bR (de.take i)).map (·.1):=fun z=>alz nd hf (DI z);have p5:=aK tX;have cl:=Jt (de.take i);rw[db]at cl;refine⟨_,rfl,_,rfl,_,rfl,r,_,rfl,kY.k (k:=.inr x) (sp _ _ DL) (bj (by omega)),?_⟩;refine⟨_,_,_,rfl,fun b z e hb=>aW (sp _ _ (k5 _ _ e hb)) (bg e n1),aW (sp _ _ h5) od.symm,aP,?_⟩;rw[et,show bR [(x,some m)] = [(x,m)] from rfl,BX _ (zd hk tX hxn)];exact dj ⟨rfl,c,rfl,hc⟩ tX
   . rintro σ H5 ⟨u,v,tW,rfl,k5,h5,DL,tX⟩;rw[pl,cj]at tX;have sE:ag H (aj H5 d (.dK kvs)):=fun b o e=>by
      by_cases hb:b=d
      . subst hb;rw[aP,←e,hd]
      . exact aW (k5 _ _ e hb) hb
     exact⟨_,rfl,q r _ n1 sE ⟨tW,aW DL od,aM tX fun _ _=>cO.same sE⟩⟩
end
theorem Jv:∀{l:Ll},kB l=true->l.Pairwise (fun a b=>HT.lexLt a b=true)
 | [],_=>.nil
 | [_],_=>MX _ _
 | x::y::r,h=>by
  obtain⟨h1,h2⟩:=Vh.mp h;have ih:=Jv (l:=y::r) h2;refine Bz.mpr ⟨fun z hz=>?_,ih⟩
  rcases bw.mp hz with e | hz
  . rw[e];exact h1
  . exact ye _ _ _ h1 (asr ih hz)
theorem alC{a b:Ll}(p:a.Perm b)(h1:kB a=true)(h2:kB b=true):a=b:=by
 refine ass (fun x y _ _ h h'=>?_) (Jv h1) (Jv h2) p;exact BB fun ne=>by
  have:=Ca x y ne;rw[h,h']at this;cases this
structure pY(ps:Lp)(M:Str->Ll):Prop where
 pm:∀nm,(M nm).Perm (bp ps nm)
 ad:∀nm,kB (M nm)=true
theorem pY.is{ps:Lp}{M:Str->Ll}(h:pY ps M){nm:Str}{ks:Ll}(p:ks.Perm (bp ps nm))(a:kB ks=true):ks=M nm:=alC (p.trans (h.pm nm).symm) a (h.ad nm)
def rC(M:Str->Ll)(nm:Str):List (Oi):=none::(M nm).map some
def mf(M:Str->Ll)(nm:Str)(de:Dec):List Dec:=(rC M nm).map fun c=>de++[(nm,c)]
def gE(M:Str->Ll)(ds:List Dec)(nm:Str):List Dec:=ds.flatMap (mf M nm)
def gY(M:Str->Ll)(ys:Ls):List Dec:=ys.foldl (gE M) [[]]
theorem alD(M:Str->Ll)(nm:Str)(de:Dec):1<=(mf M nm de).length:=by
 unfold mf rC;simp
theorem Rp(M:Str->Ll)(nm:Str):∀ds:List Dec,ds.length<=(gE M ds nm).length
 | []=>dO _
 | d::ds=>by
  have h:=Rp M nm ds;have k:=alD M nm d;unfold gE at h ⊢;rw[kS,bc,bF];omega
theorem Rq(M:Str->Ll):∀(ys:Ls) (ds:List Dec),ds.length<=(ys.foldl (gE M) ds).length
 | [],_=>aH _
 | y::ys,ds=>bS (Rp M y ds) (Rq M ys (gE M ds y))
theorem alE(M:Str->Ll)(ys:Ls)(i:Nat):(gY M (ys.take i)).length<=(gY M ys).length:=by
 have e:gY M ys=(ys.drop i).foldl (gE M) (gY M (ys.take i)):=by
  unfold gY;rw[←F2,Vl]
 rw[e];exact Rq M _ _
theorem Rr{M:Str->Ll}{ys:Ls}{i:Nat}{y:Str}(h:ys[i]? = some y):gY M (ys.take (i+1))=(gY M (ys.take i)).flatMap (mf M y):=by
 unfold gY;rw[gB h,F2];rfl
theorem Rs(M:Str->Ll):∀(ys pre:Ls) (ds:List Dec),(∀de∈ds,de.map (·.1)=pre)->∀de∈ys.foldl (gE M) ds,de.map (·.1)=pre++ys
 | [],pre,ds,h,de,hd=>by rw[dG];exact h de hd
 | y::ys,pre,ds,h,de,hd=>by
  have:=Rs M ys (pre++[y]) (gE M ds y) (fun e he=>by
   obtain⟨d,hd,he⟩:=lJ.mp he;obtain⟨c,_,rfl⟩:=be.mp he;rw[dU,h d hd];rfl) de hd
  rw[this,oR];rfl
theorem DM{M:Str->Ll}{ys:Ls}{de:Dec}(h:de∈gY M ys):de.map (·.1)=ys:=Rs M ys [] [[]] (fun e he=>by rw[cE.mp he];rfl) de h
theorem cZ.mut{H:Hp}{D:Addr}{zs aY:Lv}(hD:H D=some (.lst zs)){b:V}{o:Oi}(h:cZ H b o):cZ (aj H D (.lst aY)) b o:=by
 cases o with
 | none=>exact h
 | some bs=>
  obtain⟨a,e1,e2⟩:=h;exact⟨a,e1,aW e2 (eP e2 hD (by intro z;cases z))⟩
def on(H:Hp)(v:V)(de:Dec):Prop:=∃c,v = .ref c/\fE H c de
theorem on.same{H H':Hp}(s:ag H H'){v:V}{de:Dec}(h:on H v de):on H' v de:=h.elim fun c alF=>alF.elim fun a b=>⟨c,a,b.same s⟩
theorem on.mut{H:Hp}{D:Addr}{zs aY:Lv}(hD:H D=some (.lst zs)){v:V}{de:Dec}(h:on H v de):on (aj H D (.lst aY)) v de:=by
 obtain⟨c,rfl,kvs,h1,h2⟩:=h;exact⟨c,rfl,kvs,aW h1 (eP h1 hD (by intro z;cases z)),aM h2 fun _ _ z=>⟨z.1,z.2.mut hD⟩⟩
def dS(H:Hp)(v:V)(ch:Ch):Prop:=∃c,v = .ref c/\dE H c ch
theorem dS.same{H H':Hp}(s:ag H H'){v:V}{ch:Ch}(h:dS H v ch):dS H' v ch:=h.elim fun c alG=>alG.elim fun a b=>⟨c,a,b.same s⟩
theorem dS.mut{H:Hp}{D:Addr}{zs aY:Lv}(hD:H D=some (.lst zs)){v:V}{ch:Ch}(h:dS H v ch):dS (aj H D (.lst aY)) v ch:=by
 obtain⟨c,rfl,kvs,h1,h2⟩:=h;refine⟨c,rfl,kvs,aW h1 (eP h1 hD (by intro z;cases z)),aM h2 fun _ _ z=>?_⟩;obtain⟨z1,m,z2,z3⟩:=z;exact⟨z1,m,z2,aW z3 (eP z3 hD (by intro z;cases z))⟩
theorem zF{H:Hp}:∀{ys:Lv} {ks:Ll},me H ys ks->Paired (cZ H) ys (ks.map some)
 | _,_,.nil=>.nil
 | _,_,.cons ⟨t,e,h,_⟩ r=>.cons ⟨t,e,h⟩ (zF r)
section
variable {P:Program} {w:World} {K:Fg} {mg:Mv} {base:Heap}
def Rt(S:Addr):Sp:=fun vs H Q _=>∃(sv:V) (xs:Lv) (ps:Lp) (M:Str->Ll),vs = [sv]/\ik S H sv xs ps/\gD ps/\pY ps M/\(∀ys,fz ps ys->(gY M ys).length<=500) /\
 ∀l zs ys H',H l=none->ag H H'->fz ps ys->H' l=some (.lst zs)->Paired (dS H') zs ((gY M ys).map bR)->Q (.ref l) H'
theorem vV:bh [atC,"ways",atE,"further",atD] [atC] (aI C0):=⟨rfl,rfl,rfl,by decide +kernel,rfl,by decide +kernel,by decide +kernel⟩
theorem alH{f fY ir rD S dF bY f3:Addr}{fd je kI vW gX dZ:Fy}(F:ai K ava ava C0 f fd)(B:bX mg)(U:ft K mg S dF bY f3)(fB:ai K auP "Shelf.names" lm dF gX)(cS:ai K at9 "Shelf.makes_of" iJ bY dZ)
 (eG:ai K at0 at0 pK fY je) (iq:mg at0 = some (.ref fY)) (fZ:ai K atZ atZ pL ir kI) (jf:mg atZ = some (.ref ir)) (oq:ai K aug aug yW rD vW) (vX:mg aug = some (.ref rD)) :
 ak P w K mg base ao 3 f fd [atC] (Rt S):=by
 have pW:ak P w K mg base ao 1 dF gX [atG] (vT S):=zB fB B U;have pX:=fB.binds1 (l:=[atG]) (fun _ _ _ _ _ _ _=>rfl);have tU:ak P w K mg base ao 2 fY je [atC,atE] (zC S):=DF eG B U cS;have tV:=eG.binds2 (l:=[atC,atE]) (fun _ _ _ _ _ _ _ _=>rfl);have vY:ak P w K mg base ao 1 ir kI [atD,atE,aus] Rn:=alA fZ B;have vZ:=fZ.binds3 (l:=[atD,atE,aus]) (fun _ _ _ _ _ _ _ _ _=>rfl);have Jw:ak P w K mg base ao 1 rD vW [atD] Ju:=Ro oq;have Jx:=oq.binds1 (l:=[atD]) (fun _ _ _ _ _ _ _=>rfl);refine F.ok vV (fun vs H Q E h=>?_) (fun aF A outer s H vs Q E hr h=>?_)
 . obtain⟨sv,xs,ps,M,rfl,_⟩:=h;rfl
 . refine bo ?_;intro xX dX;obtain⟨sv,xs,ps,M,rfl,hS,ok,hM,alI,q⟩:=h;have fD:=hr.mono (j:=1) (by decide);have vU:=ok.len;refine⟨_,(az (bi (i:=1) vV.nd rfl (Or.inl rfl) (eA (aa sR ae)))
    (az (gr hZ rfl (bJ (xD (pv 0) U.cl U.mN pW fD pX .nil av)) (aT (i:=2) vV.nd rfl (Or.inr rfl))
    (az (bi (i:=3) vV.nd rfl (Or.inl rfl) (eA ae))
     (az (gr hZ rfl (bJ (pv 1)) (aT (i:=4) vV.nd rfl (Or.inr rfl))
     (aB (m9 (nt qD xq xr sH (pv 3) (aa (dw [aus] [atD,atE] [4,2] ⟨rfl,by decide +kernel,by decide +kernel,by decide +kernel,by decide +kernel,rfl,rfl,rfl⟩ rfl (bJ (aG tU hr rfl iq eG.kp tV .nil av (aa (pv 0) (aa (pv 2) ae)))) (fun _ _ _ _=>(aT (i:=0) (show List.Nodup ([aus,atD,atE]:Ls) by decide +kernel) rfl (Or.inl rfl))) (fun _ _ _ _=>fh) (fun _ _ _ _=>(aG vY fD rfl jf fZ.kp vZ .nil av (aa (pv 1) (aa (pv 2) (aa (pv 0) ae)))))) ae)))))
     (aB (bi (i:=1) vV.nd rfl (Or.inl rfl) (pv 3))))))
    (aB (aO (dw [atD] [] [] ⟨rfl,by decide +kernel,by decide +kernel,by decide +kernel,by decide +kernel,rfl,rfl,rfl⟩ rfl (bJ (pv 1)) (fun _ _ _ _=>(aT (i:=0) (show List.Nodup ([atD]:Ls) by decide +kernel) rfl (Or.inl rfl))) (fun _ _ _ _=>fh) (fun _ _ _ _=>(aG Jw fD rfl vX oq.kp Jx .nil av (aa (pv 0) ae)))))))),?_⟩
   refine lT ?_;intro dD sS eS dM;refine fun p1 H1 n1 s1 e1=>?_;refine⟨(by show 1<=sizeLine;decide),fun p2 H2 n2 s2 e2=>?_⟩;have bW:=s1.trans s2;obtain⟨a,dx,fl,d,kvs,rfl,b1,b2,b3,b4,b5,b6⟩:=hS.same bW;refine⟨_,rfl,a,dx,fl,rfl,b1,b4,?_⟩;dsimp only[gN,qA,qC];refine⟨_,xs,ps,rfl,hS.same bW,vU,fun l ys H3 n3 s3 e3 srt nd mem=>?_⟩;have hN:fz ps ys:=⟨srt,nd,mem⟩;have as2:=alI ys hN;have yl:ys.length<=ps.length:=by
    have:=kC nd fun z hz=>(mem z).mp hz
    rwa [au]at this
   refine⟨l,rfl,⟨_,af.of e3⟩,?_⟩;have bI:=bW.trans s3;refine jQ (D:={ dD with nx:=eS dD }) (xs:=ys.map V.str) (fun i σ H4=>∃wl u2 u3 u4 zs,σ = [some (.ref a),some (.ref wl),u2,u3,u4]/\ag H3 H4/\H4 wl=some (.lst zs)/\Paired (on H4) zs (gY M (ys.take i)))
    ⟨p2,none,none,none,[.ref p1],rfl,ag.refl _,s3 _ _ e2,.cons ⟨p1,rfl,[],(s2.trans s3) _ _ e1,.nil⟩ .nil⟩ ?_ ?_ ?_
   . rintro i σ H4 hi ⟨wl,u2,u3,u4,zs,rfl,s4,_⟩;exact af.of (s4 _ _ e3)
   . intro i x σ H4 hx hQ;refine b0 ?_;intro tT;obtain⟨wl,u2,u3,u4,zs,rfl,s4,cY,j8⟩:=hQ;rw[bN]at hx;cases hy:ys[i]? with
     | none=>rw[hy]at hx;cases hx
     | some y=>
      rw[hy]at hx;cases hx;have aD:=(bH.mp hy).1;have wi:=alE M ys (i+1);rw[Rr hy]at wi;have zl:=aK j8;refine⟨(by show 0<=sizeLine;decide),fun p5 H5 n5 s5 e5=>?_⟩;refine⟨_,rfl,wl,rfl,⟨_,af.of (s5 _ _ cY)⟩,?_⟩;refine jQ (xs:=zs) (fun j σ H6=>∃u4 fs,σ = [some (.ref a),some (.ref wl),some (.str y),some (.ref p5),u4]/\ag H4 H6/\H6 p5=some (.lst fs)/\Paired (on H6) fs (((gY M (ys.take i)).take j).flatMap (mf M y))) ⟨u4,[],rfl,s5,e5,.nil⟩ ?_ ?_ ?_
      . rintro j σ H6 hj ⟨u4,fs,rfl,s6,_⟩;exact af.of (s6 _ _ cY)
      . intro j z σ H6 hz hQ6;refine b0 ?_;intro tT6;obtain⟨u4',fs,rfl,s6,e6,f6⟩:=hQ6;obtain⟨de,cg,c,rfl,hc⟩:=bD j8 hz;have kx:=DM (eN cg);have gl:=Je (f:=mf M y) (l:=gY M (ys.take i)) (i:=j+1);rw[yS cg,bc]at gl;have fl6:=aK f6;refine⟨_,rfl,.inl ⟨rfl,_,af.of e6⟩,_,rfl,_,rfl,?_⟩;refine⟨_,y,xs,ps,rfl,hS.same (bI.trans (s4.trans s6)),ok,fun c7 ys7 ks7 H7 n7 s7 e7 tv pm ad=>?_⟩;have ek:=hM.is pm ad;subst ek;have hb:Paired (cZ H7) (.non::ys7) (rC M y):=.cons rfl (zF tv);have cl:=aK hb;have ol:(mf M y de).length=(rC M y).length:=by unfold mf;rw[au]
        refine⟨c7,rfl,⟨_,af.of e7⟩,?_⟩;intro D8 nv;refine vO (σ0:=[none,some (.ref c),some (.str y)]) nv (af.of e7) (fun σ=>∃v,σ = [v,some (.ref c),some (.str y)]) (fun k aY H8=>Paired (on H8) aY (((rC M y).take k).map fun o=>de++[(y,o)])) ⟨_,rfl⟩ .nil ?_ ?_
        . rintro k x8 mh σ8 H8 kk iP ⟨v8,rfl⟩ f7 h8 hP hk;obtain⟨o,ho,hB⟩:=bD hb iP;have pZ:=aK hP;rw[au,db]at pZ;refine⟨_,rfl,_,rfl,_,rfl,?_⟩;refine⟨c,y,x8,de,o,rfl,hc.same (s6.trans (s7.trans h8)),hB.same h8,?_,?_,fun r9 H9 n9 s9 Jy=>?_⟩
          . rw[kx];intro hm;obtain⟨j',jz,zG⟩:=Bp.mp hm;rw[db]at jz;rw[Vm]at zG;have:=(By (l:=ys) (i:=j') (j:=i) (by omega) nd).mp (by rw[hy,cJ (by omega),zG]);omega
          . have:=fL List.length kx;rw[au,db]at this;omega
          have d9:=s9 _ _ f7;refine hk _ _ _ ⟨_,rfl⟩ s9 (bj (by omega)) ?_;rw[gB ho,dU];exact dj (on.mut d9 ⟨r9,rfl,Jy⟩) (aM hP fun _ _ z=>(z.same s9).mut d9)
        . intro mh H8 f7 h8 hP;rw[cl,cj]at hP;have pZ:=aK hP;rw[au]at pZ;have Jz:=(s7.trans h8) _ _ e6;refine⟨p5,D8,_,_,rfl,rfl,Jz,f7,hJ (bj (by omega)),?_⟩;refine⟨_,_,rfl,j5 n5 (s6.trans (s7.trans h8)),aP,?_⟩;rw[yS cg];exact rA (aM f6 fun _ _ z=>(z.same (s7.trans h8)).mut Jz) (aM hP fun _ _ z=>z.mut Jz)
      . rintro σ H6 ⟨u4',fs,rfl,s6,e6,f6⟩;rw[zl,cj]at f6;refine⟨_,rfl,p5,_,_,_,fs,rfl,s4.trans s6,e6,?_⟩;rw[Rr hy];exact f6
   . rintro σ H4 ⟨wl,u2,u3,u4,zs,rfl,s4,cY,j8⟩;rw[au,cj]at j8;have zl:=aK j8;refine⟨_,rfl,wl,rfl,⟨_,af.of cY⟩,?_⟩;refine x9 (σ0:=[none]) (af.of cY) (fun σ=>∃v,σ = [v]) (fun k aY H8=>Paired (dS H8) aY (((gY M ys).take k).map bR)) ⟨_,rfl⟩ (fun _ _=>.nil) ?_ ?_
     . rintro D k x8 mh σ8 H8 kk hD iP ⟨v8,rfl⟩ f7 h8 hP hk;obtain⟨de,cg,c,rfl,hc⟩:=bD j8 iP;have aD:=(bH.mp cg).1;have kx:=DM (eN cg);have pZ:=aK hP;rw[au,db]at pZ;refine⟨_,rfl,c,de,rfl,hc.same h8,by rw[kx];exact nd,?_,fun r9 H9 n9 s9 Jy=>?_⟩
       . have:=fL List.length kx;rw[au]at this;omega
       have d9:=s9 _ _ f7;refine hk _ _ _ ⟨_,rfl⟩ s9 (bj (by omega)) ?_;rw[gB cg,dU];exact dj (dS.mut d9 ⟨r9,rfl,Jy⟩) (aM hP fun _ _ z=>(z.same s9).mut d9)
     . intro D mh H8 hD f7 h8 hP;rw[zl,cj]at hP;exact q D mh ys H8 ((bI.trans s4).free hD) ((bI.trans s4).trans h8) hN f7 hP
end
theorem mi{H:Hp}{x:Str}:∀{kvs:List (aN×V)} {ch:Ch},Paired (cO H) kvs ch->cZ H ((bP kvs (.inr x)).getD .non) (ch.lookup x)
 | _,_,.nil=>rfl
 | kv::kvs,e::ch,.cons r t=>by
  obtain⟨r1,m,r2,r3⟩:=r
  by_cases z:e.1=x
  . subst z;rw[jx r1,r2,show(e::ch).lookup e.1=some e.2 by rw[iW,rZ]];exact⟨m,rfl,r3⟩
  . have n1:kv.1≠.inr x:=fun y=>z (by rw[r1]at y;injection y);have n2:(x == e.1)=false:=iw.mpr fun y=>z y.symm;rw[i6 n1,show(e::ch).lookup x=ch.lookup x by rw[iW,n2]];exact mi t
def DO:Oi->PySem.W.Dat
 | none=>.none
 | some m=>dI m
theorem JA{a b:Oi}(h:DO a=DO b):a=b:=by
 cases a with
 | none=>
  cases b with
  | none=>rfl
  | some y=>cases h
 | some x=>
  cases b with
  | none=>cases h
  | some y=>rw[QQ.mp h]
theorem v3{K:Fg}{H:Hp}{v:V}{o:Oi}(h:cZ H v o):DV K H v (DO o)/\PySem.W.kqdOk 9 (DO o)=true:=by
 cases o with
 | none=>
  have h:v = .non:=h;subst h;exact⟨.non,rfl⟩
 | some m=>
  obtain⟨a,rfl,h⟩:=h;exact⟨.tup (aw.of h) (B0 _),zj 8 m⟩
theorem alN{α:Type}(l:List α)(f:α->Bool):(l.map f).all id=l.all f:=by rw[MV];rfl
def v4(ch:Ch)(ws:List cq):Bool:=ws.all fun w=>jE w (ch.lookup w.nm)
section
variable {P:Program} {w:World} {K:Fg} {mg:Mv} {base:Heap}
def Ru:Sp:=fun vs H Q _=>∃(c a:Addr) (ch:Ch) (xs:Lv) (ws:List cq),vs = [.ref c,.ref a]/\dE H c ch/\H a=some (.lst xs)/\Paired (c9 H) xs ws/\ws.length<=100/\∀H',ag H H'->Q (.bl (v4 ch ws)) H'
theorem alO:bh [atM,atF] [atM,atF] (aI CY):=⟨rfl,rfl,rfl,by decide +kernel,rfl,by decide +kernel,by decide +kernel⟩
theorem alP{f rE cR:Addr}{fd v7 fu:Fy}(F:ai K avb avb CY f fd)(B:bX mg)(ot:ai K aun aun yU rE v7)(v9:mg aun = some (.ref rE))(c4:ai K atL atL j4 cR fu)(dR:mg atL = some (.ref cR)) :
 ak P w K mg base ao 3 f fd [atM,atF] Ru:=by
 have JB:ak P w K mg base ao 2 rE v7 [auI,atQ] Js:=Rk ot c4 dR;have JC:=ot.binds2 (l:=[auI,atQ]) (fun _ _ _ _ _ _ _ _=>rfl);refine F.ok alO (fun vs H Q E h=>?_) (fun aF A outer s H vs Q E hr h=>?_)
 . obtain⟨c,a,ch,xs,ws,rfl,_⟩:=h;rfl
 . refine bo ?_;intro xX dX;obtain⟨c,a,ch,xs,ws,rfl,⟨kvs,hc,pr⟩,ha,hw,tY,q⟩:=h;have hu:=hr.units;have wl:=aK hw;refine⟨_,(aB (aO (bZ (ahe K) (by rfl) B.all PyProof.Rows.boot_all (aa (dw [auI] [atM] [0] ⟨rfl,by decide +kernel,by decide +kernel,by decide +kernel,by decide +kernel,rfl,rfl,rfl⟩ rfl (bJ (pv 1)) (fun _ _ _ _=>(aT (i:=0) (show List.Nodup ([auI,atM]:Ls) by decide +kernel) rfl (Or.inl rfl))) (fun _ _ _ _=>fh)
    (fun _ _ _ _=>(aG JB hr rfl v9 ot.kp JC .nil av (aa (pv 0) (aa (pe hu (pv 1) (aQ (lS K) (pv 0) ar (fun _ _=>rfl)) ⟨rfl,rfl,rfl,rfl⟩) ae))))) ae)))),?_⟩
   refine⟨_,rfl,a,rfl,⟨_,af.of ha⟩,?_⟩;refine yA (σ0:=[none,some (.ref c)]) (af.of ha) (fun σ=>∃v,σ = [v,some (.ref c)]) ((ws.map fun w=>jE w (ch.lookup w.nm)).map V.bl) (by rw[au,au,wl]) (hJ (bj (by omega))) ⟨_,rfl⟩ ?_ ?_
   . intro i z y σ H2 k hz hy hQ hs hk;obtain⟨v,rfl⟩:=hQ;obtain⟨wi,gi,hW⟩:=bD hw hz;rw[uN,bN,gi]at hy;cases hy;obtain⟨t,us,rfl,ht,h1⟩:=hW.nm;refine⟨_,rfl,_,rfl,c,rfl,.inl ⟨_,.inl (hs _ _ hc)⟩,_,rfl,t,_,_,_,rfl,rfl,aw.of (hs _ _ ht),dY (j:=1) h1,_,cw.k (k:=.inr wi.nm) (hs _ _ hc),?_⟩;exact⟨_,_,wi,ch.lookup wi.nm,rfl,hW.same hs,(mi pr).same hs,hk _ _ ⟨_,rfl⟩ (ag.refl _)⟩
   . intro D H2 hD hd hs;refine⟨D,_,rfl,af.of hd,?_⟩;rw[alN];exact q H2 hs
def jF(fs tr:Ch)(k:Str):Bool:=decide (fs.lookup k≠tr.lookup k)
def Rv:Sp:=fun vs H Q _=>∃(a b:Addr) (fs tr:Ch),vs = [.ref a,.ref b]/\dE H a fs/\dE H b tr/\fs.length+tr.length<=20 /\
 ∀l H' ys,H l=none->ag H H'->H' l=some (.lst ((ys.filter (jF fs tr)).map V.str))->sortedS ys=true->ys.Nodup->(∀z,z∈ys↔z∈fs.map (·.1)\/z∈tr.map (·.1))->Q (.ref l) H'
theorem alQ:bh [au7,auX] [au7,auX] (aI CB):=⟨rfl,rfl,rfl,by decide +kernel,rfl,by decide +kernel,by decide +kernel⟩
theorem alR{f:Addr}{fd:Fy}(F:ai K auM auM CB f fd)(B:bX mg):ak P w K mg base ao 1 f fd [au7,auX] Rv:=by
 refine F.ok alQ (fun vs H Q E h=>?_) (fun aF A outer s H vs Q E hr h=>?_)
 . obtain⟨a,b,fs,tr,rfl,_⟩:=h;rfl
 . refine bo ?_;intro xX dX;obtain⟨a,b,fs,tr,rfl,⟨ka,ha,pa⟩,⟨kb,hb,pb⟩,l20,q⟩:=h;have hu:=hr.units;refine⟨_,(aB (aO (dw ["key"] [au7,auX] [0,1] ⟨rfl,by decide +kernel,by decide +kernel,by decide +kernel,by decide +kernel,rfl,rfl,rfl⟩ rfl (bJ (bZ (Ck rfl) (by rfl) B.sorted xp (aa (aU aha (gh Pu (by rfl) B.set F0 (aa (pv 0) ae)) (gh Pu (by rfl) B.set F0 (aa (pv 1) ae))) ae)))
    (fun _ _ _ _=>(aT (i:=0) (show List.Nodup (["key",au7,auX]:Ls) by decide +kernel) rfl (Or.inl rfl))) (fun _ _ _ _=>ig (bA (OK K hu) (pe hu (pv 1) (pv 0) ⟨rfl,rfl,rfl,rfl⟩) (pe hu (pv 2) (pv 0) ⟨rfl,rfl,rfl,rfl⟩) (ba _))) (fun _ _ _ _=>(pv 0))))),?_⟩
   refine⟨_,rfl,a,ka,fs.map (·.1),rfl,ha,IK (fun _ _ (z:cO H _ _)=>z.1) pa,by rw[au];omega,fun r1 Rw H1 n1 s1 e1 nd1 m1=>?_⟩;refine⟨_,rfl,b,kb,tr.map (·.1),rfl,s1 _ _ hb,IK (fun _ _ (z:cO H _ _)=>z.1) pb,by rw[au];omega,fun r2 Rx H2 n2 s2 e2 nd2 m2=>?_⟩;have l1:Rw.length<=fs.length:=by have:=kC nd1 fun z hz=>(m1 z).mp hz;rwa [au]at this
   have l2:Rx.length<=tr.length:=by have:=kC nd2 fun z hz=>(m2 z).mp hz;rwa [au]at this
   refine⟨r1,r2,Rw,Rx,rfl,rfl,bg e1 n2,s2 _ _ e1,e2,by omega,fun r3 zs H3 n3 s3 e3 Ry m3=>?_⟩;have l3:zs.length<=20:=by have:=kC Ry fun z hz=>(m3 z).mp hz;rw[bc]at this;omega
   refine⟨r3,zs,rfl,e3,by omega,fun ys pm srt p H4 n4 s4 e4=>?_⟩;have eI:ag H H4:=(s1.trans s2).trans (s3.trans s4);have lys:ys.length<=20:=by rw[pm.length_eq];exact l3
   refine⟨p,rfl,⟨_,af.of e4⟩,?_⟩;refine GV (K:=K) (xs:=ys.map V.str) (σ0:=[none,some (.ref a),some (.ref b)]) (af.of e4) (fun σ=>∃v,σ = [v,some (.ref a),some (.ref b)]) (fun i ws _=>ws=((ys.take i).filter (jF fs tr)).map V.str) ⟨_,rfl⟩ (fun _ _=>rfl) ?_ ?_
   . rintro D i x ws σ H5 k k' hD hx ⟨v,rfl⟩ ip s5 rfl hk dA;rw[bN]at hx;cases hy:ys[i]? with
     | none=>rw[hy]at hx;cases hx
     | some y=>
      rw[hy]at hx;cases hx;have ga:=eI.trans s5;obtain⟨d1,o1⟩:=v3 (K:=K) ((mi (x:=y) pa).same ga);obtain⟨d2,o2⟩:=v3 (K:=K) ((mi (x:=y) pb).same ga);refine⟨_,rfl,a,rfl,.inl ⟨_,.inl (ga _ _ ha)⟩,_,rfl,_,cw.k (k:=.inr y) (ga _ _ ha),?_⟩;refine⟨_,rfl,b,rfl,.inl ⟨_,.inl (ga _ _ hb)⟩,_,rfl,_,cw.k (k:=.inr y) (ga _ _ hb),?_⟩;refine⟨_,_,d1,d2,o1,o2,fun bb sZ=>⟨_,rfl,?_⟩⟩;have e0:=pG (f:=jF fs tr) hy;refine aJ (fun h=>?_) (fun h=>?_)
      . have bn:jF fs tr y=true:=aE fun e=>by
         have:bb=true:=sZ.mpr (by rw[e]);rw[this]at h;cases h
        refine⟨_,rfl,hk _ _ _ ⟨_,rfl⟩ (ag.refl _) (bj ?_) ?_⟩
        . rw[au];have:=gK (jF fs tr) (ys.take i);rw[db]at this;omega
        . rw[e0,ap bn,dU];rfl
      . have heq:fs.lookup y=tr.lookup y:=by
         cases bb with
         | true=>exact JA (sZ.mp rfl)
         | false=>exact absurd rfl h
        refine dA _ _ ⟨_,rfl⟩ (ag.refl _) ?_;rw[e0,ah (by unfold jF;rw[aR (fun z=>z heq)];exact bV),dG]
   . rintro D ws H5 hD ip s5 rfl;rw[au,cj]at ip;refine q D H5 ys (eI.free hD) (eI.trans s5) ip srt (pm.nodup_iff.mpr Ry) fun z=>?_;rw[pm.mem_iff,m3,eg,m1,m2]
end
structure fF(C S:Addr)(H:Hp)(sv:V)(ps:Lp):Prop where
 sh:∃xs,ik S H sv xs ps/\gC C H xs ps
 ok:gD ps
 few:∀p∈ps,lj p
theorem fF.same{C S:Addr}{H H':Hp}{sv:V}{ps:Lp}(s:ag H H')(h:fF C S H sv ps):fF C S H' sv ps:=by
 obtain⟨⟨xs,h1,h2⟩,h3,h4⟩:=h;exact⟨⟨xs,h1.same s,h2.same s⟩,h3,h4⟩
def cT(de:Dec)(x:Str):Oi:=(de.lookup x).join
def mj(de:Dec)(x:Str):Bool:=(de.lookup x).isSome
theorem DP{H:Hp}{x:Str}:∀{kvs:List (aN×V)} {de:Dec},Paired (lA H) kvs de->(bP kvs (.inr x)=none/\de.lookup x=none)\/∃v o,bP kvs (.inr x)=some v/\de.lookup x=some o/\cZ H v o
 | _,_,.nil=>.inl ⟨rfl,rfl⟩
 | kv::kvs,e::de,.cons r t=>by
  obtain⟨r1,r2⟩:=r
  by_cases z:e.1=x
  . subst z;exact .inr ⟨kv.2,e.2,jx r1,by rw[iW,rZ],r2⟩
  . have n1:kv.1≠.inr x:=fun y=>z (by rw[r1]at y;injection y);have n2:(x == e.1)=false:=iw.mpr fun y=>z y.symm;rw[i6 n1,show(e::de).lookup x=de.lookup x by rw[iW,n2]];exact DP t
theorem Rz{H:Hp}{x:Str}{kvs:List (aN×V)}{de:Dec}(h:Paired (lA H) kvs de):cZ H ((bP kvs (.inr x)).getD .non) (cT de x):=by
 unfold cT
 rcases DP (x:=x) h with⟨a,b⟩ | ⟨v,o,a,b,c⟩
 . rw[a,b];rfl
 . rw[a,b];exact c
theorem RA{H:Hp}{x:Str}{kvs:List (aN×V)}{de:Dec}(h:Paired (lA H) kvs de):(bP kvs (.inr x)).isSome=mj de x:=by
 unfold mj
 rcases DP (x:=x) h with⟨a,b⟩ | ⟨v,o,a,b,c⟩
 . rw[a,b];rfl
 . rw[a,b];rfl
def gZ(ps:Lp)(de:Dec):Prop:=∀x m,de.lookup x=some (some m)->∃p∈ps,p.nm=x/\p.ms=m
def g8(ps:Lp)(de:Dec)(x:Str):Option aS:=match cT de x with
 | none=>none
 | some m=>ps.find? fun p=>decide (p.nm=x) && decide (p.ms=m)
theorem DQ{de:Dec}{x:Str}{m:List Int}(h:cT de x=some m):de.lookup x=some (some m):=by
 unfold cT at h;cases hz:de.lookup x with
 | none=>rw[hz]at h;cases h
 | some o=>rw[hz]at h;rw[show o=some m from h]
theorem alU{ps:Lp}{de:Dec}(ok:gZ ps de){x:Str}{m:List Int}(h:cT de x=some m):∃p,g8 ps de x=some p/\p∈ps/\p.nm=x/\p.ms=m:=by
 obtain⟨p,hp,e1,e2⟩:=ok x m (DQ h);unfold g8;rw[h];cases hf:ps.find? fun p=>decide (p.nm=x) && decide (p.ms=m) with
 | none=>
  have:=U2.mp hf p hp;rw[e1,e2,aE rfl,aE rfl]at this;exact absurd rfl this
 | some q=>
  have h1:=U3 hf;rw[dn]at h1;exact⟨q,hf,Vn hf,bd h1.1,bd h1.2⟩
theorem alV{ps:Lp}{de:Dec}{x:Str}(h:cT de x=none):g8 ps de x=none:=by
 unfold g8;rw[h]
def DR(C:Addr)(H:Hp)(v:V):Option aS->Prop
 | none=>v = .non
 | some p=>gT C H v p
theorem DR.same{C:Addr}{H H':Hp}{v:V}{o:Option aS}(s:ag H H')(h:DR C H v o):DR C H' v o:=by
 cases o with
 | none=>exact h
 | some p=>exact gT.same s h
def kJ(n:Int)(k:Nat):Bool:=decide (0<=n) && decide (n<k)
def rF(ps:Lp)(de:Dec)(x:Str):Bool:=mj de x || decide ((bp ps x).length=0)
def wa(ps:Lp)(ws:List cq)(de:Dec)(n:Int):Bool:=kJ n ws.length && match ws[n.toNat]? with
 | none=>false
 | some w=>rF ps de w.nm && !jE w (cT de w.nm)
section
variable {P:Program} {w:World} {K:Fg} {mg:Mv} {base:Heap}
def DS:Sp:=fun vs H Q _=>∃(n:Int) (a:Addr) (xs:Lv),vs = [.int n,.ref a]/\H a=some (.lst xs)/\Q (.bl (kJ n xs.length)) H
theorem alW:bh [atR,auA] [atR,auA] (aI vF):=⟨rfl,rfl,rfl,by decide +kernel,rfl,by decide +kernel,by decide +kernel⟩
theorem JD{f:Addr}{fd:Fy}(F:ai K auf auf vF f fd)(B:bX mg):ak P w K mg base ao 1 f fd [atR,auA] DS:=by
 refine F.ok alW (fun vs H Q E h=>?_) (fun aF A outer s H vs Q E hr h=>?_)
 . obtain⟨n,a,xs,rfl,_⟩:=h;rfl
 . refine bo ?_;intro xX dX;obtain⟨n,a,xs,rfl,ha,q⟩:=h;refine⟨_,(aB (aO (jw (bZ xR (by rfl) B.isinstance qE (aa (pv 0) (aa (xz (v:=.ty "int") rfl B.int PyProof.Rows.boot_int rfl) ae))) (jw (Gb (bZ xR (by rfl) B.isinstance qE (aa (pv 0) (aa (xz (v:=.ty "bool") rfl B.bool PyProof.Rows.boot_bool rfl) ae)))) (jP (Yi XX Gp ar (pv 0) (bZ gy (by rfl) B.len hX (aa (pv 1) ae)))))))),?_⟩;refine⟨_,rfl,_,_,_,_,rfl,.int _,rfl,_,rfl,i7 ?_⟩;refine⟨_,rfl,_,_,_,_,rfl,.int _,rfl,_,rfl,_,rfl,i7 ?_⟩;refine⟨_,rfl,_,_,rfl,rfl,_,rfl,?_⟩;unfold kJ at q;refine aJ (fun h=>?_) (fun h=>?_)
   . refine⟨_,rfl,a,_,rfl,.inl (af.of ha),_,_,rfl,rfl,?_⟩;have h:decide (0<=n)=true:=h;rw[h,jq]at q;exact q
   . have h:decide (0<=n)=false:=by simpa using h
     rw[h,iU]at q;exact q
def RB(C S:Addr):Sp:=fun vs H Q _=>∃(sv:V) (d:Addr) (x:Str) (ps:Lp) (de:Dec),vs = [sv,.ref d,.str x]/\fF C S H sv ps/\fE H d de/\∀H',ag H H'->Q (.bl (rF ps de x)) H'
theorem alX:bh [atC,atD,atE] [atC,atD,atE] (aI CO):=⟨rfl,rfl,rfl,by decide +kernel,rfl,by decide +kernel,by decide +kernel⟩
theorem alY{f C S f1 bY f3:Addr}{fd dZ:Fy}(F:ai K auR auR CO f fd)(B:bX mg)(U:ft K mg S f1 bY f3)(cS:ai K at9 "Shelf.makes_of" iJ bY dZ):ak P w K mg base ao 2 f fd [atC,atD,atE] (RB C S):=by
 have zD:ak P w K mg base ao 1 bY dZ [atG,atE] (DC S):=Jr cS B U;have zE:=cS.binds2 (l:=[atG,atE]) (fun _ _ _ _ _ _ _ _=>rfl);refine F.ok alX (fun vs H Q E h=>?_) (fun aF A outer s H vs Q E hr h=>?_)
 . obtain⟨sv,d,x,ps,de,rfl,_⟩:=h;rfl
 . refine bo ?_;intro xX dX;obtain⟨sv,d,x,ps,de,rfl,⟨⟨xs,hS,hP⟩,ok,few⟩,⟨kvs,hd,pr⟩,q⟩:=h;have hu:=hr.units;refine⟨_,(aB (aO (Nd (V6 (NT hu (pv 2) (pv 1)) (by rfl)) (jP (fR eQ (bZ gy (by rfl) B.len hX (aa (kX (pv 0) U.cl U.mM zD hr zE .nil av (aa (pv 2) ae)) ae)) ar (ba _)))))),?_⟩;refine⟨_,rfl,_,rfl,d,_,rfl,cw.k (k:=.inr x) hd,_,rfl,?_⟩;rw[RA pr];unfold rF at q;refine aJ (fun h=>?_) (fun h=>?_)
   . have q:=q H (ag.refl _);rw[h,Mi]at q;exact q
   . rw[Vo]at h;obtain⟨a,dx,fl,dd,kk,rfl,b1,b2,b3,b4,b5,b6⟩:=id hS;refine⟨_,rfl,a,dx,fl,rfl,b1,b5,_,rfl,?_⟩;refine⟨_,x,xs,ps,rfl,hS,ok,fun l ys ks H1 n1 s1 e1 tv pm ad=>?_⟩;refine⟨l,_,rfl,.inl (af.of e1),rfl,?_⟩;have q:=q H1 s1;rw[h,FH]at q;have hl:=aK tv;have hp:=pm.length_eq;have e:decide (V.int (ys.length:Int)=V.int 0)=decide ((bp ps x).length=0):=Bl.mpr ⟨fun z=>by injection z with z;omega,fun z=>by rw[hl,hp,z];rfl⟩;rw[←e]at q;exact q
def DT(C S:Addr):Sp:=fun vs H Q _=>∃(sv:V) (d:Addr) (x:Str) (ps:Lp) (de:Dec),vs = [sv,.ref d,.str x]/\fF C S H sv ps/\fE H d de/\gZ ps de/\∀v H',ag H H'->DR C H' v (g8 ps de x)->Q v H'
theorem alZ:bh [atC,atD,atE] [atC,atD,atE] (aI vI):=⟨rfl,rfl,rfl,by decide +kernel,rfl,by decide +kernel,by decide +kernel⟩
theorem JE{f C S f1 f2 cQ:Addr}{fd il:Fy}(F:ai K at2 at2 vI f fd)(B:bX mg)(U:ft K mg S f1 f2 cQ)(fV:ai K atJ "Shelf.parcel" kG cQ il):ak P w K mg base ao 2 f fd [atC,atD,atE] (DT C S):=by
 have zh:ak P w K mg base ao 1 cQ il [atG,atE,atQ] (Do K S):=II fV U;have zi:=fV.binds3 (l:=[atG,atE,atQ]) (fun _ _ _ _ _ _ _ _ _=>rfl);refine F.ok alZ (fun vs H Q E h=>?_) (fun aF A outer s H vs Q E hr h=>?_)
 . obtain⟨sv,d,x,ps,de,rfl,_⟩:=h;rfl
 . refine bo ?_;intro xX dX;obtain⟨sv,d,x,ps,de,rfl,⟨⟨xs,hS,hP⟩,ok,few⟩,⟨kvs,hd,pr⟩,eJ,q⟩:=h;have hu:=hr.units;refine⟨_,(az (cp (PW.pt (iZ (kU (ge (bZ xR (by rfl) B.isinstance qE (aa (pv 2) (aa (xz (v:=.ty "str") rfl B.str PyProof.Rows.boot_str rfl) ae))))) (m8 (bA kW (pe hu (pv 1) (pv 2) ⟨rfl,rfl,rfl,rfl⟩) eh (ba _)))))
    (aB (aO eh)) cr)
    (aB (aO (kX (pv 0) U.cl U.mP zh hr zi .nil av (aa (pv 2) (aa (BY hu (pv 1) (pv 2) (fun _ _=>rfl)) ae)))))),?_⟩
   refine qW ?_;intro dD sS dM;refine⟨_,rfl,_,_,_,_,rfl,.str _,rfl,_,rfl,ff ?_⟩;refine⟨_,rfl,d,rfl,.inl ⟨_,.inl hd⟩,_,rfl,_,cw.k (k:=.inr x) hd,rfl,_,rfl,?_⟩;have hb:=Rz (x:=x) pr;cases hg:cT de x with
   | none=>
    rw[hg]at hb;have hb:(bP kvs (.inr x)).getD .non = .non:=hb;refine aJ (fun _=>?_) (fun z=>absurd (aE hb) z);exact q _ H (ag.refl _) (by rw[alV hg];rfl)
   | some m=>
    rw[hg]at hb;obtain⟨t,e,ht⟩:=hb;obtain⟨p,hp,hpm,e1,e2⟩:=alU eJ hg;refine aJ (fun z=>?_) (fun _=>?_)
    . have z:(bP kvs (.inr x)).getD .non = .non:=bd z;rw[e]at z;cases z
    . have hv:bP kvs (.inr x)=some (.ref t):=by
       cases hz:bP kvs (.inr x) with
       | none=>rw[hz]at e;cases e
       | some v=>rw[hz]at e;rw[show v = .ref t from e]
      obtain⟨j,hj⟩:=oU hpm;have aD:j<xs.length:=by rw[aK hP];exact(bH.mp hj).1
      have zH:xs[j]? = some xs[j]:=cJ aD;obtain⟨p',cC,hE⟩:=bD hP zH;rw[hj]at cC;cases cC;obtain⟨sa,dx,fl,dd,kk,rfl,b1,b2,b3,b4,b5⟩:=id hS;subst e1 e2;refine⟨_,rfl,sa,dx,fl,rfl,b1,b3,_,rfl,_,rfl,_,rfl,d,_,rfl,(by rw[←hv];exact cw.k (k:=.inr p.nm) hd),?_⟩;refine⟨_,xs[j],t,xs,ps,j,p,rfl,hS,hj,zH,ht,fun H3 s3=>?_⟩;exact q _ H3 s3 (by rw[hp];exact gT.same s3 hE)
def RC(C S:Addr):Sp:=fun vs H Q _=>∃(sv:V) (wl d:Addr) (n:Int) (ps:Lp) (xw:Lv) (ws:List cq) (de:Dec),vs = [sv,.ref wl,.ref d,.int n]/\fF C S H sv ps/\H wl=some (.lst xw)/\Paired (c9 H) xw ws/\fE H d de/\∀H',ag H H'->Q (.bl (wa ps ws de n)) H'
theorem RD:bh [atC,atF,atD,atR,atE] [atC,atF,atD,atR] (aI CP):=⟨rfl,rfl,rfl,by decide +kernel,rfl,by decide +kernel,by decide +kernel⟩
theorem al1{f C S f1 bY f3 lB DU rE cR:Addr}{fd dZ qa JF v7 fu:Fy}(F:ai K aux aux CP f fd)(B:bX mg)(U:ft K mg S f1 bY f3)(cS:ai K at9 "Shelf.makes_of" iJ bY dZ)
 (jG:ai K auf auf vF lB qa) (qb:mg auf = some (.ref lB)) (zI:ai K auR auR CO DU JF) (JG:mg auR = some (.ref DU)) (ot:ai K aun aun yU rE v7) (v9:mg aun = some (.ref rE)) (c4:ai K atL atL j4 cR fu) (dR:mg atL = some (.ref cR)) :
 ak P w K mg base ao 3 f fd [atC,atF,atD,atR] (RC C S):=by
 have zJ:ak P w K mg base ao 2 lB qa [atR,auA] DS:=(JD jG B).mono (by decide);have al2:ak P w K mg base ao 2 DU JF [atC,atD,atE] (RB C S):=alY zI B U cS;have JB:ak P w K mg base ao 2 rE v7 [auI,atQ] Js:=Rk ot c4 dR;have zK:=jG.binds2 (l:=[atR,auA]) (fun _ _ _ _ _ _ _ _=>rfl);have al3:=zI.binds3 (l:=[atC,atD,atE]) (fun _ _ _ _ _ _ _ _ _=>rfl);have JC:=ot.binds2 (l:=[auI,atQ]) (fun _ _ _ _ _ _ _ _=>rfl);refine F.ok RD (fun vs H Q E h=>?_) (fun aF A outer s H vs Q E hr h=>?_)
 . obtain⟨sv,wl,d,n,ps,xw,ws,de,rfl,_⟩:=h;rfl
 . refine bo ?_;intro xX dX;obtain⟨sv,wl,d,n,ps,xw,ws,de,rfl,hS,cY,gm,cg,q⟩:=h;have hu:=hr.units;have zL:=aK gm;refine⟨_,(az (cp (kU (ge (aG zJ hr rfl qb jG.kp zK .nil av (aa (pv 3) (aa (pv 1) ae)))))
    (aB (aO fQ)) cr)
    (az (bi (i:=4) RD.nd rfl (Or.inl rfl) (aQ bO (aQ gO (pv 1) (pv 3) (fun _ _=>rfl)) ar (fun _ _=>rfl)))
    (aB (aO (jw (aG al2 hr rfl JG zI.kp al3 .nil av (aa (pv 0) (aa (pv 2) (aa (pv 4) ae)))) (jP (Gb (aG JB hr rfl v9 ot.kp JC .nil av (aa (aQ gO (pv 1) (pv 3) (fun _ _=>rfl)) (aa (pe hu (pv 2) (pv 4) ⟨rfl,rfl,rfl,rfl⟩) ae)))))))))),?_⟩
   refine lT ?_;intro dD sS eS dM;refine⟨_,rfl,_,rfl,n,wl,xw,rfl,cY,_,rfl,?_⟩;rw[zL];unfold wa at q;cases hp:kJ n ws.length with
   | false=>
    refine i7 ?_;have q:=q H (ag.refl _);rw[hp,iU]at q;exact q
   | true=>
    refine ff ?_;rw[hp]at q;unfold kJ at hp;rw[dn]at hp;have h0:=bd hp.1;have h1:=bd hp.2;obtain⟨v,hv,hvn⟩:=vi (xs:=xw) (r:=n) h0 (by rw[zL];exact h1);obtain⟨wi,gi,hW⟩:=bD gm hvn;rw[gi]at q;obtain⟨t,us,rfl,ht,e1⟩:=hW.nm;refine⟨_,rfl,_,rfl,wl,_,_,_,rfl,rfl,af.of cY,hv,t,_,_,_,rfl,rfl,aw.of ht,dY (j:=1) e1,?_⟩;refine⟨_,rfl,_,rfl,_,rfl,sv,d,wi.nm,ps,de,rfl,hS,cg,fun H2 s2=>⟨_,rfl,?_⟩⟩;refine aJ (fun h=>?_) (fun h=>?_)
    . have al5:=cg.same s2;obtain⟨kvs,hd2,JH⟩:=al5;refine⟨_,rfl,_,rfl,wl,_,_,_,rfl,rfl,af.of (s2 _ _ cY),hv,_,rfl,d,rfl,.inl ⟨_,.inl hd2⟩,_,rfl,_,cw.k (k:=.inr wi.nm) hd2,?_⟩;refine⟨_,_,wi,cT de wi.nm,rfl,hW.same s2,Rz JH,_,rfl,?_⟩;have q:Q (.bl (rF ps de wi.nm && !jE wi (cT de wi.nm))) H2:=q H2 s2;rw[h]at q;exact q
    . rw[Vo]at h;have q:Q (.bl (rF ps de wi.nm && !jE wi (cT de wi.nm))) H2:=q H2 s2;rw[h]at q;exact q
end
def DW(ps:Lp)(x:Str)(m:List Int):Option aS:=ps.find? fun p=>decide (p.nm=x) && decide (p.ms=m)
def wc(ps:Lp)(c:dB)(x:Str):Oi->Bool
 | none=>false
 | some m=>match DW ps x m with
  | none=>false
  | some p=>bB c p
def mn(de:Dec)(p:aS):Bool:=match de.lookup p.nm with
 | none=>true
 | some o=>decide (o=some p.ms)
def rG(ps:Lp)(de:Dec)(c:dB)(x:Str):Bool:=ps.any fun p=>decide (p.nm=x) && (mn de p && bB c p)
theorem DX{ps:Lp}(h:gD ps){p q:aS}(hp:p∈ps)(hq:q∈ps)(e1:p.nm=q.nm)(e2:p.ms=q.ms):p=q:=by
 obtain⟨i,hi⟩:=oU hp;obtain⟨j,hj⟩:=oU hq;have e:eO p=eO q:=by unfold eO;rw[e1,e2]
 have gQ:i=j:=(By (l:=ps.map eO) (by rw[au];exact(bH.mp hi).1) h.nd).mp (by rw[bN,bN,hi,hj,lI,lI,e]);subst gQ;rw[hi]at hj;exact eK hj
theorem RE{ps:Lp}(h:gD ps){p:aS}(hp:p∈ps):DW ps p.nm p.ms=some p:=by
 unfold DW;cases hf:ps.find? fun q=>decide (q.nm=p.nm) && decide (q.ms=p.ms) with
 | none=>
  have:=U2.mp hf p hp;rw[aE rfl,aE rfl]at this;exact absurd rfl this
 | some q=>
  have h1:=U3 hf;rw[dn]at h1;rw[DX h (Vn hf) hp (bd h1.1) (bd h1.2)]
theorem DY{ps:Lp}(h:gD ps){c:dB}{p:aS}(hp:p∈ps):wc ps c p.nm (some p.ms)=bB c p:=by
 show(match DW ps p.nm p.ms with | none=>false | some p=>bB c p)=_;rw[RE h hp]
theorem al6{ps:Lp}(h:gD ps){de:Dec}(eJ:gZ ps de){c:dB}{x:Str}{o:Oi}(e:de.lookup x=some o):[o].any (wc ps c x)=rG ps de c x:=by
 rw[qz,List.any_nil,FE];unfold rG;rw[qy,jp];cases o with
 | none=>
  refine⟨fun z=>absurd (show false=true from z) bV,fun al7=>al7.elim fun p al8=>al8.elim fun hp hz=>?_⟩;rw[dn,dn]at hz;have hx:=bd hz.1;have:=hz.2.1;unfold mn at this;rw[hx,e]at this;exact absurd (bd this) (by intro w;cases w)
 | some m=>
  obtain⟨p,hp,e1,e2⟩:=eJ x m e;subst e1 e2;rw[DY h hp];constructor
  . intro z;refine⟨p,hp,?_⟩;rw[aE rfl,z];unfold mn;rw[e];show(true && (decide (some p.ms=some p.ms) && true))=true;rw[aE rfl];rfl
  . rintro⟨q,hq,hz⟩;rw[dn,dn]at hz;have hx:=bd hz.1;have pd:=hz.2.1;unfold mn at pd;rw[hx,e]at pd;have pd:=eK (bd pd);rw[←DX h hq hp hx pd.symm];exact hz.2.2
theorem al9{ps:Lp}(h:gD ps){de:Dec}{c:dB}{x:Str}{ks:Ll}(e:de.lookup x=none)(pm:ks.Perm (bp ps x)):(ks.map some).any (wc ps c x)=rG ps de c x:=by
 unfold rG;rw[qy,jp,jp];constructor
 . rintro⟨o,ho,hz⟩;obtain⟨m,hm,rfl⟩:=be.mp ho;obtain⟨p,za,rfl⟩:=be.mp (pm.mem_iff.mp hm);have hp:=(cI.mp za).1;have hx:=bd (cI.mp za).2;clear za;subst hx;rw[DY h hp]at hz;refine⟨p,hp,?_⟩;rw[aE rfl,hz];unfold mn;rw[e];rfl
 . rintro⟨p,hp,hz⟩;rw[dn,dn]at hz;have hx:=bd hz.1;subst hx;refine⟨some p.ms,be.mpr ⟨p.ms,pm.mem_iff.mpr (be.mpr ⟨p,cI.mpr ⟨hp,aE rfl⟩,rfl⟩),rfl⟩,?_⟩;rw[DY h hp];exact hz.2.2
theorem ama{ps:Lp}{de:Dec}{c:dB}{ys:Ls}(hN:fz ps ys):ys.any (rG ps de c)=ps.any fun p=>mn de p && bB c p:=by
 rw[qy,jp,jp];constructor
 . rintro⟨y,_,hz⟩;obtain⟨p,hp,hz⟩:=jp.mp hz;rw[dn]at hz;exact⟨p,hp,hz.2⟩
 . rintro⟨p,hp,hz⟩;refine⟨p.nm,(hN.mem _).mpr (be.mpr ⟨p,hp,rfl⟩),jp.mpr ⟨p,hp,?_⟩⟩;rw[aE rfl,hz];rfl
theorem RF{α:Type}(f:α->Bool)(l:List α):(l.map f).any id=l.any f:=by
 rw[List.any_map];rfl
def zM(ps:Lp)(de:Dec)(x:Str)(n:Int):Bool:=match g8 ps de x with
 | none=>false
 | some p=>kJ n p.ns.length && match p.ns[n.toNat]? with
  | none=>false
  | some c=>!ps.any fun q=>mn de q && bB c q
section
variable {P:Program} {w:World} {K:Fg} {mg:Mv} {base:Heap}
def RG(C S:Addr):Sp:=fun vs H Q _=>∃(sv cv:V) (d:Addr) (x:Str) (ps:Lp) (de:Dec) (c:dB),vs = [sv,.ref d,cv,.str x]/\fF C S H sv ps/\fE H d de/\gZ ps de/\dL H cv c/\∀H',ag H H'->Q (.bl (rG ps de c x)) H'
theorem RH:bh [atC,atD,at1,atE,"makes"] [atC,atD,at1,atE] (aI CU):=⟨rfl,rfl,rfl,by decide +kernel,rfl,by decide +kernel,by decide +kernel⟩
theorem amb{f C S f1 bY cQ fX cR:Addr}{fd dZ il jd fu:Fy}(F:ai K au4 au4 CU f fd)(B:bX mg)(T:Txt K mg C)(U:ft K mg S f1 bY cQ)(cS:ai K at9 "Shelf.makes_of" iJ bY dZ)(fV:ai K atJ "Shelf.parcel" kG cQ il)
 (eV:ai K atU atU nX fX jd) (im:mg atU = some (.ref fX)) (c4:ai K atL atL j4 cR fu) (dR:mg atL = some (.ref cR)):ak P w K mg base ao 3 f fd [atC,atD,at1,atE] (RG C S):=by
 have zD:ak P w K mg base ao 2 bY dZ [atG,atE] (DC S):=(Jr cS B U).mono (by decide);have zE:=cS.binds2 (l:=[atG,atE]) (fun _ _ _ _ _ _ _ _=>rfl);have zh:ak P w K mg base ao 2 cQ il [atG,atE,atQ] (Do K S):=(II fV U).mono (by decide);have zi:=fV.binds3 (l:=[atG,atE,atQ]) (fun _ _ _ _ _ _ _ _ _=>rfl);have zk:ak P w K mg base ao 2 fX jd [at1,atJ] (Du C):=IP eV c4 dR T;have zm:=eV.binds2 (l:=[at1,atJ]) (fun _ _ _ _ _ _ _ _=>rfl);refine F.ok RH (fun vs H Q E h=>?_) (fun aF A outer s H vs Q E hr h=>?_)
 . obtain⟨sv,cv,d,x,ps,de,c,rfl,_⟩:=h;rfl
 . refine bo ?_;intro xX dX;obtain⟨sv,cv,d,x,ps,de,c,rfl,bM,cg,eJ,iG,q⟩:=h;have hu:=hr.units;refine⟨_,(afF (bi (i:=4) RH.nd rfl (Or.inl rfl) (WB (Ga (NT hu (pv 3) (pv 1)) (by rfl)) (eA (aa (BY hu (pv 1) (pv 3) (fun _ _=>rfl)) ae)) (kX (pv 0) U.cl U.mM zD hr zE .nil av (aa (pv 3) ae))))
    (aB (aO (bZ (P7 K) (by rfl) B.any ast (aa (dw [atQ] [at1,atC,atE] [2,0,3] ⟨rfl,by decide +kernel,by decide +kernel,by decide +kernel,by decide +kernel,rfl,rfl,rfl⟩ rfl (bJ (pv 4)) (fun _ _ _ _=>(aT (i:=0) (show List.Nodup ([atQ,at1,atC,atE]:Ls) by decide +kernel) rfl (Or.inl rfl))) (fun _ _ _ _=>fh)
     (fun _ _ _ _=>(jw (fR uW (pv 0) eh (ba _)) (jP (aG zk hr rfl im eV.kp zm .nil av (aa (pv 1) (aa (kX (pv 2) U.cl U.mP zh hr zi .nil av (aa (pv 3) (aa (pv 0) ae))) ae))))))) ae))))),?_⟩
   refine⟨fun σ5 H5=>∃(l:Addr) (ys:Lv) (os:List (Oi)),σ5 = [some sv,some (.ref d),some cv,some (.str x),some (.ref l)]/\ag H H5/\H5 l=some (.lst ys)/\Paired (cZ H5) ys os/\os.length<=5/\(∀m,some m∈os->∃p∈ps,p.nm=x/\p.ms=m)/\os.any (wc ps c x)=rG ps de c x,?_,?_⟩
   . obtain⟨kvs,hd,pr⟩:=id cg;refine⟨_,rfl,_,rfl,d,_,rfl,cw.k (k:=.inr x) hd,_,rfl,?_⟩
     rcases DP (x:=x) pr with⟨a1,a2⟩ | ⟨v,o,a1,a2,a3⟩
     . rw[a1];refine aJ (fun z=>absurd z (by decide)) (fun _=>?_);obtain⟨⟨xs,hS,hP⟩,ok,few⟩:=id bM;obtain⟨a,dx,fl,dd,kk,rfl,b1,b2,b3,b4,b5,b6⟩:=id hS;refine⟨_,rfl,a,dx,fl,rfl,b1,b5,_,rfl,?_⟩;refine⟨_,x,xs,ps,rfl,hS,ok,fun l ys ks H1 n1 s1 e1 tv pm ad=>?_⟩;refine⟨l,ys,ks.map some,rfl,s1,e1,zF tv,?_,fun m hm=>?_,al9 ok a2 pm⟩
       . rw[au,pm.length_eq];have:=ok.four x;omega
       . obtain⟨m',zN,e'⟩:=be.mp hm;cases e';obtain⟨p,hp,rfl⟩:=be.mp (pm.mem_iff.mp zN);obtain⟨hp,hx⟩:=cI.mp hp;exact⟨p,hp,bd hx,rfl⟩
     . rw[a1];refine aJ (fun _=>?_) (fun z=>absurd rfl z);refine⟨_,rfl,_,rfl,d,_,rfl,(by rw[←a1];exact cw.k (k:=.inr x) hd),(by show 1<=sizeLine;decide),fun l H1 n1 s1 e1=>?_⟩;refine⟨l,[v],[o],rfl,s1,e1,.cons (a3.same s1) .nil,(by show 1<=5;decide),fun m hm=>?_,al6 bM.ok eJ a2⟩;rw[←cE.mp hm]at a2;exact eJ x m a2
   . intro σ5 H5 hQ5;refine b0 ?_;intro tT5;obtain⟨l,ys,os,rfl,s5,e5,po,ol,hm,amd⟩:=hQ5;have yl:=aK po;refine⟨_,rfl,l,rfl,⟨_,af.of e5⟩,?_⟩;refine yA (σ0:=[none,some cv,some sv,some (.str x)]) (af.of e5) (fun σ=>∃v,σ = [v,some cv,some sv,some (.str x)]) ((os.map (wc ps c x)).map V.bl) (by rw[au,au,yl]) (hJ (bj (by omega))) ⟨_,rfl⟩ ?_ ?_
     . intro i z y σ H2 k hz hy hQ hs hk;obtain⟨v,rfl⟩:=hQ;obtain⟨o,ho,hB⟩:=bD po hz;rw[uN,bN,ho]at hy;cases hy;cases o with
       | none=>
        have hB:z = .non:=hB;subst hB;refine⟨_,rfl,rfl,_,rfl,?_⟩;refine aJ (fun z=>absurd z (by rw[aE rfl];decide)) (fun _=>?_);exact hk _ _ ⟨_,rfl⟩ (ag.refl _)
       | some m=>
        obtain⟨t,rfl,ht⟩:=hB;refine⟨_,rfl,rfl,_,rfl,?_⟩;refine aJ (fun _=>?_) (fun z=>absurd (by rw[aR (by intro w;cases w)];rfl) z);obtain⟨p,hp,e1,e2⟩:=hm m (eN ho);subst e1 e2;have RI:=s5.trans hs;obtain⟨⟨xs,hS,hP⟩,ok,few⟩:=bM.same RI;obtain⟨j,hj⟩:=oU hp;have aD:j<xs.length:=by rw[aK hP];exact(bH.mp hj).1
        have zH:xs[j]? = some xs[j]:=cJ aD;obtain⟨p',cC,hE⟩:=bD hP zH;rw[hj]at cC;cases cC;obtain⟨sa,dx,fl,dd,kk,rfl,b1,b2,b3,b4,b5⟩:=id hS;refine⟨_,rfl,_,rfl,sa,dx,fl,rfl,b1,b3,_,rfl,_,rfl,?_⟩;refine⟨_,xs[j],t,xs,ps,j,p,rfl,hS,hj,zH,hs _ _ ht,fun H3 s3=>?_⟩;refine⟨cv,xs[j],c,p,rfl,iG.same (RI.trans s3),gT.same s3 hE,fun H4 s4=>?_⟩;have e:wc ps c p.nm (some p.ms)=bB c p:=DY bM.ok hp;rw[←e];exact hk _ H4 ⟨_,rfl⟩ (s3.trans s4)
     . intro D H2 hD hd hs;refine⟨D,_,rfl,af.of hd,?_⟩;rw[RF,amd];exact q H2 (s5.trans hs)
def RJ(C S:Addr):Sp:=fun vs H Q _=>∃(sv:V) (d:Addr) (x:Str) (n:Int) (ps:Lp) (de:Dec),vs = [sv,.ref d,.str x,.int n]/\fF C S H sv ps/\fE H d de/\gZ ps de/\∀H',ag H H'->Q (.bl (zM ps de x n)) H'
theorem RK:bh [atC,atD,atE,atR,atJ] [atC,atD,atE,atR] (aI CQ):=⟨rfl,rfl,rfl,by decide +kernel,rfl,by decide +kernel,by decide +kernel⟩
theorem ame{f C S dF bY cQ fX cR lC lB DZ:Addr}{fd gX dZ il jd fu qe qa JI:Fy}(F:ai K auy auy CQ f fd)(B:bX mg)(T:Txt K mg C)(U:ft K mg S dF bY cQ)(fB:ai K auP "Shelf.names" lm dF gX)(cS:ai K at9 "Shelf.makes_of" iJ bY dZ)(fV:ai K atJ "Shelf.parcel" kG cQ il)
 (eV:ai K atU atU nX fX jd) (im:mg atU = some (.ref fX)) (c4:ai K atL atL j4 cR fu) (dR:mg atL = some (.ref cR)) (iQ:ai K at2 at2 vI lC qe) (mo:mg at2 = some (.ref lC)) (jG:ai K auf auf vF lB qa) (qb:mg auf = some (.ref lB)) (zO:ai K au4 au4 CU DZ JI) (JJ:mg au4 = some (.ref DZ)) :
 ak P w K mg base ao 4 f fd [atC,atD,atE,atR] (RJ C S):=by
 have pW:ak P w K mg base ao 3 dF gX [atG] (vT S):=(zB fB B U).mono (by decide);have pX:=fB.binds1 (l:=[atG]) (fun _ _ _ _ _ _ _=>rfl);have zJ:ak P w K mg base ao 3 lB qa [atR,auA] DS:=(JD jG B).mono (by decide);have zK:=jG.binds2 (l:=[atR,auA]) (fun _ _ _ _ _ _ _ _=>rfl);have tZ:ak P w K mg base ao 3 lC qe [atC,atD,atE] (DT C S):=(JE iQ B U fV).mono (by decide);have ua:=iQ.binds3 (l:=[atC,atD,atE]) (fun _ _ _ _ _ _ _ _ _=>rfl);have amf:ak P w K mg base ao 3 DZ JI [atC,atD,at1,atE] (RG C S):=amb zO B T U cS fV eV im c4 dR;have amg:=zO.binds4 (l:=[atC,atD,at1,atE]) (fun _ _ _ _ _ _ _ _ _ _=>rfl);refine F.ok RK (fun vs H Q E h=>?_) (fun aF A outer s H vs Q E hr h=>?_)
 . obtain⟨sv,d,x,n,ps,de,rfl,_⟩:=h;rfl
 . refine bo ?_;intro xX dX;obtain⟨sv,d,x,n,ps,de,rfl,bM,cg,eJ,q⟩:=h;have hu:=hr.units;refine⟨_,(az (bi (i:=4) RK.nd rfl (Or.inr rfl) (aG tZ hr rfl mo iQ.kp ua .nil av (aa (pv 0) (aa (pv 1) (aa (pv 2) ae)))))
    (az (cp (PW.pt (iZ (bA kW (pv 4) eh (ba _)) (m8 (kU (ge (aG zJ hr rfl qb jG.kp zK .nil av (aa (pv 3) (aa (du (pv 4) rfl) ae))))))))
    (aB (aO fQ)) cr)
    (aB (aO (Gb (bZ (P7 K) (by rfl) B.any ast (aa (dw [at7] [atC,atD,atJ,atR] [0,1,4,3] ⟨rfl,by decide +kernel,by decide +kernel,by decide +kernel,by decide +kernel,rfl,rfl,rfl⟩ rfl (bJ (xD (pv 0) U.cl U.mN pW hr pX .nil av)) (fun _ _ _ _=>(aT (i:=0) (show List.Nodup ([at7,atC,atD,atJ,atR]:Ls) by decide +kernel) rfl (Or.inl rfl))) (fun _ _ _ _=>fh)
     (fun _ _ _ _=>(aG amf hr rfl JJ zO.kp amg .nil av (aa (pv 1) (aa (pv 2) (aa (aQ (GX K) (pj K (pv 3) rfl) (pv 4) (fun _ _=>rfl)) (aa (pv 0) ae))))))) ae))))))),?_⟩
   refine lT ?_;intro dD sS eS dM;refine⟨_,rfl,_,rfl,_,rfl,sv,d,x,ps,de,rfl,bM,cg,eJ,fun v H1 s1 hv=>?_⟩;unfold zM at q;refine⟨_,rfl,rfl,_,rfl,?_⟩;cases qg:g8 ps de x with
   | none=>
    rw[qg]at hv q;have hv:v = .non:=hv;subst hv;refine aJ (fun _=>?_) (fun z=>absurd (aE rfl) z);exact q H1 s1
   | some p=>
    rw[qg]at hv q;obtain⟨a,dx,fl,rk,m,pf,pn,pP,po,fx,rfl,hA,hF,hM,h5,h6,h7,h8,⟨cs,gk,ub⟩,RL⟩:=id (show gT C H1 v p from hv);refine aJ (fun z=>absurd z (by rw[aR (by intro w;cases w)];decide)) (fun _=>?_);have zP:=aK ub;refine⟨_,rfl,_,rfl,a,C,dx,_,_,rfl,hA,T.cl,T.nE,hF.needs,n,pn,cs,rfl,gk,_,rfl,?_⟩;rw[zP];cases hp:kJ n p.ns.length with
    | false=>
     refine i7 ?_;have q:=q H1 s1;dsimp only at q;rw[hp,iU]at q;exact q
    | true=>
     refine ff ?_;dsimp only at q;rw[hp]at q;unfold kJ at hp;rw[dn]at hp;have h0:=bd hp.1;have h1:=bd hp.2;obtain⟨cv,uc,ud⟩:=vi (xs:=cs) (r:=n) h0 (by rw[zP];exact h1);obtain⟨c,hc,hC⟩:=bD ub ud;rw[hc]at q;obtain⟨⟨xs,hS,hP⟩,ok,few⟩:=bM.same s1;obtain⟨sa,ue,uf,dd,kk,rfl,b1,b2,b3,b4,b5,b6⟩:=id hS;refine⟨_,rfl,sa,ue,uf,rfl,b1,b4,?_⟩;dsimp only[gN,qA,qC];refine⟨_,xs,ps,rfl,hS,ok.len,fun l ys H2 n2 s2 e2 srt nd mem=>?_⟩;have hN:fz ps ys:=⟨srt,nd,mem⟩;have yl:ys.length<=ps.length:=by
      have:=kC nd fun z hz=>(mem z).mp hz
      rwa [au]at this
     have psl:=ok.len;refine⟨l,rfl,⟨_,af.of e2⟩,?_⟩;refine yA (σ0:=[none,some (.ref sa),some (.ref d),some (.ref a),some (.int n)]) (af.of e2) (fun σ=>∃v,σ = [v,some (.ref sa),some (.ref d),some (.ref a),some (.int n)]) ((ys.map (rG ps de c)).map V.bl) (by rw[au,au,au]) (hJ (bj (by rw[au];omega))) ⟨_,rfl⟩ ?_ ?_
     . intro i z y σ H3 k hz hy hQ hs hk;obtain⟨v,rfl⟩:=hQ;rw[bN]at hz;cases zQ:ys[i]? with
       | none=>rw[zQ]at hz;cases hz
       | some y'=>
        rw[zQ]at hz;cases hz;rw[uN,bN,zQ]at hy;cases hy;have bI:=s2.trans hs;refine⟨_,rfl,_,rfl,_,rfl,a,C,dx,_,_,rfl,bI _ _ hA,T.cl,T.nE,hF.needs,_,rfl,pn,_,_,_,rfl,rfl,af.of (bI _ _ gk),uc,_,rfl,?_⟩;refine⟨.ref sa,cv,d,y',ps,de,c,rfl,bM.same (s1.trans bI),cg.same (s1.trans bI),eJ,hC.same bI,fun H4 s4=>?_⟩;exact hk _ H4 ⟨_,rfl⟩ s4
     . intro D H3 hD hd hs;refine⟨D,_,rfl,af.of hd,_,rfl,?_⟩;rw[RF,ama hN];exact q H3 (s1.trans (s2.trans hs))
end
open HT (At)
def zR(ps:Lp)(de:Dec)(x:Str)(n:Int)(y:Str):Bool:=match g8 ps de x with
 | none=>false
 | some p=>match g8 ps de y with
  | none=>false
  | some o=>!decide (y=x) && (kJ n p.ss.length && match p.ss[n.toNat]? with
   | none=>false
   | some c=>bB c o)
def zS(ps:Lp)(de:Dec)(x y z:Str):Bool:=match g8 ps de x with
 | none=>false
 | some p=>match g8 ps de y with
  | none=>false
  | some o=>dC x y && (decide (z∈bu p) && decide (z∈bu o))
inductive gb where
 | wish (n:Int)
 | need (x:Str) (n:Int)
 | shut (x:Str) (n:Int) (y:Str)
 | clash (x y z:Str)
def zT:Str:=auI
def gb.ats:gb->List At
 | .wish n=>[.inr zT,.inl n]
 | .need x n=>[.inr nV,.inr x,.inl n]
 | .shut x n y=>[.inr li,.inr x,.inl n,.inr y]
 | .clash x y z=>[.inr l8,.inr x,.inr y,.inr z]
def rH(ps:Lp)(ws:List cq)(de:Dec):gb->Bool
 | .wish n=>wa ps ws de n
 | .need x n=>zM ps de x n
 | .shut x n y=>zR ps de x n y
 | .clash x y z=>zS ps de x y z
def kK(H:Hp)(v:V)(r:gb):Prop:=∃t,v = .ref t/\H t=some (.tup (r.ats.map aV))
theorem kK.same{H H':Hp}(s:ag H H'){v:V}{r:gb}(h:kK H v r):kK H' v r:=h.elim fun t amh=>amh.elim fun a b=>⟨t,a,s _ _ b⟩
theorem we:nV≠zT/\li≠zT/\l8≠zT/\li≠nV/\l8≠nV/\l8≠li:=by decide +kernel
theorem wf{a b:Str}(h:a≠b):¬(V.str a=V.str b):=fun z=>h (by injection z)
theorem RM{ps:Lp}{de:Dec}{x:Str}{p:aS}(h:g8 ps de x=some p):p∈ps:=by
 unfold g8 at h;cases hz:cT de x with
 | none=>rw[hz]at h;cases h
 | some m=>rw[hz]at h;exact Vn h
section
variable {P:Program} {w:World} {K:Fg} {mg:Mv} {base:Heap}
def RN(C S:Addr):Sp:=fun vs H Q _=>∃(sv:V) (d:Addr) (x:Str) (n:Int) (y:Str) (ps:Lp) (de:Dec),vs = [sv,.ref d,.str x,.int n,.str y]/\fF C S H sv ps/\fE H d de/\gZ ps de/\∀H',ag H H'->Q (.bl (zR ps de x n y)) H'
theorem JK:bh [atC,atD,atE,atR,at7,atJ,"behind"] [atC,atD,atE,atR,at7] (aI CV):=⟨rfl,rfl,rfl,by decide +kernel,rfl,by decide +kernel,by decide +kernel⟩
theorem ami{f C S f1 f2 cQ fX cR lC lB:Addr}{fd il jd fu qe qa:Fy}(F:ai K auz auz CV f fd)(B:bX mg)(T:Txt K mg C)(U:ft K mg S f1 f2 cQ)(fV:ai K atJ "Shelf.parcel" kG cQ il)
 (eV:ai K atU atU nX fX jd) (im:mg atU = some (.ref fX)) (c4:ai K atL atL j4 cR fu) (dR:mg atL = some (.ref cR)) (iQ:ai K at2 at2 vI lC qe) (mo:mg at2 = some (.ref lC)) (jG:ai K auf auf vF lB qa) (qb:mg auf = some (.ref lB)) :
 ak P w K mg base ao 3 f fd [atC,atD,atE,atR,at7] (RN C S):=by
 have zJ:ak P w K mg base ao 2 lB qa [atR,auA] DS:=(JD jG B).mono (by decide);have zK:=jG.binds2 (l:=[atR,auA]) (fun _ _ _ _ _ _ _ _=>rfl);have tZ:ak P w K mg base ao 2 lC qe [atC,atD,atE] (DT C S):=JE iQ B U fV;have ua:=iQ.binds3 (l:=[atC,atD,atE]) (fun _ _ _ _ _ _ _ _ _=>rfl);have zk:ak P w K mg base ao 2 fX jd [at1,atJ] (Du C):=IP eV c4 dR T;have zm:=eV.binds2 (l:=[at1,atJ]) (fun _ _ _ _ _ _ _ _=>rfl);refine F.ok JK (fun vs H Q E h=>?_) (fun aF A outer s H vs Q E hr h=>?_)
 . obtain⟨sv,d,x,n,y,ps,de,rfl,_⟩:=h;rfl
 . refine bo ?_;intro xX dX;obtain⟨sv,d,x,n,y,ps,de,rfl,bM,cg,eJ,q⟩:=h;refine⟨_,(az (bi (i:=5) JK.nd rfl (Or.inl rfl) (aG tZ hr rfl mo iQ.kp ua .nil av (aa (pv 0) (aa (pv 1) (aa (pv 2) ae)))))
    (az (bi (i:=6) JK.nd rfl (Or.inl rfl) (aG tZ hr rfl mo iQ.kp ua .nil av (aa (pv 0) (aa (pv 1) (aa (pv 4) ae)))))
    (az (cp (PW.pt (iZ (bA kW (pv 5) eh (ba _)) (iZ (bA kW (pv 6) eh (ba _)) (iZ (bA eQ (pv 4) (pv 2) (ba _)) (m8 (kU (ge (aG zJ hr rfl qb jG.kp zK .nil av (aa (pv 3) (aa (du (pv 5) rfl) ae))))))))))
    (aB (aO fQ)) cr)
    (aB (aO (aG zk hr rfl im eV.kp zm .nil av (aa (aQ gO (du (pv 5) rfl) (pv 3) (fun _ _=>rfl)) (aa (pv 6) ae)))))))),?_⟩
   refine pp ?_;intro dD sS kH eS dM;refine⟨_,rfl,_,rfl,_,rfl,sv,d,x,ps,de,rfl,bM,cg,eJ,fun v H1 s1 hv=>?_⟩;refine⟨_,rfl,_,rfl,_,rfl,sv,d,y,ps,de,rfl,bM.same s1,cg.same s1,eJ,fun u H2 s2 hu=>?_⟩;have hv:=hv.same s2;have gn:=s1.trans s2;unfold zR at q;refine⟨_,rfl,rfl,_,rfl,?_⟩;cases qg:g8 ps de x with
   | none=>
    rw[qg]at hv q;have hv:v = .non:=hv;subst hv;refine aJ (fun _=>?_) (fun z=>absurd (aE rfl) z);exact q H2 gn
   | some p=>
    rw[qg]at hv q;obtain⟨a,dx,fl,rk,m,pf,pn,pP,po,fx,rfl,hA,hF,hM,h5,h6,h7,h8,h9,⟨cs,gk,ub⟩⟩:=id (show gT C H2 v p from hv);refine aJ (fun z=>absurd z (by rw[aR (by intro w;cases w)];decide)) (fun _=>?_);refine⟨_,rfl,rfl,_,rfl,?_⟩;dsimp only at q;cases gA:g8 ps de y with
    | none=>
     rw[gA]at hu q;have hu:u = .non:=hu;subst hu;refine aJ (fun _=>?_) (fun z=>absurd (aE rfl) z);exact q H2 gn
    | some o=>
     rw[gA]at hu q;obtain⟨b,hb⟩:∃b,u = .ref b:=by
      obtain⟨b,_,_,_,_,_,_,_,_,_,e,_⟩:=(show gT C H2 u o from hu);exact⟨b,e⟩
     refine aJ (fun z=>absurd z (by rw[hb,aR (by intro w;cases w)];decide)) (fun _=>?_);refine⟨_,rfl,_,rfl,rfl,_,rfl,?_⟩;dsimp only at q;refine aJ (fun z=>?_) (fun z=>?_)
     . have z:=bd z;injection z with z
       have q:=q H2 gn;rw[aE z]at q;exact q
     . have z:¬y=x:=fun e=>z (aE (by rw[e]));rw[aR z]at q;have zP:=aK ub;refine⟨_,rfl,_,rfl,a,C,dx,_,_,rfl,hA,T.cl,T.nS,hF.shuts,n,pP,cs,rfl,gk,_,rfl,?_⟩;rw[zP];cases hp:kJ n p.ss.length with
       | false=>
        refine i7 ?_;have q:=q H2 gn;rw[hp,iU]at q;exact q
       | true=>
        refine ff ?_;rw[hp]at q;unfold kJ at hp;rw[dn]at hp;have h0:=bd hp.1;have h1:=bd hp.2;obtain⟨cv,uc,ud⟩:=vi (xs:=cs) (r:=n) h0 (by rw[zP];exact h1);obtain⟨c,hc,hC⟩:=bD ub ud;rw[hc]at q;refine⟨_,rfl,a,C,dx,_,_,rfl,hA,T.cl,T.nS,hF.shuts,_,rfl,pP,_,_,_,rfl,rfl,af.of gk,uc,_,rfl,?_⟩;refine⟨cv,u,c,o,rfl,hC,hu,fun H3 s3=>?_⟩;exact q H3 (gn.trans s3)
def RO(C S:Addr):Sp:=fun vs H Q _=>∃(sv:V) (d:Addr) (x y z:Str) (ps:Lp) (de:Dec),vs = [sv,.ref d,.str x,.str y,.str z]/\fF C S H sv ps/\fE H d de/\gZ ps de/\∀H',ag H H'->Q (.bl (zS ps de x y z)) H'
theorem JL:bh [atC,atD,atE,at7,aui,atJ,"behind"] [atC,atD,atE,at7,aui] (aI CW):=⟨rfl,rfl,rfl,by decide +kernel,rfl,by decide +kernel,by decide +kernel⟩
theorem amj{f C S f1 f2 cQ lC pT:Addr}{fd il qe tQ:Fy}(F:ai K au5 au5 CW f fd)(B:bX mg)(T:Txt K mg C)(U:ft K mg S f1 f2 cQ)(fV:ai K atJ "Shelf.parcel" kG cQ il)
 (iQ:ai K at2 at2 vI lC qe) (mo:mg at2 = some (.ref lC)) (j6:ai K aue aue vH pT tQ) (og:mg aue = some (.ref pT)) :
 ak P w K mg base ao 3 f fd [atC,atD,atE,at7,aui] (RO C S):=by
 have zr:ak P w K mg base ao 2 pT tQ [atJ] (IW C):=(QT j6 T).mono (by decide);have zu:=j6.binds1 (l:=[atJ]) (fun _ _ _ _ _ _ _=>rfl);have tZ:ak P w K mg base ao 2 lC qe [atC,atD,atE] (DT C S):=JE iQ B U fV;have ua:=iQ.binds3 (l:=[atC,atD,atE]) (fun _ _ _ _ _ _ _ _ _=>rfl);refine F.ok JL (fun vs H Q E h=>?_) (fun aF A outer s H vs Q E hr h=>?_)
 . obtain⟨sv,d,x,y,z,ps,de,rfl,_⟩:=h;rfl
 . refine bo ?_;intro xX dX;obtain⟨sv,d,x,y,z,ps,de,rfl,bM,cg,eJ,q⟩:=h;refine⟨_,(az (bi (i:=5) JL.nd rfl (Or.inl rfl) (aG tZ hr rfl mo iQ.kp ua .nil av (aa (pv 0) (aa (pv 1) (aa (pv 2) ae)))))
    (az (bi (i:=6) JL.nd rfl (Or.inl rfl) (aG tZ hr rfl mo iQ.kp ua .nil av (aa (pv 0) (aa (pv 1) (aa (pv 3) ae)))))
    (az (cp (PW.pt (iZ (bA kW (pv 5) eh (ba _)) (iZ (bA kW (pv 6) eh (ba _)) (m8 (kU (bA XZ (pv 2) (pv 3) (ba _)))))))
    (aB (aO fQ)) cr)
    (aB (aO (jw (fR xK (pv 4) (aG zr hr rfl og j6.kp zu .nil av (aa (pv 5) ae)) (by rfl)) (jP (fR xK (pv 4) (aG zr hr rfl og j6.kp zu .nil av (aa (pv 6) ae)) (by rfl))))))))),?_⟩
   refine pp ?_;intro dD sS kH eS dM;refine⟨_,rfl,_,rfl,_,rfl,sv,d,x,ps,de,rfl,bM,cg,eJ,fun v H1 s1 hv=>?_⟩;refine⟨_,rfl,_,rfl,_,rfl,sv,d,y,ps,de,rfl,bM.same s1,cg.same s1,eJ,fun u H2 s2 hu=>?_⟩;have hv:=hv.same s2;have gn:=s1.trans s2;unfold zS at q;refine⟨_,rfl,rfl,_,rfl,?_⟩;cases qg:g8 ps de x with
   | none=>
    rw[qg]at hv q;have hv:v = .non:=hv;subst hv;refine aJ (fun _=>?_) (fun z=>absurd (aE rfl) z);exact q H2 gn
   | some p=>
    rw[qg]at hv q;have hv:gT C H2 v p:=hv;obtain⟨a,ha⟩:∃b,v = .ref b:=by
     obtain⟨b,_,_,_,_,_,_,_,_,_,e,_⟩:=hv;exact⟨b,e⟩
    refine aJ (fun z=>absurd z (by rw[ha,aR (by intro w;cases w)];decide)) (fun _=>?_);refine⟨_,rfl,rfl,_,rfl,?_⟩;dsimp only at q;cases gA:g8 ps de y with
    | none=>
     rw[gA]at hu q;have hu:u = .non:=hu;subst hu;refine aJ (fun _=>?_) (fun z=>absurd (aE rfl) z);exact q H2 gn
    | some o=>
     rw[gA]at hu q;have hu:gT C H2 u o:=hu;obtain⟨b,hb⟩:∃b,u = .ref b:=by
      obtain⟨b,_,_,_,_,_,_,_,_,_,e,_⟩:=hu;exact⟨b,e⟩
     refine aJ (fun z=>absurd z (by rw[hb,aR (by intro w;cases w)];decide)) (fun _=>?_);refine⟨_,rfl,_,rfl,_,_,rfl,rfl,_,rfl,?_⟩;dsimp only at q;cases aD:dC x y with
     | false=>
      refine aJ (fun _=>?_) (fun z=>absurd (by rw[show decide (x.cps.toList<y.cps.toList)=false from aD];rfl) z);have q:=q H2 gn;rw[aD]at q;exact q
     | true=>
      refine aJ (fun z=>absurd z (by rw[show decide (x.cps.toList<y.cps.toList)=true from aD];decide)) (fun _=>?_);rw[aD,jq]at q;have f1:=(bM.few p (RM qg)).fs;have f2:=(bM.few o (RM gA)).fs;refine⟨_,rfl,_,rfl,v,p,rfl,hv,by omega,fun l1 H3 n3 s3 e3=>?_⟩;refine⟨l1,_,rfl,.inl (af.of e3),rfl,tG _,_,rfl,?_⟩;refine aJ (fun h=>?_) (fun h=>?_)
      . have h1:=tP.mp h;rw[aE h1,jq]at q;refine⟨_,rfl,_,rfl,u,o,rfl,hu.same s3,by omega,fun l2 H4 n4 s4 e4=>?_⟩;refine⟨l2,_,rfl,.inl (af.of e4),rfl,tG _,?_⟩;have e:nr (.str z) ((bu o).map V.str)=decide (z∈bu o):=by
         rw[qy,tP,decide_eq_true_iff]
        have q:=q H4 (gn.trans (s3.trans s4));rw[←e]at q;exact q
      . have h1:¬z∈bu p:=fun m=>h (tP.mpr m);have q:=q H3 (gn.trans s3);rw[aR h1,iU]at q;exact q
theorem amk{n:Nat}{k:Int}(h:(n:Int)≠k):¬(V.int (n:Int)=V.int k):=fun z=>h (by injection z)
theorem aml(r:gb):0<r.ats.length:=by cases r<;>exact xi _
def D1(C S:Addr):Sp:=fun vs H Q _=>∃(sv rv:V) (wl d:Addr) (ps:Lp) (xw:Lv) (ws:List cq) (de:Dec) (r:gb),vs = [sv,.ref wl,.ref d,rv]/\fF C S H sv ps/\H wl=some (.lst xw)/\Paired (c9 H) xw ws/\fE H d de/\gZ ps de/\kK H rv r/\∀H',ag H H'->Q (.bl (rH ps ws de r)) H'
theorem amm:bh [atC,atF,atD,at6] [atC,atF,atD,at6] (aI yV):=⟨rfl,rfl,rfl,by decide +kernel,rfl,by decide +kernel,by decide +kernel⟩
theorem amn{f C S D2 D9 Ea Eb:Addr}{fd JM JN JO JP:Fy}(F:ai K auu auu yV f fd)(B:bX mg)
 (zU:ai K aux aux CP D2 JM) (JQ:mg aux = some (.ref D2)) (amo:ak P w K mg base ao 4 D2 JM [atC,atF,atD,atR] (RC C S))
 (zV:ai K auy auy CQ D9 JN) (JR:mg auy = some (.ref D9)) (amp:ak P w K mg base ao 4 D9 JN [atC,atD,atE,atR] (RJ C S))
 (zW:ai K auz auz CV Ea JO) (JS:mg auz = some (.ref Ea)) (amq:ak P w K mg base ao 4 Ea JO [atC,atD,atE,atR,at7] (RN C S))
 (zX:ai K au5 au5 CW Eb JP) (JT:mg au5 = some (.ref Eb)) (amr:ak P w K mg base ao 4 Eb JP [atC,atD,atE,at7,aui] (RO C S)) :
 ak P w K mg base ao 5 f fd [atC,atF,atD,at6] (D1 C S):=by
 have ams:=zU.binds4 (l:=[atC,atF,atD,atR]) (fun _ _ _ _ _ _ _ _ _ _=>rfl);have amt:=zV.binds4 (l:=[atC,atD,atE,atR]) (fun _ _ _ _ _ _ _ _ _ _=>rfl);have amu:=zW.binds5 (l:=[atC,atD,atE,atR,at7]) (fun _ _ _ _ _ _ _ _ _ _ _=>rfl);have amv:=zX.binds5 (l:=[atC,atD,atE,at7,aui]) (fun _ _ _ _ _ _ _ _ _ _ _=>rfl);refine F.ok amm (fun vs H Q E h=>?_) (fun aF A outer s H vs Q E hr h=>?_)
 . obtain⟨sv,rv,wl,d,ps,xw,ws,de,r,rfl,_⟩:=h;rfl
 . refine bo ?_;intro xX dX;obtain⟨sv,rv,wl,d,ps,xw,ws,de,r,rfl,bM,cY,gm,cg,eJ,⟨t,rfl,ht⟩,q⟩:=h;refine⟨_,(az (cp (PW.pt (iZ (kU (ge (bZ xR (by rfl) B.isinstance qE (aa (pv 3) (aa (xz (v:=.ty "tuple") rfl B.tuple PyProof.Rows.boot_tuple rfl) ae))))) (m8 (bA eQ (bZ gy (by rfl) B.len hX (aa (pv 3) ae)) ar (ba _)))))
    (aB (aO fQ)) cr)
    (az (cp (bA eQ (aQ bO (pv 3) ar (fun _ _=>rfl)) gL (ba _))
    (aB (aO (jw (fR eQ (bZ gy (by rfl) B.len hX (aa (pv 3) ae)) ar (ba _)) (jP (aG amo hr rfl JQ zU.kp ams .nil av (aa (pv 0) (aa (pv 1) (aa (pv 2) (aa (aQ bO (pv 3) ar (fun _ _=>rfl)) ae))))))))) cr)
    (az (cp (bA eQ (aQ bO (pv 3) ar (fun _ _=>rfl)) gL (ba _))
    (aB (aO (jw (fR eQ (bZ gy (by rfl) B.len hX (aa (pv 3) ae)) ar (ba _)) (jP (aG amp hr rfl JR zV.kp amt .nil av (aa (pv 0) (aa (pv 2) (aa (aQ bO (pv 3) ar (fun _ _=>rfl)) (aa (aQ bO (pv 3) ar (fun _ _=>rfl)) ae))))))))) cr)
    (az (cp (bA eQ (aQ bO (pv 3) ar (fun _ _=>rfl)) gL (ba _))
    (aB (aO (jw (fR eQ (bZ gy (by rfl) B.len hX (aa (pv 3) ae)) ar (ba _)) (jP (aG amq hr rfl JS zW.kp amu .nil av (aa (pv 0) (aa (pv 2) (aa (aQ bO (pv 3) ar (fun _ _=>rfl)) (aa (aQ bO (pv 3) ar (fun _ _=>rfl)) (aa (aQ bO (pv 3) ar (fun _ _=>rfl)) ae)))))))))) cr)
    (az (cp (bA eQ (aQ bO (pv 3) ar (fun _ _=>rfl)) gL (ba _))
    (aB (aO (jw (fR eQ (bZ gy (by rfl) B.len hX (aa (pv 3) ae)) ar (ba _)) (jP (aG amr hr rfl JT zX.kp amv .nil av (aa (pv 0) (aa (pv 2) (aa (aQ bO (pv 3) ar (fun _ _=>rfl)) (aa (aQ bO (pv 3) ar (fun _ _=>rfl)) (aa (aQ bO (pv 3) ar (fun _ _=>rfl)) ae)))))))))) cr)
    (aB (aO fQ))))))),?_⟩
   refine afG ?_;intro dD sS uU6 Dk kH eS dM;refine⟨_,rfl,_,_,_,_,rfl,.tup ht,rfl,_,rfl,ff ?_⟩;refine⟨_,rfl,t,_,rfl,.inr (aw.of ht),rfl,_,rfl,?_⟩;refine aJ (fun z=>absurd (bd z) (amk (by rw[au];have:=aml r;omega))) (fun _=>?_);cases r with
   | wish n=>
    refine⟨_,rfl,t,_,_,_,rfl,rfl,aw.of ht,dY (j:=0) rfl,rfl,_,rfl,?_⟩;refine aJ (fun _=>?_) (fun z=>absurd (aE rfl) z);refine⟨_,rfl,t,_,rfl,.inr (aw.of ht),rfl,_,rfl,?_⟩;refine aJ (fun _=>?_) (fun z=>absurd (aE rfl) z);refine⟨_,rfl,_,rfl,_,rfl,_,rfl,t,_,_,_,rfl,rfl,aw.of ht,dY (j:=1) rfl,?_⟩;exact⟨sv,wl,d,n,ps,xw,ws,de,rfl,bM,cY,gm,cg,q⟩
   | need x n=>
    refine⟨_,rfl,t,_,_,_,rfl,rfl,aw.of ht,dY (j:=0) rfl,rfl,_,rfl,?_⟩;refine aJ (fun z=>absurd (bd z) (wf we.1)) (fun _=>?_);refine⟨_,rfl,t,_,_,_,rfl,rfl,aw.of ht,dY (j:=0) rfl,rfl,_,rfl,?_⟩;refine aJ (fun _=>?_) (fun z=>absurd (aE rfl) z);refine⟨_,rfl,t,_,rfl,.inr (aw.of ht),rfl,_,rfl,?_⟩;refine aJ (fun _=>?_) (fun z=>absurd (aE rfl) z);refine⟨_,rfl,_,rfl,_,rfl,t,_,_,_,rfl,rfl,aw.of ht,dY (j:=1) rfl,_,rfl,t,_,_,_,rfl,rfl,aw.of ht,dY (j:=2) rfl,?_⟩;exact⟨sv,d,x,n,ps,de,rfl,bM,cg,eJ,q⟩
   | shut x n y=>
    refine⟨_,rfl,t,_,_,_,rfl,rfl,aw.of ht,dY (j:=0) rfl,rfl,_,rfl,?_⟩;refine aJ (fun z=>absurd (bd z) (wf we.2.1)) (fun _=>?_);refine⟨_,rfl,t,_,_,_,rfl,rfl,aw.of ht,dY (j:=0) rfl,rfl,_,rfl,?_⟩;refine aJ (fun z=>absurd (bd z) (wf we.2.2.2.1)) (fun _=>?_);refine⟨_,rfl,t,_,_,_,rfl,rfl,aw.of ht,dY (j:=0) rfl,rfl,_,rfl,?_⟩;refine aJ (fun _=>?_) (fun z=>absurd (aE rfl) z);refine⟨_,rfl,t,_,rfl,.inr (aw.of ht),rfl,_,rfl,?_⟩;refine aJ (fun _=>?_) (fun z=>absurd (aE rfl) z);refine⟨_,rfl,_,rfl,_,rfl,t,_,_,_,rfl,rfl,aw.of ht,dY (j:=1) rfl,_,rfl,t,_,_,_,rfl,rfl,aw.of ht,dY (j:=2) rfl,_,rfl,t,_,_,_,rfl,rfl,aw.of ht,dY (j:=3) rfl,?_⟩;exact⟨sv,d,x,n,y,ps,de,rfl,bM,cg,eJ,q⟩
   | clash x y z=>
    refine⟨_,rfl,t,_,_,_,rfl,rfl,aw.of ht,dY (j:=0) rfl,rfl,_,rfl,?_⟩;refine aJ (fun z=>absurd (bd z) (wf we.2.2.1)) (fun _=>?_);refine⟨_,rfl,t,_,_,_,rfl,rfl,aw.of ht,dY (j:=0) rfl,rfl,_,rfl,?_⟩;refine aJ (fun z=>absurd (bd z) (wf we.2.2.2.2.1)) (fun _=>?_);refine⟨_,rfl,t,_,_,_,rfl,rfl,aw.of ht,dY (j:=0) rfl,rfl,_,rfl,?_⟩;refine aJ (fun z=>absurd (bd z) (wf we.2.2.2.2.2)) (fun _=>?_);refine⟨_,rfl,t,_,_,_,rfl,rfl,aw.of ht,dY (j:=0) rfl,rfl,_,rfl,?_⟩;refine aJ (fun _=>?_) (fun z=>absurd (aE rfl) z);refine⟨_,rfl,t,_,rfl,.inr (aw.of ht),rfl,_,rfl,?_⟩;refine aJ (fun _=>?_) (fun z=>absurd (aE rfl) z);refine⟨_,rfl,_,rfl,_,rfl,t,_,_,_,rfl,rfl,aw.of ht,dY (j:=1) rfl,_,rfl,t,_,_,_,rfl,rfl,aw.of ht,dY (j:=2) rfl,_,rfl,t,_,_,_,rfl,rfl,aw.of ht,dY (j:=3) rfl,?_⟩;exact⟨sv,d,x,y,z,ps,de,rfl,bM,cg,eJ,q⟩
end
end K42
namespace K42
open PySem L2 PySem.Spec PyProof.Rows
seal PE PS cz PA PT PW PG iB PI gP
theorem amw{ps:Lp}{M:Str->Ll}(h:pY ps M)(nm:Str)(de:Dec):(mf M nm de).length=(bp ps nm).length+1:=by
 unfold mf rC;rw[au,bF,au,(h.pm nm).length_eq]
theorem RP{ps:Lp}{M:Str->Ll}(h:pY ps M)(nm:Str):∀ds:List Dec,(gE M ds nm).length=ds.length * ((bp ps nm).length+1)
 | []=>by simp[gE]
 | d::ds=>by
  have ih:=RP h nm ds;unfold gE at ih ⊢;rw[kS,bc,amw h,ih,bF,MM,Nat.add_comm]
theorem RQ{ps:Lp}{M:Str->Ll}(h:pY ps M):∀(ys:Ls) (ds:List Dec) (n:Int),(ds.length:Int)=n->((ys.foldl (gE M) ds).length:Int)=ys.foldl (gW ps) n
 | [],_,_,e=>e
 | y::ys,ds,n,e=>by
  refine RQ h ys (gE M ds y) (gW ps n y) ?_;rw[RP h];unfold gW;rw[←e,Int.natCast_mul]
theorem amx{ps:Lp}{M:Str->Ll}(h:pY ps M)(ys:Ls):((gY M ys).length:Int)=ys.foldl (gW ps) 1:=RQ h ys [[]] 1 rfl
theorem RR:∀{l:Ll},l.Pairwise (fun a b=>HT.lexLt a b=true)->kB l=true
 | [],_=>rfl
 | [_],_=>rfl
 | x::y::r,h=>by
  obtain⟨h1,h2⟩:=Bz.mp h;show(HT.lexLt x y && kB (y::r))=true;rw[h1 y cD,RR h2];rfl
def wg(x:List Int):Ll->Ll
 | []=>[x]
 | y::r=>if HT.lexLt x y=true then x::y::r else y::wg x r
theorem JU(x:List Int):∀l:Ll,(wg x l).Perm (x::l)
 | []=>.refl _
 | y::r=>by
  unfold wg;split
  . exact .refl _
  . exact((JU x r).cons y).trans (.swap x y r)
theorem RS(x:List Int):∀l:Ll,x∉l->l.Pairwise (fun a b=>HT.lexLt a b=true)->(wg x l).Pairwise (fun a b=>HT.lexLt a b=true)
 | [],_,_=>MX _ _
 | y::r,hn,h=>by
  obtain⟨h1,h2⟩:=Bz.mp h;have BH:x≠y:=fun z=>hn (by rw[z];exact cD);unfold wg;split
  case isTrue hl=>
   refine Bz.mpr ⟨fun z hz=>?_,h⟩
   rcases bw.mp hz with e | hz
   . rw[e];exact hl
   . exact ye _ _ _ hl (h1 z hz)
  case isFalse hl=>
   have lQ:HT.lexLt y x=true:=by
    have:=Ca y x BH.symm;rw[eX.mpr hl]at this;exact this
   refine Bz.mpr ⟨fun z hz=>?_,RS x r (fun z=>hn (cy _ z)) h2⟩
   rcases bw.mp ((JU x r).mem_iff.mp hz) with e | hz
   . rw[e];exact lQ
   . exact h1 z hz
def lD:Ll->Ll
 | []=>[]
 | x::r=>wg x (lD r)
theorem Ec:∀l:Ll,(lD l).Perm l
 | []=>.refl _
 | x::r=>(JU x (lD r)).trans ((Ec r).cons x)
theorem RT:∀l:Ll,l.Nodup->(lD l).Pairwise (fun a b=>HT.lexLt a b=true)
 | [],_=>.nil
 | x::r,h=>by
  obtain⟨h1,h2⟩:=jI.mp h;exact RS x (lD r) (fun z=>h1 ((Ec r).mem_iff.mp z)) (RT r h2)
theorem wk{ps:Lp}(h:gD ps):pY ps fun nm=>lD (bp ps nm):=⟨fun nm=>Ec _,fun nm=>RR (RT _ (Ri h.nd nm))⟩
section
variable {P:Program} {w:World} {K:Fg} {mg:Mv} {base:Heap}
def lE(H:Hp)(v:V)(m:List Int):Prop:=∃t,v = .ref t/\H t=some (.tup (m.map V.int))
theorem lE.same{H H':Hp}(s:ag H H'){v:V}{m:List Int}(h:lE H v m):lE H' v m:=h.elim fun t amy=>amy.elim fun a b=>⟨t,a,s _ _ b⟩
theorem lE.mut{H:Hp}{D:Addr}{zs aY:Lv}(hD:H D=some (.lst zs)){v:V}{m:List Int}(h:lE H v m):lE (aj H D (.lst aY)) v m:=by
 obtain⟨t,a,b⟩:=h;exact⟨t,a,aW b (eP b hD (by intro z;cases z))⟩
def RU(S:Addr):Sp:=fun vs H Q _=>∃(sv:V) (c:Addr) (xs:Lv) (ps:Lp) (ch:Ch),vs = [sv,.ref c]/\ik S H sv xs ps/\ps.length<64/\dE H c ch /\
 ∀l zs ys H',H l=none->ag H H'->fz ps ys->H' l=some (.lst zs)->Paired (lE H') zs (ys.map fun y=>(ch.lookup y).getD [])->Q (.ref l) H'
theorem amz:bh [atC,atM] [atC,atM] (aI C1):=⟨rfl,rfl,rfl,by decide +kernel,rfl,by decide +kernel,by decide +kernel⟩
theorem amA{f S dF bY f3:Addr}{fd gX:Fy}(F:ai K auF auF C1 f fd)(B:bX mg)(U:ft K mg S dF bY f3)(fB:ai K auP "Shelf.names" lm dF gX):ak P w K mg base ao 2 f fd [atC,atM] (RU S):=by
 have pW:ak P w K mg base ao 1 dF gX [atG] (vT S):=zB fB B U;have pX:=fB.binds1 (l:=[atG]) (fun _ _ _ _ _ _ _=>rfl);refine F.ok amz (fun vs H Q E h=>?_) (fun aF A outer s H vs Q E hr h=>?_)
 . obtain⟨sv,c,xs,ps,ch,rfl,_⟩:=h;rfl
 . refine bo ?_;intro xX dX;obtain⟨sv,c,xs,ps,ch,rfl,hS,vU,⟨kvs,hc,pr⟩,q⟩:=h;have hu:=hr.units;refine⟨_,(aB (aO (dw [atE] [atM] [1] ⟨rfl,by decide +kernel,by decide +kernel,by decide +kernel,by decide +kernel,rfl,rfl,rfl⟩ rfl (bJ (xD (pv 0) U.cl U.mN pW hr pX .nil av)) (fun _ _ _ _=>(aT (i:=0) (show List.Nodup ([atE,atM]:Ls) by decide +kernel) rfl (Or.inl rfl))) (fun _ _ _ _=>fh) (fun _ _ _ _=>(NX hu (pv 1) (pv 0) (dz ae) ⟨rfl,rfl,rfl,rfl⟩))))),?_⟩;obtain⟨a,dx,fl,d,as9,rfl,b1,b2,b3,b4,b5,b6⟩:=id hS;refine⟨_,rfl,a,dx,fl,rfl,b1,b4,?_⟩;dsimp only[gN,qA,qC];refine⟨_,xs,ps,rfl,hS,vU,fun l ys H1 n1 s1 e1 srt nd mem=>?_⟩;have yl:ys.length<=ps.length:=by
    have:=kC nd fun z hz=>(mem z).mp hz
    rwa [au]at this
   refine⟨l,rfl,⟨_,af.of e1⟩,?_⟩;refine x9 (σ0:=[none,some (.ref c)]) (af.of e1) (fun σ=>∃v,σ = [v,some (.ref c)]) (fun k aY H8=>Paired (lE H8) aY ((ys.take k).map fun y=>(ch.lookup y).getD [])) ⟨_,rfl⟩ (fun _ _=>.nil) ?_ ?_
   . rintro D k x8 mh σ8 H8 kk hD iP ⟨v8,rfl⟩ f7 h8 hP hk;rw[bN]at iP;cases hy:ys[k]? with
     | none=>rw[hy]at iP;cases iP
     | some y=>
      rw[hy]at iP;cases iP;have aD:=(bH.mp hy).1;have pZ:=aK hP;rw[au,db]at pZ;have c8:=(s1.trans h8) _ _ hc;refine⟨_,rfl,c,rfl,.inl ⟨_,.inl c8⟩,_,rfl,(by show 0<=sizeLine;decide),fun p9 H9 n9 s9 e9=>?_⟩;refine⟨_,cw.k (k:=.inr y) (s9 _ _ c8),?_⟩;have hB:=(mi (x:=y) pr).same ((s1.trans h8).trans s9);have hT:lE H9 ((bP kvs (.inr y)).getD (.ref p9)) ((ch.lookup y).getD []):=by
       cases hv:bP kvs (.inr y) with
       | none=>
        rw[hv]at hB;cases hl:ch.lookup y with
        | none=>exact⟨p9,rfl,e9⟩
        | some m=>
         rw[hl]at hB;obtain⟨t,e,_⟩:=hB;cases e
       | some v=>
        rw[hv]at hB;cases hl:ch.lookup y with
        | none=>
         rw[hl]at hB;have hB:v = .non:=hB;exact absurd hv (by
          subst hB;intro hv;obtain⟨e,he⟩:=(⟨_,GL hv⟩:∃e:aN,e∈kvs.map (·.1));have hm:=GL hv;rw[Di (key:=fun e:Str×List Int=>(Sum.inr e.1:aN)) (fun _ _ (z:cO H _ _)=>z.1) pr]at hm;obtain⟨e',qX,ee⟩:=be.mp hm;injection ee with ee
          subst ee;obtain⟨u,ls,g1,_,_,m,g4,_⟩:=Dp (fun _ _ (z:cO H _ _)=>z.1) pr (be.mpr ⟨e',qX,rfl⟩);rw[hv]at g1;cases g1;cases g4)
        | some m=>
         rw[hl]at hB;exact hB
      have d9:=s9 _ _ f7;refine hk _ _ _ ⟨_,rfl⟩ s9 (bj (by omega)) ?_;rw[gB hy,dU];exact dj (hT.mut d9) (aM hP fun _ _ z=>(z.same s9).mut d9)
   . intro D mh H8 hD f7 h8 hP;rw[au,cj]at hP;exact q D mh ys H8 (s1.free hD) (s1.trans h8) ⟨srt,nd,mem⟩ f7 hP
end
open HT (At)
theorem amB{β:Type}{x y:Str}{ls:β}(tr:List (Str×β)):(tr.map fun f=>if f.1=x then(f.1,ls) else f).lookup y=if y=x then(tr.lookup y).map (fun _=>ls) else tr.lookup y:=by
 induction tr with
 | nil=>simp
 | cons f r ih=>
  rw[b9,iW,iW,ih]
  by_cases h:f.1=x
  . rw[ap h]
    by_cases hy:y=f.1
    . rw[show(y == f.1)=true from iV.mpr hy,ap (hy.trans h),ap (hy.trans h)];rfl
    . rw[show(y == f.1)=false from iw.mpr hy]
  . rw[ah h]
    by_cases hy:y=f.1
    . rw[show(y == f.1)=true from iV.mpr hy,ah (fun z=>h (hy.symm.trans z)),ah (fun z=>h (hy.symm.trans z))]
    . rw[show(y == f.1)=false from iw.mpr hy]
theorem JV{β:Type}{x y:Str}{ls:β}(tr:List (Str×β)):(dk tr x ls).lookup y=if y=x then some ls else tr.lookup y:=by
 have cH:∀(tr:List (Str×β)),(tr.any fun f=>decide (f.1=x))=(tr.lookup x).isSome:=by
  intro tr
  induction tr with
  | nil=>rfl
  | cons f r ih=>
   rw[qz,iW,ih]
   by_cases h:f.1=x
   . rw[aE h,show(x == f.1)=true from iV.mpr h.symm];rfl
   . rw[aR h,show(x == f.1)=false from iw.mpr (eM h)];rfl
 unfold dk;rw[cH];split
 . rename_i hs;rw[amB]
   by_cases hy:y=x
   . subst hy;rw[ap rfl,ap rfl];obtain⟨v,hv⟩:=Bh.mp hs;rw[hv];rfl
   . rw[ah hy,ah hy]
 . rename_i hs;rw[List.lookup_append]
   by_cases hy:y=x
   . subst hy;have:tr.lookup y=none:=by
      cases hz:tr.lookup y with
      | none=>rfl
      | some v=>rw[hz]at hs;exact absurd rfl hs
     rw[this,ap rfl,iW,rZ];rfl
   . rw[ah hy,iW,show(y == x)=false from iw.mpr hy];cases tr.lookup y<;>rfl
def iR(ps:Lp)(x:Str):List (Oi):=none::(lD (bp ps x)).map some
theorem amC{ps:Lp}{x:Str}{m:List Int}(h:some m∈iR ps x):∃p∈ps,p.nm=x/\p.ms=m:=by
 rcases bw.mp h with z | z
 . cases z
 . obtain⟨m',hm,e⟩:=be.mp z;cases e;obtain⟨p,hp,rfl⟩:=be.mp ((Ec _).mem_iff.mp hm);obtain⟨hp,hx⟩:=cI.mp hp;exact⟨p,hp,bd hx,rfl⟩
theorem gZ.put{ps:Lp}{de:Dec}{x:Str}{o:Oi}(h:gZ ps de)(ho:o∈iR ps x):gZ ps (dk de x o):=by
 intro y m hy;rw[JV]at hy
 by_cases e:y=x
 . subst e;rw[ap rfl]at hy;rw[eK hy]at ho;exact amC ho
 . rw[ah e]at hy;exact h y m hy
abbrev eW:=List cq->Dec->Bool
def zY(ps:Lp)(x:Str)(gs:List eW):eW:=fun ws de=>decide (gs.length=(iR ps x).length) && ((iR ps x).zip gs).all fun e=>e.2 ws (dk de x e.1)
def mq(ps:Lp)(Lc:Addr)(H:Hp)(v:V)(g:eW):Prop:=∃(a dx:Addr) (fl:List (Str×V)) (rv:V) (r:gb),v = .ref a/\H a=some (.ins Lc dx fl)/\fl.lookup (at6:Str)=some rv/\fl.lookup (at5:Str)=none/\fl.lookup (avd:Str)=none/\kK H rv r/\g=fun ws de=>rH ps ws de r
def j9(ps:Lp)(Tc:Addr)(F:Hp->V->eW->Prop)(H:Hp)(v:V)(g:eW):Prop:=∃(a dx:Addr) (fl:List (Str×V)) (x:Str) (l:Addr) (ys:Lv) (gs:List eW),v = .ref a/\H a=some (.ins Tc dx fl)/\fl.lookup (atE:Str)=some (.str x)/\fl.lookup (auB:Str)=some (.ref l)/\fl.lookup (at5:Str)=none/\fl.lookup (avd:Str)=none/\H l=some (.lst ys)/\Paired (F H) ys gs/\ys.length<=50/\g=zY ps x gs
def cU(ps:Lp)(Lc Tc:Addr):Nat->Hp->V->eW->Prop
 | 0,_,_,_=>False
 | n+1,H,v,g=>mq ps Lc H v g\/j9 ps Tc (cU ps Lc Tc n) H v g
theorem mq.same{ps:Lp}{Lc:Addr}{H H':Hp}{v:V}{g:eW}(s:ag H H')(h:mq ps Lc H v g):mq ps Lc H' v g:=by
 obtain⟨a,dx,fl,rv,r,e,h1,h2,h3,h4,h5,h6⟩:=h;exact⟨a,dx,fl,rv,r,e,s _ _ h1,h2,h3,h4,h5.same s,h6⟩
theorem j9.same{ps:Lp}{Tc:Addr}{F:Hp->V->eW->Prop}(hF:∀{H H':Hp} {v:V} {g:eW},ag H H'->F H v g->F H' v g){H H':Hp}{v:V}{g:eW}(s:ag H H')(h:j9 ps Tc F H v g):j9 ps Tc F H' v g:=by
 obtain⟨a,dx,fl,x,l,ys,gs,e,h1,h2,h3,h4,h5,h6,h7,h8,h9⟩:=h;exact⟨a,dx,fl,x,l,ys,gs,e,s _ _ h1,h2,h3,h4,h5,s _ _ h6,aM h7 fun _ _=>hF s,h8,h9⟩
theorem cU.same{ps:Lp}{Lc Tc:Addr}{n:Nat}:∀{H H':Hp} {v:V} {g:eW},ag H H'->cU ps Lc Tc n H v g->cU ps Lc Tc n H' v g:=by
 induction n with
 | zero=>intro H H' v g s h;exact(show False from h).elim
 | succ n ih=>
  intro H H' v g s h
  rcases(show mq ps Lc H v g\/j9 ps Tc (cU ps Lc Tc n) H v g from h) with h | h
  . exact .inl (h.same s)
  . exact .inr (j9.same (F:=cU ps Lc Tc n) (fun s h=>ih s h) s h)
structure qh(K:Fg)(mg:Mv)(Lc fW fH:Addr):Prop where
 cl:ic K Lc
 nR:gM K Lc at6
 mW:ni K Lc at5 fW
 mH:ni K Lc avd fH
 mgC:mg "Leaf" = some (.ref Lc)
structure rJ(K:Fg)(mg:Mv)(Tc fW fH:Addr):Prop where
 cl:ic K Tc
 nN:gM K Tc atE
 nP:gM K Tc auB
 mW:ni K Tc at5 fW
 mH:ni K Tc avd fH
 mgC:mg "Split" = some (.ref Tc)
section
variable {P:Program} {w:World} {K:Fg} {mg:Mv} {base:Heap}
def JW:Sp:=fun vs H Q _=>∃(d:Addr) (nm:Str) (cv:V) (de:Dec) (o:Oi),vs = [.ref d,.str nm,cv]/\fE H d de/\cZ H cv o/\de.length<=100/\∀r H',H r=none->ag H H'->fE H' r (dk de nm o)->Q (.ref r) H'
theorem RV{f:Addr}{fd:Fy}(F:ai K atZ atZ pL f fd)(B:bX mg):ak P w K mg base ao 1 f fd [atD,atE,aus] JW:=by
 refine F.ok DJ (fun vs H Q E h=>?_) (fun aF A outer s H vs Q E hr h=>?_)
 . obtain⟨d,nm,cv,de,o,rfl,_⟩:=h;rfl
 . refine bo ?_;intro xX dX;obtain⟨d,nm,cv,de,o,rfl,⟨kvs,hd,pr⟩,hc,hl,q⟩:=h;have hu:=hr.units;refine⟨_,(az (bi (i:=3) DJ.nd rfl (Or.inl rfl) (gh yc (by rfl) B.dict BA (aa (pv 0) ae)))
    (az (vg hu (pv 3) (pv 1) (pv 2) rfl)
    (aB (aO (pv 3))))),?_⟩
   refine lT ?_;intro dD sS eS dM;have pl:=aK pr;refine⟨_,rfl,d,_,rfl,hd,fun p1 H1 n1 s1 e1=>?_⟩;refine⟨_,rfl,_,rfl,_,rfl,p1,_,rfl,kY.k (k:=.inr nm) e1 (bj (by omega)),?_⟩;refine⟨_,rfl,?_⟩;have s2:=j5 (o:=.dK (eu kvs (.inr nm) cv)) n1 s1;refine q p1 _ n1 s2 ⟨_,aP,?_⟩;have hk:∀kv f,lA (aj H1 p1 (.dK (eu kvs (.inr nm) cv))) kv f->kv.1=Sum.inr f.1:=fun kv f z=>z.1;exact QK hk ⟨rfl,hc.same s2⟩ (aM pr fun _ _=>lA.same s2)
def zZ(C S Lc:Addr):Sp:=fun vs H Q _=>∃(v sv:V) (wl d:Addr) (ps:Lp) (xw:Lv) (ws:List cq) (de:Dec) (g:eW),vs = [v,sv,.ref wl,.ref d]/\mq ps Lc H v g/\fF C S H sv ps/\H wl=some (.lst xw)/\Paired (c9 H) xw ws/\fE H d de/\gZ ps de/\∀H',ag H H'->Q (.bl (g ws de)) H'
theorem amD:bh [atG,atC,atF,atD] [atG,atC,atF,atD] (aI pJ):=⟨rfl,rfl,rfl,by decide +kernel,rfl,by decide +kernel,by decide +kernel⟩
theorem amE{f C S Lc fW fH qi:Addr}{fd ug:Fy}(F:ai K at5 "Leaf.holds_where" pJ f fd)(U:qh K mg Lc fW fH)(qj:ai K auu auu yV qi ug)(wn:mg auu = some (.ref qi))(wo:ak P w K mg base ao 5 qi ug [atC,atF,atD,at6] (D1 C S)) :
 ak P w K mg base ao 6 f fd [atG,atC,atF,atD] (zZ C S Lc):=by
 have JX:=qj.binds4 (l:=[atC,atF,atD,at6]) (fun _ _ _ _ _ _ _ _ _ _=>rfl);refine F.ok amD (fun vs H Q E h=>?_) (fun aF A outer s H vs Q E hr h=>?_)
 . obtain⟨v,sv,wl,d,ps,xw,ws,de,g,rfl,_⟩:=h;rfl
 . refine bo ?_;intro xX dX;obtain⟨v,sv,wl,d,ps,xw,ws,de,g,rfl,⟨a,dx,fl,rv,r,rfl,h1,h2,h3,h4,h5,rfl⟩,bM,cY,gm,cg,eJ,q⟩:=h;refine⟨_,(aB (aO (aG wo hr rfl wn qj.kp JX .nil av (aa (pv 1) (aa (pv 2) (aa (pv 3) (aa (du (pv 0) rfl) ae))))))),?_⟩;refine⟨_,rfl,_,rfl,_,rfl,_,rfl,a,Lc,dx,_,_,rfl,h1,U.cl,U.nR,h2,?_⟩;exact⟨sv,rv,wl,d,ps,xw,ws,de,r,rfl,bM,cY,gm,cg,eJ,h5,q⟩
theorem Ed:bh [atG,atC,atF,atD,"cases",aus,aur] [atG,atC,atF,atD] (aI rm):=⟨rfl,rfl,rfl,by decide +kernel,rfl,by decide +kernel,by decide +kernel⟩
end
theorem amF{α:Type}{f:α->Bool}{l:List α}{i:Nat}{x:α}(h:l[i]? = some x):(l.take (i+1)).all f=((l.take i).all f && f x):=by
 rw[gB h,List.all_append,FF,List.all_nil,Bool.and_true]
theorem amG{α:Type}{f:α->Bool}{l:List α}{i:Nat}{x:α}(h:l[i]? = some x)(e:f x=false):l.all f=false:=by
 cases hz:l.all f with
 | false=>rfl
 | true=>
  have:=dW.mp hz x (eN h);rw[e]at this;cases this
theorem zip_get{α β:Type}{xs:List α}{ys:List β}{i:Nat}{x:α}{y:β}(h1:xs[i]? = some x)(h2:ys[i]? = some y):(xs.zip ys)[i]? = some (x,y):=by
 rw[asu];exact⟨h1,h2⟩
section
variable {P:Program} {w:World} {K:Fg} {mg:Mv} {base:Heap}
theorem RW{k L:Nat}(hL:L<=99){fd lF je dZ kI:Fy}{f C S Lc Tc jg mr dF bY cQ fY ir:Addr}{F1:Lp->Hp->V->eW->Prop}{ou:Sp}(k9:6<=k)(F:ai K at5 "Split.holds_where" rm f fd)(B:bX mg)(U:ft K mg S dF bY cQ)(UL:qh K mg Lc jg mr)(UT:rJ K mg Tc f mr)
 (oA:ai K at5 "Leaf.holds_where" pJ jg lF) (qk:ak P w K mg base ao k jg lF [atG,atC,atF,atD] (zZ C S Lc)) (G:ak P w K mg base ao k f fd [atG,atC,atF,atD] ou)
 (cS:ai K at9 "Shelf.makes_of" iJ bY dZ) (eG:ai K at0 at0 pK fY je) (iq:mg at0 = some (.ref fY)) (fZ:ai K atZ atZ pL ir kI) (jf:mg atZ = some (.ref ir))
 (hG:∀(ps:Lp) (H:Hp) (v:V) (g:eW),F1 ps H v g->mq ps Lc H v g\/((∃a dx fl,v = .ref a/\H a=some (.ins Tc dx fl)/\fl.lookup (at5:Str)=none)/\∀(H2:Hp),ag H H2->∀(sv:V) (wl d:Addr) (xw:Lv) (ws:List cq) (de:Dec) (Q:VK) (E:XK),fF C S H2 sv ps->H2 wl=some (.lst xw)->Paired (c9 H2) xw ws->fE H2 d de->gZ ps de->de.length<=L->(∀H',ag H2 H'->Q (.bl (g ws de)) H')->ou [v,sv,.ref wl,.ref d] H2 Q E)) :
 ak P w K mg base ao (k+1) f fd [atG,atC,atF,atD] (fun vs H Q E=>∃(v sv:V) (wl d:Addr) (ps:Lp) (xw:Lv) (ws:List cq) (de:Dec) (g:eW),vs = [v,sv,.ref wl,.ref d]/\j9 ps Tc (F1 ps) H v g/\fF C S H sv ps/\H wl=some (.lst xw)/\Paired (c9 H) xw ws/\fE H d de/\gZ ps de/\de.length<L/\∀H',ag H H'->Q (.bl (g ws de)) H'):=by
 have tU:ak P w K mg base ao k fY je [atC,atE] (zC S):=(DF eG B U cS).mono (by omega);have tV:=eG.binds2 (l:=[atC,atE]) (fun _ _ _ _ _ _ _ _=>rfl);have vY:ak P w K mg base ao k ir kI [atD,atE,aus] JW:=(RV fZ B).mono (by omega);have vZ:=fZ.binds3 (l:=[atD,atE,aus]) (fun _ _ _ _ _ _ _ _ _=>rfl);have JY:=oA.binds4 (l:=[atG,atC,atF,atD]) (fun _ _ _ _ _ _ _ _ _ _=>rfl);have JZ:=F.binds4 (l:=[atG,atC,atF,atD]) (fun _ _ _ _ _ _ _ _ _ _=>rfl);refine F.ok Ed (fun vs H Q E h=>?_) (fun aF A outer s H vs Q E hr h=>?_)
 . obtain⟨v,sv,wl,d,ps,xw,ws,de,g,rfl,_⟩:=h;rfl
 . refine bo ?_;intro xX dX;obtain⟨v,sv,wl,d,ps,xw,ws,de,g,rfl,⟨a,dx,fl,x,l,ys,gs,rfl,h1,h2,h3,h4,h5,h6,h7,h8,rfl⟩,bM,cY,gm,cg,eJ,dl,q⟩:=h;refine⟨_,(az (bi (i:=4) Ed.nd rfl (Or.inl rfl) (aG tU hr rfl iq eG.kp tV .nil av (aa (pv 1) (aa (du (pv 0) rfl) ae))))
    (az (cp (bA Go (bZ gy (by rfl) B.len hX (aa (du (pv 0) rfl) ae)) (bZ gy (by rfl) B.len hX (aa (pv 4) ae)) (ba _)) (aB (aO fQ)) cr)
    (az (gr hZ rfl (aju (by rfl) B.zip (aa (pv 4) (aa (du (pv 0) rfl) ae))) (sk rfl (gf (aT (i:=5) Ed.nd rfl (Or.inl rfl)) (gf (aT (i:=6) Ed.nd rfl (Or.inl rfl)) ng)))
     (aB (cp (kU (ge (PE.or (kX (pv 6) UL.cl UL.mW qk hr JY .nil av (aa (pv 1) (aa (pv 2) (aa (aG vY hr rfl jf fZ.kp vZ .nil av (aa (pv 3) (aa (du (pv 0) rfl) (aa (pv 5) ae)))) ae))))
      (kX (pv 6) UT.cl UT.mW G hr JZ .nil av (aa (pv 1) (aa (pv 2) (aa (aG vY hr rfl jf fZ.kp vZ .nil av (aa (pv 3) (aa (du (pv 0) rfl) (aa (pv 5) ae)))) ae))))))) (aB (aO fQ)) cr)))
    (aB (aO fQ))))),?_⟩
   refine pp ?_;intro dD sS kH eS dM;obtain⟨xs,hS,hP⟩:=bM.sh;refine⟨_,rfl,_,rfl,a,Tc,dx,_,_,rfl,h1,UT.cl,UT.nN,h2,?_⟩;refine⟨sv,x,xs,ps,rfl,hS,bM.ok,fun cl cs ks H1 n1 s1 e1 tv pm ad=>?_⟩;have ek:ks=lD (bp ps x):=(wk bM.ok).is pm ad;subst ek;have pc:Paired (cZ H1) (.non::cs) (iR ps x):=.cons rfl (zF tv);have Aa:=aK pc;have gl:=aK h7;refine⟨_,rfl,a,Tc,dx,_,_,rfl,s1 _ _ h1,UT.cl,UT.nP,h3,l,_,rfl,.inl (af.of (s1 _ _ h6)),_,rfl,cl,_,rfl,.inl (af.of e1),rfl,_,rfl,?_⟩;unfold zY at q
   by_cases el:gs.length=(iR ps x).length
   . refine aJ (fun z=>absurd z (by rw[gl,Aa,el,aE rfl];decide)) (fun _=>?_);rw[aE el,jq]at q;have RX:(V.non::cs).length=ys.length:=by rw[Aa,←el,gl]
     refine⟨_,rfl,_,rfl,a,Tc,dx,_,_,rfl,s1 _ _ h1,UT.cl,UT.nP,h3,cl,l,rfl,⟨_,af.of e1⟩,⟨_,af.of (s1 _ _ h6)⟩,?_⟩;refine ajz (xs:=.non::cs) (ys:=ys) RX (fun i σ H2=>∃u v,σ = [some (.ref a),some sv,some (.ref wl),some (.ref d),some (.ref cl),u,v]/\ag H1 H2/\(((iR ps x).zip gs).take i).all (fun e=>e.2 ws (dk de x e.1))=true) ⟨none,none,rfl,ag.refl _,rfl⟩ ?_ ?_ ?_
     . rintro i σ H2 hi ⟨u,v,rfl,s2,_⟩;exact⟨af.of (s2 _ _ e1),af.of ((s1.trans s2) _ _ h6)⟩
     . intro i y z t σ H2 hy hz hQ ht;refine b0 ?_;intro tT;obtain⟨u,v,rfl,s2,fO⟩:=hQ;have st:ag H2 (aj H2 t (.tup [y,z])):=jV ht;obtain⟨o,ho,hB⟩:=bD pc hy;obtain⟨g,hg,hF⟩:=bD h7 hz;have RY:=zip_get ho hg;have s3:=(s1.trans s2).trans st;have bI:=s2.trans st;refine⟨t,_,rfl,aw.of aP,rfl,_,_,rfl,_,_,rfl,rfl,?_⟩;have om:o∈iR ps x:=eN ho;have RZ:=eJ.put om;have dl2:(dk de x o).length<=L:=bS (QJ de x o) (by omega);have fin:∀H4,ag (aj H2 t (.tup [y,z])) H4->Nc (fun _ _ Q'=>Q' (g ws (dk de x o)) H4) [] H4 (fun c H5=>if c=true then(dX.rt (.bl false) H5) else((fun i σ H2=>∃u v,σ = [some (.ref a),some sv,some (.ref wl),some (.ref d),some (.ref cl),u,v]/\ag H1 H2/\(((iR ps x).zip gs).take i).all (fun e=>e.2 ws (dk de x e.1))=true) (i+1) [some (.ref a),some sv,some (.ref wl),some (.ref d),some (.ref cl),some y,some z] H5)):=by
        intro H4 s4;show if (!g ws (dk de x o))=true then _ else _;cases hv:g ws (dk de x o) with
        | true=>
         refine ff ⟨some y,some z,rfl,bI.trans s4,?_⟩;rw[amF RY,fO,jq];exact hv
        | false=>
         refine i7 ?_;have q:=q H4 (s3.trans s4);rw[amG (f:=fun e:Oi×eW=>e.2 ws (dk de x e.1)) RY hv]at q;exact q
       rcases hG ps H z g hF with hL | ⟨⟨a2,ue,uf,rfl,b1,b2⟩,hT⟩
       . left;obtain⟨a2,ue,uf,rv,r,rfl,b1,b2,b3,b4,b5,b6⟩:=id hL;refine⟨_,rfl,a2,ue,uf,rfl,s3 _ _ b1,b3,_,rfl,_,rfl,_,rfl,_,rfl,a,Tc,dx,_,_,rfl,s3 _ _ h1,UT.cl,UT.nN,h2,_,rfl,?_⟩;refine⟨d,x,y,de,o,rfl,cg.same s3,hB.same bI,by omega,fun rd H4 n4 s4 wp=>?_⟩;refine⟨.ref a2,sv,wl,rd,ps,xw,ws,dk de x o,g,rfl,hL.same (s3.trans s4),bM.same (s3.trans s4),(s3.trans s4) _ _ cY,aM gm fun _ _ z=>z.same (s3.trans s4),wp,RZ,fun H5 s5=>⟨_,rfl,?_⟩⟩;exact fin H5 (s4.trans s5)
       . right;refine⟨_,rfl,a2,ue,uf,rfl,s3 _ _ b1,b2,_,rfl,_,rfl,_,rfl,_,rfl,a,Tc,dx,_,_,rfl,s3 _ _ h1,UT.cl,UT.nN,h2,_,rfl,?_⟩;refine⟨d,x,y,de,o,rfl,cg.same s3,hB.same bI,by omega,fun rd H4 n4 s4 wp=>?_⟩;refine hT H4 (s3.trans s4) sv wl rd xw ws (dk de x o) _ _ (bM.same (s3.trans s4)) ((s3.trans s4) _ _ cY) (aM gm fun _ _ z=>z.same (s3.trans s4)) wp RZ dl2 fun H5 s5=>⟨_,rfl,?_⟩;exact fin H5 (s4.trans s5)
     . rintro σ H2 ⟨u,v,rfl,s2,fO⟩;rw[RX,gl,←Nat.min_self gs.length]at fO;have e:((iR ps x).zip gs).length=min gs.length gs.length:=by rw[List.length_zip,el]
       rw[←e,cj]at fO;have q:=q H2 (s1.trans s2);rw[fO]at q;exact q
   . refine aJ (fun _=>?_) (fun z=>absurd (by rw[gl,Aa];simp;omega) z);have q:=q H1 s1;rw[aR el,iU]at q;exact q
def J0(C S Lc Tc:Addr)(n:Nat):Sp:=fun vs H Q E=>∃(v sv:V) (wl d:Addr) (ps:Lp) (xw:Lv) (ws:List cq) (de:Dec) (g:eW),vs = [v,sv,.ref wl,.ref d]/\j9 ps Tc (cU ps Lc Tc n) H v g/\fF C S H sv ps/\H wl=some (.lst xw)/\Paired (c9 H) xw ws/\fE H d de/\gZ ps de/\de.length+n<90/\∀H',ag H H'->Q (.bl (g ws de)) H'
theorem amI{fd lF je dZ kI:Fy}{f C S Lc Tc jg mr dF bY cQ fY ir:Addr}(F:ai K at5 "Split.holds_where" rm f fd)(B:bX mg)(U:ft K mg S dF bY cQ)(UL:qh K mg Lc jg mr)(UT:rJ K mg Tc f mr)
 (oA:ai K at5 "Leaf.holds_where" pJ jg lF) (qk:ak P w K mg base ao 6 jg lF [atG,atC,atF,atD] (zZ C S Lc))
 (cS:ai K at9 "Shelf.makes_of" iJ bY dZ) (eG:ai K at0 at0 pK fY je) (iq:mg at0 = some (.ref fY)) (fZ:ai K atZ atZ pL ir kI) (jf:mg atZ = some (.ref ir)) (n:Nat) (ata:n<=80) :
 ak P w K mg base ao (7+n) f fd [atG,atC,atF,atD] (J0 C S Lc Tc n):=by
 induction n with
 | zero=>
  have G0:ak P w K mg base ao 6 f fd [atG,atC,atF,atD] (fun _ _ _ _=>False):=⟨fun _ _ _ _ h=>h.elim,fun _ _ _ _ _ _ _ _ _ _ _ _ _ h=>h.elim⟩;refine(RW (L:=90) (k:=6) (F1:=fun ps=>cU ps Lc Tc 0) (by decide) (aH _) F B U UL UT oA qk G0 cS eG iq fZ jf fun ps H v g h=>(show False from h).elim).imp fun vs H Q E h=>?_;obtain⟨v,sv,wl,d,ps,xw,ws,de,g,e,h1,h2,h3,h4,h5,h6,h7,h8⟩:=h;exact⟨v,sv,wl,d,ps,xw,ws,de,g,e,h1,h2,h3,h4,h5,h6,by omega,h8⟩
 | succ n ih=>
  refine(RW (L:=89 - n) (k:=7+n) (F1:=fun ps=>cU ps Lc Tc (n+1)) (by omega) (by omega) F B U UL UT oA (qk.mono (by omega)) (ih (by omega)) cS eG iq fZ jf fun ps H v g h=>?_).imp fun vs H Q E h=>?_
  . rcases(show mq ps Lc H v g\/j9 ps Tc (cU ps Lc Tc n) H v g from h) with h | h
    . exact .inl h
    . refine .inr ⟨?_,fun H2 s2 sv wl d xw ws de Q E a1 a2 a3 a4 a5 a6 a7=>?_⟩
      . obtain⟨a,dx,fl,x,l,ys,gs,e,h1,h2,h3,h4,_⟩:=h;exact⟨a,dx,fl,e,h1,h4⟩
      . exact⟨v,sv,wl,d,ps,xw,ws,de,g,rfl,j9.same (F:=cU ps Lc Tc n) (fun s h=>cU.same s h) s2 h,a1,a2,a3,a4,a5,by omega,a7⟩
  . obtain⟨v,sv,wl,d,ps,xw,ws,de,g,e,h1,h2,h3,h4,h5,h6,h7,h8⟩:=h;exact⟨v,sv,wl,d,ps,xw,ws,de,g,e,h1,h2,h3,h4,h5,h6,by omega,h8⟩
def J2(C S Lc Tc:Addr)(n:Nat):Sp:=fun vs H Q _=>∃(v sv:V) (wl:Addr) (ps:Lp) (xw:Lv) (ws:List cq) (g:eW),vs = [v,sv,.ref wl]/\cU ps Lc Tc (n+1) H v g/\fF C S H sv ps/\H wl=some (.lst xw)/\Paired (c9 H) xw ws/\∀H',ag H H'->Q (.bl (g ws [])) H'
theorem amJ:bh [atG,atC,atF] [atG,atC,atF] (aI iK):=⟨rfl,rfl,rfl,by decide +kernel,rfl,by decide +kernel,by decide +kernel⟩
theorem amK{fd lF wq:Fy}{f C S Lc Tc jg rK:Addr}{n:Nat}(hn:n<90)(F:ai K avd "Paper.holds" iK f fd)(UL:qh K mg Lc jg f)(UT:rJ K mg Tc rK f)
 (oA:ai K at5 "Leaf.holds_where" pJ jg lF) (qk:ak P w K mg base ao (7+n) jg lF [atG,atC,atF,atD] (zZ C S Lc)) (Ee:ai K at5 "Split.holds_where" rm rK wq) (J3:ak P w K mg base ao (7+n) rK wq [atG,atC,atF,atD] (J0 C S Lc Tc n)) :
 ak P w K mg base ao (8+n) f fd [atG,atC,atF] (J2 C S Lc Tc n):=by
 have JY:=oA.binds4 (l:=[atG,atC,atF,atD]) (fun _ _ _ _ _ _ _ _ _ _=>rfl);have JZ:=Ee.binds4 (l:=[atG,atC,atF,atD]) (fun _ _ _ _ _ _ _ _ _ _=>rfl);have e8:8+n=7+n+1:=by omega
 rw[e8];refine F.ok amJ (fun vs H Q E h=>?_) (fun aF A outer s H vs Q E hr h=>?_)
 . obtain⟨v,sv,wl,ps,xw,ws,g,rfl,_⟩:=h;rfl
 . refine bo ?_;intro xX dX;obtain⟨v,sv,wl,ps,xw,ws,g,rfl,hp,bM,cY,gm,q⟩:=h;refine⟨_,(aB (aO (PE.or (kX (pv 0) UL.cl UL.mW qk hr JY .nil av (aa (pv 1) (aa (pv 2) (aa sR ae)))) (kX (pv 0) UT.cl UT.mW J3 hr JZ .nil av (aa (pv 1) (aa (pv 2) (aa sR ae))))))),?_⟩;have d0:gZ ps []:=fun x m h=>nomatch h
   rcases(show mq ps Lc H v g\/j9 ps Tc (cU ps Lc Tc n) H v g from hp) with h | h
   . left;obtain⟨a,dx,fl,rv,r,rfl,b1,b2,b3,b4,b5,b6⟩:=id h;refine⟨_,rfl,a,dx,fl,rfl,b1,b3,_,rfl,_,rfl,fun p1 H1 n1 s1 e1=>?_⟩;exact⟨.ref a,sv,wl,p1,ps,xw,ws,[],g,rfl,h.same s1,bM.same s1,s1 _ _ cY,aM gm fun _ _ z=>z.same s1,⟨[],e1,.nil⟩,d0,fun H' s'=>q H' (s1.trans s')⟩
   . right;obtain⟨a,dx,fl,x,l,ys,gs,rfl,b1,b2,b3,b4,_⟩:=id h;refine⟨_,rfl,a,dx,fl,rfl,b1,b4,_,rfl,_,rfl,fun p1 H1 n1 s1 e1=>?_⟩;exact⟨.ref a,sv,wl,p1,ps,xw,ws,[],g,rfl,j9.same (F:=cU ps Lc Tc n) (fun s h=>cU.same s h) s1 h,bM.same s1,s1 _ _ cY,aM gm fun _ _ z=>z.same s1,⟨[],e1,.nil⟩,d0,by rw[jo];omega,fun H' s'=>q H' (s1.trans s')⟩
end
end K42
namespace K42
open PySem L2 PySem.Spec PyProof.Rows
seal PE PS cz PA PT PW PG iB PI gP
structure Ef(K:Fg)(mg:Mv)(Bc:Addr):Prop where
 cl:ic K Bc
 nC:gM K Bc atM
 mgC:mg "Best" = some (.ref Bc)
section
variable {P:Program} {w:World} {K:Fg} {mg:Mv} {base:Heap}
def R0(Bc:Addr):Sp:=fun vs H Q _=>∃(x dx d:Addr) (kvs:List (aN×V)),vs = [.ref x,.ref d]/\H x=some (.ins Bc dx [])/\H d=some (.dK kvs) /\
 ∀d' H',H d'=none->(∀b o,H b=some o->b≠x->H' b=some o)->H' x=some (.ins Bc dx (aA atM (.ref d') []))->H' d'=some (.dK kvs)->Q .non H'
theorem amL:bh [atG,atM] [atG,atM] (aI tq):=⟨rfl,rfl,rfl,by decide +kernel,rfl,by decide +kernel,by decide +kernel⟩
theorem amM{f Bc:Addr}{fd:Fy}(F:ai K "__init__" "Best.__init__" tq f fd)(B:bX mg)(T:Ef K mg Bc):ak P w K mg base ao 1 f fd [atG,atM] (R0 Bc):=by
 refine F.ok amL (fun vs H Q E h=>?_) (fun aF A outer s H vs Q E hr h=>?_)
 . obtain⟨x,dx,d,kvs,rfl,_⟩:=h;rfl
 . refine bo ?_;intro xX dX;obtain⟨x,dx,d,kvs,rfl,hx,hd,q⟩:=h;refine⟨_,(aB (ky (pv 0) (gh yc (by rfl) B.dict BA (aa (pv 1) ae)) rfl)),?_⟩;refine⟨_,rfl,d,_,rfl,hd,fun p1 H1 n1 s1 e1=>?_⟩;have Eg:p1≠x:=(bg hx n1).symm;refine⟨_,rfl,x,Bc,dx,_,rfl,s1 _ _ hx,T.cl,T.nC,(by decide),?_⟩;exact q p1 _ n1 (fun b o e hb=>aW (s1 _ _ e) hb) aP (aW e1 Eg)
end
open HT (At)
section
variable {P:Program} {w:World} {K:Fg} {mg:Mv} {base:Heap}
def R1(Lc:Addr):Sp:=fun vs H Q _=>∃(x dx:Addr) (rv:V),vs = [.ref x,rv]/\H x=some (.ins Lc dx [])/\Q .non (aj H x (.ins Lc dx (aA at6 rv [])))
theorem amN:bh [atG,at6] [atG,at6] (aI ri):=⟨rfl,rfl,rfl,by decide +kernel,rfl,by decide +kernel,by decide +kernel⟩
theorem amO{f Lc fW fH:Addr}{fd:Fy}(F:ai K "__init__" "Leaf.__init__" ri f fd)(T:qh K mg Lc fW fH):ak P w K mg base ao 1 f fd [atG,at6] (R1 Lc):=by
 refine F.ok amN (fun vs H Q E h=>?_) (fun aF A outer s H vs Q E hr h=>?_)
 . obtain⟨x,dx,rv,rfl,_⟩:=h;rfl
 . refine bo ?_;intro xX dX;obtain⟨x,dx,rv,rfl,hx,q⟩:=h;refine⟨_,(aB (ky (pv 0) (pv 1) rfl)),?_⟩;exact⟨_,rfl,_,rfl,x,Lc,dx,_,rfl,hx,T.cl,T.nR,(by decide),q⟩
def R3(Tc:Addr):Sp:=fun vs H Q _=>∃(x dx l:Addr) (nm:Str) (ys:Lv),vs = [.ref x,.str nm,.ref l]/\H x=some (.ins Tc dx [])/\H l=some (.lst ys) /\
 ∀l' H',H l'=none->(∀b o,H b=some o->b≠x->H' b=some o)->H' x=some (.ins Tc dx (aA auB (.ref l') (aA atE (.str nm) [])))->H' l'=some (.lst ys)->Q .non H'
theorem amP:bh [atG,atE,auB] [atG,atE,auB] (aI rj):=⟨rfl,rfl,rfl,by decide +kernel,rfl,by decide +kernel,by decide +kernel⟩
theorem amQ{f Tc fW fH:Addr}{fd:Fy}(F:ai K "__init__" "Split.__init__" rj f fd)(B:bX mg)(T:rJ K mg Tc fW fH):ak P w K mg base ao 1 f fd [atG,atE,auB] (R3 Tc):=by
 refine F.ok amP (fun vs H Q E h=>?_) (fun aF A outer s H vs Q E hr h=>?_)
 . obtain⟨x,dx,l,nm,ys,rfl,_⟩:=h;rfl
 . refine bo ?_;intro xX dX;obtain⟨x,dx,l,nm,ys,rfl,hx,hl,q⟩:=h;refine⟨_,(az (ky (pv 0) (pv 1) rfl) (aB (ky (pv 0) (gh sL (by rfl) B.list oS (aa (pv 2) ae)) rfl))),?_⟩;refine qW ?_;intro dD sS dM;refine⟨_,rfl,_,rfl,x,Tc,dx,_,rfl,hx,T.cl,T.nN,(by decide),?_⟩;have Eh:l≠x:=eP hl hx (by intro z;cases z);refine⟨_,rfl,l,_,rfl,.inl (af.of (aW hl Eh)),fun p1 H1 n1 s1 e1=>?_⟩;have Eg:p1≠x:=fun z=>by rw[z,aP]at n1;cases n1
   have n1':H p1=none:=by rw[aL Eg]at n1;exact n1
   refine⟨_,rfl,x,Tc,dx,_,rfl,s1 _ _ aP,T.cl,T.nP,(show(1:Nat)<1000 by decide),?_⟩;exact q p1 _ n1' (fun b o e hb=>aW (s1 _ _ (aW e hb)) hb) aP (aW e1 Eg)
theorem amS{a:List At}(h:Kd a):∃r:gb,r.ats=a:=by
 cases h with
 | need n i=>exact⟨.need n i,rfl⟩
 | shut n i o=>exact⟨.shut n i o,rfl⟩
 | clash n o x=>exact⟨.clash n o x,rfl⟩
theorem amT{ps:Lp}{ch:Ch}{ks:List (List At)}(h:Told ps ch ks):∀k∈ks,∃r:gb,r.ats=k:=by
 obtain⟨⟨qs,_,_,hp⟩,_⟩:=h;exact fun k hk=>amS (Cz (hp.mem_iff.mp hk))
theorem R4{H:Hp}:∀{ys:Lv} {ks:List (List At)},nI H ys ks->(∀k∈ks,∃r:gb,r.ats=k)->∃rs:List gb,Paired (kK H) ys rs/\rs.map gb.ats=ks
 | _,_,.nil,_=>⟨[],.nil,rfl⟩
 | _,_,.cons (b:=k) ⟨t,e,h,_⟩ r,hk=>by
  obtain⟨rs,p,e2⟩:=R4 r fun z hz=>hk z (cy _ hz);obtain⟨x,hx⟩:=hk k cD;exact⟨x::rs,.cons ⟨t,e,by rw[hx];exact h⟩ p,by rw[b9,e2,hx]⟩
theorem kK.mut{H:Hp}{D:Addr}{zs aY:Lv}(hD:H D=some (.lst zs)){v:V}{r:gb}(h:kK H v r):kK (aj H D (.lst aY)) v r:=by
 obtain⟨t,a,b⟩:=h;exact⟨t,a,aW b (eP b hD (by intro z;cases z))⟩
theorem amU{r r':gb}(h:r.ats=r'.ats):r=r':=by
 cases r<;>cases r'<;>simp_all [gb.ats]
theorem J4{α β:Type}{f:Nat->α->List β}{B:Nat}(h:∀i x,(f i x).length<=B):∀(l:List α) (n:Nat),(dQ f l n).length<=l.length * B
 | [],_=>dO _
 | x::r,n=>by
  have h1:=h n x;have h2:=J4 h r (n+1);show(f n x++dQ f r (n+1)).length<=(x::r).length * B;rw[bc,bF,Nat.add_mul,Nat.one_mul];omega
theorem Ka{α β:Type}{f:α->List β}{B:Nat}:∀(l:List α),(∀x∈l,(f x).length<=B)->(l.flatMap f).length<=l.length * B
 | [],_=>dO _
 | x::r,h=>by
  have h1:=h x cD;have h2:=Ka r fun y hy=>h y (cy _ hy);rw[kS,bc,bF,Nat.add_mul,Nat.one_mul];omega
theorem amV{qs:Lp}{p:aS}(hf:lj p)(h4:qs.length<=4):(fo qs p).length<=22:=by
 have n1:=hf.ns;have n2:=hf.ss;have n3:=hf.fs;have a:(nW p qs).length<=p.ns.length * 1:=J4 (fun i c=>by unfold jA;split<;>simp) _ _;have b:(pH p qs).length<=p.ss.length * 4:=J4 (fun i c=>by
  unfold rf jB;rw[au];exact bS (gK _ _) (bS (gK _ _) h4)) _ _
 have c:(rg p qs).length<=(qs.filter fun o=>dC p.nm o.nm).length * 3:=Ka _ fun o _=>by
  unfold kE vE bu;rw[au];refine bS (gK _ _) ?_;rw[au];exact n3
 have d:=gK (fun o:aS=>dC p.nm o.nm) qs;unfold fo;rw[bc,bc];omega
theorem amW{ps:Lp}{ch:Ch}{ks:List (List At)}(h:Told ps ch ks)(hf:∀p∈ps,lj p)(h4:ch.length<=4):ks.length<=200:=by
 obtain⟨⟨qs,h1,h2,h3⟩,_⟩:=h;have q4:qs.length<=4:=by
  have:=h2.length_eq;rw[au,au]at this;omega
 have:=Ka (f:=fo qs) (B:=22) qs fun q hq=>amV (hf q (h1 q hq).1) q4;rw[h3.length_eq];unfold kF;omega
def Ei(C S:Addr):Sp:=fun vs H Q _=>∃(sv:V) (wl d:Addr) (ps:Lp) (xw:Lv) (ws:List cq) (de:Dec),vs = [sv,.ref wl,.ref d]/\fF C S H sv ps/\H wl=some (.lst xw)/\Paired (c9 H) xw ws/\ws.length<=100/\fE H d de/\gZ ps de/\(de.map (·.1)).Nodup/\de.length<=4 /\
 (∀v r H',ag H H'->kK H' v r->rH ps ws de r=true->Q v H')/\∀ks H',ag H H'->Told ps (bR de) ks->(∀n:Nat,n<ws.length->wa ps ws de n=false)->(∀r:gb,r.ats∈ks->rH ps ws de r=false)->Q .non H'
theorem Kb:bh [atC,atF,atD,"reasons",at6] [atC,atF,atD] (aI yY):=⟨rfl,rfl,rfl,by decide +kernel,rfl,by decide +kernel,by decide +kernel⟩
theorem Ab{de:Dec}(nd:(de.map (·.1)).Nodup){e:Str×List Int}(h:e∈bR de):de.lookup e.1=some (some e.2):=by
 induction de with
 | nil=>cases h
 | cons f r ih=>
  rw[b9,jI]at nd;unfold bR at h;rw[xa]at h;have tail:e∈bR r->(f::r).lookup e.1=some (some e.2):=fun hr=>by
   have hk:=DI (be.mpr ⟨e,hr,rfl⟩);rw[iW,show(e.1 == f.1)=false from iw.mpr fun z=>nd.1 (z▸hk)];exact ih nd.2 hr
  cases hz:f.2 with
  | none=>rw[hz]at h;exact tail h
  | some m=>
   rw[hz]at h
   rcases bw.mp (show e∈(f.1,m)::bR r from h) with z | z
   . subst z;rw[iW,rZ,hz]
   . exact tail z
theorem Ej{de:Dec}(h:(de.map (·.1)).Nodup):((bR de).map (·.1)).Nodup:=by
 induction de with
 | nil=>exact uI
 | cons d r ih=>
  rw[b9,jI]at h;unfold bR;rw[xa];cases hz:d.2 with
  | none=>exact ih h.2
  | some m=>
   show((d.1,m)::bR r).map (·.1) |>.Nodup
   rw[b9,jI];exact⟨fun z=>h.1 (DI z),ih h.2⟩
theorem amX{f C S qi pV rD:Addr}{fd ug tS vW:Fy}(F:ai K auo auo yY f fd)(B:bX mg)(qj:ai K auu auu yV qi ug)(wn:mg auu = some (.ref qi))(wo:ak P w K mg base ao 5 qi ug [atC,atF,atD,at6] (D1 C S))
 (oj:ai K aut aut yT pV tS) (vS:mg aut = some (.ref pV)) (zA:ak P w K mg base ao 5 pV tS [atC,atM] (DA C S)) (oq:ai K aug aug yW rD vW) (vX:mg aug = some (.ref rD)) :
 ak P w K mg base ao 6 f fd [atC,atF,atD] (Ei C S):=by
 have Jw:ak P w K mg base ao 5 rD vW [atD] Ju:=(Ro oq).mono (by decide);have Jx:=oq.binds1 (l:=[atD]) (fun _ _ _ _ _ _ _=>rfl);have Jo:=oj.binds2 (l:=[atC,atM]) (fun _ _ _ _ _ _ _ _=>rfl);have JX:=qj.binds4 (l:=[atC,atF,atD,at6]) (fun _ _ _ _ _ _ _ _ _ _=>rfl);refine F.ok Kb (fun vs H Q E h=>?_) (fun aF A outer s H vs Q E hr h=>?_)
 . obtain⟨sv,wl,d,ps,xw,ws,de,rfl,_⟩:=h;rfl
 . refine bo ?_;intro xX dX;obtain⟨sv,wl,d,ps,xw,ws,de,rfl,bM,cY,gm,tY,cg,eJ,Kc,d4,q1,q2⟩:=h;have zL:=aK gm;refine⟨_,(az (ny (i:=3) [atR] [] [] Kb.nd rfl rfl ⟨rfl,by decide +kernel,by decide +kernel,by decide +kernel,by decide +kernel,rfl,rfl,rfl⟩ rfl (o0 rfl B.range (aa (bZ gy (by rfl) B.len hX (aa (pv 1) ae)) ae)) (fun _ _ _ _=>(aT (i:=0) (show List.Nodup ([atR]:Ls) by decide +kernel) rfl (Or.inl rfl))) (fun _ _ _ _=>fh) (fun _ _ _ _=>(dz (aa gL (aa (pv 0) ae)))))
    (az (m9 (nt qD xq xr sH (pv 3) (aa (aG zA hr rfl vS oj.kp Jo .nil av (aa (pv 0) (aa (aG Jw hr rfl vX oq.kp Jx .nil av (aa (pv 2) ae)) ae))) ae)))
    (az (gr hZ rfl (bJ (pv 3)) (aT (i:=4) Kb.nd rfl (Or.inl rfl))
     (aB (cp (ge (aG wo hr rfl wn qj.kp JX .nil av (aa (pv 0) (aa (pv 1) (aa (pv 2) (aa (pv 4) ae)))))) (aB (aO (pv 4))) cr)))
    (aB (aO eh))))),?_⟩
   refine pp ?_;intro dD sS kH eS dM;refine⟨_,rfl,wl,_,rfl,.inl (af.of cY),(xw.length:Int),rfl,by omega,by omega,?_⟩;refine vj (σ0:=[none]) (fun σ=>∃v,σ = [v]) (fun i ys H3=>Paired (kK H3) ys ((List.range i).map fun n:Nat=>gb.wish n)) ⟨_,rfl⟩ (fun _ _=>.nil) ?_ ?_
   . intro D i ys σ H3 k hD hi pO hd hs ro dA;refine b0 ?_;intro tT;obtain⟨v,rfl⟩:=pO;have yl:=aK ro;rw[au,mY]at yl;refine⟨_,rfl,(by show 2<=sizeLine;decide),fun p4 H4 n4 s4 e4=>?_⟩;have R5:=s4 _ _ hd;refine dA _ _ _ ⟨_,rfl⟩ s4 (bj (by omega)) ?_;rw[MI,dU];refine dj (kK.mut R5 ⟨p4,rfl,?_⟩) (aM ro fun _ _ z=>(z.same s4).mut R5);rw[e4];show some (HO.tup [.str auI,.int (0+(i:Int))])=some (HO.tup [.str zT,.int (i:Int)]);rw[Int.zero_add];rfl
   intro D ys H3 nD eD s3 rp;refine b0 ?_;intro tT3;have yl:=aK rp;rw[au,mY]at yl;refine⟨_,rfl,.inl ⟨rfl,_,af.of eD⟩,_,rfl,_,rfl,?_⟩;refine⟨d,de,rfl,cg.same s3,Kc,by omega,fun r4 H4 n4 s4 hc4=>?_⟩;obtain⟨⟨xs,hS,hP⟩,ok,few⟩:=bM.same (s3.trans s4);have amZ:Dz C S H4 sv r4 ps (bR de):=by
    refine⟨⟨xs,hS,hP,fun e he=>?_⟩,hc4,Ej Kc,bS (Jt de) d4,few⟩;obtain⟨p,hp,e1,e2⟩:=eJ e.1 e.2 (Ab Kc he);obtain⟨j,hj⟩:=oU hp;have aD:j<xs.length:=by rw[aK hP];exact(bH.mp hj).1
    exact⟨xs[j],p,⟨j,hj,cJ aD⟩,e1,e2⟩
   refine⟨sv,r4,ps,bR de,rfl,amZ,fun D5 H5 pU ks n5 s5 e5 pi wt=>?_⟩;obtain⟨rs,R6,R7⟩:=R4 pi (amT wt);have wu:=s4.trans s5;have Kf:=wu _ _ eD;have kl:ks.length<=200:=amW wt few (bS (Jt de) d4);have rl:=aK R6;have rl2:=fL List.length R7;rw[au]at rl2;refine⟨D,D5,_,_,rfl,rfl,Kf,e5,hJ (bj (by omega)),?_⟩;have sD:ag H (aj H5 D (.lst (ys++pU))):=j5 nD (s3.trans wu);have R8:Paired (kK (aj H5 D (.lst (ys++pU)))) (ys++pU) (((List.range xw.length).map fun n:Nat=>gb.wish n)++rs):=
    rA (aM rp fun _ _ z=>(z.same wu).mut Kf) (aM R6 fun _ _ z=>z.mut Kf)
   have al:=aK R8;refine⟨_,rfl,D,rfl,⟨_,af.of aP⟩,?_⟩;refine jQ (xs:=ys++pU) (fun i σ H6=>∃u,σ = [some sv,some (.ref wl),some (.ref d),some (.ref D),u]/\ag (aj H5 D (.lst (ys++pU))) H6/\∀r∈((((List.range xw.length).map fun n:Nat=>gb.wish n)++rs).take i),rH ps ws de r=false) ⟨none,rfl,ag.refl _,fun _ h=>nomatch h⟩ ?_ ?_ ?_
   . rintro i σ H6 hi ⟨u,rfl,s6,_⟩;exact af.of (s6 _ _ aP)
   . intro i z σ H6 hz hQ;refine b0 ?_;intro tT6;obtain⟨u,rfl,s6,vw⟩:=hQ;obtain⟨r,nJ,hR⟩:=bD R8 hz;have cV:=sD.trans s6;refine⟨_,rfl,_,rfl,_,rfl,_,rfl,sv,z,wl,d,ps,xw,ws,de,r,rfl,bM.same cV,cV _ _ cY,aM gm fun _ _ z=>z.same cV,cg.same cV,eJ,hR.same s6,fun H7 s7=>⟨_,rfl,?_⟩⟩;refine aJ (fun hb=>?_) (fun hb=>?_)
     . exact⟨_,rfl,q1 z r H7 (cV.trans s7) (hR.same (s6.trans s7)) hb⟩
     . rw[Vo]at hb;refine⟨_,rfl,s6.trans s7,fun r' iO=>?_⟩;rw[gB nJ]at iO
       rcases eg.mp iO with m | m
       . exact vw r' m
       . rw[cE.mp m];exact hb
   . rintro σ H6 ⟨u,rfl,s6,vw⟩;rw[al,cj]at vw;refine q2 ks H6 (sD.trans s6) wt (fun n hn=>?_) fun r nJ=>?_
     . exact vw (.wish n) (Ux _ (be.mpr ⟨n,g9.mpr (by omega),rfl⟩))
     . rw[←R7]at nJ;obtain⟨r2,iO,e2⟩:=be.mp nJ;have:r2=r:=amU e2;rw[←this];exact vw r2 (iy _ iO)
end
end K42
namespace K42
open PySem L2 PySem.Spec PyProof.Rows
open HT (At)
theorem R9{de:Dec}{x:Str}{m:List Int}(h:de.lookup x=some (some m)):(x,m)∈bR de:=by
 induction de with
 | nil=>cases h
 | cons f r ih=>
  unfold bR;rw[xa];rw[iW]at h
  by_cases e:x=f.1
  . rw[show(x == f.1)=true from iV.mpr e]at h;have h:some f.2=some (some m):=h;rw[eK h,e];exact cD
  . rw[show(x == f.1)=false from iw.mpr e]at h;have hr:=ih h;cases f.2 with
    | none=>exact hr
    | some m'=>exact cy _ hr
structure Ac(ps:Lp)(de:Dec):Prop where
 nd:(de.map (·.1)).Nodup
 all:∀q∈ps,mj de q.nm=true
 ok:gZ ps de
structure Kg(ps:Lp)(de:Dec)(qs:Lp):Prop where
 inn:∀q∈qs,q∈ps/\(q.nm,q.ms)∈bR de
 nms:(qs.map (·.nm)).Perm ((bR de).map (·.1))
theorem Kh{ps:Lp}{de:Dec}{qs:Lp}(bf:gD ps)(nd:(de.map (·.1)).Nodup)(h:Kg ps de qs){q:aS}(hq:q∈qs):g8 ps de q.nm=some q:=by
 have e:cT de q.nm=some q.ms:=by
  unfold cT;rw[Ab nd (h.inn q hq).2];rfl
 unfold g8;rw[e];exact RE bf (h.inn q hq).1
theorem am1{ps:Lp}{de:Dec}{qs:Lp}(bf:gD ps)(f:Ac ps de)(h:Kg ps de qs){q:aS}(hq:q∈ps)(hp:mn de q=true):q∈qs:=by
 obtain⟨o,ho⟩:=Bh.mp (f.all q hq);unfold mn at hp;rw[ho]at hp;have e:=bd hp;rw[e]at ho;have hc:=R9 ho;have hm:q.nm∈(bR de).map (·.1):=be.mpr ⟨_,hc,rfl⟩;obtain⟨q',dP,en⟩:=be.mp (h.nms.mem_iff.mpr hm);have h1:=Ab f.nd (h.inn q' dP).2;have h2:=Ab f.nd hc;have en:q'.nm=q.nm:=en;have h1:de.lookup q'.nm=some (some q'.ms):=h1;rw[en]at h1;have em:q'.ms=q.ms:=eK (eK (h1.symm.trans h2));rw[←DX bf (h.inn q' dP).1 hq en em];exact dP
theorem Ki{α:Type}{l:List α}{i:Nat}{c:α}(h:l[i]? = some c):kJ (i:Int) l.length=true/\l[(i:Int).toNat]? = some c:=by
 have aD:=(bH.mp h).1;refine⟨?_,by simpa using h⟩;unfold kJ;rw[aE (by omega),aE (by omega)];rfl
theorem Kj{α β:Type}{f:Nat->α->List β}{y:β}:∀{l:List α} {k:Nat},y∈dQ f l k->∃j x,l[j]? = some x/\y∈f (k+j) x
 | [],k,h=>by cases h
 | x::r,k,h=>by
  rcases eg.mp (show y∈f k x++dQ f r (k+1) from h) with h | h
  . exact⟨0,x,rfl,h⟩
  . obtain⟨j,z,h1,h2⟩:=Kj h;exact⟨j+1,z,h1,by rw[show k+(j+1)=k+1+j by omega];exact h2⟩
theorem am2{ps:Lp}{de:Dec}{qs:Lp}{ws:List cq}(bf:gD ps)(f:Ac ps de)(h:Kg ps de qs){k:List At}(hk:k∈kF qs):∃r:gb,r.ats=k/\rH ps ws de r=true:=by
 obtain⟨p,hp,hk⟩:=lJ.mp hk;have par:=Kh bf f.nd h hp;unfold fo at hk
 rcases eg.mp hk with hk | hk
 . rcases eg.mp hk with hk | hk
   . obtain⟨i,c,hi,hk⟩:=Kj hk;rw[Bo]at hk;obtain⟨a1,a2⟩:=Ki hi;unfold jA at hk;split at hk
     . rename_i he;refine⟨.need p.nm i,(cE.mp hk).symm,?_⟩;show zM ps de p.nm i=true;unfold zM;rw[par];dsimp only;rw[a1,a2];show(true && !ps.any fun q=>mn de q && bB c q)=true;have:(ps.any fun q=>mn de q && bB c q)=false:=by
        rw[Fv];intro q hq hz;rw[dn]at hz;have cH:=am1 bf f h hq hz.1;have:q∈qs.filter (bB c):=cI.mpr ⟨cH,hz.2⟩;rw[he]at this;cases this
       rw[this];rfl
     . cases hk
   . obtain⟨i,c,hi,hk⟩:=Kj hk;rw[Bo]at hk;obtain⟨a1,a2⟩:=Ki hi;obtain⟨o,ho,rfl⟩:=be.mp hk;obtain⟨ho,hm⟩:=cI.mp ho;obtain⟨ho,bn⟩:=cI.mp ho;have bn:=bd bn;refine⟨.shut p.nm i o.nm,rfl,?_⟩;show zR ps de p.nm i o.nm=true;unfold zR;rw[par,Kh bf f.nd h ho];dsimp only;rw[a1,a2,aR bn];exact hm
 . obtain⟨o,ho,hk⟩:=lJ.mp hk;obtain⟨ho,aD⟩:=cI.mp ho;obtain⟨x,hx,rfl⟩:=be.mp hk;obtain⟨hx1,vN⟩:=cI.mp hx;refine⟨.clash p.nm o.nm x,rfl,?_⟩;show zS ps de p.nm o.nm x=true;unfold zS;rw[par,Kh bf f.nd h ho];dsimp only;rw[aD,aE hx1,vN];rfl
theorem am4{ps:Lp}{de:Dec}{ws:List cq}{ks:List (List At)}(bf:gD ps)(f:Ac ps de)(ht:Told ps (bR de) ks)(h1:∀n:Nat,n<ws.length->wa ps ws de n=false)(h2:∀r:gb,r.ats∈ks->rH ps ws de r=false):(∀w∈ws,jE w (cT de w.nm)=true)/\ks = []:=by
 refine⟨fun w hw=>?_,?_⟩
 . obtain⟨i,hi⟩:=oU hw;obtain⟨a1,a2⟩:=Ki hi;have aD:=(bH.mp hi).1;have hb:=h1 i aD;unfold wa at hb;rw[a1,a2]at hb;have hb:(rF ps de w.nm && !jE w (cT de w.nm))=false:=hb;have hd:rF ps de w.nm=true:=by
    unfold rF
    by_cases hm:(bp ps w.nm).length=0
    . rw[aE hm,UQ]
    . have:0<(bp ps w.nm).length:=by omega
      obtain⟨m,hm⟩:=List.exists_mem_of_length_pos this;obtain⟨p,hp,_⟩:=be.mp hm;obtain⟨hp,hx⟩:=cI.mp hp;rw[←bd hx,f.all p hp,Mi]
   rw[hd,jq]at hb;cases hz:jE w (cT de w.nm) with
   | true=>rfl
   | false=>rw[hz]at hb;cases hb
 . obtain⟨⟨qs,q1,q2,q3⟩,_⟩:=ht;cases vk:ks with
   | nil=>rfl
   | cons k r=>
    have hk:k∈ks:=by rw[vk];exact cD
    obtain⟨x,e,hx⟩:=am2 (ws:=ws) bf f ⟨q1,q2⟩ (q3.mem_iff.mp hk);have:=h2 x (by rw[e];exact hk);rw[hx]at this;cases this
seal PE PS cz PA PT PW PG iB PI gP
def kL(H H':Hp):Hp:=fun b=>match H b with
 | some (.lst _)=>none
 | _=>H' b
theorem Kk{H H':Hp}{b:Addr}(h:H b=none):kL H H' b=H' b:=by unfold kL;rw[h]
theorem am5{H H':Hp}(s:ag H H'){b:Addr}{o:HO}(h:H' b=some o)(n:∀zs,o≠.lst zs):kL H H' b=some o:=by
 unfold kL;split
 . rename_i zs e;have:=s _ _ e;rw[h]at this;exact absurd (eK this) (n zs)
 . exact h
theorem Sa{H H':Hp}{b:Addr}{o:HO}(h:kL H H' b=some o):H' b=some o/\∀zs,H b≠some (.lst zs):=by
 unfold kL at h;split at h
 . cases h
 . rename_i hn;exact⟨h,fun zs e=>hn zs e⟩
theorem am6{H H':Hp}{b:Addr}(n:∀zs,H b≠some (.lst zs)):kL H H' b=H' b:=by
 unfold kL;split
 . rename_i zs e;exact absurd e (n zs)
 . rfl
theorem Kl{H1 Sb H2 Sc:Hp}(a:∀b zs,H2 b=some (.lst zs)->∃aY,H1 b=some (.lst aY))(s:∀b o,Sb b=some o->(∀zs,H1 b≠some (.lst zs))->Sc b=some o):ag (kL H1 Sb) (kL H2 Sc):=by
 intro b o h;obtain⟨h1,h2⟩:=Sa h;rw[am6 fun zs e=>?_]
 . exact s b o h1 h2
 . obtain⟨aY,e'⟩:=a b zs e;exact h2 aY e'
def am7(ps:Lp)(ws:List cq)(de:Dec):Prop:=(∀w∈ws,jE w (cT de w.nm)=true)/\Told ps (bR de) []
def Ad(ps:Lp)(ws:List cq)(de:Dec):Prop:=∀iu,Ac ps iu->(∀x o,de.lookup x=some o->iu.lookup x=some o)->¬am7 ps ws iu
theorem Ad.put{ps:Lp}{ws:List cq}{de:Dec}{x:Str}{o:Oi}(h:Ad ps ws de)(hx:de.lookup x=none):Ad ps ws (dk de x o):=by
 intro iu f e;refine h iu f fun y o' hy=>e y o' ?_;rw[JV,ah fun z=>by rw[z,hx]at hy;cases hy];exact hy
def jh(ys:Ls)(de:Dec):Ls:=ys.filter fun y=>!mj de y
theorem am8{ys:Ls}{de:Dec}{x:Str}{r:Ls}{o:Oi}(nd:ys.Nodup)(h:jh ys de=x::r):jh ys (dk de x o)=r:=by
 have e:jh ys (dk de x o)=(jh ys de).filter fun y=>decide (y≠x):=by
  unfold jh;rw[List.filter_filter];refine List.filter_congr fun y _=>?_;unfold mj;rw[JV]
  by_cases hy:y=x
  . rw[ap hy,aR (fun z=>z hy)];rfl
  . rw[ah hy,aE hy,jq]
 rw[e,h,List.filter_cons_of_neg (by simp)];have ndl:(x::r).Nodup:=h▸nd.filter _;refine List.filter_eq_self.mpr fun y hy=>aE fun z=>?_;rw[z]at hy;exact(jI.mp ndl).1 hy
structure rL(ps:Lp)(ys:Ls)(de:Dec):Prop where
 nm:fz ps ys
 y4:ys.length<=4
 ok:gZ ps de
 nd:(de.map (·.1)).Nodup
 sub:∀x∈de.map (·.1),x∈ys
theorem rL.len{ps:Lp}{ys:Ls}{de:Dec}(h:rL ps ys de):de.length<=4:=by
 have:=kC h.nd h.sub;rw[au]at this;have:=h.y4;omega
theorem rL.full{ps:Lp}{ys:Ls}{de:Dec}(h:rL ps ys de)(l:jh ys de = []):Ac ps de:=by
 refine⟨h.nd,fun q hq=>?_,h.ok⟩;have hy:q.nm∈ys:=(h.nm.mem _).mpr (be.mpr ⟨q,hq,rfl⟩);cases hz:mj de q.nm with
 | true=>rfl
 | false=>
  have:q.nm∈jh ys de:=cI.mpr ⟨hy,by rw[hz];rfl⟩;rw[l]at this;cases this
theorem rL.put{ps:Lp}{ys:Ls}{de:Dec}{x:Str}{o:Oi}(h:rL ps ys de)(hx:x∈ys)(ho:o∈iR ps x):rL ps ys (dk de x o):=by
 refine⟨h.nm,h.y4,h.ok.put ho,QI h.nd,fun z hz=>?_⟩;obtain⟨e,he,rfl⟩:=be.mp hz
 rcases QH he with e' | he
 . rw[e'];exact hx
 . exact h.sub _ (be.mpr ⟨e,he,rfl⟩)
def Sd{α β:Type}(R:α->β->Prop)(xs:List α)(ys:List β):Prop:=∀(i:Nat) (x:α) (y:β),xs[i]? = some x->ys[i]? = some y->R x y
theorem ana{ps:Lp}{x:Str}{gs:List eW}{ws:List cq}{de:Dec}(el:gs.length=(iR ps x).length)(h:Sd (fun(o:Oi) (g:eW)=>g ws (dk de x o)=true) (iR ps x) gs):zY ps x gs ws de=true:=by
 unfold zY;rw[aE el,jq,dW];intro e he;obtain⟨i,hi⟩:=oU he;obtain⟨h1,h2⟩:=asu.mp hi;exact h i _ _ h1 h2
section
variable {P:Program} {w:World} {K:Fg} {mg:Mv} {base:Heap}
def ww(C S Lc Tc:Addr)(n:Nat):Sp:=fun vs H Q _=>∃(sv:V) (wl d:Addr) (ps:Lp) (xw:Lv) (ws:List cq) (de:Dec) (ys:Ls),vs = [sv,.ref wl,.ref d]/\fF C S H sv ps/\H wl=some (.lst xw)/\Paired (c9 H) xw ws/\ws.length<=100/\fE H d de/\rL ps ys de/\(jh ys de).length=n/\Ad ps ws de /\
 ∀v g H',ag H H'->cU ps Lc Tc (n+1) (kL H H') v g->g ws de=true->Q v H'
theorem Km:bh [atC,atF,atD,at6,atE] [atC,atF,atD] (aI yX):=⟨rfl,rfl,rfl,by decide +kernel,rfl,by decide +kernel,by decide +kernel⟩
theorem Se{k n:Nat}{ou:Sp}{f C S Lc Tc Ae Af mr oB oC ql dF bY cQ fY ir:Addr}{fd uh ui uj gX dZ je kI:Fy}(k9:6<=k)(F:ai K aul aul yX f fd)(mF:mg aul = some (.ref f))(B:bX mg)(U:ft K mg S dF bY cQ)(UL:qh K mg Lc Ae mr)(UT:rJ K mg Tc Af mr)(ML:Mk K Lc oB)(MT:Mk K Tc oC)
 (uk:ai K "__init__" "Leaf.__init__" ri oB uh) (ul:ai K "__init__" "Split.__init__" rj oC ui) (fB:ai K auP "Shelf.names" lm dF gX) (cS:ai K at9 "Shelf.makes_of" iJ bY dZ)
 (rM:ai K auo auo yY ql uj) (wx:mg auo = some (.ref ql)) (wy:ak P w K mg base ao 6 ql uj [atC,atF,atD] (Ei C S)) (eG:ai K at0 at0 pK fY je) (iq:mg at0 = some (.ref fY)) (fZ:ai K atZ atZ pL ir kI) (jf:mg atZ = some (.ref ir))
 (G:ak P w K mg base ao k f fd [atC,atF,atD] ou) (hG:∀vs H Q E,n≠0->ww C S Lc Tc (n - 1) vs H Q E->ou vs H Q E):ak P w K mg base ao (k+1) f fd [atC,atF,atD] (ww C S Lc Tc n):=by
 have pW:ak P w K mg base ao k dF gX [atG] (vT S):=(zB fB B U).mono (by omega);have pX:=fB.binds1 (l:=[atG]) (fun _ _ _ _ _ _ _=>rfl);have anb:=wy.mono (k:=k) k9;have anc:=rM.binds3 (l:=[atC,atF,atD]) (fun _ _ _ _ _ _ _ _ _=>rfl);have tU:ak P w K mg base ao k fY je [atC,atE] (zC S):=(DF eG B U cS).mono (by omega);have tV:=eG.binds2 (l:=[atC,atE]) (fun _ _ _ _ _ _ _ _=>rfl);have vY:ak P w K mg base ao k ir kI [atD,atE,aus] JW:=(RV fZ B).mono (by omega);have vZ:=fZ.binds3 (l:=[atD,atE,aus]) (fun _ _ _ _ _ _ _ _ _=>rfl);have ane:ak P w K mg base ao 1 oB uh [atG,at6] (R1 Lc):=amO uk UL;have anf:=uk.binds2 (l:=[atG,at6]) (fun _ _ _ _ _ _ _ _=>rfl);have ang:ak P w K mg base ao 1 oC ui [atG,atE,auB] (R3 Tc):=amQ ul B UT;have anh:=ul.binds3 (l:=[atG,atE,auB]) (fun _ _ _ _ _ _ _ _ _=>rfl);have Kn:=F.binds3 (l:=[atC,atF,atD]) (fun _ _ _ _ _ _ _ _ _=>rfl);refine F.ok Km (fun vs H Q E h=>?_) (fun aF A outer s H vs Q E hr h=>?_)
 . obtain⟨sv,wl,d,ps,xw,ws,de,ys,rfl,_⟩:=h;rfl
 . refine bo ?_;intro xX dX;obtain⟨sv,wl,d,ps,xw,ws,de,ys,rfl,bM,cY,gm,tY,cg,oE,hn,Sf,q⟩:=h;have hu:=hr.units;have iO:=hr.mono (j:=2) (by omega);refine⟨_,(az (bi (i:=3) Km.nd rfl (Or.inl rfl) (aG anb hr rfl wx rM.kp anc .nil av (aa (pv 0) (aa (pv 1) (aa (pv 2) ae)))))
    (az (cp (bA uW (pv 3) eh (ba _)) (aB (aO (uZ ML ane iO rfl UL.mgC anf .nil av (aa (pv 3) ae)))) cr)
    (az (bi (i:=4) Km.nd rfl (Or.inr rfl) (aQ gO (dw ["left"] [atD] [2] ⟨rfl,by decide +kernel,by decide +kernel,by decide +kernel,by decide +kernel,rfl,rfl,rfl⟩ rfl (bJ (xD (pv 0) U.cl U.mN pW hr pX .nil av)) (fun _ _ _ _=>(aT (i:=0) (show List.Nodup (["left",atD]:Ls) by decide +kernel) rfl (Or.inl rfl))) (fun _ _ _ _=>ig (Ga (NU hu (pv 0) (pv 1)) (by rfl))) (fun _ _ _ _=>(pv 0))) ar (fun _ _=>rfl)))
    (aB (aO (uZ MT ang iO rfl UT.mgC anh .nil av (aa (pv 4) (aa (dw [aus] [atC,atF,atD,atE] [0,1,2,4] ⟨rfl,by decide +kernel,by decide +kernel,by decide +kernel,by decide +kernel,rfl,rfl,rfl⟩ rfl (bJ (aG tU hr rfl iq eG.kp tV .nil av (aa (pv 0) (aa (pv 4) ae)))) (fun _ _ _ _=>(aT (i:=0) (show List.Nodup ([aus,atC,atF,atD,atE]:Ls) by decide +kernel) rfl (Or.inl rfl))) (fun _ _ _ _=>fh)
     (fun _ _ _ _=>(aG G hr rfl mF F.kp Kn .nil av (aa (pv 1) (aa (pv 2) (aa (aG vY hr rfl jf fZ.kp vZ .nil av (aa (pv 3) (aa (pv 4) (aa (pv 0) ae)))) ae)))))) ae)))))))),?_⟩
   refine pp ?_;intro dD sS kH eS dM;refine⟨_,rfl,_,rfl,_,rfl,sv,wl,d,ps,xw,ws,de,rfl,bM,cY,gm,tY,cg,oE.ok,oE.nd,oE.len,fun v r H1 s1 fD tH=>?_,fun ks H1 s1 wt hw1 cG=>?_⟩
   . obtain⟨t,rfl,ht⟩:=fD;refine⟨_,rfl,rfl,_,rfl,?_⟩;refine aJ (fun _=>?_) (fun z=>absurd (by rw[aR (by intro w;cases w)];rfl) z);refine⟨_,rfl,?_⟩;dsimp only[gN,qA,qC];intro x dx nx oF Ko;refine⟨x,dx,.ref t,rfl,aP,rfl,?_⟩;have ntx:=bg ht nx;have ntd:=bg ht oF;have sx:ag H1 (aj (aj (aj H1 dx (.own x)) x (.ins Lc dx [])) x (.ins Lc dx (aA at6 (.ref t) []))):=fun b o e=>aW (aW (aW e (bg e oF)) (bg e nx)) (bg e nx);refine q _ (fun ws de=>rH ps ws de r) _ (s1.trans sx) (.inl ⟨x,dx,aA at6 (.ref t) [],.ref t,r,rfl,?_,rfl,by rw[bL,ah (by decide +kernel)];rfl,by rw[bL,ah (by decide +kernel)];rfl,⟨t,rfl,?_⟩,rfl⟩) tH
     . rw[Kk (s1.free nx)];exact aP
     . exact am5 (s1.trans sx) (sx _ _ ht) (by intro zs z;cases z)
   . refine⟨_,rfl,rfl,_,rfl,?_⟩;refine aJ (fun z=>absurd z (by rw[aE rfl];decide)) (fun _=>?_);have bn:jh ys de≠[]:=fun z=>by
      obtain⟨g1,g2⟩:=am4 bM.ok (oE.full z) wt hw1 cG;exact Sf de (oE.full z) (fun _ _ h=>h) ⟨g1,g2▸wt⟩
     obtain⟨y,rest,Ag⟩:=List.exists_cons_of_ne_nil bn;have hn0:n≠0:=by rw[←hn,Ag,bF];omega
     obtain⟨⟨xs,hS,hP⟩,ok,few⟩:=bM.same s1;obtain⟨sa,ue,uf,dd,kk,rfl,b1,b2,b3,b4,b5,b6⟩:=id hS;refine⟨_,rfl,sa,ue,uf,rfl,b1,b4,?_⟩;dsimp only[gN,qA,qC];refine⟨_,xs,ps,rfl,hS,ok.len,fun l aX H2 n2 s2 e2 srt nd mem=>?_⟩;have ey:=fz.uniq ⟨srt,nd,mem⟩ oE.nm;subst ey;have y4:=oE.y4;obtain⟨kvs,hd2,JH⟩:=cg.same (s1.trans s2);refine⟨l,rfl,⟨_,af.of e2⟩,?_⟩;refine GV (K:=K) (xs:=aX.map V.str) (σ0:=[none,some (.ref d)]) (af.of e2) (fun σ=>∃v,σ = [v,some (.ref d)]) (fun i zs _=>zs=(jh (aX.take i) de).map V.str) ⟨_,rfl⟩ (fun _ _=>rfl) ?_ ?_
     . rintro D i x zs σ H3 kq kq' hD hx ⟨v,rfl⟩ fw s3 rfl hk dA;rw[bN]at hx;cases hy:aX[i]? with
       | none=>rw[hy]at hx;cases hx
       | some z=>
        rw[hy]at hx;cases hx;have aD:=(bH.mp hy).1;have e0:jh (aX.take (i+1)) de=jh (aX.take i) de++if (!mj de z)=true then [z] else []:=by
         unfold jh;rw[gB hy,FU,FV,List.filter_nil]
        refine⟨_,rfl,_,rfl,d,_,rfl,cw.k (k:=.inr z) (s3 _ _ hd2),_,rfl,?_⟩;rw[RA JH];refine aJ (fun h=>?_) (fun h=>?_)
        . refine⟨_,rfl,hk _ _ _ ⟨_,rfl⟩ (ag.refl _) (bj ?_) ?_⟩
          . rw[au];have:=gK (fun y=>!mj de y) (aX.take i);rw[db]at this;unfold jh;omega
          . rw[e0,ap h,dU];rfl
        . exact dA _ _ ⟨_,rfl⟩ (ag.refl _) (by rw[e0,ah h,dG])
     . rintro D zs H3 hD fw s3 rfl;rw[au,cj,Ag]at fw;refine⟨D,_,_,_,rfl,rfl,af.of fw,dY (j:=0) rfl,?_⟩;have wz:=(s1.trans s2).trans s3;obtain⟨⟨xs3,hS3,hP3⟩,_,_⟩:=bM.same wz;refine⟨_,rfl,_,rfl,_,rfl,.ref sa,y,xs3,ps,rfl,hS3,ok,fun cl cs ks4 H4 n4 s4 e4 tv pm ad=>?_⟩;have ek:ks4=lD (bp ps y):=(wk ok).is pm ad;subst ek;have pc:Paired (cZ H4) (.non::cs) (iR ps y):=.cons rfl (zF tv);have Aa:=aK pc;have c5:(iR ps y).length<=5:=by
        have h4:=ok.four y;have:=pm.length_eq;show((lD (bp ps y)).map some).length+1<=5;rw[au];omega
       have Ek:y∈jh aX de:=by rw[Ag];exact cD
       obtain⟨hyy,Kp⟩:=cI.mp Ek;have ano:de.lookup y=none:=by
        cases hz:de.lookup y with
        | none=>rfl
        | some o=>unfold mj at Kp;rw[hz]at Kp;cases Kp
       have ji:=wz.trans s4;refine⟨cl,rfl,⟨_,af.of e4⟩,?_⟩;intro D5 pR;refine vO (σ0:=[none,some (.ref sa),some (.ref wl),some (.ref d),some (.str y)]) pR (af.of e4) (fun σ=>∃v,σ = [v,some (.ref sa),some (.ref wl),some (.ref d),some (.str y)]) (fun i zs H5=>∃gs:List eW,Paired (cU ps Lc Tc n (kL (aj H4 D5 (.lst [])) H5)) zs gs/\gs.length=i/\Sd (fun(o:Oi) (g:eW)=>g ws (dk de y o)=true) (iR ps y) gs) ⟨_,rfl⟩ ⟨[],.nil,rfl,fun i x g _ h=>by cases i<;>cases h⟩ ?_ ?_
       . rintro i z zs σ H5 kq hz ⟨v,rfl⟩ ip s5 ⟨gs,pg,gl,Kq⟩ hk;obtain⟨o,ho,hB⟩:=bD pc hz;have om:o∈iR ps y:=eN ho;have ga:=ji.trans s5;refine⟨_,rfl,_,rfl,_,rfl,_,rfl,_,rfl,?_⟩;refine⟨d,y,z,de,o,rfl,cg.same ga,hB.same s5,by have:=oE.len;omega,fun rd H6 n6 s6 rN=>?_⟩;have cV:=ga.trans s6;refine hG _ _ _ _ hn0 ⟨.ref sa,wl,rd,ps,xw,ws,dk de y o,aX,rfl,bM.same cV,cV _ _ cY,aM gm fun _ _ z=>z.same cV,tY,rN,oE.put hyy om,?_,Sf.put ano,fun v6 g H7 s7 hp hg=>?_⟩
         . rw[am8 oE.nm.nd Ag];rw[Ag,bF]at hn;omega
         rw[show n - 1+1=n by omega]at hp;have Sg:=s6 _ _ ip;have zl:=aK pg;have ilt:=(bH.mp ho).1;refine hk _ v6 H7 ⟨_,rfl⟩ (s6.trans s7) (bj (by omega)) ⟨gs++[g],?_,by rw[bc,gl];rfl,fun j x g' hx wA=>?_⟩
         . refine dj (cU.same (Kl (fun b aY e=>?_) fun b o' e Kr=>?_) hp) (aM pg fun _ _ z=>cU.same (Kl (fun b aY e=>⟨aY,e⟩) fun b o' e Kr=>?_) z)
           . by_cases hb:b=D5
             . rw[hb];exact⟨_,Sg⟩
             . rw[aL hb]at e;exact⟨aY,(s5.trans s6) _ _ e⟩
           . exact aW e fun hb=>Kr _ (hb▸Sg)
           . exact aW ((s6.trans s7) _ _ e) fun hb=>Kr [] (by rw[hb];exact aP)
         . by_cases hj:j<gs.length
           . rw[Mb hj]at wA;exact Kq j x g' hx wA
           . rw[FA (by omega)]at wA;have aD:=(bH.mp wA).1;rw[mV]at aD;have ej:j=i:=by omega
             rw[ej,ho]at hx;rw[ej,gl,Nat.sub_self]at wA;cases hx;cases wA;exact hg
       . rintro zs H5 ip s5 ⟨gs,pg,gl,Kq⟩;have zl:=aK pg;dsimp only[gN,qA,qC];intro x dx nx oF Ko;refine⟨x,dx,D5,y,zs,rfl,aP,aW (aW ip (bg ip oF)) (bg ip nx),fun l' H6 wB kp6 ex el=>⟨rfl,?_⟩⟩;have Sh:ag H5 H6:=fun b o e=>kp6 _ _ (aW (aW e (bg e oF)) (bg e nx)) (bg e nx);have ga:=ji.trans s5;have Eh:l'≠x:=fun z=>by rw[z,aP]at wB;cases wB
         have nld:l'≠dx:=fun z=>by rw[aL Eh,z,aP]at wB;cases wB
         have nl5:H5 l'=none:=by rw[aL Eh,aL nld]at wB;exact wB
         refine q (.ref x) (zY ps y gs) H6 (ga.trans Sh) (.inr ⟨x,dx,aA auB (.ref l') (aA atE (.str y) []),y,l',zs,gs,rfl,?_,?_,?_,?_,?_,?_,?_,by omega,rfl⟩) (ana (by rw[gl,Aa]) Kq)
         . rw[Kk (ga.free nx)];exact ex
         . rw[bL,ah (by decide +kernel),bL,ap rfl]
         . rw[bL,ap rfl]
         . rw[bL,ah (by decide +kernel),bL,ah (by decide +kernel)];rfl
         . rw[bL,ah (by decide +kernel),bL,ah (by decide +kernel)];rfl
         . rw[Kk (ga.free nl5)];exact el
         . refine aM pg fun _ _ z=>cU.same (Kl (fun b aY e=>?_) fun b o e _=>Sh _ _ e) z;have El:=ji _ _ e;exact⟨aY,aW El (bg El pR)⟩
theorem ant{f C S Lc Tc Ae Af mr oB oC ql dF bY cQ fY ir:Addr}{fd uh ui uj gX dZ je kI:Fy}(F:ai K aul aul yX f fd)(mF:mg aul = some (.ref f))(B:bX mg)(U:ft K mg S dF bY cQ)(UL:qh K mg Lc Ae mr)(UT:rJ K mg Tc Af mr)(ML:Mk K Lc oB)(MT:Mk K Tc oC)
 (uk:ai K "__init__" "Leaf.__init__" ri oB uh) (ul:ai K "__init__" "Split.__init__" rj oC ui) (fB:ai K auP "Shelf.names" lm dF gX) (cS:ai K at9 "Shelf.makes_of" iJ bY dZ)
 (rM:ai K auo auo yY ql uj) (wx:mg auo = some (.ref ql)) (wy:ak P w K mg base ao 6 ql uj [atC,atF,atD] (Ei C S)) (eG:ai K at0 at0 pK fY je) (iq:mg at0 = some (.ref fY)) (fZ:ai K atZ atZ pL ir kI) (jf:mg atZ = some (.ref ir)) (n:Nat) :
 ak P w K mg base ao (7+n) f fd [atC,atF,atD] (ww C S Lc Tc n):=by
 induction n with
 | zero=>
  have G0:ak P w K mg base ao 6 f fd [atC,atF,atD] (fun _ _ _ _=>False):=⟨fun _ _ _ _ h=>h.elim,fun _ _ _ _ _ _ _ _ _ _ _ _ _ h=>h.elim⟩;exact Se (k:=6) (aH _) F mF B U UL UT ML MT uk ul fB cS rM wx wy eG iq fZ jf G0 fun _ _ _ _ h=>absurd rfl h
 | succ n ih=>exact Se (k:=7+n) (by omega) F mF B U UL UT ML MT uk ul fB cS rM wx wy eG iq fZ jf ih fun _ _ _ _ _ h=>h
end
end K42
namespace K42
open PySem L2 PySem.Spec PyProof.Rows
open HT (At gj fm)
seal PE PS cz PA PT PW PG iB PI gP
def kM(ch:Ch)(p:aS):Bool:=decide (ch.lookup p.nm=some p.ms)
def wC(qs:Lp)(p:aS):Bool:=p.ns.all fun c=>qs.any (bB c)
def mw(p q:aS):Bool:=decide (q.nm=p.nm) || (!(p.ss.any fun c=>bB c q) && !((bu p).any fun x=>decide (x∈bu q)))
def wD(qs:Lp):Bool:=qs.all fun p=>wC qs p && qs.all (mw p)
def um(ps:Lp)(ch:Ch):Bool:=wD (ps.filter (kM ch))
theorem Ks{α β:Type}{f:Nat->α->List β}{Pp:α->Prop}(h:∀i x,f i x = []↔Pp x):∀(l:List α) (k:Nat),dQ f l k = []↔∀x∈l,Pp x
 | [],k=>⟨fun _ x hx=>absurd hx (by simp),fun _=>rfl⟩
 | x::r,k=>by
  show f k x++dQ f r (k+1) = []↔_;rw[BC,h,Ks h r (k+1)];constructor
  . rintro⟨a,b⟩ y hy
    rcases bw.mp hy with e | e
    . rw[e];exact a
    . exact b y e
  . intro a;exact⟨a x cD,fun y hy=>a y (cy _ hy)⟩
theorem Si{p:aS}{qs:Lp}:nW p qs = []↔wC qs p=true:=by
 unfold nW wC;rw[Ks (Pp:=fun c=>qs.any (bB c)=true) (fun i c=>?_),dW];unfold jA
 by_cases h:qs.filter (bB c) = []
 . rw[ap h];refine⟨fun z=>(by cases z),fun z=>?_⟩;obtain⟨q,hq,hm⟩:=jp.mp z;have:q∈qs.filter (bB c):=cI.mpr ⟨hq,hm⟩;rw[h]at this;cases this
 . rw[ah h];refine⟨fun _=>?_,fun _=>rfl⟩;obtain⟨q,hq⟩:=Vp _ h;obtain⟨a,b⟩:=cI.mp hq;exact jp.mpr ⟨q,a,b⟩
theorem Sj{p:aS}{qs:Lp}:pH p qs = []↔∀c∈p.ss,∀q∈qs,q.nm≠p.nm->bB c q=false:=by
 unfold pH;refine Ks (Pp:=fun c=>∀q∈qs,q.nm≠p.nm->bB c q=false) (fun i c=>?_) p.ss 0;unfold rf jB;rw[Vq,FX];constructor
 . intro h q hq ne;exact eX.mpr (h q (cI.mpr ⟨hq,aE ne⟩))
 . intro h q hq;obtain⟨a,b⟩:=cI.mp hq;rw[h q a (bd b)];exact bV
theorem Kt{p:aS}{qs:Lp}:rg p qs = []↔∀q∈qs,dC p.nm q.nm=true->∀x∈bu p,x∉bu q:=by
 unfold rg;rw[asv];constructor
 . intro h q hq lt x hx kT;have z:=h q (cI.mpr ⟨hq,lt⟩);unfold kE vE at z;rw[Vq,FX]at z;exact z x hx (aE kT)
 . intro h q hq;obtain⟨a,b⟩:=cI.mp hq;unfold kE vE;rw[Vq,FX];intro x hx z;exact h q a b x hx (bd z)
theorem anu{a b:Str}(h:a≠b):dC a b=true\/dC b a=true:=by
 unfold dC
 by_cases z:a.cps.toList<b.cps.toList
 . exact .inl (aE z)
 . right;refine aE (BB fun y=>h ?_);have e:a.cps.toList=b.cps.toList:=Vd (FR.mp y) (FR.mp z);cases a;cases b;exact fL _ (U0.mp e)
theorem Ku{p q:aS}:mw p q=true↔(q.nm≠p.nm->(∀c∈p.ss,bB c q=false)/\∀x∈bu p,x∉bu q):=by
 unfold mw
 by_cases e:q.nm=p.nm
 . rw[aE e,Mi];exact⟨fun _ n=>absurd e n,fun _=>rfl⟩
 . rw[aR e,FH,dn,Vr,Vr,Fv,Fv];constructor
   . rintro⟨a,b⟩ _;exact⟨fun c hc=>eX.mpr (a c hc),fun x hx kT=>b x hx (aE kT)⟩
   . intro h;obtain⟨a,b⟩:=h e;exact⟨fun c hc=>by rw[a c hc];exact bV,fun x hx z=>b x hx (bd z)⟩
theorem anv{qs:Lp}:kF qs = []↔wD qs=true:=by
 unfold kF wD;rw[asv,dW];constructor
 . intro h p hp;have h1:=h p hp;unfold fo at h1;rw[BC,BC]at h1;obtain⟨⟨a,b⟩,c⟩:=h1;rw[Si.mp a,jq,dW];intro q hq;refine Ku.mpr fun ne=>⟨fun cl hc=>Sj.mp b cl hc q hq ne,fun x hx kT=>?_⟩
   rcases anu (fun z=>ne z.symm:p.nm≠q.nm) with lt | lt
   . exact Kt.mp c q hq lt x hx kT
   . have h2:=h q hq;unfold fo at h2;rw[BC]at h2;exact Kt.mp h2.2 p hp lt x kT hx
 . intro h p hp;have h1:=h p hp;rw[dn,dW]at h1;unfold fo;rw[BC,BC];refine⟨⟨Si.mpr h1.1,Sj.mpr fun c hc q hq ne=>(Ku.mp (h1.2 q hq) ne).1 c hc⟩,Kt.mpr fun q hq lt=>(Ku.mp (h1.2 q hq) fun z=>?_).2⟩;rw[z]at lt;exact absurd (bd lt) (MK _)
theorem Em{β:Type}{l:List (Str×β)}{x:Str}{v:β}(h:l.lookup x=some v):(x,v)∈l:=by
 induction l with
 | nil=>cases h
 | cons e r ih=>
  rw[iW]at h
  by_cases y:x=e.1
  . rw[show(x == e.1)=true from iV.mpr y]at h;have h:e.2=v:=eK h;rw[y,←h];exact cD
  . rw[show(x == e.1)=false from iw.mpr y]at h;exact cy _ (ih h)
theorem Kv{β:Type}{l:List (Str×β)}{x:Str}(h:x∈l.map (·.1)):∃v,l.lookup x=some v:=by
 induction l with
 | nil=>cases h
 | cons e r ih=>
  rw[iW]
  by_cases y:x=e.1
  . rw[show(x == e.1)=true from iV.mpr y];exact⟨_,rfl⟩
  . rw[show(x == e.1)=false from iw.mpr y];rw[b9]at h;exact ih ((bw.mp h).resolve_left y)
theorem Kw{β:Type}{l:List (Str×β)}(nd:(l.map (·.1)).Nodup){x:Str}{v:β}:l.lookup x=some v↔(x,v)∈l:=by
 refine⟨Em,fun h=>?_⟩;obtain⟨v',hv⟩:=Kv (be.mpr ⟨_,h,rfl⟩:x∈l.map (·.1));rw[hv,QM nd (Em hv) h]
theorem En{β:Type}{l:List (Str×β)}{x:Str}(h:x∉l.map (·.1)):l.lookup x=none:=by
 cases hz:l.lookup x with
 | none=>rfl
 | some v=>exact absurd (be.mpr ⟨_,Em hz,rfl⟩) h
theorem Sk{de:Dec}(nd:(de.map (·.1)).Nodup)(x:Str):(bR de).lookup x=cT de x:=by
 cases hz:cT de x with
 | none=>
  cases hy:(bR de).lookup x with
  | none=>rfl
  | some m=>
   have:=Ab nd (Em hy);have this:de.lookup x=some (some m):=this;unfold cT at hz;rw[this]at hz;cases hz
 | some m=>exact(Kw (Ej nd)).mpr (R9 (DQ hz))
theorem Sl{α β:Type}{f:α->β}{l:List α}(h:(l.map f).Nodup):l.Nodup:=(xm.mp h).imp fun ne e=>ne (by rw[e])
theorem Kx{ps:Lp}{ch:Ch}(ok:gD ps)(nd:(ch.map (·.1)).Nodup){ks:List (List At)}(h:Told ps ch ks):ks = []↔um ps ch=true:=by
 obtain⟨⟨qs,a,b,c⟩,_⟩:=h;have hp:qs.Perm (ps.filter (kM ch)):=by
  refine aj0 (Sl (b.nodup_iff.mpr nd)) ((Sl ok.nd).filter _) fun p=>?_;rw[cI];unfold kM;rw[decide_eq_true_iff,Kw nd];refine⟨a p,fun anw=>anw.elim fun h1 h2=>?_⟩;have:p.nm∈qs.map (·.nm):=b.mem_iff.mpr (FK (f:=(·.1)) h2);obtain⟨q,hq,e⟩:=be.mp this;obtain⟨h3,h4⟩:=a q hq;have e:q.nm=p.nm:=e;rw[e]at h4;rw[←DX ok h3 h1 e (QM nd h4 h2)];exact hq
 have hA:=c.trans (ajR hp);unfold um;rw[←anv];constructor
 . intro e;rw[e]at hA;exact hA.nil_eq.symm
 . intro e;rw[e]at hA;exact hA.eq_nil
theorem anx{ps:Lp}{a b:Ch}(h:∀x,a.lookup x=b.lookup x):um ps a=um ps b:=by
 unfold um;rw[List.filter_congr fun p _=>show kM a p=kM b p by unfold kM;rw[h]]
theorem Sm(M:Str->Ll)(o:Str->Oi):∀(ys:Ls) (ds:List Dec) (pre:Dec),pre∈ds->(∀y∈ys,o y∈rC M y)->pre++ys.map (fun y=>(y,o y))∈ys.foldl (gE M) ds
 | [],ds,pre,h,_=>by rw[FD,dG];exact h
 | y::ys,ds,pre,h,ho=>by
  have z:=Sm M o ys (gE M ds y) (pre++[(y,o y)]) (lJ.mpr ⟨pre,h,be.mpr ⟨o y,ho y cD,rfl⟩⟩) fun y' uP=>ho y' (cy _ uP);rw[oR]at z;exact z
theorem Sn{β:Type}(o:Str->β)(x:Str):∀ys:Ls,(ys.map fun y=>(y,o y)).lookup x=if x∈ys then some (o x) else none
 | []=>rfl
 | y::ys=>by
  rw[b9,iW]
  by_cases e:x=y
  . rw[show(x == y)=true from iV.mpr e,ap (by rw[e];exact cD),e]
  . rw[show(x == y)=false from iw.mpr e,Sn o x ys]
    by_cases m:x∈ys
    . rw[ap m,ap (cy _ m)]
    . rw[ah m,ah fun z=>m ((bw.mp z).resolve_left e)]
def gF(ps:Lp)(ws:List cq)(ch:Ch):Bool:=v4 ch ws && um ps ch
def uo(ps:Lp)(ys:Ls):List Ch:=(gY (fun nm=>lD (bp ps nm)) ys).map bR
def gG(ps:Lp)(ws:List cq)(ys:Ls):List Ch:=(uo ps ys).filter (gF ps ws)
theorem anz{ps:Lp}{ws:List cq}{ys:Ls}(ok:gD ps)(hN:fz ps ys)(h:gG ps ws ys = []):Ad ps ws []:=by
 intro iu f _ g;have hM:=wk ok;have GZ:∀x,x∉ys->cT iu x=none:=fun x hx=>by
  cases hz:cT iu x with
  | none=>rfl
  | some m=>
   obtain⟨p,hp,e1,_⟩:=f.ok x m (DQ hz);exact absurd ((hN.mem x).mpr (be.mpr ⟨p,hp,e1⟩)) hx
 have hw:ys.map (fun y=>(y,cT iu y))∈gY (fun nm=>lD (bp ps nm)) ys:=by
  refine Sm _ (cT iu) ys [[]] [] cD fun y hy=>?_;cases hz:cT iu y with
  | none=>exact cD
  | some m=>
   obtain⟨p,hp,e1,e2⟩:=f.ok y m (DQ hz);refine cy _ (be.mpr ⟨m,(hM.pm y).mem_iff.mpr ?_,rfl⟩);exact be.mpr ⟨p,cI.mpr ⟨hp,aE e1⟩,e2⟩
 have nd:((ys.map fun y=>(y,cT iu y)).map (·.1)).Nodup:=by
  rw[DM hw];exact hN.nd
 have lk:∀x,(bR (ys.map fun y=>(y,cT iu y))).lookup x=cT iu x:=fun x=>by
  rw[Sk nd];unfold cT;rw[Sn]
  by_cases hx:x∈ys
  . rw[ap hx];rfl
  . rw[ah hx];exact(GZ x hx).symm
 have hm:gF ps ws (bR (ys.map fun y=>(y,cT iu y)))=true:=by
  unfold gF;rw[dn];constructor
  . unfold v4;rw[dW];intro w hw;rw[lk];exact g.1 w hw
  . rw[anx (b:=bR iu) fun x=>by rw[lk,Sk f.nd]];exact(Kx ok (Ej f.nd) g.2).mp rfl
 have:bR (ys.map fun y=>(y,cT iu y))∈gG ps ws ys:=cI.mpr ⟨be.mpr ⟨_,hw,rfl⟩,hm⟩;rw[h]at this;cases this
theorem So(M:Str->Ll):∀(ys:Ls) (ds:List Dec),(∀de∈ds,∀e∈de,∀m,e.2=some m->m∈M e.1)->∀de∈ys.foldl (gE M) ds,∀e∈de,∀m,e.2=some m->m∈M e.1
 | [],ds,h=>h
 | y::ys,ds,h=>So M ys (gE M ds y) fun de hd e he m em=>by
  obtain⟨d,hd1,hd2⟩:=lJ.mp hd;obtain⟨c,hc,rfl⟩:=be.mp hd2
  rcases eg.mp he with z | z
  . exact h d hd1 e z m em
  . rw[cE.mp z]at em ⊢;have em:c=some m:=em;subst em
    rcases bw.mp hc with z | z
    . cases z
    . obtain⟨m',zN,e'⟩:=be.mp z;cases e';exact zN
theorem anB{M:Str->Ll}{ys:Ls}{de:Dec}(h:de∈gY M ys){e:Str×List Int}(he:e∈bR de):e.2∈M e.1:=by
 obtain⟨d,hd,hm⟩:=L8.mp he;have k:=So M ys [[]] (fun de hd e he=>by rw[cE.mp hd]at he;cases he) de h d hd;cases hz:d.2 with
 | none=>rw[hz]at hm;cases hm
 | some m=>
  rw[hz]at hm;have hm:(d.1,m)=e:=eK hm;subst hm;exact k m hz
structure Eo(ps:Lp)(ys:Ls)(ch:Ch):Prop where
 nd:(ch.map (·.1)).Nodup
 sub:∀x∈ch.map (·.1),x∈ys
 val:∀e∈ch,∃p∈ps,p.nm=e.1/\p.ms=e.2
theorem Ky{ps:Lp}{ys:Ls}(ok:gD ps)(hN:fz ps ys){ch:Ch}(h:ch∈uo ps ys):Eo ps ys ch:=by
 obtain⟨de,hd,rfl⟩:=be.mp h;have hk:=DM hd;refine⟨Ej (by rw[hk];exact hN.nd),fun x hx=>by rw[←hk];exact DI hx,fun e he=>?_⟩;have hm:=((wk ok).pm e.1).mem_iff.mp (anB hd he);obtain⟨p,hp,e2⟩:=be.mp hm;obtain⟨Ha,pd⟩:=cI.mp hp;exact⟨p,Ha,bd pd,e2⟩
theorem Eo.len{ps:Lp}{ys:Ls}{ch:Ch}(h:Eo ps ys ch):ch.length<=ys.length:=by
 have:=kC h.nd h.sub;rw[au]at this;exact this
theorem anC{C S:Addr}{H:Hp}{sv:V}{c:Addr}{ps:Lp}{ys:Ls}{ch:Ch}(sh:fF C S H sv ps)(h4:ys.length<=4)(h:Eo ps ys ch)(hc:dE H c ch):Dz C S H sv c ps ch:=by
 obtain⟨xs,hS,hP⟩:=sh.sh;refine⟨⟨xs,hS,hP,fun e he=>?_⟩,hc,h.nd,bS h.len h4,sh.few⟩;obtain⟨p,hp,e1,e2⟩:=h.val e he;obtain⟨j,hj⟩:=oU hp;have hl:=aK hP;have aD:j<xs.length:=by rw[hl];exact(bH.mp hj).1
 exact⟨xs[j],p,⟨j,hj,cJ aD⟩,e1,e2⟩
def Ah(now:Ch)(ys:Ls)(ch:Ch):Int:=-((ys.filter (jF now ch)).length:Int)
def Ep(ys:Ls)(ch:Ch):Ll:=ys.map fun y=>(ch.lookup y).getD []
theorem anD{now ch:Ch}{ys zs:Ls}(nd:ys.Nodup)(ndz:zs.Nodup)(h1:∀x∈now.map (·.1),x∈ys)(h2:∀x∈ch.map (·.1),x∈ys)(mem:∀z,z∈zs↔z∈now.map (·.1)\/z∈ch.map (·.1)):(zs.filter (jF now ch)).length=(ys.filter (jF now ch)).length:=by
 refine((Vg (ndz.filter _) (nd.filter _)).mpr fun x=>?_).length_eq;rw[cI,cI];refine⟨fun anF=>anF.elim fun a b=>⟨((mem x).mp a).elim (h1 x) (h2 x),b⟩,fun anG=>anG.elim fun a b=>⟨(mem x).mpr (BB fun z=>?_),b⟩⟩;have z1:=En fun y=>z (.inl y);have z2:=En fun y=>z (.inr y);unfold jF at b;exact bd b (z1.trans z2.symm)
def Sq(now:Ch)(ys:Ls)(gs:List Ch)(ch:Ch):Prop:=∀fG∈gs,HT.l7 (Ah now ys fG) (Ep ys fG) (Ah now ys ch) (Ep ys ch)=false
structure Es(K:Fg)(mg:Mv)(Uc:Addr):Prop where
 cl:ic K Uc
 nP:gM K Uc aur
 mgC:mg "Unmet" = some (.ref Uc)
section
variable {P:Program} {w:World} {K:Fg} {mg:Mv} {base:Heap}
def Sr(Uc:Addr):Sp:=fun vs H Q _=>∃(x dx:Addr) (rv:V),vs = [.ref x,rv]/\H x=some (.ins Uc dx [])/\Q .non (aj H x (.ins Uc dx (aA aur rv [])))
theorem anH:bh [atG,aur] [atG,aur] (aI tu):=⟨rfl,rfl,rfl,by decide +kernel,rfl,by decide +kernel,by decide +kernel⟩
theorem anI{f Uc:Addr}{fd:Fy}(F:ai K "__init__" "Unmet.__init__" tu f fd)(T:Es K mg Uc):ak P w K mg base ao 1 f fd [atG,aur] (Sr Uc):=by
 refine F.ok anH (fun vs H Q E h=>?_) (fun aF A outer s H vs Q E hr h=>?_)
 . obtain⟨x,dx,rv,rfl,_⟩:=h;rfl
 . refine bo ?_;intro xX dX;obtain⟨x,dx,rv,rfl,hx,q⟩:=h;refine⟨_,(aB (ky (pv 0) (pv 1) rfl)),?_⟩;exact⟨_,rfl,_,rfl,x,Uc,dx,_,rfl,hx,T.cl,T.nP,(by decide),q⟩
end
end K42
namespace L2
open PySem PySem.Spec PyProof.Rows
theorem vC.ok{P:Program}{w:World}{K:Fg}{mg:Mv}{base:Heap}{x qual:Str}{st:Stmt}{f c:Addr}{fd:Fy}{N ps:Ls}{k:Nat}{sp:Sp}(F:vC K x qual st f c fd)(S:bh N ps (aI st))(len:∀vs H Q E,sp vs H Q E->vs.length=ps.length)
 (sG:∀(A:Around) (outer:List Env) (s:Shared) (H:Hp) (vs:Lv) (Q:VK) (E:XK),cK k (A.deeper (envOfC qual (aI st) s.heap.objs.size f (.ref c)))->sp vs H Q E ->
  ∃t,cz (sC ao P w K mg base N qual (aI st) f (.ref c) A outer s H E).nox (cF st) t/\t { nx:=fun _ H'=>Q .non H',rt:=Q } (start N vs) H):ak P w K mg base ao (k+1) f fd ps sp:=by
 obtain⟨oc,od,kV,doc,pm,an,ct,jT,rfl,lk,iY⟩:=F.ex;refine ND lk iY S len fun A outer s H vs Q E hr nn=>?_;obtain⟨t,h,q⟩:=sG A outer s H vs Q E hr nn;exact⟨t,h.nox,q⟩
end L2
namespace K42
open PySem L2 PySem.Spec PyProof.Rows
open HT (At gj fm)
seal PE PS cz PA PT PW PG iB PI gP
theorem anJ{H:Hp}{Pt:Addr}{lp:Pos}{qu:Str}(h:gz H Pt lp qu):∃φ,H Pt=some (.ext φ):=by
 rcases h with z | ⟨c',z,_⟩
 . exact⟨_,z⟩
 . exact⟨_,z⟩
theorem Ss{H:Hp}{Pt b:Addr}{lp:Pos}{qu:Str}(h:gz H Pt lp qu){o:HO}(e:H b=some o)(n:∀φ,o≠.ext φ):b≠Pt:=fun z=>by
 obtain⟨φ,w⟩:=anJ h;rw[z,w]at e;cases e;exact n _ rfl
def Ke(H H':Hp):Prop:=∀b o,H b=some o->(∀φ,o≠.ext φ)->H' b=some o
theorem Kz{H H':Hp}{Pt:Addr}{lp:Pos}{qu:Str}(t:gz H Pt lp qu)(k:vz Pt H H'):Ke H H':=fun b o e n=>k b o e (Ss t e n)
theorem ke_same{H H':Hp}(s:ag H H'):Ke H H':=fun b o e _=>s b o e
theorem Ke.trans{H H' H2:Hp}(a:Ke H H')(b:Ke H' H2):Ke H H2:=fun x o e n=>b x o (a x o e n) n
theorem ik.ke{S:Addr}{H H':Hp}{v:V}{vs:Lv}{ps:Lp}(k:Ke H H')(h:ik S H v vs ps):ik S H' v vs ps:=by
 obtain⟨a,dx,fl,d,kvs,e,b1,b2,b3,b4,b5,b6,b7⟩:=h;exact⟨a,dx,fl,d,kvs,e,k _ _ b1 (by intro φ z;cases z),b2,b3,b4,b5,k _ _ b6 (by intro φ z;cases z),b7⟩
theorem KA{H H':Hp}(k:Ke H H'){kvs:List (aN×V)}{ch:Ch}(h:Paired (cO H) kvs ch):Paired (cO H') kvs ch:=aM h fun _ _ z=>by
 obtain⟨a,m,b,c⟩:=z;exact⟨a,m,b,k _ _ c (by intro φ z;cases z)⟩
theorem dE.ke{H H':Hp}{c:Addr}{ch:Ch}(k:Ke H H')(h:dE H c ch):dE H' c ch:=by
 obtain⟨kvs,e,p⟩:=h;exact⟨kvs,k _ _ e (by intro φ z;cases z),KA k p⟩
theorem Su{H:Hp}:∀{zs:Lv} {jj:List Ch},Paired (dS H) zs jj->∃as:List Addr,zs=as.map V.ref
 | _,_,.nil=>⟨[],rfl⟩
 | _,_,.cons ⟨c,e,_⟩ r=>by
  obtain⟨as,e'⟩:=Su r;exact⟨c::as,by rw[e,e'];rfl⟩
def rO:Pos:=match cF tw with
 | [_,_,_,_,.Return (some (.Call _ [.Call _ _ [⟨_,.Lambda _ _ _ p,_⟩] _] _ _)) _]=>p
 | _=>⟨0,0,0,0⟩
def qo:Str:="best_set.<locals>.<lambda>"
def Et(C S Bc Uc Lc Tc Pt:Addr)(lpos:Pos)(qual:Str):Sp:=fun vs H Q _=>∃(sv:V) (nw wl:Addr) (ps:Lp) (xw:Lv) (ws:List cq) (now:Ch) (ys:Ls),vs = [sv,.ref nw,.ref wl]/\fF C S H sv ps/\dE H nw now/\now.length<=10/\(∀x∈now.map (·.1),x∈ys)/\H wl=some (.lst xw)/\Paired (c9 H) xw ws/\ws.length<=100/\gz H Pt lpos qual/\fz ps ys/\ys.length<=4/\ys.foldl (gW ps) 1<=400 /\
 (gG ps ws ys = []->∀x dx v g H',ag H H'->H' x=some (.ins Uc dx (aA aur v []))->cU ps Lc Tc (ys.length+1) H' v g->g ws []=true->Q (.ref x) H') /\
 ∀b dx d ch H',vz Pt H H'->gz H' Pt lpos qual->H' b=some (.ins Bc dx (aA atM (.ref d) []))->dE H' d ch->ch∈gG ps ws ys->Sq now ys (gG ps ws ys) ch->Q (.ref b) H'
section
variable {P:Program} {w:World} {K:Fg} {mg:Mv} {base:Heap}
theorem KC:bh [atC,"now",atF,"width","doing"] [atC,"now",atF] (aI tw):=⟨rfl,rfl,rfl,by decide +kernel,rfl,by decide +kernel,by decide +kernel⟩
theorem anK{f c C S Bc Uc Lc Tc Pt uq ur Eu Ev Ew Ex Ey Ez wE:Addr}{fd Ai Aj KD KG KH KI KJ KL Ak:Fy}{tk:Tok}(F:vC K auG auG tw f c fd)(B:bX mg)(T:Ef K mg Bc)(MB:Mk K Bc uq)(EA:ai K "__init__" "Best.__init__" tq uq Ai)(TU:Es K mg Uc)(MU:Mk K Uc ur)(EB:ai K "__init__" "Unmet.__init__" tu ur Aj)(KN:mg "GREATEST_WIDTH" = some (.int 400 tk))
 (hd:PySem.W.codeHdIn K c Pt=true) (hb:base.BuiltinsAt mg Pt)
 (Al:ai K au3 au3 CZ Eu KD) (KO:mg au3 = some (.ref Eu)) (anL:ak P w K mg base ao 12 Eu KD [atC] (Rm S))
 (Am:ai K ava ava C0 Ev KG) (KP:mg ava = some (.ref Ev)) (anM:ak P w K mg base ao 12 Ev KG [atC] (Rt S))
 (An:ai K avb avb CY Ew KH) (KQ:mg avb = some (.ref Ew)) (anN:ak P w K mg base ao 12 Ew KH [atM,atF] Ru)
 (Ao:ai K au2 au2 CF Ex KI) (KR:mg au2 = some (.ref Ex)) (anO:ak P w K mg base ao 12 Ex KI [atC,atM] (Q9 C S))
 (Ap:ai K auM auM CB Ey KJ) (KS:mg auM = some (.ref Ey)) (anP:ak P w K mg base ao 4 Ey KJ [au7,auX] Rv)
 (Aq:ai K auF auF C1 Ez KL) (KU:mg auF = some (.ref Ez)) (anQ:ak P w K mg base ao 4 Ez KL [atC,atM] (RU S))
 (Ar:ai K aul aul yX wE Ak) (EC:mg aul = some (.ref wE)) (KW:∀n,ak P w K mg base ao (7+n) wE Ak [atC,atF,atD] (ww C S Lc Tc n)) :
 ak P w K mg base ao 13 f fd [atC,"now",atF] (Et C S Bc Uc Lc Tc Pt rO qo):=by
 have anR:=Al.binds1 (l:=[atC]) (fun _ _ _ _ _ _ _=>rfl);have anS:=Am.binds1 (l:=[atC]) (fun _ _ _ _ _ _ _=>rfl);have anT:=An.binds2 (l:=[atM,atF]) (fun _ _ _ _ _ _ _ _=>rfl);have anU:=Ao.binds2 (l:=[atC,atM]) (fun _ _ _ _ _ _ _ _=>rfl);have anV:=Ap.binds2 (l:=[au7,auX]) (fun _ _ _ _ _ _ _ _=>rfl);have anW:=Aq.binds2 (l:=[atC,atM]) (fun _ _ _ _ _ _ _ _=>rfl);have Kn:=Ar.binds3 (l:=[atC,atF,atD]) (fun _ _ _ _ _ _ _ _ _=>rfl);have anX:=EA.binds2 (l:=[atG,atM]) (fun _ _ _ _ _ _ _ _=>rfl);have anY:=EB.binds2 (l:=[atG,aur]) (fun _ _ _ _ _ _ _ _=>rfl);have anZ:ak P w K mg base ao 1 uq Ai [atG,atM] (R0 Bc):=amM EA B T;have an4:ak P w K mg base ao 1 ur Aj [atG,aur] (Sr Uc):=anI EB TU;refine F.ok KC (fun vs H Q E h=>?_) (fun A outer s H vs Q E hr h=>?_)
 . obtain⟨sv,nw,wl,ps,xw,ws,now,ys,rfl,_⟩:=h;rfl
 . refine bo ?_;intro xX dX;obtain⟨sv,nw,wl,ps,xw,ws,now,ys,rfl,bM,ED,l10,hnk,cY,gm,tY,tab,hN,y4,Sv,q1,q2⟩:=h;obtain⟨xs,hS,hP⟩:=bM.sh;have hok:=bM.ok;have hr6:=hr.mono (j:=6) (by decide);have fD:cK 5 (A.deeper (envOfC auG (aI tw) s.heap.objs.size f (.ref c))).in1:=hr6.in1;have hu1:(A.deeper (envOfC auG (aI tw) s.heap.objs.size f (.ref c))).in1.units+68<cLine:=by have:=fD.un;omega
   have iO:=hr.mono (j:=2) (by decide);have an8:ak P w K mg base ao 12 wE Ak [atC,atF,atD] (ww C S Lc Tc ys.length):=(KW ys.length).mono (by omega);refine⟨_,(az (bi (i:=3) KC.nd rfl (Or.inl rfl) (aG anL hr rfl KO Al.kp anR .nil av (aa (pv 0) ae)))
    (az (cp (bA XY (pv 3) (uU (v:=.int 400) (by rfl) KN ⟨_,rfl⟩) (ba _)) (aB Nf) cr)
    (az (ny (i:=4) [atM] [atF,atC] [2,0] KC.nd rfl rfl ⟨rfl,by decide +kernel,by decide +kernel,by decide +kernel,by decide +kernel,rfl,rfl,rfl⟩ rfl (bJ (aG anM hr rfl KP Am.kp anS .nil av (aa (pv 0) ae)))
     (fun _ _ _ _=>(aT (i:=0) (show List.Nodup ([atM,atF,atC]:Ls) by decide +kernel) rfl (Or.inl rfl)))
     (fun _ _ _ _=>ig (PW.pt (uV (ge (aG anN hr rfl KQ An.kp anT .nil av (aa (pv 0) (aa (pv 1) ae)))) (xA (ge (aG anO hr rfl KR Ao.kp anU .nil av (aa (pv 2) (aa (pv 0) ae)))))))) (fun _ _ _ _=>(pv 0)))
    (az (cp (bA eQ (bZ gy (by rfl) B.len hX (aa (pv 4) ae)) ar (ba _)) (aB (aO (uZ MU an4 iO rfl TU.mgC anY .nil av (aa (aG an8 hr rfl EC Ar.kp Kn .nil av (aa (pv 0) (aa (pv 2) (aa sR ae)))) ae)))) cr)
    (aB (aO (uZ MB anZ iO rfl T.mgC anX .nil av (aa (ais (c:=c) (P:=Pt) (x:=atM) (cap:=["now",atC]) (js:=[1,0]) (qual:=qo) (pv 4) ⟨rfl,rfl,rfl,by decide +kernel,rfl,by decide +kernel,rfl,rfl,rfl⟩ fD rfl rfl hd hb rfl B.max
     (fun _ _ _ _ _ Sw=>dz (aa (XH XU (bZ (aeK K) (by rfl) B.len hX (aa (aG anP Sw rfl KS Ap.kp anV .nil av (aa (pv 1) (aa (pv 0) ae))) ae))) (aa (aG anQ Sw rfl KU Aq.kp anW .nil av (aa (pv 2) (aa (pv 0) ae))) ae))) (fun _ _ _ _=>rfl)) ae)))))))),?_⟩
   refine G2 ?_;intro dD sS Dk kH eS dM;refine⟨_,rfl,sv,xs,ps,rfl,hS,hok,fun H1 ys1 s1 hN1=>?_⟩;rw[hN1.uniq hN];refine⟨_,rfl,_,_,rfl,rfl,_,rfl,?_⟩;refine aJ (fun h=>?_) (fun h=>?_)
   . have:=bd h;omega
   have hM:=wk hok;have zL:=amx hM ys;refine⟨_,rfl,sv,xs,ps,_,rfl,hS.same s1,hok,hM,fun aX hN'=>?_,fun l zs jk H2 n2 s2 ut e2 hz=>?_⟩
   . rw[hN'.uniq hN];omega
   have e:=ut.uniq hN;subst e;have hz:Paired (dS H2) zs (uo ps jk):=hz;have zl:=aK hz;have zl4:zs.length<=400:=by
    unfold uo at zl;rw[au]at zl;omega
   have bW:=s1.trans s2;refine⟨l,rfl,⟨_,af.of e2⟩,?_⟩;intro D hD;refine jD (σ0:=[none,some (.ref wl),some sv]) hD (af.of e2) (fun σ=>∃v,σ = [v,some (.ref wl),some sv]) (fun j aY Hx=>aY.length<=j/\Paired (dS Hx) aY (((uo ps jk).take j).filter (gF ps ws))) ⟨_,rfl⟩ ⟨aH _,.nil⟩ ?_ ?_
   . rintro j x aY σ H3 k k' hx ⟨v,rfl⟩ fw h3 ⟨hl,hp⟩ hk dA;obtain⟨ch,dH,cc,rfl,jO⟩:=bD hz hx;have cH:=Ky hok ut (eN dH);have wz:=bW.trans h3;have KY:=(bH.mp hx).1;refine⟨_,rfl,_,rfl,cc,wl,ch,xw,ws,rfl,jO.same h3,wz _ _ cY,aM gm (fun _ _ z=>z.same wz),tY,fun H4 s4=>⟨_,rfl,aJ (fun hm=>?_) (fun hm=>?_)⟩⟩
     . have ji:=wz.trans s4;refine⟨_,rfl,_,rfl,sv,cc,ps,ch,rfl,anC (bM.same ji) y4 cH (jO.same (h3.trans s4)),fun H5 ks s5 ht=>⟨_,rfl,aJ (fun z=>?_) (fun z=>?_)⟩⟩
       . have gd:gF ps ws ch=true:=by
          unfold gF;rw[hm,(Kx hok cH.nd ht).mp (bd z)];rfl
         have pR:=(s4.trans s5) _ _ fw;refine⟨_,rfl,hk _ _ _ ⟨_,rfl⟩ (s4.trans s5) (bj (by omega)) ⟨by rw[bc,mV];omega,?_⟩⟩;rw[pG dH,ap gd];exact dj (dS.mut pR ⟨cc,rfl,jO.same (h3.trans (s4.trans s5))⟩) (aM hp fun _ _ z=>dS.mut pR (z.same (s4.trans s5)))
       . have gd:¬gF ps ws ch=true:=by
          unfold gF;rw[dn];rintro⟨_,y⟩;exact z (aE ((Kx hok cH.nd ht).mpr y))
         refine dA _ _ ⟨_,rfl⟩ (s4.trans s5) ⟨by omega,?_⟩;rw[pG dH,ah gd,dG];exact aM hp fun _ _ z=>z.same (s4.trans s5)
     . have gd:¬gF ps ws ch=true:=by
        unfold gF;rw[dn];rintro⟨y,_⟩;exact hm y
       refine aJ (fun z=>(by cases z)) (fun _=>?_);refine dA _ _ ⟨_,rfl⟩ s4 ⟨by omega,?_⟩;rw[pG dH,ah gd,dG];exact aM hp fun _ _ z=>z.same s4
   . rintro aY H3 fw h3 ⟨hl,hp⟩;rw[uO (by omega)]at hp;have hp:Paired (dS H3) aY (gG ps ws jk):=hp;have pl:=aK hp;have bI:=bW.trans h3;refine⟨_,rfl,D,_,rfl,.inl (af.of fw),rfl,_,rfl,?_⟩;refine aJ (fun z=>?_) (fun z=>?_)
     . have z:=bd z;injection z with z
       have g0:gG ps ws jk = []:=uJ.mp (by omega);refine⟨_,rfl,_,rfl,fun p1 H4 n4 s4 e4=>?_⟩;have ji:=bI.trans s4;refine⟨sv,wl,p1,ps,xw,ws,[],jk,rfl,bM.same ji,ji _ _ cY,aM gm (fun _ _ z=>z.same ji),tY,⟨[],e4,.nil⟩,⟨ut,y4,fun x m h=>(by cases h),uI,fun x hx=>(by cases hx)⟩,?_,anz hok ut g0,fun v g H5 s5 KZ hg=>?_⟩
       . unfold jh;rw[show jk.filter (fun y=>!mj [] y)=jk from List.filter_eq_self.mpr fun y _=>rfl]
       . dsimp only[gN,qA,qC];intro x dx nx oF Ko;refine⟨x,dx,v,rfl,aP,rfl,?_⟩;have sx:ag H5 (aj (aj (aj H5 dx (.own x)) x (.ins Uc dx [])) x (.ins Uc dx (aA aur v []))):=fun b o e=>aW (aW (aW e (bg e oF)) (bg e nx)) (bg e nx);have sn:ag (kL H4 H5) H5:=fun b o e=>(Sa e).1;exact q1 g0 x dx v g _ ((ji.trans s5).trans sx) aP (cU.same (sn.trans sx) KZ) hg
     . obtain⟨as,eas⟩:=Su hp;subst eas;have asl:as.length=(gG ps ws jk).length:=by rw[←pl,au]
       have as0:0<as.length:=Nat.pos_of_ne_zero fun y=>z (aE (by rw[au,y];rfl));have EE:gz H3 Pt rO qo:=tab.same bI;have at_:∀(i:Nat) (b:Addr),as[i]? = some b->∃ch,(gG ps ws jk)[i]? = some ch/\dE H3 b ch:=fun i b hi=>by
        have:(as.map V.ref)[i]? = some (V.ref b):=by rw[bN,hi];rfl
        obtain⟨ch,h1,c',e,h2⟩:=bD hp this;cases e;exact⟨ch,h1,h2⟩
       refine⟨_,rfl,D,as,_,_,_,rfl,Ss EE fw (by intro φ z;cases z),fw,as0,ajM hu1 as.length (fun i=>Ah now jk ((gG ps ws jk).getD i [])) (fun i=>Ep jk ((gG ps ws jk).getD i [])),EE,fun i a ha H4 kp=>?_,fun i a H' ha best kp aod=>?_⟩
       . obtain⟨ch,dH,hca⟩:=at_ i a ha;have EF:(gG ps ws jk).getD i []=ch:=by rw[hU,dH];rfl
         have cH:=Ky hok ut (cI.mp (eN dH)).1;have ke:=Kz EE kp;have nw4:=(ED.same bI).ke ke;have Sx:=hca.ke ke;have sh4:=(hS.same bI).ke ke;have l4:=cH.len;refine⟨_,rfl,_,rfl,nw,a,now,ch,rfl,nw4,Sx,by omega,fun l5 H5 pU n5 s5 e5 _ nd5 aoi=>?_⟩;refine⟨l5,_,rfl,.inl (af.of e5),_,rfl,?_⟩;refine⟨_,rfl,_,rfl,sv,a,xs,ps,ch,rfl,sh4.same s5,hok.len,Sx.same s5,fun l6 zs6 ys6 H6 n6 s6 hN6 e6 jY=>?_⟩;refine⟨(by show 2<=sizeLine;decide),fun kt H7 n7 s7 e7=>⟨kt,rfl,(s5.trans s6).trans s7,l6,zs6,?_,s7 _ _ e6,?_⟩⟩
         . rw[e7];dsimp only;rw[EF,au,anD ut.nd nd5 hnk cH.sub aoi];rfl
         . rw[EF];rw[hN6.uniq ut]at jY;exact aM jY fun _ _ z=>by
            obtain⟨t,e,h⟩:=z;exact⟨t,e,s7 _ _ h⟩
       . obtain⟨ch,dH,kvs,hka,pk⟩:=at_ i a ha;have EF:(gG ps ws jk).getD i []=ch:=by rw[hU,dH];rfl
         have ke:=Kz EE kp;have sV:=ke _ _ hka (by intro φ z;cases z);dsimp only[gN,qA,qC];intro x dx nx oF Ko;have nax:=bg sV nx;have aon:=bg sV oF;refine⟨x,dx,a,kvs,rfl,aP,aW (aW sV aon) nax,fun d' H5 nd' kp5 ex ed=>⟨rfl,?_⟩⟩;have s5:ag H' H5:=fun b o e=>kp5 _ _ (aW (aW e (bg e oF)) (bg e nx)) (bg e nx);refine q2 x dx d' ch H5 (fun b o e n=>s5 _ _ (kp _ _ (bI _ _ e) n)) (aod.same s5) ex ⟨kvs,ed,KA (ke.trans (ke_same s5)) pk⟩ (eN dH) fun fG eY=>?_;obtain⟨j,hj⟩:=oU eY;have jl:=(bH.mp hj).1;have b:=best j (by omega);rw[EF,show(gG ps ws jk).getD j []=fG by rw[hU,hj];rfl]at b;exact b
end
end K42
namespace K42
open PySem L2 PySem.Spec PyProof.Rows
seal PE PS cz PA PT PW PG iB PI gP
def EG:Str:="strange"
section
variable {P:Program} {w:World} {K:Fg} {mg:Mv} {base:Heap}
def Sy:Sp:=fun vs H Q _=>∃(na:Addr) (c k:Int) (xs:Ls),vs = [.ref na,.int c,.int k]/\0<=k/\k<=100/\H na=some (.lst (xs.map V.str))/\Dd xs/\∀v H' cl,ag H H'->dL H' v cl->Q v H'
theorem EH:bh [atK,atH,atO,aub,"_law_least","_law_below"] [atK,atH,atO] (aI y6):=⟨rfl,rfl,rfl,by decide +kernel,rfl,by decide +kernel,by decide +kernel⟩
theorem aop{f fq:Addr}{fd iL:Fy}(F:ai K aup aup y6 f fd)(bC:ai K atY atY pM fq iL)(b8:mg atY = some (.ref fq)):ak P w K mg base ao 2 f fd [atK,atH,atO] Sy:=by
 have dg:ak P w K mg base ao 1 fq iL [atH,atO] vJ:=y7 bC;have dh:=bC.binds2 (l:=[atH,atO]) (fun _ _ _ _ _ _ _ _=>rfl);refine F.ok EH (fun vs H Q E h=>?_) (fun aF A outer s H vs Q E hr h=>?_)
 . obtain⟨na,c,k,xs,rfl,_⟩:=h;rfl
 . refine bo ?_;intro xX dX;obtain⟨na,c,k,xs,rfl,k0,k1,lr,hN,q⟩:=h;refine⟨_,(az (bi (i:=3) EH.nd rfl (Or.inl rfl) (aQ gO (aU xZ (aU xZ (pv 0) (xJ x6 (pv 0) BV (vb ar))) (eA (aa gL ae))) (aU dr (aG dg hr rfl b8 bC.kp dh .nil av (aa (pv 1) (aa (pv 2) ae))) ar) (fun _ _=>rfl)))
    (az (bi (i:=4) EH.nd rfl (Or.inl rfl) (aQ gO (eA (aa (dz ae) (aa (dz ae) (aa (dz ae) (aa (dz (aa (aU dr (aG dg hr rfl b8 bC.kp dh .nil av (aa (pv 1) (aa (aU gu (pv 2) ar) ae))) ar) ae)) ae))))) (aU dr (aG dg hr rfl b8 bC.kp dh .nil av (aa (pv 1) (aa (aU gu (pv 2) ar) ae))) ar) (fun _ _=>rfl)))
    (az (bi (i:=5) EH.nd rfl (Or.inl rfl) (aQ gO (eA (aa eh (aa eh (aa eh (aa (dz (aa (aU gu ar (aU dr (aG dg hr rfl b8 bC.kp dh .nil av (aa (pv 1) (aa (aU gu (pv 2) ar) ae))) ar)) ae)) ae))))) (aU dr (aG dg hr rfl b8 bC.kp dh .nil av (aa (pv 1) (aa (aU gu (pv 2) ar) ae))) ar) (fun _ _=>rfl)))
    (aB (aO (dz (aa (pv 3) (aa (pv 4) (aa (pv 5) ae))))))))),?_⟩
   refine pp ?_;intro dD sS kH eS dM;refine⟨_,rfl,_,rfl,_,rfl,na,_,rfl,af.of lr,fun p1 H1 n1 s1 e1=>?_⟩;rw[B5,GW (by decide)]at e1;have t5:(xs.take (5:Int).toNat).length=5:=by rw[db,hN.len];rfl
   refine⟨na,p1,_,_,rfl,rfl,s1 _ _ lr,e1,kz (by rw[au,au,t5,hN.len];decide),fun p2 H2 n2 s2 e2=>?_⟩;refine⟨(by show 1<=sizeLine;decide),fun p3 H3 n3 s3 e3=>?_⟩;refine⟨p2,p3,_,_,rfl,rfl,s3 _ _ e2,e3,kz (by rw[bc,au,au,t5,hN.len];decide),fun p4 H4 n4 s4 e4=>?_⟩;have El:H4 p4=some (.lst ((xs++xs.take (5:Int).toNat++[EG]).map V.str)):=by rw[e4,dU,dU];rfl
   refine⟨_,rfl,_,rfl,c,k,rfl,by omega,by omega,fun d0 _=>?_⟩;obtain⟨z,hz,_⟩:=yb (xs:=xs++xs.take (5:Int).toNat++[EG]) (r:=d0 % 12) (by omega) (by rw[bc,bc,t5,hN.len];show _<((12:Nat):Int);omega);refine⟨_,_,rfl,rfl,(by show(0:Int)<12;decide),p4,_,_,_,rfl,rfl,af.of El,hz,?_⟩;refine⟨(by show 0<=sizeLine;decide),fun p5 H5 n5 s5 e5=>?_⟩;refine⟨(by show 0<=sizeLine;decide),fun p6 H6 n6 s6 e6=>?_⟩;refine⟨(by show 0<=sizeLine;decide),fun p7 H7 n7 s7 e7=>?_⟩;refine⟨_,rfl,_,rfl,_,_,rfl,rfl,_,_,rfl,by omega,by omega,fun d2 _=>?_⟩;refine⟨_,_,rfl,rfl,(by show(0:Int)<3;decide),(by show 1<=sizeLine;decide),fun p8 H8 n8 s8 e8=>?_⟩;refine⟨(by show 4<=sizeLine;decide),fun p9 H9 n9 s9 e9=>?_⟩;refine⟨_,rfl,_,rfl,_,_,rfl,rfl,_,_,rfl,by omega,by omega,fun d3 _=>?_⟩;have s69:=((s6.trans s7).trans s8).trans s9;obtain⟨lv,K0,l,ls,rfl,hl⟩:=Qk (a:=.ref p5) (b:=.ref p6) (c:=.ref p7) (d:=.ref p8) d3 (R:=fun v=>∃l ls,v = .ref l/\H9 l=some (.tup (ls.map V.int))) ⟨_,[],rfl,s69 _ _ e5⟩ ⟨_,[],rfl,((s7.trans s8).trans s9) _ _ e6⟩ ⟨_,[],rfl,(s8.trans s9) _ _ e7⟩ ⟨_,[_],rfl,s9 _ _ e8⟩;refine⟨_,_,rfl,rfl,(by show(0:Int)<4;decide),p9,_,_,_,rfl,rfl,af.of e9,K0,?_⟩;refine⟨_,rfl,_,rfl,_,_,rfl,rfl,_,_,rfl,by omega,by omega,fun d4 _=>?_⟩;refine⟨_,_,rfl,rfl,(by show(0:Int)<3;decide),_,_,rfl,rfl,(by show 1<=sizeLine;decide),fun qp iS wF fJ jm=>?_⟩;refine⟨(by show 4<=sizeLine;decide),fun K1 EI Sz bW my=>?_⟩;refine⟨_,rfl,_,rfl,_,_,rfl,rfl,_,_,rfl,by omega,by omega,fun d5 _=>?_⟩;obtain⟨bv,K2,bl,hb⟩:=Qk (a:=.non) (b:=.non) (c:=.non) (d:=.ref qp) d5 (R:=fun v=>∃bl,cZ EI v bl) ⟨none,rfl⟩ ⟨none,rfl⟩ ⟨none,rfl⟩ ⟨some [_],_,rfl,bW _ _ jm⟩;refine⟨_,_,rfl,rfl,(by show(0:Int)<4;decide),K1,_,_,_,rfl,rfl,af.of my,K2,?_⟩;refine⟨_,rfl,_,rfl,_,rfl,(by show 3<=sizeLine;decide),fun As EJ SA bI wG=>?_⟩;have aor:=(fJ.trans bW).trans bI;refine q _ _ ⟨z,ls,bl⟩ (((((((((((s1.trans s2).trans s3).trans s4).trans s5).trans s6).trans s7).trans s8).trans s9).trans fJ).trans bW).trans bI) ⟨As,l,bv,rfl,wG,aor _ _ hl,hb.same bI⟩
end
def lG(H:Hp)(v:V)(p:aS):Prop:=∃t m fa na sa oa fx,v = .ref t/\H t=some (.tup [.str p.nm,.ref m,.int p.rk,.ref fa,.ref na,.ref sa,.ref oa])/\H m=some (.tup (p.ms.map V.int)) /\
 H fa=some (.lst fx)/\Paired (fU H) fx p.fs/\iM H na p.ns/\iM H sa p.ss/\H oa=some (.lst (p.os.map V.str))
theorem lG.same{H H':Hp}(s:ag H H'){v:V}{p:aS}(h:lG H v p):lG H' v p:=by
 obtain⟨t,m,fa,na,sa,oa,fx,e,h1,h2,h3,h4,h5,h6,h7⟩:=h;exact⟨t,m,fa,na,sa,oa,fx,e,s _ _ h1,s _ _ h2,s _ _ h3,aM h4 (fun _ _=>fU.same s),h5.same s,h6.same s,s _ _ h7⟩
theorem jC.over{H H':Hp}{L:List Addr}(h:jC H L)(s:ag H H'):jC H' L:=fun b hb=>(h b hb).elim fun o aos=>aos.elim fun e q=>⟨o,s _ _ e,q⟩
theorem iM.msk{H:Hp}{L:List Addr}(hL:jC H L){a:Addr}{cs:List dB}(n:a∉L)(h:iM H a cs):iM (msk L H) a cs:=h.elim fun ys aot=>aot.elim fun e p=>⟨ys,ij n e,aM p fun _ _=>dL.msk hL (ag.refl _)⟩
abbrev mz (H:Hp):Lv->Lp->Prop:=Paired (lG H)
theorem mz.same{H H':Hp}(s:ag H H'){vs:Lv}{ps:Lp}(h:mz H vs ps):mz H' vs ps:=aM h fun _ _=>lG.same s
def oG:List Int->Int
 | []=>-1
 | [a]=>a
 | _::a::_=>a
structure Good(p:aS):Prop where
 few:lj p
 nm:ie p.nm
 pt:∀x∈bu p,ie x
theorem dL.mut{H:Hp}{p:Addr}{ys:Lv}{o:HO}(hp:H p=some (.lst ys)){v:V}{c:dB}(h:dL H v c):dL (aj H p o) v c:=by
 obtain⟨t,l,b,e,h1,h2,h3⟩:=h;refine⟨t,l,b,e,aW h1 (eP h1 hp (by intro z;cases z)),aW h2 (eP h2 hp (by intro z;cases z)),?_⟩;cases hb:c.bl with
 | none=>rw[hb]at h3;exact h3
 | some bs=>
  rw[hb]at h3;obtain⟨a,e1,e2⟩:=h3;exact⟨a,e1,aW e2 (eP e2 hp (by intro z;cases z))⟩
def qr:Ls:=["a","a/b","zz"]
theorem aou:qr.Nodup:=by decide +kernel
theorem aov:∀x∈qr,ie x:=by decide +kernel
def mB(d:Int)(i:Nat):Str:=qr.getD ((d+i) % 3).toNat Str.empty
theorem aow(d:Int)(i:Nat):mB d i∈qr:=by
 have h:((d+i) % 3).toNat<qr.length:=by show _<3;omega
 unfold mB;rw[hU,cJ h];exact xj h
theorem aox{d:Int}{i j:Nat}(gQ:i<j)(hj:j<3):mB d i≠mB d j:=by
 have h1:((d+i) % 3).toNat<qr.length:=by show _<3;omega
 have h2:((d+j) % 3).toNat<qr.length:=by show _<3;omega
 unfold mB;rw[hU,hU,cJ h1,cJ h2];intro z;have:=(Fq aou).mp z;omega
theorem aoy(d:Int)(i:Nat):bT (qr.map V.str) ((d+i) % 3)=some (.str (mB d i)):=by
 obtain⟨z,h1,h2⟩:=yb (xs:=qr) (r:=(d+i) % 3) (by omega) (by show _<((3:Nat):Int);omega);rw[h1];unfold mB;rw[hU,h2];rfl
structure Au(d:Int)(fs:List (Str×Ls))(i:Nat):Prop where
 len:fs.length=i
 at_:fs.map (·.1)=(List.range i).map (mB d)
theorem aoz{d:Int}{fs:List (Str×Ls)}{i:Nat}(h:Au d fs i)(hi:i<=3):(fs.map (·.1)).Nodup:=by
 rw[h.at_];refine xm.mpr ((List.pairwise_lt_range (n:=i)).imp_of_mem fun {a b} ha hb ku=>aox ku ?_);have:=g9.mp hb;omega
theorem aoA{d:Int}{fs:List (Str×Ls)}{i:Nat}(h:Au d fs i):∀x∈fs.map (·.1),ie x:=by
 rw[h.at_];intro x hx;obtain⟨j,_,rfl⟩:=be.mp hx;exact aov _ (aow d j)
theorem aoB{d:Int}{fs:List (Str×Ls)}{i:Nat}(h:Au d fs i)(ls:Ls):Au d (fs++[(mB d i,ls)]) (i+1):=
 ⟨by rw[bc,h.len];rfl,by rw[dU,h.at_,MI,dU];rfl⟩
def xS:Str:="x"
theorem SD{H:Hp}:∀{ys:Lv} {fs:List (Str×Ls)},Paired (fU H) ys fs->∀v∈ys,∃a,v=V.ref a
 | _,_,.nil,v,hv=>by cases hv
 | _,_,.cons h r,v,hv=>by
  rcases bw.mp hv with e | e
  . obtain⟨t,l,e',_⟩:=h;exact⟨t,e.trans e'⟩
  . exact SD r v e
theorem SE{L:List Addr}{H:Hp}{D b:Addr}{x o:HO}(h:msk L H b=some o)(n:b≠D):msk L (aj H D x) b=some o:=by
 unfold msk at h ⊢;split at h
 . cases h
 . rename_i hn;rw[ah hn];exact aW h n
theorem SF{L:List Addr}{H:Hp}{D:Addr}{ys zs:Lv}(hD:H D=some (.lst ys))(hy:∀v∈ys,∃a,v=V.ref a):∀{xs:Lv} {fs:List (Str×Ls)},Paired (fU (msk L H)) xs fs->(∀f∈fs,f.2 = [xS])->Paired (fU (msk L (aj H D (.lst zs)))) xs fs
 | _,_,.nil,_=>.nil
 | _,_,.cons h r,hf=>by
  refine .cons ?_ (SF hD hy r fun f hf'=>hf f (cy _ hf'));obtain⟨t,l,e,h1,h2⟩:=h;refine⟨t,l,e,SE h1 fun z=>?_,SE h2 fun z=>?_⟩
  . have:=vK _ _ h1;rw[z,hD]at this;cases this
  . have:=vK _ _ h2;rw[z,hD,hf _ cD]at this;injection this with this
    injection this with this
    obtain⟨a,ea⟩:=hy (.str xS) (by rw[this];exact cD);cases ea
section
variable {P:Program} {w:World} {K:Fg} {mg:Mv} {base:Heap}
def SG:Sp:=fun vs H Q _=>∃(na:Addr) (c at_:Int) (xs:Ls),vs = [.ref na,.int c,.int at_]/\H na=some (.lst (xs.map V.str))/\Dd xs/\∀v H' p,ag H H'->(∀L,jC H L->lG (msk L H') v p)->Good p->oG p.ms=at_->p.nm∈xs.take 4->Q v H'
theorem uu:bh [atK,atH,avc,"_law_make","_law_files","_law_needs","_law_shuts","_law_offers",aub] [atK,atH,avc] (aI C2):=⟨rfl,rfl,rfl,by decide +kernel,rfl,by decide +kernel,by decide +kernel⟩
theorem aoD{f fq uv:Addr}{fd iL Aw:Fy}(F:ai K auN auN C2 f fd)(B:bX mg)(bC:ai K atY atY pM fq iL)(b8:mg atY = some (.ref fq))(rP:ai K aup aup y6 uv Aw)(wH:mg aup = some (.ref uv)) :
 ak P w K mg base ao 3 f fd [atK,atH,avc] SG:=by
 have dg:ak P w K mg base ao 1 fq iL [atH,atO] vJ:=y7 bC;have dh:=bC.binds2 (l:=[atH,atO]) (fun _ _ _ _ _ _ _ _=>rfl);have SH:ak P w K mg base ao 2 uv Aw [atK,atH,atO] Sy:=aop rP bC b8;have SI:=rP.binds3 (l:=[atK,atH,atO]) (fun _ _ _ _ _ _ _ _ _=>rfl);refine F.ok uu (fun vs H Q E h=>?_) (fun aF A outer s H vs Q E hr h=>?_)
 . obtain⟨na,c,at_,xs,rfl,_⟩:=h;rfl
 . refine bo ?_;intro xX dX;obtain⟨na,c,at_,xs,rfl,lr,hN,q⟩:=h;have fD:=hr.mono (j:=1) (by decide);refine⟨_,(az (bi (i:=3) uu.nd rfl (Or.inl rfl) (eA (aa (dz (aa (pv 2) ae)) (aa (dz (aa (aU dr (aG dg fD rfl b8 bC.kp dh .nil av (aa (pv 1) (aa ar ae))) ar) (aa (pv 2) ae))) (aa (dz (aa (aU dr (aG dg fD rfl b8 bC.kp dh .nil av (aa (pv 1) (aa ar ae))) ar) (aa (pv 2) (aa (aU dr (aG dg fD rfl b8 bC.kp dh .nil av (aa (pv 1) (aa ar ae))) (aU XS ar ar)) ae)))) ae)))))
    (az (ny (i:=4) [atO] [atH] [1] uu.nd rfl rfl ⟨rfl,by decide +kernel,by decide +kernel,by decide +kernel,by decide +kernel,rfl,rfl,rfl⟩ rfl (o0 rfl B.range (aa (aU Gm (aU dr (aG dg fD rfl b8 bC.kp dh .nil av (aa (pv 1) (aa ar ae))) ar) ar) ae)) (fun _ _ _ _=>(aT (i:=0) (show List.Nodup ([atO,atH]:Ls) by decide +kernel) rfl (Or.inl rfl))) (fun _ _ _ _=>fh) (fun _ _ _ _=>(dz (aa (aQ (GX K) (eA (aa gL (aa gL (aa gL ae)))) (aU dr (aU gu (aG dg fD rfl b8 bC.kp dh .nil av (aa (pv 1) (aa ar ae))) (pv 0)) ar) (fun _ _=>rfl)) (aa (eA (aa gL ae)) ae)))))
    (az (ny (i:=5) [atO] [atK,atH] [0,1] uu.nd rfl rfl ⟨rfl,by decide +kernel,by decide +kernel,by decide +kernel,by decide +kernel,rfl,rfl,rfl⟩ rfl (o0 rfl B.range (aa (aU dr (aG dg fD rfl b8 bC.kp dh .nil av (aa (pv 1) (aa ar ae))) ar) ae)) (fun _ _ _ _=>(aT (i:=0) (show List.Nodup ([atO,atK,atH]:Ls) by decide +kernel) rfl (Or.inl rfl))) (fun _ _ _ _=>fh) (fun _ _ _ _=>(aG SH hr rfl wH rP.kp SI .nil av (aa (pv 1) (aa (pv 2) (aa (aU gu ar (aU qK ar (pv 0))) ae))))))
    (az (ny (i:=6) [atO] [atK,atH] [0,1] uu.nd rfl rfl ⟨rfl,by decide +kernel,by decide +kernel,by decide +kernel,by decide +kernel,rfl,rfl,rfl⟩ rfl (o0 rfl B.range (aa (aU Gm (aU dr (aG dg fD rfl b8 bC.kp dh .nil av (aa (pv 1) (aa ar ae))) ar) ar) ae)) (fun _ _ _ _=>(aT (i:=0) (show List.Nodup ([atO,atK,atH]:Ls) by decide +kernel) rfl (Or.inl rfl))) (fun _ _ _ _=>fh) (fun _ _ _ _=>(aG SH hr rfl wH rP.kp SI .nil av (aa (pv 1) (aa (pv 2) (aa (aU gu ar (aU qK ar (pv 0))) ae))))))
    (az (bi (i:=7) uu.nd rfl (Or.inl rfl) (xJ x6 (dw [atO] [atK,atH] [0,1] ⟨rfl,by decide +kernel,by decide +kernel,by decide +kernel,by decide +kernel,rfl,rfl,rfl⟩ rfl (o0 rfl B.range (aa ar ae)) (fun _ _ _ _=>(aT (i:=0) (show List.Nodup ([atO,atK,atH]:Ls) by decide +kernel) rfl (Or.inl rfl))) (fun _ _ _ _=>ig (bA eQ (aU dr (aG dg fD rfl b8 bC.kp dh .nil av (aa (pv 2) (aa (aU gu ar (pv 0)) ae))) ar) ar (ba _))) (fun _ _ _ _=>(aQ (GX K) (pv 1) (aU gu ar (pv 0)) (fun _ _=>rfl)))) BV (vb ar)))
    (az (bi (i:=8) uu.nd rfl (Or.inl rfl) (aQ gO (pv 0) (aU dr (aG dg fD rfl b8 bC.kp dh .nil av (aa (pv 1) (aa ar ae))) ar) (fun _ _=>rfl)))
    (aB (aO (dz (aa (pv 8) (aa (aQ gO (pv 3) (aU dr (aG dg fD rfl b8 bC.kp dh .nil av (aa (pv 1) (aa ar ae))) ar) (fun _ _=>rfl)) (aa ar (aa (pv 4) (aa (pv 5) (aa (pv 6) (aa (pv 7) ae)))))))))))))))),?_⟩
   refine Ot ?_
   intros
   refine⟨_,rfl,(by show 1<=sizeLine;decide),fun p1 H1 n1 s1 e1=>?_⟩;refine⟨_,rfl,_,_,rfl,by decide,by decide,fun d1 _=>?_⟩;refine⟨_,_,rfl,rfl,(by show(0:Int)<3;decide),_,rfl,(by show 2<=sizeLine;decide),fun p2 H2 n2 s2 e2=>?_⟩;refine⟨_,rfl,_,_,rfl,by decide,by decide,fun d2 _=>?_⟩;refine⟨_,_,rfl,rfl,(by show(0:Int)<3;decide),_,rfl,_,rfl,_,_,rfl,by decide,by decide,fun d3 _=>?_⟩;refine⟨_,_,rfl,rfl,⟨by decide,by decide,by decide⟩,_,_,rfl,rfl,(by show(0:Int)<10 ^ (9:Int).toNat;decide),(by show 3<=sizeLine;decide),fun p3 H3 n3 s3 e3=>?_⟩;refine⟨(by show 3<=sizeLine;decide),fun p4 H4 n4 s4 e4=>?_⟩;have eI:=((s1.trans s2).trans s3).trans s4;have K3:∀m,m=V.ref p1\/m=V.ref p2\/m=V.ref p3->∃a ms,m = .ref a/\H4 a=some (.tup (ms.map V.int))/\oG ms=at_:=fun m hm=>by
    rcases hm with rfl | rfl | rfl
    . exact⟨p1,[at_],rfl,((s2.trans s3).trans s4) _ _ e1,rfl⟩
    . exact⟨p2,[_,at_],rfl,(s3.trans s4) _ _ e2,rfl⟩
    . exact⟨p3,[_,at_,_],rfl,s4 _ _ e3,rfl⟩
   refine⟨_,rfl,_,_,rfl,by decide,by decide,fun d4 _=>?_⟩;refine⟨_,_,rfl,rfl,(by show(0:Int)<5;decide),_,_,rfl,rfl,⟨by omega,by omega⟩,d4 % 5 / 2,rfl,by omega,by omega,?_⟩;refine vj (σ0:=[none,some (.int c)]) (fun σ=>∃v,σ = [v,some (.int c)]) (fun i ys H8=>∃fs:List (Str×Ls),(∀L,jC H L->Paired (fU (msk L H8)) ys fs)/\Au (Qm c 5) fs i/\∀f∈fs,f.2 = [xS]) ⟨_,rfl⟩ (fun _ _=>⟨[],fun _ _=>.nil,⟨rfl,rfl⟩,fun f h=>(by cases h)⟩) ?_ ?_
   . intro D i ys σ H8 k hD hi hS hd hs hP hk;refine b0 ?_;intro tT;obtain⟨v,rfl⟩:=hS;obtain⟨fs,pf,SJ,fx⟩:=hP;have p0:=pf [] fun b hb=>(by cases hb);have Ek:=aK p0;have fl:=SJ.len;have yr:=SD p0;refine⟨(by show 3<=sizeLine;decide),fun p7 H9 n9 s9 e9=>?_⟩;refine⟨_,rfl,_,_,rfl,by decide,by decide,fun d5 ip=>?_⟩;have hpa:=aoy d5 i;refine⟨_,rfl,_,_,rfl,rfl,_,_,rfl,rfl,(by show(0:Int)<3;decide),p7,_,_,_,rfl,rfl,af.of e9,(by rw[show(0:Int)+(i:Int)=(i:Int) by omega];exact hpa),?_⟩;refine⟨(by show 1<=sizeLine;decide),fun p8 iS wF fJ jm=>?_⟩;refine⟨(by show 2<=sizeLine;decide),fun p9 uw EK wI Ax=>?_⟩;have K4:=(s9.trans fJ).trans wI;have aoF:=K4 _ _ hd;have f8:H p8=none:=eI.free (hs.free (s9.free wF));have f9:H p9=none:=eI.free (hs.free ((s9.trans fJ).free EK));refine hk _ _ _ ⟨_,rfl⟩ K4 (bj (by omega)) ⟨fs++[(mB d5 i,[xS])],fun L hL=>?_,by rw[ip];exact aoB SJ _,fun f hf=>?_⟩
     . have nx:Paired (fU (msk L uw)) (ys++[.ref p9]) (fs++[(mB d5 i,[xS])]):=dj ⟨p9,p8,rfl,ij (hL.free f9) Ax,ij (hL.free f8) (wI _ _ jm)⟩ (aM (pf L hL) fun _ _=>fU.same (vL K4));refine SF aoF yr nx fun f hf=>?_
       rcases eg.mp hf with z | z
       . exact fx f z
       . rw[cE.mp z]
     . rcases eg.mp hf with z | z
       . exact fx f z
       . rw[cE.mp z]
   . intro fa fx H5 fn md s5 hP;obtain⟨fs,lq,hok,_⟩:=hP;have rQ:=eI.trans s5;refine⟨_,rfl,_,_,rfl,by decide,by decide,fun d7 _=>?_⟩;refine⟨_,_,rfl,rfl,(by show(0:Int)<3;decide),d7 % 3,rfl,by omega,by omega,?_⟩;refine vj (σ0:=[none,some (.ref na),some (.int c)]) (fun σ=>∃v,σ = [v,some (.ref na),some (.int c)]) (fun i ys H8=>∃cs:List dB,Paired (dL H8) ys cs/\cs.length=i) ⟨_,rfl⟩ (fun _ _=>⟨[],.nil,rfl⟩) ?_ ?_
     . intro D i ys σ H8 k hD hi hS hd hs hP hk;refine b0 ?_;intro tT;obtain⟨v,rfl⟩:=hS;obtain⟨cs,gk,iG⟩:=hP;have Ek:=aK gk;refine⟨_,rfl,_,rfl,_,rfl,_,_,rfl,rfl,.inl ⟨by omega,by omega⟩,_,_,rfl,rfl,na,c,_,xs,rfl,by omega,by omega,(rQ.trans hs) _ _ lr,hN,fun v' H9 cl s9 K5=>?_⟩;have Ay:=s9 _ _ hd;exact hk _ _ _ ⟨_,rfl⟩ s9 (bj (by omega)) ⟨cs++[cl],dj (K5.mut Ay) (aM gk fun _ _ z=>(z.same s9).mut Ay),by rw[bc,iG];rfl⟩
     . intro pn yn H6 pnn rq s6 hP;obtain⟨cn,ud,iG⟩:=hP;have ud:iM H6 pn cn:=⟨yn,rq,ud⟩;have aoH:cn.length<=2:=by omega
       have lH:=rQ.trans s6;refine⟨_,rfl,_,_,rfl,by decide,by decide,fun d8 _=>?_⟩;refine⟨_,_,rfl,rfl,(by show(0:Int)<5;decide),_,_,rfl,rfl,⟨by omega,by omega⟩,d8 % 5 / 2,rfl,by omega,by omega,?_⟩;refine vj (σ0:=[none,some (.ref na),some (.int c)]) (fun σ=>∃v,σ = [v,some (.ref na),some (.int c)]) (fun i ys H8=>∃cs:List dB,Paired (dL H8) ys cs/\cs.length=i) ⟨_,rfl⟩ (fun _ _=>⟨[],.nil,rfl⟩) ?_ ?_
       . intro D i ys σ H8 k hD hi hS hd hs hP hk;refine b0 ?_;intro tT;obtain⟨v,rfl⟩:=hS;obtain⟨cs,gk,iG⟩:=hP;have Ek:=aK gk;refine⟨_,rfl,_,rfl,_,rfl,_,_,rfl,rfl,.inl ⟨by omega,by omega⟩,_,_,rfl,rfl,na,c,_,xs,rfl,by omega,by omega,(lH.trans hs) _ _ lr,hN,fun v' H9 cl s9 K5=>?_⟩;have Ay:=s9 _ _ hd;exact hk _ _ _ ⟨_,rfl⟩ s9 (bj (by omega)) ⟨cs++[cl],dj (K5.mut Ay) (aM gk fun _ _ z=>(z.same s9).mut Ay),by rw[bc,iG];rfl⟩
       . intro ps yp H8 psn bf s8 hP;obtain⟨cs,gk,atl⟩:=hP;have gk:iM H8 ps cs:=⟨yp,bf,gk⟩;have aoJ:cs.length<=2:=by omega
         have SK:=s6.trans s8;have s48:=s5.trans SK;have mC:=lH.trans s8;refine⟨3,rfl,by omega,by omega,?_⟩;refine Ob (σ0:=[none,some (.ref na),some (.int c)]) (fun σ=>∃v,σ = [v,some (.ref na),some (.int c)]) (fun i ys _=>∃os:Ls,ys=os.map V.str/\os.length<=i) ⟨_,rfl⟩ (fun _ _=>⟨[],rfl,aH _⟩) ?_ ?_
         . intro D i ys σ H9 k k' hD hi hS hd hs hP hk dA;refine b0 ?_;intro tT;obtain⟨v,rfl⟩:=hS;obtain⟨os,rfl,vv⟩:=hP;have hi3:i<3:=by simpa using hi
           refine⟨_,rfl,_,rfl,_,_,rfl,rfl,_,_,rfl,by omega,by omega,fun d9 _=>?_⟩;refine⟨_,_,rfl,rfl,(by show(0:Int)<3;decide),rfl,_,rfl,?_⟩;refine aJ (fun h=>?_) (fun h=>?_)
           . obtain⟨z,hz,_⟩:=yb (xs:=xs) (r:=3+(0+(i:Int))) (by omega) (by rw[hN.len];show _<((6:Nat):Int);omega);refine⟨_,rfl,_,rfl,_,_,rfl,rfl,na,_,_,_,rfl,rfl,af.of ((mC.trans hs) _ _ lr),hz,?_⟩;exact hk _ _ _ ⟨_,rfl⟩ (ag.refl _) (bj (by rw[au];omega)) ⟨os++[z],Od os z,by rw[bc];exact FW vv⟩
           . exact dA _ _ ⟨_,rfl⟩ (ag.refl _) ⟨os,rfl,by omega⟩
         . intro D ys H9 hD hd hs hP;obtain⟨os,rfl,vv⟩:=hP;refine⟨_,rfl,D,_,rfl,af.of hd,fun qp iS wF fJ jm=>?_⟩;rw[B5]at jm;have t9:=hs.trans fJ;have t4:=s48.trans t9;refine⟨_,rfl,_,rfl,_,_,rfl,by decide,by decide,fun wJ _=>?_⟩;obtain⟨z,hz,Dh⟩:=yb (xs:=xs) (r:=wJ % 4) (by omega) (by rw[hN.len];show _<((6:Nat):Int);omega);refine⟨_,_,rfl,rfl,(by show(0:Int)<4;decide),na,_,_,_,rfl,rfl,af.of ((mC.trans t9) _ _ lr),hz,?_⟩;refine⟨_,rfl,_,rfl,_,rfl,_,_,rfl,by decide,by decide,fun d11 _=>?_⟩;obtain⟨mv,Az,ma,ms,rfl,SM,aoM⟩:=Iq (a:=.ref p1) (b:=.ref p2) (c:=.ref p3) d11 (R:=fun m=>∃a ms,m = .ref a/\iS a=some (.tup (ms.map V.int))/\oG ms=at_) (let ⟨a,ms,e1,e2,e3⟩:=K3 _ (.inl rfl);⟨a,ms,e1,t4 _ _ e2,e3⟩) (let ⟨a,ms,e1,e2,e3⟩:=K3 _ (.inr (.inl rfl));⟨a,ms,e1,t4 _ _ e2,e3⟩) (let ⟨a,ms,e1,e2,e3⟩:=K3 _ (.inr (.inr rfl));⟨a,ms,e1,t4 _ _ e2,e3⟩);refine⟨_,_,rfl,rfl,(by show(0:Int)<3;decide),p4,_,_,_,rfl,rfl,af.of (t4 _ _ e4),Az,_,rfl,_,rfl,_,rfl,_,rfl,(by show 7<=sizeLine;decide),fun As EJ SA bI wG=>?_⟩;have vm:=t9.trans bI;have B8:=SK.trans vm;refine q _ _ ⟨z,ms,0,fs,cn,cs,ya os none (some 2)⟩ ((mC.trans t9).trans bI) (fun L hL=>(have EL:=hL.over ((mC.trans t9).trans bI);⟨As,ma,fa,pn,ps,qp,fx,rfl,ij (EL.tup wG) wG,ij (EL.tup (bI _ _ SM)) (bI _ _ SM),ij (hL.free (eI.free fn)) (B8 _ _ md),aM (lq L hL) (fun _ _=>fU.same (vL B8)),iM.msk EL (hL.free (rQ.free pnn)) (ud.same (s8.trans vm)),iM.msk EL (hL.free (lH.free psn)) (gk.same vm),ij (hL.free ((mC.trans hs).free wF)) (bI _ _ jm)⟩)) ⟨⟨aoH,aoJ,?_,aoz hok (by omega)⟩,?_,aoA hok⟩ aoM ?_
           . show fs.length<=3;rw[hok.len];omega
           . exact hN.all z (eN Dh)
           . exact eN (i:=(wJ % 4).toNat) (by rw[List.getElem?_take,ap (by omega)];exact Dh)
end
structure qt(ps:Lp):Prop where
 len:ps.length<=6
 good:∀p∈ps,Good p
 rise:ps.Pairwise fun p q=>oG p.ms<oG q.ms
 four:∃ns:Ls,ns.length<=4/\∀p∈ps,p.nm∈ns
 mk0:∀p∈ps,0<=oG p.ms
 cnt:∀nm,(bp ps nm).length<=4
def AA(xs:List Int)(lo hi:Option Int):List Int:=(xs.drop (HT.fe xs.length 0 lo)).take (HT.fe xs.length xs.length hi - HT.fe xs.length 0 lo)
theorem aoN(xs:List Int)(lo hi:Option Int):o6 (xs.map V.int) lo hi=(AA xs lo hi).map V.int:=by
 unfold o6 AA;rw[au,UM,List.map_drop]
theorem aoO(xs:List Int):(AA xs (some 4) (some 10)).length<=6:=by
 unfold AA;rw[show(4:Int)=((4:Nat):Int) from rfl,show(10:Int)=((10:Nat):Int) from rfl,HT.GB,HT.GB,db];omega
theorem SN(ps:Lp)(p:aS)(nm:Str):bp (ps++[p]) nm=bp ps nm++(if p.nm=nm then [p.ms] else []):=by
 unfold bp;rw[FU,dU,FV,List.filter_nil]
 by_cases e:p.nm=nm
 . rw[aE e,ap e];rfl
 . rw[aR e,ah e];rfl
theorem EM{ps:Lp}{j:Nat}{o:aS}(h:ps[j]? = some o){nm:Str}:bp (ps.take (j+1)) nm=bp (ps.take j) nm++(if o.nm=nm then [o.ms] else []):=by
 rw[gB h,SN]
theorem qt.ok{ps:Lp}(h:qt ps):gD ps:=by
 refine⟨?_,fun p hp e=>?_,h.cnt,by have:=h.len;omega⟩
 . refine xm.mpr (h.rise.imp fun {p q} lt e=>?_);unfold eO at e;injection e with _ e
   injection e with e _
   injection e with e
   have:p.ms=q.ms:=(Vi fun a b z=>Sum.inl.inj z).mp e;rw[this]at lt;omega
 . have:=h.mk0 p hp;rw[e]at this;exact absurd this (by decide)
theorem qt.few{ps:Lp}(h:qt ps):∀p∈ps,lj p:=fun p hp=>(h.good p hp).few
theorem qt.names{ps:Lp}(h:qt ps){ys:Ls}(hN:fz ps ys):ys.length<=4:=by
 obtain⟨ns,h1,h2⟩:=h.four;refine bS (kC hN.nd fun z hz=>?_) h1;obtain⟨p,hp,e⟩:=be.mp ((hN.mem z).mp hz);rw[←e];exact h2 p hp
theorem aoP{ps:Lp}:∀{ys:Ls},ys.Nodup->(ys.map fun y=>(bp ps y).length).sum<=ps.length:=by
 induction ps with
 | nil=>
  intro ys _;have e:∀ys:Ls,(ys.map fun y=>(bp [] y).length).sum=0:=fun ys=>by
   induction ys with
   | nil=>rfl
   | cons y ys ih=>rw[b9,MY,ih];rfl
  rw[e ys];exact aH _
 | cons p ps ih=>
  intro ys nd;have e:∀y,(bp (p::ps) y).length=(bp ps y).length+if p.nm=y then 1 else 0:=fun y=>by
   unfold bp;rw[FV]
   by_cases z:p.nm=y
   . rw[ap (aE z),ap z];rfl
   . rw[ah (by simpa using z),ah z];rfl
  have k:∀{ys:Ls},ys.Nodup->(ys.map fun y=>(bp (p::ps) y).length).sum<=(ys.map fun y=>(bp ps y).length).sum+(if p.nm∈ys then 1 else 0):=by
   intro ys
   induction ys with
   | nil=>intro _;exact dO _
   | cons y ys ih2=>
    intro nd;obtain⟨n1,n2⟩:=jI.mp nd;have:=ih2 n2;rw[b9,b9,MY,MY,e]
    by_cases z:p.nm=y
    . have n3:p.nm∉ys:=z▸n1;rw[ah n3]at this;rw[ap z,ap (by rw[z];exact cD)];omega
    . rw[ah z]
      by_cases m:p.nm∈ys
      . rw[ap m]at this;rw[ap (cy _ m)];omega
      . rw[ah m]at this;rw[ah fun w=>m ((bw.mp w).resolve_left z)];omega
  have a:=k nd;have b:=ih nd;rw[bF];split at a<;>omega
theorem SO{ps:Lp}:∀(ys:Ls) (n:Int),0<=n->ys.foldl (gW ps) n<=n * 2 ^ (ys.map fun y=>(bp ps y).length).sum
 | [],n,_=>by simp
 | y::ys,n,hn=>by
  have c:((bp ps y).length+1:Nat)<=2 ^ (bp ps y).length:=Nat.lt_two_pow_self;have c':(((bp ps y).length+1:Nat):Int)<=2 ^ (bp ps y).length:=by exact_mod_cast c
  have e:gW ps n y<=n * 2 ^ (bp ps y).length:=Int.mul_le_mul_of_nonneg_left c' hn;have e0:0<=gW ps n y:=Int.mul_nonneg hn (Int.natCast_nonneg _);have ih:=SO (ps:=ps) ys (gW ps n y) e0;rw[U4,b9,MY,Int.pow_add,←Int.mul_assoc];exact Int.le_trans ih (Int.mul_le_mul_of_nonneg_right e (Int.pow_nonneg (by decide)))
theorem qt.width{ps:Lp}(h:qt ps){ys:Ls}(hN:fz ps ys):ys.foldl (gW ps) 1<=400:=by
 have a:=SO (ps:=ps) ys 1 (by decide);have b:=aoP (ps:=ps) hN.nd;have c:=h.len;have d:(2:Int) ^ (ys.map fun y=>(bp ps y).length).sum<=2 ^ 6:=by
  have:=Nat.pow_le_pow_right (n:=2) (by decide) (show(ys.map fun y=>(bp ps y).length).sum<=6 by omega);exact_mod_cast this
 have e:(2:Int) ^ 6=64:=rfl;omega
section
variable {P:Program} {w:World} {K:Fg} {mg:Mv} {base:Heap}
def SQ(K:Fg):Sp:=fun vs H Q _=>∃(a:Addr) (ns:List Int),vs = [.ref a]/\af K H a (ns.map V.int)/\∀l H' vs ps,H l=none->ag H H'->H' l=some (.lst vs)->mz H' vs ps->qt ps->Q (.ref l) H'
theorem wK:bh [atX,atK,"_law_cells","_law_found",atO,atW] [atX] (aI C3):=⟨rfl,rfl,rfl,by decide +kernel,rfl,by decide +kernel,by decide +kernel⟩
theorem aoR{f rR fq rS uv EN:Addr}{fd wL iL wM Aw K6:Fy}(F:ai K auH auH C3 f fd)(B:bX mg)(kN:ai K auc auc yZ rR wL)(qv:mg auc = some (.ref rR))(bC:ai K atY atY pM fq iL)(b8:mg atY = some (.ref fq))
 (oH:ai K aum aum y0 rS wM) (wN:mg aum = some (.ref rS)) (rP:ai K aup aup y6 uv Aw) (wH:mg aup = some (.ref uv)) (AB:ai K auN auN C2 EN K6) (K7:mg auN = some (.ref EN)) :
 ak P w K mg base ao 4 f fd [atX] (SQ K):=by
 have wO:ak P w K mg base ao 1 rR wL [atX,atO] (Ir K):=Ql kN B;have wP:=kN.binds2 (l:=[atX,atO]) (fun _ _ _ _ _ _ _ _=>rfl);have K8:ak P w K mg base ao 2 rS wM [atH] Iu:=Qo oH B bC b8;have K9:=oH.binds1 (l:=[atH]) (fun _ _ _ _ _ _ _=>rfl);have aoS:ak P w K mg base ao 3 EN K6 [atK,atH,avc] SG:=aoD AB B bC b8 rP wH;have aoT:=AB.binds3 (l:=[atK,atH,avc]) (fun _ _ _ _ _ _ _ _ _=>rfl);refine F.ok wK (fun vs H Q E h=>?_) (fun aF A outer s H vs Q E hr h=>?_)
 . obtain⟨a,ns,rfl,_⟩:=h;rfl
 . refine bo ?_;intro xX dX;obtain⟨a,ns,rfl,hA,q⟩:=h;have fD:=hr.mono (j:=1) (by decide);have iO:=hr.mono (j:=2) (by decide);refine⟨_,(az (bi (i:=1) wK.nd rfl (Or.inl rfl) (aG K8 iO rfl wN oH.kp K9 .nil av (aa (aG wO fD rfl qv kN.kp wP .nil av (aa (pv 0) (aa ar ae))) ae)))
    (az (bi (i:=2) wK.nd rfl (Or.inl rfl) (xJ x6 (pv 0) (vb ar) (vb ar)))
    (az (bi (i:=3) wK.nd rfl (Or.inl rfl) (eA ae))
    (az (gr hZ rfl (o0 rfl B.range (aa (bZ gy (by rfl) B.len hX (aa (pv 2) ae)) ae)) (aT (i:=4) wK.nd rfl (Or.inl rfl))
    (az (bi (i:=5) wK.nd rfl (Or.inr rfl) (aG aoS hr rfl K7 AB.kp aoT .nil av (aa (pv 1) (aa (aQ gO (pv 2) (pv 4) (fun _ _=>rfl)) (aa (pv 4) ae)))))
     (aB (cp (bA Gp (bZ gy (by rfl) B.len hX (aa (dw [auq] [atW] [5] ⟨rfl,by decide +kernel,by decide +kernel,by decide +kernel,by decide +kernel,rfl,rfl,rfl⟩ rfl (bJ (pv 3)) (fun _ _ _ _=>(aT (i:=0) (show List.Nodup ([auq,atW]:Ls) by decide +kernel) rfl (Or.inl rfl))) (fun _ _ _ _=>ig (bA eQ (aQ (lS K) (pv 0) ar (fun _ _=>rfl)) (aQ (lS K) (pv 1) ar (fun _ _=>rfl)) (ba _))) (fun _ _ _ _=>(pv 0))) ae)) ar (ba _))
     (aB (m9 (nt qD Vj Vk BW (pv 3) (aa (pv 5) ae)))) cr))))
    (aB (aO (pv 3))))))),?_⟩
   refine G2 ?_;intro dD sS Dk kH eS dM;refine⟨_,rfl,a,_,ns,rfl,by decide,hA,fun c0=>⟨_,rfl,fun l1 H1 xs n1 s1 e1 hN=>?_⟩⟩;refine⟨_,rfl,_,rfl,_,rfl,a,_,rfl,s1.seq hA,fun p2 H2 n2 s2 e2=>?_⟩;rw[aoN]at e2;have c6:=aoO ns;generalize AA ns (some 4) (some 10)=cs at e2 c6;refine⟨(by show 0<=sizeLine;decide),fun p3 H3 n3 s3 e3=>?_⟩;have bI:=(s1.trans s2).trans s3;have bW:=s1.trans s2;refine⟨_,rfl,p2,_,rfl,.inl (af.of (s3 _ _ e2)),((cs.map V.int).length:Int),rfl,by omega,by rw[au];omega,?_⟩;refine Ni (fun i σ H4=>∃(u v:Option V) (vs:Lv) (ps:Lp),σ = [some (.ref a),some (.ref l1),some (.ref p2),some (.ref p3),u,v]/\ag H2 H4/\H4 p3=some (.lst vs)/\mz (msk [p3] H4) vs ps/\ps.length<=i/\(∀p∈ps,Good p/\oG p.ms<i/\p.nm∈xs.take 4/\0<=oG p.ms)/\(∀nm,(bp ps nm).length<=4)/\ps.Pairwise fun p q=>oG p.ms<oG q.ms) ⟨none,none,[],[],rfl,s3,e3,.nil,aH _,(fun _ h=>nomatch h),(fun _=>dO _),.nil⟩ ?_ ?_
   . intro i σ H4 hi hQ;refine b0 ?_;intro tT;obtain⟨u,v,vs,ps,rfl,s4,e4,h4,pl,pg,pc,pm⟩:=hQ;have lc:i<cs.length:=by
      rw[au]at hi;omega
     obtain⟨z,hz,_⟩:=N1 (ns:=cs) (r:=0+(i:Int)) (by omega) (by omega);refine⟨_,rfl,_,rfl,_,rfl,p2,_,_,_,rfl,rfl,af.of (s4 _ _ e2),hz,_,rfl,l1,z,_,xs,rfl,(s2.trans s4) _ _ e1,hN,fun v5 H5 p s5 h5 g5 m5 n5=>?_⟩;have b3:jC H4 [p3]:=fun b hb=>by
      rw[cE.mp hb];exact⟨_,e4,by intro vs z;cases z⟩
     have ux:=h5 [p3] b3;obtain⟨t,m,fa,na,sa,oa,fx,rfl,ht,_⟩:=ux.same vK;refine⟨_,rfl,p3,rfl,⟨_,af.of (s5 _ _ e4)⟩,?_⟩;intro D hD;have vl:=aK h4;refine jD (σ0:=[none,some (.ref t)]) hD (af.of (s5 _ _ e4)) (fun σ=>∃v,σ = [v,some (.ref t)]) (fun j zs _=>zs.length<=j/\zs.length=(bp (ps.take j) p.nm).length) ⟨_,rfl⟩ ⟨aH _,rfl⟩ ?_ ?_
     . rintro j y zs σ H6 k k' hy ⟨v,rfl⟩ rN h6 ⟨zl,zc⟩ cG gU;obtain⟨o,ho,hE⟩:=bD h4 hy;have aD:=(bH.mp ho).1;obtain⟨t',m',AC,La,Lb,Le,vQ,rfl,yR,_⟩:=hE.same vK;refine⟨_,rfl,t',_,_,_,rfl,rfl,aw.of (h6 _ _ (s5 _ _ yR)),rfl,_,rfl,t,_,_,_,rfl,rfl,aw.of (h6 _ _ ht),rfl,rfl,_,rfl,?_⟩;refine aJ (fun h=>?_) (fun h=>?_)
       . exact⟨_,rfl,cG _ _ _ ⟨_,rfl⟩ (ag.refl _) (bj (by omega)) ⟨by rw[bc,mV];omega,by rw[EM ho,ap (by have z:=bd h;injection z),bc,bc,zc];rfl⟩⟩
       . exact gU _ _ ⟨_,rfl⟩ (ag.refl _) ⟨by omega,by rw[EM ho,ah (fun z=>h (by rw[z];exact aE rfl)),dG,zc]⟩
     . rintro zs H6 rN h6 ⟨zl,zc⟩;rw[uO (by omega)]at zc;refine⟨D,_,rfl,.inl (af.of rN),_,_,rfl,rfl,_,rfl,?_⟩;have uy:=s5.trans h6;have e6:=uy _ _ e4;refine aJ (fun h=>?_) (fun h=>?_)
       . refine⟨_,rfl,.inl ⟨rfl,_,af.of e6⟩,_,rfl,p3,_,_,rfl,rfl,e6,bj (by omega),?_⟩;refine⟨_,_,_,ps++[p],rfl,j5 n3 (s4.trans uy),aP,?_,by rw[bc];exact FW pl,fun p' cC=>?_,fun nm=>?_,?_⟩
         . rw[QB cD];exact dj (ux.same (vL h6)) (h4.same (vL uy))
         . rcases eg.mp cC with z | z
           . obtain⟨a1,a2,a3⟩:=pg p' z;exact⟨a1,by omega,a3⟩
           . rw[cE.mp z];exact⟨g5,by rw[m5];omega,n5,by rw[m5];omega⟩
         . rw[SN]
           by_cases e:p.nm=nm
           . have h':((zs.length:Nat):Int)<4:=bd h;rw[ap e,bc,←e,←zc];show zs.length+1<=4;omega
           . rw[ah e,dG];exact pc nm
         . refine List.pairwise_append.mpr ⟨pm,MX _ _,fun p' cC q hq=>?_⟩;rw[cE.mp hq,m5];have:=(pg p' cC).2.1;omega
       . refine⟨_,_,vs,ps,rfl,s4.trans uy,e6,h4.same (vL uy),by omega,fun p' cC=>?_,pc,pm⟩;obtain⟨a1,a2,a3⟩:=pg p' cC;exact⟨a1,by omega,a3⟩
   . intro σ H4 hQ;obtain⟨u,v,vs,ps,rfl,s4,e4,h4,pl,pg,pc,pm⟩:=hQ;refine⟨_,rfl,q p3 H4 vs ps (bW.free n3) (bW.trans s4) e4 (h4.same vK) ⟨?_,fun p hp=>(pg p hp).1,pm,⟨xs.take 4,by rw[db];omega,fun p hp=>(pg p hp).2.2.1⟩,fun p hp=>(pg p hp).2.2.2,pc⟩⟩;have:ps.length<=cs.length:=by
      refine bS pl ?_;rw[au];omega
     omega
def SR(C:Addr):Sp:=fun vs H Q _=>∃(v:V) (p:aS),vs = [v]/\lG H v p/\p.fs.length<=9/\∀x H',H x=none->ag H H'->(∀L,jC H L->gT C (msk L H') (.ref x) p)->Q (.ref x) H'
theorem aoU:bh [atW] [atW] (aI C4):=⟨rfl,rfl,rfl,by decide +kernel,rfl,by decide +kernel,by decide +kernel⟩
theorem aoV{f uz C:Addr}{fd AD:Fy}(F:ai K auY auY C4 f fd)(B:bX mg)(T:Txt K mg C)(M:Mk K C uz)(EO:ai K "__init__" "Parcel.__init__" rh uz AD):ak P w K mg base ao 3 f fd [atW] (SR C):=by
 have aoW:ak P w K mg base ao 1 uz AD [atG,atE,atQ,aua,at8,aud,auw,auO] (Iz K C):=akh EO T B.list;have aoX:=EO.binds8 (l:=[atG,atE,atQ,aua,at8,aud,auw,auO]) (fun _ _ _ _ _ _ _ _ _ _ _ _ _ _=>rfl);refine F.ok aoU (fun vs H Q E h=>?_) (fun aF A outer s H vs Q E hr h=>?_)
 . obtain⟨v,p,rfl,_⟩:=h;rfl
 . refine bo ?_;intro xX dX;obtain⟨v,p,rfl,⟨t,m,fa,na,sa,oa,fx,rfl,h1,h2,h3,h4,⟨nx,h5,ux⟩,⟨sx,h6,EQ⟩,h7⟩,h9,q⟩:=h;refine⟨_,(aB (aO (uZ M aoW hr rfl T.mgC aoX .nil av (aa (aQ bO (pv 0) ar (fun _ _=>rfl)) (aa (aQ bO (pv 0) ar (fun _ _=>rfl)) (aa (aQ bO (pv 0) ar (fun _ _=>rfl)) (aa (gh sL (by rfl) B.list oS (aa (aQ bO (pv 0) ar (fun _ _=>rfl)) ae)) (aa (gh sL (by rfl) B.list oS (aa (aQ bO (pv 0) ar (fun _ _=>rfl)) ae)) (aa (gh sL (by rfl) B.list oS (aa (aQ bO (pv 0) ar (fun _ _=>rfl)) ae)) (aa (gh sL (by rfl) B.list oS (aa (aQ bO (pv 0) ar (fun _ _=>rfl)) ae)) ae)))))))))),?_⟩;have a0:bT [V.str p.nm,.ref m,.int p.rk,.ref fa,.ref na,.ref sa,.ref oa] 0=some (V.str p.nm):=rfl;have a1:bT [V.str p.nm,.ref m,.int p.rk,.ref fa,.ref na,.ref sa,.ref oa] 1=some (V.ref m):=rfl;have a2:bT [V.str p.nm,.ref m,.int p.rk,.ref fa,.ref na,.ref sa,.ref oa] 2=some (V.int p.rk):=rfl;have a3:bT [V.str p.nm,.ref m,.int p.rk,.ref fa,.ref na,.ref sa,.ref oa] 3=some (V.ref fa):=rfl;have a4:bT [V.str p.nm,.ref m,.int p.rk,.ref fa,.ref na,.ref sa,.ref oa] 4=some (V.ref na):=rfl;have a5:bT [V.str p.nm,.ref m,.int p.rk,.ref fa,.ref na,.ref sa,.ref oa] 5=some (V.ref sa):=rfl;have a6:bT [V.str p.nm,.ref m,.int p.rk,.ref fa,.ref na,.ref sa,.ref oa] 6=some (V.ref oa):=rfl;refine⟨_,rfl,t,_,_,_,rfl,rfl,aw.of h1,a0,_,rfl,t,_,_,_,rfl,rfl,aw.of h1,a1,_,rfl,t,_,_,_,rfl,rfl,aw.of h1,a2,_,rfl,t,_,_,_,rfl,rfl,aw.of h1,a3,fa,_,rfl,.inl (af.of h3),fun p1 H1 n1 s1 e1=>?_⟩;refine⟨_,rfl,t,_,_,_,rfl,rfl,aw.of (s1 _ _ h1),a4,na,_,rfl,.inl (af.of (s1 _ _ h5)),fun p2 H2 n2 s2 e2=>?_⟩;have bW:=s1.trans s2;refine⟨_,rfl,t,_,_,_,rfl,rfl,aw.of (bW _ _ h1),a5,sa,_,rfl,.inl (af.of (bW _ _ h6)),fun p3 H3 n3 s3 e3=>?_⟩;have bI:=bW.trans s3;refine⟨_,rfl,t,_,_,_,rfl,rfl,aw.of (bI _ _ h1),a6,oa,_,rfl,.inl (af.of (bI _ _ h7)),fun p4 H4 n4 s4 e4=>?_⟩;have eI:=bI.trans s4;have tK:=(s2.trans s3).trans s4;refine akq (p:=p) (eI _ _ h2) (tK _ _ e1) (aM h4 fun _ _=>fU.same eI) ((s3.trans s4) _ _ e2) (aM ux fun _ _=>dL.same eI) (s4 _ _ e3) (aM EQ fun _ _=>dL.same eI) e4 (by omega) fun x H5 n5 s5 hp=>?_;exact q x H5 (eI.free n5) (eI.trans s5) fun L hL=>hp L (hL.over eI)
end
end K42
namespace L2
open PySem PySem.Spec
section
variable {X:Cx}
def aoY(K:Fg):R2:=fun x y H Q=>∃d e,DV K H x d/\DV K H y e/\PySem.W.kqdOk 9 d=true/\PySem.W.kqdOk 9 e=true/\∀b:Bool,(b=true↔d=e)->Q (.bl b) H
theorem aoZ(K:Fg)(hu:X.A.units+64<cLine)(h:X.K=K:=by rfl):bK X (compareOp .Eq) (aoY K):=h▸GO hu
end
end L2
namespace K42
open PySem L2 PySem.Spec PyProof.Rows
open HT (At gj fm)
seal PE PS cz PA PT PW PG iB PI gP
section
variable {P:Program} {w:World} {K:Fg} {mg:Mv} {base:Heap}
def SS:Sp:=fun vs H Q _=>∃(cv ov:V) (c:dB) (p:aS),vs = [cv,ov]/\dL H cv c/\lG H ov p/\∀H',ag H H'->Q (.bl (bB c p)) H'
theorem ER:bh [auv,atW,aub,"_law_least","_law_below"] [auv,atW] (aI C5):=⟨rfl,rfl,rfl,by decide +kernel,rfl,by decide +kernel,by decide +kernel⟩
theorem ao0{f:Addr}{fd:Fy}(F:ai K auS auS C5 f fd):ak P w K mg base ao 1 f fd [auv,atW] SS:=by
 refine F.ok ER (fun vs H Q E h=>?_) (fun aF A outer s H vs Q E hr h=>?_)
 . obtain⟨cv,ov,c,p,rfl,_⟩:=h;rfl
 . refine bo ?_;intro xX dX;obtain⟨cv,ov,cl,p,rfl,⟨c,l,b,rfl,c1,c2,c3⟩,⟨t,m,fa,na,sa,oa,fx,rfl,h1,h2,h3,h4,h5,h6,h7⟩,q⟩:=h;have hu:=hr.units;have jK:=hr.units0;refine⟨_,(az (WX (pv 0) (sk rfl (gf (aT (i:=2) ER.nd rfl (Or.inl rfl)) (gf (aT (i:=3) ER.nd rfl (Or.inl rfl)) (gf (aT (i:=4) ER.nd rfl (Or.inl rfl)) ng)))))
    (xT (fun σ H2=>σ = [some (.ref c),some (.ref t),some (.str cl.nm),some (.ref l),some b]/\H2=H/\(decide (cl.nm=p.nm) && (!HT.lexLt p.ms cl.ls && re p.ms cl.bl))=false)
    (cp (PW.pt (uV (bA eQ (aQ bO (pv 1) ar (fun _ _=>rfl)) (pv 2) (ba _)) (uV (bA (ahH jK) (pv 3) (aQ bO (pv 1) ar (fun _ _=>rfl)) (ba _)) (xA (PW.pt (iZ (bA kW (pv 4) eh (ba _)) (m8 (bA (GC jK) (aQ bO (pv 1) ar (fun _ _=>rfl)) (pv 4) (ba _)))))))))
    (aB (aO fQ)) cr)
    (aB (aO (jw (fR xK (pv 2) (aQ bO (pv 1) ar (fun _ _=>rfl)) (by rfl)) (jw (fR (GO hu) (pv 3) (dz ae) (ba _)) (jP (fR kW (pv 4) eh (ba _))))))))),?_⟩
   have a0:bT [V.str p.nm,.ref m,.int p.rk,.ref fa,.ref na,.ref sa,.ref oa] 0=some (V.str p.nm):=rfl;have a1:bT [V.str p.nm,.ref m,.int p.rk,.ref fa,.ref na,.ref sa,.ref oa] 1=some (V.ref m):=rfl;have a6:bT [V.str p.nm,.ref m,.int p.rk,.ref fa,.ref na,.ref sa,.ref oa] 6=some (V.ref oa):=rfl;refine⟨_,rfl,c,_,rfl,aw.of c1,rfl,_,_,rfl,_,_,rfl,_,_,rfl,rfl,?_⟩;refine⟨?_,?_⟩
   . refine⟨_,rfl,t,_,_,_,rfl,rfl,aw.of h1,a0,_,rfl,rfl,_,rfl,?_⟩;refine aJ (fun hq=>?_) (fun hq=>?_)
     . have e1:p.nm=cl.nm:=by
        have:=bd hq;injection this
       refine⟨_,rfl,_,rfl,t,_,_,_,rfl,rfl,aw.of h1,a1,l,m,cl.ls,p.ms,rfl,rfl,aw.of c2,aw.of h2,_,rfl,?_⟩;refine aJ (fun ii=>?_) (fun ii=>?_)
       . refine⟨_,rfl,rfl,_,rfl,?_⟩;cases nZ:cl.bl with
         | none=>
          rw[nZ]at c3;have c3:b = .non:=c3;subst c3;refine i7 (i7 ?_);have e:bB cl p=true:=by unfold bB;rw[ii,aE e1.symm,nZ];rfl
          rw[e]at q;exact q _ (ag.refl H)
         | some bs=>
          rw[nZ]at c3;obtain⟨d,rfl,hd⟩:=c3;refine ff ?_;refine⟨_,rfl,t,_,_,_,rfl,rfl,aw.of h1,a1,_,rfl,m,d,p.ms,bs,rfl,rfl,aw.of h2,aw.of hd,_,rfl,?_⟩;refine aJ (fun Lf=>?_) (fun Lf=>?_)
          . have e:bB cl p=true:=by unfold bB;rw[ii,aE e1.symm,nZ,show re p.ms (some bs)=HT.lexLt p.ms bs from rfl,Lf];rfl
            rw[e]at q;exact q _ (ag.refl H)
          . exact⟨rfl,rfl,by rw[show re p.ms (some bs)=HT.lexLt p.ms bs from rfl,eX.mpr Lf,kj,kj]⟩
       . exact⟨rfl,rfl,by rw[eX.mpr ii,iU,kj]⟩
     . refine⟨rfl,rfl,?_⟩;have:cl.nm≠p.nm:=fun e=>hq (by rw[e];exact aE rfl);rw[aR this,iU]
   . rintro σ' H' ⟨rfl,rfl,hN⟩;unfold bB at q;rw[hN,FH]at q;refine⟨_,rfl,_,rfl,t,_,_,_,rfl,rfl,aw.of h1,a6,oa,_,rfl,.inl (af.of h7),rfl,tG _,_,rfl,aJ (fun hq=>?_) (fun hq=>?_)⟩
     . have dP:nr (.str cl.nm) (p.os.map V.str)=true:=hq;rw[dP,jq]at q;refine⟨_,rfl,(by show 0<=sizeLine;decide),fun t1 H1 n1 s1 e1=>?_⟩;refine⟨dI cl.ls,dI [],Dq (s1 _ _ c2),Dq e1,zj 8 _,zj 8 _,fun b1 tH=>⟨b1,rfl,aJ (fun ii=>?_) (fun ii=>?_)⟩⟩
       . rw[Dt tH]at ii;rw[ii,jq]at q;refine⟨_,rfl,rfl,?_⟩;cases nZ:cl.bl with
         | none=>
          rw[nZ]at c3 q;have c3:b = .non:=c3;subst c3;exact q _ s1
         | some bs=>
          rw[nZ]at c3 q;obtain⟨d,rfl,_⟩:=c3;exact q _ s1
       . have e:=Dt tH;rw[eX.mpr ii]at e;rw[←e,iU]at q;exact q _ s1
     . have dP:nr (.str cl.nm) (p.os.map V.str)=false:=eX.mpr hq;rw[dP,iU]at q;exact q _ (ag.refl _)
end
end K42
namespace L2
open PySem PySem.Spec PyProof.Rows
section
variable {X:Cx}
def ao1(K:Fg):R2:=fun x y H Q=>∃a b xs,x = .ref a/\y = .ref b/\af K H a xs/\af K H b []/\Q (.bl (decide (xs.length≠0))) H
theorem SU(hu:X.A.units<cLine):bK X (compareOp .NotEq) (ao1 X.K):=by
 intro pins s σ H x y v u Q I rx ry h;obtain⟨a,b,xs,rfl,rfl,ha,hb,q⟩:=h;cases rx;cases ry;obtain⟨its,rv,pl,_⟩:=I.list ha;obtain⟨i4,q8,rc,_⟩:=I.list hb;cases q8;have hl:=sT rv
 by_cases h0:xs.length=0
 . rw[aR (fun z=>z h0)]at q;have hz:its.toArray.size=([]:Lw).toArray.size:=by show its.length=0;omega
   refine SeqAt.RcNeAt.lists (e:=fun _=>true) pl.isList rc.isList hz hu (fun j h1 h2=>absurd h2 (by simp)) _ _ _ _ ?_;have:(!(List.range its.toArray.size).all (fun _=>true))=false:=by simp
   rw[this];exact⟨.bl false,H,I,rfl,q⟩
 . rw[aE h0]at q;exact SeqAt.RcNeAt.lists_lengths pl.isList rc.isList (by show(its.length != 0)=true;exact bne_iff_ne.mpr (by omega)) hu _ _ _ _ ⟨.bl true,H,I,rfl,q⟩
end
end L2
namespace K42
open PySem L2 PySem.Spec PyProof.Rows
open HT (At gj fm)
seal PE PS cz PA PT PW PG iB PI gP
section
variable {P:Program} {w:World} {K:Fg} {mg:Mv} {base:Heap}
theorem AE{α:Type}{l:List α}{i:Nat}{x:α}{R:α->Prop}(h:l[i]? = some x)(a:∀y∈l.take i,R y)(b:R x):∀y∈l.take (i+1),R y:=fun y hy=>by
 rw[gB h]at hy
 rcases eg.mp hy with z | z
 . exact a y z
 . rw[cE.mp z];exact b
theorem Lg{α:Type}{f:α->Bool}{l:List α}(h:l.filter f≠[]):l.any f=true:=by
 obtain⟨q,hq⟩:=Vp _ h;obtain⟨a,b⟩:=cI.mp hq;exact jp.mpr ⟨q,a,b⟩
theorem Lh{α:Type}{f:α->Bool}{l:List α}(h:l.filter f = []):l.any f=false:=by
 rw[Fv];exact FX.mp h
def SV:Sp:=fun vs H Q _=>∃(a c:Addr) (xs:Lv) (ps:Lp) (ch:Ch),vs = [.ref a,.ref c]/\H a=some (.lst xs)/\mz H xs ps/\ps.length<=9/\(∀p∈ps,lj p)/\dE H c ch/\∀H',ag H H'->Q (.bl (um ps ch)) H'
theorem wQ:bh [atN,atP,"_law_some",atW,"_law_need",auq,au8] [atN,atP] (aI C6):=⟨rfl,rfl,rfl,by decide +kernel,rfl,by decide +kernel,by decide +kernel⟩
theorem ao2{f ES:Addr}{fd Li:Fy}(F:ai K auT auT C6 f fd)(wR:ai K auS auS C5 ES Li)(ET:mg auS = some (.ref ES)):ak P w K mg base ao 2 f fd [atN,atP] SV:=by
 have SW:ak P w K mg base ao 1 ES Li [auv,atW] SS:=ao0 wR;have SX:=wR.binds2 (l:=[auv,atW]) (fun _ _ _ _ _ _ _ _=>rfl);refine F.ok wQ (fun vs H Q E h=>?_) (fun aF A outer s H vs Q E hr h=>?_)
 . obtain⟨a,c,xs,ps,ch,rfl,_⟩:=h;rfl
 . refine bo ?_;intro xX dX;obtain⟨a,c,xs,ps,ch,rfl,ha,bf,l9,few,hC,q⟩:=h;have hu:=hr.units;have jK:=hr.units0;obtain⟨kvs,e1,e2⟩:=id hC;have hlen:=aK bf;refine⟨_,(az (ny (i:=2) [atW] [atP] [1] wQ.nd rfl rfl ⟨rfl,by decide +kernel,by decide +kernel,by decide +kernel,by decide +kernel,rfl,rfl,rfl⟩ rfl (bJ (pv 0)) (fun _ _ _ _=>(aT (i:=0) (show List.Nodup ([atW,atP]:Ls) by decide +kernel) rfl (Or.inl rfl))) (fun _ _ _ _=>ig (bA (aoZ K hu) (pe hu (pv 1) (aQ (lS K) (pv 0) ar (fun _ _=>rfl)) ⟨rfl,rfl,rfl,rfl⟩) (aQ (lS K) (pv 0) ar (fun _ _=>rfl)) (ba _))) (fun _ _ _ _=>(pv 0)))
    (az (gr hZ rfl (bJ (pv 2)) (aT (i:=3) wQ.nd rfl (Or.inl rfl))
    (az (gr hZ rfl (bJ (aQ bO (pv 3) ar (fun _ _=>rfl))) (aT (i:=4) wQ.nd rfl (Or.inr rfl))
     (aB (cp (bA (HU jK) (dw [auq] ["_law_need"] [4] ⟨rfl,by decide +kernel,by decide +kernel,by decide +kernel,by decide +kernel,rfl,rfl,rfl⟩ rfl (bJ (pv 2)) (fun _ _ _ _=>(aT (i:=0) (show List.Nodup ([auq,"_law_need"]:Ls) by decide +kernel) rfl (Or.inl rfl))) (fun _ _ _ _=>ig (ge (aG SW hr rfl ET wR.kp SX .nil av (aa (pv 1) (aa (pv 0) ae))))) (fun _ _ _ _=>(pv 0))) (eA ae) (ba _))
      (aB (aO fQ)) cr)))
     (aB (gr hZ rfl (bJ (pv 2)) (aT (i:=5) wQ.nd rfl (Or.inr rfl))
     (aB (cp (bA Go (aQ bO (pv 5) ar (fun _ _=>rfl)) (aQ bO (pv 3) ar (fun _ _=>rfl)) (ba _))
      (az (cp (bA (SU jK) (dw ["_law_shut"] [auq] [5] ⟨rfl,by decide +kernel,by decide +kernel,by decide +kernel,by decide +kernel,rfl,rfl,rfl⟩ rfl (bJ (aQ bO (pv 3) ar (fun _ _=>rfl))) (fun _ _ _ _=>(aT (i:=0) (show List.Nodup (["_law_shut",auq]:Ls) by decide +kernel) rfl (Or.inl rfl))) (fun _ _ _ _=>ig (ge (aG SW hr rfl ET wR.kp SX .nil av (aa (pv 0) (aa (pv 1) ae))))) (fun _ _ _ _=>(pv 0))) (eA ae) (ba _))
       (aB (aO fQ)) cr)
       (az (bi (i:=6) wQ.nd rfl (Or.inr rfl) (dw [auJ,auC] [] [] ⟨rfl,by decide +kernel,by decide +kernel,by decide +kernel,by decide +kernel,rfl,rfl,rfl⟩ rfl (bJ (aQ bO (pv 5) ar (fun _ _=>rfl))) (fun _ _ _ _=>(Dr (n:=2) K rfl (gf (aT (i:=0) (show List.Nodup ([auJ,auC]:Ls) by decide +kernel) rfl (Or.inl rfl)) (gf (aT (i:=1) (show List.Nodup ([auJ,auC]:Ls) by decide +kernel) rfl (Or.inl rfl)) ng)))) (fun _ _ _ _=>fh) (fun _ _ _ _=>(pv 0))))
       (aB (cp (bA (SU jK) (dw [auJ,auC] [au8] [6] ⟨rfl,by decide +kernel,by decide +kernel,by decide +kernel,by decide +kernel,rfl,rfl,rfl⟩ rfl (bJ (aQ bO (pv 3) ar (fun _ _=>rfl))) (fun _ _ _ _=>(Dr (n:=2) K rfl (gf (aT (i:=0) (show List.Nodup ([auJ,auC,au8]:Ls) by decide +kernel) rfl (Or.inl rfl)) (gf (aT (i:=1) (show List.Nodup ([auJ,auC,au8]:Ls) by decide +kernel) rfl (Or.inl rfl)) ng)))) (fun _ _ _ _=>ig (bA (Oe K) (pv 0) (pv 2) (by rfl))) (fun _ _ _ _=>(pv 0))) (eA ae) (ba _))
       (aB (aO fQ)) cr)))) cr))))))
    (aB (aO fQ)))),?_⟩
   refine lT ?_
   intros
   refine⟨_,rfl,a,rfl,⟨_,af.of ha⟩,?_⟩;intro D hD;refine jD (σ0:=[none,some (.ref c)]) hD (af.of ha) (fun σ=>∃v,σ = [v,some (.ref c)]) (fun j zs _=>zs.length<=j/\mz H zs ((ps.take j).filter (kM ch))) ⟨_,rfl⟩ ⟨aH _,.nil⟩ ?_ ?_
   . rintro j y zs σ H3 k k' hy ⟨v,rfl⟩ fw h3 ⟨zl,zp⟩ cG gU;obtain⟨p,hp,hE⟩:=bD bf hy;obtain⟨t,m,fa,na,sa,oa,fx,rfl,h1,h2,_⟩:=id hE;have aD:=(bH.mp hp).1;have a0:bT [V.str p.nm,.ref m,.int p.rk,.ref fa,.ref na,.ref sa,.ref oa] 0=some (V.str p.nm):=rfl;have a1:bT [V.str p.nm,.ref m,.int p.rk,.ref fa,.ref na,.ref sa,.ref oa] 1=some (V.ref m):=rfl;obtain⟨d1,o1⟩:=v3 (K:=K) ((mi (x:=p.nm) e2).same h3);obtain⟨d2,o2⟩:=v3 (K:=K) (show cZ H3 (.ref m) (some p.ms) from ⟨m,rfl,h3 _ _ h2⟩);refine⟨_,rfl,c,rfl,.inl ⟨_,.inl (h3 _ _ e1)⟩,_,rfl,t,_,_,_,rfl,rfl,aw.of (h3 _ _ h1),a0,_,cw.k (k:=.inr p.nm) (h3 _ _ e1),_,rfl,t,_,_,_,rfl,rfl,aw.of (h3 _ _ h1),a1,_,_,d1,d2,o1,o2,fun bb hb=>⟨_,rfl,?_⟩⟩;refine aJ (fun h=>?_) (fun h=>?_)
     . have Lj:kM ch p=true:=aE (JA (hb.mp h));refine⟨_,rfl,cG _ _ _ ⟨_,rfl⟩ (ag.refl _) (bj (by omega)) ⟨by rw[bc,mV];omega,?_⟩⟩;rw[jc hp,ap Lj];exact dj hE zp
     . have Lj:¬kM ch p=true:=fun z=>h (hb.mpr (by rw[bd z]));refine gU _ _ ⟨_,rfl⟩ (ag.refl _) ⟨by omega,?_⟩;rw[jc hp,ah Lj,dG];exact zp
   rintro zs H0 d0 s0 ⟨zl,j7⟩;rw[hlen,cj]at j7;have j7:=mz.same s0 j7;have qf:∀p∈ps.filter (kM ch),lj p:=fun p hp=>few p (cI.mp hp).1;have q:∀H',ag H0 H'->Q (.bl (wD (ps.filter (kM ch)))) H':=fun H' s'=>q H' (s0.trans s');have q9:(ps.filter (kM ch)).length<=9:=bS (gK _ _) l9;generalize ps.filter (kM ch)=qs at j7 qf q q9;have vl:=aK j7;have bad:∀p∈qs,(wC qs p && qs.all (mw p))=false->∀H',ag H0 H'->Q (.bl false) H':=fun p hp hb H' s'=>by
    have e:wD qs=false:=eX.mpr fun z=>by
     have:=dW.mp z p hp;rw[hb]at this;cases this
    rw[e]at q;exact q H' s'
   refine⟨_,rfl,D,rfl,⟨_,af.of d0⟩,?_⟩;refine jQ (xs:=zs) (fun i σ H2=>∃u3 u4 u5 u6,σ = [some (.ref a),some (.ref c),some (.ref D),u3,u4,u5,u6]/\ag H0 H2/\∀p∈qs.take i,(wC qs p && qs.all (mw p))=true) ⟨none,none,none,none,rfl,ag.refl _,fun p hp=>(by rw[BD]at hp;cases hp)⟩ ?_ ?_ ?_
   . intro i σ H2 hi hQ;obtain⟨u3,u4,u5,u6,rfl,s2,_⟩:=hQ;exact af.of (s2 _ _ d0)
   . intro i z σ H2 hz hQ;refine b0 ?_;intro tT;obtain⟨u3,u4,u5,u6,rfl,s2,fO⟩:=hQ;obtain⟨p,hp,hE⟩:=bD j7 hz;have pm:=eN hp;have pf:=qf p pm;obtain⟨t,m,fa,na,sa,oa,fx,rfl,h1,h2,h3,h4,⟨nx,h5,ux⟩,⟨sx,h6,EQ⟩,h7⟩:=id hE;have pn:=pf.ns;have pP:=pf.ss;have pfs:=pf.fs;have nl:=aK ux;have sl:=aK EQ;have fl:=aK h4;have a0:bT [V.str p.nm,.ref m,.int p.rk,.ref fa,.ref na,.ref sa,.ref oa] 0=some (V.str p.nm):=rfl;have a3:bT [V.str p.nm,.ref m,.int p.rk,.ref fa,.ref na,.ref sa,.ref oa] 3=some (V.ref fa):=rfl;have a4:bT [V.str p.nm,.ref m,.int p.rk,.ref fa,.ref na,.ref sa,.ref oa] 4=some (V.ref na):=rfl;have a5:bT [V.str p.nm,.ref m,.int p.rk,.ref fa,.ref na,.ref sa,.ref oa] 5=some (V.ref sa):=rfl;refine⟨_,rfl,t,_,_,_,rfl,rfl,aw.of (s2 _ _ h1),a4,na,rfl,⟨_,af.of (s2 _ _ h5)⟩,?_⟩;refine jQ (xs:=nx) (fun k σ H3=>∃u4,σ = [some (.ref a),some (.ref c),some (.ref D),some (.ref t),u4,u5,u6]/\ag H0 H3/\∀cl∈p.ns.take k,qs.any (bB cl)=true) ⟨u4,rfl,s2,fun cl hc=>(by rw[BD]at hc;cases hc)⟩ ?_ ?_ ?_
     . intro k σ H3 hk hQ;obtain⟨u4,rfl,s3,_⟩:=hQ;exact af.of (s3 _ _ h5)
     . intro k cv σ H3 uc hQ;refine b0 ?_;intro tT;obtain⟨u4,rfl,s3,hn⟩:=hQ;obtain⟨cl,iG,Lk⟩:=bD ux uc;refine⟨_,rfl,D,rfl,⟨_,af.of (s3 _ _ d0)⟩,?_⟩;intro D4 hD4;refine jD (σ0:=[none,some cv]) hD4 (af.of (s3 _ _ d0)) (fun σ=>∃v,σ = [v,some cv]) (fun j aY _=>aY.length=((qs.take j).filter (bB cl)).length) ⟨_,rfl⟩ rfl ?_ ?_
       . rintro j y aY σ H4 kk Lm hy ⟨v,rfl⟩ wp Ln zl cG gU;obtain⟨o,ho,EU⟩:=bD j7 hy;have ji:=s3.trans Ln;have fj:((qs.take j).filter (bB cl)).length<=9:=bS (gK _ _) (by rw[db];omega);refine⟨_,rfl,_,rfl,cv,y,cl,o,rfl,Lk.same ji,EU.same ji,fun H5 wS=>⟨_,rfl,?_⟩⟩;refine aJ (fun h=>?_) (fun h=>?_)
         . exact⟨_,rfl,cG _ _ _ ⟨_,rfl⟩ wS (bj (by omega)) (by rw[bc,zl,jc ho,ap h,bc];rfl)⟩
         . exact gU _ _ ⟨_,rfl⟩ wS (by rw[zl,jc ho,ah h,dG])
       . rintro aY H4 wp Ln zl;rw[vl,cj]at zl;refine⟨(by show 0<=sizeLine;decide),fun p5 H5 n5 s5 e5=>?_⟩;refine⟨D4,p5,_,rfl,rfl,af.of (s5 _ _ wp),af.of e5,_,rfl,?_⟩;have wu:=Ln.trans s5;refine aJ (fun h=>?_) (fun h=>?_)
         . have hf:qs.filter (bB cl) = []:=FZ (by rw[←zl];exact bd h);refine bad p pm ?_ _ (s3.trans wu);rw[asw];left;refine eX.mpr fun z=>?_;have:=dW.mp z cl (eN iG);rw[Lh hf]at this;cases this
         . have hf:qs.filter (bB cl)≠[]:=fun z=>h (by rw[zl,z];exact aE rfl);exact⟨_,rfl,s3.trans wu,AE iG hn (Lg hf)⟩
     . intro σ H3 hQ;refine b0 ?_;intro tT;obtain⟨u4,rfl,s3,hn⟩:=hQ;rw[nl,cj]at hn;have ao4:wC qs p=true:=dW.mpr hn;refine⟨_,rfl,D,rfl,⟨_,af.of (s3 _ _ d0)⟩,?_⟩;refine jQ (xs:=zs) (fun j σ H4=>∃u5 u6,σ = [some (.ref a),some (.ref c),some (.ref D),some (.ref t),u4,u5,u6]/\ag H0 H4/\∀o∈qs.take j,mw p o=true) ⟨u5,u6,rfl,s3,fun o ho=>(by rw[BD]at ho;cases ho)⟩ ?_ ?_ ?_
       . intro j σ H4 hj hQ;obtain⟨u5,u6,rfl,s4,_⟩:=hQ;exact af.of (s4 _ _ d0)
       . intro j y σ H4 hy hQ;refine b0 ?_;intro tT;obtain⟨u5,u6,rfl,s4,AF⟩:=hQ;obtain⟨o,ho,EU⟩:=bD j7 hy;have om:=eN ho;have SY:mw p o=false->∀H',ag H0 H'->Q (.bl false) H':=fun hb=>bad p pm (by
          rw[asw];right;refine eX.mpr fun z=>?_;have:=dW.mp z o om;rw[hb]at this;cases this)
         obtain⟨t',m',AC,La,Lb,Le,vQ,rfl,g1,g2,g3,g4,_⟩:=id EU;have nY:=aK g4;have ofs:=(qf o om).fs;have a0':bT [V.str o.nm,.ref m',.int o.rk,.ref AC,.ref La,.ref Lb,.ref Le] 0=some (V.str o.nm):=rfl;have a3':bT [V.str o.nm,.ref m',.int o.rk,.ref AC,.ref La,.ref Lb,.ref Le] 3=some (V.ref AC):=rfl;refine⟨_,rfl,t',_,_,_,rfl,rfl,aw.of (s4 _ _ g1),a0',_,rfl,t,_,_,_,rfl,rfl,aw.of (s4 _ _ h1),a0,rfl,_,rfl,?_⟩;refine aJ (fun h=>?_) (fun h=>?_)
         . have bn:o.nm≠p.nm:=fun z=>by
            rw[z,aE rfl]at h;cases h
           refine⟨_,rfl,t,_,_,_,rfl,rfl,aw.of (s4 _ _ h1),a5,sa,rfl,⟨_,af.of (s4 _ _ h6)⟩,?_⟩;intro D5 pR;refine jD (σ0:=[none,some (.ref t')]) pR (af.of (s4 _ _ h6)) (fun σ=>∃v,σ = [v,some (.ref t')]) (fun k aY _=>aY.length=((p.ss.take k).filter fun cl=>bB cl o).length) ⟨_,rfl⟩ rfl ?_ ?_
           . rintro k cv aY σ H5 kk Lm uc ⟨v,rfl⟩ ip wS zl cG gU;obtain⟨cl,iG,Lk⟩:=bD EQ uc;have ga:=s4.trans wS;have fj:((p.ss.take k).filter fun cl=>bB cl o).length<=9:=bS (gK _ _) (by rw[db];omega);refine⟨_,rfl,_,rfl,cv,.ref t',cl,o,rfl,Lk.same ga,EU.same ga,fun H6 Ta=>⟨_,rfl,?_⟩⟩;refine aJ (fun h=>?_) (fun h=>?_)
             . exact⟨_,rfl,cG _ _ _ ⟨_,rfl⟩ Ta (bj (by omega)) (by rw[bc,zl,jc (f:=fun cl=>bB cl o) iG,ap h,bc];rfl)⟩
             . exact gU _ _ ⟨_,rfl⟩ Ta (by rw[zl,jc (f:=fun cl=>bB cl o) iG,ah h,dG])
           . rintro aY H5 ip wS zl;rw[sl,cj]at zl;refine⟨(by show 0<=sizeLine;decide),fun p6 H6 n6 s6 e6=>?_⟩;refine⟨D5,p6,_,rfl,rfl,af.of (s6 _ _ ip),af.of e6,_,rfl,?_⟩;have uy:=wS.trans s6;have cV:=s4.trans uy;refine aJ (fun h=>?_) (fun h=>?_)
             . have hf:(p.ss.filter fun cl=>bB cl o)≠[]:=fun z=>bd h (by rw[zl,z];rfl);refine SY ?_ _ cV;unfold mw;rw[aR bn,Lg hf];rfl
             . have hf:(p.ss.filter fun cl=>bB cl o) = []:=FZ (by
                rw[←zl];exact BB fun z=>h (aE z))
               refine⟨_,rfl,t',_,_,_,rfl,rfl,aw.of (cV _ _ g1),a3',AC,rfl,⟨_,af.of (cV _ _ g3)⟩,?_⟩;intro D7 Jf;refine vO (σ0:=[none,none]) Jf (af.of (cV _ _ g3)) (fun σ=>∃v v',σ = [v,v']) (fun k aY _=>aY=((bu o).take k).map V.str) ⟨_,_,rfl⟩ rfl ?_ ?_
               . rintro k fv aY σ H7 kk Lo ⟨v,v',rfl⟩ tR Lq rfl cG;obtain⟨fi,AG,tf,lf,rfl,f1,f2⟩:=bD g4 Lo;have EV:(bu o)[k]? = some fi.1:=by unfold bu;rw[bN,AG];rfl
                 have klt:=(bH.mp AG).1;refine⟨tf,_,rfl,aw.of ((cV.trans Lq) _ _ f1),rfl,_,_,rfl,_,_,rfl,rfl,?_⟩;refine⟨_,rfl,cG _ _ _ ⟨_,_,rfl⟩ (ag.refl _) (bj ?_) ?_⟩
                 . rw[au,db];omega
                 . rw[gB EV,dU];rfl
               . rintro aY H7 tR Lq rfl;have pl':(bu o).length=vQ.length:=by unfold bu;rw[au,nY]
                 rw[uO (by omega)]at tR;have AH:=cV.trans Lq;refine⟨_,rfl,t,_,_,_,rfl,rfl,aw.of (AH _ _ h1),a3,fa,rfl,⟨_,af.of (AH _ _ h3)⟩,?_⟩;intro D8 nv;refine jD (σ0:=[none,none,some (.ref D7)]) nv (af.of (AH _ _ h3)) (fun σ=>∃v v',σ = [v,v',some (.ref D7)]) (fun k aY _=>aY.length=(((bu p).take k).filter fun x=>decide (x∈bu o)).length) ⟨_,_,rfl⟩ rfl ?_ ?_
                 . rintro k fv aY σ H8 kk Lm Lo ⟨v,v',rfl⟩ f7 EW rT cG gU;obtain⟨fi,AG,tf,lf,rfl,f1,f2⟩:=bD h4 Lo;have EV:(bu p)[k]? = some fi.1:=by unfold bu;rw[bN,AG];rfl
                   have klt:=(bH.mp AG).1;have fj:(((bu p).take k).filter fun x=>decide (x∈bu o)).length<=9:=bS (gK _ _) (by rw[db];omega);refine⟨tf,_,rfl,aw.of ((AH.trans EW) _ _ f1),rfl,_,_,rfl,_,_,rfl,rfl,?_⟩;refine⟨_,rfl,_,rfl,D7,_,rfl,.inl (af.of (EW _ _ tR)),rfl,tG _,_,rfl,?_⟩;refine aJ (fun h=>?_) (fun h=>?_)
                   . have cH:fi.1∈bu o:=tP.mp h;exact⟨_,rfl,cG _ _ _ ⟨_,_,rfl⟩ (ag.refl _) (bj (by omega)) (by rw[bc,rT,jc (f:=fun x=>decide (x∈bu o)) EV,ap (aE cH),bc];rfl)⟩
                   . have cH:fi.1∉bu o:=fun z=>h (tP.mpr z);exact gU _ _ ⟨_,_,rfl⟩ (ag.refl _) (by rw[rT,jc (f:=fun x=>decide (x∈bu o)) EV,ah (by rw[aR cH];exact bV),dG])
                 . rintro aY H8 f7 EW rT;have pl:(bu p).length=fx.length:=by unfold bu;rw[au,fl]
                   rw[uO (by omega)]at rT;refine⟨(by show 0<=sizeLine;decide),fun p9 H9 n9 s9 e9=>?_⟩;refine⟨D8,p9,_,rfl,rfl,af.of (s9 _ _ f7),af.of e9,_,rfl,?_⟩;have Tb:=AH.trans (EW.trans s9);refine aJ (fun h=>?_) (fun h=>?_)
                   . have hg:((bu p).filter fun x=>decide (x∈bu o))≠[]:=fun z=>bd h (by rw[rT,z];rfl);refine SY ?_ _ Tb;unfold mw;rw[aR bn,Lg hg,wY,kj];rfl
                   . have hg:((bu p).filter fun x=>decide (x∈bu o)) = []:=FZ (by
                      rw[←rT];exact BB fun z=>h (aE z))
                     refine⟨_,_,rfl,Tb,AE ho AF ?_⟩;unfold mw;rw[Lh hf,Lh hg];exact UQ _
         . have heq:o.nm=p.nm:=BB fun z=>h (by rw[aR fun y=>z (by injection y)];rfl);refine⟨_,_,rfl,s4,AE ho AF ?_⟩;unfold mw;rw[aE heq];rfl
       . intro σ H4 hQ;obtain⟨u5,u6,rfl,s4,AF⟩:=hQ;rw[vl,cj]at AF;refine⟨_,_,_,_,rfl,s4,AE hp fO ?_⟩;rw[ao4,jq];exact dW.mpr AF
   . intro σ H2 hQ;obtain⟨u3,u4,u5,u6,rfl,s2,fO⟩:=hQ;rw[vl,cj]at fO;have e:wD qs=true:=dW.mpr fO;rw[e]at q;exact q H2 s2
end
end K42
namespace K42
open PySem L2 PySem.Spec PyProof.Rows
seal PE PS cz PA PT PW PG iB PI gP
def jH(ps:Lp)(fs:List Ch)(y:Str):List Ch:=fs++(bp ps y).flatMap fun m=>fs.map fun c=>c++[(y,m)]
def gc(ps:Lp)(ys:Ls):List Ch:=ys.foldl (jH ps) [[]]
theorem Lr{fs:List Ch}{y:Str}:∀ms:Ll,(ms.flatMap fun m=>fs.map fun c=>c++[(y,m)]).length=fs.length * ms.length
 | []=>rfl
 | m::ms=>by
  rw[kS,bc,au,Lr ms,bF,FY];omega
theorem Lu(ps:Lp)(fs:List Ch)(y:Str):(jH ps fs y).length=fs.length * ((bp ps y).length+1):=by
 unfold jH;rw[bc,Lr,FY];omega
theorem Te(ps:Lp):∀(ys:Ls) (fs:List Ch),fs.length<=(ys.foldl (jH ps) fs).length
 | [],_=>aH _
 | y::ys,fs=>by
  refine bS ?_ (Te ps ys (jH ps fs y));rw[Lu];exact Nat.le_mul_of_pos_right _ (xi _)
theorem ao7(ps:Lp)(ys:Ls)(i:Nat):(gc ps (ys.take i)).length<=(gc ps ys).length:=by
 have e:gc ps ys=(ys.drop i).foldl (jH ps) (gc ps (ys.take i)):=by
  unfold gc;rw[←F2,Vl]
 rw[e];exact Te ps _ _
theorem Tf{ps:Lp}{ys:Ls}{i:Nat}{y:Str}(h:ys[i]? = some y):gc ps (ys.take (i+1))=jH ps (gc ps (ys.take i)) y:=by
 unfold gc;rw[gB h,F2];rfl
theorem Tg{ps:Lp}:∀(ys:Ls) (fs:List Ch) (n:Int),(fs.length:Int)=n->((ys.foldl (jH ps) fs).length:Int)=ys.foldl (gW ps) n
 | [],_,_,h=>h
 | y::ys,fs,n,h=>by
  refine Tg ys (jH ps fs y) (gW ps n y) ?_;rw[Lu];unfold gW;rw[Int.natCast_mul,h]
theorem Th{ps:Lp}:∀(ys pre:Ls) (fs:List Ch),(∀ch∈fs,ch.length<=pre.length/\∀x∈ch.map (·.1),x∈pre)->∀ch∈ys.foldl (jH ps) fs,ch.length<=(pre++ys).length/\∀x∈ch.map (·.1),x∈pre++ys
 | [],pre,fs,h=>by rw[dG];exact h
 | y::ys,pre,fs,h=>by
  have z:=Th (ps:=ps) ys (pre++[y]) (jH ps fs y) fun ch hc=>by
   rcases eg.mp hc with hc | hc
   . obtain⟨a,b⟩:=h ch hc;exact⟨by rw[bc];omega,fun x hx=>eg.mpr (.inl (b x hx))⟩
   . obtain⟨m,_,hc⟩:=lJ.mp hc;obtain⟨c,cX,rfl⟩:=be.mp hc;obtain⟨a,b⟩:=h c cX;refine⟨by rw[bc,bc];exact FW a,fun x hx=>?_⟩;rw[dU]at hx
     rcases eg.mp hx with hx | hx
     . exact eg.mpr (.inl (b x hx))
     . exact eg.mpr (.inr hx)
  rw[oR]at z;exact z
theorem ao8{ps:Lp}{ys:Ls}{ch:Ch}(h:ch∈gc ps ys):ch.length<=ys.length/\∀x∈ch.map (·.1),x∈ys:=Th ys [] [[]] (fun c hc=>by rw[cE.mp hc];exact⟨aH _,fun x hx=>by cases hx⟩) ch h
theorem Ti{ps:Lp}{M:Str->Ll}(hM:pY ps M):∀(ys:Ls) (fs:List Ch) (ds:List Dec),(∀ch,ch∈fs↔∃de∈ds,bR de=ch)->∀ch,ch∈ys.foldl (jH ps) fs↔∃de∈ys.foldl (gE M) ds,bR de=ch
 | [],_,_,h=>h
 | y::ys,fs,ds,h=>by
  refine Ti hM ys (jH ps fs y) (gE M ds y) fun ch=>?_;unfold jH gE mf rC;rw[eg];constructor
  . rintro(hc | hc)
    . obtain⟨de,hd,e⟩:=(h ch).mp hc;refine⟨de++[(y,none)],lJ.mpr ⟨de,hd,be.mpr ⟨none,cD,rfl⟩⟩,?_⟩;rw[DH,e];exact dG _
    . obtain⟨m,hm,hc⟩:=lJ.mp hc;obtain⟨c,cX,rfl⟩:=be.mp hc;obtain⟨de,hd,e⟩:=(h c).mp cX;refine⟨de++[(y,some m)],lJ.mpr ⟨de,hd,be.mpr ⟨some m,cy _ (be.mpr ⟨m,(hM.pm y).mem_iff.mpr hm,rfl⟩),rfl⟩⟩,?_⟩;rw[DH,e];rfl
  . rintro⟨iu,jv,e⟩;obtain⟨de,hd,hc⟩:=lJ.mp jv;obtain⟨o,ho,rfl⟩:=be.mp hc;rw[DH]at e
    rcases bw.mp ho with z | z
    . left;rw[z]at e;have e:bR de++[]=ch:=e;rw[dG]at e;exact(h ch).mpr ⟨de,hd,e⟩
    . right;obtain⟨m,hm,z⟩:=be.mp z;rw[←z]at e;have e:bR de++[(y,m)]=ch:=e;exact lJ.mpr ⟨m,(hM.pm y).mem_iff.mp hm,be.mpr ⟨bR de,(h _).mpr ⟨de,hd,rfl⟩,e⟩⟩
theorem Tj{ps:Lp}(ok:gD ps){ys:Ls}{ch:Ch}:ch∈gc ps ys↔ch∈uo ps ys:=by
 have z:=Ti (wk ok) ys [[]] [[]] (fun c=>by
  rw[cE];exact⟨fun e=>⟨[],cD,e.symm⟩,fun ao9=>ao9.elim fun de apa=>apa.elim fun hd e=>by rw[cE.mp hd]at e;exact e.symm⟩) ch
 unfold gc uo;rw[z,be];rfl
section
variable {P:Program} {w:World} {K:Fg} {mg:Mv} {base:Heap}
def Tk:Sp:=fun vs H Q _=>∃(a:Addr) (xs:Lv) (ps:Lp) (ys:Ls),vs = [.ref a]/\H a=some (.lst xs)/\mz H xs ps/\ps.length<=9/\fz ps ys/\(gc ps ys).length<=400 /\
 ∀l zs H',H l=none->ag H H'->H' l=some (.lst zs)->Paired (dS H') zs (gc ps ys)->Q (.ref l) H'
theorem rV:bh [atN,"_law_found",aub,"_law_longer","_law_make",atP,auq] [atN] (aI C8):=⟨rfl,rfl,rfl,by decide +kernel,rfl,by decide +kernel,by decide +kernel⟩
theorem apb{f:Addr}{fd:Fy}(F:ai K auZ auZ C8 f fd)(B:bX mg):ak P w K mg base ao 1 f fd [atN] Tk:=by
 refine F.ok rV (fun vs H Q E h=>?_) (fun aF A outer s H vs Q E hr h=>?_)
 . obtain⟨a,xs,ps,ys,rfl,_⟩:=h;rfl
 . refine bo ?_;intro xX dX;obtain⟨a,xs,ps,ys,rfl,ha,bf,l9,hN,atq,q⟩:=h;have hu:=hr.units;have xl:=aK bf;have Lx:∀{Hx:Hp} (kv:aN×V) (f:Str×List Int),cO Hx kv f->kv.1=Sum.inr f.1:=fun kv f z=>z.1;refine⟨_,(az (bi (i:=1) rV.nd rfl (Or.inl rfl) (eA (aa sR ae)))
    (az (gr hZ rfl (bJ (bZ (Ck rfl) (by rfl) B.sorted xp (aa (gh (Hu rfl) (by rfl) B.set F0 (aa (dw [atW] [] [] ⟨rfl,by decide +kernel,by decide +kernel,by decide +kernel,by decide +kernel,rfl,rfl,rfl⟩ rfl (bJ (pv 0)) (fun _ _ _ _=>(aT (i:=0) (show List.Nodup ([atW]:Ls) by decide +kernel) rfl (Or.inl rfl))) (fun _ _ _ _=>fh) (fun _ _ _ _=>(aQ (lS K) (pv 0) ar (fun _ _=>rfl)))) ae)) ae))) (aT (i:=2) rV.nd rfl (Or.inr rfl))
    (az (bi (i:=3) rV.nd rfl (Or.inl rfl) (gh sL (by rfl) B.list oS (aa (pv 1) ae)))
     (az (gr hZ rfl (bJ (dw [atW] [aub] [2] ⟨rfl,by decide +kernel,by decide +kernel,by decide +kernel,by decide +kernel,rfl,rfl,rfl⟩ rfl (bJ (pv 0)) (fun _ _ _ _=>(aT (i:=0) (show List.Nodup ([atW,aub]:Ls) by decide +kernel) rfl (Or.inl rfl))) (fun _ _ _ _=>ig (bA eQ (aQ (lS K) (pv 0) ar (fun _ _=>rfl)) (pv 1) (ba _))) (fun _ _ _ _=>(aQ (lS K) (pv 0) ar (fun _ _=>rfl))))) (aT (i:=4) rV.nd rfl (Or.inl rfl))
     (aB (gr hZ rfl (bJ (pv 1)) (aT (i:=5) rV.nd rfl (Or.inl rfl))
      (az (bi (i:=6) rV.nd rfl (Or.inl rfl) (gh yc (by rfl) B.dict BA (aa (pv 5) ae)))
       (az (vg hu (pv 6) (pv 2) (pv 4) rfl)
       (aB (m9 (nt qD Vj Vk BW (pv 3) (aa (pv 6) ae)))))))))
     (aB (bi (i:=1) rV.nd rfl (Or.inl rfl) (pv 3))))))
    (aB (aO (pv 1))))),?_⟩
   refine lT ?_
   intros
   refine fun p1 H1 n1 s1 e1=>?_;refine⟨(by show 1<=sizeLine;decide),fun p2 H2 n2 s2 e2=>?_⟩;have gn:=s1.trans s2;refine⟨_,rfl,a,rfl,⟨_,af.of (gn _ _ ha)⟩,?_⟩;refine yA (σ0:=[none]) (af.of (gn _ _ ha)) (fun σ=>∃u,σ = [u]) ((ps.map aS.nm).map V.str) (by rw[au,au,xl]) (hJ (bj (by omega))) ⟨_,rfl⟩ ?_ ?_
   . intro i z y σ H3 k hz hy hQ hs hk;obtain⟨u,rfl⟩:=hQ;obtain⟨p,hp,t,m,fa,na,sa,oa,fx,rfl,h1,_⟩:=bD bf hz;rw[bN,bN,hp]at hy;cases hy;have a0:bT [V.str p.nm,.ref m,.int p.rk,.ref fa,.ref na,.ref sa,.ref oa] 0=some (V.str p.nm):=rfl;exact⟨_,rfl,t,_,_,_,rfl,rfl,aw.of ((gn.trans hs) _ _ h1),a0,hk _ _ ⟨_,rfl⟩ (ag.refl _)⟩
   . intro D H3 hD eD s3;refine⟨D,ps.map aS.nm,rfl,af.of eD,by rw[au];omega,fun r Ly H4 n4 s4 e4 nd mem=>?_⟩;have hl:=Jp nd fun z hz=>(mem z).mp hz;rw[au]at hl;refine⟨r,Ly,rfl,e4,by omega,fun aX hp hs=>fun l H5 n5 s5 e5=>?_⟩;have ey:=fz.uniq ⟨hs,hp.nodup_iff.mpr nd,fun z=>by rw[hp.mem_iff,mem]⟩ hN;subst ey;have ly:=s3.trans (s4.trans s5);have ga:=gn.trans ly;refine⟨l,rfl,⟨_,af.of e5⟩,?_⟩;refine jQ (xs:=aX.map V.str) (fun i σ H6=>∃lf u2 u3 u4 u5 u6 zs,σ = [some (.ref a),some (.ref lf),u2,u3,u4,u5,u6]/\ag H5 H6/\H lf=none/\H6 lf=some (.lst zs)/\Paired (dS H6) zs (gc ps (aX.take i)))
      ⟨p2,none,none,none,none,none,[.ref p1],rfl,ag.refl _,s1.free n2,ly _ _ e2,.cons ⟨p1,rfl,[],(s2.trans ly) _ _ e1,.nil⟩ .nil⟩ ?_ ?_ ?_
     . rintro i σ H6 hi ⟨lf,u2,u3,u4,u5,u6,zs,rfl,s6,_⟩;exact af.of (s6 _ _ e5)
     . intro i x σ H6 hx hQ;refine b0 ?_;intro tT;obtain⟨lf,u2,u3,u4,u5,u6,zs,rfl,s6,Tl,AI,j8⟩:=hQ;rw[bN]at hx;cases hy:aX[i]? with
       | none=>rw[hy]at hx;cases hx
       | some y=>
        rw[hy]at hx;cases hx;have cV:=ga.trans s6;have ilt:=(bH.mp hy).1;have wi:=ao7 ps aX (i+1);rw[Tf hy]at wi;have wl:=Lu ps (gc ps (aX.take i)) y;have zl:=aK j8;have cH:∀ch∈gc ps (aX.take i),y∉ch.map (·.1)/\ch.length<=100:=fun ch hc=>by
         obtain⟨a1,a2⟩:=ao8 hc;rw[db]at a1;have yl:=kC hN.nd fun z hz=>(hN.mem z).mp hz;rw[au]at yl;refine⟨fun z=>?_,by omega⟩;obtain⟨j',jz,zG⟩:=Bp.mp (a2 y z);rw[db]at jz;rw[Vm]at zG;have:=(By (l:=aX) (i:=j') (j:=i) (by omega) hN.nd).mp (by rw[hy,cJ (by omega),zG]);omega
        have Lz:=Tf (ps:=ps) hy;unfold jH at Lz;generalize gc ps (aX.take i)=Fs at j8 wi wl zl cH Lz;refine⟨_,rfl,lf,_,rfl,.inl (af.of AI),fun p7 H7 n7 s7 e7=>?_⟩;refine⟨_,rfl,a,rfl,⟨_,af.of ((cV.trans s7) _ _ ha)⟩,?_⟩;intro D8 nv;refine jD (σ0:=[none,some (.str y)]) nv (af.of ((cV.trans s7) _ _ ha)) (fun σ=>∃v,σ = [v,some (.str y)]) (fun j aY _=>aY.length<=j/\Paired (lE H) aY (bp (ps.take j) y)) ⟨_,rfl⟩ ⟨aH _,.nil⟩ ?_ ?_
        . rintro j x8 mh σ8 H8 kk Lm iP ⟨v8,rfl⟩ f7 h8 ⟨rT,Tn⟩ cG gU;obtain⟨p,sW,t,m,fa,na,sa,oa,fx,rfl,h1,h2,_⟩:=bD bf iP;have To:=(cV.trans s7).trans h8;have KY:=(bH.mp sW).1;have a0:bT [V.str p.nm,.ref m,.int p.rk,.ref fa,.ref na,.ref sa,.ref oa] 0=some (V.str p.nm):=rfl;have a1:bT [V.str p.nm,.ref m,.int p.rk,.ref fa,.ref na,.ref sa,.ref oa] 1=some (V.ref m):=rfl;refine⟨_,rfl,t,_,_,_,rfl,rfl,aw.of (To _ _ h1),a0,_,rfl,rfl,_,rfl,?_⟩;refine aJ (fun h=>?_) (fun h=>?_)
          . have en:p.nm=y:=by have z:=bd h;injection z
            refine⟨_,rfl,t,_,_,_,rfl,rfl,aw.of (To _ _ h1),a1,cG _ _ _ ⟨_,rfl⟩ (ag.refl _) (bj (by omega)) ⟨by rw[bc,mV];omega,?_⟩⟩;rw[EM sW,ap en];exact dj ⟨m,rfl,h2⟩ Tn
          . have en:p.nm≠y:=fun z=>h (by rw[z];exact aE rfl);refine gU _ _ ⟨_,rfl⟩ (ag.refl _) ⟨by omega,?_⟩;rw[EM sW,ah en,dG];exact Tn
        . rintro mv H8 f7 h8 ⟨rT,Az⟩;rw[uO (by omega)]at Az;have ml:=aK Az;have Tp:=s7.trans h8;have n78:p7≠D8:=bg e7 nv;refine⟨D8,rfl,⟨_,af.of f7⟩,?_⟩;refine jQ (xs:=mv) (fun k σ H9=>∃u4 u5 u6 zz,σ = [some (.ref a),some (.ref lf),some (.str y),some (.ref p7),u4,u5,u6]/\ag H6 H9/\H9 D8=some (.lst mv)/\H9 p7=some (.lst zz)/\Paired (dS H9) zz (Fs++((bp ps y).take k).flatMap fun m=>Fs.map fun c=>c++[(y,m)]))
           ⟨u4,u5,u6,zs,rfl,Tp,f7,h8 _ _ e7,by rw[BD,List.flatMap_nil,dG];exact aM j8 fun _ _ z=>z.same Tp⟩ ?_ ?_ ?_
          . rintro k σ H9 hk ⟨u4,u5,u6,zz,rfl,s9,d9,_⟩;exact af.of d9
          . intro k mx σ H9 hmx hQ;refine b0 ?_;intro tT;obtain⟨u4,u5,u6,zz,rfl,s9,d9,e9,z9⟩:=hQ;obtain⟨mm,Tq,tm,rfl,htm⟩:=bD Az hmx;have klt:=(bH.mp Tq).1;have bl:Fs.length * (k+1)+Fs.length<=400:=by
             have:Fs.length * (k+1+1)<=Fs.length * ((bp ps y).length+1):=Nat.mul_le_mul_left _ (by omega);rw[FY]at this;omega
            have bz:(Fs++((bp ps y).take k).flatMap fun m=>Fs.map fun c=>c++[(y,m)]).length=Fs.length * (k+1):=by
             rw[bc,Lr,db,Nat.min_eq_left (by omega),FY];omega
            have Tr:(Fs++((bp ps y).take (k+1)).flatMap fun m=>Fs.map fun c=>c++[(y,m)])=(Fs++((bp ps y).take k).flatMap fun m=>Fs.map fun c=>c++[(y,m)])++Fs.map fun c=>c++[(y,mm)]:=by
             rw[yS Tq,oR]
            generalize (Fs++((bp ps y).take k).flatMap fun m=>Fs.map fun c=>c++[(y,m)])=Bs at z9 bz Tr;refine⟨_,rfl,lf,rfl,⟨_,af.of (s9 _ _ AI)⟩,?_⟩;refine jQ (xs:=zs) (fun j σ iS=>∃u5 u6 zz,σ = [some (.ref a),some (.ref lf),some (.str y),some (.ref p7),some (.ref tm),u5,u6]/\ag H6 iS/\iS D8=some (.lst mv)/\iS p7=some (.lst zz)/\Paired (dS iS) zz (Bs++(Fs.take j).map fun c=>c++[(y,mm)]))
             ⟨u5,u6,zz,rfl,s9,d9,e9,by rw[BD,FD,dG];exact z9⟩ ?_ ?_ ?_
            . rintro j σ iS hj ⟨u5,u6,zz,rfl,fJ,_⟩;exact af.of (fJ _ _ AI)
            . intro j cx σ iS tJ hQ;refine b0 ?_;intro tT;obtain⟨u5,u6,zz,rfl,fJ,wJ,jm,uA⟩:=hQ;obtain⟨ch,dH,cc,rfl,kvs,jO,pr⟩:=bD j8 tJ;have KY:=(bH.mp dH).1;have apf:=aK uA;rw[bc,au,db]at apf;obtain⟨hny,iG⟩:=cH ch (eN dH);have prl:=aK pr;refine⟨_,rfl,cc,_,rfl,fJ _ _ jO,fun EX uw EK wI Ax=>?_⟩;refine⟨_,rfl,_,rfl,_,rfl,EX,_,rfl,kY.k (k:=.inr y) Ax (bj (by omega)),?_⟩;have bW:=j5 (o:=.dK (eu kvs (.inr y) (.ref tm))) EK wI;have my:=bW _ _ jm;refine⟨_,rfl,.inl ⟨rfl,_,af.of my⟩,_,rfl,p7,_,_,rfl,rfl,my,bj (by omega),?_⟩;have ek:eu kvs (.inr y) (.ref tm)=kvs++[(.inr y,.ref tm)]:=BX _ (zd Lx pr hny);have EY:=fJ.trans bW;refine⟨_,_,_,rfl,j5 n7 EY,aW (bW _ _ wJ) n78.symm,aP,?_⟩;rw[gB dH,dU,←oR];refine dj (dS.mut my ⟨EX,rfl,_,aP,?_⟩) (aM uA fun _ _ z=>dS.mut my (z.same bW));refine ek▸?_;rw[ek]at bW EY;exact dj ⟨rfl,tm,rfl,(cV.trans EY) _ _ htm⟩ (aM pr fun _ _=>cO.same EY)
            . rintro σ iS ⟨u5,u6,zz,rfl,fJ,wJ,jm,uA⟩;rw[zl,cj,←Tr]at uA;exact⟨_,_,_,_,rfl,fJ,wJ,jm,uA⟩
          . rintro σ H9 ⟨u4,u5,u6,zz,rfl,s9,d9,e9,z9⟩;rw[ml,cj,←Lz]at z9;exact⟨_,rfl,p7,_,_,_,_,_,zz,rfl,s6.trans s9,cV.free n7,e9,z9⟩
     . rintro σ H6 ⟨lf,u2,u3,u4,u5,u6,zs,rfl,s6,Tl,AI,j8⟩;rw[au,cj]at j8;exact⟨_,rfl,q lf zs H6 Tl (ga.trans s6) AI j8⟩
def Ts:Sp:=fun vs H Q _=>∃(c a:Addr) (ch:Ch) (xs:Lv) (ws:List cq),vs = [.ref c,.ref a]/\dE H c ch/\H a=some (.lst xs)/\Paired (c9 H) xs ws/\Q (.bl (v4 ch ws)) H
theorem LA:bh [atP,auh,"_law_wish_here","_law_make"] [atP,auh] (aI C7):=⟨rfl,rfl,rfl,by decide +kernel,rfl,by decide +kernel,by decide +kernel⟩
theorem aph{f:Addr}{fd:Fy}(F:ai K au6 au6 C7 f fd):ak P w K mg base ao 1 f fd [atP,auh] Ts:=by
 refine F.ok LA (fun vs H Q E h=>?_) (fun aF A outer s H vs Q E hr h=>?_)
 . obtain⟨c,a,ch,xs,ws,rfl,_⟩:=h;rfl
 . refine bo ?_;intro xX dX;obtain⟨c,a,ch,xs,ws,rfl,⟨kvs,hc,pr⟩,ha,hw,q⟩:=h;have hu:=hr.units;have jK:=hr.units0;have wl:=aK hw;refine⟨_,(az (gr hZ rfl (bJ (pv 1)) (aT (i:=2) LA.nd rfl (Or.inl rfl))
    (az (bi (i:=3) LA.nd rfl (Or.inl rfl) (pe hu (pv 0) (aQ bO (pv 2) ar (fun _ _=>rfl)) ⟨rfl,rfl,rfl,rfl⟩))
     (aB (cp (bA eQ (aQ bO (pv 2) ar (fun _ _=>rfl)) gL (ba _))
     (aB (cp (bA uW (pv 3) eh (ba _))
      (aB (aO fQ)) cr)) (aB (cp (PW.pt (iZ (bA kW (pv 3) eh (ba _)) (iZ (bA (GC jK) (pv 3) (aQ bO (pv 2) ar (fun _ _=>rfl)) (ba _)) (m8 (PW.pt (uV (bA uW (aQ bO (pv 2) ar (fun _ _=>rfl)) eh (ba _)) (xA (bA (N0 jK) (pv 3) (aQ bO (pv 2) ar (fun _ _=>rfl)) (ba _)))))))))
      (aB (aO fQ)) cr))))))
    (aB (aO fQ))),?_⟩
   refine qW ?_
   intros
   refine⟨_,rfl,a,rfl,⟨_,af.of ha⟩,?_⟩;refine jQ (xs:=xs) (fun i σ H2=>∃u2 u3,σ = [some (.ref c),some (.ref a),u2,u3]/\H2=H/\∀wi∈ws.take i,jE wi (ch.lookup wi.nm)=true) ⟨none,none,rfl,rfl,fun wi h=>(by rw[BD]at h;cases h)⟩ ?_ ?_ ?_
   . rintro i σ H2 hi ⟨u2,u3,rfl,rfl,_⟩;exact af.of ha
   . intro i x σ H2 hx hQ;refine b0 ?_;intro tT;obtain⟨u2,u3,rfl,rfl,fO⟩:=hQ;obtain⟨wi,gi,hW⟩:=bD hw hx;have wm:=eN gi;obtain⟨t,us,e,ht,h1⟩:=hW.nm;subst e;refine⟨_,rfl,c,rfl,.inl ⟨_,.inl hc⟩,_,rfl,t,_,_,_,rfl,rfl,aw.of ht,dY (j:=1) h1,_,cw.k (k:=.inr wi.nm) hc,?_⟩;have hB:=mi (x:=wi.nm) pr;have bad:jE wi (ch.lookup wi.nm)=false->Q (.bl false) H2:=fun hb=>by
      have e:v4 ch ws=false:=eX.mpr fun z=>by
       have:=dW.mp z wi wm;rw[hb]at this;cases this
      rw[e]at q;exact q
     have good:jE wi (ch.lookup wi.nm)=true->∀wj∈ws.take (i+1),jE wj (ch.lookup wj.nm)=true:=fun hg=>AE (R:=fun wj:cq=>jE wj (ch.lookup wj.nm)=true) gi fO hg;generalize (bP kvs (.inr wi.nm)).getD .non=mv at hB ⊢;generalize ch.lookup wi.nm=mk at hB bad good;obtain⟨t',e',cH⟩:=hW;cases e';obtain⟨nm,io⟩:=wi;cases io with
     | none=>
      have cH:H2 t=some (.tup [.str "out",.str nm]):=cH;refine⟨_,rfl,t,_,_,_,rfl,rfl,aw.of cH,rfl,rfl,_,rfl,?_⟩;refine aJ (fun h=>?_) (fun h=>absurd (aE rfl) h);refine⟨_,rfl,rfl,_,rfl,?_⟩;cases mk with
      | none=>
       have hB:mv = .non:=hB;subst hB;refine ff ?_;exact⟨_,_,rfl,rfl,good rfl⟩
      | some m=>
       obtain⟨am,rfl,_⟩:=hB;refine i7 ?_;exact bad rfl
     | some cc=>
      obtain⟨l,b,g1,g2,g3⟩:=cH;have g1:H2 t=some (.tup [.str "in",.str nm,.ref l,b]):=g1;have a2:bT [V.str "in",.str nm,.ref l,b] 2=some (V.ref l):=rfl;have a3:bT [V.str "in",.str nm,.ref l,b] 3=some b:=rfl;refine⟨_,rfl,t,_,_,_,rfl,rfl,aw.of g1,rfl,rfl,_,rfl,?_⟩;refine aJ (fun h=>absurd (bd h) Rj) (fun h=>?_);refine⟨_,rfl,rfl,_,rfl,?_⟩;cases mk with
      | none=>
       have hB:mv = .non:=hB;subst hB;exact i7 (i7 (bad rfl))
      | some m=>
       obtain⟨am,rfl,hm⟩:=hB;refine ff ?_;refine⟨_,rfl,_,rfl,t,_,_,_,rfl,rfl,aw.of g1,a2,am,l,m,cc.1,rfl,rfl,aw.of hm,aw.of g2,_,rfl,?_⟩;refine aJ (fun aD=>?_) (fun aD=>?_)
       . refine i7 (bad ?_);show(!HT.lexLt m cc.1 && re m cc.2)=false;rw[aD];rfl
       . have aD:=eX.mpr aD;refine⟨_,rfl,t,_,_,_,rfl,rfl,aw.of g1,a3,rfl,_,rfl,?_⟩;obtain⟨c1,c2⟩:=cc;cases c2 with
         | none=>
          have g3:b = .non:=g3;subst g3;refine ff (ff ⟨_,_,rfl,rfl,good ?_⟩);show(!HT.lexLt m c1 && true)=true;rw[aD];rfl
         | some bs=>
          obtain⟨ab,rfl,hb⟩:=g3;refine i7 ?_;refine⟨_,rfl,_,rfl,t,_,_,_,rfl,rfl,aw.of g1,a3,am,ab,m,bs,rfl,rfl,aw.of hm,aw.of hb,_,rfl,?_⟩;refine aJ (fun j0=>?_) (fun j0=>?_)
          . refine bad ?_;show(!HT.lexLt m c1 && HT.lexLt m bs)=false;rw[Vr]at j0;rw[j0,kj]
          . refine⟨_,_,rfl,rfl,good ?_⟩;show(!HT.lexLt m c1 && HT.lexLt m bs)=true;rw[aD];cases hz:HT.lexLt m bs with
            | true=>rfl
            | false=>exact absurd (by rw[hz];rfl) j0
   . rintro σ H2 ⟨u2,u3,rfl,rfl,fO⟩;rw[wl,cj]at fO;have e:v4 ch ws=true:=dW.mpr fO;rw[e]at q;exact q
end
theorem c9.mut{H:Hp}{D:Addr}{zs aY:Lv}(hD:H D=some (.lst zs)){v:V}{w:cq}(h:c9 H v w):c9 (aj H D (.lst aY)) v w:=by
 obtain⟨t,e,h⟩:=h;refine⟨t,e,?_⟩;obtain⟨nm,io⟩:=w;cases io with
 | none=>
  have h:H t=some (.tup [.str "out",.str nm]):=h;exact aW h (eP h hD (by intro z;cases z))
 | some c=>
  obtain⟨l,b,h1,h2,h3⟩:=h;exact⟨l,b,aW h1 (eP h1 hD (by intro z;cases z)),aW h2 (eP h2 hD (by intro z;cases z)),cZ.mut hD h3⟩
section
variable {P:Program} {w:World} {K:Fg} {mg:Mv} {base:Heap}
def Tt:Sp:=fun vs H Q _=>∃(na:Addr) (c k:Int) (xs:Ls),vs = [.ref na,.int c,.int k]/\0<=k/\k<=100/\H na=some (.lst (xs.map V.str))/\Dd xs/\∀v H' w,ag H H'->c9 H' v w->Q v H'
theorem EZ:bh [atK,atH,atO,aub,"_law_least","_law_below"] [atK,atH,atO] (aI Db):=⟨rfl,rfl,rfl,by decide +kernel,rfl,by decide +kernel,by decide +kernel⟩
theorem api{f fq:Addr}{fd iL:Fy}(F:ai K au0 au0 Db f fd)(bC:ai K atY atY pM fq iL)(b8:mg atY = some (.ref fq)):ak P w K mg base ao 2 f fd [atK,atH,atO] Tt:=by
 have dg:ak P w K mg base ao 1 fq iL [atH,atO] vJ:=y7 bC;have dh:=bC.binds2 (l:=[atH,atO]) (fun _ _ _ _ _ _ _ _=>rfl);refine F.ok EZ (fun vs H Q E h=>?_) (fun aF A outer s H vs Q E hr h=>?_)
 . obtain⟨na,c,k,xs,rfl,_⟩:=h;rfl
 . refine bo ?_;intro xX dX;obtain⟨na,c,k,xs,rfl,k0,k1,lr,hN,q⟩:=h;refine⟨_,(az (bi (i:=3) EZ.nd rfl (Or.inl rfl) (aQ gO (aU xZ (aU xZ (xJ x6 (pv 0) BV (vb ar)) (xJ x6 (pv 0) BV (vb ar))) (eA (aa gL ae))) (aU dr (aG dg hr rfl b8 bC.kp dh .nil av (aa (pv 1) (aa (pv 2) ae))) ar) (fun _ _=>rfl)))
    (az (cp (bA eQ (aU dr (aG dg hr rfl b8 bC.kp dh .nil av (aa (pv 1) (aa (aU gu (pv 2) ar) ae))) ar) ar (ba _))
    (aB (aO (dz (aa gL (aa (pv 3) ae))))) cr)
    (az (bi (i:=4) EZ.nd rfl (Or.inl rfl) (aQ gO (eA (aa (dz ae) (aa (dz ae) (aa (dz (aa (aU dr (aG dg hr rfl b8 bC.kp dh .nil av (aa (pv 1) (aa (aU gu (pv 2) ar) ae))) ar) ae)) ae)))) (aU dr (aG dg hr rfl b8 bC.kp dh .nil av (aa (pv 1) (aa (aU gu (pv 2) ar) ae))) ar) (fun _ _=>rfl)))
    (az (bi (i:=5) EZ.nd rfl (Or.inl rfl) (aQ gO (eA (aa eh (aa eh (aa (dz (aa (aU gu ar (aU dr (aG dg hr rfl b8 bC.kp dh .nil av (aa (pv 1) (aa (aU gu (pv 2) ar) ae))) ar)) ae)) ae)))) (aU dr (aG dg hr rfl b8 bC.kp dh .nil av (aa (pv 1) (aa (aU gu (pv 2) ar) ae))) ar) (fun _ _=>rfl)))
    (aB (aO (dz (aa gL (aa (pv 3) (aa (pv 4) (aa (pv 5) ae))))))))))),?_⟩
   refine G2 ?_;intro dD sS Dk kH eS dM;have t4:(xs.take (4:Int).toNat).length=4:=by rw[db,hN.len];rfl
   refine⟨_,rfl,_,rfl,na,_,rfl,af.of lr,fun p1 H1 n1 s1 e1=>?_⟩;rw[B5,GW (by decide)]at e1;refine⟨_,rfl,_,rfl,na,_,rfl,af.of (s1 _ _ lr),fun p2 H2 n2 s2 e2=>?_⟩;rw[B5,GW (by decide)]at e2;refine⟨p1,p2,_,_,rfl,rfl,s2 _ _ e1,e2,kz (by rw[au,t4];decide),fun p3 H3 n3 s3 e3=>?_⟩;refine⟨(by show 1<=sizeLine;decide),fun p4 H4 n4 s4 e4=>?_⟩;refine⟨p3,p4,_,_,rfl,rfl,s4 _ _ e3,e4,kz (by rw[bc,au,t4];decide),fun p5 H5 n5 s5 e5=>?_⟩;have e5':H5 p5=some (.lst ((xs.take (4:Int).toNat++xs.take (4:Int).toNat++[EG]).map V.str)):=by rw[e5,dU,dU];rfl
   refine⟨_,rfl,_,rfl,c,k,rfl,by omega,by omega,fun d0 _=>?_⟩;obtain⟨z,hz,_⟩:=yb (xs:=xs.take (4:Int).toNat++xs.take (4:Int).toNat++[EG]) (r:=d0 % 9) (by omega) (by rw[bc,bc,t4];show _<((9:Nat):Int);omega);refine⟨_,_,rfl,rfl,(by show(0:Int)<9;decide),p5,_,_,_,rfl,rfl,af.of e5',hz,?_⟩;refine⟨_,rfl,_,rfl,_,_,rfl,rfl,_,_,rfl,by omega,by omega,fun d1 _=>?_⟩;refine⟨_,_,rfl,rfl,(by show(0:Int)<3;decide),rfl,_,rfl,?_⟩;have rQ:=(((s1.trans s2).trans s3).trans s4).trans s5;refine aJ (fun h=>?_) (fun h=>?_)
   . refine⟨_,rfl,(by show 2<=sizeLine;decide),fun p6 H6 n6 s6 e6=>?_⟩;exact q _ _ ⟨z,none⟩ (rQ.trans s6) ⟨p6,rfl,e6⟩
   . refine⟨(by show 0<=sizeLine;decide),fun p7 H7 n7 s7 e7=>?_⟩;refine⟨(by show 0<=sizeLine;decide),fun p8 H8 n8 s8 e8=>?_⟩;refine⟨_,rfl,_,rfl,_,_,rfl,rfl,_,_,rfl,by omega,by omega,fun d2 _=>?_⟩;refine⟨_,_,rfl,rfl,(by show(0:Int)<3;decide),(by show 1<=sizeLine;decide),fun p9 H9 n9 s9 e9=>?_⟩;refine⟨(by show 3<=sizeLine;decide),fun qp iS wF fJ jm=>?_⟩;refine⟨_,rfl,_,rfl,_,_,rfl,rfl,_,_,rfl,by omega,by omega,fun d3 _=>?_⟩;obtain⟨lv,K0,l,ls,rfl,hl⟩:=Iq (a:=.ref p7) (b:=.ref p8) (c:=.ref p9) d3 (R:=fun v=>∃l ls,v = .ref l/\iS l=some (.tup (ls.map V.int))) ⟨_,[],rfl,((s8.trans s9).trans fJ) _ _ e7⟩ ⟨_,[],rfl,(s9.trans fJ) _ _ e8⟩ ⟨_,[_],rfl,fJ _ _ e9⟩;refine⟨_,_,rfl,rfl,(by show(0:Int)<3;decide),qp,_,_,_,rfl,rfl,af.of jm,K0,?_⟩;refine⟨_,rfl,_,rfl,_,_,rfl,rfl,_,_,rfl,by omega,by omega,fun d5 _=>?_⟩;refine⟨_,_,rfl,rfl,(by show(0:Int)<3;decide),_,_,rfl,rfl,(by show 1<=sizeLine;decide),fun EX uw EK wI Ax=>?_⟩;refine⟨(by show 3<=sizeLine;decide),fun K1 EI Sz bW my=>?_⟩;refine⟨_,rfl,_,rfl,_,_,rfl,rfl,_,_,rfl,by omega,by omega,fun d6 _=>?_⟩;obtain⟨bv,K2,bl,hb⟩:=Iq (a:=.non) (b:=.non) (c:=.ref EX) d6 (R:=fun v=>∃bl,cZ EI v bl) ⟨none,rfl⟩ ⟨none,rfl⟩ ⟨some [_],_,rfl,bW _ _ Ax⟩;refine⟨_,_,rfl,rfl,(by show(0:Int)<3;decide),K1,_,_,_,rfl,rfl,af.of my,K2,?_⟩;refine⟨_,rfl,_,rfl,_,rfl,(by show 4<=sizeLine;decide),fun As EJ SA bI wG=>?_⟩;have Tu:=(wI.trans bW).trans bI;exact q _ _ ⟨z,some (ls,bl)⟩ (((((rQ.trans s7).trans s8).trans s9).trans fJ).trans Tu) ⟨As,rfl,l,bv,wG,Tu _ _ hl,hb.same bI⟩
theorem apk{H H9:Hp}{kvs:List (aN×V)}{ch:Ch}{y:Str}{p9:Addr}(pr:Paired (cO H) kvs ch)(s:ag H H9)(e9:H9 p9=some (.tup [])):lE H9 ((bP kvs (.inr y)).getD (.ref p9)) ((ch.lookup y).getD []):=by
 have hB:=(mi (x:=y) pr).same s
 by_cases hm:y∈ch.map (·.1)
 . obtain⟨u,ls,g1,_,_,m,g4,_⟩:=Dp (fun _ _ (z:cO H _ _)=>z.1) pr hm;obtain⟨mm,hl⟩:=Kv hm;rw[g1,hl]at hB;rw[g1,hl];exact hB
 . rw[zd (fun _ _ (z:cO H _ _)=>z.1) pr hm,En hm];exact⟨p9,rfl,e9⟩
def Tv:Sp:=fun vs H Q _=>∃(a nw c:Addr) (xs:Lv) (ps:Lp) (ys:Ls) (now ch:Ch),vs = [.ref a,.ref nw,.ref c]/\H a=some (.lst xs)/\mz H xs ps/\ps.length<=9/\fz ps ys/\dE H nw now/\dE H c ch /\
 ∀kt H',ag H H'->pF H' kt (Ah now ys ch) (Ep ys ch)->Q (.ref kt) H'
theorem LB:bh [atN,auj,atP,atK,"_law_changed"] [atN,auj,atP] (aI C9):=⟨rfl,rfl,rfl,by decide +kernel,rfl,by decide +kernel,by decide +kernel⟩
theorem apl{f:Addr}{fd:Fy}(F:ai K auU auU C9 f fd)(B:bX mg):ak P w K mg base ao 1 f fd [atN,auj,atP] Tv:=by
 refine F.ok LB (fun vs H Q E h=>?_) (fun aF A outer s H vs Q E hr h=>?_)
 . obtain⟨a,nw,c,xs,ps,ys,now,ch,rfl,_⟩:=h;rfl
 . refine bo ?_;intro xX dX;obtain⟨a,nw,c,xs,ps,ys,now,ch,rfl,ha,bf,l9,hN,⟨ka,ED,pa⟩,⟨kb,hc,pb⟩,q⟩:=h;have hu:=hr.units;have xl:=aK bf;refine⟨_,(az (bi (i:=3) LB.nd rfl (Or.inl rfl) (bZ (Ck rfl) (by rfl) B.sorted xp (aa (gh (Hu rfl) (by rfl) B.set F0 (aa (dw [atW] [] [] ⟨rfl,by decide +kernel,by decide +kernel,by decide +kernel,by decide +kernel,rfl,rfl,rfl⟩ rfl (bJ (pv 0)) (fun _ _ _ _=>(aT (i:=0) (show List.Nodup ([atW]:Ls) by decide +kernel) rfl (Or.inl rfl))) (fun _ _ _ _=>fh) (fun _ _ _ _=>(aQ (lS K) (pv 0) ar (fun _ _=>rfl)))) ae)) ae)))
    (az (ny (i:=4) [aub] [atP,auj] [2,1] LB.nd rfl rfl ⟨rfl,by decide +kernel,by decide +kernel,by decide +kernel,by decide +kernel,rfl,rfl,rfl⟩ rfl (bJ (pv 3)) (fun _ _ _ _=>(aT (i:=0) (show List.Nodup ([aub,atP,auj]:Ls) by decide +kernel) rfl (Or.inl rfl))) (fun _ _ _ _=>ig (bA (OK K hu) (pe hu (pv 1) (pv 0) ⟨rfl,rfl,rfl,rfl⟩) (pe hu (pv 2) (pv 0) ⟨rfl,rfl,rfl,rfl⟩) (ba _))) (fun _ _ _ _=>(pv 0)))
    (aB (aO (dz (aa (aU XR ar (bZ gy (by rfl) B.len hX (aa (pv 4) ae))) (aa (dw [aub] [atP] [2] ⟨rfl,by decide +kernel,by decide +kernel,by decide +kernel,by decide +kernel,rfl,rfl,rfl⟩ rfl (bJ (pv 3)) (fun _ _ _ _=>(aT (i:=0) (show List.Nodup ([aub,atP]:Ls) by decide +kernel) rfl (Or.inl rfl))) (fun _ _ _ _=>fh) (fun _ _ _ _=>(NX hu (pv 1) (pv 0) (dz ae) ⟨rfl,rfl,rfl,rfl⟩))) ae))))))),?_⟩
   refine lT ?_;intro dD sS eS dM;refine⟨_,rfl,a,rfl,⟨_,af.of ha⟩,?_⟩;refine yA (σ0:=[none]) (af.of ha) (fun σ=>∃u,σ = [u]) ((ps.map aS.nm).map V.str) (by rw[au,au,xl]) (hJ (bj (by omega))) ⟨_,rfl⟩ ?_ ?_
   . intro i z y σ H3 k hz hy hQ hs hk;obtain⟨u,rfl⟩:=hQ;obtain⟨p,hp,t,m,fa,na,sa,oa,fx,rfl,h1,_⟩:=bD bf hz;rw[bN,bN,hp]at hy;cases hy;have a0:bT [V.str p.nm,.ref m,.int p.rk,.ref fa,.ref na,.ref sa,.ref oa] 0=some (V.str p.nm):=rfl;exact⟨_,rfl,t,_,_,_,rfl,rfl,aw.of (hs _ _ h1),a0,hk _ _ ⟨_,rfl⟩ (ag.refl _)⟩
   . intro D H3 hD eD s3;refine⟨D,ps.map aS.nm,rfl,af.of eD,by rw[au];omega,fun r Ly H4 n4 s4 e4 nd mem=>?_⟩;have hl:=Jp nd fun z hz=>(mem z).mp hz;rw[au]at hl;refine⟨r,Ly,rfl,e4,by omega,fun aX hp hs=>fun l H5 n5 s5 e5=>?_⟩;have ey:=fz.uniq ⟨hs,hp.nodup_iff.mpr nd,fun z=>by rw[hp.mem_iff,mem]⟩ hN;subst ey;have ga:=s3.trans (s4.trans s5);have yl:aX.length<=9:=by rw[hp.length_eq];omega
     refine⟨_,rfl,l,rfl,⟨_,af.of e5⟩,?_⟩;intro D6 hD6;refine jD (K:=K) (xs:=aX.map V.str) (σ0:=[none,some (.ref c),some (.ref nw)]) hD6 (af.of e5) (fun σ=>∃v,σ = [v,some (.ref c),some (.ref nw)]) (fun i ws _=>ws=((aX.take i).filter (jF now ch)).map V.str) ⟨_,rfl⟩ rfl ?_ ?_
     . rintro i x ws σ H6 k k' hx ⟨v,rfl⟩ rN s6 rfl hk dA;rw[bN]at hx;cases hy:aX[i]? with
       | none=>rw[hy]at hx;cases hx
       | some y=>
        rw[hy]at hx;cases hx;have cV:=ga.trans s6;obtain⟨d1,o1⟩:=v3 (K:=K) ((mi (x:=y) pa).same cV);obtain⟨d2,o2⟩:=v3 (K:=K) ((mi (x:=y) pb).same cV);refine⟨_,rfl,c,rfl,.inl ⟨_,.inl (cV _ _ hc)⟩,_,rfl,_,cw.k (k:=.inr y) (cV _ _ hc),?_⟩;refine⟨_,rfl,nw,rfl,.inl ⟨_,.inl (cV _ _ ED)⟩,_,rfl,_,cw.k (k:=.inr y) (cV _ _ ED),?_⟩;refine⟨_,_,d2,d1,o2,o1,fun bb sZ=>⟨_,rfl,?_⟩⟩;have e0:=pG (f:=jF now ch) hy;have fl:=gK (jF now ch) (aX.take i);rw[db]at fl;refine aJ (fun h=>?_) (fun h=>?_)
        . have bn:jF now ch y=true:=aE fun e=>by
           have:bb=true:=sZ.mpr (by rw[e]);rw[this]at h;cases h
          refine⟨_,rfl,hk _ _ _ ⟨_,rfl⟩ (ag.refl _) (bj ?_) ?_⟩
          . rw[au];omega
          . rw[e0,ap bn,dU];rfl
        . have heq:ch.lookup y=now.lookup y:=by
           cases bb with
           | true=>exact JA (sZ.mp rfl)
           | false=>exact absurd rfl h
          refine dA _ _ ⟨_,rfl⟩ (ag.refl _) ?_;rw[e0,ah (fun z:jF now ch y=true=>bd (p:=now.lookup y≠ch.lookup y) z heq.symm),dG]
     . rintro ws H6 rN s6 rfl;rw[au,cj]at rN;have cV:=ga.trans s6;refine⟨_,rfl,D6,_,rfl,.inl (af.of rN),_,_,rfl,rfl,_,rfl,l,rfl,⟨_,af.of (s6 _ _ e5)⟩,?_⟩;refine x9 (σ0:=[none,some (.ref c)]) (af.of (s6 _ _ e5)) (fun σ=>∃v,σ = [v,some (.ref c)]) (fun k aY H8=>Paired (lE H8) aY ((aX.take k).map fun y=>(ch.lookup y).getD [])) ⟨_,rfl⟩ (fun _ _=>.nil) ?_ ?_
       . rintro D8 k x8 mh σ8 H8 kk nv iP ⟨v8,rfl⟩ f7 h8 hP hk;rw[bN]at iP;cases hy:aX[k]? with
         | none=>rw[hy]at iP;cases iP
         | some y=>
          rw[hy]at iP;cases iP;have aD:=(bH.mp hy).1;have pZ:=aK hP;rw[au,db]at pZ;have c8:=(cV.trans h8) _ _ hc;refine⟨_,rfl,c,rfl,.inl ⟨_,.inl c8⟩,_,rfl,(by show 0<=sizeLine;decide),fun p9 H9 n9 s9 e9=>?_⟩;refine⟨_,cw.k (k:=.inr y) (s9 _ _ c8),?_⟩;have hT:=apk (y:=y) pb ((cV.trans h8).trans s9) e9;have d9:=s9 _ _ f7;refine hk _ _ _ ⟨_,rfl⟩ s9 (bj (by omega)) ?_;rw[gB hy,dU];exact dj (hT.mut d9) (aM hP fun _ _ z=>(z.same s9).mut d9)
       . intro D8 mh H8 nv f7 h8 hP;rw[au,cj]at hP;refine⟨(by show 2<=sizeLine;decide),fun kt H9 n9 s9 e9=>?_⟩;refine q kt H9 ((cV.trans h8).trans s9) ⟨D8,mh,?_,s9 _ _ f7,aM hP fun _ _ z=>(z.elim fun t apn=>apn.elim fun e h=>⟨t,e,s9 _ _ h⟩)⟩;rw[e9];unfold Ah;rw[au];dsimp only;rw[Int.zero_sub]
end
end K42
namespace HT
open PySem PyProof.Rows
section
open PySem.SeqAt
open PySem.AutoSeq1 (wpAny_loadPart')
open PySem.MeetsSeq PySem.MeetsSeq2 PySem.MeetsSeq3
variable {P:Program} {w:World} {A:Around} {s:Shared}
def mD(P:Program)(w:World)(A:Around)(s:Shared)(y x:Value)(b:Bool):Prop:=∀(E:VP) (Q:Bool->Shared->Prop),Q b s->wpAny (model P w) A (eqBool y x) Q E s
theorem mD.of{y x:Value}{b:Bool}(h:EqAt A s y x b):mD P w A s y x b:=fun E Q q=>h P w E Q q
theorem mD.refs{l b:Addr}{r:Bool}(ne:l≠b)(h:∀(E Q:VP),Q (.bool r) s->wpAny (model P w) A (richCompare .Eq (.ref l) (.ref b)) Q E s):mD P w A s (.ref l) (.ref b) r:=fun E Q q=>by
 unfold eqBool;refine gH (FJ (fun e=>absurd (by have z:=eq_of_beq e;injection z) ne) fun _=>?_);exact ac (h E _ (kP q))
theorem apo(l:Addr)(items:Av)(n:Nat)(dd:Oa)(sl:Array (Option Value))(x:Value)(e:Value->Bool)(k:Nat) :
 ∀i:Nat,items.size - i=k->MeetsIn P w (Builtin.«list.__contains__.loop» ⟨[.ref l,x,rawInt i],[]⟩)
  (fun A R s=>s.heap.get? l=some ⟨.type "list",dd,.seq items n,sl⟩/\(∀y,y∈items->mD P w A.in1 s y x (e y))/\R (.ok (.ret (.bool ((items.toList.drop i).any e)))) s):=by
 induction k with
 | zero=>
  intro i hk A R s h;obtain⟨hp,g,d,tk,os⟩:=s;obtain⟨hl,he,h⟩:=h
  wp_walk using wpAny_loadPart' hl
  have hi:items[((i:Nat):Int).toNat]? = none:=by simp;omega
  have hd:items.toList.drop i = []:=by simp;omega
  rw[hd]at h;rw[hi]
  wp_walk
  exact h
 | succ k ih=>
  intro i hk A R s h;obtain⟨hp,g,d,tk,os⟩:=s;obtain⟨hl,he,h⟩:=h
  wp_walk using wpAny_loadPart' hl
  have aD:i<items.size:=by omega
  have hi:items[((i:Nat):Int).toNat]? = some items[i]:=by simp[aD]
  have hd:items.toList.drop i=items[i]::items.toList.drop (i+1):=by simp[asg,aD]
  rw[hd,qz]at h;rw[hi];refine ac (he _ (Array.getElem_mem aD) _ _ ?_);cases hb:e items[i]with
  | true=>
   rw[hb]at h
   wp_walk
   exact h
  | false=>
   rw[hb]at h;have hc:((i:Int)+1)=((i+1:Nat):Int):=by push_cast;rfl
   wp_walk
   rw[hc];exact⟨kn MZ _,ko entry_contains_loop (by
    rw[kR MZ _];exact ih (i+1) (by omega) A R _ ⟨hl,he,by simpa using h⟩)⟩
theorem app(l:Addr)(items:Av)(n:Nat)(dd:Oa)(sl:Array (Option Value))(x:Value)(e:Value->Bool) :
 MeetsIn P w (Builtin.«list.__contains__» ⟨[.ref l,x],[]⟩)
  (fun A R s=>s.heap.get? l=some ⟨.type "list",dd,.seq items n,sl⟩/\(∀y,y∈items->mD P w A.in1 s y x (e y))/\R (.ok (.ret (.bool (items.any e)))) s):=by
 intro A R s h;obtain⟨hp,g,d,tk,os⟩:=s;obtain⟨hl,he,h⟩:=h
 wp_walk using wpAny_loadPart' hl
 exact⟨kn MZ _,ko entry_contains_loop (by
  rw[kR MZ _];exact apo l items n dd sl x e _ 0 rfl A R _ ⟨hl,he,by simpa using h⟩)⟩
theorem apq{l:Addr}{items:Av}{x:Value}{Q E:VP}(e:Value->Bool)(hl:s.heap.IsList l items)(he:∀y,y∈items->mD P w A.in1 s y x (e y))
 (h:Q (.bool (!items.any e)) s):wpAny (model P w) A (compareOp .NotIn x (.ref l)) Q E s:=by
 obtain⟨⟨cls,dd,data,sl⟩,ho,hc,n,hd⟩:=id hl;simp only at hc hd;subst hc hd;show wpAny _ A (do return .bool (!(←contains (.ref l) x))) Q E s;refine ac (wpAny_contains_slot ⟨_,ho,rfl⟩ asx (dN (xf (Q:=fun v s'=>∃b,v = .bool b/\Q (.bool (!b)) s') (E:=E) asx ⟨_,ho,rfl⟩ PySem.F.entry_list_contains (PySem.F.args_list_contains_2 _ _) (app l items n dd sl x e) ⟨ho,he,_,rfl,h⟩) (fun v s' hv=>?_) fun _ _ e=>e));obtain⟨b,rfl,hq⟩:=hv;exact kP (aq hq)
end
end HT
namespace K42
open PySem L2 PySem.Spec PyProof.Rows
open PySem.W (KeqHits)
seal PE PS cz PA PT PW PG iB PI gP
def wT(a b:Ch):Bool:=decide (a.length=b.length) && a.all fun e=>decide (b.lookup e.1=some e.2)
theorem Tw{a:Ch}(nd:(a.map (·.1)).Nodup):wT a a=true:=by
 unfold wT;rw[aE rfl,jq,dW];intro e he;exact aE ((Kw nd).mpr he)
theorem LC{H:Hp}:∀{kvs:List (aN×V)} {a b:Ch},Paired (cO H) kvs a->Paired (cO H) kvs b->a=b
 | _,_,_,.nil,.nil=>rfl
 | _,_,_,.cons (b:=ea) ⟨h1,m,h2,h3⟩ ra,.cons (b:=eb) ⟨k1,m',k2,k3⟩ rb=>by
  rw[LC ra rb];have e1:ea.1=eb.1:=by
   have:=h1.symm.trans k1;injection this
  rw[h2]at k2;cases k2;rw[h3]at k3;injection k3 with k3
  injection k3 with k3
  have e2:ea.2=eb.2:=(Vi fun x y z=>by injection z).mp k3;rw[show ea=eb from Prod.ext e1 e2]
section
variable {X:Cx} {pins:Po} {σ:L2.St} {H:Hp} {s:Shared}
theorem Tx(A:Around)(hu:A.units+65<cLine)(I:Inv X pins σ H s){kb:List (aN×V)}{cb:Ch}{wb:List (aN×Value)}(pb:Paired (cO H) kb cb)(rb:KV kb wb):∀{ka:List (aN×V)} {ca:Ch} {va:List (aN×Value)},Paired (cO H) ka ca->KV ka va->KeqHits A.in1 s wb va (ca.all fun e=>decide (cb.lookup e.1=some e.2))
 | _,_,_,.nil,hv=>by
  unfold KV at hv;cases hv;exact .nil
 | p::ka,e::ca,va,.cons ⟨h1,m,h2,h3⟩ ra,hv=>by
  unfold KV at hv;cases hv with
  | @cons _ pv _ va rv tv=>
  have ih:=Tx A hu I pb rb ra tv;obtain⟨pk,Cu⟩:=pv;have hk:p.1=pk:=rv.1;have r2:RelV p.2 Cu:=rv.2;have rel:=rb.val p.1;rw[FF];rw[h1]at hk rel;subst hk
  by_cases hm:e.1∈cb.map (·.1)
  . obtain⟨v,ls,g1,_,_,m',g4,_⟩:=Dp (fun _ _ (z:cO H _ _)=>z.1) pb hm;obtain⟨mm,hl⟩:=Kv hm;have hB:=mi (x:=e.1) pb;rw[g1,hl]at hB;obtain⟨am,ea,hA⟩:=hB;have ea:v = .ref am:=ea;rw[g1]at rel;cases hy:valueAt wb (.inr e.1) with
    | none=>rw[hy]at rel;exact rel.elim
    | some y=>
     rw[hy]at rel;have rel:RelV v y:=rel;obtain⟨b,hb,hi⟩:=HY A hu I r2 rel (by rw[h2];exact yQ ⟨m,rfl,h3⟩) (by rw[ea];exact yQ ⟨am,rfl,hA⟩) (vD 8 e.2) (vD 8 mm);have eb:b=decide (cb.lookup e.1=some e.2):=by
      rw[hl]
      by_cases z:e.2=mm
      . rw[hi.mpr (by rw[z]),z];exact(aE rfl).symm
      . rw[eX.mpr fun w=>z (HW (hi.mp w))];exact(aR fun w=>z (eK w).symm).symm
     rw[←eb];exact .hit hy hb ih
  . have g:=zd (fun _ _ (z:cO H _ _)=>z.1) pb hm;rw[En hm,aR (by intro z;cases z),iU];rw[g]at rel;cases hy:valueAt wb (.inr e.1) with
    | none=>exact .miss hy
    | some y=>rw[hy]at rel;exact rel.elim
theorem apr(A:Around)(hu:A.units+65<cLine)(I:Inv X pins σ H s){a b:Addr}{ca cb:Ch}(ha:dE H a ca)(hb:dE H b cb)(nd:(ca.map (·.1)).Nodup):HT.mD X.prog X.w A s (.ref a) (.ref b) (wT ca cb):=by
 obtain⟨ka,h1,p1⟩:=ha;obtain⟨kb,h2,p2⟩:=hb
 by_cases e:a=b
 . subst e;rw[h1]at h2;cases h2;rw[←LC p1 p2,Tw nd];exact HT.mD.of (Mg _)
 . obtain⟨_,hd,vs,rel,dd⟩:=qQ I.hok h1;obtain⟨_,jv,ws,yN,nu⟩:=qQ I.hok h2;refine HT.mD.refs e fun E Q q=>?_;refine PySem.W.keq_eq (knd:=cm X.prog X.w) hd jv dd nu (by omega) (fun _=>Tx A hu I p2 yN p1 rel) ?_;have l1:vs.length=ca.length:=by rw[←rel.length,aK p1]
   have l2:ws.length=cb.length:=by rw[←yN.length,aK p2]
   have e:(vs.length == ws.length)=decide (ca.length=cb.length):=by
    rw[l1,l2]
    by_cases z:ca.length=cb.length
    . rw[z,rZ,aE rfl]
    . rw[aR z];exact iw.mpr z
   rw[e];exact q
theorem aps(hu:X.A.units+66<cLine):bK X (compareOp .NotIn) (fun x y H Q=>∃c l zs ch jj,x = .ref c/\y = .ref l/\H l=some (.lst zs)/\dE H c ch/\Paired (dS H) zs jj/\(∀fG∈jj,(fG.map (·.1)).Nodup)/\ch∈jj/\Q (.bl false) H):=by
 intro pins s σ H x y v u Q I rx ry h;obtain⟨c,l,zs,ch,jj,rfl,rfl,hl,hc,hz,nd,hm,q⟩:=h;cases rx;cases ry;obtain⟨its,r,pl,_⟩:=I.list (af.of (K:=X.K) hl)
 classical
 have key:∀{zs:Lv} {us:Lw} {jj:List Ch},a8 zs us->Paired (dS H) zs jj->∀y∈us,∃c' fG,y = .ref c'/\dE H c' fG/\fG∈jj:=by
  intro zs us jj rs
  induction rs generalizing jj with
  | nil=>intro _ y hy;cases hy
  | cons r rr ih=>
   intro hz y hy;cases hz with
   | cons q qs=>
    rcases bw.mp hy with e | e
    . subst e;obtain⟨c',ec,eY⟩:=q;subst ec;cases r;exact⟨c',_,rfl,eY,cD⟩
    . obtain⟨c',fG,a,b,d⟩:=ih qs y e;exact⟨c',fG,a,b,cy _ d⟩
 have apt:∀{zs:Lv} {us:Lw} {jj:List Ch},a8 zs us->Paired (dS H) zs jj->∀ch∈jj,∃c',Value.ref c'∈us/\dE H c' ch:=by
  intro zs us jj rs
  induction rs generalizing jj with
  | nil=>intro hz ch hc;cases hz;cases hc
  | cons r rr ih=>
   intro hz ch hc;cases hz with
   | cons q qs=>
    rcases bw.mp hc with e | e
    . subst e;obtain⟨c',ec,eY⟩:=q;subst ec;cases r;exact⟨c',cD,eY⟩
    . obtain⟨c',a,b⟩:=ih qs ch e;exact⟨c',cy _ a,b⟩
 let e:Value->Bool:=fun y=>decide (∃c' fG,y = .ref c'/\dE H c' fG/\wT fG ch=true)
 have he:∀y,y∈its.toArray->HT.mD X.prog X.w X.A.in1 s y (.ref c) (e y):=fun y hy=>by
  obtain⟨c',fG,rfl,eY,zN⟩:=key r hz y (by simpa using hy);have z:=apr X.A.in1 (by show X.A.units+1+65<cLine;omega) I eY hc (nd fG zN);have ez:e (.ref c')=wT fG ch:=by
   by_cases w:wT fG ch=true
   . rw[w];exact aE ⟨c',fG,rfl,eY,w⟩
   . rw[eX.mpr w];refine aR fun apu=>apu.elim fun c2 apv=>apv.elim fun ch2 apw=>apw.elim fun e2 apx=>apx.elim fun h2 w2=>w ?_;injection e2 with e2
     subst e2;obtain⟨k1,g1,p1⟩:=eY;obtain⟨k2,g2,p2⟩:=h2;rw[g1]at g2;cases g2;rw[LC p1 p2];exact w2
  rw[ez];exact z
 refine HT.apq e pl.isList he ?_;have ha:its.toArray.any e=true:=by
  obtain⟨c',h1,h2⟩:=apt r hz ch hm;rw[List.any_toArray,jp];exact⟨_,h1,aE ⟨c',ch,rfl,h2,Tw (nd ch hm)⟩⟩
 rw[ha];exact⟨.bl false,H,I,rfl,q⟩
end
end K42
namespace L2
open PySem PySem.Spec PyProof.Rows
section
variable {X:Cx}
theorem apy:bK X (compareOp .Is) (fun x y H Q=>∃b c:Bool,x = .bl b/\y = .bl c/\Q (.bl (b == c)) H):=by
 intro pins s σ H x y v u Q I rx ry h;obtain⟨b,c,rfl,rfl,q⟩:=h;cases rx;cases ry;exact is_bool (cA I q rfl)
end
end L2
namespace K42
open PySem L2 PySem.Spec PyProof.Rows
seal PE PS cz PA PT PW PG iB PI gP
theorem cZ.ke{H H':Hp}(k:Ke H H'){b:V}{o:Oi}(h:cZ H b o):cZ H' b o:=by
 cases o with
 | none=>exact h
 | some m=>
  obtain⟨a,e,h⟩:=h;exact⟨a,e,k _ _ h (by intro φ z;cases z)⟩
theorem dL.ke{H H':Hp}(k:Ke H H'){v:V}{c:dB}(h:dL H v c):dL H' v c:=by
 obtain⟨t,l,b,e,h1,h2,h3⟩:=h;exact⟨t,l,b,e,k _ _ h1 (by intro φ z;cases z),k _ _ h2 (by intro φ z;cases z),h3.ke k⟩
theorem iM.ke{H H':Hp}(k:Ke H H'){a:Addr}{cs:List dB}(h:iM H a cs):iM H' a cs:=by
 obtain⟨ys,h1,h2⟩:=h;exact⟨ys,k _ _ h1 (by intro φ z;cases z),aM h2 fun _ _=>dL.ke k⟩
theorem fU.ke{H H':Hp}(k:Ke H H'){v:V}{f:Str×Ls}(h:fU H v f):fU H' v f:=by
 obtain⟨t,l,e,h1,h2⟩:=h;exact⟨t,l,e,k _ _ h1 (by intro φ z;cases z),k _ _ h2 (by intro φ z;cases z)⟩
theorem lG.ke{H H':Hp}(k:Ke H H'){v:V}{p:aS}(h:lG H v p):lG H' v p:=by
 obtain⟨t,m,fa,na,sa,oa,fx,e,h1,h2,h3,h4,h5,h6,h7⟩:=h;exact⟨t,m,fa,na,sa,oa,fx,e,k _ _ h1 (by intro φ z;cases z),k _ _ h2 (by intro φ z;cases z),k _ _ h3 (by intro φ z;cases z),aM h4 (fun _ _=>fU.ke k),h5.ke k,h6.ke k,k _ _ h7 (by intro φ z;cases z)⟩
theorem c9.ke{H H':Hp}(k:Ke H H'){v:V}{w:cq}(h:c9 H v w):c9 H' v w:=by
 obtain⟨t,e,h⟩:=h;refine⟨t,e,?_⟩;obtain⟨nm,io⟩:=w;cases io with
 | none=>exact k _ _ h (by intro φ z;cases z)
 | some c=>
  obtain⟨l,b,h1,h2,h3⟩:=h;exact⟨l,b,k _ _ h1 (by intro φ z;cases z),k _ _ h2 (by intro φ z;cases z),h3.ke k⟩
def qw(x:Str):Ls->Ls
 | []=>[x]
 | y::r=>if ltCps y.cps.toList x.cps.toList=true then y::qw x r else x::y::r
theorem LD(x:Str):∀l:Ls,(qw x l).Perm (x::l)
 | []=>.refl _
 | y::r=>by
  unfold qw;split
  . exact((LD x r).cons y).trans (.swap x y r)
  . exact .refl _
theorem Tz{a b:Str}(h:ltCps a.cps.toList b.cps.toList=true):ltCps b.cps.toList a.cps.toList=false:=by
 rw[asq]at h ⊢;exact aR (List.lt_asymm (bd h))
theorem TD(x:Str):∀(l:Ls) (p:Str),risingS p l=true->ltCps x.cps.toList p.cps.toList=false->risingS p (qw x l)=true
 | [],p,_,h=>by
  show(!ltCps x.cps.toList p.cps.toList && true)=true;rw[h];rfl
 | y::r,p,h,hx=>by
  have h:(!ltCps y.cps.toList p.cps.toList && risingS y r)=true:=h;obtain⟨h1,h2⟩:=Vh.mp h;unfold qw;split
  . rename_i lt;show(!ltCps y.cps.toList p.cps.toList && risingS y (qw x r))=true;rw[h1,TD x r y h2 (Tz lt)];rfl
  . rename_i lt;show(!ltCps x.cps.toList p.cps.toList && (!ltCps y.cps.toList x.cps.toList && risingS y r))=true;rw[hx,eX.mpr lt,h2];rfl
theorem apz(x:Str):∀l:Ls,sortedS l=true->sortedS (qw x l)=true
 | [],_=>rfl
 | y::r,h=>by
  have h:risingS y r=true:=h;unfold qw;split
  . rename_i lt;exact TD x r y h (Tz lt)
  . rename_i lt;show(!ltCps y.cps.toList x.cps.toList && risingS y r)=true;rw[eX.mpr lt,h];rfl
theorem TF:∀l:Ls,∃ys,sortedS ys=true/\ys.Nodup/\∀z,z∈ys↔z∈l
 | []=>⟨[],rfl,uI,fun _=>Iff.rfl⟩
 | x::l=>by
  obtain⟨ys,h1,h2,h3⟩:=TF l
  by_cases hx:x∈ys
  . refine⟨ys,h1,h2,fun z=>?_⟩;rw[h3,bw];refine⟨.inr,fun h=>?_⟩
    rcases h with e | h
    . rw[e];exact(h3 x).mp hx
    . exact h
  . refine⟨qw x ys,apz x ys h1,(LD x ys).nodup_iff.mpr (jI.mpr ⟨hx,h2⟩),fun z=>?_⟩;rw[(LD x ys).mem_iff,bw,bw,h3]
theorem apA(ps:Lp):∃ys,fz ps ys:=by
 obtain⟨ys,h1,h2,h3⟩:=TF (ps.map aS.nm);exact⟨ys,h1,h2,h3⟩
theorem cU.up{ps:Lp}{Lc Tc:Addr}:∀{n m:Nat} {H:Hp} {v:V} {g:eW},n<=m->cU ps Lc Tc n H v g->cU ps Lc Tc m H v g
 | 0,_,_,_,_,_,h=>(show False from h).elim
 | n+1,0,_,_,_,le,_=>absurd le (Nat.not_succ_le_zero _)
 | n+1,m+1,H,v,g,le,h=>by
  rcases(show mq ps Lc H v g\/j9 ps Tc (cU ps Lc Tc n) H v g from h) with h | h
  . exact .inl h
  . obtain⟨a,dx,fl,x,l,ys,gs,e,h1,h2,h3,h4,h5,h6,h7,h8,h9⟩:=h;exact .inr ⟨a,dx,fl,x,l,ys,gs,e,h1,h2,h3,h4,h5,h6,aM h7 fun _ _=>cU.up (Nat.le_of_succ_le_succ le),h8,h9⟩
theorem TH{H:Hp}:∀{zs:Lv} {ws:List cq},Paired (c9 H) zs ws->∃ts:List Addr,zs=ts.map V.ref
 | _,_,.nil=>⟨[],rfl⟩
 | _,_,.cons ⟨c,e,_⟩ r=>by
  obtain⟨as,e'⟩:=TH r;exact⟨c::as,by rw[e,e'];rfl⟩
theorem apB{H:Hp}{kvs:List (aN×V)}{ch:Ch}(h:Paired (cO H) kvs ch)(nd:(ch.map (·.1)).Nodup):(kvs.map (·.1)).Nodup/\∀p∈kvs,∃r,p.2 = .ref r:=by
 have e:=Di (key:=fun e:Str×List Int=>(Sum.inr e.1:aN)) (fun _ _ (z:cO H _ _)=>z.1) h;refine⟨?_,fun p hp=>?_⟩
 . rw[e];have:ch.map (fun e:Str×List Int=>(Sum.inr e.1:aN))=(ch.map (·.1)).map Sum.inr:=by rw[uN];rfl
   rw[this];exact List.Pairwise.map _ (fun a b h z=>h (jn z)) nd
 . obtain⟨i,hi⟩:=oU hp;obtain⟨e,_,_,m,e2,_⟩:=bD h hi;exact⟨m,e2⟩
section
variable {P:Program} {w:World} {K:Fg} {mg:Mv} {base:Heap}
theorem apC{C S:Addr}{H:Hp}{Q:Addr->Hp->Prop}{E:XK}{a:Addr}{xs:Lv}{ps:Lp}(ha:H a=some (.lst xs))(bf:gC C H xs ps)(Dn:ps.length<=100)(vM:(ps.map eO).Nodup)(q:∀x H',H x=none->ag H H'->ik S H' (.ref x) xs ps->Q x H') :
 ∀x dx,H x=none->H dx=none->dx≠x->IH K C S (.ref x::([.ref a]++[])) (aj (aj H dx (.own x)) x (.ins S dx [])) (fun v H2=>v = .non/\Q x H2) E:=by
 intro x dx hx IE nx;have s1:ag H (aj (aj H dx (.own x)) x (.ins S dx [])):=qS (jV IE) hx;refine⟨x,dx,a,xs,ps,rfl,aP,s1 _ _ ha,bf.same s1,Dn,vM,fun H' keep hS=>⟨rfl,q x H' hx (fun b o e=>keep b o (s1 _ _ e) (bg e hx)) hS⟩⟩
def apD(Bc Uc Lc Tc:Addr)(ps:Lp)(ws:List cq)(now:Ch)(ys:Ls)(H H':Hp)(v:V):Prop:=
 (gG ps ws ys = []/\ag H H'/\∃x dx pv g,v = .ref x/\H' x=some (.ins Uc dx (aA aur pv []))/\cU ps Lc Tc (ys.length+1) H' pv g/\g ws []=true) \/
 ∃b dx d ch,v = .ref b/\H' b=some (.ins Bc dx (aA atM (.ref d) []))/\dE H' d ch/\ch∈gG ps ws ys/\Sq now ys (gG ps ws ys) ch
def TJ(C S Bc Uc Lc Tc Pt:Addr)(lpos:Pos)(qual:Str):Sp:=fun vs H Q _=>∃(sv:V) (nw wl:Addr) (ps:Lp) (xw:Lv) (ws:List cq) (now:Ch) (ys:Ls),vs = [sv,.ref nw,.ref wl]/\fF C S H sv ps/\dE H nw now/\now.length<=10/\(∀x∈now.map (·.1),x∈ys)/\H wl=some (.lst xw)/\Paired (c9 H) xw ws/\ws.length<=100/\gz H Pt lpos qual/\fz ps ys/\ys.length<=4/\ys.foldl (gW ps) 1<=400 /\
 ∀v H',vz Pt H H'->gz H' Pt lpos qual->apD Bc Uc Lc Tc ps ws now ys H H' v->Q v H'
theorem apE{vs:Lv}{H:Hp}{Q:VK}{E:XK}{C S Bc Uc Lc Tc Pt:Addr}{lpos:Pos}{qual:Str}(h:TJ C S Bc Uc Lc Tc Pt lpos qual vs H Q E):Et C S Bc Uc Lc Tc Pt lpos qual vs H Q E:=by
 obtain⟨sv,nw,wl,ps,xw,ws,now,ys,e,h1,h2,h3,h4,h5,h6,h7,h8,h9,RL,h11,q⟩:=h;exact⟨sv,nw,wl,ps,xw,ws,now,ys,e,h1,h2,h3,h4,h5,h6,h7,h8,h9,RL,h11,fun g0 x dx v g H' s' ex hp hg=>q _ H' (fun b o e _=>s' b o e) (h8.same s') (.inl ⟨g0,s',x,dx,v,g,rfl,ex,hp,hg⟩),fun b dx d ch H' k t eb hc hm hb=>q _ H' k t (.inr ⟨b,dx,d,ch,rfl,eb,hc,hm,hb⟩)⟩
def E2(K:Fg)(Pt:Addr):Sp:=fun vs H Q _=>∃(a:Addr) (ns:List Int),vs = [.ref a]/\af K H a (ns.map V.int)/\ns.length<=63/\gz H Pt rO qo/\∀H',gz H' Pt rO qo->Q (.bl true) H'
theorem mE:bh [atX,atK,atN,auj,atO,auh,"_law_shelf","_law_handed","_law_found","_law_some",au1] [atX] (aI pN):=⟨rfl,rfl,rfl,by decide +kernel,rfl,by decide +kernel,by decide +kernel⟩
theorem apG{f C S Bc Uc Lc Tc Oc Pc Pt fN fM fP Ae Af kf uB rS rR fq E3 E4 E5 AJ E6 E7 E8 E9:Addr}{fd oI AK wM wL iL LF LG LH Fa LI LJ LK LL:Fy}(F:ai K "law" "law" pN f fd)(B:bX mg)(US:ft K mg S fN fM fP)(MS:Mk K S uB)(TB:Ef K mg Bc)(TU:Es K mg Uc)(UL:qh K mg Lc Ae kf)(UT:rJ K mg Tc Af kf)
 (IB:nK K Bc) (IU:nK K Uc) (IL:nK K Lc) (IT:nK K Tc) (apH:mg "Outcome" = some (.ref Oc)) (apI:mg "Paper" = some (.ref Pc))
 (AL:PySem.W.kitOne K (.ref Bc) (.ref Oc)=some true) (AM:PySem.W.kitOne K (.ref Uc) (.ref Oc)=some true) (AN:PySem.W.kitOne K (.ref Uc) (.ref Uc)=some true) (AO:PySem.W.kitOne K (.ref Uc) (.ref Bc)=some false) (AQ:PySem.W.kitOne K (.ref Bc) (.ref Bc)=some true)
 (AR:PySem.W.kitOne K (.ref Lc) (.ref Pc)=some true) (AS:PySem.W.kitOne K (.ref Tc) (.ref Pc)=some true) (kD:PySem.W.kitOne K (.type "dict") (.type "dict")=some true)
 (Fb:ai K "__init__" "Shelf.__init__" tj uB AK) (apJ:ak P w K mg base ao 1 uB AK [atG,atV] (IH K C S))
 (oH:ai K aum aum y0 rS wM) (wN:mg aum = some (.ref rS)) (K8:ak P w K mg base ao 14 rS wM [atH] Iu)
 (kN:ai K auc auc yZ rR wL) (qv:mg auc = some (.ref rR)) (wO:ak P w K mg base ao 14 rR wL [atX,atO] (Ir K))
 (bC:ai K atY atY pM fq iL) (b8:mg atY = some (.ref fq)) (dg:ak P w K mg base ao 14 fq iL [atH,atO] vJ)
 (AT:ai K auH auH C3 E3 LF) (LM:mg auH = some (.ref E3)) (apK:ak P w K mg base ao 14 E3 LF [atX] (SQ K))
 (AU:ai K au0 au0 Db E4 LG) (LN:mg au0 = some (.ref E4)) (apL:ak P w K mg base ao 14 E4 LG [atK,atH,atO] Tt)
 (AV:ai K auY auY C4 E5 LH) (LO:mg auY = some (.ref E5)) (apM:ak P w K mg base ao 14 E5 LH [atW] (SR C))
 (AW:ai K auG auG tw AJ Fa) (LP:mg auG = some (.ref AJ)) (apN:ak P w K mg base ao 14 AJ Fa [atC,"now",atF] (Et C S Bc Uc Lc Tc Pt rO qo))
 (Fc:ai K avd "Paper.holds" iK kf oI) (Fd:ak P w K mg base ao 14 kf oI [atG,atC,atF] (J2 C S Lc Tc 4))
 (AX:ai K auZ auZ C8 E6 LI) (LQ:mg auZ = some (.ref E6)) (apO:ak P w K mg base ao 14 E6 LI [atN] Tk)
 (AY:ai K au6 au6 C7 E7 LJ) (LR:mg au6 = some (.ref E7)) (apP:ak P w K mg base ao 14 E7 LJ [atP,auh] Ts)
 (AZ:ai K auT auT C6 E8 LK) (LS:mg auT = some (.ref E8)) (apQ:ak P w K mg base ao 14 E8 LK [atN,atP] SV)
 (wU:ai K auU auU C9 E9 LL) (Fe:mg auU = some (.ref E9)) (TK:ak P w K mg base ao 14 E9 LL [atN,auj,atP] Tv) :
 ak P w K mg base ao 15 f fd [atX] (E2 K Pt):=by
 have LU:=apN.imp (sp':=TJ C S Bc Uc Lc Tc Pt rO qo) fun _ _ _ _ h=>apE h;have apR:=Fb.binds2 (l:=[atG,atV]) (fun _ _ _ _ _ _ _ _=>rfl);have K9:=oH.binds1 (l:=[atH]) (fun _ _ _ _ _ _ _=>rfl);have wP:=kN.binds2 (l:=[atX,atO]) (fun _ _ _ _ _ _ _ _=>rfl);have dh:=bC.binds2 (l:=[atH,atO]) (fun _ _ _ _ _ _ _ _=>rfl);have apS:=AT.binds1 (l:=[atX]) (fun _ _ _ _ _ _ _=>rfl);have apT:=AU.binds3 (l:=[atK,atH,atO]) (fun _ _ _ _ _ _ _ _ _=>rfl);have apU:=AV.binds1 (l:=[atW]) (fun _ _ _ _ _ _ _=>rfl);have apV:=AW.binds3 (l:=[atC,"now",atF]) (fun _ _ _ _ _ _ _ _ _=>rfl);have TL:=Fc.binds3 (l:=[atG,atC,atF]) (fun _ _ _ _ _ _ _ _ _=>rfl);have apW:=AX.binds1 (l:=[atN]) (fun _ _ _ _ _ _ _=>rfl);have apX:=AY.binds2 (l:=[atP,auh]) (fun _ _ _ _ _ _ _ _=>rfl);have apY:=AZ.binds2 (l:=[atN,atP]) (fun _ _ _ _ _ _ _ _=>rfl);have TM:=wU.binds3 (l:=[atN,auj,atP]) (fun _ _ _ _ _ _ _ _ _=>rfl);refine F.ok mE (fun vs H Q E h=>?_) (fun aF A outer s H vs Q E hr h=>?_)
 . obtain⟨a,is,rfl,_⟩:=h;rfl
 . refine bo ?_;intro xX dX;obtain⟨a,is,rfl,hA,h63,tab,q⟩:=h;have hu:=hr.units;have jK:=hr.units0;have apZ:(A.deeper (envOfC "law" (aI pN) s.heap.objs.size f aF)).units+65<cLine:=by have:=hr.un;omega
   have ap0:(A.deeper (envOfC "law" (aI pN) s.heap.objs.size f aF)).units+66<cLine:=by have:=hr.un;omega
   have ap1:(A.deeper (envOfC "law" (aI pN) s.heap.objs.size f aF)).units+68<cLine:=by have:=hr.un;omega
   have iO:=hr.mono (j:=2) (by decide);have Lx:∀{Hx:Hp} (kv:aN×V) (f:Str×List Int),cO Hx kv f->kv.1=Sum.inr f.1:=fun kv f z=>z.1;refine⟨_,(az (bi (i:=1) mE.nd rfl (Or.inr rfl) (aG K8 hr rfl wN oH.kp K9 .nil av (aa (aG wO hr rfl qv kN.kp wP .nil av (aa (pv 0) (aa ar ae))) ae)))
    (az (bi (i:=2) mE.nd rfl (Or.inr rfl) (aG apK hr rfl LM AT.kp apS .nil av (aa (pv 0) ae)))
    (az (bi (i:=3) mE.nd rfl (Or.inr rfl) sR)
    (az (gr hZ rfl (o0 rfl B.range (aa (bZ gy (by rfl) B.len hX (aa (pv 2) ae)) ae)) (aT (i:=4) mE.nd rfl (Or.inl rfl))
    (aB (cp (bA eQ (aU dr (aG dg hr rfl b8 bC.kp dh .nil av (aa (aG wO hr rfl qv kN.kp wP .nil av (aa (pv 0) (aa ar ae))) (aa (pv 4) ae))) ar) ar (ba _))
     (aB (vg hu (pv 3) (aQ bO (aQ gO (pv 2) (pv 4) (fun _ _=>rfl)) ar (fun _ _=>rfl)) (aQ bO (aQ gO (pv 2) (pv 4) (fun _ _=>rfl)) ar (fun _ _=>rfl)) rfl)) cr)))
    (az (bi (i:=5) mE.nd rfl (Or.inr rfl) (dw [atO] [atK,atX] [1,0] ⟨rfl,by decide +kernel,by decide +kernel,by decide +kernel,by decide +kernel,rfl,rfl,rfl⟩ rfl (o0 rfl B.range (aa (aU dr (aG wO hr rfl qv kN.kp wP .nil av (aa (pv 0) (aa ar ae))) ar) ae)) (fun _ _ _ _=>(aT (i:=0) (show List.Nodup ([atO,atK,atX]:Ls) by decide +kernel) rfl (Or.inl rfl))) (fun _ _ _ _=>fh) (fun _ _ _ _=>(aG apL hr rfl LN AU.kp apT .nil av (aa (pv 1) (aa (aG wO hr rfl qv kN.kp wP .nil av (aa (pv 2) (aa ar ae))) (aa (aU qK ar (pv 0)) ae)))))))
    (az (bi (i:=6) mE.nd rfl (Or.inl rfl) (uZ MS apJ iO rfl US.mgC apR .nil av (aa (dw [atW] [] [] ⟨rfl,by decide +kernel,by decide +kernel,by decide +kernel,by decide +kernel,rfl,rfl,rfl⟩ rfl (bJ (pv 2)) (fun _ _ _ _=>(aT (i:=0) (show List.Nodup ([atW]:Ls) by decide +kernel) rfl (Or.inl rfl))) (fun _ _ _ _=>fh) (fun _ _ _ _=>(aG apM hr rfl LO AV.kp apU .nil av (aa (pv 0) ae)))) ae)))
    (az (bi (i:=7) mE.nd rfl (Or.inl rfl) (eA (aa (gh yc (by rfl) B.dict BA (aa (pv 3) ae)) (aa (gh sL (by rfl) B.list oS (aa (pv 5) ae)) ae))))
    (az (bi (i:=8) mE.nd rfl (Or.inl rfl) (aG LU hr rfl LP AW.kp apV .nil av (aa (pv 6) (aa (aQ gO (pv 7) ar (fun _ _=>rfl)) (aa (aQ gO (pv 7) ar (fun _ _=>rfl)) ae)))))
    (az (ny (i:=9) [atP] [auh,atN] [5,2] mE.nd rfl rfl ⟨rfl,by decide +kernel,by decide +kernel,by decide +kernel,by decide +kernel,rfl,rfl,rfl⟩ rfl (bJ (aG apO hr rfl LQ AX.kp apW .nil av (aa (pv 2) ae))) (fun _ _ _ _=>(aT (i:=0) (show List.Nodup ([atP,auh,atN]:Ls) by decide +kernel) rfl (Or.inl rfl))) (fun _ _ _ _=>ig (PW.pt (uV (ge (aG apP hr rfl LR AY.kp apX .nil av (aa (pv 0) (aa (pv 1) ae)))) (xA (ge (aG apQ hr rfl LS AZ.kp apY .nil av (aa (pv 2) (aa (pv 0) ae)))))))) (fun _ _ _ _=>(pv 0)))
    (az (cp (PW.pt (iZ (kU (ge (bZ yO (by rfl) B.isinstance qE (aa (pv 8) (aa (uU (v:=.ref Oc) rfl apH rfl) ae))))) (m8 (bA (ai7 apZ) (pv 7) (eA (aa (pv 3) (aa (pv 5) ae))) (ba _)))))
    (aB (aO fQ)) cr)
    (az (cp (bA (HU jK) (pv 9) (eA ae) (ba _))
    (az (cp (PW.pt (iZ (kU (ge (bZ yO (by rfl) B.isinstance qE (aa (pv 8) (aa (uU (v:=.ref Uc) rfl TU.mgC rfl) ae))))) (iZ (ge (bZ yO (by rfl) B.isinstance qE (aa (pv 8) (aa (uU (v:=.ref Bc) rfl TB.mgC rfl) ae)))) (m8 (kU (ge (bZ yO (by rfl) B.isinstance qE (aa (du (pv 8) rfl) (aa (uU (v:=.ref Pc) rfl apI rfl) ae)))))))))
     (aB (aO fQ)) cr)
     (aB (aO (fR apy (PE.or (kX (du (pv 8) rfl) UL.cl UL.mH Fd hr TL .nil av (aa (pv 6) (aa (pv 5) ae))) (kX (du (pv 8) rfl) UT.cl UT.mH Fd hr TL .nil av (aa (pv 6) (aa (pv 5) ae)))) fQ (ba _))))) cr)
    (az (cp (PW.pt (iZ (kU (ge (bZ yO (by rfl) B.isinstance qE (aa (pv 8) (aa (uU (v:=.ref Bc) rfl TB.mgC rfl) ae))))) (iZ (kU (ge (bZ xR (by rfl) B.isinstance qE (aa (du (pv 8) rfl) (aa (xz (v:=.ty "dict") rfl B.dict BA rfl) ae))))) (m8 (bA (aps ap0) (du (pv 8) rfl) (pv 9) (by rfl))))))
    (aB (aO fQ)) cr)
    (az (bi (i:=10) mE.nd rfl (Or.inr rfl) (aG TK hr rfl Fe wU.kp TM .nil av (aa (pv 2) (aa (pv 3) (aa (du (pv 8) rfl) ae)))))
    (aB (aO (fR (HU jK) (dw [atP] [au1,atN,auj] [10,2,3] ⟨rfl,by decide +kernel,by decide +kernel,by decide +kernel,by decide +kernel,rfl,rfl,rfl⟩ rfl (bJ (pv 9)) (fun _ _ _ _=>(aT (i:=0) (show List.Nodup ([atP,au1,atN,auj]:Ls) by decide +kernel) rfl (Or.inl rfl))) (fun _ _ _ _=>ig (bA (ajO ap1) (aG TK hr rfl Fe wU.kp TM .nil av (aa (pv 2) (aa (pv 3) (aa (pv 0) ae)))) (pv 1) (ba _))) (fun _ _ _ _=>(pv 0))) (eA ae) (ba _))))))))))))))))),?_⟩
   refine afH ?_
   intros
   refine⟨_,rfl,a,_,is,rfl,by decide,hA,fun c0=>⟨_,rfl,fun nl H1 xs n1 s1 e1 hNm=>?_⟩⟩;refine⟨_,rfl,a,is,rfl,s1.seq hA,fun pl H2 vs ps n2 s2 e2 bf cB=>?_⟩;have hok:=cB.ok;obtain⟨ys,hN⟩:=apA ps;have y4:=cB.names hN;have Sv:=cB.width hN;have vl:=aK bf;have l6:=cB.len;have gn:=s1.trans s2;refine fun p3 H3 n3 s3 e3=>?_;refine⟨_,rfl,pl,_,rfl,.inl (af.of (s3 _ _ e2)),(vs.length:Int),rfl,by omega,by omega,?_⟩;refine Ni (fun i σ H4=>∃(u:Option V) (kvs:List (aN×V)) (now:Ch),σ = [some (.ref a),some (.ref nl),some (.ref pl),some (.ref p3),u,none,none,none,none,none,none]/\ag H2 H4/\H4 p3=some (.dK kvs)/\Paired (cO H4) kvs now/\(now.map (·.1)).Nodup/\now.length<=i/\∀x∈now.map (·.1),x∈ps.map aS.nm) ⟨none,[],[],rfl,s3,e3,.nil,uI,aH _,fun x hx=>(by cases hx)⟩ ?_ ?_
   . intro i σ H4 hi hQ;refine b0 ?_;intro tT;obtain⟨u,kvs,now,rfl,s4,e4,p4,nd,cl,ck⟩:=hQ;have lc:i<vs.length:=by omega
     obtain⟨y,hy,IM⟩:=vi (xs:=vs) (r:=0+(i:Int)) (by omega) (by omega);have zQ:vs[i]? = some y:=by rw[←IM];congr 1;omega
     obtain⟨p,hp,t,m,fa,na,sa,oa,fx,rfl,h1,h2,_⟩:=bD bf zQ;have a0:bT [V.str p.nm,.ref m,.int p.rk,.ref fa,.ref na,.ref sa,.ref oa] 0=some (V.str p.nm):=rfl;have a1:bT [V.str p.nm,.ref m,.int p.rk,.ref fa,.ref na,.ref sa,.ref oa] 1=some (V.ref m):=rfl;refine⟨_,rfl,a,_,is,rfl,by decide,(gn.trans s4).seq hA,fun c1=>⟨_,rfl,c1,_,rfl,by omega,by omega,fun d _=>?_⟩⟩;refine⟨_,_,rfl,rfl,(by show(0:Int)<3;decide),rfl,_,rfl,?_⟩;refine aJ (fun h=>?_) (fun h=>?_)
     . refine⟨_,rfl,_,rfl,pl,_,_,_,rfl,rfl,af.of (s4 _ _ e2),hy,t,_,_,_,rfl,rfl,aw.of (s4 _ _ h1),a1,_,rfl,_,rfl,_,rfl,pl,_,_,_,rfl,rfl,af.of (s4 _ _ e2),hy,t,_,_,_,rfl,rfl,aw.of (s4 _ _ h1),a0,p3,_,rfl,kY.k (k:=.inr p.nm) e4 (bj (by have:=aK p4;omega)),?_⟩;refine⟨_,_,dk now p.nm p.ms,rfl,j5 n3 s4,aP,?_,QI nd,bS (QJ now p.nm p.ms) (by omega),fun x hx=>?_⟩
       . refine aM (QK (F:=cO H4) Lx ⟨rfl,m,rfl,s4 _ _ h2⟩ p4) fun kv f z=>?_;obtain⟨z1,m',z2,z3⟩:=z;exact⟨z1,m',z2,aW z3 (eP z3 e4 (by intro z;cases z))⟩
       . obtain⟨f,hf,rfl⟩:=be.mp hx
         rcases QH hf with e | hf
         . rw[e];exact be.mpr ⟨p,eN hp,rfl⟩
         . exact ck _ (be.mpr ⟨f,hf,rfl⟩)
     . exact⟨_,kvs,now,rfl,s4,e4,p4,nd,by omega,ck⟩
   . intro σ H4 hQ;refine b0 ?_;intro tT;obtain⟨u,kvs,now,rfl,s4,e4,p4,nd,cl,ck⟩:=hQ;have ji:=gn.trans s4;refine⟨_,rfl,a,_,is,rfl,by decide,ji.seq hA,fun c3=>?_⟩;refine⟨_,_,rfl,rfl,(by show(0:Int)<4;decide),c3 % 4,rfl,by omega,by omega,?_⟩;refine vj (σ0:=[none,some (.ref nl),some (.ref a)]) (fun σ=>∃v,σ = [v,some (.ref nl),some (.ref a)]) (fun i ys H5=>∃ws:List cq,Paired (c9 H5) ys ws/\ws.length=i) ⟨_,rfl⟩ (fun _ _=>⟨[],.nil,rfl⟩) ?_ ?_
     . intro D i yw σ H5 k hD hi hS hd hs hP hk;refine b0 ?_;intro tT;obtain⟨v,rfl⟩:=hS;obtain⟨ws,pw,wl⟩:=hP;have yl:=aK pw;refine⟨_,rfl,_,rfl,a,_,is,rfl,by decide,(ji.trans hs).seq hA,fun c2=>⟨_,rfl,_,_,rfl,rfl,.inl ⟨by omega,by omega⟩,nl,c2,_,xs,rfl,by omega,by omega,((s2.trans s4).trans hs) _ _ e1,hNm,fun v6 H6 w6 s6 hw=>?_⟩⟩;have d6:=s6 _ _ hd;exact hk _ _ _ ⟨_,rfl⟩ s6 (bj (by omega)) ⟨ws++[w6],dj (hw.mut d6) (aM pw fun _ _ z=>(z.same s6).mut d6),by rw[bc,wl];rfl⟩
     intro wl yw H5 n5 e5 s5 hP;refine b0 ?_;intro tT;obtain⟨ws,pw,zL⟩:=hP;have yl:=aK pw;have ly:=s4.trans s5;refine⟨_,rfl,pl,rfl,⟨_,af.of (ly _ _ e2)⟩,?_⟩;intro D hD;refine vO (σ0:=[none]) hD (af.of (ly _ _ e2)) (fun σ=>∃v,σ = [v]) (fun i zs Hx=>gC C (msk [D] Hx) zs (ps.take i)) ⟨_,rfl⟩ .nil ?_ ?_
     . rintro i x zs σ Hx k hx ⟨v,rfl⟩ hd h2 pr hk;obtain⟨p,hp,hE⟩:=bD bf hx;have zl:=aK pr;rw[db]at zl;have pf:=(cB.few p (eN hp)).fs;refine⟨_,rfl,x,p,rfl,hE.same (ly.trans h2),by omega,fun y Hy n4 sy ub=>?_⟩;refine hk _ _ _ ⟨_,rfl⟩ sy (bj (by omega)) ?_;rw[QB cD,gB hp];refine dj (ub [D] fun b hb=>?_) (pr.same (vL sy));rw[cE.mp hb];exact⟨_,hd,by intro vs z;cases z⟩
     rintro zs H6 d6 s6 pr;refine b0 ?_;intro tT;rw[vl,cj]at pr;have hz:gC C H6 zs ps:=pr.same vK;refine apC (K:=K) (C:=C) (ps:=ps) d6 hz (by omega) hok.nd fun sx H7 n7 s7 GK=>?_;have LV:=s6.trans s7;have TN:=s5.trans LV;have TQ:=TN _ _ e4;have TR:=LV _ _ e5;refine⟨_,rfl,p3,_,rfl,TQ,fun p8 H8 n8 s8 e8=>?_⟩;refine⟨_,rfl,wl,_,rfl,.inl (af.of (s8 _ _ TR)),fun p9 H9 n9 s9 e9=>?_⟩;refine⟨(by show 2<=sizeLine;decide),fun qp iS wF fJ jm=>?_⟩;have Ff:=(s8.trans s9).trans fJ;have TV:=LV.trans Ff;have LW:=TN.trans Ff;have Fh:=s4.trans LW;have TW:Paired (c9 iS) yw ws:=aM pw fun _ _ z=>z.same TV;have TX:Paired (cO iS) kvs now:=aM p4 fun _ _ z=>z.same LW;have TY:fF C S iS (.ref sx) ps:=⟨⟨zs,GK.same Ff,hz.same (s7.trans Ff)⟩,hok,cB.few⟩;have TZ:=(s9.trans fJ) _ _ e8;have T0:=fJ _ _ e9;refine⟨_,rfl,_,rfl,qp,_,_,_,rfl,rfl,af.of jm,dY (j:=0) rfl,_,rfl,qp,_,_,_,rfl,rfl,af.of jm,dY (j:=1) rfl,?_⟩;refine⟨.ref sx,p8,p9,ps,yw,ws,now,ys,rfl,TY,⟨kvs,TZ,TX⟩,by omega,fun x hx=>(hN.mem x).mpr (ck x hx),T0,TW,by omega,tab.same (gn.trans Fh),hN,y4,Sv,fun v uw kp T1 hR=>?_⟩;have ke:=Kz (tab.same (gn.trans Fh)) kp;have lst:∀φ (zs:Lv),HO.lst zs≠HO.ext φ:=by intro φ zs z;cases z
     have Fi:=ke _ _ (Fh _ _ e2) (by intro φ z;cases z);have Fj:mz uw vs ps:=aM (bf.same Fh) fun _ _=>lG.ke ke;have Fk:=ke _ _ (TV _ _ e5) (by intro φ z;cases z);have T2:Paired (c9 uw) yw ws:=aM TW fun _ _=>c9.ke ke;have LX:=ke _ _ (LW _ _ e4) (by intro φ z;cases z);have T3:=KA ke TX;have ll:=Tg (ps:=ps) ys [[]] 1 rfl;have ll:((gc ps ys).length:Int)=ys.foldl (gW ps) 1:=ll;refine⟨_,rfl,pl,vs,ps,ys,rfl,Fi,Fj,by omega,hN,by omega,fun l zl EI Sz bW my T4=>?_⟩;have zll:=aK T4;refine⟨l,rfl,⟨_,af.of my⟩,?_⟩;intro Dg hDg;refine jD (σ0:=[none,some (.ref wl),some (.ref pl)]) hDg (af.of my) (fun σ=>∃v,σ = [v,some (.ref wl),some (.ref pl)]) (fun j aY Hx=>aY.length<=j/\Paired (dS Hx) aY (((gc ps ys).take j).filter (gF ps ws))) ⟨_,rfl⟩ ⟨aH _,.nil⟩ ?_ ?_
     . rintro j x aY σ EJ k k' hx ⟨v,rfl⟩ wV Fl ⟨hl,hp⟩ hk dA;obtain⟨ch,dH,cc,rfl,jO⟩:=bD T4 hx;have bI:=bW.trans Fl;have KY:=(bH.mp hx).1;refine⟨_,rfl,_,rfl,cc,wl,ch,yw,ws,rfl,jO.same Fl,bI _ _ Fk,aM T2 (fun _ _ z=>z.same bI),_,rfl,aJ (fun hm=>?_) (fun hm=>?_)⟩
       . refine⟨_,rfl,_,rfl,pl,cc,vs,ps,ch,rfl,bI _ _ Fi,Fj.same bI,by omega,cB.few,jO.same Fl,fun H14 eI=>⟨_,rfl,aJ (fun z=>?_) (fun z=>?_)⟩⟩
         . have gd:gF ps ws ch=true:=by
            unfold gF;rw[hm,z];rfl
           have T5:=eI _ _ wV;refine⟨_,rfl,hk _ _ _ ⟨_,rfl⟩ eI (bj (by omega)) ⟨by rw[bc,mV];omega,?_⟩⟩;rw[pG dH,ap gd];exact dj (dS.mut T5 ⟨cc,rfl,jO.same (Fl.trans eI)⟩) (aM hp fun _ _ z=>dS.mut T5 (z.same eI))
         . have gd:¬gF ps ws ch=true:=by
            unfold gF;rw[dn];rintro⟨_,y⟩;exact z y
           refine dA _ _ ⟨_,rfl⟩ eI ⟨by omega,?_⟩;rw[pG dH,ah gd,dG];exact aM hp fun _ _ z=>z.same eI
       . have gd:¬gF ps ws ch=true:=by
          unfold gF;rw[dn];rintro⟨y,_⟩;exact hm y
         refine aJ (fun z=>(by cases z)) (fun _=>?_);refine dA _ _ ⟨_,rfl⟩ (ag.refl _) ⟨by omega,?_⟩;rw[pG dH,ah gd,dG];exact hp
     rintro zg EJ wV ap5 ⟨hl,hp⟩;refine b0 ?_;intro tT;rw[uO (by omega)]at hp;have bI:=bW.trans ap5;have A0:∀ch,ch∈(gc ps ys).filter (gF ps ws)↔ch∈gG ps ws ys:=fun ch=>by
      unfold gG;rw[cI,cI,Tj hok]
     have T6:∀ch∈(gc ps ys).filter (gF ps ws),(ch.map (·.1)).Nodup:=fun ch hc=>(Ky hok hN (Tj hok |>.mp (cI.mp hc).1)).nd;generalize (gc ps ys).filter (gF ps ws)=lg at hp A0 T6;have pgl:=aK hp;obtain⟨nk,rk⟩:=apB p4 nd;obtain⟨ts,ets⟩:=TH pw;subst ets;obtain⟨fx,fC,LY,LZ,rfl,hfx,fcl,fis,fko⟩:∃fx fC LY LZ,v = .ref fx/\uw fx=some (.ins fC LY LZ)/\ic K fC/\nK K fC/\PySem.W.kitOne K (.ref fC) (.ref Oc)=some true:=by
      rcases hR with⟨_,_,x,dx,pv,g,rfl,ex,_⟩ | ⟨b,dx,d,ch,rfl,eb,_⟩
      . exact⟨x,Uc,dx,_,rfl,ex,TU.cl,IU,AM⟩
      . exact⟨b,Bc,dx,_,rfl,eb,TB.cl,IB,AL⟩
     refine⟨_,rfl,fx,fC,Oc,LY,LZ,true,rfl,bI _ _ hfx,fcl,fis,fko,_,rfl,ff ?_⟩;refine⟨_,rfl,_,rfl,_,rfl,(by show 2<=sizeLine;decide),fun p14 H14 n14 eI e14=>?_⟩;have A1:=bI.trans eI;refine⟨qp,p14,p8,p3,p9,wl,kvs,ts,rfl,rfl,A1 _ _ (ke _ _ jm (by intro φ z;cases z)),e14,(bg TQ n8).symm,(bg (s8 _ _ TR) n9).symm,A1 _ _ (ke _ _ TZ (by intro φ z;cases z)),A1 _ _ LX,nk,rk,A1 _ _ (ke _ _ T0 (by intro φ z;cases z)),A1 _ _ Fk,_,rfl,ff ?_⟩;refine⟨_,rfl,(by show 0<=sizeLine;decide),fun p15 wW n15 rQ e15=>?_⟩;have wX:=eI.trans rQ;have kg:=bI.trans wX;refine⟨Dg,p15,_,rfl,rfl,af.of (wX _ _ wV),af.of e15,_,rfl,?_⟩;refine aJ (fun h=>?_) (fun h=>?_)
     . have h0:zg.length=0:=bd h;have lg0:lg = []:=uJ.mp (by omega);have g0:gG ps ws ys = []:=List.eq_nil_iff_forall_not_mem.mpr fun ch hc=>by
        have:=(A0 ch).mpr hc;rw[lg0]at this;cases this
       rcases hR with⟨_,s1011,x,dx,pv,g,ex,hx,KZ,hg⟩ | ⟨b,dx,d,ch,_,_,_,hm,_⟩
       . cases ex;have mG:=kg _ _ hx;have lk:(aA aur pv ([]:List (Str×V))).lookup (aur:Str)=some pv:=by rw[bL,ap rfl]
         have L0:cU ps Lc Tc 5 wW pv g:=cU.up (by omega) (cU.same kg KZ);have T7:fF C S wW (.ref sx) ps:=TY.same (s1011.trans kg);have T8:Paired (c9 wW) (ts.map V.ref) ws:=aM T2 fun _ _ z=>z.same kg;have T9:=T1.same kg;refine⟨_,rfl,fx,Uc,Uc,dx,_,true,rfl,mG,TU.cl,IU,AN,_,rfl,ff ?_⟩;refine⟨_,rfl,fx,Uc,Bc,dx,_,false,rfl,mG,TU.cl,IU,AO,_,rfl,ff ?_⟩
         rcases(show mq ps Lc wW pv g\/j9 ps Tc (cU ps Lc Tc 4) wW pv g from L0) with hh | hh
         . obtain⟨y,dy,A2,rv,rr,rfl,b1,b2,b3,b4,b5,b6⟩:=id hh;refine⟨_,rfl,fx,Uc,dx,_,_,rfl,mG,TU.cl,TU.nP,lk,y,Lc,Pc,dy,A2,true,rfl,b1,UL.cl,IL,AR,_,rfl,ff ?_⟩;left;refine⟨_,rfl,fx,Uc,dx,_,_,rfl,mG,TU.cl,TU.nP,lk,y,dy,A2,rfl,b1,b4,_,rfl,_,rfl,?_⟩;refine⟨_,.ref sx,wl,ps,_,ws,g,rfl,L0,T7,kg _ _ Fk,T8,fun Fm lH=>?_⟩;refine⟨_,_,rfl,rfl,?_⟩;rw[hg];exact q Fm (T9.same lH)
         . obtain⟨y,dy,A2,xx,ll',yy,gg,rfl,b1,b2,b3,b4,b5,_⟩:=id hh;refine⟨_,rfl,fx,Uc,dx,_,_,rfl,mG,TU.cl,TU.nP,lk,y,Tc,Pc,dy,A2,true,rfl,b1,UT.cl,IT,AS,_,rfl,ff ?_⟩;right;refine⟨_,rfl,fx,Uc,dx,_,_,rfl,mG,TU.cl,TU.nP,lk,y,dy,A2,rfl,b1,b5,_,rfl,_,rfl,?_⟩;refine⟨_,.ref sx,wl,ps,_,ws,g,rfl,L0,T7,kg _ _ Fk,T8,fun Fm lH=>?_⟩;refine⟨_,_,rfl,rfl,?_⟩;rw[hg];exact q Fm (T9.same lH)
       . rw[g0]at hm;cases hm
     . have bn:lg≠[]:=fun z=>h (aE (by rw[pgl,z];rfl))
       rcases hR with⟨g0,_⟩ | ⟨b,dx,d,ch,ex,hx,hd,hm,hbest⟩
       . obtain⟨ch,hc⟩:=Vp _ bn;have:=(A0 ch).mp hc;rw[g0]at this;cases this
       . cases ex;have mG:=kg _ _ hx;have lk:(aA atM (V.ref d) ([]:List (Str×V))).lookup (atM:Str)=some (.ref d):=by rw[bL,ap rfl]
         have L1:=hd.same kg;have Ua:Paired (dS wW) zg lg:=aM hp fun _ _ z=>z.same wX;obtain⟨kd,ed,_⟩:=id L1;refine⟨_,rfl,fx,Bc,Bc,dx,_,true,rfl,mG,TB.cl,IB,AQ,_,rfl,ff ?_⟩;refine⟨_,rfl,fx,Bc,dx,_,_,rfl,mG,TB.cl,TB.nC,lk,_,_,_,_,rfl,.dK ed,kD,_,rfl,ff ?_⟩;refine⟨_,rfl,fx,Bc,dx,_,_,rfl,mG,TB.cl,TB.nC,lk,_,rfl,d,Dg,zg,ch,lg,rfl,rfl,wX _ _ wV,L1,Ua,T6,(A0 ch).mpr hm,_,rfl,ff ?_⟩;refine⟨_,rfl,_,rfl,_,rfl,fx,Bc,dx,_,_,rfl,mG,TB.cl,TB.nC,lk,pl,p3,d,vs,ps,ys,now,ch,rfl,kg _ _ Fi,Fj.same kg,by omega,hN,⟨kvs,kg _ _ LX,aM T3 fun _ _ z=>z.same kg⟩,L1,fun kt Fm lH q0=>?_⟩;have Ub:=kg.trans lH;refine⟨_,rfl,Dg,rfl,⟨_,af.of ((wX.trans lH) _ _ wV)⟩,?_⟩;intro Df hDf;refine jD (σ0:=[none,some (.ref kt),some (.ref pl),some (.ref p3)]) hDf (af.of ((wX.trans lH) _ _ wV)) (fun σ=>∃v,σ = [v,some (.ref kt),some (.ref pl),some (.ref p3)]) (fun j aY _=>aY = []) ⟨_,rfl⟩ rfl ?_ ?_
         . rintro j x aY σ H17 k k' aqj ⟨v,rfl⟩ Ue A3 rfl hk dA;obtain⟨fG,aqk,cc,rfl,jO⟩:=bD Ua aqj;have Fn:=Ub.trans A3;refine⟨_,rfl,_,rfl,_,rfl,pl,p3,cc,vs,ps,ys,now,fG,rfl,Fn _ _ Fi,Fj.same Fn,by omega,hN,⟨kvs,Fn _ _ LX,aM T3 fun _ _ z=>z.same Fn⟩,jO.same (lH.trans A3),fun kt' Uf mC aqm=>?_⟩;refine⟨_,rfl,kt',kt,_,_,_,_,rfl,rfl,aqm,q0.same (A3.trans mC),_,rfl,?_⟩;refine aJ (fun z=>?_) (fun _=>?_)
           . rw[hbest fG ((A0 fG).mp (eN aqk))]at z;cases z
           . exact dA _ _ ⟨_,rfl⟩ mC rfl
         . rintro aY H17 Ue A3 rfl;refine⟨(by show 0<=sizeLine;decide),fun p18 Uf n18 mC e18=>?_⟩;refine⟨Df,p18,_,rfl,rfl,af.of (mC _ _ Ue),af.of e18,?_⟩;exact q Uf (T1.same (Ub.trans (A3.trans mC)))
end
end K42
set_option maxHeartbeats 8000000
namespace K42
open PySem L2
def Ug(K:Fg)(mg:Mv) :Prop:=∃C uz AD,Txt K mg C/\Mk K C uz/\ai K "__init__" "Parcel.__init__" rh uz AD
theorem aqp{K:Fg}{h:Heap}{mg:Mv}{C f0:Addr}{mI mJ:Oa}{mK:Array (Option Value)}{mL mO mQ mR iT mS:Value}(X:K.In h)(Gn:h.Ns mainGlobals mg)
 (aC:PySem.W.nsIn K mainGlobals "Parcel" = some (some (.ref C))) (a0:PySem.W.findIn K (.ref C) "__init__" = some (some (.ref f0))) (i0:PySem.W.isFn K (.ref f0)=true)
 (l0:K.lookup f0=some ⟨mL,mI,.func (PySem.W.fnOf "__init__" "Parcel.__init__" (dv rh) (cF rh) (aI rh) .none mO mQ mR mJ iT mS),mK⟩) (c0:PySem.W.codeIn K iT "Parcel.__init__" = true) (k0:PySem.W.keepIn K (.ref f0)=true)
 (pg:PySem.W.plainGet K C Str.empty=true) (hd:PySem.W.hasDictIn K C=true) (po:PySem.W.plainOver K C=true) (sa:PySem.W.findIn K (.ref C) "__setattr__" = some (some (.builtin "object.__setattr__"))) (mk:PySem.W.makesIn K C=true) (kc:PySem.W.keepIn K (.ref C)=true) (n0:PySem.W.findIn K (.ref C) "name" = some none) (n1:PySem.W.findIn K (.ref C) "make" = some none) (n2:PySem.W.findIn K (.ref C) "rank" = some none) (n3:PySem.W.findIn K (.ref C) "files" = some none) (n4:PySem.W.findIn K (.ref C) "needs" = some none) (n5:PySem.W.findIn K (.ref C) "shuts" = some none) (n6:PySem.W.findIn K (.ref C) "offers" = some none):Ug K mg :=
 ⟨C,f0,_,⟨⟨pg,hd,po,sa⟩,n0,n1,n2,n3,n4,n5,n6,km X Gn aC⟩,⟨mk,a0,i0,kc⟩,jU l0 c0 k0⟩
def Uh(K:Fg)(mg:Mv) :Prop:=∃S uB AK dF gX bY dZ cQ il,ft K mg S dF bY cQ/\Mk K S uB/\ai K "__init__" "Shelf.__init__" tj uB AK/\ai K "names" "Shelf.names" lm dF gX/\ai K "makes_of" "Shelf.makes_of" iJ bY dZ/\ai K "parcel" "Shelf.parcel" kG cQ il
theorem aqq{K:Fg}{h:Heap}{mg:Mv}{S f0 f1 f2 f3:Addr}{mI mJ:Oa}{mK:Array (Option Value)}{mL mO mQ mR iT mS:Value}{A4 A5:Oa}{A6:Array (Option Value)}{A7 A8 A9 Ba rW Bb:Value}{Be uC:Oa}{cu:Array (Option Value)}{Bf uD uE uF oJ uG:Value}{od3 an3:Oa}{sl3:Array (Option Value)}{oc3 kV3 dc3 pm3 Ui ct3:Value}(X:K.In h)(Gn:h.Ns mainGlobals mg)
 (aC:PySem.W.nsIn K mainGlobals "Shelf" = some (some (.ref S))) (a0:PySem.W.findIn K (.ref S) "__init__" = some (some (.ref f0))) (i0:PySem.W.isFn K (.ref f0)=true)
 (l0:K.lookup f0=some ⟨mL,mI,.func (PySem.W.fnOf "__init__" "Shelf.__init__" (dv tj) (cF tj) (aI tj) .none mO mQ mR mJ iT mS),mK⟩) (c0:PySem.W.codeIn K iT "Shelf.__init__" = true) (k0:PySem.W.keepIn K (.ref f0)=true) (a1:PySem.W.findIn K (.ref S) "names" = some (some (.ref f1))) (i1:PySem.W.isFn K (.ref f1)=true)
 (l1:K.lookup f1=some ⟨A7,A4,.func (PySem.W.fnOf "names" "Shelf.names" (dv lm) (cF lm) (aI lm) .none A8 A9 Ba A5 rW Bb),A6⟩) (c1:PySem.W.codeIn K rW "Shelf.names" = true) (k1:PySem.W.keepIn K (.ref f1)=true) (a2:PySem.W.findIn K (.ref S) "makes_of" = some (some (.ref f2))) (i2:PySem.W.isFn K (.ref f2)=true)
 (l2:K.lookup f2=some ⟨Bf,Be,.func (PySem.W.fnOf "makes_of" "Shelf.makes_of" (dv iJ) (cF iJ) (aI iJ) .none uD uE uF uC oJ uG),cu⟩) (c2:PySem.W.codeIn K oJ "Shelf.makes_of" = true) (k2:PySem.W.keepIn K (.ref f2)=true) (a3:PySem.W.findIn K (.ref S) "parcel" = some (some (.ref f3))) (i3:PySem.W.isFn K (.ref f3)=true)
 (l3:K.lookup f3=some ⟨oc3,od3,.func (PySem.W.fnOf "parcel" "Shelf.parcel" (dv kG) (cF kG) (aI kG) .none kV3 dc3 pm3 an3 Ui ct3),sl3⟩) (c3:PySem.W.codeIn K Ui "Shelf.parcel" = true) (k3:PySem.W.keepIn K (.ref f3)=true)
 (pg:PySem.W.plainGet K S Str.empty=true) (hd:PySem.W.hasDictIn K S=true) (po:PySem.W.plainOver K S=true) (sa:PySem.W.findIn K (.ref S) "__setattr__" = some (some (.builtin "object.__setattr__"))) (mk:PySem.W.makesIn K S=true) (kc:PySem.W.keepIn K (.ref S)=true) (n0:PySem.W.findIn K (.ref S) "shelved" = some none):Uh K mg :=
 ⟨S,f0,_,f1,_,f2,_,f3,_,⟨⟨pg,hd,po,sa⟩,n0,⟨a1,i1,k1⟩,⟨a2,i2,k2⟩,⟨a3,i3,k3⟩,km X Gn aC⟩,⟨mk,a0,i0,kc⟩,jU l0 c0 k0,jU l1 c1 k1,jU l2 c2 k2,jU l3 c3 k3⟩
def Uj(K:Fg)(mg:Mv) :Prop:=∃G uq Ai,Ef K mg G/\Mk K G uq/\ai K "__init__" "Best.__init__" tq uq Ai
theorem aqz{K:Fg}{h:Heap}{mg:Mv}{G f0:Addr}{mI mJ:Oa}{mK:Array (Option Value)}{mL mO mQ mR iT mS:Value}(X:K.In h)(Gn:h.Ns mainGlobals mg)
 (aC:PySem.W.nsIn K mainGlobals "Best" = some (some (.ref G))) (a0:PySem.W.findIn K (.ref G) "__init__" = some (some (.ref f0))) (i0:PySem.W.isFn K (.ref f0)=true)
 (l0:K.lookup f0=some ⟨mL,mI,.func (PySem.W.fnOf "__init__" "Best.__init__" (dv tq) (cF tq) (aI tq) .none mO mQ mR mJ iT mS),mK⟩) (c0:PySem.W.codeIn K iT "Best.__init__" = true) (k0:PySem.W.keepIn K (.ref f0)=true)
 (pg:PySem.W.plainGet K G Str.empty=true) (hd:PySem.W.hasDictIn K G=true) (po:PySem.W.plainOver K G=true) (sa:PySem.W.findIn K (.ref G) "__setattr__" = some (some (.builtin "object.__setattr__"))) (mk:PySem.W.makesIn K G=true) (kc:PySem.W.keepIn K (.ref G)=true) (n0:PySem.W.findIn K (.ref G) "chosen" = some none):Uj K mg :=
 ⟨G,f0,_,⟨⟨pg,hd,po,sa⟩,n0,km X Gn aC⟩,⟨mk,a0,i0,kc⟩,jU l0 c0 k0⟩
def Uk(K:Fg)(mg:Mv) :Prop:=∃N ur Aj,Es K mg N/\Mk K N ur/\ai K "__init__" "Unmet.__init__" tu ur Aj
theorem aqA{K:Fg}{h:Heap}{mg:Mv}{N f0:Addr}{mI mJ:Oa}{mK:Array (Option Value)}{mL mO mQ mR iT mS:Value}(X:K.In h)(Gn:h.Ns mainGlobals mg)
 (aC:PySem.W.nsIn K mainGlobals "Unmet" = some (some (.ref N))) (a0:PySem.W.findIn K (.ref N) "__init__" = some (some (.ref f0))) (i0:PySem.W.isFn K (.ref f0)=true)
 (l0:K.lookup f0=some ⟨mL,mI,.func (PySem.W.fnOf "__init__" "Unmet.__init__" (dv tu) (cF tu) (aI tu) .none mO mQ mR mJ iT mS),mK⟩) (c0:PySem.W.codeIn K iT "Unmet.__init__" = true) (k0:PySem.W.keepIn K (.ref f0)=true)
 (pg:PySem.W.plainGet K N Str.empty=true) (hd:PySem.W.hasDictIn K N=true) (po:PySem.W.plainOver K N=true) (sa:PySem.W.findIn K (.ref N) "__setattr__" = some (some (.builtin "object.__setattr__"))) (mk:PySem.W.makesIn K N=true) (kc:PySem.W.keepIn K (.ref N)=true) (n0:PySem.W.findIn K (.ref N) "paper" = some none):Uk K mg :=
 ⟨N,f0,_,⟨⟨pg,hd,po,sa⟩,n0,km X Gn aC⟩,⟨mk,a0,i0,kc⟩,jU l0 c0 k0⟩
def Ul(K:Fg)(mg:Mv)(kf:Addr)(oI:Fy):Prop:=∃L oB uh jg lF,qh K mg L jg kf/\Mk K L oB/\ai K "__init__" "Leaf.__init__" ri oB uh/\ai K "holds_where" "Leaf.holds_where" pJ jg lF/\ai K "holds" "Paper.holds" iK kf oI
theorem aqB{K:Fg}{h:Heap}{mg:Mv}{L f0 f1 f2:Addr}{mI mJ:Oa}{mK:Array (Option Value)}{mL mO mQ mR iT mS:Value}{A4 A5:Oa}{A6:Array (Option Value)}{A7 A8 A9 Ba rW Bb:Value}{Be uC:Oa}{cu:Array (Option Value)}{Bf uD uE uF oJ uG:Value}(X:K.In h)(Gn:h.Ns mainGlobals mg)
 (aC:PySem.W.nsIn K mainGlobals "Leaf" = some (some (.ref L))) (a0:PySem.W.findIn K (.ref L) "__init__" = some (some (.ref f0))) (i0:PySem.W.isFn K (.ref f0)=true)
 (l0:K.lookup f0=some ⟨mL,mI,.func (PySem.W.fnOf "__init__" "Leaf.__init__" (dv ri) (cF ri) (aI ri) .none mO mQ mR mJ iT mS),mK⟩) (c0:PySem.W.codeIn K iT "Leaf.__init__" = true) (k0:PySem.W.keepIn K (.ref f0)=true) (a1:PySem.W.findIn K (.ref L) "holds_where" = some (some (.ref f1))) (i1:PySem.W.isFn K (.ref f1)=true)
 (l1:K.lookup f1=some ⟨A7,A4,.func (PySem.W.fnOf "holds_where" "Leaf.holds_where" (dv pJ) (cF pJ) (aI pJ) .none A8 A9 Ba A5 rW Bb),A6⟩) (c1:PySem.W.codeIn K rW "Leaf.holds_where" = true) (k1:PySem.W.keepIn K (.ref f1)=true) (a2:PySem.W.findIn K (.ref L) "holds" = some (some (.ref f2))) (i2:PySem.W.isFn K (.ref f2)=true)
 (l2:K.lookup f2=some ⟨Bf,Be,.func (PySem.W.fnOf "holds" "Paper.holds" (dv iK) (cF iK) (aI iK) .none uD uE uF uC oJ uG),cu⟩) (c2:PySem.W.codeIn K oJ "Paper.holds" = true) (k2:PySem.W.keepIn K (.ref f2)=true)
 (pg:PySem.W.plainGet K L Str.empty=true) (hd:PySem.W.hasDictIn K L=true) (po:PySem.W.plainOver K L=true) (sa:PySem.W.findIn K (.ref L) "__setattr__" = some (some (.builtin "object.__setattr__"))) (mk:PySem.W.makesIn K L=true) (kc:PySem.W.keepIn K (.ref L)=true) (n0:PySem.W.findIn K (.ref L) "reason" = some none):Ul K mg f2 (PySem.W.fnOf "holds" "Paper.holds" (dv iK) (cF iK) (aI iK) .none uD uE uF uC oJ uG):=
 ⟨L,f0,_,f1,_,⟨⟨pg,hd,po,sa⟩,n0,⟨a1,i1,k1⟩,⟨a2,i2,k2⟩,km X Gn aC⟩,⟨mk,a0,i0,kc⟩,jU l0 c0 k0,jU l1 c1 k1,jU l2 c2 k2⟩
def Um(K:Fg)(mg:Mv)(kf:Addr)(oI:Fy):Prop:=∃T oC ui rK wq,rJ K mg T rK kf/\Mk K T oC/\ai K "__init__" "Split.__init__" rj oC ui/\ai K "holds_where" "Split.holds_where" rm rK wq/\ai K "holds" "Paper.holds" iK kf oI
theorem aqC{K:Fg}{h:Heap}{mg:Mv}{T f0 f1 f2:Addr}{mI mJ:Oa}{mK:Array (Option Value)}{mL mO mQ mR iT mS:Value}{A4 A5:Oa}{A6:Array (Option Value)}{A7 A8 A9 Ba rW Bb:Value}{Be uC:Oa}{cu:Array (Option Value)}{Bf uD uE uF oJ uG:Value}(X:K.In h)(Gn:h.Ns mainGlobals mg)
 (aC:PySem.W.nsIn K mainGlobals "Split" = some (some (.ref T))) (a0:PySem.W.findIn K (.ref T) "__init__" = some (some (.ref f0))) (i0:PySem.W.isFn K (.ref f0)=true)
 (l0:K.lookup f0=some ⟨mL,mI,.func (PySem.W.fnOf "__init__" "Split.__init__" (dv rj) (cF rj) (aI rj) .none mO mQ mR mJ iT mS),mK⟩) (c0:PySem.W.codeIn K iT "Split.__init__" = true) (k0:PySem.W.keepIn K (.ref f0)=true) (a1:PySem.W.findIn K (.ref T) "holds_where" = some (some (.ref f1))) (i1:PySem.W.isFn K (.ref f1)=true)
 (l1:K.lookup f1=some ⟨A7,A4,.func (PySem.W.fnOf "holds_where" "Split.holds_where" (dv rm) (cF rm) (aI rm) .none A8 A9 Ba A5 rW Bb),A6⟩) (c1:PySem.W.codeIn K rW "Split.holds_where" = true) (k1:PySem.W.keepIn K (.ref f1)=true) (a2:PySem.W.findIn K (.ref T) "holds" = some (some (.ref f2))) (i2:PySem.W.isFn K (.ref f2)=true)
 (l2:K.lookup f2=some ⟨Bf,Be,.func (PySem.W.fnOf "holds" "Paper.holds" (dv iK) (cF iK) (aI iK) .none uD uE uF uC oJ uG),cu⟩) (c2:PySem.W.codeIn K oJ "Paper.holds" = true) (k2:PySem.W.keepIn K (.ref f2)=true)
 (pg:PySem.W.plainGet K T Str.empty=true) (hd:PySem.W.hasDictIn K T=true) (po:PySem.W.plainOver K T=true) (sa:PySem.W.findIn K (.ref T) "__setattr__" = some (some (.builtin "object.__setattr__"))) (mk:PySem.W.makesIn K T=true) (kc:PySem.W.keepIn K (.ref T)=true) (n0:PySem.W.findIn K (.ref T) "name" = some none) (n1:PySem.W.findIn K (.ref T) "papers" = some none):Um K mg f2 (PySem.W.fnOf "holds" "Paper.holds" (dv iK) (cF iK) (aI iK) .none uD uE uF uC oJ uG):=
 ⟨T,f0,_,f1,_,⟨⟨pg,hd,po,sa⟩,n0,n1,⟨a1,i1,k1⟩,⟨a2,i2,k2⟩,km X Gn aC⟩,⟨mk,a0,i0,kc⟩,jU l0 c0 k0,jU l1 c1 k1,jU l2 c2 k2⟩
def Uo(K:Fg)(mg:Mv):Prop:=∃Bc Uc Lc Tc Oc Pc,mg "Best" = some (.ref Bc)/\mg "Unmet" = some (.ref Uc)/\mg "Leaf" = some (.ref Lc)/\mg "Split" = some (.ref Tc)/\mg "Outcome" = some (.ref Oc)/\mg "Paper" = some (.ref Pc)/\nK K Bc/\nK K Uc/\nK K Lc/\nK K Tc/\PySem.W.kitOne K (.ref Bc) (.ref Oc)=some true/\PySem.W.kitOne K (.ref Uc) (.ref Oc)=some true/\PySem.W.kitOne K (.ref Uc) (.ref Uc)=some true/\PySem.W.kitOne K (.ref Uc) (.ref Bc)=some false/\PySem.W.kitOne K (.ref Bc) (.ref Bc)=some true/\PySem.W.kitOne K (.ref Lc) (.ref Pc)=some true/\PySem.W.kitOne K (.ref Tc) (.ref Pc)=some true
theorem aqD{K:Fg}{h:Heap}{mg:Mv}{Bc Uc Lc Tc Oc Pc:Addr}(X:K.In h)(G:h.Ns mainGlobals mg)(nBc:PySem.W.nsIn K mainGlobals "Best" = some (some (.ref Bc)))(nUc:PySem.W.nsIn K mainGlobals "Unmet" = some (some (.ref Uc)))(nLc:PySem.W.nsIn K mainGlobals "Leaf" = some (some (.ref Lc)))(nTc:PySem.W.nsIn K mainGlobals "Split" = some (some (.ref Tc)))(nOc:PySem.W.nsIn K mainGlobals "Outcome" = some (some (.ref Oc)))(nPc:PySem.W.nsIn K mainGlobals "Paper" = some (some (.ref Pc)))(aqK:PySem.W.findIn K (.ref Bc) "__class__" = some (some (.builtin "object.__class__")))(aqL:PySem.W.mroIn K Bc (.type "object")=some true)(aqM:PySem.W.findIn K (.ref Uc) "__class__" = some (some (.builtin "object.__class__")))(aqN:PySem.W.mroIn K Uc (.type "object")=some true)(aqO:PySem.W.findIn K (.ref Lc) "__class__" = some (some (.builtin "object.__class__")))(aqP:PySem.W.mroIn K Lc (.type "object")=some true)(aqQ:PySem.W.findIn K (.ref Tc) "__class__" = some (some (.builtin "object.__class__")))(aqR:PySem.W.mroIn K Tc (.type "object")=some true)(ou:PySem.W.specialIn K (.builtin "object.__class__") "__get__" = some (some (.builtin "getset_descriptor.__get__")))(Fo:PySem.W.takesIn K (.builtin "object.__class__")=some true)(AL:PySem.W.kitOne K (.ref Bc) (.ref Oc)=some true)(AM:PySem.W.kitOne K (.ref Uc) (.ref Oc)=some true)(AN:PySem.W.kitOne K (.ref Uc) (.ref Uc)=some true)(AO:PySem.W.kitOne K (.ref Uc) (.ref Bc)=some false)(AQ:PySem.W.kitOne K (.ref Bc) (.ref Bc)=some true)(AR:PySem.W.kitOne K (.ref Lc) (.ref Pc)=some true)(AS:PySem.W.kitOne K (.ref Tc) (.ref Pc)=some true):Uo K mg:=
 ⟨Bc,Uc,Lc,Tc,Oc,Pc,km X G nBc,km X G nUc,km X G nLc,km X G nTc,km X G nOc,km X G nPc,⟨aqK,ou,Fo,aqL⟩,⟨aqM,ou,Fo,aqN⟩,⟨aqO,ou,Fo,aqP⟩,⟨aqQ,ou,Fo,aqR⟩,AL,AM,AN,AO,AQ,AR,AS⟩
def Up(mg:Mv):Prop:=∃t,mg "GREATEST_WIDTH" = some (.int 400 t)
theorem aqS{K:Fg}{h:Heap}{mg:Mv}{t0:Tok}(X:K.In h)(G:h.Ns mainGlobals mg)(z0:PySem.W.nsIn K mainGlobals "GREATEST_WIDTH" = some (some (.int 400 t0))):Up mg:=⟨t0,km X G z0⟩
def Uq(K:Fg)(mg:Mv)(x:Str)(st:Stmt)(Pt:Addr):Prop:=∃f c fd,mg x=some (.ref f)/\vC K x x st f c fd/\PySem.W.codeHdIn K c Pt=true/\K.lookup Pt=none
theorem aqT{K:Fg}{h:Heap}{mg:Mv}{x:Str}{st:Stmt}{f c Pt:Addr}{od an:Oa}{sl:Array (Option Value)}{oc kV dc pm ct:Value}(X:K.In h)(G:h.Ns mainGlobals mg)
 (a:PySem.W.nsIn K mainGlobals x=some (some (.ref f))) (l:K.lookup f=some ⟨oc,od,.func (PySem.W.fnOf x x (dv st) (cF st) (aI st) .none kV dc pm an (.ref c) ct),sl⟩) (cc:PySem.W.codeIn K (.ref c) x=true) (k:PySem.W.keepIn K (.ref f)=true) (hd:PySem.W.codeHdIn K c Pt=true) (hn:K.lookup Pt=none) :
 Uq K mg x st Pt:=⟨f,c,_,km X G a,⟨⟨_,_,_,_,_,_,_,_,rfl,l,cc⟩,k⟩,hd,hn⟩
theorem aqU{K:Fg}{h:Heap}{mg:Mv}(X:K.In h)(G:h.Ns mainGlobals mg)(z0:PySem.W.nsIn K mainGlobals "range" = some none)(z1:PySem.W.nsIn K mainGlobals "len" = some none)(z2:PySem.W.nsIn K mainGlobals "list" = some none)(z3:PySem.W.nsIn K mainGlobals "dict" = some none)(z4:PySem.W.nsIn K mainGlobals "tuple" = some none)(z5:PySem.W.nsIn K mainGlobals "sorted" = some none)(z6:PySem.W.nsIn K mainGlobals "enumerate" = some none)(z7:PySem.W.nsIn K mainGlobals "isinstance" = some none)(z8:PySem.W.nsIn K mainGlobals "bool" = some none)(z9:PySem.W.nsIn K mainGlobals "int" = some none)(uA:PySem.W.nsIn K mainGlobals "str" = some none)(z11:PySem.W.nsIn K mainGlobals "any" = some none)(z12:PySem.W.nsIn K mainGlobals "zip" = some none)(z13:PySem.W.nsIn K mainGlobals "set" = some none)(z14:PySem.W.nsIn K mainGlobals "all" = some none)(z15:PySem.W.nsIn K mainGlobals "max" = some none):bX mg:=
 ⟨jJ X G z0,jJ X G z1,jJ X G z2,jJ X G z3,jJ X G z4,jJ X G z5,jJ X G z6,jJ X G z7,jJ X G z8,jJ X G z9,jJ X G uA,jJ X G z11,jJ X G z12,jJ X G z13,jJ X G z14,jJ X G z15⟩
theorem aq0{P:Program}{w:World}{K:Fg}{mg:Mv}{fa Pt kf:Addr}{oI:Fy}(md:mg "law" = some (.ref fa))(B:bX mg)(CC:Ug K mg)(CS:Uh K mg)(CG:Uj K mg)(CN:Uk K mg)(CL:Ul K mg kf oI)(CT:Um K mg kf oI)(CI:Uo K mg)(CK:Up mg)(DN:Uq K mg "best_set" tw Pt)(aq1:bQ K mg "is_within" j4)(aq2:bQ K mg "is_place" vF)(aq3:bQ K mg "keys_unlike" CB)(aq4:bQ K mg "does_meet" nX)(aq5:bQ K mg "parcels_of" CD)(aq6:bQ K mg "faults_of" yT)(aq7:bQ K mg "is_sound" CF)(aq8:bQ K mg "meeting" vG)(aq9:bQ K mg "need_faults" CH)(ara:bQ K mg "shut_faults" CJ)(arb:bQ K mg "clash_faults" CM)(arc:bQ K mg "paths_of" vH)(ard:bQ K mg "cases_of" pK)(are:bQ K mg "with_case" pL)(arf:bQ K mg "is_decided" CO)(arh:bQ K mg "is_done_by" yU)(ari:bQ K mg "is_broken" yV)(arj:bQ K mg "parcel_decided" vI)(ark:bQ K mg "is_wish_broken" CP)(arl:bQ K mg "is_need_broken" CQ)(arm:bQ K mg "may_meet" CU)(arn:bQ K mg "is_shut_broken" CV)(aro:bQ K mg "is_clash" CW)(arp:bQ K mg "are_met" CY)(arq:bQ K mg "width_of" CZ)(ars:bQ K mg "sets_of" C0)(art:bQ K mg "set_decided" yW)(aru:bQ K mg "makes_listed" C1)(arv:bQ K mg "paper_for" yX)(arw:bQ K mg "reason_for" yY)(arx:bQ K mg "_law_cell_at" yZ)(ary:bQ K mg "_law_draw" pM)(arz:bQ K mg "_law_names" y0)(arA:bQ K mg "_law_claim" y6)(arB:bQ K mg "_law_parcel" C2)(arC:bQ K mg "_law_parcels" C3)(arD:bQ K mg "_law_made" C4)(arE:bQ K mg "_law_meets" C5)(arF:bQ K mg "_law_sound" C6)(arG:bQ K mg "_law_met" C7)(arH:bQ K mg "_law_sets" C8)(arI:bQ K mg "_law_worth" C9)(arJ:bQ K mg "_law_wish" Db)(arK:bQ K mg "law" pN) :
 ∃(fd:Fy) (c:Addr),(∀(s:Shared) (v:Value),BindsTo s fd ⟨[v],[]⟩ [("_law_script",v)])/\PySem.W.codeHdIn K c Pt=true/\K.lookup Pt=none/\∀base:Heap,K.In base->base.Ns mainGlobals mg->base.BuiltinsAt mg Pt->ak P w K mg base ao 15 fa fd ["_law_script"] (E2 K Pt):=by
 obtain⟨C,uz,AD,TC,MC,EO⟩:=CC;obtain⟨S,uB,AK,dF,gX,bY,dZ,cQ,il,U,MS,Fb,fB,cS,fV⟩:=CS;obtain⟨Bc,uq,Ai,TB,MB,EA⟩:=CG;obtain⟨Uc,ur,Aj,TU,MU,EB⟩:=CN;obtain⟨Lc,oB,uh,jg,lF,UL,ML,uk,oA,Fc⟩:=CL;obtain⟨Tc,oC,ui,rK,wq,UT,MT,ul,Ee,_⟩:=CT;obtain⟨Bd,Ud,Ld,Td,Oc,Pc,mBd,mUd,mLd,mTd,mOc,mPc,IB,IU,IL,IT,AL,AM,AN,AO,AQ,AR,AS⟩:=CI;obtain⟨tk,KN⟩:=CK;obtain⟨AJ,cN,Fa,LP,AW,Ur,hPt⟩:=DN;have eB:=TB.mgC.symm.trans mBd;cases eB;have eU:=TU.mgC.symm.trans mUd;cases eU;have eL:=UL.mgC.symm.trans mLd;cases eL;have eT:=UT.mgC.symm.trans mTd;cases eT;obtain⟨cR,fu,dR,c4,_⟩:=aq1;obtain⟨lB,qa,qb,jG,_⟩:=aq2;obtain⟨Ey,KJ,KS,Ap,_⟩:=aq3;obtain⟨fX,jd,im,eV,_⟩:=aq4;obtain⟨Q7,Q8,Jk,zy,_⟩:=aq5;obtain⟨pV,tS,vS,oj,_⟩:=aq6;obtain⟨Ex,KI,KR,Ao,_⟩:=aq7;obtain⟨pQ,tI,rB,lx,_⟩:=aq8;obtain⟨Q1,Q2,Jh,zv,_⟩:=aq9;obtain⟨Q3,Q4,Ji,zw,_⟩:=ara;obtain⟨Q5,Q6,Jj,zx,_⟩:=arb;obtain⟨pT,tQ,og,j6,_⟩:=arc;obtain⟨fY,je,iq,eG,_⟩:=ard;obtain⟨ir,kI,jf,fZ,_⟩:=are;obtain⟨DU,JF,JG,zI,_⟩:=arf;obtain⟨rE,v7,v9,ot,_⟩:=arh;obtain⟨qi,ug,wn,qj,_⟩:=ari;obtain⟨lC,qe,mo,iQ,_⟩:=arj;obtain⟨D2,JM,JQ,zU,_⟩:=ark;obtain⟨D9,JN,JR,zV,_⟩:=arl;obtain⟨DZ,JI,JJ,zO,_⟩:=arm;obtain⟨Ea,JO,JS,zW,_⟩:=arn;obtain⟨Eb,JP,JT,zX,_⟩:=aro;obtain⟨Ew,KH,KQ,An,_⟩:=arp;obtain⟨Eu,KD,KO,Al,_⟩:=arq;obtain⟨Ev,KG,KP,Am,_⟩:=ars;obtain⟨rD,vW,vX,oq,_⟩:=art;obtain⟨Ez,KL,KU,Aq,_⟩:=aru;obtain⟨wE,Ak,EC,Ar,_⟩:=arv;obtain⟨ql,uj,wx,rM,_⟩:=arw;obtain⟨rR,wL,qv,kN,_⟩:=arx;obtain⟨fq,iL,b8,bC,_⟩:=ary;obtain⟨rS,wM,wN,oH,_⟩:=arz;obtain⟨uv,Aw,wH,rP,_⟩:=arA;obtain⟨EN,K6,K7,AB,_⟩:=arB;obtain⟨E3,LF,LM,AT,_⟩:=arC;obtain⟨E5,LH,LO,AV,_⟩:=arD;obtain⟨ES,Li,ET,wR,_⟩:=arE;obtain⟨E8,LK,LS,AZ,_⟩:=arF;obtain⟨E7,LJ,LR,AY,_⟩:=arG;obtain⟨E6,LI,LQ,AX,_⟩:=arH;obtain⟨E9,LL,Fe,wU,_⟩:=arI;obtain⟨E4,LG,LN,AU,_⟩:=arJ;obtain⟨atA,atB,arS,Us,_⟩:=arK;have e:=md.symm.trans arS;cases e;obtain⟨oc,od,kV,doc,pm,an,aF,ct,jT,rfl,lk,iY⟩:=id Us.ex;refine⟨PySem.W.fnOf "law" "law" (dv pN) (cF pN) (aI pN) .none kV doc pm an aF ct,cN,fun s v=>.of_eq rfl,Ur,hPt,fun base _ _ hB=>?_⟩;have DD:Defs K mg C S:=⟨B,TC,⟨_,_,c4,dR⟩,⟨_,_,eV,im⟩,⟨_,_,lx,rB⟩,⟨_,_,zv,Jh⟩,⟨_,_,zw,Ji⟩,⟨_,_,zx,Jj⟩,⟨_,_,j6,og⟩,⟨_,_,zy,Jk⟩,⟨_,_,_,_,U,fV⟩⟩;have wo:ak P w K mg base ao 5 qi ug ["shelf","wishes","decided","reason"] (D1 C S):=amn qj B zU JQ ((al1 zU B U cS jG qb zI JG ot v9 c4 dR).mono (by decide)) zV JR (ame zV B TC U fB cS fV eV im c4 dR iQ mo jG qb zO JJ) zW JS ((ami zW B TC U fV eV im c4 dR iQ mo jG qb).mono (by decide)) zX JT ((amj zX B TC U fV iQ mo j6 og).mono (by decide));have zA:ak P w K mg base ao 5 pV tS ["shelf","chosen"] (DA C S):=Q0 oj DD;have wy:ak P w K mg base ao 6 ql uj ["shelf","wishes","decided"] (Ei C S):=amX rM B qj wn wo oj vS zA oq vX;have qk:ak P w K mg base ao 6 jg lF ["self","shelf","wishes","decided"] (zZ C S Lc):=amE oA UL qj wn wo;have J3:ak P w K mg base ao (7+4) rK wq ["self","shelf","wishes","decided"] (J0 C S Lc Tc 4):=amI Ee B U UL UT oA qk cS eG iq fZ jf 4 (by decide);have Fd:ak P w K mg base ao (8+4) kf oI ["self","shelf","wishes"] (J2 C S Lc Tc 4):=amK (by decide) Fc UL UT oA (qk.mono (by decide)) Ee J3;have KW:∀n,ak P w K mg base ao (7+n) wE Ak ["shelf","wishes","decided"] (ww C S Lc Tc n):=ant Ar EC B U UL UT ML MT uk ul fB cS rM wx wy eG iq fZ jf;have LU:ak P w K mg base ao 13 AJ Fa ["shelf","now","wishes"] (Et C S Bc Uc Lc Tc Pt rO qo):=anK AW B TB MB EA TU MU EB KN Ur hB Al KO ((alw Al B U fB cS eG iq).mono (by decide)) Am KP ((alH Am B U fB cS eG iq fZ jf oq vX).mono (by decide)) An KQ ((alP An B ot v9 c4 dR).mono (by decide)) Ao KR ((ali Ao DD oj vS).mono (by decide)) Ap KS ((alR Ap B).mono (by decide)) Aq KU ((amA Aq B U fB).mono (by decide)) Ar EC KW;exact apG Us B U MS TB TU UL UT IB IU IL IT mOc mPc AL AM AN AO AQ AR AS rfl Fb (aku Fb TC U) oH wN ((Qo oH B bC b8).mono (by decide)) kN qv ((Ql kN B).mono (by decide)) bC b8 ((y7 bC).mono (by decide)) AT LM ((aoR AT B kN qv bC b8 oH wN rP wH AB K7).mono (by decide)) AU LN ((api AU bC b8).mono (by decide)) AV LO ((aoV AV B TC MC EO).mono (by decide)) AW.fn LP (LU.mono (by decide)) Fc (Fd.mono (by decide)) AX LQ ((apb AX B).mono (by decide)) AY LR ((aph AY).mono (by decide)) AZ LS ((ao2 AZ wR ET).mono (by decide)) wU Fe ((apl wU B).mono (by decide))
theorem arT{l:PySem.W.OpenLaw}{q:Program}{loose:Ls}{XP:(Mv)->Heap->Prop}{YP:World->Heap->Prop}{d:DefRec}{K:Params->Fg}{Pt:Addr}(hn:l.most=some 63)(xO:d.params.defaults = [])
 (hY:∀(w:World) (h:Heap),YP w h->(K w.params).In h/\h.get? Pt=some (PySem.W.tabObj #[]))
 (F:∀(w:World) (mg:Mv) (fa:Addr) (h:Heap),(K w.params).In h->h.Ns mainGlobals mg->mg d.name=some (.ref fa) ->
  ∃(fd:Fy) (c:Addr),(∀(s:Shared) (u:Value),BindsTo s fd ⟨[u],[]⟩ [("_law_script",u)])/\PySem.W.codeHdIn (K w.params) c Pt=true/\(K w.params).lookup Pt=none/\∀base:Heap,(K w.params).In base->base.Ns mainGlobals mg->base.BuiltinsAt mg Pt->ak l.prog w (K w.params) mg base ao 15 fa fd ["_law_script"] (E2 (K w.params) Pt)) :
 PySem.W.WalkO q loose XP YP l.row.toRowW d [] (fun f vs=>PySem.call f vs):=
 L2.ai3 (n:=63) (k:=15) (x:="_law_script") (qual:=qo) (lpos:=rO) (Pt:=Pt) (CX:=fun _=>ao) (sp:=fun w=>E2 (K w.params) Pt) hn (by decide) xO ⟨rfl,by decide,by decide,rfl⟩ hY F (fun _ _ a ns hl hT hS=>⟨a,ns,rfl,hS,hl,.inl hT,fun _ t=>⟨rfl,t⟩⟩) fun _ _ _ _ _ z=>z
end K42
open PySem PySem.W PyProof.Rows
namespace PySem.W.Fast
def tw2190789997432493057:=0
def tw17906927012529785030:=0
def tw3910716921456804036:=0
def tw2557371507390864045:=0
def tw9007524927294966102:=0
def tw13868485758723571046:=0
def tw3223100822807549128:=0
def tw15779240971112175335:=0
def tw13075697028488911912:=0
def tw253575651379451663:=0
def tw2790923559575253199:=0
def tw13615689925012487184:=0
def tw20162399093601519:=0
def tw14023283515232397155:=0
def tw4669538277554667205:=0
def tw1860059894938862885:=0
def tw4577306120537828785:=0
def tw4983572283165349404:=0
def tw7755870736343401934:=0
def tw4656676019650729625:=0
def tw6968252941087284025:=0
def tw13245563347190459063:=0
def tw3412204460444405975:=0
def tw1384177549641726851:=0
def tw11755608735170054957:=0
def tw3722400701160343563:=0
def tw9629340873399500384:=0
def tw10184711102772123556:=0
def tw2650487165731934957:=0
def tw15351532993166166152:=0
def tw15274279196362710273:=0
def tw15511189029213137070:=0
def tw11317367104883458926:=0
def tw15277606615252233474:=0
def tw11981512565285689287:=0
def tw5126954492410686207:=0
def tw131258116079191011:=0
def tw10335443531380185679:=0
def tw12752787455780206211:=0
def tw8288692665999732893:=0
def tw275104206536947581:=0
def tw10337647854689829285:=0
def tw11744707216859735342:=0
def tw9696519058182325243:=0
def tw14558739856018159058:=0
def tw1673304308178800134:=0
def tw16117756862730848209:=0
def tw14745323236301232324:=0
def tw16303007164764881828:=0
def tw12442084529902195994:=0
def tw16883320167189838056:=0
def tw15763187256304308404:=0
def tw11177301886613797904:=0
def tw6307431567364484699:=0
def tw2053246355796538007:=0
def tw15347577566343810281:=0
def tw10801696956645208940:=0
def tw14454708410722877234:=0
def tw13774431864641953877:=0
def tw7310025063144083865:=0
def tw17797843307085149054:=0
def tw15757170657705987386:=0
def tw4074569764922604005:=0
def tw5029421577404098183:=0
def tw4463254378944284696:=0
def tw18069880121597898343:=0
def tw8725955000776602098:=0
def tw4141271503126383295:=0
def tw16302390568295110316:=0
def tw18307419478302990653:=0
def tw11884032943024223082:=0
def tw16729171844014558037:=0
def tw7317844980343944186:=0
def tw12370653025961023623:=0
def tw18397666330101172979:=0
def tw6207233721769330923:=0
def tw11590916843382009171:=0
def tw8176997243041050390:=0
def tw10849642045068776926:=0
def tw13133878863334196237:=0
def tw1699346867813915417:=0
def tw8497011982096022594:=0
def tw17993576014060125985:=0
def tw1706308495242687622:=0
def tw16867168002003063957:=0
def tw5310473346917686527:=0
def tw13813559703645223048:=0
def tw3789440675587432194:=0
def tw5750617479394640885:=0
def tw1848261472630919671:=0
end PySem.W.Fast
def PySem.W.Fast.tw12232675959180767913:PySem.Program:=PySem.Challenge.pw_parcelmend_k42_best_challenged
set_option maxRecDepth 100000 in
set_option maxHeartbeats 0 in
theorem PySem.Challenge.cw_parcelmend_k42_best_challenged_holds : PySem.Challenge.rw_parcelmend_k42_best_challenged.Holds := by
 w_on;o_law;k_head;(case hw=>w_witness2)
 k_fill
 refine K42.arT (l:=PySem.Challenge.rw_parcelmend_k42_best_challenged) rfl rfl (fun w h Y=>⟨PySem.W.km_in_of Y,PySem.W.km_tabs_of Y _ cD⟩) ?F
 case F=>
  intro w mg fa h KX G xP
  refine' K42.aq0 xP (K42.aqU KX G ?_ ?_ ?_ ?_ ?_ ?_ ?_ ?_ ?_ ?_ ?_ ?_ ?_ ?_ ?_ ?_) (K42.aqp KX G ?_ ?_ ?_ ?_ ?_ ?_ ?_ ?_ ?_ ?_ ?_ ?_ ?_ ?_ ?_ ?_ ?_ ?_ ?_) (K42.aqq KX G ?_ ?_ ?_ ?_ ?_ ?_ ?_ ?_ ?_ ?_ ?_ ?_ ?_ ?_ ?_ ?_ ?_ ?_ ?_ ?_ ?_ ?_ ?_ ?_ ?_ ?_ ?_ ?_) (K42.aqz KX G ?_ ?_ ?_ ?_ ?_ ?_ ?_ ?_ ?_ ?_ ?_ ?_ ?_) (K42.aqA KX G ?_ ?_ ?_ ?_ ?_ ?_ ?_ ?_ ?_ ?_ ?_ ?_ ?_) (K42.aqB KX G ?_ ?_ ?_ ?_ ?_ ?_ ?_ ?_ ?_ ?_ ?_ ?_ ?_ ?_ ?_ ?_ ?_ ?_ ?_ ?_ ?_ ?_ ?_) (K42.aqC KX G ?_ ?_ ?_ ?_ ?_ ?_ ?_ ?_ ?_ ?_ ?_ ?_ ?_ ?_ ?_ ?_ ?_ ?_ ?_ ?_ ?_ ?_ ?_ ?_) (K42.aqD KX G ?_ ?_ ?_ ?_ ?_ ?_ ?_ ?_ ?_ ?_ ?_ ?_ ?_ ?_ ?_ ?_ ?_ ?_ ?_ ?_ ?_ ?_ ?_) (K42.aqS KX G ?_) (K42.aqT KX G ?_ ?_ ?_ ?_ ?_ ?_)
   (L2.bU KX G ?_ ?_ ?_ ?_)
   (L2.bU KX G ?_ ?_ ?_ ?_)
   (L2.bU KX G ?_ ?_ ?_ ?_)
   (L2.bU KX G ?_ ?_ ?_ ?_)
   (L2.bU KX G ?_ ?_ ?_ ?_)
   (L2.bU KX G ?_ ?_ ?_ ?_)
   (L2.bU KX G ?_ ?_ ?_ ?_)
   (L2.bU KX G ?_ ?_ ?_ ?_)
   (L2.bU KX G ?_ ?_ ?_ ?_)
   (L2.bU KX G ?_ ?_ ?_ ?_)
   (L2.bU KX G ?_ ?_ ?_ ?_)
   (L2.bU KX G ?_ ?_ ?_ ?_)
   (L2.bU KX G ?_ ?_ ?_ ?_)
   (L2.bU KX G ?_ ?_ ?_ ?_)
   (L2.bU KX G ?_ ?_ ?_ ?_)
   (L2.bU KX G ?_ ?_ ?_ ?_)
   (L2.bU KX G ?_ ?_ ?_ ?_)
   (L2.bU KX G ?_ ?_ ?_ ?_)
   (L2.bU KX G ?_ ?_ ?_ ?_)
   (L2.bU KX G ?_ ?_ ?_ ?_)
   (L2.bU KX G ?_ ?_ ?_ ?_)
   (L2.bU KX G ?_ ?_ ?_ ?_)
   (L2.bU KX G ?_ ?_ ?_ ?_)
   (L2.bU KX G ?_ ?_ ?_ ?_)
   (L2.bU KX G ?_ ?_ ?_ ?_)
   (L2.bU KX G ?_ ?_ ?_ ?_)
   (L2.bU KX G ?_ ?_ ?_ ?_)
   (L2.bU KX G ?_ ?_ ?_ ?_)
   (L2.bU KX G ?_ ?_ ?_ ?_)
   (L2.bU KX G ?_ ?_ ?_ ?_)
   (L2.bU KX G ?_ ?_ ?_ ?_)
   (L2.bU KX G ?_ ?_ ?_ ?_)
   (L2.bU KX G ?_ ?_ ?_ ?_)
   (L2.bU KX G ?_ ?_ ?_ ?_)
   (L2.bU KX G ?_ ?_ ?_ ?_)
   (L2.bU KX G ?_ ?_ ?_ ?_)
   (L2.bU KX G ?_ ?_ ?_ ?_)
   (L2.bU KX G ?_ ?_ ?_ ?_)
   (L2.bU KX G ?_ ?_ ?_ ?_)
   (L2.bU KX G ?_ ?_ ?_ ?_)
   (L2.bU KX G ?_ ?_ ?_ ?_)
   (L2.bU KX G ?_ ?_ ?_ ?_)
   (L2.bU KX G ?_ ?_ ?_ ?_)
   (L2.bU KX G ?_ ?_ ?_ ?_)
  all_goals try first | k_is | kit_is | kernel_rfl
