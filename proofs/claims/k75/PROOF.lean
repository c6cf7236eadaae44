import PyProof.Rows.All
import Wide.All
import OpenK.AllK
import Wide.FinOn
import Lean
import PyProof.EqAt
import PyProof.EqKinds
import PyProof.TupleCall
import KE.KRevSl
import KE.KDictSum
import KE.KEqDict
import PyProof.P3Eq
import KE.KTryMore
import KE.KSortTup
import PyProof.NeKinds
import KE.KLam
import PyProof.SetRoads
import KE.KIntText
import PyProof.DictValues
import PyProof.DictWalks
import KE.KItemsList
import PyProof.Toks
import PyProof.StrReplace2
import PyProof.StrLawsFirst
import KE.KMinKey
import PyProof.StrLawsTight
import PyProof.StrLawsIdx
import PyProof.Rows.StrSplitJoin
import PySem.Challenge.RW_parcelmend_k75_too_wide_a_shelf
import KE.RegKIsAll
import KE.RegKTryMore
noncomputable section
set_option Elab.async false
set_option linter.all false
set_option genInjectivity false
set_option genSizeOf false
set_option genSizeOfSpec false
set_option maxRecDepth 100000
section
open PyProof PyProof.Rows PySem PySem.AutoSeq1 PySem.Builtin PySem.Builtin.Getset_descriptor PySem.Builtin.ObjectAttr PySem.Builtin.Str PySem.Calls PySem.MeetsSeq PySem.MeetsSeq2 PySem.MeetsSeq3 PySem.SeqAt PySem.Spec PySem.W
def aa:=@wpAny_bind
def af:=@if_neg
def ah:=@List.length_map
def ai:=@if_pos
def aj:=@wpAny_pure
def aD:=@Nat.le_refl
def bc:=@List.mem_cons
def bf:=@List.mem_map
def bi:=@Heap.lt_size
def bp:=@List.map_cons
def bq:=@List.length_cons
def bw:=@decide_eq_true
def bA:=@List.mem_cons_self
def bB:=@Heap.get?_push_of_some
def bD:=@List.length_append
def bL:=@List.mem_cons_of_mem
def bM:=@decide_eq_false
def bX:=@List.mem_singleton
def cg:=@Nat.ne_of_lt
def cn:=@Bool.false_ne_true
def cq:=@of_decide_eq_true
def cz:=@List.getElem?_map
def cE:=@Nat.zero_le
def cK:=@List.map_append
def cR:=@Nat.le_trans
def cS:=@congrArg
def cT:=@Heap.get?_push_size
def dA:=@List.mem_append
def dB:=@List.getElem?_eq_some_iff
def dH:=@wpAny_mono
def dJ:=@Array.length_toList
def d5:=@List.length_take
def d6:=@List.mem_of_getElem?
def eN:=@List.take_length
def eT:=@List.all_eq_true
def fo:=@List.getElem?_eq_getElem
def fC:=@PassesOwn.never
def fO:=@Option.some.inj
def fP:=@List.mem_append_right
def gj:=@Ne.symm
def gk:=@List.length_nil
def gB:=@Nat.lt_of_lt_of_le
def gC:=@List.size_toArray
def gD:=@Bool.and_eq_true
def gE:=@List.mem_map_of_mem
def iI:=@if_false
def iJ:=@wpAny_holding
def iK:=@List.mem_range
def iL:=@wpAny_setState_of
def i4:=@List.append_nil
def i5:=@List.nodup_cons
def i6:=@List.append_assoc
def i7:=@List.not_mem_nil
def i8:=@or_false
def i9:=@PySem.W.mg_of
def ja:=@PySem.F.plainAttrs_list
def jo:=@List.nodup_nil
def jp:=@List.map_map
def jP:=@beq_iff_eq
def jQ:=@List.take_add_one
def jR:=@List.mem_flatMap
def kI:=@Bool.false_eq_true
def kJ:=@Nat.ne_of_gt
def kL:=@Heap.SameBut.update
def kM:=@List.foldl_append
def lE:=@wpAny_call_entry
def my:=@wpAny_isInstance
def mB:=@List.length_singleton
def mC:=@Array.getElem?_toList
def mD:=@codeAny_builtin
def mE:=@List.length_range
def mG:=@PySem.boot_len
def mH:=@PySem.F.plainAttrs_str
def oq:=@wpAny_forIn_list
def ou:=@wpAny_truthy_bool
def oA:=@Nat.lt_irrefl
def oB:=@Nat.le_of_lt
def oC:=@PySem.W.kia_one
def oE:=@Option.map_some
def oF:=@Bool.and_eq_true_iff
def oG:=@Array.getElem?_eq_getElem
def oH:=@plainId_quiet
def oI:=@PyProof.Rows.boot_list
def oJ:=@PySem.F.slot_list_extend
def oK:=@PySem.F.type_list_extend
def qb:=@Sum.inr.inj
def qe:=@List.mem_filter
def qf:=@sizeLine_eq
def qg:=@Heap.size_push
def qh:=@codeAny_mono
def qi:=@Bool.and_false
def qj:=@List.filter_cons
def qk:=@wpAny_askSetting
def ql:=@Around.under_plainId
def rA:=@wpAny_rule
def rB:=@List.zip_cons_cons
def rC:=@Bool.or_false
def rD:=@List.any_cons
def rE:=@List.cons_append
def rF:=@call_meetsIn
def rG:=@wpAny_newObj_type
def rH:=@Bool.eq_false_iff
def rJ:=@not_or
def rK:=@List.cons.inj
def rL:=@PyProof.Rows.boot_sorted
def rM:=@PyProof.Rows.boot_isinstance
def ur:=@beq_eq_false_iff_ne
def ut:=@if_true
def uu:=@PySem.mem_of_lookup
def uv:=@Nat.lt_trans
def uw:=@Bool.true_and
def ux:=@decide_eq_true_eq
def uy:=@Nat.not_lt_zero
def uz:=@List.getD_eq_getElem?_getD
def uA:=@List.foldl_cons
def uB:=@List.nodup_append
def uC:=@PySem.F.called_set
def vQ:=@wpAny_seqItems
def vR:=@wpAny_passesOwn
def vS:=@Bool.false_and
def vT:=@List.mem_filterMap
def vU:=@Bool.eq_iff_iff
def vV:=@Nat.lt_succ_self
def vW:=@Nat.le_succ
def vX:=@List.length_drop
def vY:=@List.find?_cons
def vZ:=@List.length_eq_zero_iff
def v4:=@fits_of_scanBound
def v5:=@Int.toNat_natCast
def v6:=@PySem.F.plain_max_loop
def v7:=@Array.toList_append
def wa:=@List.cons_ne_nil
def wb:=@List.flatMap_cons
def wc:=@PyProof.Rows.boot_dict
def we:=@List.nil_append
def yH:=@wpAny_specialOf
def yI:=@Bool.not_true
def yJ:=@List.filterMap_cons
def yK:=@List.mem_append_left
def yL:=@wpAny_execs_nil
def yM:=@wpAny_Call_Name_kw
def yN:=@List.map_nil
def yO:=@typeIs_str
def yP:=@PySem.F.slot_dict_get
def yQ:=@decide_eq_decide
def yR:=@List.mem_iff_getElem
def yS:=@List.range_succ
def yT:=@Heap.get?_update_self
def yU:=@wpAny_storeSet_of
def yV:=@Obj.data_mapFields
def yW:=@wpAny_dictEntries
def yX:=@wpAny_tryCatch
def yY:=@List.pairwise_cons
def yZ:=@PySem.F.slot_str_join
def y6:=@PySem.F.type_str_join
def y7:=@List.getElem?_inj
def y8:=@PySem.F.slot_list_append
def y9:=@PySem.F.type_list_append
def za:=@List.filter_append
def Ce:=@Nat.le_of_eq
def Cf:=@Calls.spliced_cons
def Cg:=@wpAny_call
def Ci:=@Option.isSome_iff_exists
def Cj:=@List.getElem?_append_right
def Ck:=@AutoSeq1.sub_tuple_tuple
def Cm:=@List.all_cons
def Cn:=@Calls.callWith_builtin
def Co:=@Calls.evalArgs_plain
def Cp:=@Heap.get?_update_other
def Cq:=@call_meets
def Cr:=@List.length_filter_le
def Ct:=@PySem.F.plainAttrs_dict
def Cu:=@Nat.lt_of_le_of_lt
def Cv:=@beq_self_eq_true
def Cw:=@List.lookup_cons
def Cy:=@StrLaws.glued_eq_join
def Cz:=@wpAny_newList
def CA:=@Array.getElem?_eq_none
def CB:=@Nat.zero_add
def CC:=@Nat.mod_lt
def CD:=@List.getElem_mem
def CF:=@Heap.SameBut.refl
def CG:=@wpAny_setField
def CH:=@wpAny_updateSeq
def CI:=@Walks.list
def CJ:=@wpAny_dictEpoch
def CK:=@PySem.F.slot_dict_keyiterator_next
def CL:=@List.flatMap_append
def CM:=@List.eq_nil_of_length_eq_zero
def Iy:=@F.slot_tuple_hash
def Iz:=@Nat.add_assoc
def IA:=@F.slot_tuple_eq
def IB:=@Paired.length
def IC:=@wpAny_pyIter_list
def ID:=@PyProof.Rows.callWith_type1
def IE:=@Calls.spliced_nil
def IF:=@PySem.W.callWith_K
def IG:=@richCompare_meets_room
def IH:=@PySem.F.entry_dict_get
def II:=@List.any_eq_true
def IJ:=@PySem.W.kqd_eqv
def IK:=@Option.getD_some
def IL:=@Nat.succ_mul
def IM:=@Nat.lt_succ_of_lt
def IN:=@entryFor_alias
def IP:=@wpAny_pyIter_slot
def IQ:=@wpAny_ite_split
def IR:=@wpAny_typeOf
def IS:=@wpAny_attempt
def IT:=@Nat.succ_pos
def IU:=@Array.toList_inj
def IV:=@Nat.add_zero
def IW:=@Array.getD_eq_getD_getElem?
def IX:=@wpAny_of_eq
def IY:=@List.drop_eq_getElem_cons
def IZ:=@wpAny_typeNameOfWhole_keyiter
def I8:=@wpAny_typeNameOf_keyiter
def I9:=@wpAny_letGo
def Ja:=@Nat.not_lt
def Jb:=@plain_eq_loop
def Jc:=@List.all_map
def Jd:=@List.map_congr_left
def Je:=@PySem.F.slot_str_split
def Jf:=@PySem.F.type_str_split
def Jg:=@PyProof.Rows.boot_str
def Jh:=@List.getElem_take
def Ji:=@Nat.mul_le_mul_right
def Jj:=@List.take_append_drop
def Jk:=@PyProof.Rows.boot_set
def Jl:=@List.filter_sublist
def Jm:=@Classical.byContradiction
def UL:=@wpAny_tupleItemsOf
def UM:=@Array.forIn_toList
def UN:=@isSubtype_tuple_tuple
def UO:=@wpAny_richCompare_same_room
def UP:=@List.getElem?_set_self
def UQ:=@List.getElem?_set_ne
def UR:=@wpAny_execs_cons
def UU:=@PySem.W.plainGet_of
def UV:=@PySem.W.methodCall_KW
def UW:=@wpAny_standAt
def UX:=@List.of_mem_zip
def UY:=@List.getElem?_append_left
def UZ:=@List.length_replicate
def U0:=@List.zip_nil_left
def U1:=@List.zip_nil_right
def U2:=@SeqAt.EqAt.same
def U4:=@Option.isSome_map
def U8:=@wpAny_Call_method
def U9:=@Nat.le_of_not_lt
def Va:=@Calls.call_function_entry
def Vb:=@plain_sorted
def Vc:=@entry_sorted
def Vd:=@args_sorted1
def Ve:=@slot_list_sort
def Vf:=@entry_list_sort
def Vg:=@args_list_sort
def Vh:=@sortedHeap_at
def Vi:=@Array.toArray_toList
def Vj:=@sortedHeap_old
def Vk:=@StrsAre.length
def Vl:=@typeLookup_type
def Vm:=@builtinLookup_eq_fast
def Vn:=@isSubtype_type
def Vo:=@codeAny_call_builtin
def Vp:=@looks_findIn
def Vq:=@PySem.W.kat_nil
def Vr:=@List.ext_getElem
def Vs:=@get?_update_seq
def Vt:=@listUpdate_at
def Vu:=@Nat.lt_of_not_le
def Vv:=@Obj.isFreed_of_fields
def Vw:=@Obj.cls_mapFields
def Vx:=@wpAny_callSpecial?_slot
def Vy:=@wpAny_fieldsOf
def Vz:=@Bool.and_self
def VA:=@sub_set_self
def VB:=@PyProof.Rows.F.plain_set_update_loop
def VC:=@Nat.lt_or_ge
def VD:=@F.slot_str_split
def VE:=@F.entry_str_split
def VF:=@F.args_str_split_2
def VG:=@ne_true_of_eq_false
def VH:=@PySem.F.entry_max_loop
def VI:=@List.pairwise_singleton
def VJ:=@List.Perm.eq_of_pairwise
def VL:=@List.map_take
def VM:=@Nat.succ_le_succ
def VN:=@List.perm_ext_iff_of_nodup
def VO:=@List.all_nil
def VQ:=@Bool.and_true
def VR:=@List.getLast?_append
def VS:=@PyProof.Rows.boot_all
def VT:=@Int.mul_assoc
def ar7:=@Calls.Name_function_global
def ar8:=@wpAny_isTrue_Compare1
def ar9:=@PySem.W.cellsFrom_some
def asa:=@List.getElem?_replicate
def asb:=@subscriptTail_builtinR
def asc:=@PySem.F.slot_dict_pop
def asd:=@PySem.F.args_dict_get_2
def ase:=@PySem.F.args_dict_get_3
def asf:=@PySem.F.type_dict_get
def asg:=@wpAny_comprehension_free
def ash:=@PySem.F.slot_dict_itemiterator_iter
def asi:=@PySem.F.slot_dict_items
def asj:=@PySem.F.slot_dict_update
def asm:=@PySem.F.excBase_ValueError
def asn:=@codeAny_handlers_test
def aso:=@List.getElem?_eq_none
def asp:=@List.length_eraseIdx_of_lt
def asq:=@PySem.F.slot_set_iter
def asr:=@filterMap_getElem?_range
def ass:=@PySem.F.plain_extend_loop
def ast:=@PySem.F.plain_list_iadd
def asu:=@List.length_pos_of_mem
def asv:=@PySem.F.plain_set_new
def asw:=@PyProof.Rows.F.entry_set_update_loop
def asx:=@Array.mem_of_getElem?
def asy:=@PySem.F.slot_dict_iter
def asz:=@PySem.F.entry_dict_keyiterator_next
def asA:=@PySem.F.args_dict_keyiterator_next_1
def asB:=@wpAny_isOneOf_keyiter
def asC:=@List.rel_of_pairwise_cons
def asD:=@PySem.toDigits_len_ge
def asE:=@List.take_of_length_le
def asF:=@PySem.F.slot_str_startswith
def asG:=@PySem.F.type_str_startswith
def asH:=@List.getLast?_singleton
def asI:=@List.getLast?_eq_getLast
def asJ:=@List.filter_eq_nil_iff
def asK:=@List.drop_of_length_le
def asL:=@PySem.F.slot_tuple_ne
def asM:=@PySem.F.slot_tuple_eq
def asN:=@List.append_cancel_right
end
abbrev Fg:=PySem.W.Frag
abbrev VP:=PySem.Value->PySem.Shared->Prop
abbrev Po:=List (PySem.Addr×PySem.Obj)
abbrev Mv:=PySem.Str->Option PySem.Value
abbrev Oi:=Option (List Int)
abbrev Ll:=List (List Int)
abbrev Ls:=List PySem.Str
abbrev Lw:=List PySem.Value
abbrev Av:=Array PySem.Value
abbrev Oa:=Option PySem.Addr
abbrev Fy:=PySem.FuncData
open PySem PySem.Spec PyProof.Rows
namespace L2
variable {α β:Type}{p:Pos}{C a f dx:Addr}{P:Program}{w:World}{vs us:Lw}{s s':Shared}{h' base:Heap}{es:List Expr}{A:Around}{E:VP}{u:Value}{M:Model}{n t':Nat}{e c tg:Expr}{a_:Po}{ch fp:List Addr}{N ps:Ls}{K:Fg}{body:List Stmt}{pl:Sem Bool}{mA mg:Mv}{kw:List (Str×Value)}{fd:Fy}{kindOf:Str->Option NameKind}
def aN{p q r:α->β->Prop}{C:Prop}(h:∃a b,p a b/\q a b/\r a b)(k:∀a b,p a b->q a b->r a b->C):C:=h.elim λa h=>h.elim λb h=>h.elim λx h=>h.elim λy z=>k a b x y z
abbrev aq:=Sum Int Str
def oM:aq->Value->Bool
 | .inl k,v=>Value.isInt k v
 | .inr x,v=>Value.isStrOf x v
def lF(w:World):aq->Int
 | .inl k=>hashInt k
 | .inr x=>hashStr w x
def jb:∀{k:aq}{v:Value},oM k v=true->(∃i t,k=Sum.inl i/\v=Value.int i t)\/(∃x t,k=Sum.inr x/\v=Value.str x t)
 | .inl i,v,h=>by
  obtain⟨t,e⟩:=Value.isInt_shape (k:=i) (v:=v) h;exact .inl ⟨i,t,rfl,e⟩
 | .inr x,v,h=>by
  obtain⟨t,e⟩:=Value.isStrOf_shape (x:=x) (v:=v) h;exact .inr ⟨x,t,rfl,e⟩
def VU(i:Int)(t:Tok):oM (.inl i) (.int i t)=true:=by simp[oM,Value.isInt]
def VW(x:Str)(t:Tok):oM (.inr x) (.str x t)=true:=by simp[oM,Value.isStrOf]
def VX(a b:Int):decide ((Sum.inl a:aq)=Sum.inl b)=(a == b):=by
 by_cases e:a=b
 . subst e;simp
 have h:¬(Sum.inl a:aq)=Sum.inl b:=λq=>e (Sum.inl.inj q);rw[bM h];exact(ur.mpr e).symm
def VY(a b:Str):decide ((Sum.inr a:aq)=Sum.inr b)=decide (a=b):=by
 by_cases e:a=b
 . subst e;simp
 have h:¬(Sum.inr a:aq)=Sum.inr b:=λq=>e (qb q);rw[bM h,bM e]
def VZ(a:Int)(b:Str):decide ((Sum.inl a:aq)=Sum.inr b)=false:=bM (λq=>nomatch q)
def V0(a:Str)(b:Int):decide ((Sum.inr a:aq)=Sum.inl b)=false:=bM (λq=>nomatch q)
def b8(prog:Program)(w:World):PySem.KeyKind prog w aq where
 is:=oM
 hash:=lF w
 inj:=λv a b J G=>by
  rcases jb J with⟨i,t,rfl,rfl⟩ | ⟨x,t,rfl,rfl⟩
  . rcases jb G with⟨j,u,rfl,e⟩ | ⟨y,u,rfl,e⟩
    . injection e with e1 _;rw[e1]
    exact nomatch e
  rcases jb G with⟨j,u,rfl,e⟩ | ⟨y,u,rfl,e⟩
  . exact nomatch e
  injection e with e1 _;rw[e1]
 byValue:=λk v h=>by
  rcases jb h with⟨i,t,rfl,rfl⟩ | ⟨x,t,rfl,rfl⟩<;>rfl
 pyHash:=λz h=>by
  rcases jb z with⟨i,t,rfl,rfl⟩ | ⟨x,t,rfl,rfl⟩
  . exact wpAny_pyHash_int h
  exact wpAny_pyHash_str h
 eqBool:=λO z h=>by
  rcases jb O with⟨i,t,rfl,rfl⟩ | ⟨x,t,rfl,rfl⟩
  . rcases jb z with⟨j,u,rfl,rfl⟩ | ⟨y,u,rfl,rfl⟩
    . rw[VX]at h;exact wpAny_eqBool_int h
    rw[VZ]at h;exact SeqAt.EqAt.int_str i t y u _ _ _ _ h
  rcases jb z with⟨j,u,rfl,rfl⟩ | ⟨y,u,rfl,rfl⟩
  . rw[V0]at h;exact SeqAt.EqAt.str_int x t j u _ _ _ _ h
  rw[VY]at h;exact wpAny_eqBool_str h
 «strs»:=λk x t v h=>by
  rcases jb h with⟨i,u,rfl,e⟩ | ⟨y,u,rfl,e⟩
  . exact nomatch e
  injection e with e1 _
  subst e1;cases v<;>rfl
def V1(prog:Program)(w:World)(i:Int)(t:Tok):(b8 prog w).is (.inl i) (.int i t)=true:=VU i t
def rN(prog:Program)(w:World)(x:Str)(t:Tok):(b8 prog w).is (.inr x) (.str x t)=true:=VW x t
abbrev NI:=Sum aq (List aq)
def lG(P:Program)(w:World)(h:Heap):NI->Value->Prop
 | .inl k,v=>oM k v=true
 | .inr ls,v=>∃b,v=.ref b/\IsTupleKey (b8 P w) h ls b
inductive jc (P:Program) (w:World) (h:Heap):List NI->Lw->Prop
 | nil:jc P w h [] []
 | cons {i:NI}{v:Value}{ks:List NI}{vs:Lw}:lG P w h i v->jc P w h ks vs->jc P w h (i::ks) (v::vs)
def jd(P:Program)(w:World)(h:Heap)(ks:List NI)(a:Addr):Prop:=∃o j n,h.get? a=some o/\o.cls=.type "tuple"/\o.data=.seq j n/\jc P w h ks j.toList
def zc(P:Program)(w:World):NI->Int
 | .inl k=>lF w k
 | .inr ls=>tupleKeyHash (b8 P w) ls
def CN:NI->Nat
 | .inl _=>1
 | .inr ls=>ls.length+1
def CO(P:Program)(w:World)(ks:List NI):Int:=reduceHash (Builtin.Tuple.tupleHashOf (ks.map (zc P w)))
def zd(ks:List NI):Nat:=(ks.map CN).sum+1
def lG.inj{h:Heap}{i j:NI}{v:Value}(a:lG P w h i v)(b:lG P w h j v):i=j:=by
 cases i with
 | inl k=>
  cases j with
  | inl l=>rw[(b8 P w).inj v k l a b]
  | inr l=>
   obtain⟨c,rfl,_⟩:=b
   rcases jb a with⟨_,_,_,e⟩ | ⟨_,_,_,e⟩<;>cases e
 | inr k=>
  obtain⟨c,rfl,z⟩:=a;cases j with
  | inl l=>rcases jb b with⟨_,_,_,e⟩ | ⟨_,_,_,e⟩<;>cases e
  | inr l=>
   obtain⟨d,e,hd⟩:=b;cases e;rw[z.inj hd]
def jc.inj{h:Heap}{x y:List NI}(a:jc P w h x vs)(b:jc P w h y vs):x=y:=by
 induction a generalizing y with
 | nil=>cases b;rfl
 | cons p _ j=>
  cases b with
  | cons q r=>rw[p.inj q,j r]
def jd.typeIs{ks:List NI}(x:jd P w s.heap ks a):s.TypeIs (.ref a) "tuple":=x.elim λo j=>j.elim λ_ z=>z.elim λ_ G=>G.elim λU J=>J.elim λO _=>⟨o,U,O⟩
def jd.inj{h:Heap}{x y:List NI}(p:jd P w h x a)(q:jd P w h y a):x=y:=by
 obtain⟨o,c_,n,e,_,d,i⟩:=p;obtain⟨o',its',G,j,_,d',z⟩:=q;rw[e]at j;cases j;rw[d]at d';injection d' with d1 _
 subst d1;exact i.inj z
def jc.keeps{h:Heap}{ks:List NI}(k:∀ls b,IsTupleKey (b8 P w) h ls b->IsTupleKey (b8 P w) h' ls b)(x:jc P w h ks vs):jc P w h' ks vs:=by
 induction x with
 | nil=>exact .nil
 | @cons i v ks vs p _ z=>
  refine .cons ?_ z;cases i with
  | inl l=>exact p
  | inr l=>
   obtain⟨b,e,j⟩:=p;exact⟨b,e,k _ _ j⟩
def jd.keeps{h:Heap}{ks:List NI}{d:Addr}{o:Obj}{es:Array DictEntry}{ep:Nat}(x:jd P w h ks a)(j:h.get? d=some o)(hd:o.data=.dict es ep)(hs:Heap.SameBut d h h'):jd P w h' ks a:=by
 obtain⟨J,c_,n,e,c,e2,i⟩:=x;have ne:a≠d:=by
  intro z;rw[z,j]at e;cases e;rw[hd]at e2;cases e2
 exact⟨J,c_,n,(hs.2 a ne).trans e,c,e2,i.keeps λls b G=>G.keeps j hd hs⟩
def lG.hash{i:NI}{v:Value}{Q:Int->Shared->Prop}(z:A.units<cLine)(x:lG P w s.heap i v)(h:Q (zc P w i) { s with toks:=s.toks+CN i }):wpAny (model P w) A (pyHash v) Q E s:=by
 cases i with
 | inl k=>exact(b8 P w).pyHash (k:=k) x h
 | inr ls=>
  obtain⟨b,rfl,j⟩:=x;exact wpAny_pyHash_tuple z j h
def lG.eq{i j:NI}{v:Value}{Q:Bool->Shared->Prop}(G:A.units<cLine)(x:lG P w s.heap i u)(y:lG P w s.heap j v)(h:Q (decide (i=j)) s):wpAny (model P w) A (eqBool u v) Q E s:=by
 cases i with
 | inl k=>
  cases j with
  | inl l=>
   have e:decide ((Sum.inl k:NI)=Sum.inl l)=decide (k=l):=by
    by_cases q:k=l
    . rw[q];simp
    rw[bM q,bM (λz=>q (Sum.inl.inj z))]
   rw[e]at h;exact(b8 P w).eqBool (a:=k) (b:=l) x y h
  | inr l=>
   rw[bM (λz=>nomatch z)]at h;obtain⟨b,rfl,o,c_,n,e,c,d,_⟩:=y
   rcases jb x with⟨a,t,_,rfl⟩ | ⟨a,t,_,rfl⟩
   . exact SeqAt.EqAt.int_tuple a t ⟨o,e,c,n,d⟩ G _ _ _ _ h
   exact SeqAt.EqAt.str_tuple a t ⟨o,e,c,n,d⟩ G _ _ _ _ h
 | inr k=>
  obtain⟨a,rfl,J⟩:=x;cases j with
  | inl l=>
   rw[bM (λz=>nomatch z)]at h;obtain⟨o,c_,n,e,c,d,_⟩:=J
   rcases jb y with⟨b,t,_,rfl⟩ | ⟨b,t,_,rfl⟩
   . exact SeqAt.EqAt.tuple_int b t ⟨o,e,c,n,d⟩ G _ _ _ _ h
   exact SeqAt.EqAt.tuple_str b t ⟨o,e,c,n,d⟩ G _ _ _ _ h
  | inr l=>
   obtain⟨b,rfl,O⟩:=y;have e:decide ((Sum.inr k:NI)=Sum.inr l)=decide (k=l):=by
    by_cases q:k=l
    . rw[q];simp
    rw[bM q,bM (λz=>q (qb z))]
   rw[e]at h;exact wpAny_eqBool_tuple G J O h
def V6{ks:List NI}{Q:Int->Shared->Prop}(hu:A.units+8<cLine)(U:jd P w s.heap ks a)(h:Q (CO P w ks) { s with toks:=s.toks+zd ks }):wpAny (model P w) A (pyHash (.ref a)) Q E s:=by
 have j:=U.typeIs;obtain⟨o,c_,n,ho,_,hd,hi⟩:=U;have V7:A.units<cLine:=by omega
 unfold pyHash
 first | unfold pyHashByItsType | skip
 first | refine aa (wpAny_cRoomFor_or (.inr V7) ?_) | skip
 refine aa (yH j Iy.lookup ?_);show wpAny _ _ (if (some (Value.builtin "tuple.__hash__") == some Value.none)=true then _ else _) Q E s;rw[af (by rw[beq_builtin_none];exact cn)];refine aa (yH j Iy.lookup ?_);show wpAny _ _ (callSpecialIfBoundUnlessNone? (.ref a) "__hash__" _ >>= _) Q E s;refine aa (wpAny_callSpecialIfBoundUnlessNone?_slot j Iy (lE Iy j F.entry_tuple_hash ?_ (F.args_tuple_hash_1 _)));show wpAny _ _ (Builtin.Tuple.tupleItemsOf (.ref a) >>= _) _ _ s;refine aa (UL ho hd ?_);refine aa ?_;rw[<-UM];refine oq _
  (λrest (b:Array Int) s'=>∃done left,ks=done++left/\jc P w s.heap left rest/\b.toList=done.map (zc P w)/\s'={ s with toks:=s.toks+(done.map CN).sum })
  _ ?_ ?_ _ _ ⟨[],ks,rfl,hi,rfl,rfl⟩
 . rintro x rest b s' ⟨done,left,rfl,O,G,rfl⟩;cases O with
   | @cons k _ Y _ h1 qm=>
    refine aa (lG.hash (i:=k) (show A.units+1<cLine by omega) h1 ?_)
    first
     | exact aj ⟨done++[k],Y,by simp,qm,by simp[G],by simp[Iz]⟩
     | exact aa (aj (aj ⟨done++[k],Y,by simp,qm,by simp[G],by simp[Iz]⟩))
 rintro b s' ⟨done,left,rfl,O,G,rfl⟩;cases O;rw[i4]at h;show wpAny _ _ (retInt (Builtin.Tuple.tupleHashOf b.toList)) _ _ _;rw[G];refine wpAny_ret_mkInt ?_;generalize hz:Builtin.Tuple.tupleHashOf (done.map (zc P w))=z at h ⊢;show wpAny _ _ (if (decide (-(2:Int) ^ 63<=z) && decide (z<2 ^ 63))=true then _ else _) Q E _;unfold CO reduceHash at h;rw[hz]at h
 by_cases J:(decide (-(2:Int) ^ 63<=z) && decide (z<2 ^ 63))=true
 . rw[ai J];rw[ai J]at h;exact aj (by simpa [Iz,zd]using h)
 rw[af J];rw[af J]at h;exact aa (rA (aj (by simpa [Iz,zd]using h)))
def V8{x y:List NI}{b:Addr}{R:PySem.Fin->Shared->Prop}(hu:A.units<cLine)(hx:jd P w s.heap x a)(hy:jd P w s.heap y b)(h:R (.done (.ret (.bool (decide (x=y))))) s) :
 wpAny (model P w) A (Builtin.«tuple.__eq__» ⟨[.ref a,.ref b],[]⟩) R E s:=by
 have V9:=hy.typeIs;obtain⟨oa,xs,na,CP,_,Wa,Wb⟩:=hx;obtain⟨ob,ys,nb,kP,_,gO,Wc⟩:=hy;show wpAny _ _ (isInstance (.ref b) (.type "tuple") >>= _) _ _ s;refine aa (my V9 UN ?_);simp only[yI,kI,iI];refine aa (UL CP Wa ?_);refine aa (UL kP gO ?_);refine aa ?_;refine oq _
  (λrest r s'=>r.1=none/\s'=s/\∃J O G z,rest=List.zip G z/\jc P w s.heap J G/\jc P w s.heap O z/\decide (J=O)=decide (x=y)/\(G.length == z.length)=(xs.size == ys.size))
  _ ?_ ?_ _ _ ⟨rfl,rfl,x,y,xs.toList,ys.toList,rfl,Wb,Wc,rfl,by simp⟩
 . rintro⟨u,v⟩ rest r s' ⟨hr,rfl,J,O,G,z,hz,ir,zf,zi,hlen⟩;cases ir with
   | nil=>simp at hz
   | @cons k1 u' Y Wd h1 We=>
    cases zf with
    | nil=>simp at hz
    | @cons k2 v' Jo Wf h2 Wg=>
     simp only[rB,List.cons.injEq,Prod.mk.injEq]at hz;obtain⟨⟨rfl,rfl⟩,rfl⟩:=hz;refine aa (lG.eq (i:=k1) (j:=k2) hu h1 h2 ?_)
     by_cases U:k1=k2
     . subst U;rw[bw rfl];simp only[yI,kI,iI];refine aj ⟨rfl,rfl,Y,Jo,Wd,Wf,rfl,We,Wg,?_,by simpa using hlen⟩;rw[<-zi]
       by_cases zj:Y=Jo
       . simp[zj]
       simp[zj]
     rw[bM U];simp only[Bool.not_false,ut];have hf:decide (x=y)=false:=by rw[<-zi];simp[U]
     rw[hf]at h;exact aa (aj (aj (aj h)))
 rintro⟨r1,r2⟩ s' ⟨hr,rfl,J,O,G,z,hz,ir,zf,zi,hlen⟩;simp only at hr;subst hr;refine aj ?_;have Wh:(xs.size == ys.size)=decide (x=y):=by
  rw[<-zi,<-hlen];cases ir with
  | nil=>
   cases zf with
   | nil=>simp
   | cons _ _=>simp
  | cons _ _=>
   cases zf with
   | nil=>simp
   | cons _ _=>simp at hz
 show R (.done (.ret (.bool (xs.size == ys.size)))) s';rw[Wh];exact h
def Wi{x y:List NI}{b:Addr}{Q:Bool->Shared->Prop}(J:A.units+8<cLine)(j:jd P w s.heap x a)(z:jd P w s.heap y b)(h:Q (decide (x=y)) s) :
 wpAny (model P w) A (eqBool (.ref a) (.ref b)) Q E s:=by
 unfold eqBool
 try with_reducible refine iJ ?_
 show wpAny _ _ (if (Value.ref a == Value.ref b)=true then _ else _) Q E s
 by_cases G:(Value.ref a == Value.ref b)=true
 . rw[ai G];have e:a=b:=by have:=eq_of_beq G;injection this
   subst e;obtain rfl:=j.inj z;exact aa (rA (aj (by simpa using h)))
 rw[af G];exact aa (UO (op:=.Eq) j.typeIs z.typeIs IA
  (lE IA j.typeIs F.entry_tuple_eq (V8 (show A.units+1<cLine by omega) j z ⟨_,rfl,(λe=>nomatch e),ou h⟩) (F.args_tuple_eq_2 _ _)) (by omega))
def Wj{ls:List aq}{Q:Bool->Shared->Prop}(G:IsTupleKey (b8 P w) s.heap ls a)(h:Q true s):wpAny M A (eqIsQuiet (n+1) (.ref a)) Q E s:=by
 have z:=G.typeIs;obtain⟨o,c_,m,U,_,hd,hi⟩:=G;unfold eqIsQuiet;refine aa (yH z IA.lookup ?_);show wpAny _ _ (isInstance (.ref a) (.type "tuple") >>= _) _ _ s;refine aa (my z UN ?_);simp only[yI,kI,iI];refine aa (vQ U hd ?_);refine aa ?_;show wpAny _ _ (forIn c_ _ _) _ _ s;rw[<-UM];refine oq _ (λrest r s'=>r.1=none/\s'=s/\∀v∈rest,carriedByValue v=true) _ ?_ ?_ _ _ ⟨rfl,rfl,hi.byValue⟩
 . rintro v rest r s' ⟨j,rfl,J⟩;rw[eqIsQuiet_byValue _ (J v bA)];refine aa (aj ?_);simp only[yI,kI,iI];exact aj ⟨rfl,rfl,λu O=>J u (bL _ O)⟩
 rintro⟨r1,r2⟩ s' ⟨j,rfl,_⟩;simp only at j;subst j;exact aj h
def Wl{ks:List NI}{Q:Bool->Shared->Prop}(G:jd P w s.heap ks a)(h:Q true s):wpAny M A (eqIsQuiet 8 (.ref a)) Q E s:=by
 have z:=G.typeIs;obtain⟨o,c_,m,U,_,hd,hi⟩:=G;unfold eqIsQuiet;refine aa (yH z IA.lookup ?_);show wpAny _ _ (isInstance (.ref a) (.type "tuple") >>= _) _ _ s;refine aa (my z UN ?_);simp only[yI,kI,iI];refine aa (vQ U hd ?_);refine aa ?_;show wpAny _ _ (forIn c_ _ _) _ _ s;rw[<-UM];refine oq _ (λrest r s'=>r.1=none/\s'=s/\∃ls,jc P w s.heap ls rest) _ ?_ ?_ _ _ ⟨rfl,rfl,ks,hi⟩
 . rintro v rest r s' ⟨j,rfl,ls,Y⟩;cases Y with
   | @cons i _ zm _ h1 h2=>
    have J:∀{R:Bool->Shared->Prop},R true s'->wpAny M A (eqIsQuiet 7 v) R E s':=λ{R} q=>by
     cases i with
     | inl k=>
      rw[eqIsQuiet_byValue _ ((b8 P w).byValue k v h1)];exact aj q
     | inr l=>
      obtain⟨b,rfl,O⟩:=h1;exact Wj O q
    refine aa (J ?_);simp only[yI,kI,iI];exact aj ⟨rfl,rfl,zm,h2⟩
 rintro⟨r1,r2⟩ s' ⟨j,rfl,_⟩;simp only at j;subst j;exact aj h
def oN(P:Program)(w:World):HeapKind P w (List NI) where
 is:=jd P w
 hash:=CO P w
 draws:=zd
 room:=λA=>A.units+8<cLine
 inj:=λa b=>a.inj b
 keeps:=λx G hd hs=>x.keeps G hd hs
 pyHash:=λz j h=>V6 z j h
 eqBool:=λz J O h=>Wi z J O h
 quiet:=λj h=>Wl j h
def uD(j:A.units+64<cLine):(oN P w).room A.in1:=show A.units+1+8<cLine by omega
set_option genInjectivity true in
inductive V where
 | non | bl (b:Bool) | int (i:Int) | str (x:Str) | byt (b:Array UInt8) | flt (b:UInt64) | ref (a:Addr) | ty (n:String)
 deriving DecidableEq
abbrev Lv:=List V
def RelV:V->Value->Prop
 | .non,u=>u=Value.none
 | .bl b,u=>u=Value.bool b
 | .int i,u=>∃t,u=Value.int i t
 | .str x,u=>∃t,u=Value.str x t
 | .byt b,u=>∃t,u=Value.bytes b t
 | .flt b,u=>∃t,u=Value.float b t
 | .ref a,u=>u=Value.ref a
 | .ty n,u=>u=Value.type n
abbrev aX:Lv->Lw->Prop:=Paired RelV
def aX.length{xs:Lv}(r:aX xs us):xs.length=us.length:=IB r
def aX.get:∀{xs:Lv}{us:Lw}{i:Nat}{x:V},aX xs us->xs[i]?=some x->∃u,us[i]?=some u/\RelV x u
 | _,_,_,_,.nil,e=>by simp at e
 | _,_,0,_,.cons r _,e=>by simp at e;subst e;exact⟨_,rfl,r⟩
 | _,_,i+1,x,.cons _ t,e=>by
  obtain⟨u,h1,h2⟩:=aX.get (i:=i) (x:=x) t (by simpa using e);exact⟨u,by simpa using h1,h2⟩
def aX.append:∀{xs ys:Lv}{us j:Lw},aX xs us->aX ys j->aX (xs++ys) (us++j)
 | _,_,_,_,.nil,s=>s
 | _,_,_,_,.cons r t,s=>.cons r (aX.append t s)
def aX.take:∀{xs:Lv}{us:Lw} (n:Nat),aX xs us->aX (xs.take n) (us.take n)
 | _,_,0,_=>.nil
 | _,_,_+1,.nil=>.nil
 | _,_,n+1,.cons r t=>.cons r (aX.take n t)
def aX.drop:∀{xs:Lv}{us:Lw} (n:Nat),aX xs us->aX (xs.drop n) (us.drop n)
 | _,_,0,r=>r
 | _,_,_+1,.nil=>.nil
 | _,_,n+1,.cons _ t=>aX.drop n t
def gP:Option V->Option Value->Prop
 | some v,some u=>RelV v u
 | none,none=>True
 | _,_=>False
def KV{κ:Type}:List (κ×V)->List (κ×Value)->Prop:=Paired fun(p:κ×V) (q:κ×Value)=>p.1=q.1/\RelV p.2 q.2
def kV:aq->V
 | .inl i=>.int i
 | .inr x=>.str x
inductive HO where
 | lst (xs:Lv)
 | tup (xs:Lv)
 | dK (kvs:List (aq×V)) | dT (kvs:List (List NI×V))
 | set (S:Int->Bool) (n:Nat)
 | ins (C dx:Addr) (fs:List (Str×V))
 | own (x:Addr)
 | xd (fs:List (Str×V))
 | met (f x:Addr)
 | rng (lo hi:Int)
 | frz (o:Obj) (u:HO)
 | tbl (ps:Av)
 | ext (φ:Heap->Prop)
abbrev Hp:=Addr->Option HO
def ae(H:Hp)(a:Addr)(o:HO):Hp:=λb=>if b=a then some o else H b
def aw{H:Hp}{o:HO}:ae H a o a=some o:=by unfold ae;rw[ai rfl]
def aE{H:Hp}{b:Addr}{o:HO}(h:b≠a):ae H a o b=H b:=by unfold ae;rw[af h]
def Wm{H:Hp}{o u:HO}:ae (ae H a o) a u=ae H a u:=by
 funext b;unfold ae;split<;>rfl
def aT{H:Hp}{b:Addr}{o u:HO}(h:H a=some o)(h':H b=some u)(d:o≠u):a≠b:=by
 intro e;subst e;rw[h]at h';exact d (fO h')
def aF{H:Hp}{b:Addr}{o:HO}(h:H a=some o)(h':H b=none):a≠b:=by
 intro e;subst e;rw[h]at h';cases h'
def NV(H:Hp):NI->V->Prop
 | .inl k,v=>v=kV k
 | .inr ls,v=>∃b,v=.ref b/\H b=some (.tup (ls.map kV))
abbrev Jp (H:Hp):List NI->Lv->Prop:=Paired (NV H)
def gZ(H:Hp)(ks:List NI)(a:Addr):Prop:=∃vs,H a=some (.tup vs)/\Jp H ks vs
def aB{F G:α->β->Prop}:∀{j:List α}{l₂:List β},Paired F j l₂->(∀a b,F a b->G a b)->Paired G j l₂
 | _,_,.nil,_=>.nil
 | _,_,.cons r t,f=>.cons (f _ _ r) (aB t f)
def gZ.keeps{H H':Hp}{ks:List NI}(x:gZ H ks a)(j:∀b xs,H b=some (.tup xs)->H' b=some (.tup xs)):gZ H' ks a:=by
 obtain⟨vs,e,r⟩:=x;refine⟨vs,j _ _ e,aB r λi v z=>?_⟩;cases i with
 | inl k=>exact z
 | inr l=>
  obtain⟨b,e1,e2⟩:=z;exact⟨b,e1,j _ _ e2⟩
section
variable (P:Program)(w:World)
def bE(H:Hp)(h:Heap)(a:Addr):HO->Prop
 | .lst xs=>xs.length<=sizeLine/\∃(c_:Lw) (n:Nat),aX xs c_/\h.get? a=some { cls:=.type "list",data:=.seq c_.toArray n }
 | .tup xs=>xs.length<=sizeLine/\∃c_:Lw,aX xs c_/\IsTup h a c_.toArray
 | .dK kvs=>kvs.length<=sizeLine/\(a == sysModules)=false/\∃vs,KV kvs vs/\h.DictOf (b8 P w) a vs
 | .dT kvs=>kvs.length<=sizeLine/\(a == sysModules)=false/\∃xs:List (List NI×Addr×Value),
  Paired (fun(p:List NI×V) (q:List NI×Addr×Value)=>p.1=q.1/\gZ H p.1 q.2.1/\RelV p.2 q.2.2) kvs xs /\
  ∃o es ep,h.get? a=some o/\o.ExactDict/\o.data=.dict es ep/\es.toList=xs.map (entryOfKey (oN P w))/\(xs.map (·.1)).Nodup
 | .set S n=>h.SetOf (intKind P w) a S n
 | .ins C dx fs=>H dx=some (.own a)/\fs.length<=1000/\dx≠a/\h.get? a=some (W.instObj C dx) /\
  ∃mA,h.Ns1 dx mA/\(∀f,gP (fs.lookup f) (mA f))/\PySem.Within mA (fs.map (·.1))
 | .own _=>∃o,h.get? a=some o
 | .xd fs=>∃mA,h.Ns1 a mA/\∀f,gP (fs.lookup f) (mA f)
 | .rng lo hi=>∃t u v,h.get? a=some { cls:=.type "range",data:=.fields #[.int lo t,.int hi u,.int 1 v] }
 | .frz o u=>h.get? a=some o/\bE H h a u
 | .tbl ps=>h.get? a=some { cls:=.none,data:=.fields ps }
 | .met f x=>h.get? a=some (W.methodObj (.ref f) (.ref x))
 | .ext φ=>φ h/\(∃o,h.get? a=some o)/\∀h1 h2:Heap,φ h1->(∀o,h1.get? a=some o->h2.get? a=some o)->φ h2
def bQ(H:Hp)(h:Heap):Prop:=∀a o,H a=some o->bE P w H h a o
end
section
variable {H H':Hp}{h:Heap}{o:HO}
def bE.lt(x:bE P w H h a o):a<h.objs.size:=by
 cases o with
 | lst xs=>obtain⟨_,_,_,_,e⟩:=x;exact bi e
 | tup xs=>obtain⟨_,_,_,p⟩:=x;exact p.lt
 | dK kvs=>obtain⟨_,_,_,_,o,_,_,e,_⟩:=x;exact bi e
 | dT kvs=>obtain⟨_,_,_,_,o,_,_,e,_⟩:=x;exact bi e
 | set S n=>obtain⟨o,_,_,_,e,_⟩:=x;exact bi e
 | ins C dx fs=>obtain⟨_,_,_,e,_⟩:=x;exact bi e
 | own y=>obtain⟨_,e⟩:=x;exact bi e
 | xd fs=>obtain⟨_,⟨_,_,_,e,_⟩,_⟩:=x;exact bi e
 | rng lo hi=>obtain⟨_,_,_,e⟩:=x;exact bi e
 | frz ob u=>obtain⟨e,_⟩:=x;exact bi e
 | tbl ps=>exact bi (show h.get? a=some _ from x)
 | met f y=>exact bi (show h.get? a=some _ from x)
 | ext φ=>obtain⟨_,⟨_,e⟩,_⟩:=x;exact bi e
def Paired.mapP{F G:α->β->Prop}:∀{j:List α}{l₂:List β},Paired F j l₂->(∀a b,F a b->G a b)->Paired G j l₂
 | _,_,.nil,_=>.nil
 | _,_,.cons r t,f=>.cons (f _ _ r) (Paired.mapP t f)
def bE.stay(x:bE P w H h a o)(k:∀b u,(b=a\/H b=some (.own a))->h.get? b=some u->h'.get? b=some u)
 (j:∀b,H b=some (.own a)->H' b=some (.own a)) (G:∀b xs,H b=some (.tup xs)->H' b=some (.tup xs)):bE P w H' h' a o:=by
 induction o with
 | lst xs=>obtain⟨z,c_,n,r,e⟩:=x;exact⟨z,c_,n,r,k _ _ (.inl rfl) e⟩
 | tup xs=>obtain⟨z,c_,r,ob,e,c⟩:=x;exact⟨z,c_,r,ob,k _ _ (.inl rfl) e,c⟩
 | dK kvs=>obtain⟨z,y,vs,r,ob,es,ep,e,c⟩:=x;exact⟨z,y,vs,r,ob,es,ep,k _ _ (.inl rfl) e,c⟩
 | dT kvs=>
  obtain⟨z,y,xs,r,ob,es,ep,e,c⟩:=x;exact⟨z,y,xs,Paired.mapP r λp q z=>⟨z.1,z.2.1.keeps G,z.2.2⟩,ob,es,ep,k _ _ (.inl rfl) e,c⟩
 | set S n=>obtain⟨ob,es,ep,t,e,c⟩:=x;exact⟨ob,es,ep,t,k _ _ (.inl rfl) e,c⟩
 | ins C dx fs=>
  obtain⟨d,z,ne,e,mA,⟨od,es,ep,e2,c⟩,r⟩:=x;exact⟨j _ d,z,ne,k _ _ (.inl rfl) e,mA,⟨od,es,ep,k _ _ (.inr d) e2,c⟩,r⟩
 | own y=>obtain⟨ob,e⟩:=x;exact⟨ob,k _ _ (.inl rfl) e⟩
 | xd fs=>obtain⟨mA,⟨od,es,ep,e,c⟩,r⟩:=x;exact⟨mA,⟨od,es,ep,k _ _ (.inl rfl) e,c⟩,r⟩
 | rng lo hi=>obtain⟨t,u,v,e⟩:=x;exact⟨t,u,v,k _ _ (.inl rfl) e⟩
 | frz ob u J=>obtain⟨e,q⟩:=x;exact⟨k _ _ (.inl rfl) e,J q⟩
 | tbl ps=>
  have e:h.get? a=some { cls:=.none,data:=.fields ps }:=x;show h'.get? a=some { cls:=.none,data:=.fields ps };exact k a _ (.inl rfl) e
 | met f y=>
  have e:h.get? a=some (W.methodObj (.ref f) (.ref y)):=x;show h'.get? a=some (W.methodObj (.ref f) (.ref y));exact k a _ (.inl rfl) e
 | ext φ=>obtain⟨p,⟨o,e⟩,st⟩:=x;exact⟨st _ _ p λo q=>k _ _ (.inl rfl) q,⟨o,k _ _ (.inl rfl) e⟩,st⟩
def bQ.lt(x:bQ P w H h)(e:H a=some o):a<h.objs.size:=(x a o e).lt
def bQ.fresh(x:bQ P w H h)(e:h.objs.size<=a):H a=none:=by
 cases q:H a with
 | none=>rfl
 | some u=>exact absurd (gB (x.lt q) e) (oA _)
def bQ.kept(x:bQ P w H h)(k:∀b u,h.get? b=some u->h'.get? b=some u):bQ P w H h':=λa o e=>
 (x a o e).stay (λb u _ q=>k b u q) (λ_ q=>q) λ_ _ q=>q
def bQ.laid(x:bQ P w H h)(k:∀b u,h.get? b=some u->h'.get? b=some u)(G:h.objs.size<=a)(J:bE P w (ae H a o) h' a o):bQ P w (ae H a o) h':=λb u e=>by
 have z:=x.fresh G
 by_cases j:b=a
 . subst j;rw[aw]at e;cases e;exact J
 rw[aE j]at e;exact(x b u e).stay (λc v _ q=>k c v q) (λc q=>by rw[aE (aF q z)];exact q) λc xs q=>by rw[aE (aF q z)];exact q
end
def Rd(H:Hp)(a:Addr)(u:HO):Prop:=H a=some u\/∃o,H a=some (.frz o u)
def Rd.ok{H:Hp}{h:Heap}{u:HO}(r:Rd H a u)(x:bQ P w H h):bE P w H h a u:=by
 rcases r with r | ⟨o,r⟩
 . exact x a u r
 obtain⟨_,q⟩:=x a _ r;exact q
def wf:Option HO->Prop
 | some (.lst _)=>True
 | some (.dK _)=>True
 | some (.dT _)=>True
 | some (.set _ _)=>True
 | some (.ins _ _ _)=>True
 | some (.ext _)=>True
 | _=>False
section
variable {H:Hp}{h:Heap}{x e:Addr}{o':HO}
def bQ.write(ok:bQ P w H h)(G:wf (H x))(U:e=x\/H e=some (.own x))(k:∀b u,b≠e->h.get? b=some u->h'.get? b=some u)(uE:∃u,h'.get? e=some u)
 (a0:bE P w (ae H x o') h' x o'):bQ P w (ae H x o') h':=λb u q=>by
 have O:∀c y,H c=some (.own y)->c≠x:=λc y r z=>by subst z;rw[r]at G;exact G
 have Wn:∀c xs,H c=some (.tup xs)->c≠x:=λc xs r z=>by subst z;rw[r]at G;exact G
 by_cases j:b=x
 . subst j;rw[aw]at q;cases q;exact a0
 rw[aE j]at q
 by_cases J:b=e
 . have Y:H b=some (.own x):=by
    rcases U with z | z
    . exact absurd (J.trans z) j
    rw[J];exact z
   rw[q]at Y;cases Y;obtain⟨v,hv⟩:=uE;exact⟨v,by rw[J];exact hv⟩
 refine(ok b u q).stay (λc v hc r=>k c v ?_ r) (λc r=>by rw[aE (O c b r)];exact r) λc xs r=>by rw[aE (Wn c xs r)];exact r
 rcases hc with rfl | hc
 . exact J
 rintro rfl
 rcases U with z | z
 . exact O c b hc z
 rw[hc]at z;cases z;exact j rfl
end
structure Un(fs ex:List Addr)(H H':Hp)(h h':Heap):Prop where
 keep:∀b o,h.get? b=some o->H b=none->b∉fs->b∉ex->h'.get? b=some o
 slot:∀b o,h.get? b=some o->H b=none->b∈fs->b∉ex->∃sl,h'.get? b=some { o with slots:=sl }
 free:∀b o,h.get? b=some o->H b=none->b∉ex->H' b=none
 there:∀b o,h.get? b=some o->b∉ex->∃o',h'.get? b=some o'
 tups:∀b xs,H b=some (.tup xs)->H' b=some (.tup xs)
 frzs:∀b o u,H b=some (.frz o u)->H' b=some (.frz o u)
 tbls:∀b ps,H b=some (.tbl ps)->∃more,H' b=some (.tbl (ps++more))
section
variable {fs aY ex ex':List Addr}{H H1 H2:Hp}{h h1 h2:Heap}{x e:Addr}{o:HO}
def Un.any(u:Un fs ex H H1 h h1){b:Addr}{ob:Obj}(q:h.get? b=some ob)(n:H b=none)(z:b∉ex):∃sl,h1.get? b=some { ob with slots:=sl }:=by
 by_cases j:b∈fs
 . exact u.slot b ob q n j z
 exact⟨ob.slots,u.keep b ob q n j z⟩
def Un.trans(a:Un fs ex H H1 h h1)(b:Un fs ex H1 H2 h1 h2):Un fs ex H H2 h h2 where
 keep:=λc ob q n z j=>b.keep c ob (a.keep c ob q n z j) (a.free c ob q n j) z j
 slot:=λc ob q n z j=>by
  obtain⟨sl,e1⟩:=a.slot c ob q n z j;obtain⟨O,e2⟩:=b.slot c _ e1 (a.free c ob q n j) z j;exact⟨O,e2⟩
 free:=λc ob q n j=>by
  obtain⟨o',e1⟩:=a.there c ob q j;exact b.free c o' e1 (a.free c ob q n j) j
 there:=λc ob q j=>by
  obtain⟨o',e1⟩:=a.there c ob q j;exact b.there c o' e1 j
 tups:=λc xs q=>b.tups c xs (a.tups c xs q)
 frzs:=λc ob xs q=>b.frzs c ob xs (a.frzs c ob xs q)
 tbls:=λc ps q=>by
  obtain⟨G,e1⟩:=a.tbls c ps q;obtain⟨J,e2⟩:=b.tbls c _ e1;exact⟨G++J,by rw[e2,Array.append_assoc]⟩
def Un.kept(k:∀b u,h.get? b=some u->h'.get? b=some u):Un fs ex H H h h':=
 ⟨λb ob q _ _ _=>k b ob q,λb ob q _ _ _=>⟨ob.slots,k b ob q⟩,λ_ _ _ n _=>n,λb ob q _=>⟨ob,k b ob q⟩,λ_ _ q=>q,λ_ _ _ q=>q,λ_ ps q=>⟨#[],by rw[q];simp⟩⟩
def Un.refl:Un fs ex H H h h:=Un.kept λ_ _ q=>q
def Un.laid(k:∀b u,h.get? b=some u->h'.get? b=some u)(z:h.objs.size<=a)(j:H a=none):Un fs ex H (ae H a o) h h' where
 keep:=λb u q _ _ _=>k b u q
 slot:=λb u q _ _ _=>⟨u.slots,k b u q⟩
 free:=λb u q n _=>by rw[aE (cg (gB (bi q) z))];exact n
 there:=λb u q _=>⟨u,k b u q⟩
 tups:=λb xs q=>by rw[aE (aF q j)];exact q
 frzs:=λb u xs q=>by rw[aE (aF q j)];exact q
 tbls:=λb ps q=>⟨#[],by rw[aE (aF q j),q];simp⟩
def Un.write(j:wf (H x))(Y:e=x\/H e=some (.own x))(k:∀b u,b≠e->h.get? b=some u->h'.get? b=some u)(uE:∃u,h'.get? e=some u):Un fs ex H (ae H x o) h h':=by
 have O:∀b,H b=none->b≠x:=λb n z=>by subst z;rw[n]at j;exact j
 have J:∀b,H b=none->b≠e:=λb n z=>by
  subst z
  rcases Y with r | r
  . exact O b n r
  rw[n]at r;cases r
 have G:∀b u,H b=some u->¬wf (some u)->b≠x:=λb u q nm z=>by subst z;rw[q]at j;exact nm j
 refine⟨λb u q n _ _=>k b u (J b n) q,λb u q n _ _=>⟨u.slots,k b u (J b n) q⟩,λb u q n _=>by rw[aE (O b n)];exact n,λb u q _=>?_,
  λb xs q=>by rw[aE (G b _ q λz=>z)];exact q,λb u xs q=>by rw[aE (G b _ q λz=>z)];exact q,λb ps q=>⟨#[],by rw[aE (G b _ q λz=>z),q];simp⟩⟩
 by_cases U:b=e
 . subst U;exact uE
 exact⟨u,k b u U q⟩
end
def zn(h:Heap)(H:Hp):List Addr:=(List.range h.objs.size).filter λa=>(H a).isSome
def mI(h:Heap)(H:Hp):Heap:=W.hideAll h (zn h H)
def Wo(h:Heap)(H:Hp):(mI h H).objs.size=h.objs.size:=W.hideAll_size _ _
def Wp{h:Heap}{H:Hp}{b:Addr}{o:Obj}(e:h.get? b=some o)(n:H b=none):(mI h H).get? b=some o:=
 W.hideAll_get _ e λj=>by
  have q:(H b).isSome=true:=(qe.mp j).2;rw[n]at q;simp at q
def Wq{h:Heap}{H:Hp}{b:Addr}{o:Obj}(e:(mI h H).get? b=some o):h.get? b=some o/\H b=none:=by
 have j:h.get? b=some o:=W.of_hideAll (zn h H) e;refine⟨j,?_⟩;cases q:H b with
 | none=>rfl
 | some x=>
  have G:b∈zn h H:=qe.mpr ⟨iK.mpr (bi j),by simp[q]⟩;have z:(mI h H).get? b=none:=W.hideAll_none (zn h H) G;rw[z]at e;cases e
structure Mod(K:Fg)(mg:Mv)(base:Heap):Prop where
 kin:K.In base
 glob:base.Ns mainGlobals mg
 blt:∃mb,base.Ns builtinsNs mb/\∀x:Str,x≠"__name__"->mb x=bootBuiltins x
 nolimit:base.NoLimit
structure Cx where
 prog:Program
 w:World
 K:Fg
 mg:Mv
 base:Heap
 A:Around
 N:Ls
 s₀:Shared
 H₀:Hp
 env:Env
 outer:List Env
 stack:List Env
 ex:List Addr
 fn:Str->Bool
 calm:Bool
 pn:Po
 xe:VP
variable {X:Cx}
def bR(l:List Env):List Addr:=l.filterMap (·.frame)
abbrev Cx.fs (X:Cx):List Addr:=bR X.outer
def zq(sc:Scope)(x:Str):Prop:=sc.names.lookup x=some .local\/sc.names.lookup x=some .cell\/sc.names.lookup x=some .free
def Loc(sc:Scope)(x:Str):Prop:=sc.names.lookup x=some .local\/sc.names.lookup x=some .cell
def AA:0<=sizeLine:=by decide
def Aq:1<=sizeLine:=by decide
def Ax:2<=sizeLine:=by decide
def Look(env:Env)(h:Heap)(m:Mv)(x:Str)(u:Value):Prop:=
 (env.kindOf x=some .local/\m x=some u)\/((env.kindOf x=some .cell\/env.kindOf x=some .free)/\∃c,env.cells.lookup x=some c/\h.IsCell c (some u))
structure Cx.Ok(X:Cx):Prop where
 mod:Mod X.K X.mg X.base
 kind:X.env.scope.kind=.function
 glob:X.env.globals=mainGlobals
 blt:X.env.builtins=builtinsNs
 above:X.s₀.heap.objs.size<=X.env.locals
 inj:∀x y c,X.env.cells.lookup x=some c->X.env.cells.lookup y=some c->x=y
 has:∀x,(X.env.kindOf x=some .cell\/X.env.kindOf x=some .free)->∃c,X.env.cells.lookup x=some c
 cab:∀x c,X.fn x=true->X.env.cells.lookup x=some c->X.s₀.heap.objs.size<=c
 hd:X.calm=true->X.A.handled=none
 frames:X.A.frames=some X.stack
 stk:X.stack=X.outer\/(X.stack=X.env::X.outer/\X.env.frame=some X.env.locals)
 exf:∀b∈X.ex,b≠X.env.locals/\∀x c,X.env.cells.lookup x=some c->c≠b
 bs:∀b o,X.base.get? b=some o->X.s₀.heap.get? b=some o/\X.H₀ b=none
 bsz:X.base.objs.size<=X.s₀.heap.objs.size
 noex:∀b o,X.base.get? b=some o->b∉X.ex
 exfs:∀b∈X.ex,b∉X.fs
 funs:X.s₀.heap.FunFrames X.base X.outer
 frf:∀b∈X.fs,X.H₀ b=none
structure Inv(X:Cx)(a_:Po)(Z:List (Option V))(H:Hp)(s:Shared):Prop where
 ok:X.Ok
 os:s.os=X.s₀.os
 bare:AllBare s.gens
 base:Un X.fs X.ex X.H₀ H X.s₀.heap s.heap
 loc:∃m,s.heap.Ns X.env.locals m/\∀(i:Nat) (x:Str) (v:V),X.N[i]?=some x->Z[i]?=some (some v)->zq X.env.scope x->∃u,RelV v u/\Look X.env s.heap m x u
 cell:∀x c,X.env.cells.lookup x=some c->∃v,s.heap.IsCell c v
 free:H X.env.locals=none
 freeC:∀x c,X.env.cells.lookup x=some c->H c=none
 pin:∀p∈X.pn++a_,s.heap.get? p.1=some p.2/\H p.1=none/\p.1≠X.env.locals/\p.1∉X.fs/\∀v,p.2.data≠.cell v
 hok:bQ X.prog X.w H s.heap
 len:Z.length=X.N.length
section
variable {Z:List (Option V)} {H H':Hp}
def Cx.Ok.nofr(ok:X.Ok){b:Addr}{o:Obj}(e:X.base.get? b=some o):b∉X.fs:=λj=>by
 have:=(ok.funs.mem j).1;rw[e]at this;cases this
def Inv.bs(I:Inv X a_ Z H s):∀b o,X.base.get? b=some o->s.heap.get? b=some o/\H b=none:=λb o e=>
 ⟨I.base.keep b o (I.ok.bs b o e).1 (I.ok.bs b o e).2 (I.ok.nofr e) (I.ok.noex b o e),I.base.free b o (I.ok.bs b o e).1 (I.ok.bs b o e).2 (I.ok.noex b o e)⟩
def Inv.bk(I:Inv X a_ Z H s):∀b o,X.base.get? b=some o->s.heap.get? b=some o:=λb o e=>(I.bs b o e).1
def Inv.mod(I:Inv X a_ Z H s):Mod X.K X.mg X.base:=I.ok.mod
def Inv.kIn(I:Inv X a_ Z H s):X.K.In s.heap:=I.ok.mod.kin.keeps I.bk
def Inv.nolimit(I:Inv X a_ Z H s):s.heap.NoLimit:=I.ok.mod.nolimit.keeps I.bk
def Inv.lt(I:Inv X a_ Z H s):X.env.locals<s.heap.objs.size:=I.loc.elim λ_ j=>j.elim λz _=>z.lt
def Inv.sz(I:Inv X a_ Z H s):X.s₀.heap.objs.size<=s.heap.objs.size:=cR I.ok.above (oB I.lt)
def Inv.nofs(I:Inv X a_ Z H s)(h:s.heap.objs.size<=a):a∉X.fs:=λj=>by
 obtain⟨_,o,z,_⟩:=I.ok.funs.mem j;exact absurd (gB (bi z) (cR I.sz h)) (oA _)
def Inv.cne(I:Inv X a_ Z H s):∀x c,X.env.cells.lookup x=some c->c≠X.env.locals:=λx c e z=>by
 obtain⟨v,o,j,hd⟩:=I.cell x c e;obtain⟨m,⟨o',es,ep,G,J,_⟩,_⟩:=I.loc;rw[z,G]at j;cases j;rw[J]at hd;cases hd
def Inv.funs(I:Inv X a_ Z H s):s.heap.FunFrames X.base X.outer:=by
 have all:∀(l:List Env),(∀b∈bR l,b∈X.fs)->X.s₀.heap.FunFrames X.base l->s.heap.FunFrames X.base l:=by
  intro l
  induction l with
  | nil=>intro _ _;trivial
  | cons env r ih=>
   intro hs U;obtain⟨O,⟨L,o,J,Y,ho,hd⟩,hr⟩:=U;have j:L∈X.fs:=hs L (by unfold bR;rw[yJ,J];exact bA);obtain⟨sl,e⟩:=I.base.slot L o ho (I.ok.frf L j) j λz=>I.ok.exfs L z j;exact⟨O,⟨L,_,J,Y,e,hd⟩,ih (λb G=>hs b (by unfold bR;rw[yJ,J];exact bL _ G)) hr⟩
 exact all X.outer (λ_ G=>G) I.ok.funs
def Inv.stack(I:Inv X a_ Z H s):s.heap.FunFrames X.base X.stack:=by
 rcases I.ok.stk with e | ⟨e,j⟩
 . rw[e];exact I.funs
 rw[e];obtain⟨m,z,_⟩:=I.loc;refine .cons (by rw[I.ok.kind];decide) j z ?_ I.funs;exact Heap.get?_none_of_le (cR I.ok.bsz I.ok.above)
def Inv.stkSub(I:Inv X a_ Z H s):∀b∈bR X.stack,b∈X.env.locals::X.fs:=λb j=>by
 rcases I.ok.stk with e | ⟨e,z⟩
 . rw[e]at j;exact bL _ j
 rw[e]at j;unfold bR at j;rw[yJ,z]at j;exact j
def Inv.stkFree(I:Inv X a_ Z H s):∀b∈bR X.stack,H b=none:=λb hb=>by
 rcases bc.mp (I.stkSub b hb) with e | hb
 . rw[e];exact I.free
 obtain⟨_,o,j,_⟩:=I.ok.funs.mem hb;exact I.base.free b o j (I.ok.frf b hb) λz=>I.ok.exfs b z hb
def Inv.step{g':Array GenState}{d':Drawn}(I:Inv X a_ Z H s)
 (O:∀b∈ch,(b∈X.ex\/X.s₀.heap.objs.size<=b)/\b≠X.env.locals/\(∀x c,X.env.cells.lookup x=some c->c≠b)/\∀p∈X.pn++a_,p.1≠b)
 (keep:∀b o,b≠X.env.locals->b∉X.fs->b∉ch->s.heap.get? b=some o->H b=none->h'.get? b=some o)
 (slot:∀b o,b≠X.env.locals->b∈X.fs->b∉ch->s.heap.get? b=some o->H b=none->∃sl,h'.get? b=some { o with slots:=sl }) (free:∀b o,b∉ch->s.heap.get? b=some o->H b=none->H' b=none)
 (there:∀b o,b∉ch->s.heap.get? b=some o->∃o',h'.get? b=some o')
 (tups:∀b xs,H b=some (.tup xs)->H' b=some (.tup xs)) (frzs:∀b o u,H b=some (.frz o u)->H' b=some (.frz o u)) (tbls:∀b ps,H b=some (.tbl ps)->∃a1,H' b=some (.tbl (ps++a1)))
 (ns:∀m,s.heap.Ns X.env.locals m->h'.Ns X.env.locals m) (hok:bQ X.prog X.w H' h') (hg:AllBare g') :
 Inv X a_ Z H' { s with heap:=h',gens:=g',drawn:=d',toks:=t' }:=by
 have Y:∀b o,X.s₀.heap.get? b=some o->b≠X.env.locals:=λb o e=>cg (gB (bi e) I.ok.above);have U:∀b o,X.s₀.heap.get? b=some o->b∉X.ex->b∉ch:=λb o e j G=>by
  rcases(O b G).1 with z | z
  . exact j z
  exact absurd (gB (bi e) z) (oA _)
 have a0:∀x c,X.env.cells.lookup x=some c->∀v,s.heap.IsCell c v->h'.IsCell c v:=λx c e v Ws=>Ws.elim λo Wt=>Wt.elim λJ hd=>by
  have nch:c∉ch:=λz=>(O c z).2.2.1 x c e rfl
  by_cases hc:c∈X.fs
  . obtain⟨sl,q⟩:=slot c o (I.cne x c e) hc nch J (I.freeC x c e);exact⟨_,q,hd⟩
  exact⟨o,keep c o (I.cne x c e) hc nch J (I.freeC x c e),hd⟩
 refine⟨I.ok,I.os,hg,⟨λb o e n G j=>?_,λb o e n G j=>?_,λb o e n j=>?_,λb o e j=>?_,λb xs e=>tups b xs (I.base.tups b xs e),λb o xs e=>frzs b o xs (I.base.frzs b o xs e),λb ps e=>?_⟩,?_,λx c e=>?_,?_,λx c e=>?_,λp hp=>?_,hok,I.len⟩
 . exact keep b o (Y b o e) G (U b o e j) (I.base.keep b o e n G j) (I.base.free b o e n j)
 . obtain⟨sl,e1⟩:=I.base.slot b o e n G j;obtain⟨qo,e2⟩:=slot b _ (Y b o e) G (U b o e j) e1 (I.base.free b o e n j);exact⟨qo,e2⟩
 . obtain⟨o',e1⟩:=I.base.there b o e j;exact free b o' (U b o e j) e1 (I.base.free b o e n j)
 . obtain⟨o',e1⟩:=I.base.there b o e j;exact there b o' (U b o e j) e1
 . obtain⟨m1,e1⟩:=I.base.tbls b ps e;obtain⟨m2,e2⟩:=tbls b _ e1;exact⟨m1++m2,by rw[e2,Array.append_assoc]⟩
 . obtain⟨m,hn,hl⟩:=I.loc;refine⟨m,ns m hn,λi x v e1 e2 e3=>?_⟩;obtain⟨u,r,l⟩:=hl i x v e1 e2 e3;refine⟨u,r,?_⟩
   rcases l with l | ⟨k,c,e,z⟩
   . exact .inl l
   exact .inr ⟨k,c,e,a0 x c e _ z⟩
 . obtain⟨v,z⟩:=I.cell x c e;exact⟨v,a0 x c e v z⟩
 . obtain⟨m,⟨o,_,_,J,_⟩,_⟩:=I.loc;exact free _ o (λz=>(O _ z).2.1 rfl) J I.free
 . obtain⟨v,o,J,hd⟩:=I.cell x c e;exact free c o (λz=>(O c z).2.2.1 x c e rfl) J (I.freeC x c e)
 obtain⟨e,n,ne,nf,d⟩:=I.pin p hp;have nch:p.1∉ch:=λz=>(O p.1 z).2.2.2 p hp rfl;exact⟨keep p.1 p.2 ne nf nch e n,free p.1 p.2 nch e n,ne,nf,d⟩
def Inv.un(I:Inv X a_ Z H s)(u:Un X.fs [] H H' s.heap h')(hok:bQ X.prog X.w H' h'):Inv X a_ Z H' { s with heap:=h',toks:=t' }:=by
 obtain⟨m,⟨o,es,ep,J,r⟩,_⟩:=id I.loc;obtain⟨sl,O⟩:=u.any J I.free (by simp);exact I.step (g':=s.gens) (d':=s.drawn) (ch:=[]) (λ_ z=>nomatch z) (λb o _ j _ e n=>u.keep b o e n j (by simp)) (λb o _ j _ e n=>u.slot b o e n j (by simp)) (λb o _ e n=>u.free b o e n (by simp)) (λb o _ e=>u.there b o e (by simp)) u.tups u.frzs u.tbls (λm' U=>by
  obtain⟨o',es',wg,G,Y⟩:=U;rw[J]at G;cases G;exact⟨_,es',wg,O,Y⟩) hok I.bare
def Inv.call{g':Array GenState}{d':Drawn}(I:Inv X a_ Z H s)(u:Un (bR X.stack) ch H H' s.heap h')(hok:bQ X.prog X.w H' h')(hg:AllBare g')
 (O:∀b∈ch,(b∈X.ex\/X.s₀.heap.objs.size<=b)/\b≠X.env.locals/\(∀x c,X.env.cells.lookup x=some c->c≠b)/\∀p∈X.pn++a_,p.1≠b) :
 Inv X a_ Z H' { s with heap:=h',gens:=g',drawn:=d',toks:=t' }:=by
 obtain⟨m,⟨o,es,ep,U,r⟩,_⟩:=id I.loc;obtain⟨sl,G⟩:=u.any U I.free λz=>(O _ z).2.1 rfl;exact I.step (ch:=ch) O (λb o G Y j e n=>u.keep b o e n (λz=>(bc.mp (I.stkSub b z)).elim G Y) j) (λb o _ _ j e n=>u.any e n j) (λb o j e n=>u.free b o e n j) (λb o j e=>u.there b o e j) u.tups u.frzs u.tbls (λm' hm=>by
  obtain⟨o',es',wg,J,r'⟩:=hm;rw[U]at J;cases J;exact⟨_,es',wg,G,r'⟩) hok hg
def Inv.turned{it:Addr}(I:Inv X a_ Z H s)(k:∀b o,b≠it->s.heap.get? b=some o->h'.get? b=some o)(hn:H it=none)(G:it≠X.env.locals)
 (h1:it∈X.ex\/X.s₀.heap.objs.size<=it) (h2:∀x c,X.env.cells.lookup x=some c->c≠it) (O:∀p∈X.pn++a_,p.1≠it):Inv X a_ Z H { s with heap:=h',toks:=t' }:=by
 have J:∀b u,H b=some u->b≠it:=λb u e z=>by rw[z,hn]at e;cases e
 refine I.step (g':=s.gens) (d':=s.drawn) (ch:=[it]) (λb U=>?_) (λb o _ _ j e _=>k b o (λz=>j (by simp[z])) e) (λb o _ _ j e _=>⟨o.slots,k b o (λz=>j (by simp[z])) e⟩) (λ_ _ _ _ n=>n)
  (λb o j e=>⟨o,k b o (λz=>j (by simp[z])) e⟩) (λ_ _ e=>e) (λ_ _ _ e=>e) (λb ps e=>⟨#[],by rw[e];simp⟩) (λm Y=>?_) (λb u e=>?_) I.bare
 . have e:b=it:=by simpa using U
   subst e;exact⟨h1,G,h2,O⟩
 . obtain⟨o,es,ep,ho,r⟩:=Y;exact⟨o,es,ep,k _ o (gj G) ho,r⟩
 refine(I.hok b u e).stay (λc v j q=>k c v ?_ q) (λ_ q=>q) λ_ _ q=>q
 rcases j with z | z
 . rw[z];exact J b u e
 exact J c _ z
def Inv.tok(I:Inv X a_ Z H s)(t:Nat):Inv X a_ Z H { s with toks:=t }:=I.un (h':=s.heap) (t':=t) Un.refl I.hok
def Inv.kept(I:Inv X a_ Z H s)(k:∀b u,s.heap.get? b=some u->h'.get? b=some u):Inv X a_ Z H { s with heap:=h',toks:=t' }:=I.un (Un.kept k) (I.hok.kept k)
def Inv.laid{o:HO}(I:Inv X a_ Z H s)(k:∀b u,s.heap.get? b=some u->h'.get? b=some u)(j:s.heap.objs.size<=a)(z:bE X.prog X.w (ae H a o) h' a o) :
 Inv X a_ Z (ae H a o) { s with heap:=h',toks:=t' }:=I.un (Un.laid k j (I.hok.fresh j)) (I.hok.laid k j z)
def Inv.write{x e:Addr}{o:HO}(I:Inv X a_ Z H s)(z:wf (H x))(j:e=x\/H e=some (.own x))(k:∀b u,b≠e->s.heap.get? b=some u->h'.get? b=some u)(G:∃u,h'.get? e=some u)
 (J:bE X.prog X.w (ae H x o) h' x o):Inv X a_ Z (ae H x o) { s with heap:=h',toks:=t' }:=I.un (Un.write z j k G) (I.hok.write z j k G J)
def Inv.pins_of{j:Po}(I:Inv X a_ Z H s)(h:∀p∈j,s.heap.get? p.1=some p.2/\H p.1=none/\p.1≠X.env.locals/\p.1∉X.fs/\∀v,p.2.data≠.cell v):Inv X j Z H s:=
 ⟨I.ok,I.os,I.bare,I.base,I.loc,I.cell,I.free,I.freeC,λp G=>(dA.mp G).elim (λz=>I.pin p (yK _ z)) (h p),I.hok,I.len⟩
def CS(z:N.Nodup){i j:Nat}{x:Str}(a:N[i]?=some x)(b:N[j]?=some x):i=j:=by
 obtain⟨h1,e1⟩:=dB.mp a;obtain⟨h2,e2⟩:=dB.mp b;exact(List.getElem_inj z).mp (e1.trans e2.symm)
def Js{i:Nat}{x:Str}{v:V}{Q:Unit->Shared->Prop}(I:Inv X a_ Z H s)(hN:X.N.Nodup)(hi:X.N[i]?=some x)(G:Loc X.env.scope x)(r:RelV v u)
 (h:∀s',Inv X a_ (Z.set i (some v)) H s'->(∃a,Heap.SameBut a s.heap s'.heap/\(a=X.env.locals\/X.env.cells.lookup x=some a))->Q () s') (hf:X.fn x=true\/X.env.scope.names.lookup x=some .local:=by first | exact .inl rfl | exact .inr rfl | assumption):wpAny M A (storeName X.env x u) Q E s:=by
 obtain⟨m,Y,hl⟩:=id I.loc;have CT:(X.env.scope.kind == .class || (X.env.scope.kind == .module && X.env.locals != X.env.globals))=false:=by rw[I.ok.kind];rfl
 have zu:i<Z.length:=by rw[I.len];exact(dB.mp hi).1
 have cne:=I.cne;have a0:∀{a:Addr}{h':Heap},(∃o,s.heap.get? a=some o/\H a=none)->Heap.SameBut a s.heap h'->bQ X.prog X.w H h':=λ{a h'} ha hs b ob e=>by
  obtain⟨_,_,Jt⟩:=ha;refine(I.hok b ob e).stay (λc U hc q=>(hs.2 c ?_).trans q) (λ_ q=>q) λ_ _ q=>q;rintro rfl
  rcases hc with rfl | hc
  . rw[Jt]at e;cases e
  rw[Jt]at hc;cases hc
 rcases G with hk | hk
 . refine wpAny_storeName_local hk Y (λh' iu hs=>?_) CT;obtain⟨oL,_,_,jq,_⟩:=id Y;refine h _ ⟨I.ok,I.os,I.bare,⟨λb o e n J G=>?_,λb o e n J G=>?_,I.base.free,λb o e G=>?_,I.base.tups,I.base.frzs,I.base.tbls⟩,⟨_,iu,λj y v' e1 e2 e3=>?_⟩,λy c e=>?_,I.free,I.freeC,λp hp=>?_,a0 ⟨oL,jq,I.free⟩ hs,by simpa using I.len⟩ ⟨_,hs,.inl rfl⟩
   . exact(hs.2 b (cg (gB (bi e) I.ok.above))).trans (I.base.keep b o e n J G)
   . obtain⟨sl,e1⟩:=I.base.slot b o e n J G;exact⟨sl,(hs.2 b (cg (gB (bi e) I.ok.above))).trans e1⟩
   . obtain⟨o',e1⟩:=I.base.there b o e G;exact⟨o',(hs.2 b (cg (gB (bi e) I.ok.above))).trans e1⟩
   . by_cases O:j=i
     . subst O;rw[hi]at e1;cases e1;rw[UP zu]at e2;cases e2;exact⟨u,r,.inl ⟨hk,by simp⟩⟩
     rw[UQ (gj O)]at e2;obtain⟨u',r',q⟩:=hl j y v' e1 e2 e3;refine⟨u',r',?_⟩
     rcases q with⟨k,e⟩ | ⟨k,c,e,z⟩
     . refine .inl ⟨k,?_⟩;have:y≠x:=λe=>O (CS hN e1 (e▸hi));simp[this,e]
     exact .inr ⟨k,c,e,z.sameBut hs (cne y c e)⟩
   . obtain⟨U,z⟩:=I.cell y c e;exact⟨U,z.sameBut hs (cne y c e)⟩
   obtain⟨e,n,ne,nf,d⟩:=I.pin p hp;exact⟨(hs.2 p.1 ne).trans e,n,ne,nf,d⟩
 have uF:X.fn x=true:=by
  rcases hf with z | z
  . exact z
  rw[z]at hk;cases hk
 obtain⟨c,hc⟩:=I.ok.has x (.inl hk);obtain⟨U,z⟩:=I.cell x c hc;refine wpAny_storeName_cell I.ok.kind hk hc z (λh' gF hs=>?_);obtain⟨oc,oO,Wu⟩:=id z;refine h { s with heap:=h' } ⟨I.ok,I.os,I.bare,⟨λb o e n J G=>?_,λb o e n J G=>?_,I.base.free,λb o e G=>?_,I.base.tups,I.base.frzs,I.base.tbls⟩,⟨m,Y.sameBut hs (gj (cne x c hc)),λj y v' e1 e2 e3=>?_⟩,λy c' e=>?_,I.free,I.freeC,λp hp=>?_,a0 ⟨oc,oO,I.freeC x c hc⟩ hs,by simpa using I.len⟩ ⟨c,hs,.inr hc⟩
 . exact(hs.2 b (cg (gB (bi e) (I.ok.cab x c uF hc)))).trans (I.base.keep b o e n J G)
 . obtain⟨sl,e1⟩:=I.base.slot b o e n J G;exact⟨sl,(hs.2 b (cg (gB (bi e) (I.ok.cab x c uF hc)))).trans e1⟩
 . obtain⟨o',e1⟩:=I.base.there b o e G;exact⟨o',(hs.2 b (cg (gB (bi e) (I.ok.cab x c uF hc)))).trans e1⟩
 . by_cases O:j=i
   . subst O;rw[hi]at e1;cases e1;rw[UP zu]at e2;cases e2;exact⟨u,r,.inr ⟨.inl hk,c,hc,gF⟩⟩
   rw[UQ (gj O)]at e2;obtain⟨u',r',q⟩:=hl j y v' e1 e2 e3;refine⟨u',r',?_⟩
   rcases q with q | ⟨k,c',e,z'⟩
   . exact .inl q
   refine .inr ⟨k,c',e,z'.sameBut hs ?_⟩;rintro rfl;exact O (CS hN e1 (I.ok.inj _ _ _ e hc▸hi))
 . by_cases uG:c'=c
   . subst uG;exact⟨_,gF⟩
   obtain⟨w2,z2⟩:=I.cell y c' e;exact⟨w2,z2.sameBut hs uG⟩
 obtain⟨e,n,ne,nf,d⟩:=I.pin p hp;refine⟨(hs.2 p.1 ?_).trans e,n,ne,nf,d⟩;intro q;rw[q,oO]at e;have q':oc=p.2:=fO e;exact d U (by rw[<-q'];exact Wu)
def CU{i:Nat}{x:Str}{v:V}{Q:Unit->Shared->Prop}(I:Inv X a_ Z H s)(z:X.N.Nodup)(hi:X.N[i]?=some x)(J:Loc X.env.scope x)(r:RelV v u)
 (h:∀s',Inv X a_ (Z.set i (some v)) H s'->Q () s') (G:X.fn x=true\/X.env.scope.names.lookup x=some .local:=by first | exact .inl rfl | exact .inr rfl | assumption):wpAny M A (storeName X.env x u) Q E s:=
 Js I z hi J r (λs' j _=>h s' j) G
def Inv.call'(I:Inv X a_ Z H s)(G:s'.os=s.os)(u:Un (bR X.stack) ch H H' s.heap s'.heap)(hok:bQ X.prog X.w H' s'.heap)(z:AllBare s'.gens)
 (j:∀b∈ch,(b∈X.ex\/X.s₀.heap.objs.size<=b)/\b≠X.env.locals/\(∀x c,X.env.cells.lookup x=some c->c≠b)/\∀p∈X.pn++a_,p.1≠b):Inv X a_ Z H' s':=by
 obtain⟨h',g',d',t',o'⟩:=s';have e:o'=s.os:=G;subst e;exact I.call (g':=g') (t':=t') (d':=d') u hok z j
end
abbrev XK:=Value->Oa->Hp->Prop
abbrev St:=List (Option V)
variable {Z:St}
abbrev VK:=V->Hp->Prop
abbrev TE:=St->Hp->VK->Prop
variable {te:TE}
abbrev TT:=St->Hp->(Bool->Hp->Prop)->Prop
abbrev TA:=St->Hp->(Lv->Hp->Prop)->Prop
structure Ends where
 nx:St->Hp->Prop
 rt:VK
 bk:St->Hp->Prop:=λ_ _=>False
 ct:St->Hp->Prop:=λ_ _=>False
variable {D:Ends}
abbrev TS:=Ends->St->Hp->Prop
variable {tb:TS}
def EP(X:Cx)(a_:Po)(Z:St)(Q:VK)(u:Value)(s':Shared):Prop:=∃v H',Inv X a_ Z H' s'/\RelV v u/\Q v H'
def TP(X:Cx)(a_:Po)(Z:St)(Q:Bool->Hp->Prop)(b:Bool)(s':Shared):Prop:=∃H',Inv X a_ Z H' s'/\Q b H'
def AP(X:Cx)(a_:Po)(Z:St)(Q:Lv->Hp->Prop)(us:Lw)(s':Shared):Prop:=∃vs H',Inv X a_ Z H' s'/\aX vs us/\Q vs H'
def SP(X:Cx)(a_:Po)(D:Ends)(f:Flow)(s':Shared):Prop:=
 match f with
 | .next=>∃σ' H',Inv X a_ σ' H' s'/\D.nx σ' H'
 | .brk=>∃σ' H',Inv X a_ σ' H' s'/\D.bk σ' H'
 | .cont=>∃σ' H',Inv X a_ σ' H' s'/\D.ct σ' H'
 | .ret u=>∃v σ' H',Inv X a_ σ' H' s'/\RelV v u/\D.rt v H'
def PE(X:Cx)(e:Expr)(t:TE):Prop:=
 ∀(a_:Po) (s:Shared) (Z:St) (H:Hp) (Q:VK),Inv X a_ Z H s->t Z H Q->wpAny (model X.prog X.w) X.A (eval e X.env) (EP X a_ Z Q) X.xe s
def PT(X:Cx)(e:Expr)(t:TT):Prop:=
 ∀(a_:Po) (s:Shared) (Z:St) (H:Hp) (Q:Bool->Hp->Prop),Inv X a_ Z H s->t Z H Q->wpAny (model X.prog X.w) X.A (isTrue e X.env (eval e X.env)) (TP X a_ Z Q) X.xe s
def PW(X:Cx)(e:Expr)(t:TT):Prop:=
 ∀(j:Sem Value) (a_:Po) (s:Shared) (Z:St) (H:Hp) (Q:Bool->Hp->Prop),Inv X a_ Z H s->t Z H Q->wpAny (model X.prog X.w) X.A (isTrue e X.env j) (TP X a_ Z Q) X.xe s
def PW.pt{t:TT}(h:PW X e t):PT X e t:=h _
def PA(X:Cx)(es:List Expr)(t:TA):Prop:=
 ∀(pos:Pos) (a_:Po) (s:Shared) (Z:St) (H:Hp) (Q:Lv->Hp->Prop),Inv X a_ Z H s->t Z H Q->wpAny (model X.prog X.w) X.A (spliced (backTo pos (starEach es X.env))) (AP X a_ Z Q) X.xe s
def PS(X:Cx)(st:Stmt)(t:TS):Prop:=
 ∀(a_:Po) (s:Shared) (Z:St) (H:Hp) (D:Ends),Inv X a_ Z H s->t D Z H->wpAny (model X.prog X.w) X.A (exec st X.env) (SP X a_ D) X.xe s
def bu(X:Cx)(st:List Stmt)(t:TS):Prop:=
 ∀(a_:Po) (s:Shared) (Z:St) (H:Hp) (D:Ends),Inv X a_ Z H s->t D Z H->wpAny (model X.prog X.w) X.A (execs st X.env) (SP X a_ D) X.xe s
def thn{t:Sem α}{Q j:α->Shared->Prop}(h:wpAny M A t Q E s)(z:∀a s,Q a s->j a s):wpAny M A t j E s:=dH h z λ_ _ x=>x
section
inductive wk (H:Hp) (Q:VK):Option (Option V)->Prop where
 | mk {v:V} (_:Q v H):wk H Q (some (some v))
def wk.ex{H:Hp}{Q:VK}{o:Option (Option V)}(z:wk H Q o):∃(v:V),o=some (some v)/\Q v H:=by
 cases z with
 | @mk v j=>exact⟨v,rfl,j⟩
def uH(i:Nat):TE:=λZ H Q=>wk H Q (Z[i]?)
def tC(v:V):TE:=λ_ H Q=>Q v H
def Wv{i:Nat}{x:Str}{pos:Pos}(J:X.N[i]?=some x)(hv:zq X.env.scope x)(hd:(x == ("__debug__":Str))=false:=by decide)(iw:(x == ("__classdict__":Str))=false:=by decide):PE X (.Name x pos) (uH i):=by
 intro a_ s Z H Q I h;obtain⟨v,e,h⟩:=wk.ex h;obtain⟨m,Y,O⟩:=I.loc;obtain⟨u,r,l⟩:=O i x v J e hv;have j:EP X a_ Z Q u s:=⟨v,H,I,r,h⟩
 rcases l with⟨hk,U⟩ | ⟨hk,c,z,G⟩
 . exact wpAny_Name (wpAny_loadName_local I.ok.kind hk Y U j) hd
 rcases hk with hk | hk
 . exact wpAny_Name (wpAny_loadName_cell I.ok.kind hk z G j) hd
 exact wpAny_Name (wpAny_loadName_free I.ok.kind hk z G j iw) hd
def aZ{i j pos}:PE X (.Constant (.int i) j pos) (tC (.int i)):=λ_ _ _ H _ I h=>wpAny_Constant_int ⟨.int i,H,I.tok _,⟨_,rfl⟩,h⟩
def mJ{b j pos}:PE X (.Constant (.bool b) j pos) (tC (.bl b)):=λ_ _ _ H _ I h=>Constant_bool ⟨.bl b,H,I,rfl,h⟩
def gm{j pos}:PE X (.Constant .none j pos) (tC .non):=λ_ _ _ H _ I h=>Constant_none ⟨.non,H,I,rfl,h⟩
def bK{x j pos}:PE X (.Constant (.str x) j pos) (tC (.str x)):=λ_ _ _ H _ I h=>Calls.Constant_str ⟨.str x,H,I.tok _,⟨_,rfl⟩,h⟩
def Gl(X:Cx)(x:Str):Prop:=X.env.kindOf x=some .globalImplicit
def rP{H:Hp}{x:Str}{pos:Pos}{Q:VP}(I:Inv X a_ Z H s)(j:Gl X x)(z:X.mg x=some u)(h:Q u s)
 (hd:(x == ("__debug__":Str))=false:=by decide):wpAny (model X.prog X.w) X.A (eval (.Name x pos) X.env) Q E s:=
 ar7 I.ok.kind j (Calls.loadGlobal_global (by rw[I.ok.glob];exact I.mod.glob.keeps I.bk) z h) hd
def rQ{H:Hp}{x:Str}{pos:Pos}{Q:VP}(I:Inv X a_ Z H s)(j:Gl X x)(z:X.mg x=none)(J:bootBuiltins x=some u)(h:Q u s)
 (G:x≠"__name__":=by decide) (hd:(x == ("__debug__":Str))=false:=by decide):wpAny (model X.prog X.w) X.A (eval (.Name x pos) X.env) Q E s:=by
 obtain⟨O,h1,h2⟩:=I.mod.blt;exact ar7 I.ok.kind j (Calls.loadGlobal_builtin (by rw[I.ok.glob];exact I.mod.glob.keeps I.bk) z (by rw[I.ok.blt];exact h1.keeps I.bk) ((h2 x G).trans J) h) hd
def iM{x:Str}{v:V}{pos:Pos}(j:Gl X x)(z:X.mg x=some u)(r:RelV v u)(hd:(x == ("__debug__":Str))=false:=by decide):PE X (.Name x pos) (tC v):=
 λ_ _ _ H _ I h=>rP I j z ⟨v,H,I,r,h⟩ hd
def CV{x:Str}{v:V}{pos:Pos}(j:Gl X x)(z:X.mg x=none)(J:bootBuiltins x=some u)(r:RelV v u)(G:x≠"__name__":=by decide)(hd:(x == ("__debug__":Str))=false:=by decide):PE X (.Name x pos) (tC v):=
 λ_ _ _ H _ I h=>rQ I j z J ⟨v,H,I,r,h⟩ G hd
variable {a b:Expr}{ta tb:TE}{pos:Pos}
def PC(X:Cx)(op:CmpOp)(a b:Expr)(t:TE):Prop:=
 ∀(a_:Po) (s:Shared) (Z:St) (H:Hp) (Q:VK),Inv X a_ Z H s->t Z H Q ->
  wpAny (model X.prog X.w) X.A (eval a X.env) (λv j=>wpAny (model X.prog X.w) X.A (eval b X.env) (λu z=>wpAny (model X.prog X.w) X.A (compareOp op v u) (EP X a_ Z Q) X.xe z) X.xe j) X.xe s
inductive Ju (Q:Bool->Hp->Prop) (H1:Hp):V->Prop where
 | mk {c:Bool} (_:Q c H1):Ju Q H1 (.bl c)
def tB(t:TE):TT:=λZ H Q=>t Z H λx H1=>Ju Q H1 x
def rR{op:CmpOp}{t:TE}(h:PC X op a b t)(h1:behindInMarks op b=false:=by first | exact nobehind _ (by decide) (by decide) | rfl):PT X (.Compare a [op] [b] pos) (tB t):=by
 intro a_ s Z H Q I G;refine ar8 (thn (h a_ s Z H _ I G) λv U h1=>thn h1 λu Y h2=>thn h2 λc s3 z=>aN z λx H1 j O J=>?_) h1;obtain @⟨d,q⟩:=J;cases O;exact ou ⟨H1,j,q⟩
def gQ{t:TE}(h:PE X e t)(J:∀j,isTrue e X.env j=(do let v <-j;standAt e.pos;holding [v] (truthy v)):=by intro _;rfl):PT X e (tB t):=by
 intro a_ s Z H Q I O;refine isTrue_plain (thn (h a_ s Z H _ I O) λv s1 G=>aN G λx H1 z Y U=>?_) (J _);obtain @⟨d,q⟩:=U;cases Y;exact ou ⟨H1,z,q⟩
variable {tA zv:TT}{rest:List Expr}
def Wy(t u:TT):TT:=λZ H Q=>t Z H λc H1=>if c=true then u Z H1 Q else Q false H1
def Wz(t u:TT):TT:=λZ H Q=>t Z H λc H1=>if c=true then Q true H1 else u Z H1 Q
def WA(t:TT):TT:=λZ H Q=>t Z H λc H1=>Q (!c) H1
def Jv(j:PT X a tA):PW X (.BoolOp .And [a] pos) tA:=by
 intro G a_ s Z H Q I h;refine isTrue_and (thn (j a_ s Z H Q I h) λc z e=>?_);cases c with
 | true=>exact isTrue_and_nil e
 | false=>exact e
def wm(j:PT X a tA):PW X (.BoolOp .Or [a] pos) tA:=by
 intro G a_ s Z H Q I h;refine isTrue_or (thn (j a_ s Z H Q I h) λc z e=>?_);cases c with
 | false=>exact isTrue_or_nil e
 | true=>exact e
def Jw(O:PT X a tA)(U:PW X (.BoolOp .And (b::rest) pos) zv):PW X (.BoolOp .And (a::b::rest) pos) (Wy tA zv):=by
 intro wh a_ s Z H Q I h;refine isTrue_and (thn (O a_ s Z H _ I h) λc Y G=>G.elim λH1 J=>J.elim λj z=>?_);cases c with
 | true=>exact U wh a_ Y Z H1 Q j z
 | false=>exact⟨H1,j,z⟩
def wn(O:PT X a tA)(U:PW X (.BoolOp .Or (b::rest) pos) zv):PW X (.BoolOp .Or (a::b::rest) pos) (Wz tA zv):=by
 intro wh a_ s Z H Q I h;refine isTrue_or (thn (O a_ s Z H _ I h) λc Y G=>G.elim λH1 J=>J.elim λj z=>?_);cases c with
 | true=>exact⟨H1,j,z⟩
 | false=>exact U wh a_ Y Z H1 Q j z
def oP(j:PT X a tA):PT X (.UnaryOp .Not a pos) (WA tA):=by
 intro a_ s Z H Q I h;exact isTrue_not (j a_ s Z H (λc H1=>Q (!c) H1) I h)
inductive Jx (tb:TE) (Z:St) (Q:VK) (H1:Hp):V->Prop where
 | mk {c:Bool} (_:if c=true then tb Z H1 Q else Q (.bl false) H1):Jx tb Z Q H1 (.bl c)
def WF(ta tb:TE):TE:=λZ H Q=>ta Z H λx H1=>Jx tb Z Q H1 x
inductive Jy (tb:TE) (Z:St) (Q:VK) (H1:Hp):V->Prop where
 | mk {c:Bool} (_:if c=true then Q (.bl true) H1 else tb Z H1 Q):Jy tb Z Q H1 (.bl c)
def WG(ta tb:TE):TE:=λZ H Q=>ta Z H λx H1=>Jy tb Z Q H1 x
inductive Jz (Q:VK) (H1:Hp):V->Prop where
 | mk {c:Bool} (_:Q (.bl (!c)) H1):Jz Q H1 (.bl c)
def WH(ta:TE):TE:=λZ H Q=>ta Z H λx H1=>Jz Q H1 x
def mK{op}{t:TE}(h:PE X a t):PE X (.BoolOp op [a] pos) t:=λa_ s Z H Q I j=>BoolOp_one (h a_ s Z H Q I j)
def qp(J:PE X a ta)(O:PE X (.BoolOp .And (b::rest) pos) tb):PE X (.BoolOp .And (a::b::rest) pos) (WF ta tb):=by
 intro a_ s Z H Q I h;refine BoolOp_and (thn (J a_ s Z H _ I h) λv Y G=>aN G λx H1 z U j=>?_);obtain @⟨c,j⟩:=j;cases U;refine ou ?_;cases c with
 | true=>exact O a_ Y Z H1 Q z j
 | false=>exact⟨.bl false,H1,z,rfl,j⟩
def JA(J:PE X a ta)(O:PE X (.BoolOp .Or (b::rest) pos) tb):PE X (.BoolOp .Or (a::b::rest) pos) (WG ta tb):=by
 intro a_ s Z H Q I h;refine BoolOp_or (thn (J a_ s Z H _ I h) λv Y G=>aN G λx H1 z U j=>?_);obtain @⟨c,j⟩:=j;cases U;refine ou ?_;cases c with
 | false=>exact O a_ Y Z H1 Q z j
 | true=>exact⟨.bl true,H1,z,rfl,j⟩
def WK(J:PE X a ta):PE X (.UnaryOp .Not a pos) (WH ta):=by
 intro a_ s Z H Q I h;refine UnaryOp_ (thn (J a_ s Z H _ I h) λv U G=>aN G λx H1 z O j=>?_);obtain @⟨c,j⟩:=j;cases O;exact not_of (ou ⟨.bl (!c),H1,z,rfl,j⟩)
def WM(t:TT)(ta tb:TE):TE:=λZ H Q=>t Z H λc H1=>if c=true then ta Z H1 Q else tb Z H1 Q
def CW(hc:PT X c tA)(U:PE X a ta)(Y:PE X b tb):PE X (.IfExp c a b pos) (WM tA ta tb):=by
 intro a_ s Z H Q I h;refine wpAny_IfExp (thn (hc a_ s Z H _ I h) λd G J=>J.elim λH1 O=>O.elim λj z=>?_);cases d with
 | true=>exact U a_ G Z H1 Q j z
 | false=>exact Y a_ G Z H1 Q j z
end
def ag(K:Fg)(H:Hp)(a:Addr)(xs:Lv):Prop:=
 Rd H a (.lst xs) \/
  ∃(o:Obj) (c_:Av) (n:Nat),K.lookup a=some o/\o.cls=.type "list"/\o.dict=none/\o.data=.seq c_ n/\c_.size<=sizeLine/\aX xs c_.toList
def aP(K:Fg)(H:Hp)(a:Addr)(xs:Lv):Prop:=
 Rd H a (.tup xs) \/
  ∃(o:Obj) (c_:Av) (n:Nat),K.lookup a=some o/\o.cls=.type "tuple"/\o.data=.seq c_ n/\c_.size<=sizeLine/\aX xs c_.toList
def WP:Value->Option V
 | .none=>some .non
 | .bool b=>some (.bl b)
 | .int i _=>some (.int i)
 | .str x _=>some (.str x)
 | .bytes b _=>some (.byt b)
 | .float b _=>some (.flt b)
 | .ref a=>some (.ref a)
 | .type n=>some (.ty n)
 | _=>none
def RelV.abs{x:V}(r:RelV x u):WP u=some x:=by
 cases x with
 | non=>cases r;rfl
 | bl _=>cases r;rfl
 | int _=>obtain⟨t,rfl⟩:=r;rfl
 | str _=>obtain⟨t,rfl⟩:=r;rfl
 | byt _=>obtain⟨t,rfl⟩:=r;rfl
 | flt _=>obtain⟨t,rfl⟩:=r;rfl
 | ref _=>cases r;rfl
 | ty _=>cases r;rfl
def RelV.inj{x y:V}(r:RelV x u)(q:RelV y u):x=y:=fO (r.abs.symm.trans q.abs)
def aX.inj:∀{xs ys:Lv}{us:Lw},aX xs us->aX ys us->xs=ys
 | _,_,_,.nil,.nil=>rfl
 | _,_,_,.cons r t,.cons r' t'=>by rw[r.inj r',aX.inj t t']
section
variable {H:Hp}{xs ys:Lv}
def ag.of(h:H a=some (.lst xs)):ag K H a xs:=.inl (.inl h)
def aP.of(h:H a=some (.tup xs)):aP K H a xs:=.inl (.inl h)
def Inv.list(I:Inv X a_ Z H s)(h:ag X.K H a xs):∃c_:Lw,aX xs c_/\PlainL s.heap a c_.toArray/\xs.length<=sizeLine:=by
 rcases h with h | ⟨o,c_,n,G,j,hd,hs,hz,r⟩
 . obtain⟨z,c_,n,r,e⟩:=h.ok I.hok;exact⟨c_,r,⟨_,n,e,rfl,rfl,rfl⟩,z⟩
 refine⟨c_.toList,r,⟨o,n,I.kIn a o G,j,hd,by simpa using hs⟩,?_⟩;have e:=r.length;simp only[dJ]at e;omega
def Inv.tuple(I:Inv X a_ Z H s)(h:aP X.K H a xs):∃c_:Lw,aX xs c_/\IsTup s.heap a c_.toArray/\xs.length<=sizeLine:=by
 rcases h with h | ⟨o,c_,n,G,j,hs,hz,r⟩
 . obtain⟨z,c_,r,p⟩:=h.ok I.hok;exact⟨c_,r,p,z⟩
 refine⟨c_.toList,r,⟨o,I.kIn a o G,j,n,by simpa using hs⟩,?_⟩;have e:=r.length;simp only[dJ]at e;omega
def Inv.list_inj(I:Inv X a_ Z H s)(h:ag X.K H a xs)(h':ag X.K H a ys):xs=ys:=by
 obtain⟨c_,r,⟨o,n,e,_,_,d⟩,_⟩:=I.list h;obtain⟨its',z,⟨o',G,j,_,_,d'⟩,_⟩:=I.list h';rw[e]at j;cases j;rw[d]at d';injection d' with d1 _
 have:c_=its':=by simpa using cS Array.toList d1
 subst this;exact r.inj z
def Inv.tuple_inj(I:Inv X a_ Z H s)(h:aP X.K H a xs)(h':aP X.K H a ys):xs=ys:=by
 obtain⟨c_,r,⟨o,e,_,n,d⟩,_⟩:=I.tuple h;obtain⟨its',z,⟨o',j,_,G,d'⟩,_⟩:=I.tuple h';rw[e]at j;cases j;rw[d]at d';injection d' with d1 _
 have:c_=its':=by simpa using cS Array.toList d1
 subst this;exact r.inj z
end
abbrev Cx.wish (X:Cx) (E:VP):Cx:={ X with xe:=E }
abbrev Cx.nox (X:Cx):Cx:=X.wish λ_ _=>False
def Cx.Ok.wish(ok:X.Ok)(E:VP):(X.wish E).Ok:=
 ⟨ok.mod,ok.kind,ok.glob,ok.blt,ok.above,ok.inj,ok.has,ok.cab,ok.hd,ok.frames,ok.stk,ok.exf,ok.bs,ok.bsz,ok.noex,ok.exfs,ok.funs,ok.frf⟩
def Cx.Ok.unwish(ok:(X.wish E).Ok):X.Ok:=
 ⟨ok.mod,ok.kind,ok.glob,ok.blt,ok.above,ok.inj,ok.has,ok.cab,ok.hd,ok.frames,ok.stk,ok.exf,ok.bs,ok.bsz,ok.noex,ok.exfs,ok.funs,ok.frf⟩
section
variable {H:Hp}
def Inv.wish(I:Inv X a_ Z H s)(E:VP):Inv (X.wish E) a_ Z H s:=⟨I.ok.wish E,I.os,I.bare,I.base,I.loc,I.cell,I.free,I.freeC,I.pin,I.hok,I.len⟩
def Inv.unwish(I:Inv (X.wish E) a_ Z H s):Inv X a_ Z H s:=⟨I.ok.unwish,I.os,I.bare,I.base,I.loc,I.cell,I.free,I.freeC,I.pin,I.hok,I.len⟩
def SP.unwish{f:Flow}(h:SP (X.wish E) a_ D f s'):SP X a_ D f s':=by
 cases f with
 | next=>obtain⟨σ',H',I,q⟩:=h;exact⟨σ',H',I.unwish,q⟩
 | brk=>obtain⟨σ',H',I,q⟩:=h;exact⟨σ',H',I.unwish,q⟩
 | cont=>obtain⟨σ',H',I,q⟩:=h;exact⟨σ',H',I.unwish,q⟩
 | ret u=>obtain⟨v,σ',H',I,r,q⟩:=h;exact⟨v,σ',H',I.unwish,r,q⟩
def bu.nox{st:List Stmt}{t:TS}(h:bu X.nox st t):bu X st t:=λa_ s Z H D I j=>
 dH (h a_ s Z H D (I.wish _) j) (λ_ _ q=>q.unwish) λ_ _ z=>False.elim z
end
section
variable {st:Stmt}{rest:List Stmt}{t u:TS}{pos:Pos}
def WQ:TS:=λD Z H=>D.nx Z H
def aK(t u:TS):TS:=λD Z H=>t { D with nx:=u D } Z H
def eU:bu X [] WQ:=λ_ _ Z H _ I h=>yL ⟨Z,H,I,h⟩
def ak(h1:PS X st t)(h2:bu X rest u):bu X (st::rest) (aK t u):=by
 intro a_ s Z H D I h;refine UR (thn (h1 a_ s Z H { D with nx:=u D } I h) λf z q=>?_);cases f with
 | next=>
  obtain⟨σ',H',j,q⟩:=q;exact h2 a_ z σ' H' D j q
 | ret v=>exact q
 | brk=>exact q
 | cont=>exact q
def am(h1:PS X st t):bu X [st] t:=by
 intro a_ s Z H D I h;refine UR (thn (h1 a_ s Z H D I h) λf j q=>?_);cases f with
 | next=>exact yL q
 | ret v=>exact q
 | brk=>exact q
 | cont=>exact q
def Inv.quiet{H:Hp}(I:Inv X a_ Z H s):interactive X.env=false:=by simp[interactive,I.ok.kind]
def WR(te:TE):TS:=λD Z H=>te Z H λ_ H1=>D.nx Z H1
def bI(G:PE X e te)(hs:swapsWith e none pos.line X.env=pure false:=by rfl):PS X (.Expr e pos) (WR te):=by
 intro a_ s Z H D I h;exact wpAny_Expr_any (thn (G a_ s Z H _ I h) λv U z=>aN z λx H1 j O J=>⟨Z,H1,j,J⟩) I.quiet hs
def WT(te:TE):TS:=λD Z H=>te Z H D.rt
def ba(G:PE X e te):PS X (.Return (some e) pos) (WT te):=by
 intro a_ s Z H D I h;exact wpAny_Return_some (thn (G a_ s Z H _ I h) λv U z=>aN z λx H1 j O J=>⟨x,Z,H1,j,O,J⟩)
def WV:TS:=λD _ H=>D.rt .non H
def JB:PS X (.Return none pos) WV:=λ_ _ Z H _ I h=>wpAny_Return_none ⟨.non,Z,H,I,rfl,h⟩
def WW(c:TT)(t u:TS):TS:=λD Z H=>c Z H λb H1=>if b=true then t D Z H1 else u D Z H1
def cU{a b:List Stmt}{tc:TT}(hc:PT X c tc)(U:bu X a t)(Y:bu X b u):PS X (.If c a b pos) (WW tc t u):=by
 intro a_ s Z H D I h;refine wpAny_If (thn (hc a_ s Z H _ I h) λd G J=>J.elim λH1 O=>O.elim λj z=>?_);cases d with
 | true=>exact U a_ G Z H1 D j z
 | false=>exact Y a_ G Z H1 D j z
def JC:TS:=λ_ _ _=>False
def uI:PS X st JC:=λ_ _ _ _ _ _ h=>h.elim
def wo{j:List Stmt}:bu X j JC:=λ_ _ _ _ _ _ h=>h.elim
end
abbrev TG:=V->St->Hp->(St->Hp->Prop)->Prop
variable {g:TG}
abbrev mL:=Lv->St->Hp->(St->Hp->Prop)->Prop
def PG(X:Cx)(j:Expr)(t:TG):Prop:=
 ∀(a_:Po) (s:Shared) (Z:St) (H:Hp) (v:V) (u:Value) (Q:St->Hp->Prop),Inv X a_ Z H s->RelV v u->t v Z H Q ->
  wpAny (model X.prog X.w) X.A (assign j X.env u) (λ_ s'=>∃σ' H',Inv X a_ σ' H' s'/\Q σ' H') X.xe s
def dv(X:Cx)(j:List Expr)(t:mL):Prop:=
 ∀(a_:Po) (s:Shared) (Z:St) (H:Hp) (vs:Lv) (us:Lw) (Q:St->Hp->Prop),Inv X a_ Z H s->aX vs us->t vs Z H Q ->
  wpAny (model X.prog X.w) X.A (assignInOrder ((assignEach j X.env).map (·.2)) us) (λ_ s'=>∃σ' H',Inv X a_ σ' H' s'/\Q σ' H') X.xe s
section
variable {pos:Pos}
def mO(i:Nat):TG:=λv Z H Q=>Q (Z.set i (some v)) H
def a8{i:Nat}{x:Str}(z:X.N.Nodup)(hi:X.N[i]?=some x)(J:Loc X.env.scope x)(G:X.fn x=true\/X.env.scope.names.lookup x=some .local:=by first | exact .inl rfl | exact .inr rfl | assumption):PG X (.Name x pos) (mO i):=by
 intro a_ s Z H v u Q I r h;exact wpAny_assign_Name (CU I z hi J r (λs' j=>⟨_,H,j,h⟩) G)
def CY:mL:=λvs Z H Q=>vs=[]/\Q Z H
inductive JD (t:TG) (u:mL) (Z:St) (H:Hp) (Q:St->Hp->Prop):Lv->Prop where
 | mk {v:V}{r:Lv} (_:t v Z H λσ' H'=>u r σ' H' Q):JD t u Z H Q (v::r)
def wp(t:TG)(u:mL):mL:=λvs Z H Q=>JD t u Z H Q vs
def jr:dv X [] CY:=by
 intro a_ s Z H vs us Q I r h;obtain⟨e,h⟩:=h;subst e;cases r;exact assignInOrder_nil ⟨Z,H,I,h⟩
def d8{t:TG}{u:mL}(h1:PG X e t)(h2:dv X es u)
 (hs:(assignEach (e::es) X.env).map (·.2)=assign e X.env::(assignEach es X.env).map (·.2):=by rfl):dv X (e::es) (wp t u):=by
 intro a_ s Z H vs us Q I r h;obtain @⟨v,vr,h⟩:=h;cases r with
 | cons r U=>
  rw[hs];refine assignInOrder_cons (thn (h1 a_ s Z H _ _ _ I r h) λ_ Y J=>J.elim λσ1 z=>z.elim λH1 G=>G.elim λj O=>?_);exact h2 a_ Y σ1 H1 _ _ Q j U O
inductive JE (K:Fg) (n:Nat) (t:mL) (Z:St) (H:Hp) (Q:St->Hp->Prop):V->Prop where
 | mk {a:Addr}{xs:Lv} (_:aP K H a xs) (_:xs.length=n) (_:t xs Z H Q):JE K n t Z H Q (.ref a)
def uJ(K:Fg)(n:Nat)(t:mL):TG:=λv Z H Q=>JE K n t Z H Q v
def kR{k:Nat}{t:mL}(O:X.calm=true)(h:dv X es t)
 (Y:(assignEach es X.env).length=n:=by rfl) (J:(assignEach es X.env).findIdx? (·.1)=none:=by rfl):PG X (.Tuple es k pos) (uJ X.K n t):=by
 intro a_ s Z H v u Q I r j;obtain @⟨a,xs,hq,U,j⟩:=j;cases r;obtain⟨c_,z,ht,hz⟩:=I.tuple hq;refine assign_Tuple_tuple (I.ok.hd O) ht (by simp[Y,<-U,z.length]) J λh' hx=>?_;have G:Inv X a_ Z H { s with heap:=h' }:=I.kept (t':=s.toks) λb o e=>hx b o (cg (bi e)) e;exact h a_ _ Z H xs _ Q G (by simpa using z) j
def CZ(te:TE)(g:TG):TS:=λD Z H=>te Z H λx H1=>g x Z H1 D.nx
def JF(G:PE X e te)(J:PG X tg g)(hs:swapsWithSole [tg] e pos.line X.env=pure false:=by rfl)(O:swappedStores [tg] e X.env=pure none:=by rfl)
 (h1:(assignEach [tg] X.env).map (·.2)=[assign tg X.env]:=by rfl):PS X (.Assign [tg] e pos) (CZ te g):=by
 intro a_ s Z H D I h;refine wpAny_Assign_stores (thn (G a_ s Z H _ I h) λv s1 z=>aN z λx H1 j Y U=>?_) hs O;rw[h1];exact thn (J a_ s1 Z H1 x v _ j Y U) λ_ s2 q=>q
def aJ{i:Nat}{x:Str}{pos':Pos}(J:X.N.Nodup)(hi:X.N[i]?=some x)(Y:Loc X.env.scope x)(O:PE X e te)(hs:swapsWith e (some (.Name x pos')) pos.line X.env=pure false:=by rfl)(U:X.fn x=true\/X.env.scope.names.lookup x=some .local:=by first | exact .inl rfl | exact .inr rfl | assumption) :
 PS X (.Assign [.Name x pos'] e pos) (CZ te (mO i)):=by
 intro a_ s Z H D I h;refine wpAny_Assign_Name (thn (O a_ s Z H _ I h) λv s1 G=>aN G λy H1 j r1 q1=>?_) hs;exact CU j J hi Y r1 (λs2 z=>⟨_,H1,z,q1⟩) U
def Xa(c:TT)(tb:TS):TS:=λD Z H=>∃W:Nat->St->Hp->Prop,(∃m,W m Z H)/\∀m Z H,W m Z H ->
 c Z H λb H1=>if b=true then∃N:St->Hp->Prop,(∀σ' H',N σ' H'->∃m',m'<m/\W m' σ' H')/\tb { D with nx:=N,ct:=N,bk:=D.nx } Z H1 else D.nx Z H1
def Xb{tc:TT}(hp:PassesOwn (model X.prog X.w) X.A X.env X.xe)(hc:PT X c tc)(hb:bu X body tb):PS X (.While c body [] pos) (Xa tc tb):=by
 intro a_ s Z H D I h;obtain⟨W,⟨m0,w0⟩,a0⟩:=h;refine wpAny_While (codeAny_whileLoop (λn s'=>∃σ' H',Inv X a_ σ' H' s'/\W n σ' H') ?_ m0 ⟨Z,H,I,w0⟩);rintro n s1 ⟨σ1,H1,I1,w1⟩;refine vR hp (thn (hc a_ s1 σ1 H1 _ I1 (a0 n σ1 H1 w1)) λb s2 Xc=>Xc.elim λH2 Xd=>Xd.elim λU j=>?_);cases b with
 | true=>
  obtain⟨N,Y,j⟩:=j;rw[ai rfl];refine vR hp (thn (hb a_ s2 σ1 H2 _ U j) λf s3 z=>?_);cases f with
  | next=>
   obtain⟨σ3,H3,G,n3⟩:=z;obtain⟨m',J,O⟩:=Y σ3 H3 n3;exact⟨m',J,σ3,H3,G,O⟩
  | cont=>
   obtain⟨σ3,H3,G,n3⟩:=z;obtain⟨m',J,O⟩:=Y σ3 H3 n3;exact⟨m',J,σ3,H3,G,O⟩
  | brk=>exact z
  | ret v=>exact z
 | false=>
  rw[af cn];exact yL ⟨σ1,H2,U,j⟩
end
structure It where
 go:Nat->Hp->Prop
 yld:Nat->Hp->V->Hp->Prop
 stop:Nat->Hp->Prop
def fR(X:Cx)(a_:Po)(H:Hp)(b:Addr):Prop:=
 H b=none/\b≠X.env.locals/\b∉X.fs/\(b∈X.ex\/X.s₀.heap.objs.size<=b)/\(∀x c,X.env.cells.lookup x=some c->c≠b)/\∀p∈X.pn++a_,p.1≠b
def Inv.fpOk{H H':Hp}{b:Addr}(I:Inv X a_ Z H s)(j:s.heap.objs.size<=b)(G:H' b=none):fR X a_ H' b:=by
 refine⟨G,kJ (gB I.lt j),I.nofs j,.inr (cR I.sz j),λx c e z=>?_,λp J z=>?_⟩
 . obtain⟨v,q⟩:=I.cell x c e;exact absurd (gB q.lt (by rw[z];exact j)) (oA _)
 exact absurd (gB (bi (I.pin p J).1) (by rw[z];exact j)) (oA _)
structure mP(P:Program)(w:World)(K:Fg)(tg:Expr)(J:It)(fp:List Addr)(it:Addr)(tn:Nat->Heap->Prop):Prop where
 mem:it∈fp
 obj:∀i h,tn i h->∀b∈fp,∃o,h.get? b=some o/\∀v,o.data≠.cell v
 keep:∀i h h',tn i h->(∀b∈fp,∀o,h.get? b=some o->h'.get? b=some o)->tn i h'
 item:∀(X:Cx),X.prog=P->X.w=w->X.K=K->X.calm=true->∀(i:Nat) (a_:Po) (s:Shared) (Z:St) (H:Hp) (E:VP),Inv X a_ Z H s->(∀b∈fp,fR X a_ H b)->tn i s.heap->J.go i H ->
  wpAny (model P w) X.A (pyNext (.ref it)) (λr s1=>∃u,r=some u /\
   wpAny (model P w) X.A (letOwnedTupleGo tg (.ref it) u) (λ_ s2=>∃x H',Inv X a_ Z H' s2/\RelV x u/\J.yld i H x H'/\tn (i+1) s2.heap/\∀b∈fp,H' b=none) E s1) E s
 done:∀(X:Cx),X.prog=P->X.w=w->X.K=K->X.calm=true->∀(i:Nat) (a_:Po) (s:Shared) (Z:St) (H:Hp) (E:VP),Inv X a_ Z H s->(∀b∈fp,fR X a_ H b)->tn i s.heap->J.stop i H ->
  wpAny (model P w) X.A (pyNext (.ref it)) (λr s1=>r=none/\Inv X a_ Z H s1) E s
 self:∀(A:Around) (i:Nat) (s:Shared) (Q:VP) (E:VP),tn i s.heap->Q (.ref it) s->wpAny (model P w) A (pyIter (.ref it)) Q E s
abbrev TI:=St->Hp->(It->Hp->Prop)->Prop
def C0(X:Cx)(a_:Po)(Z:St)(tg:Expr)(R:It->Hp->Prop)(G:Value)(j:Shared):Prop:=
 ∃(it:Addr) (fp:List Addr) (z:Nat->Heap->Prop) (J:It) (H':Hp),G=.ref it/\Inv X a_ Z H' j/\mP X.prog X.w X.K tg J fp it z/\z 0 j.heap/\(∀b∈fp,fR X a_ H' b)/\R J H'
def PI(X:Cx)(tg iter:Expr)(z:TI):Prop:=
 ∀(a_:Po) (s:Shared) (Z:St) (H:Hp) (R:It->Hp->Prop),Inv X a_ Z H s->z Z H R ->
  wpAny (model X.prog X.w) X.A (eval iter X.env) (λv j=>wpAny (model X.prog X.w) X.A (pyIter v) (C0 X a_ Z tg R) X.xe j) X.xe s
def wq{it:Addr}{o:Obj}{n:String}{vs:Av}{Q:Unit->Shared->Prop}(J:s.heap.get? it=some o)(z:o.cls=.type n)(hd:o.data=.fields vs)
 (G:["enumerate","zip","dict_itemiterator","dict_reverseitemiterator","odict_iterator","itertools.zip_longest","itertools.pairwise"].contains n=false) (j:Q () s):wpAny M A (letOwnedTupleGo tg (.ref it) u) Q E s:=by
 unfold letOwnedTupleGo;cases tg<;>first
  | exact aj j
  | (cases u<;>first
   | exact aj j
   | (refine aa (wpAny_load J ?_)
      rw[z,hd];show wpAny M A (if (["enumerate","zip","dict_itemiterator","dict_reverseitemiterator","odict_iterator","itertools.zip_longest","itertools.pairwise"].contains n && vs[0]? == some (rawInt _))=true then _ else _) Q E s;rw[af (by intro h;rw[G,vS]at h;cases h)];exact aj j))
def mQ(K:Fg)(a:Addr):It:=
 ⟨λi H=>∃xs x,ag K H a xs/\xs[i]?=some x,λi H x H'=>H'=H/\∀xs,ag K H a xs->xs[i]?=some x,λi H=>∃xs,ag K H a xs/\xs.length<=i⟩
def C1(K:Fg)(a:Addr):It:=
 ⟨λi H=>∃xs x,aP K H a xs/\xs[i]?=some x,λi H x H'=>H'=H/\∀xs,aP K H a xs->xs[i]?=some x,λi H=>∃xs,aP K H a xs/\xs.length<=i⟩
def oQ(lo:Int)(n:Nat):It:=⟨λi _=>i<n,λi H x H'=>H'=H/\x=.int (lo+i),λi _=>n<=i⟩
def Xe(a it:Addr):mP P w K tg (mQ K a) [it] it (λi h=>h.IsListIter it a i) where
 mem:=by simp
 obj:=λi h st b j=>by
  have e:b=it:=by simpa using j
  subst e;obtain⟨o,e,c,d⟩:=st;exact⟨o,e,λv z=>by rw[d]at z;cases z⟩
 keep:=λi h h' st k=>st.at λo e=>k it (by simp) o e
 item:=by
  intro X hP hw hK hc i a_ s Z H E I G st hg;subst hP hw hK;obtain⟨xs,x,J,hx⟩:=hg;obtain⟨c_,rv,p,hz⟩:=I.list J;obtain⟨u,hu,ru⟩:=rv.get hx;obtain⟨O,U,f2,Y,f4,f5⟩:=G it (by simp);refine wpAny_pyNext_list_item st p.isList (x:=u) (by simpa using hu) λh' dC sb=>?_;have I1:Inv X a_ Z H { s with heap:=h' }:=I.turned (t':=s.toks) (λb o j e=>(sb.2 b j).trans e) O U Y f4 f5;obtain⟨o,e,c,d⟩:=id dC;exact⟨u,rfl,wq (s:={ s with heap:=h' }) e c d (by decide) ⟨x,H,I1,ru,⟨rfl,λys hy=>by rw[I.list_inj hy J];exact hx⟩,dC,λb j=>(G b j).1⟩⟩
 done:=by
  intro X hP hw hK hc i a_ s Z H E I G st hg;subst hP hw hK;obtain⟨xs,J,hx⟩:=hg;obtain⟨c_,rv,p,hz⟩:=I.list J;obtain⟨O,U,f2,Y,f4,f5⟩:=G it (by simp);have hl:=rv.length;exact wpAny_pyNext_list_end (I.ok.hd hc) st p.isList (by simp;omega) λh' eb=>⟨rfl,I.turned (t':=s.toks) (λb o j e=>eb b o j e) O U Y f4 f5⟩
 self:=λ_ _ _ _ _ st h=>wpAny_pyIter_listiter st h
def Xf(a it:Addr):mP P w K tg (C1 K a) [it] it (λi h=>h.IsTupleIter it a i) where
 mem:=by simp
 obj:=λi h st b j=>by
  have e:b=it:=by simpa using j
  subst e;obtain⟨o,e,c,d⟩:=st;exact⟨o,e,λv z=>by rw[d]at z;cases z⟩
 keep:=λi h h' st k=>st.at λo e=>k it (by simp) o e
 item:=by
  intro X hP hw hK hc i a_ s Z H E I G st hg;subst hP hw hK;obtain⟨xs,x,J,hx⟩:=hg;obtain⟨c_,rv,p,hz⟩:=I.tuple J;obtain⟨u,hu,ru⟩:=rv.get hx;obtain⟨O,U,f2,Y,f4,f5⟩:=G it (by simp);refine wpAny_pyNext_tuple_item st (show s.heap.IsTuple a c_.toArray from p) (x:=u) (by simpa using hu) λh' dC sb=>?_;have I1:Inv X a_ Z H { s with heap:=h' }:=I.turned (t':=s.toks) (λb o j e=>(sb.2 b j).trans e) O U Y f4 f5;obtain⟨o,e,c,d⟩:=id dC;exact⟨u,rfl,wq (s:={ s with heap:=h' }) e c d (by decide) ⟨x,H,I1,ru,⟨rfl,λys hy=>by rw[I.tuple_inj hy J];exact hx⟩,dC,λb j=>(G b j).1⟩⟩
 done:=by
  intro X hP hw hK hc i a_ s Z H E I G st hg;subst hP hw hK;obtain⟨xs,J,hx⟩:=hg;obtain⟨c_,rv,p,hz⟩:=I.tuple J;obtain⟨O,U,f2,Y,f4,f5⟩:=G it (by simp);have hl:=rv.length;exact wpAny_pyNext_tuple_end (I.ok.hd hc) st (show s.heap.IsTuple a c_.toArray from p) (by simp;omega) λh' eb=>⟨rfl,I.turned (t':=s.toks) (λb o j e=>eb b o j e) O U Y f4 f5⟩
 self:=λ_ _ _ _ _ st h=>wpAny_pyIter_tupleiter st h
def Xg(it:Addr)(lo:Int)(n:Nat):mP P w K tg (oQ lo n) [it] it (λi h=>IsRangeIter h it (lo+(i:Nat) * 1) ((n:Int) - (i:Nat)) 1) where
 mem:=by simp
 obj:=λi h st b j=>by
  have e:b=it:=by simpa using j
  subst e;exact⟨_,st,λv z=>by
   have z':Data.fields _=Data.cell v:=z;cases z'⟩
 keep:=λi h h' st k=>k it (by simp) _ st
 item:=by
  intro X hP hw hK hc i a_ s Z H E I G st hg;subst hP hw hK;obtain⟨J,O,f2,U,Y,f5⟩:=G it (by simp);have W:=Walks.range (prog:=X.prog) (w:=X.w) (I.ok.hd hc) it lo 1 n;refine W.item i s _ _ hg st λv h' tk hv dC kk=>?_;obtain⟨t,rfl⟩:=hv;have I1:Inv X a_ Z H { s with heap:=h',toks:=tk }:=I.turned (λb o j e=>kk b o (by simpa using j) e) J O U Y f5;refine⟨_,rfl,wq (s:={ s with heap:=h',toks:=tk }) (n:="range_iterator") dC rfl rfl (by decide) ⟨.int (lo+i),H,I1,⟨t,?_⟩,⟨rfl,rfl⟩,dC,λb j=>(G b j).1⟩⟩;rw[Int.mul_one]
 done:=by
  intro X hP hw hK hc i a_ s Z H E I G st hg;subst hP hw hK;obtain⟨J,O,f2,U,Y,f5⟩:=G it (by simp);exact wpAny_pyNext_range_end (I.ok.hd hc) st (by have:n<=i:=hg;omega) λh' eb=>⟨rfl,I.turned (t':=s.toks) (λb o j e=>eb b o j e) J O U Y f5⟩
 self:=λ_ _ _ _ _ st h=>wpAny_pyIter_rangeiter st h
inductive JG (K:Fg) (R:It->Hp->Prop) (H1:Hp):V->Prop where
 | mk {a:Addr} (_:(∃xs,ag K H1 a xs)) (_:R (mQ K a) H1):JG K R H1 (.ref a)
def Xh(K:Fg)(tl:TE):TI:=λZ H R=>tl Z H λx H1=>JG K R H1 x
inductive JH (K:Fg) (R:It->Hp->Prop) (H1:Hp):V->Prop where
 | mk {a:Addr} (_:(∃xs,aP K H1 a xs)) (_:R (C1 K a) H1):JH K R H1 (.ref a)
def Xi(K:Fg)(tl:TE):TI:=λZ H R=>tl Z H λx H1=>JH K R H1 x
def cr{l:Expr}{tl:TE}(O:PE X l tl):PI X tg l (Xh X.K tl):=by
 intro a_ s Z H R I h;refine thn (O a_ s Z H _ I h) λv z G=>aN G λx H1 j r1 Y=>?_;obtain @⟨a,⟨xs,U⟩,q⟩:=Y;cases r1;obtain⟨c_,rv,p,hz⟩:=j.list U;refine IC p.isList ?_;refine⟨z.heap.objs.size,[z.heap.objs.size],_,_,H1,rfl,j.kept (t':=z.toks) λb o e=>bB _ e,Xe a _,⟨_,cT _ rfl,rfl,rfl⟩,λb J=>?_,q⟩;have e:b=z.heap.objs.size:=by simpa using J
 subst e;exact j.fpOk (aD _) (j.hok.fresh (aD _))
def Xk{l:Expr}{tl:TE}(O:PE X l tl):PI X tg l (Xi X.K tl):=by
 intro a_ s Z H R I h;refine thn (O a_ s Z H _ I h) λv j G=>aN G λx H1 z r1 Y=>?_;obtain @⟨a,⟨xs,U⟩,q⟩:=Y;cases r1;obtain⟨c_,rv,p,hz⟩:=z.tuple U;refine wpAny_pyIter_tuple (show j.heap.IsTuple a c_.toArray from p) ?_;refine⟨j.heap.objs.size,[j.heap.objs.size],_,_,H1,rfl,z.kept (t':=j.toks) λb o e=>bB _ e,Xf a _,⟨_,cT _ rfl,rfl,rfl⟩,λb J=>?_,q⟩;have e:b=j.heap.objs.size:=by simpa using J
 subst e;exact z.fpOk (aD _) (z.hok.fresh (aD _))
def JI{H:Hp}{R:It->Hp->Prop}{lo hi:Int}{t u v:Tok}{tk:Nat}(I:Inv X a_ Z H s)(h1:-(2 ^ 62)<=lo)(h2:lo<2 ^ 62)(z:-(2 ^ 62)<=hi)(G:hi<2 ^ 62)
 (q:R (oQ lo (hi - lo).toNat) H):wpAny (model X.prog X.w) X.A (pyIter (.ref s.heap.objs.size)) (C0 X a_ Z tg R) E { s with heap:=s.heap.push { cls:=.type "range",data:=.fields #[.int lo t,.int hi u,.int 1 v] },toks:=tk }:=by
 refine wpAny_pyIter_range (IsRange.new ..) (small_one h1 h2 z G) ?_;have j:Inv X a_ Z H { s with heap:=s.heap.push { cls:=.type "range",data:=.fields #[.int lo t,.int hi u,.int 1 v] },toks:=tk }:=I.kept λb o e=>bB _ e;refine⟨(s.heap.push { cls:=.type "range",data:=.fields #[.int lo t,.int hi u,.int 1 v] }).objs.size,[(s.heap.push { cls:=.type "range",data:=.fields #[.int lo t,.int hi u,.int 1 v] }).objs.size],_,_,H,rfl,
  j.kept (t':=tk) λb o e=>bB _ e,Xg _ lo (hi - lo).toNat,?_,λb J=>?_,q⟩
 . have e1:lo+((0:Nat):Int) * 1=lo:=by simp
   have e2:(((hi - lo).toNat:Nat):Int) - ((0:Nat):Int)=Builtin.Range.rangeSize lo hi 1:=by rw[rangeSize_one];split<;>omega
   show IsRangeIter _ _ (lo+((0:Nat):Int) * 1) ((((hi - lo).toNat:Nat):Int) - ((0:Nat):Int)) 1;rw[e1,e2];exact cT _ rfl
 have e:b=(s.heap.push { cls:=.type "range",data:=.fields #[.int lo t,.int hi u,.int 1 v] }).objs.size:=by simpa using J
 subst e;exact j.fpOk (aD _) (j.hok.fresh (aD _))
inductive JJ (R:It->Hp->Prop) (H1:Hp):Lv->Prop where
 | mk {j:Int} (_:-(2 ^ 62)<=j) (_:j<2 ^ 62) (_:R (oQ 0 j.toNat) H1):JJ R H1 [.int j]
def Xm(ta:TA):TI:=λZ H R=>ta Z H λvs H1=>JJ R H1 vs
inductive JK (R:It->Hp->Prop) (H1:Hp):Lv->Prop where
 | mk {i:Int}{j:Int} (_:(-(2 ^ 62)<=i/\i<2 ^ 62/\-(2 ^ 62)<=j/\j<2 ^ 62)) (_:R (oQ i (j - i).toNat) H1):JK R H1 [.int i,.int j]
def Xn(ta:TA):TI:=λZ H R=>ta Z H λvs H1=>JK R H1 vs
def C2{a:Expr}{ta:TA}{pos:Pos}(U:Gl X "range")(Y:X.mg "range"=none)(O:PA X [a] ta)(hs:starEach [a] X.env=[(false,eval a X.env)]:=by rfl):PI X tg (.Call (.Name "range" p) [a] [] pos) (Xm ta):=by
 intro a_ s Z H R I h;refine Call_ (rQ I U Y boot_range (ID (thn (O pos a_ s Z H _ I h) λus s1 J=>aN J λvs H1 G r1 z=>?_) hs rfl));obtain @⟨j,z,q2,q⟩:=z;cases r1 with
 | cons r rr=>
  cases rr;obtain⟨t,rfl⟩:=r;exact call_range_1 (JI G (by omega) (by omega) z q2 (by simpa using q))
def Xp{a b:Expr}{ta:TA}{pos:Pos}(hg:Gl X "range")(hm:X.mg "range"=none)(Y:PA X [a,b] ta)(hs:starEach [a,b] X.env=[(false,eval a X.env),(false,eval b X.env)]:=by rfl)(J:starEach [b] X.env=[(false,eval b X.env)]:=by rfl) :
 PI X tg (.Call (.Name "range" p) [a,b] [] pos) (Xn ta):=by
 intro a_ s Z H R I h;refine Call_ (rQ I hg hm boot_range (ID (thn (Y pos a_ s Z H _ I h) λus s1 U=>aN U λvs H1 O r1 z=>?_) (by rw[hs,J]) (by rw[J];rfl)));obtain @⟨i,j,⟨z,q2,q3,q4⟩,q⟩:=z;cases r1 with
 | cons r G=>
  cases G with
  | cons r' G=>
   cases G;obtain⟨t,rfl⟩:=r;obtain⟨t',rfl⟩:=r';exact call_range_2 (JI O z q2 q3 q4 q)
def Xr(j:TI)(g:TG)(tb:TS):TS:=λD Z H=>j Z H λJ H1=>∃W:Nat->Nat->St->Hp->Prop,(∃m,W 0 m Z H1)/\∀i m Z H,W i m Z H ->
 (J.stop i H/\D.nx Z H)\/(J.go i H/\∃N:St->Hp->Prop,(∀σ' H',N σ' H'->∃m',m'<m/\W (i+1) m' σ' H')/\∀x H',J.yld i H x H'->g x Z H' λσ2 H2=>tb { D with nx:=N,ct:=N,bk:=D.nx } σ2 H2)
def rT(fp:List Addr)(h:Heap):Po:=fp.filterMap λb=>(h.get? b).map λo=>(b,o)
def qr{h:Heap}{b:Addr}{o:Obj}(j:b∈fp)(e:h.get? b=some o):(b,o)∈rT fp h:=vT.mpr ⟨b,j,by rw[e];rfl⟩
def Xs{h:Heap}{p:Addr×Obj}(G:p∈rT fp h):p.1∈fp/\h.get? p.1=some p.2:=by
 obtain⟨b,z,e⟩:=vT.mp G;cases q:h.get? b with
 | none=>rw[q]at e;cases e
 | some o=>
  rw[q]at e;have j:(b,o)=p:=fO e;subst j;exact⟨z,q⟩
def Inv.pinned{H:Hp}(I:Inv X a_ Z H s)(Y:∀b∈fp,fR X a_ H b)(ho:∀b∈fp,∃o,s.heap.get? b=some o/\∀v,o.data≠.cell v):Inv X (a_++rT fp s.heap) Z H s:=
 I.pins_of λp hp=>(dA.mp hp).elim (λz=>I.pin p (fP _ z)) λz=>by
  obtain⟨G,e⟩:=Xs z;obtain⟨J,O,U,_⟩:=Y p.1 G;obtain⟨o,j,d⟩:=ho p.1 G;rw[e]at j;cases j;exact⟨e,J,O,U,d⟩
def Inv.unpinned{pl:Po}{H:Hp}(I:Inv X (a_++pl) Z H s):Inv X a_ Z H s:=I.pins_of λp j=>I.pin p (fP _ (yK _ j))
def fD{iter:Expr}{wi:TI}{pos:Pos}(O:PassesOwn (model X.prog X.w) X.A X.env X.xe)(hc:X.calm=true)(hi:PI X tg iter wi)(hg:PG X tg g)(z:bu X body tb)
 (hs:∀x,foldedSetIterable iter X.env x=pure x:=by intro _;rfl):PS X (.For tg iter body [] pos) (Xr wi g tb):=by
 intro a_ s Z H D I h;refine wpAny_For (thn (hi a_ s Z H _ I h) λv s1 h1=>thn h1 λzx s2 h2=>?_) hs;obtain⟨it,fp,tn,J,H2,e,I2,T,gr,f2,W,⟨m0,w0⟩,a0⟩:=h2;subst e;have Y:∀{H':Hp},(∀b∈fp,H' b=none)->∀b∈fp,fR X a_ H' b:=λhn b z=>⟨hn b z,(f2 b z).2⟩;refine codeAny_forLoop_any (λn s'=>∃i σ' H',Inv X a_ σ' H' s'/\tn i s'.heap/\(∀b∈fp,H' b=none)/\W i n σ' H') ?_ m0 ⟨0,Z,H2,I2,gr,λb z=>(f2 b z).1,w0⟩;rintro n s3 ⟨i,σ3,H3,I3,rV,JL,w3⟩
 rcases a0 i n σ3 H3 w3 with⟨stop,qn⟩ | ⟨go,N,hN,step⟩
 . refine vR O (thn (T.done X rfl rfl rfl hc i a_ s3 σ3 H3 X.xe I3 (Y JL) rV stop) λr s4 Xt=>Xt.elim λhr I4=>?_);subst hr;exact yL ⟨σ3,H3,I4,qn⟩
 refine vR O (thn (T.item X rfl rfl rfl hc i a_ s3 σ3 H3 X.xe I3 (Y JL) rV go) λr s4 Xu=>Xu.elim λu Xv=>Xv.elim λhr h4=>?_);subst hr;refine vR O (thn h4 λ_ s5 Xw=>aN Xw λx H5 I5 r5 Xx=>Xx.elim λy5 Xy=>Xy.elim λrW C4=>?_);have Xz:=I5.pinned (Y C4) (T.obj _ _ rW);refine vR O (thn (hg _ s5 σ3 H5 x u _ Xz r5 (step x H5 y5)) λ_ s6 XA=>XA.elim λσ6 XB=>XB.elim λH6 XC=>XC.elim λI6 q6=>?_);refine vR O (thn (z _ s6 σ6 H6 _ I6 q6) λf s7 G=>?_);have again:∀{σ7:St}{H7:Hp},Inv X (a_++rT fp s5.heap) σ7 H7 s7->N σ7 H7->∃m,m<n/\∃i σ' H',Inv X a_ σ' H' s7/\tn i s7.heap/\(∀b∈fp,H' b=none)/\W i m σ' H':=λ{σ7 H7} j U=>by
  obtain⟨m',hm,w7⟩:=hN σ7 H7 U;refine⟨m',hm,i+1,σ7,H7,j.unpinned,T.keep _ _ _ rW λb z o e=>(j.pin (b,o) (fP _ (fP _ (qr z e)))).1,λb z=>?_,w7⟩;obtain⟨o,e,d⟩:=T.obj _ _ rW b z;exact(j.pin (b,o) (fP _ (fP _ (qr z e)))).2.1
 cases f with
 | next=>obtain⟨σ7,H7,j,U⟩:=G;exact again j U
 | cont=>obtain⟨σ7,H7,j,U⟩:=G;exact again j U
 | brk=>obtain⟨σ7,H7,j,G⟩:=G;exact⟨σ7,H7,j.unpinned,G⟩
 | ret v=>obtain⟨x7,σ7,H7,j,r7,G⟩:=G;exact⟨x7,σ7,H7,j.unpinned,r7,G⟩
def g9{xs:Lv}{H:Hp}(Pv:Nat->St->Hp->Prop)(h0:Pv 0 Z H)(z:∀i Z H,i<=xs.length->Pv i Z H->ag K H a xs)
 (hs:∀i x Z H,xs[i]?=some x->Pv i Z H->g x Z H λσ2 H2=>tb { D with nx:=Pv (i+1),ct:=Pv (i+1),bk:=D.nx } σ2 H2) (hd:∀Z H,Pv xs.length Z H->D.nx Z H) :
 ∃W:Nat->Nat->St->Hp->Prop,(∃m,W 0 m Z H)/\∀i m Z H,W i m Z H ->
  ((mQ K a).stop i H/\D.nx Z H)\/((mQ K a).go i H/\∃N:St->Hp->Prop,(∀σ' H',N σ' H'->∃m',m'<m/\W (i+1) m' σ' H')/\∀x H',(mQ K a).yld i H x H'->g x Z H' λσ2 H2=>tb { D with nx:=N,ct:=N,bk:=D.nx } σ2 H2):=by
 refine⟨λi m Z H=>m=xs.length - i/\i<=xs.length/\Pv i Z H,⟨xs.length,by simp,cE _,h0⟩,?_⟩;rintro i m Z H ⟨rfl,hi,p⟩;have q:=z i Z H hi p
 by_cases j:i<xs.length
 . refine .inr ⟨⟨xs,xs[i],q,by simp[j]⟩,Pv (i+1),λσ' H' G=>⟨xs.length - (i+1),by omega,rfl,j,G⟩,λx H' y=>?_⟩;obtain⟨e,y⟩:=y;subst e;exact hs i x Z _ (y xs q) p
 have e:i=xs.length:=by omega
 subst e;exact .inl ⟨⟨xs,q,aD _⟩,hd Z H p⟩
def C5{lo:Int}{H:Hp}(Pv:Nat->St->Hp->Prop)(h0:Pv 0 Z H)
 (hs:∀i Z H,i<n->Pv i Z H->g (.int (lo+i)) Z H λσ2 H2=>tb { D with nx:=Pv (i+1),ct:=Pv (i+1),bk:=D.nx } σ2 H2) (hd:∀Z H,Pv n Z H->D.nx Z H) :
 ∃W:Nat->Nat->St->Hp->Prop,(∃m,W 0 m Z H)/\∀i m Z H,W i m Z H ->
  ((oQ lo n).stop i H/\D.nx Z H)\/((oQ lo n).go i H/\∃N:St->Hp->Prop,(∀σ' H',N σ' H'->∃m',m'<m/\W (i+1) m' σ' H')/\∀x H',(oQ lo n).yld i H x H'->g x Z H' λσ2 H2=>tb { D with nx:=N,ct:=N,bk:=D.nx } σ2 H2):=by
 refine⟨λi m Z H=>m=n - i/\i<=n/\Pv i Z H,⟨n,by simp,cE _,h0⟩,?_⟩;rintro i m Z H ⟨rfl,hi,p⟩
 by_cases j:i<n
 . refine .inr ⟨j,Pv (i+1),λσ' H' z=>⟨n - (i+1),by omega,rfl,j,z⟩,λx H' y=>?_⟩;obtain⟨e,y⟩:=y;subst e y;exact hs i Z _ j p
 have e:i=n:=by omega
 subst e;exact .inl ⟨aD _,hd Z H p⟩
abbrev R2:=V->V->Hp->VK->Prop
variable {r:R2}
def cu(X:Cx)(f:Value->Value->Sem Value)(r:R2):Prop:=
 ∀(a_:Po) (s:Shared) (Z:St) (H:Hp) (x y:V) (v u:Value) (Q:VK),Inv X a_ Z H s->RelV x v->RelV y u->r x y H Q ->
  wpAny (model X.prog X.w) X.A (f v u) (EP X a_ Z Q) X.xe s
def C6(X:Cx)(f:Value->Sem Value)(r:V->Hp->VK->Prop):Prop:=
 ∀(a_:Po) (s:Shared) (Z:St) (H:Hp) (x:V) (v:Value) (Q:VK),Inv X a_ Z H s->RelV x v->r x H Q ->
  wpAny (model X.prog X.w) X.A (f v) (EP X a_ Z Q) X.xe s
def eV(X:Cx)(f:Value)(r:Lv->Hp->VK->Prop):Prop:=
 ∀(a_:Po) (s:Shared) (Z:St) (H:Hp) (xs:Lv) (us:Lw) (Q:VK),Inv X a_ Z H s->aX xs us->r xs H Q ->
  wpAny (model X.prog X.w) X.A (call f us) (EP X a_ Z Q) X.xe s
def zy(r:R2)(ta tb:TE):TE:=λZ H Q=>ta Z H λx H1=>tb Z H1 λy H2=>r x y H2 Q
def XD(r:V->Hp->VK->Prop)(ta:TE):TE:=λZ H Q=>ta Z H λx H1=>r x H1 Q
inductive JM (C:Int->Int->Prop) (g:Int->Int->V) (H:Hp) (Q:VK):V->V->Prop where
 | mk {i:Int}{j:Int} (_:C i j) (_:Q (g i j) H):JM C g H Q (.int i) (.int j)
def rI(C:Int->Int->Prop)(g:Int->Int->V):R2:=λx y H Q=>JM C g H Q x y
inductive JN (g:Int->Int->V) (H:Hp) (Q:VK):V->V->Prop where
 | mk {i:Int}{j:Int} (_:Q (g i j) H):JN g H Q (.int i) (.int j)
def rX(g:Int->Int->V):R2:=λx y H Q=>JN g H Q x y
def rU(g:Int->V):V->Hp->VK->Prop:=λx H Q=>∃i,x=.int i/\Q (g i) H
section
variable {a b:Expr}{ta tb tc:TE}{pos:Pos}
def C7(U:PE X a ta)(Y:PE X b tb){H:Hp}{R:V->V->Hp->Prop}(I:Inv X a_ Z H s)
 (h:ta Z H λx H1=>tb Z H1 λy H2=>R x y H2) {Q:VP}{f:Value->Value->Sem Value}
 (hf:∀v u j x y H2,Inv X a_ Z H2 j->RelV x v->RelV y u->R x y H2->wpAny (model X.prog X.w) X.A (f v u) Q X.xe j) :
 wpAny (model X.prog X.w) X.A (eval a X.env) (λv s₁=>wpAny (model X.prog X.w) X.A (eval b X.env) (λu s₂=>wpAny (model X.prog X.w) X.A (f v u) Q X.xe s₂) X.xe s₁) X.xe s:=by
 refine thn (U a_ s Z H _ I h) λv s1 J=>aN J λx H1 z r1 q1=>?_;refine thn (Y a_ s1 Z H1 _ z q1) λu j O=>aN O λy H2 G r2 q2=>?_;exact hf v u j x y H2 G r1 r2 q2
def cF{op:Operator}(J:cu X (binaryOp op) r)(z:PE X a ta)(G:PE X b tb):PE X (.BinOp a op b pos) (zy r ta tb):=by
 intro a_ s Z H Q I h;exact wpAny_BinOp (C7 z G I h λv u Y x y H2 j O U q=>J a_ Y Z H2 x y v u Q j O U q)
def zA{op:UnaryOp}{r:V->Hp->VK->Prop}(J:C6 X (unaryOp op) r)(G:PE X a ta):PE X (.UnaryOp op a pos) (XD r ta):=by
 intro a_ s Z H Q I h;exact UnaryOp_ (thn (G a_ s Z H _ I h) λv Y z=>aN z λx H1 j U O=>J a_ Y Z H1 x v Q j U O)
def C8{f:Value->Value->Sem Value}{C:Int->Int->Prop}{g:Int->Int->Int}
 (rule:∀(i j:Int) (t u:Tok) (s:Shared) (Q:VP) (E:VP),C i j->Q (.int (g i j) s.toks) { s with toks:=s.toks+1 }->wpAny (model X.prog X.w) X.A (f (.int i t) (.int j u)) Q E s) :
 cu X f (rI C λi j=>.int (g i j)):=by
 intro a_ s Z H x y v u Q I G J h;obtain @⟨i,j,z,q⟩:=h;obtain⟨t,rfl⟩:=G;obtain⟨t',rfl⟩:=J;exact rule i j t t' s _ _ z ⟨.int (g i j),H,I.tok _,⟨_,rfl⟩,q⟩
def JO{f:Value->Value->Sem Value}{g:Int->Int->Int}
 (rule:∀(i j:Int) (t u:Tok) (s:Shared) (Q:VP) (E:VP),Q (.int (g i j) s.toks) { s with toks:=s.toks+1 }->wpAny (model X.prog X.w) X.A (f (.int i t) (.int j u)) Q E s) :
 cu X f (rX λi j=>.int (g i j)):=by
 intro a_ s Z H x y v u Q I z G h;obtain @⟨i,j,q⟩:=h;obtain⟨t,rfl⟩:=z;obtain⟨t',rfl⟩:=G;exact rule i j t t' s _ _ ⟨.int (g i j),H,I.tok _,⟨_,rfl⟩,q⟩
def C9{f:Value->Value->Sem Value}{g:Int->Int->Bool}
 (rule:∀(i j:Int) (t u:Tok) (s:Shared) (Q:VP) (E:VP),Q (.bool (g i j)) s->wpAny (model X.prog X.w) X.A (f (.int i t) (.int j u)) Q E s) :
 cu X f (rX λi j=>.bl (g i j)):=by
 intro a_ s Z H x y v u Q I z G h;obtain @⟨i,j,q⟩:=h;obtain⟨t,rfl⟩:=z;obtain⟨t',rfl⟩:=G;exact rule i j t t' s _ _ ⟨.bl (g i j),H,I,rfl,q⟩
def XI(i j:Int):Prop:=0<j/\j<1073741824
def Db(i j:Int):Prop:=(-(2 ^ 64)<i/\i<2 ^ 64)\/(-(2 ^ 64)<j/\j<2 ^ 64)
def Db.ok{i j:Int}(h:Db i j):IntMulOk i j:=by
 rcases h with⟨h1,h2⟩ | ⟨h1,h2⟩
 . exact .of_left (intBits_le_64 h1 h2)
 exact .of_right (intBits_le_64 h1 h2)
def oR:cu X (binaryOp .Add) (rX λi j=>.int (i+j)):=JO λ_ _ _ _ _ _ _ q=>add_int q
def XJ:cu X (binaryOp .Sub) (rX λi j=>.int (i - j)):=JO λ_ _ _ _ _ _ _ q=>sub_int q
def Dc:cu X (binaryOp .Mult) (rI Db λi j=>.int (i * j)):=C8 λ_ _ _ _ _ _ _ z q=>mul_int q z.ok
def uK:cu X (binaryOp .FloorDiv) (rI XI λi j=>.int (i / j)):=C8 λi j _ _ _ _ _ z q=>by
 have h1:(0:Int)<j:=z.1;have h2:j<1073741824:=z.2;exact floordiv_int (by omega) (by rw[Int.fdiv_eq_ediv_of_nonneg i (by omega)];exact q) (.inl (PyProof.noPylong_small (by omega)))
def oS:cu X (binaryOp .Mod) (rI (λ_ j=>0<j) λi j=>.int (i % j)):=C8 λi j _ _ _ _ _ z q=>by
 have h1:(0:Int)<j:=z;exact mod_int' (by omega) (by rw[Int.fmod_eq_emod_of_nonneg i (by omega)];exact q)
def XM{f:Value->Sem Value}{g:Int->Int}
 (rule:∀(i:Int) (t:Tok) (s:Shared) (Q:VP) (E:VP),Q (.int (g i) s.toks) { s with toks:=s.toks+1 }->wpAny (model X.prog X.w) X.A (f (.int i t)) Q E s) :
 C6 X f (rU λi=>.int (g i)):=by
 intro a_ s Z H x v Q I j h;obtain⟨i,rfl,q⟩:=h;obtain⟨t,rfl⟩:=j;exact rule i t s _ _ ⟨.int (g i),H,I.tok _,⟨_,rfl⟩,q⟩
def zB:C6 X (unaryOp .USub) (rU λi=>.int (-i)):=XM λ_ _ _ _ _ q=>neg_int q
end
def JP:V->V->Bool
 | .non,.non=>true | .non,.int _=>true | .int _,.non=>true | .non,.bl _=>true | .bl _,.non=>true | .non,.str _=>true | .str _,.non=>true
 | .int _,.int _=>true | .bl _,.bl _=>true | .str _,.str _=>true | .byt _,.byt _=>true
 | .int _,.str _=>true | .str _,.int _=>true | .bl _,.str _=>true | .str _,.bl _=>true
 | _,_=>false
def XN:R2:=λx y H Q=>JP x y=true/\Q (.bl (decide (x=y))) H
def XO:R2:=λx y H Q=>JP x y=true/\Q (.bl (!decide (x=y))) H
def JQ{i j:Int}:decide (V.int i=V.int j)=(i == j):=by
 rw[vU];simp
def JR{i j:Bool}:decide (V.bl i=V.bl j)=(i == j):=by
 rw[vU];simp
def JS{i j:Str}:decide (V.str i=V.str j)=(i == j):=by
 rw[vU];simp
def JT{i j:Array UInt8}:decide (V.byt i=V.byt j)=(i.toList == j.toList):=by
 rw[vU];cases i;cases j;simp
section
variable {a b:Expr}{ta tb tc:TE}{pos:Pos}
def cG{H:Hp}{Q:VK}{k k':Bool}(I:Inv X a_ Z H s)(q:Q (.bl k) H)(e:k=k'):EP X a_ Z Q (.bool k') s:=by
 subst e;exact⟨.bl k,H,I,rfl,q⟩
def kS:cu X (compareOp .Eq) XN:=by
 intro a_ s Z H x y v u Q I G z h;obtain⟨hs,q⟩:=h;cases x with
 | non=>
  cases G;cases y with
  | non=>cases z;exact PySem.EqNone.eq_none_none (cG I q (by simp))
  | bl j=>cases z;exact PySem.EqNone.eq_none_bool (cG I q (by simp))
  | int j=>obtain⟨t',rfl⟩:=z;exact PySem.EqNone.eq_none_int (cG I q (by simp))
  | str j=>obtain⟨t',rfl⟩:=z;exact PySem.EqNone.eq_none_str (cG I q (by simp))
  | _=>exact absurd (show false=true from hs) cn
 | bl i=>
  cases G;cases y with
  | non=>cases z;exact PySem.EqNone.eq_bool_none (cG I q (by simp))
  | bl j=>cases z;exact eq_bool (cG I q JR)
  | str j=>obtain⟨t',rfl⟩:=z;exact PySem.EqMixed.eq_bool_str (cG I q (by simp))
  | _=>exact absurd (show false=true from hs) cn
 | int i=>
  obtain⟨t,rfl⟩:=G;cases y with
  | non=>cases z;exact PySem.EqNone.eq_int_none (cG I q (by simp))
  | int j=>obtain⟨t',rfl⟩:=z;exact eq_int (cG I q JQ)
  | str j=>obtain⟨t',rfl⟩:=z;exact PySem.EqMixed.eq_int_str (cG I q (by simp))
  | _=>exact absurd (show false=true from hs) cn
 | str i=>
  obtain⟨t,rfl⟩:=G;cases y with
  | non=>cases z;exact PySem.EqNone.eq_str_none (cG I q (by simp))
  | bl j=>cases z;exact PySem.EqMixed.eq_str_bool (cG I q (by simp))
  | int j=>obtain⟨t',rfl⟩:=z;exact PySem.EqMixed.eq_str_int (cG I q (by simp))
  | str j=>obtain⟨t',rfl⟩:=z;exact eq_str (cG I q JS)
  | _=>exact absurd (show false=true from hs) cn
 | byt i=>
  obtain⟨t,rfl⟩:=G;cases y with
  | byt j=>obtain⟨t',rfl⟩:=z;exact W.eq_bytes (cG I q JT)
  | _=>exact absurd (show false=true from hs) cn
 | _=>cases y<;>exact absurd (show false=true from hs) cn
def Dd:cu X (compareOp .NotEq) XO:=by
 intro a_ s Z H x y v u Q I G z h;obtain⟨hs,q⟩:=h;cases x with
 | non=>
  cases G;cases y with
  | non=>cases z;exact PySem.EqNone.ne_none_none (cG I q (by simp))
  | bl j=>cases z;exact PySem.EqNone.ne_none_bool (cG I q (by simp))
  | int j=>obtain⟨t',rfl⟩:=z;exact PySem.EqNone.ne_none_int (cG I q (by simp))
  | str j=>obtain⟨t',rfl⟩:=z;exact PySem.EqNone.ne_none_str (cG I q (by simp))
  | _=>exact absurd (show false=true from hs) cn
 | bl i=>
  cases G;cases y with
  | non=>cases z;exact PySem.EqNone.ne_bool_none (cG I q (by simp))
  | bl j=>cases z;exact ne_bool (cG I q (cS not JR))
  | str j=>obtain⟨t',rfl⟩:=z;exact PySem.EqMixed.ne_bool_str (cG I q (by simp))
  | _=>exact absurd (show false=true from hs) cn
 | int i=>
  obtain⟨t,rfl⟩:=G;cases y with
  | non=>cases z;exact PySem.EqNone.ne_int_none (cG I q (by simp))
  | int j=>obtain⟨t',rfl⟩:=z;exact ne_int (cG I q (cS not JQ))
  | str j=>obtain⟨t',rfl⟩:=z;exact PySem.EqMixed.ne_int_str (cG I q (by simp))
  | _=>exact absurd (show false=true from hs) cn
 | str i=>
  obtain⟨t,rfl⟩:=G;cases y with
  | non=>cases z;exact PySem.EqNone.ne_str_none (cG I q (by simp))
  | bl j=>cases z;exact PySem.EqMixed.ne_str_bool (cG I q (by simp))
  | int j=>obtain⟨t',rfl⟩:=z;exact PySem.EqMixed.ne_str_int (cG I q (by simp))
  | str j=>obtain⟨t',rfl⟩:=z;exact ne_str (cG I q (cS not JS))
  | _=>exact absurd (show false=true from hs) cn
 | byt i=>
  obtain⟨t,rfl⟩:=G;cases y with
  | byt j=>obtain⟨t',rfl⟩:=z;exact W.ne_bytes (cG I q (cS not JT))
  | _=>exact absurd (show false=true from hs) cn
 | _=>cases y<;>exact absurd (show false=true from hs) cn
def De:cu X (compareOp .Lt) (rX λi j=>.bl (decide (i<j))):=C9 λ_ _ _ _ _ _ _ q=>lt_int q
def Df:cu X (compareOp .LtE) (rX λi j=>.bl (decide (i<=j))):=C9 λ_ _ _ _ _ _ _ q=>le_int q
def JU:cu X (compareOp .Gt) (rX λi j=>.bl (decide (j<i))):=C9 λ_ _ _ _ _ _ _ q=>gt_int q
def zC:cu X (compareOp .Is) (λx y H Q=>y=.non/\Q (.bl (decide (x=.non))) H):=by
 intro a_ s Z H x y v u Q I j z h;obtain⟨rfl,q⟩:=h;cases z;refine is_none_gen (cG I q ?_);cases x<;>first
  | (cases j;rfl)
  | (obtain⟨t,rfl⟩:=j;rfl)
def zD:cu X (compareOp .IsNot) (λx y H Q=>y=.non/\Q (.bl (!decide (x=.non))) H):=by
 intro a_ s Z H x y v u Q I j z h;obtain⟨rfl,q⟩:=h;cases z;refine isnot_none_gen (cG I q ?_);cases x<;>first
  | (cases j;rfl)
  | (obtain⟨t,rfl⟩:=j;rfl)
def cj(b:Expr){op:CmpOp}(h:op≠.In:=by decide)(h2:op≠.NotIn:=by decide):behindInMarks op b=false:=by
 have e1:(op == CmpOp.In)=false:=by cases op<;>first | rfl | exact absurd rfl h
 have e2:(op == CmpOp.NotIn)=false:=by cases op<;>first | rfl | exact absurd rfl h2
 cases b<;>simp[behindInMarks,e1,e2]
def je{op:CmpOp}(O:cu X (compareOp op) r)(z:PE X a ta)(G:PE X b tb)(J:behindInMarks op b=false):PE X (.Compare a [op] [b] pos) (zy r ta tb):=by
 intro a_ s Z H Q I h;exact wpAny_Compare1 (C7 z G I h λv u s2 x y H2 j U Y q=>O a_ s2 Z H2 x y v u Q j U Y q) J
inductive JV (Q:Bool->Hp->Prop) (H':Hp):V->Prop where
 | mk {k:Bool} (_:Q k H'):JV Q H' (.bl k)
def XQ(t:TE):TT:=λZ H Q=>t Z H λx H'=>JV Q H' x
def eW{op:CmpOp}(ho:cu X (compareOp op) r)(ha:PE X a ta)(hb:PE X b tb)(hm:behindInMarks op b=false):PT X (.Compare a [op] [b] pos) (XQ (zy r ta tb)):=by
 intro a_ s Z H Q I h;refine ar8 (thn (ha a_ s Z H _ I h) λv s1 U=>aN U λx H1 G r1 q1=>thn (hb a_ s1 Z H1 _ G q1) λu s2 Y=>aN Y λy H2 J r2 q2=>
  thn (ho a_ s2 Z H2 x y v u _ J r1 r2 q2) λc s3 XT=>aN XT λz H3 O r3 j=>?_) hm
 obtain @⟨k,q3⟩:=j;cases r3;exact ou ⟨H3,O,q3⟩
inductive JW (j:R2) (tc:TE) (Z:St) (Q:VK) (y:V) (H3:Hp):V->Prop where
 | mk {k:Bool} (_:(if k=true then tc Z H3 λG z=>j y G z Q else Q (.bl false) H3)):JW j tc Z Q y H3 (.bl k)
def XU(r j:R2)(ta tb tc:TE):TE:=λZ H Q=>ta Z H λx H1=>tb Z H1 λy H2=>r x y H2 λz H3=>JW j tc Z Q y H3 z
def JX{op j:CmpOp}{O:R2}(ho:cu X (compareOp op) r)(f8:cu X (compareOp j) O)(ha:PE X a ta)(hb:PE X b tb)(hc:PE X c tc)
 (hm:lastMarks [op,j] [b,c]=false:=by with_unfolding_all rfl):PE X (.Compare a [op,j] [b,c] pos) (XU r O ta tb tc):=by
 intro a_ s Z H Q I h;refine Compare_chain (thn (ha a_ s Z H _ I h) λv s1 XV=>aN XV λx H1 I1 r1 q1=>chain_link (thn (hb a_ s1 Z H1 _ I1 q1) λu s2 XW=>aN XW λy H2 I2 U q2=>
  thn (ho a_ s2 Z H2 x y v u _ I2 r1 U q2) λd s3 XX=>aN XX λz H3 G r3 Y=>?_)) hm
 obtain @⟨k,J⟩:=Y;cases r3;refine ou ?_;cases k with
 | false=>exact ite_ff ⟨.bl false,H3,G,rfl,J⟩
 | true=>exact ite_tt (chain_last (thn (hc a_ s3 Z H3 _ G J) λw' s4 XY=>aN XY λz' H4 I4 r4 q4=>f8 a_ s4 Z H4 y z' u w' Q I4 U r4 q4))
def wt:(sizeLine:Nat)<2 ^ 63:=by rw[qf];decide
def Dj:cu X (binaryOp .Add) (λx y H Q=>∃i j,x=.str i/\y=.str j/\i.length+j.length<=sizeLine/\Q (.str (i++j)) H):=by
 intro a_ s Z H x y v u Q I z G h;obtain⟨i,j,rfl,rfl,hz,q⟩:=h;obtain⟨t,rfl⟩:=z;obtain⟨t',rfl⟩:=G;exact add_str (λt' tk=>⟨.str (i++j),H,I.tok _,⟨_,rfl⟩,q⟩) hz
def vals1{x:V}(r:aX [x] us):∃u,us=[u]/\RelV x u:=by
 cases r with
 | cons j z=>cases z;exact⟨_,rfl,j⟩
def vals2{x y:V}(r:aX [x,y] us):∃u j,us=[u,j]/\RelV x u/\RelV y j:=by
 cases r with
 | cons z G=>
  cases G with
  | cons J O=>cases O;exact⟨_,_,rfl,z,J⟩
def JY:eV X (.type "str") (λxs H Q=>∃i,xs=[.int i]/\i.natAbs.log2<1920/\Q (.str (toString i)) H):=by
 intro a_ s Z H xs us Q I r h;obtain⟨i,rfl,hz,q⟩:=h;obtain⟨u,rfl,t,rfl⟩:=vals1 r;exact PySem.P.str_of_int hz ⟨.str _,H,I.tok _,⟨_,rfl⟩,q⟩
end
structure rY(h:Heap)(x dx C:Addr)(mA:Mv):Prop where
 obj:h.get? x=some (W.instObj C dx)
 ns:h.Ns1 dx mA
 ne:dx≠x
def XZ{h:Heap}(n:h.Ns1 dx mA):∃od,h.get? dx=some od/\∀name,W.lookIn name od=some (mA name):=by
 obtain⟨o,es,ep,O,hd,G,_,J⟩:=n;refine⟨o,O,λname=>?_⟩;have e:=J name;unfold nsFind findBy at e;rw[<-Array.find?_toList]at e;unfold W.lookIn;rw[hd];dsimp only;split
 . rename_i y q;rw[q]at e;exact cS some e
 rename_i q;rw[q]at e;have a:es.toList.any (·.refKey)=false:=by
  rw[List.any_eq_false];intro y U;obtain⟨z,t,Y⟩:=G y (Array.mem_toList_iff.mp U);simp[DictEntry.refKey,Y]
 have j:¬es.toList.any (·.refKey)=true:=by rw[a];exact cn
 rw[af j];exact cS some e
def rY.look{h:Heap}{x:Addr}(I:rY h x dx C mA):∃od,W.InstAt h x (W.instObj C dx) C (some od)/\∀name,W.lookIn name od=some (mA name):=
 (XZ I.ns).elim λod j=>j.elim λG z=>⟨od,⟨I.obj,rfl,rfl,G⟩,z⟩
section
variable {prog:Program}{x:Addr}{name:Str}{v:Value}
def X3{j:Bool}{Q:VP}(X:K.In s.heap)(I:rY s.heap x dx C mA)(G:W.plainGet K C name=true)(O:W.hasDictIn K C=true)
 (z:W.findIn K (.ref C) name=some none) (Y:mA name=some v) (wu:W.handedIn v=true) (h:Q v { s with toks:=s.toks+1 }) :
 wpAny (model prog w) A (getAttr (.ref x) name j) Q E s:=by
 obtain⟨od,J,U⟩:=I.look;exact W.get_value X J (UU G).1 (W.findObj_own O z rfl (by rw[U,Y])) wu h
def X4{Q:Value×Lw->Shared->Prop}(X:K.In s.heap)(I:rY s.heap x dx C mA)(j:W.plainGet K C name=true)
 (z:W.findIn K (.ref C) name=some (some (.ref f))) (O:W.isFn K (.ref f)=true) (U:mA name=none) (h:Q (.ref f,[.ref x]) s) :
 wpAny (model prog w) A (getMethod (.ref x) name pl) Q E s:=by
 obtain⟨od,J,G⟩:=I.look;exact W.method_fn X J (UU j).1 (UU j).2 z (jP.mp O) (by show(W.lookIn name od).map (·.isSome)=some false;rw[G,U];rfl) h
def X5{ns:Ls}{Q:Unit->Shared->Prop}(X:K.In s.heap)(I:rY s.heap x dx C mA)
 (hs:W.findIn K (.ref C) "__setattr__"=some (some (.builtin "object.__setattr__"))) (hp:W.plainOver K C=true) (ht:W.takerIn K C name=some none) (hh:W.hasDictIn K C=true)
 (hw:PySem.Within mA ns) (hsz:ns.length<=sizeLine)
 (h:∀h',rY h' x dx C (λy=>if y=name then some v else mA y)->Heap.SameBut dx s.heap h'->Q () { s with heap:=h',toks:=s.toks+2 }) :
 wpAny (model prog w) A (setAttr (.ref x) name v) Q E s:=by
 obtain⟨od,J,hl⟩:=I.look;refine W.set_plain X J hs (W.osa_open (s:={ s with toks:=s.toks+1 }) (r:=none) X J hp ht λb=>?_);obtain⟨cd,Y,kQ⟩:=W.any_some hh;have hx:s.heap.get? x=some ⟨.ref C,some dx,.plain,#[]⟩:=I.obj;refine aa (aj (aa (aa (wpAny_loadPart hx (aa (W.Looks.here (s:={ s with toks:=s.toks+1 }) (W.looks_clsIn X Y) ?_))))));rw[kQ];refine aj (a:=some dx) (aa (aj (aa ?_)));refine wpAny_nsSet1 (s:={ s with toks:=s.toks+1 }) I.ns λh' z j=>?_;obtain⟨oD,a1,a0,G,O,U⟩:=z.count (PySem.Within.cons name v hw);refine aa (wpAny_lookBehind G (by rw[O];exact pastItsLine_dict (cR U (by rw[bq];omega))) ?_);exact aj (h _ ⟨(j.2 _ (gj I.ne)).trans I.obj,z,I.ne⟩ j)
def X9{R:Result->Shared->Prop}(X:K.In s.heap)(z:W.makesIn K C=true)
 (hi:W.findIn K (.ref C) "__init__"=some (some (.ref f))) (j:W.typeIn K (.ref f)=some (.type "function"))
 (h:codeAny (model prog w) (A.under (.builtin "type.__call__" ⟨.ref C::vs,kw⟩)) (.call (.ref f) ⟨.ref (s.heap.objs.size+1)::vs,kw⟩) (W.InitBack (s.heap.objs.size+1) R)
  { s with heap:=(s.heap.push W.emptyDict).push (W.instObj C s.heap.objs.size) }) :
 codeAny (model prog w) A (.call (.ref C) ⟨vs,kw⟩) R s:=by
 obtain⟨G,g,d,t,os⟩:=s;exact W.make_core (W.makes_of X z) (W.looks_findIn X hi) (λself=>W.bind_fn X self j) (.inl rfl) h
end
def ar(f:Str)(v:V):List (Str×V)->List (Str×V)
 | []=>[(f,v)]
 | (g,x)::r=>if g=f then(g,v)::r else(g,x)::ar f v r
def b9(f g:Str)(v:V):∀fs:List (Str×V),(ar f v fs).lookup g=if g=f then some v else fs.lookup g
 | []=>by
  show List.lookup g [(f,v)]=_
  by_cases h:g=f
  . have j:(g == f)=true:=jP.mpr h;simp only[List.lookup,j,ai h]
  have j:(g == f)=false:=ur.mpr h;simp only[List.lookup,j,af h]
 | (k,x)::r=>by
  have G:=b9 f g v r;rw[show ar f v ((k,x)::r)=(if k=f then(k,v)::r else(k,x)::ar f v r) from rfl]
  by_cases z:k=f
  . rw[ai z]
    by_cases h:g=k
    . have j:(g == k)=true:=jP.mpr h;simp only[List.lookup,j,ai (h.trans z)]
    have j:(g == k)=false:=ur.mpr h;simp only[List.lookup,j,af (λe:g=f=>h (e.trans z.symm))]
  rw[af z]
  by_cases h:g=k
  . have j:(g == k)=true:=jP.mpr h;simp only[List.lookup,j,af (λe:g=f=>z (h.symm.trans e))]
  have j:(g == k)=false:=ur.mpr h;simp only[List.lookup,j];exact G
def Dl(f:Str)(v:V):∀fs:List (Str×V),f∈(ar f v fs).map (·.1)/\∀g,g∈fs.map (·.1)->g∈(ar f v fs).map (·.1)
 | []=>⟨by simp[ar],λg h=>by simp at h⟩
 | (k,x)::r=>by
  obtain⟨z,G⟩:=Dl f v r;rw[show ar f v ((k,x)::r)=(if k=f then(k,v)::r else(k,x)::ar f v r) from rfl]
  by_cases j:k=f
  . rw[ai j];subst j;exact⟨by simp,λg h=>by simpa using h⟩
  rw[af j];refine⟨?_,λg h=>?_⟩
  . rw[bp];exact bL _ z
  rw[bp]at h ⊢
  rcases bc.mp h with e | e
  . exact bc.mpr (.inl e)
  exact bL _ (G g e)
def Dm(f:Str)(v:V):∀fs:List (Str×V),(ar f v fs).length<=fs.length+1
 | []=>by simp[ar]
 | (k,x)::r=>by
  have z:=Dm f v r;rw[show ar f v ((k,x)::r)=(if k=f then(k,v)::r else(k,x)::ar f v r) from rfl]
  by_cases j:k=f
  . rw[ai j,bq,bq];omega
  rw[af j,bq,bq];omega
def gP.some_of{v:V}{o:Option Value}(r:gP (some v) o):∃u,o=some u/\RelV v u:=by
 cases o with
 | none=>exact(show False from r).elim
 | some u=>exact⟨u,rfl,r⟩
def gP.none_of{o:Option Value}(r:gP none o):o=none:=by
 cases o with
 | none=>rfl
 | some u=>exact(show False from r).elim
def Ya{v:V}(r:RelV v u):W.handedIn u=true:=by
 cases v with
 | non=>cases (show u=Value.none from r);rfl
 | bl b=>cases (show u=Value.bool b from r);rfl
 | int i=>obtain⟨t,e⟩:=(show∃t,u=Value.int i t from r);cases e;rfl
 | str x=>obtain⟨t,e⟩:=(show∃t,u=Value.str x t from r);cases e;rfl
 | byt b=>obtain⟨t,e⟩:=(show∃t,u=Value.bytes b t from r);cases e;rfl
 | flt b=>obtain⟨t,e⟩:=(show∃t,u=Value.float b t from r);cases e;rfl
 | ref a=>cases (show u=Value.ref a from r);rfl
 | ty n=>cases (show u=Value.type n from r);rfl
section
variable {H H':Hp}{h:Heap}{fs aY:List (Str×V)}
def zE(hok:bQ P w H h)(e:H a=some (.ins C dx fs)):∃mA,rY h a dx C mA/\(∀f,gP (fs.lookup f) (mA f))/\PySem.Within mA (fs.map (·.1))/\fs.length<=1000/\H dx=some (.own a):=by
 obtain⟨d,z,ne,ob,mA,n,r,q⟩:=(show bE P w H h a (.ins C dx fs) from hok a _ e);exact⟨mA,⟨ob,n,ne⟩,r,q,z,d⟩
end
structure hJ(K:Fg)(C:Addr):Prop where
 pg:W.plainGet K C Str.empty=true
 hd:W.hasDictIn K C=true
 po:W.plainOver K C=true
 sa:W.findIn K (.ref C) "__setattr__"=some (some (.builtin "object.__setattr__"))
def hJ.get(c:hJ K C)(f:Str):W.plainGet K C f=true:=c.pg
def fE(K:Fg)(C:Addr)(f:Str):Prop:=W.findIn K (.ref C) f=some none
def fE.taker{f:Str}(n:fE K C f):W.takerIn K C f=some none:=by
 unfold W.takerIn;rw[show W.findIn K (.ref C) f=some none from n];rfl
structure ww(K:Fg)(C:Addr)(m:Str)(f:Addr):Prop where
 at_:W.findIn K (.ref C) m=some (some (.ref f))
 fn:W.isFn K (.ref f)=true
 kp:W.keepIn K (.ref f)=true
section
variable {H:Hp}{fs:List (Str×V)} {f:Str}{v:V}
def Yb{b:Bool}{Q:VP}(I:Inv X a_ Z H s)(e:H a=some (.ins C dx fs))(c:hJ X.K C)(n:fE X.K C f)(l:fs.lookup f=some v)
 (h:∀u s',Inv X a_ Z H s'->RelV v u->Q u s'):wpAny (model X.prog X.w) A (getAttr (.ref a) f b) Q E s:=by
 obtain⟨mA,O,r,_,_,_⟩:=zE I.hok e;obtain⟨u,z,j⟩:=gP.some_of (v:=v) (o:=mA f) (by rw[<-l];exact r f);exact X3 I.kIn O (c.get f) c.hd n z (Ya j) (h u _ (I.tok _) j)
def Dn{m:Str}{g:Addr}{Q:Value×Lw->Shared->Prop}(I:Inv X a_ Z H s)(e:H a=some (.ins C dx fs))(c:hJ X.K C)(k:ww X.K C m g)(l:fs.lookup m=none)
 (h:Q (.ref g,[.ref a]) s):wpAny (model X.prog X.w) A (getMethod (.ref a) m pl) Q E s:=by
 obtain⟨mA,O,r,_,_,_⟩:=zE I.hok e;have j:mA m=none:=gP.none_of (by rw[<-l];exact r m);exact X4 I.kIn O (c.get m) k.at_ k.fn j h
def Yc{y:V}{Q:Unit->Shared->Prop}(I:Inv X a_ Z H s)(e:H a=some (.ins C dx fs))(c:hJ X.K C)(n:fE X.K C f)(hl:fs.length<1000)(ry:RelV y u)
 (h:∀s',Inv X a_ Z (ae H a (.ins C dx (ar f y fs))) s'->Q () s'):wpAny (model X.prog X.w) A (setAttr (.ref a) f u) Q E s:=by
 obtain⟨mA,O,r,J,_,G⟩:=zE I.hok e;have hz:(fs.map (·.1)).length<=sizeLine:=by rw[ah,qf];omega
 refine X5 I.kIn O c.sa c.po n.taker c.hd J hz λh' j sb=>h _ ?_;have hd:∃o,h'.get? dx=some o:=j.ns.elim λo U=>U.elim λ_ Y=>Y.elim λ_ Yf=>Yf.elim λe' _=>⟨o,e'⟩;refine I.write (x:=a) (e:=dx) (by rw[e];exact True.intro) (.inr G) (λb q hb z=>(sb.2 b hb).trans z) hd ?_;refine⟨by rw[aE O.ne];exact G,?_,O.ne,j.obj,_,j.ns,λg=>?_,λg hg=>?_⟩
 . have:=Dm f y fs;omega
 . show gP ((ar f y fs).lookup g) (if g=f then some u else mA g);rw[b9]
   by_cases q:g=f
   . rw[ai q,ai q];exact ry
   rw[af q,af q];exact r g
 by_cases q:g=f
 . rw[q];exact(Dl f y fs).1
 refine(Dl f y fs).2 g (J g λz=>hg ?_);show(if g=f then some u else mA g)=none;rw[af q];exact z
def Inv.made(I:Inv X a_ Z H s):Inv X a_ Z (ae (ae H s.heap.objs.size (.own (s.heap.objs.size+1))) (s.heap.objs.size+1) (.ins C s.heap.objs.size []))
 { s with heap:=(s.heap.push W.emptyDict).push (W.instObj C s.heap.objs.size) }:=by
 have e1:(s.heap.push W.emptyDict).get? s.heap.objs.size=some W.emptyDict:=cT s.heap rfl;have e2:((s.heap.push W.emptyDict).push (W.instObj C s.heap.objs.size)).get? (s.heap.objs.size+1)=some (W.instObj C s.heap.objs.size):=by
  have:=cT (s.heap.push W.emptyDict) (o:=W.instObj C s.heap.objs.size) rfl
  rwa [qg]at this
 have e3:(s.heap.push W.emptyDict).Ns s.heap.objs.size (λ_=>none):=⟨W.emptyDict,#[],_,e1,rfl,(λe z=>absurd z (by simp)),λ_=>rfl⟩;have j:=I.laid (a:=s.heap.objs.size) (o:=.own (s.heap.objs.size+1)) (h':=s.heap.push W.emptyDict) (t':=s.toks) (λb u q=>bB _ q) (aD _) ⟨_,e1⟩;refine j.laid (a:=s.heap.objs.size+1) (o:=.ins C s.heap.objs.size []) (t':=s.toks) (λb u q=>bB _ q) (Ce (qg _ _)) ?_;have ne:s.heap.objs.size≠s.heap.objs.size+1:=cg (vV _);refine⟨by rw[aE ne,aw],cE _,ne,e2,λ_=>none,(Heap.Ns1.of_empty e3).at λo q=>bB _ q,λ_=>True.intro,λy G=>absurd rfl G⟩
def Yg{prog:Program}{env:Env}{f:Str}{pos:Pos}{Q:VP}(j:attributeBase e f env (eval e env)=eval e env)
 (h:wpAny (model prog w) A (eval e env) (λo z=>wpAny (model prog w) A (getAttr o f true) Q E z) E s):wpAny (model prog w) A (eval (.Attribute e f pos) env) Q E s:=
 Attribute_any_ h (by rw[arm_eval_Attribute,j])
end
inductive JZ (K:Fg) (f:Str) (Q:VK) (H1:Hp):V->Prop where
 | mk {a:Addr}{C:Addr}{dx:Addr}{fs:List (Str×V)}{v:V} (_:H1 a=some (.ins C dx fs)) (_:hJ K C) (_:fE K C f) (_:fs.lookup f=some v) (_:Q v H1):JZ K f Q H1 (.ref a)
def J2(K:Fg)(ta:TE)(f:Str):TE:=λZ H Q=>ta Z H λx H1=>JZ K f Q H1 x
inductive J3 (K:Fg) (f:Str) (D:Ends) (Z:St) (y:V) (H2:Hp):V->Prop where
 | mk {a:Addr}{C:Addr}{dx:Addr}{fs:List (Str×V)} (_:H2 a=some (.ins C dx fs)) (_:hJ K C) (_:fE K C f) (_:fs.length<1000) (_:D.nx Z (ae H2 a (.ins C dx (ar f y fs)))):J3 K f D Z y H2 (.ref a)
def Yh(K:Fg)(ta tv:TE)(f:Str):TS:=λD Z H=>tv Z H λy H1=>ta Z H1 λx H2=>J3 K f D Z y H2 x
section
variable {o value:Expr}{f:Str}{pos pos' uM:Pos}{ta tv:TE}
def bv(Y:PE X e ta)(U:attributeBase e f X.env (eval e X.env)=eval e X.env):PE X (.Attribute e f pos) (J2 X.K ta f):=by
 intro a_ s Z H Q I h;refine Yg U (thn (Y a_ s Z H _ I h) λu s1 G=>aN G λx H1 j rx J=>?_);obtain @⟨a,C,dx,fs,v,O,c,n,l,q⟩:=J;obtain rfl:u=Value.ref a:=rx;exact Yb j O c n l λu' s2 z ru=>⟨v,H1,z,ru,q⟩
def gR(ha:PE X o ta)(hv:PE X value tv)(hs:swapsWith value (some (.Attribute o f pos')) pos.line X.env=pure false):PS X (.Assign [.Attribute o f pos'] value pos) (Yh X.K ta tv f):=by
 intro a_ s Z H D I h;refine plainObj_wpAny_Assign_Attribute (thn (hv a_ s Z H _ I h) λu s1 J=>aN J λy H1 j ry q=>thn (ha a_ s1 Z H1 _ j q) λov s2 O=>aN O λx H2 z rx U=>?_) hs;obtain @⟨a,C,dx,fs,Y,c,n,l,q2⟩:=U;obtain rfl:ov=Value.ref a:=rx;exact Yc z Y c n l ry λs3 G=>⟨Z,_,G,q2⟩
end
section
variable {H:Hp}{Q:VP}{c:Value}{b:Bool}
inductive jt (K:Fg) (H:Hp):V->Value->Prop where
 | non:jt K H .non (.type "NoneType")
 | bl (x:Bool):jt K H (.bl x) (.type "bool")
 | int (i:Int):jt K H (.int i) (.type "int")
 | str (x:Str):jt K H (.str x) (.type "str")
 | flt (x:UInt64):jt K H (.flt x) (.type "float")
 | lst {a:Addr}{xs:Lv} (e:H a=some (.lst xs)):jt K H (.ref a) (.type "list")
 | frz {a:Addr}{o:Obj}{xs:Lv} (e:H a=some (.frz o (.lst xs))):jt K H (.ref a) (.type "list")
 | tup {a:Addr}{xs:Lv} (e:H a=some (.tup xs)):jt K H (.ref a) (.type "tuple")
 | dK {a:Addr}{kvs:List (aq×V)} (e:H a=some (.dK kvs)):jt K H (.ref a) (.type "dict")
 | dT {a:Addr}{kvs:List (List NI×V)} (e:H a=some (.dT kvs)):jt K H (.ref a) (.type "dict")
 | ins {a C dx:Addr}{fs:List (Str×V)} (e:H a=some (.ins C dx fs)) (j:hJ K C) (z:W.findIn K (.ref C) "__class__"=some (some (.builtin "object.__class__")))
  (J:W.specialIn K (.builtin "object.__class__") "__get__"=some (some (.builtin "getset_descriptor.__get__"))) (O:W.takesIn K (.builtin "object.__class__")=some true)
  (G:W.mroIn K C (.type "object")=some true):jt K H (.ref a) (.ref C)
def J4{x:V}{t:Value}(I:Inv X a_ Z H s)(G:RelV x u)(ty:jt X.K H x t)(e:W.kitOne X.K t c=some b)(h:∀tk,Q (.bool b) { s with toks:=tk }) :
 wpAny (model X.prog X.w) A (call (.builtin "isinstance") [u,c]) Q E s:=by
 cases ty with
 | non=>cases (show u=Value.none from G);exact oC W.kitx_none I.kIn True.intro e (λz=>nomatch z) h
 | bl y=>cases (show u=Value.bool y from G);exact oC W.kitx_bool I.kIn True.intro e (λz=>nomatch z) h
 | int i=>obtain⟨t,q⟩:=(show∃t,u=Value.int i t from G);cases q;exact oC W.kitx_int I.kIn True.intro e (λz=>nomatch z) h
 | str y=>obtain⟨t,q⟩:=(show∃t,u=Value.str y t from G);cases q;exact oC W.kitx_str I.kIn True.intro e (λz=>nomatch z) h
 | flt y=>obtain⟨t,q⟩:=(show∃t,u=Value.float y t from G);cases q;exact oC W.kitx_float I.kIn True.intro e (λz=>nomatch z) h
 | @lst a xs j=>
  cases (show u=Value.ref a from G);obtain⟨_,_,n,_,h1⟩:=(show bE X.prog X.w H s.heap a (.lst xs) from I.hok a _ j);exact oC W.kitx_list I.kIn ⟨_,h1,rfl⟩ e (λz=>nomatch z) h
 | @frz a ob xs j=>
  cases (show u=Value.ref a from G);obtain⟨_,_,_,n,_,h1⟩:=(show bE X.prog X.w H s.heap a (.frz ob (.lst xs)) from I.hok a _ j);exact oC W.kitx_list I.kIn ⟨_,h1,rfl⟩ e (λz=>nomatch z) h
 | @tup a xs j=>
  cases (show u=Value.ref a from G);obtain⟨_,_,_,p⟩:=(show bE X.prog X.w H s.heap a (.tup xs) from I.hok a _ j);obtain⟨o,h1,h2,_⟩:=p;exact oC W.kitx_tuple I.kIn ⟨o,h1,h2⟩ e (λz=>nomatch z) h
 | @dK a kvs j=>
  cases (show u=Value.ref a from G);obtain⟨_,_,vs,_,p⟩:=(show bE X.prog X.w H s.heap a (.dK kvs) from I.hok a _ j);obtain⟨o,es,ep,h1,h2,_⟩:=p;exact oC W.kitx_dict I.kIn ⟨o,h1,h2.1⟩ e (λz=>nomatch z) h
 | @dT a kvs j=>
  cases (show u=Value.ref a from G);obtain⟨_,_,xs,_,o,es,ep,h1,h2,_⟩:=(show bE X.prog X.w H s.heap a (.dT kvs) from I.hok a _ j);exact oC W.kitx_dict I.kIn ⟨o,h1,h2.1⟩ e (λz=>nomatch z) h
 | @ins a C dx fs j U Y hn a0 hm=>
  cases (show u=Value.ref a from G);obtain⟨mA,O,_⟩:=zE I.hok j;obtain⟨od,J,_⟩:=O.look;exact oC (W.kitx_own (U.get _) U.hd Y hn a0 hm) I.kIn J e (λz=>nomatch z) h
end
structure bT(k:Nat)(A:Around):Prop where
 hd:A.handled=none
 dp:A.depth+3 * k+5<recursionLimit
 un:A.units+16 * k+200<cLine
 gd:A.guards=some []
def bT.mono{j k:Nat}(r:bT k A)(h:j<=k):bT j A:=⟨r.hd,by have:=r.dp;omega,by have:=r.un;omega,r.gd⟩
def bT.deeper{k:Nat}(r:bT (k+1) A)(env:Env):bT k (A.deeper env):=
 ⟨r.hd,by have:=r.dp;show A.depth+1+3 * k+5<_;omega,by have:=r.un;show A.units+3+16 * k+200<_;omega,r.gd⟩
def bT.in1{k:Nat}(r:bT (k+1) A):bT k A.in1:=
 ⟨r.hd,by have:=r.dp;show A.depth+3 * k+5<_;omega,by have:=r.un;show A.units+1+16 * k+200<_;omega,r.gd⟩
def Yn:(A.under (.builtin "type.__call__" ⟨.ref C::us,kw⟩)).depth=A.depth+1:=by
 first | rfl | simp[Around.under,Code.weight,Code.isCreation,Code.isGuard,Code.isCaller,Code.frames,Code.isFrame,guardIds]
def Yo:(A.under (.builtin "type.__call__" ⟨.ref C::us,kw⟩)).units=A.units+1:=by
 first | rfl | simp[Around.under,Code.cUnits,Code.frames,Code.isFrame]
def Yp:(A.under (.builtin "type.__call__" ⟨.ref C::us,kw⟩)).guards=A.guards:=by
 first | rfl | simp[Around.under,pushGuards,Code.guards,Code.isGuard,guardIds]
def bT.make{k:Nat}(r:bT (k+1) A)(C:Addr)(us:Lw)(kw:List (Str×Value)):bT k (A.under (.builtin "type.__call__" ⟨.ref C::us,kw⟩)):=
 ⟨r.hd,by have:=r.dp;rw[Yn];omega,by have:=r.un;rw[Yo];omega,Yp.trans r.gd⟩
def bT.depth{k:Nat}(r:bT k A):A.depth<recursionLimit:=by have:=r.dp;omega
def bT.units{k:Nat}(r:bT k A):A.units+64<cLine:=by have:=r.un;omega
def bT.units0{k:Nat}(r:bT k A):A.units<cLine:=by have:=r.un;omega
def eg:TA:=λ_ H Q=>Q [] H
def f9(ta:TE)(tr:TA):TA:=λZ H Q=>ta Z H λx H1=>tr Z H1 λxs H2=>Q (x::xs) H2
section
variable {t:TA}{pos:Pos}
def dE:PA X [] eg:=λ_ _ _ _ H Q I h=>IE ⟨[],H,I,.nil,h⟩
def hX(O:PE X e te)(U:PA X es t)(hs:starEach (e::es) X.env=(false,eval e X.env)::starEach es X.env:=by rfl):PA X (e::es) (f9 te t):=by
 intro pos a_ s Z H Q I h;rw[hs];show wpAny _ _ (spliced ((false,eval e X.env)::backTo pos (starEach es X.env))) _ _ s;refine Cf (thn (O a_ s Z H _ I h) λu s1 G=>aN G λx H1 j r1 Y=>?_);exact thn (U pos a_ s1 Z H1 _ j Y) λus s2 J=>aN J λxs H2 z r2 q2=>⟨x::xs,H2,z,.cons r1 r2,q2⟩
def Do(t:TA):TE:=λZ H Q=>t Z H λxs H1=>xs.length<=sizeLine/\∀p,H1 p=none->Q (.ref p) (ae H1 p (.tup xs))
def Ys(t:TA):TE:=λZ H Q=>t Z H λxs H1=>xs.length<=sizeLine/\∀p,H1 p=none->Q (.ref p) (ae H1 p (.lst xs))
def Ka{x1}(h:PA X es t):PE X (.Tuple es x1 pos) (Do t):=by
 intro a_ s Z H Q I Y;refine wpAny_Tuple_spliced (thn (h pos a_ s Z H _ I Y) λus j J=>aN J λxs H1 G r O=>O.elim λz q=>⟨by rw[<-r.length];exact z,?_⟩);have U:H1 j.heap.objs.size=none:=G.hok.fresh (aD _);refine⟨.ref j.heap.objs.size,ae H1 j.heap.objs.size (.tup xs),G.laid (t':=j.toks) (λb u e=>bB _ e) (aD _) ?_,rfl,q _ U⟩;exact⟨z,us,r,⟨_,cT _ rfl,rfl,_,rfl⟩⟩
def Yv(h:PA X es t):PE X (.List es pos) (Ys t):=by
 intro a_ s Z H Q I Y;refine wpAny_List_spliced (thn (h pos a_ s Z H _ I Y) λus j J=>aN J λxs H1 G r O=>O.elim λz q=>⟨by rw[<-r.length];exact z,?_⟩);have U:H1 j.heap.objs.size=none:=G.hok.fresh (aD _);refine⟨.ref j.heap.objs.size,ae H1 j.heap.objs.size (.lst xs),G.laid (t':=j.toks) (λb u e=>bB _ e) (aD _) ?_,rfl,q _ U⟩;exact⟨z,us,0,r,cT _ rfl⟩
end
abbrev Sp:=Lv->Hp->VK->XK->Prop
variable {sp:Sp}
abbrev hZ:=List Env->Hp->Shared->XK->Value->Shared->Prop
variable {CX:hZ}
structure mR(P:Program)(w:World)(K:Fg)(mg:Mv)(base:Heap)(A:Around)(outer:List Env)(s:Shared)(H:Hp):Prop where
 frames:A.frames=some outer
 mod:Mod K mg base
 bs:∀b o,base.get? b=some o->s.heap.get? b=some o/\H b=none
 bsz:base.objs.size<=s.heap.objs.size
 funs:s.heap.FunFrames base outer
 frf:∀b∈bR outer,H b=none
 hok:bQ P w H s.heap
 bare:AllBare s.gens
def CE(outer:List Env)(P:Program)(w:World)(H:Hp)(s:Shared)(Q:VK)(u:Value)(s':Shared):Prop:=
 ∃v H',s'.os=s.os/\AllBare s'.gens/\Un (bR outer) [] H H' s.heap s'.heap/\bQ P w H' s'.heap/\RelV v u/\Q v H'
def CR(CX:hZ)(outer:List Env)(P:Program)(w:World)(H:Hp)(s:Shared)(Q:VK)(E:XK)(r:Result)(s':Shared):Prop:=
 match r with
 | .ok (.ret u)=>CE outer P w H s Q u s'
 | .ok _=>False
 | .error e=>CX outer H s E e s'
structure au(P:Program)(w:World)(K:Fg)(mg:Mv)(base:Heap)(CX:hZ)(k:Nat)(f:Addr)(fd:Fy)(ps:Ls)(sp:Sp):Prop where
 len:∀vs H Q E,sp vs H Q E->vs.length=ps.length
 run:∀(A:Around) (outer:List Env) (s:Shared) (H:Hp) (args:Args) (us:Lw) (vs:Lv) (Q:VK) (E:XK),bT k A->mR P w K mg base A outer s H->BindsTo s fd args (ps.zip us)->aX vs us->sp vs H Q E ->
  codeAny (model P w) A (.call (.ref f) args) (CR CX outer P w H s Q E) s
def au.mono{j k:Nat}(F:au P w K mg base CX j f fd ps sp)(h:j<=k) :
 au P w K mg base CX k f fd ps sp:=⟨F.len,λA outer s H args us vs Q E z=>F.run A outer s H args us vs Q E (z.mono h)⟩
def au.imp{k:Nat}{j:Sp}(F:au P w K mg base CX k f fd ps sp)
 (h:∀vs H Q E,j vs H Q E->sp vs H Q E):au P w K mg base CX k f fd ps j:=
 ⟨λvs H Q E q=>F.len vs H Q E (h _ _ _ _ q),λA outer s H args us vs Q E J G z O hs=>F.run A outer s H args us vs Q E J G z O (h _ _ _ _ hs)⟩
def mR.make{outer:List Env}{H:Hp}(e:mR P w K mg base A outer s H)(C:Addr)(us:Lw)(kw:List (Str×Value)) :
 mR P w K mg base (A.under (.builtin "type.__call__" ⟨.ref C::us,kw⟩)) outer s H:=⟨by first | exact e.frames | (simpa [Around.under,Code.envs,Code.isFrame,pushEnvs]using e.frames),e.mod,e.bs,e.bsz,e.funs,e.frf,e.hok,e.bare⟩
def mR.in1{outer:List Env}{H:Hp}(e:mR P w K mg base A outer s H) :
 mR P w K mg base A.in1 outer s H:=⟨e.frames,e.mod,e.bs,e.bsz,e.funs,e.frf,e.hok,e.bare⟩
section
variable {H:Hp}
def Inv.env0(I:Inv X a_ Z H s):mR X.prog X.w X.K X.mg X.base X.A X.stack s H:=
 ⟨I.ok.frames,I.ok.mod,I.bs,cR I.ok.bsz I.sz,I.stack,I.stkFree,I.hok,I.bare⟩
def Inv.after{Q:VK}(I:Inv X a_ Z H s)(h:CE X.stack X.prog X.w H s Q u s'):EP X a_ Z Q u s':=by
 obtain⟨v,H',os,j,un,hok,r,q⟩:=h;obtain⟨G,g,d,t,J⟩:=s';obtain rfl:J=s.os:=os;exact⟨v,H',I.call (h':=G) (g':=g) (d':=d) (t':=t) (ch:=[]) un hok j (λb z=>absurd z (by simp)),r,q⟩
end
def Dp(sp:Sp)(cH:Lv)(E:XK)(t:TA):TE:=λZ H Q=>t Z H λvs H1=>sp (vs++cH) H1 Q E
inductive Kc (C:Addr) (m:Str) (sp:Sp) (cH:Lv) (E:XK) (t:TA) (Z:St) (Q:VK) (H1:Hp):V->Prop where
 | mk {a:Addr}{dx:Addr}{fs:List (Str×V)} (_:H1 a=some (.ins C dx fs)) (_:fs.lookup m=none) (_:t Z H1 λvs H2=>sp ((.ref a)::(vs++cH)) H2 Q E):Kc C m sp cH E t Z Q H1 (.ref a)
def Dq(C:Addr)(m:Str)(sp:Sp)(cH:Lv)(E:XK)(ta:TE)(t:TA):TE:=λZ H Q=>ta Z H λx H1=>Kc C m sp cH E t Z Q H1 x
def Kd(C:Addr)(sp:Sp)(cH:Lv)(E:XK)(t:TA):TE:=λZ H Q=>t Z H λvs H1=>∀x dx,H1 x=none->H1 dx=none->dx≠x ->
 sp (.ref x::(vs++cH)) (ae (ae H1 dx (.own x)) x (.ins C dx [])) (λv H2=>v=.non/\Q (.ref x) H2) E
def Binds(K:Fg)(fd:Fy)(ps:Ls)(ds:Lw):Prop:=
 ∀(s:Shared) (us:Lw),K.In s.heap->(us++ds).length=ps.length->BindsTo s fd ⟨us,[]⟩ (ps.zip (us++ds))
def Binds.all(h:∀us:Lw,us.length=ps.length->bindArgs fd ⟨us,[]⟩=pure (ps.zip us)):Binds K fd ps []:=λs us _ j=>by
 rw[i4]at j ⊢;exact .of_eq (h us j)
def lI(CX:hZ)(X:Cx)(E:XK):Prop:=∀(a_:Po) (Z:St) (H:Hp) (s:Shared) (e:Value) (s':Shared),Inv X a_ Z H s->CX X.stack H s E e s'->X.xe e s'
section
variable {k:Nat}{cH:Lv}{ds:Lw}{E:XK}{x m:Str}{pos apos:Pos}{o:Expr}{ta:TE}{t:TA}
def Dr{H:Hp}{Q:VK}{vs:Lv}(F:au X.prog X.w X.K X.mg X.base CX k f fd ps sp)(O:bT k X.A)(G:Binds X.K fd ps ds)(hd:aX cH ds)(U:lI CX X E)
 (I:Inv X a_ Z H s) (r:aX vs us) (h:sp (vs++cH) H Q E):wpAny (model X.prog X.w) X.A (call (.ref f) us) (EP X a_ Z Q) X.xe s:=by
 have z:aX (vs++cH) (us++ds):=r.append hd;have J:(us++ds).length=ps.length:=by rw[<-z.length];exact F.len _ _ _ _ h
 refine Cg (qh (F.run X.A X.stack s H ⟨us,[]⟩ (us++ds) (vs++cH) Q E O I.env0 (G s us I.kIn J) z h) λr s' j=>?_);cases r with
 | error e=>exact U a_ Z H s e s' I j
 | ok fl=>
  cases fl with
  | ret u=>exact I.after j
  | next=>exact False.elim j
  | brk=>exact False.elim j
  | cont=>exact False.elim j
def Ke(F:au X.prog X.w X.K X.mg X.base CX k f fd ps sp)(hr:bT k X.A)(hg:Gl X x)(hm:X.mg x=some (.ref f))(hk:W.keepIn X.K (.ref f)=true)(U:Binds X.K fd ps ds)(hd:aX cH ds)(hx:lI CX X E)
 (O:PA X (e::es) t) (J:(x == ("__debug__":Str))=false:=by decide) (Y:starEach (e::es) X.env=(false,eval e X.env)::starEach es X.env:=by rfl) (G:(backTo pos (starEach es X.env)).any (·.1)=false:=by rfl) :
 PE X (.Call (.Name x p) (e::es) [] pos) (Dp sp cH E t):=by
 intro a_ s Z H Q I h;refine yM (rP I hg hm ?_ J);refine IF (h₀:=X.base) I.ok.mod.kin hk (thn (O pos a_ s Z H _ I h) λus s1 z=>aN z λvs H1 j r q=>⟨j.kIn,?_⟩) Y G;exact Dr F hr U hd hx j r q
def ia(he:PE X o ta)(c:hJ X.K C)(G:ww X.K C m f)(F:au X.prog X.w X.K X.mg X.base CX k f fd ps sp)(hr:bT k X.A)(hb:Binds X.K fd ps ds)(hd:aX cH ds)(hx:lI CX X E)(ha:PA X (e::es) t)
 (eO:starEach (e::es) X.env=(false,eval e X.env)::starEach es X.env:=by rfl) (cV:(backTo pos (starEach es X.env)).any (·.1)=false:=by rfl)
 (ht:eval (.Call (.Attribute o m apos) (e::es) [] pos) X.env=(do
  let J <-eval o X.env
  standAt apos.atName
  let (f,first) <-holding [J] (getMethod J m pl)
  callWith pos f first (backTo pos (starEach (e::es) X.env)) (backToKw pos (keywordEach [] X.env))):=by rfl) :
 PE X (.Call (.Attribute o m apos) (e::es) [] pos) (Dq C m sp cH E ta t):=by
 intro a_ s Z H Q I h;refine UV (pl:=pl) (thn (he a_ s Z H _ I h) λu s1 Y=>aN Y λx H1 j rx O=>?_) ht;obtain @⟨a,dx,fs,ea,l,q⟩:=O;obtain rfl:u=Value.ref a:=rx;refine Dn j ea c G l ?_;refine IF (first:=[.ref a]) (h₀:=X.base) I.ok.mod.kin G.kp (thn (ha pos a_ s1 Z H1 _ j q) λus s2 U=>aN U λvs H2 z r q2=>⟨z.kIn,?_⟩) eO cV;exact Dr (us:=.ref a::us) (vs:=.ref a::vs) F hr hb hd hx z (.cons rfl r) q2
def fF(he:PE X o ta)(c:hJ X.K C)(z:ww X.K C m f)(F:au X.prog X.w X.K X.mg X.base CX k f fd ps sp)(hr:bT k X.A)(Y:Binds X.K fd ps ds)(hd:aX cH ds)(hx:lI CX X E)
 (ht:eval (.Call (.Attribute o m apos) [] [] pos) X.env=(do
  let G <-eval o X.env
  standAt apos.atName
  let (f,first) <-holding [G] (getMethod G m pl)
  callWith pos f first (backTo pos (starEach [] X.env)) (backToKw pos (keywordEach [] X.env))):=by rfl) :
 PE X (.Call (.Attribute o m apos) [] [] pos) (Dq C m sp cH E ta eg):=by
 intro a_ s Z H Q I h;refine UV (pl:=pl) (thn (he a_ s Z H _ I h) λu s1 J=>aN J λx H1 j rx O=>?_) ht;obtain @⟨a,dx,fs,U,l,q⟩:=O;obtain rfl:u=Value.ref a:=rx;refine Dn j U c z l ?_;exact W.callWith_K0 (first:=[.ref a]) j.kIn z.kp (Dr (us:=[.ref a]) (vs:=[.ref a]) F hr Y hd hx j (.cons rfl .nil) q)
structure Mk(K:Fg)(C f:Addr):Prop where
 makes:W.makesIn K C=true
 init:W.findIn K (.ref C) "__init__"=some (some (.ref f))
 fn:W.isFn K (.ref f)=true
 kp:W.keepIn K (.ref C)=true
def Kf{H:Hp}{Q:VK}{vs:Lv}(M:Mk X.K C f)(F:au X.prog X.w X.K X.mg X.base CX k f fd ps sp)(hr:bT (k+1) X.A)(Y:Binds X.K fd ps ds)(hd:aX cH ds)
 (hx:lI CX X E) (I:Inv X a_ Z H s) (r:aX vs us)
 (h:∀x dx,H x=none->H dx=none->dx≠x->sp (.ref x::(vs++cH)) (ae (ae H dx (.own x)) x (.ins C dx [])) (λv H2=>v=.non/\Q (.ref x) H2) E) :
 wpAny (model X.prog X.w) X.A (call (.ref C) us) (EP X a_ Z Q) X.xe s:=by
 have G:=h (s.heap.objs.size+1) s.heap.objs.size (I.hok.fresh (vW _)) (I.hok.fresh (aD _)) (cg (vV _));have z:=Inv.made (C:=C) I;have J:aX (V.ref (s.heap.objs.size+1)::(vs++cH)) (Value.ref (s.heap.objs.size+1)::(us++ds)):=.cons rfl (r.append hd);have hl:(Value.ref (s.heap.objs.size+1)::us++ds).length=ps.length:=by
  have e:=J.length;rw[F.len _ _ _ _ G]at e;exact e.symm
 refine Cg (X9 (f:=f) I.kIn M.makes M.init (jP.mp M.fn) (qh (F.run _ X.stack _ _ ⟨Value.ref (s.heap.objs.size+1)::us,[]⟩ (Value.ref (s.heap.objs.size+1)::(us++ds)) _ _ E (hr.make C us [])
  (z.env0.make C us []) (Y _ (Value.ref (s.heap.objs.size+1)::us) z.kIn hl) J G) λr s' j=>?_))
 cases r with
 | error e=>exact hx a_ Z _ _ e s' z j
 | ok fl=>
  cases fl with
  | ret u=>
   obtain⟨v,H',O,rv,U,q3⟩:=z.after j;subst U;exact⟨rv,⟨V.ref (s.heap.objs.size+1),H',O,rfl,q3⟩⟩
  | next=>exact False.elim j
  | brk=>exact False.elim j
  | cont=>exact False.elim j
def qt(M:Mk X.K C f)(F:au X.prog X.w X.K X.mg X.base CX k f fd ps sp)(hr:bT (k+1) X.A)(hg:Gl X x)(hm:X.mg x=some (.ref C))(U:Binds X.K fd ps ds)(hd:aX cH ds)(hx:lI CX X E)
 (O:PA X (e::es) t) (J:(x == ("__debug__":Str))=false:=by decide) (Y:starEach (e::es) X.env=(false,eval e X.env)::starEach es X.env:=by rfl) (G:(backTo pos (starEach es X.env)).any (·.1)=false:=by rfl) :
 PE X (.Call (.Name x p) (e::es) [] pos) (Kd C sp cH E t):=by
 intro a_ s Z H Q I h;refine yM (rP I hg hm ?_ J);refine IF (h₀:=X.base) I.ok.mod.kin M.kp (thn (O pos a_ s Z H _ I h) λus s1 z=>aN z λvs H1 j r q=>⟨j.kIn,?_⟩) Y G;exact Kf M F hr U hd hx j r q
def YF(M:Mk X.K C f)(F:au X.prog X.w X.K X.mg X.base CX k f fd ps sp)(O:bT (k+1) X.A)(G:Gl X x)(J:X.mg x=some (.ref C))(z:Binds X.K fd ps ds)(hd:aX cH ds)(U:lI CX X E)
 (j:(x == ("__debug__":Str))=false:=by decide):PE X (.Call (.Name x p) [] [] pos) (Kd C sp cH E eg):=by
 intro a_ s Z H Q I h;refine yM (rP I G J ?_ j);exact W.callWith_K0 I.kIn M.kp (Kf (us:=[]) M F O z hd U I .nil h)
end
def PK(X:Cx)(fG:List Keyword)(t:TA):Prop:=
 ∀(pos:Pos) (a_:Po) (s:Shared) (Z:St) (H:Hp) (Q:Lv->Hp->Prop),Inv X a_ Z H s->t Z H Q->wpAny (model X.prog X.w) X.A (evalAll ((backToKw pos (keywordEach fG X.env)).map (·.2))) (AP X a_ Z Q) X.xe s
section
variable {k:Nat}{ks:Ls}{E:XK}{x m:Str}{pos apos wx:Pos}{o:Expr}{fG:List Keyword}{ta:TE}{t tk:TA}{nm:Option Str}
def YG:PK X [] eg:=λ_ _ _ _ H Q I h=>wpAny_evalAll_nil ⟨[],H,I,.nil,h⟩
def YH(O:PE X e te)(U:PK X fG t):PK X (⟨nm,e,wx⟩::fG) (f9 te t):=by
 intro pos a_ s Z H Q I h;show wpAny _ _ (evalAll ((do let v <-eval e X.env;standAt pos;pure v)::(backToKw pos (keywordEach fG X.env)).map (·.2))) _ _ s;refine wpAny_evalAll_cons (aa (thn (O a_ s Z H _ I h) λu s1 G=>aN G λx H1 j r1 Y=>aa (UW (aj ?_))));exact thn (U pos a_ s1 Z H1 _ j Y) λus s2 J=>aN J λxs H2 z r2 q2=>⟨x::xs,H2,z,.cons r1 r2,q2⟩
variable {g:Lw->Lw->Lw}{gV:Lv->Lv->Lv}
end
structure aM(N P:Ls)(sc:Scope):Prop where
 kind:sc.kind=.function
 co:sc.isCoroutine=false
 gen:sc.isGenerator=false
 nd:N.Nodup
 pre:N.take P.length=P
 par:∀x∈P,sc.names.lookup x=some .local\/sc.names.lookup x=some .cell
 nofree:∀y∈sc.names,y.2≠.free
def Kg{x:Str}:∀{binds:List (Str×Value)}{m:Mv},(∀v,(x,v)∉binds)->bindL kindOf binds m x=m x
 | [],_,_=>rfl
 | (n,v)::r,m,h=>by
  unfold bindL;rw[Kg λw j=>h w (bL _ j)];split
  . have:x≠n:=by rintro rfl;exact h v bA
    simp[this]
  rfl
def Kh{x:Str}:∀{binds:List (Str×Value)}{m:Mv},(∀v,(x,v)∉binds)->bindC kindOf binds m x=m x
 | [],_,_=>rfl
 | (n,v)::r,m,h=>by
  unfold bindC;rw[Kh λw j=>h w (bL _ j)];split
  . rfl
  have:x≠n:=by rintro rfl;exact h v bA
  simp[this]
def Ki{x:Str}{v:Value}:∀{P:Ls}{vs:Lw}{i:Nat}{m:Mv},P.Nodup->P[i]?=some x->vs[i]?=some v->kindOf x=some .local ->
 bindL kindOf (P.zip vs) m x=some v
 | [],_,_,_,_,h,_,_=>by simp at h
 | _::_,[],_,_,_,_,h,_=>by simp at h
 | p::P,w::vs,0,m,nd,h1,h2,hk=>by
  simp at h1 h2;subst h1;subst h2;show bindL kindOf ((p,w)::P.zip vs) m p=_;unfold bindL;rw[Kg λv j=>(i5.mp nd).1 (UX j).1,ai hk];simp
 | p::P,w::vs,i+1,m,nd,h1,h2,hk=>by
  show bindL kindOf ((p,w)::P.zip vs) m x=_;unfold bindL;exact Ki (i:=i) (i5.mp nd).2 (by simpa using h1) (by simpa using h2) hk
def Kj{x:Str}{v:Value}:∀{P:Ls}{vs:Lw}{i:Nat}{m:Mv},P.Nodup->P[i]?=some x->vs[i]?=some v->kindOf x≠some .local ->
 bindC kindOf (P.zip vs) m x=some v
 | [],_,_,_,_,h,_,_=>by simp at h
 | _::_,[],_,_,_,_,h,_=>by simp at h
 | p::P,w::vs,0,m,nd,h1,h2,hk=>by
  simp at h1 h2;subst h1;subst h2;show bindC kindOf ((p,w)::P.zip vs) m p=_;unfold bindC;rw[Kh λv j=>(i5.mp nd).1 (UX j).1,af hk];simp
 | p::P,w::vs,i+1,m,nd,h1,h2,hk=>by
  show bindC kindOf ((p,w)::P.zip vs) m x=_;unfold bindC;exact Kj (i:=i) (i5.mp nd).2 (by simpa using h1) (by simpa using h2) hk
def start(N:Ls)(vs:Lv):St:=vs.map some++List.replicate (N.length - vs.length) none
def qv(CX:hZ)(P:Program)(w:World)(K:Fg)(mg:Mv)(base:Heap)(N:Ls)(b_:Str)(scope:Scope)(f:Addr)(cd:Value)(A:Around)(outer:List Env)(s:Shared)(H:Hp)(E:XK):Cx where
 prog:=P
 w:=w
 K:=K
 mg:=mg
 base:=base
 A:=A.deeper (envOfC b_ scope s.heap.objs.size f cd)
 N:=N
 s₀:=s
 H₀:=H
 env:=envOfC b_ scope s.heap.objs.size f cd
 outer:=outer
 stack:=envOfC b_ scope s.heap.objs.size f cd::outer
 ex:=[]
 calm:=true
 fn:=λ_=>true
 pn:=[]
 xe:=λe s'=>wpAny (model P w) (A.deeper (envOfC b_ scope s.heap.objs.size f cd)) (leaving (envOfC b_ scope s.heap.objs.size f cd) e) (λ_ j=>CX outer H s E e j) (λz j=>CX outer H s E z j) s'
def Kk{sc:Scope}{x:Str}(h:sc.names.lookup x=some .cell):∃c,(cellsFrom n sc.names []).lookup x=some c:=by
 have q:=ar9 sc.names n [] (.inl h);exact Ci.mp q
def YK{b_:Str}{scope:Scope}{cd:Value}{outer:List Env}{s1:Shared}{H:Hp}{E:XK}{vs:Lv}
 (S:aM N ps scope) (hd:A.handled=none) (j:mR P w K mg base A outer s H) (hl:vs.length=ps.length) (r:aX vs us)
 (x:InCallC s s.heap.objs.size (bindL (envOfC b_ scope s.heap.objs.size f cd).kindOf (ps.zip us) λ_=>none) (cellsFrom (s.heap.objs.size+1) scope.names []) (bindC (envOfC b_ scope s.heap.objs.size f cd).kindOf (ps.zip us) λ_=>none) s1) :
 Inv (qv CX P w K mg base N b_ scope f cd A outer s H E) [] (start N vs) H s1:=by
 have cV:ps.length<=N.length:=by have:=cS List.length S.pre;rw[d5]at this;omega
 obtain⟨h1,tk,rfl,U⟩:=x.done;have J:∀b:Addr,b∉(qv CX P w K mg base N b_ scope f cd A outer s H E).ex:=λb z=>absurd (show b∈([]:List Addr) from z) (by simp);refine⟨⟨j.mod,S.kind,rfl,rfl,aD _,λy z c h1 h2=>?_,λy hy=>?_,λy c _ h=>?_,λ_=>hd,Around.frames_deeper j.frames,.inr ⟨rfl,rfl⟩,λb z=>absurd z (J b),j.bs,j.bsz,λb _ _=>J b,λb z=>absurd z (J b),j.funs,j.frf⟩,
  rfl,j.bare,Un.kept U,⟨_,x.toInCall.ns,λi y v h1 h2 h3=>?_⟩,λy c h=>⟨_,x.cell y c h⟩,j.hok.fresh (aD _),λy c h=>?_,λp G=>absurd (show p∈([]:Po) from G) (by simp),j.hok.kept U,?_⟩
 . exact name_of_addr x.apart (uu h1) (uu h2)
 . have hy:scope.names.lookup y=some .cell\/scope.names.lookup y=some .free:=hy
   rcases hy with hy | hy
   . exact Kk hy
   exact absurd rfl (S.nofree _ (uu hy))
 . exact oB (x.above y c (uu h))
 . have hi:i<vs.length:=by
    unfold start at h2
    by_cases hi:i<vs.length
    . exact hi
    rw[Cj (by simpa using hi)]at h2;rw[asa]at h2;split at h2<;>cases h2
   have ha:vs[i]?=some v:=by
    unfold start at h2;rw[UY (by simpa using hi),cz]at h2;cases e:vs[i]? with
    | none=>rw[e]at h2;cases h2
    | some a=>rw[e]at h2;cases h2;rfl
   obtain⟨u,Y,rv⟩:=r.get ha;have G:ps[i]?=some y:=by
    rw[<-S.pre,List.getElem?_take_of_lt (by omega)];exact h1
   have O:ps.Nodup:=by rw[<-S.pre];exact S.nd.sublist (List.take_sublist _ _)
   refine⟨u,rv,?_⟩
   rcases S.par y (d6 G) with k | k
   . exact .inl ⟨k,Ki O G Y k⟩
   obtain⟨c,e⟩:=Kk (n:=s.heap.objs.size+1) k;refine .inr ⟨.inl k,c,e,?_⟩;have q:=x.cell y c e;rw[Kj O G Y (by show scope.names.lookup y≠_;rw[k];decide)]at q;exact q
 . exact j.hok.fresh (oB (x.above y c (uu h)))
 unfold start;show _=N.length;rw[bD,ah,UZ];omega
def Dt{k:Nat}{name b_:Str}{params:Arguments}{scope:Scope}{Y kV a0 pm j ct oc:Value}{an od:Oa}
 {iN:Array (Option Value)} (lk:K.lookup f=some ⟨oc,od,.func (W.fnOf name b_ params body scope Y kV a0 pm an j ct),iN⟩) (iw:W.codeIn K j b_=true) (S:aM N ps scope)
 (len:∀vs H Q E,sp vs H Q E->vs.length=ps.length)
 (oU:∀(A:Around) (outer:List Env) (s:Shared) (H:Hp) (vs:Lv) (Q:VK) (E:XK),bT k (A.deeper (envOfC b_ scope s.heap.objs.size f j))->sp vs H Q E ->
  ∃t,bu (qv CX P w K mg base N b_ scope f j A outer s H E) body t/\t { nx:=λ_ H'=>Q .non H',rt:=Q } (start N vs) H) :
 au P w K mg base CX (k+1) f (W.fnOf name b_ params body scope Y kV a0 pm an j ct) ps sp:=by
 refine⟨len,λA outer s H args us vs Q E G z hb r ju=>?_⟩;have hl:=len _ _ _ _ ju;have U:K.In s.heap:=z.mod.kin.keeps λb o e=>(z.bs b o e).1;have a2:s.heap.NoLimit:=z.mod.nolimit.keeps λb o e=>(z.bs b o e).1;have YL:∀y∈ps.zip us,scope.names.lookup y.1=some .local\/(scope.names.lookup y.1=some .cell/\((cellsFrom (s.heap.objs.size+1) scope.names []).lookup y.1).isSome=true):=λ⟨n,v⟩ hy=>by
  rcases S.par n (UX hy).1 with q | q
  . exact .inl q
  exact .inr ⟨q,ar9 _ _ _ (.inl q)⟩
 refine codeAny_call_function G.depth (U _ _ lk) rfl S.co S.gen rfl (W.codeRec_of U iw) (hb _ _ _ _ ?_);refine wpAny_newFunctionEnv_cells S.kind YL λenv he s1 x=>?_;subst he;refine⟨a2.keeps x.toInCall.keep,codeAny_func ?_⟩;obtain⟨t,ht,hq⟩:=oU A outer s H vs Q E (G.deeper _) ju;have I:Inv (qv CX P w K mg base N b_ scope f j A outer s H E) [] (start N vs) H s1:=YK S G.hd z hl r x;refine dH (ht [] s1 (start N vs) H _ I hq) (λfl s' hs=>?_) λe s' hs=>hs;have a1:∀{σ':St}{H':Hp}{v:V}{u:Value},Inv (qv CX P w K mg base N b_ scope f j A outer s H E) [] σ' H' s'->RelV v u->Q v H'->CE outer P w H s Q u s':=
  λ{σ' H' v u} J O q=>⟨v,H',J.os,J.bare,J.base,J.hok,O,q⟩
 cases fl with
 | ret u=>
  obtain⟨v,σ',H',J,O,q⟩:=hs;exact a1 J O q
 | next=>
  obtain⟨σ',H',J,q⟩:=hs;exact a1 (v:=V.non) (u:=Value.none) J rfl q
 | brk=>
  obtain⟨_,_,_,q⟩:=hs;exact False.elim q
 | cont=>
  obtain⟨_,_,_,q⟩:=hs;exact False.elim q
section
variable {x:Str}{pos:Pos}{t:TA}{id T:String}{r:Lv->Hp->VK->Prop}
def zG(r:Lv->Hp->VK->Prop)(t:TA):TE:=λZ H Q=>t Z H λvs H1=>r vs H1 Q
def cW(U:eV X (.builtin id) r)(hg:Gl X x)(hm:X.mg x=none)(hv:bootBuiltins x=some (.builtin id))(O:PA X (e::es) t)(hn:x≠"__name__":=by decide)(J:(x == ("__debug__":Str))=false:=by decide)
 (Y:starEach (e::es) X.env=(false,eval e X.env)::starEach es X.env:=by rfl) (G:(backTo pos (starEach es X.env)).any (·.1)=false:=by rfl):PE X (.Call (.Name x p) (e::es) [] pos) (zG r t):=by
 intro a_ s Z H Q I h;refine yM (rQ I hg hm hv ?_ hn J);exact PyProof.Rows.callWith_builtin1 (thn (O pos a_ s Z H _ I h) λus s1 z=>aN z λvs H1 j r1 q1=>U a_ s1 Z H1 vs us Q j r1 q1) Y G
def eX(U:eV X (.type T) r)(hg:Gl X x)(hm:X.mg x=none)(hv:bootBuiltins x=some (.type T))(O:PA X (e::es) t)(hn:x≠"__name__":=by decide)(J:(x == ("__debug__":Str))=false:=by decide)
 (Y:starEach (e::es) X.env=(false,eval e X.env)::starEach es X.env:=by rfl) (G:(backTo pos (starEach es X.env)).any (·.1)=false:=by rfl):PE X (.Call (.Name x p) (e::es) [] pos) (zG r t):=by
 intro a_ s Z H Q I h;refine yM (rQ I hg hm hv ?_ hn J);exact ID (thn (O pos a_ s Z H _ I h) λus s1 z=>aN z λvs H1 j r1 q1=>U a_ s1 Z H1 vs us Q j r1 q1) Y G
end
end L2
namespace HT
def lexLt:List Int->List Int->Bool
 | [],[]=>false
 | [],_::_=>true
 | _::_,[]=>false
 | x::xs,y::ys=>if x=y then lexLt xs ys else decide (x<y)
def qx(x y:Int)(xs ys:List Int):lexLt (x::xs) (y::ys)=if x=y then lexLt xs ys else decide (x<y):=rfl
def Km:lexLt [] []=false:=rfl
def Kn(y:Int)(ys:List Int):lexLt [] (y::ys)=true:=rfl
def Ko(x:Int)(xs:List Int):lexLt (x::xs) []=false:=rfl
def zH(A:Around)(s:Shared)(a:Int)(t:Tok)(c:Int)(u:Tok):∃e,SeqAt.EqAt A s (.int a t) (.int c u) e/\(e=true↔a=c):=
 ⟨(a == c),SeqAt.EqAt.int_int a t c u,by simp⟩
def Kp(A:Around)(s:Shared)(a:Int)(t:Tok)(c:Int)(u:Tok)(prog:Program)(w:World)(E:VP)(Q:VP)(h:Q (.bool (decide (a<c))) s) :
 wpAny (model prog w) A (richCompare .Lt (.int a t) (.int c u)) Q E s:=
 (PyProof.Rows.lt_int h:wpAny (model prog w) A (compareOp .Lt (.int a t) (.int c u)) Q E s)
section
open PySem.SeqAt
open PySem.AutoSeq1 (wpAny_loadPart')
open PySem.MeetsSeq PySem.MeetsSeq2 PySem.MeetsSeq3
def YO(l b:Addr)(z j:Av)(n n2:Nat)(dd dQ:Oa)(sl eP:Array (Option Value))(ns ms:List Int)(hi:IntsAre z.toList ns)(Y:IntsAre j.toList ms) :
 Meets (Builtin.«tuple.__lt__» ⟨[.ref l,.ref b],[]⟩)
  (λ_ R s=>s.heap.get? l=some { cls:=.type "tuple",dict:=dd,data:=.seq z n,slots:=sl }/\s.heap.get? b=some { cls:=.type "tuple",dict:=dQ,data:=.seq j n2,slots:=eP } /\
   R (.ok (.ret (.bool (lexLt ns ms)))) s):=
 .of_wp λprog w A R s h=>by
  obtain⟨O,g,d,tk,os⟩:=s;obtain⟨hl,hb,h⟩:=h;have f2:=Ck;have z1:z.size=ns.length:=by rw[<-hi.length];simp
  have z2:j.size=ms.length:=by rw[<-Y.length];simp
  wp_walk using wpAny_loadPart' hl,wpAny_loadPart' hb,oq _ (λrest b s'=>b.1=none/\s'=⟨O,g,d,tk,os⟩/\∃(vs U:Lw) (G J:List Int),rest=vs.zip U /\
   IntsAre vs G/\IntsAre U J/\G.length+j.size=J.length+z.size/\R (.ok (.ret (.bool (lexLt G J)))) ⟨O,g,d,tk,os⟩) _
  case turn=>
   rintro⟨y,x⟩ rest b s' ⟨gs,rfl,vs,U,G,J,hz,se,lJ,hlen,hR⟩;cases se with
   | nil=>rw[U0]at hz;cases hz
   | cons a t Du=>
    cases lJ with
    | nil=>rw[U1]at hz;cases hz
    | cons c u Dv=>
     rw[rB]at hz;injection hz with oV qy
     injection oV with hy hx
     subst hy hx;rw[qx]at hR;simp only[bq]at hlen;obtain⟨e,he,wy⟩:=zH A.in1 ⟨O,g,d,tk,os⟩ a t c u;refine aa (he prog w _ _ ?_);cases e with
     | true=>
      rw[ai (wy.mp rfl)]at hR
      wp_walk
      exact⟨rfl,rfl,_,_,_,_,qy,Du,Dv,by omega,hR⟩
     | false=>
      rw[af (λq=>absurd (wy.mpr q) cn)]at hR;have sf:=Kp A.in1 ⟨O,g,d,tk,os⟩ a t c u prog w
      wp_walk using sf
      exact⟨_,rfl,by simpa using hR⟩
  case fin=>
   rintro⟨b1,b2⟩ s' ⟨gs,rfl,vs,U,G,J,hz,se,lJ,hlen,hR⟩;simp only at gs;subst gs;have hv:lexLt G J=decide (z.size<j.size):=by
    cases se with
    | nil=>
     cases lJ with
     | nil=>
      simp only[gk]at hlen;rw[Km];exact(bM (by omega)).symm
     | cons c u hw=>
      simp only[gk,bq]at hlen;rw[Kn];exact(bw (by omega)).symm
    | cons a t hv=>
     cases lJ with
     | nil=>
      simp only[gk,bq]at hlen;rw[Ko];exact(bM (by omega)).symm
     | cons c u hw=>
      rw[rB]at hz;cases hz
   rw[hv]at hR
   wp_walk
   exact⟨_,rfl,by simpa [Builtin.Tuple.tupleCompareSizes]using hR⟩
  case h=>
   exact⟨rfl,rfl,z.toList,j.toList,ns,ms,rfl,hi,Y,by omega,h⟩
end
section
variable {prog:Program}{w:World}{A:Around}{E:VP}{s:Shared}
def YQ{l b:Addr}{z j:Av}{ns ms:List Int}{Q:VP}(hl:IsTup s.heap l z)(hb:IsTup s.heap b j)(hi:IntsAre z.toList ns)(hj:IntsAre j.toList ms)
 (hu:A.units<cLine) (h:Q (.bool (lexLt ns ms)) s):wpAny (model prog w) A (compareOp .Lt (.ref l) (.ref b)) Q E s:=by
 obtain⟨⟨cls,dd,data,sl⟩,Y,O,n,hd⟩:=id hl;obtain⟨⟨si,dQ,data2,eP⟩,J,G,n2,U⟩:=id hb;simp only at O hd G U;subst O hd G U;exact IG (op:=.Lt) ⟨_,Y,rfl⟩ ⟨_,J,rfl⟩ PySem.F.slot_tuple_lt PySem.F.entry_tuple_lt (PySem.F.args_tuple_lt_2 _ _) (YO l b z j n n2 dd dQ sl eP ns ms hi hj)
  ⟨Y,J,show Value.bool (lexLt ns ms)≠Value.notImplemented/\Q (.bool (lexLt ns ms)) s from ⟨(λx=>nomatch x),h⟩⟩ hu
def jf(n d:Nat):Option Int->Nat
 | none=>d
 | some v=>if v<0 then(v+(n:Int)).toNat else min v.toNat n
end
end HT
namespace L2
variable {X:Cx}{pos:Pos}{α:Type}{n t':Nat}{v:V}{a b:Addr}{A:Around}{s:Shared}{u:Value}{a_:Po}{Z:St}{T:String}{w:World}{kvs:List (List NI×V)}{P:Program}{H':Hp}
abbrev TO:=St->Hp->(Option Int->Hp->Prop)->Prop
def PO(X:Cx)(e:Option Expr)(t:TO):Prop:=
 ∀(a_:Po) (s:Shared) (Z:St) (H:Hp) (Q:Option Int->Hp->Prop),Inv X a_ Z H s->t Z H Q ->
  wpAny (model X.prog X.w) X.A (evalPart e X.env) (λu s'=>∃o H',Inv X a_ Z H' s'/\IsPart u o/\Q o H') X.xe s
def YR:TO:=λ_ H Q=>Q none H
inductive Kq (Q:Option Int->Hp->Prop) (H1:Hp):V->Prop where
 | mk {i:Int} (_:Q (some i) H1):Kq Q H1 (.int i)
def YS(t:TE):TO:=λZ H Q=>t Z H λx H1=>Kq Q H1 x
def intsAre_of{ns:List Int}:∀{us:Lw},aX (ns.map V.int) us->IntsAre us ns:=by
 induction ns with
 | nil=>intro us r;rw[yN]at r;cases r;exact .nil
 | cons n ns j=>
  intro us r;rw[bp]at r;cases r with
  | cons z G=>
   obtain⟨t,e⟩:=z;subst e;exact .cons n t (j G)
section
variable {e:Expr}{te:TE}{lo hi:Option Expr}{tl th:TO}{p2:Pos}
def wz:PO X none YR:=by
 intro a_ s Z H Q I h;rw[evalPart_none];exact aj ⟨none,H,I,.none,h⟩
def wA(h:PE X e te):PO X (some e) (YS te):=by
 intro a_ s Z H Q I G;rw[evalPart_some];refine thn (h a_ s Z H _ I G) λu U z=>aN z λx H1 j O J=>?_;obtain @⟨i,q⟩:=J;obtain⟨t,rfl⟩:=O;exact⟨some i,H1,j,.int i t,q⟩
def sj(X:Cx)(r:V->Option Int->Option Int->Hp->VK->Prop):Prop:=
 ∀(a_:Po) (s:Shared) (Z:St) (H:Hp) (x:V) (v j z:Value) (lo hi:Option Int) (sl:Addr) (Q:VK),Inv X a_ Z H s->RelV x v->s.heap.IsSliceOf sl j z .none->IsPart j lo->IsPart z hi->r x lo hi H Q ->
  ∃T id,typeLookup (.type T) "__getitem__"=pure (some (.builtin id))/\s.TypeIs v T/\wpAny (model X.prog X.w) X.A (getItem v (.ref sl)) (EP X a_ Z Q) X.xe s
def YU(r:V->Option Int->Option Int->Hp->VK->Prop)(te:TE)(tl th:TO):TE:=λZ H Q=>te Z H λx H1=>tl Z H1 λl H2=>th Z H2 λu H3=>r x l u H3 Q
def wB{r:V->Option Int->Option Int->Hp->VK->Prop}(hr:sj X r)(he:PE X e te)(hl:PO X lo tl)(hu:PO X hi th):PE X (.Subscript e (.Slice lo hi none p2) pos) (YU r te tl th):=by
 intro a_ s Z H Q I h;refine Subscript_ (thn (he a_ s Z H _ I h) λv s1 Y=>aN Y λx H1 G r1 q1=>?_);refine wpAny_Slice (thn (hl a_ s1 Z H1 _ G q1) λj s2 YW=>aN YW λl H2 J pl q2=>thn (hu a_ s2 Z H2 _ J q2) λz s3 YX=>aN YX λu H3 O pu q3=>?_);rw[evalPart_none];refine aj ?_;have U:Inv X a_ Z H3 { s3 with heap:=s3.heap.push { cls:=.type "slice",data:=.fields #[j,z,.none] } }:=O.kept (t':=s3.toks) λb ob q=>bB _ q;obtain⟨T,id,hT,ht,hg⟩:=hr a_ { s3 with heap:=s3.heap.push { cls:=.type "slice",data:=.fields #[j,z,.none] } } Z H3 x v j z l u s3.heap.objs.size Q U r1 (Heap.IsSliceOf.new ..) pl pu q3;show wpAny (model X.prog X.w) X.A (subscriptTail e (.Slice lo hi none p2) v (.ref s3.heap.objs.size)) (EP X a_ Z Q) X.xe { s3 with heap:=s3.heap.push { cls:=.type "slice",data:=.fields #[j,z,.none] } };exact tail_any (ops:=[.ref s3.heap.objs.size,v]) ht hT hg (by with_unfolding_all rfl)
def uN(xs:Lv)(lo hi:Option Int):Lv:=(xs.drop (HT.jf xs.length 0 lo)).take (HT.jf xs.length xs.length hi - HT.jf xs.length 0 lo)
def YY(xs:Lv)(lo hi:Option Int):(uN xs lo hi).length<=xs.length:=by
 unfold uN;rw[d5,vX];omega
def YZ(K:Fg):R2:=λx y H Q=>∃a b ns ms,x=.ref a/\y=.ref b/\aP K H a (ns.map V.int)/\aP K H b (ms.map V.int)/\Q (.bl (HT.lexLt ns ms)) H
def Y0(G:X.A.units<cLine):cu X (compareOp .Lt) (YZ X.K):=by
 intro a_ s Z H x y v u Q I rx ry h;obtain⟨a,b,ns,ms,rfl,rfl,j,z,q⟩:=h;cases rx;cases ry;obtain⟨c_,Y,p1,_⟩:=I.tuple j;obtain⟨U,r2,p2,_⟩:=I.tuple z;have J:IntsAre c_.toArray.toList ns:=intsAre_of Y;have O:IntsAre U.toArray.toList ms:=intsAre_of r2;exact HT.YQ p1 p2 J O G ⟨.bl (HT.lexLt ns ms),H,I,rfl,q⟩
end
def qz(n:Nat)(i:Int):Option Nat:=if 0<=i then(if i<n then some i.toNat else none) else if -(n:Int)<=i then some (i+n).toNat else none
def cX(xs:List α)(i:Int):Option α:=(qz xs.length i).bind λj=>xs[j]?
def Y1{i:Int}{j:Nat}(h:qz n i=some j):seqIndex? i n=some j/\j<n/\-(n:Int)<=i/\i<n:=by
 unfold qz at h
 by_cases h0:0<=i
 . rw[ai h0]at h
   by_cases h1:i<n
   . rw[ai h1]at h;have e:i.toNat=j:=fO h;exact⟨by rw[seqIndex_of h0 h1,e],by omega,by omega,h1⟩
   rw[af h1]at h;cases h
 rw[af h0]at h
 by_cases h1:-(n:Int)<=i
 . rw[ai h1]at h;have e:(i+n).toNat=j:=fO h;exact⟨by rw[seqIndex_neg (by omega) h1,e],by omega,h1,by omega⟩
 rw[af h1]at h;cases h
def Dw{xs:List α}{i:Int}{v:α}(h:cX xs i=some v):∃j,seqIndex? i xs.length=some j/\xs[j]?=some v/\j<xs.length/\-(xs.length:Int)<=i/\i<xs.length:=by
 unfold cX at h;cases e:qz xs.length i with
 | none=>rw[e]at h;cases h
 | some j=>
  rw[e]at h;obtain⟨h1,h2,z,G⟩:=Y1 e;exact⟨j,h1,h,h2,z,G⟩
def Dx{xs:List α}{j:Nat}{v:α}(h:xs[j]?=some v):cX xs (j:Int)=some v:=by
 have z:j<xs.length:=(dB.mp h).1;have e:qz xs.length (j:Int)=some j:=by
  unfold qz;rw[ai (by omega),ai (by omega)];simp
 unfold cX;rw[e];exact h
def Y2(b:Expr):Prop:=∀o i,subscripted b false o i=operate [o,i] (getItem o i)
def uO(X:Cx)(r:R2):Prop:=
 ∀(value j:Expr) (a_:Po) (s:Shared) (Z:St) (H:Hp) (x y:V) (v u:Value) (Q:VK),Inv X a_ Z H s->RelV x v->RelV y u->r x y H Q ->
  subscripted j false v u=operate [v,u] (getItem v u)->wpAny (model X.prog X.w) X.A (subscriptTail value j v u) (EP X a_ Z Q) X.xe s
def Kr(X:Cx)(id:String)(r:V->Lv->Hp->VK->Prop):Prop:=
 ∀(a_:Po) (s:Shared) (Z:St) (H:Hp) (x:V) (xs:Lv) (v:Value) (us:Lw) (Q:VK),Inv X a_ Z H s->RelV x v->aX xs us->r x xs H Q ->
  wpAny (model X.prog X.w) X.A (call (.builtin id) (v::us)) (EP X a_ Z Q) X.xe s
section
variable {a b:Expr}{ta tb:TE}
def eY{r:R2}(J:uO X r)(z:PE X a ta)(G:PE X b tb)(hs:Y2 b):PE X (.Subscript a b pos) (zy r ta tb):=by
 intro a_ s Z H Q I h;exact Subscript_ (C7 z G I h λv u Y x y H2 j O U q=>J a b a_ Y Z H2 x y v u Q j O U q (hs _ _))
inductive Ks (K:Fg) (H:Hp) (Q:VK):V->V->Prop where
 | mk {p:Addr}{xs:Lv}{i:Int}{v:V} (_:ag K H p xs) (_:cX xs i=some v) (_:Q v H):Ks K H Q (.ref p) (.int i)
def Kt(K:Fg):R2:=λx y H Q=>Ks K H Q x y
inductive Ku (K:Fg) (H:Hp) (Q:VK):V->V->Prop where
 | mk {p:Addr}{xs:Lv}{i:Int}{v:V} (_:aP K H p xs) (_:cX xs i=some v) (_:Q v H):Ku K H Q (.ref p) (.int i)
def Kv(K:Fg):R2:=λx y H Q=>Ku K H Q x y
inductive Kw (H:Hp) (Q:VK):V->V->Prop where
 | mk {z:Str}{i:Int}{c:Nat} (_:z.length<=sizeLine) (_:cX z.cps.toList i=some c) (_:Q (.str ⟨#[c]⟩) H):Kw H Q (.str z) (.int i)
def Y3:R2:=λx y H Q=>Kw H Q x y
def lL:uO X (Kt X.K):=by
 intro value a0 a_ s Z H x y v u Q I rx ry h hs;obtain @⟨p,xs,i,z,hq,he,q⟩:=h;cases rx;obtain⟨t,rfl⟩:=ry;obtain⟨c_,r,pl,hz⟩:=I.list hq;obtain⟨j,h1,h2,h3,Y,h5⟩:=Dw he;obtain⟨w,J,U⟩:=r.get h2;have hl:=r.length;have hn:=wt;have O:EP X a_ Z Q w s:=⟨z,H,I,U,q⟩
 by_cases h0:0<=i
 . have G:i.toNat=j:=by
    rw[seqIndex_of h0 h5]at h1;exact fO h1
   exact item_listR pl.isList h0 (by omega) (by rw[G];simpa using J) O hs
 have G:(i+(c_.toArray.size:Int)).toNat=j:=by
  rw[seqIndex_neg (by omega) Y]at h1;rw[gC,<-hl];exact fO h1
 exact asb (x:=w) pl.isList.typeIs slot_list_getitem.lookup
  (wpAny_getItem_list_neg (Q:=λr s'=>r=w/\EP X a_ Z Q r s') pl.isList (by omega) (by rw[gC]<;>omega) (by omega) (by rw[G];simpa using J) ⟨rfl,O⟩) hs
def lM:uO X (Kv X.K):=by
 intro value a0 a_ s Z H x y v u Q I rx ry h hs;obtain @⟨p,xs,i,z,hq,U,q⟩:=h;cases rx;obtain⟨t,rfl⟩:=ry;obtain⟨c_,r,pl,hz⟩:=I.tuple hq;obtain⟨j,h1,h2,h3,h4,h5⟩:=Dw U;obtain⟨w,G,O⟩:=r.get h2;have Y:=r.length;have hn:=wt;have J:EP X a_ Z Q w s:=⟨z,H,I,O,q⟩;exact asb (x:=w) pl.typeIs slot_tuple_getitem.lookup
  (getItem_tuple (j:=j) (Q:=λr s'=>r=w/\EP X a_ Z Q r s') pl (by omega) (by omega) (by rw[gC,<-Y];exact h1) (by simpa using G) ⟨rfl,J⟩) hs
def Kx:uO X Y3:=by
 intro value a0 a_ s Z H x y v u Q I Y ry h hs;obtain @⟨z,i,c,hz,O,q⟩:=h;obtain⟨t,rfl⟩:=Y;obtain⟨t',rfl⟩:=ry;obtain⟨j,h1,h2,h3,G,J⟩:=Dw O;have U:z.cps.toList.length=z.length:=by simp[Str.length]
 rw[U]at h1 G J;have hn:=wt;exact tail_any (yO s z t) slot_str_getitem.lookup (getItem_str (c:=c) (by
  have e1:decide (i < -(2 ^ 63:Int))=false:=bM (by omega);have e2:decide (i >= 2 ^ 63)=false:=bM (by omega);rw[e1,e2,rC]) (by rw[h1];simpa using h2) ⟨.str ⟨#[c]⟩,H,I.tok _,⟨_,rfl⟩,q⟩) hs
def Y4(lo hi:Option Int)(n:Nat):(sliceBounds lo hi none n).1=((HT.jf n 0 lo:Nat):Int)/\(sliceBounds lo hi none n).2.1=((HT.jf n n hi:Nat):Int)/\(sliceBounds lo hi none n).2.2=1:=by
 refine⟨?_,?_,rfl⟩
 . cases lo with
   | none=>simp[sliceBounds,HT.jf]
   | some i=>
    simp only[sliceBounds,HT.jf,Option.getD_none,show(1:Int) > 0 by decide,ut]
    by_cases h:i<0
    . simp only[h,ut]<;>omega
    simp only[h,iI]<;>omega
 cases hi with
 | none=>simp[sliceBounds,HT.jf]
 | some i=>
  simp only[sliceBounds,HT.jf,Option.getD_none,show(1:Int) > 0 by decide,ut]
  by_cases h:i<0
  . simp only[h,ut]<;>omega
  simp only[h,iI]<;>omega
def Y5(c_:Lw)(lo hi:Option Int):slicePick c_.toArray lo hi none=((c_.drop (HT.jf c_.length 0 lo)).take (HT.jf c_.length c_.length hi - HT.jf c_.length 0 lo)).toArray:=by
 obtain⟨h1,h2,j⟩:=Y4 lo hi c_.toArray.size;unfold slicePick;rw[h1,h2,j];simp only[sliceRange_one,pick_run,gC]<;>rfl
def Y6(K:Fg):V->Option Int->Option Int->Hp->VK->Prop:=λx lo hi H Q=>∃a xs,x=.ref a/\ag K H a xs/\∀p,H p=none->Q (.ref p) (ae H p (.lst (uN xs lo hi)))
def Y7:sj X (Y6 X.K):=by
 intro a_ s Z H x v U Y lo hi sl Q I O hs pl J h;obtain⟨a,xs,rfl,G,q⟩:=h;cases O;obtain⟨c_,r,j,hz⟩:=I.list G;have z:=r.length;refine⟨"list",_,slot_list_getitem.lookup,j.isList.typeIs,?_⟩;refine wpAny_getItem_list_slice j.isList hs pl J .none (by simp) ?_ (by rw[gC]<;>omega);rw[Y5,<-z];refine⟨.ref s.heap.objs.size,_,I.laid (t':=s.toks) (o:=.lst (uN xs lo hi)) (λb ob q=>bB _ q) (aD _) ?_,rfl,q _ (I.hok.fresh (aD _))⟩;exact⟨cR (YY xs lo hi) hz,_,0,(r.drop (HT.jf xs.length 0 lo)).take (HT.jf xs.length xs.length hi - HT.jf xs.length 0 lo),cT _ rfl⟩
def oW:V->Bool
 | .non=>true
 | .bl _=>true
 | .int _=>true
 | .str _=>true
 | _=>false
def mT:V->V->Bool
 | .non,.non=>true
 | .bl a,.bl b=>a == b
 | .bl a,.int b=>(if a then 1 else 0) == b
 | .int a,.bl b=>a == (if b then 1 else 0)
 | .int a,.int b=>a == b
 | .str a,.str b=>a == b
 | _,_=>false
def Y8{y x:V}{v:Value}(G:RelV y u)(j:RelV x v)(J:oW y=true)(z:oW x=true):SeqAt.EqAt A s u v (mT y x):=by
 cases y with
 | non=>
  cases G;cases x with
  | non=>cases j;exact U2 _
  | bl b=>cases j;exact SeqAt.EqAt.none_bool b
  | int b=>obtain⟨t,rfl⟩:=j;exact SeqAt.EqAt.none_int b t
  | str b=>obtain⟨t,rfl⟩:=j;exact SeqAt.EqAt.none_str b t
  | _=>exact absurd (show false=true from z) cn
 | bl a=>
  cases G;cases x with
  | non=>cases j;exact SeqAt.EqAt.bool_none a
  | bl b=>cases j;exact SeqAt.EqAt.bool_bool a b
  | int b=>obtain⟨t,rfl⟩:=j;exact SeqAt.EqAt.bool_int a b t
  | str b=>obtain⟨t,rfl⟩:=j;exact SeqAt.EqAt.bool_str a b t
  | _=>exact absurd (show false=true from z) cn
 | int a=>
  obtain⟨t',rfl⟩:=G;cases x with
  | non=>cases j;exact SeqAt.EqAt.int_none a t'
  | bl b=>cases j;exact SeqAt.EqAt.int_bool a t' b
  | int b=>obtain⟨t,rfl⟩:=j;exact SeqAt.EqAt.int_int a t' b t
  | str b=>obtain⟨t,rfl⟩:=j;exact SeqAt.EqAt.int_str a t' b t
  | _=>exact absurd (show false=true from z) cn
 | str a=>
  obtain⟨t',rfl⟩:=G;cases x with
  | non=>cases j;exact SeqAt.EqAt.str_none a t'
  | bl b=>cases j;exact SeqAt.EqAt.str_bool a t' b
  | int b=>obtain⟨t,rfl⟩:=j;exact SeqAt.EqAt.str_int a t' b t
  | str b=>obtain⟨t,rfl⟩:=j;exact SeqAt.EqAt.str_str a t' b t
  | _=>exact absurd (show false=true from z) cn
 | _=>exact absurd (show false=true from J) cn
def oX(x:V)(u:Value):Bool:=match u with
 | .none=>mT .non x
 | .bool b=>mT (.bl b) x
 | .int i _=>mT (.int i) x
 | .str z _=>mT (.str z) x
 | _=>false
def Ky{x y:V}(r:RelV y u)(f:oW y=true):oX x u=mT y x:=by
 cases y with
 | non=>cases r;rfl
 | bl b=>cases r;rfl
 | int i=>obtain⟨t,rfl⟩:=r;rfl
 | str z=>obtain⟨t,rfl⟩:=r;rfl
 | _=>exact absurd (show false=true from f) cn
def Dy{x:V}:∀{xs:Lv}{us:Lw},aX xs us->xs.all oW=true->us.any (oX x)=xs.any λy=>mT y x
 | _,_,.nil,_=>rfl
 | y::xs,u::us,.cons r t,f=>by
  rw[Cm,gD]at f;rw[rD,rD,Ky r f.1,Dy t f.2]
def Dz{x:V}{v:Value}(z:RelV x v)(j:oW x=true):∀{xs:Lv}{us:Lw},aX xs us->xs.all oW=true->∀u∈us,SeqAt.EqAt A s u v (oX x u)
 | _,_,.nil,_=>λu hu=>by cases hu
 | y::xs,u::us,.cons r t,f=>λG hu=>by
  rw[Cm,gD]at f
  rcases bc.mp hu with rfl | hu
  . rw[Ky r f.1];exact Y8 r z f.1 j
  exact Dz z j t f.2 G hu
def zI(x:V)(xs:Lv):Bool:=xs.any λy=>mT y x
inductive Kz (K:Fg) (j:Bool) (x:V) (H:Hp) (Q:VK):V->Prop where
 | mk {p:Addr}{xs:Lv} (_:(ag K H p xs\/aP K H p xs)) (_:oW x=true) (_:xs.all oW=true) (_:Q (.bl (if j then !zI x xs else zI x xs)) H):Kz K j x H Q (.ref p)
def KA(K:Fg)(j:Bool):R2:=λx y H Q=>Kz K j x H Q y
def Y9:cu X (compareOp .In) (KA X.K false):=by
 intro a_ s Z H x y v u Q I G J h;obtain @⟨p,xs,hq,z,fs,q⟩:=h;cases J
 rcases hq with hq | hq
 . obtain⟨c_,r,pl,hz⟩:=I.list hq;refine SeqAt.in_listAt (oX x) pl.isList (λw j=>Dz G z r fs w (by simpa using j)) ⟨.bl _,H,I,rfl,?_⟩;rw[show c_.toArray.any (oX x)=c_.any (oX x) by simp,Dy r fs];exact q
 obtain⟨c_,r,pl,hz⟩:=I.tuple hq;refine SeqAt.in_tupleAt (oX x) pl (λw j=>Dz G z r fs w (by simpa using j)) ⟨.bl _,H,I,rfl,?_⟩;rw[show c_.toArray.any (oX x)=c_.any (oX x) by simp,Dy r fs];exact q
def oY:eV X (.builtin "len") (λxs H Q=>∃p ys,xs=[.ref p]/\(ag X.K H p ys\/aP X.K H p ys)/\Q (.int ys.length) H):=by
 intro a_ s Z H xs us Q I r h;obtain⟨p,ys,rfl,hq,q⟩:=h;obtain⟨u,rfl,G⟩:=vals1 r;cases G;have J:=wt
 rcases hq with hq | hq
 . obtain⟨c_,z,pl,hz⟩:=I.list hq;have j:=z.length;exact Calls.call_len_list pl.isList (by simp only[gC]<;>omega) ⟨.int ys.length,H,I.tok _,⟨s.toks+1,by rw[gC,j]⟩,q⟩
 obtain⟨c_,z,pl,hz⟩:=I.tuple hq;have j:=z.length;exact len_tuple pl (by simp only[gC]<;>omega) ⟨.int ys.length,H,I.tok _,⟨s.toks+1,by rw[gC,j]⟩,q⟩
def KC:eV X (.builtin "len") (λxs H Q=>∃z,xs=[.str z]/\z.length<=sizeLine/\Q (.int z.length) H):=by
 intro a_ s Z H xs us Q I r h;obtain⟨z,rfl,hz,q⟩:=h;obtain⟨u,rfl,t,rfl⟩:=vals1 r;have j:=wt;exact len_str (by omega) ⟨.int z.length,H,I.tok _,⟨_,rfl⟩,q⟩
def wC:eV X (.type "list") (λxs H Q=>∃p ys,xs=[.ref p]/\(ag X.K H p ys\/aP X.K H p ys)/\∀l,H l=none->Q (.ref l) (ae H l (.lst ys))):=by
 intro a_ s Z H xs us Q I r h;obtain⟨p,ys,rfl,hq,q⟩:=h;obtain⟨u,rfl,U⟩:=vals1 r;cases U;have J:∀(c_:Lw),aX ys c_->ys.length<=sizeLine->∀(h':Heap) (c':Nat),(∀b o',s.heap.get? b=some o'->h'.get? b=some o') ->
  h'.get? s.heap.objs.size=some { cls:=.type "list",dict:=none,data:=.seq c_.toArray c',slots:=#[] }->EP X a_ Z Q (.ref s.heap.objs.size) { s with heap:=h' }:=λc_ j hz h' c' kp e=>
  ⟨.ref s.heap.objs.size,_,I.laid (t':=s.toks) kp (aD _) (show bE X.prog X.w _ h' _ (.lst ys) from ⟨hz,c_,c',j,e⟩),rfl,q _ (I.hok.fresh (aD _))⟩
 rcases hq with hq | hq
 . obtain⟨c_,j,pl,hz⟩:=I.list hq;have O:=j.length;obtain⟨o,G,z,n,hd⟩:=pl.isList;exact call_list_seq p (.inl rfl) G z hd (λh' c' kp e=>J c_ j hz h' c' kp e) (by simp only[gC]<;>omega)
 obtain⟨c_,j,pl,hz⟩:=I.tuple hq;have O:=j.length;obtain⟨o,G,z,n,hd⟩:=pl;exact call_list_seq p (.inr rfl) G z hd (λh' c' kp e=>J c_ j hz h' c' kp e) (by simp only[gC]<;>omega)
def Za:eV X (.type "tuple") (λxs H Q=>∃p ys,xs=[.ref p]/\((ag X.K H p ys/\∀l,H l=none->Q (.ref l) (ae H l (.tup ys)))\/(aP X.K H p ys/\Q (.ref p) H))):=by
 intro a_ s Z H xs us Q I r h;obtain⟨p,ys,rfl,h⟩:=h;obtain⟨u,rfl,O⟩:=vals1 r;cases O
 rcases h with⟨j,q⟩ | ⟨j,q⟩
 . obtain⟨c_,z,pl,hz⟩:=I.list j;have U:=z.length;refine call_tuple_list pl.isList (λh' kp=>?_) (by simp only[gC]<;>omega);have G:Inv X a_ Z H { s with heap:=h' }:=I.kept (t':=s.toks) kp;have J:Inv X a_ Z (ae H h'.objs.size (.tup ys)) { s with heap:=h'.push { cls:=.type "tuple",data:=.seq c_.toArray } }:=
    G.laid (t':=s.toks) (λb o e=>bB _ e) (aD _) (show bE X.prog X.w _ _ _ (.tup ys) from ⟨hz,c_,z,IsTup.new _ _⟩)
   exact⟨.ref h'.objs.size,_,J,rfl,q _ (G.hok.fresh (aD _))⟩
 obtain⟨c_,z,pl,hz⟩:=I.tuple j;exact call_tuple_same pl ⟨.ref p,H,I,rfl,q⟩
def KD(K:Fg)(T:String)(x:V)(H:Hp):Prop:=match x with
 | .str _=>T="str"
 | .int _=>T="int"
 | .ref p=>(T="list"/\∃xs,ag K H p xs)\/(T="tuple"/\∃o,K.lookup p=some o/\o.cls=.type "tuple"/\o.dict=none) \/
  (T="dict"/\((∃kvs,H p=some (.dK kvs))\/∃kvs,H p=some (.dT kvs)))\/(T="set"/\∃S n,H p=some (.set S n))
 | _=>False
def KG{H:Hp}{x:V}{v:Value}(I:Inv X a_ Z H s)(r:RelV x v)(ty:KD X.K T x H) :
 s.TypeIs v T/\∀a,v=.ref a->∃ob,s.heap.get? a=some ob/\ob.dict=none:=by
 cases x with
 | str z=>
  obtain⟨t,rfl⟩:=r;cases (show T="str" from ty);exact⟨yO s z t,λ_ e=>nomatch e⟩
 | int i=>
  obtain⟨t,rfl⟩:=r;cases (show T="int" from ty);exact⟨typeIs_int s i t,λ_ e=>nomatch e⟩
 | ref p=>
  cases r
  rcases ty with⟨rfl,xs,J⟩ | ⟨rfl,o,j,G,hd⟩ | ⟨rfl,j⟩ | ⟨rfl,S,n,j⟩
  . obtain⟨c_,_,pl,_⟩:=I.list J;refine⟨pl.isList.typeIs,λa e=>?_⟩;cases e;obtain⟨o,n,e,c,hd,_⟩:=pl;exact⟨o,e,hd⟩
  . refine⟨⟨o,I.kIn p o j,G⟩,λa e=>?_⟩;cases e;exact⟨o,I.kIn _ o j,hd⟩
  . have z:∃o,s.heap.get? p=some o/\o.ExactDict:=by
     rcases j with⟨kvs,j⟩ | ⟨kvs,j⟩
     . obtain⟨_,_,_,_,o,_,_,e,ex,_⟩:=I.hok p _ j;exact⟨o,e,ex⟩
     obtain⟨_,_,_,_,o,_,_,e,ex,_⟩:=I.hok p _ j;exact⟨o,e,ex⟩
    obtain⟨o,e,ex⟩:=z;refine⟨⟨o,e,ex.1⟩,λa e2=>?_⟩;cases e2;exact⟨o,e,ex.2.1⟩
  obtain⟨o,_,_,_,e,ex,_⟩:=I.hok p _ j;refine⟨⟨o,e,ex.1⟩,λa e2=>?_⟩;cases e2;exact⟨o,e,ex.2.1⟩
 | _=>exact False.elim ty
def KH(K:Fg)(T:String)(r:V->Lv->Hp->VK->Prop)(to:TE)(t:TA):TE:=λZ H Q=>to Z H λx H1=>KD K T x H1/\t Z H1 λxs H2=>r x xs H2 Q
variable {o e:Expr}{es:List Expr}{to:TE}{t:TA}{name:Str}{apos bU:Pos}{id:String}{r:V->Lv->Hp->VK->Prop}
def dR(pa:PlainAttrs T)(slot:Slot T name id)(J:typeOf (.builtin id)=pure (.type "method_descriptor"))(hm:Kr X id r)(ho:PE X o to)(ha:PA X (e::es) t)
 (sk:attributeBase o name X.env (eval o X.env)=eval o X.env:=by rfl)
 (O:((backTo bU (starEach (e::es) X.env)).all (λx=>!x.1) && (backToKw bU (keywordEach [] X.env)).all (λx=>x.1.isSome)
  && decide ((e::es).length+([]:List Keyword).length+(if ([]:List Keyword).isEmpty then 0 else 1)<30))=true:=by rfl)
 (sq:(apos.endLine == bU.line)=true:=by rfl) (hs:starEach (e::es) X.env=(false,eval e X.env)::starEach es X.env:=by rfl) (U:(backTo bU (starEach es X.env)).any (·.1)=false:=by rfl) :
 PE X (.Call (.Attribute o name apos) (e::es) [] bU) (KH X.K T r to t):=by
 intro a_ s Z H Q I h;refine wpAny_Call_method_late sk O sq rfl (thn (ho a_ s Z H _ I h) λv s1 Zb=>aN Zb λx H1 j G Zc=>Zc.elim λty q1=>?_);obtain⟨h1,h2⟩:=KG j G ty;refine⟨T,id,pa,slot,J,h1,h2,?_⟩;have z:=ha bU a_ s1 Z H1 _ j q1;rw[hs]at z ⊢;refine Cn (by show(false || (backTo bU (starEach es X.env)).any (·.1))=false;rw[U]<;>rfl) (Co ?_);exact thn z λus s2 Zd=>aN Zd λvs H2 Y r2 q2=>hm a_ s2 Z H2 x vs v us Q Y G r2 q2
end
def su(X:Cx)(id:String)(r:V->Lv->Hp->VK->Prop):Prop:=
 ∀(a_:Po) (s:Shared) (Z:St) (H:Hp) (x:V) (xs:Lv) (v:Value) (us:Lw) (Q:VK),Inv X a_ Z H s->RelV x v->aX xs us->r x xs H Q ->
  wpAny (model X.prog X.w) X.A (call (.builtin id) (v::us)) (EP X a_ Z Q) X.xe s
def aX.one:∀{x:V}{us:Lw},aX [x] us->∃u,us=[u]/\RelV x u
 | _,_,.cons r .nil=>⟨_,rfl,r⟩
section
variable {H:Hp}{l:Addr}{xs ys zs:Lv}
def Inv.lset{c_ its':Lw}{f:Av->Av}(I:Inv X a_ Z H s)(j:H l=some (.lst xs))
 (e:s.heap.get? l=some { cls:=.type "list",data:=.seq c_.toArray n }) (G:f c_.toArray=its'.toArray) (O:aX ys its') (hz:ys.length<=sizeLine) :
 Inv X a_ Z (ae H l (.lst ys)) { s with heap:=s.heap.update l (Obj.mapSeq f),toks:=t' }:=by
 have q:=PySem.IsL.update e f;rw[G]at q;refine I.write (x:=l) (e:=l) (by rw[j];exact trivial) (.inl rfl) (λb' u z J=>(Cp s.heap (Obj.mapSeq f) (gj z)).trans J) ⟨_,q⟩ ?_;exact⟨hz,its',_,O,q⟩
def Inv.lnew{c_:Lw}(I:Inv X a_ Z H s)(j:aX ys c_)(hz:ys.length<=sizeLine) :
 Inv X a_ Z (ae H s.heap.objs.size (.lst ys)) { s with heap:=s.heap.push { cls:=.type "list",data:=.seq c_.toArray },toks:=t' }:=
 I.laid (λ_ _ q=>bB _ q) (aD _) ⟨hz,c_,0,j,cT _ rfl⟩
def Inv.fresh(I:Inv X a_ Z H s):H s.heap.objs.size=none:=I.hok.fresh (aD _)
def Inv.lstM(I:Inv X a_ Z H s)(j:H l=some (.lst xs)):xs.length<=sizeLine/\∃(c_:Lw) (n:Nat),aX xs c_/\xs.length=c_.length/\s.heap.get? l=some { cls:=.type "list",data:=.seq c_.toArray n }:=by
 obtain⟨z,c_,n,r,e⟩:=I.hok l _ j;exact⟨z,c_,n,r,r.length,e⟩
def Ze(h:n<=sizeLine):Builtin.List.listTooLong n=false:=by
 unfold Builtin.List.listTooLong;exact bM (by omega)
end
inductive KI (H:Hp) (Q:VK):V->Lv->Prop where
 | mk {l:Addr}{xs:Lv}{y:V} (_:H l=some (.lst xs)) (_:xs.length<sizeLine) (_:Q .non (ae H l (.lst (xs++[y])))):KI H Q (.ref l) [y]
def Zf:V->Lv->Hp->VK->Prop:=λx vs H Q=>KI H Q x vs
def sw:su X "list.append" Zf:=by
 intro a_ s Z H x vs v us Q I O J h;obtain @⟨l,xs,y,j,hz,q⟩:=h;cases O;obtain⟨u,rfl,G⟩:=J.one;obtain⟨z,c_,n,r,U,e⟩:=I.lstM j;refine Cq F.slot_list_append ⟨_,e,rfl⟩ F.entry_list_append (F.args_list_append_2 _ _) (PySem.list_append l c_.toArray n u (by rw[gC];omega)) ⟨e,?_⟩;refine⟨.non,_,I.lset (its':=c_++[u]) j e (by simp) (r.append (.cons G .nil)) ?_,rfl,q⟩;rw[bD,mB];omega
inductive KJ (H:Hp) (Q:VK):V->Lv->Prop where
 | mk {l:Addr}{b:Addr}{xs:Lv}{zs:Lv} (_:H l=some (.lst xs)) (_:H b=some (.lst zs)) (_:xs.length+zs.length<=sizeLine) (_:Q .non (ae H l (.lst (xs++zs)))):KJ H Q (.ref l) [.ref b]
def Zg:V->Lv->Hp->VK->Prop:=λx vs H Q=>KJ H Q x vs
def lO:su X "list.extend" Zg:=by
 intro a_ s Z H x vs v us Q I rx rv h;obtain @⟨l,b,xs,zs,G,O,hz,q⟩:=h;cases rx;obtain⟨u,rfl,Y⟩:=rv.one;cases Y;obtain⟨z,c_,n,r,hl,e⟩:=I.lstM G;obtain⟨z2,j,n2,U,sy,e2⟩:=I.lstM O;have hsz:c_.toArray.size+j.toArray.size<=sizeLine:=by rw[gC,gC];omega
 have J:¬(!c_.toArray.isEmpty && Builtin.List.listTooLong (c_.toArray.size+j.toArray.size))=true:=by
  rw[Ze hsz,qi];exact cn
 refine Cq F.slot_list_extend ⟨_,e,rfl⟩ F.entry_list_extend (F.args_list_extend_2 _ _)
  (AutoSeq1.list_extend_list_list_0 l c_.toArray n b j.toArray n2 J (by rw[gC];omega) (by omega)) ⟨e,e2,?_⟩
 refine⟨.non,_,I.lset (its':=c_++j) G e (by simp) (r.append U) ?_,rfl,q⟩;rw[bD];omega
def Zi:R2:=λx y H Q=>∃l b xs zs,x=.ref l/\y=.ref b/\H l=some (.lst xs)/\H b=some (.lst zs)/\xs.length+zs.length<=sizeLine/\∀p,H p=none->Q (.ref p) (ae H p (.lst (xs++zs)))
def Zj:cu X (binaryOp .Add) Zi:=by
 intro a_ s Z H x y v u Q I Y ry h;obtain⟨l,b,xs,zs,rfl,rfl,O,J,hz,q⟩:=h;cases Y;cases ry;obtain⟨z,c_,n,r,hl,e⟩:=I.lstM O;obtain⟨z2,j,n2,U,sy,e2⟩:=I.lstM J;refine PySem.P.add_list e e2 ?_ (by rw[gC,gC];omega);have G:c_.toArray++j.toArray=(c_++j).toArray:=by simp
 rw[G];exact⟨.ref _,_,I.lnew (t':=s.toks) (r.append U) (by rw[bD];omega),rfl,q _ I.fresh⟩
section
variable {κ:Type} [DecidableEq κ]
def bJ(kvs:List (κ×V))(k:κ):Option V:=(kvs.find? λkv=>decide (kv.1=k)).map (·.2)
def cD(kvs:List (κ×V))(k:κ)(v:V):List (κ×V):=
 if (kvs.any λkv=>decide (kv.1=k))=true then kvs.map (λkv=>if kv.1=k then(kv.1,v) else kv) else kvs++[(k,v)]
def oZ(kvs:List (κ×V))(k:κ):List (κ×V):=kvs.filter λkv=>decide (kv.1≠k)
def jv{p:κ×V}{r:List (κ×V)}{k:κ}(e:p.1=k):bJ (p::r) k=some p.2:=by simp[bJ,vY,e]
def jg{p:κ×V}{r:List (κ×V)}{k:κ}(e:¬p.1=k):bJ (p::r) k=bJ r k:=by simp[bJ,vY,e]
def uP(k:κ):∀kvs:List (κ×V),(kvs.any λkv=>decide (kv.1=k))=(bJ kvs k).isSome
 | []=>rfl
 | p::r=>by
  rw[rD]
  by_cases e:p.1=k
  . simp only[jv e,bw e,Bool.true_or,Option.isSome_some]
  rw[jg e,bM e,Bool.false_or];exact uP k r
def KL(k j:κ)(y:V):∀kvs:List (κ×V),bJ (kvs.map λkv=>if kv.1=k then(kv.1,y) else kv) j=(bJ kvs j).map λx=>if j=k then y else x
 | []=>rfl
 | p::r=>by
  have G:=KL k j y r;rw[bp]
  by_cases h:p.1=k
  . rw[ai h]
    by_cases e:p.1=j
    . rw[jv (p:=(p.1,y)) e,jv e,oE,ai (e.symm.trans h)]
    rw[jg (p:=(p.1,y)) e,jg e,G]
  rw[af h]
  by_cases e:p.1=j
  . rw[jv (p:=p) e,jv e,oE,af (λz=>h (e.trans z))]
  rw[jg (p:=p) e,jg e,G]
def KN(k j:κ)(y:V):∀kvs:List (κ×V),bJ kvs k=none->bJ (kvs++[(k,y)]) j=if j=k then some y else bJ kvs j
 | [],_=>by
  by_cases e:k=j
  . rw[ai e.symm];exact jv (p:=(k,y)) e
  rw[af (λz=>e z.symm)];exact jg (p:=(k,y)) e
 | p::r,hn=>by
  rw[rE];have G:¬p.1=k:=λz=>by rw[jv z]at hn;cases hn
  rw[jg G]at hn;have J:=KN k j y r hn
  by_cases e:p.1=j
  . rw[jv e,jv e,af (λz=>G (e.trans z))]
  rw[jg e,jg e,J]
def Zk(kvs:List (κ×V))(k j:κ)(y:V):bJ (cD kvs k y) j=if j=k then some y else bJ kvs j:=by
 unfold cD
 by_cases a:(kvs.any λkv=>decide (kv.1=k))=true
 . rw[ai a,KL];rw[uP]at a
   by_cases e:j=k
   . obtain⟨x,z⟩:=Ci.mp a;rw[ai e,e,z,oE,ai rfl]
   rw[af e];cases bJ kvs j with
   | none=>rfl
   | some x=>rw[oE,af e]
 rw[af a];refine KN k j y kvs ?_;rw[uP]at a;cases q:bJ kvs k with
 | none=>rfl
 | some x=>rw[q]at a;exact(a rfl).elim
def zJ(kvs:List (κ×V))(k:κ)(v:V):(cD kvs k v).length<=kvs.length+1:=by
 unfold cD;split
 . rw[ah];omega
 rw[bD,bq,gk];omega
def DE{kvs:List (κ×V)}{k:κ}(v:V)(h:bJ kvs k=none):cD kvs k v=kvs++[(k,v)]:=by
 unfold cD;rw[uP,h];exact af (by decide)
def gP.isSome_eq{o:Option V}{u:Option Value}(r:gP o u):o.isSome=u.isSome:=by
 cases o with
 | none=>cases u with
  | none=>rfl
  | some _=>exact(show False from r).elim
 | some _=>cases u with
  | none=>exact(show False from r).elim
  | some _=>rfl
def gP.getD{o:Option V}{u:Option Value}{d:V}{d':Value}(r:gP o u)(j:RelV d d'):RelV (o.getD d) (u.getD d'):=by
 cases o with
 | none=>cases u with
  | none=>exact j
  | some _=>exact(show False from r).elim
 | some _=>cases u with
  | none=>exact(show False from r).elim
  | some _=>exact r
def KV.val{kvs:List (κ×V)}{vs:List (κ×Value)}(r:KV kvs vs)(k:κ):gP (bJ kvs k) (valueAt vs k):=by
 unfold KV at r
 induction r with
 | nil=>exact True.intro
 | @cons p q ps G h t J=>
  obtain⟨h1,h2⟩:=h
  by_cases e:p.1=k
  . have j:q.1=k:=h1.symm.trans e;have b:valueAt (q::G) k=some q.2:=by simp[valueAt,vY,j]
    rw[jv e,b];exact h2
  have j:¬q.1=k:=λz=>e (h1.trans z);have b:valueAt (q::G) k=valueAt G k:=by simp[valueAt,vY,j]
  rw[jg e,b];exact J
def KV.any{kvs:List (κ×V)}{vs:List (κ×Value)}(r:KV kvs vs)(k:κ):(kvs.any λkv=>decide (kv.1=k))=vs.any λkv=>decide (kv.1=k):=by
 unfold KV at r
 induction r with
 | nil=>rfl
 | cons h t j=>rw[rD,rD,j,h.1]
def KV.repl{kvs:List (κ×V)}{vs:List (κ×Value)}(r:KV kvs vs)(k:κ){y:V}(G:RelV y u) :
 KV (kvs.map λkv=>if kv.1=k then(kv.1,y) else kv) (vs.map λkv=>if kv.1=k then(kv.1,u) else kv):=by
 unfold KV at r ⊢
 induction r with
 | nil=>exact .nil
 | @cons p q ps J h t j=>
  rw[bp,bp];refine .cons ?_ j;obtain⟨h1,h2⟩:=h
  by_cases e:p.1=k
  . rw[ai e,ai (h1.symm.trans e)];exact⟨h1,G⟩
  rw[af e,af (λz=>e (h1.trans z))];exact⟨h1,h2⟩
def KV.put{kvs:List (κ×V)}{vs:List (κ×Value)}(r:KV kvs vs)(k:κ){y:V}(j:RelV y u):KV (cD kvs k y) (stored vs k u):=by
 unfold cD stored;rw[r.any k]
 by_cases e:(vs.any λkv=>decide (kv.1=k))=true
 . rw[ai e,ai e];exact r.repl k j
 rw[af e,af e];exact Paired.snoc r ⟨rfl,j⟩
def KV.drop{kvs:List (κ×V)}{vs:List (κ×Value)}(r:KV kvs vs)(k:κ):KV (oZ kvs k) (without vs k):=by
 unfold KV at r ⊢;unfold oZ without
 induction r with
 | nil=>exact .nil
 | @cons p q ps J h t j=>
  obtain⟨h1,h2⟩:=h;rw[qj,qj]
  by_cases e:p.1=k
  . have a:¬decide (p.1≠k)=true:=by simp[e]
    have b:¬decide (q.1≠k)=true:=by simp[h1.symm.trans e]
    rw[af a,af b];exact j
  have G:¬q.1=k:=λz=>e (h1.trans z);have a:decide (p.1≠k)=true:=by simp[e]
  have b:decide (q.1≠k)=true:=by simp[G]
  rw[ai a,ai b];exact .cons ⟨h1,h2⟩ j
def KV.length{kvs:List (κ×V)}{vs:List (κ×Value)}(r:KV kvs vs):kvs.length=vs.length:=IB r
def Zl(kvs:List (κ×V))(k:κ):(oZ kvs k).length<=kvs.length:=Cr _ _
end
def mV{k:aq}(r:RelV (kV k) u):(b8 P w).is k u=true:=by
 cases k with
 | inl i=>obtain⟨t,e⟩:=(show∃t,u=Value.int i t from r);subst e;exact V1 P w i t
 | inr x=>obtain⟨t,e⟩:=(show∃t,u=Value.str x t from r);subst e;exact rN P w x t
def KO:∀{ks:List aq}{us:Lw},aX (ks.map kV) us->ItemsAre (b8 P w) ks us
 | [],_,r=>by rw[yN]at r;cases r;exact .nil
 | k::ks,_,r=>by
  rw[bp]at r;cases r with
  | cons h t=>exact .cons (mV h) (KO t)
abbrev KT (H:Hp):List (List NI×V)->List (List NI×Addr×Value)->Prop:=Paired λp q=>p.1=q.1/\gZ H p.1 q.2.1/\RelV p.2 q.2.2
def KT.val{H:Hp}{xs:List (List NI×Addr×Value)}(r:KT H kvs xs)(k:List NI):gP (bJ kvs k) ((atKey xs k).map (·.2)):=by
 induction r with
 | nil=>exact True.intro
 | @cons p q ps G h t J=>
  obtain⟨h1,_,h2⟩:=h
  by_cases e:p.1=k
  . have j:q.1=k:=h1.symm.trans e;have b:atKey (q::G) k=some q.2:=by simp[atKey,vY,j]
    rw[jv e,b];exact h2
  have j:¬q.1=k:=λz=>e (h1.trans z);have b:atKey (q::G) k=atKey G k:=by simp[atKey,vY,j]
  rw[jg e,b];exact J
def KT.repl{H:Hp}{xs:List (List NI×Addr×Value)}(r:KT H kvs xs)(k:List NI){y:V}(J:RelV y u) :
 KT H (kvs.map λkv=>if kv.1=k then(kv.1,y) else kv) (xs.map (putAt k u)):=by
 induction r with
 | nil=>exact .nil
 | @cons p q ps O h t G=>
  rw[bp,bp];refine .cons ?_ G;obtain⟨h1,h2,j⟩:=h;unfold putAt
  by_cases e:p.1=k
  . rw[ai e,ai (h1.symm.trans e)];exact⟨h1,h2,J⟩
  rw[af e,af (λz=>e (h1.trans z))];exact⟨h1,h2,j⟩
def KT.put{H:Hp}{xs:List (List NI×Addr×Value)}(r:KT H kvs xs)(k:List NI){y:V}(z:gZ H k b)(j:RelV y u) :
 KT H (cD kvs k y) (storedH xs k b u):=by
 have e:(kvs.any λkv=>decide (kv.1=k))=(atKey xs k).isSome:=by
  rw[uP,(r.val k).isSome_eq,U4]
 unfold cD storedH;rw[e]
 by_cases q:(atKey xs k).isSome=true
 . rw[ai q,ai q];exact r.repl k j
 rw[af q,af q];exact Paired.snoc r ⟨rfl,z,j⟩
def KT.keeps{H:Hp}{xs:List (List NI×Addr×Value)}(r:KT H kvs xs)(j:∀b ys,H b=some (.tup ys)->H' b=some (.tup ys)):KT H' kvs xs:=
 Paired.mapP r λ_ _ z=>⟨z.1,z.2.1.keeps j,z.2.2⟩
section
variable {H:Hp}{h:Heap}
def KP{u:HO}(ok:bQ P w H h)(e:Rd H a u):bE P w H h a u:=e.ok ok
def o4{kvs:List (aq×V)}(ok:bQ P w H h)(e:Rd H a (.dK kvs)):kvs.length<=sizeLine/\(a == sysModules)=false/\∃vs,KV kvs vs/\h.DictOf (b8 P w) a vs:=
 show bE P w H h a (.dK kvs) from KP ok e
def kW{kvs:List (aq×V)}(ok:bQ P w H h)(e:H a=some (.dK kvs)):kvs.length<=sizeLine/\(a == sysModules)=false/\∃vs,KV kvs vs/\h.DictOf (b8 P w) a vs:=o4 ok (.inl e)
def Zm{ks:List NI}{vs:Lv}{us:Lw}(ok:bQ P w H h)(x:Jp H ks vs)(r:aX vs us):jc P w h ks us:=by
 induction x generalizing us with
 | nil=>cases r;exact .nil
 | @cons i v ks vs p _ G=>
  cases r with
  | cons j O=>
   refine .cons ?_ (G O);cases i with
   | inl k=>
    have p:v=kV k:=p;subst p;exact mV (P:=P) (w:=w) j
   | inr l=>
    obtain⟨b,rfl,e⟩:=p;cases j;obtain⟨_,c_,J,o,h1,h2,n,z⟩:=(show bE P w H h b (.tup (l.map kV)) from ok b _ e);exact⟨b,rfl,o,c_.toArray,n,h1,h2,z,by simpa using KO J⟩
def sG{ks:List NI}(ok:bQ P w H h)(e:gZ H ks a):(oN P w).is h ks a:=by
 obtain⟨vs,e,x⟩:=e;obtain⟨_,c_,r,o,h1,h2,n,j⟩:=(show bE P w H h a (.tup vs) from ok a _ e);exact⟨o,c_.toArray,n,h1,h2,j,by simpa using Zm ok x r⟩
def qA(ok:bQ P w H h)(e:Rd H a (.dT kvs)):kvs.length<=sizeLine/\(a == sysModules)=false /\
 ∃xs,KT H kvs xs/\h.DictOfH (oN P w) a xs:=by
 obtain⟨z,y,xs,r,o,es,ep,h1,h2,G,J,O⟩:=(show bE P w H h a (.dT kvs) from KP ok e);refine⟨z,y,xs,r,o,es,ep,h1,h2,G,J,λx hx=>?_,O⟩;have all:∀{l:List (List NI×V)}{m:List (List NI×Addr×Value)},KT H l m->∀x∈m,(oN P w).is h x.1 x.2.1:=by
  intro l m q
  induction q with
  | nil=>intro x hx;exact nomatch hx
  | @cons p q ps Y j t U=>
   intro x hx
   rcases bc.mp hx with e | hx
   . subst e;exact sG ok (by rw[<-j.1];exact j.2.1)
   exact U x hx
 exact all r x hx
def Zn(ok:bQ P w H h)(e:H a=some (.dT kvs)):kvs.length<=sizeLine/\(a == sysModules)=false /\
 ∃xs,KT H kvs xs/\h.DictOfH (oN P w) a xs:=qA ok (.inl e)
end
def cw(H:Hp)(a:Addr)(y:V)(r:Option V):Prop:=
 (∃kvs k,Rd H a (.dK kvs)/\y=kV k/\r=bJ kvs k)\/∃kvs k b,Rd H a (.dT kvs)/\y=.ref b/\gZ H k b/\r=bJ kvs k
def ib(H:Hp)(a:Addr)(y v:V)(H':Hp):Prop:=
 (∃kvs k,H a=some (.dK kvs)/\y=kV k/\kvs.length<sizeLine/\H'=ae H a (.dK (cD kvs k v))) \/
 ∃kvs k b,H a=some (.dT kvs)/\y=.ref b/\gZ H k b/\kvs.length<sizeLine/\H'=ae H a (.dT (cD kvs k v))
def cw.k{H:Hp}{kvs:List (aq×V)}{k:aq}(e:H a=some (.dK kvs)):cw H a (kV k) (bJ kvs k):=.inl ⟨kvs,k,.inl e,rfl,rfl⟩
def cw.t{H:Hp}{k:List NI}(e:H a=some (.dT kvs))(j:gZ H k b):cw H a (.ref b) (bJ kvs k):=.inr ⟨kvs,k,b,.inl e,rfl,j,rfl⟩
def ib.k{H:Hp}{kvs:List (aq×V)}{k:aq}(e:H a=some (.dK kvs))(j:kvs.length<sizeLine):ib H a (kV k) v (ae H a (.dK (cD kvs k v))):=.inl ⟨kvs,k,e,rfl,j,rfl⟩
def ib.t{H:Hp}{k:List NI}(e:H a=some (.dT kvs))(j:gZ H k b)(z:kvs.length<sizeLine) :
 ib H a (.ref b) v (ae H a (.dT (cD kvs k v))):=.inr ⟨kvs,k,b,e,rfl,j,z,rfl⟩
section
variable {H:Hp}{y:V}{r:Value}{o:Option V}{E:VP}
def Inv.big(I:Inv X a_ Z H s):sysModules<s.heap.objs.size:=by
 have h:mainGlobals<s.heap.objs.size:=(I.mod.glob.keeps I.bk).lt;exact uv (by decide) h
def Zo{Q:VP}(hu:A.units+64<cLine)(I:Inv X a_ Z H s)(g:cw H a y (some v))(Y:RelV y u)(h:∀j s',Inv X a_ Z H s'->RelV v j->Q j s') :
 wpAny (model X.prog X.w) A (getItem (.ref a) u) Q E s:=by
 rcases g with⟨kvs,k,e,G,l⟩ | ⟨kvs,k,b,e,G,eb,l⟩
 . subst G;obtain⟨z,hd,vs,U,dd⟩:=o4 I.hok e;obtain⟨j,O,J⟩:=gP.some_of (v:=v) (o:=valueAt vs k) (by rw[l];exact U.val k);exact wpAny_getItem_of (mV Y) dd.mapOf O (h j _ (I.tok _) J)
 subst G;cases (show u=Value.ref b from Y);obtain⟨z,hd,xs,U,dd⟩:=qA I.hok e;obtain⟨j,O,J⟩:=gP.some_of (v:=v) (o:=(atKey xs k).map (·.2)) (by rw[l];exact U.val k);obtain⟨p,hp,wD⟩:=Option.map_eq_some_iff.mp O;refine wpAny_getItem_heap (uD hu) (sG I.hok eb) dd hp ?_;rw[wD];exact h j _ (I.tok _) J
def Zp{Q:VP}(U:A.units+64<cLine)(I:Inv X a_ Z H s)(g:cw H a y o)(J:RelV y u)(h:∀s',Inv X a_ Z H s'->Q (.bool o.isSome) s') :
 wpAny (model X.prog X.w) A (compareOp .In u (.ref a)) Q E s:=by
 rcases g with⟨kvs,k,e,j,l⟩ | ⟨kvs,k,b,e,j,O,l⟩
 . subst j;obtain⟨z,hd,vs,G,dd⟩:=o4 I.hok e;refine wpAny_in_of (mV J) hd dd.mapOf ?_;rw[<-(G.val k).isSome_eq,<-l];exact h _ (I.tok _)
 subst j;cases (show u=Value.ref b from J);obtain⟨z,hd,xs,G,dd⟩:=qA I.hok e;refine wpAny_in_heap (uD U) (sG I.hok O) hd dd ?_;have q:=(G.val k).isSome_eq;rw[U4]at q;rw[<-q,<-l];exact h _ (I.tok _)
def Zq{Q:VP}(U:A.units+64<cLine)(I:Inv X a_ Z H s)(g:cw H a y o)(J:RelV y u)(h:∀s',Inv X a_ Z H s'->Q (.bool (!o.isSome)) s') :
 wpAny (model X.prog X.w) A (compareOp .NotIn u (.ref a)) Q E s:=by
 rcases g with⟨kvs,k,e,j,l⟩ | ⟨kvs,k,b,e,j,O,l⟩
 . subst j;obtain⟨z,hd,vs,G,dd⟩:=o4 I.hok e;refine wpAny_notIn_of (mV J) hd dd.mapOf ?_;rw[<-(G.val k).isSome_eq,<-l];exact h _ (I.tok _)
 subst j;cases (show u=Value.ref b from J);obtain⟨z,hd,xs,G,dd⟩:=qA I.hok e;refine wpAny_notIn_heap (uD U) (sG I.hok O) hd dd ?_;have q:=(G.val k).isSome_eq;rw[U4]at q;rw[<-q,<-l];exact h _ (I.tok _)
def wE{h':Heap}{ob:HO}(I:Inv X a_ Z H s)(J:wf (H a))(hs:Heap.SameBut a s.heap h')(G:∃q,h'.get? a=some q)(O:bE X.prog X.w (ae H a ob) h' a ob) :
 Inv X a_ Z (ae H a ob) { s with heap:=h',toks:=t' }:=
 I.write (x:=a) (e:=a) J (.inl rfl) (λb q j z=>(hs.2 b j).trans z) G O
def wF{h':Heap}{kvs:List (aq×V)}{vs:List (aq×Value)}(z:kvs.length<=sizeLine)(hd:(a == sysModules)=false)(j:KV kvs vs)(dd:h'.DictOf (b8 P w) a vs) :
 bE P w H' h' a (.dK kvs):=⟨z,hd,vs,j,dd⟩
def Zr{Q:Unit->Shared->Prop}(hu:A.units+64<cLine)(I:Inv X a_ Z H s)(g:ib H a y v H')(ry:RelV y u)(rv:RelV v r)(h:∀s',Inv X a_ Z H' s'->Q () s') :
 wpAny (model X.prog X.w) A (setItem (.ref a) u r) Q E s:=by
 rcases g with⟨kvs,k,e,U,l,O⟩ | ⟨kvs,k,b,e,U,eb,l,O⟩
 . subst U O;obtain⟨z,hd,vs,j,dd⟩:=kW I.hok e;have hz:vs.length<=sizeLine:=by rw[<-j.length];exact z
   have Y:(cD kvs k v).length<=sizeLine:=by have:=zJ kvs k v;omega
   refine wpAny_setItem_pairs (hsz:=hz) (mV ry) dd λh' J hs=>h _ ?_;have he:∃q,h'.get? a=some q:=J.elim λq Zs=>Zs.elim λ_ Zt=>Zt.elim λ_ Zu=>Zu.elim λG _=>⟨q,G⟩;exact wE I (by rw[e];exact True.intro) hs he (wF Y hd (j.put k rv) J)
 subst U O;cases (show u=Value.ref b from ry);obtain⟨z,hd,xs,j,dd⟩:=Zn I.hok e;have hz:xs.length<=sizeLine:=by rw[<-IB j];exact z
 have Y:(cD kvs k v).length<=sizeLine:=by have:=zJ kvs k v;omega
 refine wpAny_setItem_heap (hsz:=hz) (uD hu) (sG I.hok eb) dd λh' J hs=>h _ ?_;obtain⟨q,es,ep,G,h2,h3,h4,_,h5⟩:=J;refine wE I (by rw[e];exact True.intro) hs ⟨q,G⟩ ⟨Y,hd,_,(j.put k eb rv).keeps λc ys ec=>?_,q,es,ep,G,h2,h3,h4,h5⟩;rw[aE (aT ec e (λz=>nomatch z))];exact ec
end
section
variable {H:Hp}{kvs:List (aq×V)} {k:aq}{E:VP}
def Zv{j:Lw}{Q:VP}(I:Inv X a_ Z H s)(e:H a=some (.dK kvs))(O:RelV (kV k) u)(l:bJ kvs k=some v)(U:j=[]\/∃x,j=[x])
 (h:∀G s',Inv X a_ Z (ae H a (.dK (oZ kvs k))) s'->RelV v G->Q G s'):wpAny (model X.prog X.w) A (call (.builtin "dict.pop") (.ref a::u::j)) Q E s:=by
 obtain⟨z,hd,vs,J,dd⟩:=kW I.hok e;obtain⟨G,hw,gH⟩:=gP.some_of (v:=v) (o:=valueAt vs k) (by rw[<-l];exact J.val k);have hp:(keyPart u).isSome=true:=by
  cases k with
  | inl i=>obtain⟨t,q⟩:=(show∃t,u=Value.int i t from O);subst q;rfl
  | inr x=>obtain⟨t,q⟩:=(show∃t,u=Value.str x t from O);subst q;rfl
 have ha:argsOk "dict.pop" ⟨.ref a::u::j,[]⟩:=by
  rcases U with q | ⟨x,q⟩
  . subst q;exact PySem.F.args_dict_pop_2 _ _
  subst q;exact PySem.F.args_dict_pop_3 _ _ _
 refine rF asc dd.typeIs PySem.F.entry_dict_pop ha (meets_dict_pop_there (b8 X.prog X.w) a (mV O) j U hp)
  ⟨vs,G,dd,by rw[<-J.length];exact z,hw,λh' Y hs=>h G _ ?_ gH⟩
 have he:∃q,h'.get? a=some q:=Y.elim λq Zw=>Zw.elim λ_ Zx=>Zx.elim λ_ Zy=>Zy.elim λhq _=>⟨q,hq⟩;exact wE I (by rw[e];exact True.intro) hs he (wF (cR (Zl kvs k) z) hd (J.drop k) Y)
end
def KQ(i:Expr):Prop:=∀z j,subscripted i false z j=operate [z,j] (getItem z j)
def Zz{prog:Program}{E:VP}{env:Env}{value j:Expr}{id:String}{Q:VP}
 (hl:typeLookup (.type T) "__getitem__"=pure (some (.builtin id))) (hs:KQ j)
 (h:wpAny (model prog w) A (eval value env) (λo U=>wpAny (model prog w) A (eval j env) (λi z=>z.TypeIs o T/\wpAny (model prog w) A (getItem o i) Q E z) E U) E s) :
 wpAny (model prog w) A (eval (.Subscript value j pos) env) Q E s:=by
 refine Subscript_ (dH h (λo U h₁=>dH h₁ (λi z J=>?_) λ_ _ x=>x) λ_ _ x=>x);obtain⟨O,J⟩:=J;unfold subscriptTail;refine aa ?_;rw[getitemInPython_of_ne O.not_modules];refine aa (yH O hl ?_);have G:wpAny (model prog w) A (subscripted j false o i) (λr Y=>wpAny (model prog w) A (letTemporaryGo value o r >>= λ_=>pure r) Q E Y) E z:=by
  rw[hs o i];exact wpAny_operating (dH J (λr Y h₃=>aa (wpAny_letTemporaryGo (aj h₃))) λ_ _ x=>x)
 first
  | exact aj (aa G)
  | exact aa (aj (aa G))
  | exact aa G
def ZA{H:Hp}{y:V}{o:Option V}(I:Inv X a_ Z H s)(g:cw H a y o):s.TypeIs (.ref a) "dict":=by
 rcases g with⟨kvs,k,e,_,_⟩ | ⟨kvs,k,b,e,_,_,_⟩
 . obtain⟨_,_,vs,_,dd⟩:=o4 I.hok e;exact dd.typeIs
 obtain⟨_,_,xs,_,dd⟩:=qA I.hok e;exact dd.typeIs
inductive KR (Q:VK) (y:V) (H2:Hp):V->Prop where
 | mk {a:Addr}{v:V} (_:cw H2 a y (some v)) (_:Q v H2):KR Q y H2 (.ref a)
def ZB(td ty:TE):TE:=λZ H Q=>td Z H λx H1=>ty Z H1 λy H2=>KR Q y H2 x
inductive KS (Q:VK) (y:V) (H2:Hp):V->Prop where
 | mk {a:Addr} (o:Option V) (_:cw H2 a y o) (_:Q (.bl o.isSome) H2):KS Q y H2 (.ref a)
def ZC(ty td:TE):TE:=λZ H Q=>ty Z H λy H1=>td Z H1 λx H2=>KS Q y H2 x
inductive KU (Q:VK) (y:V) (H2:Hp):V->Prop where
 | mk {a:Addr} (o:Option V) (_:cw H2 a y o) (_:Q (.bl (!o.isSome)) H2):KU Q y H2 (.ref a)
def ZD(ty td:TE):TE:=λZ H Q=>ty Z H λy H1=>td Z H1 λx H2=>KU Q y H2 x
inductive KW (D:Ends) (Z:St) (v:V) (y:V) (H3:Hp):V->Prop where
 | mk {a:Addr}{j:Hp} (_:ib H3 a y v j) (_:D.nx Z j):KW D Z v y H3 (.ref a)
def ZE(td ty tv:TE):TS:=λD Z H=>tv Z H λv H1=>td Z H1 λx H2=>ty Z H2 λy H3=>KW D Z v y H3 x
section
variable {o i e value:Expr}{pos' uM:Pos}{td ty tv:TE}
def sK(hu:X.A.units+64<cLine)(ho:PE X o td)(hi:PE X i ty)(hs:KQ i):PE X (.Subscript o i pos) (ZB td ty):=by
 intro a_ s Z H Q I h;refine Zz PySem.F.slot_dict_getitem.lookup hs (thn (ho a_ s Z H _ I h) λu s1 J=>aN J λx H1 z rx q1=>thn (hi a_ s1 Z H1 _ z q1) λiv s2 O=>aN O λy H2 j ry U=>?_);obtain @⟨a,v,g,q2⟩:=U;obtain rfl:u=Value.ref a:=rx;exact⟨ZA j g,Zo hu j g ry λw' s3 G Y=>⟨v,H2,G,Y,q2⟩⟩
def wG(hu:X.A.units+64<cLine)(hi:PE X i ty)(Y:PE X o td):PC X .In i o (ZC ty td):=by
 intro a_ s Z H Q I h;refine thn (hi a_ s Z H _ I h) λiv s1 J=>aN J λy H1 j ry q1=>thn (Y a_ s1 Z H1 _ j q1) λu s2 O=>aN O λx H2 z rx U=>?_;obtain @⟨a,ov,g,q2⟩:=U;obtain rfl:u=Value.ref a:=rx;exact Zp hu z g ry λs3 G=>⟨.bl ov.isSome,H2,G,rfl,q2⟩
def KY(hu:X.A.units+64<cLine)(hi:PE X i ty)(Y:PE X o td):PC X .NotIn i o (ZD ty td):=by
 intro a_ s Z H Q I h;refine thn (hi a_ s Z H _ I h) λiv s1 J=>aN J λy H1 j ry q1=>thn (Y a_ s1 Z H1 _ j q1) λu s2 O=>aN O λx H2 z rx U=>?_;obtain @⟨a,ov,g,q2⟩:=U;obtain rfl:u=Value.ref a:=rx;exact Zq hu z g ry λs3 G=>⟨.bl (!ov.isSome),H2,G,rfl,q2⟩
def kX(hu:X.A.units+64<cLine)(ho:PE X o td)(hi:PE X i ty)(hv:PE X value tv)(hs:swapsWith value (some (.Subscript o i pos')) pos.line X.env=pure false) :
 PS X (.Assign [.Subscript o i pos'] value pos) (ZE td ty tv):=by
 intro a_ s Z H D I h;refine wpAny_Assign_Subscript (thn (hv a_ s Z H _ I h) λr s1 U=>aN U λv H1 z rv q1=>thn (ho a_ s1 Z H1 _ z q1) λu s2 Y=>aN Y λx H2 G rx q2=>thn (hi a_ s2 Z H2 _ G q2) λiv s3 ZQ=>aN ZQ λy H3 J ry ZR=>?_) hs;obtain @⟨a,j,g,q3⟩:=ZR;obtain rfl:u=Value.ref a:=rx;exact Zr hu J g ry rv λs4 O=>⟨Z,j,O,q3⟩
end
def KZ{H:Hp}(h:Heap)(j:sysModules<h.objs.size):bE P w H (h.push { cls:=.type "dict",data:=.dict #[] }) h.objs.size (.dK []):=
 ⟨cE _,ur.mpr (gj (cg j)),[],.nil,Heap.DictOf.new h⟩
def ZS{H:Hp}(h:Heap)(j:sysModules<h.objs.size):bE P w H (h.push { cls:=.type "dict",data:=.dict #[] }) h.objs.size (.dT []):=
 ⟨cE _,ur.mpr (gj (cg j)),[],.nil,_,#[],0,cT _ rfl,⟨rfl,rfl,rfl⟩,rfl,rfl,jo⟩
def ZT:TE:=λ_ H Q=>∀p,H p=none->Q (.ref p) (ae H p (.dK []))
def ZU:TE:=λ_ H Q=>∀p,H p=none->Q (.ref p) (ae H p (.dT []))
def ZV:PE X (.Dict [] [] pos) ZT:=λa_ s Z H Q I h=>
 wpAny_Dict_empty ⟨.ref s.heap.objs.size,_,I.laid (a:=s.heap.objs.size) (o:=.dK []) (t':=s.toks) (λ_ _ q=>bB _ q) (aD _) (KZ s.heap I.big),rfl,h _ (I.hok.fresh (aD _))⟩
def ZW:PE X (.Dict [] [] pos) ZU:=λa_ s Z H Q I h=>
 wpAny_Dict_empty ⟨.ref s.heap.objs.size,_,I.laid (a:=s.heap.objs.size) (o:=.dT []) (t':=s.toks) (λ_ _ q=>bB _ q) (aD _) (ZS s.heap I.big),rfl,h _ (I.hok.fresh (aD _))⟩
def DG:List (TE×TE)->St->Hp->(List (V×V)->Hp->Prop)->Prop
 | [],_,H,Q=>Q [] H
 | (tk,tv)::r,Z,H,Q=>tk Z H λx H1=>tv Z H1 λy H2=>DG r Z H2 λps H3=>Q ((x,y)::ps) H3
abbrev VV:List (V×V)->List (Value×Value)->Prop:=Paired λp q=>RelV p.1 q.1/\RelV p.2 q.2
def zK(X:Cx)(pos:Pos)(j:List (Option Expr))(G:List Expr)(z:List (TE×TE)):Prop:=
 ∀(a_:Po) (s:Shared) (Z:St) (H:Hp) (Q:List (V×V)->Hp->Prop),Inv X a_ Z H s->DG z Z H Q ->
  wpAny (model X.prog X.w) X.A (evalPairs (pairTrees j G X.env pos)) (λvs s'=>∃ps H',Inv X a_ Z H' s'/\VV ps vs/\Q ps H') X.xe s
def ZX:zK X pos [] [] []:=λa_ s Z H Q I h=>pairTrees_nil_walk ⟨[],H,I,.nil,h⟩
def ZY{k v:Expr}{ks:List (Option Expr)}{vs:List Expr}{tk tv:TE}{j:List (TE×TE)}(hk:PE X k tk)(hv:PE X v tv)(hr:zK X pos ks vs j) :
 zK X pos (some k::ks) (v::vs) ((tk,tv)::j):=λa_ s Z H Q I h=>
 pairTrees_cons_walk (thn (hk a_ s Z H _ I h) λu s1 Y=>aN Y λx H1 z rx q1=>thn (hv a_ s1 Z H1 _ z q1) λw2 s2 O=>aN O λy H2 G ry q2=>
  thn (hr a_ s2 Z H2 _ G q2) λws s3 U=>aN U λps H3 J a0 q3=>⟨(x,y)::ps,H3,J,.cons ⟨rx,ry⟩ a0,q3⟩)
def sN(kvs z:List (aq×V)):List (aq×V):=z.foldl (λj kv=>cD j kv.1 kv.2) kvs
def KV.merge:∀{j:List (aq×V)}{z:List (aq×Value)}{kvs:List (aq×V)}{vs:List (aq×Value)},KV j z->KV kvs vs->KV (sN kvs j) (merged vs z):=by
 intro j z kvs vs r;unfold KV at r
 induction r generalizing kvs vs with
 | nil=>intro q;exact q
 | @cons p q ps O h t G=>
  intro J;have e:KV (cD kvs p.1 p.2) (stored vs q.1 q.2):=by
   have:=J.put p.1 h.2;rw[<-h.1];exact this
  exact G e
def DI:∀(j kvs:List (aq×V)),(sN kvs j).length<=kvs.length+j.length
 | [],kvs=>by show kvs.length<=kvs.length+0;omega
 | p::r,kvs=>by
  have h1:=DI r (cD kvs p.1 p.2);have h2:=zJ kvs p.1 p.2;show(sN (cD kvs p.1 p.2) r).length<=_;rw[bq];omega
def K1{P:Program}{w:World}:∀{kvs:List (aq×V)}{z:List (Value×Value)},VV (kvs.map λkv=>(kV kv.1,kv.2)) z->∃j,Carries (b8 P w) z j/\KV kvs j
 | [],_,r=>by rw[yN]at r;cases r;exact⟨[],True.intro,.nil⟩
 | p::kvs,_,r=>by
  rw[bp]at r;cases r with
  | @cons a b as bs h t=>
   obtain⟨j,c,q⟩:=K1 (P:=P) (w:=w) t;obtain⟨J,G⟩:=b;exact⟨(p.1,G)::j,⟨mV h.1,rfl,c⟩,.cons ⟨rfl,h.2⟩ q⟩
def Z3(j:List (TE×TE)):TE:=λZ H Q=>∀p,H p=none->DG j Z (ae H p (.dK [])) λps H2=>H2 p=some (.dK [])/\∃kvs:List (aq×V),ps=kvs.map (λkv=>(kV kv.1,kv.2))/\kvs.length<=15/\Q (.ref p) (ae H2 p (.dK (sN [] kvs)))
def Z4{j:List (Option Expr)}{G:List Expr}{U:List (TE×TE)}(h:zK X pos j G U)(lH:j.all (·.isSome)=true)(hl:j.length=G.length)(h0:j≠[])
 (Z5:j.length<=15):PE X (.Dict j G pos) (Z3 U):=by
 intro a_ s Z H Q I q;have hn:=I.hok.fresh (aD s.heap.objs.size);have Y:=I.laid (a:=s.heap.objs.size) (o:=.dK []) (h':=s.heap.push { cls:=.type "dict",data:=.dict #[] }) (t':=s.toks) (λ_ _ q=>bB _ q) (aD _) (KZ s.heap I.big);refine wpAny_Dict_walk (knd:=b8 X.prog X.w) lH hl h0 Z5 (thn (h a_ _ Z _ _ Y (q _ hn)) λws s2 Z6=>aN Z6 λps H2 J a4 Z7=>Z7.elim λe Z8=>Z8.elim λkvs Z9=>Z9.elim λep a0=>a0.elim λlk q2=>?_);subst ep;obtain⟨rs,c,rk⟩:=K1 (P:=X.prog) (w:=X.w) a4;obtain⟨z,hd,a5,r0,dd⟩:=kW J.hok e;cases r0;refine⟨rs,c,dd,λh' O hs=>⟨.ref s.heap.objs.size,_,?_,rfl,q2⟩⟩;have hz:(sN [] kvs).length<=sizeLine:=by
  have h1:=DI kvs [];rw[gk]at h1;rw[qf];omega
 have he:∃q,h'.get? s.heap.objs.size=some q:=O.elim λq a1=>a1.elim λ_ a2=>a2.elim λ_ a3=>a3.elim λhq _=>⟨q,hq⟩;exact wE J (by rw[e];exact True.intro) hs he (wF hz hd (rk.merge .nil) O)
structure M1(X:Cx)(o:Expr)(m:Str)(apos:Pos)(e:Expr)(bU:Pos):Prop where
 base:attributeBase o m X.env (eval o X.env)=eval o X.env
 few:((backTo bU (starEach [e] X.env)).all (λx=>!x.1) && (backToKw bU (keywordEach [] X.env)).all (λx=>x.1.isSome)
  && decide (([e]:List Expr).length+([]:List Keyword).length+(if ([]:List Keyword).isEmpty then 0 else 1)<30))=true
 line:(apos.endLine == bU.line)=true
 trees:backTo bU (starEach [e] X.env)=[(false,eval e X.env)]
structure M2(X:Cx)(o:Expr)(m:Str)(apos:Pos)(e f:Expr)(bU:Pos):Prop where
 base:attributeBase o m X.env (eval o X.env)=eval o X.env
 few:((backTo bU (starEach [e,f] X.env)).all (λx=>!x.1) && (backToKw bU (keywordEach [] X.env)).all (λx=>x.1.isSome)
  && decide (([e,f]:List Expr).length+([]:List Keyword).length+(if ([]:List Keyword).isEmpty then 0 else 1)<30))=true
 line:(apos.endLine == bU.line)=true
 trees:backTo bU (starEach [e,f] X.env)=[(false,eval e X.env),(false,eval f X.env)]
def zL(H:Hp)(a:Addr):Prop:=(∃kvs,Rd H a (.dK kvs))\/∃kvs,Rd H a (.dT kvs)
def DJ{H:Hp}(I:Inv X a_ Z H s)(d:zL H a) :
 s.TypeIs (.ref a) "dict"/\(∀b,Value.ref a=.ref b->∃ob,s.heap.get? b=some ob/\ob.dict=none)/\(a == sysModules)=false:=by
 rcases d with⟨kvs,e⟩ | ⟨kvs,e⟩
 . obtain⟨_,hd,vs,_,dd⟩:=o4 I.hok e;refine⟨dd.typeIs,λb q=>?_,hd⟩;cases q;obtain⟨ob,_,_,h1,h2,_⟩:=dd;exact⟨ob,h1,h2.2.1⟩
 obtain⟨_,hd,xs,_,dd⟩:=qA I.hok e;refine⟨dd.typeIs,λb q=>?_,hd⟩;cases q;obtain⟨ob,_,_,h1,h2,_⟩:=dd;exact⟨ob,h1,h2.2.1⟩
section
variable {H:Hp}{y d:V}{r:Value}{o:Option V}{E:VP}
def aae{Q:VP}(Y:A.units+64<cLine)(I:Inv X a_ Z H s)(g:cw H a y o)(J:RelV y u)(h:∀O s',Inv X a_ Z H s'->RelV (o.getD .non) O->Q O s') :
 wpAny (model X.prog X.w) A (call (.builtin "dict.get") [.ref a,u]) Q E s:=by
 rcases g with⟨kvs,k,e,j,l⟩ | ⟨kvs,k,b,e,j,U,l⟩
 . subst j;obtain⟨z,hd,vs,G,dd⟩:=o4 I.hok e;refine rF yP dd.typeIs IH (asd _ _) (meets_dict_get (b8 X.prog X.w) a (mV J) hd) ⟨_,dd.mapOf,h _ _ (I.tok _) ?_⟩;rw[l];exact(G.val k).getD rfl
 subst j;cases (show u=Value.ref b from J);obtain⟨z,hd,xs,G,dd⟩:=qA I.hok e;refine rF yP dd.typeIs IH (asd _ _) (meetsH_dict_get (oN X.prog X.w) a b hd) ⟨uD Y,k,xs,sG I.hok U,dd,h _ _ (I.tok _) ?_⟩;rw[l];exact(G.val k).getD rfl
def aaf{Q:VP}(hu:A.units+64<cLine)(I:Inv X a_ Z H s)(g:cw H a y o)(O:RelV y u)(J:RelV d r)(h:∀U s',Inv X a_ Z H s'->RelV (o.getD d) U->Q U s') :
 wpAny (model X.prog X.w) A (call (.builtin "dict.get") [.ref a,u,r]) Q E s:=by
 rcases g with⟨kvs,k,e,j,l⟩ | ⟨kvs,k,b,e,j,Y,l⟩
 . subst j;obtain⟨z,hd,vs,G,dd⟩:=o4 I.hok e;refine rF yP dd.typeIs IH (ase _ _ _) (meets_dict_get_default (b8 X.prog X.w) a (mV O) hd r) ⟨_,dd.mapOf,h _ _ (I.tok _) ?_⟩;rw[l];exact(G.val k).getD J
 subst j;cases (show u=Value.ref b from O);obtain⟨z,hd,xs,G,dd⟩:=qA I.hok e;refine rF yP dd.typeIs IH (ase _ _ _) (meetsH_dict_get_default (oN X.prog X.w) a b hd r) ⟨uD hu,k,xs,sG I.hok Y,dd,h _ _ (I.tok _) ?_⟩;rw[l];exact(G.val k).getD J
end
inductive K2 (ty:TE) (Z:St) (Q:VK) (H1:Hp):V->Prop where
 | mk {a:Addr} (_:zL H1 a) (_:ty Z H1 λy H2=>∃o,cw H2 a y o/\Q (o.getD .non) H2):K2 ty Z Q H1 (.ref a)
def aag(td ty:TE):TE:=λZ H Q=>td Z H λx H1=>K2 ty Z Q H1 x
inductive K3 (ty:TE) (tx:TE) (Z:St) (Q:VK) (H1:Hp):V->Prop where
 | mk {a:Addr} (_:zL H1 a) (_:ty Z H1 λy H2=>tx Z H2 λz H3=>∃o,cw H3 a y o/\Q (o.getD z) H3):K3 ty tx Z Q H1 (.ref a)
def aah(td ty tx:TE):TE:=λZ H Q=>td Z H λx H1=>K3 ty tx Z Q H1 x
inductive K4 (ty:TE) (Z:St) (Q:VK) (H1:Hp):V->Prop where
 | mk {a:Addr} (_:zL H1 a) (_:ty Z H1 λy H2=>∃kvs k v,H2 a=some (.dK kvs)/\y=kV k/\bJ kvs k=some v/\Q v (ae H2 a (.dK (oZ kvs k)))):K4 ty Z Q H1 (.ref a)
def aai(td ty:TE):TE:=λZ H Q=>td Z H λx H1=>K4 ty Z Q H1 x
section
variable {o e f:Expr}{apos bU:Pos}{td ty tx:TE}
def zM(hu:X.A.units+64<cLine)(ho:PE X o td)(he:PE X e ty)(m:M1 X o "get" apos e bU):PE X (.Call (.Attribute o "get" apos) [e] [] bU) (aag td ty):=by
 intro a_ s Z H Q I h;refine U8 m.base m.few m.line Ct yP asf (thn (ho a_ s Z H _ I h) λu s1 J=>aN J λx H1 j rx O=>?_);obtain @⟨a,d,q1⟩:=O;obtain rfl:u=Value.ref a:=rx;obtain⟨t1,t2,_⟩:=DJ j d;refine⟨t1,t2,?_⟩;rw[m.trees];refine Cn rfl (Co (Cf (thn (he a_ s1 Z H1 _ j q1) λiv s2 U=>aN U λy H2 z ry Y=>Y.elim λov a0=>a0.elim λg q2=>IE ?_)));exact aae hu z g ry λw' s3 G gH=>⟨_,H2,G,gH,q2⟩
def DL(hu:X.A.units+64<cLine)(ho:PE X o td)(he:PE X e ty)(hf:PE X f tx)(m:M2 X o "get" apos e f bU):PE X (.Call (.Attribute o "get" apos) [e,f] [] bU) (aah td ty tx):=by
 intro a_ s Z H Q I h;refine U8 m.base m.few m.line Ct yP asf (thn (ho a_ s Z H _ I h) λu s1 U=>aN U λx H1 j rx Y=>?_);obtain @⟨a,d,q1⟩:=Y;obtain rfl:u=Value.ref a:=rx;obtain⟨t1,t2,_⟩:=DJ j d;refine⟨t1,t2,?_⟩;rw[m.trees];refine Cn rfl (Co (Cf (thn (he a_ s1 Z H1 _ j q1) λiv s2 a0=>aN a0 λy H2 G ry q2=>
  Cf (thn (hf a_ s2 Z H2 _ G q2) λfv s3 a1=>aN a1 λz H3 J rz a2=>a2.elim λov a3=>a3.elim λg q3=>IE ?_))))
 exact aaf hu J g ry rz λw' s4 O gH=>⟨_,H3,O,gH,q3⟩
def DM(ho:PE X o td)(he:PE X e ty)(m:M1 X o "pop" apos e bU):PE X (.Call (.Attribute o "pop" apos) [e] [] bU) (aai td ty):=by
 intro a_ s Z H Q I h;refine U8 m.base m.few m.line Ct asc PySem.F.type_dict_pop (thn (ho a_ s Z H _ I h) λu s1 Y=>aN Y λx H1 j rx a0=>?_);obtain @⟨a,d,q1⟩:=a0;obtain rfl:u=Value.ref a:=rx;obtain⟨t1,t2,_⟩:=DJ j d;refine⟨t1,t2,?_⟩;rw[m.trees];refine Cn rfl (Co (Cf (thn (he a_ s1 Z H1 _ j q1) λiv s2 a1=>aN a1 λy H2 z ry a2=>a2.elim λkvs a3=>a3.elim λk a4=>a4.elim λv J=>J.elim λea O=>O.elim λey U=>U.elim λl q2=>IE ?_)));subst ey;exact Zv z ea ry l (.inl rfl) λw' s3 G gH=>⟨v,_,G,gH,q2⟩
end
section
variable {H:Hp}{kvs:List (aq×V)} {E:VP}
def aaD{Q:VP}(I:Inv X a_ Z H s)(e:Rd H a (.dK kvs))(h:∀p s',H p=none->Inv X a_ Z (ae H p (.dK kvs)) s'->Q (.ref p) s'):wpAny (model X.prog X.w) A (call (.type "dict") [.ref a]) Q E s:=by
 obtain⟨z,hd,vs,G,dd⟩:=o4 I.hok e;refine kt_call_dict hd dd (by rw[<-G.length];exact z) λh' J hs=>?_;refine h _ _ (I.hok.fresh (aD _)) (I.laid (a:=s.heap.objs.size) (o:=.dK kvs) (t':=s.toks) (λb q j=>?_) (aD _) (wF z (ur.mpr (gj (cg I.big))) G J));exact(hs.2 b (cg (bi j))).trans (bB _ j)
end
end L2
namespace Att
open PySem.W PySem.Calls
def aaE{P:Params}{h:Heap}:∀(ns:List Int) (vs:Lw),WellAll P h vs (ns.map WData.int)->IntsAre vs ns:=by
 intro ns
 induction ns with
 | nil=>
  intro vs w;rw[yN]at w;cases w;exact .nil
 | cons n ns j=>
  intro vs w;rw[bp]at w;cases w with
  | cons a b=>
   cases a;exact .cons _ _ (j _ b)
def aaF{l:OpenLaw}{n:Nat}(hn:l.most=some n){P:Params}{h:Heap}{args:List WData}{J:Lw}
 (O:l.row.toRowW.claim.pre args=true) (jX:WellAll P h J args) :
 ∃a vs ns,J=[Value.ref a]/\args=[WData.list (ns.map WData.int)]/\h.get? a=some { cls:=.type "list",data:=.seq vs.toArray }/\IntsAre vs ns/\ns.length<=n:=by
 have a0:WShape.hasAll [] args [.list .int]=true:=(pre_splitW O).1;have G:l.pre.holds [] { args:=args } = true:=(pre_splitW O).2;obtain⟨d,r,rfl,h1,h2⟩:=hasAllW_cons a0;obtain rfl:=hasAllW_nil h2;obtain⟨xs,rfl,U⟩:=hasW_list h1;obtain⟨ns,rfl⟩:=items_int U;have Y:ns.length<=n:=by
  unfold OpenLaw.pre at G;have j:(WTm.not (.lt (.lit (.int (n:Int))) (.len (.arg 0)))).holds [] { args:=[.list (ns.map .int)] } = true:=by
   have j:=(holds_andW G).1;rw[hn]at j;exact j
  have z:=condW_of j (w_not (w_lt w_lit (w_len_list (w_arg rfl))));rw[ah]at z;refine U9 λq=>?_;have q':(n:Int)<((ns.length:Nat):Int):=by omega
  first
   | (rw[bw q']at z;exact absurd z (by decide))
   | (simp at z;omega)
 cases jX with
 | cons w1 w2=>
  cases w2;cases w1 with
  | list ho lH=>exact⟨_,_,ns,rfl,rfl,ho,aaE ns _ lH,Y⟩
def aaH(l:OpenLaw)(args:List WData):l.row.toRowW.claim.post args (.bool true) args=true:=
 postW_of (r:=l.row.toRowW) (X:=(true == true))
  (show WShape.has [] (.bool true) .bool=true by first | rfl | decide | simp[WShape.has,WShape.arms,WShape.armsAll])
  (show(WTm.eq .res (.lit (.bool true))).value [] { args:=args,res:=some (.bool true),after:=args } = some (.bool (true == true)) from w_eq_bool (w_res rfl) w_lit) rfl
def aaI{l:OpenLaw}{n:Nat}{q:Program}{a0:Ls}{U:(Mv)->Heap->Prop}{YP:World->Heap->Prop}{d:DefRec}
 (hn:l.most=some n) (wH:d.params.defaults=[])
 (call:∀(w:World) (s₀ j:Shared) (mg O:Mv) (z:Addr) (o:Obj) (pm cd J:Value) (a:Addr) (vs:Lw) (ns:List Int),
  Ground q a0 [] U w s₀ mg O j.heap->YP w j.heap ->
  j.heap.get? z=some o->o.data=.func (docDef d.name d.params d.body d.scope pm cd J)->j.heap.CodeRec cd d.name->mg d.name=some (.ref z) ->
  j.heap.get? a=some { cls:=.type "list",data:=.seq vs.toArray }->IntsAre vs ns->ns.length<=n->j.gens = #[] ->
  codeAny (model l.prog w) callerA (.call (.ref z) ⟨[.ref a],[]⟩) (λr s'=>r=.ok (.ret (.bool true))/\OldK j.heap s'.heap/\s'.os=j.os/\AllBare s'.gens) j) :
 WalkO q a0 U YP l.row.toRowW d [] (λf vs=>PySem.call f vs):=by
 intro w s₀ j mg O G Y z o pm cd J dV kV ho hd iw hD wI hg args a6 as zN a3 a5 jX a4;obtain rfl:dV=.none:=Dflts.none hD wH;obtain rfl:kV=.none:=Dflts.noKw hD;obtain⟨a,vs,ns,rfl,rfl,sO,a1,a2⟩:=aaF hn zN jX;refine enter_call (qh (call w s₀ j mg O z o pm cd J a vs ns G Y ho (fd_plain hd) iw wI sO a1 a2 hg) λr s' hq=>?_);obtain⟨rfl,h2,h3,h4⟩:=hq;exact⟨.inl ⟨.bool true,.bool true,[],rfl,λ_=>rfl,.bool true,aaH l _,λ_=>⟨List.Pairwise.nil,λ_ hm=>(nomatch hm)⟩⟩,h2,h3,h4⟩
end Att
namespace L2
variable {x b_:Str}{st:Stmt}{f:Addr}{A B:Prop}{H:Hp}
def K6:∀{vs:Lw}{ns:List Int},IntsAre vs ns->aX (ns.map V.int) vs
 | _,_,.nil=>.nil
 | _,_,.cons n t h=>.cons ⟨t,rfl⟩ (K6 h)
def fU(s:Stmt)(j:Nat):Stmt:=match s with
 | .ClassDef _ _ _ body _ _ _ _ _ _ _=>body.getD j (.Pass ⟨0,0,0,0⟩)
 | _=>.Pass ⟨0,0,0,0⟩
def jw(s:Stmt):Arguments:=match s with
 | .FunctionDef _ a _ _ _ _ _ _ _ _=>a
 | _=>{ posonlyargs:=[],args:=[],vararg:=none,kwonlyargs:=[],kw_defaults:=[],kwarg:=none,defaults:=[] }
def gJ(s:Stmt):List Stmt:=match s with
 | .FunctionDef _ _ b _ _ _ _ _ _ _=>b
 | _=>[]
def aC(s:Stmt):Scope:=match s with
 | .FunctionDef _ _ _ _ _ _ sc _ _ _=>sc
 | _=>{ kind:=.function,names:=[],isGenerator:=false,isCoroutine:=false }
abbrev aL:hZ:=λ_ _ _ _ _ _=>False
abbrev E0:XK:=λ_ _ _=>False
def bY{X:Cx}:lI aL X E0:=λ_ _ _ _ _ _ _ h=>h.elim
structure lQ(K:Fg)(x b_:Str)(st:Stmt)(f:Addr)(fd:Fy):Prop where
 ex:∃(oc:Value) (od:Oa) (kV doc pm:Value) (an:Oa) (av ct:Value) (iN:Array (Option Value)),
  fd=W.fnOf x b_ (jw st) (gJ st) (aC st) .none kV doc pm an av ct/\K.lookup f=some ⟨oc,od,.func fd,iN⟩/\W.codeIn K av b_=true
 kp:W.keepIn K (.ref f)=true
section
variable {P:Program}{w:World}{K:Fg}{mg:Mv}{base:Heap}
def lQ.ok{fd:Fy}{N ps:Ls}{k:Nat}{sp:Sp}(F:lQ K x b_ st f fd)(S:aM N ps (aC st))(len:∀vs H Q E,sp vs H Q E->vs.length=ps.length)
 (U:∀(j:Value) (A:Around) (outer:List Env) (s:Shared) (H:Hp) (vs:Lv) (Q:VK) (E:XK),bT k (A.deeper (envOfC b_ (aC st) s.heap.objs.size f j))->sp vs H Q E ->
  ∃t,bu (qv aL P w K mg base N b_ (aC st) f j A outer s H E).nox (gJ st) t/\t { nx:=λ_ H'=>Q .non H',rt:=Q } (start N vs) H):au P w K mg base aL (k+1) f fd ps sp:=by
 obtain⟨oc,od,kV,Y,pm,an,j,ct,iN,rfl,O,G⟩:=F.ex;refine Dt O G S len λA outer s H vs Q E z J=>?_;obtain⟨t,h,q⟩:=U j A outer s H vs Q E z J;exact⟨t,h.nox,q⟩
def lQ.binds{fd:Fy}{ps:Ls}(F:lQ K x b_ st f fd)
 (h:∀(kV z pm:Value) (an:Oa) (j ct:Value) (us:Lw),us.length=ps.length->bindArgs (W.fnOf x b_ (jw st) (gJ st) (aC st) .none kV z pm an j ct) ⟨us,[]⟩=pure (ps.zip us)):Binds K fd ps []:=by
 obtain⟨oc,od,kV,z,pm,an,j,ct,G,rfl,O,J⟩:=F.ex;exact .all (h kV z pm an j ct)
def K7{oc:Value}{od an:Oa}{G:Array (Option Value)}{kV z pm j ct:Value}(l:K.lookup f=some ⟨oc,od,.func (W.fnOf x b_ (jw st) (gJ st) (aC st) .none kV z pm an j ct),G⟩)
 (c:W.codeIn K j b_=true) (k:W.keepIn K (.ref f)=true):lQ K x b_ st f (W.fnOf x b_ (jw st) (gJ st) (aC st) .none kV z pm an j ct):=⟨⟨oc,od,kV,z,pm,an,j,ct,G,rfl,l,c⟩,k⟩
end
def cp{n:Nat}(h:n<=1000):n<sizeLine:=Cu h (by decide)
section
variable {X:Cx}
def pv(i:Nat){pos:Pos}(j:X.N[i]?=some x:=by rfl)(z:zq X.env.scope x:=by first | exact Or.inl rfl | exact Or.inr (Or.inl rfl) | exact Or.inr (Or.inr rfl))(hd:(x == ("__debug__":Str))=false:=by decide)
 (G:(x == ("__classdict__":Str))=false:=by decide):PE X (.Name x pos) (uH i):=Wv j z hd G
end
def eB(h:B):if false=true then A else B:=by
 rw[af cn];exact h
def eR(h:A):if true=true then A else B:=by
 rw[ai rfl];exact h
def cY{c:Prop}[Decidable c](h1:c->A)(h2:¬c->B):if c then A else B:=by
 by_cases h:c
 . rw[ai h];exact h1 h
 rw[af h];exact h2 h
def ac(H H':Hp):Prop:=∀b o,H b=some o->H' b=some o
def ac.refl(H:Hp):ac H H:=λ_ _ h=>h
def ac.trans{H1 H2:Hp}(a:ac H H1)(b:ac H1 H2):ac H H2:=λc o h=>b c o (a c o h)
def ac.free{H':Hp}(e:ac H H'){l:Addr}(h:H' l=Option.none):H l=Option.none:=by
 cases q:H l with
 | none=>rfl
 | some o=>
  rw[e l o q]at h;cases h
def ac.seq{K:Fg}{H':Hp}{a:Addr}{xs:Lv}(e:ac H H')(h:ag K H a xs):ag K H' a xs:=by
 rcases h with(h | ⟨o,h⟩) | h
 . exact .inl (.inl (e _ _ h))
 . exact .inl (.inr ⟨o,e _ _ h⟩)
 exact .inr h
section
variable {κ:Type} [DecidableEq κ]
def DN{kvs:List (κ×V)}{k:κ}{v:V}(h:bJ kvs k=some v):k∈kvs.map (·.1):=by
 have q:(kvs.any λkv=>decide (kv.1=k))=true:=by
  rw[uP,h]
  all_goals rfl
 obtain⟨p,j,e⟩:=II.mp q;exact bf.mpr ⟨p,j,cq e⟩
end
end L2
set_option maxHeartbeats 4000000
namespace L2
def gb{H:Hp}{p:Addr}{o:HO}(h:H p=none):ac H (ae H p o):=λb u e=>by
 rw[aE (aF e h)];exact e
def gt{H0 H:Hp}{p:Addr}{o:HO}(s:ac H0 H)(h:H0 p=none):ac H0 (ae H p o):=λb u e=>by
 rw[aE (aF e h)];exact s b u e
def aaJ{K:Fg}{H H':Hp}{a:Addr}{xs:Lv}(e:ac H H')(h:aP K H a xs):aP K H' a xs:=by
 rcases h with(h | ⟨o,h⟩) | h
 . exact .inl (.inl (e _ _ h))
 . exact .inl (.inr ⟨o,e _ _ h⟩)
 exact .inr h
abbrev gT (x:Str):Prop:=PyData.strOk x=true
def uQ{x:Str}:gT x↔∀c∈x.cps.toList,c<0x110000:=by
 unfold gT PyData.strOk;rw[Array.all_eq_true'];simp
def zO{x y:Str}(z:gT x)(G:gT y):gT (x++y):=by
 rw[uQ]at *;intro c j;have e:(x++y).cps.toList=x.cps.toList++y.cps.toList:=by
  show(x.cps++y.cps).toList=_;simp
 rw[e,dA]at j;exact j.elim (z c) (G c)
def lR(x y:Str):(x++y).length=x.length+y.length:=by
 show(x.cps++y.cps).size=_;rw[Array.size_append];rfl
def uR(c:Nat):(⟨#[c]⟩:Str).length=1:=rfl
section
variable {X:Cx}
inductive K8 (lo:Option Int) (hi:Option Int) (H:Hp) (Q:VK):V->Prop where
 | mk {z:Str} (_:z.length<=sizeLine) (_:Q (.str (Txt.slice z lo hi)) H):K8 lo hi H Q (.str z)
def aaK:V->Option Int->Option Int->Hp->VK->Prop:=λx lo hi H Q=>K8 lo hi H Q x
def zP:sj X aaK:=by
 intro a_ s Z H x v vl vu lo hi sl Q I rx hs pl O h;obtain @⟨z,hz,q⟩:=h;obtain⟨t,rfl⟩:=rx;refine⟨"str",_,PyProof.Rows.slot_str_getitem.lookup,yO _ _ _,?_⟩;obtain⟨o,ho,Y,hd⟩:=hs;have G:∀(l u:Option (Int×Tok)),vl=partValue l->vu=partValue u->lo=l.map (·.1)->hi=u.map (·.1)->wpAny (model X.prog X.w) X.A (getItem (.str z t) (.ref sl)) (EP X a_ Z Q) X.xe s:=by
  intro l u e1 e2 e3 e4;subst e1 e2 e3 e4;refine wpAny_getItem_str_slice (l:=l) (u:=u) (st:=none) ⟨o,ho,Y,hd⟩ rfl ?_;exact post_val_or_str ⟨cR (Txt.slice_le z _ _) hz,λt' k=>⟨.str (Txt.slice z (l.map (·.1)) (u.map (·.1))),H,I.tok _,⟨_,rfl⟩,q⟩⟩
 cases pl with
 | none=>
  cases O with
  | none=>exact G none none rfl rfl rfl rfl
  | int j J=>exact G none (some (j,J)) rfl rfl rfl rfl
 | int i U=>
  cases O with
  | none=>exact G (some (i,U)) none rfl rfl rfl rfl
  | int j J=>exact G (some (i,U)) (some (j,J)) rfl rfl rfl rfl
def K9:eV X (.builtin "isinstance") (λxs H Q=>∃x t c b,xs=[x,.ty c]/\jt X.K H x t/\W.kitOne X.K t (.type c)=some b/\Q (.bl b) H):=by
 intro a_ s Z H xs us Q I r h;obtain⟨x,t,c,b,rfl,ty,e,q⟩:=h;obtain⟨u,G,rfl,j,z⟩:=vals2 r;cases (show G=Value.type c from z);exact J4 I j ty e λtk=>⟨.bl b,H,I.tok tk,rfl,q⟩
end
end L2
namespace HT
def aaL(A:Around)(s:Shared)(a:Int)(t:Tok)(c:Int)(u:Tok)(prog:Program)(w:World)(E:VP)(Q:VP)(h:Q (.bool (decide (c<=a))) s) :
 wpAny (model prog w) A (richCompare .GtE (.int a t) (.int c u)) Q E s:=
 (PyProof.Rows.ge_int h:wpAny (model prog w) A (compareOp .GtE (.int a t) (.int c u)) Q E s)
section
open PySem.SeqAt
open PySem.AutoSeq1 (wpAny_loadPart')
open PySem.MeetsSeq PySem.MeetsSeq2 PySem.MeetsSeq3
def aaM(l b:Addr)(z j:Av)(n n2:Nat)(dd dQ:Oa)(sl eP:Array (Option Value))(ns ms:List Int)(hi:IntsAre z.toList ns)(Y:IntsAre j.toList ms) :
 Meets (Builtin.«tuple.__ge__» ⟨[.ref l,.ref b],[]⟩)
  (λ_ R s=>s.heap.get? l=some { cls:=.type "tuple",dict:=dd,data:=.seq z n,slots:=sl }/\s.heap.get? b=some { cls:=.type "tuple",dict:=dQ,data:=.seq j n2,slots:=eP } /\
   R (.ok (.ret (.bool (!lexLt ns ms)))) s):=
 .of_wp λprog w A R s h=>by
  obtain⟨O,g,d,tk,os⟩:=s;obtain⟨hl,hb,h⟩:=h;have f2:=Ck;have z1:z.size=ns.length:=by rw[<-hi.length];simp
  have z2:j.size=ms.length:=by rw[<-Y.length];simp
  wp_walk using wpAny_loadPart' hl,wpAny_loadPart' hb,oq _ (λrest b s'=>b.1=none/\s'=⟨O,g,d,tk,os⟩/\∃(vs U:Lw) (G J:List Int),rest=vs.zip U /\
   IntsAre vs G/\IntsAre U J/\G.length+j.size=J.length+z.size/\R (.ok (.ret (.bool (!lexLt G J)))) ⟨O,g,d,tk,os⟩) _
  case turn=>
   rintro⟨y,x⟩ rest b s' ⟨gs,rfl,vs,U,G,J,hz,se,lJ,hlen,hR⟩;cases se with
   | nil=>rw[U0]at hz;cases hz
   | cons a t Du=>
    cases lJ with
    | nil=>rw[U1]at hz;cases hz
    | cons c u Dv=>
     rw[rB]at hz;injection hz with oV qy
     injection oV with hy hx
     subst hy hx;rw[qx]at hR;simp only[bq]at hlen;obtain⟨e,he,wy⟩:=zH A.in1 ⟨O,g,d,tk,os⟩ a t c u;refine aa (he prog w _ _ ?_);cases e with
     | true=>
      rw[ai (wy.mp rfl)]at hR
      wp_walk
      exact⟨rfl,rfl,_,_,_,_,qy,Du,Dv,by omega,hR⟩
     | false=>
      have cC:a≠c:=λq=>absurd (wy.mpr q) cn;rw[af cC]at hR;have sf:=aaL A.in1 ⟨O,g,d,tk,os⟩ a t c u prog w;have eb:(!decide (a<c))=decide (c<=a):=by
       by_cases q:a<c
       . rw[bw q,bM (by omega)];rfl
       rw[bM q,bw (by omega)];rfl
      rw[eb]at hR
      wp_walk using sf
      exact⟨_,rfl,by simpa using hR⟩
  case fin=>
   rintro⟨b1,b2⟩ s' ⟨gs,rfl,vs,U,G,J,hz,se,lJ,hlen,hR⟩;simp only at gs;subst gs;have hv:(!lexLt G J)=decide (j.size<=z.size):=by
    cases se with
    | nil=>
     cases lJ with
     | nil=>
      simp only[gk]at hlen;rw[Km];exact(bw (by omega)).symm
     | cons c u hw=>
      simp only[gk,bq]at hlen;rw[Kn];exact(bM (by omega)).symm
    | cons a t hv=>
     cases lJ with
     | nil=>
      simp only[gk,bq]at hlen;rw[Ko];exact(bw (by omega)).symm
     | cons c u hw=>
      rw[rB]at hz;cases hz
   rw[hv]at hR
   wp_walk
   exact⟨_,rfl,by simpa [Builtin.Tuple.tupleCompareSizes]using hR⟩
  case h=>
   exact⟨rfl,rfl,z.toList,j.toList,ns,ms,rfl,hi,Y,by omega,h⟩
end
section
variable {prog:Program}{w:World}{A:Around}{E:VP}{s:Shared}
def aaN{l b:Addr}{z j:Av}{ns ms:List Int}{Q:VP}(hl:IsTup s.heap l z)(hb:IsTup s.heap b j)(hi:IntsAre z.toList ns)(hj:IntsAre j.toList ms)
 (hu:A.units<cLine) (h:Q (.bool (!lexLt ns ms)) s):wpAny (model prog w) A (compareOp .GtE (.ref l) (.ref b)) Q E s:=by
 obtain⟨⟨cls,dd,data,sl⟩,Y,O,n,hd⟩:=id hl;obtain⟨⟨si,dQ,data2,eP⟩,J,G,n2,U⟩:=id hb;simp only at O hd G U;subst O hd G U;exact IG (op:=.GtE) ⟨_,Y,rfl⟩ ⟨_,J,rfl⟩ PySem.F.slot_tuple_ge PySem.F.entry_tuple_ge (PySem.F.args_tuple_ge_2 _ _) (aaM l b z j n n2 dd dQ sl eP ns ms hi hj)
  ⟨Y,J,show Value.bool (!lexLt ns ms)≠Value.notImplemented/\Q (.bool (!lexLt ns ms)) s from ⟨(λx=>nomatch x),h⟩⟩ hu
end
end HT
namespace L2
section
variable {X:Cx}{K:Fg}{s:Shared}{elt iter tg:Expr}{ifs:List Expr}{pos:Pos}{env:Env}{C:Addr}{cap:Ls}{js:List Nat}{sc:Scope}{g:TG}{tt:TT}{te:TE}{σ0:St}
def aaO(K:Fg):R2:=λx y H Q=>∃a b ns ms,x=.ref a/\y=.ref b/\aP K H a (ns.map V.int)/\aP K H b (ms.map V.int)/\Q (.bl (!HT.lexLt ns ms)) H
def aaP(G:X.A.units<cLine):cu X (compareOp .GtE) (aaO X.K):=by
 intro a_ s Z H x y v u Q I O U h;obtain⟨a,b,ns,ms,rfl,rfl,j,z,q⟩:=h;cases O;cases U;obtain⟨c_,r,p,_⟩:=I.tuple j;obtain⟨Y,J,p2,_⟩:=I.tuple z;exact HT.aaN p p2 (by simpa using intsAre_of r) (by simpa using intsAre_of J) G ⟨.bl _,H,I,rfl,q⟩
mutual
inductive DV (K:Fg) (H:Hp):V->W.Dat->Prop
 | non:DV K H .non .none
 | int (i:Int):DV K H (.int i) (.int i)
 | str (x:Str):DV K H (.str x) (.str x)
 | tup {a:Addr}{xs:Lv}{ds:List W.Dat}:aP K H a xs->jY K H xs ds->DV K H (.ref a) (.tuple ds)
 | lst {a:Addr}{xs:Lv}{ds:List W.Dat}:ag K H a xs->jY K H xs ds->DV K H (.ref a) (.list ds)
inductive jY (K:Fg) (H:Hp):Lv->List W.Dat->Prop
 | nil:jY K H [] []
 | cons {x:V}{d:W.Dat}{xs:Lv}{ds:List W.Dat}:DV K H x d->jY K H xs ds->jY K H (x::xs) (d::ds)
end
def DO{H:Hp}:∀ns:List Int,jY K H (ns.map V.int) (ns.map W.Dat.int)
 | []=>.nil
 | n::ns=>.cons (.int n) (DO ns)
def La{H:Hp}:∀xs:Ls,jY K H (xs.map V.str) (xs.map W.Dat.str)
 | []=>.nil
 | n::ns=>.cons (.str n) (La ns)
section
variable {a_:Po}{Z:St}{H:Hp}
mutual
def DV.reads(I:Inv X a_ Z H s):∀{x:V}{d:W.Dat}{u:Value},DV X.K H x d->RelV x u->∃as,Reads s.heap u (W.kqdP d) as
 | _,_,_,.non,r=>by cases r;exact⟨_,Reads.none⟩
 | _,_,_,.int i,r=>by obtain⟨t,rfl⟩:=r;exact⟨_,Reads.int i t⟩
 | _,_,_,.str x,r=>by obtain⟨t,rfl⟩:=r;exact⟨_,Reads.str x t⟩
 | _,_,_,.tup h q,r=>by
  cases r;obtain⟨c_,j,⟨o,e,c,n,d⟩,_⟩:=I.tuple h;obtain⟨as,z⟩:=jY.reads I q j;rw[W.kqdP];exact⟨as,reads_tuple_at e c d (by simpa using z)⟩
 | _,_,_,.lst h q,r=>by
  cases r;obtain⟨c_,j,⟨o,n,e,c,_,d⟩,_⟩:=I.list h;obtain⟨as,z⟩:=jY.reads I q j;rw[W.kqdP];exact⟨_,reads_list_at e c d (by simpa using z)⟩
def jY.reads(I:Inv X a_ Z H s):∀{xs:Lv}{ds:List W.Dat}{us:Lw},jY X.K H xs ds->aX xs us->∃as,ReadsAll s.heap us (W.kqdPs ds) as
 | _,_,_,.nil,.nil=>⟨_,ReadsAll.nil⟩
 | _,_,_,.cons q qs,.cons r rs=>by
  obtain⟨as,z⟩:=DV.reads I q r;obtain⟨bs,y⟩:=jY.reads I qs rs;rw[W.kqdPs];exact⟨_,ReadsAll.cons z y⟩
end
end
def qB{d:W.Dat}(h:W.kqdOk 9 d=true):SeqAt.shaped (W.kqdP d)=true:=by
 have l:=W.kqd_lay 9 d h;unfold SeqAt.shaped;rw[l.1,uw];exact bw (cR l.2 (by decide))
def Lb(G:X.A.units+64<cLine):cu X (compareOp .Eq) (λx y H Q=>∃d e,DV X.K H x d/\DV X.K H y e/\W.kqdOk 9 d=true/\W.kqdOk 9 e=true/\∀b:Bool,(b=true↔d=e)->Q (.bl b) H):=by
 intro a_ s Z H x y v u Q I U Y h;obtain⟨d,e,hd,z,od,j,q⟩:=h;obtain⟨as,J⟩:=hd.reads I U;obtain⟨bs,O⟩:=z.reads I Y;exact eq_dataH J O (qB od) (qB j) G ⟨.bl _,H,I,rfl,q _ (IJ 9 d e 9 od j)⟩
def DP(G:X.A.units+64<cLine):cu X (compareOp .NotEq) (λx y H Q=>∃d e,DV X.K H x d/\DV X.K H y e/\W.kqdOk 9 d=true/\W.kqdOk 9 e=true/\∀b:Bool,(b=true↔d=e)->Q (.bl (!b)) H):=by
 intro a_ s Z H x y v u Q I U Y h;obtain⟨d,e,hd,z,od,j,q⟩:=h;obtain⟨as,J⟩:=hd.reads I U;obtain⟨bs,O⟩:=z.reads I Y;exact ne_dataH J O (qB od) (qB j) G ⟨.bl _,H,I,rfl,q _ (IJ 9 d e 9 od j)⟩
section
variable {st:Stmt}{rest:List Stmt}{t u:TS}
def aaQ(M:St->Hp->Prop)(t u:TS):TS:=λD Z H=>t { D with nx:=M } Z H/\∀σ' H',M σ' H'->u D σ' H'
def Lc(M:St->Hp->Prop)(h1:PS X st t)(h2:bu X rest u):bu X (st::rest) (aaQ M t u):=by
 intro a_ s Z H D I h;refine UR (thn (h1 a_ s Z H { D with nx:=M } I h.1) λf z q=>?_);cases f with
 | next=>
  obtain⟨σ',H',j,q⟩:=q;exact h2 a_ z σ' H' D j (h.2 σ' H' q)
 | ret v=>exact q
 | brk=>exact q
 | cont=>exact q
end
def jx{H:Hp}{p t:Addr}{o:HO}(h:ae H p o t=none):t≠p/\H t=none:=by
 by_cases e:t=p
 . subst e;rw[aw]at h;cases h
 exact⟨e,by rw[aE e]at h;exact h⟩
def fit{a b:Str}(j:a.length<=100)(z:b.length<=100):a.length+b.length<=sizeLine:=oB (cp (by omega))
def wJ{a:Str}(j:a.length<=100):a.length<=sizeLine:=oB (cp (by omega))
def aaR{α:Type}{xs:List α}{r:Int}(h0:0<=r)(h1:r<xs.length):∃v,cX xs r=some v/\xs[r.toNat]?=some v:=by
 obtain⟨n,rfl⟩:∃n:Nat,r=n:=⟨r.toNat,by omega⟩;have j:n<xs.length:=by omega
 have e:xs[n]?=some (xs[n]'j):=by simp
 exact⟨_,Dx e,by simpa using e⟩
def aaS{ns:List Int}{r:Int}(h0:0<=r)(h1:r<ns.length):∃z,cX (ns.map V.int) r=some (V.int z)/\ns[r.toNat]?=some z:=by
 obtain⟨v,e,e2⟩:=aaR (xs:=ns.map V.int) h0 (by rw[ah];exact h1);rw[cz]at e2;cases q:ns[r.toNat]? with
 | none=>rw[q]at e2;cases e2
 | some z=>
  rw[q]at e2;cases e2;exact⟨z,e,rfl⟩
abbrev Ld (ifs:List Expr) (env:Env):Sem Bool:=
 forIn ifs true λc r=>if r=true then do let ok <-isTrue c env (eval c env);pure (ForInStep.yield ok) else pure (ForInStep.yield r)
def cL(X:Cx)(ifs:List Expr)(t:TT):Prop:=
 ∀(a_:Po) (s:Shared) (Z:St) (H:Hp) (Q:Bool->Hp->Prop),Inv X a_ Z H s->t Z H Q->wpAny (model X.prog X.w) X.A (Ld ifs X.env) (TP X a_ Z Q) X.xe s
def o6:TT:=λ_ H Q=>Q true H
def ix:cL X [] o6:=λ_ _ _ H _ I h=>wpAny_tests_nil ⟨H,I,h⟩
def qC{c:Expr}{t:TT}(h:PT X c t):cL X [c] t:=λa_ s Z H Q I q=>wpAny_tests_one (h a_ s Z H Q I q)
section
variable {prog:Program}{w:World}{A:Around}{R:Result->Shared->Prop}
def aaT{j:Expr}{scope:Scope}{it z:Value}(I:Nat->Shared->Prop)
 (a0:∀n s,I n s->wpAny (model prog w) A (pyNext it) (λr G=>match r with
  | none=>R (.ok .next) G
  | some v=>wpAny (model prog w) A (letOwnedTupleGo j it v) (λ_ s₀=>wpAny (model prog w) A (assign j env v) (λ_ Y=>
   wpAny (model prog w) A (Ld ifs env) (λok J=>
    if ok=true then wpAny (model prog w) A (eval elt env) (λx s₄=>
     wpAny (model prog w) A (call (.builtin "list.append") [z,x]) (λ_ s₅=>∃m,m<n/\I m s₅) (notedBy (model prog w) A env λe s'=>R (.error e) s') s₄) (notedBy (model prog w) A env λe s'=>R (.error e) s') J
    else∃m,m<n/\I m J) (notedBy (model prog w) A env λe s'=>R (.error e) s') Y) (notedBy (model prog w) A env λe s'=>R (.error e) s') s₀) (notedBy (model prog w) A env λe s'=>R (.error e) s') G) (notedBy (model prog w) A env λe s'=>R (.error e) s') s)
 (n:Nat) (h:I n s):codeAny (model prog w) A (.compLoop (.ListComp elt [⟨j,iter,ifs,0⟩] scope pos) 0 it z env) R s:=by
 refine codeAny_loop rfl I (λn s hI=>?_) n h;show wpAny _ A ((compTurn (.ListComp elt [⟨j,iter,ifs,0⟩] scope pos) 0 it z env).onRaise (λx=>do noteFrame x env;theTreesLotGoes x)) _ _ s;refine wpAny_noted ?_;rw[compTurn_list];refine aa (UW (aa (dH (a0 n s hI) (λr G O=>?_) λ_ _ h'=>h')));cases r with
 | none=>exact aj O
 | some v=>
  refine aa (dH O (λ_ s₀ h₀=>?_) λ_ _ h'=>h');refine aa (dH h₀ (λ_ Y h₂=>aa (dH h₂ (λok J U=>?_) λ_ _ h'=>h')) λ_ _ h'=>h');cases ok with
  | false=>exact aj ⟨rfl,U⟩
  | true=>
   exact aa (aa (dH U (λx s₄ h₄=>aa (dH h₄ (λ_ s₅ h₅=>aj (aj ⟨rfl,h₅⟩)) λ_ _ h'=>h')) λ_ _ h'=>h'))
end
def aaU{P:Program}{w:World}{H:Hp}{h1 h2:Heap}(ok:bQ P w H h1)(z:Heap.SameBut C h1 h2)(j:H C=none):bQ P w H h2:=λb ob e=>by
 refine(ok b ob e).stay (λc G hc q=>(z.2 c ?_).trans q) (λ_ q=>q) λ_ _ q=>q;rintro rfl
 rcases hc with rfl | hc
 . rw[j]at e;cases e
 rw[j]at hc;cases hc
def jZ(J:It)(g:TG)(tt:TT)(te:TE)(D:Addr)(G:Hp->Prop)(W:Nat->Nat->St->Hp->Prop):Prop:=
 ∀i m Z H,W i m Z H->(J.stop i H/\G H)\/(J.go i H/\∀x H2,J.yld i H x H2->g x Z H2 λσ3 H3=>tt σ3 H3 λok j=>
  if ok=true then te σ3 j λy z=>∃ys,z D=some (.lst ys)/\ys.length<sizeLine/\∃m',m'<m/\W (i+1) m' σ3 (ae z D (.lst (ys++[y])))
  else∃m',m'<m/\W (i+1) m' σ3 j)
def dF(env:Env):List (Str×NameKind)->List (Str×Addr)->List (Str×Addr)
 | [],cs=>cs
 | (n,k)::r,cs=>if k=.free then dF env r ((n,(env.cells.lookup n).getD 0)::cs) else dF env r cs
def Le{scope:Scope}(h:∀y∈scope.names,y.2=.free->∃c,env.cells.lookup y.1=some c):closureFor scope env=pure (dF env scope.names []):=by
 unfold closureFor;generalize scope.names=l at h;have O:∀(l:List (Str×NameKind)) (cs:List (Str×Addr)),(∀y∈l,y.2=.free->∃c,env.cells.lookup y.1=some c) ->
  (forIn l cs fun(x:Str×NameKind) (r:List (Str×Addr))=>(if (x.2 == .free)=true then do let y <-cellOf env x.1;pure (ForInStep.yield ((x.1,y)::r)) else pure (ForInStep.yield r):Sem (ForInStep (List (Str×Addr)))))=pure (dF env l cs):=by
  intro l
  induction l with
  | nil=>intro cs _;rfl
  | cons x l G=>
   intro cs h;obtain⟨n,k⟩:=x;rw[List.forIn_cons]
   by_cases e:k=.free
   . subst e;obtain⟨c,j⟩:=h _ bA rfl;have j:env.cells.lookup n=some c:=j;have e1:cellOf env n=pure c:=by unfold cellOf;rw[j]
     simp only[e1,dF,j,ut,IK,Cv,pure_bind];exact G _ λy z=>h y (bL _ z)
   have J:(k == NameKind.free)=false:=by simpa using e
   simp only[J,dF,e,iI,kI,pure_bind];exact G _ λy z=>h y (bL _ z)
 have:=O l [] h;simpa using this
def zQ:∀{l:List (Str×NameKind)}{cs:List (Str×Addr)}{x:Str}{c:Addr},(∀y∈l,y.2=.free->∃c,env.cells.lookup y.1=some c)->(∀x c,cs.lookup x=some c->env.cells.lookup x=some c) ->
 (dF env l cs).lookup x=some c->env.cells.lookup x=some c
 | [],_,_,_,_,hc,e=>hc _ _ e
 | (n,k)::l,cs,x,c,h,hc,e=>by
  unfold dF at e;have h':∀y∈l,y.2=.free->∃c,env.cells.lookup y.1=some c:=λy G=>h y (bL _ G);split at e
  . refine zQ h' (λz d hz=>?_) e;rename_i j;rw[Cw]at hz;split at hz
    . rename_i q;obtain⟨d',hd⟩:=h (n,k) bA j;have hd:env.cells.lookup n=some d':=hd;have:z=n:=by simpa using q
      subst this;rw[hd]at hz ⊢;exact hz
    exact hc _ _ hz
  exact zQ h' hc e
def DQ:∀{l:List (Str×NameKind)}{cs:List (Str×Addr)}{x:Str},(cs.lookup x).isSome=true->((dF env l cs).lookup x).isSome=true
 | [],_,_,h=>h
 | (n,k)::l,cs,x,h=>by
  unfold dF;split
  . refine DQ ?_;rw[Cw];split
    . rfl
    exact h
  exact DQ h
def zR{x:Str}:∀{l:List (Str×NameKind)}{cs:List (Str×Addr)},(x,NameKind.free)∈l->((dF env l cs).lookup x).isSome=true
 | (n,k)::l,cs,h=>by
  unfold dF
  rcases bc.mp h with e | e
  . cases e;rw[ai rfl];refine DQ ?_;rw[Cw];simp
  split
  . exact zR e
  exact zR e
def cZ(X:Cx)(N:Ls)(sc:Scope)(s₀:Shared)(H₀:Hp)(C:Addr)(ex:List Addr):Cx where
 prog:=X.prog
 w:=X.w
 K:=X.K
 mg:=X.mg
 base:=X.base
 A:=X.A
 N:=N
 s₀:=s₀
 H₀:=H₀
 env:=compEnvC sc (dF X.env sc.names []) C X.env
 outer:=X.stack
 stack:=X.stack
 ex:=ex
 fn:=λ_=>false
 calm:=X.calm
 pn:=[]
 xe:=λ_ _=>False
structure j0(X:Cx)(own cap:Ls)(js:List Nat)(sc:Scope):Prop where
 kind:sc.kind=.function
 nocell:∀y∈sc.names,y.2≠.cell
 names:∀y∈sc.names,y.2=.local->sc.names.lookup y.1=some .local
 nd:(own++cap).Nodup
 frees:∀y∈sc.names,y.2=.free->y.1∈cap
 slots:js.map (λj=>X.N[j]?)=cap.map some
 outer':cap.map X.env.kindOf=cap.map λ_=>some NameKind.cell
 capk':cap.map (λx=>(relabel sc X.env).names.lookup x)=cap.map λ_=>some NameKind.cell
theorem wK{α β:Type}{f:α->β}{c:β}:∀{l:List α},l.map f=l.map (λ_=>c)->∀x∈l,f x=c
 | [],_,_,h=>nomatch h
 | y::l,e,x,h=>by
  rw[bp,bp]at e;injection e with e1 e2
  rcases bc.mp h with q | q
  . rw[q];exact e1
  exact wK e2 x q
theorem j0.outer{own:Ls}(S:j0 X own cap js sc):∀x∈cap,X.env.kindOf x=some .cell:=wK S.outer'
theorem j0.capk{own:Ls}(S:j0 X own cap js sc):∀x∈cap,(relabel sc X.env).names.lookup x≠some .local:=λx j h=>by
 rw[wK S.capk' x j]at h;cases h
def compStart(n:Nat)(js:List Nat)(Z:St):St:=List.replicate n none++js.map λj=>(Z[j]?).join
def DR(j:TI)(n:Nat)(js:List Nat)(g:TG)(tt:TT)(te:TE):TE:=λZ H Q=>j Z H λJ H1=>∀D,H1 D=none ->
 ∃W:Nat->Nat->St->Hp->Prop,(∃m,W 0 m (compStart n js Z) (ae H1 D (.lst [])))/\jZ J g tt te D (λH'=>Q (.ref D) H') W
section
variable {a_:Po}{Z:St}{H3:Hp}{s3:Shared}
theorem Lf{x:Str}{k:NameKind}(h:(relabel sc env).names.lookup x=some k):k=.local\/k=.globalImplicit\/(x,k)∈sc.names\/(x,NameKind.free)∈sc.names:=by
 have j:=uu h;unfold relabel at j;obtain⟨⟨n,k'⟩,z,e⟩:=bf.mp j;dsimp only at e;split at e
 . rename_i c;cases e;simp only[gD,jP]at c;obtain⟨⟨c,_⟩,_⟩:=c;subst c;exact .inr (.inr (.inr z))
 cases e;exact .inr (.inr (.inl z))
theorem aaV{own:Ls}{it D:Addr}{fp:List Addr}{tn:Nat->Heap->Prop}{J:It}{h4:Heap}{tk:Nat}{m:Mv}
 {W:Nat->Nat->St->Hp->Prop}{Qd:Hp->Prop}{m0:Nat} (S:j0 X own cap js sc) (hc:X.calm=true) (G:Inv X a_ Z H3 s3) (T:mP X.prog X.w X.K tg J fp it tn) (rV:tn 0 s3.heap) (f3:∀b∈fp,fR X a_ H3 b)
 (eC:C=s3.heap.objs.size) (mW:h4.Ns C m) (hk:∀b o,s3.heap.get? b=some o->h4.get? b=some o)
 (hg:PG (cZ X (own++cap) sc s3 H3 C fp) tg g) (ht:cL (cZ X (own++cap) sc s3 H3 C fp) ifs tt) (he:PE (cZ X (own++cap) sc s3 H3 C fp) elt te)
 (w0:W 0 m0 (compStart own.length js Z) H3) (ask:jZ J g tt te D Qd W) :
 codeAny (model X.prog X.w) X.A (.compStart (.ListComp elt [⟨tg,iter,ifs,0⟩] sc pos) 0 (.ref it) (.ref D) (compEnvC sc (dF X.env sc.names []) C X.env))
  (λr s'=>r=.ok .next/\∃m' H',s'.heap.Ns C m'/\s'.os=s3.os/\AllBare s'.gens/\Un (bR X.stack) fp H3 H' s3.heap s'.heap/\bQ X.prog X.w H' s'.heap/\H' C=none/\Qd H') { s3 with heap:=h4,toks:=tk }:=by
 have DS:∀y∈sc.names,y.2=.free->∃c,X.env.cells.lookup y.1=some c:=λy hy e=>G.ok.has _ (.inl (S.outer _ (S.frees y hy e)));have U:∀(x:Str) (c:Addr),(cZ X (own++cap) sc s3 H3 C fp).env.cells.lookup x=some c->X.env.cells.lookup x=some c:=λx c e=>
  zQ DS (λx c h=>by cases (show([]:List (Str×Addr)).lookup x=some c from h)) e
 have bo:∀(x:Str) (c:Addr),X.env.cells.lookup x=some c->c<s3.heap.objs.size:=λx c e=>by
  obtain⟨v,q⟩:=G.cell x c e;exact q.lt
 have zT:∀b∈fp,b<s3.heap.objs.size:=λb O=>by
  obtain⟨o,e,_⟩:=T.obj 0 _ rV b O;exact bi e
 have sP:(cZ X (own++cap) sc s3 H3 C fp).Ok:=by
  refine⟨G.ok.mod,S.kind,G.ok.glob,G.ok.blt,Ce eC.symm,λx y c e1 e2=>G.ok.inj x y c (U x c e1) (U y c e2),λx hx=>?_,(λx c z _=>nomatch (show false=true from z)),G.ok.hd,G.ok.frames,.inl rfl,λb O=>?_,
   G.bs,cR G.ok.bsz G.sz,λb o e O=>?_,λb O hs=>?_,G.stack,G.stkFree⟩
  . have ir:(relabel sc X.env).names.lookup x=some .cell\/(relabel sc X.env).names.lookup x=some .free:=hx;have hm:(x,NameKind.free)∈sc.names:=by
     rcases ir with z | z
     . rcases Lf z with q | q | q | q
       . cases q
       . cases q
       . exact absurd rfl (S.nocell _ q)
       exact q
     rcases Lf z with q | q | q | q
     . cases q
     . cases q
     . exact q
     exact q
    exact Ci.mp (zR hm)
  . refine⟨?_,λx c e=>(f3 b O).2.2.2.2.1 x c (U x c e)⟩;show b≠C;rw[eC];exact cg (zT b O)
  . rcases(f3 b O).2.2.2.1 with z | z
    . exact G.ok.noex b o e z
    have h1:b<X.base.objs.size:=bi e;exact absurd (gB h1 (cR G.ok.bsz z)) (oA _)
  obtain⟨_,f1,f2,_⟩:=f3 b O
  rcases bc.mp (G.stkSub b hs) with z | z
  . exact f1 z
  exact f2 z
 have bm:H3 C=none:=by rw[eC];exact G.hok.fresh (aD _)
 have sl:js.length=cap.length:=by have:=cS List.length S.slots;simpa using this
 have I4:Inv (cZ X (own++cap) sc s3 H3 C fp) [] (compStart own.length js Z) H3 { s3 with heap:=h4,toks:=tk }:=by
  refine⟨sP,rfl,G.bare,Un.kept hk,⟨m,mW,λi x v e1 e2 hv=>?_⟩,λx c e=>?_,bm,λx c e=>G.freeC x c (U x c e),λp hp=>?_,G.hok.kept hk,?_⟩
  . have e1:(own++cap)[i]?=some x:=e1;unfold compStart at e2
    by_cases hi:i<own.length
    . rw[UY (by simpa using hi),asa,ai hi]at e2;cases e2
    rw[Cj (by omega)]at e1;rw[Cj (by simpa using hi),UZ,cz]at e2;obtain⟨j,hj⟩:∃j,js[i - own.length]?=some j:=by
     cases q:js[i - own.length]? with
     | none=>rw[q]at e2;cases e2
     | some j=>exact⟨j,rfl⟩
    rw[hj]at e2;have e2:(Z[j]?).join=some v:=fO e2;have e3:Z[j]?=some (some v):=by
     cases q:Z[j]? with
     | none=>rw[q]at e2;cases e2
     | some z=>rw[q]at e2;rw[show z=some v from e2]
    have hs:=cS (λl=>l[i - own.length]?) S.slots;simp only[cz,hj,e1,oE]at hs;have hN:X.N[j]?=some x:=fO hs;have hx:x∈cap:=d6 e1;obtain⟨m2,uL,sy⟩:=G.loc;obtain⟨u,ru,lk⟩:=sy j x v hN e3 (.inr (.inl (S.outer x hx)));refine⟨u,ru,?_⟩
    rcases lk with⟨k1,_⟩ | ⟨_,c,a0,eh⟩
    . rw[S.outer x hx]at k1;cases k1
    have hv:zq (relabel sc X.env) x:=hv;have kd:(cZ X (own++cap) sc s3 H3 C fp).env.kindOf x=some .cell\/(cZ X (own++cap) sc s3 H3 C fp).env.kindOf x=some .free\/(cZ X (own++cap) sc s3 H3 C fp).env.kindOf x=some .local:=by
     rcases hv with z | z | z
     . exact .inr (.inr z)
     . exact .inl z
     exact .inr (.inl z)
    rcases kd with kd | kd | kd
    . obtain⟨c',gF⟩:=sP.has x (.inl kd);have:=U x c' gF;rw[a0]at this;cases this;exact .inr ⟨.inl kd,c,gF,eh.keeps hk⟩
    . obtain⟨c',gF⟩:=sP.has x (.inr kd);have:=U x c' gF;rw[a0]at this;cases this;exact .inr ⟨.inr kd,c,gF,eh.keeps hk⟩
    have kd:(relabel sc X.env).names.lookup x=some .local:=kd;exact absurd kd (S.capk x hx)
  . obtain⟨v,q⟩:=G.cell x c (U x c e);exact⟨v,q.keeps hk⟩
  . have c5:p∈([]:Po):=hp;cases c5
  show(compStart own.length js Z).length=(own++cap).length;unfold compStart;rw[bD,UZ,ah,bD,sl]
 have DT:∀{H':Hp},(∀b∈fp,H' b=none)->∀b∈fp,fR (cZ X (own++cap) sc s3 H3 C fp) [] H' b:=λ{H'} hn b O=>by
  refine⟨hn b O,?_,λhs=>sP.exfs b O hs,.inl O,λx c e=>(f3 b O).2.2.2.2.1 x c (U x c e),λp hp=>?_⟩
  . show b≠C;rw[eC];exact cg (zT b O)
  have c5:p∈([]:Po):=hp;cases c5
 have Lg:tn 0 h4:=T.keep 0 _ _ rV λb _ o e=>hk b o e;have a1:codeAny (model X.prog X.w) X.A (.compLoop (.ListComp elt [⟨tg,iter,ifs,0⟩] sc pos) 0 (.ref it) (.ref D) (compEnvC sc (dF X.env sc.names []) C X.env))
  (λr s'=>r=.ok .next/\∃m' H',s'.heap.Ns C m'/\s'.os=s3.os/\AllBare s'.gens/\Un (bR X.stack) fp H3 H' s3.heap s'.heap/\bQ X.prog X.w H' s'.heap/\H' C=none/\Qd H') { s3 with heap:=h4,toks:=tk }:=by
  refine aaT (λn s'=>∃i σ' H',Inv (cZ X (own++cap) sc s3 H3 C fp) [] σ' H' s'/\tn i s'.heap/\(∀b∈fp,H' b=none)/\W i n σ' H') ?_ m0 ⟨0,_,H3,I4,Lg,λb O=>(f3 b O).1,w0⟩;rintro n s' ⟨i,σ',H',J',dC,Lh,w'⟩
  rcases ask i n σ' H' w' with⟨stop,qd⟩ | ⟨go,step⟩
  . refine thn (T.done (cZ X (own++cap) sc s3 H3 C fp) rfl rfl rfl hc i [] s' σ' H' _ J' (DT Lh) dC stop) λr s1 av=>av.elim λhr J1=>?_;subst hr;obtain⟨m1,bn,_⟩:=J1.loc;exact⟨rfl,m1,H',bn,J1.os,J1.bare,J1.base,J1.hok,J1.free,qd⟩
  refine thn (T.item (cZ X (own++cap) sc s3 H3 C fp) rfl rfl rfl hc i [] s' σ' H' _ J' (DT Lh) dC go) λr s1 ax=>ax.elim λu a3=>a3.elim λhr h1=>?_;subst hr;refine thn h1 λ_ s2 a4=>a4.elim λx a5=>a5.elim λH5 a6=>a6.elim λJ5 a7=>a7.elim λr5 a9=>a9.elim λy5 ab=>ab.elim λrW C4=>?_;have a2:=J5.pinned (DT C4) (T.obj _ _ rW);refine dH (hg _ s2 σ' H5 x u _ a2 r5 (step x H5 y5)) (λ_ s6 al=>al.elim λσ6 ap=>ap.elim λH6 ay=>ay.elim λJ6 q6=>?_) (λ_ _ z=>z.elim);refine dH (ht _ s6 σ6 H6 _ J6 q6) (λok s7 az=>az.elim λH7 a'=>a'.elim λJ7 q7=>?_) (λ_ _ z=>z.elim);have again:∀{s9:Shared}{Y:Hp}{m':Nat},Inv (cZ X (own++cap) sc s3 H3 C fp) ([]++rT fp s2.heap) σ6 Y s9->m'<n->W (i+1) m' σ6 Y ->
   ∃m,m<n/\∃i σ' H',Inv (cZ X (own++cap) sc s3 H3 C fp) [] σ' H' s9/\tn i s9.heap/\(∀b∈fp,H' b=none)/\W i m σ' H':=λ{s9 Y m'} J9 hm w9=>by
   refine⟨m',hm,i+1,σ6,Y,J9.unpinned,T.keep _ _ _ rW λb O o e=>(J9.pin (b,o) (fP _ (fP _ (qr O e)))).1,λb O=>?_,w9⟩;obtain⟨o,e,d⟩:=T.obj _ _ rW b O;exact(J9.pin (b,o) (fP _ (fP _ (qr O e)))).2.1
  cases ok with
  | false=>
   rw[af cn]at q7 ⊢;obtain⟨m',hm,w7⟩:=q7;exact again J7 hm w7
  | true=>
   rw[ai rfl]at q7 ⊢;refine dH (he _ s7 σ6 H7 _ J7 q7) (λy s8 aH=>aH.elim λyv b0=>b0.elim λH8 b1=>b1.elim λJ8 b2=>b2.elim λr8 b3=>b3.elim λys b4=>b4.elim λjh b5=>b5.elim λhz b6=>b6.elim λm' b7=>b7.elim λhm w8=>?_) (λ_ _ z=>z.elim);refine dH (sw (X:=cZ X (own++cap) sc s3 H3 C fp) _ s8 σ6 H8 (.ref D) [yv] (.ref D) [y] (λv Y=>Y=ae H8 D (.lst (ys++[yv]))) J8 rfl (.cons r8 .nil) ⟨jh,hz,rfl⟩) (λ_ s9 bb=>bb.elim λ_ bd=>bd.elim λY bj=>bj.elim λJ9 bl=>bl.elim λ_ eH=>?_) (λ_ _ z=>z.elim);subst eH;exact again J9 hm w8
 exact codeAny_compStart_list a1 (T.self X.A 0 _ _ _ Lg a1)
theorem Li{own:Ls}{it:Addr}{fp:List Addr}{Y:Nat->Heap->Prop}{J:It}{H2:Hp}{j:Shared}{use:Option (Value->Sem Unit)}{Qr:VP}{O:VP}
 {Q:V->Hp->Prop} (S:j0 X own cap js sc) (hc:X.calm=true) (U:Inv X a_ Z H2 j) (T:mP X.prog X.w X.K tg J fp it Y) (gr:Y 0 j.heap) (G:∀b∈fp,fR X a_ H2 b)
 (hg:∀s₀ H₀ C ex,PG (cZ X (own++cap) sc s₀ H₀ C ex) tg g) (ht:∀s₀ H₀ C ex,cL (cZ X (own++cap) sc s₀ H₀ C ex) ifs tt) (he:∀s₀ H₀ C ex,PE (cZ X (own++cap) sc s₀ H₀ C ex) elt te)
 (q2:∀D,H2 D=none->∃W:Nat->Nat->St->Hp->Prop,(∃m,W 0 m (compStart own.length js Z) (ae H2 D (.lst [])))/\jZ J g tt te D (λH'=>Q (.ref D) H') W)
 (a2:∀(D C:Addr) (H':Hp) (s':Shared) (m':Mv),j.heap.objs.size<C->s'.heap.Ns C m'->Inv X a_ Z H' s'->H' C=none->Q (.ref D) H'->compPost (model X.prog X.w) X.A O use Qr (.ref D) C (.ok .next) s') :
 wpAny (model X.prog X.w) X.A (newList []) (λa0 s₃=>wpAny (model X.prog X.w) X.A (newFunctionEnv sc X.env.globals (dF X.env sc.names []) [] X.env.qual none .none (some X.env)) (λLj s₄=>
  codeAny (model X.prog X.w) X.A (.compStart (.ListComp elt [⟨tg,iter,ifs,0⟩] sc pos) 0 (.ref it) a0 { Lj with scope:=relabel sc X.env }) (compPost (model X.prog X.w) X.A O use Qr a0 Lj.locals) s₄) O s₃) O j:=by
 have Lk:H2 j.heap.objs.size=none:=U.fresh;obtain⟨W,⟨m0,w0⟩,ask⟩:=q2 _ Lk;have I3:=U.lnew (ys:=[]) (c_:=[]) (t':=j.toks) .nil (cE _);have zT:∀b∈fp,b<j.heap.objs.size:=λb z=>by
  obtain⟨o,e,_⟩:=T.obj 0 _ gr b z;exact bi e
 have f3:∀b∈fp,fR X a_ (ae H2 j.heap.objs.size (.lst [])) b:=λb z=>by
  refine⟨?_,(G b z).2⟩;rw[aE (cg (zT b z))];exact(G b z).1
 refine rG (hd:=by size_fits) (wpAny_newFunctionEnv S.nocell (by intro y hy;simp at hy) (λh4 mW wL=>?_) S.kind);dsimp only at mW wL ⊢;have a3:∀b o,(j.heap.push { cls:=.type "list",dict:=none,data:=.seq ([]:Lw).toArray }).get? b=some o->h4.get? b=some o:=λb o e=>
  wL.extBut b o (cg (bi e)) (bB _ e)
 have rV:Y 0 (j.heap.push { cls:=.type "list",dict:=none,data:=.seq ([]:Lw).toArray }):=T.keep 0 _ _ gr λb _ o e=>bB _ e;refine qh (aaV (s3:={ j with heap:=j.heap.push { cls:=.type "list",dict:=none,data:=.seq ([]:Lw).toArray } }) (tk:=j.toks+([]:List (Str×Value)).length) S hc I3 T rV f3 rfl mW a3 (hg _ _ _ _) (ht _ _ _ _) (he _ _ _ _) w0 ask) λr s' hr=>?_;obtain⟨er,m',H',iu,zF,a1,a4,wM,wN,qd⟩:=hr;subst er;have a5:Un (bR X.stack) fp H2 (ae H2 j.heap.objs.size (.lst [])) j.heap (j.heap.push { cls:=.type "list",dict:=none,data:=.seq ([]:Lw).toArray }):=Un.laid (λb o e=>bB _ e) (aD _) Lk;refine a2 _ _ H' s' m' ?_ iu (U.call' (s':=s') (ch:=fp) zF (a5.trans a4) wM a1 (λb z=>⟨(G b z).2.2.2.1,(G b z).2.1,(G b z).2.2.2.2.1,(G b z).2.2.2.2.2⟩)) wN qd;show j.heap.objs.size<(j.heap.push { cls:=.type "list",dict:=none,data:=.seq ([]:Lw).toArray }).objs.size;rw[qg];exact vV _
theorem Inv.letGo{H:Hp}{h':Heap}(I:Inv X a_ Z H s)(z:Heap.SameBut C s.heap h')(J:H C=none)(h0:X.s₀.heap.objs.size<=C)(h1:C≠X.env.locals)(h2:∀x c,X.env.cells.lookup x=some c->c≠C)(G:∀p∈X.pn++a_,p.1≠C) :
 Inv X a_ Z H { s with heap:=h' }:=by
 refine I.call' (s':={ s with heap:=h' }) (ch:=[C]) rfl ⟨λb o e _ _ j=>?_,λb o e _ _ j=>⟨o.slots,?_⟩,λ_ _ _ n _=>n,λb o e j=>⟨o,?_⟩,λ_ _ q=>q,λ_ _ _ q=>q,λ_ ps q=>⟨#[],by rw[q];simp⟩⟩ (aaU I.hok z J) I.bare (λb j=>?_)
 . exact(z.2 b (by simpa using j)).trans e
 . exact(z.2 b (by simpa using j)).trans e
 . exact(z.2 b (by simpa using j)).trans e
 have:b=C:=by simpa using j
 subst this;exact⟨.inr h0,h1,h2,G⟩
theorem Inv.goes{H2 H:Hp}{J:Shared}{σ':St}{h':Heap}(j:Inv X a_ σ' H2 J)(G:J.heap.objs.size<C)(I:Inv X a_ Z H s)(Y:Heap.SameBut C s.heap h')(O:H C=none):Inv X a_ Z H { s with heap:=h' }:=by
 refine I.letGo Y O (oB (Cu j.sz G)) (kJ (uv j.lt G)) (λx c e z=>?_) (λp U z=>?_)
 . obtain⟨v,q⟩:=j.cell x c e;exact absurd (uv q.lt G) (by rw[z];exact oA _)
 exact absurd (uv (bi (j.pin p U).1) G) (by rw[z];exact oA _)
theorem j0.clos{own:Ls}(S:j0 X own cap js sc)(ok:X.Ok):closureFor sc X.env=pure (dF X.env sc.names []):=
 Le λy j e=>ok.has _ (.inl (S.outer _ (S.frees y j e)))
theorem gK(own cap:Ls)(js:List Nat){z:TI}(S:j0 X own cap js sc)(hc:X.calm=true)(hi:PI X tg iter z)
 (hg:∀s₀ H₀ C ex,PG (cZ X (own++cap) sc s₀ H₀ C ex) tg g) (ht:∀s₀ H₀ C ex,cL (cZ X (own++cap) sc s₀ H₀ C ex) ifs tt) (he:∀s₀ H₀ C ex,PE (cZ X (own++cap) sc s₀ H₀ C ex) elt te)
 (hs:∀x,foldedSetIterable iter X.env x=pure x:=by intro _;rfl):PE X (.ListComp elt [⟨tg,iter,ifs,0⟩] sc pos) (DR z own.length js g tt te):=by
 intro a_ s Z H Q I h;rw[eval_ListComp];refine asg (use:=none) rfl hs (S.clos I.ok) S.kind S.names (thn (hi a_ s Z H _ I h) λv s1 h1=>thn h1 λzx s2 h2=>?_);obtain⟨it,fp,tn,J,H2,e,j,T,U,O,q2⟩:=h2;subst e;refine Li (Q:=Q) S hc j T U O hg ht he q2 λD C H' s' m' Y iu G wN qd=>?_;exact⟨m',iu,λh' sb=>⟨.ref D,H',j.goes Y G sb wN,rfl,qd⟩⟩
theorem zU{i:Nat}{x:Str}{px ps:Pos}(own cap:Ls)(js:List Nat){Y:TI}(hN:X.N.Nodup)(hx:X.N[i]?=some x)(U:X.env.scope.names.lookup x=some .local)(S:j0 X own cap js sc)(hc:X.calm=true)
 (hi:PI X tg iter Y) (hg:∀s₀ H₀ C ex,PG (cZ X (own++cap) sc s₀ H₀ C ex) tg g) (ht:∀s₀ H₀ C ex,cL (cZ X (own++cap) sc s₀ H₀ C ex) ifs tt) (he:∀s₀ H₀ C ex,PE (cZ X (own++cap) sc s₀ H₀ C ex) elt te)
 (a3:swapsWith (.ListComp elt [⟨tg,iter,ifs,0⟩] sc pos) (some (.Name x px)) ps.line X.env=pure true:=by rfl)
 (hs:∀x,foldedSetIterable iter X.env x=pure x:=by intro _;rfl):PS X (.Assign [.Name x px] (.ListComp elt [⟨tg,iter,ifs,0⟩] sc pos) ps) (CZ (DR Y own.length js g tt te) (mO i)):=by
 intro a_ s Z H D I h;rw[exec_Assign_Name_used _ _ _ _ a3];refine aa (UW (aa ?_));show wpAny _ X.A (do let _ <-comprehension (.ListComp elt [⟨tg,iter,ifs,0⟩] sc pos) sc X.env _ (newList []) false (eval iter X.env) (some (assign (.Name x px) X.env))) _ _ s;refine aa (dH (asg (use:=some (assign (.Name x px) X.env)) (Q:=λ_ s'=>∃σ' H',Inv X a_ σ' H' s'/\D.nx σ' H') rfl hs (S.clos I.ok) S.kind S.names
  (thn (hi a_ s Z H _ I h) λv s1 h1=>thn h1 λzx s2 h2=>?_)) (λ_ s' hq=>aj (aj hq)) λ_ _ e=>e)
 obtain⟨it,fp,tn,J,H2,e,j,T,gr,f2,q2⟩:=h2;subst e;refine Li (Q:=λv H1=>mO i v Z H1 D.nx) S hc j T gr f2 hg ht he q2 λO C H' s' m' G iu I' wN qd=>?_;show wpAny _ X.A (assign (.Name x px) X.env (.ref O)) _ _ s';refine wpAny_assign_Name (Js (v:=.ref O) I' hN hx (.inl U) rfl (λqw a0 a1=>a1.elim λa a2=>a2.elim λsb ha=>?_) (.inr U));have ne:C≠a:=by
  rcases ha with z | z
  . rw[z];exact kJ (uv j.lt G)
  obtain⟨v,q⟩:=j.cell x a z;exact kJ (uv q.lt G)
 exact⟨m',iu.sameBut sb ne,λh' a4=>⟨_,H',j.goes G a0 a4 wN,qd⟩⟩
end
abbrev fV (H:Hp) (o:HO) (Q:V->Hp->Prop):Prop:=∀p H',H p=none->ac H H'->H' p=some o->Q (.ref p) H'
theorem fV.at{H:Hp}{o:HO}{Q:V->Hp->Prop}(h:fV H o Q):∀p,H p=none->Q (.ref p) (ae H p o):=λp j=>h p _ j (gb j) aw
theorem cu.weak{f:Value->Value->Sem Value}{r j:R2}(h:cu X f r)(w:∀x y H Q,j x y H Q->r x y H Q):cu X f j:=λa_ s Z H x y v u Q I z G q=>h a_ s Z H x y v u Q I z G (w _ _ _ _ q)
theorem eV.weak{f:Value}{r j:Lv->Hp->VK->Prop}(h:eV X f r)(w:∀xs H Q,j xs H Q->r xs H Q):eV X f j:=λa_ s Z H xs us Q I z q=>h a_ s Z H xs us Q I z (w _ _ _ q)
theorem sj.weak{r j:V->Option Int->Option Int->Hp->VK->Prop}(h:sj X r)(w:∀x l u H Q,j x l u H Q->r x l u H Q):sj X j:=λa_ s Z H x v J O lo hi sl Q I G hs pl z q=>h a_ s Z H x v J O lo hi sl Q I G hs pl z (w _ _ _ _ _ q)
section
variable {e k:Expr}{es:List Expr}{tk:TE}{t:TA}{p2:Pos}
inductive Lm (H:Hp) (Q:VK):V->V->Prop where
 | mk {l:Addr}{b:Addr}{xs:Lv}{zs:Lv} (_:H l=some (.lst xs)) (_:H b=some (.lst zs)) (_:xs.length+zs.length<=sizeLine) (_:fV H (.lst (xs++zs)) Q):Lm H Q (.ref l) (.ref b)
def abA:R2:=λx y H Q=>Lm H Q x y
theorem DW:cu X (binaryOp .Add) abA:=Zj.weak λx y H Q h=>by obtain @⟨l,b,xs,zs,j,z,G,J⟩:=h;exact⟨l,b,xs,zs,rfl,rfl,j,z,G,J.at⟩
inductive Lo (K:Fg) (lo:Option Int) (hi:Option Int) (H:Hp) (Q:VK):V->Prop where
 | mk {a:Addr}{xs:Lv} (_:ag K H a xs) (_:fV H (.lst (uN xs lo hi)) Q):Lo K lo hi H Q (.ref a)
def abB(K:Fg):V->Option Int->Option Int->Hp->VK->Prop:=λx lo hi H Q=>Lo K lo hi H Q x
theorem abC:sj X (abB X.K):=Y7.weak λx l u H Q h=>by obtain @⟨a,xs,j,z⟩:=h;exact⟨a,xs,rfl,j,z.at⟩
theorem sT:eV X (.type "list") (λxs H Q=>∃p ys,xs=[.ref p]/\(ag X.K H p ys\/aP X.K H p ys)/\fV H (.lst ys) Q):=wC.weak λxs H Q J=>J.elim λp O=>O.elim λys U=>U.elim λj Y=>Y.elim λz G=>⟨p,ys,j,z,G.at⟩
def abH(t:TA):TE:=λZ H Q=>t Z H λxs H1=>xs.length<=sizeLine/\fV H1 (.tup xs) Q
def abI(t:TA):TE:=λZ H Q=>t Z H λxs H1=>xs.length<=sizeLine/\fV H1 (.lst xs) Q
theorem PA.thn{t:TA}(h:PA X es t){A:Hp->Prop}{F:VK->Lv->Hp->Prop}{G:VK->Lv->Hp->Prop}(w:∀Q xs H,F Q xs H->G Q xs H):PA X es (λZ H R=>∃Q:VK,t Z H (F Q)/\R=G Q):=by
 intro pos a_ s Z H R I ⟨Q,q,e⟩;subst e;exact L2.thn (h pos a_ s Z H _ I q) λus U z=>aN z λvs H1 j O J=>⟨vs,H1,j,O,w _ _ _ J⟩
theorem eE{x1}(h:PA X es t):PE X (.Tuple es x1 pos) (abH t):=by
 intro a_ s Z H Q I q;exact Ka (PA.thn (A:=λ_=>True) (F:=λQ xs H1=>xs.length<=sizeLine/\fV H1 (.tup xs) Q) (G:=λQ xs H1=>xs.length<=sizeLine/\∀p,H1 p=none->Q (.ref p) (ae H1 p (.tup xs))) h (λQ xs H j=>j.elim λa b=>⟨a,b.at⟩)) a_ s Z H Q I ⟨Q,q,rfl⟩
theorem cx(h:PA X es t):PE X (.List es pos) (abI t):=by
 intro a_ s Z H Q I q;exact Yv (PA.thn (A:=λ_=>True) (F:=λQ xs H1=>xs.length<=sizeLine/\fV H1 (.lst xs) Q) (G:=λQ xs H1=>xs.length<=sizeLine/\∀p,H1 p=none->Q (.ref p) (ae H1 p (.lst xs))) h (λQ xs H j=>j.elim λa b=>⟨a,b.at⟩)) a_ s Z H Q I ⟨Q,q,rfl⟩
end
section
variable {H1:Hp}{Q:Addr->Hp->Prop}
theorem abM{lo:Int}{n:Nat}(S:St->Prop)(P:Nat->Lv->Hp->Prop)(s0:S σ0)(st:∀D,H1 D=none->P 0 [] (ae H1 D (.lst [])))
 (a0:∀D i ys Z H (k:St->V->Hp->Prop) (k':St->Hp->Prop),H1 D=none->i<n->S Z->H D=some (.lst ys)->ac H1 H->P i ys H ->
  (∀σ3 y z,S σ3->ac H z->ys.length<sizeLine->P (i+1) (ys++[y]) (ae z D (.lst (ys++[y])))->k σ3 y z)->(∀σ3 j,S σ3->ac H j->P (i+1) ys j->k' σ3 j) ->
  g (.int (lo+i)) Z H λσ3 H3=>tt σ3 H3 λok j=>if ok=true then te σ3 j (k σ3) else k' σ3 j)
 (done:∀D ys H,H1 D=none->H D=some (.lst ys)->ac H1 H->P n ys H->Q D H) :
 ∀D,H1 D=none->∃W:Nat->Nat->St->Hp->Prop,(∃m,W 0 m σ0 (ae H1 D (.lst [])))/\jZ (oQ lo n) g tt te D (λH'=>Q D H') W:=by
 intro D J;refine⟨λi m Z H=>m=n - i/\i<=n/\S Z/\∃ys,H D=some (.lst ys)/\ac H1 H/\P i ys H,⟨n,by simp,cE _,s0,[],aw,gb J,st D J⟩,?_⟩;rintro i m Z H ⟨rfl,hi,hS,ys,hd,hs,hp⟩
 by_cases O:i<n
 . refine .inr ⟨O,λx H2 hy=>?_⟩;obtain⟨e1,e2⟩:=hy;subst e1 e2;exact a0 D i ys Z _ (λσ3 y z=>∃ys,z D=some (.lst ys)/\ys.length<sizeLine/\∃m',m'<n - i/\(m'=n - (i+1)/\i+1<=n/\S σ3/\∃zs,ae z D (.lst (ys++[y])) D=some (.lst zs)/\ac H1 (ae z D (.lst (ys++[y])))/\P (i+1) zs (ae z D (.lst (ys++[y])))))
    (λσ3 j=>∃m',m'<n - i/\(m'=n - (i+1)/\i+1<=n/\S σ3/\∃zs,j D=some (.lst zs)/\ac H1 j/\P (i+1) zs j)) J O hS hd hs hp
    (λσ3 y z U G Y a4=>⟨ys,G _ _ hd,Y,n - (i+1),by omega,rfl,O,U,ys++[y],aw,gt (hs.trans G) J,a4⟩)
    (λσ3 j U G Y=>⟨n - (i+1),by omega,rfl,O,U,ys,G _ _ hd,hs.trans G,Y⟩)
 have e:i=n:=by omega
 subst e;exact .inl ⟨aD _,done D ys H J hd hs hp⟩
theorem Lq{a:Addr}{xs:Lv}(hx:ag K H1 a xs)(S:St->Prop)(P:Nat->Lv->Hp->Prop)(s0:S σ0)(st:∀D,H1 D=none->P 0 [] (ae H1 D (.lst [])))
 (a0:∀D i x ys Z H (k:St->V->Hp->Prop) (k':St->Hp->Prop),H1 D=none->xs[i]?=some x->S Z->H D=some (.lst ys)->ac H1 H->P i ys H ->
  (∀σ3 y z,S σ3->ac H z->ys.length<sizeLine->P (i+1) (ys++[y]) (ae z D (.lst (ys++[y])))->k σ3 y z)->(∀σ3 j,S σ3->ac H j->P (i+1) ys j->k' σ3 j) ->
  g x Z H λσ3 H3=>tt σ3 H3 λok j=>if ok=true then te σ3 j (k σ3) else k' σ3 j)
 (done:∀D ys H,H1 D=none->H D=some (.lst ys)->ac H1 H->P xs.length ys H->Q D H) :
 ∀D,H1 D=none->∃W:Nat->Nat->St->Hp->Prop,(∃m,W 0 m σ0 (ae H1 D (.lst [])))/\jZ (mQ K a) g tt te D (λH'=>Q D H') W:=by
 intro D J;refine⟨λi m Z H=>m=xs.length - i/\i<=xs.length/\S Z/\∃ys,H D=some (.lst ys)/\ac H1 H/\P i ys H,⟨xs.length,by simp,cE _,s0,[],aw,gb J,st D J⟩,?_⟩;rintro i m Z H ⟨rfl,hi,hS,ys,hd,hs,hp⟩;have q:ag K H a xs:=ac.seq hs hx
 by_cases Y:i<xs.length
 . refine .inr ⟨⟨xs,xs[i],q,by simp[Y]⟩,λx H2 hy=>?_⟩;obtain⟨e1,e2⟩:=hy;subst e1;exact a0 D i x ys Z _ (λσ3 y z=>∃ys,z D=some (.lst ys)/\ys.length<sizeLine/\∃m',m'<xs.length - i/\(m'=xs.length - (i+1)/\i+1<=xs.length/\S σ3/\∃zs,ae z D (.lst (ys++[y])) D=some (.lst zs)/\ac H1 (ae z D (.lst (ys++[y])))/\P (i+1) zs (ae z D (.lst (ys++[y])))))
    (λσ3 j=>∃m',m'<xs.length - i/\(m'=xs.length - (i+1)/\i+1<=xs.length/\S σ3/\∃zs,j D=some (.lst zs)/\ac H1 j/\P (i+1) zs j)) J (e2 xs q) hS hd hs hp
    (λσ3 y z O G U a4=>⟨ys,G _ _ hd,U,xs.length - (i+1),by omega,rfl,Y,O,ys++[y],aw,gt (hs.trans G) J,a4⟩)
    (λσ3 j O G U=>⟨xs.length - (i+1),by omega,rfl,Y,O,ys,G _ _ hd,hs.trans G,U⟩)
 have e:i=xs.length:=by omega
 subst e;exact .inl ⟨⟨xs,q,aD _⟩,done D ys H J hd hs hp⟩
theorem abN{lo:Int}{n:Nat}(S:St->Prop)(P:Nat->Lv->Hp->Prop)(s0:S σ0)(st:∀D,H1 D=none->P 0 [] (ae H1 D (.lst [])))
 (a0:∀D i ys Z H (k:St->V->Hp->Prop),H1 D=none->i<n->S Z->H D=some (.lst ys)->ac H1 H->P i ys H ->
  (∀σ3 y j,S σ3->ac H j->ys.length<sizeLine->P (i+1) (ys++[y]) (ae j D (.lst (ys++[y])))->k σ3 y j)->g (.int (lo+i)) Z H λσ3 H3=>te σ3 H3 (k σ3))
 (done:∀D ys H,H1 D=none->H D=some (.lst ys)->ac H1 H->P n ys H->Q D H) :
 ∀D,H1 D=none->∃W:Nat->Nat->St->Hp->Prop,(∃m,W 0 m σ0 (ae H1 D (.lst [])))/\jZ (oQ lo n) g o6 te D (λH'=>Q D H') W:=
 abM S P s0 st (λD i ys Z H k k' z G J O U Y a7 _=>a0 D i ys Z H k z G J O U Y a7) done
theorem zV{a:Addr}{xs:Lv}(hx:ag K H1 a xs)(S:St->Prop)(P:Nat->Lv->Hp->Prop)(s0:S σ0)(st:∀D,H1 D=none->P 0 [] (ae H1 D (.lst [])))
 (a0:∀D i x ys Z H (k:St->V->Hp->Prop),H1 D=none->xs[i]?=some x->S Z->H D=some (.lst ys)->ac H1 H->P i ys H ->
  (∀σ3 y j,S σ3->ac H j->ys.length<sizeLine->P (i+1) (ys++[y]) (ae j D (.lst (ys++[y])))->k σ3 y j)->g x Z H λσ3 H3=>te σ3 H3 (k σ3))
 (done:∀D ys H,H1 D=none->H D=some (.lst ys)->ac H1 H->P xs.length ys H->Q D H) :
 ∀D,H1 D=none->∃W:Nat->Nat->St->Hp->Prop,(∃m,W 0 m σ0 (ae H1 D (.lst [])))/\jZ (mQ K a) g o6 te D (λH'=>Q D H') W:=
 Lq hx S P s0 st (λD i x ys Z H k k' z G J O U Y a7 _=>a0 D i x ys Z H k z G J O U Y a7) done
end
end
section
variable {xs:Ls}
structure Ln(x:Str):Prop where
 ok:gT x
 len:x.length<=60
structure zW(xs:Ls):Prop where
 len:xs.length<=20
 all:∀x∈xs,Ln x
theorem DX(xs:Ls)(y:Str):xs.map V.str++[V.str y]=(xs++[y]).map V.str:=by rw[cK];rfl
theorem lS{n:Nat}(h:n<=1000):n<=sizeLine:=oB (cp h)
abbrev dS (xs:Ls):W.Dat:=.list (xs.map W.Dat.str)
theorem zX{K:Fg}{H:Hp}{a:Addr}(h:ag K H a (xs.map V.str)):DV K H (.ref a) (dS xs):=.lst h (La xs)
theorem uS(n:Nat)(h:∀x∈xs,Ln x):W.kqdOk (n+1) (dS xs)=true:=by
 simp only[dS,W.kqdOk,eT,bf];rintro d ⟨x,j,rfl⟩;cases n with
 | zero=>exact(h x j).ok
 | succ n=>exact(h x j).ok
theorem abO{ys:Ls}(h:xs.map W.Dat.str=ys.map W.Dat.str):xs=ys:=by
 induction xs generalizing ys with
 | nil=>cases ys with
  | nil=>rfl
  | cons y ys=>cases h
 | cons x xs j=>cases ys with
  | nil=>cases h
  | cons y ys=>
   rw[bp,bp]at h;injection h with h1 h2
   injection h1 with h1
   rw[h1,j h2]
theorem Lr{ys:Ls}:dS xs=dS ys↔xs=ys:=⟨λh=>abO (W.Dat.list.inj h),λh=>by rw[h]⟩
end
section
variable {ys:Ls}
section
variable {X:Cx}
theorem Lu:∀{us:Lw},aX (ys.map V.str) us->StrsAre us ys:=by
 induction ys with
 | nil=>intro us r;rw[yN]at r;cases r;exact .nil
 | cons n ns j=>
  intro us r;rw[bp]at r;cases r with
  | cons z G=>
   obtain⟨t,e⟩:=z;subst e;exact .cons n t (j G)
inductive Lx (K:Fg) (H:Hp) (Q:VK):V->Lv->Prop where
 | mk {sep:Str}{p:Addr} (ys:Ls) (_:ag K H p (ys.map V.str)) (_:(ys.map (·.length)).sum+ys.length * sep.length<=16777216) (_:Q (.str (Txt.join sep ys)) H):Lx K H Q (.str sep) [.ref p]
def Ly(K:Fg):V->Lv->Hp->VK->Prop:=λx vs H Q=>Lx K H Q x vs
theorem wO:su X "str.join" (Ly X.K):=by
 intro a_ s Z H x xs v us Q I U O h;obtain @⟨sep,p,ys,j,hz,q⟩:=h;obtain⟨t,rfl⟩:=U;cases O with
 | cons G J=>
  cases G;cases J;obtain⟨c_,r,z,_⟩:=I.list j;exact join_list z.isList (by simpa using Lu r) hz λt' k=>⟨.str _,H,I.tok k,⟨_,rfl⟩,q⟩
end
section
variable {X:Cx}{K:Fg}
theorem abP(K:Fg)(h:X.K=K:=by rfl):uO X (Kt K):=h▸lL
theorem DY(K:Fg)(h:X.K=K:=by rfl):uO X (Kv K):=h▸lM
theorem abQ(K:Fg)(h:X.K=K:=by rfl):cu X (compareOp .In) (KA K false):=h▸Y9
def abR(K:Fg):Lv->Hp->VK->Prop:=λxs H Q=>∃p ys,xs=[.ref p]/\(ag K H p ys\/aP K H p ys)/\Q (.int ys.length) H
theorem Lz(K:Fg)(h:X.K=K:=by rfl):eV X (.builtin "len") (abR K):=by subst h;exact oY
end
theorem zY{b:Nat}(h:∀y∈ys,y.length<=b):(ys.map (·.length)).sum<=ys.length * b:=by
 induction ys with
 | nil=>simp
 | cons y ys j=>
  have h1:=h y bA;have h2:=j λz hz=>h z (bL _ hz);simp only[bp,List.sum_cons,bq,IL];omega
theorem DZ{sep:Str}:(Txt.join sep ys).length<=(ys.map (·.length)).sum+ys.length * sep.length:=by
 have e:Txt.join sep ys=Str.join sep ys:=Cy sep ys;rw[e];cases ys with
 | nil=>exact cE _
 | cons a l=>
  rw[len_join_cons];simp only[bq,IL];omega
theorem abS:gT Str.empty:=by decide +kernel
theorem D0{sep:Str}(hs:gT sep):∀{ys:Ls},(∀y∈ys,gT y)->gT (Txt.join sep ys):=by
 intro ys h;have e:Txt.join sep ys=Str.join sep ys:=Cy sep ys;rw[e];clear e
 induction ys with
 | nil=>exact abS
 | cons a l z=>
  cases l with
  | nil=>exact h a bA
  | cons b r=>
   show gT (a++sep++Str.join sep (b::r));exact zO (zO (h a bA) hs) (z λy j=>h y (bL _ j))
end
section
variable {X:Cx}{s:Shared}{d:Addr}{kvs:List (aq×V)}{o:Obj}{w:World}{e:Expr}{elts:List Expr}{x1:Nat}{pos:Pos}
section
variable {a_:Po}{Z:St}{H:Hp}
theorem Inv.rehp{H':Hp}(I:Inv X a_ Z H s)(h0:∀b,H b=none->H' b=none)(J:∀b xs,H b=some (.tup xs)->H' b=some (.tup xs))(G:∀b o u,X.H₀ b=some (.frz o u)->H' b=some (.frz o u))
 (z:∀b ps,H b=some (.tbl ps)->H' b=some (.tbl ps)) (hok:bQ X.prog X.w H' s.heap):Inv X a_ Z H' s:=
 ⟨I.ok,I.os,I.bare,⟨I.base.keep,I.base.slot,λb o e n O=>h0 b (I.base.free b o e n O),I.base.there,λb xs e=>J b xs (I.base.tups b xs e),G,λb ps e=>(I.base.tbls b ps e).elim λm q=>⟨m,z _ _ q⟩⟩,I.loc,I.cell,h0 _ I.free,
  λx c e=>h0 _ (I.freeC x c e),λp j=>⟨(I.pin p j).1,h0 _ (I.pin p j).2.1,(I.pin p j).2.2⟩,hok,I.len⟩
theorem Inv.freeze(I:Inv X a_ Z H s)(e:H d=some (.dK kvs))(G:s.heap.get? d=some o):Inv X a_ Z (ae H d (.frz o (.dK kvs))) s:=by
 have ne:∀b u,H b=some u->(∀ks,u≠.dK ks)->b≠d:=λb u q J z=>by rw[z,e]at q;cases q;exact J _ rfl
 refine I.rehp (λb q=>?_) (λb xs q=>?_) (λb o' u q=>?_) (λb ps q=>?_) λb u q=>?_
 . rw[aE (λz=>by rw[z,e]at q;cases q)];exact q
 . rw[aE (ne b _ q (by intro ks z;cases z))];exact q
 . have q:=I.base.frzs b o' u q;rw[aE (ne b _ q (by intro ks z;cases z))];exact q
 . rw[aE (ne b _ q (by intro ks z;cases z))];exact q
 have up:∀{c:Addr}{w:HO},H c=some w->(∀ks,w≠.dK ks)->ae H d (.frz o (.dK kvs)) c=some w:=λ{c w} j O=>by rw[aE (ne c _ j O)];exact j
 by_cases z:b=d
 . subst z;rw[aw]at q;cases q;exact⟨G,(I.hok b _ e).stay (λ_ _ _ q=>q) (λc j=>up j (by intro ks z;cases z)) λc xs j=>up j (by intro ks z;cases z)⟩
 rw[aE z]at q;exact(I.hok b _ q).stay (λ_ _ _ q=>q) (λc j=>up j (by intro ks z;cases z)) λc xs j=>up j (by intro ks z;cases z)
theorem Inv.thaw(I:Inv X a_ Z H s)(e:H d=some (.frz o (.dK kvs)))(hz:∀o' u,X.H₀ d≠some (.frz o' u)):Inv X a_ Z (ae H d (.dK kvs)) s:=by
 have ne:∀b u,H b=some u->(∀o' G,u≠.frz o' G)->b≠d:=λb u q J z=>by rw[z,e]at q;cases q;exact J _ _ rfl
 have up:∀{c:Addr}{w:HO},H c=some w->(∀o' G,w≠.frz o' G)->ae H d (.dK kvs) c=some w:=λ{c w} j O=>by rw[aE (ne c _ j O)];exact j
 refine I.rehp (λb q=>?_) (λb xs q=>up q (by intro _ _ z;cases z)) (λb o' u q=>?_) (λb ps q=>up q (by intro _ _ z;cases z)) λb u q=>?_
 . rw[aE (λz=>by rw[z,e]at q;cases q)];exact q
 . have U:b≠d:=λz=>hz o' u (z▸q);rw[aE U];exact I.base.frzs b o' u q
 by_cases z:b=d
 . subst z;rw[aw]at q;cases q;exact(show bE X.prog X.w H s.heap b (.dK kvs) from (show bE X.prog X.w H s.heap b (.frz o (.dK kvs)) from I.hok b _ e).2).stay (λ_ _ _ q=>q) (λc j=>up j (by intro _ _ z;cases z)) λc xs j=>up j (by intro _ _ z;cases z)
 rw[aE z]at q;exact(I.hok b _ q).stay (λ_ _ _ q=>q) (λc j=>up j (by intro _ _ z;cases z)) λc xs j=>up j (by intro _ _ z;cases z)
theorem Inv.track{a:Addr}{o:HO}(I:Inv X a_ Z H s)(O:H a=none)(h0:X.s₀.heap.objs.size<=a)(h1:a≠X.env.locals)(h2:∀x c,X.env.cells.lookup x=some c->c≠a)(J:∀p∈X.pn++a_,p.1≠a)
 (Y:bE X.prog X.w (ae H a o) s.heap a o):Inv X a_ Z (ae H a o) s:=by
 have up:∀{c:Addr}{w:HO},H c=some w->ae H a o c=some w:=λ{c w} j=>by rw[aE (aF j O)];exact j
 refine⟨I.ok,I.os,I.bare,⟨I.base.keep,I.base.slot,λb ob e n U=>?_,I.base.there,λb xs e=>up (I.base.tups b xs e),λb o' u e=>up (I.base.frzs b o' u e),λb ps e=>(I.base.tbls b ps e).elim λm q=>⟨m,up q⟩⟩,I.loc,I.cell,?_,λx c e=>?_,
  λp G=>⟨(I.pin p G).1,?_,(I.pin p G).2.2⟩,λb u q=>?_,I.len⟩
 . rw[aE (cg (gB (bi e) h0))];exact I.base.free b ob e n U
 . rw[aE (gj h1)];exact I.free
 . rw[aE (h2 x c e)];exact I.freeC x c e
 . rw[aE (J p G)];exact(I.pin p G).2.1
 by_cases z:b=a
 . subst z;rw[aw]at q;cases q;exact Y
 rw[aE z]at q;exact(I.hok b _ q).stay (λ_ _ _ q=>q) (λc j=>up j) λc xs j=>up j
end
theorem sU:eV X (.type "dict") (λxs H Q=>∃a kvs,xs=[.ref a]/\H a=some (.dK kvs)/\fV H (.dK kvs) Q):=by
 intro a_ s Z H xs us Q I r h;obtain⟨a,kvs,rfl,e,q⟩:=h;obtain⟨u,rfl,G⟩:=vals1 r;cases G;exact aaD I (.inl e) λp s' z j=>⟨.ref p,_,j,rfl,q.at p z⟩
theorem abT{k:aq}{v:Value}(h:oM k v=true):RelV (kV k) v:=by
 rcases jb h with⟨i,t,rfl,rfl⟩ | ⟨x,t,rfl,rfl⟩
 . exact⟨t,rfl⟩
 exact⟨t,rfl⟩
theorem D9:∀{us:Lw}{ys:Ls},StrsAre us ys->aX (ys.map V.str) us
 | _,_,.nil=>.nil
 | _,_,.cons x t r=>.cons ⟨t,rfl⟩ (D9 r)
section
variable {prog:Program}{A:Around}{E:VP}
theorem abU{r:Addr}{Q:VP}(wP:wpAny (model prog w) A.in1 (collect (.ref r)) (λus s'=>∃(ys:Ls) (h':Heap) (tk:Nat),s'={ s with heap:=h',toks:=tk }/\StrsAre us ys/\us.length<64 /\
 ∀(h2:Heap) (out:Lw) (j:Ls) (e:Nat),(∀b o,h'.get? b=some o->h2.get? b=some o)->h2.get? h'.objs.size=some (seqObj "list" out.toArray e)->StrsAre out j->j.Perm ys->sortedS j=true->Q (.ref h'.objs.size) { s with heap:=h2,toks:=tk }) E s) :
 wpAny (model prog w) A (call (.builtin "sorted") [.ref r]) Q E s:=by
 refine Va kind_sorted Vb Vc (Vd _) ?_;unfold Builtin.«sorted»;refine aa (m:=checkCount "sorted" 1 1 _) (aj ?_);refine aa (dH wP (λus s' a3=>a3.elim λys a4=>a4.elim λh' a5=>a5.elim λtk a6=>a6.elim λes a7=>a7.elim λz a0=>a0.elim λqD a9=>?_) λ_ _ e=>e);subst es;refine aa (Cz ?_ (by rw[qf];omega));have G:(h'.push (seqObj "list" us.toArray 0)).get? h'.objs.size=some (seqObj "list" us.toArray 0):=cT _ rfl;show wpAny _ _ _ _ _ { s with heap:=h'.push (seqObj "list" us.toArray 0),toks:=tk };refine aa (iJ (lE Ve ⟨_,G,rfl⟩ Vf (list_sort_treeK strKind_oneLt G z.keysOf (λv₁ v₂ rest e=>keyKind_strs (by rw[<-e];exact z)) qD λJ U Y=>⟨_,rfl,?_⟩) (Vg _)));obtain⟨j,h1,h2,h3⟩:=sorted_out_str z U Y;obtain⟨e,he⟩:=Vh (vs:=us) (out:=(arrOf J).map (·.2)) G;refine aj ⟨_,rfl,a9 _ ((arrOf J).map (·.2)).toList j e (λb o q=>?_) (by rw[Vi];exact he) h1 h2 h3⟩;have O:=bi q;rw[Vj (cg O) (by rw[qg];exact IM O)];exact bB _ q
end
theorem LA{a_:Po}{Z:St}{H:Hp}{h' h2:Heap}{tk e:Nat}{out:Lw}{j:Ls}(I:Inv X a_ Z H { s with heap:=h',toks:=tk })(k:∀b o,h'.get? b=some o->h2.get? b=some o)
 (G:h2.get? h'.objs.size=some (seqObj "list" out.toArray e)) (z:StrsAre out j) (J:j.length<=sizeLine):Inv X a_ Z (ae H h'.objs.size (.lst (j.map V.str))) { s with heap:=h2,toks:=tk }:=
 I.laid (s:={ s with heap:=h',toks:=tk }) (t':=tk) k (aD _) ⟨by rw[ah];exact J,out,e,D9 z,G⟩
theorem ab1:eV X (.builtin "sorted") (λxs H Q=>∃p ys,xs=[.ref p]/\ag X.K H p (ys.map V.str)/\ys.length<64/\∀j,j.Perm ys->sortedS j=true->fV H (.lst (j.map V.str)) Q):=by
 intro a_ s Z H xs us Q I r h;obtain⟨p,ys,rfl,Y,qD,q⟩:=h;obtain⟨u,rfl,ru⟩:=vals1 r;cases ru;obtain⟨c_,rv,ht,hz⟩:=I.list Y;have G:StrsAre c_ ys:=Lu rv;have a0:=Vk G;refine sorted_strs ht.isList G (by omega) λout j J z O=>?_;obtain⟨e,U⟩:=sortedAll_at s.heap c_ out;have hl:=z.length_eq;refine⟨.ref (s.heap.objs.size+1),_,I.laid (t':=s.toks) (a:=s.heap.objs.size+1) (o:=.lst (j.map V.str)) (λb o q=>sortedAll_old q) (vW _) ⟨by rw[ah];exact lS (by omega),out.toList,e,D9 J,by rw[Vi];exact U⟩,rfl,?_⟩;exact(q j z O).at _ (I.hok.fresh (vW _))
def sV(kvs:List (aq×V))(ks:Ls):Prop:=kvs.map (·.1)=ks.map Sum.inr
theorem LB{ks:Ls}(h:sV kvs ks){vs:List (aq×Value)}(O:KV kvs vs){us:Lw}(G:us.length=vs.length)(J:∀(j:Nat) (v:Value),us[j]?=some v->∃k x,vs[j]?=some (k,x)/\(b8 X.prog X.w).is k v=true):StrsAre us ks:=by
 induction us generalizing kvs vs ks with
 | nil=>
  have:vs=[]:=vZ.mp G.symm;subst this;cases O;unfold sV at h;cases ks with
  | nil=>exact .nil
  | cons a b=>cases h
 | cons u us ih=>
  cases O with
  | nil=>cases G
  | @cons p q ps qs r rr=>
   cases ks with
   | nil=>cases h
   | cons a ks=>
    unfold sV at h;rw[bp,bp]at h;injection h with h1 h2
    obtain⟨k,x,e,z⟩:=J 0 u rfl;have e:q=(k,x):=fO e;have Y:p.1=k:=by rw[r.1,e]
    have z:oM k u=true:=z;rw[<-Y,h1]at z
    rcases jb z with⟨i,t,e1,e2⟩ | ⟨x',t,e1,e2⟩
    . cases e1
    cases e1;subst e2;exact .cons _ _ (ih h2 rr (by simpa using G) λj v U=>J (j+1) v (by simpa using U))
theorem Aa(hc:X.calm=true):eV X (.builtin "sorted") (λxs H Q=>∃d kvs ks,xs=[.ref d]/\H d=some (.dK kvs)/\sV kvs ks/\kvs.length<64/\∀G,G.Perm ks->sortedS G=true->fV H (.lst (G.map V.str)) Q):=by
 intro a_ s Z H xs us Q I r h;obtain⟨d,kvs,ks,rfl,e,Ab,qD,q⟩:=h;obtain⟨u,rfl,ru⟩:=vals1 r;cases ru;obtain⟨z,hd,vs,a0,dd⟩:=kW I.hok e;obtain⟨ep,sW⟩:=dd.dictAt;have a2:=a0.length;refine abU (W.kdu_collect (W.kdl_dict (knd:=b8 X.prog X.w) (kvs:=vs) (ep:=ep) hd) (I.ok.hd hc) sW (by omega) λh' tk U hk J=>?_);have hS:StrsAre U.toList ks:=LB (X:=X) Ab a0 (by rw[dJ];exact J.1) λj v hj=>J.2 j v (by rw[<-mC];exact hj);have sy:U.toList.length=vs.length:=by rw[dJ];exact J.1
 have O:Inv X a_ Z H { s with heap:=h',toks:=tk }:=I.kept hk;refine⟨ks,h',tk,rfl,hS,by omega,λh2 out G e' k2 he iO Y Ea=>?_⟩;have hl:=Y.length_eq;have a1:=Vk hS;exact⟨.ref h'.objs.size,_,LA O k2 he iO (lS (by omega)),rfl,(q G Y Ea).at _ (O.hok.fresh (aD _))⟩
def qE(o:Obj):Nat:=match o.data with
 | .dict _ ep=>ep
 | _=>0
def LC(d:Addr)(kvs:List (aq×V))(o:Obj):It:=
 ⟨λi H=>H d=some (.frz o (.dK kvs))/\i<kvs.length,λi H x H'=>∃k v p,kvs[i]?=some (k,v)/\H p=none/\x=.ref p/\H'=ae H p (.tup [kV k,v]),λi H=>H d=some (.frz o (.dK kvs))/\kvs.length<=i⟩
theorem LD{P:Program}{H:Hp}{h:Heap}(ok:bQ P w H h)(e:H d=some (.frz o (.dK kvs))):∃vs,KV kvs vs/\h.DictAt (b8 P w) d vs (qE o)/\(d == sysModules)=false:=by
 obtain⟨z,_,hd,vs,J,o',es,ep,j,G,O,r⟩:=(show bE P w H h d (.frz o (.dK kvs)) from ok d _ e);rw[z]at j;cases j;refine⟨vs,J,⟨o,es,z,G,?_,r⟩,hd⟩;unfold qE;rw[O]
theorem ab3{vs:List (aq×Value)}(r:KV kvs vs){i:Nat}{k:aq}{v:V}(h:kvs[i]?=some (k,v)):∃u,vs[i]?=some (k,u)/\RelV v u:=by
 unfold KV at r
 induction r generalizing i with
 | nil=>simp at h
 | @cons p q ps G j J z=>
  cases i with
  | zero=>
   simp at h;subst h;obtain⟨a,b⟩:=q;exact⟨b,by simp;exact j.1.symm,j.2⟩
  | succ i=>exact z (by simpa using h)
theorem ab4:entryFor table "dict_itemiterator.__iter__"=some Builtin.«dict_keyiterator.__iter__»:=
 IN (id':="dict_keyiterator.__iter__") (by kernel_rfl) rfl (by decide +kernel) (by kernel_rfl)
theorem ab5{prog:Program}{A:Around}{E:VP}{it:Addr}{i n ep:Nat}{ok G:Value}{Q:VP}(z:IsItemIter s.heap it d i n ep ok G)(h:Q (.ref it) s):wpAny (model prog w) A (pyIter (.ref it)) Q E s:=by
 have j:s.TypeIs (.ref it) "dict_itemiterator":=⟨_,z,rfl⟩;refine IP j ash (lE ash j ab4 ?_ (PySem.F.args_dict_itemiterator_iter_1 _));show wpAny _ _ (ret (.ref it)) _ _ s;exact aj ⟨_,rfl,"dict_itemiterator",_,j,PySem.F.slot_dict_itemiterator_next.lookup,h⟩
theorem ab6{P:Program}{K:Fg}(d it:Addr)(kvs:List (aq×V))(o:Obj):mP P w K (.Tuple elts x1 pos) (LC d kvs o) [it] it (λi h=>∃ok G,IsItemIter h it d i kvs.length (qE o) ok G) where
 mem:=by simp
 obj:=λi h st b j=>by
  have e:b=it:=by simpa using j
  subst e;obtain⟨ok,G,st⟩:=st;exact⟨_,st,λv z=>by
   have z':Data.fields _=Data.cell v:=z;cases z'⟩
 keep:=λi h h' a0 k=>a0.elim λok a1=>a1.elim λG st=>⟨ok,G,k it (by simp) _ st⟩
 item:=by
  intro X hP hw hK hc i a_ s Z H E I hf st hg;subst hP hw hK;obtain⟨ok,G,st⟩:=st;obtain⟨hd,aH⟩:=hg;obtain⟨J,f1,f2,f3,f4,f5⟩:=hf it (by simp);obtain⟨vs,U,sW,hS⟩:=LD I.hok hd;have O:=U.length;obtain⟨kv,qF⟩:∃kv,kvs[i]?=some kv:=⟨_,fo aH⟩;obtain⟨k,v⟩:=kv;obtain⟨u,hu,ru⟩:=ab3 U qF;rw[O]at st;refine wpAny_pyNext_items_item st sW hu λkey h1 jU a2 Eb hsz jz=>⟨.ref s.heap.objs.size,rfl,?_⟩;refine wpAny_letOwnedTupleGo_items a2 λh2 gr Y=>?_;have Ac:it<s.heap.objs.size:=bi st;have Y:Heap.SameBut it h1 h2:=Y;have I1:Inv X a_ Z H { s with heap:=h2 }:=I.turned (t':=s.toks) (λb ob j e=>(Y.2 b j).trans (jz b ob j e)) J f1 f3 f4 f5;have hn:H s.heap.objs.size=none:=I.hok.fresh (aD _);have fp:=I.fpOk (H':=H) (aD _) hn;have sO:h2.get? s.heap.objs.size=some { cls:=.type "tuple",data:=.seq #[key,u] }:=(Y.2 _ (kJ Ac)).trans Eb;have I2:Inv X a_ Z (ae H s.heap.objs.size (.tup [kV k,v])) { s with heap:=h2 }:=by
   refine I1.track hn I.sz fp.2.1 fp.2.2.2.2.1 fp.2.2.2.2.2 ?_;exact⟨by show 2<=sizeLine;decide,[key,u],.cons (abT jU) (.cons ru .nil),_,sO,rfl,0,rfl⟩
  refine⟨.ref s.heap.objs.size,_,I2,rfl,⟨k,v,_,qF,hn,rfl,rfl⟩,⟨key,u,by rw[O];exact gr⟩,λb j=>?_⟩;have e:b=it:=by simpa using j
  subst e;rw[aE (cg Ac)];exact J
 done:=by
  intro X hP hw hK hc i a_ s Z H E I hf st hg;subst hP hw hK;obtain⟨ok,G,st⟩:=st;obtain⟨hd,a5⟩:=hg;obtain⟨J,f1,f2,f3,f4,f5⟩:=hf it (by simp);obtain⟨vs,U,sW,hS⟩:=LD I.hok hd;have O:=U.length;rw[O]at st;exact wpAny_pyNext_items_end (I.ok.hd hc) st sW (by rw[List.getElem?_eq_none_iff];omega) λh' eb=>⟨rfl,I.turned (t':=s.toks) (λb o j e=>eb b o j e) J f1 f3 f4 f5⟩
 self:=λ_ _ _ _ _ a3 h=>a3.elim λok a4=>a4.elim λG st=>ab5 st h
theorem PE.weak{t:TE}(h:PE X e t):PE X e (λZ H Q=>∃j:VK,t Z H j/\∀v H,j v H->Q v H):=by
 intro a_ s Z H Q I ⟨j,q,w⟩;exact L2.thn (h a_ s Z H _ I q) λu U G=>aN G λv H1 z O J=>⟨v,H1,z,O,w _ _ J⟩
theorem PG.weak{g:TG}(h:PG X e g):PG X e (λx Z H Q=>∃j:St->Hp->Prop,g x Z H j/\∀Z H,j Z H->Q Z H):=by
 intro a_ s Z H v u Q I r ⟨j,q,w⟩;exact L2.thn (h a_ s Z H v u _ I r q) λ_ Y G=>G.elim λσ1 J=>J.elim λH1 O=>O.elim λz U=>⟨σ1,H1,z,w _ _ U⟩
theorem bu.weak{b:List Stmt}{t:TS}(h:bu X b t):bu X b (λD Z H=>∃z:Ends,t z Z H/\(∀Z H,z.nx Z H->D.nx Z H)/\(∀v H,z.rt v H->D.rt v H)/\(∀Z H,z.bk Z H->D.bk Z H)/\∀Z H,z.ct Z H->D.ct Z H):=by
 intro a_ s Z H D I ⟨z,q,J,O,U,Y⟩;refine L2.thn (h a_ s Z H z I q) λf s1 j=>?_;cases f with
 | next=>obtain⟨σ1,H1,G,j⟩:=j;exact⟨σ1,H1,G,J _ _ j⟩
 | ret v=>obtain⟨x,σ1,H1,G,r,j⟩:=j;exact⟨x,σ1,H1,G,r,O _ _ j⟩
 | brk=>obtain⟨σ1,H1,G,j⟩:=j;exact⟨σ1,H1,G,U _ _ j⟩
 | cont=>obtain⟨σ1,H1,G,j⟩:=j;exact⟨σ1,H1,G,Y _ _ j⟩
theorem ach{o:Expr}{uM apos bU:Pos}{td:TE}(ho:PE X o td)(sk:attributeBase o "items" X.env (eval o X.env)=eval o X.env:=by rfl)(sq:(apos.endLine == bU.line)=true:=by rfl) :
 PI X (.Tuple elts x1 uM) (.Call (.Attribute o "items" apos) [] [] bU) (λZ H R=>td Z H λx H1=>∃d kvs,x=.ref d/\H1 d=some (.dK kvs)/\∀ob,(∀o' u,X.H₀ d≠some (.frz o' u))->R (LC d kvs ob) (ae H1 d (.frz ob (.dK kvs)))):=by
 intro a_ s Z H R I h;refine wpAny_Call_method0_late sk sq (thn (ho a_ s Z H _ I h) λv j a0=>aN a0 λx H1 J r1 a1=>a1.elim λd a2=>a2.elim λkvs a3=>a3.elim λe a4=>a4.elim λG q=>?_);subst e;cases r1;obtain⟨z,hd,vs,a6,dd⟩:=kW J.hok G;obtain⟨h1,h2⟩:=KG J (x:=.ref d) rfl (T:="dict") (.inr (.inr (.inl ⟨rfl,.inl ⟨kvs,G⟩⟩)));refine⟨"dict","dict.items",Ct,asi,PySem.F.type_dict_items,h1,h2,Cn rfl (PySem.evalArgs_none ?_)⟩;refine rF asi dd.typeIs PySem.F.entry_dict_items (PySem.F.args_dict_items_1 _) (meets_dict_items (b8 X.prog X.w) d hd) ⟨⟨vs,dd⟩,?_⟩;have dQ:=dd.push { cls:=.type "dict_items",data:=.fields #[.ref d] };obtain⟨ob,es,ep,Y,hc,sY,rest⟩:=id dQ;have sW:(j.heap.push { cls:=.type "dict_items",data:=.fields #[.ref d] }).DictAt (b8 X.prog X.w) d vs ep:=⟨ob,es,Y,hc,sY,rest⟩;have O:Inv X a_ Z H1 { j with heap:=j.heap.push { cls:=.type "dict_items",data:=.fields #[.ref d] } }:=J.kept (t':=j.toks) λb o e=>bB _ e;refine wpAny_pyIter_items (s:={ j with heap:=j.heap.push { cls:=.type "dict_items",data:=.fields #[.ref d] } }) ⟨_,cT _ rfl,rfl,rfl⟩ sW ?_;have qG:qE ob=ep:=by unfold qE;rw[sY]
 have a5:=a6.length;have I3:Inv X a_ Z H1 { j with heap:=(j.heap.push { cls:=.type "dict_items",data:=.fields #[.ref d] }).push { cls:=.type "dict_itemiterator",data:=.fields #[.none,.bool false,.ref d,.int 0 0,.int vs.length 0,.int ep 0,.none,.none] } }:=
  O.kept (t':=j.toks) λb o e=>bB _ e
 have U:=O.hok.fresh (aD (j.heap.push { cls:=.type "dict_items",data:=.fields #[.ref d] }).objs.size);have hz:∀o' u,X.H₀ d≠some (.frz o' u):=λo' u hq=>by
  have:=J.base.frzs d o' u hq;rw[G]at this;cases this
 refine⟨_,[_],_,_,_,rfl,I3.freeze G (bB _ Y),ab6 d _ kvs ob,⟨.none,.none,?_⟩,λb hb=>?_,q ob hz⟩
 . show Heap.get? _ _=_;rw[qG,a5];exact cT _ rfl
 have e:b=(j.heap.push { cls:=.type "dict_items",data:=.fields #[.ref d] }).objs.size:=by simpa using hb
 subst e;refine O.fpOk (aD _) ?_;rw[aE (gj (aF G U))];exact U
def acn(td:TE)(g:TG)(tb:TS):TS:=λD Z H=>td Z H λx H1=>∃d kvs,x=.ref d/\H1 d=some (.dK kvs)/\∀ob,∃W:Nat->Nat->St->Hp->Prop,(∃m,W 0 m Z (ae H1 d (.frz ob (.dK kvs))))/\∀i m Z H,W i m Z H ->
 H d=some (.frz ob (.dK kvs))/\((kvs.length<=i/\D.nx Z (ae H d (.dK kvs)))\/(i<kvs.length/\∃N:St->Hp->Prop,(∀σ' H',N σ' H'->∃m',m'<m/\W (i+1) m' σ' H') /\
  ∀k v p,kvs[i]?=some (k,v)->H p=none->g (.ref p) Z (ae H p (.tup [kV k,v])) λσ2 H2=>
   tb { nx:=N,ct:=N,bk:=λσ' H'=>H' d=some (.frz ob (.dK kvs))/\D.nx σ' (ae H' d (.dK kvs)),rt:=λj H'=>H' d=some (.frz ob (.dK kvs))/\D.rt j (ae H' d (.dK kvs)) } σ2 H2))
theorem Ad{o:Expr}{uM apos bU:Pos}{td:TE}{g:TG}{tb:TS}{body:List Stmt}(G:PassesOwn (model X.prog X.w) X.A X.env X.xe)(hc:X.calm=true)(ho:PE X o td)(hg:PG X (.Tuple elts x1 uM) g)(hb:bu X body tb)
 (sk:attributeBase o "items" X.env (eval o X.env)=eval o X.env:=by rfl) (sq:(apos.endLine == bU.line)=true:=by rfl) (hs:∀x,foldedSetIterable (.Call (.Attribute o "items" apos) [] [] bU) X.env x=pure x:=by intro _;rfl) :
 PS X (.For (.Tuple elts x1 uM) (.Call (.Attribute o "items" apos) [] [] bU) body [] pos) (acn td g tb):=by
 intro a_ s Z H D I h;refine thn (fD (X:=X) G hc (ach ho.weak sk sq) hg.weak hb.weak hs a_ s Z H
  { nx:=λσ' H'=>∃d kvs ob,H' d=some (.frz ob (.dK kvs))/\(∀o' u,X.H₀ d≠some (.frz o' u))/\D.nx σ' (ae H' d (.dK kvs)),rt:=λJ H'=>∃d kvs ob,H' d=some (.frz ob (.dK kvs))/\(∀o' u,X.H₀ d≠some (.frz o' u))/\D.rt J (ae H' d (.dK kvs)) } I ?_) λf s' q=>?_
 . refine⟨_,h,λx H1 U=>U.elim λd Y=>Y.elim λkvs a0=>a0.elim λe a1=>a1.elim λed q=>⟨d,kvs,e,ed,λob hz=>?_⟩⟩;obtain⟨W,w0,al⟩:=q ob;refine⟨W,w0,λi m Z H hw=>?_⟩;obtain⟨hd,c | ⟨O,N,hN,step⟩⟩:=al i m Z H hw
   . exact .inl ⟨⟨hd,c.1⟩,d,kvs,ob,hd,hz,c.2⟩
   refine .inr ⟨⟨hd,O⟩,N,hN,λx H' a2=>a2.elim λk a3=>a3.elim λv a4=>a4.elim λp a5=>a5.elim λhk a6=>a6.elim λG a7=>a7.elim λe eH=>?_⟩;subst e eH;exact⟨_,step k v p hk G,λσ2 H2 q2=>⟨_,q2,λ_ _ z=>z,λJ H' a9=>a9.elim λa b=>⟨d,kvs,ob,a,hz,b⟩,λσ' H' ab=>ab.elim λa b=>⟨d,kvs,ob,a,hz,b⟩,λ_ _ z=>z⟩⟩
 cases f with
 | next=>
  obtain⟨σ',H',j,d,kvs,ob,hd,hz,q⟩:=q;exact⟨σ',_,j.thaw hd hz,q⟩
 | ret v=>
  obtain⟨x,σ',H',j,r,d,kvs,ob,hd,hz,q⟩:=q;exact⟨x,σ',_,j.thaw hd hz,r,q⟩
 | brk=>obtain⟨_,_,_,q⟩:=q;exact q.elim
 | cont=>obtain⟨_,_,_,q⟩:=q;exact q.elim
theorem Ae:Slot "set_iterator" "__next__" "set_iterator.__next__":=
 .of (owner:="set_iterator") (n:="__next__") (by rw[Vl,Vm];kernel_rfl) (by decide +kernel) (by decide +kernel) (by decide +kernel)
  (by first | exact .inl (by decide +kernel) | exact .inr (by decide +kernel)) (by rw[Vn];kernel_rfl)
theorem LI:Slot "set_iterator" "__iter__" "set_iterator.__iter__":=
 .of (owner:="set_iterator") (n:="__iter__") (by rw[Vl,Vm];kernel_rfl) (by decide +kernel) (by decide +kernel) (by decide +kernel)
  (by first | exact .inl (by decide +kernel) | exact .inr (by decide +kernel)) (by rw[Vn];kernel_rfl)
theorem acA:entryFor table "set_iterator.__next__"=some Builtin.«set_iterator.__next__»:=entryFor_of_tree (by kernel_rfl)
theorem acB:entryFor table "set_iterator.__iter__"=some Builtin.«dict_keyiterator.__iter__»:=IN (id':="dict_keyiterator.__iter__") (by kernel_rfl) rfl (by decide +kernel) (by kernel_rfl)
theorem acC:entryFor table "set.__iter__"=some Builtin.«frozenset.__iter__»:=IN (id':="frozenset.__iter__") (by kernel_rfl) rfl (by decide +kernel) (by kernel_rfl)
theorem LJ:Manifest.owners.lookup (String.ofList ['r','o','t','a','r','e','t','i','_','t','e','s'].reverse)=some Manifest.sig_set_iterator:=by kernel_rfl
theorem acD(a:Value):argsOk "set_iterator.__next__" ⟨[a],[]⟩:=by
 unfold argsOk;rw[signature?_of (id:="set_iterator.__next__") (n:=['_','_','t','x','e','n','_','_']) (o:=['r','o','t','a','r','e','t','i','_','t','e','s']) (by kernel_rfl) LJ];kernel_rfl
theorem acE(a:Value):argsOk "set_iterator.__iter__" ⟨[a],[]⟩:=by
 unfold argsOk;rw[signature?_of (id:="set_iterator.__iter__") (n:=['_','_','r','e','t','i','_','_']) (o:=['r','o','t','a','r','e','t','i','_','t','e','s']) (by kernel_rfl) LJ];kernel_rfl
section
variable {prog:Program}{A:Around}{E:VP}{a it:Addr}{ep:Nat}{t:SetTable}
theorem acF:typeLookup (.type "set") "__len__"=pure (some (.builtin "set.__len__")):=by rw[Vl,Vm];kernel_rfl
theorem acG{Q:Bool->Shared->Prop}(j:s.TypeIs (.ref a) "set")(h:Q false s):wpAny (model prog w) A (Builtin.List.listLengthHint (.ref a)) Q E s:=by
 unfold Builtin.List.listLengthHint;refine aa (yH j acF ?_);generalize G:("set.__len__":String)=J
 wp_delta
 rw[show splitId J=some ("set","__len__") from by subst G;decide +kernel];subst G;refine aa (my (T:="set") (b:=true) j (by rw[Vn];kernel_rfl) ?_);refine IQ (λz=>absurd z (by decide)) (λ_=>?_);refine IQ (λ_=>?_) (λz=>absurd (by decide +kernel) z);refine aa (IR j ?_);exact aj h
end
section
theorem o7:PE X (.Dict [] [] pos) (λ_ H Q=>fV H (.dK []) Q):=λa_ s Z H Q I h=>ZV a_ s Z H Q I h.at
theorem acH:PE X (.Dict [] [] pos) (λ_ H Q=>fV H (.dT []) Q):=λa_ s Z H Q I h=>ZW a_ s Z H Q I h.at
theorem qH(K:Fg){f:Str}{ta:TE}(z:PE X e ta)(j:attributeBase e f X.env (eval e X.env)=eval e X.env)(h:X.K=K:=by rfl):PE X (.Attribute e f pos) (J2 K ta f):=h▸bv z j
def acI:V->Lv->Hp->VK->Prop:=λx vs H Q=>∃a b kvs j,x=.ref a/\vs=[.ref b]/\a≠b/\H a=some (.dK kvs)/\H b=some (.dK j)/\kvs.length+j.length<=sizeLine/\Q .non (ae H a (.dK (sN kvs j)))
theorem acJ:su X "dict.update" acI:=by
 intro a_ s Z H x xs v us Q I rx rs h;obtain⟨a,b,kvs,a2,rfl,rfl,jT,G,eb,J,q⟩:=h;cases rx;cases rs with
 | cons r1 r2=>
  cases r2;cases r1;obtain⟨z,hd,vs,U,dd⟩:=kW I.hok G;obtain⟨z',kQ,ws,O,ic⟩:=kW I.hok eb;refine rF asj dd.typeIs PySem.F.entry_dict_update (PySem.F.args_dict_update_2 _ _) (meets_dict_update (b8 X.prog X.w) a b jT kQ) ⟨vs,ws,dd,ic,by rw[<-U.length,<-O.length];exact J,λh' j _ hs=>?_⟩;have he:∃q,h'.get? a=some q:=j.elim λq Y=>Y.elim λ_ a0=>a0.elim λ_ a1=>a1.elim λhq _=>⟨q,hq⟩;exact⟨.non,_,wE I (ob:=.dK (sN kvs a2)) (by rw[G];exact True.intro) hs he (wF (cR (DI _ _) J) hd (O.merge U) j),rfl,q⟩
theorem acN(x:Str):Str.empty++x=x:=by
 obtain⟨c⟩:=x;show(⟨#[]++c⟩:Str)=⟨c⟩;rw[Array.empty_append]
variable {e1 e2:Expr}{te t1 t2:TE}
inductive LL (Q:VK) (H1:Hp):V->Prop where
 | mk {y:Str} (_:y.length<=sizeLine) (_:Q (.str y) H1):LL Q H1 (.str y)
def acO(te:TE):TE:=λZ H Q=>te Z H λx H1=>LL Q H1 x
theorem Ec(J:PE X e te):PE X (.FormattedValue e (-1) none pos) (acO te):=by
 intro a_ s Z H Q I h;refine FormattedValue_plain (thn (J a_ s Z H _ I h) λv Y G=>aN G λx H1 z U j=>?_);obtain @⟨y,O,q⟩:=j;obtain⟨t,rfl⟩:=U;exact formatField_str (λt' tk=>⟨.str y,H1,z.tok _,⟨_,rfl⟩,q⟩) O
inductive LN (t2:TE) (Z:St) (Q:VK) (H1:Hp):V->Prop where
 | mk {x:Str} (_:x.length<=sizeLine) (_:t2 Z H1 λb H2=>∃y,b=.str y/\x.length+y.length<=sizeLine/\Q (.str (x++y)) H2):LN t2 Z Q H1 (.str x)
def acQ(t1 t2:TE):TE:=λZ H Q=>t1 Z H λa H1=>LN t2 Z Q H1 a
theorem Af(h1:PE X e1 t1)(h2:PE X e2 t2):PE X (.JoinedStr [e1,e2] pos) (acQ t1 t2):=by
 intro a_ s Z H Q I h;refine JoinedStr_many (joinParts_cons (thn (h1 a_ s Z H _ I h) λv j O=>aN O λa H1 G r1 z=>?_));obtain @⟨x,hx,q1⟩:=z;obtain⟨t,rfl⟩:=r1;show(Str.empty++x).length<=sizeLine/\wpAny _ _ (joinParts (Str.empty++x) (eval e2 X.env::evalEach [] X.env)) _ _ j;rw[acN];refine⟨hx,joinParts_cons (thn (h2 a_ j Z H1 _ G q1) λv s2 U=>aN U λb H2 J r2 a0=>?_)⟩;obtain⟨y,Y,hl,q2⟩:=a0;subst Y;obtain⟨t',rfl⟩:=r2;have hz:(x++y).length<=sizeLine:=by rw[lR];exact hl
 exact⟨hz,joinParts_nil ⟨.str (x++y),H2,J.tok _,⟨_,rfl⟩,q2⟩ hz⟩
end
end
section
theorem Ag{X:Cx}{st:Stmt}{j:List Stmt}{t u:TS}(h1:PS X st t)(h2:bu X j u):bu X (st::j) (λD Z H=>∃P:St->Hp->Prop,t { D with nx:=P } Z H/\∀σ' H',P σ' H'->u D σ' H'):=by
 intro a_ s Z H D I ⟨P,a,b⟩;exact Lc P h1 h2 a_ s Z H D I ⟨a,b⟩
variable {t1 t2 t3 t4 t5 t6 t7:TS}{D:Ends}{Z:St}{H:Hp}{X:Cx}{w:World}{K:Fg}{tk:Tok}
theorem qJ(h:let d:=D;let s:=Z;let j:=t2;aK t1 j d s H):aK t1 (t2) D Z H:=h
theorem kY(h:let d:=D;let s:=Z;let z:=t3;let j:=aK t2 z;aK t1 j d s H):aK t1 (aK t2 (t3)) D Z H:=h
theorem lU(h:let d:=D;let s:=Z;let G:=t4;let z:=aK t3 G;let j:=aK t2 z;aK t1 j d s H):aK t1 (aK t2 (aK t3 (t4))) D Z H:=h
theorem Ah(h:let d:=D;let s:=Z;let J:=t5;let G:=aK t4 J;let z:=aK t3 G;let j:=aK t2 z;aK t1 j d s H):aK t1 (aK t2 (aK t3 (aK t4 (t5)))) D Z H:=h
theorem LO(h:let d:=D;let s:=Z;let O:=t6;let J:=aK t5 O;let G:=aK t4 J;let z:=aK t3 G;let j:=aK t2 z;aK t1 j d s H):aK t1 (aK t2 (aK t3 (aK t4 (aK t5 (t6))))) D Z H:=h
theorem acU(h:let d:=D;let s:=Z;let U:=t7;let O:=aK t6 U;let J:=aK t5 O;let G:=aK t4 J;let z:=aK t3 G;let j:=aK t2 z;aK t1 j d s H):aK t1 (aK t2 (aK t3 (aK t4 (aK t5 (aK t6 (t7)))))) D Z H:=h
theorem acV{j:TS}(h:let d:=D;let s:=Z;let u8:=j;let Y:=aK t7 u8;let U:=aK t6 Y;let O:=aK t5 U;let J:=aK t4 O;let G:=aK t3 J;let z:=aK t2 G;aK t1 z d s H):aK t1 (aK t2 (aK t3 (aK t4 (aK t5 (aK t6 (aK t7 (j))))))) D Z H:=h
theorem acW{U Y j z G J O:TS}(h:let d:=D;let s:=Z;let LV:=O;let LW:=aK J LV;let LX:=aK G LW;let LY:=aK z LX;let LZ:=aK j LY;let u9:=aK Y LZ;let u8:=aK U u9;let u7:=aK t7 u8;let u6:=aK t6 u7;let u5:=aK t5 u6;let u4:=aK t4 u5;let u3:=aK t3 u4;let u2:=aK t2 u3;aK t1 u2 d s H):aK t1 (aK t2 (aK t3 (aK t4 (aK t5 (aK t6 (aK t7 (aK U (aK Y (aK j (aK z (aK G (aK J (O))))))))))))) D Z H:=h
theorem wQ{b:List PySem.Stmt}(h:let x:=X;let d:=D;∃t,bu x b t/\t d Z H):∃t,bu X b t/\t D Z H:=h
section
theorem aV{N P:Ls}{sc:Scope}(a:sc.kind=.function:=by rfl)(b:sc.isCoroutine=false:=by rfl)(c:sc.isGenerator=false:=by rfl)(d:N.Nodup:=by decide +kernel)(e:N.take P.length=P:=by rfl)(f:∀x∈P,sc.names.lookup x=some .local\/sc.names.lookup x=some .cell:=by decide +kernel)(g:∀y∈sc.names,y.2≠.free:=by decide +kernel):aM N P sc:=⟨a,b,c,d,e,f,g⟩
theorem fq{own cap:Ls}{js:List Nat}{sc:Scope}(a:sc.kind=.function:=by rfl)(b:∀y∈sc.names,y.2≠.cell:=by decide +kernel)(c:∀y∈sc.names,y.2=.local->sc.names.lookup y.1=some .local:=by decide +kernel)(d:(own++cap).Nodup:=by decide +kernel)(e:∀y∈sc.names,y.2=.free->y.1∈cap:=by decide +kernel)(f:js.map (λj=>X.N[j]?)=cap.map some:=by rfl)(g:cap.map X.env.kindOf=cap.map λ_=>some NameKind.cell:=by rfl)(h:cap.map (λx=>(relabel sc X.env).names.lookup x)=cap.map λ_=>some NameKind.cell:=by rfl):j0 X own cap js sc:=⟨a,b,c,d,e,f,g,h⟩
theorem lQ.okL{P:Program}{mg:Mv}{base:Heap}{x b_:Str}{st:Stmt}{f:Addr}{fd:Fy}{N ps:Ls}{k:Nat}{sp:Sp}(F:lQ K x b_ st f fd)(S:aM N ps (aC st))(z:∀(j:Value) (A:Around) (outer:List Env) (s:Shared) (H:Hp) (vs:Lv) (Q:VK) (E:XK),bT k (A.deeper (envOfC b_ (aC st) s.heap.objs.size f j))->sp vs H Q E->let y:=(qv aL P w K mg base N b_ (aC st) f j A outer s H E).nox;let d:Ends:={ nx:=λ_ H'=>Q .non H',rt:=Q };∃t,bu y (gJ st) t/\t d (start N vs) H)(len:∀vs H Q E,sp vs H Q E->vs.length=ps.length:=by intro _ _ _ _ h;(cases h;rfl)):au P w K mg base aL (k+1) f fd ps sp:=F.ok S len z
end
section
variable {a b c d:Expr}{ta tb tc td:TE}
theorem ao(j:PE X a ta)(z:starEach [a] X.env=(false,eval a X.env)::starEach [] X.env:=by rfl):PA X [a] (f9 ta (eg)):=hX j dE z
theorem aO(j:PE X a ta)(z:PE X b tb)(G:starEach [a,b] X.env=(false,eval a X.env)::starEach [b] X.env:=by rfl)(J:starEach [b] X.env=(false,eval b X.env)::starEach [] X.env:=by rfl):PA X [a,b] (f9 ta (f9 tb (eg))):=hX j (hX z dE J) G
theorem eZ(j:PE X a ta)(z:PE X b tb)(G:PE X c tc)(J:starEach [a,b,c] X.env=(false,eval a X.env)::starEach [b,c] X.env:=by rfl)(O:starEach [b,c] X.env=(false,eval b X.env)::starEach [c] X.env:=by rfl)(sc:starEach [c] X.env=(false,eval c X.env)::starEach [] X.env:=by rfl):PA X [a,b,c] (f9 ta (f9 tb (f9 tc (eg)))):=hX j (hX z (hX G dE sc) O) J
theorem uT(j:PE X a ta)(z:PE X b tb)(G:PE X c tc)(hd:PE X d td)(J:starEach [a,b,c,d] X.env=(false,eval a X.env)::starEach [b,c,d] X.env:=by rfl)(O:starEach [b,c,d] X.env=(false,eval b X.env)::starEach [c,d] X.env:=by rfl)(sc:starEach [c,d] X.env=(false,eval c X.env)::starEach [d] X.env:=by rfl)(U:starEach [d] X.env=(false,eval d X.env)::starEach [] X.env:=by rfl):PA X [a,b,c,d] (f9 ta (f9 tb (f9 tc (f9 td eg)))):=hX j (hX z (hX G (hX hd dE U) sc) O) J
end
theorem cb{p:Prop}(h:let T:=p;T):p:=h
theorem Ai{g:TG}{tb:TS}{E:Ends}{x:V}(h:let e:=E;let s:=Z;g x s H λσ2 H2=>tb e σ2 H2):g x Z H λσ2 H2=>tb E σ2 H2:=h
open PySem.W PySem.Builtin PySem.Builtin.ObjectAttr PySem.Builtin.Getset_descriptor
abbrev iP (a:Addr) (c:Value):HO:=.ext λh=>∃o,h.get? a=some o/\o.cls=c
theorem acX{P:Program}{h:Heap}{a:Addr}{c:Value}(e:∃o,h.get? a=some o/\o.cls=c):bE P w H h a (iP a c):=by
 obtain⟨o,e1,e2⟩:=e;exact⟨⟨o,e1,e2⟩,⟨o,e1⟩,λh1 h2 z k=>by
  obtain⟨o',x,y⟩:=z;exact⟨o',k _ x,y⟩⟩
abbrev L0:Lw:=[.type "ValueError",.type "Exception",.type "BaseException",.type "object"]
structure mX(K:Fg)(C:Addr):Prop where
 exc:W.excIn K C L0 "ValueError.__new__"=true
 ga:W.findIn K (.ref C) "__getattribute__"=some (some (.builtin "BaseException.__getattribute__"))
 gh:W.findIn K (.ref C) "__getattr__"=some none
 cls:W.findIn K (.ref C) "__class__"=some (some (.builtin "object.__class__"))
 spc:W.specialIn K (.builtin "object.__class__") "__get__"=some (some (.builtin "getset_descriptor.__get__"))
 tak:W.takesIn K (.builtin "object.__class__")=some true
 mro:W.mroIn K C (.type "object")=some true
 mrb:W.mroIn K C (.type "BaseException")=some true
structure kZ(K:Fg)(C:Addr):Prop where
 ga:W.findIn K (.ref C) "__getattribute__"=some (some (.builtin "BaseException.__getattribute__"))
 gh:W.findIn K (.ref C) "__getattr__"=some none
 cls:W.findIn K (.ref C) "__class__"=some (some (.builtin "object.__class__"))
 spc:W.specialIn K (.builtin "object.__class__") "__get__"=some (some (.builtin "getset_descriptor.__get__"))
 tak:W.takesIn K (.builtin "object.__class__")=some true
 mro:W.mroIn K C (.type "object")=some true
 mrb:W.mroIn K C (.type "BaseException")=some true
theorem mX.c0{C:Addr}(x:mX K C):kZ K C:=⟨x.ga,x.gh,x.cls,x.spc,x.tak,x.mro,x.mrb⟩
section
variable {D a:Addr}{M:Model}{h:Heap}
theorem kZ.there(x:kZ K D):∃cd,W.clsIn K D=some cd:=by
 have e:=x.mro;unfold W.mroIn at e;obtain⟨cd,q,_⟩:=Option.bind_eq_some_iff.mp e;exact⟨cd,q⟩
theorem kZ.obj(x:kZ K D):∃c d cd sl,K.lookup D=some ⟨c,d,.cls cd,sl⟩:=by
 obtain⟨cd,e⟩:=x.there;unfold W.clsIn at e;split at e
 . exact⟨_,_,_,_,‹_›⟩
 cases e
theorem Aj(e:∃o,h.get? a=some o/\o.cls=.ref D):Looks M h (typeOf (.ref a)) (.ref D):=by
 obtain⟨o,e1,e2⟩:=e;exact e2▸(Looks.ld e1).andThen .now
end
section
variable {prog:Program}{A:Around}{E:VP}{s:Shared}{D a:Addr}
theorem acY{R:Result->Shared->Prop}{j:Value}(x:kZ K D)(X:K.In s.heap)(p:∃o,s.heap.get? a=some o/\o.cls=.ref D)(q:R (.ok (.ret (.ref D))) s) :
 codeAny (model prog w) A (.call (.builtin "getset_descriptor.__get__") ⟨[.builtin "object.__class__",.ref a,j],[]⟩) R s:=by
 obtain⟨O,J,G,tk,os⟩:=s;have LT:=Aj (M:=model prog w) p;have z:=looks_mroIn (M:=model prog w) X x.mro;refine Vo KF.slot_gs.plain KF.entry_gs
  (KF.slot_gs.check _ _ _ _ _ _ _ _ KF.type_class (KF.args_gs _ _ _) ?_)
 unfold Builtin.«getset_descriptor.__get__»;unfold descrGet;rw[dga_obj];refine aa (aj ?_);unfold descrGetter descrCheckInstance;unfold descrNameAndClass isInstance;simp only[KF.owner_class]
 repeat lk
 refine⟨Code.quiet_builtin _ (by decide +kernel),
  mD KF.entry_class ?_⟩
 unfold Builtin.«object.__class__»;unfold shownTypeOf
 repeat lk
 exact q
theorem acZ(x:kZ K D){Q:PySem.Fin->Shared->Prop}(X:K.In s.heap)(p:∃o,s.heap.get? a=some o/\o.cls=.ref D)(q:Q (.done (.ret (.ref D))) s) :
 wpAny (model prog w) A (Builtin.«object.__getattribute__» ⟨[.ref a,.str "__class__" tk],[]⟩) Q E s:=by
 obtain⟨j,J,G,tt,os⟩:=s;have LT:=Aj (M:=model prog w) p;have z:Looks (model prog w) j (find (.ref a) (.ref D) "__class__") (.bind (.builtin "getset_descriptor.__get__") (.builtin "object.__class__")):=
  (Vp X x.cls).andThen ((looks_specialIn X x.spc).andThen ((show Looks (model prog w) j (dataDescriptor? (some (.builtin "object.__class__")) (some (.builtin "getset_descriptor.__get__"))) (some (.builtin "getset_descriptor.__get__",.builtin "object.__class__")) from (looks_takesIn X x.tak).andThen .now).andThen (Looks.tag .now)))
 unfold Builtin.«object.__getattribute__»
 repeat (any_goals (first | assumption | with_reducible refine LT.at ?_ | with_reducible refine z.at ?_ | wp_step))
 refine acY x X p ?_
 repeat (any_goals (first | assumption | wp_step))
theorem ac0(x:kZ K D){j:Value}{Q:Unit->Shared->Prop}(X:K.In s.heap)(p:∃o,s.heap.get? a=some o/\o.cls=.ref D)(q:Q () s) :
 wpAny (model prog w) A (checkBuiltinCall "BaseException.__getattribute__" ⟨[.ref a,j],[]⟩) Q E s:=by
 obtain⟨hh,gg,Y,tt,os⟩:=s;have J:builtinKind "BaseException.__getattribute__"=some .slot:=by decide +kernel
 have U:splitId "BaseException.__getattribute__"=some ("BaseException","__getattribute__"):=by decide +kernel
 have z:=looks_mroIn (M:=model prog w) X x.mrb;obtain⟨o,O,G⟩:=id p;have ha:=F.args_bexc_ga (.ref a) j;simp only[checkBuiltinCall,J,U];refine aa ?_;unfold isInstance
 repeat (first | (with_reducible refine wpAny_loadPart_at O ?_;rw[G]) | with_reducible refine z.at ?_ | wp_step)
 exact q
theorem ac1(x:kZ K D){R:Result->Shared->Prop}(X:K.In s.heap)(p:∃o,s.heap.get? a=some o/\o.cls=.ref D)(q:R (.ok (.ret (.ref D))) s) :
 codeAny (model prog w) A (.call (.builtin "BaseException.__getattribute__") ⟨[.ref a,.str "__class__" tk],[]⟩) R s:=
 Vo F.excAttr_ValueError.ga.plain F.entry_bexc_ga (ac0 x X p (acZ x X p q))
theorem ac2(x:kZ K D){Q:VP}(X:K.In s.heap)(p:∃o,s.heap.get? a=some o/\o.cls=.ref D)(q:Q (.ref D) s) :
 wpAny (model prog w) A (getAttrBy (.ref a) (.str "__class__" tk) false) Q E s:=by
 obtain⟨hh,gg,U,tt,os⟩:=s;have LT:=Aj (M:=model prog w) p;have j:=Vp (M:=model prog w) X x.ga;have z:=Vp (M:=model prog w) X x.gh;have Y:=F.excAttr_ValueError.ga.bind (.ref a);have O:(false && onTheHeap (Value.builtin "BaseException.__getattribute__"))=false:=rfl;have G:(Value.builtin "BaseException.__getattribute__" == Value.builtin "object.__getattribute__")=false:=by decide +kernel
 have J:(onTheHeap (Value.ref D) && Value.builtin "BaseException.__getattribute__" == Value.builtin "object.__getattribute__")=false:=by rw[G];rfl
 repeat (any_goals (first | assumption | with_reducible refine LT.at ?_ | with_reducible refine j.at ?_ | with_reducible refine z.at ?_ | wp_step))
 refine ac1 x X p ?_
 repeat (any_goals (first | assumption | wp_step))
theorem ac3(x:kZ K D){Q:Option Value->Shared->Prop}(X:K.In s.heap)(p:∃o,s.heap.get? a=some o/\o.cls=.ref D)(q:Q (some (.ref D)) { s with toks:=s.toks+1 }) :
 wpAny (model prog w) A (getAttr? (.ref a) "__class__") Q E s:=by
 obtain⟨G,z,j,tt,os⟩:=s;unfold getAttr?;refine aa (wpAny_mkText ?_);unfold getAttrBy?;refine aa (IS (ac2 x X p ?_));exact aj q
theorem Ed(x:kZ K D):W.KitX K (.ref a) (.ref D) (λh=>∃o,h.get? a=some o/\o.cls=.ref D) where
 ty:=λ_ _ _ p=>Aj p
 it:=λM h X _=>by
  obtain⟨c,d,cd,sl,e⟩:=x.obj;intro G O J s' k q;unfold isType loadHead;exact aa (wpAny_loadPart (k _ _ (X _ _ e)) (aj q))
 ne:=λh z dd c_ n sl X e=>by
  obtain⟨c,d,cd,U,j⟩:=x.obj;refine rH.mpr λq=>?_;obtain rfl:D=z:=Value.ref.inj (jP.mp q);cases (X _ _ j).symm.trans e
 ca:=λX p q=>ac3 x X p q
end
end
section
open PySem.W
variable {P:Program}{w:World}{h:Heap}{a C:Addr}{x:Str}{pos:Pos}
theorem bE.obj{H:Hp}{o:HO}(x:bE P w H h a o):∃u,h.get? a=some u:=by
 cases o with
 | lst xs=>obtain⟨_,_,_,_,e⟩:=x;exact⟨_,e⟩
 | tup xs=>obtain⟨_,_,_,ob,e,_⟩:=x;exact⟨_,e⟩
 | dK kvs=>obtain⟨_,_,_,_,o,_,_,e,_⟩:=x;exact⟨_,e⟩
 | dT kvs=>obtain⟨_,_,_,_,o,_,_,e,_⟩:=x;exact⟨_,e⟩
 | set S n=>obtain⟨o,_,_,_,e,_⟩:=x;exact⟨_,e⟩
 | ins C dx fs=>obtain⟨_,_,_,e,_⟩:=x;exact⟨_,e⟩
 | own y=>obtain⟨_,e⟩:=x;exact⟨_,e⟩
 | xd fs=>obtain⟨_,⟨_,_,_,e,_⟩,_⟩:=x;exact⟨_,e⟩
 | rng lo hi=>obtain⟨_,_,_,e⟩:=x;exact⟨_,e⟩
 | frz ob u=>obtain⟨e,_⟩:=x;exact⟨_,e⟩
 | tbl ps=>exact⟨_,(show h.get? a=some _ from x)⟩
 | met f y=>exact⟨_,(show h.get? a=some _ from x)⟩
 | ext φ=>obtain⟨_,⟨_,e⟩,_⟩:=x;exact⟨_,e⟩
structure k8(l:List Env)(B:Heap)(H:Hp)(h0 h h':Heap):Prop where
 big:∀b o,h.get? b=some o->((H b).isSome=true\/∃o',h0.get? b=some o')->b∉bR l->B.get? b=some o
 stay:B.StaysIn h'
 slots:∀b o,h.get? b=some o->b∈bR l->∃sl,h'.get? b=some { o with slots:=sl }
section
variable {l:List Env}{B:Heap}{H H0:Hp}{h0 h' Ee:Heap}
theorem k8.at(f:k8 l B H h0 h h'){b:Addr}{o:Obj}(e:h.get? b=some o)(t:(H b).isSome=true\/∃o',h0.get? b=some o')(n:b∉bR l):h'.get? b=some o:=f.stay _ _ (f.big b o e t n)
theorem k8.hok(f:k8 l B H h0 h h')(ok:bQ P w H h)(G:∀b∈bR l,H b=none):bQ P w H h':=λb o e=>by
 have j:∀c u,H c=some u->c∉bR l:=λc u q z=>by rw[G c z]at q;cases q
 refine(ok b o e).stay (λc u hc q=>?_) (λ_ q=>q) λ_ _ q=>q
 rcases hc with rfl | hc
 . exact f.at q (.inl (by rw[e];rfl)) (j _ _ e)
 exact f.at q (.inl (by rw[hc];rfl)) (j _ _ hc)
theorem k8.un{fs:List Addr}(f:k8 l B H h0 h h')(u:Un fs [] H0 H h0 h)(hs:∀b∈bR l,b∈fs\/h0.get? b=none)(O:∀b∈fs,b∈bR l):Un fs [] H0 H h0 h' where
 keep:=λb o q n j G=>f.at (u.keep b o q n j G) (.inr ⟨o,q⟩) λz=>by
  rcases hs b z with y | y
  . exact j y
  rw[y]at q;cases q
 slot:=λb o q n j G=>by
  obtain⟨sl,e⟩:=u.slot b o q n j G;obtain⟨U,J⟩:=f.slots b _ e (O b j);exact⟨U,J⟩
 free:=u.free
 there:=λb o q G=>by
  obtain⟨o',e⟩:=u.there b o q G
  by_cases j:b∈bR l
  . obtain⟨sl,J⟩:=f.slots b _ e j;exact⟨_,J⟩
  exact⟨o',f.at e (.inr ⟨o,q⟩) j⟩
 tups:=u.tups
 frzs:=u.frzs
 tbls:=u.tbls
theorem k8.on(f:k8 l B H h0 h h')(st:B.StaysIn Ee)(O:h'.UpToSlots Ee)(z:∀b o,h.get? b=some o->b∈bR l->∀vs,o.data≠.fields vs):k8 l B H h0 h Ee:=⟨f.big,st,λb o e j=>by
 obtain⟨sl,q⟩:=f.slots b o e j;obtain⟨J,G⟩:=O b _ q (z b o e j);exact⟨J,G⟩⟩
end
def eS(P:Program)(w:World):hZ:=λouter H s E e s'=>∃(a:Addr) (c:Value) (H':Hp) (B:Heap) (j:Value),e=.ref a/\s'.os=s.os/\AllBare s'.gens/\Un (bR outer) [] H H' s.heap s'.heap/\bQ P w H' s'.heap/\s.heap.get? a=none /\
 Heap.FlyingW B outer a c j s'.heap/\(∀b o,s'.heap.get? b=some o->((H' b).isSome=true\/∃o',s.heap.get? b=some o')->b∉bR outer->B.get? b=some o)/\E c none H'
section
variable {X:Cx}{a_:Po}{Z:St}{H:Hp}{s:Shared}{E:XK}
theorem Inv.nofld(I:Inv X a_ Z H s){b:Addr}(j:b∈bR X.stack):∃o,s.heap.get? b=some o/\∀vs,o.data≠.fields vs:=(I.stack.mem j).2
theorem L4{B h':Heap}{c U:Value}{g':Array GenState}{d':Drawn}{t':Nat}(I:Inv X a_ Z H s)(hex:X.ex=[])(eO:X.stack=X.env::X.outer)(ji:X.env.frame=some X.env.locals)(f:k8 X.stack B H X.s₀.heap s.heap h')(na:X.s₀.heap.get? a=none)
 (fl:Heap.FlyingW B X.outer a c U h') (hg:AllBare g') (e:E c none H):eS X.prog X.w X.outer X.H₀ X.s₀ E (.ref a) { s with heap:=h',gens:=g',drawn:=d',toks:=t' }:=by
 have sub:∀b∈bR X.outer,b∈bR X.stack:=λb G=>by
  rw[eO];unfold bR at G ⊢;rw[yJ,ji];exact bL _ G
 have a1:∀b∈bR X.stack,b∈bR X.outer\/X.s₀.heap.get? b=none:=λb G=>by
  rcases bc.mp (I.stkSub b G) with z | z
  . rw[z];exact .inr (Heap.get?_none_of_le I.ok.above)
  exact .inl z
 have O:=I.base;rw[hex]at O;refine⟨a,c,H,B,U,rfl,I.os,hg,f.un O a1 sub,f.hok I.hok I.stkFree,na,fl,λb o q t nb=>?_,e⟩;have q:h'.get? b=some o:=q;have Ef:b∉bR X.stack\/X.s₀.heap.get? b=none:=by
  by_cases z:b∈bR X.stack
  . rcases a1 b z with y | y
    . exact absurd y nb
    exact .inr y
  exact .inl z
 have tr:∀j,s.heap.get? b=some j->b∉bR X.stack->B.get? b=some o:=λj e2 z=>by
  have:=f.big b j e2 t z;have Y:=f.stay _ _ this;rw[q]at Y;cases Y;exact this
 rcases t with t | ⟨o',t⟩
 . obtain⟨u,J⟩:=Ci.mp t;obtain⟨j,e2⟩:=(I.hok b u J).obj;exact tr j e2 λz=>by rw[I.stkFree b z]at J;cases J
 obtain⟨j,e2⟩:=O.there b o' t (by simp);refine tr j e2 λz=>?_
 rcases Ef with y | y
 . exact y z
 rw[y]at t;cases t
abbrev o8 (P:Program) (w:World) (K:Fg) (mg:Mv) (base:Heap) (N:Ls) (b_:Str) (scope:Scope) (f:Addr) (cd:Value) (A:Around) (outer:List Env) (s:Shared) (H:Hp) (E:XK):Cx:=qv (eS P w) P w K mg base N b_ scope f cd A outer s H E
end
section
variable {K:Fg}{mg:Mv}{base:Heap}{N:Ls}{b_:Str}{scope:Scope}{f:Addr}{cd:Value}{A:Around}{outer:List Env}{s0:Shared}{H0:Hp}{E:XK}
theorem jj:lI (eS P w) (o8 P w K mg base N b_ scope f cd A outer s0 H0 E) E:=by
 intro a_ Z H s e s' I h;obtain⟨a,c,H',B,a0,rfl,os,j,un,hok,Y,fl,big,q⟩:=h;have J:=I.call' (ch:=[]) os un hok j (λb z=>nomatch z);refine wpAny_leaves_onW (L:=(envOfC b_ scope s0.heap.objs.size f cd).locals) I.ok.frames rfl fl λh' x1 x2=>?_;obtain⟨hh,g,d,t,zF⟩:=s';have G:s0.heap.get? a=none:=by
  cases z:s0.heap.get? a with
  | none=>rfl
  | some o=>
   obtain⟨o',y⟩:=I.base.there a o z (λz=>nomatch z);rw[Y]at y;cases y
 exact L4 (g':=g) (d':=d) (t':=t) J rfl rfl rfl ⟨λb o e t nb=>big b o e (t.imp id λO=>O.elim λo' z=>I.base.there b o' z (λz=>nomatch z)) nb,x1.1,λb o e U=>by
  obtain⟨o1,e1,n1⟩:=J.nofld U;rw[e]at e1;cases e1;exact x2 b o e n1⟩ G x1 j q
theorem ac5(X:K.In h)(x:mX K C):∃bm U nm q bs hdct sn sub ab col dd k0 k1 k2 k3 k5 mN,h.get? C=some (excClassObj nm q C U bs bm hdct sn sub ab col dd k0 k1 k2 k3 k5 "ValueError.__new__")/\h.Ns U mN/\mN "__init__"=none/\OwnTail h L0 bm:=by
 have q:=x.exc;unfold excIn at q;split at q
 case h_2=>cases q
 rename_i dd O sl ho;split at q
 case h_2=>cases q
 rename_i C' bm k0 k1 k2 k3 n k5 z hs;rw[gD,gD,gD,gD,gD]at q;obtain⟨⟨⟨⟨⟨G,J⟩,j⟩,z4⟩,Y⟩,z6⟩:=q;have G:=jP.mp G;have J:=jP.mp J;have j:O.hasDel=false:=by simpa using j
 subst G J;obtain⟨nm,bs,a1,ns,qn,hd,sn,sub,ab,col,a0⟩:=O;have z:a1=.ref C'::bm:=z;have j:a0=false:=j;subst z j;obtain⟨a2⟩:=sl;have hs:a2=[k0,k1,k2,k3,some (.builtin "ValueError.__new__"),k5]:=hs;subst hs;exact⟨bm,ns,nm,qn,bs,hd,sn,sub,ab,col,dd,k0,k1,k2,k3,k5,_,X _ _ ho,.of_isNs (isNs_of_in X Y),nsMap_none_of_in X Y (jP.mp z6),tail_of_in X z4⟩
theorem Eh{np bU:Pos}{e:Expr}{te:TE}(xc:mX K C)(hm:mg x=some (.ref C))(he:PE (o8 P w K mg base N b_ scope f cd A outer s0 H0 E) e te)(hg:Gl (o8 P w K mg base N b_ scope f cd A outer s0 H0 E) x:=by rfl)
 (hs:starEach [e] (envOfC b_ scope s0.heap.objs.size f cd)=[(false,eval e (envOfC b_ scope s0.heap.objs.size f cd))]:=by rfl) (hd:(x == ("__debug__":Str))=false:=by decide) :
 PS (o8 P w K mg base N b_ scope f cd A outer s0 H0 E) (.Raise (some (.Call (.Name x np) [e] [] bU)) none pos) (λ_ Z H=>te Z H λv H1=>[v].length<=1/\E (.ref C) none H1):=by
 intro a_ s Z H D I h;obtain⟨bm,Nn,nm,q,bs,hdct,sn,sub,ab,col,dd,k0,k1,k2,k3,k5,mN,hC,hN,a1,T⟩:=ac5 I.mod.kin xc;have hh:(A.deeper (envOfC b_ scope s0.heap.objs.size f cd)).handled=none:=I.ok.hd rfl;refine wpAny_Raise_call_subT (C:=C) (nm:=nm) (q:=q) (N:=Nn) (bs:=bs) (bm:=bm) (hdct:=hdct) (sn:=sn) (sub:=sub) (ab:=ab) (col:=col) (dd:=dd) (k0:=k0) (k1:=k1) (k2:=k2) (k3:=k3) (k5:=k5)
  asm (mN:=mN) (T.hasType asm.hasBase) hh (by show(backTo bU (starEach [e] (envOfC b_ scope s0.heap.objs.size f cd))).any (·.1)=false;rw[hs];rfl) a1 (rP I hg hm ⟨rfl,?_⟩ hd)
 have ha:PA (o8 P w K mg base N b_ scope f cd A outer s0 H0 E) [e] (f9 te eg):=hX he dE hs;have J:=ha bU a_ s Z H (λvs H1=>vs.length<=1/\E (.ref C) none H1) I h;have J:wpAny (model P w) (A.deeper (envOfC b_ scope s0.heap.objs.size f cd)) (spliced (backTo bU (starEach [e] (envOfC b_ scope s0.heap.objs.size f cd)))) (AP (o8 P w K mg base N b_ scope f cd A outer s0 H0 E) a_ Z (λvs H1=>vs.length<=1/\E (.ref C) none H1)) (o8 P w K mg base N b_ scope f cd A outer s0 H0 E).xe s:=J;show wpAny (model P w) (A.deeper (envOfC b_ scope s0.heap.objs.size f cd)) (evalArgs (.ref C) true (backTo bU (starEach [e] (envOfC b_ scope s0.heap.objs.size f cd))) []) _ _ s;rw[hs]at J ⊢;refine Co (dH J (λus G z=>?_) λ_ _ y=>y);obtain⟨vs,H1,j,rv,l1,q1⟩:=z;have hl:us.length<=sizeLine:=by
  rw[<-rv.length];exact cR l1 (by decide)
 refine⟨rfl,hl,j.bk _ _ hC,hN.keeps j.bk,T.keeps j.bk,λh' a U=>?_⟩;have Y:s0.heap.get? a=none:=by
  cases z:s0.heap.get? a with
  | none=>rfl
  | some o=>
   obtain⟨o',y⟩:=j.base.there a o z (λz=>nomatch z);rw[U.new]at y;cases y
 refine wpAny_leaves_madeW (base:=hideAll G.heap (bR (envOfC b_ scope s0.heap.objs.size f cd::outer))) (L:=(envOfC b_ scope s0.heap.objs.size f cd).locals) (h:=G.heap) j.ok.frames rfl (λb o z=>of_hideAll _ z)
  (funFrames_hide j.stack λenv a0 b O=>vT.mpr ⟨env,a0,O⟩) U λh2 t x1 x2 x3 x4=>?_
 refine L4 (g':=G.gens) (d':=G.drawn) (t':=G.toks) j rfl rfl rfl ⟨λb o z _ nb=>hideAll_get _ z nb,x1.1,λb o z O=>?_⟩ Y x1 j.bare q1;obtain⟨o1,e1,n1⟩:=j.nofld O;rw[z]at e1;cases e1;exact x4 b o (U.keeps _ _ z) n1
end
section
variable {X:Cx}{a_:Po}{Z:St}{H:Hp}{s:Shared}
theorem Al{M:Model}{A:Around}{E:VP}{i:Nat}{Q:Unit->Shared->Prop}(I:Inv X a_ Z H s)(hN:X.N.Nodup)(hi:X.N[i]?=some x)(hk:X.env.kindOf x=some .local)
 (h:∀s',Inv X a_ (Z.set i none) H s'->Q () s'):wpAny M A (do bindName X.env x .none;unbindBehindTheSuite X.env x pos) Q E s:=by
 obtain⟨m,U,hl⟩:=id I.loc;have CT:(X.env.scope.kind == .class || (X.env.scope.kind == .module && X.env.locals != X.env.globals))=false:=by rw[I.ok.kind];rfl
 have cne:=I.cne;refine wpAny_nameGoes_keeps hk U CT λh' v iu hs=>?_;obtain⟨oL,_,_,jq,_⟩:=id U;have old:∀{b:Addr}{o:Obj},X.s₀.heap.get? b=some o->b≠X.env.locals:=λe=>cg (gB (bi e) I.ok.above);refine h _ ⟨I.ok,I.os,I.bare,⟨λb o e n J G=>(hs.2 b (old e)).trans (I.base.keep b o e n J G),λb o e n J G=>?_,I.base.free,λb o e G=>?_,I.base.tups,I.base.frzs,I.base.tbls⟩,⟨_,iu,λj y v' e1 e2 e3=>?_⟩,λy c e=>?_,I.free,I.freeC,λp hp=>?_,λb ob e=>?_,by simpa using I.len⟩
 . obtain⟨sl,e1⟩:=I.base.slot b o e n J G;exact⟨sl,(hs.2 b (old e)).trans e1⟩
 . obtain⟨o',e1⟩:=I.base.there b o e G;exact⟨o',(hs.2 b (old e)).trans e1⟩
 . by_cases O:j=i
   . subst O;have zu:j<Z.length:=by rw[I.len];exact(dB.mp hi).1
     rw[UP zu]at e2;cases e2
   rw[UQ (gj O)]at e2;obtain⟨u',r',q⟩:=hl j y v' e1 e2 e3;refine⟨u',r',?_⟩
   rcases q with⟨k,e⟩ | ⟨k,c,e,z⟩
   . have ne:y≠x:=λe=>O (CS hN e1 (e▸hi));exact .inl ⟨k,by simp[ne,e]⟩
   exact .inr ⟨k,c,e,z.sameBut hs (cne y c e)⟩
 . obtain⟨Y,z⟩:=I.cell y c e;exact⟨Y,z.sameBut hs (cne y c e)⟩
 . obtain⟨e,n,ne,nf,d⟩:=I.pin p hp;exact⟨(hs.2 p.1 ne).trans e,n,ne,nf,d⟩
 refine(I.hok b ob e).stay (λc Y hc q=>(hs.2 c ?_).trans q) (λ_ q=>q) λ_ _ q=>q;rintro rfl
 rcases hc with rfl | hc
 . rw[I.free]at e;cases e
 rw[I.free]at hc;cases hc
abbrev Cx.tr (X:Cx) (XE:VP) (pn:Po):Cx:={ X with xe:=XE,pn:=X.pn++pn }
abbrev Cx.exs (X:Cx) (a:Addr):Cx:={ X with A:=X.A.mark (some (.ref a)),calm:=false,xe:=λ_ _=>False }
theorem Inv.tr(I:Inv X a_ Z H s)(j:VP):Inv (X.tr j a_) [] Z H s:=
 ⟨⟨I.ok.mod,I.ok.kind,I.ok.glob,I.ok.blt,I.ok.above,I.ok.inj,I.ok.has,I.ok.cab,I.ok.hd,I.ok.frames,I.ok.stk,I.ok.exf,I.ok.bs,I.ok.bsz,I.ok.noex,I.ok.exfs,I.ok.funs,I.ok.frf⟩,I.os,I.bare,I.base,I.loc,I.cell,I.free,I.freeC,λp z=>I.pin p (by simpa using z),I.hok,I.len⟩
theorem Inv.untr{j:VP}{ps:Po}(I:Inv (X.tr j a_) ps Z H s):Inv X a_ Z H s:=
 ⟨⟨I.ok.mod,I.ok.kind,I.ok.glob,I.ok.blt,I.ok.above,I.ok.inj,I.ok.has,I.ok.cab,I.ok.hd,I.ok.frames,I.ok.stk,I.ok.exf,I.ok.bs,I.ok.bsz,I.ok.noex,I.ok.exfs,I.ok.funs,I.ok.frf⟩,I.os,I.bare,I.base,I.loc,I.cell,I.free,I.freeC,λp z=>I.pin p (yK _ z),I.hok,I.len⟩
theorem Inv.exs(I:Inv X a_ Z H s)(a:Addr):Inv (X.exs a) a_ Z H s:=
 ⟨⟨I.ok.mod,I.ok.kind,I.ok.glob,I.ok.blt,I.ok.above,I.ok.inj,I.ok.has,I.ok.cab,λz=>(nomatch z),I.ok.frames,I.ok.stk,I.ok.exf,I.ok.bs,I.ok.bsz,I.ok.noex,I.ok.exfs,I.ok.funs,I.ok.frf⟩,I.os,I.bare,I.base,I.loc,I.cell,I.free,I.freeC,I.pin,I.hok,I.len⟩
theorem Inv.unexs(ok:X.Ok)(I:Inv (X.exs a) a_ Z H s):Inv X a_ Z H s:=⟨ok,I.os,I.bare,I.base,I.loc,I.cell,I.free,I.freeC,I.pin,I.hok,I.len⟩
theorem SP.untr{j:VP}{ps:Po}{D:Ends}{f:Flow}{s':Shared}(h:SP (X.tr j a_) ps D f s'):SP X a_ D f s':=by
 cases f with
 | next=>obtain⟨σ',H',I,q⟩:=h;exact⟨σ',H',I.untr,q⟩
 | brk=>obtain⟨σ',H',I,q⟩:=h;exact⟨σ',H',I.untr,q⟩
 | cont=>obtain⟨σ',H',I,q⟩:=h;exact⟨σ',H',I.untr,q⟩
 | ret u=>obtain⟨v,σ',H',I,r,q⟩:=h;exact⟨v,σ',H',I.untr,r,q⟩
end
def Am(CX:hZ)(X:Cx)(E:St->XK):Prop:=∀(a_:Po) (Z:St) (H:Hp) (s:Shared) (e:Value) (s':Shared),Inv X a_ Z H s->CX X.stack H s (E Z) e s'->X.xe e s'
section
variable {X:Cx}{CX:hZ}{k:Nat}{f:Addr}{fd:Fy}{ps:Ls}{sp:Sp}{cH:Lv}{ds:Lw}{E:St->XK}{m:Str}{p apos:Pos}{e o:Expr}{es:List Expr}{ta:TE}{t:TA}
theorem ac9{a_:Po}{Z:St}{H:Hp}{s:Shared}{Q:VK}{us:Lw}{vs:Lv}(F:au X.prog X.w X.K X.mg X.base CX k f fd ps sp)(O:bT k X.A)(G:Binds X.K fd ps ds)(hd:aX cH ds)(U:Am CX X E)
 (I:Inv X a_ Z H s) (r:aX vs us) (h:sp (vs++cH) H Q (E Z)):wpAny (model X.prog X.w) X.A (call (.ref f) us) (EP X a_ Z Q) X.xe s:=by
 have z:aX (vs++cH) (us++ds):=r.append hd;have J:(us++ds).length=ps.length:=by rw[<-z.length];exact F.len _ _ _ _ h
 refine Cg (qh (F.run X.A X.stack s H ⟨us,[]⟩ (us++ds) (vs++cH) Q (E Z) O I.env0 (G s us I.kIn J) z h) λr s' j=>?_);cases r with
 | error e=>exact U a_ Z H s e s' I j
 | ok fl=>
  cases fl with
  | ret u=>exact I.after j
  | next=>exact False.elim j
  | brk=>exact False.elim j
  | cont=>exact False.elim j
def ada(C:Addr)(m:Str)(sp:Sp)(cH:Lv)(E:St->XK)(ta:TE)(t:TA):TE:=λZ H Q=>Dq C m sp cH (E Z) ta t Z H Q
theorem Ei{pl:Sem Bool}(he:PE X o ta)(c:hJ X.K C)(G:ww X.K C m f)(F:au X.prog X.w X.K X.mg X.base CX k f fd ps sp)(hr:bT k X.A)(hb:Binds X.K fd ps ds)(hd:aX cH ds)(hx:Am CX X E)(ha:PA X (e::es) t)
 (eO:starEach (e::es) X.env=(false,eval e X.env)::starEach es X.env:=by rfl) (Y:(backTo pos (starEach es X.env)).any (·.1)=false:=by rfl)
 (ht:eval (.Call (.Attribute o m apos) (e::es) [] pos) X.env=(do
  let J <-eval o X.env
  standAt apos.atName
  let (f,first) <-holding [J] (getMethod J m pl)
  callWith pos f first (backTo pos (starEach (e::es) X.env)) (backToKw pos (keywordEach [] X.env))):=by rfl) :
 PE X (.Call (.Attribute o m apos) (e::es) [] pos) (ada C m sp cH E ta t):=by
 intro a_ s Z H Q I h;refine UV (pl:=pl) (thn (he a_ s Z H _ I h) λu s1 O=>aN O λx H1 j rx zz=>?_) ht;obtain @⟨a,dx,fs,ea,l,q⟩:=zz;obtain rfl:u=Value.ref a:=rx;refine Dn j ea c G l ?_;refine IF (first:=[.ref a]) (h₀:=X.base) I.ok.mod.kin G.kp (thn (ha pos a_ s1 Z H1 _ j q) λus s2 U=>aN U λvs H2 z r q2=>⟨z.kIn,?_⟩) eO Y;exact ac9 (us:=.ref a::us) (vs:=.ref a::vs) F hr hb hd hx z (.cons rfl r) q2
end
section
variable {X:Cx}
def L7(K:Fg)(M:Addr)(i:Nat)(j:TS)(D:Ends):St->XK:=λZ c _ H=>exmOne K c (.ref M)=some true/\∀a,H a=none ->
 j { nx:=λσ2 H2=>D.nx (σ2.set i none) H2,rt:=D.rt,bk:=λσ2 H2=>D.bk (σ2.set i none) H2,ct:=λσ2 H2=>D.ct (σ2.set i none) H2 } (Z.set i (some (.ref a))) (ae H a (iP a c))
theorem L8{i:Nat}{M:Addr}{n:Str}{body:List Stmt}{b0:Stmt}{sZ:List Stmt}{np tm:Pos}{tb:(St->XK)->TS}{ts:TS}(nd:X.N.Nodup)(hi:X.N[i]?=some n)(hl:X.env.kindOf n=some .local)
 (eO:X.stack=X.env::X.outer) (ji:X.env.frame=some X.env.locals) (hm:X.mg x=some (.ref M)) (hg:Gl X x)
 (G:∀XE pn E,Am (eS X.prog X.w) (X.tr XE pn) E->bu (X.tr XE pn) body (tb E)) (hs:∀a,bu (X.exs a) (b0::sZ) ts) (gO:(x == ("__debug__":Str))=false:=by decide) :
 PS X (.Try body [.ExceptHandler (some (.Name x np)) (some n) (b0::sZ) tm] [] [] pos) (λD Z H=>tb (L7 X.K M i ts D) D Z H):=by
 intro a_ s Z H D I h;refine wpAny_Try_except ?_;refine dH (G (λe s₁=>wpAny (model X.prog X.w) X.A (noteFrame e X.env) (λ_ s₂=>wpAny (model X.prog X.w) X.A (setFlight e none) (λ_ s₃=>wpAny (model X.prog X.w) X.A (handleBy e X.env [.ExceptHandler (some (.Name x np)) (some n) (b0::sZ) tm]) (SP X a_ D) X.xe s₃) X.xe s₂) X.xe s₁)
  a_ (L7 X.K M i ts D) ?_ [] s Z H D (I.tr _) h) (λf s1 z=>?_) λ_ _ z=>z
 . intro ps σ1 H1 s1 e s' J hx;have J:=J.untr;obtain⟨a,c,H',B,a0,rfl,os,a1,un,hok,na,fl,big,Ak,j6⟩:=hx;have fl:Heap.FlyingW B (X.env::X.outer) a c a0 s'.heap:=eO▸fl;have Ej:X.A.frames=some (X.env::X.outer):=eO▸J.ok.frames;have un:Un (bR X.stack) [] H1 H' s1.heap s'.heap:=un;have big:∀b o,s'.heap.get? b=some o->((H' b).isSome=true\/∃o',s1.heap.get? b=some o')->b∉bR X.stack->B.get? b=some o:=big;have J0:=J.call' (ch:=[]) os un hok a1 (λb z=>nomatch z);have nf:∀b o,s'.heap.get? b=some o->b∈bR X.stack->∀vs,o.data≠.fields vs:=λb o e G=>by
    obtain⟨o1,e1,n1⟩:=J0.nofld G;rw[e]at e1;cases e1;exact n1
   refine wpAny_looks_onW Ej ji fl λh4 a4 Ek=>?_;refine wpAny_landsW a4 λh5 qK El=>?_;have f5:k8 X.stack B H' s1.heap s'.heap h5:=⟨big,qK.1,λb o e G=>(Ek.trans El) b o e (nf b o e G)⟩;have J5:Inv X a_ σ1 H' { s' with heap:=h5 }:=J.call' (ch:=[]) os (f5.un un (λ_ z=>.inl z) λ_ z=>z) (f5.hok hok J0.stkFree) a1 (λb z=>nomatch z);refine wpAny_handleBy_cons (asn ?_) (by intro q;cases q);refine rP (J5.exs a) hg hm ?_ gO;have LT:Looks (model X.prog X.w) h5 (typeOf (.ref a)) c:=by
    obtain⟨ob,o1,o2⟩:=qK.there;exact o2▸(Looks.ld o1).andThen .now
   refine(exm_one J5.kIn LT Ak).here ?_;refine codeAny_handlers_suite_as ?_;refine lands_againW qK λh6 wR Em=>?_;have f6:=f5.on wR.1 Em nf;have j:=f6.un un (λ_ z=>.inl z) λ_ z=>z;have a2:=f6.hok hok J0.stkFree;obtain⟨oe,a6,a7⟩:=wR.there;have Ef:a∉bR X.stack:=λz=>by
    obtain⟨o1,e1,n1⟩:=J.nofld z;rw[na]at e1;cases e1
   have uU:H' a=none:=by
    cases z:H' a with
    | none=>rfl
    | some u=>
     obtain⟨o1,e1⟩:=(hok a u z).obj;have:=big a o1 e1 (.inl (by rw[z];rfl)) Ef;rw[fl.2.1]at this;cases this
   have a9:Un (bR X.stack) [] H1 (ae H' a (iP a c)) s1.heap h6:=⟨j.keep,j.slot,λb o q n hx=>by rw[aE (λz=>by rw[z,na]at q;cases q)];exact j.free b o q n hx,j.there,
    λb xs q=>by rw[aE (aF (j.tups b xs q) uU)];exact j.tups b xs q,λb o u q=>by rw[aE (aF (j.frzs b o u q) uU)];exact j.frzs b o u q,λb ps q=>by
     obtain⟨a5,z⟩:=j.tbls b ps q;exact⟨a5,by rw[aE (aF z uU)];exact z⟩⟩
   have a3:bQ X.prog X.w (ae H' a (iP a c)) h6:=λb u q=>by
    by_cases G:b=a
    . subst G;rw[aw]at q;cases q;exact acX ⟨oe,a6,a7⟩
    rw[aE G]at q;exact(a2 b u q).stay (λ_ _ _ z=>z) (λd z=>by rw[aE (aF z uU)];exact z) λd xs z=>by rw[aE (aF z uU)];exact z
   have J6:Inv X a_ σ1 (ae H' a (iP a c)) { s' with heap:=h6 }:=J.call' (ch:=[]) os a9 a3 a1 (λb z=>nomatch z);refine CU J6 nd hi (Or.inl hl) (v:=.ref a) rfl (λs7 J7=>?_) (.inr hl);refine dH (hs a a_ s7 _ _ _ (J7.exs a) (j6 a uU)) (λf s8 z=>?_) λ_ _ z=>z.elim;cases f with
   | next=>
    obtain⟨σ8,H8,O,Y⟩:=z;exact Al (O.unexs J7.ok) nd hi hl λs9 U=>⟨_,H8,U,Y⟩
   | brk=>
    obtain⟨σ8,H8,O,Y⟩:=z;exact Al (O.unexs J7.ok) nd hi hl λs9 U=>⟨_,H8,U,Y⟩
   | cont=>
    obtain⟨σ8,H8,O,Y⟩:=z;exact Al (O.unexs J7.ok) nd hi hl λs9 U=>⟨_,H8,U,Y⟩
   | ret u=>
    obtain⟨v,σ8,H8,O,r8,Y⟩:=z;exact Al (O.unexs J7.ok) nd hi hl λs9 U=>⟨v,_,H8,U,r8,Y⟩
 have z:=z.untr;cases f with
 | next=>exact yL z
 | brk=>exact z
 | cont=>exact z
 | ret u=>exact z
end
theorem lQ.okR{K:Fg}{mg:Mv}{base:Heap}{b_:Str}{st:Stmt}{f:Addr}{fd:Fy}{N ps:Ls}{k:Nat}{sp:Sp}(F:lQ K x b_ st f fd)(S:aM N ps (aC st))(len:∀vs H Q E,sp vs H Q E->vs.length=ps.length)
 (U:∀(j:Value) (A:Around) (outer:List Env) (s:Shared) (H:Hp) (vs:Lv) (Q:VK) (E:XK),bT k (A.deeper (envOfC b_ (aC st) s.heap.objs.size f j))->sp vs H Q E ->
  ∃t,bu (o8 P w K mg base N b_ (aC st) f j A outer s H E) (gJ st) t/\t { nx:=λ_ H'=>Q .non H',rt:=Q } (start N vs) H):au P w K mg base (eS P w) (k+1) f fd ps sp:=by
 obtain⟨oc,od,kV,Y,pm,an,j,ct,iN,rfl,O,G⟩:=F.ex;exact Dt O G S len λA outer s H vs Q E z J=>U j A outer s H vs Q E z J
section
variable {X:Cx}
theorem En{H:Hp}{c:Value}(ok:bQ P w H h)(e:H a=some (iP a c)):∃o,h.get? a=some o/\o.cls=c:=(ok a _ e).1
theorem L9:eV X (.builtin "isinstance") (λxs H Q=>∃a C D b,xs=[.ref a,.ref D]/\H a=some (iP a (.ref C))/\mX X.K C/\kitOne X.K (.ref C) (.ref D)=some b/\Q (.bl b) H):=by
 intro a_ s Z H xs us Q I r h;obtain⟨a,C,D,b,rfl,e,O,k,q⟩:=h;obtain⟨u,J,rfl,j,G⟩:=vals2 r;cases (show u=Value.ref a from j);cases (show J=Value.ref D from G);exact kia_one (Ed O.c0) I.kIn (En I.hok e) k (by intro z;cases z) λtk=>⟨.bl b,H,I.tok tk,rfl,q⟩
theorem adi:eV X (.builtin "isinstance") (λxs H Q=>∃a C T b,xs=[.ref a,.ty T]/\H a=some (iP a (.ref C))/\mX X.K C/\kitOne X.K (.ref C) (.type T)=some b/\Q (.bl b) H):=by
 intro a_ s Z H xs us Q I r h;obtain⟨a,C,T,b,rfl,e,O,k,q⟩:=h;obtain⟨u,J,rfl,j,G⟩:=vals2 r;cases (show u=Value.ref a from j);cases (show J=Value.type T from G);exact kia_one (Ed O.c0) I.kIn (En I.hok e) k (by intro z;cases z) λtk=>⟨.bl b,H,I.tok tk,rfl,q⟩
theorem lV:∀{Ds:List Addr}{us:Lw},aX (Ds.map V.ref) us->us=Ds.map Value.ref
 | [],_,.nil=>rfl
 | D::Ds,_,.cons r t=>by
  rw[bp,lV t]
  congr 1
theorem Ma:eV X (.builtin "isinstance") (λxs H Q=>∃(a C j:Addr) (Ds:List Addr) (b:Bool),xs=[.ref a,.ref j]/\H a=some (iP a (.ref C))/\H j=some (.tup (Ds.map V.ref))/\mX X.K C/\kitAny X.K (.ref C) (Ds.map Value.ref)=some b/\Q (.bl b) H):=by
 intro a_ s Z H xs us Q I r h;obtain⟨a,C,j,Ds,b,rfl,e,J,xc,k,q⟩:=h;obtain⟨u,u2,rfl,O,U⟩:=vals2 r;cases (show u=Value.ref a from O);cases (show u2=Value.ref j from U);obtain⟨_,c_,Y,ob,e1,c1,n1,d1⟩:=I.hok j _ J;obtain⟨oc,od,G,iN⟩:=ob;have c1:oc=.type "tuple":=c1;have d1:G=.seq c_.toArray n1:=d1;subst c1 d1;rw[lV Y]at e1;exact kia_tup (Ed xc.c0) I.kIn (En I.hok e) e1 k (by intro z;cases z) λtk=>⟨.bl b,H,I.tok tk,rfl,q⟩
def An(K:Fg)(H:Hp)(p q:aq×V):Prop:=p.1=q.1/\∃d,DV K H p.2 d/\DV K H q.2 d/\W.kqdOk 9 d=true
theorem adk{kvs:List (aq×V)}(nd:(kvs.map (·.1)).Nodup){k:aq}{v:V}(h:(k,v)∈kvs):bJ kvs k=some v:=by
 induction kvs with
 | nil=>cases h
 | cons p r j=>
  rw[bp,i5]at nd
  rcases bc.mp h with e | h
  . subst e;exact jv rfl
  rw[jg λe=>nd.1 (by rw[e];exact gE (f:=(·.1)) h)];exact j nd.2 h
end
end
section
variable {α β:Type}{n:Nat}{f:Nat->Nat->Bool}{s:Shared}{b:Bool}{ks:Ll}
def pe(n:Nat)(f:Nat->Nat->Bool):W.KasT α->Option α
 | .ret a=>some a
 | .ask i j k=>if (decide (i<n) && decide (j<n) && decide (i≠j))=true then pe n f (k (f i j)) else none
theorem Mb{z:Nat->Nat->(Bool->Shared->Prop)->Shared->Prop}(G:∀i j C,i<n->j<n->i≠j->C (f i j) s->z i j C s) :
 ∀(t:W.KasT α) {a:α},pe n f t=some a->∀{Q:α->Shared->Prop},Q a s->t.kasWp z Q s
 | .ret b,a,e,Q,q=>by
  cases e;exact q
 | .ask i j k,a,e,Q,q=>by
  unfold pe at e;split at e
  . rename_i h;simp only[gD,ux]at h;exact G i j _ h.1.1 h.1.2 h.2 (Mb G (k (f i j)) e q)
  cases e
theorem Mc{g:Nat->Nat->Bool}(h:∀i j,i<n->j<n->i≠j->f i j=g i j):∀t:W.KasT α,pe n f t=pe n g t
 | .ret b=>rfl
 | .ask i j k=>by
  unfold pe;split
  . rename_i q;simp only[gD,ux]at q;rw[h i j q.1.1 q.1.2 q.2];exact Mc h _
  rfl
def fb(a b c d e g:Bool)(i j:Nat):Bool:=
 match i,j with
 | 0,1=>a
 | 1,0=>!a
 | 0,2=>b
 | 2,0=>!b
 | 0,3=>c
 | 3,0=>!c
 | 1,2=>d
 | 2,1=>!d
 | 1,3=>e
 | 3,1=>!e
 | 2,3=>g
 | 3,2=>!g
 | _,_=>false
def lW(f:Nat->Nat->Bool):List Nat->Bool
 | []=>true
 | [_]=>true
 | x::y::r=>f x y && lW f (y::r)
def wS(n:Nat)(f:Nat->Nat->Bool):Bool:=
 match pe n f (W.kas_sort n) with
 | none=>false
 | some p=>p.toList.isPerm (List.range n) && lW f p.toList
def Ao(n:Nat)(f:Nat->Nat->Bool):Bool:=
 (List.range n).all λi=>(List.range n).all λj=>(List.range n).all λk=>!(f i j && f j k && decide (i≠k)) || f i k
theorem adl:∀a b c d e g:Bool,wS 2 (fb a b c d e g)=true:=by decide +kernel
theorem adm:∀a b c d e g:Bool,Ao 3 (fb a b c d e g)=true->wS 3 (fb a b c d e g)=true:=by decide +kernel
theorem adn:∀a b c d e g:Bool,Ao 4 (fb a b c d e g)=true->wS 4 (fb a b c d e g)=true:=by decide +kernel
theorem Me{a c d e g:Bool}(i:Nat):fb a b c d e g i i=false:=by
 match i with
 | 0=>rfl
 | 1=>rfl
 | 2=>rfl
 | 3=>rfl
 | n+4=>rfl
theorem Mf{i:Nat}(h:i<n)(j:n<=4):i=0\/i=1\/i=2\/i=3:=by omega
theorem Mg{g:Nat->Nat->Bool}(h:∀i j,i<n->j<n->i≠j->f i j=g i j):∀l:List Nat,(∀x∈l,x<n)->l.Nodup->lW g l=true->lW f l=true
 | [],_,_,_=>rfl
 | [_],_,_,_=>rfl
 | x::y::r,hm,hd,e=>by
  unfold lW at e ⊢;rw[gD]at e ⊢;have G:=i5.mp hd;refine⟨?_,Mg h (y::r) (λz hz=>hm z (bL _ hz)) G.2 e.2⟩;rw[h x y (hm x bA) (hm y (bL _ bA)) λq=>G.1 (q▸bA)];exact e.1
theorem ado(h2:2<=n)(h4:n<=4)(wT:∀i j,i<n->j<n->i≠j->f i j = !f j i)(tr:∀i j k,i<n->j<n->k<n->f i j=true->f j k=true->f i k=true) :
 ∃p:Array Nat,pe n f (W.kas_sort n)=some p/\p.toList.Perm (List.range n)/\lW f p.toList=true:=by
 have J:∀i j,i<n->j<n->i≠j->f i j=fb (f 0 1) (f 0 2) (f 0 3) (f 1 2) (f 1 3) (f 2 3) i j:=by
  intro i j hi G cC
  rcases Mf hi h4 with rfl | rfl | rfl | rfl<;>rcases Mf G h4 with rfl | rfl | rfl | rfl<;>first | exact absurd rfl cC | rfl | exact wT _ _ hi G cC
 have tg:Ao n (fb (f 0 1) (f 0 2) (f 0 3) (f 1 2) (f 1 3) (f 2 3))=true:=by
  unfold Ao;rw[eT];intro i hi;rw[eT];intro j G;rw[eT];intro k O;have hi:=iK.mp hi;have G:=iK.mp G;have O:=iK.mp O
  by_cases Y:i=j
  . subst Y;rw[Me];rfl
  by_cases Mh:j=k
  . subst Mh;rw[Me,qi,vS];rfl
  by_cases Mi:i=k
  . subst Mi;rw[bM (λz=>z rfl),qi];rfl
  rw[<-J i j hi G Y,<-J j k G O Mh,<-J i k hi O Mi];cases e1:f i j with
  | false=>rfl
  | true=>
   cases e2:f j k with
   | false=>rfl
   | true=>
    rw[tr i j k hi G O e1 e2,Bool.or_true]
 have ok:wS n (fb (f 0 1) (f 0 2) (f 0 3) (f 1 2) (f 1 3) (f 2 3))=true:=by
  have h3:n=2\/n=3\/n=4:=by omega
  rcases h3 with rfl | rfl | rfl
  . exact adl _ _ _ _ _ _
  . exact adm _ _ _ _ _ _ tg
  exact adn _ _ _ _ _ _ tg
 unfold wS at ok;rw[<-Mc J]at ok;cases e:pe n f (W.kas_sort n) with
 | none=>rw[e]at ok;cases ok
 | some p=>
  rw[e]at ok;have ok:(p.toList.isPerm (List.range n) && lW (fb (f 0 1) (f 0 2) (f 0 3) (f 1 2) (f 1 3) (f 2 3)) p.toList)=true:=ok;rw[gD]at ok;have U:=List.isPerm_iff.mp ok.1;exact⟨p,rfl,U,Mg J _ (λx hx=>iK.mp (U.mem_iff.mp hx)) (U.nodup_iff.mpr List.nodup_range) ok.2⟩
theorem Mj:∀x:List Int,HT.lexLt x x=false
 | []=>rfl
 | a::x=>by
  rw[HT.qx,ai rfl];exact Mj x
theorem Ap:∀x y:List Int,x≠y->HT.lexLt x y = !HT.lexLt y x
 | [],[],h=>absurd rfl h
 | [],_::_,_=>rfl
 | _::_,[],_=>rfl
 | a::x,b::y,h=>by
  rw[HT.qx,HT.qx]
  by_cases e:a=b
  . subst e;rw[ai rfl,ai rfl];exact Ap x y λq=>h (by rw[q])
  rw[af e,af (λq=>e q.symm)]
  by_cases l:a<b
  . rw[bw l,bM (by omega)];rfl
  rw[bM l,bw (by omega)];rfl
theorem wU:∀x y z:List Int,HT.lexLt x y=true->HT.lexLt y z=true->HT.lexLt x z=true
 | [],[],_,h,_=>by cases h
 | [],_::_,[],_,h=>by cases h
 | [],_::_,_::_,_,_=>rfl
 | _::_,[],_,h,_=>by cases h
 | _::_,_::_,[],_,h=>by cases h
 | a::x,b::y,c::z,h1,h2=>by
  rw[HT.qx]at h1 h2 ⊢
  by_cases e1:a=b
  . subst e1;rw[ai rfl]at h1
    by_cases e2:a=c
    . subst e2;rw[ai rfl]at h2 ⊢;exact wU x y z h1 h2
    rw[af e2]at h2 ⊢;exact h2
  rw[af e1]at h1;have j:=cq h1
  by_cases e2:b=c
  . subst e2;rw[af e1];exact h1
  rw[af e2]at h2;have G:=cq h2;rw[af (by omega)];exact bw (by omega)
section
variable {prog:Program}{w:World}{A:Around}{E:VP}
theorem adp{Q:Bool->Shared->Prop}{xs:Lw}{is:List Int}(G:IntsAre xs is):∀{ys:Lw}{js:List Int} (i:Nat),IntsAre ys js->Q (HT.lexLt is js) s ->
 W.KatLex prog w A b (decide (is.length<js.length)) Q (xs.zip ys) i s:=by
 induction G with
 | nil=>
  intro ys js i j q;cases j with
  | nil=>exact Vq q
  | cons c u j=>
   refine Vq (show Q (decide _) s from ?_);rw[bw (by rw[gk,bq];exact IT _)];exact q
 | cons a t G J=>
  intro ys js i j q;cases j with
  | nil=>
   refine Vq (show Q (decide _) s from ?_);rw[bM (by rw[gk];exact uy _)];exact q
  | cons c u j=>
   rename_i xs is ys js;rw[HT.qx]at q;refine W.kat_cons (wpAny_eqBool_int (W.kat_go (λe=>W.kat_yes ?_) λe=>W.kat_no ?_))
   . have e:=eq_of_beq e;rw[ai e]at q;have z:decide ((a::is).length<(c::js).length)=decide (is.length<js.length):=by
      rw[bq,bq];exact yQ.mpr Nat.succ_lt_succ_iff
     rw[z];exact J (i+1) j q
   have e:a≠c:=λz=>by
    rw[z,Cv]at e;cases e
   rw[af e]at q;cases O:(b && i == 0) with
   | true=>exact oneLt_int q
   | false=>exact W.kat_one _ _ (HT.Kp _ _ _ _ _ _ _ _ _ _ q)
def lX(h:Heap)(v:Value)(is:List Int):Prop:=∃a o xs n,v=.ref a/\h.get? a=some o/\o.cls=.type "tuple"/\o.data=.seq xs n/\IntsAre xs.toList is/\is≠[]
theorem adq{Q:Bool->Shared->Prop}{x y:Value}{is js:List Int}(J:lX s.heap x is)(O:lX s.heap y js)(q:Q (HT.lexLt is js) s):wpAny (model prog w) A (keyLt' (tuples' b) x y) Q E s:=by
 obtain⟨ax,ox,xs,n,rfl,x1,x2,U,j,_⟩:=J;obtain⟨ay,oy,ys,k,rfl,Y,y2,y3,G,_⟩:=O;refine W.kat_lt x1 U Y y3 ?_;have e1:=j.length;have e2:=G.length;have z:decide (xs.size<ys.size)=decide (is.length<js.length):=by
  rw[<-e1,<-e2,dJ,dJ]
 rw[z];exact adp j 0 G q
theorem lX.keep{h h':Heap}{v:Value}{is:List Int}(t:lX h v is)(k:∀b o,h.get? b=some o->o.cls=.type "tuple"->h'.get? b=some o):lX h' v is:=by
 obtain⟨a,o,xs,n,e,h1,h2,j,z⟩:=t;exact⟨a,o,xs,n,e,k a o h1 h2,h2,j,z⟩
theorem adr{h:Heap}:∀{vs:Lw}{ks:Ll},Paired (lX h) vs ks->∃fs:Lw,W.KatTups h vs fs/\fs.length=vs.length/\∀v∈fs,∃(i:Int) (t:Tok),v=.int i t:=by
 intro vs ks p
 induction p with
 | nil=>exact⟨[],trivial,rfl,λ_ h=>nomatch h⟩
 | cons x p O=>
  obtain⟨fs,h1,h2,J⟩:=O;obtain⟨a,o,xs,n,rfl,x1,U,Y,j,x5⟩:=x;cases G:xs.toList with
  | nil=>
   rw[G]at j;cases j;exact absurd rfl x5
  | cons f r=>
   rw[G]at j;cases j with
   | cons i t z=>
    refine⟨.int i t::fs,W.KatTups.cons x1 U Y (by rw[<-mC,G];rfl) h1,by rw[bq,bq,h2],λv hv=>?_⟩
    rcases bc.mp hv with rfl | hv
    . exact⟨i,t,rfl⟩
    exact J v hv
theorem Ep{R:α->β->Prop}:∀{xs:List α}{ys:List β},Paired R xs ys->∀i,i<xs.length->∀(d:α) (e:β),R (xs.getD i d) (ys.getD i e):=by
 intro xs ys p
 induction p with
 | nil=>exact λi h=>absurd h (uy _)
 | cons x p j=>
  intro i hi d e;cases i with
  | zero=>exact x
  | succ i=>exact j i (Nat.lt_of_succ_lt_succ hi) d e
theorem ads{vs:Lw}:(List.range vs.length).map (λi=>vs.getD i Value.none)=vs:=by
 apply Vr
 . rw[ah,mE]
 intro i h1 h2;rw[List.getElem_map,List.getElem_range,uz,fo h2];rfl
theorem Es{R:α->β->Prop}{xs:List α}{ys:List β}(p:Paired R xs ys):xs.length=ys.length:=by
 induction p with
 | nil=>rfl
 | cons _ _ j=>rw[bq,bq,j]
def fK(ks:Ll)(i j:Nat):Bool:=HT.lexLt (ks.getD i []) (ks.getD j [])
theorem adt(nd:ks.Nodup){i j:Nat}(hi:i<ks.length)(G:j<ks.length)(h:i≠j):ks.getD i []≠ks.getD j []:=by
 rw[uz,uz,fo hi,fo G];exact λz=>h ((List.getElem_inj nd).mp z)
theorem adu{a:Addr}{vs:Lw}{P:PySem.Fin->Shared->Prop}(J:s.heap.get? a=some (seqObj "list" vs.toArray n))(hk:Paired (lX s.heap) vs ks)(h4:vs.length<=4)(nd:ks.Nodup)
 (h:∀p:List Nat,p.Perm (List.range vs.length)->lW (fK ks) p=true->P (.done (.ret .none)) { s with heap:=sortedHeap s.heap a vs (p.map λi=>vs.getD i Value.none).toArray }) :
 wpAny (model prog w) A (Builtin.«list.sort» ⟨[.ref a],[]⟩) P E s:=by
 have a5:a<s.heap.objs.size:=bi J;have Ml:vs.length=ks.length:=Es hk;rw[list_sort_plain];obtain⟨ep,Mn⟩:∃ep,(s.heap.update a (Obj.mapSeq λ_=>(#[]:Av))).get? a=some (seqObj "list" #[] ep):=⟨_,Vs J (λ_=>#[])⟩;refine aa (listItems_at J rfl ?_);refine aa (Vt J rfl ?_);refine aa (seqEpoch_at Mn rfl ?_);refine aa (wpAny_newTuple ?_);refine aa (Cz ?_);refine iJ ?_;have O:(((s.heap.update a (Obj.mapSeq λ_=>(#[]:Av))).push (seqObj "tuple" vs.toArray 0)).push (seqObj "list" #[] 0)).get? a=some (seqObj "list" #[] ep):=
  bB _ (bB _ Mn)
 have kp:∀b o,s.heap.get? b=some o->o.cls=.type "tuple"->(((s.heap.update a (Obj.mapSeq λ_=>(#[]:Av))).push (seqObj "tuple" vs.toArray 0)).push (seqObj "list" #[] 0)).get? b=some o:=λb o e c=>by
  have hb:b≠a:=λz=>by
   rw[z,J]at e;cases e;exact absurd (show Value.type "list"=Value.type "tuple" from c) (by decide)
  refine bB _ (bB _ ?_);rw[Heap.get?_update_ne _ _ _ _ hb];exact e
 have U:Paired (lX (((s.heap.update a (Obj.mapSeq λ_=>(#[]:Av))).push (seqObj "tuple" vs.toArray 0)).push (seqObj "list" #[] 0))) vs ks:=aB hk λ_ _ t=>t.keep kp;have e7:∀out:Av,sortedHeap s.heap a vs out=(((s.heap.update a (Obj.mapSeq λ_=>(#[]:Av))).push (seqObj "tuple" vs.toArray 0)).push (seqObj "list" #[] 0)).update a (Obj.mapSeq λ_=>out):=λ_=>rfl;show wpAny (model prog w) A _ P E { s with heap:=(((s.heap.update a (Obj.mapSeq λ_=>(#[]:Av))).push (seqObj "tuple" vs.toArray 0)).push (seqObj "list" #[] 0)) };simp only[e7]at h;generalize ((s.heap.update a (Obj.mapSeq λ_=>(#[]:Av))).push (seqObj "tuple" vs.toArray 0)).push (seqObj "list" #[] 0)=h6 at O U h ⊢;dsimp only
 by_cases h2:vs.toArray.size<2
 . have ph:vs.length<2:=h2;rw[ai h2,ai h2];refine aa (aj ?_);rw[StateT.run_pure];refine aa (aj ?_);dsimp only;have eo:(arrOf (SortSt.mk' general' (vs.toArray.zip vs.toArray) #[] 7 none)).map (·.2)=vs.toArray:=by
    show(vs.toArray.zip vs.toArray).map (·.2)=vs.toArray;apply IU.mp;rw[Array.toList_map,Array.toList_zip];exact List.map_snd_zip (aD _)
   rw[eo];refine aa (seqEpoch_at O rfl ?_);refine aa (Vt O rfl ?_ (hsz2:=by show vs.length<=_;rw[qf];omega));simp only[bne_self_eq_false,iI,kI];have q:=h (List.range vs.length) (List.Perm.refl _) (by
    have:vs.length=0\/vs.length=1:=by omega
    rcases this with z | z<;>rw[z]<;>rfl)
   rw[ads]at q;exact aj q
 have ph:2<=vs.length:=U9 h2;rw[af h2,af h2];obtain⟨fs,t1,t2,t3⟩:=adr U;refine aa (W.kat_kind (T:=.type "int") t1 (by omega) (λv hv=>?_) rfl ?_)
 . obtain⟨i,t,rfl⟩:=t3 v hv;exact .of_pure rfl
 obtain⟨p,hr,hp,uV⟩:=ado ph h4 (f:=fK ks) (λi j hi hj cC=>Ap _ _ (adt nd (Ml▸hi) (Ml▸hj) cC)) (λi j k _ _ _=>wU _ _ _);have a0:p.size=vs.length:=by
  have:=hp.length_eq;rw[mE,dJ]at this;exact this
 have run:(W.kas_sort vs.length).kasWp (W.kas_ask prog w A (tuples' (Value.type "int" != Value.type "tuple")) vs) (λp' s'=>p'=p/\s'={ s with heap:=h6 }) { s with heap:=h6 }:=
  Mb (n:=vs.length) (f:=fK ks) (λi j C hi hj _ c=>adq (Ep U i hi _ _) (Ep U j hj _ _) c) _ hr ⟨rfl,rfl⟩
 refine aa (dH (W.kat_run (Q:=λY s'=>arrOf Y=p.map (W.kas_item (vs.toArray.zip vs.toArray))/\failedOf Y=none/\s'={ s with heap:=h6 }) (G:=λp' s'=>p'=p/\s'={ s with heap:=h6 }) rfl ph (by omega)
  (λp' Y s' a1 a2 a3 a4=>⟨a4.1▸a2,a3,a4.2⟩) run) ?_ λ_ _ e=>e)
 rintro⟨⟨⟩,Y⟩ s' ⟨har,hf,rfl⟩;dsimp only;rw[W.kat_snds rfl har];refine aa (seqEpoch_at O rfl ?_);refine aa (Vt O rfl ?_ (hsz2:=by show(p.toList.map _).length<=_;rw[ah,dJ,a0,qf];omega));rw[hf];simp only[bne_self_eq_false,iI,kI];exact aj (h p.toList hp uV)
theorem adx{r:Addr}{Q:VP}(wP:wpAny (model prog w) A.in1 (collect (.ref r)) (λus s'=>∃(ks:Ll) (h':Heap) (tk:Nat),s'={ s with heap:=h',toks:=tk }/\Paired (lX h') us ks/\us.length<=4/\ks.Nodup /\
 ∀(h2:Heap) (p:List Nat) (e:Nat),(∀b o,h'.get? b=some o->h2.get? b=some o)->h2.get? h'.objs.size=some (seqObj "list" (p.map λi=>us.getD i Value.none).toArray e)->p.Perm (List.range us.length)->lW (fK ks) p=true->Q (.ref h'.objs.size) { s with heap:=h2,toks:=tk }) E s) :
 wpAny (model prog w) A (call (.builtin "sorted") [.ref r]) Q E s:=by
 refine Va kind_sorted Vb Vc (Vd (.ref r)) ?_;unfold Builtin.«sorted»;refine aa (m:=checkCount "sorted" 1 1 _) (aj (aa (dH wP (λus s' z=>?_) λ_ _ e=>e)));obtain⟨ks,h',tk,rfl,hT,Y,nd,U⟩:=z;refine aa (Cz ?_ (by rw[qf];omega));have j:(h'.push (seqObj "list" us.toArray 0)).get? h'.objs.size=some (seqObj "list" us.toArray 0):=cT _ rfl;show wpAny _ _ _ _ _ { s with heap:=h'.push (seqObj "list" us.toArray 0),toks:=tk };have a0:Paired (lX (h'.push (seqObj "list" us.toArray 0))) us ks:=aB hT λ_ _ t=>t.keep λb o e _=>bB _ e;refine aa (iJ (lE Ve ⟨_,j,rfl⟩ Vf (adu j a0 Y nd λp J O=>⟨_,rfl,?_⟩) (Vg _)));obtain⟨e,he⟩:=Vh (vs:=us) (out:=(p.map λi=>us.getD i Value.none).toArray) j;refine aj ⟨_,rfl,U _ p e (λb o q=>?_) he J O⟩;have G:=bi q;rw[Vj (cg G) (by rw[qg];exact IM G)];exact bB _ q
end
def j7:Ll->Bool
 | []=>true
 | [_]=>true
 | x::y::r=>HT.lexLt x y && j7 (y::r)
theorem Mo:∀p:List Nat,j7 (p.map λi=>ks.getD i [])=lW (fK ks) p
 | []=>rfl
 | [_]=>rfl
 | x::y::r=>by
  show(HT.lexLt _ _ && j7 ((y::r).map λi=>ks.getD i []))=(fK ks x y && lW (fK ks) (y::r));rw[Mo (y::r)];rfl
theorem adz{d:α}{ks:List α}:(List.range ks.length).map (λi=>ks.getD i d)=ks:=by
 apply Vr
 . rw[ah,mE]
 intro i h1 h2;rw[List.getElem_map,List.getElem_range,uz,fo h2];rfl
theorem adA{d:α}{ks:List α}{p:List Nat}(j:p.Perm (List.range ks.length)):(p.map λi=>ks.getD i d).Perm ks:=by
 have h:=j.map λi=>ks.getD i d;rw[adz]at h;exact h
theorem Et{R:α->β->Prop}{xs:List α}{ys:List β}(h:Paired R xs ys)(d:α)(e:β):∀p:List Nat,(∀i∈p,i<xs.length)->Paired R (p.map λi=>xs.getD i d) (p.map λi=>ys.getD i e)
 | [],_=>.nil
 | i::p,hi=>.cons (Ep h i (hi i bA) d e) (Et h d e p λj z=>hi j (bL _ z))
theorem adB{γ:Type}{R:α->β->Prop}{S:α->γ->Prop}{T:β->γ->Prop}(h:∀x y z,R x y->S x z->T y z):∀{xs:List α}{ys:List β}{zs:List γ},Paired R xs ys->Paired S xs zs->Paired T ys zs:=by
 intro xs ys zs p
 induction p generalizing zs with
 | nil=>
  intro q;cases q;exact .nil
 | cons x p j=>
  intro q;cases q with
  | cons y q=>exact .cons (h _ _ _ x y) (j q)
def Eu(K:Fg)(H:Hp)(ys:Lv)(ks:Ll):Prop:=Paired (fun(y:V) (k:List Int)=>∃t,y=.ref t/\aP K H t (k.map V.int)/\k≠[]) ys ks
section
variable {X:Cx}
theorem Inv.tups{a_:Po}{Z:St}{H:Hp}(I:Inv X a_ Z H s){ys:Lv}{c_:Lw}(h:Eu X.K H ys ks)(r:aX ys c_):Paired (lX s.heap) c_ ks:=
 adB (R:=RelV) (λy v k J z=>by
  obtain⟨t,rfl,hs,j⟩:=z;cases J;obtain⟨is,G,p1,_⟩:=I.tuple hs;obtain⟨o,e1,c1,n,d1⟩:=p1;exact⟨t,o,is.toArray,n,rfl,e1,c1,d1,intsAre_of G,j⟩) r h
end
end
end L2
namespace HT
variable {α:Type}{i:Nat}
section
open PySem.SeqAt
open PySem.AutoSeq1 (wpAny_loadPart')
open PySem.MeetsSeq PySem.MeetsSeq2 PySem.MeetsSeq3
theorem As{xs:Array α}{x:α}{r:List α}(h:xs.toList.drop i=x::r):xs[i]?=some x/\xs.toList.drop (i+1)=r:=by
 have h1:(xs.toList.drop i)[0]?=some x:=by rw[h];rfl
 rw[List.getElem?_drop,IV,mC]at h1;refine⟨h1,?_⟩;rw[<-List.drop_drop,h];rfl
theorem Mp{xs:Array α}(h:xs.toList.drop i=[]):xs[i]?=none/\xs.size<=i:=by
 have h1:=List.drop_eq_nil_iff.mp h;rw[dJ]at h1;exact⟨CA h1,h1⟩
theorem wW{xs:Array α}{x:α}{r:List α}(h:xs.toList.drop i=x::r):i<xs.size:=by
 have h1:=cS List.length h;rw[vX,dJ,bq]at h1;omega
end
end HT
namespace L2
section
open PySem.W
section
variable {X:Cx}
theorem adC{P:Program}{w:World}:lI (eS P w) X (λ_ _ _=>False):=λ_ _ _ _ _ _ _ h=>by
 obtain⟨_,_,_,_,_,_,_,_,_,_,_,_,_,q⟩:=h;exact q.elim
def Mq(K:Fg)(M:Addr)(j:TS)(D:Ends):St->XK:=λZ c _ H=>exmOne K c (.ref M)=some true/\j D Z H
theorem Mr{M:Addr}{x:Str}{body:List Stmt}{b0:Stmt}{sZ:List Stmt}{np tm pos:Pos}{tb:(St->XK)->TS}{ts:TS}
 (eO:X.stack=X.env::X.outer) (ji:X.env.frame=some X.env.locals) (hm:X.mg x=some (.ref M)) (hg:Gl X x)
 (U:∀XE pn E,Am (eS X.prog X.w) (X.tr XE pn) E->bu (X.tr XE pn) body (tb E)) (hs:∀a,bu (X.exs a) (b0::sZ) ts) (gO:(x == ("__debug__":Str))=false:=by decide) :
 PS X (.Try body [.ExceptHandler (some (.Name x np)) none (b0::sZ) tm] [] [] pos) (λD Z H=>tb (Mq X.K M ts D) D Z H):=by
 intro a_ s Z H D I h;refine wpAny_Try_except ?_;refine dH (U (λe s₁=>wpAny (model X.prog X.w) X.A (noteFrame e X.env) (λ_ s₂=>wpAny (model X.prog X.w) X.A (setFlight e none) (λ_ s₃=>wpAny (model X.prog X.w) X.A (handleBy e X.env [.ExceptHandler (some (.Name x np)) none (b0::sZ) tm]) (SP X a_ D) X.xe s₃) X.xe s₂) X.xe s₁)
  a_ (Mq X.K M ts D) ?_ [] s Z H D (I.tr _) h) (λf Y z=>?_) λ_ _ z=>z
 . intro ps σ1 H1 Y e s' J hx;have J:=J.untr;obtain⟨a,c,H',B,a0,rfl,os,a1,un,hok,na,fl,big,Ak,j6⟩:=hx;have fl:Heap.FlyingW B (X.env::X.outer) a c a0 s'.heap:=eO▸fl;have Ej:X.A.frames=some (X.env::X.outer):=eO▸J.ok.frames;have un:Un (bR X.stack) [] H1 H' Y.heap s'.heap:=un;have big:∀b o,s'.heap.get? b=some o->((H' b).isSome=true\/∃o',Y.heap.get? b=some o')->b∉bR X.stack->B.get? b=some o:=big;have J0:=J.call' (ch:=[]) os un hok a1 (λb z=>nomatch z);have nf:∀b o,s'.heap.get? b=some o->b∈bR X.stack->∀vs,o.data≠.fields vs:=λb o e U=>by
    obtain⟨o1,e1,n1⟩:=J0.nofld U;rw[e]at e1;cases e1;exact n1
   refine wpAny_looks_onW Ej ji fl λh4 a2 Ek=>?_;refine wpAny_landsW a2 λh5 qK El=>?_;have f5:k8 X.stack B H' Y.heap s'.heap h5:=⟨big,qK.1,λb o e U=>(Ek.trans El) b o e (nf b o e U)⟩;have J5:Inv X a_ σ1 H' { s' with heap:=h5 }:=J.call' (ch:=[]) os (f5.un un (λ_ z=>.inl z) λ_ z=>z) (f5.hok hok J0.stkFree) a1 (λb z=>nomatch z);refine wpAny_handleBy_cons (asn ?_) (by intro q;cases q);refine rP (J5.exs a) hg hm ?_ gO;have LT:Looks (model X.prog X.w) h5 (typeOf (.ref a)) c:=by
    obtain⟨ob,o1,o2⟩:=qK.there;exact o2▸(Looks.ld o1).andThen .now
   refine(exm_one J5.kIn LT Ak).here ?_;refine codeAny_handlers_suite ?_;refine lands_againW qK λh6 wR Em=>?_;have f6:=f5.on wR.1 Em nf;have O:Inv X a_ σ1 H' { s' with heap:=h6 }:=J.call' (ch:=[]) os (f6.un un (λ_ z=>.inl z) λ_ z=>z) (f6.hok hok J0.stkFree) a1 (λb z=>nomatch z);refine dH (hs a a_ _ _ _ _ (O.exs a) j6) (λf s8 z=>?_) λ_ _ z=>z.elim;cases f with
   | next=>
    obtain⟨σ8,H8,j,G⟩:=z;exact⟨_,H8,j.unexs O.ok,G⟩
   | brk=>
    obtain⟨σ8,H8,j,G⟩:=z;exact⟨_,H8,j.unexs O.ok,G⟩
   | cont=>
    obtain⟨σ8,H8,j,G⟩:=z;exact⟨_,H8,j.unexs O.ok,G⟩
   | ret u=>
    obtain⟨v,σ8,H8,j,r8,G⟩:=z;exact⟨v,_,H8,j.unexs O.ok,r8,G⟩
 have z:=z.untr;cases f with
 | next=>exact yL z
 | brk=>exact z
 | cont=>exact z
 | ret u=>exact z
def adD(K:Fg):V->V->Hp->VK->Prop:=λx y H Q=>∃d e,DV K H x d/\DV K H y e/\W.kqdOk 9 d=true/\W.kqdOk 9 e=true/\∀b:Bool,(b=true↔d=e)->Q (.bl (!b)) H
theorem adE(K:Fg)(j:X.A.units+64<cLine)(h:X.K=K:=by rfl):cu X (compareOp .NotEq) (adD K):=h▸DP j
end
end
section
variable {mask ep n:Nat}{α:Type}{w:World}{h':Heap}{a it:Addr}{xs ys:Ls}{s:Shared}{P:Program}{o:Obj}{es:Array (Int×Value)}{os:List (Int×Value)}
def pi(m:Nat):Prop:=m=7\/m=15\/m=31\/m=63\/m=127\/m=255
def pq(mask:Nat):Nat->Nat->Nat
 | 0,i=>i
 | m+1,i=>pq mask m ((i * 5+1) % (mask+1))
theorem Au(mask:Nat):∀(m k i:Nat),pq mask (m+k) i=pq mask k (pq mask m i)
 | 0,k,i=>by rw[CB];rfl
 | m+1,k,i=>by
  rw[Nat.succ_add];exact Au mask m k _
def adF(mask:Nat):Bool:=pq mask (mask+1) 0 == 0 && (List.range (mask+1)).all λj=>(List.range (mask+1)).any λm=>pq mask m 0 == j
theorem adG(h:pi mask):adF mask=true:=by
 rcases h with rfl | rfl | rfl | rfl | rfl | rfl
 . decide +kernel
 . decide +kernel
 . decide +kernel
 . decide +kernel
 . decide +kernel
 decide +kernel
theorem adH{i j:Nat}(h:pi mask)(hi:i<=mask)(U:j<=mask):∃m,m<=mask/\pq mask m i=j:=by
 obtain⟨h0,h1⟩:=oF.mp (adG h);have h0:=eq_of_beq h0;have G:∀z,z<=mask->∃m,m<=mask/\pq mask m 0=z:=λz hz=>by
  obtain⟨m,Y,e⟩:=II.mp (eT.mp h1 z (iK.mpr (by omega)));exact⟨m,by have:=iK.mp Y;omega,eq_of_beq e⟩
 obtain⟨a,ha,J⟩:=G i hi;obtain⟨b,hb,O⟩:=G j U
 by_cases le:a<=b
 . refine⟨b - a,by omega,?_⟩;rw[<-J,<-Au,show a+(b - a)=b by omega];exact O
 refine⟨b+(mask+1) - a,by omega,?_⟩;rw[<-J,<-Au,show a+(b+(mask+1) - a)=(mask+1)+b by omega,Au,h0];exact O
def jA(mask:Nat):Nat->Nat->Nat->Nat×Nat
 | 0,i,p=>(i,p)
 | m+1,i,p=>jA mask m ((i * 5+1+p / 32) % (mask+1)) (p / 32)
theorem Mt(mask:Nat):∀(m i:Nat),jA mask m i 0=(pq mask m i,0)
 | 0,i=>rfl
 | m+1,i=>by
  show jA mask m ((i * 5+1+0 / 32) % (mask+1)) (0 / 32)=_;rw[Nat.zero_div,IV,Mt mask m];rfl
theorem Mu(mask:Nat):∀(m k i p:Nat),jA mask (m+k) i p=jA mask k (jA mask m i p).1 (jA mask m i p).2
 | 0,k,i,p=>by rw[CB];rfl
 | m+1,k,i,p=>by
  rw[Nat.succ_add];exact Mu mask m k _ _
theorem Mw(mask:Nat):∀(m i p:Nat),(jA mask m i p).2=p / 32 ^ m
 | 0,i,p=>by simp[jA]
 | m+1,i,p=>by
  show(jA mask m _ (p / 32)).2=_;rw[Mw mask m,Nat.div_div_eq_div_mul,Nat.pow_succ,Nat.mul_comm]
theorem Mx(mask:Nat):∀(m i p:Nat),i<=mask->(jA mask m i p).1<=mask
 | 0,i,p,h=>h
 | m+1,i,p,h=>Mx mask m _ _ (Nat.le_of_lt_succ (CC (i * 5+1+p / 32) (IT mask)))
theorem adI{i p j:Nat}(h:pi mask)(hi:i<=mask)(G:p<2 ^ 64)(z:j<=mask):∃m,m<SetTable.turns mask/\(jA mask m i p).1=j:=by
 have h2:(jA mask 13 i p).2=0:=by
  rw[Mw];exact Nat.div_eq_of_lt (uv G (by decide))
 obtain⟨m,J,e⟩:=adH h (Mx mask 13 i p hi) z;refine⟨13+m,by unfold SetTable.turns;omega,?_⟩;rw[Mu,h2,Mt];exact e
theorem My(mask:Nat)(ow:Array (Option Nat)):∀(f i p:Nat),SetTable.layClean.free mask ow f i p=none->∀m,m<f->(ow.getD (jA mask m i p).1 (some 0)).isNone=false
 | 0,i,p,_,m,h=>absurd h (uy _)
 | f+1,i,p,e,m,h=>by
  unfold SetTable.layClean.free at e;cases j:(List.range (SetTable.runEnd mask i+1 - i)).find? λk=>(ow.getD (i+k) (some 0)).isNone with
  | some k=>rw[j]at e;cases e
  | none=>
   rw[j]at e;cases m with
   | zero=>
    have:=List.find?_eq_none.mp j 0 (iK.mpr (by unfold SetTable.runEnd;split<;>omega));rw[IV]at this;cases hz:(ow.getD i (some 0)).isNone with
    | true=>exact absurd hz this
    | false=>exact hz
   | succ m=>exact My mask ow f _ _ e m (by omega)
theorem Mz(mask:Nat)(ow:Array (Option Nat)):∀(f i p j:Nat),SetTable.layClean.free mask ow f i p=some j->(ow.getD j (some 0)).isNone=true
 | 0,i,p,j,e=>by cases e
 | f+1,i,p,j,e=>by
  unfold SetTable.layClean.free at e;cases z:(List.range (SetTable.runEnd mask i+1 - i)).find? λk=>(ow.getD (i+k) (some 0)).isNone with
  | some k=>
   rw[z]at e;cases e;exact List.find?_some (p:=λk=>(ow.getD (i+k) (some 0)).isNone) z
  | none=>
   rw[z]at e;exact Mz mask ow f _ _ j e
theorem MA:∀{l:List (Option α)}{j:Nat}{x:α},l[j]?=some none->((l.set j (some x)).filterMap id).Perm (x::l.filterMap id)
 | [],j,x,h=>by cases h
 | o::l,0,x,h=>by
  cases h;simp
 | o::l,j+1,x,h=>by
  have z:=MA (l:=l) (j:=j) (x:=x) h;rw[List.set_cons_succ];cases o with
  | none=>simpa using z
  | some y=>
   simp only[yJ,id];exact(z.cons y).trans (.swap ..)
structure Lay(mask:Nat)(r:Array (Option Nat)×Nat):Prop where
 size:r.1.size=mask+1
 perm:(r.1.toList.filterMap id).Perm (List.range r.2)
theorem Lay.step(Y:pi mask){r:Array (Option Nat)×Nat}(x:Lay mask r)(hk:r.2<=mask)(h:Int):∃j,SetTable.layClean.free mask r.1 (SetTable.turns mask) (SetTable.bits h % (mask+1)) (SetTable.bits h)=some j/\Lay mask (r.1.setIfInBounds j (some r.2),r.2+1):=by
 obtain⟨ow,k⟩:=r;dsimp only at *;have hz:ow.size=mask+1:=x.size;have U:=x.perm.length_eq;dsimp only at U;rw[mE]at U;cases O:SetTable.layClean.free mask ow (SetTable.turns mask) (SetTable.bits h % (mask+1)) (SetTable.bits h) with
 | none=>
  exfalso;have lH:∀j,j<=mask->(ow.getD j (some 0)).isNone=false:=λj G=>by
   obtain⟨m,h1,h2⟩:=adI Y (i:=SetTable.bits h % (mask+1)) (p:=SetTable.bits h) (Nat.le_of_lt_succ (CC (SetTable.bits h) (IT mask))) (by
    unfold SetTable.bits;have h1:=Int.emod_lt_of_pos h (show(0:Int)<2 ^ 64 by decide);have h0:=Int.emod_nonneg h (show(2 ^ 64:Int)≠0 by decide);omega) G
   have:=My mask ow _ _ _ O m h1
   rwa [h2]at this
  have:(ow.toList.filterMap id).length=ow.toList.length:=by
   rw[List.length_filterMap_eq_countP,List.countP_eq_length];intro o ho;obtain⟨j,G,e⟩:=yR.mp ho;rw[dJ]at G;have:=lH j (by omega);rw[IW,oG G]at this;rw[<-e,Array.getElem_toList];cases J:ow[j]with
   | none=>rw[J]at this;cases this
   | some y=>rfl
  have e9:ow.toList.length=ow.size:=dJ;omega
 | some j=>
  have hs:=Mz mask ow _ _ _ _ O;have G:j<ow.size:=by
   refine Vu λz=>?_;rw[IW,CA z]at hs;cases hs
  have hn:ow.toList[j]?=some none:=by
   rw[IW,oG G]at hs;rw[mC,oG G];cases J:ow[j]with
   | none=>rfl
   | some y=>rw[J]at hs;cases hs
  refine⟨j,rfl,⟨by simp[hz],?_⟩⟩;dsimp only;rw[Array.toList_setIfInBounds,yS];exact(MA hn).trans ((x.perm.cons k).trans (List.perm_append_singleton k _).symm)
theorem MB(G:pi mask):∀(hs:List Int) (r:Array (Option Nat)×Nat),Lay mask r->r.2+hs.length<=mask+1->∃z,hs.foldl (fun(J:Option (Array (Option Nat)×Nat)) h=>do
 let (owner,k) <-J
 let j <-SetTable.layClean.free mask owner (SetTable.turns mask) (SetTable.bits h % (mask+1)) (SetTable.bits h)
 pure (owner.setIfInBounds j (some k),k+1)) (some r)=some z/\Lay mask z/\z.2=r.2+hs.length
 | [],r,x,_=>⟨r,rfl,x,rfl⟩
 | h::hs,r,x,hl=>by
  rw[bq]at hl;obtain⟨j,e,O⟩:=x.step G (by omega) h;obtain⟨z,e1,x1,e2⟩:=MB G hs _ O (by dsimp only;omega);refine⟨z,?_,x1,by rw[e2,bq];dsimp only;omega⟩;rw[uA,<-e1]
  congr 1
  show(SetTable.layClean.free mask r.1 (SetTable.turns mask) (SetTable.bits h % (mask+1)) (SetTable.bits h)).bind _=_;rw[e];rfl
theorem MC{f m:Nat}{led plain:Bool}{hs:Array Int}(hm:pi mask)(hl:hs.size<=mask):∃t O,SetTable.laid mask f m led plain hs=some (t,O)/\O.toList.Perm (List.range hs.size)/\t.fits hs.size=true/\t.led=led/\t.plain=plain/\t.mask=mask:=by
 have x0:Lay mask (Array.replicate (mask+1) none,0):=⟨by simp,by simp⟩;obtain⟨r,e,x,e2⟩:=MB hm hs.toList _ x0 (by dsimp only;rw[dJ];omega);have Y:SetTable.layClean mask hs=some r.1:=by
  unfold SetTable.layClean;rw[<-Array.foldl_toList,e];rfl
 dsimp only at e2;rw[CB,dJ]at e2;have G:((List.range (mask+1)).filterMap λj=>(r.1.getD j none).map (j,·)).map (·.2)=r.1.toList.filterMap id:=by
  have e3:r.1.toList=(List.range (mask+1)).map λj=>r.1.getD j none:=by
   refine List.ext_getElem? λj=>?_;rw[cz,mC]
   by_cases z:j<mask+1
   . rw[List.getElem?_range z,oG (by rw[x.size];exact z),oE,IW,oG (by rw[x.size];exact z)];rfl
   rw[CA (by rw[x.size];omega),aso (by rw[mE];omega)];rfl
  rw[e3,List.filterMap_map,List.map_filterMap]
  congr 1
  funext j
  show Option.map _ (Option.map _ (r.1.getD j none))=r.1.getD j none;cases r.1.getD j none<;>rfl
 have a0:((List.range (mask+1)).filterMap λj=>(r.1.getD j none).map (j,·)).length=hs.size:=by
  have:=cS List.length G;rw[ah,x.perm.length_eq,mE,e2]at this;exact this
 unfold SetTable.laid;rw[Y];refine⟨_,_,rfl,?_,?_,rfl,rfl,rfl⟩
 . show(((List.range (mask+1)).filterMap λj=>(r.1.getD j none).map (j,·)).map (·.2)).Perm _;rw[G,<-e2];exact x.perm
 unfold SetTable.fits SetTable.fill;have J:((((List.range (mask+1)).filterMap λj=>(r.1.getD j none).map (j,·)).map (·.1)).toArray).size=hs.size:=by
  rw[gC,ah];exact a0
 have U:(#[]:Array Nat).size=0:=rfl;rw[gD];refine⟨jP.mpr J,bw ?_⟩;show _+(#[]:Array Nat).size<=mask;rw[U,IV];exact cR (Ce J) hl
def fW(w:World):Bool:=w.params.followText "set-order"
def iy(e:Int×Value):Str:=match e.2 with
 | .str y _=>y
 | _=>Str.ofString ""
def mY(w:World)(e:Int×Value):Prop:=∃y tk,e=(lF w (.inr y),Value.str y tk)
structure fc(w:World)(o:Obj)(es:Array (Int×Value))(ep:Nat)(t:SetTable)(xs:Ls):Prop where
 ex:o.ExactSet
 dat:o.data=.set es ep t
 good:∀e∈es.toList,mY w e
 perm:(es.toList.map iy).Perm xs
 nd:xs.Nodup
 len:xs.length<=1000
 fit:t.fits es.size=true
 led:t.led = !fW w
 pl:es.size≠0->t.plain=false
 msk:es.size=0->pi t.mask
def cy(w:World)(h:Heap)(a:Addr)(xs:Ls):Prop:=∃o es ep t,h.get? a=some o/\fc w o es ep t xs
theorem cy.at'{h:Heap}(x:cy w h a xs)(k:∀o,h.get? a=some o->h'.get? a=some o):cy w h' a xs:=
 x.elim λo j=>j.elim λes z=>z.elim λep G=>G.elim λt J=>J.elim λe r=>⟨o,es,ep,t,k o e,r⟩
theorem cy.typeIs(x:cy w s.heap a xs):s.TypeIs (.ref a) "set":=x.elim λo j=>j.elim λ_ z=>z.elim λ_ G=>G.elim λ_ J=>J.elim λe r=>⟨o,e,r.ex.1⟩
section
variable {t:SetTable}
theorem fc.elems(x:fc w o es ep t xs):ElemsOf (b8 P w) es.toList:=λe j=>by
 obtain⟨y,tk,rfl⟩:=x.good e j;exact⟨⟨.inr y,rN P w y tk,rfl⟩,rfl⟩
theorem fc.size(x:fc w o es ep t xs):es.size=xs.length:=by
 have:=x.perm.length_eq;rw[ah,dJ]at this;exact this
theorem fc.bnd(x:fc w o es ep t xs):es.size<scanBound:=by
 rw[x.size];have:=x.len;show _<4096;omega
theorem MD{y:Str}{e:Int×Value}(g:mY w e):(b8 P w).is (.inr y) e.2=true↔iy e=y:=by
 obtain⟨z,tk,rfl⟩:=g;constructor
 . intro h;have:=(b8 P w).inj _ _ _ h (rN P w z tk);injection this with this
   exact this.symm
 intro h;rw[<-h];exact rN P w z tk
theorem fc.find_some(x:fc w o es ep t xs){y:Str}{j:Nat}(h:List.findIdx? (λe=>(b8 P w).is (.inr y) e.2) es.toList=some j):y∈xs:=by
 obtain⟨G,J,_⟩:=List.findIdx?_eq_some_iff_getElem.mp h;have z:=CD G;exact x.perm.mem_iff.mp (bf.mpr ⟨_,z,(MD (x.good _ z)).mp J⟩)
theorem fc.find_none(x:fc w o es ep t xs){y:Str}(h:List.findIdx? (λe=>(b8 P w).is (.inr y) e.2) es.toList=none):y∉xs:=λG=>by
 obtain⟨e,j,z⟩:=bf.mp (x.perm.mem_iff.mpr G);have:=List.findIdx?_eq_none_iff.mp h e j;rw[(MD (x.good _ j)).mpr z]at this;cases this
end
theorem adR(t:SetTable)(es:Array (Int×Value))(h:Int)(x:Value):(layNew t es h x).2.1.led=t.led:=by
 unfold layNew;split
 . dsimp only;unfold SetTable.orStandIn;split<;>rfl
 rfl
theorem adS{f m:Nat}{led plain:Bool}{hs:Array Int}{r:SetTable×Array Nat}(e:SetTable.laid mask f m led plain hs=some r):r.1.led=led/\r.1.plain=plain/\r.1.mask=mask/\r.1.dummies = #[]:=by
 unfold SetTable.laid at e;cases j:SetTable.layClean mask hs with
 | none=>rw[j]at e;cases e
 | some ow=>
  rw[j]at e;cases e;exact⟨rfl,rfl,rfl,rfl⟩
theorem adT(t:SetTable)(es:Array (Int×Value))(n:Nat):(relayAll t es n).2.1.led=t.led/\(t.plain=false->(relayAll t es n).2.1.plain=false):=by
 unfold relayAll;split
 . rename_i t' j e;dsimp only;split
   . obtain⟨h1,h2,_⟩:=adS e;exact⟨h1,λz=>h2.trans z⟩
   exact⟨rfl,λ_=>rfl⟩
 exact⟨rfl,λ_=>rfl⟩
def iQ(xs:Ls)(y:Str):Ls:=if y∈xs then xs else xs++[y]
theorem ME{y:Str}(h:xs.Nodup):(iQ xs y).Nodup:=by
 unfold iQ;split
 . exact h
 rename_i z;rw[uB];exact⟨h,by simp,λa j b G=>by rw[bX.mp G];exact λq=>z (q▸j)⟩
theorem Ev{y z:Str}:z∈iQ xs y↔z∈xs\/z=y:=by
 unfold iQ;split
 . rename_i h;exact⟨.inl,λq=>q.elim id λq=>q▸h⟩
 simp
theorem Aw(xs:Ls)(y:Str):(iQ xs y).length<=xs.length+1:=by
 unfold iQ;split
 . omega
 simp
section
variable {prog:Program}{A:Around}{E:VP}
theorem fc.store{h:Heap}{es':Array (Int×Value)}{t t':SetTable}(j:h.get? a=some o)(x:o.ExactSet)(d:o.data=.set es ep t):(h.update a (Obj.putSet es' t')).get? a=some { o with data:=.set es' (ep+1) t' }:=by
 have q:=yT (Obj.putSet es' t') j (by rw[putSet_of es' t' d];rfl)
 rwa [putSet_of es' t' d]at q
theorem MF{g:Bool->Sem Unit}(hg:∀(b:Bool) (s₁:Shared) (Q':Unit->Shared->Prop),Q' () s₁->wpAny (model prog w) A (g b) Q' E s₁){j:Array (Int×Value)}{t t2:SetTable}{wd:Bool}{R:Option Bool->Shared->Prop}
 (ho:s.heap.get? a=some o) (O:o.ExactSet) (hd:o.data=.set es ep t) (gd:∀e∈j.toList,mY w e) (pm:(j.toList.map iy).Perm ys) (nd:ys.Nodup) (ln:ys.length<=1000) (hf:t2.fits j.size=true) (ld:t2.led = !fW w) (pl:t2.plain=false) (ne:j.size≠0)
 (h:∀h',Heap.SameBut a s.heap h'->cy w h' a ys->R (some true) { s with heap:=h' }) :
 wpAny (model prog w) A (do { storeSet a j t2;if (!wd && t2.tooFull)=true then do { g (relayAll t2 j (SetTable.grown j.size)).2.2;storeSet a (relayAll t2 j (SetTable.grown j.size)).1 (relayAll t2 j (SetTable.grown j.size)).2.1;pure (some true) } else pure (some true) }) R E s:=by
 have sz:j.size=ys.length:=by have:=pm.length_eq;rw[ah,dJ]at this;exact this
 have b1:j.size<scanBound:=by rw[sz];show _<4096;omega
 refine aa (yU ho hd ?_ (v4 b1));have o1:=fc.store (es':=j) (t':=t2) ho O hd;have sb:=kL s.heap a (Obj.putSet j t2);split
 . have G:=relayAll_perm t2 j (SetTable.grown j.size);have Y:=relayAll_fits t2 j (SetTable.grown j.size);have J:=adT t2 j (SetTable.grown j.size);generalize hR:relayAll t2 j (SetTable.grown j.size)=Rl at G Y J ⊢;obtain⟨U,t3,g2⟩:=Rl;dsimp only at G Y J ⊢;have MG:U.size=j.size:=by rw[<-dJ,G.length_eq,dJ]
   refine aa (hg _ _ _ (aa (yU o1 rfl ?_ (v4 (by rw[MG];exact b1)))));have o2:=fc.store (es':=U) (t':=t3) o1 O rfl;exact aj (h _ (sb.trans (kL _ a _)) ⟨_,U,_,t3,o2,O,rfl,λe he=>gd e (G.mem_iff.mp he),(G.map iy).trans pm,nd,ln,Y,J.1.trans ld,λ_=>J.2 pl,λz=>absurd (MG.symm.trans z) ne⟩)
 exact aj (h _ sb ⟨_,j,_,t2,o1,O,rfl,gd,pm,nd,ln,hf,ld,λ_=>pl,λz=>absurd z ne⟩)
theorem Ex{y:Str}{tk:Tok}{Q:Bool->Shared->Prop}(hS:cy w s.heap a xs)(hl:xs.length<1000)(h:∀b h',Heap.SameBut a s.heap h'->cy w h' a (iQ xs y)->Q b { s with heap:=h' }) :
 wpAny (model prog w) A (setAddHashed a (.str y tk) (lF w (.inr y))) Q E s:=by
 obtain⟨o,es,ep,t,O,x⟩:=hS;have el:ElemsOf (b8 prog w) es.toList:=x.elems;unfold setAddHashed setAddHashedIn;refine iJ (aa (iL O x.dat x.fit ?_));dsimp only;rw[byScan_of (x:=.str y tk) rfl x.bnd el];simp only[↓reduceIte];unfold setAddByScan;refine aa (aa (rA (aa (wpAny_setScan_of (knd:=b8 prog w) (k:=.inr y) (rN prog w y tk) O x.dat x.fit el ?_))));cases hr:List.findIdx? (λe=>(b8 prog w).is (.inr y) e.2) es.toList with
 | some j=>
  dsimp only;refine aj (aj ?_);have hy:=x.find_some hr;exact h false s.heap (CF a s.heap) (by unfold iQ;rw[ai hy];exact⟨o,es,ep,t,O,x⟩)
 | none=>
  dsimp only;have hy:=x.find_none hr;have Y:=layNew_perm t es (lF w (.inr y)) (.str y tk);have Ay:=layNew_fits t es (lF w (.inr y)) (.str y tk);have Az:=adR t es (lF w (.inr y)) (.str y tk);have e0:(b8 prog w).hash (.inr y)=lF w (.inr y):=rfl
  try rw[e0]
  generalize hL:layNew t es (lF w (.inr y)) (.str y tk)=L at Y Ay Az ⊢;obtain⟨c9,t1,wd,a2⟩:=L;dsimp only at Y Ay Az ⊢;rw[Array.toList_push]at Y;have gd:∀e∈c9.toList,mY w e:=λe he=>by
   rcases dA.mp (Y.mem_iff.mp he) with z | z
   . exact x.good e z
   exact⟨y,tk,bX.mp z⟩
  have ea:iQ xs y=xs++[y]:=by unfold iQ;rw[af hy]
  have pm:(c9.toList.map iy).Perm (iQ xs y):=by
   rw[ea];refine(Y.map iy).trans ?_;rw[cK];exact x.perm.append_right _
  have ne:c9.size≠0:=λz=>by
   have:=pm.length_eq;rw[ea,ah,dJ,z,bD]at this;simp at this
  have ln:(iQ xs y).length<=1000:=by have:=Aw xs y;omega
  have a1:∀(b:Bool) {U:Shared}{J:Unit->Shared->Prop},J () U->wpAny (model prog w) A (match b with | true=>rule "set.scan.the-table-gave-way" | false=>pure ()) J E U:=λb U J G=>by
   cases b
   . exact aj G
   exact rA G
  refine aa (a1 _ ?_);have a0:∀h',Heap.SameBut a s.heap h'->cy w h' a (iQ xs y)->wpAny (model prog w) A (pure true:Sem Bool) Q E { s with heap:=h' }:=λh' k z=>aj (h true h' k z);split
  . refine aa ?_;rw[hashByValue_scannable (x:=.str y tk) 8 rfl];refine aj ?_;refine MF ?_ O x.ex x.dat gd pm (ME x.nd) ln ?_ ?_ ?_ ne (λh' k z=>a0 h' k z)
    . intro b U J G;cases b
      . exact aj G
      exact rA G
    . exact SetTable.fits_plain_off Ay
    . exact Az.trans x.led
    rfl
  rename_i Ey;refine aa (aj ?_);simp only[↓reduceIte];refine MF ?_ O x.ex x.dat gd pm (ME x.nd) ln Ay (Az.trans x.led) (by simpa using Ey) ne (λh' k z=>a0 h' k z);intro b U J G;cases b
  . exact aj G
  exact rA G
end
theorem Ez:∀{l:List α}{i:Nat} (h:i<l.length),(l[i]::l.eraseIdx i).Perm l
 | [],i,h=>absurd h (uy _)
 | x::r,0,h=>.refl _
 | x::r,i+1,h=>by
  have h':i<r.length:=by simpa using h
  show(r[i]::x::r.eraseIdx i).Perm _;exact(List.Perm.swap ..).trans ((Ez (l:=r) (i:=i) h').cons x)
theorem MH(next:Nat->Nat):∀(f k:Nat) (left:List α) (out:Array α),f=left.length->(pickOrder.go next f k left out).toList.Perm (out.toList++left)
 | 0,k,left,out,h=>by
  rw[vZ.mp h.symm];simp[pickOrder.go]
 | f+1,k,left,out,h=>by
  have j:next k % left.length<left.length:=CC _ (by omega);unfold pickOrder.go;rw[fo j];dsimp only;refine(MH next f (k+1) _ _ (by rw[asp j];omega)).trans ?_;rw[Array.toList_push,i6];exact List.Perm.append_left _ (Ez j)
theorem MI(next:Nat->Nat)(xs:Array α):(pickOrder next xs).toList.Perm xs.toList:=by
 have:=MH next xs.size 0 xs.toList #[] (by simp);simpa [pickOrder]using this
section
variable {prog:Program}{A:Around}{E:VP}
theorem adV(j:n≠0){Q:Nat->Shared->Prop}(h:∀i d,i<n->Q i { s with drawn:=d }):wpAny (model prog w) A (choose .order n) Q E s:=λΓ p hΓ=>by
 unfold choose;rw[Sem.wp_choose];refine⟨j,?_⟩;simp only[Sem.wp_pure];exact h _ _ (CC _ (Nat.pos_of_ne_zero j))
theorem MJ:∀(n:Nat) (l:List α) (s:Shared) (Q:List α->Shared->Prop),n=l.length->(∀out d,out.Perm l->Q out { s with drawn:=d })->wpAny (model prog w) A (drawOrder n l) Q E s
 | 0,l,s,Q,hn,h=>by
  have j:=vZ.mp hn.symm;subst j;exact aj (h [] s.drawn .nil)
 | n+1,l,s,Q,hn,h=>by
  cases l with
  | nil=>cases hn
  | cons x r=>
   show wpAny _ _ (choose .order (x::r).length >>= _) _ _ _;refine aa (adV (by simp) λi d hi=>?_);rw[fo hi];dsimp only;refine aa (MJ n ((x::r).eraseIdx i) _ _ (by rw[asp hi];simp at hn ⊢;omega) λout d2 z=>aj ?_);exact h _ d2 ((z.cons _).trans (Ez hi))
end
def iR(h:Heap)(it a:Addr)(ep n:Nat)(f:Value)(i:Nat):Prop:=∃o,h.get? it=some o/\o.cls=.type "set_iterator"/\o.data=.fields #[f,rawInt i,.ref a,rawInt n,rawInt ep]
theorem iR.at'{h:Heap}{i:Nat}{f:Value}(x:iR h it a ep n f i)(k:∀o,h.get? it=some o->h'.get? it=some o):iR h' it a ep n f i:=x.elim λo j=>j.elim λe r=>⟨o,k _ e,r⟩
theorem iR.typeIs{i:Nat}{f:Value}(x:iR s.heap it a ep n f i):s.TypeIs (.ref it) "set_iterator":=x.elim λo j=>j.elim λe z=>z.elim λr _=>⟨o,e,r⟩
inductive Md (w:World) (h:Heap) (I a T:Addr) (es:Array (Int×Value)) (ep:Nat) (t:SetTable) (os:List (Int×Value)) (i:Nat):Prop
 | text (b:fW w=true) (e:os=(pickOrder (w.params.setOrder a ep) es).toList) (x:iR h I a ep es.size (rawInt 0) i)
 | draw (pl:List Nat) (b:fW w=false) (e:os.length=pl.length/\∀(k j:Nat),pl[k]?=some j->os[k]?=es[j]?) (x:iR h I a ep es.size (.ref T) i) (y:∃o n,h.get? T=some o/\o.data=.seq (pl.map λj=>rawInt (j:Nat)).toArray n) (z:I≠T)
 | tab (sl:Nat) (b:fW w=false) (l:es.size<=1) (e:os=es.toList) (x:iR h I a ep es.size (rawInt sl) i) (y:SetTable.below t.place sl=i)
def uW(w:World)(I a T:Addr)(os:List (Int×Value))(i:Nat)(h:Heap):Prop:=∃o es ep t xs,h.get? a=some o/\fc w o es ep t xs/\os.Perm es.toList/\I≠a/\Md w h I a T es ep t os i
section
variable {prog:Program}{A:Around}{E:VP}
theorem EA{i:Nat}{f v:Value}{Q:Unit->Shared->Prop}(x:iR s.heap it a ep n f i)(q:∀h',Heap.SameBut it s.heap h'->iR h' it a ep n v i->Q () { s with heap:=h' }):wpAny (model prog w) A (setField (.ref it) 0 v) Q E s:=by
 obtain⟨o,j,z,hd⟩:=x;exact CG j hd (by simp) (q _ (kL ..) ⟨_,yT _ j (Vv (yV hd _)),(Vw ..).trans z,by rw[yV hd];simp⟩)
theorem EB{i:Nat}{f:Value}{Q:Unit->Shared->Prop}(x:iR s.heap it a ep n f i)(q:∀h',Heap.SameBut it s.heap h'->iR h' it a ep n f (i+1)->Q () { s with heap:=h' }):wpAny (model prog w) A (setField (.ref it) 1 (rawInt ((i:Int)+1))) Q E s:=by
 obtain⟨o,j,z,hd⟩:=x;exact CG j hd (by simp) (q _ (kL ..) ⟨_,yT _ j (Vv (yV hd _)),(Vw ..).trans z,by rw[yV hd];simp[rawInt]⟩)
theorem EC{i:Nat}{f:Value}{R:PySem.Fin->Shared->Prop}{j:VP}(z:A.handled=none)(x:iR s.heap it a ep n f i)
 (q:∀h' e,Heap.ExtBut it s.heap h'->Shared.TypeIs { s with heap:=h' } e "StopIteration"->j e { s with heap:=h' }):wpAny (model prog w) A.in1 (do { setField (.ref it) 2 .none;raiseNew (<-newExc (.type "StopIteration") []) }) R j s:=by
 obtain⟨o,G,J,hd⟩:=x;refine aa (CG G hd (by simp) ?_);show wpAny _ _ (newExc (.type "StopIteration") [] >>= _) _ _ _;refine aa ?_;simp only[newExc,newTuple];refine aa (rG ?_ (by size_fits));refine aa (m:=firstArgMember _ _) (IX (a:=Value.none) (by first | rfl | (simp only[firstArgMember];rfl)) ?_);refine rG ?_ (by size_fits);simp only[raiseNew];refine aa (wpAny_handled ?_);rw[show A.in1.handled=none from z];refine aa (aj (wpAny_throw ?_));refine q _ _ (((kL ..).extBut.push _).push _) ?_;exact⟨_,cT _ rfl,rfl⟩
theorem MK(j:Nat):SetTable.below #[j] 0=0/\SetTable.below #[j] (j+1)=1:=by
 constructor
 . simp[SetTable.below,SetTable.below.go]
 simp[SetTable.below,SetTable.below.go]
theorem ML{t:SetTable}{i:Nat}{Q:Option (Value×Nat)->Shared->Prop}(b:fW w=true)(G:s.heap.get? a=some o)(hd:o.data=.set es ep t)(z:t.fits es.size=true)
 (q:Q (((pickOrder (w.params.setOrder a ep) es)[i]?).map λe=>(e.2,0)) s):wpAny (model prog w) A (setNext a 0 i ep) Q E s:=by
 have j:w.params.followText "set-order"=true:=b;unfold setNext;refine aa (iL G hd z ?_);refine aa (m:=setsByText) (aa (qk (aj ?_)));show wpAny _ _ (if w.params.followText "set-order"=true then _ else _) _ _ s;rw[ai j,af (show ¬((ep != ep)=true) by simp)];refine aa ?_;unfold setWalk;refine aa (iL G hd z ?_);refine aa (m:=setsByText) (aa (qk (aj ?_)));show wpAny _ _ (if w.params.followText "set-order"=true then _ else _) _ _ s;rw[ai j];exact aa (qk (aj (aj q)))
theorem MM{t:SetTable}{sl i:Nat}{Q:Option (Value×Nat)->Shared->Prop}(b:fW w=false)(O:s.heap.get? a=some o)(hd:o.data=.set es ep t)(G:t.fits es.size=true)(J:t.led = !fW w)(l:es.size<=1)
 (q:Q (match es[SetTable.below t.place sl]?,t.place[SetTable.below t.place sl]? with | some (_,x),some j=>some (x,j+1) | _,_=>none) s):wpAny (model prog w) A (setNext a sl i ep) Q E s:=by
 have z:w.params.followText "set-order"=false:=b;unfold setNext;refine aa (iL O hd G ?_);refine aa (m:=setsByText) (aa (qk (aj ?_)));show wpAny _ _ (if w.params.followText "set-order"=true then _ else _) _ _ s;rw[af (by rw[z];exact cn)];show wpAny _ _ (if (!t.plain && decide (es.size > 1))=true then _ else _) _ _ s;rw[af (by rw[bM (by omega),qi];exact cn)];show wpAny _ _ ((if (!t.led && !es.isEmpty)=true then _ else _) >>= _) _ _ s;rw[af (by rw[J,b];exact cn)];exact aa (aj (aj q))
theorem uX{n i:Nat}{f:Value}{t:SetTable}{Q:Option Value->Shared->Prop}(x:iR s.heap it a ep es.size f i)(O:s.heap.get? a=some o)(hd:o.data=.set es ep t)(J:t.fits es.size=true)
 {E1:VP}
 (q:wpAny (model prog w) A.in1 (if let .int slot _:=f then
  (do
   match <-setNext a slot.toNat i ep with
   | some (x,next)=>setField (.ref it) 0 (rawInt next);setField (.ref it) 1 (rawInt ((i:Int)+1));ret x
   | none=>setField (.ref it) 2 .none;raiseNew (<-newExc (.type "StopIteration") []))
  else(do
   let some places <-seqItems? f | unsupported "internal:set_iterator"
   match places[i]? with
   | some (.int place _)=>let x <-setNextDrawn a place.toNat ep;setField (.ref it) 1 (rawInt ((i:Int)+1));ret x
   | some _=>unsupported "internal:set_iterator"
   | none=>setField (.ref it) 0 (rawInt 0);setField (.ref it) 2 .none;raiseNew (<-newExc (.type "StopIteration") [])))
  (λj s'=>∃v,j=.done (.ret v)/\Q (some v) s') (λe s'=>Shared.TypeIs s' e "StopIteration"/\Q none s') s) :
 wpAny (model prog w) A (pyNext (.ref it)) Q E s:=by
 obtain⟨oi,U,Y,G⟩:=id x;unfold pyNext;refine aa (IS (Vx (name:=Str.ofString "__next__") x.typeIs Ae (lE Ae x.typeIs acA ?_ (acD _))));unfold Builtin.«set_iterator.__next__»;refine aa (aj ?_);refine aa (Vy U G ?_);show wpAny _ _ (setEntries a >>= _) _ _ s;unfold setEntries;refine aa (aa (iL O hd J (aj ?_)));dsimp only;rw[af (by simp)];refine dH q (λj s' z=>?_) (λe s' z=>?_)
 . obtain⟨v,rfl,z⟩:=z;exact⟨v,rfl,aj z⟩
 exact aa (my (T:="StopIteration") (b:=true) z.1 isSubtype_stop (aj z.2))
end
section
variable {prog:Program}{A:Around}{E:VP}{I T:Addr}
theorem Md.keep{h:Heap}{t:SetTable}{i:Nat}(x:Md w h I a T es ep t os i)(k:∀b,b=I\/b=T->∀o,h.get? b=some o->h'.get? b=some o):Md w h' I a T es ep t os i:=by
 cases x with
 | text b e x=>exact .text b e (x.at' (k I (.inl rfl)))
 | draw pl b e x y z=>
  obtain⟨o,n,e1,e2⟩:=y;exact .draw pl b e (x.at' (k I (.inl rfl))) ⟨o,n,k T (.inr rfl) o e1,e2⟩ z
 | tab sl b l e x y=>exact .tab sl b l e (x.at' (k I (.inl rfl))) y
theorem ad1{i:Nat}{e:Int×Value}{Q:Option Value->Shared->Prop}(x:uW w I a T os i s.heap)(hi:os[i]?=some e)(q:∀h',Heap.SameBut I s.heap h'->uW w I a T os (i+1) h'->Q (some e.2) { s with heap:=h' }) :
 wpAny (model prog w) A (pyNext (.ref I)) Q E s:=by
 obtain⟨o,es,ep,t,xs,J,X,pm,uY,m⟩:=x;have done:∀h',Heap.SameBut I s.heap h'->Md w h' I a T es ep t os (i+1)->Q (some e.2) { s with heap:=h' }:=λh' k m'=>q h' k ⟨o,es,ep,t,xs,by rw[k.2 a (λz=>uY z.symm)];exact J,X,pm,uY,m'⟩;cases m with
 | text b G x=>
  have qL:(pickOrder (w.params.setOrder a ep) es)[i]?=some e:=by rw[G,mC]at hi;exact hi
  refine uX (E1:=E) (n:=0) x J X.dat X.fit ?_;show wpAny _ _ (setNext a 0 i ep >>= _) _ _ _;refine aa (ML b J X.dat X.fit ?_);rw[qL];refine aa (EA x λh1 k1 x1=>aa (EB (s:={ s with heap:=h1 }) x1 λh2 k2 O=>aj ⟨_,rfl,done h2 (k1.trans k2) (.text b G O)⟩))
 | draw pl b G x y z=>
  obtain⟨oT,nT,hT,U⟩:=y;have Y:i<pl.length:=by
   rw[<-G.1];exact(dB.mp hi).1
  have cV:pl[i]?=some pl[i]:=fo Y;have he:es[pl[i]]?=some e:=(G.2 i _ cV).symm.trans hi;refine uX (E1:=E) (n:=0) x J X.dat X.fit ?_;show wpAny _ _ (seqItems? (.ref T) >>= _) _ _ _;refine aa (vQ hT U ?_);have ED:(pl.map λj=>rawInt (j:Nat)).toArray[i]?=some (rawInt (pl[i]:Nat)):=by simp[Y]
  dsimp only;rw[ED];show wpAny _ _ (setNextDrawn a pl[i] ep >>= _) _ _ _;refine aa ?_;unfold setNextDrawn;refine aa (iL J X.dat X.fit ?_);dsimp only;rw[af (show ¬((ep != ep)=true) by simp),he];refine aj ?_;refine aa (EB x λh2 k2 O=>aj ⟨_,rfl,done h2 k2 (.draw pl b G O ⟨oT,nT,by rw[k2.2 T (λq=>z q.symm)];exact hT,U⟩ z)⟩)
 | tab sl b l G x y=>
  have hz:es.size=1/\i=0:=by
   rw[G]at hi;have:=(dB.mp hi).1;rw[dJ]at this;omega
  have EE:es[i]?=some e:=by rw[G,mC]at hi;exact hi
  have bO:t.place.size=1:=by
   have:=X.fit;unfold SetTable.fits at this;simp only[gD,jP]at this;omega
  obtain⟨j,hj⟩:∃j,t.place = #[j]:=by
   rcases hp:t.place with⟨l⟩
   rw[hp]at bO
   match l,bO with
   | [j],_=>exact⟨j,rfl⟩
  refine uX (E1:=E) (n:=0) x J X.dat X.fit ?_;show wpAny _ _ (setNext a sl i ep >>= _) _ _ _;refine aa (MM b J X.dat X.fit X.led l ?_);have EF:t.place[i]?=some j:=by rw[hj,hz.2];rfl
  rw[y,EE,EF];refine aa (EA x λh1 k1 x1=>aa (EB (s:={ s with heap:=h1 }) x1 λh2 k2 O=>aj ⟨_,rfl,done h2 (k1.trans k2) (.tab (j+1) b l G O (by rw[hj,(MK j).2,hz.2]))⟩))
theorem ad2{Q:Option Value->Shared->Prop}(O:A.handled=none)(x:uW w I a T os os.length s.heap)(q:∀h',Heap.ExtBut I s.heap h'->Q none { s with heap:=h' }):wpAny (model prog w) A (pyNext (.ref I)) Q E s:=by
 obtain⟨o,es,ep,t,xs,G,X,pm,uY,m⟩:=x;have hn:os.length=es.size:=by rw[pm.length_eq,dJ]
 have U:∀h' e,Heap.ExtBut I s.heap h'->Shared.TypeIs { s with heap:=h' } e "StopIteration"->Shared.TypeIs { s with heap:=h' } e "StopIteration"/\Q none { s with heap:=h' }:=λh' e k z=>⟨z,q h' k⟩;cases m with
 | text b J x=>
  refine uX (E1:=E) (n:=0) x G X.dat X.fit ?_;show wpAny _ _ (setNext a 0 os.length ep >>= _) _ _ _;refine aa (ML b G X.dat X.fit ?_);have qL:(pickOrder (w.params.setOrder a ep) es)[os.length]?=none:=by
   have:(pickOrder (w.params.setOrder a ep) es).toList[os.length]?=none:=by rw[<-J];simp
   rwa [mC]at this
  rw[qL];exact EC O x U
 | draw pl b J x y z=>
  obtain⟨oT,nT,hT,Y⟩:=y;refine uX (E1:=E) (n:=0) x G X.dat X.fit ?_;show wpAny _ _ (seqItems? (.ref T) >>= _) _ _ _;refine aa (vQ hT Y ?_);have ED:(pl.map λj=>rawInt (j:Nat)).toArray[os.length]?=none:=by simp[J.1]
  dsimp only;rw[ED];refine aa (EA x λh1 k1 x1=>?_);refine EC (s:={ s with heap:=h1 }) O x1 λh' e k z=>U h' e (k1.extBut.trans k) z
 | tab sl b l J x y=>
  refine uX (E1:=E) (n:=0) x G X.dat X.fit ?_;show wpAny _ _ (setNext a sl os.length ep >>= _) _ _ _;refine aa (MM b G X.dat X.fit X.led l ?_);have EE:es[os.length]?=none:=by rw[hn];simp
  rw[y,EE];exact EC O x U
theorem ad3(hh:A.handled=none)(I a T:Addr)(os:List (Int×Value)):Walks prog w A I [I,a,T] [I] os.length (λi v=>∃e,os[i]?=some e/\v=e.2) (λi h=>uW w I a T os i h) where
 sub:=λb j=>by simp at j;simp[j]
 frame:=λi h h' st O=>by
  obtain⟨o,es,ep,t,xs,U,X,pm,Y,m⟩:=st;exact⟨o,es,ep,t,xs,O a (by simp) o U,X,pm,Y,m.keep λb j o e=>O b (by rcases j with rfl | rfl<;>simp) o e⟩
 item:=λi s Q E hi st G=>by
  refine ad1 st (fo hi) λh' k dC=>?_;exact G _ h' s.toks ⟨_,fo hi,rfl⟩ dC λb o j e=>k.extBut b o (λh=>j (by simp[h])) e
 done:=λs Q E st G=>ad2 hh st λh' iS=>G h' s.toks λb o j e=>iS b o (λh=>j (by simp[h])) e
 self:=λi s Q E st G=>by
  obtain⟨o,es,ep,t,xs,U,X,pm,Y,m⟩:=st;have J:s.TypeIs (.ref I) "set_iterator":=by
   cases m with
   | text b e x=>exact x.typeIs
   | draw pl b e x y z=>exact x.typeIs
   | tab sl b l e x y=>exact x.typeIs
  refine IP J LI (lE LI J acB ?_ (acE _));show wpAny _ _ (ret (.ref I)) _ _ s;exact aj ⟨_,rfl,"set_iterator",_,J,Ae.lookup,G⟩
theorem MN:∀{pl:List Nat},(∀j∈pl,j<es.size)->(pl.filterMap (es[·]?)).length=pl.length/\∀(k j:Nat),pl[k]?=some j->(pl.filterMap (es[·]?))[k]?=es[j]?
 | [],_=>⟨rfl,λk j h=>by cases h⟩
 | p::r,h=>by
  have J:p<es.size:=h p (by simp);have G:es[p]?=some es[p]:=oG J;obtain⟨h1,h2⟩:=MN (pl:=r) λj O=>h j (bL _ O);rw[List.filterMap_cons_some G];refine⟨by simp[h1],λk j z=>?_⟩;cases k with
  | zero=>cases z;exact G.symm
  | succ k=>exact h2 k j z
theorem ad4{Q:VP}(x:cy w s.heap a xs)(hQ:∀I T d h' os,s.heap.objs.size<=I->(∀b o,s.heap.get? b=some o->h'.get? b=some o)->(T=a\/s.heap.objs.size<=T)->uW w I a T os 0 h'->(os.map iy).Perm xs->(∀e∈os,mY w e)->Q (.ref I) { s with heap:=h',drawn:=d }) :
 wpAny (model prog w) A (pyIter (.ref a)) Q E s:=by
 obtain⟨o,es,ep,t,O,X⟩:=id x;have aH:=bi O;refine IP x.typeIs asq (lE asq x.typeIs acC ?_ (PySem.F.args_set_iter_1 _));unfold Builtin.«frozenset.__iter__»;refine aa (m:=Builtin.Frozenset.slot0 _ _) (aj ?_);refine aa ?_;unfold Builtin.Frozenset.sizeOf setEntries;refine aa (aa (iL O X.dat X.fit (aj (aj ?_))));refine aa ?_;unfold setDrawn;refine aa (iL O X.dat X.fit ?_);refine aa (m:=setsByText) (aa (qk (aj ?_)));show wpAny _ _ (pure (!fW w && (!t.plain && decide (es.size > 1)))) _ _ _;refine aj ?_;have Y:∀(f:Value) (d:_) (h1:Heap),(∀b o,s.heap.get? b=some o->h1.get? b=some o)->s.heap.objs.size<=h1.objs.size ->
  (∀h',(∀b o,h1.get? b=some o->h'.get? b=some o)->iR h' h1.objs.size a ep es.size f 0->h1.objs.size<h'.objs.size->∃T os,(T=a\/s.heap.objs.size<=T)/\os.Perm es.toList/\Md w h' h1.objs.size a T es ep t os 0) ->
  wpAny (model prog w) A.in1 (setEpoch a >>= λe=>newFields "set_iterator" [f,rawInt 0,.ref a,rawInt es.size,rawInt e] >>= λv=>ret v) (λY s'=>∃v,Y=.done (.ret v)/\∃T r,s'.TypeIs v T/\typeLookup (.type T) "__next__"=pure (some r)/\Q v s') E { s with heap:=h1,drawn:=d }:=by
  intro f d h1 k1 hz hm;refine aa ?_;unfold setEpoch;refine aa (iL (s:={ s with heap:=h1,drawn:=d }) (k1 a o O) X.dat X.fit (aj ?_));refine aa (rG ?_);have G:iR (h1.push { cls:=.type "set_iterator",data:=.fields #[f,rawInt 0,.ref a,rawInt es.size,rawInt ep] }) h1.objs.size a ep es.size f 0:=⟨_,cT _ rfl,rfl,rfl⟩;obtain⟨T,os,hT,pm,m⟩:=hm _ (λb o e=>bB _ e) G (by rw[qg];exact vV _);refine aj ⟨_,rfl,"set_iterator",_,G.typeIs (s:={ s with heap:=_,drawn:=d }),Ae.lookup,?_⟩;refine hQ h1.objs.size T d _ os hz (λb o e=>bB _ (k1 b o e)) hT ⟨o,es,ep,t,xs,bB _ (k1 a o O),X,pm,kJ (gB aH hz),m⟩ ((pm.map iy).trans X.perm) λe he=>X.good e (pm.mem_iff.mp he)
 cases hb:(!fW w && (!t.plain && decide (es.size > 1))) with
 | false=>
  rw[af cn];refine aa (m:=pure (rawInt 0)) (aj ?_);refine Y (rawInt 0) s.drawn s.heap (λb o e=>e) (aD _) λh' k G hl=>?_;cases J:fW w with
  | true=>exact⟨a,_,.inl rfl,MI _ _,.text J rfl G⟩
  | false=>
   have hs:es.size<=1:=by
    refine U9 λz=>?_;rw[J,X.pl (by omega),bw (by omega:es.size > 1)]at hb;cases hb
   refine⟨a,_,.inl rfl,.refl _,.tab 0 J hs rfl G ?_⟩;have bO:t.place.size=es.size:=by
    have:=X.fit;unfold SetTable.fits at this;simp only[gD,jP]at this;exact this.1
   rcases U:t.place with⟨l⟩
   rw[U]at bO
   match l,bO with
   | [],_=>rfl
   | [j],_=>exact(MK j).1
   | _::_::_,z=>simp at z;omega
 | true=>
  have J:fW w=false:=by cases J:fW w with | false=>rfl | true=>rw[J]at hb;cases hb
  rw[ai rfl];refine aa (MJ es.size (List.range es.size) s _ (by simp) λpl d U=>?_);have hsz:es.size<=sizeLine:=v4 X.bnd;refine aa (wpAny_newTuple ?_ (by rw[ah,U.length_eq,mE];exact hsz));have cV:∀j∈pl,j<es.size:=λj hj=>iK.mp (U.mem_iff.mp hj);obtain⟨g1,g2⟩:=MN cV;refine Y (.ref s.heap.objs.size) d (s.heap.push { cls:=.type "tuple",data:=.seq (pl.map fun(i:Nat)=>rawInt i).toArray }) (λb o e=>bB _ e) (by rw[qg];exact vW _) λh' k G hl=>?_;refine⟨s.heap.objs.size,pl.filterMap (es[·]?),.inr (aD _),?_,.draw pl J ⟨g1,g2⟩ G ⟨_,0,k _ _ (cT _ rfl),rfl⟩ (kJ (by rw[qg];exact vV _))⟩;exact(U.filterMap _).trans (by rw[asr])
end
theorem EG:∀{os:List (Int×Value)},(∀e∈os,mY w e)->StrsAre (os.map (·.2)) (os.map iy)
 | [],_=>.nil
 | e::r,h=>by
  obtain⟨y,tk,rfl⟩:=h e (by simp);exact .cons y tk (EG λe j=>h e (bL _ j))
section
variable {prog:Program}{A:Around}{E:VP}
theorem ad5{R:Result->Shared->Prop}(hh:A.handled=none)(x:cy w s.heap a xs)(S:Addr)(O:S≠a)(res:Value)(c₀:Nat)(hS:s.heap.get? S=some { cls:=.type "list",data:=.seq #[] c₀ })
 (hR:∀(h':Heap) (tk:Nat) (d:Drawn) (os:List (Int×Value)) (a0:Av) (c':Nat),(∀b o,b≠S->s.heap.get? b=some o->h'.get? b=some o)->h'.get? S=some { cls:=.type "list",dict:=none,data:=.seq a0 c',slots:=#[] }->a0.toList=os.map (·.2)->(os.map iy).Perm xs->(∀e∈os,mY w e)->R (.ok (.ret res)) { s with heap:=h',toks:=tk,drawn:=d }) (hn:xs.length<=sizeLine) :
 wpAny (model prog w) A.in1 (Builtin.List.listExtendWith (.ref S) (.ref a) res) (λa1 s'=>match a1 with | .done f=>R (.ok f) s' | .again c'=>c'.quiet=true/\codeAny (model prog w) A c' R s') (λe s'=>R (.error e) s') s:=by
 unfold Builtin.List.listExtendWith;refine aa (IR (T:="set") x.typeIs ?_);have h1:Builtin.List.listSameRef (.ref S) (.ref a)=false:=by simp[Builtin.List.listSameRef,O]
 have h2:(Value.type "set" == Value.type "list")=false:=by decide
 have h3:(Value.type "set" == Value.type "tuple")=false:=by decide
 simp only[h1,h2,h3,rC,kI,iI];refine aa (ad4 x λI T d hp os hI kp hT st pm gd=>?_);have wY:=bi hS;have ln:os.length=xs.length:=by have:=pm.length_eq;rwa [ah]at this
 have a2:S≠T:=λz=>hT.elim (λq=>O (z.trans q)) λq=>absurd (gB (z▸wY) q) (oA _);have wZ:S∉[I,a,T]:=by
  simp only[bc,i7,i8,rJ];exact⟨cg (gB wY hI),O,a2⟩
 have W:=ad3 (prog:=prog) (w:=w) (A:=A.in1) hh I a T os;have key:∀(h:Heap) (U tk:Nat),uW w I a T os 0 h->(∀b o,b≠S->s.heap.get? b=some o->h.get? b=some o)->h.get? S=some { cls:=.type "list",data:=.seq #[] U } ->
  codeAny (model prog w) A (.builtin "list.extend.loop" ⟨[.ref S,.ref I,res],[]⟩) R { s with heap:=h,toks:=tk,drawn:=d }:=by
  intro h U tk eO hk J;refine codeAny_extend_loopS W.toS (by omega) S wZ res os.length 0 _ #[] U rfl (cE _) eO J (ItemsOf.nil _) λs' MO c' hm iO Y=>?_;rw[Moved.eq_with hm];refine hR s'.heap s'.toks d os MO c' (λb o G e=>hm.heap b o (λlY=>?_) (hk b o G e)) iO ?_ pm gd
  . rcases bc.mp lY with e' | lY
    . exact G e'
    have aH:=bi e;rw[bX.mp lY]at aH;exact absurd (gB aH hI) (oA _)
  refine List.ext_getElem? λj=>?_;rw[mC,cz]
  by_cases hj:j<os.length
  . have MP:j<MO.size:=by rw[Y.1];exact hj
    obtain⟨e,he,hv⟩:=Y.2 j _ (oG MP);rw[he,oG MP,hv];rfl
  rw[CA (by rw[Y.1];omega),aso (by omega)];rfl
 have J:=kp _ _ hS;refine aa (iJ (acG (cy.typeIs (s:={ s with heap:=hp,drawn:=d }) (x.at' λo e=>kp a o e)) ?_));refine IQ (λ_=>?_) (λ_=>aj ⟨oH ass _,key _ c₀ _ st (λb o _ e=>kp b o e) J⟩);refine aa (rA (aa ?_));show wpAny _ _ (updateSeq S (·.push .none) >>= λ_=>updateSeq S (·.pop)) _ _ _;refine aa (CH (s:={ s with heap:=hp,drawn:=d }) J rfl ?_);have MQ:=yT (Obj.mapSeq (·.push Value.none)) J rfl;refine CH (hz:=by seq_fits) MQ rfl ?_;have a3:=yT (Obj.mapSeq (·.pop)) MQ rfl;refine aj ⟨oH ass _,key _ _ _ (W.frame 0 _ _ st λb G o e=>?_) (λb o G e=>?_) a3⟩
 . have MR:b≠S:=λh=>wZ (h▸G);exact(Cp _ _ (gj MR)).trans ((Cp _ _ (gj MR)).trans e)
 exact(Cp _ _ (gj G)).trans ((Cp _ _ (gj G)).trans (kp b o e))
theorem ad8{R:Lw->Shared->Prop}(hh:A.handled=none)(x:cy w s.heap a xs)
 (h:∀(h':Heap) (tk:Nat) (d:Drawn) (us:Lw) (ys:Ls),(∀b o,s.heap.get? b=some o->h'.get? b=some o)->StrsAre us ys->ys.Perm xs->R us { s with heap:=h',toks:=tk,drawn:=d }) (hn:xs.length<=sizeLine):wpAny (model prog w) A (collect (.ref a)) R E s:=by
 obtain⟨o,_,_,_,ho,_⟩:=id x;have O:=bi ho;unfold collect;refine aa (wpAny_runValue (mD PyProof.Rows.entry_proto_collect' ?_));rw[ql PySem.F.plain_proto_collect _];show wpAny _ A.in1 (newList [] >>= λl=>again (.builtin "list.__iadd__" ⟨[l,.ref a],[]⟩)) _ _ s;refine aa (rG (aj ⟨oH ast _,mD PyProof.Rows.entry_list_iadd' ?_⟩));rw[ql ast _];show wpAny _ A.in1 (Builtin.List.listExtendWith (.ref s.heap.objs.size) (.ref a) (.ref s.heap.objs.size)) _ _ _;have key:=ad5 (prog:=prog) (A:=A) (s:={ s with heap:=s.heap.push { cls:=.type "list",data:=.seq ([]:Lw).toArray } })
  (R:=fun(q:Result) (s':Shared)=>∃(h':Heap) (tk:Nat) (d:Drawn) (os:List (Int×Value)) (j:Av) (c':Nat),q=.ok (.ret (.ref s.heap.objs.size))/\s'={ s with heap:=h',toks:=tk,drawn:=d }/\(∀b o,s.heap.get? b=some o->h'.get? b=some o) /\
   h'.get? s.heap.objs.size=some { cls:=.type "list",dict:=none,data:=.seq j c',slots:=#[] }/\j.toList=os.map (·.2)/\(os.map iy).Perm xs/\∀e∈os,mY w e)
  hh (x.at' λo e=>bB _ e) s.heap.objs.size (kJ O) (.ref s.heap.objs.size) 0 (cT _ rfl)
  (λh' tk d os j c' G J e1 e2 e3=>⟨h',tk,d,os,j,c',rfl,rfl,λb o e=>G b o (cg (bi e)) (bB _ e),J,e1,e2,e3⟩) hn
 refine dH key (λY s' z=>?_) λe s' z=>?_
 . cases Y with
   | done f=>
    obtain⟨h',tk,d,os,j,c',e,rfl,G,J,e1,e2,e3⟩:=z;cases e;show wpAny _ A (load s.heap.objs.size >>= _) _ _ _;refine aa (wpAny_load (s:={ s with heap:=h',toks:=tk,drawn:=d }) J (aj ?_));exact h h' tk d _ _ G (by rw[e1];exact EG e3) e2
   | again c₁=>
    refine⟨z.1,qh z.2 λq s₂ y=>?_⟩;obtain⟨h',tk,d,os,j,c',rfl,rfl,G,J,e1,e2,e3⟩:=y;show wpAny _ A (load s.heap.objs.size >>= _) _ _ _;refine aa (wpAny_load (s:={ s with heap:=h',toks:=tk,drawn:=d }) J (aj ?_));exact h h' tk d _ _ G (by rw[e1];exact EG e3) e2
 obtain⟨_,_,_,_,_,_,U,_⟩:=z;cases U
theorem ad9{r:Addr}{Q:VP}(wP:wpAny (model prog w) A.in1 (collect (.ref r)) (λus s'=>∃(ys:Ls) (h':Heap) (tk:Nat) (d:Drawn),s'={ s with heap:=h',toks:=tk,drawn:=d }/\StrsAre us ys/\us.length<64 /\
 ∀(h2:Heap) (out:Lw) (j:Ls) (e:Nat),(∀b o,h'.get? b=some o->h2.get? b=some o)->h2.get? h'.objs.size=some (seqObj "list" out.toArray e)->StrsAre out j->j.Perm ys->sortedS j=true->Q (.ref h'.objs.size) { s with heap:=h2,toks:=tk,drawn:=d }) E s) :
 wpAny (model prog w) A (call (.builtin "sorted") [.ref r]) Q E s:=by
 refine Va kind_sorted Vb Vc (Vd _) ?_;unfold Builtin.«sorted»;refine aa (m:=checkCount "sorted" 1 1 _) (aj ?_);refine aa (dH wP (λus s' a0=>a0.elim λys a3=>a3.elim λh' a4=>a4.elim λtk a5=>a5.elim λd a6=>a6.elim λes a7=>a7.elim λz a9=>a9.elim λqD ab=>?_) λ_ _ e=>e);subst es;refine aa (Cz ?_ (by rw[qf];omega));have G:(h'.push (seqObj "list" us.toArray 0)).get? h'.objs.size=some (seqObj "list" us.toArray 0):=cT _ rfl;show wpAny _ _ _ _ _ { s with heap:=h'.push (seqObj "list" us.toArray 0),toks:=tk,drawn:=d };refine aa (iJ (lE Ve ⟨_,G,rfl⟩ Vf (list_sort_treeK strKind_oneLt G z.keysOf (λv₁ v₂ rest e=>keyKind_strs (by rw[<-e];exact z)) qD λJ U Y=>⟨_,rfl,?_⟩) (Vg _)));obtain⟨j,h1,h2,h3⟩:=sorted_out_str z U Y;obtain⟨e,he⟩:=Vh (vs:=us) (out:=(arrOf J).map (·.2)) G;refine aj ⟨_,rfl,ab _ ((arrOf J).map (·.2)).toList j e (λb o q=>?_) (by rw[Vi];exact he) h1 h2 h3⟩;have O:=bi q;rw[Vj (cg O) (by rw[qg];exact IM O)];exact bB _ q
end
def mZ(w:World)(a:Addr)(xs:Ls):HO:=.ext λh=>cy w h a xs
theorem EI{H:Hp}{h:Heap}(x:cy w h a xs):bE P w H h a (mZ w a xs):=
 ⟨x,x.elim λo j=>j.elim λ_ G=>G.elim λ_ J=>J.elim λ_ O=>O.elim λe _=>⟨o,e⟩,λ_ _ z k=>z.at' k⟩
theorem EJ{H:Hp}{h:Heap}(ok:bQ P w H h)(e:H a=some (mZ w a xs)):cy w h a xs:=(show bE P w H h a (mZ w a xs) from ok a _ e).1
section
variable {X:Cx}{a_:Po}{Z:List (Option V)} {H:Hp}
theorem Inv.drew{d:Drawn}(I:Inv X a_ Z H s):Inv X a_ Z H { s with drawn:=d }:=⟨I.ok,I.os,I.bare,I.base,I.loc,I.cell,I.free,I.freeC,I.pin,I.hok,I.len⟩
theorem EK(U:X.calm=true):eV X (.builtin "sorted") (λvs H Q=>∃p xs,vs=[.ref p]/\H p=some (mZ X.w p xs)/\xs.length<64/\∀ys,ys.Perm xs->sortedS ys=true->fV H (.lst (ys.map V.str)) Q):=by
 intro a_ s Z H xs us Q I r h;obtain⟨p,zs,rfl,e,qD,q⟩:=h;obtain⟨u,rfl,ru⟩:=vals1 r;cases ru;refine ad9 (ad8 (I.ok.hd U) (EJ I.hok e) (λh' tk d us ys k hs G=>?_) (lS (by omega)));have hl:=G.length_eq;have sy:=Vk hs;have j:Inv X a_ Z H { s with heap:=h',toks:=tk,drawn:=d }:=(I.kept (t':=tk) k).drew;refine⟨ys,h',tk,d,rfl,hs,by omega,λh2 out O e' k2 Y iO z J=>?_⟩;have a0:=z.length_eq;exact⟨.ref h'.objs.size,_,LA (s:={ s with drawn:=d }) j k2 Y iO (lS (by omega)),rfl,(q O (z.trans G) J).at _ (j.hok.fresh (aD _))⟩
end
theorem MS{j:Array Nat}(z:j.toList.Perm (List.range es.size)):(j.filterMap (es[·]?)).toList.Perm es.toList:=by
 rw[Array.toList_filterMap];exact(z.filterMap _).trans (by rw[asr])
theorem ael(h:n<=252):pi (SetTable.sizeAbove n - 1)/\n<=SetTable.sizeAbove n - 1/\SetTable.sizeAbove n<=256:=by
 have hd:(List.range 253).all (λn=>decide ((SetTable.sizeAbove n - 1=7\/SetTable.sizeAbove n - 1=15\/SetTable.sizeAbove n - 1=31\/SetTable.sizeAbove n - 1=63\/SetTable.sizeAbove n - 1=127\/SetTable.sizeAbove n - 1=255)/\n<=SetTable.sizeAbove n - 1/\SetTable.sizeAbove n<=256))=true:=by decide +kernel
 unfold pi;exact cq (eT.mp hd n (iK.mpr (by omega)))
section
variable {prog:Program}{A:Around}{E:VP}
theorem EL:fc w { cls:=.type "set",dict:=none,data:=.set #[] 0 (.fresh 0 0 (!fW w)) } #[] 0 (.fresh 0 0 (!fW w)) []:=
 ⟨⟨rfl,rfl,rfl⟩,rfl,(λe j=>by cases j),.nil,.nil,by decide,rfl,rfl,λh=>absurd rfl h,λ_=>.inl rfl⟩
theorem aem{t:SetTable}{Q:Unit->Shared->Prop}(G:s.heap.get? a=some o)(X:fc w o es ep t xs)(hn:n<=252)(hx:xs.length<=n)
 (q:∀h' o' es' t',Heap.SameBut a s.heap h'->h'.get? a=some o'->fc w o' es' (ep+1) t' xs->n<=t'.mask->Q () { s with heap:=h' }):wpAny (model prog w) A (setRelay a n) Q E s:=by
 obtain⟨m1,m2,m3⟩:=ael hn;unfold setRelay;refine aa (iL G X.dat X.fit ?_);dsimp only;have sl:¬(SetTable.sizeAbove n > sizeLine):=by rw[qf];omega
 rw[af sl];have hz:=X.size;have hsz:(es.map (·.1)).size=es.size:=Array.size_map;obtain⟨t',J,e,Y,O,hl,cV,U⟩:=MC (mask:=SetTable.sizeAbove n - 1) (f:=t.finger) (m:=t.movedTo (SetTable.sizeAbove n - 1)) (led:=t.led) (plain:=t.plain) (hs:=es.map (·.1)) m1 (by rw[hsz];omega);rw[hsz]at Y O;have e':t.relaid (es.map (·.1)) n=some (t',J):=e;rw[e'];have pm:=MS Y;have j:(J.filterMap (es[·]?)).size=es.size:=by rw[<-dJ,pm.length_eq,dJ]
 refine aa ?_;show wpAny _ _ (if ((J.filterMap (es[·]?)).size != es.size)=true then _ else _) _ _ _;rw[af (by rw[j];simp)];refine aj ?_;dsimp only;refine yU G X.dat ?_ (by rw[j];exact v4 X.bnd);refine q _ _ _ t' (kL ..) (fc.store G X.ex X.dat) ⟨X.ex,rfl,λe he=>X.good e (pm.mem_iff.mp he),(pm.map iy).trans X.perm,X.nd,X.len,by rw[j];exact O,hl.trans X.led,λz=>cV.trans (X.pl (by rw[<-j];exact z)),λ_=>by rw[U];exact m1⟩ (by rw[U];exact m2)
theorem MT{Q:Unit->Shared->Prop}(x:cy w s.heap a xs)(hn:xs.length+n<=126)
 (q:∀h' o' es' Y t',Heap.SameBut a s.heap h'->h'.get? a=some o'->fc w o' es' Y t' xs->(t'.fill=0->n<=t'.mask)->Q () { s with heap:=h' }):wpAny (model prog w) A (setRoomFor a n) Q E s:=by
 obtain⟨o,es,ep,t,G,X⟩:=x;have j:t.place.size=xs.length:=by
  have:=X.fit;unfold SetTable.fits at this;simp only[gD,jP]at this;rw[this.1,X.size]
 unfold setRoomFor;refine aa (iL G X.dat X.fit ?_);show wpAny _ _ (match t.roomFor n with | some U=>setRelay a U | x=>pure PUnit.unit) _ _ _;unfold SetTable.roomFor
 by_cases J:(t.fill+n) * 5 >= t.mask * 3
 . rw[ai J];refine aem G X (by rw[j];omega) (by rw[j];omega) λh' o' es' t' k h1 h2 O=>q h' o' es' _ t' k h1 h2 λ_=>by rw[j]at O;omega
 rw[af J];exact aj (q s.heap o es ep t (CF _ _) G X λz=>by rw[z]at J;omega)
end
section
variable {prog:Program}{A:Around}{E:VP}{f:Addr}
theorem aen{t:SetTable}{Q:Array (Int×Value)->Shared->Prop}(G:s.heap.get? a=some o)(X:fc w o es ep t xs)(c:fW w=true\/es.size<=1)(q:∀z:Array (Int×Value),z.toList.Perm es.toList->Q z s) :
 wpAny (model prog w) A (setWalk a) Q E s:=by
 unfold setWalk;refine aa (iL G X.dat X.fit ?_);refine aa (m:=setsByText) (aa (qk (aj ?_)));cases j:fW w with
 | true=>
  have j:w.params.followText "set-order"=true:=j;show wpAny _ _ (if w.params.followText "set-order"=true then _ else _) _ _ s;rw[ai j];exact aa (qk (aj (q _ (MI _ _))))
 | false=>
  have hs:es.size<=1:=by
   rcases c with c | c
   . rw[c]at j;cases j
   exact c
  have j:w.params.followText "set-order"=false:=j;show wpAny _ _ (if w.params.followText "set-order"=true then _ else _) _ _ s;rw[af (by rw[j];exact cn)];show wpAny _ _ (if (!t.plain && decide (es.size > 1))=true then _ else _) _ _ s;rw[af (by rw[bM (by omega),qi];exact cn)];show wpAny _ _ ((if (!t.led && decide (es.size > 1))=true then _ else _) >>= _) _ _ s;rw[af (by rw[bM (by omega),qi];exact cn)];exact aa (aj (aj (q _ (.refl _))))
theorem aeo{G:List Addr}{Q:Bool->Shared->Prop}(h:∀b∈G,∃xs,cy w s.heap b xs)(q:Q true s):wpAny (model prog w) A (setsQuiet G) Q E s:=by
 unfold setsQuiet;refine aa (oq _ (λrest r s'=>r.1=none/\s'=s/\∀b∈rest,∃xs,cy w s.heap b xs) _ ?_ ?_ _ _ ⟨rfl,rfl,h⟩)
 . rintro b rest r s' ⟨e1,rfl,U⟩;obtain⟨xs,o,es,ep,t,ho,X⟩:=U b (by simp);unfold setEntries;refine aa (aa (iL ho X.dat X.fit (aj ?_)));refine aa (wpAny_forIn_array' _ (λJ j z=>j.1=none/\z=s'/\∀e∈J,mY w e) _ ?_ ?_ _ _ ⟨rfl,rfl,X.good⟩)
   . rintro e J j z ⟨e3,rfl,O⟩;obtain⟨y,tk,rfl⟩:=O e (by simp);exact aj ⟨rfl,rfl,λe he=>O e (bL _ he)⟩
   rintro⟨j,u2⟩ z ⟨e3,rfl,_⟩;dsimp only at e3;subst e3;exact aj ⟨rfl,rfl,λb Y=>U b (bL _ Y)⟩
 rintro⟨r,u⟩ s' ⟨e1,rfl,_⟩;dsimp only at e1;subst e1;exact aj q
theorem aep{t:SetTable}{U:Ls}{Q:Array (Int×Value)->Shared->Prop}(J:s.heap.get? a=some o)(X:fc w o es ep t U)(y:cy w s.heap f xs)(cC:f≠a)
 (q:∀h' (j:Array (Int×Value)),Heap.SameBut f s.heap h'->cy w h' f xs->j.toList.Perm es.toList->Q j { s with heap:=h' }):wpAny (model prog w) A (setWalkUnseen a [f] (some f)) Q E s:=by
 unfold setWalkUnseen;refine aa (iL J X.dat X.fit ?_);refine aa (m:=setsByText) (aa (qk (aj ?_)));show wpAny _ _ (if (fW w || (t.led && t.plain) || decide (es.size<=1))=true then _ else _) _ _ _
 by_cases c:(fW w || (t.led && t.plain) || decide (es.size<=1))=true
 . rw[ai c];refine aen J X ?_ λj pm=>q s.heap j (CF _ _) y pm
   by_cases hz:es.size<=1
   . exact .inr hz
   rw[X.pl (by omega),bM hz,qi,rC,rC]at c;exact .inl c
 rw[af c];refine aa (aeo (λb hb=>?_) ?_)
 . rcases bc.mp hb with rfl | hb
   . exact⟨U,o,es,ep,t,J,X⟩
   rw[bX.mp hb];exact⟨xs,y⟩
 show wpAny _ _ (if (!true)=true then _ else _) _ _ _;rw[af (by decide)];refine aa (rA ?_);obtain⟨of,Y,a0,O,G,F⟩:=id y;show wpAny _ _ (setState f >>= _) _ _ _;refine aa (iL G F.dat F.fit ?_);dsimp only;split
 . refine aa (yU G F.dat ?_ (v4 F.bnd));refine aj (q _ es (kL ..) ⟨_,Y,_,_,fc.store G F.ex F.dat,F.ex,rfl,F.good,F.perm,F.nd,F.len,?_,?_,?_,?_⟩ (.refl _))
   . have:=F.fit;cases O;exact this
   . show(O.led && t.led)=_;rw[F.led,X.led,Vz]
   . intro z;show(O.plain && t.plain)=false;rw[F.pl z,vS]
   exact F.msk
 exact aj (q s.heap es (CF _ _) y (.refl _))
theorem MW{a0:Sem Unit}{j:Array (Int×Value)}{t:SetTable}{O:Ls}{Q:Unit->Shared->Prop}(ho:s.heap.get? a=some o)(X:fc w o j ep t O)(y:cy w s.heap f xs)(U:f≠a)(hz:xs.length+O.length<=126)
 (hE:∀(s':Shared) (Q:Unit->Shared->Prop),s'.heap.get? a=some o->Q () s'->wpAny (model prog w) A a0 Q E s')
 (q:∀h' ys,Heap.SameBut f s.heap h'->cy w h' f ys->(∀z,z∈ys↔z∈xs\/z∈O)->Q () { s with heap:=h' }):wpAny (model prog w) A (setMerge f a a0) Q E s:=by
 have ze:=X.size;unfold setMerge;rw[af (by simpa using U)];refine aa (iL ho X.dat X.fit ?_);dsimp only
 by_cases G:j.isEmpty=true
 . rw[ai G];have h0:O=[]:=vZ.mp (by rw[<-ze];simpa using G);exact aj (q s.heap xs (CF _ _) y λz=>by rw[h0];simp)
 rw[af G];refine aa (MT (n:=j.size) y (by rw[ze];exact hz) λh1 of c9 MX t1 k1 e1 F hm=>?_);have m8:h1.get? a=some o:=by rw[k1.2 a (gj U)];exact ho
 refine aa (iL (s:={ s with heap:=h1 }) e1 F.dat F.fit ?_);dsimp only;have bO:t1.place.size=xs.length:=by
  have:=F.fit;unfold SetTable.fits at this;simp only[gD,jP]at this;rw[this.1,F.size]
 have MY:j.size≠0:=λz=>G (by simpa using z);have L3:t1.fill=0->xs=[]/\c9.size=0:=λz=>by
  unfold SetTable.fill at z;have:xs.length=0:=by omega
  exact⟨vZ.mp this,by rw[F.size,this]⟩
 by_cases AB:t1.fill=0
 . obtain⟨hx,a3⟩:=L3 AB;unfold SetTable.road;rw[af (by rw[AB];simp)]
   by_cases hr:(t1.mask == t.mask && t.dummies.isEmpty)=true
   . rw[ai hr];dsimp only;refine yU e1 F.dat ?_ (v4 X.bnd);refine q _ O (k1.trans (kL ..)) ⟨_,j,_,_,fc.store e1 F.ex F.dat,F.ex,rfl,X.good,X.perm,X.nd,X.len,?_,?_,?_,λz=>absurd z MY⟩ λz=>by rw[hx];simp
     . have:=X.fit;cases t;exact this
     . show(t1.led && t.led)=_;rw[F.led,X.led,Vz]
     intro z;show(t1.plain && t.plain)=false;rw[X.pl z,qi]
   rw[af hr];dsimp only;have hsz:(j.map (·.1)).size=j.size:=Array.size_map;obtain⟨t',a1,e,hp,hf,hl,cV,MZ⟩:=MC (mask:=t1.mask) (f:=t1.finger) (m:=t1.moves) (led:=t1.led && t.led) (plain:=t1.plain && t.plain) (hs:=j.map (·.1)) (F.msk a3) (by rw[hsz];exact hm AB);rw[hsz]at hp hf;rw[e];have pm:=MS hp;have Y:(a1.filterMap (j[·]?)).size=j.size:=by rw[<-dJ,pm.length_eq,dJ]
   refine aa ?_;show wpAny _ _ (if ((a1.filterMap (j[·]?)).size != j.size)=true then _ else _) _ _ _;rw[af (by rw[Y];simp)];refine aj ?_;dsimp only;refine yU e1 F.dat ?_ (by rw[Y];exact v4 X.bnd);refine q _ O (k1.trans (kL ..)) ⟨_,_,_,t',fc.store e1 F.ex F.dat,F.ex,rfl,λe G=>X.good e (pm.mem_iff.mp G),(pm.map iy).trans X.perm,X.nd,X.len,by rw[Y];exact hf,?_,?_,λz=>absurd (Y.symm.trans z) MY⟩ λz=>by rw[hx];simp
   . rw[hl,F.led,X.led,Vz]
   intro z;rw[cV,X.pl (by rw[<-Y];exact z),qi]
 unfold SetTable.road;rw[ai (by simpa using AB)];dsimp only;refine aa (aep (s:={ s with heap:=h1 }) m8 X ⟨of,c9,MX,t1,e1,F⟩ U λh2 a2 k2 y2 pm=>?_);have gG:h2.get? a=some o:=by rw[k2.2 a (gj U)];exact m8
 refine aa (wpAny_forIn_array' _ (λrest _ s'=>∃J ys,s'={ s with heap:=J }/\Heap.SameBut f s.heap J/\cy w J f ys/\(∀e∈rest,mY w e)/\ys.length+rest.length<=252/\∀z,(z∈ys\/z∈rest.map iy)↔(z∈xs\/z∈O)) _ ?_ ?_ _ _ ⟨h2,xs,rfl,k1.trans k2,y2,λe G=>X.good e (pm.mem_iff.mp G),?_,λz=>?_⟩)
 . rintro e rest r s' ⟨J,ys,rfl,k3,y3,hg,hl,lY⟩;obtain⟨z,tk,rfl⟩:=hg e (by simp);have AC:J.get? a=some o:=by rw[k3.2 a (gj U)];exact ho
   rw[bq]at hl;refine aa (iJ (Ex (s:={ s with heap:=J }) y3 (by omega) λb h4 k4 y4=>?_));have AD:h4.get? a=some o:=by rw[k4.2 a (gj U)];exact AC
   refine aa (hE _ _ AD ?_);refine aa (iL (s:={ s with heap:=h4 }) AD X.dat X.fit ?_);dsimp only;rw[af (by simp)];refine aj ⟨h4,iQ ys z,rfl,k3.trans k4,y4,λe G=>hg e (bL _ G),by have:=Aw ys z;omega,λu=>?_⟩;rw[<-lY u,Ev,bp,bc];have ek:iy (lF w (.inr z),Value.str z tk)=z:=rfl;rw[ek];constructor
   . rintro((p | p) | p)
     . exact .inl p
     . exact .inr (.inl p)
     exact .inr (.inr p)
   rintro(p | p | p)
   . exact .inl (.inl p)
   . exact .inl (.inr p)
   exact .inr p
 . rintro r s' ⟨J,ys,rfl,k3,y3,_,_,lY⟩;exact aj (q J ys k3 y3 λz=>by rw[<-lY z];simp)
 . have e9:j.toList.length=j.size:=dJ;have e8:=pm.length_eq;omega
 have:z∈a2.toList.map iy↔z∈O:=((pm.map iy).trans X.perm).mem_iff;rw[this]
end
theorem iT[DecidableEq α]:∀{xs ys:List α},xs.Nodup->(∀z∈xs,z∈ys)->xs.length<=ys.length
 | [],ys,_,_=>cE _
 | x::xs,ys,hn,h=>by
  have j:=h x (by simp);have G:=i5.mp hn;have:=iT (xs:=xs) (ys:=ys.erase x) G.2 λz hz=>(List.mem_erase_of_ne (λe=>G.1 (by rw[<-e];exact hz))).mpr (h z (bL _ hz));rw[List.length_erase_of_mem j]at this;have J:0<ys.length:=asu j;rw[bq];omega
section
variable {prog:Program}{A:Around}{E:VP}{f:Addr}
theorem EN{v:Value}{Q:Bool->Shared->Prop}(j:s.TypeIs v "set")(q:Q true s):wpAny (model prog w) A (Builtin.Frozenset.isAnySet v) Q E s:=by
 unfold Builtin.Frozenset.isAnySet;show wpAny _ _ (isInstance v (.type "set") >>= _) _ _ _;exact aa (my (T:="set") (b:=true) j VA (aj q))
theorem aer{v:Value}{Q:Bool->Shared->Prop}(j:s.TypeIs v "dict")(q:Q false s):wpAny (model prog w) A (Builtin.Frozenset.isAnySet v) Q E s:=by
 unfold Builtin.Frozenset.isAnySet;show wpAny _ _ (isInstance v (.type "set") >>= _) _ _ _;refine aa (my (T:="dict") (b:=false) j PySem.F.sub_dict_set ?_);exact my (T:="dict") (b:=false) j PySem.F.sub_dict_frozenset q
theorem aes{Q:VP}(h:Q (.ref s.heap.objs.size) { s with heap:=s.heap.push { cls:=.type "set",dict:=none,data:=.set #[] 0 (.fresh 0 0 (!fW w)) } }):wpAny (model prog w) A (newSet (.type "set")) Q E s:=by
 unfold newSet;refine aa (m:=setsByText) (aa (qk (aj ?_)));exact rG h
theorem aet{Q:VP}(x:cy w s.heap a xs)(hz:xs.length<=126)(q:∀h' ys,(∀b o,s.heap.get? b=some o->h'.get? b=some o)->s.heap.objs.size<h'.objs.size->cy w h' s.heap.objs.size ys->(∀z,z∈ys↔z∈xs)->Q (.ref s.heap.objs.size) { s with heap:=h' }) :
 wpAny (model prog w) A (Builtin.Frozenset.copyOf a) Q E s:=by
 obtain⟨o,es,ep,t,j,X⟩:=id x;have G:=bi j;unfold Builtin.Frozenset.copyOf;refine aa ?_;unfold Builtin.Frozenset.baseOf;refine aa (my (T:="set") (b:=true) x.typeIs VA (aj ?_));rw[ai rfl];refine aa (aes ?_);refine aa (m:=Builtin.Frozenset.addrOf _) (aj ?_);have U:=bB { cls:=.type "set",dict:=none,data:=.set #[] 0 (.fresh 0 0 (!fW w)) } j;refine aa (MW (s:={ s with heap:=_ }) U X ⟨_,_,_,_,cT _ rfl,EL⟩ (kJ G) (by simpa using hz) (λs' Q _ h=>aj h) λh' ys k y O=>aj ?_);refine q h' ys (λb o e=>?_) ?_ y λz=>by rw[O z];simp
 . rw[k.2 b (cg (bi e))];exact bB _ e
 obtain⟨o',_,_,_,J,_⟩:=y;exact bi J
theorem aeu:entryFor table "set.__or__"=some Builtin.«frozenset.__or__»:=IN (id':="frozenset.__or__") (by kernel_rfl) rfl (by decide +kernel) (by kernel_rfl)
theorem aev{l r:Addr}{Q:VP}(x:cy w s.heap l xs)(y:cy w s.heap r ys)(U:l≠r)(hz:xs.length+ys.length<=126)
 (q:∀h' zs,(∀b o,s.heap.get? b=some o->h'.get? b=some o)->cy w h' s.heap.objs.size zs->(∀z,z∈zs↔z∈xs\/z∈ys)->Q (.ref s.heap.objs.size) { s with heap:=h' }) :
 wpAny (model prog w) A (call (.builtin "set.__or__") [.ref l,.ref r]) (λv s'=>v≠.notImplemented/\Q v s') E s:=by
 refine lE PySem.F.slot_set_or x.typeIs aeu ?_ (PySem.F.args_set_or_2 _ _);unfold Builtin.«frozenset.__or__»;show wpAny _ _ (Builtin.Frozenset.slot1 "__or__" ⟨[.ref l,.ref r],[]⟩ >>= _) _ _ _;refine aa (m:=Builtin.Frozenset.slot1 _ _) (aj ?_);dsimp only;rw[af cn];dsimp only;refine aa ?_;show wpAny _ _ (Builtin.Frozenset.isAnySet (.ref l) >>= _) _ _ _;refine aa (EN x.typeIs ?_);refine EN y.typeIs ?_;show wpAny _ _ (if (!true)=true then _ else _) _ _ _;rw[af (by decide)];refine aa (m:=Builtin.Frozenset.addrOf _) (aj ?_);refine aa ?_;show wpAny _ _ (Builtin.Frozenset.copyOf l >>= _) _ _ _;obtain⟨ox,_,_,_,a0,_⟩:=id x;have a2:=bi a0;refine aa (aet x (by omega) λh1 zs k1 xb O G=>?_);show wpAny _ _ (if (Value.ref r != Value.ref l)=true then _ else _) _ _ _;rw[ai (by simp[bne];exact λz=>U z.symm)];have J:=y.at' (h':=h1) λo e=>k1 _ o e;obtain⟨o,es,ep,t,j,X⟩:=id J;obtain⟨oy,_,_,_,a1,_⟩:=id y;have Y:=bi a1;have lz:zs.length<=xs.length:=by
  obtain⟨_,_,_,_,_,σ⟩:=O;obtain⟨_,_,_,_,_,X0⟩:=x;exact iT σ.nd λz hz=>(G z).mp hz
 refine aa (m:=Builtin.Frozenset.addrOf _) (aj (aa (iJ ?_)));unfold Builtin.Frozenset.updateFrom;refine aa (EN (s:={ s with heap:=h1 }) J.typeIs ?_);rw[ai rfl];refine aa (m:=Builtin.Frozenset.addrOf _) (aj ?_);refine aa (m:=setEpoch r) (wpAny_setEpoch_of (s:={ s with heap:=h1 }) j X.dat X.fit ?_);refine MW (s:={ s with heap:=h1 }) j X O (kJ Y) (by omega) (λs' Q' e q'=>?_) λh2 us k2 u2 m2=>?_
 . unfold Builtin.Frozenset.unchanged;refine aa (wpAny_setEpoch_of e X.dat X.fit ?_);rw[af (by simp)];exact aj q'
 refine aj (aj ⟨_,rfl,(by intro z;cases z),q h2 us (λb o e=>?_) u2 λz=>by rw[m2 z,G z]⟩);rw[k2.2 b (cg (bi e))];exact k1 b o e
def iz(w:World):Obj:={ cls:=.type "set",dict:=none,data:=.set #[] 0 (.fresh 0 0 (!fW w)) }
theorem aez(v:Value){Q₁:VP}(h:Q₁ (.ref s.heap.objs.size) { s with heap:=s.heap.push (iz w) }):codeAny (model prog w) A (.call (.builtin "set.__new__") ⟨[.type "set",v],[]⟩) (wants Q₁ E) s:=by
 refine codeAny_of_tree ?_;show wpAny _ A.in1 (do { checkBuiltinCall "set.__new__" ⟨[.type "set",v],[]⟩;again (.builtin "set.__new__" ⟨[.type "set",v],[]⟩) }) _ _ s;refine aa (IX (PySem.F.newCall_set_1 v) (aj ⟨oH asv _,mD PySem.F.entry_set_new ?_⟩));rw[ql asv _];unfold Builtin.«set.__new__» Builtin.Frozenset.newClass;have j:=VA;obtain⟨z,g,d,tk,os⟩:=s;dsimp only
 wp_walk
 refine qk (aj ?_);dsimp only;simp only[newObj];exact aa (wpAny_alloc (aj (aj h)))
theorem M0{v:Value}{Q:VP}(hq:∀J:Around,J.handled=A.handled->wpAny (model prog w) J (Builtin.Frozenset.updateFrom "set.__init__" s.heap.objs.size v) (λ_ s'=>Q (.ref s.heap.objs.size) s') E { s with heap:=s.heap.push (iz w) }) :
 wpAny (model prog w) A (call (.type "set") [v]) Q E s:=by
 obtain⟨c,tl,a2⟩:=uC.mro;have a3:=uC.made;have a1:=uC.sub;refine Cg (codeAny_of_tree ?_);show wpAny _ _ (callAny (.type "set") _) _ _ _;refine aj ⟨Code.quiet_builtin _ (by decide +kernel),mD PySem.F.entry_type_call ?_⟩;rw[Around.under_plain (weight_type_call_type "set" [v] []) rfl];have h1:=uC.notType;have h2:=uC.canCreate;have hct:=PySem.F.typeCall_set_1 v
 repeat (any_goals (first | assumption | wp_step))
 refine qh (aez v (E:=E) (Q₁:=λobj Y=>obj=.ref s.heap.objs.size/\Y={ s with heap:=s.heap.push (iz w) }) ⟨rfl,rfl⟩) λr Y G=>?_;cases r with
 | error e=>exact G
 | ok fl=>
  cases fl with
  | ret obj=>
   obtain⟨rfl,rfl⟩:=G;have U:(s.heap.push (iz w)).get? s.heap.objs.size=some (iz w):=cT _ rfl;have hT:Shared.TypeIs { s with heap:=s.heap.push (iz w) } (.ref s.heap.objs.size) "set":=⟨_,U,rfl⟩;have a6:=uC.init.lookup;have a5:=uC.init.bind (.ref s.heap.objs.size)
   repeat (any_goals (first | assumption | wp_step))
   refine qh (Vo (R:=wants (λr s₂=>r=.none/\Q (.ref s.heap.objs.size) s₂) E) uC.init.plain PySem.F.entry_set_init (check_set_init_1 hT ?_)) λr₂ s₂ j=>?_
   . unfold Builtin.«set.__init__» noKeywords;have O:=hq;generalize a4:Builtin.Frozenset.updateFrom=UF at O ⊢;have iO:(s.heap.push (iz w)).get? s.heap.objs.size=some { cls:=.type "set",dict:=none,data:=.set #[] 0 (.fresh 0 0 (!fW w)) }:=U
     wp_walk
     exact dH (O _ rfl) (λ_ s' z=>aj ⟨rfl,z⟩) λ_ _ e=>e
   cases r₂ with
   | error e=>exact j
   | ok a0=>
    cases a0 with
    | ret r=>
     obtain⟨rfl,z⟩:=j
     repeat (any_goals (first | assumption | wp_step))
    | _=>exact j.elim
  | _=>exact G.elim
theorem aeC{v:Value}{Q:Bool->Shared->Prop}(j:s.TypeIs v "list")(q:Q false s):wpAny (model prog w) A (Builtin.Frozenset.isAnySet v) Q E s:=by
 unfold Builtin.Frozenset.isAnySet;show wpAny _ _ (isInstance v (.type "set") >>= _) _ _ _;refine aa (my (T:="list") (b:=false) j PySem.F.sub_list_set ?_);exact my (T:="list") (b:=false) j PySem.F.sub_list_frozenset q
theorem aeD{R:Result->Shared->Prop}{I S:Addr}{fp Y:List Addr}{P:Nat->Value->Prop}{St:Nat->Heap->Prop}(W:Walks prog w A.in1 I fp Y n P St)(wZ:S∉fp)(hv:∀i v,P i v->∃y tk,ys[i]?=some y/\v=.str y tk)(j:n<=500)(hn:ys.length=n) :
 ∀(k i:Nat) (s:Shared) (xs:Ls),n - i=k->i<=n->St i s.heap->cy w s.heap S xs->xs.length<=i->(∀h' tk zs,(∀b o,b≠S->b∉Y->s.heap.get? b=some o->h'.get? b=some o)->cy w h' S zs->(∀z,z∈zs↔z∈xs\/z∈ys.drop i)->R (.ok (.ret .none)) { s with heap:=h',toks:=tk }) ->
  codeAny (model prog w) A (.builtin "set.update.loop" ⟨[.ref S,.ref I],[]⟩) R s:=by
 have M3:S∉Y:=λh=>wZ (W.sub _ h);intro k
 induction k with
 | zero=>
  intro i s xs hk hi J U hl O;have k9:i=n:=by omega
  subst k9;refine mD asw ?_;rw[ql VB _];show wpAny _ A.in1 (pyNext (.ref I) >>= _) _ _ s;refine aa (W.done s _ _ J λh' tk G=>?_);show wpAny _ A.in1 (ret Value.none) _ _ _;exact aj (O h' tk xs (λb o _ j e=>G b o j e) (U.at' λo e=>G S o M3 e) λz=>by rw[List.drop_eq_nil_of_le (by omega)];simp)
 | succ k ih=>
  intro i s xs hk hi J U hl O;have aH:i<n:=by omega
  refine mD asw ?_;rw[ql VB _];show wpAny _ A.in1 (pyNext (.ref I) >>= _) _ _ s;refine aa (W.item i s _ _ aH J λv h1 uZ hP xf G=>?_);obtain⟨y,tk,hy,rfl⟩:=hv i v hP;have iO:cy w h1 S xs:=U.at' λo e=>G S o M3 e;show wpAny _ A.in1 (holding [Value.str y tk] (setAdd S (.str y tk)) >>= _) _ _ _;refine aa (iJ ?_);unfold setAdd;refine iJ (aa ((b8 prog w).pyHash (k:=.inr y) (rN prog w y tk) ?_));refine Ex (s:={ s with heap:=h1,toks:=uZ+1 }) iO (by omega) λb h2 k2 S2=>?_;have ld:=Aw xs y;have hd:ys.drop i=y::ys.drop (i+1):=by
   obtain⟨qL,e⟩:=dB.mp hy;rw[<-e];exact IY qL
  refine aj ⟨oH VB _,ih (i+1) { s with heap:=h2,toks:=uZ+1 } (iQ xs y) (by omega) aH (W.frame _ h1 _ xf λb j o e=>?_) S2 (by omega) λh' m9 zs kk σ mem=>?_⟩
  . rw[k2.2 b (λh:b=S=>wZ (by rw[<-h];exact j))];exact e
  refine O h' m9 zs (λb o j hw e=>kk b o j hw ?_) σ λz=>?_
  . rw[k2.2 b j];exact G b o hw e
  rw[mem z,Ev,hd,bc];constructor
  . rintro((p | p) | p)
    . exact .inl p
    . exact .inr (.inl p)
    exact .inr (.inr p)
  rintro(p | p | p)
  . exact .inl (.inl p)
  . exact .inl (.inr p)
  exact .inr p
theorem aeE{l:Addr}{j:Av}{Q:VP}(hh:A.handled=none)(U:s.heap.IsList l j)(hv:∀(i:Nat) (v:Value),j[i]?=some v->∃y tk,ys[i]?=some y/\v=Value.str y tk)(O:j.size<=500)(hn:ys.length=j.size)
 (q:∀h' tk zs,(∀b o,s.heap.get? b=some o->h'.get? b=some o)->cy w h' s.heap.objs.size zs->(∀z,z∈zs↔z∈ys)->Q (.ref s.heap.objs.size) { s with heap:=h',toks:=tk }):wpAny (model prog w) A (call (.type "set") [.ref l]) Q E s:=by
 refine M0 λJ hA=>?_;have G:(s.heap.push (iz w)).IsList l j:=U.push _;obtain⟨ol,EQ,ER,nl,a1⟩:=id U;have Y:l<s.heap.objs.size:=bi EQ;unfold Builtin.Frozenset.updateFrom;refine aa (aeC (s:={ s with heap:=_ }) G.typeIs ?_);rw[af cn];refine aa (IR (s:={ s with heap:=_ }) G.typeIs ?_);rw[af (by decide)];refine aa (IC (s:={ s with heap:=_ }) G ?_);refine aa (wpAny_runValue ?_);have hz:(s.heap.push (iz w)).objs.size=s.heap.objs.size+1:=qg _ _;have a0:l≠(s.heap.push (iz w)).objs.size:=by rw[hz];exact cg (IM Y)
 refine aeD (CI (A:=J.in1) (by rw[show J.in1.handled=J.handled from rfl,hA,hh]) _ l a0 j) (S:=s.heap.objs.size) ?_ hv O hn (j.size - 0) 0 _ [] (by omega) (cE _) ⟨⟨_,cT _ rfl,rfl,rfl⟩,G.push _⟩
  ⟨_,_,_,_,bB _ (cT _ rfl),EL⟩ (cE _) λh' tk zs k σ m=>?_
 . simp only[bc,i7,i8,rJ];exact⟨by rw[hz];exact cg (vV _),kJ Y⟩
 show wpAny _ _ _ _ _ _;refine aj (q h' tk zs (λb o e=>k b o (cg (bi e)) (λO=>?_) (bB _ (bB _ e))) σ λz=>by rw[m z];simp);have:=bi e;rw[bX.mp O,hz]at this;exact absurd (Nat.lt_of_succ_lt this) (oA _)
end
section
variable {prog:Program}{A:Around}{E:VP}
theorem aeG{d:Addr}{es:Array DictEntry}{ks:Ls}{Q:VP}(ho:s.heap.get? d=some o)(hc:o.cls=.type "dict")(hd:o.data=.dict es ep)(hm:(d == sysModules)=false)(hn:ks.length=es.size)(hb:ks.length<=63)
 (hk:∀(i:Nat) (e:DictEntry),es[i]?=some e->∃y tk,ks[i]?=some y/\e.key=Value.str y tk/\e.hash=lF w (.inr y))
 (q:∀h' zs,(∀b o,s.heap.get? b=some o->h'.get? b=some o)->cy w h' s.heap.objs.size zs->(∀z,z∈zs↔z∈ks)->Q (.ref s.heap.objs.size) { s with heap:=h' }):wpAny (model prog w) A (call (.type "set") [.ref d]) Q E s:=by
 refine M0 λA' hA=>?_;have aH:=bi ho;have G:=bB (iz w) ho;have hT:Shared.TypeIs { s with heap:=s.heap.push (iz w) } (.ref d) "dict":=⟨_,G,hc⟩;unfold Builtin.Frozenset.updateFrom;refine aa (aer hT ?_);rw[af cn];refine aa (IR hT ?_);rw[ai (by decide)];refine aa (rA ?_);refine aa (m:=Builtin.Frozenset.addrOf _) (aj ?_);rw[hm,af cn];refine aa (CJ (s:={ s with heap:=s.heap.push (iz w) }) G hd ?_);refine aa (yW (s:={ s with heap:=s.heap.push (iz w) }) G hd ?_);have a0:cy w (s.heap.push (iz w)) s.heap.objs.size []:=⟨_,_,_,_,cT _ rfl,EL⟩;refine aa (MT (s:={ s with heap:=s.heap.push (iz w) }) (n:=es.size) a0 (by rw[<-hn];simpa using cR hb (by decide)) λh1 o1 c9 MX t1 k1 e1 X1 _=>?_);have O:d≠s.heap.objs.size:=cg aH;have gG:h1.get? d=some o:=by rw[k1.2 d O];exact G
 refine aa (yW (s:={ s with heap:=h1 }) gG hd ?_);refine aa ?_;rw[Std.Legacy.Range.forIn_eq_forIn_range'];simp only[Std.Legacy.Range.size,Nat.sub_zero,Nat.add_sub_cancel,Nat.div_one];refine oq _ (λrest _ s'=>∃h' i zs,s'={ s with heap:=h' }/\rest=List.range' i (es.size - i)/\i<=es.size/\Heap.SameBut s.heap.objs.size (s.heap.push (iz w)) h'/\cy w h' s.heap.objs.size zs/\zs.length<=i/\∀z,z∈zs↔z∈ks.take i) _ ?_ ?_ _ _ ⟨h1,0,[],rfl,by simp,cE _,k1,⟨_,_,_,_,e1,X1⟩,aD _,λz=>by simp⟩
 . rintro x rest b s' ⟨h',i,zs,rfl,j,hi,J,σ,hl,mem⟩;have Y:i<es.size:=by
    rcases VC i es.size with h | h
    . exact h
    rw[Nat.sub_eq_zero_of_le h]at j;simp at j
   obtain⟨rfl,qy⟩:x=i/\rest=List.range' (i+1) (es.size - (i+1)):=by
    have e:es.size - i=(es.size - (i+1))+1:=by omega
    rw[e,List.range'_succ]at j;injection j with h1 h2;exact⟨h1,h2⟩
   have U:h'.get? d=some o:=by rw[J.2 d O];exact G
   refine aa (yW (s:={ s with heap:=h' }) U hd ?_);have hg:es[x]?=some es[x]:=oG Y;obtain⟨y,tk,hy,jU,ES⟩:=hk x _ hg;rw[hg];dsimp only;rw[jU,ES];refine aa (iJ (Ex (s:={ s with heap:=h' }) σ (by omega) λb h2 k2 Z2=>?_));have AD:h2.get? d=some o:=by rw[k2.2 d O];exact U
   refine aa (CJ (s:={ s with heap:=h2 }) AD hd ?_);rw[af (by simp)];refine aj ⟨h2,x+1,iQ zs y,rfl,qy,Y,J.trans k2,Z2,by have:=Aw zs y;omega,λz=>?_⟩;rw[Ev,mem z,jQ,hy];simp
 rintro b s' ⟨h',i,zs,rfl,j,hi,J,σ,hl,mem⟩;have k9:i=es.size:=by
  rcases VC i es.size with h | h
  . have e:es.size - i=(es.size - (i+1))+1:=by omega
    rw[e,List.range'_succ]at j;exact nomatch j
  exact Nat.le_antisymm hi h
 refine aj (q h' zs (λb o e=>?_) σ λz=>by rw[mem z,k9,<-hn,eN]);rw[J.2 b (cg (bi e))];exact bB _ e
end
def ET(w:World)(H:Hp)(ys:Ls)(Q:VK):Prop:=∀r xs H',H r=none->ac H H'->H' r=some (mZ w r xs)->xs.Nodup->(∀z,z∈xs↔z∈ys)->Q (.ref r) H'
theorem cy.nd{h:Heap}(x:cy w h a xs):xs.Nodup:=x.elim λ_ j=>j.elim λ_ z=>z.elim λ_ G=>G.elim λ_ J=>J.elim λ_ X=>X.nd
theorem M6{us:Lw}(h:StrsAre us ys):us.length=ys.length/\∀(i:Nat) (v:Value),us[i]?=some v->∃y tk,ys[i]?=some y/\v=Value.str y tk:=by
 induction h with
 | nil=>exact⟨rfl,λi v e=>by cases e⟩
 | cons y t _ j=>
  refine⟨by simp[j.1],λi v e=>?_⟩;cases i with
  | zero=>cases e;exact⟨y,t,rfl,rfl⟩
  | succ i=>exact j.2 i v e
theorem M7:∀{ys:Ls}{us:Lw},aX (ys.map V.str) us->StrsAre us ys
 | [],us,r=>by cases r;exact .nil
 | y::ys,us,r=>by
  cases r with
  | cons a b=>
   obtain⟨t,rfl⟩:=a;exact .cons y t (M7 b)
section
variable {X:Cx}
theorem M8(z:X.calm=true):eV X (.type "set") (λvs H Q=>∃p ys,vs=[.ref p]/\ag X.K H p (ys.map V.str)/\ys.length<=500/\ET X.w H ys Q):=by
 intro a_ s Z H xs us Q I r h;obtain⟨p,ys,rfl,G,hz,q⟩:=h;obtain⟨u,rfl,O⟩:=vals1 r;cases O;obtain⟨c_,U,J,Y⟩:=I.list G;have hs:=M6 (M7 U);refine aeE (I.ok.hd z) J.isList (ys:=ys) (λi v e=>hs.2 i v (by simpa using e)) (by simp;omega) (by simp[hs.1]) λh' tk zs k σ m=>?_;have j:=I.hok.fresh (aD s.heap.objs.size);exact⟨.ref s.heap.objs.size,_,I.laid (t':=tk) (a:=s.heap.objs.size) (o:=mZ X.w s.heap.objs.size zs) k (aD _) (EI σ),rfl,q _ zs _ j (gb j) aw σ.nd m⟩
theorem M9:eV X (.type "set") (λvs H Q=>∃p kvs ks,vs=[.ref p]/\H p=some (.dK kvs)/\sV kvs ks/\ks.length<=63/\ET X.w H ks Q):=by
 intro a_ s Z H xs us Q I r h;obtain⟨p,kvs,ks,rfl,e,U,hz,q⟩:=h;obtain⟨u,rfl,ru⟩:=vals1 r;cases ru;obtain⟨z,hd,vs,a0,dd⟩:=kW I.hok e;obtain⟨o,es,ep,ho,hx,a1,AE,lZ,a4⟩:=id dd;have a3:=a0.length;have l1:kvs.length=ks.length:=by have:=cS List.length U;simpa using this
 have l2:es.size=vs.length:=by have:=lZ.length;simpa using this
 have hS:StrsAre (es.toList.map (·.key)) ks:=LB (X:=X) U a0 (by rw[ah,dJ];exact l2) λj v G=>by
  rw[cz]at G;cases J:es.toList[j]? with
  | none=>rw[J]at G;cases G
  | some O=>
   rw[J]at G;cases G;have a2:=(dB.mp J).1;rw[dJ]at a2;obtain⟨kv,qF⟩:∃kv,vs[j]?=some kv:=⟨vs[j]'(by omega),fo _⟩;exact⟨kv.1,kv.2,qF,(lZ.get? J qF).1⟩
 refine aeG (ks:=ks) ho hx.1 a1 hd (by omega) hz (λi O hi=>?_) λh' zs k σ m=>?_
 . obtain⟨y,tk,hy,hk⟩:=(M6 hS).2 i O.key (by rw[cz,mC,hi];rfl);obtain⟨k',Y,ES⟩:=AE O (asx hi);refine⟨y,tk,hy,hk,?_⟩;rw[hk]at Y;rw[ES,(b8 X.prog X.w).inj _ _ _ Y (rN X.prog X.w y tk)];rfl
 have hn:=I.hok.fresh (aD s.heap.objs.size);exact⟨.ref s.heap.objs.size,_,I.laid (t':=s.toks) (a:=s.heap.objs.size) (o:=mZ X.w s.heap.objs.size zs) k (aD _) (EI σ),rfl,q _ zs _ hn (gb hn) aw σ.nd m⟩
theorem aeO:cu X (binaryOp .BitOr) (λx y H Q=>∃p q xs ys,x=.ref p/\y=.ref q/\p≠q/\H p=some (mZ X.w p xs)/\H q=some (mZ X.w q ys)/\xs.length+ys.length<=126/\ET X.w H (xs++ys) Q):=by
 intro a_ s Z H x y v u Q I U Y h;obtain⟨p,q,xs,ys,rfl,rfl,J,e1,e2,hz,O⟩:=h;cases U;cases Y;have x1:=EJ I.hok e1;have G:=EJ I.hok e2;refine wpAny_binaryOp_same (op:=.BitOr) (T:="set") x1.typeIs G.typeIs PySem.F.fills_set_or PySem.F.slot_set_or (aev x1 G J hz λh' zs k σ m=>?_);have j:=I.hok.fresh (aD s.heap.objs.size);exact⟨.ref s.heap.objs.size,_,I.laid (t':=s.toks) (a:=s.heap.objs.size) (o:=mZ X.w s.heap.objs.size zs) k (aD _) (EI σ),rfl,O _ zs _ j (gb j) aw σ.nd λz=>by rw[m z];simp⟩
end
open PySem.W (tabObj)
def iA(P:Addr)(ps:Av):HO:=.ext λh=>h.get? P=some (tabObj ps)
def xg(c':Addr)(b_:Str):HO:=.ext λh=>h.CodeRec (.ref c') b_
def aG(H:Hp)(P:Addr)(pos:Pos)(b_:Str):Prop:=H P=some (iA P #[])\/∃c',H P=some (iA P #[rawInt pos.line,rawInt pos.col,.ref c'])/\H c'=some (xg c' b_)
theorem xh{j:Program}{H:Hp}{h:Heap}{p:Heap->Prop}(e:h.get? a=some o)(G:p h)(z:∀h1 h2:Heap,p h1->(∀o,h1.get? a=some o->h2.get? a=some o)->p h2):bE j w H h a (.ext p):=⟨G,⟨_,e⟩,z⟩
theorem aeP{c':Addr}{b_:Str}{h1 h2:Heap}(h:h1.CodeRec (.ref c') b_)(k:∀o,h1.get? c'=some o->h2.get? c'=some o):h2.CodeRec (.ref c') b_:=by
 obtain⟨c,oc,vs,t,e,G,j,z⟩:=h;cases e;exact⟨c',oc,vs,t,rfl,k _ G,j,z⟩
end
section
variable {w:World}{K:Fg}{a:Addr}{σ0:St}
section
variable {X:Cx}
theorem Nc:cu X (compareOp .LtE) (λx y H Q=>∃i j,x=.str i/\y=.str j/\Q (.bl (!decide (j.cps.toList<i.cps.toList))) H):=by
 intro a_ s Z H x y v u Q I z G h;obtain⟨i,j,rfl,rfl,q⟩:=h;obtain⟨t,rfl⟩:=z;obtain⟨t',rfl⟩:=G;exact PySem.P.le_str (cG I q rfl)
def aeQ:V->Lv->Hp->VK->Prop:=λx vs H Q=>∃a b,x=.str a/\vs=[.str b]/\Q (.bl (Txt.startswith a b)) H
theorem Nd:su X "str.startswith" aeQ:=by
 intro a_ s Z H x xs v us Q I z j h;obtain⟨a,b,rfl,rfl,q⟩:=h;obtain⟨t,rfl⟩:=z;obtain⟨u,rfl,t',rfl⟩:=vals1 j;exact SC.startswith (cG I q rfl)
theorem Nf:∀l:List (Str×Tok),aX ((l.map (·.1)).map V.str) (strValues l)
 | []=>.nil
 | p::r=>.cons ⟨p.2,rfl⟩ (Nf r)
def aeR:V->Lv->Hp->VK->Prop:=λx vs H Q=>∃a b,x=.str a/\vs=[.str b]/\b.length≠0/\a.length+2<=sizeLine/\fV H (.lst ((Txt.split a b).map V.str)) Q
theorem AF:su X "str.split" aeR:=by
 intro a_ s Z H x xs v us Q I rx Y h;obtain⟨a,b,rfl,rfl,J,hz,q⟩:=h;obtain⟨t,rfl⟩:=rx;obtain⟨u,rfl,t',rfl⟩:=vals1 Y;have G:(b.length == 0)=false:=by simpa using J
 have z:∀(l:List (Str×Tok)) (k:Nat),l.map (·.1)=Txt.split a b->EP X a_ Z Q (.ref s.heap.objs.size) { s with heap:=s.heap.push { cls:=.type "list",data:=.seq (strValues l).toArray },toks:=k }:=λl k e=>by
  have r:=Nf l;rw[e]at r;have O:((Txt.split a b).map V.str).length<=sizeLine:=by
   rw[ah];exact cR (split_le a b) hz
  exact⟨.ref s.heap.objs.size,_,I.laid (t':=k) (λb o e=>bB _ e) (aD _) (show bE X.prog X.w _ _ _ (.lst ((Txt.split a b).map V.str)) from ⟨O,_,_,r,cT _ rfl⟩),rfl,q.at _ (I.hok.fresh (aD _))⟩
 have U:(Builtin.Str.partsBetween a (Builtin.Str.occurrences a b 0 a.length (a.length+1)) b.length).length<=sizeLine:=by
  have e1:=StrLaws.occ_length_le a b 0 a.length (a.length+1);rw[length_partsBetween];omega
 cases h1:(decide (a.length<b.length) || decide (Builtin.Str.strKind a<Builtin.Str.strKind b))
 . cases j:(Builtin.Str.occurrences a b 0 a.length (a.length+1)).isEmpty
   . refine Cq VD (yO _ _ _) VE (VF _ _) (meets_str_split_sep a b t t' h1 G j (by omega) U) ?_;show wants _ _ _ { s with toks:=_,heap:=s.heap.push { cls:=.type "list",data:=.seq (strsFrom s.toks (Builtin.Str.partsBetween a (Builtin.Str.occurrences a b 0 a.length (a.length+1)) b.length)).toArray } };rw[strsFrom_eq];exact z (numbered s.toks _) _ ((numbered_texts _ _).trans ((af (VG h1)).trans (af (VG j))).symm)
   exact Cq VD (yO _ _ _) VE (VF _ _) (meets_str_split_not_found a b t t' h1 G j)
    (z [(a,t)] s.toks ((af (VG h1)).trans (ai j)).symm)
 exact Cq VD (yO _ _ _) VE (VF _ _) (meets_str_split_cannot_occur a b t t' h1)
  (z [(a,t)] s.toks (ai h1).symm)
theorem aeS:eV X (.type "int") (λxs H Q=>∃x n,xs=[.str x]/\PySem.intText? x=some n/\x.length<=640/\Q (.int n) H):=by
 intro a_ s Z H xs us Q I r h;obtain⟨x,n,rfl,z,j,q⟩:=h;obtain⟨u,rfl,t,rfl⟩:=vals1 r;exact W.KIN.call_text z j ⟨.int n,H,I.tok _,⟨_,rfl⟩,q⟩
end
def qM(c:Nat):Str:=⟨#[c]⟩
def AG(x:Str):It:=⟨λi _=>i<x.cps.size,λi H v H'=>H'=H/\∃c,x.cps[i]?=some c/\v=.str (qM c),λi _=>x.cps.size<=i⟩
theorem aeT{P:Program}{tg:Expr}(it:Addr)(x:Str)(t:Tok)(n:String)(Y:n="str_ascii_iterator"\/n="str_iterator"):mP P w K tg (AG x) [it] it (λi h=>h.IsStrIter it n x t i/\i<=x.cps.size) where
 mem:=by simp
 obj:=λi h st b j=>by
  have e:b=it:=by simpa using j
  subst e;obtain⟨o,e,c,d⟩:=st.1;exact⟨o,e,λv z=>by rw[d]at z;cases z⟩
 keep:=λi h h' st k=>⟨st.1.elim λo a0=>a0.elim λho r=>⟨o,k it (by simp) o ho,r⟩,st.2⟩
 item:=by
  intro X hP hw hK J i a_ s Z H E I O st U;subst hP hw hK;obtain⟨f0,f1,f2,f3,f4,f5⟩:=O it (by simp);have G:∀(W:Walks X.prog X.w X.A it [it] [it] x.cps.size (SignAt x) (λi h=>h.IsStrIter it n x t i)),wpAny (model X.prog X.w) X.A (pyNext (.ref it)) (λr s1=>∃u,r=some u /\
   wpAny (model X.prog X.w) X.A (letOwnedTupleGo tg (.ref it) u) (λ_ s2=>∃v H',Inv X a_ Z H' s2/\RelV v u/\(AG x).yld i H v H'/\(s2.heap.IsStrIter it n x t (i+1)/\i+1<=x.cps.size)/\∀b∈[it],H' b=none) E s1) E s:=λW=>by
   refine W.item i s _ _ U st.1 λv h' tk hv dC kk=>?_;obtain⟨c,u,gF,rfl⟩:=hv;have I1:Inv X a_ Z H { s with heap:=h',toks:=tk }:=I.turned (λb o j e=>kk b o (by simpa using j) e) f0 f1 f3 f4 f5;obtain⟨o,e,c',d⟩:=id dC;have Ng:i<x.cps.size:=U;exact⟨_,rfl,wq (s:={ s with heap:=h',toks:=tk }) e c' d (by rcases Y with rfl | rfl<;>decide) ⟨.str (qM c),H,I1,⟨u,rfl⟩,⟨rfl,c,gF,rfl⟩,⟨dC,by omega⟩,λb j=>(O b j).1⟩⟩
  rcases Y with rfl | rfl
  . exact G (Walks.strAscii (I.ok.hd J) it x t)
  exact G (Walks.strWide (I.ok.hd J) it x t)
 done:=by
  intro X hP hw hK J i a_ s Z H E I O st U;subst hP hw hK;obtain⟨f0,f1,f2,f3,f4,f5⟩:=O it (by simp);have Ng:x.cps.size<=i:=U;have e:i=x.cps.size:=Nat.le_antisymm st.2 Ng;subst e;have G:∀(W:Walks X.prog X.w X.A it [it] [it] x.cps.size (SignAt x) (λi h=>h.IsStrIter it n x t i)),wpAny (model X.prog X.w) X.A (pyNext (.ref it)) (λr s1=>r=none/\Inv X a_ Z H s1) E s:=λW=>
   W.done s _ _ st.1 λh' tk kk=>⟨rfl,I.turned (λb o j e=>kk b o (by simpa using j) e) f0 f1 f3 f4 f5⟩
  rcases Y with rfl | rfl
  . exact G (Walks.strAscii (I.ok.hd J) it x t)
  exact G (Walks.strWide (I.ok.hd J) it x t)
 self:=λ_ _ _ _ _ st h=>by
  rcases Y with rfl | rfl
  . exact wpAny_pyIter_striter_ascii st.1 h
  exact wpAny_pyIter_striter_wide st.1 h
section
variable {X:Cx}{tg:Expr}
def aeV(tl:TE):TI:=λZ H R=>tl Z H λx H1=>∃a,x=.str a/\R (AG a) H1
theorem aeW{l:Expr}{tl:TE}(Y:PE X l tl):PI X tg l (aeV tl):=by
 intro a_ s Z H R I h;refine thn (Y a_ s Z H _ I h) λv j O=>aN O λx H1 z r1 q1=>?_;obtain⟨a,e,q⟩:=q1;subst e;obtain⟨t,rfl⟩:=r1;have G:∀(o:Obj) (n:String),(n="str_ascii_iterator"\/n="str_iterator")->(j.heap.push o).IsStrIter j.heap.objs.size n a t 0->C0 X a_ Z tg R (.ref j.heap.objs.size) { j with heap:=j.heap.push o }:=λo n hn st=>by
  refine⟨j.heap.objs.size,[j.heap.objs.size],_,_,H1,rfl,z.kept (t':=j.toks) λb o e=>bB _ e,aeT _ a t n hn,⟨st,cE _⟩,λb U=>?_,q⟩;have e:b=j.heap.objs.size:=by simpa using U
  subst e;exact z.fpOk (aD _) (z.hok.fresh (aD _))
 cases J:a.cps.all (· < 128)
 . exact wpAny_pyIter_wide J (G _ _ (.inr rfl) ⟨_,cT _ rfl,rfl,rfl⟩)
 exact wpAny_pyIter_ascii J (G _ _ (.inl rfl) ⟨_,cT _ rfl,rfl,rfl⟩)
def aeY(K:Fg):Lv->Hp->VK->Prop:=λxs H Q=>∃(p:Addr) (bs:List Bool),xs=[.ref p]/\ag K H p (bs.map V.bl)/\Q (.bl (bs.all id)) H
theorem aeZ(bs:List Bool):(List.range bs.length).all (λi=>bs.getD i false)=bs.all id:=by
 rw[vU,eT,eT];constructor
 . intro h b j;obtain⟨i,hi,e⟩:=yR.mp j;have:=h i (iK.mpr hi);rw[uz,fo hi,IK,e]at this;exact this
 intro h i hi;have hi:=iK.mp hi;rw[uz,fo hi,IK];exact h _ (CD hi)
theorem EU(K:Fg)(h:X.K=K:=by rfl)(hc:X.calm=true:=by rfl):eV X (.builtin "all") (aeY K):=by
 subst h;intro a_ s Z H xs us Q I r h;obtain⟨p,bs,rfl,hq,q⟩:=h;obtain⟨u,rfl,rx⟩:=vals1 r;cases rx;obtain⟨c_,O,pl,hz⟩:=I.list hq;have a0:=O.length;rw[ah]at a0;refine call_all_walk (IC pl.isList ?_);have Y:p≠s.heap.objs.size:=by
  obtain⟨o,ho,_⟩:=pl.isList;exact cg (bi ho)
 refine⟨_,_,_,_,_,_,λi=>bs.getD i false,rfl,CI (A:=X.A.in1) (I.ok.hd hc) _ p Y c_.toArray,⟨⟨_,cT _ rfl,rfl,rfl⟩,pl.isList.push _⟩,?_,λh' tk kk=>?_⟩
 . intro i v s' U E z j;have z:c_[i]?=some v:=by simpa using z
   have hi:i<bs.length:=by
    have:=(dB.mp z).1;omega
   obtain⟨u,J,G⟩:=O.get (i:=i) (x:=V.bl bs[i]) (by rw[cz,fo hi];rfl);rw[z]at J;cases J;have G:v=.bool bs[i]:=by cases G;rfl
   subst G;have j:U (bs.getD i false) s':=j;rw[uz,fo hi,IK]at j;exact ou j
 have e:c_.toArray.size=bs.length:=by simp;omega
 rw[e,aeZ];exact⟨.bl _,H,I.kept λb o e=>kk b o (by
  have:=bi e;rw[bX];exact cg this) (bB _ e),rfl,q⟩
end
theorem Inv.turnedL{X:Cx}{a_:Po}{Z:St}{H:Hp}{s:Shared}{h':Heap}{t':Nat}{fp:List Addr}(I:Inv X a_ Z H s)(k:∀b o,b∉fp->s.heap.get? b=some o->h'.get? b=some o)(G:∀b∈fp,fR X a_ H b):Inv X a_ Z H { s with heap:=h',toks:=t' }:=by
 have J:∀b u,H b=some u->b∉fp:=λb u e z=>by rw[(G b z).1]at e;cases e
 have hL:X.env.locals∉fp:=λz=>(G _ z).2.1 rfl;refine I.step (g':=s.gens) (d':=s.drawn) (ch:=fp) (λb hb=>?_) (λb o _ _ j e _=>k b o j e) (λb o _ _ j e _=>⟨o.slots,k b o j e⟩) (λ_ _ _ _ n=>n)
  (λb o j e=>⟨o,k b o j e⟩) (λ_ _ e=>e) (λ_ _ _ e=>e) (λb ps e=>⟨#[],by rw[e];simp⟩) (λm hm=>?_) (λb u e=>?_) I.bare
 . obtain⟨f0,O,f2,U,Y,f5⟩:=G b hb;exact⟨U,O,Y,f5⟩
 . obtain⟨o,es,ep,ho,r⟩:=hm;exact⟨o,es,ep,k _ o hL ho,r⟩
 refine(I.hok b u e).stay (λc v j q=>k c v ?_ q) (λ_ q=>q) λ_ _ q=>q
 rcases j with z | z
 . rw[z];exact J b u e
 exact J c _ z
def xi(K:Fg)(a:Addr):It:=
 ⟨λi H=>∃xs x,ag K H a xs/\xs[i]?=some x,λi H v H'=>∃p x,H p=none/\(∀xs,ag K H a xs->xs[i]?=some x)/\v=.ref p/\H'=ae H p (.tup [.int i,x]),λi H=>∃xs,ag K H a xs/\xs.length<=i⟩
theorem ae0{P:Program}{elts:List Expr}{x1:Nat}{pos:Pos}(a e it:Addr)(cC:e≠it):mP P w K (.Tuple elts x1 pos) (xi K a) [e,it] e (λi h=>(∃old,IsEnum h e it i old)/\h.IsListIter it a i) where
 mem:=by simp
 obj:=λi h st b hb=>by
  obtain⟨⟨old,st⟩,o,j,c,d⟩:=st
  rcases bc.mp hb with rfl | hb
  . exact⟨_,st,λv z=>by
     have z':Data.fields _=Data.cell v:=z;cases z'⟩
  have hb:=bX.mp hb;subst hb;exact⟨o,j,λv z=>by rw[d]at z;cases z⟩
 keep:=λi h h' a0 k=>a0.elim λa1 G=>a1.elim λold st=>⟨⟨old,k e (by simp) _ st⟩,G.at λo j=>k it (by simp) o j⟩
 item:=by
  intro X hP hw Y hc i a_ s Z H E I O st hg;subst hP hw Y;obtain⟨⟨old,st⟩,G⟩:=st;obtain⟨xs,x,U,hx⟩:=hg;obtain⟨c_,rv,p,hz⟩:=I.list U;obtain⟨u,hu,ru⟩:=rv.get hx;refine wpAny_pyNext_enum_item st G p.isList (x:=u) (by simpa using hu) cC λh1 ho EV Eb hsz jz=>⟨.ref s.heap.objs.size,rfl,?_⟩;refine wpAny_letOwnedTupleGo_enum ho λh2 a3 J=>?_;have J:Heap.SameBut e h1 h2:=J;have Nh:e<s.heap.objs.size:=bi st;have Ac:it<s.heap.objs.size:=by
   obtain⟨o,j,_⟩:=G;exact bi j
  have I1:Inv X a_ Z H { s with heap:=h2,toks:=s.toks+1 }:=I.turnedL (fp:=[e,it]) (λb ob hb j=>by
   simp only[bc,i7,i8,rJ]at hb;exact(J.2 b hb.1).trans (jz b ob hb.1 hb.2 j)) O
  have hn:H s.heap.objs.size=none:=I.hok.fresh (aD _);have fp:=I.fpOk (H':=H) (aD _) hn;have sO:h2.get? s.heap.objs.size=some { cls:=.type "tuple",data:=.seq #[.int i s.toks,u] }:=(J.2 _ (kJ Nh)).trans Eb;have I2:Inv X a_ Z (ae H s.heap.objs.size (.tup [.int i,x])) { s with heap:=h2,toks:=s.toks+1 }:=by
   refine I1.track hn I.sz fp.2.1 fp.2.2.2.2.1 fp.2.2.2.2.2 ?_;exact⟨by show 2<=sizeLine;decide,[.int i s.toks,u],.cons ⟨_,rfl⟩ (.cons ru .nil),_,sO,rfl,0,rfl⟩
  refine⟨.ref s.heap.objs.size,_,I2,rfl,⟨_,x,hn,λys hy=>by rw[I.list_inj hy U];exact hx,rfl,rfl⟩,⟨⟨u,by simpa using a3⟩,EV.at λo j=>(J.2 it (gj cC)).trans j⟩,λb hb=>?_⟩;have a4:=(O b hb).1;rw[aE,a4];simp only[bc,i7,i8]at hb
  rcases hb with rfl | rfl
  . exact cg Nh
  exact cg Ac
 done:=by
  intro X hP hw Y hc i a_ s Z H E I O st hg;subst hP hw Y;obtain⟨⟨old,st⟩,G⟩:=st;obtain⟨xs,U,hx⟩:=hg;obtain⟨c_,rv,p,hz⟩:=I.list U;have hl:=rv.length;exact wpAny_pyNext_enum_end (I.ok.hd hc) st G p.isList (by simp;omega) λh' eb=>⟨rfl,I.turnedL (t':=s.toks) (fp:=[e,it]) (λb o hb j=>eb b o (λz=>hb (by simp[z])) j) O⟩
 self:=λ_ _ _ _ _ st h=>st.elim λa2 _=>a2.elim λ_ st=>wpAny_pyIter_enum st h
section
variable {X:Cx}
def ae6(K:Fg)(ta:TA):TI:=λZ H R=>ta Z H λvs H1=>∃a,vs=[.ref a]/\(∃xs,ag K H1 a xs)/\R (xi K a) H1
theorem Ni{l:Expr}{ta:TA}{p pos p2:Pos}{elts:List Expr}{x1:Nat}(Y:Gl X "enumerate")(hm:X.mg "enumerate"=none)(U:PA X [l] ta)(hs:starEach [l] X.env=[(false,eval l X.env)]:=by rfl) :
 PI X (.Tuple elts x1 p2) (.Call (.Name "enumerate" p) [l] [] pos) (ae6 X.K ta):=by
 intro a_ s Z H R I h;refine Call_ (rQ I Y hm boot_enumerate (ID (thn (U pos a_ s Z H _ I h) λus j O=>aN O λvs H1 z r1 q1=>?_) hs rfl));obtain⟨a,e,⟨xs,hq⟩,q⟩:=q1;subst e;obtain⟨u,rfl,rx⟩:=vals1 r1;cases rx;obtain⟨c_,rv,pl,hz⟩:=z.list hq;refine call_enumerate_list pl.isList λh' G it hsz kp=>?_;refine wpAny_pyIter_enum G ?_;refine⟨j.heap.objs.size+1,[j.heap.objs.size+1,j.heap.objs.size],_,_,H1,rfl,z.kept (t':=j.toks) kp,ae0 a _ _ (Nat.succ_ne_self _),⟨⟨_,G⟩,it⟩,λb J=>?_,q⟩;have e:j.heap.objs.size<=b:=by
  simp only[bc,i7,i8]at J
  rcases J with rfl | rfl
  . exact vW _
  exact aD _
 exact z.fpOk e (z.hok.fresh e)
end
theorem ac.seqT{H H':Hp}{xs:Lv}(e:ac H H')(h:aP K H a xs):aP K H' a xs:=by
 rcases h with(h | ⟨o,h⟩) | h
 . exact .inl (.inl (e _ _ h))
 . exact .inl (.inr ⟨o,e _ _ h⟩)
 exact .inr h
theorem take_snoc{α:Type}{ys:List α}{i:Nat}{y:α}(h:ys[i]?=some y):ys.take (i+1)=ys.take i++[y]:=by
 rw[List.take_succ,h];rfl
section
variable {g:TG}{te:TE}{H1:Hp}{Q:Addr->Hp->Prop}
theorem tq{xs:Lv}(hx:ag K H1 a xs)(S:St->Prop)(ys:Lv)(Y:ys.length=xs.length)(big:xs.length<=sizeLine)(s0:S σ0)
 (a0:∀(i:Nat) x y Z H (k:St->V->Hp->Prop),xs[i]?=some x->ys[i]?=some y->S Z->ac H1 H->(∀σ3 z,S σ3->ac H z->k σ3 y z)->g x Z H λσ3 H3=>te σ3 H3 (k σ3))
 (done:∀D H,H1 D=none->H D=some (.lst ys)->ac H1 H->Q D H) :
 ∀D,H1 D=none->∃W:Nat->Nat->St->Hp->Prop,(∃m,W 0 m σ0 (ae H1 D (.lst [])))/\jZ (mQ K a) g o6 te D (λH'=>Q D H') W:=by
 refine zV hx S (λi zs _=>zs=ys.take i) s0 (λ_ _=>rfl) (λD i x zs Z H k J j G O a5 U a7=>?_) λD zs H J j G O=>?_
 . have hi:i<ys.length:=by rw[Y];exact(dB.mp j).1
   have hy:=fo hi;refine a0 i x ys[i] Z H k j hy G a5 λσ3 z b1 b2=>a7 σ3 _ z b1 b2 ?_ ?_
   . rw[U,d5];omega
   rw[U,take_snoc hy]
 rw[O,<-Y,eN]at j;exact done D H J j G
theorem ae8{xs:Lv}(hx:aP K H1 a xs)(S:St->Prop)(ys:Lv)(hl:ys.length=xs.length)(big:xs.length<=sizeLine)(s0:S σ0)
 (a0:∀(i:Nat) x y Z H (k:St->V->Hp->Prop),xs[i]?=some x->ys[i]?=some y->S Z->ac H1 H->(∀σ3 j,S σ3->ac H j->k σ3 y j)->g x Z H λσ3 H3=>te σ3 H3 (k σ3))
 (done:∀D H,H1 D=none->H D=some (.lst ys)->ac H1 H->Q D H) :
 ∀D,H1 D=none->∃W:Nat->Nat->St->Hp->Prop,(∃m,W 0 m σ0 (ae H1 D (.lst [])))/\jZ (C1 K a) g o6 te D (λH'=>Q D H') W:=by
 intro D G;refine⟨λi m Z H=>m=xs.length - i/\i<=xs.length/\S Z/\H D=some (.lst (ys.take i))/\ac H1 H,⟨xs.length,by simp,cE _,s0,aw,gb G⟩,?_⟩;rintro i m Z H ⟨rfl,hi,Y,hd,hs⟩;have q:aP K H a xs:=ac.seqT hs hx
 by_cases O:i<xs.length
 . refine .inr ⟨⟨xs,xs[i],q,by simp[O]⟩,λx H2 z=>?_⟩;obtain⟨e1,e2⟩:=z;subst e1;have z:=fo (by omega:i<ys.length);refine a0 i x ys[i] Z _ (λσ3 y j=>∃zs,j D=some (.lst zs)/\zs.length<sizeLine/\∃m',m'<xs.length - i/\(m'=xs.length - (i+1)/\i+1<=xs.length/\S σ3/\ae j D (.lst (zs++[y])) D=some (.lst (ys.take (i+1)))/\ac H1 (ae j D (.lst (zs++[y]))))) (e2 xs q) z Y hs
    (λσ3 j U J=>⟨ys.take i,J _ _ hd,by rw[d5];omega,xs.length - (i+1),by omega,rfl,O,U,by rw[aw,take_snoc z],gt (hs.trans J) G⟩)
 have e:i=xs.length:=by omega
 subst e;rw[<-hl,eN]at hd;exact .inl ⟨⟨xs,q,aD _⟩,done D H G hd hs⟩
theorem ae9{a:Str}(S:St->Prop)(f:Nat->V)(big:a.cps.size<=sizeLine)(s0:S σ0)
 (a0:∀c Z H (k:St->V->Hp->Prop),c∈a.cps.toList->S Z->ac H1 H->(∀σ3 j,S σ3->ac H j->k σ3 (f c) j)->g (.str (qM c)) Z H λσ3 H3=>te σ3 H3 (k σ3))
 (done:∀D H,H1 D=none->H D=some (.lst (a.cps.toList.map f))->ac H1 H->Q D H) :
 ∀D,H1 D=none->∃W:Nat->Nat->St->Hp->Prop,(∃m,W 0 m σ0 (ae H1 D (.lst [])))/\jZ (AG a) g o6 te D (λH'=>Q D H') W:=by
 intro D z;have hn:(a.cps.toList.map f).length=a.cps.size:=by rw[ah,dJ]
 refine⟨λi m Z H=>m=a.cps.size - i/\i<=a.cps.size/\S Z/\H D=some (.lst ((a.cps.toList.map f).take i))/\ac H1 H,⟨a.cps.size,by simp,cE _,s0,aw,gb z⟩,?_⟩;rintro i m Z H ⟨rfl,hi,hS,hd,hs⟩
 by_cases O:i<a.cps.size
 . refine .inr ⟨O,λx H2 G=>?_⟩;obtain⟨e1,c,hc,e2⟩:=G;subst e1 e2;have U:a.cps.toList[i]?=some c:=by rw[mC];exact hc
   have G:(a.cps.toList.map f)[i]?=some (f c):=by rw[cz,U];rfl
   refine a0 c Z _ (λσ3 y j=>∃zs,j D=some (.lst zs)/\zs.length<sizeLine/\∃m',m'<a.cps.size - i/\(m'=a.cps.size - (i+1)/\i+1<=a.cps.size/\S σ3/\ae j D (.lst (zs++[y])) D=some (.lst ((a.cps.toList.map f).take (i+1)))/\ac H1 (ae j D (.lst (zs++[y]))))) (d6 U) hS hs
    (λσ3 j Y J=>⟨(a.cps.toList.map f).take i,J _ _ hd,by rw[d5];omega,a.cps.size - (i+1),by omega,rfl,O,Y,by rw[aw,take_snoc G],gt (hs.trans J) z⟩)
 have e:i=a.cps.size:=by omega
 subst e;rw[<-hn,eN]at hd;exact .inl ⟨aD _,done D H z hd hs⟩
end
end
section
variable {d:Addr}{w:World}{kvs:List (List NI×V)}{tg:Expr}
section
variable {X:Cx}
theorem Nj:cu X (compareOp .Gt) (λx y H Q=>∃i j,x=.str i/\y=.str j/\Q (.bl (decide (j.cps.toList<i.cps.toList))) H):=by
 intro a_ s Z H x y v u Q I z G h;obtain⟨i,j,rfl,rfl,q⟩:=h;obtain⟨t,rfl⟩:=z;obtain⟨t',rfl⟩:=G;exact PySem.P.gt_str (cG I q rfl)
end
def vb(h:Heap)(d:Addr)(es:Array DictEntry)(ep:Nat):Prop:=∃o,h.get? d=some o/\o.cls=.type "dict"/\o.data=.dict es ep
theorem vb.typeIs{s:Shared}{es:Array DictEntry}{ep:Nat}(x:vb s.heap d es ep):s.TypeIs (.ref d) "dict":=x.elim λo j=>j.elim λe z=>z.elim λc _=>⟨o,e,c⟩
section
variable {prog:Program}{A:Around}{E:VP}{s:Shared}{it:Addr}{es:Array DictEntry}{ep i:Nat}
theorem afc{Q:VP}(hd:(d == sysModules)=false)(j:vb s.heap d es ep)(J:Q (.ref s.heap.objs.size) { s with heap:=s.heap.push { cls:=.type "dict_keyiterator",data:=.fields #[.ref d,.int 0 0,.int es.size 0,.int ep 0] } }) :
 wpAny (model prog w) A (pyIter (.ref d)) Q E s:=by
 obtain⟨o,z,O,G⟩:=id j;refine IP j.typeIs asy (lE asy j.typeIs PySem.F.entry_dict_iter ?_ (PySem.F.args_dict_iter_1 _));unfold Builtin.«dict.__iter__»;refine aa ?_;unfold Builtin.Dict.dictSlotNone;refine aa (wpAny_notOrdered_dict j.typeIs ?_);show wpAny _ _ (pure (Value.ref d)) _ _ s;refine aj ?_;show wpAny _ _ (Builtin.Dict.showsAll d >>= _) _ _ s;unfold Builtin.Dict.showsAll;rw[af (by rw[hd];exact cn)];refine aa (aj (aa (yW z G (aa (CJ z G ?_)))));exact aa (rG (aj ⟨_,rfl,"dict_keyiterator",_,⟨_,cT _ rfl,rfl⟩,CK.lookup,J⟩))
theorem afd{Q:Option Value->Shared->Prop}(j:s.heap.IsKeyIter it d i es.size ep)(hm:vb s.heap d es ep)(hx:i<es.size)(Y:∀h',h'.IsKeyIter it d (i+1) es.size ep->Heap.SameBut it s.heap h'->Q (some es[i].key) { s with heap:=h' }) :
 wpAny (model prog w) A (pyNext (.ref it)) Q E s:=by
 obtain⟨o,z,hc,hd⟩:=id j;obtain⟨od,J,iw,O⟩:=id hm;unfold pyNext;refine aa (IS (Vx (name:=Str.ofString "__next__") j.typeIs CK (lE CK j.typeIs asz ?_ (asA _))));refine aa (aj (aa (aa ?_)))
 first | refine aa (IZ j.typeIs (aj ?_)) | refine aa (I8 j.typeIs (aj ?_));skip
 refine aa (Vy z hd ?_);have U:Builtin.Dict_items.ownsTuple "dict_keyiterator"=false:=by decide
 simp only[U,kI,iI];show wpAny _ _ (if (Value.ref d == Value.none)=true then _ else _) _ _ s;rw[af (show ¬((Value.ref d == Value.none)=true) from cn)];refine aa (aj (aa (yW J O ?_)));rw[af (by simp)];refine aa (aj (aa (CJ J O ?_)));rw[af (by simp)];refine aj ?_;simp only[show ¬((i:Int)<0) from by omega,iI,v5,oG hx];refine aa ?_
 first | refine aa (IZ j.typeIs (aj ?_)) | refine aa (I8 j.typeIs (aj ?_));skip
 refine aa (asB j.typeIs ?_);show wpAny _ _ (setField (.ref it) 1 (rawInt ((i:Int)+1)) >>= _) _ _ s;refine aa (CG z hd (by simp) ?_);have G:(s.heap.update it (Obj.mapFields (·.setIfInBounds 1 (rawInt ((i:Int)+1))))).IsKeyIter it d (i+1) es.size ep:=
  ⟨_,yT _ z (Vv (yV hd _)),(Vw ..).trans hc,by rw[yV hd];simp[rawInt]⟩
 refine aa (iJ (aa (asB (s:={ s with heap:=s.heap.update it (Obj.mapFields (·.setIfInBounds 1 (rawInt ((i:Int)+1)))) }) G.typeIs ?_)));show wpAny _ _ (pure es[i].key) _ _ _;exact aj (aj ⟨_,rfl,aj (Y _ G (kL ..))⟩)
theorem afe{Q:Option Value->Shared->Prop}(Y:A.handled=none)(j:s.heap.IsKeyIter it d i es.size ep)(hm:vb s.heap d es ep)(pw:es.size<=i)(U:∀h',Heap.ExtBut it s.heap h'->Q none { s with heap:=h' }):wpAny (model prog w) A (pyNext (.ref it)) Q E s:=by
 obtain⟨o,z,hc,hd⟩:=id j;obtain⟨od,G,iw,J⟩:=id hm;unfold pyNext;refine aa (IS (Vx (name:=Str.ofString "__next__") j.typeIs CK (lE CK j.typeIs asz ?_ (asA _))));refine aa (aj (aa (aa ?_)))
 first | refine aa (IZ j.typeIs (aj ?_)) | refine aa (I8 j.typeIs (aj ?_));skip
 refine aa (Vy z hd ?_);have O:Builtin.Dict_items.ownsTuple "dict_keyiterator"=false:=by decide
 simp only[O,kI,iI];show wpAny _ _ (if (Value.ref d == Value.none)=true then _ else _) _ _ s;rw[af (show ¬((Value.ref d == Value.none)=true) from cn)];refine aa (aj (aa (yW G J ?_)));rw[af (by simp)];refine aa (aj (aa (CJ G J ?_)));rw[af (by simp)];refine aj ?_;simp only[show ¬((i:Int)<0) from by omega,iI,v5,CA pw];refine aa ?_
 first | refine aa (IZ j.typeIs (aj ?_)) | refine aa (I8 j.typeIs (aj ?_));skip
 show wpAny _ _ (setField (.ref it) 0 .none >>= _) _ _ s;refine aa (CG z hd (by simp) ?_);show wpAny _ _ (newExc (.type "StopIteration") [] >>= _) _ _ _;refine aa ?_;simp only[newExc,newTuple];refine aa (rG ?_ (by size_fits));refine aa (m:=firstArgMember _ _) (IX (a:=Value.none) (by first | rfl | (simp only[firstArgMember];rfl)) ?_);refine rG ?_ (by size_fits);simp only[raiseNew];refine aa (wpAny_handled ?_);rw[show A.in1.handled=none from Y];refine aa (aj (wpAny_throw ?_));refine aa (my (T:="StopIteration") (b:=true) ⟨_,cT _ rfl,rfl⟩ isSubtype_stop (aj (U _ (((kL ..).extBut.push _).push _))))
end
section
variable {X:Cx}{a_:Po}{Z:St}{H:Hp}{s:Shared}
theorem Inv.freezeT{o:Obj}(I:Inv X a_ Z H s)(e:H d=some (.dT kvs))(G:s.heap.get? d=some o):Inv X a_ Z (ae H d (.frz o (.dT kvs))) s:=by
 have ne:∀b u,H b=some u->(∀ks,u≠.dT ks)->b≠d:=λb u q J z=>by rw[z,e]at q;cases q;exact J _ rfl
 refine I.rehp (λb q=>?_) (λb xs q=>?_) (λb o' u q=>?_) (λb ps q=>?_) λb u q=>?_
 . rw[aE (λz=>by rw[z,e]at q;cases q)];exact q
 . rw[aE (ne b _ q (by intro ks z;cases z))];exact q
 . have q:=I.base.frzs b o' u q;rw[aE (ne b _ q (by intro ks z;cases z))];exact q
 . rw[aE (ne b _ q (by intro ks z;cases z))];exact q
 have up:∀{c:Addr}{w:HO},H c=some w->(∀ks,w≠.dT ks)->ae H d (.frz o (.dT kvs)) c=some w:=λ{c w} j O=>by rw[aE (ne c _ j O)];exact j
 by_cases z:b=d
 . subst z;rw[aw]at q;cases q;exact⟨G,(I.hok b _ e).stay (λ_ _ _ q=>q) (λc j=>up j (by intro ks z;cases z)) λc xs j=>up j (by intro ks z;cases z)⟩
 rw[aE z]at q;exact(I.hok b _ q).stay (λ_ _ _ q=>q) (λc j=>up j (by intro ks z;cases z)) λc xs j=>up j (by intro ks z;cases z)
theorem Inv.thawT{o:Obj}(I:Inv X a_ Z H s)(e:H d=some (.frz o (.dT kvs)))(hz:∀o' u,X.H₀ d≠some (.frz o' u)):Inv X a_ Z (ae H d (.dT kvs)) s:=by
 have ne:∀b u,H b=some u->(∀o' G,u≠.frz o' G)->b≠d:=λb u q J z=>by rw[z,e]at q;cases q;exact J _ _ rfl
 have up:∀{c:Addr}{w:HO},H c=some w->(∀o' G,w≠.frz o' G)->ae H d (.dT kvs) c=some w:=λ{c w} j O=>by rw[aE (ne c _ j O)];exact j
 refine I.rehp (λb q=>?_) (λb xs q=>up q (by intro _ _ z;cases z)) (λb o' u q=>?_) (λb ps q=>up q (by intro _ _ z;cases z)) λb u q=>?_
 . rw[aE (λz=>by rw[z,e]at q;cases q)];exact q
 . have U:b≠d:=λz=>hz o' u (z▸q);rw[aE U];exact I.base.frzs b o' u q
 by_cases z:b=d
 . subst z;rw[aw]at q;cases q;exact(show bE X.prog X.w H s.heap b (.dT kvs) from (show bE X.prog X.w H s.heap b (.frz o (.dT kvs)) from I.hok b _ e).2).stay (λ_ _ _ q=>q) (λc j=>up j (by intro _ _ z;cases z)) λc xs j=>up j (by intro _ _ z;cases z)
 rw[aE z]at q;exact(I.hok b _ q).stay (λ_ _ _ q=>q) (λc j=>up j (by intro _ _ z;cases z)) λc xs j=>up j (by intro _ _ z;cases z)
end
def EX(d:Addr)(kvs:List (List NI×V))(o:Obj):It:=
 ⟨λi H=>H d=some (.frz o (.dT kvs))/\i<kvs.length,λi H x H'=>∃k v b,kvs[i]?=some (k,v)/\x=.ref b/\gZ H k b/\H'=H,λi H=>H d=some (.frz o (.dT kvs))/\kvs.length<=i⟩
theorem EY{P:Program}{H:Hp}{h:Heap}(ok:bE P w H h d (.dT kvs)):(d == sysModules)=false/\∃es ep,vb h d es ep/\es.size=kvs.length/\(∃o,h.get? d=some o/\qE o=ep)/\∀(i:Nat) (k:List NI) (v:V),kvs[i]?=some (k,v)->∃(e:DictEntry) (b:Addr),es[i]?=some e/\e.key=Value.ref b/\gZ H k b:=by
 obtain⟨_,y,xs,r,o,es,ep,h1,h2,z,G,_⟩:=ok;have U:=IB r;have hs:es.size=xs.length:=by have:=cS List.length G;simpa using this
 refine⟨y,es,ep,⟨o,h1,h2.1,z⟩,by omega,⟨o,h1,by unfold qE;rw[z]⟩,λi k v hi=>?_⟩;have get:∀{l:List (List NI×V)}{m:List (List NI×Addr×Value)},Paired (fun(p:List NI×V) (q:List NI×Addr×Value)=>p.1=q.1/\gZ H p.1 q.2.1/\RelV p.2 q.2.2) l m->∀{i:Nat},l[i]?=some (k,v)->∃q,m[i]?=some q/\gZ H k q.2.1:=by
  intro l m q
  induction q with
  | nil=>intro i h;cases h
  | @cons p q ps Y j t O=>
   intro i h;cases i with
   | zero=>cases h;exact⟨q,rfl,j.2.1⟩
   | succ i=>exact O h
 obtain⟨q,j,J⟩:=get r hi;refine⟨entryOfKey (oN P w) q,q.2.1,?_,rfl,J⟩;rw[<-mC,G,cz,j];rfl
theorem aff{P:Program}{K:Fg}(d it:Addr)(kvs:List (List NI×V))(o:Obj):mP P w K tg (EX d kvs o) [it] it (λi h=>h.IsKeyIter it d i kvs.length (qE o)) where
 mem:=by simp
 obj:=λi h st b j=>by
  have e:b=it:=by simpa using j
  subst e;obtain⟨o,e,c,d⟩:=st;exact⟨o,e,λv z=>by rw[d]at z;cases z⟩
 keep:=λi h h' st k=>st.elim λo a0=>a0.elim λe r=>⟨o,k it (by simp) o e,r⟩
 item:=by
  intro X hP hw hK hc i a_ s Z H E I J st hg;subst hP hw hK;obtain⟨hd,aH⟩:=hg;obtain⟨Y,f1,f2,f3,f4,f5⟩:=J it (by simp);obtain⟨ho,kP⟩:=(show bE X.prog X.w H s.heap d (.frz o (.dT kvs)) from I.hok d _ hd);obtain⟨_,es,ep,hr,hsz,⟨o',G,O⟩,hk⟩:=EY kP;rw[ho]at G;cases G;obtain⟨kv,qF⟩:∃kv,kvs[i]?=some kv:=⟨_,fo aH⟩;obtain⟨k,v⟩:=kv;obtain⟨e,b,he,j,hn⟩:=hk i k v qF;rw[<-hsz,O]at st;have hi:i<es.size:=by omega
  refine afd st hr hi λh' U sb=>?_;have I1:Inv X a_ Z H { s with heap:=h' }:=I.turned (t':=s.toks) (λb o j e=>(sb.2 b j).trans e) Y f1 f3 f4 f5;obtain⟨oi,ei,ci,di⟩:=id U;have jU:es[i].key=.ref b:=by rw[oG hi]at he;cases he;exact j
  rw[hsz,<-O]at U;exact⟨_,rfl,wq (s:={ s with heap:=h' }) ei ci di (by decide) ⟨.ref b,H,I1,jU,⟨k,v,b,qF,rfl,hn,rfl⟩,U,λb j=>(J b j).1⟩⟩
 done:=by
  intro X hP hw hK hc i a_ s Z H E I J st hg;subst hP hw hK;obtain⟨hd,a1⟩:=hg;obtain⟨Y,f1,f2,f3,f4,f5⟩:=J it (by simp);obtain⟨ho,kP⟩:=(show bE X.prog X.w H s.heap d (.frz o (.dT kvs)) from I.hok d _ hd);obtain⟨_,es,ep,hr,hsz,⟨o',G,O⟩,hk⟩:=EY kP;rw[ho]at G;cases G;rw[<-hsz,O]at st;exact afe (I.ok.hd hc) st hr (by omega) λh' eb=>⟨rfl,I.turned (t':=s.toks) (λb o j e=>eb b o j e) Y f1 f3 f4 f5⟩
 self:=λ_ _ _ _ _ st h=>wpAny_pyIter_keyiter st h
theorem afh{e:Expr}{X:Cx}{td:TE}(ho:PE X e td):PI X tg e (λZ H R=>td Z H λx H1=>∃d kvs,x=.ref d/\H1 d=some (.dT kvs)/\∀ob,(∀o' u,X.H₀ d≠some (.frz o' u))->R (EX d kvs ob) (ae H1 d (.frz ob (.dT kvs)))):=by
 intro a_ s Z H R I h;refine thn (ho a_ s Z H _ I h) λv j U=>aN U λx H1 z r1 Y=>Y.elim λd a0=>a0.elim λkvs a1=>a1.elim λe a2=>a2.elim λG q=>?_;subst e;cases r1;obtain⟨lo,es,ep,hr,hsz,⟨o',f8,qG⟩,hk⟩:=EY (show bE X.prog X.w H1 j.heap d (.dT kvs) from z.hok d _ G);refine afc lo hr ?_;have hz:∀o' u,X.H₀ d≠some (.frz o' u):=λo' u hq=>by
  have:=z.base.frzs d o' u hq;rw[G]at this;cases this
 have O:Inv X a_ Z H1 { j with heap:=j.heap.push { cls:=.type "dict_keyiterator",data:=.fields #[.ref d,.int 0 0,.int es.size 0,.int ep 0] } }:=z.kept (t':=j.toks) λb o e=>bB _ e;have J:=z.hok.fresh (aD j.heap.objs.size);refine⟨_,[_],_,_,_,rfl,O.freezeT G (bB _ f8),aff d _ kvs o',?_,λb hb=>?_,q o' hz⟩
 . rw[<-hsz,qG];exact⟨_,cT _ rfl,rfl,rfl⟩
 have e:b=j.heap.objs.size:=by simpa using hb
 subst e;refine z.fpOk (aD _) ?_;rw[aE (gj (aF G J))];exact J
def Nl(H1:Hp)(d:Addr)(kvs:List (List NI×V))(σ0:St)(g:TG)(tt:TT)(te:TE)(Q:VK):Prop:=∀ob D,ae H1 d (.frz ob (.dT kvs)) D=none ->
 ∃W:Nat->Nat->St->Hp->Prop,(∃m,W 0 m σ0 (ae (ae H1 d (.frz ob (.dT kvs))) D (.lst [])))/\jZ (EX d kvs ob) g tt te D (λH'=>H' d=some (.frz ob (.dT kvs))/\Q (.ref D) (ae H' d (.dT kvs))) W
def afn(td:TE)(n:Nat)(js:List Nat)(g:TG)(tt:TT)(te:TE):TE:=λZ H Q=>td Z H λx H1=>∃d kvs,x=.ref d/\H1 d=some (.dT kvs)/\Nl H1 d kvs (compStart n js Z) g tt te Q
section
variable {X:Cx}
theorem Nm{elt iter:Expr}{ifs:List Expr}{sc:Scope}{pos:Pos}(own cap:Ls)(js:List Nat){td:TE}{g:TG}{tt:TT}{te:TE}(S:j0 X own cap js sc)(hc:X.calm=true)(hi:PE X iter td)
 (hg:∀s₀ H₀ C ex,PG (cZ X (own++cap) sc s₀ H₀ C ex) tg g) (ht:∀s₀ H₀ C ex,cL (cZ X (own++cap) sc s₀ H₀ C ex) ifs tt) (he:∀s₀ H₀ C ex,PE (cZ X (own++cap) sc s₀ H₀ C ex) elt te)
 (hs:∀x,foldedSetIterable iter X.env x=pure x:=by intro _;rfl):PE X (.ListComp elt [⟨tg,iter,ifs,0⟩] sc pos) (afn td own.length js g tt te):=by
 intro a_ s Z H Q I h;refine thn (gK own cap js S hc (afh hi.weak) hg ht he hs a_ s Z H (λv H'=>∃d kvs ob,H' d=some (.frz ob (.dT kvs))/\(∀o' u,X.H₀ d≠some (.frz o' u))/\Q v (ae H' d (.dT kvs))) I ⟨_,h,λx H1 G=>G.elim λd J=>J.elim λkvs O=>O.elim λe U=>U.elim λed q=>⟨d,kvs,e,ed,λob hz D hD=>?_⟩⟩) λu s' Y=>aN Y λv H' j r a0=>a0.elim λd a1=>a1.elim λkvs a2=>a2.elim λob a3=>a3.elim λhd a4=>a4.elim λhz q=>⟨v,_,j.thawT hd hz,r,q⟩;obtain⟨W,w0,ask⟩:=q ob D hD;refine⟨W,w0,λi m Z H hw=>?_⟩
 rcases ask i m Z H hw with⟨a,b⟩ | z
 . exact .inl ⟨a,d,kvs,ob,b.1,hz,b.2⟩
 exact .inr z
end
open PySem.W
open PySem.Builtin PySem.Builtin.ObjectAttr
end
section
variable {H:Hp}{s:Shared}
open PySem.Builtin.Str in
open PySem.Builtin PySem.Builtin.Str in

section
variable {X:Cx}{a_:Po}{Z:St}{H0:Hp}{l q I S:Addr}{as:List Addr}{ks:Nat->List At}{R:Result->Shared->Prop}{Q:VP}{E:VP}
theorem Inv.isL(I:Inv X a_ Z H s)(h:H l=some (.lst (as.map V.ref))):s.heap.IsList l (as.map Value.ref).toArray:=by
 obtain⟨c_,r,p,_⟩:=I.list (ag.of (K:=X.K) h);rw[lV r]at p;exact p.isList
theorem fR.of{H':Hp}{b:Addr}(f:fR X a_ H b)(n:H' b=none):fR X a_ H' b:=⟨n,f.2⟩
theorem Inv.turnF{h':Heap}{t':Nat}{b:Addr}(I:Inv X a_ Z H s)(f:fR X a_ H b)(k:∀c o,c≠b->s.heap.get? c=some o->h'.get? c=some o):Inv X a_ Z H { s with heap:=h',toks:=t' }:=
 I.turned k f.1 f.2.1 f.2.2.2.1 f.2.2.2.2.1 f.2.2.2.2.2
end

def jB(P:Addr)(H H':Hp):Prop:=∀b o,H b=some o->b≠P->H' b=some o
section
variable {X:Cx}{c P:Addr}{params:Arguments}{body e:Expr}{scope:Scope}{p pos lpos wx:Pos}{b_ x:Str}{k:Nat}{te tb:TE}
theorem aG.same{H':Hp}(s:ac H H')(h:aG H P lpos b_):aG H' P lpos b_:=by
 rcases h with h | ⟨c',h1,h2⟩
 . exact .inl (s _ _ h)
 exact .inr ⟨c',s _ _ h1,s _ _ h2⟩
end
section
variable {X:Cx}{a_:Po}{Z:St}{H0:Hp}{l q I S:Addr}{as:List Addr}{kA:Nat->Hp->Addr->Prop}{g:Nat->Nat->Bool}{Rb:Nat->Prop}{R:Result->Shared->Prop}{Q:VP}{E:VP}
def EZ(X:Cx)(q:Addr)(as:List Addr)(kA:Nat->Hp->Addr->Prop)(H0:Hp)(Z:St):Prop:=∀(i:Nat) (a:Addr),as[i]?=some a->∀(a_:Po) (H:Hp) (s:Shared),Inv X a_ Z H s->ac H0 H ->
 wpAny (model X.prog X.w) X.A.in1 (call (.ref q) [.ref a]) (λu s'=>∃j H',Inv X a_ Z H' s'/\u=.ref j/\ac H H'/\kA i H' j) (λ_ _=>False) s
structure AH(X:Cx)(n:Nat)(kA:Nat->Hp->Addr->Prop)(g:Nat->Nat->Bool)(Rb:Nat->Prop):Prop where
 mono:∀{i H H' kt},ac H H'->kA i H kt->kA i H' kt
 tr:∀a b c,g a b=true->g b c=true->g a c=true
 irr:∀a,g a a=false
 r0:Rb 0
 rs:∀i j,Rb j->i<n->g i j=true->Rb i
 cmp:∀(i j:Nat) (kt kb:Addr) (a_:Po) (Z:St) (H:Hp) (s:Shared) (Q:VP) (E:VP),Rb j->0<i->i<n->Inv X a_ Z H s->kA i H kt->kA j H kb->Q (.bool (g i j)) s->wpAny (model X.prog X.w) X.A.in1 (richCompare .Gt (.ref kt) (.ref kb)) Q E s
theorem afy(hc:X.calm=true)(hu:X.A.in1.units<cLine)(xk:l≠I)(tu:S≠I)(No:H0 l=some (.lst (as.map V.ref)))(C:AH X as.length kA g Rb)
 (a3:EZ X q as kA H0 Z) (hR:∀i a H' s',as[i]?=some a->(∀j,j<as.length->g j i=false)->Inv X a_ Z H' s'->ac H0 H'->R (.ok (.ret (.ref a))) s') :
 ∀(r j i:Nat) (H:Hp) (s:Shared) (ab O:Addr) (c:Nat),as.length - (j+1)=r->j+1<=as.length->Inv X a_ Z H s->ac H0 H->fR X a_ H I->fR X a_ H S->s.heap.get? S=some (seqObj "list" #[.ref ab,.ref O] c)->s.heap.IsListIter I l (j+1) ->
  as[i]?=some ab->kA i H O->Rb i->(∀J,J<=j->g J i=false)->codeAny (model X.prog X.w) X.A (.builtin "max.loop" ⟨[.ref I,.ref q,.ref S],[]⟩) R s:=by
 have xl:(toString "max"++toString ".loop":String)="max.loop":=by decide
 have hsz:(as.map Value.ref).toArray.size=as.length:=by simp
 intro r
 induction r with
 | zero=>
  intro j i H s ab O c hr hj Y sm fI fS hS a1 jT Fb rb a0;have W:=CI (prog:=X.prog) (w:=X.w) (A:=X.A.in1) (Y.ok.hd hc) I l xk (as.map Value.ref).toArray;have k9:j+1=as.length:=by omega
  refine mD VH ?_;rw[ql v6 _];show wpAny _ X.A.in1 (seqItems? (.ref S) >>= _) _ _ _;refine aa (vQ hS rfl ?_);show wpAny _ X.A.in1 (tryCatch (pyNext (.ref I)) _ >>= _) _ _ _;refine aa (yX (W.done _ _ _ ⟨by rw[hsz,<-k9];exact a1,Y.isL (sm _ _ No)⟩ λh' m9 fX=>?_));have I1:Inv X a_ Z H { s with heap:=h',toks:=m9 }:=Y.turnF fI λb o G e=>fX b o (by simpa using G) e;have iO:=fX S _ (by simpa using tu) hS;have s1:=kL h' S (Obj.mapSeq λ_=>(#[]:Av));show wpAny _ X.A.in1 (updateSeq S (λ_=>#[]) >>= _) _ _ _;refine aa ?_;refine CH iO rfl (aa (I9 (aj ?_)));exact hR i ab H _ jT (λJ ni=>a0 J (by omega)) (I1.turnF (t':=m9) fS λb o G e=>(s1.2 b G).trans e) sm
 | succ r ih=>
  intro j i H s ab O c hr hj Y sm fI fS hS a1 jT Fb rb a0;have W:=CI (prog:=X.prog) (w:=X.w) (A:=X.A.in1) (Y.ok.hd hc) I l xk (as.map Value.ref).toArray;have aH:j+1<as.length:=by omega
  refine mD VH ?_;rw[ql v6 _];show wpAny _ X.A.in1 (seqItems? (.ref S) >>= _) _ _ _;refine aa (vQ hS rfl ?_);show wpAny _ X.A.in1 (tryCatch (pyNext (.ref I)) _ >>= _) _ _ _;refine aa (yX (W.item (j+1) _ _ _ (by rw[hsz];exact aH) ⟨a1,Y.isL (sm _ _ No)⟩ λv h' m9 hP xf fX=>?_));have j9:(as.map Value.ref)[j+1]?=some v:=by simpa using hP
  obtain⟨a,ha,rfl⟩:∃a,as[j+1]?=some a/\v=.ref a:=by
   rw[cz]at j9;cases e:as[j+1]? with
   | none=>rw[e]at j9;cases j9
   | some a=>rw[e]at j9;cases j9;exact⟨a,rfl,rfl⟩
  obtain⟨qN,xm,oO,j8⟩:=id xf.1;have I1:Inv X a_ Z H { s with heap:=h',toks:=m9 }:=Y.turnF fI λb o G e=>fX b o (by simpa using G) e;have xn:h'.get? S=some (seqObj "list" #[.ref ab,.ref O] c):=fX S _ (by simpa using tu) hS;have Ip:Inv X (a_++rT [I,S] h') Z H { s with heap:=h',toks:=m9 }:=I1.pinned (fp:=[I,S]) (λb G=>by
   rcases bc.mp G with e | e
   . rw[e];exact fI
   . rw[bX.mp e];exact fS) (λb G=>by
   rcases bc.mp G with e | e
   . rw[e];exact⟨qN,xm,λv z=>by rw[j8]at z;cases z⟩
   rw[bX.mp e];exact⟨_,xn,λv z=>nomatch z⟩)
  show wpAny _ X.A.in1 (tryCatch (holding [.ref a] (call (.ref q) [.ref a])) _ >>= _) _ _ _;refine aa (yX (iJ (dH (a3 (j+1) a ha _ H _ Ip sm) (λx s2 he=>?_) λ_ _ hF=>hF.elim)));obtain⟨U,H2,tw,rfl,bj,vc⟩:=he;have pI:=tw.pin (I,qN) (fP _ (fP _ (qr (by simp) xm)));have pS:=tw.pin (S,seqObj "list" #[.ref ab,.ref O] c) (fP _ (fP _ (qr (by simp) xn)));have I2:=tw.unpinned;have Np:=sm.trans bj;have AI:fR X a_ H2 I:=fI.of pI.2.1;have vd:fR X a_ H2 S:=fS.of pS.2.1;have a2:s2.heap.IsListIter I l (j+1+1):=⟨qN,pI.1,oO,j8⟩;show wpAny _ X.A.in1 (tryCatch (holding [.ref a,.ref U] (richCompare .Gt (.ref U) (.ref O) >>= _)) _ >>= _) _ _ _;refine aa (yX (iJ (aa (C.cmp (j+1) i U O _ _ _ _ _ _ rb (IT _) aH I2 vc (C.mono bj Fb) ?_))));refine aa (iJ (ou ?_));refine aa (I9 (aj ?_))
  by_cases gs:g (j+1) i=true
  . have s1:=kL s2.heap S (Obj.mapSeq λ_=>#[.ref a,.ref U]);obtain⟨c2,eh⟩:∃c2,(s2.heap.update S (Obj.mapSeq λ_=>#[.ref a,.ref U])).get? S=some (seqObj "list" #[.ref a,.ref U] c2):=⟨_,Vs pS.1 λ_=>#[.ref a,.ref U]⟩;simp only[gs,ut];refine aa ?_;refine CH pS.1 rfl (aa (I9 ?_));rw[xl];refine aj ⟨oH v6 _,ih (j+1) (j+1) H2 _ a U c2 (by omega) aH (I2.turnF (t':=s2.toks) vd λb o G e=>(s1.2 b G).trans e) Np AI vd eh ⟨qN,(s1.2 I tu.symm).trans pI.1,oO,j8⟩ ha vc (C.rs _ _ rb aH gs) λJ ni=>?_⟩
    by_cases e:J=j+1
    . subst e;exact C.irr _
    cases z:g J (j+1) with
    | false=>rfl
    | true=>have:=C.tr _ _ _ z gs;rw[a0 J (by omega)]at this;cases this
  have jC:g (j+1) i=false:=by simpa using gs
  simp only[jC,kI,iI];refine aa (I9 ?_);rw[xl];refine aj ⟨oH v6 _,ih (j+1) i H2 _ ab O c (by omega) aH I2 Np AI vd pS.1 a2 jT (C.mono bj Fb) rb λJ ni=>?_⟩
  by_cases e:J=j+1
  . subst e;exact jC
  exact a0 J (by omega)
theorem afA(G:Inv X a_ Z H s)(hc:X.calm=true)(hu:X.A.in1.units<cLine)(hl:H l=some (.lst (as.map V.ref)))(cC:0<as.length)(C:AH X as.length kA g Rb)
 (a0:EZ X q as kA H Z) (hQ:∀i a H' s',as[i]?=some a->(∀j,j<as.length->g j i=false)->Inv X a_ Z H' s'->ac H H'->Q (.ref a) s') :
 wpAny (model X.prog X.w) X.A (call (.builtin "max") [.ref l] [(Str.ofString "key",.ref q)]) Q E s:=by
 have xl:(toString "max"++toString ".loop":String)="max.loop":=by decide
 have zk:=G.isL hl;obtain⟨ol,EQ,_⟩:=id zk;have a1:l<s.heap.objs.size:=bi EQ;have hsz:(as.map Value.ref).toArray.size=as.length:=by simp
 refine kmk_tree PySem.F.kind_max PySem.F.plain_max PySem.F.entry_max (kmk_max_key _ _) ?_;show wpAny _ X.A.in1 (Builtin.Builtins.bindParams "max" ["key","default"] 0 ⟨[],[(Str.ofString "key",.ref q)]⟩ >>= _) _ _ s;refine aa (IX (show Builtin.Builtins.bindParams "max" ["key","default"] 0 ⟨[],[(Str.ofString "key",.ref q)]⟩=pure [some (.ref q),none] from rfl) ?_);refine aa (aj ?_);refine aa (IC zk ?_);refine aa (Cz ?_ (cE _));rw[xl];refine aj ⟨oH v6 _,?_⟩;have Y:(s.heap.push { cls:=.type "list_iterator",data:=.fields #[.ref l,.int 0 0] }).objs.size=s.heap.objs.size+1:=size_push' ..;have xk:l≠s.heap.objs.size:=cg a1;have tu:(s.heap.push { cls:=.type "list_iterator",data:=.fields #[.ref l,.int 0 0] }).objs.size≠s.heap.objs.size:=by rw[Y];exact kJ (vV _)
 have fI:fR X a_ H s.heap.objs.size:=G.fpOk (aD _) (G.hok.fresh (aD _));have fS:fR X a_ H (s.heap.push { cls:=.type "list_iterator",data:=.fields #[.ref l,.int 0 0] }).objs.size:=G.fpOk (by rw[Y];exact vW _) (G.hok.fresh (by rw[Y];exact vW _));have gI:((s.heap.push { cls:=.type "list_iterator",data:=.fields #[.ref l,.int 0 0] }).push (seqObj "list" #[] 0)).get? s.heap.objs.size=some { cls:=.type "list_iterator",data:=.fields #[.ref l,.int 0 0] }:=
  bB _ (cT _ rfl)
 have gS:((s.heap.push { cls:=.type "list_iterator",data:=.fields #[.ref l,.int 0 0] }).push (seqObj "list" #[] 0)).get? (s.heap.push { cls:=.type "list_iterator",data:=.fields #[.ref l,.int 0 0] }).objs.size=some (seqObj "list" #[] 0):=cT _ rfl;have I0:Inv X a_ Z H { s with heap:=(s.heap.push { cls:=.type "list_iterator",data:=.fields #[.ref l,.int 0 0] }).push (seqObj "list" #[] 0) }:=G.kept (t':=s.toks) λb o e=>bB _ (bB _ e);generalize (s.heap.push { cls:=.type "list_iterator",data:=.fields #[.ref l,.int 0 0] }).objs.size=S at *;generalize s.heap.objs.size=I at *;generalize (s.heap.push { cls:=.type "list_iterator",data:=.fields #[.ref l,.int 0 0] }).push (seqObj "list" #[] 0)=h0 at *;have W:=CI (prog:=X.prog) (w:=X.w) (A:=X.A.in1) (G.ok.hd hc) I l xk (as.map Value.ref).toArray;refine mD VH ?_;rw[ql v6 _];show wpAny _ X.A.in1 (seqItems? (.ref S) >>= _) _ _ _;refine aa (vQ gS rfl ?_);show wpAny _ X.A.in1 (tryCatch (pyNext (.ref I)) _ >>= _) _ _ _;refine aa (yX (W.item 0 _ _ _ (by rw[hsz];exact cC) ⟨⟨_,gI,rfl,rfl⟩,I0.isL hl⟩ λv h' m9 hP xf fX=>?_));have U:(as.map Value.ref)[0]?=some v:=by simpa using hP
 obtain⟨a,ha,rfl⟩:∃a,as[0]?=some a/\v=.ref a:=by
  rw[cz]at U;cases e:as[0]? with
  | none=>rw[e]at U;cases U
  | some a=>rw[e]at U;cases U;exact⟨a,rfl,rfl⟩
 obtain⟨qN,xm,oO,j8⟩:=id xf.1;have I1:Inv X a_ Z H { s with heap:=h',toks:=m9 }:=I0.turnF fI λb o J e=>fX b o (by simpa using J) e;have xn:h'.get? S=some (seqObj "list" #[] 0):=fX S _ (by simpa using tu) gS;have Ip:Inv X (a_++rT [I,S] h') Z H { s with heap:=h',toks:=m9 }:=I1.pinned (fp:=[I,S]) (λb J=>by
  rcases bc.mp J with e | e
  . rw[e];exact fI
  . rw[bX.mp e];exact fS) (λb J=>by
  rcases bc.mp J with e | e
  . rw[e];exact⟨qN,xm,λv z=>by rw[j8]at z;cases z⟩
  rw[bX.mp e];exact⟨_,xn,λv z=>nomatch z⟩)
 show wpAny _ X.A.in1 (tryCatch (holding [.ref a] (call (.ref q) [.ref a])) _ >>= _) _ _ _;refine aa (yX (iJ (dH (a0 0 a ha _ H _ Ip (ac.refl H)) (λx s2 he=>?_) λ_ _ hF=>hF.elim)));obtain⟨O,H2,tw,rfl,bj,vc⟩:=he;have pI:=tw.pin (I,qN) (fP _ (fP _ (qr (by simp) xm)));have pS:=tw.pin (S,seqObj "list" #[] 0) (fP _ (fP _ (qr (by simp) xn)));have I2:=tw.unpinned;have AI:fR X a_ H2 I:=fI.of pI.2.1;have vd:fR X a_ H2 S:=fS.of pS.2.1;have s1:=kL s2.heap S (Obj.mapSeq λ_=>#[.ref a,.ref O]);obtain⟨c2,eh⟩:∃c2,(s2.heap.update S (Obj.mapSeq λ_=>#[.ref a,.ref O])).get? S=some (seqObj "list" #[.ref a,.ref O] c2):=⟨_,Vs pS.1 λ_=>#[.ref a,.ref O]⟩;show wpAny _ X.A.in1 (updateSeq S (λ_=>#[.ref a,.ref O]) >>= _) _ _ _;refine aa ?_;refine CH pS.1 rfl ?_;rw[xl];refine aj ⟨oH v6 _,afy (H0:=H) hc hu xk tu hl C a0 (λi a H' s' e b I' sm=>hQ i a H' s' e b I' sm) _ 0 0 H2 _ a O c2 rfl cC (I2.turnF (t':=s2.toks) vd λb o J e=>(s1.2 b J).trans e) bj AI vd eh ⟨qN,(s1.2 I tu.symm).trans pI.1,oO,j8⟩ ha vc C.r0 λj' ni=>?_⟩;have e:j'=0:=by omega
 subst e;exact C.irr _
end
end
end L2
namespace HT
theorem Nq(A:Around)(s:Shared)(a:Int)(t:Tok)(c:Int)(u:Tok)(prog:Program)(w:World)(E:VP)(Q:VP)(h:Q (.bool (decide (c<a))) s) :
 wpAny (model prog w) A (richCompare .Gt (.int a t) (.int c u)) Q E s:=
 (PyProof.Rows.gt_int h:wpAny (model prog w) A (compareOp .Gt (.int a t) (.int c u)) Q E s)
end HT
namespace L2
section
open PySem.W (tabObj)
def xq(q c':Addr)(b_:Str)(params:Arguments)(body:Expr)(scope:Scope)(clos:List (Str×Addr)):HO:=.ext λh=>∃pm iU,h.get? q=some (W.kla_obj "<lambda>" b_ params body scope clos pm c' iU)
def Nr(P:Addr)(b_:Str)(params:Arguments)(body:Expr)(scope:Scope)(clos:List (Str×Addr))(pos:Pos):TE:=λZ H Q=>aG H P pos b_/\∀q c' H',H q=none->H' P≠none->(∀b o,H b=some o->b≠P->H' b=some o)->aG H' P pos b_->H' c'=some (xg c' b_)->H' q=some (xq q c' b_ params body scope clos)->Q (.ref q) H'
section
variable {X:Cx}{c P:Addr}{params:Arguments}{body:Expr}{scope:Scope}{clos:List (Str×Addr)} {pos:Pos}{b_:Str}
theorem afC(AJ:X.env.code=.ref c)(hd:W.codeHdIn X.K c P=true)(hb:X.base.BuiltinsAt X.mg P)(ER:closureFor scope X.env=pure clos)(hq:X.env.qual ++ "<lambda>"=b_:=by rfl)(AK:X.env.globals=mainGlobals:=by rfl)(Fc:defaultsOf params X.env=([],[]):=by rfl) :
 PE X (.Lambda params body scope pos) (Nr P b_ params body scope clos pos):=by
 intro a_ s Z H Q I h;obtain⟨tb,q⟩:=h;subst hq;refine W.kla_eval Fc ?_;have hg:s.heap.Ns mainGlobals X.mg:=I.mod.glob.keeps I.bk;obtain⟨bm,ob,b1,b2,b3,b4,b5,b6⟩:=hb;have gs:s.heap.BuiltinsAt X.mg P:=⟨bm,ob,b1,b2,b3,b4,I.bk _ _ b5,b6⟩;have C:=W.codeHd_of_K I.kIn hd;have a5:∀ps,s.heap.get? P=some (tabObj ps)->mainGlobals≠P:=λps e z=>by
  obtain⟨o,es,ep,e',d',_⟩:=hg;rw[z,e]at e';cases e';cases d'
 have Y:∀b o,s.heap.get? b=some o->b<s.heap.objs.size:=λb o e=>bi e
 rcases tb with e | ⟨c',e1,e2⟩
 . have O:s.heap.get? P=some (tabObj #[]):=(show bE X.prog X.w H s.heap P (iA P #[]) from I.hok P _ e).1;refine W.kla_makeFunction ER AK hg AJ C O trivial rfl (a5 _ O) gs λc' iU h' tk hx G hl Nu Fe=>?_;have I1:Inv X a_ Z (ae H P (iA P (#[] ++ #[rawInt pos.line,rawInt pos.col,.ref c']))) { s with heap:=h',toks:=tk }:=
    I.write (x:=P) (e:=P) (by rw[e];exact True.intro) (.inl rfl) (λb u hb e=>hx b u hb e) ⟨_,Fe⟩ (xh Fe Fe λh1 h2 a k=>k _ a)
   have nc:H c'=none:=I.hok.fresh G;have cP:c'≠P:=λz=>absurd (Y _ _ O) (Ja.mpr (z▸G));have a6:ae H P (iA P (#[] ++ #[rawInt pos.line,rawInt pos.col,.ref c'])) c'=none:=by rw[aE cP];exact nc
   have a0:=Nu;obtain⟨c2,oc,vs,t,ec,oO,j8,a7⟩:=a0;cases ec;have I2:=I1.track (o:=xg c' (X.env.qual ++ "<lambda>")) a6 (cR I.sz G) (kJ (gB I.lt G)) (λx cc ex z=>by
    obtain⟨v,oo,hv,_⟩:=I.cell x cc ex;exact absurd (Y _ _ hv) (Ja.mpr (z▸G))) (λp hp z=>absurd (Y _ _ (I.pin p hp).1) (Ja.mpr (z▸G))) (xh oO Nu λh1 h2 a k=>aeP a k)
   have U:(h'.push (W.kla_obj "<lambda>" (X.env.qual ++ "<lambda>") params body scope clos ((X.mg "__name__").getD .none) c' iU)).get? h'.objs.size=some (W.kla_obj "<lambda>" (X.env.qual ++ "<lambda>") params body scope clos ((X.mg "__name__").getD .none) c' iU):=cT _ rfl;have I3:=I2.laid (t':=tk) (h':=h'.push (W.kla_obj "<lambda>" (X.env.qual ++ "<lambda>") params body scope clos ((X.mg "__name__").getD .none) c' iU)) (a:=h'.objs.size) (o:=xq h'.objs.size c' (X.env.qual ++ "<lambda>") params body scope clos)
    (λb u e=>bB _ e) (aD _) (xh U ⟨_,_,U⟩ λh1 h2 a1 k=>a1.elim λpm a2=>a2.elim λcv a=>⟨pm,cv,k _ a⟩)
   have hsz:s.heap.objs.size<=h'.objs.size:=cR G (oB hl);have j:H h'.objs.size=none:=I.hok.fresh hsz;have qP:h'.objs.size≠P:=λz=>absurd (Y _ _ O) (Ja.mpr (z▸hsz));have qc:h'.objs.size≠c':=(cg hl).symm;refine⟨.ref h'.objs.size,_,I3,rfl,q _ c' _ j ?_ (λb o J nb=>?_) (.inr ⟨c',?_,?_⟩) ?_ aw⟩
   . rw[aE qP.symm,aE cP.symm,aw];exact λz=>nomatch z
   . rw[aE (aF J j),aE (aF J nc),aE nb];exact J
   . rw[aE qP.symm,aE cP.symm,aw];rfl
   . rw[aE qc.symm,aw]
   rw[aE qc.symm,aw]
 have O:s.heap.get? P=some (tabObj #[rawInt pos.line,rawInt pos.col,.ref c']):=(show bE X.prog X.w H s.heap P (iA P _) from I.hok P _ e1).1;have hf:codeAmong pos (#[rawInt pos.line,rawInt pos.col,.ref c']:Av).toList=some (.ref c'):=by
  show(if ((pos.line:Int) == pos.line && (pos.col:Int) == pos.col)=true then _ else _)=_;rw[ai (by simp)]
 refine W.kla_makeFunctionHit ER AK hg AJ C O trivial hf gs λiU h' tk hk hsz=>?_;have U:(h'.push (W.kla_obj "<lambda>" (X.env.qual ++ "<lambda>") params body scope clos ((X.mg "__name__").getD .none) c' iU)).get? h'.objs.size=some (W.kla_obj "<lambda>" (X.env.qual ++ "<lambda>") params body scope clos ((X.mg "__name__").getD .none) c' iU):=cT _ rfl;have I3:=I.laid (t':=tk) (h':=h'.push (W.kla_obj "<lambda>" (X.env.qual ++ "<lambda>") params body scope clos ((X.mg "__name__").getD .none) c' iU)) (a:=h'.objs.size) (o:=xq h'.objs.size c' (X.env.qual ++ "<lambda>") params body scope clos)
  (λb u e=>bB _ (hk b u e)) hsz (xh U ⟨_,_,U⟩ λh1 h2 a3 k=>a3.elim λpm a4=>a4.elim λcv a=>⟨pm,cv,k _ a⟩)
 have j:H h'.objs.size=none:=I.hok.fresh hsz;refine⟨.ref h'.objs.size,_,I3,rfl,q _ c' _ j ?_ (λb o J nb=>?_) (.inr ⟨c',?_,?_⟩) ?_ aw⟩
 . rw[aE (aF e1 j),e1];exact λz=>nomatch z
 . rw[aE (aF J j)];exact J
 . rw[aE (aF e1 j)];exact e1
 . rw[aE (aF e2 j)];exact e2
 rw[aE (aF e2 j)];exact e2
end
end
section
open PySem.W (envX)
def xr(P:Program)(w:World)(K:Fg)(mg:Mv)(base:Heap)(N:Ls)(b_:Str)(scope:Scope)(f:Addr)(cd:Value)(clos:List (Str×Addr))(A:Around)(outer:List Env)(s:Shared)(H:Hp)(E:XK):Cx where
 prog:=P
 w:=w
 K:=K
 mg:=mg
 base:=base
 A:=A.deeper (envX b_ scope s.heap.objs.size f cd clos)
 N:=N
 s₀:=s
 H₀:=H
 env:=envX b_ scope s.heap.objs.size f cd clos
 outer:=outer
 stack:=envX b_ scope s.heap.objs.size f cd clos::outer
 ex:=[]
 calm:=true
 fn:=λ_=>false
 pn:=[]
 xe:=λe s'=>wpAny (model P w) (A.deeper (envX b_ scope s.heap.objs.size f cd clos)) (leaving (envX b_ scope s.heap.objs.size f cd clos) e) (λ_ j=>aL outer H s E e j) (λz j=>aL outer H s E z j) s'
structure qO(X:Cx)(x:Str)(cap:Ls)(js:List Nat)(sc:Scope):Prop where
 kind:sc.kind=.function
 co:sc.isCoroutine=false
 gen:sc.isGenerator=false
 nocell:∀y∈sc.names,y.2≠.cell
 par:sc.names.lookup x=some .local
 frees:∀y∈sc.names,y.2=.free->y.1∈cap
 slots:js.map (λj=>X.N[j]?)=cap.map some
 outer':cap.map X.env.kindOf=cap.map λ_=>some NameKind.cell
 capk':cap.map (λy=>sc.names.lookup y)=cap.map λ_=>some NameKind.free
def ve(v:V)(js:List Nat)(Z:St):St:=some v::js.map λj=>(Z[j]?).join
section
variable {X:Cx}{a_:Po}{Z:St}{H:Hp}{s:Shared}{x:Str}{cap:Ls}{js:List Nat}{scope:Scope}{q c':Addr}{b_:Str}{params:Arguments}{body:Expr}{pm iU:Value}{v:V}{u:Value}{A:Around}{k:Nat}{Q:VK}{E:XK}{t:TE}
theorem qO.outer(S:qO X x cap js scope):∀y∈cap,X.env.kindOf y=some .cell:=wK S.outer'
theorem qO.capk(S:qO X x cap js scope):∀y∈cap,scope.names.lookup y=some .free:=wK S.capk'
theorem qO.clos(S:qO X x cap js scope)(ok:X.Ok):closureFor scope X.env=pure (dF X.env scope.names []):=
 Le λy j e=>ok.has _ (.inl (S.outer _ (S.frees y j e)))
theorem afK(S:qO X x cap js scope)(I:Inv X a_ Z H s)(hd:A.handled=none)(a0:A.depth<recursionLimit)(ji:A.frames=some X.stack)(ho:s.heap.get? q=some (W.kla_obj "<lambda>" b_ params body scope (dF X.env scope.names []) pm c' iU))(Ff:s.heap.CodeRec (.ref c') b_)
 (hb:bindArgs (W.kla_fn "<lambda>" b_ params body scope (dF X.env scope.names []) pm (.ref c') iU) ⟨[u],[]⟩=pure [(x,u)]) (r:RelV v u)
 (ht:PE (xr X.prog X.w X.K X.mg X.base (x::cap) b_ scope q (.ref c') (dF X.env scope.names []) A X.stack s H E) body t) (hq:t (ve v js Z) H Q) :
 codeAny (model X.prog X.w) A (.call (.ref q) ⟨[u],[]⟩) (CR aL X.stack X.prog X.w H s Q E) s:=by
 have G:=I.env0;have a2:s.heap.NoLimit:=I.nolimit;have DS:∀y∈scope.names,y.2=.free->∃c,X.env.cells.lookup y.1=some c:=λy hy e=>I.ok.has _ (.inl (S.outer _ (S.frees y hy e)));have O:∀(y:Str) (c:Addr),(dF X.env scope.names []).lookup y=some c->X.env.cells.lookup y=some c:=λy c e=>
  zQ DS (λy c h=>by cases (show([]:List (Str×Addr)).lookup y=some c from h)) e
 refine W.kla_callFunE a0 ho rfl S.co S.gen rfl Ff ?_;rw[hb];refine aj ?_;refine wpAny_newFunctionEnv S.nocell (λy hy=>by rw[bX.mp hy];exact S.par) (λh' mW wL=>⟨a2.fresh _ wL,W.kla_codeExpr ?_⟩) S.kind;have Y:∀b o,s.heap.get? b=some o->h'.get? b=some o:=λb o e=>wL.extBut b o (cg (bi e)) (bB _ e);have rZ:∀b:Addr,b∉(xr X.prog X.w X.K X.mg X.base (x::cap) b_ scope q (.ref c') (dF X.env scope.names []) A X.stack s H E).ex:=λb z=>absurd (show b∈([]:List Addr) from z) (by simp);have sP:(xr X.prog X.w X.K X.mg X.base (x::cap) b_ scope q (.ref c') (dF X.env scope.names []) A X.stack s H E).Ok:=by
  refine⟨G.mod,S.kind,rfl,rfl,aD _,λy z c h1 h2=>I.ok.inj y z c (O y c h1) (O z c h2),λy hy=>?_,(λy c z _=>nomatch (show false=true from z)),λ_=>hd,Around.frames_deeper ji,.inr ⟨rfl,rfl⟩,λb z=>absurd z (rZ b),G.bs,G.bsz,λb _ _=>rZ b,λb z=>absurd z (rZ b),G.funs,G.frf⟩;have hy:scope.names.lookup y=some .cell\/scope.names.lookup y=some .free:=hy
  rcases hy with hy | hy
  . exact absurd rfl (S.nocell _ (uu hy))
  exact Ci.mp (zR (uu hy))
 have J:Inv (xr X.prog X.w X.K X.mg X.base (x::cap) b_ scope q (.ref c') (dF X.env scope.names []) A X.stack s H E) [] (ve v js Z) H { s with heap:=h',toks:=s.toks + [(x,u)].length }:=by
  refine⟨sP,rfl,I.bare,Un.kept Y,⟨_,mW,λi y z h1 h2 h3=>?_⟩,λy c h=>?_,I.hok.fresh (aD _),λy c h=>I.freeC y c (O y c h),λp hp=>absurd (show p∈([]:Po) from hp) (by simp),I.hok.kept Y,?_⟩
  . cases i with
    | zero=>
     have h1:x=y:=fO h1;have h2:some v=some z:=fO h2;subst h1;cases h2;exact⟨u,r,.inl ⟨S.par,by show([(x,u)]:List (Str×Value)).reverse.lookup x=some u;simp[List.lookup]⟩⟩
    | succ i=>
     have h1:cap[i]?=some y:=h1;have h2:(js.map λj=>(Z[j]?).join)[i]?=some (some z):=h2;rw[cz]at h2;cases hj:js[i]? with
     | none=>rw[hj]at h2;cases h2
     | some j=>
      rw[hj]at h2;have h2:(Z[j]?).join=some z:=fO h2;have e3:Z[j]?=some (some z):=by
       cases e:Z[j]? with
       | none=>rw[e]at h2;cases h2
       | some a=>rw[e]at h2;rw[show a=some z from h2]
      have hs:=cS (λl=>l[i]?) S.slots;simp only[cz,hj,h1,oE]at hs;have hN:X.N[j]?=some y:=fO hs;have hy:y∈cap:=d6 h1;obtain⟨m2,uL,sy⟩:=I.loc;obtain⟨a,ra,lk⟩:=sy j y z hN e3 (.inr (.inl (S.outer y hy)));refine⟨a,ra,?_⟩
      rcases lk with⟨k1,_⟩ | ⟨_,c,a1,eh⟩
      . rw[S.outer y hy]at k1;cases k1
      have kd:scope.names.lookup y=some .free:=S.capk y hy;obtain⟨c2,gF⟩:=sP.has y (.inr kd);have e:=O y c2 gF;rw[a1]at e;cases e;exact .inr ⟨.inr kd,c,gF,eh.keeps Y⟩
  . obtain⟨a,ha⟩:=I.cell y c (O y c h);exact⟨a,ha.keeps Y⟩
  show(ve v js Z).length=(x::cap).length;unfold ve;have:=cS List.length S.slots;rw[ah,ah]at this;rw[bq,bq,ah,this]
 refine dH (ht [] _ (ve v js Z) H _ J hq) (λa s' hs=>?_) λe s' hs=>hs;obtain⟨z,H',U,rv,q'⟩:=hs;exact⟨z,H',U.os,U.bare,U.base,U.hok,rv,q'⟩
end
def afM(X:Cx)(P:Addr)(b_:Str)(lpos:Pos)(js:List Nat)(te tb:TE):TE:=λZ H Q=>f9 te eg Z H λus H1=>∃(l:Addr) (as:List Addr) (kA:Nat->Hp->Addr->Prop) (g:Nat->Nat->Bool) (Rb:Nat->Prop),us=[.ref l]/\l≠P/\H1 l=some (.lst (as.map V.ref))/\0<as.length/\AH X as.length kA g Rb/\aG H1 P lpos b_ /\
 (∀i a,as[i]?=some a->∀H2,jB P H1 H2->tb (ve (.ref a) js Z) H2 λv H3=>∃z,v=.ref z/\ac H2 H3/\kA i H3 z) /\
 ∀i a H',as[i]?=some a->(∀j,j<as.length->g j i=false)->jB P H1 H'->aG H' P lpos b_->Q (.ref a) H'
section
variable {X:Cx}{c P:Addr}{params:Arguments}{body e:Expr}{scope:Scope}{p pos lpos wx:Pos}{b_ x:Str}{cap:Ls}{js:List Nat}{k:Nat}{te tb:TE}
theorem afN(he:PE X e te)(S:qO X x cap js scope)(O:bT (k+1) X.A.in1)(hc:X.calm=true)(AJ:X.env.code=.ref c)(hd:W.codeHdIn X.K c P=true)(hb:X.base.BuiltinsAt X.mg P)(hg:Gl X "max")(hm:X.mg "max"=none)
 (oU:∀(q c':Addr) (s:Shared) (H:Hp) (E:XK),bT k (X.A.in1.deeper (envX b_ scope s.heap.objs.size q (.ref c') (dF X.env scope.names [])))->PE (xr X.prog X.w X.K X.mg X.base (x::cap) b_ scope q (.ref c') (dF X.env scope.names []) X.A.in1 X.stack s H E) body tb)
 (Fh:∀(pm iU u:Value) (c':Addr),bindArgs (W.kla_fn "<lambda>" b_ params body scope (dF X.env scope.names []) pm (.ref c') iU) ⟨[u],[]⟩=pure [(x,u)])
 (hq:X.env.qual ++ "<lambda>"=b_:=by rfl) (AK:X.env.globals=mainGlobals:=by rfl) (Fc:defaultsOf params X.env=([],[]):=by rfl)
 (h1:backTo pos (starEach [e] X.env)=(false,eval e X.env)::backTo pos (starEach [] X.env):=by rfl) (h2:starEach [e] X.env=[(false,eval e X.env)]:=by rfl) (h3:(backTo pos (starEach [e] X.env)).any (·.1)=false:=by rfl) :
 PE X (.Call (.Name "max" p) [e] [⟨some "key",.Lambda params body scope lpos,wx⟩] pos) (afM X P b_ lpos js te tb):=by
 intro a_ s Z H Q I h;have hu:X.A.in1.units<cLine:=by have:=O.un;omega
 refine yM (rQ I hg hm boot_max ?_ (by decide) (by decide));have G:PA X [e] (f9 te eg):=hX he dE h2;refine callWith_kw (thn (G pos a_ s Z H _ I h) λus s1 ab=>aN ab λvs H1 I1 r al=>al.elim λl ap=>ap.elim λas av=>av.elim λkA ax=>ax.elim λg ay=>ay.elim λRb az=>az.elim λe1 a'=>a'.elim λlP aH=>aH.elim λhl b0=>b0.elim λcC b1=>b1.elim λC b2=>b2.elim λb7 a0=>a0.elim λa1 b4=>?_) h1 h3;subst e1;obtain⟨u1,rfl,ru⟩:=vals1 r;cases ru;have hk:PK X [⟨some "key",.Lambda params body scope lpos,wx⟩] (f9 (Nr P b_ params body scope (dF X.env scope.names []) lpos) eg):=YH (afC AJ hd hb (S.clos I.ok) hq AK Fc) YG;refine thn (hk pos a_ s1 Z H1 (λzs H2=>∃q c',zs=[.ref q]/\jB P H1 H2/\aG H2 P lpos b_/\H2 c'=some (xg c' b_)/\H2 q=some (xq q c' b_ params body scope (dF X.env scope.names []))) I1 ⟨b7,λq c' H2 nq nP kp Y gF fT=>⟨q,c',rfl,kp,Y,gF,fT⟩⟩) λws s2 a2=>aN a2 λzs H2 I2 rz a3=>a3.elim λq a4=>a4.elim λc' a5=>a5.elim λez a6=>a6.elim λkp a7=>a7.elim λY a9=>a9.elim λeh tz=>?_;subst ez;obtain⟨w1,rfl,b5⟩:=vals1 rz;cases b5;have bb:EZ X q as kA H2 Z:=by
  intro i a G CQ H3 s3 z j;obtain⟨pm,iU,ho⟩:=(show bE X.prog X.w H3 s3.heap q (xq q c' b_ params body scope (dF X.env scope.names [])) from z.hok q _ (j _ _ tz)).1;have Ff:s3.heap.CodeRec (.ref c') b_:=(show bE X.prog X.w H3 s3.heap c' (xg c' b_) from z.hok c' _ (j _ _ eh)).1;refine Cg (qh (afK (E:=E0) (v:=.ref a) (u:=.ref a) S z O.hd O.depth z.env0.in1.frames ho Ff (Fh pm iU _ c') rfl (oU q c' _ _ _ (O.deeper _)) (a1 i a G H3 λb o e n=>j _ _ (kp b o e n))) λr s' J=>?_);cases r with
  | error e=>exact(show False from J).elim
  | ok fl=>
   cases fl with
   | ret u=>
    obtain⟨v,H',U,rv,kt,ev,b6,vc⟩:=z.after J;subst ev;cases rv;exact⟨kt,H',U,rfl,b6,vc⟩
   | next=>exact False.elim J
   | brk=>exact False.elim J
   | cont=>exact False.elim J
 refine afA I2 hc hu (kp _ _ hl lP) cC C bb λi a H' s' G b3 U j=>?_;exact⟨.ref a,H',U,rfl,b4 i a H' G b3 (λb o e n=>j _ _ (kp b o e n)) (Y.same j)⟩
end
end
section
variable {x b_:Str}
section
variable {X:Cx}{e e1 e2 e3:Expr}{te t1 t2 t3:TE}{pos:Pos}
def agc(te:TE):TE:=λZ H Q=>te Z H λx H1=>∃i:Int,x=.int i/\i.natAbs.log2<1920/\Q (.str (toString i)) H1
theorem agd(U:PE X e te):PE X (.FormattedValue e (-1) none pos) (agc te):=by
 intro a_ s Z H Q I h;refine FormattedValue_plain (thn (U a_ s Z H _ I h) λv s1 z=>aN z λx H1 j r1 G=>G.elim λi J=>J.elim λex O=>O.elim λY q=>?_);subst ex;obtain⟨t,rfl⟩:=r1;exact wpAny_formatField_int Y ⟨.str (toString i),H1,j.tok _,⟨_,rfl⟩,q⟩
end
structure FunC(K:Fg)(x b_:Str)(st:Stmt)(f c:Addr)(fd:Fy):Prop where
 ex:∃(oc:Value) (od:Oa) (kV doc pm:Value) (an:Oa) (ct:Value) (iN:Array (Option Value)),fd=W.fnOf x b_ (jw st) (gJ st) (aC st) .none kV doc pm an (.ref c) ct /\
  K.lookup f=some ⟨oc,od,.func (W.fnOf x b_ (jw st) (gJ st) (aC st) .none kV doc pm an (.ref c) ct),iN⟩/\W.codeIn K (.ref c) b_=true
 kp:W.keepIn K (.ref f)=true
theorem FunC.okR{P:Program}{w:World}{K:Fg}{mg:Mv}{base:Heap}{st:Stmt}{f c:Addr}{fd:Fy}{N ps:Ls}{k:Nat}{sp:Sp}(F:FunC K x b_ st f c fd)(S:aM N ps (aC st))(len:∀vs H Q E,sp vs H Q E->vs.length=ps.length)
 (O:∀(A:Around) (outer:List Env) (s:Shared) (H:Hp) (vs:Lv) (Q:VK) (E:XK),bT k (A.deeper (envOfC b_ (aC st) s.heap.objs.size f (.ref c)))->sp vs H Q E ->
  ∃t,bu (o8 P w K mg base N b_ (aC st) f (.ref c) A outer s H E) (gJ st) t/\t { nx:=λ_ H'=>Q .non H',rt:=Q } (start N vs) H):au P w K mg base (eS P w) (k+1) f fd ps sp:=by
 obtain⟨oc,od,kV,U,pm,an,ct,Y,rfl,J,z⟩:=F.ex;exact Dt J z S len λA outer s H vs Q E j G=>O A outer s H vs Q E j G
open PySem.W (tabObj CodeHd)
theorem agi{P:Program}{w:World}{K:Fg}{mg mb:Mv}{CX:hZ}{k:Nat}{fa a Pt c:Addr}{fd:Fy}{lpos:Pos}{sp:Sp}{j:Shared}{vs:Lw}{ns:List Int}
 (KX:K.In j.heap) (mW:j.heap.Ns mainGlobals mg) (G:j.heap.Ns builtinsNs mb) (iV:∀x:Str,x≠"__name__"->mb x=bootBuiltins x) (a3:j.heap.NoLimit) (hg:j.gens = #[])
 (a7:∃bm ob,mg "__builtins__"=some (.ref bm)/\bm≠builtinsNs/\j.heap.get? bm=some ob/\ob.cls=.type "module"/\ob.dict=some builtinsNs/\ob.data=.plain)
 (O:j.heap.get? Pt=some (tabObj #[])) (hC:CodeHd j.heap c Pt) (Fi:K.lookup Pt=none)
 (ha:j.heap.get? a=some { cls:=.type "list",data:=.seq vs.toArray }) (hi:IntsAre vs ns) (hl:ns.length<=sizeLine) (hr:bT k callerA)
 (F:∀base:Heap,K.In base->base.Ns mainGlobals mg->base.BuiltinsAt mg Pt->au P w K mg base CX k fa fd [x] sp) (Fh:∀(s:Shared) (u:Value),BindsTo s fd ⟨[u],[]⟩ [(x,u)])
 (ju:∀H:Hp,H Pt=some (iA Pt #[])->ag K H a (ns.map V.int)->sp [.ref a] H (λv H'=>v=.bl true/\aG H' Pt lpos b_) λ_ _ _=>False)
 (Fj:∀H e s',CX [] H j (λ_ _ _=>False) e s'->False) :
 codeAny (model P w) callerA (.call (.ref fa) ⟨[.ref a],[]⟩) (λr s'=>r=.ok (.ret (.bool true))/\OldK j.heap s'.heap/\s'.os=j.os/\AllBare s'.gens) j:=by
 have rv:=K6 hi;have a4:=hi.length;have Nv:a≠Pt:=λz=>by rw[z,O]at ha;cases ha
 have a1:∀H:Hp,H Pt=some (iA Pt #[])->(∀b,b≠Pt->H b=none\/∃o xs,H b=some (.frz o (.lst xs)))->ag K H a (ns.map V.int)->bQ P w H j.heap->(∀b,H b≠none->b=a\/b=Pt)->(H a≠none->K.lookup a=none) ->
  codeAny (model P w) callerA (.call (.ref fa) ⟨[.ref a],[]⟩) (λr s'=>r=.ok (.ret (.bool true))/\OldK j.heap s'.heap/\s'.os=j.os/\AllBare s'.gens) j:=by
  intro H hT hO hS hok hA hK;have Fk:∀{b:Addr}{o:Obj},j.heap.get? b=some o->H b=none->(mI j.heap H).get? b=some o:=λe n=>Wp e n;have Nw:∀{b:Addr}{o:Obj},j.heap.get? b=some o->(∀it n,o.data≠.seq it n)->(∀ps,o.data≠.fields ps)->H b=none:=λ{b o} e d1 d2=>by
   cases q:H b with
   | none=>rfl
   | some u=>
    rcases hA b (by rw[q];simp) with e' | e'
    . subst e';rw[ha]at e;cases e;exact absurd rfl (d1 _ _)
    subst e';rw[O]at e;cases e;exact absurd rfl (d2 _)
  have AL:∀{b:Addr}{m:Mv},j.heap.Ns b m->(mI j.heap H).Ns b m:=λ{b m} ⟨o,es,ep,e,d,r⟩=>⟨o,es,ep,Fk e (Nw e (λit n z=>by rw[d]at z;cases z) λps z=>by rw[d]at z;cases z),d,r⟩;have Nx:K.In (mI j.heap H):=λb o e=>Fk (KX b o e) (by
   cases q:H b with
   | none=>rfl
   | some u=>
    rcases hA b (by rw[q];simp) with e' | e'
    . subst e';rw[hK (by rw[q];simp)]at e;cases e
    subst e';rw[Fi]at e;cases e)
  have hM:Mod K mg (mI j.heap H):=⟨Nx,AL mW,⟨mb,AL G,iV⟩,a3.elim λmc a5=>a5.elim λh1 h2=>⟨mc,AL h1,h2⟩⟩;have e0:mR P w K mg (mI j.heap H) callerA [] j H:=⟨rfl,hM,λb o e=>Wq e,Ce (Wo _ _),trivial,λb G=>absurd (show b∈([]:List Addr) from G) (by simp),hok,.of_eq hg⟩;have a9:(mI j.heap H).BuiltinsAt mg Pt:=by
   obtain⟨bm,ab,b1,b2,U,b4,b5,Y⟩:=a7;refine⟨bm,ab,b1,b2,λz=>?_,λz=>?_,Fk U (Nw U (λit n z=>by rw[Y]at z;cases z) λps z=>by rw[Y]at z;cases z),b4,b5,Y⟩
   . obtain⟨o,es,ep,e,d,_⟩:=mW;rw[z,e]at U;cases U;rw[d]at Y;cases Y
   rw[z,O]at U;cases U;cases Y
  refine qh ((F _ Nx (AL mW) a9).run callerA [] j H ⟨[.ref a],[]⟩ [.ref a] [.ref a] _ _ hr e0 (Fh j (.ref a)) (.cons rfl .nil) (ju H hT hS)) λr s' h=>?_;cases r with
  | error e=>exact(Fj H e s' h).elim
  | ok fl=>
   cases fl with
   | next=>exact False.elim h
   | brk=>exact False.elim h
   | cont=>exact False.elim h
   | ret u=>
    obtain⟨v,H',os,a6,un,wM,r',q',tb⟩:=h;subst q';obtain rfl:u=Value.bool true:=r';have old:∀b o,j.heap.get? b=some o->b≠Pt->s'.heap.get? b=some o:=λb o e J=>by
     cases q:H b with
     | none=>exact un.keep b o e q (by intro z;exact absurd (show b∈([]:List Addr) from z) (by simp)) (by simp)
     | some u=>
      rcases hO b J with z | ⟨ob,xs,z⟩
      . rw[q]at z;cases z
      have z2:=un.frzs b ob _ z;obtain⟨e1,_⟩:=hok b _ z;obtain⟨e2,_⟩:=wM b _ z2;rw[e]at e1;cases e1;exact e2
    have a2:s'.heap.get? Pt=some (tabObj #[])\/∃a0,s'.heap.get? Pt=some (tabObj (#[]++a0)):=by
     rcases tb with z | ⟨c',z,_⟩
     . exact .inl (show bE P w H' s'.heap Pt (iA Pt #[]) from wM Pt _ z).1
     exact .inr ⟨_,by rw[Array.empty_append];exact(show bE P w H' s'.heap Pt (iA Pt _) from wM Pt _ z).1⟩
    refine⟨rfl,⟨λb o e=>?_,λb o e=>?_⟩,os,a6⟩
    . by_cases J:b=Pt
      . subst J;rw[O]at e;cases e
        rcases a2 with z | ⟨a0,z⟩
        . exact .inl z
        exact .inr (.inl ⟨(hC.tab O).isCodeTable,rfl,#[],a0,rfl,z⟩)
      exact .inl (old b o e J)
    by_cases J:b=Pt
    . subst J
      rcases a2 with z | ⟨a0,z⟩
      . exact⟨_,z⟩
      exact⟨_,z⟩
    exact⟨o,old b o e J⟩
 have vf:∀H:Hp,H Pt=some (iA Pt #[])->bE P w H j.heap Pt (iA Pt #[]):=λH _=>xh O O λh1 h2 z k=>k _ z;cases hk:K.lookup a with
 | some o=>
  have e:=KX a o hk;rw[ha]at e;cases e;refine a1 (λb=>if b=Pt then some (iA Pt #[]) else none) (ai rfl) (λb J=>.inl (af J)) (.inr ⟨_,vs.toArray,_,hk,rfl,rfl,rfl,by rw[gC,a4];exact hl,by simpa using rv⟩) (λb u z=>?_) (λb z=>?_) λz=>absurd (af Nv) z
  . by_cases G:b=Pt
    . have z':=(ai G).symm.trans z;cases z';subst G;exact vf _ (ai rfl)
    have z':=(af G).symm.trans z;cases z'
  by_cases G:b=Pt
  . exact .inr G
  exact absurd (af G) z
 | none=>
  refine a1 (λb=>if b=Pt then some (iA Pt #[]) else if b=a then some (.frz { cls:=.type "list",data:=.seq vs.toArray } (.lst (ns.map V.int))) else none) (ai rfl) (λb J=>?_) (.inl (.inr ⟨{ cls:=.type "list",data:=.seq vs.toArray },by show(if a=Pt then _ else if a=a then _ else _)=_;rw[af Nv,ai rfl]⟩)) (λb u z=>?_) (λb z=>?_) λ_=>hk
  . show(if b=Pt then _ else if b=a then _ else _)=_\/∃o xs,(if b=Pt then _ else if b=a then _ else _)=_;rw[af J]
    by_cases G:b=a
    . exact .inr ⟨_,_,ai G⟩
    exact .inl (af G)
  . have z:(if b=Pt then some (iA Pt #[]) else if b=a then some (.frz { cls:=.type "list",data:=.seq vs.toArray } (.lst (ns.map V.int))) else none)=some u:=z
    by_cases G:b=Pt
    . rw[ai G]at z;cases z;subst G;exact vf _ (ai rfl)
    rw[af G]at z
    by_cases jC:b=a
    . rw[ai jC]at z;cases z;subst jC;exact⟨ha,by rw[ah];exact hl,vs,_,rv,ha⟩
    rw[af jC]at z;cases z
  have z:(if b=Pt then some (iA Pt #[]) else if b=a then some (HO.frz { cls:=.type "list",data:=.seq vs.toArray } (.lst (ns.map V.int))) else none)≠none:=z
  by_cases G:b=Pt
  . exact .inr G
  rw[af G]at z
  by_cases jC:b=a
  . exact .inl jC
  rw[af jC]at z;exact absurd rfl z
theorem ago{l:W.OpenLaw}{n k:Nat}{q:Program}{a1:Ls}{XP:(Mv)->Heap->Prop}{J:World->Heap->Prop}{d:DefRec}{K:Params->Fg}{CX:World->hZ}{sp:World->Sp}{lpos:Pos}{Pt:Addr}
 (hn:l.most=some n) (uL:n<=sizeLine) (wH:d.params.defaults=[]) (hr:bT k callerA)
 (hY:∀(w:World) (h:Heap),J w h->(K w.params).In h/\h.get? Pt=some (tabObj #[]))
 (F:∀(w:World) (mg:Mv) (j:Addr) (h:Heap),(K w.params).In h->h.Ns mainGlobals mg->mg d.name=some (.ref j) ->
  ∃(fd:Fy) (c:Addr),(∀(s:Shared) (u:Value),BindsTo s fd ⟨[u],[]⟩ [(x,u)])/\W.codeHdIn (K w.params) c Pt=true/\(K w.params).lookup Pt=none /\
   ∀base:Heap,(K w.params).In base->base.Ns mainGlobals mg->base.BuiltinsAt mg Pt->au l.prog w (K w.params) mg base (CX w) k j fd [x] (sp w))
 (ju:∀(w:World) (H:Hp) (a:Addr) (ns:List Int),ns.length<=n->H Pt=some (iA Pt #[])->ag (K w.params) H a (ns.map V.int)->sp w [.ref a] H (λv H'=>v=.bl true/\aG H' Pt lpos b_) λ_ _ _=>False)
 (Fj:∀(w:World) (H:Hp) (s:Shared) (e:Value) (s':Shared),CX w [] H s (λ_ _ _=>False) e s'->False) :
 W.WalkO q a1 XP J l.row.toRowW d [] (λf vs=>PySem.call f vs):=by
 refine Att.aaI hn wH λw s₀ s₁ mg mb j o pm cd a2 a vs ns G Y ho hd iw wI sO a0 O hg=>?_;obtain⟨z,hP⟩:=hY w _ Y;obtain⟨fd,c,hb,hC,U,hF⟩:=F w mg j _ z G.T.g wI;exact agi z G.T.g G.T.b G.T.builtins G.T.nolimit hg G.T.bmain hP (W.codeHd_of_K z hC) U sO a0 (cR O uL) hr hF hb (λH hO hS=>ju w H a ns O hO hS) λH e s'=>Fj w H s₁ e s'
end
end L2
namespace HT
section
open PySem.SeqAt
open PySem.AutoSeq1 (wpAny_loadPart')
open PySem.MeetsSeq PySem.MeetsSeq2 PySem.MeetsSeq3
variable {P:Program}{w:World}{A:Around}{s:Shared}
def lg(P:Program)(w:World)(A:Around)(s:Shared)(y x:Value):Prop:=∀(E:VP) (Q:Bool->Shared->Prop),Q true s->wpAny (model P w) A (eqBool y x) Q E s
theorem lg.of{y x:Value}(h:EqAt A s y x true):lg P w A s y x:=λE Q q=>h P w E Q q
theorem lg.refs{l b:Addr}(ne:l≠b)(h:∀(E Q:VP),Q (.bool true) s->wpAny (model P w) A (richCompare .Eq (.ref l) (.ref b)) Q E s):lg P w A s (.ref l) (.ref b):=λE Q q=>by
 unfold eqBool;refine iJ (IQ (λe=>absurd (by have z:=eq_of_beq e;injection z) ne) λ_=>?_);exact aa (h E _ (ou q))
end
end HT
namespace L2
structure Ny(K:Fg)(C:Addr):Prop where
 ha:W.findIn K (.ref C) "__class__"=some (some (.builtin "object.__class__"))
 hn:W.specialIn K (.builtin "object.__class__") "__get__"=some (some (.builtin "getset_descriptor.__get__"))
 htk:W.takesIn K (.builtin "object.__class__")=some true
 hm:W.mroIn K C (.type "object")=some true
section
variable {X:Cx}
theorem Nz:eV X (.builtin "isinstance") (λxs H Q=>∃a C D dx fs b,xs=[.ref a,.ref D]/\H a=some (.ins C dx fs)/\hJ X.K C/\Ny X.K C/\W.kitOne X.K (.ref C) (.ref D)=some b/\Q (.bl b) H):=by
 intro a_ s Z H xs us Q I r h;obtain⟨a,C,D,dx,fs,b,rfl,z,j,i,e,q⟩:=h;obtain⟨u,O,rfl,G,J⟩:=vals2 r;cases (show O=Value.ref D from J);exact J4 I G (jt.ins z j i.ha i.hn i.htk i.hm) e λtk=>⟨.bl b,H,I.tok tk,rfl,q⟩
end
end L2
namespace HT
def py(A:Around)(s:Shared)(y x:Value)(b:Bool):Prop:=
 ∀(prog:Program) (w:World) (E:VP) (Q:VP),Q (.bool b) s->wpAny (model prog w) A (richCompare .Gt y x) Q E s
inductive jD (A:Around) (s:Shared):Lw->Lw->Bool->Prop
 | nil {j:Lw}:jD A s [] j false
 | more {v:Value}{vs:Lw}:jD A s (v::vs) [] true
 | eq {v w:Value}{vs j:Lw}{r:Bool}:SeqAt.EqAt A s v w true->jD A s vs j r->jD A s (v::vs) (w::j) r
 | ne {v w:Value}{vs j:Lw}{r:Bool}:SeqAt.EqAt A s v w false->py A s v w r->jD A s (v::vs) (w::j) r
section
open PySem.SeqAt
open PySem.AutoSeq1 (wpAny_loadPart')
open PySem.MeetsSeq PySem.MeetsSeq2 PySem.MeetsSeq3
theorem agp(l b:Addr)(G J:Av)(n n2:Nat)(dd dQ:Oa)(sl eP:Array (Option Value))(k:Nat):∀(i:Nat) (vs ws:Lw) (r:Bool),G.toList.drop i=vs->J.toList.drop i=ws->i<=G.size->i<=J.size->vs.length=k ->
 Meets (Builtin.«list.__eq__.loop» ⟨[.ref l,.ref b,rawInt i,rawInt 4],[]⟩) (λA R s=>s.heap.get? l=some { cls:=.type "list",dict:=dd,data:=.seq G n,slots:=sl }/\s.heap.get? b=some { cls:=.type "list",dict:=dQ,data:=.seq J n2,slots:=eP } /\
  jD A.in1 s vs ws r/\R (.ok (.ret (.bool r))) s):=by
 have stop:∀(i:Nat) (v:Bool),(G[i]?=none\/J[i]?=none)->v=decide (J.size<G.size)->Meets (Builtin.«list.__eq__.loop» ⟨[.ref l,.ref b,rawInt i,rawInt 4],[]⟩) (λA R s=>s.heap.get? l=some { cls:=.type "list",dict:=dd,data:=.seq G n,slots:=sl }/\s.heap.get? b=some { cls:=.type "list",dict:=dQ,data:=.seq J n2,slots:=eP }/\R (.ok (.ret (.bool v))) s):=by
  intro i v hn hv prog w A R s h;obtain⟨hp,g,d,tk,os⟩:=s;obtain⟨z,j,h⟩:=h
  wp_walk using wpAny_loadPart' z,wpAny_loadPart' j
  have e:((i:Nat):Int).toNat=i:=v5 i;rw[e];rw[hv]at h
  rcases hn with hn | hn
  . rw[hn]
    wp_walk using wpAny_loadPart' z,wpAny_loadPart' j
    exact h
  rw[hn];cases G[i]? with
  | none=>
   wp_walk using wpAny_loadPart' z,wpAny_loadPart' j
   exact h
  | some x=>
   wp_walk using wpAny_loadPart' z,wpAny_loadPart' j
   exact h
 induction k with
 | zero=>
  intro i vs ws r e1 e2 l1 l2 hk prog w A R s h;obtain⟨z,j,O,h⟩:=h;have ev:=vZ.mp hk;rw[ev]at O e1;obtain⟨q1,q2⟩:=Mp e1;cases O;exact stop i false (.inl q1) (bM (by omega)).symm prog w A R s ⟨z,j,h⟩
 | succ k ih=>
  intro i vs ws r e1 e2 l1 l2 hk prog w A R s h;obtain⟨z,j,O,h⟩:=h;cases O with
  | nil=>cases hk
  | more=>
   have p1:=wW e1;obtain⟨q1,q2⟩:=Mp e2;exact stop i true (.inr q1) (bw (by omega)).symm prog w A R s ⟨z,j,h⟩
  | eq he O=>
   have p1:=wW e1;have p2:=wW e2;obtain⟨U,r1⟩:=As e1;obtain⟨Y,r2⟩:=As e2;obtain⟨hp,g,d,tk,os⟩:=s
   wp_walk using wpAny_loadPart' z,wpAny_loadPart' j
   have e:((i:Nat):Int).toNat=i:=v5 i;rw[e,U,Y];refine aa (he prog w _ _ ?_)
   wp_walk
   have hc:((i:Int)+1)=((i+1:Nat):Int):=by omega
   rw[hc];refine⟨oH Jb _,mD entry_eq_loop ?_⟩;rw[ql Jb _];exact ih (i+1) _ _ _ r1 r2 p1 p2 (by simpa using hk) prog w A R _ ⟨z,j,O,h⟩
  | ne he hv=>
   have p1:=wW e1;have p2:=wW e2;obtain⟨U,r1⟩:=As e1;obtain⟨Y,r2⟩:=As e2;obtain⟨hp,g,d,tk,os⟩:=s
   wp_walk using wpAny_loadPart' z,wpAny_loadPart' j
   have e:((i:Nat):Int).toNat=i:=v5 i;rw[e,U,Y];refine aa (he prog w _ _ ?_);have sf:=hv prog w
   wp_walk using wpAny_loadPart' z,wpAny_loadPart' j
   rw[U,Y]
   wp_walk using sf
   first | exact h | exact⟨_,rfl,by simpa using h⟩
theorem agq(l b:Addr)(z j:Av)(n n2:Nat)(dd G:Oa)(sl J:Array (Option Value))(r:Bool) :
 Meets (Builtin.«list.__gt__» ⟨[.ref l,.ref b],[]⟩) (λA R s=>s.heap.get? l=some { cls:=.type "list",dict:=dd,data:=.seq z n,slots:=sl }/\s.heap.get? b=some { cls:=.type "list",dict:=G,data:=.seq j n2,slots:=J } /\
  jD A.in1 s z.toList j.toList r/\R (.ok (.ret (.bool r))) s):=by
 intro prog w A R s h;obtain⟨hp,g,d,tk,os⟩:=s;obtain⟨U,O,Y,h⟩:=h;have f3:=AutoSeq1.sub_list_list
 wp_walk using wpAny_loadPart' U,wpAny_loadPart' O
 refine⟨oH Jb _,mD entry_eq_loop ?_⟩;rw[ql Jb _];exact agp l b z j n n2 dd G sl J _ 0 _ _ r rfl rfl (cE _) (cE _) rfl prog w A R _ ⟨U,O,Y,h⟩
theorem agr(l b:Addr)(G j:Av)(n n2:Nat)(dd dQ:Oa)(sl eP:Array (Option Value))(r:Bool) :
 Meets (Builtin.«tuple.__gt__» ⟨[.ref l,.ref b],[]⟩)
  (λA R s=>s.heap.get? l=some { cls:=.type "tuple",dict:=dd,data:=.seq G n,slots:=sl }/\s.heap.get? b=some { cls:=.type "tuple",dict:=dQ,data:=.seq j n2,slots:=eP } /\
   jD A.in1 s G.toList j.toList r/\R (.ok (.ret (.bool r))) s):=
 .of_wp λprog w A R s h=>by
  obtain⟨hp,g,d,tk,os⟩:=s;obtain⟨hl,hb,a0,h⟩:=h;have f2:=Ck
  wp_walk using wpAny_loadPart' hl,wpAny_loadPart' hb,oq _ (λrest b s'=>b.1=none/\s'=⟨hp,g,d,tk,os⟩/\∃(vs J:Lw),rest=vs.zip J /\
   jD A.in1 ⟨hp,g,d,tk,os⟩ vs J r/\vs.length+j.size=J.length+G.size) _
  case turn=>
   rintro⟨y,x⟩ rest b s' ⟨gs,rfl,vs,J,hz,z,hlen⟩;cases z with
   | nil=>rw[U0]at hz;cases hz
   | more=>rw[U1]at hz;cases hz
   | eq O z=>
    rw[rB]at hz;injection hz with oV qy
    injection oV with hy Y
    subst hy Y;simp only[bq]at hlen;refine aa (O prog w _ _ ?_)
    wp_walk
    exact⟨rfl,rfl,_,_,qy,z,by omega⟩
   | ne O U=>
    rw[rB]at hz;injection hz with oV qy
    injection oV with hy Y
    subst hy Y;refine aa (O prog w _ _ ?_);have sf:=U prog w
    wp_walk using sf
    exact⟨_,rfl,by simpa using h⟩
  case fin=>
   rintro⟨b1,b2⟩ s' ⟨gs,rfl,vs,J,hz,z,hlen⟩;simp only at gs;subst gs;have U:r=decide (j.size<G.size):=by
    cases z with
    | nil=>
     simp only[gk]at hlen;exact(bM (by omega)).symm
    | more=>
     simp only[gk,bq]at hlen;exact(bw (by omega)).symm
    | eq _ _=>rw[rB]at hz;cases hz
    | ne _ _=>rw[rB]at hz;cases hz
   rw[U]at h
   wp_walk
   exact⟨_,rfl,by simpa [Builtin.Tuple.tupleCompareSizes]using h⟩
  case h=>
   exact⟨rfl,rfl,G.toList,j.toList,rfl,a0,by simp[Nat.add_comm]⟩
end
section
variable {A:Around}{s:Shared}
theorem py.lists{l b:Addr}{z j:Av}{r:Bool}(hl:s.heap.IsList l z)(hb:s.heap.IsList b j)(hg:jD A.in1 s z.toList j.toList r)(hu:A.units<cLine):py A s (.ref l) (.ref b) r:=λprog w E Q h=>by
 obtain⟨⟨cls,dd,data,sl⟩,Y,O,n,hd⟩:=id hl;obtain⟨⟨si,dQ,data2,eP⟩,J,G,n2,U⟩:=id hb;simp only at O hd G U;subst O hd G U;exact IG (op:=.Gt) ⟨_,Y,rfl⟩ ⟨_,J,rfl⟩ PySem.F.slot_list_gt PySem.F.entry_list_gt (PySem.F.args_list_gt_2 _ _) (agq l b z j n n2 dd dQ sl eP r)
  ⟨Y,J,hg,show Value.bool r≠Value.notImplemented/\Q (.bool r) s from ⟨(λx=>nomatch x),h⟩⟩ hu
theorem py.tuples{l b:Addr}{z j:Av}{r:Bool}(hl:IsTup s.heap l z)(hb:IsTup s.heap b j)(hg:jD A.in1 s z.toList j.toList r)(hu:A.units<cLine):py A s (.ref l) (.ref b) r:=λprog w E Q h=>by
 obtain⟨⟨cls,dd,data,sl⟩,Y,O,n,hd⟩:=id hl;obtain⟨⟨si,dQ,data2,eP⟩,J,G,n2,U⟩:=id hb;simp only at O hd G U;subst O hd G U;exact IG (op:=.Gt) ⟨_,Y,rfl⟩ ⟨_,J,rfl⟩ PySem.F.slot_tuple_gt PySem.F.entry_tuple_gt (PySem.F.args_tuple_gt_2 _ _) (agr l b z j n n2 dd dQ sl eP r)
  ⟨Y,J,hg,show Value.bool r≠Value.notImplemented/\Q (.bool r) s from ⟨(λx=>nomatch x),h⟩⟩ hu
theorem NA{A:Around}{s:Shared}:∀{vs G:Lw}{ns ms:List Int},IntsAre vs ns->IntsAre G ms->jD A s vs G (lexLt ms ns)
 | _,_,_,_,.nil,.nil=>.nil
 | _,_,_,_,.nil,.cons _ _ _=>.nil
 | _,_,_,_,.cons _ _ _,.nil=>.more
 | _,_,_,_,.cons a t hv,.cons c u hw=>by
  rw[qx];obtain⟨e,j,hi⟩:=zH A s a t c u
  by_cases z:a=c
  . rw[hi.mpr z]at j;rw[ai z.symm];exact .eq j (NA hv hw)
  rw[rH.mpr λw=>z (hi.mp w)]at j;rw[af λw=>z w.symm];exact .ne j λprog w E Q h=>Nq A s a t c u prog w E Q h
end
def nj:Ll->Ll->Bool
 | [],_=>false
 | _::_,[]=>true
 | x::xs,y::ys=>if x=y then nj xs ys else lexLt y x
def pz(n:Int)(xs:Ll)(m:Int)(ys:Ll):Bool:=if n=m then nj xs ys else decide (m<n)
theorem Fl:∀xs:Ll,nj xs xs=false
 | []=>rfl
 | x::xs=>by
  rw[nj,ai rfl];exact Fl xs
theorem NB:∀xs ys zs:Ll,nj xs ys=true->nj ys zs=true->nj xs zs=true
 | [],_,_,h,_=>by cases h
 | _::_,[],_,_,h=>by cases h
 | _::_,_::_,[],_,_=>rfl
 | x::xs,y::ys,z::zs,h,k=>by
  rw[nj]at h k ⊢
  by_cases a:x=y
  . rw[ai a]at h
    by_cases b:y=z
    . rw[ai b]at k;rw[ai (a.trans b)];exact NB xs ys zs h k
    rw[af b]at k;rw[af (a▸b),a];exact k
  rw[af a]at h
  by_cases b:y=z
  . rw[<-b,af a];exact h
  rw[af b]at k;have t:=L2.wU _ _ _ k h;rw[af λw=>by rw[w,L2.Mj]at t;cases t];exact t
theorem agt(n:Int)(xs:Ll):pz n xs n xs=false:=by rw[pz,ai rfl];exact Fl xs
theorem agu{n m k:Int}{xs ys zs:Ll}(h:pz n xs m ys=true)(h':pz m ys k zs=true):pz n xs k zs=true:=by
 unfold pz at h h' ⊢
 by_cases a:n=m
 . rw[ai a]at h
   by_cases b:m=k
   . rw[ai b]at h';rw[ai (a.trans b)];exact NB _ _ _ h h'
   rw[af b]at h';rw[af (a▸b),a];exact h'
 rw[af a]at h;have h:=cq h
 by_cases b:m=k
 . rw[<-b,af a];exact bw h
 rw[af b]at h';have h':=cq h';rw[af (by omega)];exact bw (by omega)
end HT
namespace L2
variable {H:Hp}
def iW(H:Hp)(v:V)(m:List Int):Prop:=∃t,v=.ref t/\H t=some (.tup (m.map V.int))
theorem iW.same{H':Hp}(s:ac H H'){v:V}{m:List Int}(h:iW H v m):iW H' v m:=h.elim λt j=>j.elim λa b=>⟨t,a,s _ _ b⟩
def nn(m:List Int):W.Dat:=.tuple (m.map W.Dat.int)
theorem AM(k:Nat)(m:List Int):W.kqdOk (k+1) (nn m)=true:=by
 show(m.map W.Dat.int).all (W.kqdOk k)=true;rw[Jc];refine eT.mpr λi _=>?_;cases k<;>rfl
theorem NC{a b:List Int}(h:nn a=nn b):a=b:=by
 unfold nn at h;injection h with h
 induction a generalizing b with
 | nil=>
  cases b with
  | nil=>rfl
  | cons y b=>cases h
 | cons x a j=>
  cases b with
  | nil=>cases h
  | cons y b=>
   rw[bp,bp]at h;injection h with h1 h2
   injection h1 with h1
   rw[h1,j h2]
theorem agw{a b:Ll}(h:a.map nn=b.map nn):a=b:=by
 induction a generalizing b with
 | nil=>
  cases b with
  | nil=>rfl
  | cons y b=>cases h
 | cons x a j=>
  cases b with
  | nil=>cases h
  | cons y b=>
   rw[bp,bp]at h;injection h with h1 h2
   rw[NC h1,j h2]
section
variable {X:Cx}{a_:Po}{Z:St}{s:Shared}
theorem Fm{K:Fg}{v:V}{m:List Int}(h:iW H v m):DV K H v (nn m):=by
 obtain⟨t,rfl,h⟩:=h;exact .tup (aP.of h) (DO _)
theorem Fn{K:Fg}:∀{vs:Lv}{ms:Ll},Paired (iW H) vs ms->jY K H vs (ms.map nn)
 | _,_,.nil=>.nil
 | _,_,.cons h r=>.cons (Fm h) (Fn r)
theorem ND(A:Around)(Y:A.units+65<cLine)(I:Inv X a_ Z H s){x y:V}{v u:Value}{d e:W.Dat}(O:RelV x v)(U:RelV y u)(hd:DV X.K H x d)(z:DV X.K H y e)(od:W.kqdOk 9 d=true)(j:W.kqdOk 9 e=true) :
 ∃b,SeqAt.EqAt A.in1 s v u b/\(b=true↔d=e):=by
 obtain⟨as,G⟩:=hd.reads I O;obtain⟨bs,J⟩:=z.reads I U;exact⟨_,W.keq_at (A:=A) G J (qB od) (qB j) (by show A.units+1+64<cLine;omega),IJ 9 d e 9 od j⟩
theorem NE(A:Around)(G:A.units+65<cLine)(I:Inv X a_ Z H s):∀{xs ys:Lv}{us J:Lw}{ns ms:Ll},Paired (iW H) xs ns->Paired (iW H) ys ms->aX xs us->aX ys J->HT.jD A.in1 s us J (HT.nj ns ms)
 | _,_,_,_,_,_,.nil,_,.nil,_=>.nil
 | _,_,_,_,_,_,.cons _ _,.nil,.cons _ _,.nil=>.more
 | _,_,_,_,_,_,.cons (b:=n) (l₂:=ns) h hs,.cons (b:=m) (l₂:=ms) k ks,.cons r rs,.cons q qs=>by
  rw[HT.nj];obtain⟨e,j,hi⟩:=ND A G I r q (Fm h) (Fm k) (AM 8 n) (AM 8 m)
  by_cases z:n=m
  . rw[ai z];rw[hi.mpr (by rw[z])]at j;exact .eq j (NE A G I hs ks rs qs)
  rw[af z];rw[rH.mpr λw=>z (NC (hi.mp w))]at j;obtain⟨t,rfl,O⟩:=h;obtain⟨t',rfl,xw⟩:=k;cases r;cases q;obtain⟨EV,U,p1,_⟩:=I.tuple (aP.of (K:=X.K) O);obtain⟨db,Y,p2,_⟩:=I.tuple (aP.of (K:=X.K) xw);exact .ne j (HT.py.tuples p1 p2 (HT.NA (by simpa using intsAre_of U) (by simpa using intsAre_of Y)) (by show A.units+1<cLine;omega))
def vg(H:Hp)(j:Addr)(n:Int)(xs:Ll):Prop:=∃l zs,H j=some (.tup [.int n,.ref l])/\H l=some (.lst zs)/\Paired (iW H) zs xs
theorem vg.same{H':Hp}(s:ac H H'){j:Addr}{n:Int}{xs:Ll}(h:vg H j n xs):vg H' j n xs:=h.elim λl z=>z.elim λzs G=>G.elim λa J=>J.elim λb c=>⟨l,zs,s _ _ a,s _ _ b,aB c λ_ _=>iW.same s⟩
theorem agA(A:Around)(hu:A.units+68<cLine)(I:Inv X a_ Z H s){a b:Addr}{n m:Int}{xs ys:Ll}(h:vg H a n xs)(k:vg H b m ys):HT.py A s (.ref a) (.ref b) (HT.pz n xs m ys):=by
 obtain⟨Y,zs,h1,h2,U⟩:=h;obtain⟨l2,ws,k1,k2,k3⟩:=k;obtain⟨EV,v1,p1,_⟩:=I.tuple (aP.of (K:=X.K) h1);obtain⟨db,v2,p2,_⟩:=I.tuple (aP.of (K:=X.K) k1);refine HT.py.tuples p1 p2 ?_ (by omega);cases v1 with
 | cons e1 t1=>
  cases v2 with
  | cons e2 t2=>
   obtain⟨O,rfl⟩:=(show∃tk,_=Value.int n tk from e1);obtain⟨J,rfl⟩:=(show∃tk,_=Value.int m tk from e2);cases t1 with
   | cons f1 g1=>
    cases t2 with
    | cons f2 g2=>
     cases f1;cases f2;cases g1;cases g2;show HT.jD A.in1 s [Value.int n O,.ref Y] [Value.int m J,.ref l2] _;unfold HT.pz;obtain⟨e,j,hi⟩:=HT.zH A.in1 s n O m J
     by_cases z:n=m
     . rw[ai z];rw[hi.mpr z]at j;refine .eq j ?_;obtain⟨e',G,qL⟩:=ND (x:=.ref Y) (y:=.ref l2) A (by omega) I rfl rfl (.lst (ag.of h2) (Fn U)) (.lst (ag.of k2) (Fn k3)) (by
        show(xs.map nn).all (W.kqdOk 8)=true;rw[Jc];exact eT.mpr λi _=>AM 7 i) (by
        show(ys.map nn).all (W.kqdOk 8)=true;rw[Jc];exact eT.mpr λi _=>AM 7 i)
       by_cases y:xs=ys
       . rw[qL.mpr (by rw[y])]at G;rw[y,HT.Fl];exact .eq G .nil
       have ef:e'=false:=rH.mpr λw=>y (by have w:=qL.mp w;injection w with w;exact agw w);rw[ef]at G;obtain⟨j1,w1,m1,_⟩:=I.list (ag.of (K:=X.K) h2);obtain⟨j2,w2,m2,_⟩:=I.list (ag.of (K:=X.K) k2);exact .ne G (HT.py.lists m1.isList m2.isList (by simpa using NE A.in1 (by show A.units+1+65<cLine;omega) I U k3 w1 w2) (by show A.units+1<cLine;omega))
     rw[af z];rw[rH.mpr λw=>z (hi.mp w)]at j;exact .ne j λprog w E Q h=>HT.Nq A.in1 s n O m J prog w E Q h
theorem agB(G:X.A.in1.units+68<cLine)(n:Nat)(ns:Nat->Int)(ks:Nat->Ll):AH X n (λi H z=>vg H z (ns i) (ks i)) (λi j=>HT.pz (ns i) (ks i) (ns j) (ks j)) (λ_=>True):=by
 refine⟨λs h=>h.same s,λa b c h k=>HT.agu h k,λa=>HT.agt _ _,trivial,λ_ _ _ _ _=>trivial,?_⟩;intro i j z O a_ Z H s Q E _ hi J I h1 h2 q;exact agA X.A.in1 G I h1 h2 _ _ E Q q
end
end L2
abbrev auv:PySem.Str:="self"
abbrev auw:PySem.Str:="shelf"
abbrev aux:PySem.Str:="chosen"
abbrev auy:PySem.Str:="name"
abbrev auz:PySem.Str:="make"
abbrev auA:PySem.Str:="path"
abbrev auB:PySem.Str:="parcels"
abbrev auC:PySem.Str:="parcel"
abbrev auD:PySem.Str:="_law_script"
abbrev auE:PySem.Str:="disk"
abbrev auF:PySem.Str:="files"
abbrev auG:PySem.Str:="text"
abbrev auH:PySem.Str:="lines"
abbrev auI:PySem.Str:="choices"
abbrev auJ:PySem.Str:="_law_house"
abbrev auK:PySem.Str:="rank"
abbrev auL:PySem.Str:="goal"
abbrev auM:PySem.Str:="wishes"
abbrev auN:PySem.Str:="stand"
abbrev auO:PySem.Str:="decided"
abbrev auP:PySem.Str:="_law_name_here"
abbrev auQ:PySem.Str:="best_set"
abbrev auR:PySem.Str:="now"
abbrev auS:PySem.Str:="_law_many"
abbrev auT:PySem.Str:="needs"
abbrev auU:PySem.Str:="change"
abbrev auV:PySem.Str:="own"
abbrev auW:PySem.Str:="shuts"
abbrev auX:PySem.Str:="group"
abbrev auY:PySem.Str:="tree"
abbrev auZ:PySem.Str:="_law_error"
abbrev au0:PySem.Str:="names"
abbrev au1:PySem.Str:="_law_cell"
abbrev au2:PySem.Str:="_law_disk"
abbrev au3:PySem.Str:="second"
abbrev au4:PySem.Str:="brought"
abbrev au5:PySem.Str:="offers"
abbrev au6:PySem.Str:="common"
abbrev au7:PySem.Str:="_law_k"
abbrev au8:PySem.Str:="first"
abbrev au9:PySem.Str:="kind"
abbrev ava:PySem.Str:="other"
abbrev avb:PySem.Str:="groups"
abbrev avc:PySem.Str:="shelved"
abbrev avd:PySem.Str:="_law_wide"
abbrev ave:PySem.Str:="_law_p"
namespace K75
open L2
variable {x:Str}{H:Hp}{o:HO}{n:Int}{L:List Addr}{α β:Type}{kvs:List (aq×V)}{c d:Nat}{ms:List Int}
structure fe(C dx x:Addr)(H Hk:Hp)(fl:List (Str×V)):Prop where
 same:∀b o,H b=some o->b≠x->Hk b=some o
 free:∀b,Hk b=none->H b=none
 ob:Hk x=some (.ins C dx fl)
section
variable {K:Fg}{C dx x p a:Addr}{Hk:Hp}{fl qR:List (Str×V)} {o':HO}{xs:Lv}
theorem fe.put(S:fe C dx x H Hk fl):fe C dx x H (ae Hk x (.ins C dx qR)) qR:=
 ⟨λb o e j=>by rw[aE j];exact S.same b o e j,λb e=>S.free b (jx e).2,aw⟩
theorem fe.lay(S:fe C dx x H Hk fl)(z:Hk p=none):fe C dx x H (ae Hk p o) fl:=
 ⟨λb u e j=>by rw[aE (aF (S.same b u e j) z)];exact S.same b u e j,λb e=>S.free b (jx e).2,by rw[aE (aF S.ob z)];exact S.ob⟩
theorem fe.sqL(S:fe C dx x H Hk fl)(j:H x=some (.ins C dx qR))(h:ag K H a xs):ag K Hk a xs:=by
 rcases h with(h | ⟨o,h⟩) | h
 . exact .inl (.inl (S.same _ _ h (aT h j (by intro z;cases z))))
 . exact .inl (.inr ⟨o,S.same _ _ h (aT h j (by intro z;cases z))⟩)
 exact .inr h
theorem fe.sqT(S:fe C dx x H Hk fl)(j:H x=some (.ins C dx qR))(h:aP K H a xs):aP K Hk a xs:=by
 rcases h with(h | ⟨o,h⟩) | h
 . exact .inl (.inl (S.same _ _ h (aT h j (by intro z;cases z))))
 . exact .inl (.inr ⟨o,S.same _ _ h (aT h j (by intro z;cases z))⟩)
 exact .inr h
theorem aA(h:Hk a=some o)(n:a≠p):ae Hk p o' a=some o:=by rw[aE n];exact h
theorem lp{f:Str}{v:V}{n:Nat}(h:fl.length<=n):(ar f v fl).length<=n+1:=cR (Dm _ _ _) (by omega)
theorem few{n:Nat}(h:fl.length<=n)(h2:n<1000):fl.length<1000:=by omega
theorem pA:([]:List (Str×V)).length<=0:=aD _
end
def msk(L:List Addr)(H:Hp):Hp:=λb=>if b∈L then none else H b
theorem bg:ac (msk L H) H:=λb o e=>by
 unfold msk at e;split at e
 . cases e
 exact e
theorem dL{H':Hp}(s:ac H H'):ac (msk L H) (msk L H'):=λb o e=>by
 unfold msk at e ⊢;split at e
 . cases e
 rw[af ‹_›];exact s _ _ e
theorem NF(h:p∈L):msk L (ae H p o)=msk L H:=by
 funext b
 unfold msk;split
 . rfl
 have j:¬b∈L:=‹_›;rw[aE (λz=>j (by rw[z];exact h))]
theorem df(n:b∉L)(h:H b=some o):msk L H b=some o:=by
 unfold msk;rw[af n];exact h
theorem agC{j:List Addr}(h:∀b∈j,b∈L):ac (msk L H) (msk j H):=λb o e=>by
 unfold msk at e ⊢;split at e
 . cases e
 rw[af (λz=>‹¬b∈L› (h b z))];exact e
def iX(H:Hp)(L:List Addr):Prop:=∀b∈L,∃o,H b=some o/\∀vs,o≠.tup vs
theorem iX.free(h:iX H L){b:Addr}(n:H b=none):b∉L:=λz=>by
 obtain⟨o,e,_⟩:=h b z;rw[n]at e;cases e
theorem iX.tup(h:iX H L){b:Addr}{vs:Lv}(n:H b=some (.tup vs)):b∉L:=λz=>by
 obtain⟨o,e,q⟩:=h b z;rw[n]at e;cases e;exact q _ rfl
theorem AN{F:α->β->Prop}:∀{xs:List α}{ys:List β},Paired F xs ys->∀{i:Nat}{y:β},ys[i]?=some y->∃x,xs[i]?=some x/\F x y
 | _,_,.nil,i,y,h=>by cases h
 | _,_,.cons r t,0,y,h=>by cases h;exact⟨_,rfl,r⟩
 | _,_,.cons r t,i+1,y,h=>AN t (i:=i) h
theorem ff{F:α->β->Prop}:∀{xs:List α}{ys:List β},Paired F xs ys->∀{i:Nat}{x:α},xs[i]?=some x->∃y,ys[i]?=some y/\F x y
 | _,_,.nil,i,y,h=>by cases h
 | _,_,.cons r t,0,y,h=>by cases h;exact⟨_,rfl,r⟩
 | _,_,.cons r t,i+1,y,h=>ff t (i:=i) h
theorem bh{F:α->β->Prop}:∀{xs:List α}{ys:List β},Paired F xs ys->xs.length=ys.length
 | _,_,.nil=>rfl
 | _,_,.cons _ t=>cS (· + 1) (bh t)
theorem ie{F:α->β->Prop}{x:α}{y:β}(h:F x y):∀{xs:List α}{ys:List β},Paired F xs ys->Paired F (xs++[x]) (ys++[y])
 | _,_,.nil=>.cons h .nil
 | _,_,.cons r t=>.cons r (ie h t)
theorem NG{F:α->β->Prop}:∀{xs:List α}{ys:List β},xs.length=ys.length->(∀(i:Nat) (y:β),ys[i]?=some y->∃x,xs[i]?=some x/\F x y)->Paired F xs ys
 | [],[],_,_=>.nil
 | [],_::_,h,_=>nomatch h
 | _::_,[],h,_=>nomatch h
 | x::xs,y::ys,h,k=>by
  obtain⟨j,e,r⟩:=k 0 y rfl;cases e;exact .cons r (NG (Nat.succ.inj h) λi z hz=>k (i+1) z hz)
theorem NH:∀(p:Str) (l:Ls),risingS p l=true->(p::l).Pairwise (λa b=>a.cps.toList<=b.cps.toList)
 | p,[],_=>VI _ _
 | p,x::r,h=>by
  have h:(!ltCps x.cps.toList p.cps.toList && risingS x r)=true:=h;obtain⟨h1,h2⟩:=oF.mp h;have j:=NH x r h2;have le:p.cps.toList<=x.cps.toList:=by
   rw[PyProof.Rows.ltCps_eq]at h1;intro z;rw[bw z]at h1;cases h1
  refine yY.mpr ⟨λy hy=>?_,j⟩
  rcases bc.mp hy with e | hy
  . rw[e];exact le
  exact List.le_trans le (asC j hy)
theorem Fp:∀{l:Ls},sortedS l=true->l.Pairwise (λa b=>a.cps.toList<=b.cps.toList)
 | [],_=>.nil
 | x::r,h=>NH x r h
theorem NJ{a b:Ls}(p:a.Perm b)(h1:sortedS a=true)(h2:sortedS b=true):a=b:=by
 refine VJ (λx y _ _ h h'=>?_) (Fp h1) (Fp h2) p;have e:=List.le_antisymm h h';obtain⟨⟨x⟩⟩:=x;obtain⟨⟨y⟩⟩:=y;have e:x=y:=e;rw[e]
def bG(tr:List (Str×β))(x:Str)(ls:β):List (Str×β):=if (tr.any λf=>decide (f.1=x))=true then tr.map (λf=>if f.1=x then(f.1,ls) else f) else tr++[(x,ls)]
theorem qU{tr:List (Str×β)}{ls:β}{f:Str×β}(h:f∈bG tr x ls):f=(x,ls)\/f∈tr:=by
 unfold bG at h;split at h
 . obtain⟨g,j,e⟩:=bf.mp h;split at e
   . rename_i z;left;rw[<-e,z]
   right;rw[<-e];exact j
 rcases dA.mp h with h | h
 . exact .inr h
 exact .inl (bX.mp h)
theorem NK(tr:List (Str×β))(x:Str)(ls:β):(bG tr x ls).map (·.1)=if (tr.any λf=>decide (f.1=x))=true then tr.map (·.1) else tr.map (·.1)++[x]:=by
 unfold bG;split
 . rw[jp];refine Jd λf _=>?_;show(if f.1=x then(f.1,ls) else f).1=f.1;split<;>rfl
 rw[cK];rfl
theorem qV{tr:List (Str×β)}:(tr.any λf=>decide (f.1=x))=true↔x∈tr.map (·.1):=by
 rw[II,bf];constructor
 . rintro⟨f,hf,e⟩;exact⟨f,hf,cq e⟩
 rintro⟨f,hf,e⟩;exact⟨f,hf,bw e⟩
theorem pB{tr:List (Str×β)}{ls:β}(h:(tr.map (·.1)).Nodup):((bG tr x ls).map (·.1)).Nodup:=by
 rw[NK];split
 . exact h
 rename_i G;rw[uB];refine⟨h,by simp,λa j b z=>?_⟩;rw[bX.mp z];intro e;exact G (qV.mpr (e▸j))
theorem xx{tr:List (Str×β)}{y:Str}{ls:β}(h:y=x\/y∈tr.map (·.1)):y∈(bG tr x ls).map (·.1):=by
 rw[NK];split
 . rename_i j
   rcases h with h | h
   . rw[h];exact qV.mp j
   exact h
 rcases h with h | h
 . rw[h];exact fP _ (bX.mpr rfl)
 exact yK _ h
theorem pC(tr:List (Str×β))(x:Str)(ls:β):(bG tr x ls).length<=tr.length+1:=by
 unfold bG;split
 . rw[ah];omega
 rw[bD,mB];omega
theorem li{F:aq×V->Str×β->Prop}(J:∀kv f,F kv f->kv.1=Sum.inr f.1){ls:β}{v:V}(U:F (.inr x,v) (x,ls)){tr:List (Str×β)}(h:Paired F kvs tr):Paired F (cD kvs (.inr x) v) (bG tr x ls):=by
 have e:(kvs.any λkv=>decide (kv.1=Sum.inr x))=(tr.any λf=>decide (f.1=x)):=by
  induction h with
  | nil=>rfl
  | cons r t G=>
   rw[rD,rD,G,J _ _ r]
   congr 1
   exact yQ.mpr ⟨λz=>qb z,λz=>by rw[z]⟩
 unfold cD bG;rw[e];split
 . clear e;rename_i hh;clear hh
   induction h with
   | nil=>exact .nil
   | @cons kv f kvs tr r t G=>
    refine .cons ?_ G;have O:=J _ _ r;dsimp only
    by_cases j:f.1=x
    . have Y:kv.1=Sum.inr x:=by rw[O,j]
      rw[ai Y,ai j,Y,j];exact U
    rw[af (λz=>j (qb (O.symm.trans z))),af j];exact r
 exact ie U h
theorem tD{F:aq×V->Str×β->Prop}(j:∀kv f,F kv f->kv.1=Sum.inr f.1){tr:List (Str×β)}(h:Paired F kvs tr):sV kvs (tr.map (·.1)):=by
 unfold sV
 induction h with
 | nil=>rfl
 | cons r t z=>rw[bp,bp,bp,z,j _ _ r]
theorem nu{F:aq×V->Str×β->Prop}(J:∀kv f,F kv f->kv.1=Sum.inr f.1){tr:List (Str×β)}(h:Paired F kvs tr)(G:x∈tr.map (·.1)):∃v ls,bJ kvs (.inr x)=some v/\(x,ls)∈tr/\F (.inr x,v) (x,ls):=by
 induction h with
 | nil=>cases G
 | @cons kv f kvs tr r t O=>
  have j:=J _ _ r
  by_cases e:f.1=x
  . refine⟨kv.2,f.2,by rw[jv (j.trans (by rw[e]))],?_,?_⟩
    . rw[<-e];exact bA
    rw[<-e,<-j];exact r
  rcases bc.mp G with z | z
  . exact absurd z.symm e
  obtain⟨v,ls,a,b,c⟩:=O z;exact⟨v,ls,by rw[jg (λq=>e (qb (j.symm.trans q)))];exact a,bL _ b,c⟩
theorem tE{F:aq×V->Str×β->Prop}(z:∀kv f,F kv f->kv.1=Sum.inr f.1){tr:List (Str×β)}(h:Paired F kvs tr)(j:x∉tr.map (·.1)):bJ kvs (.inr x)=none:=by
 induction h with
 | nil=>rfl
 | @cons kv f kvs tr r t J=>
  have G:=z _ _ r;rw[bp,bc,rJ]at j;rw[jg (λq=>j.1 (qb (G.symm.trans q)).symm)];exact J j.2
theorem qW{tr:List (Str×β)}(h:(tr.map (·.1)).Nodup){a b:β}(ha:(x,a)∈tr)(hb:(x,b)∈tr):a=b:=by
 induction tr with
 | nil=>cases ha
 | cons f tr G=>
  rw[bp,i5]at h
  rcases bc.mp ha with z | ha
  . rcases bc.mp hb with j | hb
    . rw[<-z]at j;exact(Prod.mk.inj j).2.symm
    exact absurd (gE (f:=(·.1)) hb) (by rw[<-z]at h;exact h.1)
  rcases bc.mp hb with j | hb
  . exact absurd (gE (f:=(·.1)) ha) (by rw[<-j]at h;exact h.1)
  exact G h.2 ha hb
theorem NL:∀{p q x y:List Nat},c∉p->c∉q->p++c::x=q++c::y->p=q/\x=y
 | [],[],x,y,_,_,h=>⟨rfl,(rK h).2⟩
 | [],b::q,x,y,_,hq,h=>absurd ((rK h).1▸bA) hq
 | a::p,[],x,y,hp,_,h=>absurd ((rK h).1.symm▸bA) hp
 | a::p,b::q,x,y,hp,hq,h=>by
  have h:=rK h;obtain⟨e1,e2⟩:=NL (λz=>hp (bL _ z)) (λz=>hq (bL _ z)) h.2;exact⟨by rw[h.1,e1],e2⟩
theorem xz{a b:Str}(h:a.cps.toList=b.cps.toList):a=b:=Str.ext' (IU.mp h)
theorem pD(a b:Str):(a++b).cps.toList=a.cps.toList++b.cps.toList:=by rw[Str.cps_append,v7]
theorem nv(c:Nat)(p q:Str)(r:Ls):(Str.join ⟨#[c]⟩ (p::q::r)).cps.toList=p.cps.toList++c::(Str.join ⟨#[c]⟩ (q::r)).cps.toList:=by
 show(p++⟨#[c]⟩++Str.join ⟨#[c]⟩ (q::r)).cps.toList=_;rw[pD,pD,i6];rfl
theorem NM:∀{ps j:Ls},ps≠[]->j≠[]->(∀p∈ps,c∉p.cps.toList)->(∀q∈j,c∉q.cps.toList)->Str.join ⟨#[c]⟩ ps=Str.join ⟨#[c]⟩ j->ps=j
 | [],_,h,_,_,_,_=>absurd rfl h
 | _::_,[],_,h,_,_,_=>absurd rfl h
 | [p],[q],_,_,_,_,e=>by
  have e:p=q:=e;rw[e]
 | [p],q::q'::r,_,_,hp,_,e=>by
  have e:=cS (λx:Str=>x.cps.toList) e;have e:p.cps.toList=(Str.join ⟨#[c]⟩ (q::q'::r)).cps.toList:=e;rw[nv]at e;exact absurd (by rw[e];exact fP _ bA) (hp p bA)
 | p::p'::r,[q],_,_,_,hq,e=>by
  have e:=cS (λx:Str=>x.cps.toList) e;have e:(Str.join ⟨#[c]⟩ (p::p'::r)).cps.toList=q.cps.toList:=e;rw[nv]at e;exact absurd (by rw[<-e];exact fP _ bA) (hq q bA)
 | p::p'::r,q::q'::t,_,_,hp,hq,e=>by
  have e:=cS (λx:Str=>x.cps.toList) e;have e:(Str.join ⟨#[c]⟩ (p::p'::r)).cps.toList=(Str.join ⟨#[c]⟩ (q::q'::t)).cps.toList:=e;rw[nv,nv]at e;obtain⟨e1,e2⟩:=NL (hp p bA) (hq q bA) e;rw[xz e1,NM (wa _ _) (wa _ _) (λz hz=>hp z (bL _ hz)) (λz hz=>hq z (bL _ hz)) (xz e2)]
theorem agD(x y:Str):Txt.split x y≠[]:=λz=>by
 have:=split_pos x y;rw[z]at this;exact absurd this (by decide)
theorem AO{ps:Ls}(ne:ps≠[])(h:∀p∈ps,c∉p.cps.toList):Txt.split (Str.join ⟨#[c]⟩ ps) ⟨#[c]⟩=ps:=
 NM (agD _ _) ne (StrLaws.split_free _ _) h (StrLaws.join_split _ _)
def xA(x y:Str):Bool:=!decide (y.cps.toList<x.cps.toList)
def qX(lo hi:Str)(c:Nat):Bool:=if xA lo (qM c)=true then xA (qM c) hi else false
theorem NN(a b:Nat):xA ⟨#[a]⟩ ⟨#[b]⟩=decide (a<=b):=by
 unfold xA;show(!decide ([b] < [a]))=_;rw[StrLaws.lt_cons_cons,StrLaws.lt_nil_nil,qi,rC]
 by_cases h:b<a
 . rw[bw h,bM (by omega)];rfl
 rw[bM h,bw (by omega)];rfl
theorem AQ(a b c:Nat):qX ⟨#[a]⟩ ⟨#[b]⟩ c=decide (a<=c/\c<=b):=by
 unfold qX qM;rw[NN,NN]
 by_cases h:a<=c
 . rw[bw h,ai rfl];exact yQ.mpr ⟨λz=>⟨h,z⟩,λz=>z.2⟩
 rw[bM h,af (by decide),bM (λz=>h z.1)]
theorem NO(x:Str)(c:Nat):Txt.startswith x ⟨#[c]⟩=decide (x.cps.toList[0]?=some c):=by
 unfold Txt.startswith;rw[vU,gD,ux,ux];exact StrLaws.subAt_one x c 0
def lj:Str:="\n"
def spS:Str:=" "
def ke:Str:="/"
def lm:Str:="."
def fH:Str:="<"
def fJ:Str:=">"
def aS:Str:="a"
def zS:Str:="z"
def NP:Str:="~"
def AR:Str:="0"
def NQ:Str:="9"
def gu:Str:="in"
def gc:Str:="choose"
def dU:Str:=auV
theorem Fq:lj=⟨#[10]⟩:=by decide +kernel
theorem qY:spS=⟨#[32]⟩:=by decide +kernel
theorem Fs:ke=⟨#[47]⟩:=by decide +kernel
theorem NR:lm=⟨#[46]⟩:=by decide +kernel
theorem ny:fH=⟨#[60]⟩:=by decide +kernel
theorem pE:fJ=⟨#[62]⟩:=by decide +kernel
theorem agE:aS=⟨#[97]⟩:=by decide +kernel
theorem agF:zS=⟨#[122]⟩:=by decide +kernel
theorem agG:NP=⟨#[126]⟩:=by decide +kernel
theorem Ft:AR=⟨#[48]⟩:=by decide +kernel
theorem NS:NQ=⟨#[57]⟩:=by decide +kernel
theorem AS:gu=⟨#[105,110]⟩:=by decide +kernel
theorem AT:gc=⟨#[99,104,111,111,115,101]⟩:=by decide +kernel
theorem Fu:dU=⟨#[111,119,110]⟩:=by decide +kernel
def ma(x:Str):Bool:=decide (0<x.length/\x.length<=8) && x.cps.toList.all (qX aS zS)
def tF(x:Str):Bool:=decide ((Txt.split x ke).length<=4) && (Txt.split x ke).all ma
def NT(c:Nat):Bool:=qX spS NP c && decide (c≠37)
def Fw(x:Str):Bool:=decide (x.length<=60) && x.cps.toList.all NT
def vh(x:Str):Bool:=x.cps.toList.all (qX AR NQ)
def vi(x:Str):Option Int:=if (decide (0<x.length/\x.length<=10) && vh x)=true then(if (Txt.startswith x AR && decide (x≠AR))=true then none else if 1000000000<(NumText.digitsVal x.cps.toList:Int) then none else some (NumText.digitsVal x.cps.toList)) else none
def tG(x:Str):Bool:=decide ((Txt.split x lm).length<=3) && (Txt.split x lm).all λp=>(vi p).isSome
def jE(j:Str):Bool:=
 if (Txt.startswith j fH || Txt.startswith j fJ)=true then Fw (Txt.slice j (some 1) none) else
 match Txt.split j spS with
 | [w,p]=>decide (w=dU) && tF p
 | [w,n,x]=>!decide (w=dU) && ma n && (if w=gu then tG x else decide (w=gc) && ma x)
 | _=>false
theorem agH(h:vh x=true):NumText.AllDigits x.cps.toList:=λc j=>by
 have:=eT.mp h c j;rw[Ft,NS,AQ]at this;exact cq this
theorem agI(h:vh x=true)(h1:0<x.length)(h2:x.length<=4300):PySem.intText? x=some ((NumText.digitsVal x.cps.toList:Nat):Int):=
 PySem.intText_digits (agH h) (λz=>by
  have:x.cps.toList.length=x.length:=dJ;rw[z]at this;simp at this;omega) h2
inductive Row
 | les (x:Str)
 | mor (x:Str)
 | inn (n t:Str)
 | cho (c n:Str)
 | own (p:Str)
def ig(j:Str):Row:=
 if Txt.startswith j fH=true then .les (Txt.slice j (some 1) none) else if Txt.startswith j fJ=true then .mor (Txt.slice j (some 1) none) else
 if (Txt.split j spS).getD 0 Str.empty=gu then .inn ((Txt.split j spS).getD 1 Str.empty) ((Txt.split j spS).getD 2 Str.empty) else
 if (Txt.split j spS).getD 0 Str.empty=gc then .cho ((Txt.split j spS).getD 1 Str.empty) ((Txt.split j spS).getD 2 Str.empty) else .own ((Txt.split j spS).getD 1 Str.empty)
def qZ(t:Str):List Int:=(Txt.split t lm).map λp=>((NumText.digitsVal p.cps.toList:Nat):Int)
structure Nt where
 ch:List (Str×List Int):=[]
 cs:List (Str×Str):=[]
 ow:List (Str×(Ls×Ls)):=[]
 ck:Option Str:=none
 b:Ls:=[]
 m:Ls:=[]
def iB(ow:List (Str×(Ls×Ls)))(ck:Option Str)(r:Ls×Ls):List (Str×(Ls×Ls)):=
 match ck with
 | none=>ow
 | some p=>bG ow p r
def Nt.step(s:Nt)(j:Str):Nt:=
 match ig j with
 | .les x=>{ s with ow:=iB s.ow s.ck (s.b++[x],s.m),b:=s.b++[x] }
 | .mor x=>{ s with ow:=iB s.ow s.ck (s.b,s.m++[x]),m:=s.m++[x] }
 | .inn n t=>{ s with ch:=bG s.ch n (qZ t) }
 | .cho c n=>{ s with cs:=bG s.cs c n }
 | .own p=>{ s with ow:=bG s.ow p ([],[]),ck:=some p,b:=[],m:=[] }
def gL(rows:Ls):Nt:=rows.foldl Nt.step {}
def iY(n:Int):Str:=toString n
def jF(ms:List Int):Str:=Str.join lm (ms.map iY)
def iC(e:Str×List Int):Str:=Str.join spS [gu,e.1,jF e.2]
def ij(e:Str×Str):Str:=Str.join spS [gc,e.1,e.2]
def eF(e:Str×(Ls×Ls)):Ls:=[Str.join spS [dU,e.1]]++e.2.1.map (fH ++ ·)++e.2.2.map (fJ ++ ·)
def ge(ch:List (Str×List Int))(cs:List (Str×Str))(ow:List (Str×(Ls×Ls))):Ls:=ch.map iC++cs.map ij++ow.flatMap eF
def rowsOf(t:Str):Ls:=if t=Str.empty then [] else Txt.split t lj
structure cm(x:Str):Prop where
 lo:1<=x.length
 hi:x.length<=8
 az:∀c∈x.cps.toList,97<=c/\c<=122
structure gU(x:Str):Prop where
 hi:x.length<=60
 sg:∀c∈x.cps.toList,32<=c/\c<=126/\c≠37
structure ik(ms:List Int):Prop where
 lo:1<=ms.length
 hi:ms.length<=3
 rg:∀n∈ms,0<=n/\n<=1000000000
def ft(x:Str):Prop:=∃ps:Ls,x=Str.join ke ps/\1<=ps.length/\ps.length<=4/\∀p∈ps,cm p
theorem cm.name(h:cm x):ma x=true:=by
 unfold ma;rw[bw ⟨h.lo,h.hi⟩,uw,eT];intro c j;rw[agE,agF,AQ];exact bw (h.az c j)
theorem gU.line(h:gU x):Fw x=true:=by
 unfold Fw;rw[bw h.hi,uw,eT];intro c z;obtain⟨h1,h2,j⟩:=h.sg c z;unfold NT;rw[qY,agG,AQ,bw ⟨h1,h2⟩,bw j];rfl
theorem NW{l:List α}(h:1<=l.length):l≠[]:=λz=>by
 rw[z,gk]at h;omega
theorem ft.path(h:ft x):tF x=true:=by
 obtain⟨ps,rfl,h1,h2,z⟩:=h;have e:Txt.split (Str.join ke ps) ke=ps:=by
  rw[Fs];exact AO (NW h1) λp j G=>by have:=(z p j).az _ G;omega
 unfold tF;rw[e,bw h2,uw,eT];exact λp j=>(z p j).name
theorem xB:∀{ps:Ls}{d:Nat},d∈(Str.join ⟨#[c]⟩ ps).cps.toList->d=c\/∃p∈ps,d∈p.cps.toList
 | [],d,h=>by
  have h:d∈([]:List Nat):=h;cases h
 | [p],d,h=>.inr ⟨p,bA,h⟩
 | p::q::r,d,h=>by
  rw[nv]at h
  rcases dA.mp h with h | h
  . exact .inr ⟨p,bA,h⟩
  rcases bc.mp h with h | h
  . exact .inl h
  rcases xB h with h | ⟨z,hz,hd⟩
  . exact .inl h
  exact .inr ⟨z,bL _ hz,hd⟩
theorem ft.signs(h:ft x):∀c∈x.cps.toList,c=47\/(97<=c/\c<=122):=by
 obtain⟨ps,rfl,h1,h2,z⟩:=h;intro c j;rw[Fs]at j
 rcases xB j with e | ⟨p,G,hd⟩
 . exact .inl e
 exact .inr ((z p G).az c hd)
theorem agJ:∀(m:Nat) (r:List Char),Nat.toDigits 10 m='0'::r->m=0:=by
 intro m
 induction m using Nat.strongRecOn with
 | _ m J=>
  intro r h
  by_cases j:m<10
  . rw[Nat.toDigits_of_lt_base j]at h;have h1:=(rK h).1;have:∀d:Nat,d<10->Nat.digitChar d='0'->d=0:=by decide
    exact this m j h1
  have z:m % 10<10:=CC m (by decide);have t:Nat.toDigits 10 (m / 10)++Nat.toDigits 10 (m % 10)=Nat.toDigits 10 (10 * (m / 10)+m % 10):=Nat.toDigits_append_toDigits (by decide) (by omega) z;rw[Nat.div_add_mod,h]at t;cases hd:Nat.toDigits 10 (m / 10) with
  | nil=>
   have:=asD 10 (m / 10);rw[hd]at this;exact absurd this (by decide)
  | cons a O=>
   rw[hd]at t;have G:a='0':=(rK t).1;subst G;have:=J (m / 10) (by omega) O hd;omega
theorem xC(h0:0<=n):(iY n).cps.toList=(Nat.toDigits 10 n.toNat).map Char.toNat:=by
 obtain⟨m,rfl⟩:=Int.eq_ofNat_of_zero_le h0;exact W.KIN.signs_num m
theorem Fz(h0:0<=n):NumText.AllDigits (iY n).cps.toList:=by
 intro c j;rw[xC h0]at j;obtain⟨ch,z,e⟩:=bf.mp j;have r:=digit_range (Nat.isDigit_of_mem_toDigits (by decide) (by decide) z);rw[<-e];exact r
theorem agK(h0:0<=n):vh (iY n)=true:=by
 unfold vh;rw[eT];intro c j;rw[Ft,NS,AQ];exact bw (Fz h0 c j)
theorem NX(h0:0<=n):((NumText.digitsVal (iY n).cps.toList:Nat):Int)=n:=by
 rw[xC h0,W.KIN.val_back];omega
theorem NY(h0:0<=n)(h1:n<=1000000000):1<=(iY n).length/\(iY n).length<=10:=by
 refine⟨?_,W.KT.len_num h0 (by omega)⟩;have e:(iY n).cps.toList.length=(iY n).length:=dJ;rw[<-e,xC h0,ah];exact asD 10 _
theorem agL(h0:0<=n)(h1:n<=1000000000):vi (iY n)=some n:=by
 obtain⟨G,J⟩:=NY h0 h1;unfold vi;rw[bw ⟨G,J⟩,agK h0,ai (by rfl),NX h0,af (by omega:¬1000000000<n)];rw[af];rw[Ft,NO,gD,ux,ux,xC h0];rintro⟨h,ne⟩;refine ne (xz ?_);rw[xC h0];cases hd:Nat.toDigits 10 n.toNat with
 | nil=>rw[hd]at h;cases h
 | cons a r=>
  rw[hd]at h;have h:a.toNat=48:=fO h;have j:a='0':=by
   apply Char.ext;apply UInt32.toNat.inj;exact h
  rw[j]at hd;have z:=agJ _ _ hd;rw[z]at hd;have hd:['0']=a::r:=by rw[j];exact hd
  rw[<-hd];rfl
theorem ik.split(h:ik ms):Txt.split (jF ms) lm=ms.map iY:=by
 unfold jF;rw[NR];refine AO (λz=>NW h.lo (List.map_eq_nil_iff.mp z)) λp J j=>?_;obtain⟨n,G,rfl⟩:=bf.mp J;have:=Fz (h.rg n G).1 _ j;omega
theorem ik.good(h:ik ms):tG (jF ms)=true:=by
 unfold tG;rw[h.split,ah,bw h.hi,uw,eT];intro p z;obtain⟨n,j,rfl⟩:=bf.mp z;rw[agL (h.rg n j).1 (h.rg n j).2];rfl
theorem ik.back(h:ik ms):qZ (jF ms)=ms:=by
 unfold qZ;rw[h.split,jp];exact(Jd λn j=>NX (h.rg n j).1).trans (List.map_id _)
theorem ik.signs(h:ik ms):∀c∈(jF ms).cps.toList,46<=c/\c<=57:=by
 intro c j;unfold jF at j;rw[NR]at j
 rcases xB j with e | ⟨p,G,hd⟩
 . omega
 obtain⟨n,z,rfl⟩:=bf.mp G;have:=Fz (h.rg n z).1 c hd;omega
theorem FA(x:Str)(l u:Option Int):Txt.slice x l u=PySem.StrLaws.sliceText x l u:=rfl
theorem AU(x:Str)(c:Nat):Txt.slice (⟨#[c]⟩++x) (some 1) none=x:=by
 apply xz;have e:(⟨#[c]⟩++x:Str).cps.toList=c::x.cps.toList:=by rw[pD];rfl
 have h:=PySem.StrLaws.sliceText_from (x:=⟨#[c]⟩++x) (i:=1) ⟨by decide,by rw[e,bq];omega⟩;rw[FA,h,e];show(List.take _ x.cps.toList)=x.cps.toList;refine asE ?_;rw[bq];omega
theorem tH{r:List Nat}(e:x.cps.toList=d::r)(c:Nat):Txt.startswith x ⟨#[c]⟩=decide (d=c):=by
 rw[NO,e];exact yQ.mpr ⟨λz=>fO z,λz=>by rw[z];rfl⟩
theorem AV(x:Str):(fH++x).cps.toList=60::x.cps.toList:=by rw[ny,pD];rfl
theorem xD(x:Str):(fJ++x).cps.toList=62::x.cps.toList:=by rw[pE,pD];rfl
theorem agM(h:gU x):jE (fH++x)=true:=by
 unfold jE;have e:Txt.startswith (fH++x) fH=true:=by
  have:=tH (AV x) 60;rw[<-ny]at this;rw[this];rfl
 rw[e,Bool.true_or,ai rfl]
 conv=>lhs;arg 1;rw[ny,AU]
 exact h.line
theorem agN(h:gU x):jE (fJ++x)=true:=by
 unfold jE;have e:Txt.startswith (fJ++x) fJ=true:=by
  have:=tH (xD x) 62;rw[<-pE]at this;rw[this];rfl
 rw[e,Bool.or_true,ai rfl]
 conv=>lhs;arg 1;rw[pE,AU]
 exact h.line
theorem agO(x:Str):ig (fH++x)=.les x:=by
 unfold ig;have e:Txt.startswith (fH++x) fH=true:=by
  have:=tH (AV x) 60;rw[<-ny]at this;rw[this];rfl
 rw[ai e]
 congr 1
 rw[ny,AU]
theorem agP(x:Str):ig (fJ++x)=.mor x:=by
 unfold ig;have e:Txt.startswith (fJ++x) fJ=true:=by
  have:=tH (xD x) 62;rw[<-pE]at this;rw[this];rfl
 have j:Txt.startswith (fJ++x) fH=false:=by
  have:=tH (xD x) 60;rw[<-ny]at this;rw[this];rfl
 rw[af (by rw[j];decide),ai e]
 congr 1
 rw[pE,AU]
theorem xE{w:Str}{r:List Nat}(z:w.cps.toList=d::r)(J:d≠60)(O:d≠62){j:Ls}(h:∀p∈w::j,32∉p.cps.toList):Txt.split (Str.join spS (w::j)) spS=w::j/\Txt.startswith (Str.join spS (w::j)) fH=false/\Txt.startswith (Str.join spS (w::j)) fJ=false:=by
 have hd:∃G,(Str.join spS (w::j)).cps.toList=d::G:=by
  cases j with
  | nil=>exact⟨r,z⟩
  | cons v j=>rw[qY,nv,z];exact⟨_,rfl⟩
 obtain⟨G,e⟩:=hd;refine⟨?_,?_,?_⟩
 . rw[qY];exact AO (wa _ _) h
 . rw[ny,tH e 60];exact bM J
 rw[pE,tH e 62];exact bM O
theorem AW{a b c:Str}(h1:32∉a.cps.toList)(h2:32∉b.cps.toList)(z:32∉c.cps.toList):∀p∈[a,b,c],32∉p.cps.toList:=by
 intro p j;simp only[bc,i7,i8]at j
 rcases j with rfl | rfl | rfl<;>assumption
theorem cm.no(h:cm x)(j:c<97):c∉x.cps.toList:=λz=>by have:=h.az c z;omega
theorem FC(j:c<97):c∉gu.cps.toList:=by
 rw[AS];intro z;have z:c∈[105,110]:=z;simp at z;omega
theorem FD(j:c<97):c∉gc.cps.toList:=by
 rw[AT];intro z;have z:c∈[99,104,111,111,115,101]:=z;simp at z;omega
theorem N1(j:c<97):c∉dU.cps.toList:=by
 rw[Fu];intro z;have z:c∈[111,119,110]:=z;simp at z;omega
theorem ik.no(h:ik ms)(j:c<46):c∉(jF ms).cps.toList:=λz=>by have:=h.signs c z;omega
theorem ft.no(h:ft x)(j:c<47):c∉x.cps.toList:=λz=>by have:=h.signs c z;omega
theorem agR:gu≠dU:=by decide +kernel
theorem agS:gc≠dU:=by decide +kernel
theorem AX:gc≠gu:=by decide +kernel
theorem FE:dU≠gu:=by decide +kernel
theorem FF:dU≠gc:=by decide +kernel
theorem agT{e:Str×List Int}(h1:cm e.1)(h2:ik e.2):jE (iC e)=true:=by
 obtain⟨a,b,c⟩:=xE (w:=gu) (d:=105) (r:=[110]) (by rw[AS]) (by decide) (by decide) (AW (FC (by decide)) (h1.no (by decide)) (h2.no (by decide)));unfold jE iC;rw[b,c,rC,af (by decide),a];dsimp only;rw[bM agR,h1.name,ai rfl,h2.good];rfl
theorem agU{e:Str×List Int}(h1:cm e.1)(h2:ik e.2):ig (iC e)=.inn e.1 (jF e.2):=by
 obtain⟨a,b,c⟩:=xE (w:=gu) (d:=105) (r:=[110]) (by rw[AS]) (by decide) (by decide) (AW (FC (by decide)) (h1.no (by decide)) (h2.no (by decide)));unfold ig iC;rw[b,c,a,af (by decide),af (by decide)];rfl
theorem agV{e:Str×Str}(h1:cm e.1)(h2:cm e.2):jE (ij e)=true:=by
 obtain⟨a,b,c⟩:=xE (w:=gc) (d:=99) (r:=[104,111,111,115,101]) (by rw[AT]) (by decide) (by decide) (AW (FD (by decide)) (h1.no (by decide)) (h2.no (by decide)));unfold jE ij;rw[b,c,rC,af (by decide),a];dsimp only;rw[bM agS,h1.name,af AX,bw rfl,h2.name];rfl
theorem agW{e:Str×Str}(h1:cm e.1)(h2:cm e.2):ig (ij e)=.cho e.1 e.2:=by
 obtain⟨a,b,c⟩:=xE (w:=gc) (d:=99) (r:=[104,111,111,115,101]) (by rw[AT]) (by decide) (by decide) (AW (FD (by decide)) (h1.no (by decide)) (h2.no (by decide)));unfold ig ij;rw[b,c,a,af (by decide),af (by decide)];rw[af (show ¬[gc,e.1,e.2].getD 0 Str.empty=gu from AX),ai (show [gc,e.1,e.2].getD 0 Str.empty=gc from rfl)];rfl
theorem N2{p:Str}(h:ft p):Txt.split (Str.join spS [dU,p]) spS=[dU,p]/\Txt.startswith (Str.join spS [dU,p]) fH=false/\Txt.startswith (Str.join spS [dU,p]) fJ=false:=
 xE (w:=dU) (d:=111) (r:=[119,110]) (by rw[Fu]) (by decide) (by decide) λq j=>by
  simp only[bc,i7,i8]at j
  rcases j with rfl | rfl
  . exact N1 (by decide)
  exact h.no (by decide)
theorem agX{p:Str}(h:ft p):jE (Str.join spS [dU,p])=true:=by
 obtain⟨a,b,c⟩:=N2 h;unfold jE;rw[b,c,rC,af (by decide),a];dsimp only;rw[bw rfl,h.path];rfl
theorem agY{p:Str}(h:ft p):ig (Str.join spS [dU,p])=.own p:=by
 obtain⟨a,b,c⟩:=N2 h;unfold ig;rw[b,c,a,af (by decide),af (by decide)];rw[af (show ¬[dU,p].getD 0 Str.empty=gu from FE),af (show ¬[dU,p].getD 0 Str.empty=gc from FF)];rfl
structure xF(ch:List (Str×List Int))(cs:List (Str×Str))(ow:List (Str×(Ls×Ls))):Prop where
 ch:∀e∈ch,cm e.1/\ik e.2
 cs:∀e∈cs,cm e.1/\cm e.2
 ow:∀e∈ow,ft e.1/\(∀x∈e.2.1,gU x)/\∀x∈e.2.2,gU x
theorem FG{ch:List (Str×List Int)}{cs:List (Str×Str)}{ow:List (Str×(Ls×Ls))}(ok:xF ch cs ow){r:Str}(h:r∈ge ch cs ow) :
 (∃e:Str×List Int,cm e.1/\ik e.2/\r=iC e)\/(∃e:Str×Str,cm e.1/\cm e.2/\r=ij e)\/(∃p,ft p/\r=Str.join spS [dU,p])\/(∃x,gU x/\r=fH++x)\/∃x,gU x/\r=fJ++x:=by
 unfold ge at h
 rcases dA.mp h with h | h
 . rcases dA.mp h with h | h
   . obtain⟨e,j,rfl⟩:=bf.mp h;exact .inl ⟨e,(ok.ch e j).1,(ok.ch e j).2,rfl⟩
   obtain⟨e,j,rfl⟩:=bf.mp h;exact .inr (.inl ⟨e,(ok.cs e j).1,(ok.cs e j).2,rfl⟩)
 obtain⟨e,j,hr⟩:=jR.mp h;obtain⟨h1,h2,G⟩:=ok.ow e j;unfold eF at hr
 rcases dA.mp hr with hr | hr
 . rcases dA.mp hr with hr | hr
   . exact .inr (.inr (.inl ⟨e.1,h1,bX.mp hr⟩))
   obtain⟨x,z,rfl⟩:=bf.mp hr;exact .inr (.inr (.inr (.inl ⟨x,h2 x z,rfl⟩)))
 obtain⟨x,z,rfl⟩:=bf.mp hr;exact .inr (.inr (.inr (.inr ⟨x,G x z,rfl⟩)))
theorem agZ{ch:List (Str×List Int)}{cs:List (Str×Str)}{ow:List (Str×(Ls×Ls))}(ok:xF ch cs ow):∀r∈ge ch cs ow,jE r=true:=λr h=>by
 rcases FG ok h with⟨e,a,b,rfl⟩ | ⟨e,a,b,rfl⟩ | ⟨p,a,rfl⟩ | ⟨x,a,rfl⟩ | ⟨x,a,rfl⟩
 . exact agT a b
 . exact agV a b
 . exact agX a
 . exact agM a
 exact agN a
theorem N3{a b c:Str}(h:d∈(Str.join spS [a,b,c]).cps.toList):d=32\/d∈a.cps.toList\/d∈b.cps.toList\/d∈c.cps.toList:=by
 rw[qY]at h
 rcases xB h with e | ⟨p,j,hd⟩
 . exact .inl e
 simp only[bc,i7,i8]at j
 rcases j with rfl | rfl | rfl
 . exact .inr (.inl hd)
 . exact .inr (.inr (.inl hd))
 exact .inr (.inr (.inr hd))
theorem FH{ch:List (Str×List Int)}{cs:List (Str×Str)}{ow:List (Str×(Ls×Ls))}(ok:xF ch cs ow):∀r∈ge ch cs ow,10∉r.cps.toList/\r≠Str.empty:=λr h=>by
 rcases FG ok h with⟨e,a,b,rfl⟩ | ⟨e,a,b,rfl⟩ | ⟨p,a,rfl⟩ | ⟨x,a,rfl⟩ | ⟨x,a,rfl⟩
 . refine⟨λz=>?_,λz=>?_⟩
   . rcases N3 z with z | z | z | z
     . omega
     . exact FC (by decide) z
     . exact a.no (by decide) z
     exact b.no (by decide) z
   have z:(iC e).cps.toList=[]:=by rw[z];rfl
   unfold iC at z;rw[qY,nv,AS]at z;cases z
 . refine⟨λz=>?_,λz=>?_⟩
   . rcases N3 z with z | z | z | z
     . omega
     . exact FD (by decide) z
     . exact a.no (by decide) z
     exact b.no (by decide) z
   have z:(ij e).cps.toList=[]:=by rw[z];rfl
   unfold ij at z;rw[qY,nv,AT]at z;cases z
 . refine⟨λz=>?_,λz=>?_⟩
   . rw[qY]at z
     rcases xB z with z | ⟨q,j,hd⟩
     . omega
     simp only[bc,i7,i8]at j
     rcases j with rfl | rfl
     . exact N1 (by decide) hd
     exact a.no (by decide) hd
   have z:(Str.join spS [dU,p]).cps.toList=[]:=by rw[z];rfl
   rw[qY,nv,Fu]at z;cases z
 . refine⟨λz=>?_,λz=>?_⟩
   . rw[AV]at z
     rcases bc.mp z with z | z
     . omega
     have:=a.sg _ z;omega
   have z:(fH++x).cps.toList=[]:=by rw[z];rfl
   rw[AV]at z;cases z
 refine⟨λz=>?_,λz=>?_⟩
 . rw[xD]at z
   rcases bc.mp z with z | z
   . omega
   have:=a.sg _ z;omega
 have z:(fJ++x).cps.toList=[]:=by rw[z];rfl
 rw[xD]at z;cases z
theorem FI{rows:Ls}(h:∀r∈rows,10∉r.cps.toList/\r≠Str.empty):rowsOf (Str.join lj rows)=rows:=by
 unfold rowsOf;cases rows with
 | nil=>exact ai rfl
 | cons r j=>
  have ne:Str.join lj (r::j)≠Str.empty:=λz=>by
   have J:=(h r bA).2;have z:(Str.join lj (r::j)).cps.toList=[]:=by rw[z];rfl
   cases j with
   | nil=>exact J (xz (by rw[show r.cps.toList=[] from z];rfl))
   | cons q O=>
    rw[Fq,nv]at z;have:=cS List.length z;rw[bD,bq]at this;simp at this
  rw[af ne,Fq];exact AO (wa _ _) λp G=>(h p G).1
theorem xG{tr:List (Str×β)}{y:β}(h:x∉tr.map (·.1)):bG tr x y=tr++[(x,y)]:=by
 unfold bG;rw[af (λz=>h (qV.mp z))]
theorem N4{tr:List (Str×β)}{y z:β}(h:x∉tr.map (·.1)):bG (tr++[(x,y)]) x z=tr++[(x,z)]:=by
 unfold bG;rw[ai (qV.mpr (by rw[cK];exact fP _ bA)),cK]
 congr 1
 . refine(Jd λf j=>?_).trans (List.map_id _);rw[af (λe:f.1=x=>h (by rw[<-e];exact gE j))];rfl
 show [if x=x then(x,z) else(x,y)]=_;rw[ai rfl]
theorem N5:∀(es:List (Str×List Int)) (s:Nt),(∀e∈es,cm e.1/\ik e.2)->((s.ch++es).map (·.1)).Nodup->(es.map iC).foldl Nt.step s={ s with ch:=s.ch++es }
 | [],s,_,_=>by rw[i4];rfl
 | e::es,s,ok,nd=>by
  have h1:=ok e bA;have e1:Nt.step s (iC e)={ s with ch:=s.ch++[e] }:=by
   unfold Nt.step;rw[agU h1.1 h1.2];dsimp only;rw[h1.2.back,xG];rw[cK,bp]at nd;intro z;exact(uB.mp nd).2.2 _ z _ bA rfl
  rw[bp,uA,e1];have e2:=N5 es { s with ch:=s.ch++[e] } (λx j=>ok x (bL _ j)) (by show(((s.ch++[e])++es).map (·.1)).Nodup;rw[i6];exact nd);rw[e2];show { s with ch:=s.ch++[e]++es } = _;rw[i6];rfl
theorem N6:∀(es:List (Str×Str)) (s:Nt),(∀e∈es,cm e.1/\cm e.2)->((s.cs++es).map (·.1)).Nodup->(es.map ij).foldl Nt.step s={ s with cs:=s.cs++es }
 | [],s,_,_=>by rw[i4];rfl
 | e::es,s,ok,nd=>by
  have h1:=ok e bA;have e1:Nt.step s (ij e)={ s with cs:=s.cs++[e] }:=by
   unfold Nt.step;rw[agW h1.1 h1.2];dsimp only;rw[xG];rw[cK,bp]at nd;intro z;exact(uB.mp nd).2.2 _ z _ bA rfl
  rw[bp,uA,e1];have e2:=N6 es { s with cs:=s.cs++[e] } (λx j=>ok x (bL _ j)) (by show(((s.cs++[e])++es).map (·.1)).Nodup;rw[i6];exact nd);rw[e2];show { s with cs:=s.cs++[e]++es } = _;rw[i6];rfl
theorem N7(p:Str)(tr:List (Str×(Ls×Ls)))(h:p∉tr.map (·.1))(m:Ls):∀(xs b:Ls) (s:Nt),(xs.map (fH ++ ·)).foldl Nt.step { s with ow:=tr++[(p,(b,m))],ck:=some p,b:=b,m:=m } = { s with ow:=tr++[(p,(b++xs,m))],ck:=some p,b:=b++xs,m:=m }
 | [],b,s=>by rw[i4];rfl
 | x::xs,b,s=>by
  have e1:Nt.step { s with ow:=tr++[(p,(b,m))],ck:=some p,b:=b,m:=m } (fH++x)={ s with ow:=tr++[(p,(b++[x],m))],ck:=some p,b:=b++[x],m:=m }:=by
   unfold Nt.step;rw[agO];dsimp only[iB];rw[N4 h]
  rw[bp,uA,e1,N7 p tr h m xs (b++[x]) s,i6];rfl
theorem N8(p:Str)(tr:List (Str×(Ls×Ls)))(h:p∉tr.map (·.1))(b:Ls):∀(xs m:Ls) (s:Nt),(xs.map (fJ ++ ·)).foldl Nt.step { s with ow:=tr++[(p,(b,m))],ck:=some p,b:=b,m:=m } = { s with ow:=tr++[(p,(b,m++xs))],ck:=some p,b:=b,m:=m++xs }
 | [],m,s=>by rw[i4];rfl
 | x::xs,m,s=>by
  have e1:Nt.step { s with ow:=tr++[(p,(b,m))],ck:=some p,b:=b,m:=m } (fJ++x)={ s with ow:=tr++[(p,(b,m++[x]))],ck:=some p,b:=b,m:=m++[x] }:=by
   unfold Nt.step;rw[agP];dsimp only[iB];rw[N4 h]
  rw[bp,uA,e1,N8 p tr h b xs (m++[x]) s,i6];rfl
theorem Ob:∀(es:List (Str×(Ls×Ls))) (s:Nt),(∀e∈es,ft e.1)->((s.ow++es).map (·.1)).Nodup->∃ck b m,(es.flatMap eF).foldl Nt.step s={ s with ow:=s.ow++es,ck:=ck,b:=b,m:=m }
 | [],s,_,_=>⟨s.ck,s.b,s.m,by rw[i4];rfl⟩
 | e::es,s,ok,nd=>by
  obtain⟨p,b,m⟩:=e;have h1:ft p:=ok _ bA;have j:p∉s.ow.map (·.1):=λz=>by
   rw[cK,bp]at nd;exact(uB.mp nd).2.2 _ z _ bA rfl
  have e1:(eF (p,(b,m))).foldl Nt.step s={ s with ow:=s.ow++[(p,(b,m))],ck:=some p,b:=b,m:=m }:=by
   unfold eF;rw[kM,kM];have G:[Str.join spS [dU,p]].foldl Nt.step s={ s with ow:=s.ow++[(p,([],[]))],ck:=some p,b:=[],m:=[] }:=by
    show Nt.step s (Str.join spS [dU,p])=_;unfold Nt.step;rw[agY h1];dsimp only;rw[xG j]
   rw[G,N7 p s.ow j [] b [] s,N8 p s.ow j _ m [] s];rfl
  rw[wb,kM,e1];obtain⟨ck,b',m',e2⟩:=Ob es { s with ow:=s.ow++[(p,(b,m))],ck:=some p,b:=b,m:=m } (λx J=>ok x (bL _ J)) (by show(((s.ow++[(p,(b,m))])++es).map (·.1)).Nodup;rw[i6];exact nd);refine⟨ck,b',m',?_⟩;rw[e2];show { s with ow:=s.ow++[(p,(b,m))]++es,ck:=ck,b:=b',m:=m' } = _;rw[i6];rfl
theorem FJ{ch:List (Str×List Int)}{cs:List (Str×Str)}{ow:List (Str×(Ls×Ls))}(ok:xF ch cs ow)(n1:(ch.map (·.1)).Nodup)(n2:(cs.map (·.1)).Nodup)(n3:(ow.map (·.1)).Nodup):∃ck b m,gL (ge ch cs ow)=⟨ch,cs,ow,ck,b,m⟩:=by
 unfold gL ge;rw[kM,kM,N5 ch {} ok.ch n1];show∃ck b m,List.foldl Nt.step (List.foldl Nt.step ({ ch:=ch }:Nt) (List.map ij cs)) (List.flatMap eF ow)=_;rw[N6 cs { ch:=ch } ok.cs n2];exact Ob ow { ch:=ch,cs:=cs } (λe j=>(ok.ow e j).1) n3
theorem FK{f:α->β}{ks ls:List β}(p:ks.Perm ls):∀{l:List α},ls=l.map f->∃j:List α,j.Perm l/\j.map f=ks:=by
 induction p with
 | nil=>
  intro l e;cases l with
  | nil=>exact⟨[],.nil,rfl⟩
  | cons a l=>cases e
 | cons x p J=>
  intro l e;cases l with
  | nil=>cases e
  | cons a l=>
   rw[bp]at e;obtain⟨e1,e2⟩:=rK e;obtain⟨j,h1,h2⟩:=J e2;exact⟨a::j,h1.cons a,by rw[bp,h2,e1]⟩
 | swap x y r=>
  intro l e;cases l with
  | nil=>cases e
  | cons a l=>
   cases l with
   | nil=>cases e
   | cons b l=>
    rw[bp,bp]at e;obtain⟨e1,e2⟩:=rK e;obtain⟨e2,e3⟩:=rK e2;exact⟨b::a::l,.swap a b l,by rw[bp,bp,<-e1,<-e2,<-e3]⟩
 | trans p q O U=>
  intro l e;obtain⟨l1,h1,h2⟩:=U e;obtain⟨Y,z,G⟩:=O h2.symm;exact⟨Y,z.trans h1,G⟩
structure dw(a b:List (Str×β)):Prop where
 pm:b.Perm a
 so:sortedS (b.map (·.1))=true
theorem dw.eq{a b c:List (Str×β)}(nd:(a.map (·.1)).Nodup)(h1:dw a b)(h2:dw a c):b=c:=by
 have pm:b.Perm c:=h1.pm.trans h2.pm.symm;have e:b.map (·.1)=c.map (·.1):=NJ (pm.map _) h1.so h2.so;have U:(b.map (·.1)).Nodup:=(h1.pm.map _).nodup_iff.mpr nd;have G:=pm.length_eq;refine Vr G λi hi j=>?_;have J:b[i]∈c:=pm.mem_iff.mp (CD hi);have e1:b[i].1=c[i].1:=by
  have:(b.map (·.1))[i]?=(c.map (·.1))[i]?:=by rw[e]
  rw[cz,cz,fo hi,fo j]at this;exact fO this
 have z:c[i]∈c:=CD j;have O:(c.map (·.1)).Nodup:=by rw[<-e];exact U
 have:b[i].2=c[i].2:=qW O (x:=b[i].1) J (by rw[e1];exact z);exact Prod.ext e1 this
theorem dw.self{a b:List (Str×β)}(h:dw a b):dw b b:=⟨.refl _,h.so⟩
end K75
namespace L2
structure Fd(K:Fg)(mg:Mv)(x:Str)(st:Stmt)(ps:Ls):Type where
 f:Addr
 fd:Fy
 u:lQ K x x st f fd
 m:mg x=some (.ref f)
 b:Binds K fd ps []
structure fL(K:Fg)(C:Addr)(x q:Str)(st:Stmt)(ps:Ls):Type where
 f:Addr
 fd:Fy
 u:lQ K x q st f fd
 b:Binds K fd ps []
 mt:ww K C x f
section
variable {K:Fg}{h:Heap}{mg:Mv}{C f:Addr}{x q:Str}{st:Stmt}{ps:Ls}{od an:Oa}{sl:Array (Option Value)} {oc kV dc pm cd ct:Value}
def fY(a:W.findIn K (.ref C) x=some (some (.ref f)))(i:W.isFn K (.ref f)=true)(l:K.lookup f=some ⟨oc,od,.func (W.fnOf x q (jw st) (gJ st) (aC st) .none kV dc pm an cd ct),sl⟩)(c:W.codeIn K cd q=true)(k:W.keepIn K (.ref f)=true)(b:Binds K (W.fnOf x q (jw st) (gJ st) (aC st) .none kV dc pm an cd ct) ps []):fL K C x q st ps:=⟨f,_,K7 l c k,b,⟨a,i,k⟩⟩
def bH(X:K.In h)(G:h.Ns mainGlobals mg)(a:W.nsIn K mainGlobals x=some (some (.ref f)))(l:K.lookup f=some ⟨oc,od,.func (W.fnOf x x (jw st) (gJ st) (aC st) .none kV dc pm an cd ct),sl⟩)(c:W.codeIn K cd x=true)(k:W.keepIn K (.ref f)=true)(b:Binds K (W.fnOf x x (jw st) (gJ st) (aC st) .none kV dc pm an cd ct) ps []):Fd K mg x st ps:=⟨f,_,K7 l c k,i9 X G a,b⟩
end
section
variable {X:Cx}{k k':Nat}{ps:Ls}{sp:Sp}{x:Str}{st:Stmt}{p pos:Pos}{e:Expr}{es:List Expr}{t:TA}{CX:hZ}{E:XK}
theorem up{P:Program}{w:World}{K:Fg}{mg:Mv}{base:Heap}{CX:hZ}{j k:Nat}{ps:Ls}{sp:Sp}(F:au P w K mg base CX j f fd ps sp)(h:j<=k:=by decide):au P w K mg base CX k f fd ps sp:=F.mono h
theorem aU{d:Fd X.K X.mg x st ps}(G:au X.prog X.w X.K X.mg X.base aL k d.f d.fd ps sp)(hr:bT k' X.A)(U:Gl X x)(J:PA X (e::es) t)(Y:k<=k':=by decide)(z:(x == ("__debug__":Str))=false:=by decide)(O:starEach (e::es) X.env=(false,eval e X.env)::starEach es X.env:=by rfl)(j:(backTo pos (starEach es X.env)).any (·.1)=false:=by rfl) :
 PE X (.Call (.Name x p) (e::es) [] pos) (Dp sp [] E0 t):=Ke (G.mono Y) hr U d.m d.u.kp d.b .nil bY J z O j
theorem vj{d:Fd X.K X.mg x st ps}(G:au X.prog X.w X.K X.mg X.base CX k d.f d.fd ps sp)(hr:bT k' X.A)(U:Gl X x)(hx:lI CX X E)(J:PA X (e::es) t)(Y:k<=k':=by decide)(z:(x == ("__debug__":Str))=false:=by decide)(O:starEach (e::es) X.env=(false,eval e X.env)::starEach es X.env:=by rfl)(j:(backTo pos (starEach es X.env)).any (·.1)=false:=by rfl) :
 PE X (.Call (.Name x p) (e::es) [] pos) (Dp sp [] E t):=Ke (G.mono Y) hr U d.m d.u.kp d.b .nil hx J z O j
end
end L2
namespace K75
open L2
variable {K:Fg}{mg:Mv}{base:Heap}
structure Od(mg:Mv):Prop where
 let8:∃t,mg "MOST_LETTERS"=some (.int 8 t)
 pw4:∃t,mg "MOST_PATH_WORDS"=some (.int 4 t)
 gw:∃t,mg "GREATEST_WIDTH"=some (.int 400 t)
def aW(i:Nat):Stmt:=PySem.Challenge.pw_parcelmend_k75_too_wide_a_shelf.main.body.getD i (.Pass ⟨0,0,0,0⟩)
abbrev Oe:Stmt:=aW 92
abbrev Of:Stmt:=aW 94
abbrev Og:Stmt:=aW 76
abbrev Oh:Stmt:=aW 75
abbrev Oj:Stmt:=aW 95
abbrev Ol:Stmt:=aW 91
abbrev Om:Stmt:=aW 78
abbrev Oo:Stmt:=aW 96
abbrev Op:Stmt:=aW 110
abbrev Oq:Stmt:=aW 111
abbrev Ot:Stmt:=aW 112
abbrev Ou:Stmt:=aW 113
abbrev lq:Stmt:=aW 93
abbrev Ov:Stmt:=fU (aW 89) 0
abbrev Ox:Stmt:=fU (aW 35) 1
abbrev Oy:Stmt:=fU (aW 35) 2
abbrev FL:Stmt:=fU (aW 34) 0
abbrev Oz:Stmt:=fU (aW 35) 0
abbrev OA:Stmt:=fU (aW 35) 3
abbrev OB:Stmt:=fU (aW 46) 0
abbrev OC:Stmt:=fU (aW 105) 0
abbrev OD:Stmt:=fU (aW 105) 1
abbrev OE:Stmt:=fU (aW 105) 2
abbrev OF:Stmt:=fU (aW 105) 3
abbrev OG:Stmt:=fU (aW 105) 4
abbrev OH:Stmt:=fU (aW 105) 5
abbrev OI:Stmt:=fU (aW 105) 6
abbrev OJ:Stmt:=fU (aW 105) 7
abbrev OL:Stmt:=aW 25
abbrev OM:Stmt:=aW 28
abbrev ON:Stmt:=aW 29
abbrev OO:Stmt:=aW 31
abbrev OP:Stmt:=aW 37
abbrev OQ:Stmt:=aW 38
abbrev OR:Stmt:=aW 39
abbrev OS:Stmt:=aW 41
abbrev OT:Stmt:=aW 42
abbrev OU:Stmt:=aW 43
abbrev OV:Stmt:=aW 44
abbrev OW:Stmt:=aW 47
abbrev AY:Stmt:=aW 48
abbrev OX:Stmt:=aW 49
abbrev OY:Stmt:=aW 50
abbrev OZ:Stmt:=aW 51
abbrev O0:Stmt:=aW 54
abbrev O1:Stmt:=aW 55
abbrev O2:Stmt:=aW 56
abbrev O3:Stmt:=aW 57
abbrev O4:Stmt:=aW 59
abbrev O5:Stmt:=aW 60
abbrev O6:Stmt:=aW 61
abbrev O7:Stmt:=aW 62
abbrev FM:Stmt:=aW 64
abbrev O8:Stmt:=aW 65
abbrev O9:Stmt:=aW 66
abbrev Pa:Stmt:=aW 67
abbrev Pb:Stmt:=aW 68
abbrev Pc:Stmt:=aW 69
abbrev Pd:Stmt:=aW 70
abbrev Pe:Stmt:=aW 107
abbrev Pf:Stmt:=aW 109
abbrev Ph:Stmt:=aW 26
abbrev Pj:Stmt:=aW 27
abbrev Pk:Stmt:=aW 101
abbrev Pl:Stmt:=aW 102
abbrev Pm:Stmt:=aW 103
abbrev FO:Stmt:=aW 114
abbrev Pn:Stmt:=fU (aW 100) 0
abbrev Pp:Stmt:=fU (aW 100) 1
abbrev Ps:Stmt:=fU (aW 100) 2
abbrev Pu:Stmt:=fU (aW 100) 5
abbrev Pw:Stmt:=fU (aW 100) 6
abbrev Px:Stmt:=fU (aW 100) 7
abbrev Py:Stmt:=fU (aW 100) 8
abbrev Pz:Stmt:=fU (aW 100) 10
structure Blt(mg:Mv):Prop where
 range:mg "range"=none
 len:mg "len"=none
 min:mg "min"=none
 list:mg "list"=none
 dict:mg "dict"=none
 set:mg "set"=none
 sorted:mg "sorted"=none
 isinstance:mg "isinstance"=none
 str:mg "str"=none
 tuple:mg "tuple"=none
 all:mg "all"=none
 enumerate:mg "enumerate"=none
 int:mg "int"=none
 bool:mg "bool"=none
 verr:mg "ValueError"=none
 max:mg "max"=none
 any:mg "any"=none
structure Txt(K:Fg)(mg:Mv)(C:Addr):Prop where
 mgC:mg "Parcel"=some (.ref C)
 cl:hJ K C
 nN:fE K C auy
 nM:fE K C auz
 nR:fE K C auK
 nF:fE K C auF
 nE:fE K C auT
 nS:fE K C auW
 nO:fE K C au5
 mz:W.makesIn K C=true
 kc:W.keepIn K (.ref C)=true
structure ag4(K:Fg)(mg:Mv)(S:Addr):Prop where
 mgC:mg "Shelf"=some (.ref S)
 cl:hJ K S
 nS:fE K S avc
 mz:W.makesIn K S=true
 kc:W.keepIn K (.ref S)=true
structure ag5(K:Fg)(mg:Mv)(T:Addr):Prop where
 mgC:mg "Stand"=some (.ref T)
 cl:hJ K T
 nC:fE K T aux
 nH:fE K T auI
 nO:fE K T auV
 mz:W.makesIn K T=true
 kc:W.keepIn K (.ref T)=true
structure ag6(K:Fg)(mg:Mv)(C:Addr):Prop where
 mgC:mg "Disk"=some (.ref C)
 cl:hJ K C
 nF:fE K C auF
 nB:fE K C "book"
 nL:fE K C "left"
 mz:W.makesIn K C=true
 kc:W.keepIn K (.ref C)=true
structure ag7(K:Fg)(mg:Mv)(Hc:Addr):Prop where
 mgC:mg "House"=some (.ref Hc)
 cl:hJ K Hc
 nS:fE K Hc auw
 nD:fE K Hc auE
 mz:W.makesIn K Hc=true
 kc:W.keepIn K (.ref Hc)=true
structure ag8(K:Fg)(mg:Mv)(Bc Oc:Addr):Prop where
 mgC:mg "Best"=some (.ref Bc)
 cl:hJ K Bc
 nC:fE K Bc aux
 mz:W.makesIn K Bc=true
 kc:W.keepIn K (.ref Bc)=true
 mgO:mg "Outcome"=some (.ref Oc)
 kB:W.kitOne K (.ref Bc) (.ref Bc)=some true
 kO:W.kitOne K (.ref Bc) (.ref Oc)=some true
 ii:Ny K Bc
structure PB(K:Fg)(mg:Mv)(M Fa NU E1 E2 E3 E4 E5 E6 E7 E8 E9:Addr):Prop where
 mM:mg "MendError"=some (.ref M)
 mF:mg "Fallen"=some (.ref Fa)
 mU:mg "NotUp"=some (.ref NU)
 mE1:mg "NoFile"=some (.ref E1)
 mE2:mg "NoFormer"=some (.ref E2)
 mE3:mg "NoName"=some (.ref E3)
 mE4:mg "NoParcel"=some (.ref E4)
 mE5:mg "NoPath"=some (.ref E5)
 mE6:mg "NoRow"=some (.ref E6)
 mE7:mg "NoShelf"=some (.ref E7)
 mE8:mg "NoStand"=some (.ref E8)
 mE9:mg "TooWide"=some (.ref E9)
 xc:mX K Fa
 ex:W.exmOne K (.ref Fa) (.ref Fa)=some true
 xu:mX K NU
 k7:W.kitAny K (.ref NU) [.ref Fa,.ref E1,.ref E2,.ref E3,.ref E4,.ref E5,.ref E6]=some false
 k2:W.kitAny K (.ref NU) [.ref E7,.ref E8]=some false
 xt:mX K E9
 k7t:W.kitAny K (.ref E9) [.ref Fa,.ref E1,.ref E2,.ref E3,.ref E4,.ref E5,.ref E6]=some false
 k2t:W.kitAny K (.ref E9) [.ref E7,.ref E8]=some false
 kVt:W.kitOne K (.ref E9) (.type "ValueError")=some true
 kTt:W.kitOne K (.ref E9) (.ref E9)=some true
 kUt:W.kitOne K (.ref E9) (.ref NU)=some false
 kTu:W.kitOne K (.ref NU) (.ref E9)=some false
 et:W.exmOne K (.ref E9) (.ref M)=some true
 kU:W.kitOne K (.ref NU) (.ref NU)=some true
 kV:W.kitOne K (.ref NU) (.type "ValueError")=some true
 eu:W.exmOne K (.ref NU) (.ref M)=some true
structure FunC(K:Fg)(x b_:Str)(st:Stmt)(f c:Addr)(fd:Fy):Prop where
 ex:∃(oc:Value) (od:Oa) (kV doc pm:Value) (an:Oa) (ct:Value) (iN:Array (Option Value)),fd=W.fnOf x b_ (jw st) (gJ st) (aC st) .none kV doc pm an (.ref c) ct /\
  K.lookup f=some ⟨oc,od,.func (W.fnOf x b_ (jw st) (gJ st) (aC st) .none kV doc pm an (.ref c) ct),iN⟩/\W.codeIn K (.ref c) b_=true
 kp:W.keepIn K (.ref f)=true
structure PD(K:Fg)(mg:Mv)(Pt:Addr) extends Fd K mg auQ lq [auw,auR,auM] where
 c:Addr
 FN:FunC K auQ auQ lq f c fd
 hN:W.codeHdIn K c Pt=true
 hP:K.lookup Pt=none
structure Pq(K:Fg)(mg:Mv)(Pt:Addr):Type where
 B:Blt mg
 K0:Od mg
 C:Addr
 S:Addr
 T:Addr
 D:Addr
 Hc:Addr
 Bc:Addr
 Oc:Addr
 TC:Txt K mg C
 US:ag4 K mg S
 UT:ag5 K mg T
 UD:ag6 K mg D
 UH:ag7 K mg Hc
 UB:ag8 K mg Bc Oc
 TIn:fL K T "__init__" "Stand.__init__" OB [auv,aux,auI,auV]
 PIn:fL K C "__init__" "Parcel.__init__" FL [auv,auy,auz,auK,auF,auT,auW,au5]
 SIn:fL K S "__init__" "Shelf.__init__" Oz [auv,auB]
 SNa:fL K S au0 "Shelf.names" Ox [auv]
 SMo:fL K S "makes_of" "Shelf.makes_of" Oy [auv,auy]
 BIn:fL K Bc "__init__" "Best.__init__" Ov [auv,aux]
 SPa:fL K S auC "Shelf.parcel" OA [auv,auy,auz]
 DTk:fL K D "take_write" "Disk.take_write" OJ [auv]
 DIn:fL K D "__init__" "Disk.__init__" OC [auv]
 DPt:fL K D "put" "Disk.put" OF [auv,auA,auH]
 DEr:fL K D "erase" "Disk.erase" OG [auv,auA]
 DNt:fL K D "note" "Disk.note" OH [auv,au9,auG]
 FNo:fL K D "files_now" "Disk.files_now" OD [auv]
 BNo:fL K D "book_now" "Disk.book_now" OE [auv]
 HIn:fL K Hc "__init__" "House.__init__" Pn [auv,auw,auE]
 HUp:fL K Hc "up" "House.up" Pp [auv]
 HSt:fL K Hc auN "House.stand" Ps [auv]
 HSK:fL K Hc "stand_kept" "House.stand_kept" Pu [auv]
 HGo:fL K Hc "go_to" "House.go_to" Pw [auv,aux,auI,auV]
 HWi:fL K Hc "wish" "House.wish" Px [auv,auM]
 HEd:fL K Hc "edit" "House.edit" Py [auv,auA,auH]
 HCh:fL K Hc "choose" "House.choose" Pz [auv,au6,auy]
 DAl:fL K D "allow" "Disk.allow" OI [auv,"many"]
 Cel:Fd K mg "_law_cell_at" Pe [auD,au7]
 Nam:Fd K mg "_law_name" Pf [au1,ave]
 RwO:Fd K mg "rows_of" OL [auG]
 MkS:Fd K mg "make_shown" OM [auz]
 CCo:Fd K mg "changes_copied" OW [auV]
 ChR:Fd K mg "change_rows" O1 [auA,auU]
 Sho:Fd K mg "stand_shown" O0 [auN]
 MkN:Fd K mg "make_noted" O3 [auG]
 Not:Fd K mg "stand_noted" O2 [auG]
 PsO:Fd K mg "parcels_of" OP [auw,aux]
 Bro:Fd K mg "brought_by" OX [auB]
 Com:Fd K mg "commons_of" OZ [auB]
 KUn:Fd K mg "keys_unlike" OO [au8,au3]
 Tur:Fd K mg "turn_to" FM [auE,auY]
 FoC:Fd K mg "files_of_change" OY [auA,auU,au4]
 Tre:Fd K mg "tree_of" AY [auw,auN]
 Bes:PD K mg Pt
 PaO:Fd K mg "paths_of" OV [auC]
 NFa:Fd K mg "need_faults" OS [auC,auB]
 SFa:Fd K mg "shut_faults" OT [auC,auB]
 CFa:Fd K mg "clash_faults" OU [auC,auB]
 FaO:Fd K mg "faults_of" OQ [auw,aux]
 Sou:Fd K mg "is_sound" OR [auw,aux]
 Beh:Fd K mg "set_behind" O5 [auR,auL,auX]
 Wom:Fd K mg "with_one_more" O7 [avb,au0]
 Fst:Fd K mg "first_group" O6 [auw,auR,auL,au0]
 Gro:Fd K mg "groups_to" O4 [auw,auR,auL]
 IUp:Fd K mg "is_up" O8 [auE]
 TxB:Fd K mg "texts_begun" O9 [auE]
 StO:Fd K mg "stand_on" Pa [auE]
 Fin:Fd K mg "finish" Pb [auE,auY]
 StT:Fd K mg "steps_to" Pd [auw,auR,auL]
 DoD:Fd K mg "do_deed" Pc [auw,auE,auL]
 IsN:Fd K mg "is_name" Ph [auG]
 IsP:Fd K mg "is_path" Pj [auG]
 AsP:Fd K mg "ask_path" Pk [auA]
 WEn:Fd K mg "with_entry" Pm ["entries","key","entry"]
 Wid:Fd K mg "width_of" Oe [auw]
 Sts:Fd K mg "sets_of" Of [auw]
 Wca:Fd K mg "with_case" Og [auO,auy,"case"]
 Cas:Fd K mg "cases_of" Oh [auw,auy]
 Sde:Fd K mg "set_decided" Oj [auO]
 Met:Fd K mg "are_met" Ol [aux,auM]
 Don:Fd K mg "is_done_by" Om ["wish",auz]
 Wit:Fd K mg "is_within" ON [auz,"least","below"]
 MkL:Fd K mg "makes_listed" Oo [auw,aux]
 LSh:Fd K mg "_law_shelf" Op [auD,auS]
 LWi:Fd K mg "_law_wished" Oq [auJ,auP]
 LOn:Fd K mg "_law_only" Ot [auZ,avd]
 LEd:Fd K mg "_law_edit" Ou [auJ,au2,auS]
 Law:Fd K mg "law" FO [auD]
 AsN:Fd K mg "ask_name" Pl [auy]
 M:Addr
 Fa:Addr
 NU:Addr
 E1:Addr
 E2:Addr
 E3:Addr
 E4:Addr
 E5:Addr
 E6:Addr
 E7:Addr
 E8:Addr
 E9:Addr
 R:PB K mg M Fa NU E1 E2 E3 E4 E5 E6 E7 E8 E9
structure Pg(K:Fg)(mg:Mv)(base:Heap)(Pt:Addr) extends Pq K mg Pt where
 hB:base.BuiltinsAt mg Pt
theorem Pg.MPIn(z:Pg K mg base Pt):Mk K z.C z.PIn.f:=⟨z.TC.mz,z.PIn.mt.at_,z.PIn.mt.fn,z.TC.kc⟩
theorem Pg.MSIn(z:Pg K mg base Pt):Mk K z.S z.SIn.f:=⟨z.US.mz,z.SIn.mt.at_,z.SIn.mt.fn,z.US.kc⟩
theorem Pg.MTIn(z:Pg K mg base Pt):Mk K z.T z.TIn.f:=⟨z.UT.mz,z.TIn.mt.at_,z.TIn.mt.fn,z.UT.kc⟩
theorem Pg.MDIn(z:Pg K mg base Pt):Mk K z.D z.DIn.f:=⟨z.UD.mz,z.DIn.mt.at_,z.DIn.mt.fn,z.UD.kc⟩
theorem Pg.MHIn(z:Pg K mg base Pt):Mk K z.Hc z.HIn.f:=⟨z.UH.mz,z.HIn.mt.at_,z.HIn.mt.fn,z.UH.kc⟩
theorem Pg.MBIn(z:Pg K mg base Pt):Mk K z.Bc z.BIn.f:=⟨z.UB.mz,z.BIn.mt.at_,z.BIn.mt.fn,z.UB.kc⟩
end K75
section
open L2
variable {P:Program}{w:World}{K:Fg}{mg:Mv}{base:Heap}{Pt:Addr}
namespace K75
section
variable {x:Str}{α:Type}
theorem PF{sep:Str}:∀{ps:Ls}{d:Nat},d∈(Str.join sep ps).cps.toList->d∈sep.cps.toList\/∃p∈ps,d∈p.cps.toList
 | [],d,h=>by
  have h:d∈([]:List Nat):=h;cases h
 | [p],d,h=>.inr ⟨p,bA,h⟩
 | p::q::r,d,h=>by
  have h:d∈(p++sep++Str.join sep (q::r)).cps.toList:=h;rw[pD,pD]at h
  rcases dA.mp h with h | h
  . rcases dA.mp h with h | h
    . exact .inr ⟨p,bA,h⟩
    exact .inl h
  rcases PF h with h | ⟨z,hz,hd⟩
  . exact .inl h
  exact .inr ⟨z,bL _ hz,hd⟩
theorem PH{l u:Option Int}{c:Nat}(h:c∈(Txt.slice x l u).cps.toList):c∈x.cps.toList:=by
 unfold Txt.slice at h;split at h
 . exact h
 have j:c∈(Builtin.Str.strSliceIndices l u 1 x.length).filterMap (x.cps[·]?):=by simpa using h
 obtain⟨i,_,hi⟩:=vT.mp j;have:=asx hi;simpa using this
theorem ag9(x:Str)(k:Int)(h0:0<=k)(h1:k<=x.length):(Txt.slice x none (some k)).length+(Txt.slice x (some k) none).length=x.length:=by
 have z:x.cps.toList.length=x.length:=dJ;rw[FA,FA,StrLaws.sliceText_to (x:=x) (j:=k) ⟨h0,by omega⟩,StrLaws.sliceText_from (x:=x) (i:=k) ⟨h0,by omega⟩];show((List.drop 0 x.cps.toList).take (k - 0).toNat).toArray.size+((List.drop k.toNat x.cps.toList).take ((x.cps.toList.length:Int) - k).toNat).toArray.size=x.length;rw[gC,gC,d5,d5,vX,vX];omega
theorem PJ{c d:Nat}(h:d∈(⟨#[c]⟩:Str).cps.toList):d=c:=bX.mp h
theorem aha{P:Nat->Prop}(ok:∀c∈x.cps.toList,P c){r:Int}(h0:0<=r)(h1:r<x.length):∃c,cX x.cps.toList r=some c/\P c:=by
 obtain⟨n,rfl⟩:∃n:Nat,r=n:=⟨r.toNat,by omega⟩;have j:n<x.cps.toList.length:=by
  have:x.cps.toList.length=x.length:=by simp[Str.length]
  omega
 exact⟨_,Dx (fo j),ok _ (CD j)⟩
def q5:Str:="abcdefghijklmnopqrstuvwxyz"
theorem ahb:∀c∈q5.cps.toList,97<=c/\c<=122:=by decide +kernel
theorem FP:q5.length=26:=by decide +kernel
theorem PL(n:Int):∃c,cX q5.cps.toList (n % 26)=some c/\(97<=c/\c<=122):=aha ahb (by omega) (by rw[FP];omega)
def nz(n:Int):Str:=match cX q5.cps.toList (n % 26) with | some z=>⟨#[z]⟩ | none=>⟨#[]⟩
def vk(c:Int):Str:=Txt.join (Str.ofString "") ((List.range (c / 3 % 8).toNat).map λk:Nat=>nz (c / (16+5 * (0+(k:Int)))))
def fh(c p:Int):Str:=Txt.slice (vk c) none (some (c / 7 % (((vk c).length:Int)+1)))++nz (c+p)++Txt.slice (vk c) (some (c / 7 % (((vk c).length:Int)+1))) none
theorem PM{n:Int}{z:Nat}(h:cX q5.cps.toList (n % 26)=some z):nz n=⟨#[z]⟩:=by unfold nz;rw[h]
def bZ(ns:List Int)(k:Int):Int:=if k<(ns.length:Int) then(match cX (ns.map V.int) k with | some (.int z)=>z | _=>0) else 0
theorem ahc{ns:List Int}{k z:Int}(h:k<(ns.length:Int))(e:cX (ns.map V.int) k=some (.int z)):bZ ns k=z:=by unfold bZ;rw[ai h,e]
inductive PN (K:Fg):Sp where
 | mk {H:Hp}{Q:VK}{E:XK}{a:Addr}{k:Int}{ns:List Int} (_:0<=k) (_:ag K H a (ns.map V.int)) (_:Q (.int (bZ ns k)) H):PN K [.ref a,.int k] H Q E
theorem ahd:aM [auD,au7] [auD,au7] (aC Pe):=aV
theorem tI(j:Pg K mg base Pt):au P w K mg base aL 1 j.Cel.f j.Cel.fd [auD,au7] (PN K):=by
 refine j.Cel.u.okL ahd ?_;intro J A outer s H vs Q E hr h xX U;obtain @⟨_,_,_,a,k,ns,k0,G,q⟩:=h;refine⟨_,(ak (cU (eW De (pv 1) (cW oY (by rfl) j.B.len mG (ao (pv 0))) (cj _))
  (am (ba (eY lL (pv 0) (pv 1) (λ_ _=>rfl)))) eU)
  (am (ba aZ))),?_⟩
 refine qJ ?_;intro O sS Y;refine⟨a,_,rfl,.inl G,⟨⟨?_⟩⟩⟩;refine cY (λh=>?_) (λh=>?_)
 . have h':=cq h;rw[ah]at h';obtain⟨z,hz,_⟩:=aaS (ns:=ns) (r:=k) k0 h';exact⟨G,hz,ahc h' hz▸q⟩
 have h':¬k<(ns.length:Int):=λz=>h (bw (by rw[ah];exact z));have e:bZ ns k=0:=af h';rw[e]at q;exact q
inductive PP:Sp where
 | mk {H:Hp}{Q:VK}{E:XK}{c p:Int} (_:∀H',cm (fh c p)->ac H H'->Q (.str (fh c p)) H'):PP [.int c,.int p] H Q E
theorem AZ:aM [au1,ave,"_law_some","_law_body","_law_at"] [au1,ave] (aC Pf):=aV
theorem PQ(j:Pg K mg base Pt):au P w K mg base aL 1 j.Nam.f j.Nam.fd [au1,ave] PP:=by
 refine j.Nam.u.okL AZ ?_;intro av A outer s H vs Q E hr h xX dX;obtain @⟨_,_,_,c,p,q⟩:=h;refine⟨_,(ak (aJ (i:=2) AZ.nd rfl (Or.inr rfl) bK)
  (Lc (λZ H2=>∃x:Str,Z=[some (.int c),some (.int p),some (.str q5),some (.str x),none]/\x=vk c/\ac H H2/\(∀c∈x.cps.toList,97<=c/\c<=122)/\x.length<=7) (aJ (i:=3) AZ.nd rfl (Or.inl rfl) (dR mH yZ y6 wO bK (ao (gK [au7] ["_law_some",au1] [2,0] fq rfl (C2 rfl j.B.range (ao (cF oS (cF uK (pv 0) aZ) aZ))) (λ_ _ _ _=>(a8 (i:=0) (show List.Nodup ([au7,"_law_some",au1]:Ls) by decide +kernel) rfl (Or.inl rfl))) (λ_ _ _ _=>ix) (λ_ _ _ _=>(eY Kx (pv 1) (cF oS (cF uK (pv 2) (cF oR aZ (cF Dc aZ (pv 0)))) aZ) (λ_ _=>rfl)))))))
  (ak (aJ (i:=4) AZ.nd rfl (Or.inl rfl) (cF oS (cF uK (pv 0) aZ) (cF oR (cW KC (by rfl) j.B.len mG (ao (pv 3))) aZ)))
  (am (ba (cF Dj (cF Dj (wB zP (pv 3) wz (wA (pv 4))) (eY Kx (pv 2) (cF oS (cF oR (pv 0) (pv 1)) aZ) (λ_ _=>rfl))) (wB zP (pv 3) (wA (pv 4)) wz))))))),?_⟩
 refine qJ ?_;intro dD sS gf;refine⟨?_,?_⟩
 . refine⟨rfl,⟨by omega,by omega⟩,(by show(0:Int)<8;decide),by omega,by omega,?_⟩;refine abN (σ0:=[none,some (.str q5),some (.int c)]) (λZ=>∃v,Z=[v,some (.str q5),some (.int c)]) (λi ys _=>∃xs:Ls,ys=xs.map V.str/\xs=(List.range i).map (λk:Nat=>nz (c / (16+5 * (0+(k:Int)))))/\xs.length=i/\∀x∈xs,(∀c∈x.cps.toList,97<=c/\c<=122)/\x.length<=1) ⟨_,rfl⟩ (λ_ _=>⟨[],rfl,rfl,rfl,λ_ h=>nomatch h⟩) ?_ ?_
   . intro D i ys Z H2 k hD hi md hd hs kf hk;refine cb ?_;intro Y;obtain⟨v,rfl⟩:=md;obtain⟨xs,rfl,ex,U,G⟩:=kf;obtain⟨z,hz,J⟩:=PL (c / (16+5 * (0+(i:Int))));refine⟨.inl ⟨by omega,by omega⟩,⟨by omega,by omega⟩,(by show(0:Int)<26;decide),wJ (by rw[FP];decide),hz,?_⟩;refine hk _ _ _ ⟨_,rfl⟩ (ac.refl _) (cp (by rw[ah];omega)) ⟨xs++[_],DX xs _,by rw[yS,cK,<-ex,List.map_singleton,PM hz],by rw[bD,U];rfl,λy hy=>?_⟩
     rcases dA.mp hy with hy | hy
     . exact G y hy
     rw[bX.mp hy];exact⟨λd hd=>by rw[PJ hd];exact J,Ce (uR z)⟩
   intro D ys H2 hD hd hs pF;refine cb ?_;intro Y;obtain⟨xs,rfl,ex,U,G⟩:=pF;have a0:=zY (b:=1) λy hy=>(G y hy).2;have O:(Str.ofString "").length=0:=by decide +kernel
   refine⟨xs,ag.of hd,by rw[O];omega,?_⟩;refine⟨_,rfl,by unfold vk;rw[<-ex],hs,λd hd=>?_,?_⟩
   . rw[show Txt.join (Str.ofString "") xs=Str.join (Str.ofString "") xs from Cy _ _]at hd
     rcases PF hd with hd | ⟨y,hy,hd⟩
     . cases hd
     exact(G y hy).1 d hd
   refine cR DZ ?_;rw[O];omega
 intro σ' H' xH;refine cb ?_;intro Y;obtain⟨x,rfl,ex,s1,xt,x8⟩:=xH;refine⟨⟨by omega,by omega⟩,_,rfl,wJ (by omega),(by show(0:Int)<(x.length:Int)+1;omega),?_⟩;obtain⟨z,hz,J⟩:=PL (c+p);have l1:=Txt.slice_le x none (some (c / 7 % ((x.length:Int)+1)));have l2:=Txt.slice_le x (some (c / 7 % ((x.length:Int)+1))) none;have l3:(⟨#[z]⟩:Str).length=1:=uR z;refine⟨wJ (by omega),(by show(0:Int)<26;decide),wJ (by rw[FP];decide),hz,_,_,rfl,rfl,fit (by omega) (by omega),wJ (by omega),_,_,rfl,rfl,fit (by rw[lR];omega) (by omega),?_⟩;have l4:=ag9 x (c / 7 % ((x.length:Int)+1)) (Int.emod_nonneg _ (by omega)) (by have:=Int.emod_lt_of_pos (c / 7) (show(0:Int)<(x.length:Int)+1 by omega);omega);have en:fh c p=Txt.slice x none (some (c / 7 % ((x.length:Int)+1)))++⟨#[z]⟩++Txt.slice x (some (c / 7 % ((x.length:Int)+1))) none:=by unfold fh;rw[<-ex,PM hz]
 have q:=q H';rw[en]at q;refine q ⟨?_,?_,λd hd=>?_⟩ s1
 . rw[lR,lR];omega
 . rw[lR,lR];omega
 rw[pD,pD]at hd
 rcases dA.mp hd with hd | hd
 . rcases dA.mp hd with hd | hd
   . exact xt d (PH hd)
   rw[PJ hd];exact J
 exact xt d (PH hd)
def FQ(x:Str):Bool:=decide (1<=x.length) && decide (x.length<=8) && x.cps.toList.all λc=>decide (97<=c) && decide (c<=122)
theorem A0(h:FQ x=true):cm x:=by
 unfold FQ at h;simp only[gD,ux,eT]at h;exact⟨h.1.1,h.1.2,h.2⟩
theorem PR(ps:Ls)(e:x=Str.join ke ps)(h1:1<=ps.length)(h2:ps.length<=4)(h:ps.all FQ=true):ft x:=⟨ps,e,h1,h2,λp j=>A0 (eT.mp h p j)⟩
theorem eG{n:Nat}(h:n<=100000):n<=sizeLine:=by rw[qf];omega
theorem ahe(l:List α)(f:α->Bool):l.map (λc=>V.bl (f c))=(l.map f).map V.bl:=by rw[jp];rfl
theorem FR(l:List α)(f:α->Bool):(l.map f).all id=l.all f:=by rw[Jc];rfl
theorem iZ{β:Type}{l:List α}{f:α->β}{i:Nat}{y:β}(h:(l.map f)[i]?=some y):∃x,l[i]?=some x/\y=f x:=by
 rw[cz]at h;cases e:l[i]? with
 | none=>rw[e]at h;cases h
 | some x=>rw[e]at h;exact⟨x,rfl,(fO h).symm⟩
inductive PU:Sp where
 | mk {H:Hp}{Q:VK}{E:XK}{t:Str} (_:t.length<=90000) (_:∀l H',H l=none->ac H H'->H' l=some (.lst ((rowsOf t).map V.str))->Q (.ref l) H'):PU [.str t] H Q E
theorem ahf:aM [auG] [auG] (aC OL):=aV
theorem ahg(j:Pg K mg base Pt):au P w K mg base aL 1 j.RwO.f j.RwO.fd [auG] PU:=by
 refine j.RwO.u.okL ahf ?_;intro G A outer s H vs Q E O h Y J;obtain @⟨_,_,_,t,U,q⟩:=h;refine⟨_,(am (ba (CW (eW Dd (pv 0) bK (cj _)) (dR mH Je Jf AF (pv 0) (ao bK)) (cx dE)))),?_⟩;refine⟨rfl,⟨?_⟩⟩;refine cY (λh=>?_) (λh=>?_)
 . have ne:t≠Str.empty:=λz=>by
    rw[z]at h;exact absurd h (by decide +kernel)
   refine⟨rfl,t,lj,rfl,rfl,by decide +kernel,eG (by omega),λl H' a b c=>?_⟩;refine q l H' a b ?_;rw[c];unfold rowsOf;rw[af ne]
 have e:t=Str.empty:=by
  rcases Classical.em (t=Str.empty) with z | z
  . exact z
  refine absurd ?_ h;show(!decide (V.str t=V.str Str.empty))=true;rw[bM (λy=>z (V.str.inj y))];rfl
 refine⟨(by show 0<=sizeLine;exact cE _),λl H' a b c=>?_⟩;refine q l H' a b ?_;rw[c];unfold rowsOf;rw[ai e];rfl
theorem FS{y a:Str}(h:a∈Txt.split x y):a.length<=x.length:=part_short h
def xI(ms:List Int):Prop:=ms.length<=3/\∀n∈ms,0<=n/\n<=1000000000
theorem ik.ok{ms:List Int}(h:ik ms):xI ms:=⟨h.hi,h.rg⟩
inductive PV:Sp where
 | mk {H:Hp}{Q:VK}{E:XK}{m:Addr}{ms:List Int} (_:H m=some (.tup (ms.map V.int))) (_:xI ms) (_:∀H',ac H H'->Q (.str (jF ms)) H'):PV [.ref m] H Q E
theorem ahh:aM [auz] [auz] (aC OM):=aV
theorem PX{ms:List Int}(h:xI ms):((ms.map iY).map (·.length)).sum<=30:=by
 have:=zY (ys:=ms.map iY) (b:=10) λy z=>by
  obtain⟨n,j,rfl⟩:=bf.mp z;exact(NY (h.2 n j).1 (h.2 n j).2).2
 rw[ah]at this;have:=h.1;omega
theorem ahi{n:Int}(h0:0<=n)(h1:n<=1000000000):n.natAbs.log2<1920:=by
 have:n.natAbs<2 ^ 1920:=Cu (by omega:n.natAbs<=1000000000) (by decide +kernel)
 by_cases z:n.natAbs=0
 . rw[z];decide
 exact(Nat.log2_lt z).mpr this
theorem ahj(j:Pg K mg base Pt):au P w K mg base aL 1 j.MkS.f j.MkS.fd [auz] PV:=by
 refine j.MkS.u.okL ahh ?_;intro av A outer s H vs Q E hr h xX dX;obtain @⟨_,_,_,m,ms,G,ok,q⟩:=h;refine⟨_,(am (ba (dR mH yZ y6 wO bK (ao (gK ["number"] [] [] fq rfl (Xk (pv 0)) (λ_ _ _ _=>(a8 (i:=0) (show List.Nodup (["number"]:Ls) by decide +kernel) rfl (Or.inl rfl))) (λ_ _ _ _=>ix) (λ_ _ _ _=>(eX JY (by rfl) j.B.str Jg (ao (pv 0))))))))),?_⟩;refine⟨rfl,⟨_,aP.of G⟩,?_⟩;refine ae8 (σ0:=[none]) (aP.of G) (λZ=>∃v,Z=[v]) ((ms.map iY).map V.str) (by rw[ah,ah,ah]) (eG (by rw[ah];have:=ok.1;omega)) ⟨_,rfl⟩ ?_ ?_
 . intro i z y Z H2 k hz O Y hs hk;obtain⟨v,rfl⟩:=Y;obtain⟨n,J,rfl⟩:=iZ hz;rw[jp]at O;obtain⟨n',U,rfl⟩:=iZ O;rw[J]at U;cases U;have r:=ok.2 n (d6 J);exact⟨n,rfl,ahi r.1 r.2,hk _ _ ⟨_,rfl⟩ (ac.refl _)⟩
 intro D H2 hD hd hs;have l1:=PX ok;refine⟨ms.map iY,ag.of hd,?_,?_⟩
 . rw[show(Str.ofString ".").length=1 by decide +kernel,ah];have:=ok.1;omega
 have:=q H2 hs;rw[show jF ms=Txt.join lm (ms.map iY) from (Cy _ _).symm]at this;exact this
end
section
variable {H1 H H':Hp}{kv:aq×V}{e:Str×(Ls×Ls)}
theorem A1{g:TG}{tb:TS}{D:Ends}{Z:L2.St}{kvs:List (aq×V)}{ob:Obj}(Pv:Nat->L2.St->Hp->Prop)(h0:Pv 0 Z (ae H1 d (.frz ob (.dK kvs))))(G:∀i Z H,Pv i Z H->H d=some (.frz ob (.dK kvs)))
 (hs:∀i k v p Z H,kvs[i]?=some (k,v)->Pv i Z H->H p=none->g (.ref p) Z (ae H p (.tup [kV k,v])) λσ2 H2=>
  tb { nx:=Pv (i+1),ct:=Pv (i+1),bk:=λσ' H'=>H' d=some (.frz ob (.dK kvs))/\D.nx σ' (ae H' d (.dK kvs)),rt:=λj H'=>H' d=some (.frz ob (.dK kvs))/\D.rt j (ae H' d (.dK kvs)) } σ2 H2)
 (hd:∀Z H,Pv kvs.length Z H->D.nx Z (ae H d (.dK kvs))):∃W:Nat->Nat->L2.St->Hp->Prop,(∃m,W 0 m Z (ae H1 d (.frz ob (.dK kvs))))/\∀i m Z H,W i m Z H ->
 H d=some (.frz ob (.dK kvs))/\((kvs.length<=i/\D.nx Z (ae H d (.dK kvs)))\/(i<kvs.length/\∃N:L2.St->Hp->Prop,(∀σ' H',N σ' H'->∃m',m'<m/\W (i+1) m' σ' H') /\
  ∀k v p,kvs[i]?=some (k,v)->H p=none->g (.ref p) Z (ae H p (.tup [kV k,v])) λσ2 H2=>
   tb { nx:=N,ct:=N,bk:=λσ' H'=>H' d=some (.frz ob (.dK kvs))/\D.nx σ' (ae H' d (.dK kvs)),rt:=λj H'=>H' d=some (.frz ob (.dK kvs))/\D.rt j (ae H' d (.dK kvs)) } σ2 H2)):=by
 refine⟨λi m Z H=>m=kvs.length - i/\i<=kvs.length/\Pv i Z H,⟨kvs.length,by simp,cE _,h0⟩,?_⟩;rintro i m Z H ⟨rfl,hi,p⟩;refine⟨G i Z H p,?_⟩
 by_cases z:i<kvs.length
 . exact .inr ⟨z,Pv (i+1),λσ' H' U=>⟨kvs.length - (i+1),by omega,rfl,z,U⟩,λk v q J O=>hs i k v q Z H J p O⟩
 have e:i=kvs.length:=by omega
 subst e;exact .inl ⟨aD _,hd Z H p⟩
abbrev Ch:=List (Str×List Int)
variable {ch:Ch}
def fM(H:Hp)(kv:aq×V)(e:Str×List Int):Prop:=kv.1=.inr e.1/\∃m,kv.2=.ref m/\H m=some (.tup (e.2.map V.int))
theorem fM.same(s:ac H H'){e:Str×List Int}(h:fM H kv e):fM H' kv e:=h.elim λa j=>j.elim λm z=>z.elim λb c=>⟨a,m,b,s _ _ c⟩
def bP(H:Hp)(c:Addr)(ch:Ch):Prop:=∃kvs,H c=some (.dK kvs)/\Paired (fM H) kvs ch
theorem bP.same(s:ac H H'){c:Addr}(h:bP H c ch):bP H' c ch:=h.elim λkvs j=>j.elim λa b=>⟨kvs,s _ _ a,aB b λ_ _=>fM.same s⟩
abbrev Ow:=List (Str×(Ls×Ls))
variable {ow:Ow}
def i3(H:Hp)(kv:aq×V)(e:Str×(Ls×Ls)):Prop:=kv.1=.inr e.1/\∃t j z,kv.2=.ref t/\H t=some (.tup [.ref j,.ref z])/\H j=some (.lst (e.2.1.map V.str))/\H z=some (.lst (e.2.2.map V.str))
theorem i3.same(s:ac H H')(h:i3 H kv e):i3 H' kv e:=h.elim λa j=>j.elim λt z=>z.elim λY G=>G.elim λl2 J=>J.elim λb O=>O.elim λc U=>U.elim λd f=>⟨a,t,Y,l2,b,s _ _ c,s _ _ d,s _ _ f⟩
def jG(H H':Hp)(kv:aq×V)(e:Str×(Ls×Ls)):Prop:=kv.1=.inr e.1/\∃t j z,kv.2=.ref t/\H t=none/\H j=none/\H z=none/\H' t=some (.tup [.ref j,.ref z])/\H' j=some (.lst (e.2.1.map V.str))/\H' z=some (.lst (e.2.2.map V.str))
theorem jG.same{H2:Hp}(s:∀b o,H1 b=some o->H b=none->H2 b=some o)(h:jG H H1 kv e):jG H H2 kv e:=h.elim λa G=>G.elim λt J=>J.elim λl1 O=>O.elim λl2 U=>U.elim λb Y=>Y.elim λn1 a0=>a0.elim λn2 a1=>a1.elim λn3 j=>j.elim λc z=>z.elim λd f=>⟨a,t,l1,l2,b,n1,n2,n3,s _ _ c n1,s _ _ d n2,s _ _ f n3⟩
theorem jG.put{ks kN:List (aq×V)}(hd:H1 d=some (.dK ks))(h:jG H H1 kv e):jG H (ae H1 d (.dK kN)) kv e:=
 h.elim λa j=>j.elim λt G=>G.elim λl1 J=>J.elim λl2 O=>O.elim λb U=>U.elim λn1 Y=>Y.elim λn2 a0=>a0.elim λn3 a1=>a1.elim λc a2=>a2.elim λd' f=>⟨a,t,l1,l2,b,n1,n2,n3,aA c (aT c hd (by intro z;cases z)),aA d' (aT d' hd (by intro z;cases z)),aA f (aT f hd (by intro z;cases z))⟩
def pG(H:Hp)(o:Addr)(ow:Ow):Prop:=∃kvs,H o=some (.dK kvs)/\Paired (i3 H) kvs ow
theorem pG.same(s:ac H H'){o:Addr}(h:pG H o ow):pG H' o ow:=h.elim λkvs j=>j.elim λa b=>⟨kvs,s _ _ a,aB b λ_ _=>i3.same s⟩
abbrev Cs:=List (Str×Str)
variable {cs:Cs}
def xJ(kv:aq×V)(e:Str×Str):Prop:=kv.1=.inr e.1/\kv.2=.str e.2
def tJ(H:Hp)(h:Addr)(cs:Cs):Prop:=∃kvs,H h=some (.dK kvs)/\Paired xJ kvs cs
theorem tJ.same(s:ac H H'){h:Addr}(x:tJ H h cs):tJ H' h cs:=x.elim λkvs j=>j.elim λa b=>⟨kvs,s _ _ a,b⟩
def jk(T:Addr)(H:Hp)(v:V)(ch:Ch)(cs:Cs)(ow:Ow):Prop:=∃a dx fl c h o,v=.ref a/\H a=some (.ins T dx fl)/\fl.lookup (aux:Str)=some (.ref c)/\fl.lookup (auI:Str)=some (.ref h)/\fl.lookup (auV:Str)=some (.ref o) /\
 bP H c ch/\tJ H h cs/\pG H o ow
theorem jk.same{v:V}(s:ac H H')(x:jk T H v ch cs ow):jk T H' v ch cs ow:=by
 obtain⟨a,dx,fl,c,h,o,e,h1,h2,j,z,G,J,O⟩:=x;exact⟨a,dx,fl,c,h,o,e,s _ _ h1,h2,j,z,G.same s,J.same s,O.same s⟩
inductive PY:Sp where
 | mk {H:Hp}{Q:VK}{E:XK}{o:Addr}{kvs:List (aq×V)}{ow:Ow} (_:H o=some (.dK kvs)) (_:Paired (i3 H) kvs ow) (_:(ow.map (·.1)).Nodup) (_:ow.length<=400) (_:∀d H' j,H d=none->ac H H'->H' d=some (.dK j)->Paired (jG H H') j ow->Q (.ref d) H'):PY [.ref o] H Q E
theorem A2:aM [auV,"copied",auA,auU] [auV] (aC OW):=aV
theorem ahN(zZ:Pg K mg base Pt):au P w K mg base aL 1 zZ.CCo.f zZ.CCo.fd [auV] PY:=by
 refine zZ.CCo.u.okL A2 ?_;intro av A outer s H vs Q E hr h xX dX;obtain @⟨_,_,_,o,kvs,ow,ho,pr,nd,xK,q⟩:=h;have hu:=hr.units;refine⟨_,(ak (aJ (i:=1) A2.nd rfl (Or.inl rfl) o7)
  (ak (Ad fC rfl (pv 0) (kR rfl (d8 (a8 (i:=2) A2.nd rfl (Or.inl rfl)) (d8 (a8 (i:=3) A2.nd rfl (Or.inl rfl)) jr)))
  (am (kX hu (pv 1) (pv 2) (eE (aO (eX sT (by rfl) zZ.B.list oI (ao (eY lM (pv 3) aZ (λ_ _=>rfl)))) (eX sT (by rfl) zZ.B.list oI (ao (eY lM (pv 3) aZ (λ_ _=>rfl)))))) rfl)))
  (am (ba (pv 1))))),?_⟩
 refine kY ?_;intro dD sS im gf;have hk:∀(H':Hp) kv f,jG H H' kv f->kv.1=Sum.inr f.1:=λ_ kv f z=>z.1;refine λd H1 n1 s1 e1=>?_;have od:d≠o:=(aF ho n1).symm;refine⟨o,kvs,rfl,s1 _ _ ho,λob=>?_⟩;refine A1 (λi Z G=>∃u v O,Z=[some (.ref o),some (.ref d),u,v]/\(∀b x,H b=some x->b≠o->G b=some x)/\(∀b,G b=none->H b=none)/\G o=some (.frz ob (.dK kvs))/\G d=some (.dK O)/\Paired (jG H G) O (ow.take i))
  ⟨none,none,[],rfl,λb x e J=>aA (s1 _ _ e) J,λb e=>s1.free (jx e).2,aw,aA e1 od,.nil⟩ ?_ ?_ ?_
 . intro i Z G md;refine cb ?_;intro tT;obtain⟨u,v,O,rfl,_,_,h,_⟩:=md;exact h
 . intro i k v p Z G hi kf hp;refine cb ?_;intro tT;obtain⟨u,v',O,rfl,k5,f5,h5,iD,Y⟩:=kf
   first | (refine Ai (g:=mO _) ?_;intro eQ sQ) | (refine Ai (g:=uJ _ _ _) ?_;intro eQ sQ) | skip
   obtain⟨⟨x,b1,m1⟩,hf,a1,t,l1,l2,a2,a3,a4,a5⟩:=ff pr hi;have a1:k=.inr x:=a1;have a2:v=.ref t:=a2;subst a1 a2;have aH:=(dB.mp hf).1;have sp:ac G (ae G p (.tup [kV (.inr x),.ref t])):=gb hp;have K5:∀{b:Addr}{z:HO},H b=some z->(∀ks,z≠.dK ks)->(ae G p (.tup [kV (.inr x),.ref t])) b=some z:=λ{b z} e hz=>sp _ _ (k5 _ _ e (aT e ho (hz _)));have T5:=K5 a3 (by intro ks z;cases z);have L5:=K5 a4 (by intro ks z;cases z);have M5:=K5 a5 (by intro ks z;cases z);have z0:cX [V.ref l1,V.ref l2] 0=some (V.ref l1):=rfl;have z1:cX [V.ref l1,V.ref l2] 1=some (V.ref l2):=rfl;refine⟨aP.of aw,rfl,rfl,?_⟩;refine⟨aP.of T5,z0,l1,_,rfl,.inl (ag.of L5),λq1 H6 n6 s6 e6=>?_⟩;refine⟨aP.of (s6 _ _ T5),z1,l2,_,rfl,.inl (ag.of (s6 _ _ M5)),λq2 H7 n7 s7 e7=>?_⟩;refine⟨Ax,λq3 H8 n8 s8 e8=>?_⟩;have U:=sp.trans (s6.trans (s7.trans s8));have pl:=bh Y;rw[d5]at pl;refine⟨ib.k (k:=.inr x) (U _ _ iD) (cp (by omega)),?_⟩;have xL:x∉(ow.take i).map (·.1):=by
    rw[VL];intro hm;obtain⟨j,hj,ej⟩:=yR.mp hm;rw[d5,ah]at hj;rw[Jh]at ej;have e1:(ow.map (·.1))[j]?=some x:=by rw[fo (by rw[ah];omega),ej]
    have e2:(ow.map (·.1))[i]?=some x:=by rw[cz,hf];rfl
    have:=(y7 (l:=ow.map (·.1)) (i:=j) (j:=i) (by rw[ah];omega) nd).mp (by rw[e1,e2]);omega
   have a0:∀b,H8 b=none->H b=none:=λb e=>f5 b (U.free e);refine⟨_,_,_,rfl,λb z e J=>?_,λb e=>a0 b (jx e).2,aA (U _ _ h5) od.symm,aw,?_⟩
   . rw[aE (λy=>by rw[y,n1]at e;cases e)];exact U _ _ (k5 _ _ e J)
   rw[jQ,hf];have:=li (F:=jG H H8) (hk H8) (x:=x) (ls:=(b1,m1)) (v:=.ref q3) ⟨rfl,q3,q1,q2,rfl,f5 _ (sp.free (s6.free (s7.free n8))),f5 _ (sp.free n6),f5 _ (sp.free (s6.free n7)),e8,s8 _ _ (s7 _ _ e6),s8 _ _ e7⟩ (aB Y λ_ _=>jG.same λb z e _=>U _ _ e);rw[xG xL]at this;exact aB this λ_ _=>jG.put (U _ _ iD)
 intro Z G pF;refine cb ?_;intro tT;obtain⟨u,v,O,rfl,k5,f5,h5,iD,Y⟩:=pF
 first | (refine Ai (g:=mO _) ?_;intro eQ sQ) | (refine Ai (g:=uJ _ _ _) ?_;intro eQ sQ) | skip
 rw[bh pr,eN]at Y;refine⟨q d _ O n1 (λb z e=>?_) (aA iD od) (aB Y λ_ _=>jG.same λb z e J=>aA e (λy=>by rw[y,ho]at J;cases J))⟩
 by_cases J:b=o
 . subst J;rw[ho]at e;cases e;exact aw
 exact aA (k5 b z e J) J
inductive FU (T:Addr):Sp where
 | mk {H:Hp}{Q:VK}{E:XK}{x dx c h o:Addr}{kvs z:List (aq×V)}{ow:Ow} (_:H x=some (.ins T dx [])) (_:H c=some (.dK kvs)) (_:H h=some (.dK z)) (_:pG H o ow) (_:(ow.map (·.1)).Nodup) (_:ow.length<=400) (_:∀(H':Hp) (fl:List (Str×V)) (c' h' o':Addr) (j:List (aq×V)),(∀b o,H b=some o->b≠x->H' b=some o)->H' x=some (.ins T dx fl)->fl.lookup (aux:Str)=some (.ref c')->fl.lookup (auI:Str)=some (.ref h')->fl.lookup (auV:Str)=some (.ref o') ->
  H c'=none->H h'=none->H o'=none->H' c'=some (.dK kvs)->H' h'=some (.dK z)->H' o'=some (.dK j)->Paired (jG H H') j ow->Q .non H'):FU T [.ref x,.ref c,.ref h,.ref o] H Q E
theorem ahP:aM [auv,aux,auI,auV] [auv,aux,auI,auV] (aC OB):=aV
theorem fe.over{Hk j:Hp}{fl:List (Str×V)}(S:fe C dx x H Hk fl)(s:ac Hk j):fe C dx x H j fl:=⟨λb o e z=>s _ _ (S.same b o e z),λb e=>S.free b (s.free e),s _ _ S.ob⟩
theorem A3(j:Pg K mg base Pt):au P w K mg base aL 2 j.TIn.f j.TIn.fd [auv,aux,auI,auV] (FU j.T):=by
 refine j.TIn.u.okL ahP ?_;intro av A outer s H vs Q E hr h xX dX;obtain @⟨_,_,_,x,dx,c,h,o,kvs,xM,ow,J,hc,hh,ho,nd,xK,q⟩:=h;refine⟨_,(ak (gR (pv 0) (eX sU (by rfl) j.B.dict wc (ao (pv 1))) rfl)
  (ak (gR (pv 0) (eX sU (by rfl) j.B.dict wc (ao (pv 2))) rfl)
  (am (gR (pv 0) (aU (ahN j) hr rfl (ao (pv 3))) rfl)))),?_⟩
 refine kY ?_;intro dD sS im gf;have S0:fe j.T dx x H H []:=⟨λ_ _ e _=>e,λ_ e=>e,J⟩;have ch:∀{b:Addr}{ks:List (aq×V)},H b=some (.dK ks)->b≠x:=λe=>aT e J (by intro z;cases z);refine⟨c,_,rfl,hc,λc1 H1 n1 s1 e1=>?_⟩;have S1:=S0.over s1;refine⟨S1.ob,j.UT.cl,j.UT.nC,(by decide),?_⟩;have S2:fe j.T dx x H _ (ar aux (.ref c1) []):=S1.put;have FV:c1≠x:=(aF J n1).symm;have c2:(ae H1 x (.ins j.T dx (ar aux (.ref c1) []))) c1=some (.dK kvs):=aA e1 FV;refine⟨h,_,rfl,S2.same _ _ hh (ch hh),λh1 H3 n3 s3 e3=>?_⟩;have S3:=S2.over s3;have PZ:=S2.free _ n3;refine⟨S3.ob,j.UT.cl,j.UT.nH,few (lp pA) (by decide),?_⟩;have G:fe j.T dx x H _ (ar auI (.ref h1) (ar aux (.ref c1) [])):=S3.put;have P0:h1≠x:=(aF J PZ).symm;obtain⟨ko,xN,xO⟩:=ho;have q9:Paired (i3 (ae H3 x (.ins j.T dx (ar auI (.ref h1) (ar aux (.ref c1) []))))) ko ow:=aB xO λkv e z=>by
  obtain⟨z1,t,l1,l2,z2,O,U,Y⟩:=z;exact⟨z1,t,l1,l2,z2,G.same _ _ O (aT O J (by intro z;cases z)),G.same _ _ U (aT U J (by intro z;cases z)),G.same _ _ Y (aT Y J (by intro z;cases z))⟩
 refine⟨G.same _ _ xN (ch xN),q9,nd,xK,λo1 H5 P1 n5 s5 e5 dW=>?_⟩;have S5:=G.over s5;have P2:=G.free _ n5;refine⟨S5.ob,j.UT.cl,j.UT.nO,few (lp (lp pA)) (by decide),?_⟩;have a0:o1≠x:=(aF J P2).symm;have S6:fe j.T dx x H _ (ar auV (.ref o1) (ar auI (.ref h1) (ar aux (.ref c1) []))):=S5.put;refine q _ _ c1 h1 o1 P1 S6.same S6.ob ?_ ?_ ?_ n1 PZ P2 (aA (s5 _ _ (aA (s3 _ _ c2) FV)) FV) (aA (s5 _ _ (aA e3 P0)) P0) (aA e5 a0) (aB dW λkv e z=>?_)
 . rw[b9,af (by decide +kernel),b9,af (by decide +kernel),b9,ai rfl]
 . rw[b9,af (by decide +kernel),b9,ai rfl]
 . rw[b9,ai rfl]
 obtain⟨z1,t,l1,l2,z2,m1,m2,m3,O,U,Y⟩:=z;have fx:∀{b:Addr}{z:HO},H5 b=some z->(∀fs,z≠.ins j.T dx fs)->b≠x:=λe hz=>aT e S5.ob (hz _);exact⟨z1,t,l1,l2,z2,G.free _ m1,G.free _ m2,G.free _ m3,aA O (fx O (by intro fs z;cases z)),aA U (fx U (by intro fs z;cases z)),aA Y (fx Y (by intro fs z;cases z))⟩
theorem A4{Q:Addr->Hp->Prop}{E:XK}(hc:bP H c ch)(hh:tJ H h cs)(ho:pG H o ow)(nd:(ow.map (·.1)).Nodup)(xK:ow.length<=400)(q:∀x H',H x=none->ac H H'->(∀L,iX H L->jk T (msk L H') (.ref x) ch cs ow)->Q x H') :
 ∀x dx,H x=none->H dx=none->dx≠x->FU T (.ref x::([.ref c,.ref h,.ref o]++[])) (ae (ae H dx (.own x)) x (.ins T dx [])) (λv H2=>v=.non/\Q x H2) E:=by
 intro x dx J a9 nx;have j:ac H (ae (ae H dx (.own x)) x (.ins T dx [])):=gt (gb a9) J;obtain⟨kvs,e1,e2⟩:=hc;obtain⟨xM,e3,e4⟩:=hh;refine⟨aw,j _ _ e1,j _ _ e3,ho.same j,nd,xK,λH' fl c' h' o' ko keep kP O U l3 n1 n2 n3 g1 g2 g3 g4=>?_⟩;have Y:ac H H':=λb o e=>keep b o (j _ _ e) (aF e J);refine⟨rfl,q x H' J Y λL G=>⟨x,dx,fl,c',h',o',rfl,df (G.free J) kP,O,U,l3,⟨kvs,df (G.free (j.free n1)) g1,aB e2 λkv e z=>?_⟩,⟨xM,df (G.free (j.free n2)) g2,e4⟩,⟨ko,df (G.free (j.free n3)) g3,aB g4 λkv e z=>?_⟩⟩⟩
 . obtain⟨a,m,b,c⟩:=z;exact⟨a,m,b,df (G.tup c) (Y _ _ c)⟩
 obtain⟨z1,t,O,U,z2,m1,m2,m3,z3,z4,z5⟩:=z;exact⟨z1,t,O,U,z2,df (G.free (j.free m1)) z3,df (G.free (j.free m2)) z4,df (G.free (j.free m3)) z5⟩
end
end K75
namespace L2
theorem P4{X:Cx}(K:Fg){T id:String}{name:Str}{r:V->Lv->Hp->VK->Prop}{o e:Expr}{es:List Expr}{to:TE}{t:TA}{apos bU:Pos}(Y:PlainAttrs T)(slot:Slot T name id)(j:typeOf (.builtin id)=pure (.type "method_descriptor"))(O:Kr X id r)(U:PE X o to)(J:PA X (e::es) t)(h:X.K=K:=by rfl)
 (sk:attributeBase o name X.env (eval o X.env)=eval o X.env:=by rfl)
 (z:((backTo bU (starEach (e::es) X.env)).all (λx=>!x.1) && (backToKw bU (keywordEach [] X.env)).all (λx=>x.1.isSome)
  && decide ((e::es).length+([]:List Keyword).length+(if ([]:List Keyword).isEmpty then 0 else 1)<30))=true:=by rfl)
 (sq:(apos.endLine == bU.line)=true:=by rfl) (hs:starEach (e::es) X.env=(false,eval e X.env)::starEach es X.env:=by rfl) (G:(backTo bU (starEach es X.env)).any (·.1)=false:=by rfl) :
 PE X (.Call (.Attribute o name apos) (e::es) [] bU) (KH K T r to t):=by
 subst h;exact dR Y slot j O U J sk z sq hs G
theorem P5{X:Cx}(K:Fg)(h:X.K=K:=by rfl):su X "str.join" (Ly K):=h▸wO
end L2
namespace K75
section
variable {c:Str}
structure A5(ch:Ch)(cs:Cs)(ow:Ow):Prop where
 nch:ch.length<64
 ncs:cs.length<64
 now:ow.length<64
 dch:(ch.map (·.1)).Nodup
 dcs:(cs.map (·.1)).Nodup
 dow:(ow.map (·.1)).Nodup
 ch:∀e∈ch,e.1.length<=60/\xI e.2
 cs:∀e∈cs,e.1.length<=60/\e.2.length<=60
 ow:∀e∈ow,e.1.length<=60/\e.2.1.length<=60/\e.2.2.length<=60/\(∀x∈e.2.1,x.length<=60)/\∀x∈e.2.2,x.length<=60
theorem tL(sep:Str)(ps:Ls):Txt.join sep ps=Str.join sep ps:=Cy _ _
theorem P6(p:Str):(Str.ofString "own ")++p=Str.join spS [dU,p]:=by
 show _=dU++spS++p;rw[show(Str.ofString "own ")=dU++spS by decide +kernel]
theorem FW{sep:Str}{ps:Ls}{b:Nat}(h:∀p∈ps,p.length<=b)(hs:sep.length<=1):(Str.join sep ps).length<=ps.length * (b+1):=by
 rw[<-tL];refine cR DZ ?_;have:=zY h;have h2:ps.length * sep.length<=ps.length * 1:=Nat.mul_le_mul_left _ hs;rw[Nat.mul_add];omega
inductive P7:Sp where
 | mk {H:Hp}{Q:VK}{E:XK}{p:Str}{t j z:Addr}{b m:Ls} (_:H t=some (.tup [.ref j,.ref z])) (_:H j=some (.lst (b.map V.str))) (_:H z=some (.lst (m.map V.str))) (_:p.length<=60) (_:b.length<=60) (_:m.length<=60) (_:(∀x∈b,x.length<=60)) (_:(∀x∈m,x.length<=60)) (_:∀l H',H l=none->ac H H'->H' l=some (.lst ((eF (p,(b,m))).map V.str))->Q (.ref l) H'):P7 [.str p,.ref t] H Q E
theorem P8:aM [auA,auU,"rows"] [auA,auU] (aC O1):=aV
theorem ahR(zZ:Pg K mg base Pt):au P w K mg base aL 1 zZ.ChR.f zZ.ChR.fd [auA,auU] P7:=by
 refine zZ.ChR.u.okL P8 ?_;intro av A outer s H vs Q E hr h xX dX;obtain @⟨_,_,_,p,t,l1,l2,b,m,ht,h1,h2,hp,hb,hm,a0,a1,q⟩:=h;refine⟨_,(ak (aJ (i:=2) P8.nd rfl (Or.inl rfl) (cx (ao (Af bK (Ec (pv 0))))))
  (ak (bI (dR ja oJ oK lO (pv 2) (ao (gK ["line"] [] [] fq rfl (cr (eY lM (pv 1) aZ (λ_ _=>rfl))) (λ_ _ _ _=>(a8 (i:=0) (show List.Nodup (["line"]:Ls) by decide +kernel) rfl (Or.inl rfl))) (λ_ _ _ _=>ix) (λ_ _ _ _=>(Af bK (Ec (pv 0))))))))
  (ak (bI (dR ja oJ oK lO (pv 2) (ao (gK ["line"] [] [] fq rfl (cr (eY lM (pv 1) aZ (λ_ _=>rfl))) (λ_ _ _ _=>(a8 (i:=0) (show List.Nodup (["line"]:Ls) by decide +kernel) rfl (Or.inl rfl))) (λ_ _ _ _=>ix) (λ_ _ _ _=>(Af bK (Ec (pv 0))))))))
  (am (ba (pv 2)))))),?_⟩
 refine lU ?_;intro dD sS vm im gf;have z0:cX [V.ref l1,V.ref l2] 0=some (V.ref l1):=rfl;have z1:cX [V.ref l1,V.ref l2] 1=some (V.ref l2):=rfl;have e4:(Str.ofString "own ").length=4:=by decide +kernel
 refine⟨eG (by rw[e4];omega),eG (by omega),_,rfl,eG (by rw[e4];omega),Aq,λr H1 n1 O e1=>?_⟩;refine⟨.inl ⟨rfl,_,ag.of e1⟩,aP.of (O _ _ ht),z0,⟨_,ag.of (O _ _ h1)⟩,?_⟩;refine tq (σ0:=[none]) (ag.of (O _ _ h1)) (λZ=>∃v,Z=[v]) ((b.map (fH ++ ·)).map V.str) (by rw[ah,ah,ah]) (eG (by rw[ah];omega)) ⟨_,rfl⟩ ?_ ?_
 . intro i z y Z H2 k hz G U hs Y;obtain⟨v,rfl⟩:=U;obtain⟨x,j,rfl⟩:=iZ hz;rw[jp]at G;obtain⟨x',J,rfl⟩:=iZ G;rw[j]at J;cases J;have:=a0 x (d6 j);exact⟨eG (by show fH.length<=_;rw[ny];decide),eG (by omega),_,rfl,eG (by show fH.length+_<=_;rw[ny,uR];omega),Y _ _ ⟨_,rfl⟩ (ac.refl _)⟩
 intro D1 H2 n2 e2 s2;refine⟨s2 _ _ e1,e2,eG (by simp only[ah,bq,gk];omega),?_⟩;have bj:=O.trans s2;have nr:∀{c:Addr}{o:HO},H c=some o->c≠r:=λe=>aF e n1;have k3:∀{c:Addr}{o:HO}{o':HO},H c=some o->ae H2 r o' c=some o:=λe=>aA (bj _ _ e) (nr e);refine⟨.inl ⟨rfl,_,ag.of aw⟩,aP.of (k3 ht),z1,⟨_,ag.of (k3 h2)⟩,?_⟩;refine tq (σ0:=[none]) (ag.of (k3 h2)) (λZ=>∃v,Z=[v]) ((m.map (fJ ++ ·)).map V.str) (by rw[ah,ah,ah]) (eG (by rw[ah];omega)) ⟨_,rfl⟩ ?_ ?_
 . intro i z y Z H3 k hz G U hs Y;obtain⟨v,rfl⟩:=U;obtain⟨x,j,rfl⟩:=iZ hz;rw[jp]at G;obtain⟨x',J,rfl⟩:=iZ G;rw[j]at J;cases J;have:=a1 x (d6 j);exact⟨eG (by show fJ.length<=_;rw[pE];decide),eG (by omega),_,rfl,eG (by show fJ.length+_<=_;rw[pE,uR];omega),Y _ _ ⟨_,rfl⟩ (ac.refl _)⟩
 intro D2 H3 n3 e3 s3;refine⟨s3 _ _ aw,e3,eG (by simp only[ah,bq,gk,bD];omega),?_⟩;refine⟨q r _ n1 (λc o e=>aA (s3 _ _ (k3 e)) (nr e)) ?_⟩;rw[aw];unfold eF;rw[cK,cK,<-P6];rfl
inductive A6 (T:Addr):Sp where
 | mk {H:Hp}{Q:VK}{E:XK}{v:V}{ch:Ch}{cs:Cs}{ow:Ow} (_:jk T H v ch cs ow) (_:A5 ch cs ow) (_:∀aQ aR aI H',dw ch aQ->dw cs aR->dw ow aI->ac H H'->Q (.str (Str.join lj (ge aQ aR aI))) H'):A6 T [v] H Q E
theorem FX:aM [auN,"rows",auA] [auN] (aC O0):=aV
theorem P9{a b:Str}(j:a.length<=10)(z:b.length<=60)(G:c.length<=60):(([a,b,c].map (·.length)).sum + [a,b,c].length * spS.length)<=16777216:=by
 rw[show spS.length=1 by decide +kernel];simp only[bp,yN,List.sum_cons,List.sum_nil,bq,gk];omega
theorem Qa{ms:List Int}(h:xI ms):(jF ms).length<=60:=by
 unfold jF;rw[<-tL];refine cR DZ ?_;have:=PX h;have:=h.1;rw[show lm.length=1 by decide +kernel,ah];omega
theorem Qb{a b:Str}(j:a.length<=10)(z:b.length<=60)(G:c.length<=60):(Str.join spS [a,b,c]).length<=133:=by
 show(a++spS++(b++spS++c)).length<=133;simp only[lR,show spS.length=1 by decide +kernel];omega
theorem Qc{ch:Ch}{cs:Cs}{ow:Ow}(j:A5 ch cs ow){aQ:Ch}{aR:Cs}{aI:Ow}(U:aQ.Perm ch)(Y:aR.Perm cs)(J:aI.Perm ow):(ge aQ aR aI).length<=64+64+64 * 121/\∀y∈ge aQ aR aI,y.length<=140:=by
 refine⟨?_,λy hy=>?_⟩
 . have:∀(l:Ow),(∀e∈l,e∈ow)->(l.flatMap eF).length<=l.length * 121:=by
    intro l
    induction l with
    | nil=>intro _;exact cE _
    | cons e l ih=>
     intro O;have h1:=ih λx G=>O x (bL _ G);obtain⟨_,h2,h3,_⟩:=j.ow e (O e bA);rw[wb,bD,bq];have:(eF e).length<=121:=by
      unfold eF;simp only[bD,ah,bq,gk];omega
     omega
   have h3:=this aI λe z=>J.mem_iff.mp z;have a1:=U.length_eq;have a2:=Y.length_eq;have a3:=J.length_eq;have b1:=j.nch;have b2:=j.ncs;have b3:=j.now;have h4:aI.length * 121<=64 * 121:=Ji _ (by omega);unfold ge;rw[bD,bD,ah,ah];omega
 unfold ge at hy
 rcases dA.mp hy with hy | hy
 . rcases dA.mp hy with hy | hy
   . obtain⟨e,z,rfl⟩:=bf.mp hy;obtain⟨k1,k2⟩:=j.ch e (U.mem_iff.mp z);have:=Qb (a:=gu) (by decide +kernel) k1 (Qa k2);unfold iC;omega
   obtain⟨e,z,rfl⟩:=bf.mp hy;obtain⟨k1,k2⟩:=j.cs e (Y.mem_iff.mp z);have:=Qb (a:=gc) (by decide +kernel) k1 k2;unfold ij;omega
 obtain⟨e,z,hy⟩:=jR.mp hy;obtain⟨j1,j2,j3,j4,j5⟩:=j.ow e (J.mem_iff.mp z);unfold eF at hy
 rcases dA.mp hy with hy | hy
 . rcases dA.mp hy with hy | hy
   . rw[bX.mp hy,<-P6,lR,show(Str.ofString "own ").length=4 by decide +kernel];omega
   obtain⟨x,G,rfl⟩:=bf.mp hy;have:=j4 x G;show(fH++x).length<=140;rw[lR,ny,uR];omega
 obtain⟨x,G,rfl⟩:=bf.mp hy;have:=j5 x G;show(fJ++x).length<=140;rw[lR,pE,uR];omega
theorem ahU{ch:Ch}{cs:Cs}{ow:Ow}(j:A5 ch cs ow){aQ:Ch}{aR:Cs}{aI:Ow}(G:aQ.Perm ch)(J:aR.Perm cs)(z:aI.Perm ow):((ge aQ aR aI).map (·.length)).sum+(ge aQ aR aI).length * lj.length<=16777216:=by
 obtain⟨h1,h2⟩:=Qc j G J z;have:=zY h2;rw[show lj.length=1 by decide +kernel];omega
theorem Qe(j:Pg K mg base Pt):au P w K mg base aL 2 j.Sho.f j.Sho.fd [auN] (A6 j.T):=by
 refine j.Sho.u.okL FX ?_;intro av A outer s H vs Q E hr h xX dX;obtain @⟨_,_,_,v,ch,cs,ow,hS,G,q⟩:=h;have hu:=hr.units;obtain⟨a,dx,fl,c,h,o,rfl,ha,f1,f2,f3,⟨kc,Qf,FY⟩,⟨kh,Qg,FZ⟩,⟨ko,xN,xO⟩⟩:=hS;refine⟨_,(ak (zU (i:=1) [auy] [auN] [0] FX.nd rfl rfl fq rfl (cr (cW (Aa rfl) (by rfl) j.B.sorted rL (ao (bv (pv 0) rfl)))) (λ_ _ _ _=>(a8 (i:=0) (show List.Nodup ([auy,auN]:Ls) by decide +kernel) rfl (Or.inl rfl))) (λ_ _ _ _=>ix) (λ_ _ _ _=>(P4 K mH yZ y6 (P5 K) bK (ao (cx (eZ bK (pv 0) (aU (ahj j) hr (by rfl) (ao (sK hu (qH K (pv 1) rfl) (pv 0) (λ_ _=>rfl))))))))))
  (ak (bI (dR ja oJ oK lO (pv 1) (ao (gK [au6] [auN] [0] fq rfl (cr (cW (Aa rfl) (by rfl) j.B.sorted rL (ao (bv (pv 0) rfl)))) (λ_ _ _ _=>(a8 (i:=0) (show List.Nodup ([au6,auN]:Ls) by decide +kernel) rfl (Or.inl rfl))) (λ_ _ _ _=>ix) (λ_ _ _ _=>(P4 K mH yZ y6 (P5 K) bK (ao (cx (eZ bK (pv 0) (sK hu (qH K (pv 1) rfl) (pv 0) (λ_ _=>rfl)))))))))))
  (ak (fD fC rfl (cr (cW (Aa rfl) (by rfl) j.B.sorted rL (ao (bv (pv 0) rfl)))) (a8 (i:=2) FX.nd rfl (Or.inl rfl))
   (am (bI (dR ja oJ oK lO (pv 1) (ao (aU (ahR j) hr (by rfl) (aO (pv 2) (sK hu (bv (pv 0) rfl) (pv 2) (λ_ _=>rfl)))))))))
  (am (ba (dR mH yZ y6 wO bK (ao (pv 1)))))))),?_⟩
 refine lU ?_;intro dD sS vm im gf;have Qh:∀kv f,fM H kv f->kv.1=Sum.inr f.1:=λkv f z=>z.1;have Qi:∀kv f,xJ kv f->kv.1=Sum.inr f.1:=λkv f z=>z.1;have AE:∀kv f,i3 H kv f->kv.1=Sum.inr f.1:=λkv f z=>z.1;have lc:=bh FY;have lh:=bh FZ;have lo:=bh xO;have b1:=G.nch;have b2:=G.ncs;have b3:=G.now;refine⟨ha,j.UT.cl,j.UT.nC,f1,c,kc,_,rfl,Qf,tD Qh FY,by omega,λys hp hs l1 H1 n1 s1 e1=>⟨⟨_,ag.of e1⟩,?_⟩⟩;obtain⟨aQ,pH,a5⟩:=FK hp rfl;subst a5;have y1:aQ.length=ch.length:=pH.length_eq;refine tq (σ0:=[none,some (.ref a)]) (ag.of e1) (λZ=>∃v,Z=[v,some (.ref a)]) ((aQ.map iC).map V.str) (by rw[ah,ah,ah,ah]) (eG (by rw[ah,ah];omega)) ⟨_,rfl⟩ ?_ ?_
 . intro i z y Z H2 k hz hy Y rS hk;obtain⟨v,rfl⟩:=Y;rw[jp]at hz hy;obtain⟨e,U,rfl⟩:=iZ hz;obtain⟨e',iS,rfl⟩:=iZ hy;rw[U]at iS;cases iS;have O:e∈ch:=pH.mem_iff.mp (d6 U);obtain⟨u,ms,g1,g2,_,m,J,g3⟩:=nu Qh FY (gE (f:=(·.1)) O);have J:u=.ref m:=J;subst J;have em:ms=e.2:=qW G.dch g2 (by exact O);subst em;have bj:=s1.trans rS;obtain⟨k1,k2⟩:=G.ch e O;refine⟨rfl,bj _ _ ha,j.UT.cl,j.UT.nC,f1,(by rw[<-g1];exact cw.k (k:=.inr e.1) (bj _ _ Qf)),?_⟩;refine⟨bj _ _ g3,k2,λH3 s3=>?_⟩;refine⟨(by show 3<=sizeLine;decide),λr H4 n4 s4 e4=>?_⟩;refine⟨[gu,e.1,jF e.2],ag.of e4,P9 (by decide +kernel) k1 (Qa k2),?_⟩;have fX:=hk [some (.str e.1),some (.ref a)] H4 ⟨_,rfl⟩ (s3.trans s4);rw[tL];exact fX
 intro D1 H2 n2 e2 s2;have bj:=s1.trans s2;have Qj:H D1=none:=s1.free n2;refine⟨.inl ⟨rfl,_,ag.of e2⟩,bj _ _ ha,j.UT.cl,j.UT.nH,f2,h,kh,_,rfl,bj _ _ Qg,tD Qi FZ,by omega,λpK wD a1 l2 H3 n3 s3 e3=>⟨⟨_,ag.of e3⟩,?_⟩⟩;obtain⟨aR,pJ,a6⟩:=FK wD rfl;subst a6;have y2:aR.length=cs.length:=pJ.length_eq;have dM:=bj.trans s3;refine tq (σ0:=[none,some (.ref a)]) (ag.of e3) (λZ=>∃v,Z=[v,some (.ref a)]) ((aR.map ij).map V.str) (by rw[ah,ah,ah,ah]) (eG (by rw[ah,ah];omega)) ⟨_,rfl⟩ ?_ ?_
 . intro i z y Z H4 k hz hy Y a3 hk;obtain⟨v,rfl⟩:=Y;rw[jp]at hz hy;obtain⟨e,U,rfl⟩:=iZ hz;obtain⟨e',iS,rfl⟩:=iZ hy;rw[U]at iS;cases iS;have O:e∈cs:=pJ.mem_iff.mp (d6 U);obtain⟨u,nm,g1,g2,_,J⟩:=nu Qi FZ (gE (f:=(·.1)) O);have J:u=.str nm:=J;subst J;have em:nm=e.2:=qW G.dcs g2 (by exact O);subst em;have rc:=dM.trans a3;obtain⟨k1,k2⟩:=G.cs e O;refine⟨rfl,rc _ _ ha,j.UT.cl,j.UT.nH,f2,(by rw[<-g1];exact cw.k (k:=.inr e.1) (rc _ _ Qg)),?_⟩;refine⟨(by show 3<=sizeLine;decide),λr H5 n5 s5 e5=>?_⟩;refine⟨[gc,e.1,e.2],ag.of e5,P9 (by decide +kernel) k1 k2,?_⟩;have fX:=hk [some (.str e.1),some (.ref a)] H5 ⟨_,rfl⟩ s5;rw[tL];exact fX
 intro D2 H4 n4 e4 s4;have rc:=dM.trans s4;refine⟨s4 _ _ (s3 _ _ e2),e4,eG (by simp only[ah];omega),?_⟩;have k5:∀{b:Addr}{z o':HO},H b=some z->ae H4 D1 o' b=some z:=λe=>aA (rc _ _ e) (aF e Qj);refine⟨k5 ha,j.UT.cl,j.UT.nO,f3,o,ko,_,rfl,k5 xN,tD AE xO,by omega,λab a2 a0 l3 H6 n6 s6 e6=>⟨⟨_,ag.of e6⟩,?_⟩⟩;obtain⟨aI,me,a7⟩:=FK a2 rfl;subst a7;have y3:aI.length=ow.length:=me.length_eq;have f6:H6 D1=some (.lst ((aQ.map iC++aR.map ij).map V.str)):=by
  rw[cK];exact s6 _ _ aw
 have k6:∀{b:Addr}{z:HO},H b=some z->H6 b=some z:=λe=>s6 _ _ (k5 e);have a4:l3≠D1:=λz=>by
  subst z;rw[aw]at n6;cases n6
 have rl:∀i,((aI.take i).flatMap eF).length<=64 * 121:=λi=>by
  have:∀(l:Ow),(∀e∈l,e∈ow)->(l.flatMap eF).length<=l.length * 121:=by
   intro l
   induction l with
   | nil=>intro _;exact cE _
   | cons e l ih=>
    intro hm;have h1:=ih λx hx=>hm x (bL _ hx);obtain⟨_,h2,h3,_⟩:=G.ow e (hm e bA);rw[wb,bD,bq];have:(eF e).length<=121:=by
     unfold eF;simp only[bD,ah,bq,gk];omega
    omega
  refine cR (this _ λe U=>me.mem_iff.mp (List.mem_of_mem_take U)) ?_;rw[d5];have:min i aI.length<=64:=by omega
  exact Ji _ this
 refine g9 (xs:=(aI.map (·.1)).map V.str) (λi Z H7=>∃u,Z=[some (.ref a),some (.ref D1),u]/\(∀b z,H b=some z->H7 b=some z)/\H7 l3=some (.lst ((aI.map (·.1)).map V.str))/\H7 D1=some (.lst ((aQ.map iC++aR.map ij++(aI.take i).flatMap eF).map V.str))) ⟨none,rfl,λb z e=>k6 e,e6,by rw[List.take_zero,List.flatMap_nil,i4];exact f6⟩ ?_ ?_ ?_
 . intro i Z H7 hi Y;obtain⟨u,rfl,_,h7,_⟩:=Y;exact ag.of h7
 . intro i z Z H7 hz Y;obtain⟨u,rfl,k7,l7,d7⟩:=Y;rw[jp]at hz;obtain⟨e,U,rfl⟩:=iZ hz;have O:e∈ow:=me.mem_iff.mp (d6 U);obtain⟨u2,bm,g1,g2,_,t,q1,q2,J,g5,g6,g7⟩:=nu AE xO (gE (f:=(·.1)) O);have J:u2=.ref t:=J;subst J;have em:bm=e.2:=qW G.dow g2 (by exact O);subst em;obtain⟨j1,j2,j3,j4,j5⟩:=G.ow e O;refine⟨.inl ⟨rfl,_,ag.of d7⟩,k7 _ _ ha,j.UT.cl,j.UT.nO,f3,(by rw[<-g1];exact cw.k (k:=.inr e.1) (k7 _ _ xN)),?_⟩;refine⟨k7 _ _ g5,k7 _ _ g6,k7 _ _ g7,j1,j2,j3,j4,j5,λr H8 n8 s8 e8=>?_⟩;have a9:=rl i;refine⟨s8 _ _ d7,e8,eG ?_,?_⟩
   . have:(eF e).length<=121:=by
      unfold eF;simp only[bD,ah,bq,gk];omega
     rw[ah,ah,bD,bD,ah,ah];show _+(eF (e.1,(e.2.1,e.2.2))).length<=_;have e0:(eF (e.1,(e.2.1,e.2.2)))=eF e:=rfl;rw[e0];omega
   refine⟨_,rfl,λb z hb=>aA (s8 _ _ (k7 _ _ hb)) (aF hb Qj),aA (s8 _ _ l7) a4,?_⟩;rw[aw,jQ,U,<-cK];show some (HO.lst (List.map V.str (aQ.map iC++aR.map ij++(aI.take i).flatMap eF++eF e)))=some (HO.lst (List.map V.str (aQ.map iC++aR.map ij++(aI.take i++[e]).flatMap eF)));rw[CL,i6 (List.map iC aQ++List.map ij aR),List.flatMap_singleton]
 intro Z H7 Y;obtain⟨u,rfl,k7,l7,d7⟩:=Y;rw[ah,ah,eN]at d7;refine⟨rfl,ge aQ aR aI,ag.of d7,?_,?_⟩
 . exact ahU G pH pJ me
 rw[tL];exact q aQ aR aI H7 ⟨pH,hs⟩ ⟨pJ,a1⟩ ⟨me,a0⟩ (λb z e=>k7 b z e)
theorem ah3{p:Str}(h:(vi p).isSome=true):vh p=true/\0<p.length/\p.length<=10/\(NumText.digitsVal p.cps.toList:Int)<=1000000000:=by
 unfold vi at h;split at h
 . rename_i h1;obtain⟨h2,j⟩:=oF.mp h1;have h2:=cq h2;split at h
   . cases h
   split at h
   . cases h
   exact⟨j,h2.1,h2.2,by omega⟩
 cases h
theorem ah4{t:Str}(h:tG t=true):(Txt.split t lm).length<=3/\∀p∈Txt.split t lm,(vi p).isSome=true:=by
 unfold tG at h;obtain⟨h1,h2⟩:=oF.mp h;exact⟨cq h1,eT.mp h2⟩
theorem ah5{j:Str}(h:jE j=true)(h1:Txt.startswith j fH=false)(h2:Txt.startswith j fJ=false) :
 (∃p,Txt.split j spS=[dU,p])\/(∃n x,Txt.split j spS=[gu,n,x]/\tG x=true)\/∃n x,Txt.split j spS=[gc,n,x]:=by
 unfold jE at h;rw[h1,h2,rC,af (by decide)]at h;generalize Txt.split j spS=G at h
 match G,h with
 | [w,p],h=>
  have h:=cq (oF.mp h).1;rw[h];exact .inl ⟨p,rfl⟩
 | [w,n,x],h=>
  obtain⟨_,h⟩:=oF.mp h
  by_cases z:w=gu
  . rw[ai z]at h;rw[z];exact .inr (.inl ⟨n,x,rfl,h⟩)
  rw[af z]at h;have h:=cq (oF.mp h).1;rw[h];exact .inr (.inr ⟨n,x,rfl⟩)
def nG(H7:Hp)(ck:Option Str)(ct ce cf:Addr)(b m:Ls)(kv:aq×V)(e:Str×(Ls×Ls)):Prop:=
 kv.1=.inr e.1/\((ck=some e.1/\kv.2=.ref ct/\e.2=(b,m))\/(ck≠some e.1/\∃t j z,kv.2=.ref t/\H7 t=some (.tup [.ref j,.ref z])/\H7 j=some (.lst (e.2.1.map V.str))/\H7 z=some (.lst (e.2.2.map V.str))/\j≠ce/\j≠cf/\z≠ce/\z≠cf))
structure gi(H H7:Hp)(dc dh dO ct ce cf:Addr)(s:Nt):Prop where
 old:∀b z,H b=some z->H7 b=some z
 nc:H dc=none
 nh:H dh=none
 no:H dO=none
 n1:H ce=none
 n2:H cf=none
 d1:dc≠dh
 d2:dc≠dO
 d3:dh≠dO
 d4:ce≠cf
 ch:∃kc,H7 dc=some (.dK kc)/\Paired (fM H7) kc s.ch
 cs:∃kh,H7 dh=some (.dK kh)/\Paired xJ kh s.cs
 hct:H7 ct=some (.tup [.ref ce,.ref cf])
 c1:H7 ce=some (.lst (s.b.map V.str))
 c2:H7 cf=some (.lst (s.m.map V.str))
 ow:∃ko,H7 dO=some (.dK ko)/\Paired (nG H7 s.ck ct ce cf s.b s.m) ko s.ow
 ck:∀p,s.ck=some p->p∈s.ow.map (·.1)
section
variable {H H7 H8:Hp}{dc dh dO ct ce cf:Addr}{s:Nt}
theorem nG.keep{ck:Option Str}{b m:Ls}{kv:aq×V}{e:Str×(Ls×Ls)}(k:∀c z,H7 c=some z->(∀ks,z≠.dK ks)->c≠ce->c≠cf->H8 c=some z)(h1:∃xs,H7 ce=some (.lst xs))(h2:∃xs,H7 cf=some (.lst xs))(h:nG H7 ck ct ce cf b m kv e):nG H8 ck ct ce cf b m kv e:=by
 obtain⟨a,h⟩:=h;refine⟨a,?_⟩
 rcases h with h | ⟨nk,t,U,Y,e1,e2,e3,e4,j,G,J,O⟩
 . exact .inl h
 obtain⟨x1,h1⟩:=h1;obtain⟨x2,h2⟩:=h2;exact .inr ⟨nk,t,U,Y,e1,k _ _ e2 (by intro ks z;cases z) (aT e2 h1 (by intro z;cases z)) (aT e2 h2 (by intro z;cases z)),k _ _ e3 (by intro ks z;cases z) j G,k _ _ e4 (by intro ks z;cases z) J O,j,G,J,O⟩
theorem gi.same(N:gi H H7 dc dh dO ct ce cf s)(j:ac H7 H8):gi H H8 dc dh dO ct ce cf s where
 old:=λb z e=>j _ _ (N.old b z e)
 nc:=N.nc
 nh:=N.nh
 no:=N.no
 n1:=N.n1
 n2:=N.n2
 d1:=N.d1
 d2:=N.d2
 d3:=N.d3
 d4:=N.d4
 ch:=N.ch.elim λU G=>G.elim λa b=>⟨U,j _ _ a,aB b λ_ _=>fM.same j⟩
 cs:=N.cs.elim λY J=>J.elim λa b=>⟨Y,j _ _ a,b⟩
 hct:=j _ _ N.hct
 c1:=j _ _ N.c1
 c2:=j _ _ N.c2
 ow:=N.ow.elim λko O=>O.elim λa b=>⟨ko,j _ _ a,aB b λ_ _=>nG.keep (λ_ _ e _ _ _=>j _ _ e) ⟨_,N.c1⟩ ⟨_,N.c2⟩⟩
 ck:=N.ck
theorem gi.inn(N:gi H H7 dc dh dO ct ce cf s){j:List (aq×V)}(J:H7 dc=some (.dK j)){n:Str}{ms:List Int}{m:Addr}(hm:H7 m=some (.tup (ms.map V.int))) :
 gi H (ae H7 dc (.dK (cD j (.inr n) (.ref m)))) dc dh dO ct ce cf { s with ch:=bG s.ch n ms }:=by
 have up:∀c z,H7 c=some z->(∀ks,z≠.dK ks)->ae H7 dc (.dK (cD j (.inr n) (.ref m))) c=some z:=λc z e hz=>aA e (aT e J (hz _));obtain⟨a3,G,O⟩:=N.ch;rw[J]at G;cases G;obtain⟨kh,b1,b2⟩:=N.cs;obtain⟨ko,o1,o2⟩:=N.ow;exact {
  old:=λb z e=>aA (N.old b z e) (aF e N.nc)
  nc:=N.nc,nh:=N.nh,no:=N.no,n1:=N.n1,n2:=N.n2,d1:=N.d1,d2:=N.d2,d3:=N.d3,d4:=N.d4
  ch:=⟨_,aw,aB (li (F:=fM H7) (λkv f z=>z.1) (x:=n) (ls:=ms) (v:=.ref m) ⟨rfl,m,rfl,hm⟩ O) λkv f U=>U.elim λx1 Y=>Y.elim λx2 a0=>a0.elim λx3 x4=>⟨x1,x2,x3,up _ _ x4 (by intro ks z;cases z)⟩⟩
  cs:=⟨kh,aA b1 N.d1.symm,b2⟩
  hct:=up _ _ N.hct (by intro ks z;cases z)
  c1:=up _ _ N.c1 (by intro ks z;cases z)
  c2:=up _ _ N.c2 (by intro ks z;cases z)
  ow:=⟨ko,aA o1 N.d2.symm,aB o2 λ_ _=>nG.keep (λc z e hz _ _=>up c z e hz) ⟨_,N.c1⟩ ⟨_,N.c2⟩⟩
  ck:=N.ck }
theorem gi.cho(N:gi H H7 dc dh dO ct ce cf s){j:List (aq×V)}(J:H7 dh=some (.dK j)){n:Str} :
 gi H (ae H7 dh (.dK (cD j (.inr c) (.str n)))) dc dh dO ct ce cf { s with cs:=bG s.cs c n }:=by
 have up:∀b z,H7 b=some z->(∀ks,z≠.dK ks)->ae H7 dh (.dK (cD j (.inr c) (.str n))) b=some z:=λb z e hz=>aA e (aT e J (hz _));obtain⟨kc,O,U⟩:=N.ch;obtain⟨a4,G,b2⟩:=N.cs;rw[J]at G;cases G;obtain⟨ko,o1,o2⟩:=N.ow;exact {
  old:=λb z e=>aA (N.old b z e) (aF e N.nh)
  nc:=N.nc,nh:=N.nh,no:=N.no,n1:=N.n1,n2:=N.n2,d1:=N.d1,d2:=N.d2,d3:=N.d3,d4:=N.d4
  ch:=⟨kc,aA O N.d1,aB U λkv f Y=>Y.elim λx1 a0=>a0.elim λx2 a3=>a3.elim λx3 x4=>⟨x1,x2,x3,up _ _ x4 (by intro ks z;cases z)⟩⟩
  cs:=⟨_,aw,li (F:=xJ) (λkv f z=>z.1) (x:=c) (ls:=n) (v:=.str n) ⟨rfl,rfl⟩ b2⟩
  hct:=up _ _ N.hct (by intro ks z;cases z)
  c1:=up _ _ N.c1 (by intro ks z;cases z)
  c2:=up _ _ N.c2 (by intro ks z;cases z)
  ow:=⟨ko,aA o1 N.d3.symm,aB o2 λ_ _=>nG.keep (λc z e hz _ _=>up c z e hz) ⟨_,N.c1⟩ ⟨_,N.c2⟩⟩
  ck:=N.ck }
theorem Qk{ck:Option Str}{b m b' m':Ls}{U:List (aq×V)}{ow:Ow}(hc:∀p,ck=some p->p∈ow.map (·.1))(k:∀c z,H7 c=some z->c≠ce->c≠cf->H8 c=some z)(h1:∃xs,H7 ce=some (.lst xs))(h2:∃xs,H7 cf=some (.lst xs))
 (h:Paired (nG H7 ck ct ce cf b m) U ow):Paired (nG H8 ck ct ce cf b' m') U (iB ow ck (b',m'))/\(iB ow ck (b',m')).map (·.1)=ow.map (·.1):=by
 obtain⟨x1,h1⟩:=h1;obtain⟨x2,h2⟩:=h2;have Y:∀{t j G:Addr}{e:Ls×Ls},H7 t=some (.tup [.ref j,.ref G])/\H7 j=some (.lst (e.1.map V.str))/\H7 G=some (.lst (e.2.map V.str))/\j≠ce/\j≠cf/\G≠ce/\G≠cf->H8 t=some (.tup [.ref j,.ref G])/\H8 j=some (.lst (e.1.map V.str))/\H8 G=some (.lst (e.2.map V.str))/\j≠ce/\j≠cf/\G≠ce/\G≠cf:=by
  rintro t j G e ⟨e2,e3,e4,e5,e6,e7,e8⟩;exact⟨k _ _ e2 (aT e2 h1 (by intro z;cases z)) (aT e2 h2 (by intro z;cases z)),k _ _ e3 e5 e6,k _ _ e4 e7 e8,e5,e6,e7,e8⟩
 cases ck with
 | none=>
  refine⟨aB h λkv e z=>?_,rfl⟩;obtain⟨a,z⟩:=z
  rcases z with⟨z,_⟩ | ⟨J,t,j,G,e1,z⟩
  . cases z
  exact⟨a,.inr ⟨J,t,j,G,e1,Y z⟩⟩
 | some p=>
  have hp:=hc p rfl;have O:iB ow (some p) (b',m')=ow.map λf=>if f.1=p then(f.1,(b',m')) else f:=ai (qV.mpr hp);refine⟨?_,?_⟩
  . rw[O];clear O hp hc
    induction h with
    | nil=>exact .nil
    | @cons kv e U ow r t ih=>
     refine .cons ?_ ih;obtain⟨a,z⟩:=r;dsimp only
     by_cases ep:e.1=p
     . rw[ai ep]
       rcases z with⟨z1,z2,z3⟩ | ⟨J,_⟩
       . exact⟨a,.inl ⟨by rw[ep],z2,rfl⟩⟩
       exact absurd (by rw[ep]) J
     rw[af ep]
     rcases z with⟨z1,z2,z3⟩ | ⟨J,t,j,G,e1,z⟩
     . exact absurd (fO z1).symm ep
     exact⟨a,.inr ⟨J,t,j,G,e1,Y z⟩⟩
  rw[O,jp];refine Jd λf _=>?_;show(if f.1=p then(f.1,(b',m')) else f).1=f.1;split<;>rfl
theorem gi.les(N:gi H H7 dc dh dO ct ce cf s)(x:Str):gi H (ae H7 ce (.lst (s.b.map V.str++[.str x]))) dc dh dO ct ce cf { s with ow:=iB s.ow s.ck (s.b++[x],s.m),b:=s.b++[x] }:=by
 have up:∀c z,H7 c=some z->c≠ce->ae H7 ce (.lst (s.b.map V.str++[.str x])) c=some z:=λc z e hc=>aA e hc;have j:∀{c:Addr}{z:HO},H7 c=some z->(∀xs,z≠.lst xs)->c≠ce:=λe hz=>aT e N.c1 (hz _);obtain⟨kc,G,Y⟩:=N.ch;obtain⟨kh,J,b2⟩:=N.cs;obtain⟨ko,O,o2⟩:=N.ow;obtain⟨p1,p2⟩:=Qk (H8:=ae H7 ce (.lst (s.b.map V.str++[.str x]))) (b':=s.b++[x]) (m':=s.m) N.ck (λc z e h1 _=>up c z e h1) ⟨_,N.c1⟩ ⟨_,N.c2⟩ o2;exact {
  old:=λb z e=>aA (N.old b z e) (aF e N.n1)
  nc:=N.nc,nh:=N.nh,no:=N.no,n1:=N.n1,n2:=N.n2,d1:=N.d1,d2:=N.d2,d3:=N.d3,d4:=N.d4
  ch:=⟨kc,up _ _ G (j G (by intro xs z;cases z)),aB Y λkv f a0=>a0.elim λx1 a3=>a3.elim λx2 a4=>a4.elim λx3 U=>⟨x1,x2,x3,up _ _ U (j U (by intro xs z;cases z))⟩⟩
  cs:=⟨kh,up _ _ J (j J (by intro xs z;cases z)),b2⟩
  hct:=up _ _ N.hct (j N.hct (by intro xs z;cases z))
  c1:=by rw[aw,DX]
  c2:=up _ _ N.c2 N.d4.symm
  ow:=⟨ko,up _ _ O (j O (by intro xs z;cases z)),p1⟩
  ck:=λp hp=>by
   show p∈(iB s.ow s.ck (s.b++[x],s.m)).map (·.1);rw[p2];exact N.ck p hp }
theorem gi.mor(N:gi H H7 dc dh dO ct ce cf s)(x:Str):gi H (ae H7 cf (.lst (s.m.map V.str++[.str x]))) dc dh dO ct ce cf { s with ow:=iB s.ow s.ck (s.b,s.m++[x]),m:=s.m++[x] }:=by
 have up:∀c z,H7 c=some z->c≠cf->ae H7 cf (.lst (s.m.map V.str++[.str x])) c=some z:=λc z e hc=>aA e hc;have j:∀{c:Addr}{z:HO},H7 c=some z->(∀xs,z≠.lst xs)->c≠cf:=λe hz=>aT e N.c2 (hz _);obtain⟨kc,G,Y⟩:=N.ch;obtain⟨kh,J,b2⟩:=N.cs;obtain⟨ko,O,o2⟩:=N.ow;obtain⟨p1,p2⟩:=Qk (H8:=ae H7 cf (.lst (s.m.map V.str++[.str x]))) (b':=s.b) (m':=s.m++[x]) N.ck (λc z e _ h1=>up c z e h1) ⟨_,N.c1⟩ ⟨_,N.c2⟩ o2;exact {
  old:=λb z e=>aA (N.old b z e) (aF e N.n2)
  nc:=N.nc,nh:=N.nh,no:=N.no,n1:=N.n1,n2:=N.n2,d1:=N.d1,d2:=N.d2,d3:=N.d3,d4:=N.d4
  ch:=⟨kc,up _ _ G (j G (by intro xs z;cases z)),aB Y λkv f a0=>a0.elim λx1 a3=>a3.elim λx2 a4=>a4.elim λx3 U=>⟨x1,x2,x3,up _ _ U (j U (by intro xs z;cases z))⟩⟩
  cs:=⟨kh,up _ _ J (j J (by intro xs z;cases z)),b2⟩
  hct:=up _ _ N.hct (j N.hct (by intro xs z;cases z))
  c1:=up _ _ N.c1 N.d4
  c2:=by rw[aw,DX]
  ow:=⟨ko,up _ _ O (j O (by intro xs z;cases z)),p1⟩
  ck:=λp hp=>by
   show p∈(iB s.ow s.ck (s.b,s.m++[x])).map (·.1);rw[p2];exact N.ck p hp }
theorem ail{β:Type}{G F:aq×V->Str×β->Prop}(hk:∀kv f,G kv f->kv.1=Sum.inr f.1){x:Str}{ls:β}{v:V}(hv:F (.inr x,v) (x,ls))(hg:∀kv f,G kv f->f.1≠x->F kv f){kvs:List (aq×V)}{tr:List (Str×β)}(h:Paired G kvs tr):Paired F (cD kvs (.inr x) v) (bG tr x ls):=by
 have h':Paired (λkv f=>kv.1=Sum.inr f.1/\(f.1≠x->F kv f)) kvs tr:=aB h λkv f z=>⟨hk kv f z,hg kv f z⟩;have:=li (F:=λkv f=>kv.1=Sum.inr f.1/\(f.1≠x->F kv f)) (λkv f z=>z.1) (x:=x) (ls:=ls) (v:=v) ⟨rfl,λz=>absurd rfl z⟩ h';have e:(kvs.any λkv=>decide (kv.1=Sum.inr x))=(tr.any λf=>decide (f.1=x)):=by
  clear this
  induction h' with
  | nil=>rfl
  | cons r t J=>
   cases h with
   | cons _ t0=>
   rw[rD,rD,J t0,r.1]
   congr 1
   exact yQ.mpr ⟨λz=>qb z,λz=>by rw[z]⟩
 clear this;unfold cD bG;rw[e];split
 . rename_i O;clear O e h
   induction h' with
   | nil=>exact .nil
   | @cons kv f kvs tr r t J=>
    refine .cons ?_ J;have Y:=r.1;dsimp only
    by_cases j:f.1=x
    . have xy:kv.1=Sum.inr x:=by rw[Y,j]
      rw[ai xy,ai j,xy,j];exact hv
    rw[af (λz=>j (qb (Y.symm.trans z))),af j];exact r.2 j
 rename_i O;refine ie hv ?_;have U:x∉tr.map (·.1):=λz=>O (qV.mpr z);clear O e h
 induction h' with
 | nil=>exact .nil
 | @cons kv f kvs tr r t J=>
  rw[bp,bc,rJ]at U;exact .cons (r.2 λz=>U.1 z.symm) (J U.2)
theorem gi.own(N:gi H H7 dc dh dO ct ce cf s){Y O U:Addr}(j:ac H7 H8)(f1:H7 O=none)(f2:H7 U=none)(ne:O≠U)(g1:H8 O=some (.lst []))(g2:H8 U=some (.lst []))(g3:H8 Y=some (.tup [.ref O,.ref U])){ko:List (aq×V)}(ho:H8 dO=some (.dK ko))(p:Str) :
 gi H (ae H8 dO (.dK (cD ko (.inr p) (.ref Y)))) dc dh dO Y O U { s with ow:=bG s.ow p ([],[]),ck:=some p,b:=[],m:=[] }:=by
 have fr:∀b,H7 b=none->H b=none:=λb e=>by
  cases hb:H b with
  | none=>rfl
  | some z=>rw[N.old b z hb]at e;cases e
 have up:∀c z,H8 c=some z->(∀ks,z≠.dK ks)->ae H8 dO (.dK (cD ko (.inr p) (.ref Y))) c=some z:=λc z e hz=>aA e (aT e ho (hz _));obtain⟨kc,a1,a2⟩:=N.ch;obtain⟨kh,b1,b2⟩:=N.cs;obtain⟨P1,o1,o2⟩:=N.ow;have A8:=j _ _ o1;rw[ho]at A8;cases A8;exact {
  old:=λb z e=>aA (j _ _ (N.old b z e)) (aF e N.no)
  nc:=N.nc,nh:=N.nh,no:=N.no,n1:=fr _ f1,n2:=fr _ f2,d1:=N.d1,d2:=N.d2,d3:=N.d3,d4:=ne
  ch:=⟨kc,aA (j _ _ a1) N.d2,aB a2 λkv f a0=>a0.elim λx1 a3=>a3.elim λx2 a4=>a4.elim λx3 x4=>⟨x1,x2,x3,up _ _ (j _ _ x4) (by intro ks z;cases z)⟩⟩
  cs:=⟨kh,aA (j _ _ b1) N.d3,b2⟩
  hct:=up _ _ g3 (by intro ks z;cases z)
  c1:=up _ _ g1 (by intro ks z;cases z)
  c2:=up _ _ g2 (by intro ks z;cases z)
  ow:=⟨_,aw,ail (G:=nG H7 s.ck ct ce cf s.b s.m) (λkv f z=>z.1) ⟨rfl,.inl ⟨rfl,rfl,rfl⟩⟩ (λkv f z hf=>by
   obtain⟨z1,z⟩:=z;have J:∀{l:Addr}{xs:Lv},H7 l=some (.lst xs)->l≠O/\l≠U:=λe=>⟨aF e f1,aF e f2⟩
   rcases z with⟨z2,z3,z4⟩ | ⟨nk,t,l1,l2,e1,e2,e3,e4,e5,e6,e7,e8⟩
   . refine⟨z1,.inr ⟨λy=>hf (fO y).symm,ct,ce,cf,z3,up _ _ (j _ _ N.hct) (by intro ks z;cases z),?_,?_,(J N.c1).1,(J N.c1).2,(J N.c2).1,(J N.c2).2⟩⟩
     . rw[z4];exact up _ _ (j _ _ N.c1) (by intro ks z;cases z)
     rw[z4];exact up _ _ (j _ _ N.c2) (by intro ks z;cases z)
   exact⟨z1,.inr ⟨λy=>hf (fO y).symm,t,l1,l2,e1,up _ _ (j _ _ e2) (by intro ks z;cases z),up _ _ (j _ _ e3) (by intro ks z;cases z),up _ _ (j _ _ e4) (by intro ks z;cases z),(J e3).1,(J e3).2,(J e4).1,(J e4).2⟩⟩) o2⟩
  ck:=λp' c5=>by
   cases c5;exact xx (.inl rfl) }
theorem gi.own_at(N:gi H H7 dc dh dO ct ce cf s):pG H7 dO s.ow:=by
 obtain⟨J,Y,o2⟩:=N.ow;refine⟨J,Y,aB o2 λkv e z=>?_⟩;obtain⟨j,z⟩:=z
 rcases z with⟨z2,z3,G⟩ | ⟨nk,t,O,U,e1,e2,e3,e4,_⟩
 . refine⟨j,ct,ce,cf,z3,N.hct,?_,?_⟩
   . rw[G];exact N.c1
   rw[G];exact N.c2
 exact⟨j,t,O,U,e1,e2,e3,e4⟩
end
theorem aip{s:Nt}(h:(s.ch.map (·.1)).Nodup/\(s.cs.map (·.1)).Nodup/\(s.ow.map (·.1)).Nodup)(j:Str):((s.step j).ch.map (·.1)).Nodup/\((s.step j).cs.map (·.1)).Nodup/\((s.step j).ow.map (·.1)).Nodup:=by
 have z:∀r,((iB s.ow s.ck r).map (·.1)).Nodup:=λr=>by
  unfold iB;split
  . exact h.2.2
  exact pB h.2.2
 unfold Nt.step;split
 . exact⟨h.1,h.2.1,z _⟩
 . exact⟨h.1,h.2.1,z _⟩
 . exact⟨pB h.1,h.2⟩
 . exact⟨h.1,pB h.2.1,h.2.2⟩
 exact⟨h.1,h.2.1,pB h.2.2⟩
theorem aiq(rows:Ls):((gL rows).ch.map (·.1)).Nodup/\((gL rows).cs.map (·.1)).Nodup/\((gL rows).ow.map (·.1)).Nodup:=by
 have:∀(rows:Ls) (s:Nt),((s.ch.map (·.1)).Nodup/\(s.cs.map (·.1)).Nodup/\(s.ow.map (·.1)).Nodup)->((rows.foldl Nt.step s).ch.map (·.1)).Nodup/\((rows.foldl Nt.step s).cs.map (·.1)).Nodup/\((rows.foldl Nt.step s).ow.map (·.1)).Nodup:=by
  intro rows
  induction rows with
  | nil=>exact λs h=>h
  | cons r rows j=>exact λs h=>j _ (aip h r)
 exact this rows {} ⟨jo,jo,jo⟩
theorem air(s:Nt)(j:Str):(s.step j).ch.length<=s.ch.length+1/\(s.step j).cs.length<=s.cs.length+1/\(s.step j).ow.length<=s.ow.length+1/\(s.step j).b.length<=s.b.length+1/\(s.step j).m.length<=s.m.length+1:=by
 have z:∀r,(iB s.ow s.ck r).length<=s.ow.length+1:=λr=>by
  unfold iB;split
  . omega
  exact pC _ _ _
 unfold Nt.step;split
 . exact⟨by dsimp only;omega,by dsimp only;omega,z _,by simp,by dsimp only;omega⟩
 . exact⟨by dsimp only;omega,by dsimp only;omega,z _,by dsimp only;omega,by simp⟩
 . exact⟨pC _ _ _,by dsimp only;omega,by dsimp only;omega,by dsimp only;omega,by dsimp only;omega⟩
 . exact⟨by dsimp only;omega,pC _ _ _,by dsimp only;omega,by dsimp only;omega,by dsimp only;omega⟩
 exact⟨by dsimp only;omega,by dsimp only;omega,pC _ _ _,by simp,by simp⟩
theorem Qm(rows:Ls):(gL rows).ch.length<=rows.length/\(gL rows).cs.length<=rows.length/\(gL rows).ow.length<=rows.length/\(gL rows).b.length<=rows.length/\(gL rows).m.length<=rows.length:=by
 have:∀(rows:Ls) (s:Nt),(rows.foldl Nt.step s).ch.length<=s.ch.length+rows.length/\(rows.foldl Nt.step s).cs.length<=s.cs.length+rows.length/\(rows.foldl Nt.step s).ow.length<=s.ow.length+rows.length/\(rows.foldl Nt.step s).b.length<=s.b.length+rows.length/\(rows.foldl Nt.step s).m.length<=s.m.length+rows.length:=by
  intro rows
  induction rows with
  | nil=>exact λs=>⟨aD _,aD _,aD _,aD _,aD _⟩
  | cons r rows j=>
   intro s;obtain⟨z,G,J,O,U⟩:=j (s.step r);obtain⟨Y,b2,b3,b4,b5⟩:=air s r;rw[uA,bq];exact⟨by omega,by omega,by omega,by omega,by omega⟩
 have h:=this rows {};simp only[gk,CB]at h;exact h
theorem ais(rows:Ls)(r:Str):gL (rows++[r])=(gL rows).step r:=by
 unfold gL;rw[kM];rfl
theorem F0{x y:Str}{b:Bool}(h:decide (V.str x=V.str y)=b):decide (x=y)=b:=by
 rw[<-h];exact yQ.mpr ⟨λz=>by rw[z],λz=>V.str.inj z⟩
inductive Qn:Sp where
 | mk {H:Hp}{Q:VK}{E:XK}{x:Str} (_:x.length<=70000) (_:tG x=true) (_:∀p H',H p=none->ac H H'->H' p=some (.tup ((qZ x).map V.int))->Q (.ref p) H'):Qn [.str x] H Q E
theorem ait:aM [auG] [auG] (aC O3):=aV
theorem aiu(G:Pg K mg base Pt):au P w K mg base aL 1 G.MkN.f G.MkN.fd [auG] Qn:=by
 refine G.MkN.u.okL ait ?_;intro av A outer s H vs Q E hr h xX dX;obtain @⟨_,_,_,x,hx,hb,q⟩:=h;obtain⟨m1,m2⟩:=ah4 hb;refine⟨_,(am (ba (eX Za (by rfl) G.B.tuple PyProof.Rows.boot_tuple (ao (gK ["part"] [] [] fq rfl (cr (dR mH Je Jf AF (pv 0) (ao bK))) (λ_ _ _ _=>(a8 (i:=0) (show List.Nodup (["part"]:Ls) by decide +kernel) rfl (Or.inl rfl))) (λ_ _ _ _=>ix) (λ_ _ _ _=>(eX aeS (by rfl) G.B.int PyProof.Rows.boot_int (ao (pv 0))))))))),?_⟩;have a0:=split_le x lm;refine⟨rfl,x,lm,rfl,rfl,by decide +kernel,eG (by omega),λl H1 n1 s1 e1=>⟨⟨_,ag.of e1⟩,?_⟩⟩;refine tq (σ0:=[none]) (ag.of e1) (λZ=>∃v,Z=[v]) ((qZ x).map V.int) (by unfold qZ;rw[ah,ah,ah]) (eG (by rw[ah];omega)) ⟨_,rfl⟩ ?_ ?_
 . intro i z y Z H2 k hz J hQ hs hk;obtain⟨v,rfl⟩:=hQ;obtain⟨p,j,rfl⟩:=iZ hz;unfold qZ at J;rw[jp]at J;obtain⟨p',O,rfl⟩:=iZ J;rw[j]at O;cases O;obtain⟨Y,g2,g3,_⟩:=ah3 (m2 p (d6 j));exact⟨p,_,rfl,agI Y g2 (by omega),by omega,hk _ _ ⟨_,rfl⟩ (ac.refl _)⟩
 intro D H2 hD hd hs;refine⟨D,_,rfl,.inl ⟨ag.of hd,λp j=>?_⟩⟩;have U:=s1.trans hs;exact q p _ (U.free j) (U.trans (gb j)) aw
theorem aiv(H:Hp):msk [] H=H:=by
 funext b
 unfold msk;exact af (λz=>nomatch z)
inductive F2 (T:Addr):Sp where
 | mk {H:Hp}{Q:VK}{E:XK}{t:Str} (_:t.length<=60000) (_:(rowsOf t).length<=400) (_:(∀r∈rowsOf t,jE r=true)) (_:∀v H',ac H H'->(∀L,iX H L->jk T (msk L H') v (gL (rowsOf t)).ch (gL (rowsOf t)).cs (gL (rowsOf t)).ow)->Q v H'):F2 T [.str t] H Q E
theorem rf:aM [auG,aux,auI,auV,auU,"row","words"] [auG] (aC O2):=aV
theorem aiw{t r:Str}(h:r∈rowsOf t):r.length<=t.length:=by
 unfold rowsOf at h;split at h
 . cases h
 exact FS h
theorem aix(zZ:Pg K mg base Pt):au P w K mg base aL 4 zZ.Not.f zZ.Not.fd [auG] (F2 zZ.T):=by
 refine zZ.Not.u.okL rf ?_;intro av A outer s H vs Q E hr h xX dX;obtain @⟨_,_,_,t,ht,hn,hg,q⟩:=h;have hu:=hr.units;have gz:=hr.mono (j:=1) (by decide);refine⟨_,(ak (aJ (i:=1) rf.nd rfl (Or.inl rfl) o7) (ak (aJ (i:=2) rf.nd rfl (Or.inl rfl) o7) (ak (aJ (i:=3) rf.nd rfl (Or.inl rfl) o7) (ak (aJ (i:=4) rf.nd rfl (Or.inl rfl) (eE (aO (cx dE) (cx dE))))
  (ak (fD fC rfl (cr (aU (ahg zZ) gz (by rfl) (ao (pv 0)))) (a8 (i:=5) rf.nd rfl (Or.inl rfl))
   (ak (aJ (i:=6) rf.nd rfl (Or.inl rfl) (dR mH Je Jf AF (pv 5) (ao bK))) (am (cU (gQ (dR mH asF asG Nd (pv 5) (ao bK))) (am (bI (dR ja y8 y9 sw (eY lM (pv 4) aZ (λ_ _=>rfl)) (ao (wB zP (pv 5) (wA aZ) wz))))) (am (cU (gQ (dR mH asF asG Nd (pv 5) (ao bK))) (am (bI (dR ja y8 y9 sw (eY lM (pv 4) aZ (λ_ _=>rfl)) (ao (wB zP (pv 5) (wA aZ) wz))))) (am (cU (eW kS (eY lL (pv 6) aZ (λ_ _=>rfl)) bK (cj _)) (am (kX hu (pv 1) (eY lL (pv 6) aZ (λ_ _=>rfl)) (aU (aiu zZ) gz (by rfl) (ao (eY lL (pv 6) aZ (λ_ _=>rfl)))) rfl)) (am (cU (eW kS (eY lL (pv 6) aZ (λ_ _=>rfl)) bK (cj _)) (am (kX hu (pv 2) (eY lL (pv 6) aZ (λ_ _=>rfl)) (eY lL (pv 6) aZ (λ_ _=>rfl)) rfl)) (ak (aJ (i:=4) rf.nd rfl (Or.inl rfl) (eE (aO (cx dE) (cx dE)))) (am (kX hu (pv 3) (eY lL (pv 6) aZ (λ_ _=>rfl)) (pv 4) rfl)))))))))))))
  (am (ba (qt zZ.MTIn (up (A3 zZ)) hr (by rfl) zZ.UT.mgC zZ.TIn.b .nil bY (eZ (pv 1) (pv 2) (pv 3)))))))))),?_⟩
 refine LO ?_;intro dD sS Qo A9 vm im gf;refine λdc H1 n1 s1 e1 dh H2 n2 s2 e2 dO H3 n3 s3 e3=>?_;refine⟨(by show 0<=sizeLine;exact cE _),λG H4 n4 s4 e4=>⟨(by show 0<=sizeLine;exact cE _),λJ H5 n5 s5 e5=>⟨Ax,λct H6 n6 s6 e6=>?_⟩⟩⟩;have a2:=s1.trans (s2.trans (s3.trans (s4.trans s5)));have N0:gi H H6 dc dh dO ct G J {}:={
  old:=λb z e=>s6 _ _ (a2 _ _ e)
  nc:=n1
  nh:=s1.free n2
  no:=(s1.trans s2).free n3
  n1:=(s1.trans (s2.trans s3)).free n4
  n2:=(s1.trans (s2.trans (s3.trans s4))).free n5
  d1:=aF e1 n2
  d2:=aF (s2 _ _ e1) n3
  d3:=aF e2 n3
  d4:=aF e4 n5
  ch:=⟨[],s6 _ _ (s5 _ _ (s4 _ _ (s3 _ _ (s2 _ _ e1)))),.nil⟩
  cs:=⟨[],s6 _ _ (s5 _ _ (s4 _ _ (s3 _ _ e2))),.nil⟩
  hct:=e6
  c1:=s6 _ _ (s5 _ _ e4)
  c2:=s6 _ _ e5
  ow:=⟨[],s6 _ _ (s5 _ _ (s4 _ _ e3)),.nil⟩
  ck:=λp hp=>nomatch hp }
 refine⟨by omega,λl H7 n7 s7 e7=>⟨⟨_,ag.of e7⟩,?_⟩⟩;refine g9 (xs:=(rowsOf t).map V.str) (λi Z H8=>∃ct G J u v,Z=[some (.str t),some (.ref dc),some (.ref dh),some (.ref dO),some (.ref ct),u,v]/\H8 l=some (.lst ((rowsOf t).map V.str))/\l≠G/\l≠J/\gi H H8 dc dh dO ct G J (gL ((rowsOf t).take i)))
  ⟨ct,G,J,none,none,rfl,e7,(aF N0.c1 n7).symm,(aF N0.c2 n7).symm,N0.same s7⟩ ?_ ?_ ?_
 . intro i Z H8 hi hQ;obtain⟨ct,G,J,u,v,rfl,h8,_⟩:=hQ;exact ag.of h8
 . intro i z Z H8 hz hQ;refine cb ?_;intro tT;obtain⟨ct,G,J,u,v,rfl,h8,m1,m2,N⟩:=hQ;obtain⟨r,qQ,rfl⟩:=iZ hz;have xP:=d6 qQ;have a1:=hg r xP;have a3:=aiw xP;have es:gL ((rowsOf t).take (i+1))=(gL ((rowsOf t).take i)).step r:=by rw[take_snoc qQ,ais]
   rw[show dc=dc from rfl]at N;have Qp:=Qm ((rowsOf t).take i);rw[d5]at Qp;obtain⟨k1,k2,k3,k4,k5⟩:=Qp;generalize gL ((rowsOf t).take i)=s0 at N es k1 k2 k3 k4 k5;have sl:=Txt.slice_le r (some 1) none;refine⟨rfl,r,spS,rfl,rfl,by decide +kernel,eG (by omega),λwl H9 n9 s9 U=>?_⟩;have O:=N.same s9;have h9:=s9 _ _ h8;have z0:cX [V.ref G,V.ref J] 0=some (V.ref G):=rfl;have z1:cX [V.ref G,V.ref J] 1=some (V.ref J):=rfl;refine⟨rfl,r,fH,rfl,rfl,⟨?_⟩⟩;refine cY (λh1=>?_) (λh1=>?_)
   . refine⟨aP.of O.hct,z0,.inl ⟨rfl,_,ag.of O.c1⟩,eG (by omega),O.c1,cp (by rw[ah];omega),?_⟩;refine⟨ct,G,J,_,_,rfl,aA h9 m1,m1,m2,?_⟩;have e0:s0.step r={ s0 with ow:=iB s0.ow s0.ck (s0.b++[Txt.slice r (some 1) none],s0.m),b:=s0.b++[Txt.slice r (some 1) none] }:=by
      unfold Nt.step ig;rw[ai h1]
     rw[es,e0];exact O.les _
   refine⟨rfl,r,fJ,rfl,rfl,⟨?_⟩⟩;refine cY (λh2=>?_) (λh2=>?_)
   . refine⟨aP.of O.hct,z1,.inl ⟨rfl,_,ag.of O.c2⟩,eG (by omega),O.c2,cp (by rw[ah];omega),?_⟩;refine⟨ct,G,J,_,_,rfl,aA h9 m2,m1,m2,?_⟩;have e0:s0.step r={ s0 with ow:=iB s0.ow s0.ck (s0.b,s0.m++[Txt.slice r (some 1) none]),m:=s0.m++[Txt.slice r (some 1) none] }:=by
      unfold Nt.step ig;rw[af h1,ai h2]
     rw[es,e0];exact O.mor _
   have Y:ig r=if (Txt.split r spS).getD 0 Str.empty=gu then .inn ((Txt.split r spS).getD 1 Str.empty) ((Txt.split r spS).getD 2 Str.empty) else
    if (Txt.split r spS).getD 0 Str.empty=gc then .cho ((Txt.split r spS).getD 1 Str.empty) ((Txt.split r spS).getD 2 Str.empty) else .own ((Txt.split r spS).getD 1 Str.empty):=by
    unfold ig;rw[af h1,af h2]
   have pl:∀p∈Txt.split r spS,p.length<=r.length:=λp hp=>FS hp
   rcases ah5 a1 (rH.mpr h1) (rH.mpr h2) with⟨p,hw⟩ | ⟨n,x,hw,MZ⟩ | ⟨c,n,hw⟩
   . rw[hw]at U Y pl;have y0:cX ([dU,p].map V.str) 0=some (V.str dU):=rfl;have y1:cX ([dU,p].map V.str) 1=some (V.str p):=rfl;have Y:ig r=.own p:=Y.trans ((af FE).trans (af FF));refine⟨ag.of U,y0,rfl,⟨?_⟩⟩;refine cY (λh3=>absurd (cq (F0 h3)) FE) (λh3=>?_);refine⟨ag.of U,y0,rfl,⟨?_⟩⟩;refine cY (λh4=>absurd (cq (F0 h4)) FF) (λh4=>?_);refine⟨(by show 0<=sizeLine;exact cE _),λp1 Ha na sa ea=>⟨(by show 0<=sizeLine;exact cE _),λp2 Hb nb sb eb=>⟨Ax,λp3 Hc a4 sc ec=>?_⟩⟩⟩;have xQ:=sa.trans (sb.trans sc);obtain⟨ko,o1,o2⟩:=O.ow;have lo:=bh o2;refine⟨ag.of (xQ _ _ U),y1,ib.k (k:=.inr p) (xQ _ _ o1) (cp (by omega)),?_⟩;have d9:∃ks,H9 dO=some (.dK ks):=⟨_,o1⟩;have hl:l≠dO:=aT h9 o1 (by intro z;cases z);refine⟨p3,p1,p2,_,_,rfl,aA (xQ _ _ h9) hl,aF h9 na,aF (sa _ _ h9) nb,?_⟩;have e0:s0.step r={ s0 with ow:=bG s0.ow p ([],[]),ck:=some p,b:=[],m:=[] }:=by
      unfold Nt.step;rw[Y]
     rw[es,e0];exact O.own xQ na (sa.free nb) (aF ea nb) (sc _ _ (sb _ _ ea)) (sc _ _ eb) ec (xQ _ _ o1) p
   . rw[hw]at U Y pl;have y0:cX ([gu,n,x].map V.str) 0=some (V.str gu):=rfl;have y1:cX ([gu,n,x].map V.str) 1=some (V.str n):=rfl;have y2:cX ([gu,n,x].map V.str) 2=some (V.str x):=rfl;have Y:ig r=.inn n x:=Y.trans (ai rfl);have lx:=pl x (bL _ (bL _ bA));refine⟨ag.of U,y0,rfl,⟨?_⟩⟩;refine cY (λh3=>?_) (λh3=>absurd (bw rfl) h3);refine⟨ag.of U,y2,by omega,MZ,λm Ha na sa ea=>?_⟩;have Na:=O.same sa;obtain⟨kc,c1,c2⟩:=Na.ch;have lc:=bh c2;refine⟨ag.of (sa _ _ U),y1,ib.k (k:=.inr n) c1 (cp (by omega)),?_⟩;refine⟨ct,G,J,_,_,rfl,aA (sa _ _ h9) (aT (sa _ _ h9) c1 (by intro z;cases z)),m1,m2,?_⟩;have e0:s0.step r={ s0 with ch:=bG s0.ch n (qZ x) }:=by
      unfold Nt.step;rw[Y]
     rw[es,e0];exact Na.inn c1 ea
   rw[hw]at U Y pl;have y0:cX ([gc,c,n].map V.str) 0=some (V.str gc):=rfl;have y1:cX ([gc,c,n].map V.str) 1=some (V.str c):=rfl;have y2:cX ([gc,c,n].map V.str) 2=some (V.str n):=rfl;have Y:ig r=.cho c n:=Y.trans ((af AX).trans (ai rfl));refine⟨ag.of U,y0,rfl,⟨?_⟩⟩;refine cY (λh3=>absurd (cq (F0 h3)) AX) (λh3=>?_);refine⟨ag.of U,y0,rfl,⟨?_⟩⟩;refine cY (λh4=>?_) (λh4=>absurd (bw rfl) h4);obtain⟨kh,c1,c2⟩:=O.cs;have lh:=bh c2;refine⟨ag.of U,y2,ag.of U,y1,ib.k (k:=.inr c) c1 (cp (by omega)),?_⟩;refine⟨ct,G,J,_,_,rfl,aA h9 (aT h9 c1 (by intro z;cases z)),m1,m2,?_⟩;have e0:s0.step r={ s0 with cs:=bG s0.cs c n }:=by
    unfold Nt.step;rw[Y]
   rw[es,e0];exact O.cho c1
 intro Z H8 hQ;refine cb ?_;intro tT;obtain⟨ct,G,J,u,v,rfl,h8,m1,m2,N⟩:=hQ;rw[ah,eN]at N;obtain⟨kc,c1,c2⟩:=N.ch;obtain⟨kh,b1,b2⟩:=N.cs;have nd:=aiq (rowsOf t);have nl:=Qm (rowsOf t);refine⟨⟨⟨?_⟩⟩⟩;refine A4 (T:=zZ.T) ⟨kc,c1,c2⟩ ⟨kh,b1,b2⟩ N.own_at nd.2.2 (by omega) λx H' nx sx hx=>?_;exact q (.ref x) H' (λb z e=>sx _ _ (N.old b z e)) λL hL=>hx L λb hb=>(hL b hb).elim λo a0=>a0.elim λe n=>⟨o,N.old b o e,n⟩
end
section
variable {X:Cx}{H H':Hp}{xs:Lv}
structure F3(fl:List (Str×V))(nm mk rk:V)(pf pn ps po:Addr):Prop where
 name:fl.lookup (auy:Str)=some nm
 make:fl.lookup (auz:Str)=some mk
 rank:fl.lookup (auK:Str)=some rk
 files:fl.lookup (auF:Str)=some (.ref pf)
 needs:fl.lookup (auT:Str)=some (.ref pn)
 shuts:fl.lookup (auW:Str)=some (.ref ps)
 offers:fl.lookup (au5:Str)=some (.ref po)
def tM(nm mk rk:V)(j pn ps z:Addr):List (Str×V):=ar au5 (.ref z) (ar auW (.ref ps) (ar auT (.ref pn) (ar auF (.ref j) (ar auK rk (ar auz mk (ar auy nm []))))))
theorem aiB(nm mk rk:V)(j pn ps z:Addr):F3 (tM nm mk rk j pn ps z) nm mk rk j pn ps z:=by
 unfold tM;constructor
 . rw[b9,af (by decide +kernel),b9,af (by decide +kernel),b9,af (by decide +kernel),b9,af (by decide +kernel),b9,af (by decide +kernel),b9,af (by decide +kernel),b9,ai rfl]
 . rw[b9,af (by decide +kernel),b9,af (by decide +kernel),b9,af (by decide +kernel),b9,af (by decide +kernel),b9,af (by decide +kernel),b9,ai rfl]
 . rw[b9,af (by decide +kernel),b9,af (by decide +kernel),b9,af (by decide +kernel),b9,af (by decide +kernel),b9,ai rfl]
 . rw[b9,af (by decide +kernel),b9,af (by decide +kernel),b9,af (by decide +kernel),b9,ai rfl]
 . rw[b9,af (by decide +kernel),b9,af (by decide +kernel),b9,ai rfl]
 . rw[b9,af (by decide +kernel),b9,ai rfl]
 rw[b9,ai rfl]
structure Qq(K:Fg)(H:Hp)(xs:Lv)(fs:List (V×Lv)):Prop where
 len:xs.length=fs.length
 item:∀(i:Nat) (p:V) (ls:Lv),fs[i]?=some (p,ls)->∃t l,xs[i]?=some (.ref t)/\aP K H t [p,.ref l]/\ag K H l ls
structure Ba(H H':Hp)(D:Addr)(xs:Lv)(fs:List (V×Lv))(k:Nat):Prop where
 len:xs.length=k
 item:∀(i:Nat) (p:V) (ls:Lv),i<k->fs[i]?=some (p,ls)->∃t l,xs[i]?=some (.ref t)/\H t=none/\H l=none/\t≠D/\l≠D/\H' t=some (.tup [p,.ref l])/\H' l=some (.lst ls)
def xR:Expr:=match (gJ FL).getD 3 (.Pass ⟨0,0,0,0⟩) with
 | .Assign _ e _=>e
 | _=>.Constant .none 0 ⟨0,0,0,0⟩
def tN:Scope:=match xR with
 | .ListComp _ _ sc _=>sc
 | _=>{ kind:=.function,names:=[],isGenerator:=false,isCoroutine:=false }
def Qs:Expr:=match xR with
 | .ListComp e _ _ _=>e
 | _=>.Constant .none 0 ⟨0,0,0,0⟩
def F4:Expr:=match xR with
 | .ListComp _ [⟨t,_,_,_⟩] _ _=>t
 | _=>.Constant .none 0 ⟨0,0,0,0⟩
def Qt:Expr:=match xR with
 | .ListComp _ [⟨_,t,_,_⟩] _ _=>t
 | _=>.Constant .none 0 ⟨0,0,0,0⟩
theorem F5(X:Cx):j0 X [auA,auH] [] [] tN:=fq
def Qu(K:Fg):Lv->Hp->VK->Prop:=λxs H Q=>∃p ys,xs=[.ref p]/\(ag K H p ys\/aP K H p ys)/\∀l,H l=none->Q (.ref l) (ae H l (.lst ys))
theorem aiC(z:X.calm=true)(s₀:Shared)(H₀:Hp)(j:Addr)(ex:List Addr):PG (cZ X (([auA,auH]:Ls)++([]:Ls)) tN s₀ H₀ j ex) F4 (uJ X.K 2 (wp (mO 0) (wp (mO 1) CY))):=
 kR (X:=cZ X (([auA,auH]:Ls)++([]:Ls)) tN s₀ H₀ j ex) z (d8 (a8 (i:=0) (F5 X).nd rfl (Or.inl rfl)) (d8 (a8 (i:=1) (F5 X).nd rfl (Or.inl rfl)) jr))
theorem aiD(z:X.mg "list"=none)(s₀:Shared)(H₀:Hp)(j:Addr)(ex:List Addr):PE (cZ X (([auA,auH]:Ls)++([]:Ls)) tN s₀ H₀ j ex) Qs (Do (f9 (uH 0) (f9 (zG (Qu X.K) (f9 (uH 1) eg)) eg))):=
 Ka (X:=cZ X (([auA,auH]:Ls)++([]:Ls)) tN s₀ H₀ j ex) (aO (pv 0) (eX (wC (X:=cZ X (([auA,auH]:Ls)++([]:Ls)) tN s₀ H₀ j ex)) (by rfl) z oI (ao (pv 1))))
theorem aiE{z:TI}(j:X.calm=true)(G:X.mg "list"=none)(hi:PI X F4 Qt z):PE X xR (DR z 2 [] (uJ X.K 2 (wp (mO 0) (wp (mO 1) CY))) o6 (Do (f9 (uH 0) (f9 (zG (Qu X.K) (f9 (uH 1) eg)) eg)))):=
 gK [auA,auH] [] [] (elt:=Qs) (tg:=F4) (iter:=Qt) (ifs:=[]) (sc:=tN) (F5 X) j hi (aiC j) (λ_ _ _ _=>ix) (aiD G)
theorem aiF:aM [auv,auy,auz,auK,auF,auT,auW,au5] [auv,auy,auz,auK,auF,auT,auW,au5] (aC FL):=aV
inductive Bb (K:Fg) (C:Addr):Sp where
 | mk {H:Hp}{Q:VK}{E:XK}{x dx G O Y U:Addr}{nm mk rk:V}{xs ns ss os:Lv}{fs:List (V×Lv)} (_:H x=some (.ins C dx [])) (_:ag K H G xs) (_:Qq K H xs fs) (_:ag K H O ns) (_:ag K H Y ss) (_:ag K H U os) (_:fs.length<=1000) (_:∀(fl:List (Str×V)) (j pn ps z:Addr) (J:Lv) (H':Hp),F3 fl nm mk rk j pn ps z->H' x=some (.ins C dx fl)->H j=none->H pn=none->H ps=none->H z=none ->
  H' j=some (.lst J)->Ba H H' j J fs fs.length->H' pn=some (.lst ns)->H' ps=some (.lst ss)->H' z=some (.lst os)->(∀b o,H b=some o->b≠x->H' b=some o)->Q .non H'):Bb K C [.ref x,nm,mk,rk,.ref G,.ref O,.ref Y,.ref U] H Q E
theorem aiG{Hk j:Hp}{fs:List (V×Lv)}{k:Nat}(fn:Ba H Hk D xs fs k)(h:∀b o,Hk b=some o->b≠D->H b=none->j b=some o):Ba H j D xs fs k:=by
 refine⟨fn.len,λi p ls hi O=>?_⟩;obtain⟨t,l,e1,e2,e3,e4,z,G,J⟩:=fn.item i p ls hi O;exact⟨t,l,e1,e2,e3,e4,z,h t _ G e4 e2,h l _ J z e3⟩
theorem aiH(G:Pg K mg base Pt):au P w K mg base aL 1 G.PIn.f G.PIn.fd [auv,auy,auz,auK,auF,auT,auW,au5] (Bb K G.C):=by
 refine G.PIn.u.okL aiF ?_;intro av A outer s H vs Q E hr h xX dX;obtain @⟨_,_,_,x,dx,fa,na,sa,oa,nm,mk,rk,xs,ns,ss,os,fs,hx,kj,jH,a2,a3,CP,Bd,k⟩:=h;refine⟨_,ak (gR (pv 0) (pv 1) rfl) (ak (gR (pv 0) (pv 2) rfl) (ak (gR (pv 0) (pv 3) rfl)
  (ak (gR (pv 0) (aiE rfl G.B.list (cr (pv 4))) rfl)
  (ak (gR (pv 0) (eX wC (by rfl) G.B.list oI (ao (pv 5))) rfl)
  (ak (gR (pv 0) (eX wC (by rfl) G.B.list oI (ao (pv 6))) rfl)
  (am (gR (pv 0) (eX wC (by rfl) G.B.list oI (ao (pv 7))) rfl))))))),?_⟩
 refine acU ?_;intro dD sS a7 Qo A9 vm im gf;have S0:fe G.C dx x H H []:=⟨λ_ _ e _=>e,λ_ e=>e,hx⟩;refine⟨S0.ob,G.TC.cl,G.TC.nN,few pA (by decide),?_⟩;have S1:fe G.C dx x H _ (ar auy nm []):=S0.put;refine⟨S1.ob,G.TC.cl,G.TC.nM,few (lp pA) (by decide),?_⟩;have S2:fe G.C dx x H _ (ar auz mk (ar auy nm [])):=S1.put;refine⟨S2.ob,G.TC.cl,G.TC.nR,few (lp (lp pA)) (by decide),?_⟩;have O:fe G.C dx x H _ (ar auK rk (ar auz mk (ar auy nm []))):=S2.put;generalize ae (ae (ae H x (.ins G.C dx (ar auy nm []))) x (.ins G.C dx (ar auz mk (ar auy nm [])))) x (.ins G.C dx (ar auK rk (ar auz mk (ar auy nm []))))=H1 at O ⊢;refine⟨⟨xs,O.sqL hx kj⟩,λD hD=>?_⟩;refine⟨λi m Z H2=>m=xs.length - i/\i<=xs.length/\∃(u v:Option V) (ys:Lv),Z=[u,v]/\H2 D=some (.lst ys)/\ac H1 H2/\Ba H H2 D ys fs i,⟨xs.length,by simp,cE _,none,none,[],rfl,aw,gb hD,rfl,λi p ls hi=>absurd hi (uy _)⟩,?_⟩;intro i m Z H2 md;refine cb ?_;intro tT;obtain⟨rfl,hi,u,v,ys,rfl,xS,Y,fn⟩:=md;have F6:ag K H2 fa xs:=Y.seq (O.sqL hx kj)
 by_cases aH:i<xs.length
 . refine .inr ⟨⟨xs,xs[i],F6,by simp[aH]⟩,λz H3 y=>?_⟩;obtain⟨e,y⟩:=y;subst e;have ez:=y xs F6;have a1:i<fs.length:=by rw[<-jH.len];exact aH
   obtain⟨⟨p,ls⟩,cV⟩:∃q,fs[i]?=some q:=⟨fs[i],by simp[a1]⟩;obtain⟨t,l,e1,e2,e3⟩:=jH.item i p ls cV;rw[ez]at e1;cases e1;have t2:=aaJ Y (O.sqT hx e2);have l2:=Y.seq (O.sqL hx e3);refine⟨t2,rfl,rfl,?_⟩;refine⟨l,_,rfl,.inl l2,λl' qm=>⟨Ax,λt' xw=>?_⟩⟩;obtain⟨n1,n2⟩:=jx xw;have dl:D≠l':=aF xS qm;have dt:D≠t':=aF xS n2;refine⟨ys,aA (aA xS dl) dt,cp (by rw[fn.len];omega),xs.length - (i+1),by omega,rfl,aH,_,_,ys++[.ref t'],rfl,aw,?_,⟨by rw[bD,fn.len];rfl,λj p' zm hj c5=>?_⟩⟩
   . exact gt (gt (gt Y (Y.free qm)) (Y.free n2)) hD
   by_cases Be:j=i
   . subst Be;rw[cV]at c5;cases c5;refine⟨t',l',by rw[Cj (by rw[fn.len];omega),fn.len];simp,O.free _ (Y.free n2),O.free _ (Y.free qm),dt.symm,dl.symm,aA aw dt.symm,aA (aA aw n1.symm) dl.symm⟩
   have ni:j<i:=by omega
   obtain⟨t0,l0,g1,g2,g3,g4,g5,g6,g7⟩:=fn.item j p' zm ni c5;exact⟨t0,l0,by rw[UY (by rw[fn.len];exact ni)];exact g1,g2,g3,g4,g5,aA (aA (aA g6 (aF g6 qm)) (aF g6 n2)) g4,aA (aA (aA g7 (aF g7 qm)) (aF g7 n2)) g5⟩
 have ei:i=xs.length:=by omega
 subst ei;refine .inl ⟨⟨xs,F6,aD _⟩,?_⟩;have S4:fe G.C dx x H H2 (ar auK rk (ar auz mk (ar auy nm []))):=⟨λb o e J=>Y b o (O.same b o e J),λb e=>O.free b (Y.free e),Y _ _ O.ob⟩;have Bf:D≠x:=aT xS S4.ob (by intro z;cases z);have a0:H D=none:=O.free _ hD;refine⟨S4.ob,G.TC.cl,G.TC.nF,few (lp (lp (lp pA))) (by decide),?_⟩;have S5:fe G.C dx x H _ (ar auF (.ref D) (ar auK rk (ar auz mk (ar auy nm [])))):=S4.put;refine⟨na,_,rfl,.inl (S5.sqL hx a2),λpn vn=>?_⟩;have S6:=S5.lay (o:=.lst ns) vn;have F7:pn≠x:=(aF S5.ob vn).symm;refine⟨S6.ob,G.TC.cl,G.TC.nE,few (lp (lp (lp (lp pA)))) (by decide),?_⟩;have S7:fe G.C dx x H _ (ar auT (.ref pn) (ar auF (.ref D) (ar auK rk (ar auz mk (ar auy nm []))))):=S6.put;refine⟨sa,_,rfl,.inl (S7.sqL hx a3),λps bO=>?_⟩;have S8:=S7.lay (o:=.lst ss) bO;have Qv:ps≠x:=(aF S7.ob bO).symm;refine⟨S8.ob,G.TC.cl,G.TC.nS,few (lp (lp (lp (lp (lp pA))))) (by decide),?_⟩;have S9:fe G.C dx x H _ (ar auW (.ref ps) (ar auT (.ref pn) (ar auF (.ref D) (ar auK rk (ar auz mk (ar auy nm [])))))):=S8.put;refine⟨oa,_,rfl,.inl (S9.sqL hx CP),λU lZ=>?_⟩;have Qw:=S9.lay (o:=.lst os) lZ;have a6:U≠x:=(aF S9.ob lZ).symm;refine⟨Qw.ob,G.TC.cl,G.TC.nO,few (lp (lp (lp (lp (lp (lp pA)))))) (by decide),?_⟩;have Qx:fe G.C dx x H _ (tM nm mk rk D pn ps U):=Qw.put;have k5:∀b o,H2 b=some o->b≠x->(ae H2 x (.ins G.C dx (ar auF (.ref D) (ar auK rk (ar auz mk (ar auy nm [])))))) b=some o:=λb o e J=>aA e J;have kp:=λb o (e:H2 b=some o) (J:b≠x)=>aA (p:=x) (o':=.ins G.C dx (ar auT (.ref pn) (ar auF (.ref D) (ar auK rk (ar auz mk (ar auy nm [])))))) (aA (p:=pn) (o':=.lst ns) (k5 b o e J) (aF (k5 b o e J) vn)) J;have kq:=λb o (e:H2 b=some o) (J:b≠x)=>aA (p:=x) (o':=.ins G.C dx (ar auW (.ref ps) (ar auT (.ref pn) (ar auF (.ref D) (ar auK rk (ar auz mk (ar auy nm []))))))) (aA (p:=ps) (o':=.lst ss) (kp b o e J) (aF (kp b o e J) bO)) J;have kr:=λb o (e:H2 b=some o) (J:b≠x)=>aA (p:=x) (o':=.ins G.C dx (tM nm mk rk D pn ps U)) (aA (p:=U) (o':=.lst os) (kq b o e J) (aF (kq b o e J) lZ)) J;have Qy:(ae (ae (ae H2 x (.ins G.C dx (ar auF (.ref D) (ar auK rk (ar auz mk (ar auy nm [])))))) pn (.lst ns)) x (.ins G.C dx (ar auT (.ref pn) (ar auF (.ref D) (ar auK rk (ar auz mk (ar auy nm []))))))) pn=some (.lst ns):=aA aw F7;have Qz:=aA (p:=x) (o':=.ins G.C dx (ar auW (.ref ps) (ar auT (.ref pn) (ar auF (.ref D) (ar auK rk (ar auz mk (ar auy nm []))))))) (aA (p:=ps) (o':=.lst ss) Qy (aF Qy bO)) F7;have a4:=aA (p:=x) (o':=.ins G.C dx (tM nm mk rk D pn ps U)) (aA (p:=U) (o':=.lst os) Qz (aF Qz lZ)) F7;have QA:=aA (p:=x) (o':=.ins G.C dx (ar auW (.ref ps) (ar auT (.ref pn) (ar auF (.ref D) (ar auK rk (ar auz mk (ar auy nm []))))))) (aw (H:=ae (ae (ae H2 x (.ins G.C dx (ar auF (.ref D) (ar auK rk (ar auz mk (ar auy nm [])))))) pn (.lst ns)) x (.ins G.C dx (ar auT (.ref pn) (ar auF (.ref D) (ar auK rk (ar auz mk (ar auy nm []))))))) (a:=ps) (o:=.lst ss)) Qv;have a5:=aA (p:=x) (o':=.ins G.C dx (tM nm mk rk D pn ps U)) (aA (p:=U) (o':=.lst os) QA (aF QA lZ)) Qv;refine k (tM nm mk rk D pn ps U) D pn ps U ys _ (aiB nm mk rk D pn ps U) Qx.ob a0 (S5.free _ vn) (S7.free _ bO) (S9.free _ lZ) (kr D _ xS Bf) ?_ a4 a5 (aA aw a6) Qx.same;rw[jH.len]at fn;exact aiG fn λb o e J hn=>kr b o e λz=>by rw[z,hx]at hn;cases hn
structure cM where
 nm:Str
 ms:List Int
 fs:List (Str×Ls)
 os:Ls
 rk:Int
abbrev Lp:=List cM
def nI(H:Hp)(v:V)(f:Str×Ls):Prop:=∃t l,v=.ref t/\H t=some (.tup [.str f.1,.ref l])/\H l=some (.lst (f.2.map V.str))
def jI(C:Addr)(H:Hp)(v:V)(p:cM):Prop:=∃a dx fl rk m j pn ps z xs,v=.ref a/\H a=some (.ins C dx fl)/\F3 fl (.str p.nm) (.ref m) rk j pn ps z/\H m=some (.tup (p.ms.map V.int)) /\
 H j=some (.lst xs)/\Paired (nI H) xs p.fs/\H z=some (.lst (p.os.map V.str))/\rk=.int p.rk/\H pn=some (.lst [])/\H ps=some (.lst [])
theorem nI.same{v:V}{f:Str×Ls}(s:ac H H')(h:nI H v f):nI H' v f:=by
 obtain⟨t,l,e,a,b⟩:=h;exact⟨t,l,e,s _ _ a,s _ _ b⟩
theorem jI.same{v:V}{p:cM}(s:ac H H')(h:jI C H v p):jI C H' v p:=by
 obtain⟨a,dx,fl,rk,m,O,pn,ps,U,xs,e,h1,h2,z,G,J,j⟩:=h;exact⟨a,dx,fl,rk,m,O,pn,ps,U,xs,e,s _ _ h1,h2,s _ _ z,s _ _ G,aB J (λ_ _=>nI.same s),s _ _ j.1,j.2.1,s _ _ j.2.2.1,s _ _ j.2.2.2⟩
abbrev gW (C:Addr) (H:Hp):Lv->Lp->Prop:=Paired (jI C H)
theorem gW.same{vs:Lv}{ps:Lp}(s:ac H H')(h:gW C H vs ps):gW C H' vs ps:=aB h λ_ _=>jI.same s
def rh(fs:List (Str×Ls)):List (V×Lv):=fs.map λf=>(.str f.1,f.2.map V.str)
theorem aiP{fs:List (Str×Ls)}(h:Paired (nI H) xs fs):Qq K H xs (rh fs):=by
 refine⟨by rw[rh,ah];exact bh h,λi p ls e=>?_⟩;rw[rh,cz]at e;cases j:fs[i]? with
 | none=>rw[j]at e;cases e
 | some f=>
  rw[j]at e;cases e;obtain⟨x,z,t,l,rfl,a,b⟩:=AN h j;exact⟨t,l,z,aP.of a,ag.of b⟩
theorem aiQ{Q:VK}{E:XK}{nm:Str}{mk:List Int}{rk:Int}{os:Ls}{fs:List (Str×Ls)}(Y:H m=some (.tup (mk.map V.int)))(hf:H fa=some (.lst xs))(jH:Paired (nI H) xs fs)
 (hn:H na=some (.lst [])) (hs:H sa=some (.lst [])) (ho:H oa=some (.lst (os.map V.str))) (Bd:fs.length<=1000) (q:∀x H',H x=none->ac H H'->(∀L,iX H L->jI C (msk L H') (.ref x) ⟨nm,mk,fs,os,rk⟩)->Q (.ref x) H') :
 ∀x dx,H x=none->H dx=none->dx≠x->Bb K C (.ref x::([.str nm,.ref m,.int rk,.ref fa,.ref na,.ref sa,.ref oa]++[])) (ae (ae H dx (.own x)) x (.ins C dx [])) (λv H2=>v=.non/\Q (.ref x) H2) E:=by
 intro x dx O a9 nx;have G:ac H (ae (ae H dx (.own x)) x (.ins C dx [])):=gt (gb a9) O;have a1:rh fs=rh fs:=rfl;have U:(rh fs).length=fs.length:=by rw[rh,ah]
 refine⟨aw,ag.of (G _ _ hf),?_,ag.of (G _ _ hn),ag.of (G _ _ hs),ag.of (G _ _ ho),by rw[U];exact Bd,?_⟩
 . exact aiP (aB jH λ_ _=>nI.same G)
 intro fl pf pn ps po jS H' hF kP n1 n2 n3 n4 a0 uF vn bO lZ keep;have s2:ac H H':=λb o e=>keep b o (G _ _ e) (aF e O);have J:∀b,(ae (ae H dx (.own x)) x (.ins C dx [])) b=none->H b=none:=λb z=>G.free z;refine⟨rfl,q x H' O s2 λL j=>⟨x,dx,fl,.int rk,m,pf,pn,ps,po,jS,rfl,df (j.free O) kP,hF,df (j.tup Y) (s2 _ _ Y),df (j.free (J _ n1)) a0,?_,df (j.free (J _ n4)) lZ,rfl,df (j.free (J _ n2)) vn,df (j.free (J _ n3)) bO⟩⟩;refine NG (by rw[uF.len,U]) λi f hi=>?_;obtain⟨t,l,e1,e2,e3,e4,e5,e6,e7⟩:=uF.item i (.str f.1) (f.2.map V.str) (by rw[U];exact(dB.mp hi).1) (by rw[rh,cz,hi];rfl);exact⟨_,e1,t,l,rfl,df (j.free (J _ e2)) e6,df (j.free (J _ e3)) e7⟩
def cI(p:cM):List NI:=[.inl (.inr p.nm),.inr (p.ms.map Sum.inl)]
theorem F9{nm:Str}{mk:List Int}(j:H b=some (.tup [.str nm,.ref m]))(z:H m=some (.tup (mk.map V.int))):gZ H [.inl (.inr nm),.inr (mk.map Sum.inl)] b:=
 ⟨_,j,.cons rfl (.cons ⟨m,rfl,by rw[z,jp];rfl⟩ .nil)⟩
theorem aiS{κ:Type}[DecidableEq κ]{kvs:List (κ×V)}{k:κ}(h:k∉kvs.map (·.1)):bJ kvs k=none:=by
 cases e:bJ kvs k with
 | none=>rfl
 | some v=>exact absurd (DN e) h
section
variable {κ β:Type} [DecidableEq κ] {F:κ×V->β->Prop}{key:β->κ}
theorem Ga(j:∀kv p,F kv p->kv.1=key p):∀{kvs:List (κ×V)}{ps:List β},Paired F kvs ps->kvs.map (·.1)=ps.map key
 | _,_,.nil=>rfl
 | _,_,.cons r t=>by rw[bp,bp,j _ _ r,Ga j t]
end
def QB(kvs:List (List NI×V))(vs:Lv)(ps:Lp)(i:Nat):Prop:=kvs.length<=i/\(∀(j:Nat) (p:cM) (v:V),j<i->ps[j]?=some p->vs[j]?=some v->bJ kvs (cI p)=some v)/\Paired (fun(kv:List NI×V) (p:cM)=>kv.1=cI p) kvs (ps.take i)
def fw(S:Addr)(H:Hp)(v:V)(vs:Lv)(ps:Lp):Prop:=∃a dx fl d kvs,v=.ref a/\H a=some (.ins S dx fl)/\fl.lookup (avc:Str)=some (.ref d)/\fl.lookup (auC:Str)=none/\fl.lookup (au0:Str)=none/\fl.lookup ("makes_of":Str)=none/\H d=some (.dT kvs)/\QB kvs vs ps ps.length
theorem fw.same{v:V}{vs:Lv}{ps:Lp}(s:ac H H')(h:fw S H v vs ps):fw S H' v vs ps:=by
 obtain⟨a,dx,fl,d,kvs,e,h1,h2,G,j,z,J,O⟩:=h;exact⟨a,dx,fl,d,kvs,e,s _ _ h1,h2,G,j,z,s _ _ J,O⟩
inductive Gd (K:Fg) (C S:Addr):Sp where
 | mk {H:Hp}{Q:VK}{E:XK}{x dx a:Addr}{xs:Lv}{ps:Lp} (_:H x=some (.ins S dx [])) (_:H a=some (.lst xs)) (_:gW C H xs ps) (_:ps.length<=100) (_:(ps.map cI).Nodup) (_:∀H',(∀b o,H b=some o->b≠x->H' b=some o)->fw S H' (.ref x) xs ps->Q .non H'):Gd K C S [.ref x,.ref a] H Q E
theorem QC:aM [auv,auB,auC] [auv,auB] (aC Oz):=aV
theorem aiT(G:Pg K mg base Pt):au P w K mg base aL 1 G.SIn.f G.SIn.fd [auv,auB] (Gd K G.C G.S):=by
 refine G.SIn.u.okL QC ?_;intro av A outer s H vs Q E hr h xX dX;obtain @⟨_,_,_,x,dx,a,xs,ps,Y,ha,bO,Ge,Bg,q⟩:=h;have hu:=hr.units;refine⟨_,(ak (gR (pv 0) acH rfl)
  (am (fD fC rfl (cr (pv 1)) (a8 (i:=2) QC.nd rfl (Or.inl rfl))
  (am (kX hu (bv (pv 0) rfl) (eE (aO (bv (pv 2) rfl) (bv (pv 2) rfl))) (pv 2) rfl))))),?_⟩
 refine qJ ?_;intro dD sS gf;refine λd H1 n1 s1 e1=>?_;refine⟨s1 _ _ Y,G.US.cl,G.US.nS,(by decide),?_⟩;have Bf:d≠x:=(aF Y n1).symm;have ax:a≠x:=aT ha Y (by intro z;cases z);have nl:=bh bO;refine⟨⟨_,ag.of (by rw[aE ax];exact s1 _ _ ha)⟩,?_⟩;refine g9 (xs:=xs) (λi Z H2=>∃u kvs,Z=[some (.ref x),some (.ref a),u]/\(∀b o,H b=some o->b≠x->H2 b=some o)/\H2 x=some (.ins G.S dx (ar avc (.ref d) []))/\H2 d=some (.dT kvs)/\QB kvs xs ps i)
  ⟨none,[],rfl,λb o e hb=>by rw[aE hb];exact s1 _ _ e,aw,by rw[aE Bf];exact e1,aD _,λj p v J=>absurd J (uy _),.nil⟩ ?_ ?_ ?_
 . intro i Z H2 hi kf;refine cb ?_;intro tT;obtain⟨u,kvs,rfl,k2,_⟩:=kf;exact ag.of (k2 _ _ ha ax)
 . intro i v Z H2 hv pF;refine cb ?_;intro tT;obtain⟨u,kvs,rfl,k2,j6,a0,O⟩:=pF;obtain⟨p,hp,b,dy,fl,rk,m,pf,pn,vo,po,ys,rfl,h1,h2,h3,h4,h5,h6⟩:=ff bO hv;have bx:b≠x:=aT h1 Y (by intro z;injection z with _ _ z;subst z;have:=h2.name;cases this);have b2:=k2 _ _ h1 bx;have m2:=k2 _ _ h3 (aT h3 Y (by intro z;cases z));have Gf:(ar (avc:Str) (V.ref d) []).lookup (avc:Str)=some (.ref d):=by rw[b9,ai rfl]
   refine⟨j6,G.US.cl,G.US.nS,Gf,b2,G.TC.cl,G.TC.nN,h2.name,b2,G.TC.cl,G.TC.nM,h2.make,Ax,λt H3 n3 s3 e3=>?_⟩;have aH:=(dB.mp hv).1;refine⟨ib.t (s3 _ _ a0) (F9 e3 (s3 _ _ m2)) (cp (by have:=O.1;omega)),?_⟩;refine⟨_,_,rfl,λc o e hc=>?_,?_,aw,?_,λj p' v' J U wu=>?_,?_⟩
   . rw[aE (λz=>by rw[z,n1]at e;cases e)];exact s3 _ _ (k2 _ _ e hc)
   . rw[aE Bf.symm];exact s3 _ _ j6
   . exact cR (zJ _ _ _) (VM O.1)
   . rw[Zk]
     by_cases Be:j=i
     . subst Be;rw[hp]at U;rw[hv]at wu;cases U;cases wu;exact ai rfl
     have ni:j<i:=by omega
     rw[af]
     . exact O.2.1 j p' v' ni U wu
     intro z;have z:cI p'=cI p:=z;refine Be ((y7 (l:=ps.map cI) (i:=j) (j:=i) ?_ Bg).mp ?_)
     . rw[ah];have:=(dB.mp U).1;omega
     rw[cz,cz,hp,U,oE,oE,z]
   have a1:bJ kvs (cI p)=none:=by
    refine aiS ?_;rw[Ga (key:=cI) (λ_ _ z=>z) O.2.2];intro hm;obtain⟨p',U,e'⟩:=bf.mp hm;obtain⟨j,J⟩:=List.getElem?_of_mem U;rw[List.getElem?_take]at J;split at J
    . have Eo:j=i:=(y7 (l:=ps.map cI) (by rw[ah];exact(dB.mp J).1) Bg).mp (by rw[cz,cz,J,hp,oE,oE,e']);omega
    cases J
   show Paired _ (cD kvs (cI p) (.ref b)) (ps.take (i+1));rw[DE _ a1,jQ,hp];refine ie ?_ O.2.2;rfl
 intro Z H2 xH;refine cb ?_;intro tT;obtain⟨u,kvs,rfl,k2,j6,a0,O⟩:=xH;rw[nl]at O;exact q H2 k2 ⟨x,dx,_,d,kvs,rfl,j6,by rw[b9,ai rfl],by rw[b9,af (by decide +kernel)];rfl,by rw[b9,af (by decide +kernel)];rfl,by rw[b9,af (by decide +kernel)];rfl,a0,O⟩
inductive QE (K:Fg) (S:Addr):Sp where
 | mk {H:Hp}{Q:VK}{E:XK}{z v:V}{m:Addr}{xs:Lv}{ps:Lp}{j:Nat}{p:cM} (_:fw S H z xs ps) (_:ps[j]?=some p) (_:xs[j]?=some v) (_:H m=some (.tup (p.ms.map V.int))) (_:∀H',ac H H'->Q v H'):QE K S [z,.str p.nm,.ref m] H Q E
theorem aiV:aM [auv,auy,auz] [auv,auy,auz] (aC OA):=aV
theorem aiW(z:Pg K mg base Pt):au P w K mg base aL 1 z.SPa.f z.SPa.fd [auv,auy,auz] (QE K z.S):=by
 refine z.SPa.u.okL aiV ?_;intro av A outer s H vs Q E hr h xX dX;obtain @⟨_,_,_,sv,v,m,xs,ps,j,p,⟨a,dx,fl,d,kvs,rfl,h1,h2,h3,_,_,Y,h5⟩,hp,hv,hm,q⟩:=h;have hu:=hr.units;have O:=h5.2.1 j p v (dB.mp hp).1 hp hv;refine⟨_,(ak (cU (rR (KY hu (eE (aO (pv 1) (pv 2))) (bv (pv 0) rfl)) (by rfl))
  (am uI) eU)
  (am (ba (sK hu (bv (pv 0) rfl) (eE (aO (pv 1) (pv 2))) (λ_ _=>rfl))))),?_⟩
 refine qJ ?_;intro dD sS gf;refine⟨Ax,λt H1 n1 G e1=>?_⟩;have g1:cw H1 d (.ref t) (bJ kvs (cI p)):=cw.t (G _ _ Y) (F9 e1 (G _ _ hm));refine⟨G _ _ h1,z.US.cl,z.US.nS,h2,_,g1,⟨?_⟩⟩;rw[O];refine cY (λh=>absurd h (by show ¬((!true)=true);decide)) (λh=>?_);refine⟨G _ _ h1,z.US.cl,z.US.nS,h2,Ax,λt2 H2 n2 s2 e2=>?_⟩;have J:=G.trans s2;have U:cw H2 d (.ref t2) (bJ kvs (cI p)):=cw.t (J _ _ Y) (F9 e2 (J _ _ hm));rw[O]at U;exact⟨U,q H2 J⟩
abbrev Tr:=List (Str×Ls)
structure km(done tr:Tr):Prop where
 nd:(tr.map (·.1)).Nodup
 sub:∀f∈tr,f∈done
 key:∀f∈done,f.1∈tr.map (·.1)
 len:tr.length<=done.length
theorem QG:km [] []:=⟨jo,λ_ h=>h,(λ_ h=>nomatch h),aD _⟩
theorem km.step{done tr:Tr}(g:km done tr)(x:Str)(ls:Ls):km (done++[(x,ls)]) (bG tr x ls):=by
 refine⟨pB g.nd,λf hf=>?_,λf hf=>?_,?_⟩
 . rcases qU hf with e | hf
   . rw[e];exact fP _ (bX.mpr rfl)
   exact yK _ (g.sub f hf)
 . rcases dA.mp hf with hf | hf
   . exact xx (.inr (g.key f hf))
   rw[bX.mp hf];exact xx (.inl rfl)
 have:=pC tr x ls;have:=g.len;rw[bD,mB];omega
end
section
variable {K:Fg}{H H1:Hp}{kv:aq×V}{f:Str×Ls}{ps:Lp}{xs:Lv}{x:Str}
def vp(xs:Lv)(ps:Lp)(v:V)(p:cM):Prop:=∃j:Nat,ps[j]?=some p/\xs[j]?=some v
def vq(xs:Lv)(ps:Lp)(ch:Ch):Prop:=∀e∈ch,∃v p,vp xs ps v p/\p.nm=e.1/\p.ms=e.2
inductive QH (S:Addr):Sp where
 | mk {H:Hp}{Q:VK}{E:XK}{z:V}{c:Addr}{xs:Lv}{ps:Lp}{ch:Ch} (_:fw S H z xs ps) (_:bP H c ch) (_:vq xs ps ch) (_:ch.length<64) (_:∀D H' G j,H D=none->ac H H'->H' D=some (.lst G)->Paired (vp xs ps) G j->(j.map (·.nm)).Perm (ch.map (·.1))->(∀p∈j,(p.nm,p.ms)∈ch)->Q (.ref D) H'):QH S [z,.ref c] H Q E
theorem aiX:aM [auw,aux] [auw,aux] (aC OP):=aV
theorem Bh(G:Pg K mg base Pt):au P w K mg base aL 2 G.PsO.f G.PsO.fd [auw,aux] (QH G.S):=by
 refine G.PsO.u.okL aiX ?_;intro av A outer s H vs Q E hr h xX dX;obtain @⟨_,_,_,sv,c,xs,ps,ch,hS,hC,hV,qD,q⟩:=h;have hu:=hr.units;obtain⟨kvs,e1,e2⟩:=id hC;have hk:∀kv f,fM H kv f->kv.1=Sum.inr f.1:=λkv f z=>z.1;have kl:=bh e2;refine⟨_,(am (ba (gK [auy] [auw,aux] [0,1] fq rfl (cr (cW (Aa rfl) (by rfl) G.B.sorted rL (ao (pv 1)))) (λ_ _ _ _=>(a8 (i:=0) (show List.Nodup ([auy,auw,aux]:Ls) by decide +kernel) rfl (Or.inl rfl))) (λ_ _ _ _=>ix) (λ_ _ _ _=>(ia (pv 1) G.US.cl G.SPa.mt (up (aiW G)) hr G.SPa.b .nil bY (aO (pv 0) (sK hu (pv 2) (pv 0) (λ_ _=>rfl)))))))),?_⟩;refine⟨c,kvs,_,rfl,e1,tD hk e2,by omega,λys hp hs a H1 n1 Y a1=>?_⟩;refine⟨⟨_,ag.of a1⟩,?_⟩;refine zV (σ0:=[none,some sv,some (.ref c)]) (ag.of a1) (λZ=>∃v,Z=[v,some sv,some (.ref c)]) (λi zs _=>∃J,Paired (vp xs ps) zs J/\J.map (·.nm)=ys.take i/\∀p∈J,(p.nm,p.ms)∈ch) ⟨_,rfl⟩ (λ_ _=>⟨[],.nil,rfl,λ_ h=>nomatch h⟩) ?_ ?_
 . intro D i x zs Z H2 k hD hi md hd h2 kf fX;refine cb ?_;intro tT;obtain⟨v,rfl⟩:=md;obtain⟨J,U,pn,pc⟩:=kf;rw[cz]at hi;cases O:ys[i]? with
   | none=>rw[O]at hi;cases hi
   | some y=>
    rw[O]at hi;cases hi;have a0:y∈ch.map (·.1):=hp.mem_iff.mp (d6 O);obtain⟨u,ms,g1,g2,_,m,rfl,g3⟩:=nu hk e2 a0;obtain⟨v2,p,k9,en,em⟩:=hV _ g2;obtain⟨j,j1,j2⟩:=id k9;have en:p.nm=y:=en;have em:p.ms=ms:=em;subst en em;obtain⟨sa,dx,fl,d,kk,rfl,b1,b2,b3,b4,b5⟩:=hS.same (Y.trans h2);have bj:=Y.trans h2;refine⟨b1,b3,(by rw[<-g1];exact cw.k (k:=.inr p.nm) (bj _ _ e1)),?_⟩;refine⟨⟨sa,dx,fl,d,kk,rfl,b1,b2,b3,b4,b5⟩,j1,j2,bj _ _ g3,λH3 s3=>?_⟩;have hl:zs.length<=64:=by
     have e:=cS List.length pn;rw[ah,d5]at e;have:=bh U;have:=hp.length_eq;rw[ah]at this;omega
    refine fX _ _ _ ⟨_,rfl⟩ s3 (cp (by omega)) ⟨J++[p],ie k9 U,?_,λp' c5=>?_⟩
    . rw[cK,pn,jQ,O];rfl
    rcases dA.mp c5 with z | z
    . exact pc p' z
    rw[bX.mp z];exact g2
 intro D zs H2 hD hd h2 pF;refine cb ?_;intro tT;obtain⟨J,U,pn,pc⟩:=pF;rw[ah,eN]at pn;refine q D H2 zs J (Y.free hD) (Y.trans h2) hd U ?_ pc;rw[pn];exact hp
def cJ(H H':Hp)(kv:aq×V)(f:Str×Ls):Prop:=kv.1=.inr f.1/\∃l,kv.2=.ref l/\H l=none/\H' l=some (.lst (f.2.map V.str))
theorem cJ.same{H2:Hp}(s:ac H1 H2)(h:cJ H H1 kv f):cJ H H2 kv f:=h.elim λa G=>G.elim λl j=>j.elim λb z=>z.elim λc d=>⟨a,l,b,c,s _ _ d⟩
theorem cJ.put{ks O:List (aq×V)}(hd:H1 d=some (.dK ks))(h:cJ H H1 kv f):cJ H (ae H1 d (.dK O)) kv f:=h.elim λa j=>j.elim λl G=>G.elim λb J=>J.elim λc e=>⟨a,l,b,c,aA e (aT e hd (by intro z;cases z))⟩
def fz(ps:Lp):Tr:=ps.flatMap (·.fs)
inductive QI (C:Addr):Sp where
 | mk {H:Hp}{Q:VK}{E:XK}{a:Addr}{xs:Lv}{ps:Lp} (_:H a=some (.lst xs)) (_:gW C H xs ps) (_:(fz ps).length<=60) (_:∀d H' kvs tr,H d=none->ac H H'->H' d=some (.dK kvs)->Paired (cJ H H') kvs tr->km (fz ps) tr->Q (.ref d) H'):QI C [.ref a] H Q E
theorem xT:aM [auB,au4,auC,auA,auH] [auB] (aC OX):=aV
theorem QJ{i:Nat}{p:cM}(h:ps[i]?=some p):fz (ps.take (i+1))=fz (ps.take i)++p.fs:=by
 unfold fz;rw[jQ,h,CL];simp
theorem ai5{i:Nat}{p:cM}(h:ps[i]?=some p)(j:Nat):(fz (ps.take i)++p.fs.take j).length<=(fz ps).length:=by
 have e:fz ps=fz (ps.take (i+1))++fz (ps.drop (i+1)):=by
  unfold fz;rw[<-CL,Jj]
 rw[e,QJ h];simp only[bD,d5];omega
theorem Gg(J:Pg K mg base Pt):au P w K mg base aL 1 J.Bro.f J.Bro.fd [auB] (QI J.C):=by
 refine J.Bro.u.okL xT ?_;intro av A outer s H vs Q E hr h xX dX;obtain @⟨_,_,_,a,xs,ps,ha,bO,NZ,q⟩:=h;have hu:=hr.units;refine⟨_,(ak (aJ (i:=1) xT.nd rfl (Or.inl rfl) o7)
  (ak (fD fC rfl (cr (pv 0)) (a8 (i:=2) xT.nd rfl (Or.inl rfl))
  (am (fD fC rfl (cr (bv (pv 2) rfl)) (kR rfl (d8 (a8 (i:=3) xT.nd rfl (Or.inl rfl)) (d8 (a8 (i:=4) xT.nd rfl (Or.inl rfl)) jr)))
   (am (kX hu (pv 1) (pv 3) (eX sT (by rfl) J.B.list oI (ao (pv 4))) rfl)))))
  (am (ba (pv 1))))),?_⟩
 refine kY ?_;intro dD sS im gf;have hk:∀(H':Hp) kv f,cJ H H' kv f->kv.1=Sum.inr f.1:=λ_ kv f z=>z.1;refine λd H1 n1 s1 e1=>?_;refine⟨⟨_,ag.of (s1 _ _ ha)⟩,?_⟩;refine g9 (xs:=xs) (λi Z H2=>∃u v z kvs tr,Z=[some (.ref a),some (.ref d),u,v,z]/\ac H H2/\H2 d=some (.dK kvs)/\Paired (cJ H H2) kvs tr/\km (fz (ps.take i)) tr) ⟨none,none,none,[],[],rfl,s1,e1,.nil,QG⟩ ?_ ?_ ?_
 . intro i Z H2 hi xH;refine cb ?_;intro U;obtain⟨u,v,z,kvs,tr,rfl,G,_⟩:=xH;exact ag.of (G _ _ ha)
 . intro i x Z H2 hx a0;refine cb ?_;intro U;obtain⟨u,v,z,kvs,tr,rfl,G,hd,Gh,g⟩:=a0;obtain⟨p,hp,b,dy,fl,rk,m,pf,pn,vo,po,ys,rfl,h1,h2,h3,h4,h5,h6⟩:=ff bO hx;refine⟨G _ _ h1,J.TC.cl,J.TC.nF,h2.files,⟨_,ag.of (G _ _ h4)⟩,?_⟩;refine g9 (xs:=ys) (λj Z H3=>∃v z kvs tr,Z=[some (.ref a),some (.ref d),some (.ref b),v,z]/\ac H H3/\H3 d=some (.dK kvs)/\Paired (cJ H H3) kvs tr/\km (fz (ps.take i)++p.fs.take j) tr) ⟨v,z,kvs,tr,rfl,G,hd,Gh,by rw[List.take_zero,i4];exact g⟩ ?_ ?_ ?_
   . intro j Z H3 hj Gi;refine cb ?_;intro U;obtain⟨v,z,kvs,tr,rfl,s3,_⟩:=Gi;exact ag.of (s3 _ _ h4)
   . intro j y Z H3 hy a1;refine cb ?_;intro U;obtain⟨v,z,kvs,tr,rfl,s3,eK,Y,O⟩:=a1;obtain⟨⟨px,ls⟩,a4,t,l,rfl,t1,t2⟩:=ff h5 hy;refine⟨aP.of (s3 _ _ t1),rfl,rfl,?_⟩;refine⟨l,_,rfl,.inl (ag.of (s3 _ _ t2)),λl' H4 n4 s4 e4=>?_⟩;have a7:=ai5 hp j;have a6:=O.len;have a5:=bh Y;refine⟨ib.k (k:=.inr px) (s4 _ _ eK) (cp (by omega)),?_⟩;refine⟨_,_,_,bG tr px ls,rfl,gt (s3.trans s4) n1,aw,?_,?_⟩
     . refine aB (li (F:=cJ H H4) (hk H4) ⟨rfl,l',rfl,s3.free n4,e4⟩ (aB Y λ_ _=>cJ.same s4)) λkv f=>cJ.put (s4 _ _ eK)
     rw[jQ,a4];have:=O.step px ls;rw[i6]at this;exact this
   intro Z H3 a2;refine cb ?_;intro U;obtain⟨v,z,kvs,tr,rfl,s3,eK,Y,O⟩:=a2;refine⟨_,_,_,kvs,tr,rfl,s3,eK,Y,?_⟩;rw[QJ hp];rw[bh h5,eN]at O;exact O
 intro Z H2 a3;refine cb ?_;intro U;obtain⟨u,v,z,kvs,tr,rfl,G,hd,Gh,g⟩:=a3;rw[bh bO,eN]at g;exact⟨q d H2 kvs tr n1 G hd Gh g⟩
theorem Bj{vs:Lv}{G:Lp}(h:gW C H xs ps)(r:Paired (vp xs ps) vs G):gW C H vs G:=aB r λv p J=>J.elim λj O=>O.elim λa b=>by
 obtain⟨x,z,q⟩:=AN h a;rw[b]at z;cases z;exact q
theorem Bl{vs:Lv}{z:Lp}(r:Paired (vp xs ps) vs z):∀p∈z,p∈ps:=by
 induction r with
 | nil=>exact λ_ h=>nomatch h
 | cons q t G=>
  intro p hp
  rcases bc.mp hp with e | hp
  . obtain⟨j,a,b⟩:=q;rw[e];exact d6 a
  exact G p hp
theorem Gj{b:Nat}(h:∀p∈ps,p.fs.length<=b):(fz ps).length<=ps.length * b:=by
 induction ps with
 | nil=>exact cE _
 | cons p ps z=>
  have e:fz (p::ps)=p.fs++fz ps:=wb;rw[e,bD,bq,IL];have:=z λq j=>h q (bL _ j);have:=h p bA;omega
def bV(H:Hp)(kv:aq×V)(f:Str×Ls):Prop:=kv.1=.inr f.1/\∃l,kv.2=.ref l/\H l=some (.lst (f.2.map V.str))
theorem bV.same{H':Hp}(s:ac H H')(h:bV H kv f):bV H' kv f:=h.elim λa j=>j.elim λl z=>z.elim λb c=>⟨a,l,b,s _ _ c⟩
def OkF(tr:Tr):Prop:=∀f∈tr,ft f.1/\(∀x∈f.2,gU x)/\f.2.length<=4
section
variable {g:TG}{tt:TT}{te:TE}{Q:Hp->Prop}
theorem tP{σ0:L2.St}(Y:H1 D=none)(hx:ag K H1 a xs)(S:L2.St->Prop)(P:Nat->Lv->Hp->Prop)(s0:S σ0)(st:P 0 [] (ae H1 D (.lst [])))
 (a0:∀i x ys Z H (k:L2.St->V->Hp->Prop) (k':L2.St->Hp->Prop),xs[i]?=some x->S Z->H D=some (.lst ys)->ac H1 H->P i ys H ->
  (∀σ3 y z,S σ3->ac H z->ys.length<sizeLine->P (i+1) (ys++[y]) (ae z D (.lst (ys++[y])))->k σ3 y z)->(∀σ3 j,S σ3->ac H j->P (i+1) ys j->k' σ3 j) ->
  g x Z H λσ3 H3=>tt σ3 H3 λok j=>if ok=true then te σ3 j (k σ3) else k' σ3 j)
 (done:∀ys H,H D=some (.lst ys)->ac H1 H->P xs.length ys H->Q H) :
 ∃W:Nat->Nat->L2.St->Hp->Prop,(∃m,W 0 m σ0 (ae H1 D (.lst [])))/\jZ (mQ K a) g tt te D (λH'=>Q H') W:=by
 refine⟨λi m Z H=>m=xs.length - i/\i<=xs.length/\S Z/\∃ys,H D=some (.lst ys)/\ac H1 H/\P i ys H,⟨xs.length,by simp,cE _,s0,[],aw,gb Y,st⟩,?_⟩;intro i m Z H md;refine cb ?_;intro tT;obtain⟨rfl,hi,hS,ys,hd,hs,hp⟩:=md;have q:ag K H a xs:=ac.seq hs hx
 by_cases U:i<xs.length
 . refine .inr ⟨⟨xs,xs[i],q,by simp[U]⟩,λx H2 hy=>?_⟩;obtain⟨e1,e2⟩:=hy;subst e1;exact a0 i x ys Z _ (λσ3 y z=>∃ys,z D=some (.lst ys)/\ys.length<sizeLine/\∃m',m'<xs.length - i/\(m'=xs.length - (i+1)/\i+1<=xs.length/\S σ3/\∃zs,ae z D (.lst (ys++[y])) D=some (.lst zs)/\ac H1 (ae z D (.lst (ys++[y])))/\P (i+1) zs (ae z D (.lst (ys++[y])))))
    (λσ3 j=>∃m',m'<xs.length - i/\(m'=xs.length - (i+1)/\i+1<=xs.length/\S σ3/\∃zs,j D=some (.lst zs)/\ac H1 j/\P (i+1) zs j)) (e2 xs q) hS hd hs hp
    (λσ3 y z J G O a4=>⟨ys,G _ _ hd,O,xs.length - (i+1),by omega,rfl,U,J,ys++[y],aw,gt (hs.trans G) Y,a4⟩)
    (λσ3 j J G O=>⟨xs.length - (i+1),by omega,rfl,U,J,ys,G _ _ hd,hs.trans G,O⟩)
 have e:i=xs.length:=by omega
 subst e;exact .inl ⟨⟨xs,q,aD _⟩,done ys H hd hs hp⟩
theorem QK{σ0:L2.St}(hD:H1 D=none)(hx:ag K H1 a xs)(S:L2.St->Prop)(P:Nat->Lv->Hp->Prop)(s0:S σ0)(st:P 0 [] (ae H1 D (.lst [])))
 (a0:∀i x ys Z H (k:L2.St->V->Hp->Prop),xs[i]?=some x->S Z->H D=some (.lst ys)->ac H1 H->P i ys H ->
  (∀σ3 y j,S σ3->ac H j->ys.length<sizeLine->P (i+1) (ys++[y]) (ae j D (.lst (ys++[y])))->k σ3 y j)->g x Z H λσ3 H3=>te σ3 H3 (k σ3))
 (done:∀ys H,H D=some (.lst ys)->ac H1 H->P xs.length ys H->Q H) :
 ∃W:Nat->Nat->L2.St->Hp->Prop,(∃m,W 0 m σ0 (ae H1 D (.lst [])))/\jZ (mQ K a) g o6 te D (λH'=>Q H') W:=
 tP hD hx S P s0 st (λi x ys Z H k k' z G J O U Y _=>a0 i x ys Z H k z G J O U Y) done
end
abbrev dI (ms:List Int):W.Dat:=.tuple (ms.map W.Dat.int)
theorem ajh{a b:List Int}:dI a=dI b↔a=b:=⟨λh=>(List.map_inj_right λx y z=>W.Dat.int.inj z).mp (W.Dat.tuple.inj h),λh=>by rw[h]⟩
theorem aji(n:Nat)(ms:List Int):W.kqdOk (n+1) (dI ms)=true:=by
 simp only[dI,W.kqdOk,eT,bf];rintro d ⟨i,_,rfl⟩;simp[W.kqdOk]
theorem ajj{ms:List Int}(h:H m=some (.tup (ms.map V.int))):DV K H (.ref m) (dI ms):=.tup (aP.of h) (DO ms)
theorem ajk(xs:Ls):(xs.map V.str).all oW=true:=by
 rw[eT];intro v j;obtain⟨z,_,rfl⟩:=bf.mp j;rfl
def ajl(Q:Addr->Hp->Prop):VK:=λv H=>match v with | .ref x=>Q x H | _=>False
theorem ajm{C:Addr}{Q:Addr->Hp->Prop}{E:XK}{nm:Str}{j G z:Addr}{mk:List Int}{rk:Int}{os:Ls}{fs:List (Str×Ls)}(U:H m=some (.tup (mk.map V.int)))(O:H fa=some (.lst xs))(jH:Paired (nI H) xs fs)
 (Y:H j=some (.lst [])) (hs:H G=some (.lst [])) (ho:H z=some (.lst (os.map V.str))) (J:fs.length<=1000) (q:∀x H',H x=none->ac H H'->(∀L,iX H L->jI C (msk L H') (.ref x) ⟨nm,mk,fs,os,rk⟩)->Q x H') :
 ∀x dx,H x=none->H dx=none->dx≠x->Bb K C (.ref x::([.str nm,.ref m,.int rk,.ref fa,.ref j,.ref G,.ref z]++[])) (ae (ae H dx (.own x)) x (.ins C dx [])) (λv H2=>v=.non/\Q x H2) E:=
 aiQ (Q:=ajl Q) U O jH Y hs ho J q
theorem gU.ln(h:gU x):Ln x:=⟨uQ.mpr λc j=>by have:=h.sg c j;omega,h.hi⟩
theorem cm.ln(h:cm x):Ln x:=⟨uQ.mpr λc j=>by have:=h.az c j;omega,by have:=h.hi;omega⟩
theorem ft.len(h:ft x):x.length<=36:=by
 obtain⟨ps,rfl,h1,h2,j⟩:=h;have:=FW (sep:=ke) (b:=8) (λp z=>(j p z).hi) (by decide +kernel);omega
theorem ft.ln(h:ft x):Ln x:=⟨uQ.mpr λc j=>by have:=h.signs c j;omega,by have:=h.len;omega⟩
structure Apart(ns:Ls)(ps:Lp):Prop where
 nd:(ps.map cI).Nodup
 ok:∀p∈ps,p.fs.length<=3/\OkF p.fs/\(p.fs.map (·.1)).Nodup
 one:∀p∈ps,∀p'∈ps,∀x,x∈p.fs.map (·.1)->x∈p'.fs.map (·.1)->p.nm=p'.nm
 len:ps.length<=20
 nms:∀p∈ps,p.nm∈ns
 offs:∀p∈ps,p.os=[]
 mks:∀p∈ps,ik p.ms

inductive QL (C:Addr):Sp where
 | mk {H:Hp}{Q:VK}{E:XK}{a:Addr}{xs:Lv}{ps:Lp} (_:H a=some (.lst xs)) (_:gW C H xs ps) (_:ps.length<=6) (_:∀p∈ps,p.os=[]) (_:∀r H',H r=none->ac H H'->H' r=some (.lst [])->Q (.ref r) H'):QL C [.ref a] H Q E
theorem Gk:aM [auB,"commons",auC] [auB] (aC OZ):=aV
theorem ajn(G:Pg K mg base Pt):au P w K mg base aL 1 G.Com.f G.Com.fd [auB] (QL G.C):=by
 refine G.Com.u.okL Gk ?_;intro av A outer s H vs Q E hr h xX dX;obtain @⟨_,_,_,a,xs,ps,Y,bO,h6,ph,q⟩:=h;refine⟨_,(ak (aJ (i:=1) Gk.nd rfl (Or.inl rfl) (cx dE))
  (ak (fD fC rfl (cr (pv 0)) (a8 (i:=2) Gk.nd rfl (Or.inl rfl))
  (am (bI (dR ja oJ oK lO (pv 1) (ao (bv (pv 2) rfl))))))
  (am (ba (cW (EK rfl) (by rfl) G.B.sorted rL (ao (eX (M8 rfl) (by rfl) G.B.set Jk (ao (pv 1))))))))),?_⟩
 refine⟨AA,λc H1 n1 s1 e1=>?_⟩;refine⟨⟨_,ag.of (s1 _ _ Y)⟩,?_⟩;refine g9 (xs:=xs) (λi Z H2=>∃u,Z=[some (.ref a),some (.ref c),u]/\ac H H2/\H2 c=some (.lst [])) ⟨none,rfl,s1,e1⟩ ?_ ?_ ?_
 . rintro i Z H2 hi ⟨u,rfl,j,_⟩;exact ag.of (j _ _ Y)
 . intro i x Z H2 hx kf;refine cb ?_;intro tT;obtain⟨u,rfl,j,J⟩:=kf;obtain⟨p,O,b,dy,fl,rk,m,pf,pn,vo,po,ys,rfl,h1,h2,h3,h4,h5,U,_⟩:=ff bO hx;rw[ph p (d6 O)]at U;refine⟨.inl ⟨rfl,_,ag.of J⟩,j _ _ h1,G.TC.cl,G.TC.nO,h2.offers,J,j _ _ U,lS (by show 0+0<=1000;decide),?_⟩;exact⟨_,rfl,gt j n1,aw⟩
 rintro Z H2 ⟨u,rfl,j,J⟩;refine⟨c,[],rfl,ag.of J,by decide,λr zs H3 n3 s3 e3 nd mem=>?_⟩;have z0:zs=[]:=List.eq_nil_iff_forall_not_mem.mpr λz hz=>nomatch (mem z).mp hz
 subst z0;refine⟨r,[],rfl,e3,by decide,λbF O hs=>λl H4 n4 s4 e4=>?_⟩;cases O.eq_nil;exact q l H4 (j.free (s3.free n4)) (j.trans (s3.trans s4)) e4

theorem ajo{z:Str}{xs:Ls}:zI (.str z) (xs.map V.str)=true↔z∈xs:=by
 unfold zI;rw[II];constructor
 . rintro⟨v,hv,e⟩;obtain⟨y,j,rfl⟩:=bf.mp hv;have:y=z:=by simpa [mT]using e
   rw[<-this];exact j
 intro h;exact⟨.str z,gE h,by simp[mT]⟩
theorem aG.at{lp:Pos}{qu:Str}(h:aG H Pt lp qu):∃φ,H Pt=some (.ext φ):=by
 rcases h with z | ⟨c',z,_⟩
 . exact⟨_,z⟩
 exact⟨_,z⟩
theorem aG.ne{lp:Pos}{qu:Str}(h:aG H Pt lp qu){o:HO}(e:H b=some o)(n:∀φ,o≠.ext φ):b≠Pt:=λz=>by
 obtain⟨φ,w⟩:=aG.at h;rw[z,w]at e;cases e;exact n _ rfl
def dz:Pos:=match gJ lq with
 | [_,_,_,_,.Return (some (.Call _ [.Call _ _ [⟨_,.Lambda _ _ _ p,_⟩] _] _ _)) _]=>p
 | _=>⟨0,0,0,0⟩
def dg:Str:="best_set.<locals>.<lambda>"
end
section
variable {β:Type}{kvs:List (aq×V)}{H:Hp}{ps:Ls}
theorem gM{Hk:Hp}{o o':HO}(h:Hk a=some o)(n:a≠p):ae Hk p o' a=some o:=by rw[aE n];exact h
def dj(d b:Addr)(v:V):List (Str×V):=[(auF,.ref d),("book",.ref b),("left",v)]
theorem ajp(d b:Addr):ar "left" .non (ar "book" (.ref b) (ar auF (.ref d) []))=dj d b .non:=rfl
theorem Bm(d b:Addr)(v:V):(dj d b v).lookup (auF:Str)=some (.ref d):=rfl
theorem QN(d b:Addr)(v:V):(dj d b v).lookup ("book":Str)=some (.ref b):=rfl
theorem Gm(d b:Addr)(v:V):(dj d b v).lookup ("left":Str)=some v:=rfl
theorem QO(d b:Addr)(v w:V):ar "left" w (dj d b v)=dj d b w:=by unfold dj ar;rfl
def lv:Option Int->V
 | none=>.non
 | some n=>.int n
def gX:Option Int->Option (Option Int)
 | none=>some none
 | some n=>if 1<=n then some (some (n - 1)) else none
theorem Bn{n:Int}(h:n<1):gX (some n)=none:=af (by omega)
theorem tQ{n:Int}(h:¬n<1):gX (some n)=some (some (n - 1)):=ai (by omega)
theorem ajq:aM [auv] [auv] (aC OJ):=aV
inductive QP (D j:Addr):Sp where
 | mk {H:Hp}{Q:VK}{E:XK}{x dx d b:Addr}{lf:Option Int} (_:H x=some (.ins D dx (dj d b (lv lf)))) (_:∀lf',gX lf=some lf'->∀H',H' x=some (.ins D dx (dj d b (lv lf')))->(∀p o,H p=some o->p≠x->H' p=some o)->(∀p,H' p=none->H p=none)->Q .non H') (_:gX lf=none->E (.ref j) none H):QP D j [.ref x] H Q E
theorem Gn(j:Pg K mg base Pt):au P w K mg base (eS P w) 1 j.DTk.f j.DTk.fd [auv] (QP j.D j.Fa):=by
 refine j.DTk.u.okR ajq (λvs H Q E h=>?_) (λY A outer s H vs Q E hr h=>?_)
 . cases h;rfl
 obtain @⟨_,_,_,x,dx,d,b,lf,G,J,U⟩:=h;refine⟨_,(ak (cU (eW zC (bv (pv 0) rfl) gm (cj _))
  (am JB) eU)
  (ak (cU (eW De (bv (pv 0) rfl) aZ (cj _))
  (am (Eh j.R.xc j.R.mF bK)) eU)
  (am (gR (pv 0) (cF XJ (bv (pv 0) rfl) aZ) rfl)))),?_⟩
 refine⟨G,j.UD.cl,j.UD.nL,Gm _ _ _,rfl,⟨?_⟩⟩;cases lf with
 | none=>
  refine eR ?_;exact J none rfl H G (λ_ _ e _=>e) λ_ e=>e
 | some n=>
  refine eB ?_;refine⟨G,j.UD.cl,j.UD.nL,Gm _ _ _,⟨⟨?_⟩⟩⟩;refine cY (λh=>?_) (λh=>?_)
  . exact⟨aD 1,U (Bn (cq h))⟩
  have h':¬n<1:=λz=>h (bw z);refine⟨G,j.UD.cl,j.UD.nL,Gm _ _ _,G,j.UD.cl,j.UD.nL,by show 3<1000;decide,?_⟩;rw[QO];exact J (some (n - 1)) (tQ h') _ aw (λp o e O=>aA e O) λp e=>(jx e).2
inductive Go (C:Addr):Sp where
 | mk {H:Hp}{Q:VK}{E:XK}{x dx:Addr} (_:H x=some (.ins C dx [])) (_:∀d b H',H d=none->H b=none->H' x=some (.ins C dx (dj d b .non))->H' d=some (.dK [])->H' b=some (.lst [])->(∀p o,H p=some o->p≠x->H' p=some o)->Q .non H'):Go C [.ref x] H Q E
theorem ajr:aM [auv] [auv] (aC OC):=aV
theorem ajs(j:Pg K mg base Pt):au P w K mg base aL 1 j.DIn.f j.DIn.fd [auv] (Go j.D):=by
 refine j.DIn.u.okL ajr ?_;intro av A outer s H vs Q E hr h xX dX;obtain @⟨_,_,_,x,dx,hx,q⟩:=h;refine⟨_,(ak (gR (pv 0) o7 rfl)
  (ak (gR (pv 0) (cx dE) rfl)
  (am (gR (pv 0) gm rfl)))),?_⟩
 refine λd H1 n1 O e1=>?_;have J:d≠x:=(aF hx n1).symm;refine⟨O _ _ hx,j.UD.cl,j.UD.nF,by show 0<1000;decide,?_⟩;refine⟨AA,λb H2 n2 U e2=>?_⟩;have Y:=jx n2;have h2:=U _ _ (aw (H:=H1) (a:=x) (o:=.ins j.D dx (ar auF (.ref d) [])));have d2:=U _ _ (gM (p:=x) (o':=.ins j.D dx (ar auF (.ref d) [])) e1 J);have bx:b≠x:=Y.1;have bd:d≠b:=aT d2 e2 (by intro z;cases z);refine⟨h2,j.UD.cl,j.UD.nB,by show 1<1000;decide,?_⟩;refine⟨aw,j.UD.cl,j.UD.nL,by show 2<1000;decide,?_⟩;rw[ajp];refine q d b _ n1 (O.free Y.2) aw (gM (gM d2 J) J) (gM (gM e2 bx) bx) λp o e G=>gM (gM (U _ _ (gM (O _ _ e) G)) G) G
theorem ajt:aM [auv,auA,auH] [auv,auA,auH] (aC OF):=aV
inductive QR (D z:Addr):Sp where
 | mk {H:Hp}{Q:VK}{E:XK}{x dx d b l:Addr}{lf:Option Int}{p:Str}{j:List (aq×V)}{ys:Lv} (_:H x=some (.ins D dx (dj d b (lv lf)))) (_:H d=some (.dK j)) (_:H l=some (.lst ys)) (_:j.length<=500) (_:∀lf',gX lf=some lf'->∀q H',H q=none->H' x=some (.ins D dx (dj d b (lv lf')))->H' d=some (.dK (cD j (.inr p) (.ref q)))->H' q=some (.lst ys)->(∀p o,H p=some o->p≠x->p≠d->H' p=some o)->Q .non H') (_:gX lf=none->E (.ref z) none H):QR D z [.ref x,.str p,.ref l] H Q E
theorem aju(j:Pg K mg base Pt):au P w K mg base (eS P w) 2 j.DPt.f j.DPt.fd [auv,auA,auH] (QR j.D j.Fa):=by
 refine j.DPt.u.okR ajt (λvs H Q E h=>?_) (λav A outer s H vs Q E Y h=>?_)
 . cases h;rfl
 obtain @⟨_,_,_,x,dx,d,b,l,lf,p,kd,ys,G,hd,U,vt,q1,q2⟩:=h;have hu:=Y.units;refine⟨_,(ak (bI (fF (pv 0) j.UD.cl j.DTk.mt (up (Gn j)) Y j.DTk.b .nil jj))
  (am (kX hu (bv (pv 0) rfl) (pv 1) (eX sT (by rfl) j.B.list oI (ao (pv 2))) rfl))),?_⟩
 have ku:d≠x:=aT hd G (by intro z;cases z);have lx:l≠x:=aT U G (by intro z;cases z);refine⟨G,rfl,G,λlf' e H1 h1 k1 f1=>?_,q2⟩;refine⟨l,_,rfl,.inl (ag.of (k1 _ _ U lx)),λq H2 n2 J e2=>?_⟩;have j6:=J _ _ h1;have O:=J _ _ (k1 _ _ hd ku);refine⟨j6,j.UD.cl,j.UD.nF,Bm _ _ _,ib.k (k:=.inr p) O (cp (by omega)),?_⟩;exact q1 lf' e q _ (f1 _ n2) (aA j6 ku.symm) aw (aA e2 (aT e2 O (by intro z;cases z))) λp o e hp Bo=>aA (J _ _ (k1 _ _ e hp)) Bo
theorem ajv:aM [auv,auA] [auv,auA] (aC OG):=aV
inductive QS (D z:Addr):Sp where
 | mk {H:Hp}{Q:VK}{E:XK}{x dx d b:Addr}{lf:Option Int}{p:Str}{j:List (aq×V)} (_:H x=some (.ins D dx (dj d b (lv lf)))) (_:H d=some (.dK j)) (_:∀lf',gX lf=some lf'->∀H',H' x=some (.ins D dx (dj d b (lv lf')))->H' d=some (.dK (if (bJ j (.inr p)).isSome=true then oZ j (.inr p) else j))->(∀p o,H p=some o->p≠x->p≠d->H' p=some o)->Q .non H') (_:gX lf=none->E (.ref z) none H):QS D z [.ref x,.str p] H Q E
theorem ajw(j:Pg K mg base Pt):au P w K mg base (eS P w) 2 j.DEr.f j.DEr.fd [auv,auA] (QS j.D j.Fa):=by
 refine j.DEr.u.okR ajv (λvs H Q E h=>?_) (λav A outer s H vs Q E Y h=>?_)
 . cases h;rfl
 obtain @⟨_,_,_,x,dx,d,b,lf,p,kd,U,hd,q1,q2⟩:=h;have hu:=Y.units;refine⟨_,(ak (bI (fF (pv 0) j.UD.cl j.DTk.mt (up (Gn j)) Y j.DTk.b .nil jj))
  (am (cU (rR (wG hu (pv 1) (bv (pv 0) rfl)) (by rfl))
  (am (bI (DM (bv (pv 0) rfl) (pv 1) ⟨rfl,rfl,rfl,rfl⟩))) eU))),?_⟩
 have ku:d≠x:=aT hd U (by intro z;cases z);refine⟨U,rfl,U,λlf' e H1 h1 k1 f1=>?_,q2⟩;have G:=k1 _ _ hd ku;refine⟨h1,j.UD.cl,j.UD.nF,Bm _ _ _,_,cw.k (k:=.inr p) G,⟨?_⟩⟩;cases O:bJ kd (.inr p) with
 | none=>
  refine eB ?_;exact q1 lf' e H1 h1 (by rw[O];exact G) λp o e J _=>k1 _ _ e J
 | some v=>
  refine eR ?_;refine⟨h1,j.UD.cl,j.UD.nF,Bm _ _ _,.inl ⟨_,.inl G⟩,kd,.inr p,v,G,rfl,O,?_⟩;exact q1 lf' e _ (aA h1 ku.symm) (by rw[O];exact aw) λp o e J Bo=>aA (k1 _ _ e J) Bo
inductive Gp (D G:Addr):Sp where
 | mk {H:Hp}{Q:VK}{E:XK}{x dx d b:Addr}{lf:Option Int}{y z:Str}{j:Lv} (_:H x=some (.ins D dx (dj d b (lv lf)))) (_:H b=some (.lst j)) (_:j.length<=500) (_:∀lf',gX lf=some lf'->∀t H',H' x=some (.ins D dx (dj d b (lv lf')))->H' b=some (.lst (j++[.ref t]))->H' t=some (.tup [.str y,.str z])->(∀p o,H p=some o->p≠x->p≠b->H' p=some o)->Q .non H') (_:gX lf=none->E (.ref G) none H):Gp D G [.ref x,.str y,.str z] H Q E
theorem ajx:aM [auv,au9,auG] [auv,au9,auG] (aC OH):=aV
theorem Gq(j:Pg K mg base Pt):au P w K mg base (eS P w) 2 j.DNt.f j.DNt.fd [auv,au9,auG] (Gp j.D j.Fa):=by
 refine j.DNt.u.okR ajx (λvs H Q E h=>?_) (λav A outer s H vs Q E hr h=>?_)
 . cases h;rfl
 obtain @⟨_,_,_,x,dx,d,b,lf,y,z,ts,G,Y,vt,q1,q2⟩:=h;refine⟨_,(ak (bI (fF (pv 0) j.UD.cl j.DTk.mt (up (Gn j)) hr j.DTk.b .nil jj))
  (am (bI (dR ja y8 y9 sw (bv (pv 0) rfl) (ao (eE (aO (pv 1) (pv 2)))))))),?_⟩
 have U:b≠x:=aT Y G (by intro z;cases z);refine⟨G,rfl,G,λlf' e H1 h1 k1 f1=>?_,q2⟩;have O:=k1 _ _ Y U;refine⟨h1,j.UD.cl,j.UD.nB,QN _ _ _,.inl ⟨rfl,_,ag.of O⟩,Ax,λt H2 n2 J e2=>?_⟩;have jC:=J _ _ O;refine⟨jC,cp (by omega),?_⟩;exact q1 lf' e t _ (gM (J _ _ h1) U.symm) aw (gM e2 (aT e2 jC (by intro z;cases z))) λp o e a0 ph=>gM (J _ _ (k1 _ _ e a0)) ph
def mi(fs:List (Str×β))(p:Str):List (Str×β):=fs.filter λf=>decide (f.1≠p)
theorem QT{G:aq×V->Str×β->Prop}(J:∀kv f,G kv f->kv.1=Sum.inr f.1){p:Str}{fs:List (Str×β)}(h:Paired G kvs fs):Paired G (oZ kvs (.inr p)) (mi fs p):=by
 unfold oZ mi
 induction h with
 | nil=>exact .nil
 | @cons kv f kvs fs r t j=>
  have e:=J _ _ r;rw[qj,qj]
  by_cases h:f.1=p
  . have h2:kv.1=Sum.inr p:=by rw[e,h]
    simp only[h,h2,ne_eq,not_true_eq_false,decide_false,kI,iI];exact j
  have h2:¬kv.1=Sum.inr p:=by rw[e];exact λz=>h (qb z)
  simp only[h,h2,ne_eq,not_false_eq_true,decide_true,ut];exact .cons r j
theorem QU{fs:List (Str×β)}{p:Str}(h:p∉fs.map (·.1)):mi fs p=fs:=by
 unfold mi;rw[List.filter_eq_self];intro f j;exact bw λe=>h (by rw[<-e];exact gE (f:=(·.1)) j)
theorem ajz{fs:List (Str×β)}{p:Str}(h:(fs.map (·.1)).Nodup):((mi fs p).map (·.1)).Nodup:=h.sublist ((Jl (l:=fs)).map _)
theorem ajA(fs:List (Str×β))(p:Str):(mi fs p).length<=fs.length:=Cr _ _
theorem ajB{G:aq×V->Str×β->Prop}(z:∀kv f,G kv f->kv.1=Sum.inr f.1){fs:List (Str×β)}(h:Paired G kvs fs)(p:Str):(p∈fs.map (·.1)/\(bJ kvs (.inr p)).isSome=true)\/(p∉fs.map (·.1)/\bJ kvs (.inr p)=none):=by
 by_cases j:p∈fs.map (·.1)
 . obtain⟨v,ls,e,_⟩:=nu z h j;exact .inl ⟨j,by rw[e];rfl⟩
 exact .inr ⟨j,tE z h j⟩
theorem QV{f:Str×Ls}(h:∀y∈f.2,Ln y):W.kqdOk 9 (dS f.2)=true:=by
 simp only[dS,W.kqdOk,eT,bf];rintro d ⟨y,j,rfl⟩;exact(h y j).ok
theorem QW{fs:Tr}(h:Paired (bV H) kvs fs)(nd:(fs.map (·.1)).Nodup):(kvs.map (·.1)).Nodup:=by
 have e:kvs.map (·.1)=(fs.map (·.1)).map Sum.inr:=tD (λkv f (z:bV H kv f)=>z.1) h;rw[e];exact List.Pairwise.map Sum.inr (λa b h e=>h (qb e)) nd
inductive QX (C:Addr):Sp where
 | mk {H:Hp}{Q:VK}{E:XK}{x dx d b:Addr}{v:V}{j:List (aq×V)}{fs:Tr} (_:H x=some (.ins C dx (dj d b v))) (_:H d=some (.dK j)) (_:Paired (bV H) j fs) (_:(fs.map (·.1)).Nodup) (_:fs.length<=500) (_:∀r H' z,H r=none->ac H H'->H' r=some (.dK z)->Paired (cJ H H') z fs->Q (.ref r) H'):QX C [.ref x] H Q E
theorem Bq:aM [auv,auF,auA,auH] [auv] (aC OD):=aV
theorem xU(O:Pg K mg base Pt):au P w K mg base aL 1 O.FNo.f O.FNo.fd [auv] (QX O.D):=by
 refine O.FNo.u.okL Bq ?_;intro av A outer s H vs Q E hr h xX dX;obtain @⟨_,_,_,x,dx,o,b,v,kvs,ow,hx,ho,pr,nd,vt,q⟩:=h;have hu:=hr.units;refine⟨_,(ak (aJ (i:=1) Bq.nd rfl (Or.inl rfl) o7)
  (ak (Ad fC rfl (bv (pv 0) rfl) (kR rfl (d8 (a8 (i:=2) Bq.nd rfl (Or.inl rfl)) (d8 (a8 (i:=3) Bq.nd rfl (Or.inl rfl)) jr)))
  (am (kX hu (pv 1) (pv 2) (eX sT (by rfl) O.B.list oI (ao (pv 3))) rfl)))
  (am (ba (pv 1))))),?_⟩
 have hk:∀(H':Hp) kv f,cJ H H' kv f->kv.1=Sum.inr f.1:=λ_ kv f z=>z.1;refine λd H1 n1 s1 e1=>?_;have od:d≠o:=(aF ho n1).symm;refine⟨s1 _ _ hx,O.UD.cl,O.UD.nF,Bm _ _ _,o,kvs,rfl,s1 _ _ ho,λob=>?_⟩;refine A1 (λi Z G=>∃u v U,Z=[some (.ref x),some (.ref d),u,v]/\(∀b z,H b=some z->b≠o->G b=some z)/\(∀b,G b=none->H b=none)/\G o=some (.frz ob (.dK kvs))/\G d=some (.dK U)/\Paired (cJ H G) U (ow.take i))
  ⟨none,none,[],rfl,λb x e J=>gM (s1 _ _ e) J,λb e=>s1.free (jx e).2,aw,gM e1 od,.nil⟩ ?_ ?_ ?_
 . rintro i Z G ⟨u,v,U,rfl,_,_,h,_⟩;exact h
 . rintro i k v p Z G hi ⟨u,v',U,rfl,k5,f5,h5,iD,dW⟩ hp;obtain⟨⟨y,ls⟩,hf,a1,l,a2,a4⟩:=ff pr hi;have a1:k=.inr y:=a1;have a2:v=.ref l:=a2;have a4:H l=some (.lst (ls.map V.str)):=a4;subst a1 a2;have aH:=(dB.mp hf).1;have sp:ac G (ae G p (.tup [kV (.inr y),.ref l])):=gb hp;have L5:=sp _ _ (k5 _ _ a4 (aT a4 ho (by intro z;cases z)));refine⟨aP.of aw,rfl,rfl,?_⟩;refine⟨l,_,rfl,.inl (ag.of L5),λq1 H6 n6 s6 e6=>?_⟩;have Y:=sp.trans s6;have pl:=bh dW;rw[d5]at pl;refine⟨ib.k (k:=.inr y) (Y _ _ iD) (cp (by omega)),?_⟩;have xL:y∉(ow.take i).map (·.1):=by
    rw[VL];intro hm;obtain⟨j,hj,ej⟩:=yR.mp hm;rw[d5,ah]at hj;rw[Jh]at ej;have e1:(ow.map (·.1))[j]?=some y:=by rw[fo (by rw[ah];omega),ej]
    have e2:(ow.map (·.1))[i]?=some y:=by rw[cz,hf];rfl
    have:=(y7 (l:=ow.map (·.1)) (i:=j) (j:=i) (by rw[ah];omega) nd).mp (by rw[e1,e2]);omega
   refine⟨_,_,_,rfl,λb z e J=>?_,λb e=>f5 b (Y.free (jx e).2),gM (Y _ _ h5) od.symm,aw,?_⟩
   . rw[aE (λy=>by rw[y,n1]at e;cases e)];exact Y _ _ (k5 _ _ e J)
   rw[jQ,hf];have:=li (F:=cJ H H6) (hk H6) (x:=y) (ls:=ls) (v:=.ref q1) ⟨rfl,q1,rfl,f5 _ (sp.free n6),e6⟩ (aB dW λ_ _=>cJ.same Y);rw[xG xL]at this;exact aB this λ_ _=>cJ.put (Y _ _ iD)
 rintro Z G ⟨u,v,U,rfl,k5,f5,h5,iD,dW⟩;rw[bh pr,eN]at dW;refine⟨q d _ U n1 (λb z e=>?_) (gM iD od) (aB dW λkv f z=>?_)⟩
 . by_cases J:b=o
   . subst J;rw[ho]at e;cases e;exact aw
   exact gM (k5 b z e J) J
 obtain⟨a,l,b,c,e⟩:=z;exact⟨a,l,b,c,gM e (λy=>by rw[y,ho]at c;cases c)⟩
inductive QY (C:Addr):Sp where
 | mk {H:Hp}{Q:VK}{E:XK}{x dx d b:Addr}{v:V}{j:Lv} (_:H x=some (.ins C dx (dj d b v))) (_:H b=some (.lst j)) (_:fV H (.lst j) Q):QY C [.ref x] H Q E
theorem ajC:aM [auv] [auv] (aC OE):=aV
theorem xV(j:Pg K mg base Pt):au P w K mg base aL 1 j.BNo.f j.BNo.fd [auv] (QY j.D):=by
 refine j.BNo.u.okL ajC ?_;intro J A outer s H vs Q E U h xX O;obtain @⟨_,_,_,x,dx,d,b,v,Y,G,z,q⟩:=h;refine⟨_,(am (ba (eX sT (by rfl) j.B.list oI (ao (bv (pv 0) rfl))))),?_⟩;exact⟨G,j.UD.cl,j.UD.nB,QN _ _ _,b,_,rfl,.inl (ag.of z),q⟩
def look(tr:List (Str×β))(k:Str):Option β:=(tr.find? λf=>decide (f.1=k)).map (·.2)
theorem ky(f:Str×β)(tr:List (Str×β))(k:Str):look (f::tr) k=if f.1=k then some f.2 else look tr k:=by
 unfold look;rw[vY]
 by_cases h:f.1=k
 . rw[ai h,bw h];rfl
 rw[af h,bM h]
theorem fZ{tr:List (Str×β)}{k:Str}:look tr k=none↔k∉tr.map (·.1):=by
 induction tr with
 | nil=>exact⟨(λ_ h=>nomatch h),λ_=>rfl⟩
 | cons f tr j=>
  rw[ky,bp,bc,rJ,<-j]
  by_cases h:f.1=k
  . rw[ai h];exact⟨(λz=>nomatch z),λz=>absurd h.symm z.1⟩
  rw[af h];exact⟨λz=>⟨λe=>h e.symm,z⟩,λz=>z.2⟩
theorem pL{tr:List (Str×β)}{k:Str}{ls:β}(h:look tr k=some ls):(k,ls)∈tr:=by
 induction tr with
 | nil=>cases h
 | cons f tr j=>
  rw[ky]at h
  by_cases e:f.1=k
  . rw[ai e]at h;cases h;rw[<-e];exact bA
  rw[af e]at h;exact bL _ (j h)
theorem tR{tr:List (Str×β)}{k:Str}{ls:β}(nd:(tr.map (·.1)).Nodup)(h:(k,ls)∈tr):look tr k=some ls:=by
 cases e:look tr k with
 | none=>exact absurd (gE (f:=(·.1)) h) (fZ.mp e)
 | some j=>rw[qW nd (pL e) h]
theorem ajD(tr:List (Str×β))(g:Str×β)(k:Str):look (tr++[g]) k=(look tr k).or (if g.1=k then some g.2 else none):=by
 induction tr with
 | nil=>rw[we,ky];rfl
 | cons f tr j=>
  rw[rE,ky,ky,j];split<;>rfl
theorem Gr(tr:List (Str×β))(p:Str)(ls:β)(k:Str):look (bG tr p ls) k=if p=k then some ls else look tr k:=by
 unfold bG;split
 . rename_i h;have hp:=qV.mp h;clear h
   induction tr with
   | nil=>cases hp
   | cons f tr J=>
    rw[bp,ky,ky]
    by_cases G:f.1=p
    . rw[ai G,G]
      by_cases j:p=k
      . rw[ai j,ai j]
      rw[af j,af j,af j];clear J hp G
      induction tr with
      | nil=>rfl
      | cons g tr J=>
       rw[bp,ky,ky,J]
       by_cases O:g.1=p
       . rw[ai O,O,af j,af j]
       rw[af O]
    rw[af G];rw[bp,bc]at hp
    rcases hp with hp | hp
    . exact absurd hp.symm G
    rw[J hp]
    by_cases j:f.1=k
    . rw[ai j,ai j,af (λe=>G (j.trans e.symm))]
    rw[af j,af j]
 rename_i h;have hp:p∉tr.map (·.1):=λz=>h (qV.mpr z);rw[ajD];show(look tr k).or (if p=k then some ls else none)=_
 by_cases j:p=k
 . rw[ai j,ai j,<-j,fZ.mpr hp];rfl
 rw[af j,af j];cases look tr k<;>rfl
theorem ajE(tr:List (Str×β))(p k:Str):look (mi tr p) k=if p=k then none else look tr k:=by
 unfold mi
 induction tr with
 | nil=>
  show none=_;split<;>rfl
 | cons f tr z=>
  rw[qj]
  by_cases h:f.1=p
  . rw[af (by simp[h]),z,ky]
    by_cases j:p=k
    . rw[ai j,ai j]
    rw[af j,af j,af (λe=>j (h.symm.trans e))]
  rw[ai (by simp[h]),ky,ky,z]
  by_cases j:p=k
  . rw[ai j,ai j,af (λe=>h (e.trans j.symm))]
  rw[af j,af j]
def bC(tr:List (Str×β))(fs:List (Str×β))(p:Str):List (Str×β):=match look tr p with
 | some ls=>bG fs p ls
 | none=>mi fs p
theorem ajF(tr fs:List (Str×β))(p k:Str):look (bC tr fs p) k=if p=k then look tr k else look fs k:=by
 unfold bC;split
 . rename_i ls e;rw[Gr]
   by_cases h:p=k
   . rw[ai h,ai h,<-h,e]
   rw[af h,af h]
 rename_i e;rw[ajE]
 by_cases h:p=k
 . rw[ai h,ai h,<-h,e]
 rw[af h,af h]
theorem Gs(tr:List (Str×β)):∀(ps:Ls) (fs:List (Str×β)) (k:Str),look (ps.foldl (bC tr) fs) k=if k∈ps then look tr k else look fs k
 | [],fs,k=>by rw[af (by simp)];rfl
 | p::ps,fs,k=>by
  rw[uA,Gs tr ps,ajF]
  by_cases h:k∈ps
  . rw[ai h,ai (bL _ h)]
  rw[af h]
  by_cases e:p=k
  . rw[ai e,ai (by rw[e];exact bA)]
  rw[af e,af (by rw[bc,rJ];exact⟨λz=>e z.symm,h⟩)]
theorem QZ{tr fs:List (Str×β)}{p:Str}(h:(fs.map (·.1)).Nodup):((bC tr fs p).map (·.1)).Nodup:=by
 unfold bC;split
 . exact pB h
 exact ajz h
theorem ajG(tr fs:List (Str×β))(p:Str):(bC tr fs p).length<=fs.length+1:=by
 unfold bC;split
 . exact pC _ _ _
 have:=ajA fs p;omega
theorem Gu{tr:List (Str×β)}:∀{ps:Ls}{fs:List (Str×β)},(fs.map (·.1)).Nodup->((ps.foldl (bC tr) fs).map (·.1)).Nodup
 | [],_,h=>h
 | _::ps,_,h=>Gu (ps:=ps) (QZ h)
theorem Br{tr:List (Str×β)}:∀(ps:Ls) (fs:List (Str×β)),(ps.foldl (bC tr) fs).length<=fs.length+ps.length
 | [],_=>aD _
 | p::ps,fs=>by
  have:=Br (tr:=tr) ps (bC tr fs p);have:=ajG tr fs p;rw[uA,bq];omega
def fj(fs:Tr):Prop:=∀f∈fs,∀y∈f.2,Ln y
theorem ajH{tr fs:Tr}{p:Str}(G:fj tr)(h:fj fs):fj (bC tr fs p):=by
 unfold bC;split
 . rename_i ls e;intro f j
   rcases qU j with z | z
   . rw[z];exact G _ (pL e)
   exact h f z
 exact λf j=>h f (qe.mp j).1
theorem Gv{tr:Tr}(j:fj tr):∀{ps:Ls}{fs:Tr},fj fs->fj (ps.foldl (bC tr) fs)
 | [],_,h=>h
 | _::ps,_,h=>Gv j (ps:=ps) (ajH j h)
abbrev Gw (l:Ls):Prop:=l.Pairwise (λa b=>a.cps.toList<=b.cps.toList)
theorem ajI{a b:Ls}(p:a.Perm b)(h1:Gw a)(h2:Gw b):a=b:=by
 refine VJ (λx y _ _ h h'=>?_) h1 h2 p;have e:=List.le_antisymm h h';obtain⟨⟨x⟩⟩:=x;obtain⟨⟨y⟩⟩:=y;have e:x=y:=e;rw[e]
structure iF(fs tr:List (Str×β))(ps:Ls):Prop where
 srt:Gw ps
 nd:ps.Nodup
 mem:∀k,k∈ps↔look fs k≠look tr k
theorem ajJ{α:Type}[DecidableEq α]{a b:List α}(j:a.Nodup)(G:b.Nodup)(h:∀z,z∈a↔z∈b):a.Perm b:=(VN j G).mpr h
theorem iF.eq{fs tr:List (Str×β)}{j:Ls}(x:iF fs tr ps)(y:iF fs tr j):ps=j:=ajI (ajJ x.nd y.nd λz=>by rw[x.mem,y.mem]) x.srt y.srt
theorem iF.drop{fs tr:List (Str×β)}(x:iF fs tr ps)(m:Nat):iF ((ps.take m).foldl (bC tr) fs) tr (ps.drop m) where
 srt:=x.srt.sublist (List.drop_sublist m ps)
 nd:=x.nd.sublist (List.drop_sublist m ps)
 mem:=λk=>by
  rw[Gs];have hd:ps=ps.take m++ps.drop m:=(Jj m ps).symm;have nd:=x.nd;rw[hd,uB]at nd
  by_cases h:k∈ps.take m
  . rw[ai h];exact⟨λz=>absurd rfl (nd.2.2 k h k z),λz=>absurd rfl z⟩
  rw[af h,<-x.mem k];exact⟨λz=>List.mem_of_mem_drop z,λz=>by
   rw[hd]at z
   rcases dA.mp z with z | z
   . exact absurd z h
   exact z⟩
theorem iF.len{fs tr:List (Str×β)}(x:iF fs tr ps):ps.length<=fs.length+tr.length:=by
 have:=iT (ys:=fs.map (·.1)++tr.map (·.1)) x.nd λz hz=>by
  refine dA.mpr ?_
  by_cases h1:z∈fs.map (·.1)
  . exact .inl h1
  by_cases h2:z∈tr.map (·.1)
  . exact .inr h2
  exact absurd ((fZ.mpr h1).trans (fZ.mpr h2).symm) ((x.mem z).mp hz)
 rw[bD,ah,ah]at this;exact this
theorem iF.all{fs tr:List (Str×β)}(x:iF fs tr ps)(k:Str):look (ps.foldl (bC tr) fs) k=look tr k:=by
 rw[Gs]
 by_cases h:k∈ps
 . rw[ai h]
 rw[af h]
 by_cases e:look fs k=look tr k
 . exact e
 exact absurd ((x.mem k).mpr e) h
theorem Q0{fs tr:List (Str×β)}(nd:(fs.map (·.1)).Nodup)(h:∀k,look fs k=look tr k):∀f∈fs,f∈tr:=λf j=>by
 obtain⟨k,ls⟩:=f;exact pL ((h k).symm.trans (tR nd j))
theorem ajK{fs tr:List (Str×β)}(nd:(fs.map (·.1)).Nodup)(G:(tr.map (·.1)).Nodup)(h:∀k,look fs k=look tr k):fs.length=tr.length:=by
 have a:=iT (xs:=fs.map (·.1)) (ys:=tr.map (·.1)) nd λz hz=>by
  obtain⟨f,j,rfl⟩:=bf.mp hz;exact gE (f:=(·.1)) (Q0 nd h f j)
 have b:=iT (xs:=tr.map (·.1)) (ys:=fs.map (·.1)) G λz hz=>by
  obtain⟨f,j,rfl⟩:=bf.mp hz;exact gE (f:=(·.1)) (Q0 G (λk=>(h k).symm) f j)
 rw[ah,ah]at a b;omega
theorem Q1{fs:Tr}(h:Paired (bV H) kvs fs)(nd:(fs.map (·.1)).Nodup)(p:Str):(look fs p=none/\bJ kvs (.inr p)=none)\/(∃ls l,look fs p=some ls/\bJ kvs (.inr p)=some (.ref l)/\H l=some (.lst (ls.map V.str))/\(p,ls)∈fs):=by
 have G:∀kv f,bV H kv f->kv.1=Sum.inr f.1:=λkv f z=>z.1
 by_cases j:p∈fs.map (·.1)
 . obtain⟨v,ls,e,J,r⟩:=nu G h j;obtain⟨_,l,e2,e3⟩:=r;have e2:v=.ref l:=e2;exact .inr ⟨ls,l,tR nd J,by rw[e,e2],e3,J⟩
 exact .inl ⟨fZ.mpr j,tE G h j⟩
def Bs:Option (Ls)->W.Dat
 | none=>.none
 | some ls=>dS ls
theorem Q2:∀{a b:Ls},a.map W.Dat.str=b.map W.Dat.str->a=b
 | [],[],_=>rfl
 | [],_::_,h=>nomatch h
 | _::_,[],h=>nomatch h
 | x::a,y::b,h=>by
  rw[bp,bp]at h;injection h with h1 h2
  injection h1 with h1
  rw[h1,Q2 h2]
theorem ajL{a b:Option (Ls)}(h:Bs a=Bs b):a=b:=by
 cases a with
 | none=>
  cases b with
  | none=>rfl
  | some y=>cases h
 | some x=>
  cases b with
  | none=>cases h
  | some y=>
   have h:W.Dat.list (x.map W.Dat.str)=W.Dat.list (y.map W.Dat.str):=h;injection h with h
   rw[Q2 h]
theorem ajM{K:Fg}{fs:Tr}(h:Paired (bV H) kvs fs)(nd:(fs.map (·.1)).Nodup)(ok:fj fs)(p:Str):DV K H ((bJ kvs (.inr p)).getD .non) (Bs (look fs p))/\W.kqdOk 9 (Bs (look fs p))=true:=by
 rcases Q1 h nd p with⟨e1,e2⟩ | ⟨ls,l,e1,e2,e3,j⟩
 . rw[e1,e2];exact⟨.non,rfl⟩
 rw[e1,e2];exact⟨zX (ag.of e3),QV (ok _ j)⟩
def pM(fs tr:List (Str×β)):Prop:=∃U:Ls,U.length<=63/\∀k,(k∈fs.map (·.1)\/k∈tr.map (·.1))->k∈U
theorem xW{fs tr:List (Str×β)}(h:fs.length+tr.length<=63):pM fs tr:=⟨fs.map (·.1)++tr.map (·.1),by rw[bD,ah,ah];exact h,λk z=>dA.mpr z⟩
theorem pM.fst{fs tr:List (Str×β)}(h:pM fs tr)(nd:(fs.map (·.1)).Nodup):fs.length<=63:=by
 obtain⟨U,j,m⟩:=h;have:=iT nd λz hz=>m z (.inl hz);rw[ah]at this;omega
theorem pM.snd{fs tr:List (Str×β)}(h:pM fs tr)(nd:(tr.map (·.1)).Nodup):tr.length<=63:=by
 obtain⟨U,j,m⟩:=h;have:=iT nd λz hz=>m z (.inr hz);rw[ah]at this;omega
inductive Bt (Fv:Hp->aq×V->Str×β->Prop) (OK:List (Str×β)->Prop):Sp where
 | mk {H:Hp}{Q:VK}{E:XK}{a b:Addr}{j z:List (aq×V)}{fs tr:List (Str×β)} (_:H a=some (.dK j)) (_:H b=some (.dK z)) (_:Paired (Fv H) j fs) (_:Paired (Fv H) z tr) (_:(fs.map (·.1)).Nodup) (_:(tr.map (·.1)).Nodup) (_:OK fs) (_:OK tr) (_:pM fs tr) (_:∀l H' ps,H l=none->ac H H'->H' l=some (.lst (ps.map V.str))->iF fs tr ps->Q (.ref l) H'):Bt Fv OK [.ref a,.ref b] H Q E
theorem ajN:aM [au8,au3] [au8,au3] (aC OO):=aV
theorem Q3[DecidableEq β]{Fv:Hp->aq×V->Str×β->Prop}{OK:List (Str×β)->Prop}{dat:Option β->W.Dat}(Y:∀H kv f,Fv H kv f->kv.1=Sum.inr f.1)(hs:∀{H G:Hp}{kv:aq×V}{f:Str×β},ac H G->Fv H kv f->Fv G kv f)(hi:∀{a b:Option β},dat a=dat b->a=b)(hd:∀{H:Hp}{kvs:List (aq×V)}{fs:List (Str×β)},Paired (Fv H) kvs fs->(fs.map (·.1)).Nodup->OK fs->∀p,DV K H ((bJ kvs (.inr p)).getD .non) (dat (look fs p))/\W.kqdOk 9 (dat (look fs p))=true)(J:Pg K mg base Pt):au P w K mg base aL 1 J.KUn.f J.KUn.fd [au8,au3] (Bt Fv OK):=by
 refine J.KUn.u.okL ajN ?_;intro av A outer s H vs Q E hr h xX dX;obtain @⟨_,_,_,a,b,ka,kb,fs,tr,ha,hb,pa,pb,vx,q0,Gx,Gy,mj,q⟩:=h;have a2:=mj.fst vx;have a4:=mj.snd q0;have hu:=hr.units;refine⟨_,(am (ba (gK ["key"] [au8,au3] [0,1] fq rfl (cr (cW (EK rfl) (by rfl) J.B.sorted rL (ao (cF aeO (eX M9 (by rfl) J.B.set Jk (ao (pv 0))) (eX M9 (by rfl) J.B.set Jk (ao (pv 1)))))))
  (λ_ _ _ _=>(a8 (i:=0) (show List.Nodup (["key",au8,au3]:Ls) by decide +kernel) rfl (Or.inl rfl))) (λ_ _ _ _=>qC (eW (adE K hu) (zM hu (pv 1) (pv 0) ⟨rfl,rfl,rfl,rfl⟩) (zM hu (pv 2) (pv 0) ⟨rfl,rfl,rfl,rfl⟩) (cj _))) (λ_ _ _ _=>(pv 0))))),?_⟩
 refine⟨a,ka,fs.map (·.1),rfl,ha,tD (Y H) pa,by rw[ah];omega,λr1 Q4 H1 n1 s1 e1 Gz m1=>?_⟩;refine⟨b,kb,tr.map (·.1),rfl,s1 _ _ hb,tD (Y H) pb,by rw[ah];omega,λr2 Q5 H2 n2 s2 e2 GA m2=>?_⟩;have l1:Q4.length<=fs.length:=by have:=iT Gz λz hz=>(m1 z).mp hz;rwa [ah]at this
 have l2:Q5.length<=tr.length:=by have:=iT GA λz hz=>(m2 z).mp hz;rwa [ah]at this
 refine⟨r1,r2,Q4,Q5,rfl,rfl,aF e1 n2,s2 _ _ e1,e2,by omega,λr3 zs H3 n3 s3 e3 Q6 m3=>?_⟩;have l3:zs.length<=63:=by
  obtain⟨U,hU,mU⟩:=mj;have:=iT Q6 λz hz=>mU z ((dA.mp ((m3 z).mp hz)).imp (m1 z).mp (m2 z).mp);omega
 refine⟨r3,zs,rfl,e3,by omega,λys pm srt p H4 n4 s4 e4=>?_⟩;have rc:ac H H4:=(s1.trans s2).trans (s3.trans s4);have a3:ys.length<=63:=by rw[pm.length_eq];exact l3
 refine⟨⟨_,ag.of e4⟩,?_⟩;refine Lq (K:=K) (xs:=ys.map V.str) (σ0:=[none,some (.ref a),some (.ref b)]) (ag.of e4) (λZ=>∃v,Z=[v,some (.ref a),some (.ref b)]) (λi ws _=>ws=((ys.take i).filter λk=>decide (look fs k≠look tr k)).map V.str) ⟨_,rfl⟩ (λ_ _=>rfl) ?_ ?_
 . rintro D i x ws Z H5 k k' hD O ⟨v,rfl⟩ iD s5 rfl Y fX;rw[cz]at O;cases hy:ys[i]? with
   | none=>rw[hy]at O;cases O
   | some y=>
    rw[hy]at O;cases O;have j:=rc.trans s5;obtain⟨d1,o1⟩:=hd (aB pa λ_ _=>hs j) vx Gx y;obtain⟨d2,o2⟩:=hd (aB pb λ_ _=>hs j) q0 Gy y;refine⟨.inl ⟨_,.inl (j _ _ ha)⟩,_,cw.k (k:=.inr y) (j _ _ ha),?_⟩;refine⟨.inl ⟨_,.inl (j _ _ hb)⟩,_,cw.k (k:=.inr y) (j _ _ hb),?_⟩;refine⟨_,_,d1,d2,o1,o2,λbb iV=>⟨?_⟩⟩;have e0:(ys.take (i+1)).filter (λk=>decide (look fs k≠look tr k))=(ys.take i).filter (λk=>decide (look fs k≠look tr k))++[y].filter (λk=>decide (look fs k≠look tr k)):=by
     rw[jQ,hy,za];rfl
    refine cY (λh=>?_) (λh=>?_)
    . have cC:look fs y≠look tr y:=λe=>by
       have:bb=true:=iV.mpr (by rw[e]);rw[this]at h;cases h
      refine⟨Y _ _ _ ⟨_,rfl⟩ (ac.refl _) (cp ?_) ?_⟩
      . rw[ah];have:=Cr (λk=>decide (look fs k≠look tr k)) (ys.take i);rw[d5]at this;omega
      rw[e0,qj,ai (bw cC),cK];rfl
    have a0:look fs y=look tr y:=by
     cases bb with
     | true=>exact hi (iV.mp rfl)
     | false=>exact absurd rfl h
    refine fX _ _ ⟨_,rfl⟩ (ac.refl _) ?_;rw[e0,qj,af (by rw[bM (λz=>z a0)];exact cn),List.filter_nil,i4]
 rintro D ws H5 hD iD s5 rfl;rw[ah,eN]at iD;have sr:=Fp srt;have a1:ys.Nodup:=pm.nodup_iff.mpr Q6;refine q D H5 _ (rc.free hD) (rc.trans s5) iD ⟨sr.sublist Jl,a1.sublist Jl,λz=>?_⟩;rw[qe,ux];refine⟨λh=>h.2,λh=>⟨?_,h⟩⟩;rw[pm.mem_iff,m3,dA,m1,m2]
 by_cases z1:z∈fs.map (·.1)
 . exact .inl z1
 by_cases z2:z∈tr.map (·.1)
 . exact .inr z2
 exact absurd ((fZ.mpr z1).trans (fZ.mpr z2).symm) h
abbrev ajR:Sp:=Bt bV fj
theorem ajS(j:Pg K mg base Pt):au P w K mg base aL 1 j.KUn.f j.KUn.fd [au8,au3] ajR:=Q3 (Fv:=bV) (OK:=fj) (λ_ _ _ z=>z.1) (λs z=>bV.same s z) ajL (λh nd ok p=>ajM h nd ok p) j
theorem Q8:aM [auE,auY,auA] [auE,auY] (aC FM):=aV
def pN(lf:Option Int)(n:Nat):Option Int:=lf.map λm=>m - n
structure Bu(D x dx d b:Addr)(lf:Option Int)(fs:Tr)(H H':Hp):Prop where
 ob:H' x=some (.ins D dx (dj d b (lv lf)))
 hd:∃kd,H' d=some (.dK kd)/\Paired (bV H') kd fs
 kp:∀p o,H p=some o->p≠x->p≠d->H' p=some o
inductive GB (D z:Addr):Sp where
 | mk {H:Hp}{Q:VK}{E:XK}{x dx d b t:Addr}{lf:Option Int}{G J:List (aq×V)}{fs tr:Tr} (_:H x=some (.ins D dx (dj d b (lv lf)))) (_:H d=some (.dK G)) (_:H t=some (.dK J)) (_:d≠t) (_:Paired (bV H) G fs) (_:Paired (bV H) J tr) (_:(fs.map (·.1)).Nodup) (_:(tr.map (·.1)).Nodup) (_:fj fs) (_:fj tr) (_:pM fs tr) (_:∀m,lf=some m->0<=m)
  (_:∀ps H',iF fs tr ps->(∀m,lf=some m->(ps.length:Int)<=m)->Bu D x dx d b (pN lf ps.length) (ps.foldl (bC tr) fs) H H'->Q .non H') (_:∀ps (j:Nat) H',iF fs tr ps->lf=some (j:Int)->j<ps.length->Bu D x dx d b (some 0) ((ps.take j).foldl (bC tr) fs) H H'->E (.ref z) none H'):GB D z [.ref x,.ref t] H Q E
theorem Q9(j:Pg K mg base Pt):au P w K mg base (eS P w) 3 j.Tur.f j.Tur.fd [auE,auY] (GB j.D j.Fa):=by
 refine j.Tur.u.okR Q8 (λvs H Q E h=>?_) (λav A outer s H vs Q E hr h=>?_)
 . cases h;rfl
 obtain @⟨_,_,_,x,dx,d,b,t,lf,kd,kt,fs,tr,Y,hd,ht,ap,pd,pt,vx,q0,Gx,Gy,mj,pos,q1,q2⟩:=h;have b0:=mj.fst vx;have b2:=mj.snd q0;have hu:=hr.units;have gz:bT 1 (A.deeper (PyProof.Rows.envOfC "turn_to" (aC FM) s.heap.objs.size j.Tur.f av)):=hr.mono (by decide);refine⟨_,(am (fD PassesOwn.leaving rfl (cr (aU (ajS j) gz rfl (aO (fF (pv 0) j.UD.cl j.FNo.mt (up (xU j)) gz j.FNo.b .nil bY) (pv 1)))) (a8 (i:=2) Q8.nd rfl (Or.inl rfl))
  (am (cU (rR (wG hu (pv 2) (pv 1)) (by rfl))
   (am (bI (ia (pv 0) j.UD.cl j.DPt.mt (up (aju j)) hr j.DPt.b .nil jj (aO (pv 2) (sK hu (pv 1) (pv 2) (λ_ _=>rfl)))))) (am (bI (ia (pv 0) j.UD.cl j.DEr.mt (up (ajw j)) hr j.DEr.b .nil jj (ao (pv 2))))))))),?_⟩
 have ku:d≠x:=aT hd Y (by intro z;cases z);have tx:t≠x:=aT ht Y (by intro z;cases z);refine⟨Y,rfl,Y,hd,pd,vx,by omega,λr H1 kr n1 s1 e1 pr=>?_⟩;refine⟨e1,s1 _ _ ht,aB pr λ_ _ a6=>a6.elim λz1 a7=>a7.elim λl a9=>a9.elim λz2 ab=>ab.elim λ_ J=>⟨z1,l,z2,J⟩,aB pt λ_ _=>bV.same s1,vx,q0,Gx,Gy,mj,λl H2 ps n2 s2 e2 U=>?_⟩;have bj:=s1.trans s2;have nl:H l=none:=s1.free n2;have lx:l≠x:=(aF Y nl).symm;have ld:l≠d:=(aF hd nl).symm;have az:=U.len;refine⟨⟨_,ag.of e2⟩,?_⟩;refine g9 (xs:=ps.map V.str) (λi Z G=>∃v,Z=[some (.ref x),some (.ref t),v]/\G l=some (.lst (ps.map V.str))/\(∀m,lf=some m->(i:Int)<=m)/\Bu j.D x dx d b (pN lf i) ((ps.take i).foldl (bC tr) fs) H G)
  ⟨none,rfl,e2,pos,by
   have:pN lf 0=lf:=by cases lf with | none=>rfl | some m=>simp[pN]
   rw[this];exact bj _ _ Y,⟨kd,bj _ _ hd,aB pd λ_ _=>bV.same bj⟩,λp o e _ _=>bj _ _ e⟩ ?_ ?_ ?_
 . rintro i Z G hi ⟨v,rfl,hl,_⟩;exact ag.of hl
 . rintro i v0 Z G hv ⟨v,rfl,hl,Bv,W⟩;rw[cz]at hv;cases hy:ps[i]? with
   | none=>rw[hy]at hv;cases hv
   | some p=>
    rw[hy]at hv;cases hv;obtain⟨b1,iD,xY⟩:=W.hd;have al:=(dB.mp hy).1;have pO:=W.kp _ _ ht tx (gj ap);have ax:Paired (bV G) kt tr:=aB pt λ_ _ a0=>a0.elim λz1 a1=>a1.elim λl' a2=>a2.elim λz2 J=>⟨z1,l',z2,W.kp _ _ J (aT J Y (by intro z;cases z)) (aT J hd (by intro z;cases z))⟩;have Ra:(ps.take (i+1)).foldl (bC tr) fs=bC tr ((ps.take i).foldl (bC tr) fs) p:=by
     rw[jQ,hy,kM];rfl
    have a':=Br (tr:=tr) (ps.take i) fs;have aH:(ps.take i).length<=ps.length:=by rw[d5];omega
    have ay:=bh xY;have Rc:∀kv f,bV G kv f->kv.1=Sum.inr f.1:=λkv f z=>z.1;have dn:∀lf',gX (pN lf i)=some lf'->lf'=pN lf (i+1)/\∀m,lf=some m->((i+1:Nat):Int)<=m:=λlf' e=>by
     cases lf with
     | none=>cases e;exact⟨rfl,λm z=>nomatch z⟩
     | some m=>
      have e:gX (some (m - i))=some lf':=e
      by_cases z:m - (i:Int)<1
      . rw[Bn z]at e;cases e
      rw[tQ z]at e;cases e;refine⟨?_,λm' z'=>by cases z';omega⟩;show some (m - (i:Int) - 1)=some (m - ((i+1:Nat):Int))
      congr 1
      omega
    have Rf:gX (pN lf i)=none->E (.ref j.Fa) none G:=λe=>by
     have e2:lf=some (i:Int):=by
      cases lf with
      | none=>cases e
      | some m=>
       have e:gX (some (m - i))=none:=e
       by_cases z:m - (i:Int)<1
       . have:=Bv m rfl
         congr 1
         omega
       rw[tQ z]at e;cases e
     refine q2 ps i G U e2 al ⟨?_,W.hd,W.kp⟩;have:=W.ob;rw[e2,show pN (some (i:Int)) i=some 0 by simp[pN]]at this;exact this
    have kk:∀{H6:Hp},(∀p o,G p=some o->p≠x->p≠d->H6 p=some o)->∀kv f,bV G kv f->bV H6 kv f:=λO kv f a3=>a3.elim λz1 a4=>a4.elim λl3 a5=>a5.elim λz2 J=>⟨z1,l3,z2,O _ _ J (aT J W.ob (by intro z;cases z)) (aT J iD (by intro z;cases z))⟩;refine⟨_,cw.k (k:=.inr p) pO,⟨?_⟩⟩
    rcases Q1 ax q0 p with⟨g1,g2⟩ | ⟨ls,l',g1,g2,g3,_⟩
    . rw[g2];refine eB ?_;refine⟨W.ob,rfl,W.ob,iD,λlf' e H6 h1 h2 O=>?_,Rf⟩;obtain⟨rfl,GC⟩:=dn lf' e;refine⟨_,rfl,O _ _ hl lx ld,GC,h1,⟨_,h2,?_⟩,λq o z xZ tz=>O _ _ (W.kp _ _ z xZ tz) xZ tz⟩;have gr:bC tr ((ps.take i).foldl (bC tr) fs) p=mi ((ps.take i).foldl (bC tr) fs) p:=by unfold bC;rw[g1]
      rw[Ra,gr]
      rcases ajB Rc xY p with⟨hp,hs⟩ | ⟨hp,hs⟩
      . rw[ai hs];exact aB (QT Rc xY) (kk O)
      rw[hs,QU hp];exact aB xY (kk O)
    rw[g2];refine eR ?_;refine⟨W.ob,rfl,(by rw[<-g2];exact cw.k (k:=.inr p) pO),?_⟩;refine⟨W.ob,iD,g3,by omega,λlf' e qn H6 nq h1 h2 O h4=>?_,Rf⟩;obtain⟨rfl,GC⟩:=dn lf' e;refine⟨_,rfl,h4 _ _ hl lx ld,GC,h1,⟨_,h2,?_⟩,λq o z xZ tz=>h4 _ _ (W.kp _ _ z xZ tz) xZ tz⟩;have gr:bC tr ((ps.take i).foldl (bC tr) fs) p=bG ((ps.take i).foldl (bC tr) fs) p ls:=by unfold bC;rw[g1]
    rw[Ra,gr];exact li (F:=bV H6) (λkv f z=>z.1) ⟨rfl,qn,rfl,O⟩ (aB xY (kk h4))
 rintro Z G ⟨v,rfl,hl,Bv,W⟩;rw[ah]at Bv W;rw[eN]at W;exact q1 ps G U Bv W
end
section
variable {ps px:Lp}{ch:Ch}{be:Tr}
theorem cJ.du{H H':Hp}{kv:aq×V}{f:Str×Ls}(h:cJ H H' kv f):bV H' kv f:=h.elim λa j=>j.elim λl z=>z.elim λb G=>G.elim λ_ c=>⟨a,l,b,c⟩
inductive Rg:Sp where
 | mk {H:Hp}{Q:VK}{E:XK}{p:Str}{t G j d:Addr}{kvs:List (aq×V)}{tr:Tr}{m:Ls} (_:H t=some (.tup [.ref G,.ref j])) (_:H j=some (.lst (m.map V.str))) (_:H d=some (.dK kvs)) (_:Paired (bV H) kvs tr) (_:p∉tr.map (·.1)) (_:∀e H' z,H e=none->ac H H'->H' e=some (.dK z)->Paired (cJ H H') z [(p,m)]->Q (.ref e) H'):Rg [.str p,.ref t,.ref d] H Q E
theorem Rh:aM [auA,auU,au4,"mine","together",auF] [auA,auU,au4] (aC OY):=aV
theorem aj9(G:Pg K mg base Pt):au P w K mg base aL 4 G.FoC.f G.FoC.fd [auA,auU,au4] Rg:=by
 refine G.FoC.u.okL Rh ?_;intro av A outer s H vs Q E hr h xX dX;obtain @⟨_,_,_,p,t,l1,J,d,kvs,tr,m,ht,hm,hd,pr,lo,q⟩:=h;have hu:=hr.units;refine⟨_,(ak (aJ (i:=3) Rh.nd rfl (Or.inl rfl) (eY lM (pv 1) aZ (λ_ _=>rfl)))
  (ak (cU (rR (KY hu (pv 0) (pv 2)) (by rfl))
   (am (ba (Z4 (ZY (pv 0) (eX sT (by rfl) G.B.list oI (ao (pv 3))) ZX) rfl rfl (by intro z;cases z) (by decide)))) eU)
  wo)),?_⟩
 refine⟨aP.of ht,(rfl:cX [V.ref l1,V.ref J] 1=some (V.ref J)),?_⟩;refine⟨_,cw.k (k:=.inr p) hd,⟨?_⟩⟩;rw[tE (λkv f (z:bV H kv f)=>z.1) pr lo];refine eR ?_;refine λe j=>⟨J,_,rfl,.inl (ag.of (gb j _ _ hm)),λO H2 n2 U e2=>?_⟩;have sH:=(gb (o:=.dK []) j).trans U;have Y:=U _ _ (aw (H:=H) (a:=e) (o:=.dK []));refine⟨Y,[(.inr p,.ref O)],rfl,(by show 1<=15;decide),?_⟩;exact q e _ [(.inr p,.ref O)] j (gt sH j) aw (.cons ⟨rfl,O,rfl,(jx n2).2,aA e2 (jx n2).1⟩ .nil)
def jJ(be:Tr)(ow:Ow):Tr:=ow.foldl (λtr e=>bG tr e.1 e.2.2) be
theorem aka(be:Tr)(ow:Ow)(e:Str×(Ls×Ls)):jJ be (ow++[e])=bG (jJ be ow) e.1 e.2.2:=by
 unfold jJ;rw[kM];rfl

theorem jI.off{H:Hp}{v:V}{p:cM}{L:List Addr}(G:∀b∈L,∀o,H b=some o->(∀c d f,o≠.ins c d f)/\(∀vs,o≠.tup vs)/\∀vs,o≠.lst vs)(h:jI C H v p):jI C (msk L H) v p:=by
 obtain⟨a,dx,fl,rk,m,pf,pn,ps,po,xs,e,h1,h2,h3,h4,h5,h6,j⟩:=h;have t:∀{b:Addr}{vs:Lv},H b=some (.tup vs)->msk L H b=some (.tup vs):=λe=>df (λz=>(G _ z _ e).2.1 _ rfl) e;have l:∀{b:Addr}{vs:Lv},H b=some (.lst vs)->msk L H b=some (.lst vs):=λe=>df (λz=>(G _ z _ e).2.2 _ rfl) e;exact⟨a,dx,fl,rk,m,pf,pn,ps,po,xs,e,df (λz=>(G _ z _ h1).1 _ _ _ rfl) h1,h2,t h3,l h4,aB h5 λ_ _ J=>J.elim λt' O=>O.elim λl' U=>U.elim λx1 Y=>Y.elim λx2 x3=>⟨t',l',x1,t x2,l x3⟩,l h6,j.1,l j.2.1,l j.2.2⟩
def GD(ow:Ow):Prop:=∀e∈ow,e.1.length<=60/\zW e.2.1/\zW e.2.2
theorem vy{α:Type}{l:List α}{i:Nat}{x:α}(h:l[i]?=some x):l.take (i+1)=l.take i++[x]:=by rw[jQ,h];rfl
theorem akf{β:Type}{l j:List (Str×β)}(p:l.Perm j)(nd:(l.map (·.1)).Nodup)(k:Str):look l k=look j k:=by
 have G:(j.map (·.1)).Nodup:=(p.map _).nodup_iff.mp nd;cases e:look l k with
 | none=>exact(fZ.mpr λz=>fZ.mp e ((p.map _).mem_iff.mpr z)).symm
 | some v=>exact(tR G (p.mem_iff.mp (pL e))).symm
theorem Bw:∀(ow:Ow) (be:Tr) (k:Str),(ow.map (·.1)).Nodup->look (jJ be ow) k=((look ow k).map (·.2)).or (look be k)
 | [],_,_,_=>rfl
 | e::ow,be,k,nd=>by
  rw[bp,i5]at nd;show look (jJ (bG be e.1 e.2.2) ow) k=_;rw[Bw ow _ k nd.2,Gr,ky]
  by_cases z:e.1=k
  . rw[ai z,ai z,fZ.mpr (by rw[<-z];exact nd.1)];rfl
  rw[af z,af z]
theorem Ri(h:(ps.map cI).Nodup){p q:cM}(hp:p∈ps)(hq:q∈ps)(e:cI p=cI q):p=q:=by
 induction ps with
 | nil=>cases hp
 | cons r ps j=>
  rw[bp,i5]at h
  rcases bc.mp hp with ep | hp
  . rcases bc.mp hq with eq | hq
    . rw[ep,eq]
    exact absurd (gE (f:=cI) hq) (by rw[<-e,ep];exact h.1)
  rcases bc.mp hq with eq | hq
  . exact absurd (gE (f:=cI) hp) (by rw[e,eq];exact h.1)
  exact j h.2 hp hq
structure Bx(ps:Lp)(ch:Ch)(px:Lp):Prop where
 nm:(px.map (·.nm)).Perm (ch.map (·.1))
 mm:∀p∈px,p∈ps/\(p.nm,p.ms)∈ch
theorem Bx.iff(h:Bx ps ch px)(Y:(ps.map cI).Nodup)(nd:(ch.map (·.1)).Nodup)(p:cM):p∈px↔p∈ps/\(p.nm,p.ms)∈ch:=by
 refine⟨h.mm p,λJ=>J.elim λh1 h2=>?_⟩;have:p.nm∈px.map (·.nm):=h.nm.mem_iff.mpr (gE (f:=(·.1)) h2);obtain⟨r,G,j⟩:=bf.mp this;obtain⟨U,z⟩:=h.mm r G;rw[j]at z;have O:=qW nd z h2;have:r=p:=Ri Y U h1 (by unfold cI;rw[j,O]);rw[<-this];exact G
theorem Rj{ns:Ls}{tS:Lp}{U:Tr}(J:Apart ns ps)(nd:(ch.map (·.1)).Nodup)(j:∀p∈px,p∈ps/\(p.nm,p.ms)∈ch)(m:∀p,p∈px↔p∈tS)(g:km (fz px) be)(g':km (fz tS) U){k:Str}{l:Ls}(h:look be k=some l):look U k=some l:=by
 obtain⟨p,z,O⟩:=jR.mp (g.sub _ (pL h));have hk:k∈U.map (·.1):=g'.key (k,l) (jR.mpr ⟨p,(m p).mp z,O⟩);obtain⟨f,lw,e⟩:=bf.mp hk;have e:f.1=k:=e;obtain⟨q,G,hg⟩:=jR.mp (g'.sub f lw);have G:=(m q).mpr G;have Y:=J.one p (j p z).1 q (j q G).1 k (gE (f:=(·.1)) O) (by rw[<-e];exact gE (f:=(·.1)) hg);have em:p.ms=q.ms:=qW nd (j p z).2 (by rw[Y];exact(j q G).2);have ep:p=q:=Ri J.nd (j p z).1 (j q G).1 (by unfold cI;rw[Y,em]);subst ep;have el:l=f.2:=qW (J.ok p (j p z).1).2.2 O (by rw[<-e];exact hg);rw[el,<-e];exact tR g'.nd lw
theorem akh{ns:Ls}{J:Lp}{j:Tr}(z:Apart ns ps)(nd:(ch.map (·.1)).Nodup)(G:∀p∈px,p∈ps/\(p.nm,p.ms)∈ch)(m:∀p,p∈px↔p∈J)(g:km (fz px) be)(g':km (fz J) j):look be=look j:=by
 funext k
 cases e:look be k with
 | some l=>exact(Rj z nd G m g g' e).symm
 | none=>
  cases O:look j k with
  | none=>rfl
  | some l=>rw[Rj z nd (λp U=>G p ((m p).mpr U)) (λp=>(m p).symm) g' g O]at e;cases e
def By(ps:Lp)(ch:Ch)(cs:Cs)(ow:Ow)(tr:Tr):Prop:=∃(px:Lp) (be:Tr),Bx ps ch px/\km (fz px) be/\look tr=look (jJ be ow)


seal PE PS bu PA PT PW PG dv PI cL
structure Rk(ns:Ls)(p:cM):Prop where
 n3:p.fs.length<=3
 ls:∀f∈p.fs,zW f.2
 o2:p.os=[]
 nm:Ln p.nm
theorem aki{tr:Tr}{x:Str}{ls:Ls}(h:fj tr)(j:∀y∈ls,Ln y):fj (bG tr x ls):=λf hf=>by
 rcases qU hf with e | hf
 . rw[e];exact j
 exact h f hf
theorem akj(h:fj be){ow:Ow}(j:GD ow):fj (jJ be ow):=by
 have key:∀(ow:Ow) (c:Tr),fj c->(∀e∈ow,∀x∈e.2.2,Ln x)->fj (jJ c ow):=by
  intro ow
  induction ow with
  | nil=>exact λc z _=>z
  | cons e ow U=>exact λc z j=>U _ (aki z (j e bA)) λG O=>j G (bL _ O)
 exact key ow be h λe J=>(j e J).2.2.all
theorem GF:∀(be:Tr) (ow:Ow),(jJ be ow).length<=be.length+ow.length
 | _,[]=>aD _
 | be,e::ow=>by
  have h1:=GF (bG be e.1 e.2.2) ow;have h2:=pC be e.1 e.2.2;rw[bq];exact cR h1 (by omega)
theorem Rm:∀{be:Tr},(be.map (·.1)).Nodup->∀ow:Ow,((jJ be ow).map (·.1)).Nodup
 | _,h,[]=>h
 | _,h,e::ow=>Rm (pB h) ow
inductive Rn (C S T Pt:Addr):Sp where
 | mk {H:Hp}{Q:VK}{E:XK}{j tv:V}{xs:Lv}{ps:Lp}{ch:Ch}{cs:Cs}{ow:Ow}{ns:Ls} (_:fw S H j xs ps) (_:gW C H xs ps) (_:(∀p∈ps,Rk ns p)) (_:∀e∈ow,∀p∈ps,e.1∉p.fs.map (·.1)) (_:jk T H tv ch cs ow) (_:vq xs ps ch) (_:ch.length<=5) (_:ow.length<=8) (_:GD ow) (_:aG H Pt dz dg) (_:∀d H' kvs (tr:Tr),H d=none->jB Pt H H'->aG H' Pt dz dg->H' d=some (.dK kvs)->Paired (cJ H H') kvs tr->(tr.map (·.1)).Nodup->tr.length<=24->fj tr->By ps ch cs ow tr->Q (.ref d) H'):Rn C S T Pt [j,tv] H Q E
theorem tU:aM [auw,auN,auB,au4,auY,auA,auU,au6] [auw,auN] (aC AY):=aV
theorem Ro(j:Pg K mg base Pt):au P w K mg base aL 5 j.Tre.f j.Tre.fd [auw,auN] (Rn j.C j.S j.T Pt):=by
 refine j.Tre.u.okL tU ?_;intro av A outer s H vs Q E hr h xX dX;obtain @⟨_,_,_,sv,tv,xs,ps,ch,cs,ow,ns,hS,hP,h3,ri,hT,hV,h4,o2,okO,aH,q⟩:=h;have hu:=hr.units;have ap:bT 2 (A.deeper (PyProof.Rows.envOfC "tree_of" (aC AY) s.heap.objs.size j.Tre.f av)):=hr.mono (by decide);have gz:bT 1 (A.deeper (PyProof.Rows.envOfC "tree_of" (aC AY) s.heap.objs.size j.Tre.f av)):=hr.mono (by decide);refine⟨_,(ak (aJ (i:=2) tU.nd rfl (Or.inl rfl) (aU (Bh j) ap rfl (aO (pv 0) (bv (pv 1) rfl))))
  (ak (aJ (i:=3) tU.nd rfl (Or.inl rfl) (aU (Gg j) gz rfl (ao (pv 2))))
  (ak (aJ (i:=4) tU.nd rfl (Or.inl rfl) (eX sU (by rfl) j.B.dict wc (ao (pv 3))))
  (ak (Ad fC rfl (bv (pv 1) rfl) (kR rfl (d8 (a8 (i:=5) tU.nd rfl (Or.inl rfl)) (d8 (a8 (i:=6) tU.nd rfl (Or.inl rfl)) jr)))
  (am (bI (dR Ct asj PySem.F.type_dict_update acJ (pv 4) (ao (aU (aj9 j) hr rfl (eZ (pv 5) (pv 6) (pv 3))))))))
  (ak (fD fC rfl (cr (aU (ajn j) gz rfl (ao (pv 2)))) (a8 (i:=7) tU.nd rfl (Or.inl rfl))
  (am uI))
  (am (ba (pv 4)))))))),?_⟩
 refine LO ?_;intro dD sS Qo A9 vm im gf;obtain⟨a,dx,fl,c,h,o,rfl,t1,t2,t3,t4,t5,⟨hk,t6,b3⟩,ko,t7,t8⟩:=hT;refine⟨t1,j.UT.cl,j.UT.nC,t2,?_⟩;refine⟨hS,t5,hV,by omega,λD H1 tO px n1 s1 e1 pr pn pc=>?_⟩;have x6:=Bj (hP.same s1) pr;have pm:=Bl pr;have cV:px.length<=5:=by
  have e:=pn.length_eq;rw[ah,ah]at e;omega
 have hl:(fz px).length<=15:=by
  have:=Gj (b:=3) (ps:=px) λp U=>(h3 p (pm p U)).n3;omega
 refine⟨e1,x6,by omega,λd H2 kvs be n2 s2 e2 Rp g2=>?_⟩;refine⟨d,_,rfl,e2,λd3 H3 n3 s3 e3=>?_⟩;have dM:=s1.trans (s2.trans s3);have x9:H d3=none:=s1.free (s2.free n3);have eK:=s3 _ _ e2;have o3:=dM _ _ t7;have od:d≠o:=(aF (s1 _ _ t7) n2).symm;have GG:d3≠o:=(aF t7 x9).symm;have a7:d3≠d:=(aF e2 n3).symm;have b0:=g2.len;have a0:∀f∈be,zW f.2:=λf hf=>by
  obtain⟨p,U,hf⟩:=jR.mp (g2.sub f hf);exact(h3 p (pm p U)).ls f hf
 have az:Paired (bV H3) kvs be:=aB Rp λ_ _ z=>(z.du).same s3;have ya:Paired (cJ H H3) kvs be:=aB Rp λkv f z=>by
  obtain⟨z1,l,z2,J,O⟩:=z;exact⟨z1,l,z2,s1.free J,s3 _ _ O⟩
 have tk:∀(H':Hp) kv f,cJ H H' kv f->kv.1=Sum.inr f.1:=λ_ kv f z=>z.1;refine⟨dM _ _ t1,j.UT.cl,j.UT.nO,t4,o,ko,rfl,o3,λob=>?_⟩;refine A1 (λi Z G=>∃u v Y,Z=[some sv,some (.ref a),some (.ref D),some (.ref d),some (.ref d3),u,v,none]/\(∀b z,H3 b=some z->b≠o->b≠d3->G b=some z)/\(∀b,G b=none->H3 b=none)/\G o=some (.frz ob (.dK ko))/\G d3=some (.dK Y)/\Paired (cJ H G) Y (jJ be (ow.take i)))
  ⟨none,none,kvs,rfl,λb z e hb _=>aA e hb,λb e=>(jx e).2,aw,aA e3 GG,aB ya λkv f z=>?_⟩ ?_ ?_ ?_
 . obtain⟨z1,l,z2,J,O⟩:=z;exact⟨z1,l,z2,J,aA O (aT O o3 (by intro z;cases z))⟩
 . intro i Z G md;refine cb ?_;intro tT;obtain⟨u,v,Y,rfl,_,_,h,_⟩:=md;exact h
 . intro i k v p Z G hi kf U;refine cb ?_;intro tT;obtain⟨u,v',Y,rfl,k5,f5,h5,pO,dW⟩:=kf;obtain⟨⟨x,b1,m1⟩,hf,a1,t,l1,l2,a2,a3,a4,a5⟩:=ff t8 hi;have a1:k=.inr x:=a1;have a2:v=.ref t:=a2;subst a1 a2;have hm:=d6 hf;have sp:ac G (ae G p (.tup [kV (.inr x),.ref t])):=gb U;have K5:∀{b:Addr}{z:HO},H b=some z->(∀ks,z≠.dK ks)->(ae G p (.tup [kV (.inr x),.ref t])) b=some z:=λ{b z} e hz=>sp _ _ (k5 _ _ (dM _ _ e) (aT e t7 (hz _)) (λy=>by rw[y,x9]at e;cases e));have D5:=sp _ _ (k5 _ _ eK od a7.symm);refine⟨aP.of aw,rfl,rfl,?_⟩;refine⟨.inr (.inr (.inl ⟨rfl,.inl ⟨_,sp _ _ pO⟩⟩)),⟨⟨⟨?_⟩⟩⟩⟩;have nx:x∉be.map (·.1):=λz=>by
    obtain⟨f,lw,ef⟩:=bf.mp z;obtain⟨p',c5,a6⟩:=jR.mp (g2.sub f lw);exact ri _ hm p' (pm p' c5) (by rw[<-ef];exact gE (f:=(·.1)) a6)
   refine⟨K5 a3 (by intro ks z;cases z),K5 a5 (by intro ks z;cases z),D5,?_,nx,λe H6 ax n6 s6 e6 a'=>?_⟩
   . exact aB az λkv f z=>by
      obtain⟨z1,l,z2,J⟩:=z;exact⟨z1,l,z2,sp _ _ (k5 _ _ J (aT J o3 (by intro z;cases z)) (aT J e3 (by intro z;cases z)))⟩
   have vz:=sp.trans s6;obtain⟨l0,al,J,O⟩:∃l,ax=[(.inr x,.ref l)]/\ae G p (.tup [kV (.inr x),.ref t]) l=none/\H6 l=some (.lst (m1.map V.str)):=by
    cases a' with
    | @cons kv _ _ _ rr tl=>
     cases tl;obtain⟨z1,l,z2,J,O⟩:=rr;exact⟨l,by rw[show kv=(.inr x,.ref l) from Prod.ext z1 z2],J,O⟩
   subst al;have ab:d3≠e:=aF (sp _ _ pO) n6;have pl:=bh dW;have h1:=GF be (ow.take i);have b2:(ow.take i).length<=8:=by rw[d5];omega
   refine⟨d3,e,Y,_,rfl,rfl,ab,vz _ _ pO,e6,lS (by show Y.length+1<=1000;omega),?_⟩;refine⟨_,_,_,rfl,λb z e hb GH=>aA (vz _ _ (k5 _ _ e hb GH)) GH,λb e=>f5 b (vz.free (jx e).2),aA (vz _ _ h5) GG.symm,aw,?_⟩;rw[jQ,hf];show Paired _ _ (jJ be (ow.take i++[(x,b1,m1)]));rw[aka];exact aB (li (F:=cJ H H6) (tk H6) (x:=x) (ls:=m1) (v:=.ref l0) ⟨rfl,l0,rfl,dM.free (f5 _ (sp.free J)),O⟩ (aB dW λ_ _=>cJ.same vz)) λkv f=>cJ.put (vz _ _ pO)
 intro Z G pF;refine cb ?_;intro tT;obtain⟨u,v,Y,rfl,k5,f5,h5,pO,dW⟩:=pF;rw[bh t8,eN]at dW;have sF:∀b z,H3 b=some z->b≠d3->(ae G o (.dK ko)) b=some z:=λb z e hb=>by
  by_cases ho:b=o
  . subst ho;rw[o3]at e;cases e;exact aw
  exact aA (k5 b z e ho hb) ho
 have sH:ac H (ae G o (.dK ko)):=λb z e=>sF b z (dM _ _ e) (λy=>by rw[y,x9]at e;cases e);have Rq:ac H1 (ae G o (.dK ko)):=λb z e=>sF b z (s3 _ _ (s2 _ _ e)) (λy=>by rw[y,s2.free n3]at e;cases e);refine⟨Rq _ _ e1,x6.same Rq,by omega,λp U=>(h3 p (pm p U)).o2,λr H6 n6 s6 e6=>?_⟩;refine⟨⟨_,ag.of e6⟩,?_⟩;have nJ:=sH.trans s6;have a9:=s6 _ _ (aA (p:=o) (o':=.dK ko) pO GG);have tl:=GF be ow;have tV:Paired (cJ H H6) Y (jJ be ow):=aB dW λkv f z=>by
  obtain⟨z1,l,z2,J,O⟩:=z;exact⟨z1,l,z2,J,s6 _ _ (aA O (aT O h5 (by intro z;cases z)))⟩
 have ay:fj (jJ be ow):=akj (λf hf=>(a0 f hf).all) okO;refine g9 (xs:=[]) (λi Z H7=>Z=[some sv,some (.ref a),some (.ref D),some (.ref d),some (.ref d3),u,v,none]/\H7=H6) ⟨rfl,rfl⟩ ?_ ?_ ?_
 . rintro i Z H7 hi ⟨rfl,rfl⟩;exact ag.of e6
 . intro i v0 Z H7 hv;cases hv
 rintro Z H7 ⟨rfl,rfl⟩;exact⟨q d3 _ Y _ x9 (λb o eb _=>nJ _ _ eb) (aH.same nJ) a9 tV (Rm g2.nd ow) (by omega) ay ⟨px,be,⟨pn,λp U=>⟨pm p U,pc p U⟩⟩,g2,rfl⟩⟩
end
section
seal PE PS bu PA PT PW PG dv PI cL
theorem Rr{K:Fg}{g:TG}{tb:TS}{D:Ends}{Z:L2.St}{H:Hp}(G:ag K H a [])(hd:D.nx Z H) :
 ∃W:Nat->Nat->L2.St->Hp->Prop,(∃m,W 0 m Z H)/\∀i m Z H,W i m Z H ->
  ((xi K a).stop i H/\D.nx Z H)\/((xi K a).go i H/\∃N:L2.St->Hp->Prop,(∀σ' H',N σ' H'->∃m',m'<m/\W (i+1) m' σ' H')/\∀x H',(xi K a).yld i H x H'->g x Z H' λσ2 H2=>tb { D with nx:=N,ct:=N,bk:=D.nx } σ2 H2):=
 ⟨λi m σ' H'=>i=0/\σ'=Z/\H'=H,⟨0,rfl,rfl,rfl⟩,λi m σ' H' j=>j.elim λe1 z=>z.elim λe2 e3=>by subst e1 e2 e3;exact .inl ⟨⟨[],G,aD _⟩,hd⟩⟩
theorem GI{X:Cx}(K:Fg){es:List Expr}{k:Nat}{pos:Pos}{t:mL}{n:Nat}(G:X.calm=true)(h:dv X es t)(z:X.K=K:=by rfl)
 (J:(assignEach es X.env).length=n:=by rfl) (j:(assignEach es X.env).findIdx? (·.1)=none:=by rfl):PG X (.Tuple es k pos) (uJ K n t):=z▸kR G h J j
theorem nK{H H2:Hp}{o:HO}(n:H p=none)(s:ac H H2):ac H (ae H2 p o):=λb u e=>aA (s _ _ e) (aF e n)
abbrev rj (p:cM):Ls:=p.fs.map (·.1)
inductive Rs (C:Addr):Sp where
 | mk {H:Hp}{Q:VK}{E:XK}{v:V}{p:cM} (_:jI C H v p) (_:p.fs.length<=100) (_:fV H (.lst ((rj p).map V.str)) Q):Rs C [v] H Q E
theorem akw:aM [auC] [auC] (aC OV):=aV
theorem Rt(z:Pg K mg base Pt):au P w K mg base aL 1 z.PaO.f z.PaO.fd [auC] (Rs z.C):=by
 refine z.PaO.u.okL akw ?_;intro av A outer s H vs Q E hr h xX dX;obtain @⟨_,_,_,v,p,⟨a,dx,fl,rk,m,pf,pn,ps,po,xs,rfl,hA,hF,hM,kj,Y,_⟩,Ge,q⟩:=h;have hl:=bh Y;refine⟨_,(am (ba (gK [auA,auH] [] [] fq rfl (cr (bv (pv 0) rfl)) (λ_ _ _ _=>(GI (n:=2) K rfl (d8 (a8 (i:=0) (show List.Nodup ([auA,auH]:Ls) by decide +kernel) rfl (Or.inl rfl)) (d8 (a8 (i:=1) (show List.Nodup ([auA,auH]:Ls) by decide +kernel) rfl (Or.inl rfl)) jr)))) (λ_ _ _ _=>ix) (λ_ _ _ _=>(pv 0))))),?_⟩;refine⟨hA,z.TC.cl,z.TC.nF,hF.files,⟨_,ag.of kj⟩,?_⟩;intro D O;refine QK (σ0:=[none,none]) O (ag.of kj) (λZ=>∃u v,Z=[u,v]) (λj zs _=>zs=((rj p).take j).map V.str) ⟨_,_,rfl⟩ rfl ?_ ?_
 . rintro j y zs Z H3 k hy ⟨u,v,rfl⟩ G J rfl jz;obtain⟨f,U,t,l,rfl,f1,f2⟩:=ff Y hy;have aH:=(dB.mp U).1;have EF:(rj p)[j]?=some f.1:=by rw[cz,U];rfl
   refine⟨aP.of (J _ _ f1),rfl,rfl,?_⟩;refine⟨jz _ _ _ ⟨_,_,rfl⟩ (ac.refl _) (cp (by rw[ah,d5];omega)) ?_⟩;rw[vy EF,cK];rfl
 rintro zs H3 G J rfl;have e:(rj p).take xs.length=rj p:=asE (by rw[ah];omega);rw[e]at G;exact q D H3 O J G
inductive yb (C:Addr):Sp where
 | mk {H:Hp}{Q:VK}{E:XK}{v:V}{a:Addr}{xs:Lv}{p:cM}{ps:Lp} (_:jI C H v p) (_:H a=some (.lst xs)) (_:gW C H xs ps) (_:ps.length<=9) (_:p.fs.length<=9) (_:(∀o∈ps,o.fs.length<=9)) (_:(∀o∈ps,o.nm≠p.nm->∀x∈rj p,x∉rj o)) (_:fV H (.lst []) Q):yb C [v,.ref a] H Q E
theorem Bz:aM [auC,auB,"faults","number","claim"] [auC,auB] (aC OS):=aV
theorem akx(j:Pg K mg base Pt):au P w K mg base aL 1 j.NFa.f j.NFa.fd [auC,auB] (yb j.C):=by
 refine j.NFa.u.okL Bz ?_;intro U A outer s H vs Q E hr h xX dX;obtain @⟨_,_,_,v,a,xs,p,ps,⟨b,dx,fl,rk,m,pf,pn,vo,po,fx,rfl,J,O,hM,kj,jH,hO,hR,G,_⟩,ha,Y,l1,l2,l3,l4,q⟩:=h;refine⟨_,(ak (aJ (i:=2) Bz.nd rfl (Or.inl rfl) (cx dE))
  (ak (fD fC rfl (Ni (by rfl) j.B.enumerate (ao (bv (pv 0) rfl))) (kR rfl (d8 (a8 (i:=3) Bz.nd rfl (Or.inl rfl)) (d8 (a8 (i:=4) Bz.nd rfl (Or.inl rfl)) jr)))
  wo)
  (am (ba (pv 2))))),?_⟩
 refine kY ?_
 intros
 refine⟨AA,λp1 H1 n1 z e1=>?_⟩;refine⟨z _ _ J,j.TC.cl,j.TC.nE,O.needs,pn,rfl,⟨_,ag.of (z _ _ G)⟩,?_⟩;exact Rr (ag.of (z _ _ G)) ⟨q p1 H1 n1 z e1⟩
theorem yd:aM [auC,auB,"others","faults","number","claim"] [auC,auB] (aC OT):=aV
theorem aky(z:Pg K mg base Pt):au P w K mg base aL 1 z.SFa.f z.SFa.fd [auC,auB] (yb z.C):=by
 refine z.SFa.u.okL yd ?_;intro av A outer s H vs Q E hr h xX dX;obtain @⟨_,_,_,v,a,xs,p,ps,⟨b,dx,fl,rk,m,pf,pn,vo,po,fx,rfl,U,Y,hM,kj,jH,hO,hR,_,yc⟩,ha,O,l1,l2,l3,l4,q⟩:=h;have a0:=bh O;refine⟨_,(ak (zU (i:=2) [ava] [auC] [0] yd.nd rfl rfl fq rfl (cr (pv 1)) (λ_ _ _ _=>(a8 (i:=0) (show List.Nodup ([ava,auC]:Ls) by decide +kernel) rfl (Or.inl rfl))) (λ_ _ _ _=>qC (eW Dd (qH K (pv 0) rfl) (qH K (pv 1) rfl) (cj _))) (λ_ _ _ _=>(pv 0)))
  (ak (aJ (i:=3) yd.nd rfl (Or.inl rfl) (cx dE))
  (ak (fD fC rfl (Ni (by rfl) z.B.enumerate (ao (bv (pv 0) rfl))) (kR rfl (d8 (a8 (i:=4) yd.nd rfl (Or.inr rfl)) (d8 (a8 (i:=5) yd.nd rfl (Or.inl rfl)) jr)))
  wo)
  (am (ba (pv 3)))))),?_⟩
 refine lU ?_
 intros
 refine⟨⟨_,ag.of ha⟩,?_⟩;intro D hD;refine tP (σ0:=[none,some (.ref b)]) hD (ag.of ha) (λZ=>∃v,Z=[v,some (.ref b)]) (λj zs _=>zs.length<=j) ⟨_,rfl⟩ (aD _) ?_ ?_
 . rintro j y zs Z H3 k k' hy ⟨v,rfl⟩ eK G zl jz rm;obtain⟨o,ho,hE⟩:=ff O hy;have aH:=(dB.mp ho).1;obtain⟨b',ku,qR,Ru,m',Rv,Rw,Rx,Ry,Rz,rfl,BA,BB,_⟩:=id hE;refine⟨G _ _ BA,z.TC.cl,z.TC.nN,BB.name,G _ _ U,z.TC.cl,z.TC.nN,Y.name,rfl,⟨?_⟩⟩;refine cY (λh=>?_) (λh=>?_)
   . exact⟨jz _ _ _ ⟨_,rfl⟩ (ac.refl _) (cp (by omega)) (by rw[bD,mB];omega)⟩
   exact rm _ _ ⟨_,rfl⟩ (ac.refl _) (by omega)
 rintro zs H3 eK G zl;refine cb ?_;intro tT;refine⟨AA,λp1 H1 n1 s1 e1=>?_⟩;have J:=G.trans s1;refine⟨J _ _ U,z.TC.cl,z.TC.nS,Y.shuts,vo,rfl,⟨_,ag.of (J _ _ yc)⟩,?_⟩;exact Rr (ag.of (J _ _ yc)) ⟨q p1 H1 (G.free n1) J e1⟩
theorem yf:aM [auC,auB,"others","faults",ava,"paths"] [auC,auB] (aC OU):=aV
theorem akz(G:Pg K mg base Pt):au P w K mg base aL 2 G.CFa.f G.CFa.fd [auC,auB] (yb G.C):=by
 refine G.CFa.u.okL yf ?_;intro av A outer s H vs Q E hr h xX dX;obtain @⟨_,_,_,v,a,xs,p,ps,hP,ha,bO,l1,l2,l3,l4,q⟩:=h;obtain⟨b,dx,fl,rk,m,pf,pn,vo,po,fx,rfl,hA,hF,_⟩:=id hP;have a2:=bh bO;refine⟨_,(ak (zU (i:=2) [ava] [auC] [0] yf.nd rfl rfl fq rfl (cr (pv 1)) (λ_ _ _ _=>(a8 (i:=0) (show List.Nodup ([ava,auC]:Ls) by decide +kernel) rfl (Or.inl rfl))) (λ_ _ _ _=>qC (eW Nj (qH K (pv 0) rfl) (qH K (pv 1) rfl) (cj _))) (λ_ _ _ _=>(pv 0)))
  (ak (aJ (i:=3) yf.nd rfl (Or.inl rfl) (cx dE))
  (ak (fD fC rfl (cr (pv 2)) (a8 (i:=4) yf.nd rfl (Or.inr rfl))
  (ak (aJ (i:=5) yf.nd rfl (Or.inr rfl) (aU (Rt G) hr rfl (ao (pv 4))))
   (am (bI (dR ja oJ oK lO (pv 3) (ao (gK [auA] [auC,ava,"paths"] [0,4,5] fq rfl (cr (aU (Rt G) hr rfl (ao (pv 0)))) (λ_ _ _ _=>(a8 (i:=0) (show List.Nodup ([auA,auC,ava,"paths"]:Ls) by decide +kernel) rfl (Or.inl rfl))) (λ_ _ _ _=>qC (eW (abQ K) (pv 0) (pv 3) (by rfl))) (λ_ _ _ _=>(eE (uT bK (qH K (pv 1) rfl) (qH K (pv 2) rfl) (pv 0)))))))))))
  (am (ba (pv 3)))))),?_⟩
 refine lU ?_
 intros
 refine⟨⟨_,ag.of ha⟩,?_⟩;intro D hD;refine tP (σ0:=[none,some (.ref b)]) hD (ag.of ha) (λZ=>∃v,Z=[v,some (.ref b)]) (λj zs _=>zs.length<=j/\∃os,gW G.C H zs os/\∀o∈os,o∈ps/\o.nm≠p.nm) ⟨_,rfl⟩ ⟨aD _,[],.nil,λ_ h=>nomatch h⟩ ?_ ?_
 . rintro j y zs Z H3 k k' J ⟨v,rfl⟩ eK h3 ⟨zl,os,zp,zo⟩ jz rm;obtain⟨o,Y,U⟩:=ff bO J;have aH:=(dB.mp Y).1;obtain⟨b',ku,qR,Ru,m',Rv,Rw,Rx,Ry,Rz,rfl,BA,BB,_⟩:=id U;refine⟨h3 _ _ BA,G.TC.cl,G.TC.nN,BB.name,h3 _ _ hA,G.TC.cl,G.TC.nN,hF.name,_,_,rfl,rfl,⟨?_⟩⟩;refine cY (λh=>?_) (λh=>?_)
   . refine⟨jz _ _ _ ⟨_,rfl⟩ (ac.refl _) (cp (by omega)) ⟨by rw[bD,mB];omega,os++[o],ie U zp,λo' f8=>?_⟩⟩
     rcases dA.mp f8 with z | z
     . exact zo o' z
     rw[bX.mp z];refine⟨d6 Y,λe=>?_⟩;have h:=cq h;rw[e]at h;exact List.lt_irrefl _ h
   exact rm _ _ ⟨_,rfl⟩ (ac.refl _) ⟨by omega,os,zp,zo⟩
 rintro oz H0 d0 s0 ⟨zl,os,a1,zo⟩;refine cb ?_;intro tT;refine⟨AA,λp1 H1 n1 s1 e1=>?_⟩;refine⟨⟨_,ag.of (s1 _ _ d0)⟩,?_⟩;have ye:=s0.trans s1;refine g9 (xs:=oz) (λi Z H2=>∃u v,Z=[some (.ref b),some (.ref a),some (.ref D),some (.ref p1),u,v]/\ac H0 H2/\H2 p1=some (.lst [])) ⟨none,none,rfl,s1,e1⟩ ?_ ?_ ?_
 . rintro i Z H2 hi ⟨u,v,rfl,O,e2⟩;exact ag.of (O _ _ d0)
 . intro i z Z H2 hz hQ;refine cb ?_;intro tT;obtain⟨u,v,rfl,O,e2⟩:=hQ;obtain⟨o,Y,U⟩:=ff a1 hz;obtain⟨om,on⟩:=zo o (d6 Y);have lo:=l3 o om;obtain⟨b',ku,qR,Ru,m',Rv,Rw,Rx,Ry,Rz,rfl,BA,BB,_⟩:=id U;have RA:=s0.trans O;refine⟨U.same RA,by omega,λl5 H5 n5 s5 e5=>?_⟩;have kz:=RA.trans s5;refine⟨.inl ⟨rfl,_,ag.of (s5 _ _ e2)⟩,hP.same kz,by omega,λl6 H6 n6 s6 e6=>⟨⟨_,ag.of e6⟩,?_⟩⟩;intro D7 nQ;refine tP (σ0:=[none,some (.ref b),some (.ref b'),some (.ref l5)]) nQ (ag.of e6) (λZ=>∃v,Z=[v,some (.ref b),some (.ref b'),some (.ref l5)]) (λj fN H7=>fN=[]) ⟨_,rfl⟩ rfl ?_ ?_
   . rintro j y fN Z H7 k k' J ⟨v,rfl⟩ RB h7 rfl jz rm;rw[cz]at J;cases hx:(rj p)[j]? with
     | none=>rw[hx]at J;cases J
     | some x=>
      rw[hx]at J;cases J;refine⟨.inl (ag.of (h7 _ _ (s6 _ _ e5))),rfl,ajk _,⟨?_⟩⟩;refine cY (λh=>?_) (λh=>?_)
      . exact absurd (ajo.mp h) (l4 o om on x (d6 hx))
      exact rm _ _ ⟨_,rfl⟩ (ac.refl _) rfl
   rintro fN H7 RB h7 rfl;have tW:=s5.trans (s6.trans h7);have a0:=tW _ _ e2;refine⟨a0,RB,by decide,?_⟩;exact⟨_,_,rfl,nK n1 (O.trans tW),aw⟩
 rintro Z H2 ⟨u,v,rfl,O,e2⟩;exact⟨q p1 H2 (s0.free n1) (s0.trans O) e2⟩
inductive RC (C S:Addr):Sp where
 | mk {H:Hp}{Q:VK}{E:XK}{j:V}{c:Addr}{xs:Lv}{ps:Lp}{ch:Ch}{ns:Ls} (_:fw S H j xs ps) (_:gW C H xs ps) (_:Apart ns ps) (_:bP H c ch) (_:vq xs ps ch) (_:ch.length<=5) (_:fV H (.lst []) Q):RC C S [j,.ref c] H Q E
theorem BC:aM [auw,aux,auB,"faults",auC] [auw,aux] (aC OQ):=aV
theorem akC(j:Pg K mg base Pt):au P w K mg base aL 3 j.FaO.f j.FaO.fd [auw,aux] (RC j.C j.S):=by
 refine j.FaO.u.okL BC ?_;intro av A outer s H vs Q E J h xX dX;obtain @⟨_,_,_,sv,c,xs,ps,ch,ns,hS,hP,yg,hc,hV,h4,q⟩:=h;refine⟨_,(ak (aJ (i:=2) BC.nd rfl (Or.inl rfl) (aU (Bh j) J rfl (aO (pv 0) (pv 1))))
  (ak (aJ (i:=3) BC.nd rfl (Or.inl rfl) (cx dE))
  (ak (fD fC rfl (cr (pv 2)) (a8 (i:=4) BC.nd rfl (Or.inl rfl))
  (ak (bI (dR ja oJ oK lO (pv 3) (ao (aU (akx j) J rfl (aO (pv 4) (pv 2))))))
   (ak (bI (dR ja oJ oK lO (pv 3) (ao (aU (aky j) J rfl (aO (pv 4) (pv 2))))))
   (am (bI (dR ja oJ oK lO (pv 3) (ao (aU (akz j) J rfl (aO (pv 4) (pv 2))))))))))
  (am (ba (cW ab1 (by rfl) j.B.sorted rL (ao (pv 3)))))))),?_⟩
 refine lU ?_
 intros
 refine⟨hS,hc,hV,by omega,λD H1 tO px n1 s1 e1 pr pn pc=>?_⟩;have x6:=Bj (hP.same s1) pr;have pm:=Bl pr;have cV:px.length<=5:=by
  have e:=pn.length_eq;rw[ah,ah]at e;omega
 refine⟨AA,λp1 H2 n2 s2 e2=>?_⟩;refine⟨⟨_,ag.of (s2 _ _ e1)⟩,?_⟩;refine g9 (xs:=tO) (λi Z H3=>∃u,Z=[some sv,some (.ref c),some (.ref D),some (.ref p1),u]/\ac H1 H3/\H3 p1=some (.lst [])) ⟨none,rfl,s2,e2⟩ ?_ ?_ ?_
 . rintro i Z H3 hi ⟨u,rfl,s3,e3⟩;exact ag.of (s3 _ _ e1)
 . intro i z Z H3 hz hQ;refine cb ?_;intro tT;obtain⟨u,rfl,s3,e3⟩:=hQ;obtain⟨p,hp,hE⟩:=ff x6 hz;have pp:=pm p (d6 hp);have Y:∀{G:Hp}{Q:VK},ac H1 G->fV G (.lst []) Q->yb j.C [z,.ref D] G Q E0:=λ{G Q} sx q=>⟨hE.same sx,sx _ _ e1,x6.same sx,by omega,by have:=(yg.ok p pp).1;omega,λo ho=>by have:=(yg.ok o (pm o ho)).1;omega,λo ho ne x hx ir=>ne (yg.one o (pm o ho) p pp x ir hx),q⟩;refine⟨.inl ⟨rfl,_,ag.of e3⟩,⟨⟨Y s3 λD4 U n4 O e4=>?_⟩⟩⟩;have m4:ac H1 (ae U p1 (.lst ([]++[]))):=nK n2 (s3.trans O);refine⟨O _ _ e3,e4,by decide,?_⟩;refine⟨.inl ⟨rfl,_,ag.of aw⟩,⟨⟨Y m4 λD5 H5 n5 s5 e5=>?_⟩⟩⟩;have m5:ac H1 (ae H5 p1 (.lst (([]++[])++[]))):=nK n2 (m4.trans s5);refine⟨s5 _ _ aw,e5,by decide,?_⟩;refine⟨.inl ⟨rfl,_,ag.of aw⟩,⟨⟨Y m5 λD6 H6 n6 s6 e6=>?_⟩⟩⟩;refine⟨s6 _ _ aw,e6,by decide,?_⟩;exact⟨_,rfl,nK n2 (m5.trans s6),aw⟩
 rintro Z H3 ⟨u,rfl,s3,e3⟩;refine⟨p1,[],rfl,ag.of e3,by decide,λbF a0 srt p4 U n4 O e4=>?_⟩;have ey:bF=[]:=a0.eq_nil;subst ey;exact q p4 U (s1.free (s3.free n4)) (s1.trans (s3.trans O)) e4
inductive RD (C S:Addr):Sp where
 | mk {H:Hp}{Q:VK}{E:XK}{j:V}{c:Addr}{xs:Lv}{ps:Lp}{ch:Ch}{ns:Ls} (_:fw S H j xs ps) (_:gW C H xs ps) (_:Apart ns ps) (_:bP H c ch) (_:vq xs ps ch) (_:ch.length<=5) (_:∀H',ac H H'->Q (.bl true) H'):RD C S [j,.ref c] H Q E
theorem akE:aM [auw,aux] [auw,aux] (aC OR):=aV
theorem RE(j:Pg K mg base Pt):au P w K mg base aL 4 j.Sou.f j.Sou.fd [auw,aux] (RD j.C j.S):=by
 refine j.Sou.u.okL akE ?_;intro av A outer s H vs Q E Y h xX dX;obtain @⟨_,_,_,sv,c,xs,ps,ch,ns,J,G,yg,U,O,z,q⟩:=h;refine⟨_,(am (ba (je kS (cW oY (by rfl) j.B.len mG (ao (aU (akC j) Y rfl (aO (pv 0) (pv 1))))) aZ (cj _)))),?_⟩;exact⟨J,G,yg,U,O,z,λr H1 n1 s1 e1=>⟨r,_,rfl,.inl (ag.of e1),rfl,q H1 s1⟩⟩
variable {H:Hp}{xs:Lv}{ps:Lp}{ns:Ls}{v:V}{A:List Addr}{n:Str}
structure jK(C S:Addr)(H:Hp)(sv:V)(xs:Lv)(ps:Lp)(ns:Ls):Prop where
 sh:fw S H sv xs ps
 pc:gW C H xs ps
 ap:Apart ns ps
 n4:ns.length<=5
 nm:∀n∈ns,cm n
theorem jK.same{H':Hp}{j:V}(h:jK C S H j xs ps ns)(s:ac H H'):jK C S H' j xs ps ns:=⟨h.sh.same s,h.pc.same s,h.ap,h.n4,h.nm⟩
theorem jK.pcok{J:V}(h:jK C S H J xs ps ns):∀p∈ps,Rk ns p:=λp j=>by
 obtain⟨a,b,c⟩:=h.ap.ok p j;exact⟨a,λf z=>⟨by have:=(b f z).2.2;omega,λx G=>((b f z).2.1 x G).ln⟩,h.ap.offs p j,(h.nm _ (h.ap.nms p j)).ln⟩
structure dN(xs:Lv)(ps:Lp)(ch:Ch):Prop where
 nd:(ch.map (·.1)).Nodup
 va:vq xs ps ch
theorem GJ{p:cM}(h:vp xs ps v p):p∈ps:=h.elim λ_ j=>j.elim λa _=>d6 a
theorem dN.len{ch:Ch}(h:dN xs ps ch)(a:Apart ns ps)(G:ns.length<=5):ch.length<=5:=by
 have:=iT h.nd λx z=>by
  obtain⟨e,j,rfl⟩:=bf.mp z;obtain⟨v,p,hi,e1,_⟩:=h.va e j;exact e1▸a.nms p (GJ hi)
 rw[ah]at this;omega
theorem akG{β:Type}{j now:List (Str×β)}{x:Str}{e:Str×β}(h:e∈bC j now x):e∈now\/e∈j:=by
 unfold bC at h;split at h
 . rename_i m G
   rcases qU h with z | z
   . right;rw[z];exact pL G
   exact .inl z
 exact .inl (qe.mp h).1
theorem dN.step{now j:Ch}(h:dN xs ps now)(g:dN xs ps j)(x:Str):dN xs ps (bC j now x):=⟨QZ h.nd,λe z=>(akG z).elim (h.va e) (g.va e)⟩
theorem dN.steps{j:Ch}(g:dN xs ps j):∀{us:Ls}{now:Ch},dN xs ps now->dN xs ps (us.foldl (bC j) now)
 | [],_,h=>h
 | x::us,_,h=>dN.steps g (us:=us) (h.step g x)
theorem bP.mut{zs fN:Lv}{ch:Ch}(j:H D=some (.lst zs))(h:bP H c ch):bP (ae H D (.lst fN)) c ch:=by
 obtain⟨kvs,h1,h2⟩:=h;exact⟨kvs,aA h1 (aT h1 j (by intro z;cases z)),aB h2 λkv e G=>G.elim λa J=>J.elim λm O=>O.elim λb c=>⟨a,m,b,aA c (aT c j (by intro z;cases z))⟩⟩
theorem GK{kvs:List (aq×V)}{fs:Ch}(h:Paired (fM H) kvs fs)(nd:(fs.map (·.1)).Nodup)(p:Str):(look fs p=none/\bJ kvs (.inr p)=none)\/(∃m t,look fs p=some m/\bJ kvs (.inr p)=some (.ref t)/\H t=some (.tup (m.map V.int))):=by
 have G:∀kv f,fM H kv f->kv.1=Sum.inr f.1:=λkv f z=>z.1
 by_cases j:p∈fs.map (·.1)
 . obtain⟨v,m,e,J,r⟩:=nu G h j;obtain⟨_,t,e2,e3⟩:=r;have e2:v=.ref t:=e2;exact .inr ⟨m,t,tR nd J,by rw[e,e2],e3⟩
 exact .inl ⟨fZ.mpr j,tE G h j⟩
def GL:Oi->W.Dat
 | none=>.none
 | some m=>dI m
theorem akK{a b:Oi}(h:GL a=GL b):a=b:=by
 cases a with
 | none=>
  cases b with
  | none=>rfl
  | some y=>cases h
 | some x=>
  cases b with
  | none=>cases h
  | some y=>rw[ajh.mp h]
def iG(A:List Addr)(H:Hp)(v:V)(n:Str):Prop:=∃l,v=.ref l/\l∉A/\H l=some (.lst [.str n])
theorem iG.same{H':Hp}(s:ac H H')(h:iG A H v n):iG A H' v n:=h.elim λl j=>j.elim λa z=>z.elim λb c=>⟨l,a,b,s _ _ c⟩
theorem iG.mut(j:D∈A){o:HO}(h:iG A H v n):iG A (ae H D o) v n:=by
 obtain⟨l,a,b,c⟩:=h;exact⟨l,a,b,by rw[aE (show l≠D from λz=>b (by rw[z];exact j))];exact c⟩
theorem iG.sub{B:List Addr}(hs:∀x∈B,x∈A)(h:iG A H v n):iG B H v n:=h.elim λl j=>j.elim λa G=>G.elim λb c=>⟨l,a,λz=>b (hs l z),c⟩
abbrev akP:Sp:=Bt fM λ_=>True
theorem GN(j:Pg K mg base Pt):au P w K mg base aL 1 j.KUn.f j.KUn.fd [au8,au3] akP:=
 Q3 (Fv:=fM) (OK:=λ_=>True) (dat:=GL) (λ_ _ _ z=>z.1) (λs z=>fM.same s z) akK (λh nd _ p=>by
  rcases GK h nd p with⟨e1,e2⟩ | ⟨m,t,e1,e2,e3⟩
  . rw[e1,e2];exact⟨.non,rfl⟩
  rw[e1,e2];exact⟨ajj e3,aji 8 m⟩) j
inductive RF:Sp where
 | mk {H:Hp}{Q:VK}{E:XK}{a b c:Addr}{now j:Ch}{x:Str} (_:bP H a now) (_:bP H b j) (_:(now.map (·.1)).Nodup) (_:(j.map (·.1)).Nodup) (_:H c=some (.lst [.str x])) (_:now.length<=50) (_:∀r H',H r=none->ac H H'->bP H' r (bC j now x)->Q (.ref r) H'):RF [.ref a,.ref b,.ref c] H Q E
theorem GO:aM [auR,auL,auX,"behind",auy] [auR,auL,auX] (aC O5):=aV
theorem GP(O:Pg K mg base Pt):au P w K mg base aL 1 O.Beh.f O.Beh.fd [auR,auL,auX] RF:=by
 refine O.Beh.u.okL GO ?_;intro av A outer s H vs Q E hr h xX dX;obtain @⟨_,_,_,a,b,c,now,Y,x,⟨kn,hn,pn⟩,⟨kg,hg,pg⟩,Gz,GA,hc,hl,q⟩:=h;have J:=hr.units;refine⟨_,(ak (aJ (i:=3) GO.nd rfl (Or.inl rfl) (eX sU (by rfl) O.B.dict wc (ao (pv 0))))
  (ak (fD fC rfl (cr (pv 2)) (a8 (i:=4) GO.nd rfl (Or.inl rfl))
  (am (cU (rR (wG J (pv 4) (pv 1)) (by rfl))
   (am (kX J (pv 3) (pv 4) (sK J (pv 1) (pv 4) (λ_ _=>rfl)) rfl)) (am (cU (rR (wG J (pv 4) (pv 3)) (by rfl))
    (am (bI (DM (pv 3) (pv 4) ⟨rfl,rfl,rfl,rfl⟩))) eU)))))
  (am (ba (pv 3))))),?_⟩
 refine kY ?_;intro dD sS im gf;have pl:=bh pn;have hk:∀kv f,fM H kv f->kv.1=Sum.inr f.1:=λkv f z=>z.1;refine⟨a,_,rfl,hn,λp1 H1 n1 s1 e1=>?_⟩;refine⟨⟨_,ag.of (s1 _ _ hc)⟩,?_⟩;refine g9 (xs:=[.str x]) (λi Z H2=>∃u kvs,Z=[some (.ref a),some (.ref b),some (.ref c),some (.ref p1),u]/\ac H H2/\H2 p1=some (.dK kvs)/\Paired (fM H) kvs (if i=0 then now else bC Y now x)) ⟨none,kn,rfl,s1,e1,pn⟩ ?_ ?_ ?_
 . rintro i Z H2 hi ⟨u,kvs,rfl,j,_⟩;exact ag.of (j _ _ hc)
 . intro i x' Z H2 hx hQ;refine cb ?_;intro tT;obtain⟨u,kvs,rfl,j,e2,p2⟩:=hQ;have i0:i=0:=by have:=(dB.mp hx).1;simpa using this
   subst i0;cases hx;rw[ai rfl]at p2;have kl:=bh p2;have BD:=j _ _ hg;refine⟨_,cw.k (k:=.inr x) BD,⟨?_⟩⟩
   rcases GK pg GA x with⟨U,G⟩ | ⟨m,t,U,G,g3⟩
   . rw[G];refine eB ?_;have es:bC Y now x=mi now x:=by unfold bC;rw[U]
     refine⟨_,cw.k (k:=.inr x) e2,⟨?_⟩⟩
     rcases GK p2 Gz x with⟨k1,k2⟩ | ⟨m,t,k1,k2,k3⟩
     . rw[k2];refine eB ⟨_,kvs,rfl,j,e2,?_⟩;rw[af (by decide),es,QU (fZ.mp k1)];exact p2
     rw[k2];refine eR ⟨.inl ⟨_,.inl e2⟩,kvs,.inr x,.ref t,e2,rfl,k2,?_⟩;refine⟨_,_,rfl,nK n1 j,aw,?_⟩;rw[af (by decide),es];exact QT hk p2
   rw[G];refine eR ⟨by rw[<-G];exact cw.k (k:=.inr x) BD,ib.k (k:=.inr x) e2 (cp (by omega)),?_⟩;refine⟨_,_,rfl,nK n1 j,aw,?_⟩;have es:bC Y now x=bG now x m:=by unfold bC;rw[U]
   rw[af (by decide),es];exact li hk ⟨rfl,t,rfl,g3⟩ p2
 rintro Z H2 ⟨u,kvs,rfl,j,e2,p2⟩;rw[af (by simp)]at p2;exact⟨q p1 H2 n1 j ⟨kvs,e2,aB p2 λ_ _=>fM.same j⟩⟩
inductive RG:Sp where
 | mk {H:Hp}{Q:VK}{E:XK}{a b z:Addr}{names:Ls} (_:H a=some (.lst [.ref z])) (_:H z=some (.lst [])) (_:H b=some (.lst (names.map V.str))) (_:names.length<=50) (_:∀l ys H',H l=none->ac H H'->H' l=some (.lst ys)->Paired (iG [] H') ys names->Q (.ref l) H'):RG [.ref a,.ref b] H Q E
theorem GQ:aM [avb,au0,"larger",auX] [avb,au0] (aC O7):=aV
theorem akQ(zZ:Pg K mg base Pt):au P w K mg base aL 1 zZ.Wom.f zZ.Wom.fd [avb,au0] RG:=by
 refine zZ.Wom.u.okL GQ ?_;intro av A outer s H vs Q E hr h xX dX;obtain @⟨_,_,_,a,b,z,names,ha,hz,hb,n1,q⟩:=h;refine⟨_,(ak (aJ (i:=2) GQ.nd rfl (Or.inl rfl) (cx dE))
  (ak (fD fC rfl (cr (pv 0)) (a8 (i:=3) GQ.nd rfl (Or.inr rfl))
  (am (bI (dR ja oJ oK lO (pv 2) (ao (gK [auy] [auX] [3] fq rfl (cr (pv 1)) (λ_ _ _ _=>(a8 (i:=0) (show List.Nodup ([auy,auX]:Ls) by decide +kernel) rfl (Or.inl rfl))) (λ_ _ _ _=>qC (PW.pt (wn (eW kS (cW (Lz K) (by rfl) zZ.B.len mG (ao (pv 1))) aZ (cj _)) (wm (eW Nj (pv 0) (eY (abP K) (pv 1) (zA zB aZ) (λ_ _=>rfl)) (cj _)))))) (λ_ _ _ _=>(cF DW (pv 1) (cx (ao (pv 0)))))))))))
  (am (ba (pv 2))))),?_⟩
 refine kY ?_;intro dD sS im gf;refine⟨AA,λp1 H1 RH s1 e1=>?_⟩;refine⟨⟨_,ag.of (s1 _ _ ha)⟩,?_⟩;refine g9 (xs:=[.ref z]) (λi Z H2=>∃u ys,Z=[some (.ref a),some (.ref b),some (.ref p1),u]/\ac H H2/\H2 p1=some (.lst ys)/\Paired (iG [p1] H2) ys (if i=0 then [] else names)) ⟨none,[],rfl,s1,e1,.nil⟩ ?_ ?_ ?_
 . rintro i Z H2 hi ⟨u,ys,rfl,G,_⟩;exact ag.of (G _ _ ha)
 . intro i x Z H2 hx hQ;refine cb ?_;intro tT;obtain⟨u,ys,rfl,G,e2,p2⟩:=hQ;have i0:i=0:=by have:=(dB.mp hx).1;simpa using this
   subst i0;cases hx;cases p2;refine⟨.inl ⟨rfl,_,ag.of e2⟩,⟨_,ag.of (G _ _ hb)⟩,?_⟩;intro D hD;have nD:p1≠D:=λz=>by rw[<-z,e2]at hD;cases hD
   refine tP (σ0:=[none,some (.ref z)]) hD (ag.of (G _ _ hb)) (λZ=>∃v,Z=[v,some (.ref z)]) (λj ws H3=>Paired (iG [D,p1] H3) ws (names.take j)) ⟨_,rfl⟩ .nil ?_ ?_
   . rintro j y ws Z H3 k k' U ⟨v,rfl⟩ eK O J jz rm;rw[cz]at U;cases hn:names[j]? with
     | none=>rw[hn]at U;cases U
     | some n=>
      rw[hn]at U;cases U;have RI:=O _ _ (G _ _ hz);have wl:=bh J;rw[d5]at wl;refine⟨z,_,rfl,.inl (ag.of RI),rfl,⟨eR (eR ⟨Aq,λp5 H5 n5 s5 e5=>?_⟩)⟩⟩;refine⟨s5 _ _ RI,e5,(show 0+1<=sizeLine by decide),λp6 H6 n6 s6 e6=>?_⟩;have RJ:=s5.trans s6;refine jz _ _ _ ⟨_,rfl⟩ RJ (cp (by omega)) ?_;rw[vy hn];refine ie (iG.mut (by simp) ⟨p6,rfl,?_,e6⟩) (aB J λ_ _ z=>(z.same RJ).mut (by simp));intro z;have Y:H3 p6=none:=s5.free n6
      rcases bc.mp z with e | e
      . rw[e,eK]at Y;cases Y
      rw[bX.mp e]at Y;have:=O _ _ e2;rw[this]at Y;cases Y
   rintro ws H3 eK O J;rw[ah,eN]at J;have wl:=bh J;have a0:=O _ _ e2;refine⟨a0,eK,lS (by simp;omega),?_⟩;refine⟨_,_,rfl,nK RH (G.trans O),aw,?_⟩;rw[af (by decide)];exact aB J λ_ _ z=>(z.mut (D:=p1) (by simp)).sub (by simp)
 rintro Z H2 ⟨u,ys,rfl,G,e2,p2⟩;rw[af (by simp)]at p2;exact⟨q p1 ys H2 RH G e2 (aB p2 λ_ _ z=>z.sub (by simp))⟩
inductive RK (C S:Addr):Sp where
 | mk {H:Hp}{Q:VK}{E:XK}{z:V}{a b c:Addr}{xs:Lv}{ps:Lp}{ns:Ls}{now j:Ch}{x:Str}{names:Ls} (_:jK C S H z xs ps ns) (_:bP H a now) (_:bP H b j) (_:dN xs ps now) (_:dN xs ps j) (_:H c=some (.lst ((x::names).map V.str))) (_:names.length<=40) (_:∀l H',ac H H'->H' l=some (.lst [.str x])->Q (.ref l) H'):RK C S [z,.ref a,.ref b,.ref c] H Q E
theorem yi:aM [auw,auR,auL,au0,avb,"many",auX] [auw,auR,auL,au0] (aC O6):=aV
theorem akS(G:Pg K mg base Pt):au P w K mg base aL 5 G.Fst.f G.Fst.fd [auw,auR,auL,au0] (RK G.C G.S):=by
 refine G.Fst.u.okL yi ?_;intro av A outer s H vs Q E hr h xX dX;obtain @⟨_,_,_,sv,a,b,c,xs,ps,ns,now,a0,x,names,O,hA,hB,k1,k2,Y,a1,q⟩:=h;refine⟨_,(ak (aJ (i:=4) yi.nd rfl (Or.inl rfl) (cx (ao (cx dE))))
  (ak (fD fC rfl (Xp rfl G.B.range (aO aZ (cW oY (by rfl) G.B.len mG (ao (pv 3))))) (a8 (i:=5) yi.nd rfl (Or.inl rfl))
  (ak (aJ (i:=4) yi.nd rfl (Or.inl rfl) (aU (akQ G) hr rfl (aO (pv 4) (pv 3))))
   (am (fD fC rfl (cr (pv 4)) (a8 (i:=6) yi.nd rfl (Or.inl rfl))
   (am (cU (gQ (aU (RE G) hr rfl (aO (pv 0) (aU (GP G) hr rfl (eZ (pv 1) (pv 2) (pv 6))))))
    (am (ba (pv 6))) eU))))))
  (am (ba (pv 3))))),?_⟩
 refine kY ?_;intro dD sS im gf;refine⟨AA,λp1 H1 n1 s1 e1=>?_⟩;refine⟨Aq,λp2 H2 n2 s2 e2=>?_⟩;have J:=s1.trans s2;have el:(((x::names).map V.str).length:Int)=1+(names.length:Int):=by rw[ah,bq];omega
 refine⟨c,_,rfl,.inl (ag.of (J _ _ Y)),⟨by omega,by omega,by omega,by omega⟩,?_⟩;refine C5 (λi Z H3=>i=0/\Z=[some sv,some (.ref a),some (.ref b),some (.ref c),some (.ref p2),none,none]/\H3=H2) ⟨rfl,rfl,rfl⟩ ?_ ?_
 . rintro i Z H3 hi ⟨rfl,rfl,rfl⟩;refine cb ?_;intro tT;refine⟨e2,s2 _ _ e1,J _ _ Y,by rw[bq];omega,λl ys H4 n4 s4 e4 pr=>?_⟩;refine⟨⟨_,ag.of e4⟩,?_⟩;cases pr with
   | @cons y _ bF _ hy a2=>
   obtain⟨yl,rfl,_,RL⟩:=hy;refine g9 (xs:=.ref yl::bF) (λj Z U=>j=0/\Z=[some sv,some (.ref a),some (.ref b),some (.ref c),some (.ref l),some (.int (1+(0:Nat))),none]/\U=H4) ⟨rfl,rfl,rfl⟩ ?_ ?_ ?_
   . rintro j Z U hj ⟨rfl,rfl,rfl⟩;exact ag.of e4
   . rintro j z Z U hz ⟨rfl,rfl,rfl⟩;cases hz;have kC:=J.trans s4;have l4:=k1.len O.ap O.n4;refine⟨hA.same kC,hB.same kC,k1.nd,k2.nd,RL,by omega,λr H6 n6 s6 c6=>?_⟩;have k3:=k1.step k2 x;have W6:=O.same (kC.trans s6);refine⟨W6.sh,W6.pc,W6.ap,c6,k3.va,k3.len O.ap O.n4,λH7 s7=>⟨eR ?_⟩⟩;exact⟨q yl H7 ((kC.trans s6).trans s7) ((s6.trans s7) _ _ RL)⟩
   rintro Z U ⟨h,_⟩;exact absurd h (by simp)
 rintro Z H3 ⟨h,rfl,rfl⟩;have n0:names=[]:=vZ.mp (by omega);rw[n0]at Y;exact⟨q c _ J (J _ _ Y)⟩
inductive RM (C S:Addr):Sp where
 | mk {H:Hp}{Q:VK}{E:XK}{z:V}{a b:Addr}{xs:Lv}{ps:Lp}{ns:Ls}{now j:Ch} (_:jK C S H z xs ps ns) (_:bP H a now) (_:bP H b j) (_:dN xs ps now) (_:dN xs ps j) (_:∀l zs us H',H l=none->ac H H'->H' l=some (.lst zs)->iF now j us->Paired (iG [l] H') zs us->Q (.ref l) H'):RM C S [z,.ref a,.ref b] H Q E
theorem tX:aM [auw,auR,auL,avb,"reached","left",auX] [auw,auR,auL] (aC O4):=aV
theorem akT(G:Pg K mg base Pt):au P w K mg base aL 6 G.Gro.f G.Gro.fd [auw,auR,auL] (RM G.C G.S):=by
 refine G.Gro.u.okL tX ?_;intro av A outer s H vs Q E hr h xX dX;obtain @⟨_,_,_,sv,a,b,xs,ps,ns,now,O,J,hA,hB,cA,Y,q⟩:=h;have gz:=hr.mono (j:=1) (by decide);have nl:=cA.len J.ap J.n4;have gl:=Y.len J.ap J.n4;refine⟨_,(ak (aJ (i:=3) tX.nd rfl (Or.inl rfl) (cx dE))
  (ak (aJ (i:=4) tX.nd rfl (Or.inl rfl) (pv 1))
  (ak (aJ (i:=5) tX.nd rfl (Or.inl rfl) (aU (GN G) gz rfl (aO (pv 4) (pv 2))))
  (ak (Xb fC (eW JU (cW oY (by rfl) G.B.len mG (ao (pv 5))) aZ (cj _)) (ak (aJ (i:=6) tX.nd rfl (Or.inl rfl) (aU (akS G) hr rfl (uT (pv 0) (pv 4) (pv 2) (pv 5))))
   (ak (bI (dR ja y8 y9 sw (pv 3) (ao (pv 6))))
   (ak (aJ (i:=4) tX.nd rfl (Or.inl rfl) (aU (GP G) gz rfl (eZ (pv 4) (pv 2) (pv 6))))
   (am (aJ (i:=5) tX.nd rfl (Or.inl rfl) (aU (GN G) gz rfl (aO (pv 4) (pv 2)))))))))
  (am (ba (pv 3))))))),?_⟩
 refine Ah ?_;intro dD sS A9 vm im gf;refine⟨AA,λp1 H1 n1 s1 e1=>?_⟩;refine⟨?_⟩;obtain⟨ka,a3,a4⟩:=hA.same s1;obtain⟨kb,Bp,jC⟩:=hB.same s1;refine⟨a3,Bp,a4,jC,cA.nd,Y.nd,trivial,trivial,xW (by omega),λl2 H2 us n2 s2 e2 U=>?_⟩;have bj:=s1.trans s2;have ul:=U.len;refine⟨λm Z H3=>∃i re lf u zs,m=us.length - i/\i<=us.length/\Z=[some sv,some (.ref a),some (.ref b),some (.ref p1),some (.ref re),some (.ref lf),u]/\ac H H3/\H3 p1=some (.lst zs)/\Paired (iG [p1] H3) zs (us.take i)/\bP H3 re ((us.take i).foldl (bC O) now)/\lf≠p1/\H3 lf=some (.lst ((us.drop i).map V.str)),
  ⟨_,0,a,l2,none,[],rfl,cE _,rfl,bj,s2 _ _ e1,.nil,hA.same bj,(aF e1 n2).symm,e2⟩,?_⟩
 intro m Z H3 hQ;refine cb ?_;intro tT;obtain⟨i,re,lf,u,zs,rfl,hi,rfl,s3,e3,p3,c3,a9,el⟩:=hQ;have zl:=bh p3;rw[d5]at zl;have k3:dN xs ps ((us.take i).foldl (bC O) now):=Y.steps cA;refine⟨lf,_,rfl,.inl (ag.of el),⟨⟨?_⟩⟩⟩;refine cY (λh=>?_) (λh=>?_)
 . have tm:(0:Int)<(((us.drop i).map V.str).length:Int):=cq h;rw[ah,vX]at tm;have aH:i<us.length:=by omega
   have hx:us[i]?=some us[i]:=fo aH;have ed:us.drop i=us[i]::us.drop (i+1):=IY aH;rw[ed]at el;refine⟨λσ' H'=>∃m',m'<us.length - i/\∃i re lf u zs,m'=us.length - i/\i<=us.length/\σ'=[some sv,some (.ref a),some (.ref b),some (.ref p1),some (.ref re),some (.ref lf),u]/\ac H H'/\H' p1=some (.lst zs)/\Paired (iG [p1] H') zs (us.take i)/\bP H' re ((us.take i).foldl (bC O) now)/\lf≠p1/\H' lf=some (.lst ((us.drop i).map V.str)),λσ' H' h=>h,?_⟩;refine lU ?_
   intros
   refine⟨J.same s3,c3,hB.same s3,k3,Y,el,by rw[vX];omega,λl4 H4 s4 e4=>?_⟩;have BE:=s4 _ _ e3;have n4:l4≠p1:=λz=>by
    rw[z,BE]at e4;injection e4 with e4
    injection e4 with e4
    rw[e4]at p3;obtain⟨_,_,l,hl,_⟩:=ff (i:=0) p3 rfl;cases hl
   refine⟨.inl ⟨rfl,_,ag.of BE⟩,BE,cp (by omega),?_⟩;have m5:ac H (ae H4 p1 (.lst (zs++[.ref l4]))):=nK n1 (s3.trans s4);have cc:bP (ae H4 p1 (.lst (zs++[.ref l4]))) re ((us.take i).foldl (bC O) now):=bP.mut BE (c3.same s4);have e5:ae H4 p1 (.lst (zs++[.ref l4])) l4=some (.lst [.str us[i]]):=by rw[aE n4];exact e4
   have cl:=k3.len J.ap J.n4;refine⟨cc,hB.same m5,k3.nd,Y.nd,e5,by omega,λr6 H6 n6 s6 c6=>?_⟩;have st:bC O ((us.take i).foldl (bC O) now) us[i]=(us.take (i+1)).foldl (bC O) now:=by rw[vy hx,kM];rfl
   rw[st]at c6;have k6:dN xs ps ((us.take (i+1)).foldl (bC O) now):=Y.steps cA;have a7:=k6.len J.ap J.n4;obtain⟨kr,a0,a1⟩:=id c6;obtain⟨kg,a5,BD⟩:=hB.same (m5.trans s6);refine⟨a0,a5,a1,BD,k6.nd,Y.nd,trivial,trivial,xW (by omega),λl7 H7 a6 n7 s7 e7 U7=>?_⟩;have eu:a6=us.drop (i+1):=U7.eq (U.drop (i+1));subst eu;have tW:=s6.trans s7;have a2:=tW _ _ (aw (H:=H4) (a:=p1) (o:=.lst (zs++[.ref l4])));refine⟨_,(show us.length - (i+1)<us.length - i by omega),i+1,r6,l7,_,_,rfl,aH,rfl,m5.trans tW,a2,?_,c6.same s7,(aF (s6 _ _ aw) n7).symm,e7⟩;rw[vy hx];exact ie ⟨l4,rfl,by simpa using n4,tW _ _ e5⟩ (aB p3 λ_ _ z=>((z.same s4).mut (by simp)).same tW)
 have l0:i=us.length:=Jm λz=>h (bw (by
  show(0:Int)<(((us.drop i).map V.str).length:Int);rw[ah,vX];omega))
 subst l0;rw[eN]at p3;exact⟨q p1 zs us H3 n1 s3 e3 U p3⟩
end
section
variable {H:Hp}{ch aQ:Ch}{cs aR:Cs}{ow aI:Ow}{v:V}{xs:Lv}{ps:Lp}{T:Addr}{Q:VK}
variable {H H2 H3:Hp}{dc dh dO:Addr}{ch:Ch}{cs:Cs}{ow:Ow}
structure ml(ch:Ch)(cs:Cs)(ow:Ow):Prop where
 ok:xF ch cs ow
 d1:(ch.map (·.1)).Nodup
 d2:(cs.map (·.1)).Nodup
 d3:(ow.map (·.1)).Nodup
 n1:ch.length<=5
 n2:cs.length<=3
 n3:ow.length<=8
 ln:∀e∈ow,e.2.1.length<=20/\e.2.2.length<=20
theorem ml.bnd(h:ml ch cs ow):A5 ch cs ow where
 nch:=by have:=h.n1;omega
 ncs:=by have:=h.n2;omega
 now:=by have:=h.n3;omega
 dch:=h.d1
 dcs:=h.d2
 dow:=h.d3
 ch:=λe j=>⟨by have:=(h.ok.ch e j).1.hi;omega,(h.ok.ch e j).2.ok⟩
 cs:=λe j=>⟨by have:=(h.ok.cs e j).1.hi;omega,by have:=(h.ok.cs e j).2.hi;omega⟩
 ow:=λe j=>by
  obtain⟨⟨ps,e1,p1,p2,U⟩,J,O⟩:=h.ok.ow e j;obtain⟨k1,k2⟩:=h.ln e j;refine⟨?_,by omega,by omega,λx z=>(J x z).hi,λx z=>(O x z).hi⟩;rw[e1];have:=FW (sep:=ke) (b:=8) (λp G=>(U p G).hi) (by rw[Fs];decide);omega
theorem cm.ok{x:Str}(h:cm x):gT x:=uQ.mpr λc j=>by have:=h.az c j;omega
theorem ml.perm(h:ml ch cs ow)(p1:aQ.Perm ch)(p2:aR.Perm cs)(z:aI.Perm ow):ml aQ aR aI where
 ok:=⟨λe j=>h.ok.ch e (p1.mem_iff.mp j),λe j=>h.ok.cs e (p2.mem_iff.mp j),λe j=>h.ok.ow e (z.mem_iff.mp j)⟩
 d1:=(p1.map _).nodup_iff.mpr h.d1
 d2:=(p2.map _).nodup_iff.mpr h.d2
 d3:=(z.map _).nodup_iff.mpr h.d3
 n1:=by have:=p1.length_eq;have:=h.n1;omega
 n2:=by have:=p2.length_eq;have:=h.n2;omega
 n3:=by have:=z.length_eq;have:=h.n3;omega
 ln:=λe j=>h.ln e (z.mem_iff.mp j)
theorem ml.rows(h:ml ch cs ow):(ge ch cs ow).length<=336:=by
 have:∀(l:Ow),(∀e∈l,e∈ow)->(l.flatMap eF).length<=l.length * 41:=by
  intro l
  induction l with
  | nil=>intro _;exact cE _
  | cons e l O=>
   intro j;have h1:=O λx J=>j x (bL _ J);obtain⟨h2,z⟩:=h.ln e (j e bA);rw[wb,bD,bq];have:(eF e).length<=41:=by
    unfold eF;simp only[bD,ah,bq,gk];omega
   omega
 have z:=this ow λe G=>G;have:=h.n1;have:=h.n2;have:=h.n3;have U:ow.length * 41<=8 * 41:=Ji _ (by omega);unfold ge;rw[bD,bD,ah,ah];omega
theorem ak1:ml [] [] []:=⟨⟨(λ_ h=>nomatch h),(λ_ h=>nomatch h),(λ_ h=>nomatch h)⟩,jo,jo,jo,by decide,by decide,by decide,(λ_ h=>nomatch h)⟩
theorem vA{β:Type}:dw ([]:List (Str×β)) []:=⟨.nil,rfl⟩
theorem GR{β:Type}{l:List (Str×β)}(h:dw [] l):l=[]:=List.Perm.eq_nil h.pm
seal PE PS bu PA PT PW PG dv PI cL
abbrev Bk:=List (Str×Str)
def kD(H:Hp)(v:V)(e:Str×Str):Prop:=∃t,v=.ref t/\H t=some (.tup [.str e.1,.str e.2])
theorem kD.same{H':Hp}(s:ac H H'){e:Str×Str}(h:kD H v e):kD H' v e:=h.elim λt j=>j.elim λa b=>⟨t,a,s _ _ b⟩
def GS(bk:Bk):Prop:=∀e∈bk,gT e.1/\gT e.2
def ly:Str×Str:=("end","")
def dG:Str:="begin"
def kE(bk:Bk):Bool:=match bk.getLast? with
 | none=>true
 | some e=>decide (e=ly)
theorem ak3{tb:Lv}{bk:Bk}(h:Paired (kD H) tb bk):(tb=[]/\bk=[])\/∃j t z e,tb=j++[.ref t]/\bk=z++[e]/\H t=some (.tup [.str e.1,.str e.2]):=by
 induction h with
 | nil=>exact .inl ⟨rfl,rfl⟩
 | @cons v e tb bk r t O=>
  rcases O with⟨e1,e2⟩ | ⟨j,t',z,G,e1,e2,e3⟩
  . subst e1 e2;obtain⟨t,rfl,J⟩:=r;exact .inr ⟨[],t,[],e,rfl,rfl,J⟩
  subst e1 e2;exact .inr ⟨v::j,t',e::z,G,rfl,rfl,e3⟩
theorem RN(r:Lv)(v:V):cX (r++[v]) (-1)=some v:=by
 unfold cX;have e:qz (r++[v]).length (-1)=some r.length:=by
  unfold qz;rw[bD,mB,af (by omega),ai (by omega)]
  congr 1
  omega
 rw[e];show(r++[v])[r.length]?=_;rw[Cj (aD _),Nat.sub_self];rfl
inductive RO (D:Addr):Sp where
 | mk {H:Hp}{Q:VK}{E:XK}{x dx d b:Addr}{v:V}{tb:Lv}{bk:Bk} (_:H x=some (.ins D dx (dj d b v))) (_:H b=some (.lst tb)) (_:Paired (kD H) tb bk) (_:GS bk) (_:∀H',ac H H'->Q (.bl (kE bk)) H'):RO D [.ref x] H Q E
theorem RP:aM [auE,"book"] [auE] (aC O8):=aV
theorem ak4(j:Pg K mg base Pt):au P w K mg base aL 2 j.IUp.f j.IUp.fd [auE] (RO j.D):=by
 refine j.IUp.u.okL RP ?_;intro av A outer s H vs Q E J h xX dX;obtain @⟨_,_,_,x,dx,d,b,v,tb,bk,O,hb,pb,ok,q⟩:=h;have hu:=J.units;refine⟨_,(ak (aJ (i:=1) RP.nd rfl (Or.inl rfl) (fF (pv 0) j.UD.cl j.BNo.mt (up (xV j)) J j.BNo.b .nil bY))
  (am (ba (JA (je kS (cW oY (by rfl) j.B.len mG (ao (pv 1))) aZ (cj _)) (mK (je (Lb hu) (eY lL (pv 1) (zA zB aZ) (λ_ _=>rfl)) (eE (aO bK bK)) (cj _))))))),?_⟩
 refine⟨O,rfl,O,hb,λr H1 n1 z e1=>?_⟩;refine⟨r,_,rfl,.inl (ag.of e1),rfl,⟨?_⟩⟩
 rcases ak3 pb with⟨rfl,rfl⟩ | ⟨BF,t,fk,e,rfl,rfl,ht⟩
 . exact eR (q H1 z)
 refine cY (λh=>?_) (λh=>?_)
 . have h:=cq h;injection h with h
   rw[bD,mB]at h;omega
 refine⟨_,rfl,ag.of e1,RN _ _,Ax,λp2 H2 n2 U e2=>?_⟩;obtain⟨o1,o2⟩:=ok e (fP _ (bX.mpr rfl));refine⟨.tuple [.str e.1,.str e.2],.tuple [.str ly.1,.str ly.2],.tup (aP.of ((z.trans U) _ _ ht)) (.cons (.str _) (.cons (.str _) .nil)),.tup (aP.of e2) (.cons (.str _) (.cons (.str _) .nil)),?_,?_,λG iV=>?_⟩
 . simp only[W.kqdOk,Cm,VO,VQ,gD];exact⟨o1,o2⟩
 . simp only[W.kqdOk,Cm,VO,VQ,gD];exact⟨by decide +kernel,by decide +kernel⟩
 have Y:G=kE (fk++[e]):=by
  unfold kE;rw[VR,asH,Option.some_or];show G=decide (e=ly);rw[vU,iV,decide_eq_true_iff];refine⟨λh=>?_,λh=>by rw[h]⟩;injection h with h
  injection h with h1 h2
  injection h1 with h1
  injection h2 with h2
  injection h2 with h2
  exact Prod.ext h1 h2
 rw[Y];exact q H2 (z.trans U)
def dY(bk:Bk):Ls:=(bk.filter λe=>decide (e.1=dG)).map (·.2)
theorem BG(bk:Bk)(e:Str×Str):dY (bk++[e])=if e.1=dG then dY bk++[e.2] else dY bk:=by
 unfold dY;rw[za,cK]
 by_cases h:e.1=dG
 . rw[ai h,qj,ai (bw h)];rfl
 rw[af h,qj,af (by rw[bM h];decide)];exact i4 _
inductive RQ (D:Addr):Sp where
 | mk {H:Hp}{Q:VK}{E:XK}{x dx d b:Addr}{v:V}{tb:Lv}{bk:Bk} (_:H x=some (.ins D dx (dj d b v))) (_:H b=some (.lst tb)) (_:Paired (kD H) tb bk) (_:bk.length<=500) (_:fV H (.lst ((Str.empty::dY bk).map V.str)) Q):RQ D [.ref x] H Q E
theorem ak5:aM [auE] [auE] (aC O9):=aV
theorem ak6(G:Pg K mg base Pt):au P w K mg base aL 2 G.TxB.f G.TxB.fd [auE] (RQ G.D):=by
 refine G.TxB.u.okL ak5 ?_;intro av A outer s H vs Q E hr h xX dX;obtain @⟨_,_,_,x,dx,d,b,v,tb,bk,hx,hb,pb,vt,q⟩:=h;refine⟨_,(am (ba (cF DW (cx (ao bK)) (gK [au9,auG] [] [] fq rfl (cr (fF (pv 0) G.UD.cl G.BNo.mt (up (xV G)) hr G.BNo.b .nil bY)) (λ_ _ _ _=>(GI (n:=2) K rfl (d8 (a8 (i:=0) (show List.Nodup ([au9,auG]:Ls) by decide +kernel) rfl (Or.inl rfl)) (d8 (a8 (i:=1) (show List.Nodup ([au9,auG]:Ls) by decide +kernel) rfl (Or.inl rfl)) jr)))) (λ_ _ _ _=>qC (eW kS (pv 0) bK (cj _))) (λ_ _ _ _=>(pv 1)))))),?_⟩;refine⟨Aq,λp1 H1 n1 O e1=>?_⟩;have pl:=bh pb;refine⟨O _ _ hx,rfl,O _ _ hx,O _ _ hb,λr H2 n2 s2 e2=>⟨⟨_,ag.of e2⟩,?_⟩⟩;have U:=O.trans s2;intro D' dq;refine tP (σ0:=[none,none]) dq (ag.of e2) (λZ=>∃u v,Z=[u,v]) (λj zs _=>zs=(dY (bk.take j)).map V.str) ⟨_,_,rfl⟩ rfl ?_ ?_
 . rintro j y zs Z H3 k k' hy ⟨u,v,rfl⟩ Y J rfl jz rm;obtain⟨e,he,t,rfl,ht⟩:=ff pb hy;have aH:=(dB.mp he).1;refine⟨aP.of ((U.trans J) _ _ ht),rfl,rfl,?_⟩;have bs:=BG (bk.take j) e;rw[<-vy he]at bs;have bl:(dY (bk.take j)).length<=500:=by
    unfold dY;rw[ah];exact cR (Cr _ _) (by rw[d5];omega)
   refine⟨rfl,⟨?_⟩⟩;refine cY (λh=>?_) (λh=>?_)
   . have h:=cq h;injection h with h
     rw[ai (show e.1=dG from h)]at bs;refine⟨jz _ _ _ ⟨_,_,rfl⟩ (ac.refl _) (cp (by rw[ah];omega)) ?_⟩;rw[bs,cK];rfl
   rw[af (λz=>h (by rw[z];exact bw rfl))]at bs;refine rm _ _ ⟨_,_,rfl⟩ (ac.refl _) ?_;rw[bs]
 rintro zs H3 Y J rfl;rw[pl,eN]at Y;have bl:(dY bk).length<=500:=by
  unfold dY;rw[ah];exact cR (Cr _ _) vt
 refine⟨(s2.trans J) _ _ e1,Y,lS (by rw[ah,mB];omega),λp4 H4 n4 s4 e4=>?_⟩;exact q p4 H4 ((U.trans J).free n4) ((U.trans J).trans s4) e4
structure fA(xs:Lv)(ps:Lp)(ch:Ch)(cs:Cs)(ow:Ow):Prop where
 ok:ml ch cs ow
 va:vq xs ps ch
 o2:ow.length<=8
 br:∀e∈ow,∀p∈ps,e.1∉p.fs.map (·.1)
structure gA(xs:Lv)(ps:Lp)(t:Str)(ch:Ch)(cs:Cs)(ow:Ow):Prop where
 so:fA xs ps ch cs ow
 s1:dw ch ch
 s2:dw cs cs
 s3:dw ow ow
 tx:t=Str.join lj (ge ch cs ow)
theorem fA.perm(h:fA xs ps ch cs ow)(p1:aQ.Perm ch)(p2:aR.Perm cs)(z:aI.Perm ow):fA xs ps aQ aR aI:=⟨h.ok.perm p1 p2 z,λe j=>h.va e (p1.mem_iff.mp j),by have:=z.length_eq;have:=h.o2;omega,λe j=>h.br e (z.mem_iff.mp j)⟩
theorem fA.tx(h:fA xs ps ch cs ow)(p1:dw ch aQ)(p2:dw cs aR)(j:dw ow aI):gA xs ps (Str.join lj (ge aQ aR aI)) aQ aR aI:=⟨h.perm p1.pm p2.pm j.pm,p1.self,p2.self,j.self,rfl⟩
theorem BH:gA xs ps Str.empty [] [] []:=⟨⟨ak1,(λ_ h=>nomatch h),by decide,λ_ h=>nomatch h⟩,vA,vA,vA,rfl⟩
theorem gA.uniq{t:Str}(h:gA xs ps t ch cs ow)(k:gA xs ps t aQ aR aI):ch=aQ/\cs=aR/\ow=aI:=by
 have e1:rowsOf t=ge ch cs ow:=by rw[h.tx];exact FI (FH h.so.ok.ok)
 have e2:rowsOf t=ge aQ aR aI:=by rw[k.tx];exact FI (FH k.so.ok.ok)
 obtain⟨a,b,c,n1⟩:=FJ h.so.ok.ok h.so.ok.d1 h.so.ok.d2 h.so.ok.d3;obtain⟨j,b',c',n2⟩:=FJ k.so.ok.ok k.so.ok.d1 k.so.ok.d2 k.so.ok.d3;rw[<-e1,e2,n2]at n1;injection n1 with n1 n2 n3
 exact⟨n1.symm,n2.symm,n3.symm⟩
theorem gA.not{t:Str}(h:gA xs ps t ch cs ow)(q:∀v H',ac H H'->(∀L,iX H L->jk T (msk L H') v ch cs ow)->Q v H'):F2 T [.str t] H Q E0:=by
 have ok:=h.so.ok;have j:rowsOf t=ge ch cs ow:=by rw[h.tx];exact FI (FH ok.ok)
 have J:=ok.rows;obtain⟨_,z⟩:=Qc ok.bnd (.refl _) (.refl _) (.refl _);have U:=FW (sep:=lj) z (by rw[Fq];decide);obtain⟨ck,b,m,G⟩:=FJ ok.ok ok.d1 ok.d2 ok.d3;refine⟨?_,?_,?_,?_⟩
 . have O:(ge ch cs ow).length * (140+1)<=336 * 141:=Ji _ J;rw[h.tx];omega
 . rw[j];omega
 . rw[j];exact agZ ok.ok
 rw[j,G];exact q
theorem gA.sho{t:Str}(h:gA xs ps t ch cs ow)(hs:jk T H v ch cs ow)(q:∀H',ac H H'->Q (.str t) H'):A6 T [v] H Q E0:=by
 refine⟨hs,h.so.ok.bnd,λaQ aR aI H' j z G s'=>?_⟩;rw[dw.eq h.so.ok.d1 j h.s1,dw.eq h.so.ok.d2 z h.s2,dw.eq h.so.ok.d3 G h.s3,<-h.tx];exact q H' s'
theorem fA.sho(h:fA xs ps ch cs ow)(hs:jk T H v ch cs ow)(q:∀t aQ aR aI H',dw ch aQ->dw cs aR->dw ow aI->gA xs ps t aQ aR aI->ac H H'->Q (.str t) H'):A6 T [v] H Q E0:=
 ⟨hs,h.ok.bnd,λaQ aR aI H' j z G s'=>q _ aQ aR aI H' j z G (h.tx j z G) s'⟩
def nU(xs:Lv)(ps:Lp)(j:Ls):Prop:=∀t∈j,∃ch cs ow,gA xs ps t ch cs ow
theorem ak8(j:Ls)(t:Str):cX ((j++[t]).map V.str) (-1)=some (.str t):=by
 rw[cK];exact RN _ _
inductive RR (D T:Addr):Sp where
 | mk {H:Hp}{Q:VK}{E:XK}{x dx d b:Addr}{v:V}{tb:Lv}{bk:Bk}{xs:Lv}{ps:Lp}{t:Str}{ch:Ch}{cs:Cs}{ow:Ow} (_:H x=some (.ins D dx (dj d b v))) (_:H b=some (.lst tb)) (_:Paired (kD H) tb bk) (_:bk.length<=500) (_:(Str.empty::dY bk).getLast?=some t) (_:gA xs ps t ch cs ow) (_:∀v H',ac H H'->(∀L,iX H L->jk T (msk L H') v ch cs ow)->Q v H'):RR D T [.ref x] H Q E
theorem ak9:aM [auE] [auE] (aC Pa):=aV
theorem RS(j:Pg K mg base Pt):au P w K mg base aL 5 j.StO.f j.StO.fd [auE] (RR j.D j.T):=by
 refine j.StO.u.okL ak9 ?_;intro av A outer s H vs Q E G h xX dX;obtain @⟨_,_,_,x,dx,d,b,v,tb,bk,xs,ps,t,ch,cs,ow,hx,z,pb,vt,hl,ht,q⟩:=h;refine⟨_,(am (ba (aU (aix j) G rfl (ao (eY lL (aU (ak6 j) G rfl (ao (pv 0))) (zA zB aZ) (λ_ _=>rfl)))))),?_⟩;refine⟨hx,z,pb,vt,λr H1 n1 J e1=>?_⟩;obtain⟨ts,U⟩:=List.getLast?_eq_some_iff.mp hl;rw[U]at e1;refine⟨_,rfl,ag.of e1,ak8 ts t,?_⟩;exact ht.not λv H' s' hv=>q v H' (J.trans s') λL Y=>hv L λb z=>(Y b z).elim λo O=>O.elim λe n=>⟨o,J _ _ e,n⟩
end
section
variable {N:Int}{lf:Option Int}{H H':Hp}
seal PE PS bu PA PT PW PG dv PI cL
structure Dk(N:Int)(D x dx d b:Addr)(lf:Option Int)(fs:Tr)(bk:Bk)(H:Hp):Prop where
 ob:H x=some (.ins D dx (dj d b (lv lf)))
 fi:∃kd,H d=some (.dK kd)/\Paired (bV H) kd fs
 bo:∃tb,H b=some (.lst tb)/\Paired (kD H) tb bk
 nd:(fs.map (·.1)).Nodup
 ok:fj fs
 bz:bk=[]->fs=[]
 bt:GS bk
 ps:∀m,lf=some m->0<=m/\(fs.length:Int)+m<=39/\(fs.length:Int)+m+(bk.length:Int)<=N
theorem Dk.same{fs:Tr}{bk:Bk}(h:Dk N D x dx d b lf fs bk H)(s:ac H H'):Dk N D x dx d b lf fs bk H':=by
 obtain⟨G,d1,d2⟩:=h.fi;obtain⟨tb,j,z⟩:=h.bo;exact⟨s _ _ h.ob,⟨G,s _ _ d1,aB d2 λ_ _=>bV.same s⟩,⟨tb,s _ _ j,aB z λ_ _=>kD.same s⟩,h.nd,h.ok,h.bz,h.bt,h.ps⟩
def bW(x d b Pt:Addr)(H H':Hp):Prop:=∀q o,H q=some o->q≠x->q≠d->q≠b->q≠Pt->H' q=some o
theorem bW.trans{H1 H2:Hp}(a:bW x d b Pt H H1)(c:bW x d b Pt H1 H2):bW x d b Pt H H2:=λq o e n1 n2 n3 j=>c q o (a q o e n1 n2 n3 j) n1 n2 n3 j
theorem bW.of(s:ac H H'):bW x d b Pt H H':=λq o e _ _ _ _=>s q o e
theorem bW.ofT(s:jB Pt H H'):bW x d b Pt H H':=λq o e _ _ _ n=>s q o e n
theorem bW.msk(k:bW x d b Pt H H'):ac (msk [x,d,b,Pt] H) (msk [x,d,b,Pt] H'):=λq o e=>by
 have n:q∉[x,d,b,Pt]:=λz=>by unfold K75.msk at e;rw[ai z]at e;cases e
 have j:=bg q o e;simp only[bc,i7,i8,rJ]at n;exact df (by simp[n]) (k q o j n.1 n.2.1 n.2.2.1 n.2.2.2)
theorem Dk.keepT{fs:Tr}{bk:Bk}{lp:Pos}{qu:Str}(h:Dk N D x dx d b lf fs bk H)(t:aG H Pt lp qu)(k:jB Pt H H'):Dk N D x dx d b lf fs bk H':=by
 obtain⟨kd,d1,d2⟩:=h.fi;obtain⟨tb,b1,b2⟩:=h.bo;have g:∀{q:Addr}{o:HO},H q=some o->(∀φ,o≠.ext φ)->H' q=some o:=λe n=>k _ _ e (aG.ne t e n);exact⟨g h.ob (by intro φ z;cases z),⟨kd,g d1 (by intro φ z;cases z),aB d2 λ_ _ J=>J.elim λj O=>O.elim λl U=>U.elim λG z3=>⟨j,l,G,g z3 (by intro φ z;cases z)⟩⟩,⟨tb,g b1 (by intro φ z;cases z),aB b2 λ_ _ Y=>Y.elim λt a0=>a0.elim λj G=>⟨t,j,g G (by intro φ z;cases z)⟩⟩,h.nd,h.ok,h.bz,h.bt,h.ps⟩
theorem RT{tb:Lv}{bk:Bk}{ls:Ls}(J:H b=some (.lst tb))(G:Paired (kD H) tb bk)(n:bk≠[]\/ls≠[])(j:H l=some (.lst (ls.map V.str))):l≠b:=λe=>by
 rw[e,J]at j;injection j with j
 injection j with j
 subst j;cases ls with
 | nil=>
  cases G
  rcases n with z | z<;>exact z rfl
 | cons y ls=>
  cases G with
  | cons r t=>
   obtain⟨t,z,_⟩:=r;cases z
theorem aG.kp{lp:Pos}{qu:Str}(h:aG H Pt lp qu)(k:∀q φ,H q=some (.ext φ)->H' q=some (.ext φ)):aG H' Pt lp qu:=by
 rcases h with z | ⟨c',j,G⟩
 . exact .inl (k _ _ z)
 exact .inr ⟨c',k _ _ j,k _ _ G⟩
theorem GU{lf':Option Int}(e:gX lf=some lf'):lf=none↔lf'=none:=by
 cases lf with
 | none=>cases e;exact⟨λ_=>rfl,λ_=>rfl⟩
 | some n=>
  by_cases h1:n<1
  . rw[Bn h1]at e;cases e
  rw[tQ h1]at e;cases e;exact⟨λz=>(nomatch z),λz=>(nomatch z)⟩
inductive RU (D j:Addr):Sp where
 | mk {H:Hp}{Q:VK}{E:XK}{x dx d b t:Addr}{N:Int}{lf:Option Int}{fs:Tr}{bk:Bk}{z:List (aq×V)}{tr:Tr} (_:Dk N D x dx d b lf fs bk H) (_:bk≠[]) (_:H t=some (.dK z)) (_:d≠t) (_:Paired (bV H) z tr) (_:(tr.map (·.1)).Nodup) (_:fj tr) (_:pM fs tr)
  (_:∀lf' aY H',Dk N D x dx d b lf' aY bk H'->look aY=look tr->aY.length=tr.length->(lf=none↔lf'=none)->(∀p o,H p=some o->p≠x->p≠d->H' p=some o)->Q .non H')
  (_:∀aY H',lf≠none->Dk N D x dx d b (some 0) aY bk H'->(∀p o,H p=some o->p≠x->p≠d->H' p=some o)->E (.ref j) none H'):RU D j [.ref x,.ref t] H Q E
theorem RV{lf':Option Int}{fs aY:Tr}{bk:Bk}(h:Dk N D x dx d b lf fs bk H)(Y:bk≠[])(t:Bu D x dx d b lf' aY H H')(nd:(aY.map (·.1)).Nodup)(ok:fj aY)(ps:∀m,lf'=some m->0<=m/\(aY.length:Int)+m<=39/\(aY.length:Int)+m+(bk.length:Int)<=N):Dk N D x dx d b lf' aY bk H':=by
 obtain⟨kd,d1,d2⟩:=h.fi;obtain⟨tb,j,U⟩:=h.bo;exact⟨t.ob,t.hd,⟨tb,t.kp _ _ j (aT j h.ob (by intro z;cases z)) (aT j d1 (by intro z;cases z)),aB U λ_ _ J=>J.elim λt' O=>O.elim λz1 G=>⟨t',z1,t.kp _ _ G (aT G h.ob (by intro z;cases z)) (aT G d1 (by intro z;cases z))⟩⟩,nd,ok,λz=>absurd z Y,h.bt,ps⟩
theorem RW{k:Nat}(G:au P w K mg base (eS P w) k f fd [auE,auY] (GB D Fa)):au P w K mg base (eS P w) k f fd [auE,auY] (RU D Fa):=by
 refine G.imp λvs H Q E h=>?_;obtain @⟨_,_,_,x,dx,d,b,t,N,lf,fs,bk,kt,tr,J,Y,ht,dt,pt,nt,O,GV,q1,q2⟩:=h;obtain⟨kd,d1,d2⟩:=id J.fi;refine⟨J.ob,d1,ht,dt,d2,pt,J.nd,nt,J.ok,O,GV,(λm z=>(J.ps m z).1),λus H' U hm T=>?_,λus j H' U hj aH T=>?_⟩
 . have nd:=Gu (tr:=tr) (ps:=us) J.nd;refine q1 _ _ H' (RV J Y T nd (Gv O J.ok) λm z=>?_) (funext λk=>U.all k) (ajK nd nt λk=>U.all k) (by cases lf with | none=>exact⟨λ_=>rfl,λ_=>rfl⟩ | some n=>exact⟨λz=>(nomatch z),λz=>(nomatch z)⟩) T.kp;cases lf with
   | none=>cases z
   | some m'=>
    have:=hm m' rfl;have z:some (m' - (us.length:Int))=some m:=z;cases z;have:=J.ps m' rfl;have:=Br (tr:=tr) us fs;omega
 have nd:=Gu (tr:=tr) (ps:=us.take j) J.nd;refine q2 _ H' (by rw[hj];intro z;cases z) (RV J Y T nd (Gv O J.ok) λm z=>by
  cases z;have:=J.ps _ hj;have:=Br (tr:=tr) (us.take j) fs;have:(us.take j).length<=j:=List.length_take_le _ _;omega) T.kp
inductive RX (D j:Addr):Sp where
 | mk {H:Hp}{Q:VK}{E:XK}{x dx d b:Addr}{N:Int}{lf:Option Int}{fs:Tr}{bk:Bk}{y z:Str} (_:Dk N D x dx d b lf fs bk H) (_:bk.length<=400) (_:gT y) (_:gT z)
  (_:∀lf' H',gX lf=some lf'->Dk N D x dx d b lf' fs (bk++[(y,z)]) H'->(∀p o,H p=some o->p≠x->p≠b->H' p=some o)->Q .non H') (_:gX lf=none->E (.ref j) none H):RX D j [.ref x,.str y,.str z] H Q E
theorem GW{k:Nat}(G:au P w K mg base (eS P w) k f fd [auv,au9,auG] (Gp D Fa)):au P w K mg base (eS P w) k f fd [auv,au9,auG] (RX D Fa):=by
 refine G.imp λvs H Q E h=>?_;obtain @⟨_,_,_,x,dx,d,b,N,lf,fs,bk,y,z,j,l4,oy,oz,q1,q2⟩:=h;obtain⟨kd,d1,d2⟩:=id j.fi;obtain⟨tb,U,Y⟩:=id j.bo;have pl:=bh Y;refine⟨j.ob,U,by omega,λlf' J t H' ir gs xw kp=>?_,q2⟩;refine q1 lf' H' J ⟨ir,⟨kd,kp _ _ d1 (aT d1 j.ob (by intro z;cases z)) (aT d1 U (by intro z;cases z)),?_⟩,⟨_,gs,ie ⟨t,rfl,xw⟩ (aB Y λ_ _ a0=>a0.elim λt' a1=>a1.elim λz1 O=>⟨t',z1,kp _ _ O (aT O j.ob (by intro z;cases z)) (aT O U (by intro z;cases z))⟩)⟩,j.nd,j.ok,λz=>by simp at z,?_,?_⟩ kp
 . by_cases bn:bk=[]
   . have f0:=j.bz bn;subst f0;cases d2;exact .nil
   exact aB d2 λkv f a2=>a2.elim λz1 a3=>a3.elim λl a4=>a4.elim λO z3=>⟨z1,l,O,kp _ _ z3 (aT z3 j.ob (by intro z;cases z)) (RT U Y (.inl bn) z3)⟩
 . intro e he
   rcases dA.mp he with z | z
   . exact j.bt e z
   rw[bX.mp z];exact⟨oy,oz⟩
 intro m hm;cases lf with
 | none=>cases J;cases hm
 | some n=>
  by_cases h1:n<1
  . rw[Bn h1]at J;cases J
  rw[tQ h1]at J;cases J;cases hm;have:=j.ps n rfl;rw[bD,mB];omega
inductive RY (D j:Addr):Sp where
 | mk {H:Hp}{Q:VK}{E:XK}{x dx d b t:Addr}{N:Int}{lf:Option Int}{fs:Tr}{bk:Bk}{z:List (aq×V)}{tr:Tr} (_:Dk N D x dx d b lf fs bk H) (_:bk≠[]) (_:bk.length<=400) (_:H t=some (.dK z)) (_:d≠t) (_:Paired (bV H) z tr) (_:(tr.map (·.1)).Nodup) (_:fj tr) (_:pM fs tr)
  (_:∀lf' aY H',Dk N D x dx d b lf' aY (bk++[ly]) H'->look aY=look tr->aY.length=tr.length->(lf=none↔lf'=none)->(∀p o,H p=some o->p≠x->p≠d->p≠b->H' p=some o)->Q .non H')
  (_:∀aY H',lf≠none->Dk N D x dx d b (some 0) aY bk H'->(∀p o,H p=some o->p≠x->p≠d->p≠b->H' p=some o)->E (.ref j) none H'):RY D j [.ref x,.ref t] H Q E
theorem alp:aM [auE,auY] [auE,auY] (aC Pb):=aV
theorem RZ{fs:Tr}{bk:Bk}(h:Dk N D x dx d b lf fs bk H)(e:gX lf=none):lf=some 0:=by
 cases lf with
 | none=>cases e
 | some n=>
  have:=h.ps n rfl
  by_cases h1:n<1
  . congr 1;omega
  rw[tQ h1]at e;cases e
theorem alq(j:Pg K mg base Pt):au P w K mg base (eS P w) 4 j.Fin.f j.Fin.fd [auE,auY] (RY j.D j.Fa):=by
 refine j.Fin.u.okR alp (λvs H Q E h=>?_) (λav A outer s H vs Q E Y h=>?_)
 . cases h;rfl
 obtain @⟨_,_,_,x,dx,d,b,t,N,lf,fs,bk,kt,tr,hD,bn,l4,ht,dt,pt,nt,ot,GV,q1,q2⟩:=h;refine⟨_,(ak (bI (vj (RW (Q9 j)) Y rfl jj (aO (pv 0) (pv 1))))
  (am (bI (ia (pv 0) j.UD.cl j.DNt.mt (up (GW (Gq j))) Y j.DNt.b .nil jj (aO bK bK))))),?_⟩
 refine⟨hD,bn,ht,dt,pt,nt,ot,GV,λlf' aY H1 J lk el U kp=>?_,λaY H1 ln J kp=>q2 aY H1 ln J λp o e G O _=>kp p o e G O⟩;refine⟨J.ob,rfl,J,l4,(by decide +kernel),(by decide +kernel),λa4 H2 e2 BI a0=>?_,λe2=>?_⟩
 . exact q1 a4 aY H2 BI lk el (U.trans (GU e2)) λp o e G O a3=>a0 p o (kp p o e G O) G a3
 have z:=RZ J e2;refine q2 aY H1 (λy=>?_) (z▸J) λp o e G O _=>kp p o e G O;rw[U.mp y]at z;cases z
end
section
variable {H:Hp}{qu:Str}
seal PE PS bu PA PT PW PG dv PI cL
theorem jB.msk{H':Hp}(k:jB Pt H H'):ac (msk [Pt] H) (msk [Pt] H'):=λq o e=>by
 have n:q∉[Pt]:=λz=>by unfold K75.msk at e;rw[ai z]at e;cases e
 exact df n (k q o (bg q o e) (by simpa using n))
theorem off{o:HO}{lp:Pos}(t:aG H Pt lp qu)(e:H q=some o)(n:∀φ,o≠.ext φ):msk [Pt] H q=some o:=df (by simpa using aG.ne t e n) e
theorem bP.off{ch:Ch}{lp:Pos}(t:aG H Pt lp qu)(h:bP H c ch):bP (msk [Pt] H) c ch:=by
 obtain⟨kvs,h1,h2⟩:=h;exact⟨kvs,K75.off t h1 (by intro φ z;cases z),aB h2 λ_ _ j=>j.elim λa G=>G.elim λm J=>J.elim λb c=>⟨a,m,b,K75.off t c (by intro φ z;cases z)⟩⟩
theorem GX{Pt:Addr}{H':Hp}{lp:Pos}(s:ac (msk [Pt] H) (msk [Pt] H'))(t:aG H' Pt lp qu)(n:H' q=none):H q=none:=by
 cases e:H q with
 | none=>rfl
 | some o=>
  have j:q≠Pt:=λz=>by
   obtain⟨φ,w⟩:=aG.at t;rw[z,w]at n;cases n
  have:=bg _ _ (s q o (df (by simpa using j) e));rw[n]at this;cases this
theorem ml.okO{ch:Ch}{cs:Cs}{ow:Ow}(h:ml ch cs ow):GD ow:=λe z=>by
 obtain⟨a,b,c⟩:=h.ok.ow e z;obtain⟨d,f⟩:=h.ln e z;exact⟨by have:=a.len;omega,⟨by omega,λx j=>(b x j).ln⟩,⟨by omega,λx j=>(c x j).ln⟩⟩
def yj(H R:Hp)(v:V)(e:Str×Tr):Prop:=∃j g t kvs,v=.ref j/\H j=none/\R j=some (.tup [.ref g,.ref t])/\R g=some (.lst [.str e.1])/\cm e.1/\H t=none/\R t=some (.dK kvs)/\Paired (cJ H R) kvs e.2/\(e.2.map (·.1)).Nodup/\e.2.length<=24/\fj e.2
theorem yj.kp{R j:Hp}(k:∀b o,R b=some o->(∀φ,o≠.ext φ)->j b=some o){v:V}{e:Str×Tr}(h:yj H R v e):yj H j v e:=by
 obtain⟨tp,g,t,kvs,h1,h2,Y,h4,h5,h6,h7,h8,h9⟩:=h;exact⟨tp,g,t,kvs,h1,h2,k _ _ Y (by intro φ z;cases z),k _ _ h4 (by intro φ z;cases z),h5,h6,k _ _ h7 (by intro φ z;cases z),aB h8 λ_ _ G=>G.elim λz1 J=>J.elim λl O=>O.elim λz2 U=>U.elim λz3 z4=>⟨z1,l,z2,z3,k _ _ z4 (by intro φ z;cases z)⟩,h9⟩
inductive R0 (C S T Pt:Addr):Sp where
 | mk {H:Hp}{Q:VK}{E:XK}{z j:V}{a:Addr}{xs:Lv}{ps:Lp}{ns:Ls}{now ch:Ch}{cs:Cs}{ow:Ow} (_:jK C S (msk [Pt] H) z xs ps ns) (_:bP (msk [Pt] H) a now) (_:dN xs ps now) (_:jk T (msk [Pt] H) j ch cs ow) (_:fA xs ps ch cs ow) (_:aG H Pt dz dg) (_:∀l zs es H',H l=none->jB Pt H H'->aG H' Pt dz dg->H' l=some (.lst zs)->Paired (yj H (msk [l] H')) zs es->es.length<=10->Q (.ref l) H'):R0 C S T Pt [z,.ref a,j] H Q E
theorem yk:aM [auw,auR,auL,"steps","reached",auX] [auw,auR,auL] (aC Pd):=aV
theorem alA(j:Pg K mg base Pt):au P w K mg base aL 7 j.StT.f j.StT.fd [auw,auR,auL] (R0 j.C j.S j.T Pt):=by
 refine j.StT.u.okL yk ?_;intro av A outer s H vs Q E hr h xX dX;obtain @⟨_,_,_,sv,gv,a,xs,ps,ns,now,ch,cs,ow,G,hA,cA,hG,iH,a9,q⟩:=h;refine⟨_,(ak (aJ (i:=3) yk.nd rfl (Or.inl rfl) (cx dE))
  (ak (aJ (i:=4) yk.nd rfl (Or.inl rfl) (pv 1))
  (ak (fD fC rfl (cr (aU (akT j) hr rfl (eZ (pv 0) (pv 1) (bv (pv 2) rfl)))) (a8 (i:=5) yk.nd rfl (Or.inl rfl))
  (ak (aJ (i:=4) yk.nd rfl (Or.inl rfl) (aU (GP j) hr rfl (eZ (pv 4) (bv (pv 2) rfl) (pv 5))))
   (am (bI (dR ja y8 y9 sw (pv 3) (ao (eE (aO (pv 5) (aU (Ro j) hr rfl (aO (pv 0) (qt j.MTIn (up (A3 j)) hr rfl j.UT.mgC j.TIn.b .nil bY (eZ (pv 4) (bv (pv 2) rfl) (bv (pv 2) rfl)))))))))))))
  (am (ba (pv 3)))))),?_⟩
 refine lU ?_;intro dD sS u4 u3 u2;obtain⟨ga,ay,az,c,h,o,rfl,t1,t2,t3,t4,t5,t6,t7⟩:=id hG;have cB:dN xs ps ch:=⟨iH.ok.d1,iH.va⟩;refine⟨AA,λp1 H1 n1 s1 e1=>?_⟩;refine⟨?_⟩;have m1:=dL (L:=[Pt]) s1;refine⟨s1 _ _ (bg _ _ t1),j.UT.cl,j.UT.nC,t2,?_⟩;refine⟨G.same (bg.trans s1),hA.same (bg.trans s1),t5.same (bg.trans s1),cA,cB,λl zg us H2 n2 s2 e2 U pr=>⟨⟨_,ag.of e2⟩,?_⟩⟩;have m2:=m1.trans (dL (L:=[Pt]) s2);have GY:=(a9.same s1).same s2;have nl:=cA.len G.ap G.n4;have gl:=cB.len G.ap G.n4;have ul:=U.len;have R1:H p1=none:=n1;have al:∀z∈us,cm z:=λz hz=>by
  have cC:=(U.mem z).mp hz;have key:∀{c:Ch},dN xs ps c->z∈c.map (·.1)->cm z:=λk hz=>by
   obtain⟨e,he,rfl⟩:=bf.mp hz;obtain⟨v,p,hi,e1,_⟩:=k.va e he;exact e1▸G.nm _ (G.ap.nms p (GJ hi))
  by_cases z1:z∈now.map (·.1)
  . exact key cA z1
  by_cases z2:z∈ch.map (·.1)
  . exact key cB z2
  exact absurd ((fZ.mpr z1).trans (fZ.mpr z2).symm) cC
 have b0:=bh pr;refine g9 (xs:=zg) (λi Z H3=>∃u re zs es,Z=[some sv,some (.ref a),some (.ref ga),some (.ref p1),some (.ref re),u]/\ac (msk [Pt] H) (msk [Pt] H3)/\aG H3 Pt dz dg/\H3 l=some (.lst zg)/\Paired (iG [l] H3) zg us/\H3 p1=some (.lst zs)/\Paired (yj H (msk [p1] H3)) zs es/\es.length=i/\bP (msk [Pt] H3) re ((us.take i).foldl (bC ch) now))
  ⟨none,a,[],[],rfl,m2,GY,e2,pr,s2 _ _ e1,.nil,rfl,hA.same m2⟩ ?_ ?_ ?_
 . rintro i Z H3 hi ⟨u,re,zs,es,rfl,_,_,e3,_⟩;exact ag.of e3
 . intro i z Z H3 hz hQ;refine cb ?_;intro tT;obtain⟨u,re,zs,es,rfl,m3,ip,R3,ya,vB,vC,il,c3⟩:=hQ;obtain⟨n,hn,g,rfl,a',Y⟩:=ff ya hz;have aH:=(dB.mp hn).1;have k3:dN xs ps ((us.take i).foldl (bC ch) now):=cB.steps cA;have ax:=k3.len G.ap G.n4;have G3:=hG.same m3;have zl:=bh vC;have gp:g≠p1:=λz=>by
    rw[z,vB]at Y;injection Y with Y
    injection Y with Y
    subst Y;cases vC with
    | cons r t=>obtain⟨_,_,_,_,z,_⟩:=r;cases z
   refine⟨bg _ _ (m3 _ _ t1),j.UT.cl,j.UT.nC,t2,⟨?_⟩⟩;refine⟨c3.same bg,(t5.same m3).same bg,k3.nd,cB.nd,Y,by omega,λr H4 n4 s4 c4=>?_⟩;have m4:=m3.trans (dL (L:=[Pt]) s4);have vD:=ip.same s4;have st:bC ch ((us.take i).foldl (bC ch) now) n=(us.take (i+1)).foldl (bC ch) now:=by rw[vy hn,kM];rfl
   rw[st]at c4;have k4:dN xs ps ((us.take (i+1)).foldl (bC ch) now):=cB.steps cA;have R5:=s4 _ _ vB;refine⟨.inl ⟨rfl,_,ag.of R5⟩,bg _ _ (m4 _ _ t1),j.UT.cl,j.UT.nH,t3,bg _ _ (m4 _ _ t1),j.UT.cl,j.UT.nO,t4,?_⟩;refine A4 (T:=j.T) c4 ((t6.same m4).same bg) ((t7.same m4).same bg) iH.ok.d3 (by have:=iH.o2;omega) λx H5 n5 s5 eO=>?_;have m5:=m4.trans (dL (L:=[Pt]) s5);have pR:=vD.same s5;have W5:=(G.same m5).same bg;have R6:=eO [] (λb hb=>nomatch hb);rw[aiv]at R6;refine⟨W5.sh,W5.pc,W5.pcok,iH.br,R6,k4.va,k4.len G.ap G.n4,iH.o2,iH.ok.okO,pR,λt H6 kvs tr n6 kT BJ e6 GZ G0 mj vf _=>?_⟩;refine⟨Ax,λtp H7 n7 s7 e7=>?_⟩;have m6:=m5.trans (jB.msk kT);have m7:=m6.trans (dL (L:=[Pt]) s7);have nV:=BJ.same s7;have go:∀{b:Addr}{o:HO},H3 b=some o->(∀φ,o≠.ext φ)->H7 b=some o:=λe ne=>s7 _ _ (kT _ _ (s5 _ _ (s4 _ _ e)) (aG.ne pR (s5 _ _ (s4 _ _ e)) ne));have R7:∀{b:Addr}{o:HO},H5 b=some o->(∀φ,o≠.ext φ)->H7 b=some o:=λe ne=>s7 _ _ (kT _ _ e (aG.ne pR e ne));have BK:=go vB (by intro φ z;cases z);have BL:=s5 _ _ R5;have lp:l≠p1:=(aF e1 n2).symm;refine⟨BK,cp (by omega),?_⟩;have hu:∀{b:Addr}{o o':HO},H7 b=some o->b≠p1->ae H7 p1 o' b=some o:=λe ne=>aA e ne;have ab:tp≠p1:=λz=>by rw[z,kT _ _ BL (aG.ne pR BL (by intro φ z;cases z))]at n7;cases n7
   have a7:t≠p1:=λz=>by rw[z,BL]at n6;cases n6
   refine⟨_,r,zs++[.ref tp],es++[(n,tr)],rfl,?_,?_,hu (go R3 (by intro φ z;cases z)) lp,aB ya λ_ _ yy=>?_,aw,?_,by rw[bD,il];rfl,?_⟩
   . refine λb ob O=>?_;have:=m7 b ob O;have nb:b∉[Pt]:=λz=>by unfold K75.msk at this;rw[ai z]at this;cases this
     exact df nb (hu (bg _ _ this) λz=>by have:=bg _ _ O;rw[z,R1]at this;cases this)
   . exact K75.aG.kp nV λb φ e=>hu e (aT e BK (by intro z;cases z))
   . obtain⟨l',y1,y2,J⟩:=yy;refine⟨l',y1,y2,hu (go J (by intro φ z;cases z)) λz=>?_⟩;rw[z,vB]at J;injection J with J
     injection J with J
     subst J;cases vC with
     | cons r t=>obtain⟨_,_,_,_,z,_⟩:=r;cases z
   . rw[NF bA];refine ie ?_ (aB vC λ_ _ z=>z.kp λb ob O ne=>?_)
     . have q1:∀{b:Addr}{o:HO},H7 b=some o->b≠p1->msk [p1] H7 b=some o:=λe ne=>df (by simpa using ne) e;refine⟨tp,g,t,kvs,rfl,GX m6 BJ n7,q1 e7 ab,q1 (go Y (by intro φ z;cases z)) gp,al n (d6 hn),GX m5 pR n6,q1 (s7 _ _ e6) a7,aB GZ λ_ _ a0=>a0.elim λy1 a1=>a1.elim λl' a2=>a2.elim λy2 a3=>a3.elim λJ y4=>⟨y1,l',y2,GX m5 pR J,q1 (s7 _ _ y4) λz=>by rw[z,BL]at J;cases J⟩,G0,mj,vf⟩
     have nb:b∉[p1]:=λz=>by unfold K75.msk at O;rw[ai z]at O;cases O
     exact df nb (go (bg _ _ O) ne)
   have c7:bP H7 r ((us.take (i+1)).foldl (bC ch) now):=by
    obtain⟨kr,r1,r2⟩:=c4.same s5;exact⟨kr,R7 r1 (by intro φ z;cases z),aB r2 λ_ _ a4=>a4.elim λa a5=>a5.elim λm a6=>a6.elim λb c=>⟨a,m,b,R7 c (by intro φ z;cases z)⟩⟩
   refine bP.off (K75.aG.kp nV λb φ e=>hu e (aT e BK (by intro z;cases z))) (bP.mut BK c7)
 rintro Z H3 ⟨u,re,zs,es,rfl,m3,ip,R3,ya,vB,vC,il,c3⟩;refine⟨q p1 zs es H3 R1 (λb ob O nb=>bg _ _ (m3 b ob (df (by simpa using nb) O))) ip vB vC (by omega)⟩
end
section
seal PE PS bu PA PT PW PG dv PI cL
def ym:Str:="step"
def dP(st:Ls):Bk:=st.map λz=>(ym,z)
theorem gA.txt{xs:Lv}{ps:Lp}{t:Str}{ch:Ch}{cs:Cs}{ow:Ow}(h:gA xs ps t ch cs ow):gT t:=by
 rw[h.tx,<-tL];refine D0 (by decide +kernel) λr G=>?_;have l:∀{ys:Ls},(∀y∈ys,gT y)->gT (Str.join spS ys):=λh=>by rw[<-tL];exact D0 (by decide +kernel) h
 rcases FG h.so.ok.ok G with⟨e,a,b,rfl⟩ | ⟨e,a,b,rfl⟩ | ⟨p,a,rfl⟩ | ⟨x,a,rfl⟩ | ⟨x,a,rfl⟩
 . refine l λy j=>?_;simp only[bc,i7,i8]at j
   rcases j with rfl | rfl | rfl
   . decide +kernel
   . exact a.ok
   exact uQ.mpr λc z=>by have:=b.signs c z;omega
 . refine l λy j=>?_;simp only[bc,i7,i8]at j
   rcases j with rfl | rfl | rfl
   . decide +kernel
   . exact a.ok
   exact b.ok
 . refine l λy j=>?_;simp only[bc,i7,i8]at j
   rcases j with rfl | rfl
   . decide +kernel
   exact a.ln.ok
 . exact zO (by decide +kernel) a.ln.ok
 exact zO (by decide +kernel) a.ln.ok
def nW(xs:Lv)(ps:Lp)(ch:Ch)(cs:Cs)(ow:Ow)(t:Str):Prop:=∃aQ aR aI,dw ch aQ/\dw cs aR/\dw ow aI/\gA xs ps t aQ aR aI
theorem nW.ok{xs:Lv}{ps:Lp}{ch:Ch}{cs:Cs}{ow:Ow}{t:Str}(h:nW xs ps ch cs ow t):∃ch cs ow,gA xs ps t ch cs ow:=h.elim λa j=>j.elim λb z=>z.elim λc G=>G.elim λ_ J=>J.elim λ_ O=>O.elim λ_ h=>⟨a,b,c,h⟩
def BM(xs:Lv)(ps:Lp)(t:Str)(fs:Tr):Prop:=∃ch cs ow tr,nW xs ps ch cs ow t/\fA xs ps ch cs ow/\By ps ch cs ow tr/\look fs=look tr
def BN(R:Hp)(v:V)(e:Str×Tr):Prop:=∃j g t kvs,v=.ref j/\R j=some (.tup [.ref g,.ref t])/\R g=some (.lst [.str e.1])/\cm e.1/\R t=some (.dK kvs)/\Paired (bV R) kvs e.2/\(e.2.map (·.1)).Nodup/\e.2.length<=24/\fj e.2
theorem BN.same{R j:Hp}(s:ac R j){v:V}{e:Str×Tr}(h:BN R v e):BN j v e:=by
 obtain⟨Y,g,t,kvs,h1,h2,z,G,J,O,U⟩:=h;exact⟨Y,g,t,kvs,h1,s _ _ h2,s _ _ z,G,s _ _ J,aB O λ_ _=>bV.same s,U⟩
theorem Dk.busy{N:Int}{lf:Option Int}{fs:Tr}{bk:Bk}{H:Hp}{lp:Pos}{qu:Str}(h:Dk N D x dx d b lf fs bk H)(t:aG H Pt lp qu):iX H [x,d,b,Pt]:=λq j=>by
 obtain⟨J,d1,_⟩:=h.fi;obtain⟨tb,G,_⟩:=h.bo;obtain⟨φ,w⟩:=aG.at t;simp only[bc,i7,i8]at j
 rcases j with rfl | rfl | rfl | rfl
 . exact⟨_,h.ob,by intro vs z;cases z⟩
 . exact⟨_,d1,by intro vs z;cases z⟩
 . exact⟨_,G,by intro vs z;cases z⟩
 exact⟨_,w,by intro vs z;cases z⟩
theorem aG.kx{N:Int}{lf:Option Int}{fs:Tr}{bk:Bk}{H H':Hp}{lp:Pos}{qu:Str}(h:Dk N D x dx d b lf fs bk H)(t:aG H Pt lp qu)(k:∀p o,H p=some o->p≠x->p≠d->p≠b->H' p=some o):aG H' Pt lp qu:=by
 obtain⟨G,d1,_⟩:=h.fi;obtain⟨tb,j,_⟩:=h.bo;exact K75.aG.kp t λq φ e=>k _ _ e (aT e h.ob (by intro z;cases z)) (aT e d1 (by intro z;cases z)) (aT e j (by intro z;cases z))
inductive G1 (C S T D j Pt:Addr):Sp where
 | mk {H:Hp}{Q:VK}{E:XK}{G z:V}{x dx d b:Addr}{N:Int}{lf:Option Int}{fs:Tr}{bk:Bk}{xs:Lv}{ps:Lp}{ns:Ls}{ch:Ch}{cs:Cs}{ow:Ow} (_:jK C S (msk [x,d,b,Pt] H) G xs ps ns) (_:jk T (msk [x,d,b,Pt] H) z ch cs ow) (_:fA xs ps ch cs ow) (_:Dk N D x dx d b lf fs bk H) (_:fs.length<=24) (_:bk.length<=300) (_:nU xs ps (Str.empty::dY bk)) (_:aG H Pt dz dg)
  (_:∀t H',nW xs ps ch cs ow t->(Str.empty::dY bk).getLast?=some t->Dk N D x dx d b lf fs bk H'->bW x d b Pt H H'->aG H' Pt dz dg->Q .non H')
  (_:∀t lf' aY st H',nW xs ps ch cs ow t->(lf=none↔lf'=none)->Dk N D x dx d b lf' aY (bk++(dG,t)::dP st++[ly]) H'->aY.length<=24->BM xs ps t aY->st.length<=10->bW x d b Pt H H'->aG H' Pt dz dg->Q .non H')
  (_:∀t aY st H',nW xs ps ch cs ow t->lf≠none->Dk N D x dx d b (some 0) aY (bk++(dG,t)::dP st) H'->st.length<=10->bW x d b Pt H H'->aG H' Pt dz dg->E (.ref j) none H')
  (_:gX lf=none->∀t H',nW xs ps ch cs ow t->Dk N D x dx d b lf fs bk H'->bW x d b Pt H H'->aG H' Pt dz dg->E (.ref j) none H'):G1 C S T D j Pt [G,.ref x,z] H Q E
theorem tY:aM [auw,auE,auL,auN,auG,"steps",auY,auX,"between"] [auw,auE,auL] (aC Pc):=aV
theorem R8(j:Pg K mg base Pt):au P w K mg base (eS P w) 8 j.DoD.f j.DoD.fd [auw,auE,auL] (G1 j.C j.S j.T j.D j.Fa Pt):=by
 refine j.DoD.u.okR tY (λvs H Q E h=>?_) (λav A outer s H vs Q E U h=>?_)
 . cases h;rfl
 refine wQ ?_;intros;obtain @⟨_,_,_,sv,gv,x,dx,d,b,N,lf,fs,bk,xs,ps,ns,ch,cs,ow,hW,hG,Y,hD,mj,bx,tok,a0,q1,q2,q3,q4⟩:=h;refine⟨_,(ak (aJ (i:=3) tY.nd rfl (Or.inl rfl) (aU (RS j) U rfl (ao (pv 1))))
  (ak (aJ (i:=4) tY.nd rfl (Or.inl rfl) (aU (Qe j) U rfl (ao (pv 2))))
  (ak (cU (eW kS (aU (Qe j) U rfl (ao (pv 3))) (pv 4) (cj _))
  (am JB) eU)
  (ak (aJ (i:=5) tY.nd rfl (Or.inl rfl) (aU (alA j) U rfl (eZ (pv 0) (bv (pv 3) rfl) (pv 2))))
  (ak (aJ (i:=6) tY.nd rfl (Or.inl rfl) (aU (Ro j) U rfl (aO (pv 0) (pv 2))))
  (ak (bI (ia (pv 1) j.UD.cl j.DNt.mt (up (GW (Gq j))) U j.DNt.b .nil jj (aO bK (pv 4))))
  (ak (fD PassesOwn.leaving rfl (cr (pv 5)) (kR rfl (d8 (a8 (i:=7) tY.nd rfl (Or.inl rfl)) (d8 (a8 (i:=8) tY.nd rfl (Or.inl rfl)) jr)))
  (ak (bI (vj (RW (Q9 j)) U rfl jj (aO (pv 1) (pv 8))))
   (am (bI (ia (pv 1) j.UD.cl j.DNt.mt (up (GW (Gq j))) U j.DNt.b .nil jj (aO bK (dR mH yZ y6 wO bK (ao (pv 7)))))))))
  (am (bI (vj (alq j) U rfl jj (aO (pv 1) (pv 6)))))))))))),?_⟩
 refine acV ?_;intro dD sS u8 u7 u6 u5 u4 u3 u2;obtain⟨tb,b1,b2⟩:=id hD.bo;obtain⟨t0,G2⟩:∃t0,(Str.empty::dY bk).getLast?=some t0:=⟨_,asI (wa _ _)⟩;obtain⟨nX,pT,mn,BO⟩:=tok t0 (List.mem_of_getLast? G2);have al:iX H [Pt]:=λq hq=>(hD.busy a0) q (by rw[bX.mp hq];simp);refine⟨hD.ob,b1,b2,by omega,G2,BO,λv0 H1 s1 j9=>?_⟩;refine⟨?_⟩;dsimp only[eg,rE,we];refine Y.sho ((hG.same bg).same s1) λt aQ aR aI H2 r1 r2 r3 hT s2=>?_;have hg:nW xs ps ch cs ow t:=⟨aQ,aR,aI,r1,r2,r3,hT⟩;have R9:=j9 [Pt] al;obtain⟨va,BP,BQ,c0,h0,o0,rfl,w1,w2,w3,w4,w5,w6,w7⟩:=id R9;refine⟨?_⟩;dsimp only[eg,rE,we];refine BO.sho ((R9.same bg).same s2) λH3 s3=>⟨rfl,⟨?_⟩⟩;have dM:=s2.trans s3;have jL:=s1.trans dM;refine cY (λh=>?_) (λh=>?_)
 . have e:=cq h;injection e with e
   exact q1 t H3 hg (e▸G2) (hD.same jL) (.of jL) (a0.same jL)
 have m3:=dL (L:=[Pt]) jL;have less:∀{Hx:Hp},ac (msk [x,d,b,Pt] Hx) (msk [Pt] Hx):=agC (by simp);have ip:=a0.same jL;have Sa:=hD.same jL;refine⟨dM _ _ (bg _ _ w1),j.UT.cl,j.UT.nC,w2,⟨?_⟩⟩;refine⟨(hW.same less).same m3,w5.same (dL dM),⟨BO.so.ok.d1,BO.so.va⟩,(hG.same less).same m3,Y,ip,λl zs es H4 nl kT vD el bt e8=>?_⟩;have b7:bW x d b Pt H3 H4:=.ofT kT;have G5:bW x d b Pt H H4:=(bW.of jL).trans b7;have yn:=Sa.keepT ip kT;have W4:=(hW.same G5.msk).same bg;have G4:=(hG.same G5.msk).same bg;have cB:dN xs ps ch:=⟨Y.ok.d1,Y.va⟩;refine⟨W4.sh,W4.pc,W4.pcok,Y.br,G4,Y.va,cB.len W4.ap W4.n4,Y.o2,Y.ok.okO,vD,λt5 H5 kvs tr n5 Sb pR e5 GZ G0 lT vf b6=>?_⟩;have Sc:bW x d b Pt H4 H5:=.ofT Sb;have yo:=G5.trans Sc;have BR:=yn.keepT vD Sb;have ax:=Sa.busy ip;have a1:=yn.busy vD;have nb:∀{q:Addr},H3 q=none->q∉[x,d,b,Pt]:=λe=>ax.free e;have R4:∀{q:Addr}{o:HO},H4 q=some o->H3 q=none->msk [x,d,b,Pt] H4 q=some o:=λe n=>df (nb n) e;obtain⟨b',c1,c2⟩:=id yn.bo;obtain⟨bz,c3,_⟩:=id yn.fi;have q9:Paired (BN (msk [x,d,b,Pt] H4)) zs es:=aB bt λv e z=>by
  obtain⟨tp,g,tt,kk,z1,z2,z3,z4,z5,z6,z7,z8,z9⟩:=z;have g4:=bg _ _ z4;obtain⟨φ,wφ⟩:=aG.at vD;have gn:g∉[x,d,b,Pt]:=λm=>by
   simp only[bc,i7,i8]at m
   rcases m with m | m | m | m
   . rw[m,yn.ob]at g4;cases g4
   . rw[m,c3]at g4;cases g4
   . exact RT (ls:=[e.1]) c1 c2 (.inr (by simp)) g4 m
   rw[m,wφ]at g4;cases g4
  exact⟨tp,g,tt,kk,z1,R4 (bg _ _ z3) z2,df gn g4,z5,R4 (bg _ _ z7) z6,aB z8 λ_ _ a5=>a5.elim λy1 a6=>a6.elim λl' a7=>a7.elim λy2 a9=>a9.elim λy3 y4=>⟨y1,l',y2,R4 (bg _ _ y4) y3⟩,z9⟩
 have l4:msk [x,d,b,Pt] H4 l=some (.lst zs):=R4 el nl;have Sd:t5∉[x,d,b,Pt]:=a1.free n5;have dW:Paired (bV (msk [x,d,b,Pt] H5)) kvs tr:=aB GZ λ_ _ ab=>ab.elim λy1 a2=>a2.elim λl' a3=>a3.elim λy2 a4=>a4.elim λy3 y4=>⟨y1,l',y2,df (a1.free y3) y4⟩;have a':msk [x,d,b,Pt] H5 t5=some (.dK kvs):=df Sd e5;have ay:d≠t5:=λz=>Sd (by rw[<-z];simp);refine⟨BR.ob,rfl,BR,by omega,(by decide +kernel),hT.txt,λbd H6 e6 b4 Se=>?_,λe=>q4 e t H5 hg BR yo pR⟩;have vE:bW x d b Pt H5 H6:=λq o e n1 _ n3 _=>Se q o e n1 n3;have BJ:aG H6 Pt dz dg:=K75.aG.kx BR pR λp o e n1 _ n3=>Se p o e n1 n3;have G6:=(Sc.trans vE).msk;have bm:=vE.msk;have bl:=GU e6;have zl:=bh q9;refine⟨⟨_,ag.of (bg _ _ (G6 _ _ l4))⟩,?_⟩;refine g9 (xs:=zs) (λi Z H7=>∃u v yp vF st,Z=[some sv,some (.ref x),some gv,some (.ref va),some (.str t),some (.ref l),some (.ref t5),u,v]/\bW x d b Pt H6 H7/\aG H7 Pt dz dg/\Dk N j.D x dx d b yp vF (bk++(dG,t)::dP st) H7/\st.length=i/\vF.length<=24/\(lf=none↔yp=none))
  ⟨none,none,bd,fs,[],rfl,.of (ac.refl _),BJ,b4,rfl,mj,bl⟩ ?_ ?_ ?_
 . rintro i Z H7 hi ⟨u,v,yp,vF,st,rfl,O,_⟩;exact ag.of (bg _ _ ((G6.trans O.msk) _ _ l4))
 . intro i z Z H7 hz hQ;refine cb ?_;intro tT;obtain⟨u,v,yp,vF,st,rfl,O,nV,nQ,il,b3,vG⟩:=hQ;obtain⟨e,he,hE⟩:=ff q9 hz;have aH:=(dB.mp hz).1;obtain⟨tp,g,tt,kk,rfl,z2,z3,z4,z5,z6,z7,z8,z9⟩:=hE.same (G6.trans O.msk);have bn:bk++(dG,t)::dP st≠[]:=by simp
   have lb:(bk++(dG,t)::dP st).length<=311:=by
    rw[bD,bq];unfold dP;rw[ah];omega
   have az:d≠tt:=λz=>by
    obtain⟨kd,d1,_⟩:=id nQ.fi;have:=z5;unfold msk at this;rw[ai (by rw[<-z];simp)]at this;cases this
   refine⟨aP.of (bg _ _ z2),rfl,rfl,?_⟩;refine qJ ?_
   intros
   refine⟨nQ,bn,bg _ _ z5,az,aB z6 λ_ _=>bV.same bg,z7,z9,xW (by omega),λSf rn H8 G Sg b0 BS J=>?_,λrn H8 G7 G J=>?_⟩
   . have pU:bW x d b Pt H7 H8:=λq o e n1 n2 _ _=>J q o e n1 n2;have g8:=bg _ _ (pU.msk _ _ z3);have Sh:aG H8 Pt dz dg:=K75.aG.kx nQ nV λp o e n1 n2 _=>J p o e n1 n2;refine⟨G.ob,rfl,rfl,[e.1],ag.of g8,?_,?_⟩
     . have:=z4.hi;show e.1.length+0+1 * (Str.ofString " ").length<=16777216;have:(Str.ofString " ").length=1:=by decide +kernel
       omega
     refine⟨G,by omega,(by decide +kernel),D0 (by decide +kernel) (λy hy=>by rw[bX.mp hy];exact z4.ok),λbj H9 e9 b5 Si=>?_,λe9=>?_⟩
     . have bb:bW x d b Pt H8 H9:=λq o e n1 _ n3 _=>Si q o e n1 n3;refine⟨_,_,bj,rn,st++[Txt.join " " [e.1]],rfl,O.trans (pU.trans bb),K75.aG.kx G Sh λp o e n1 _ n3=>Si p o e n1 n3,?_,by rw[bD,il];rfl,by omega,vG.trans (BS.trans (GU e9))⟩;have eb:bk++(dG,t)::dP st++[(ym,Txt.join " " [e.1])]=bk++(dG,t)::dP (st++[Txt.join " " [e.1]]):=by unfold dP;rw[cK,i6];rfl
       rw[<-eb];exact b5
     have z0:=RZ G e9;refine q3 t rn st H8 hg (λy=>?_) (z0▸G) (by omega) (yo.trans (vE.trans (O.trans pU))) Sh;rw[BS.mp (vG.mp y)]at z0;cases z0
   have pU:bW x d b Pt H7 H8:=λq o e n1 n2 _ _=>J q o e n1 n2;exact q3 t rn st H8 hg (λy=>G7 (vG.mp y)) G (by omega) (yo.trans (vE.trans (O.trans pU))) (K75.aG.kx nQ nV λp o e n1 n2 _=>J p o e n1 n2)
 rintro Z H7 ⟨u,v,yp,vF,st,rfl,O,nV,nQ,il,b3,vG⟩;have bn:bk++(dG,t)::dP st≠[]:=by simp
 have lb:(bk++(dG,t)::dP st).length<=311:=by
  rw[bD,bq];unfold dP;rw[ah];omega
 have Sj:=bm.trans O.msk;refine⟨nQ,bn,by omega,bg _ _ (Sj _ _ a'),ay,aB dW λ_ _ z=>(bV.same Sj z).same bg,G0,vf,xW (by omega),λSf rn H8 G Sg b0 BS J=>?_,λrn H8 G7 G J=>?_⟩
 . have pU:bW x d b Pt H7 H8:=λq o e n1 n2 n3 _=>J q o e n1 n2 n3;exact q2 t Sf rn st H8 hg (vG.trans BS) G (by omega) ⟨ch,cs,ow,tr,hg,Y,b6,Sg⟩ (by omega) (yo.trans (vE.trans (O.trans pU))) (K75.aG.kx nQ nV J)
 have pU:bW x d b Pt H7 H8:=λq o e n1 n2 n3 _=>J q o e n1 n2 n3;exact q3 t rn st H8 hg (λy=>G7 (vG.mp y)) G (by omega) (yo.trans (vE.trans (O.trans pU))) (K75.aG.kx nQ nV J)
inductive Sk:Sp where
 | mk {H:Hp}{Q:VK}{E:XK}{x:Str} (_:x.length<=90000) (_:∀H',ac H H'->Q (.bl (ma x)) H'):Sk [.str x] H Q E
theorem amf:aM [auG] [auG] (aC Ph):=aV
theorem Sl(j:Pg K mg base Pt):au P w K mg base aL 1 j.IsN.f j.IsN.fd [auG] Sk:=by
 obtain⟨t8,O⟩:=j.K0.let8;refine j.IsN.u.okL amf ?_;intro av A outer s H vs Q E hr h xX dX;obtain @⟨_,_,_,x,hx,q⟩:=h;refine⟨_,(am (ba (qp (JX De Df aZ (cW KC (by rfl) j.B.len mG (ao (pv 0))) (iM (v:=.int 8) (by rfl) O ⟨_,rfl⟩))
  (mK (cW (EU K) (by rfl) j.B.all VS (ao (gK ["sign"] [] [] fq rfl (aeW (pv 0)) (λ_ _ _ _=>(a8 (i:=0) (show List.Nodup (["sign"]:Ls) by decide +kernel) rfl (Or.inl rfl))) (λ_ _ _ _=>ix) (λ_ _ _ _=>(JX Nc Nc bK (pv 0) bK))))))))),?_⟩
 refine⟨_,rfl,eG (by omega),⟨⟨?_⟩⟩⟩;refine cY (λh1=>?_) (λh1=>?_)
 . refine⟨⟨?_⟩⟩;refine cY (λh2=>?_) (λh2=>?_)
   . refine⟨x,rfl,?_⟩;refine ae9 (σ0:=[none]) (λZ=>∃v,Z=[v]) (λc=>.bl (qX aS zS c)) (eG (by show x.length<=_;omega)) ⟨_,rfl⟩ ?_ ?_
     . intro c Z H2 k hc U hs Y;obtain⟨v,rfl⟩:=U;refine⟨_,_,rfl,rfl,⟨?_⟩⟩;have G:=Y [some (.str (qM c))] H2 ⟨_,rfl⟩ (ac.refl _);refine cY (λJ=>?_) (λJ=>?_)
       . refine⟨_,_,rfl,rfl,?_⟩;rw[show qX aS zS c=xA (qM c) zS from ai J]at G;exact G
       rw[show qX aS zS c=false from af J]at G;exact G
     intro D H2 hD hd hs;refine⟨D,_,rfl,ag.of (by rw[hd,ahe]),?_⟩;have:=q H2 hs;unfold ma at this;rw[FR];rw[bw ⟨by have:=cq h1;omega,by have:=cq h2;omega⟩,uw]at this;exact this
   have:=q H (ac.refl _);unfold ma at this;rw[bM (λz=>h2 (bw (by have:=z.2;omega))),vS]at this;exact this
 refine⟨?_⟩;have:=q H (ac.refl _);unfold ma at this;rw[bM (λz=>h1 (bw (by have:=z.1;omega))),vS]at this;exact this
inductive Sm:Sp where
 | mk {H:Hp}{Q:VK}{E:XK}{x:Str} (_:x.length<=80000) (_:∀H',ac H H'->Q (.bl (tF x)) H'):Sm [.str x] H Q E
theorem Sn:aM [auG,"parts"] [auG] (aC Pj):=aV
theorem amg(j:Pg K mg base Pt):au P w K mg base aL 2 j.IsP.f j.IsP.fd [auG] Sm:=by
 obtain⟨t4,Y⟩:=j.K0.pw4;refine j.IsP.u.okL Sn ?_;intro av A outer s H vs Q E hr h xX dX;obtain @⟨_,_,_,x,hx,q⟩:=h;refine⟨_,(ak (aJ (i:=1) Sn.nd rfl (Or.inl rfl) (dR mH Je Jf AF (pv 0) (ao bK)))
  (am (ba (qp (je Df (cW oY (by rfl) j.B.len mG (ao (pv 1))) (iM (v:=.int 4) (by rfl) Y ⟨_,rfl⟩) (cj _))
  (mK (cW (EU K) (by rfl) j.B.all VS (ao (gK ["part"] [] [] fq rfl (cr (pv 1)) (λ_ _ _ _=>(a8 (i:=0) (show List.Nodup (["part"]:Ls) by decide +kernel) rfl (Or.inl rfl))) (λ_ _ _ _=>ix) (λ_ _ _ _=>(aU (Sl j) hr rfl (ao (pv 0)))))))))))),?_⟩
 refine qJ ?_;intro dD sS gf;refine⟨rfl,x,ke,rfl,rfl,by decide +kernel,eG (by omega),λl H1 n1 U e1=>?_⟩;refine⟨l,_,rfl,.inl (ag.of e1),⟨⟨?_⟩⟩⟩;refine cY (λh1=>?_) (λh1=>?_)
 . refine⟨⟨_,ag.of e1⟩,?_⟩;refine tq (σ0:=[none]) (ag.of e1) (λZ=>∃v,Z=[v]) (((Txt.split x ke).map ma).map V.bl) (by rw[ah,ah,ah]) (eG (by rw[ah];have:=split_le x ke;omega)) ⟨_,rfl⟩ ?_ ?_
   . intro i z y Z H2 k hz O hQ hs hk;obtain⟨v,rfl⟩:=hQ;obtain⟨p,J,rfl⟩:=iZ hz;rw[jp]at O;obtain⟨p',G,rfl⟩:=iZ O;rw[J]at G;cases G;refine⟨?_,λH' s'=>hk _ _ ⟨_,rfl⟩ s'⟩;have:=FS (d6 J);omega
   intro D H2 hD hd hs;refine⟨D,_,rfl,ag.of hd,?_⟩;have:=q H2 (U.trans hs);unfold tF at this;rw[FR];rw[bw (by have:=cq h1;rw[ah]at this;omega),uw]at this;exact this
 have:=q H1 U;unfold tF at this;rw[bM (λz=>h1 (bw (by rw[ah];omega))),vS]at this;exact this
inductive So:Sp where
 | mk {H:Hp}{Q:VK}{E:XK}{x:Str} (_:x.length<=1000) (_:tF x=true) (_:∀H',ac H H'->Q .non H'):So [.str x] H Q E
theorem amh:aM [auA] [auA] (aC Pk):=aV
theorem Sq(j:Pg K mg base Pt):au P w K mg base aL 3 j.AsP.f j.AsP.fd [auA] So:=by
 refine j.AsP.u.okL amh ?_;intro J A outer s H vs Q E z h U O;obtain @⟨_,_,_,x,l,e,q⟩:=h;refine⟨_,(am (cU (PW.pt (wn (oP (gQ (cW K9 (by rfl) j.B.isinstance rM (aO (pv 0) (CV (v:=.ty "str") rfl j.B.str Jg rfl))))) (wm (oP (gQ (aU (amg j) z rfl (ao (pv 0))))))))
  (am uI) eU)),?_⟩
 refine⟨_,_,_,_,rfl,.str _,rfl,⟨?_⟩⟩;refine eB ?_;refine⟨by omega,λH1 G=>⟨?_⟩⟩;rw[e];exact eB (q H1 G)
inductive Sr:Sp where
 | mk {H:Hp}{Q:VK}{E:XK}{x:Str} (_:x.length<=1000) (_:ma x=true) (_:∀H',ac H H'->Q .non H'):Sr [.str x] H Q E
theorem ami:aM [auy] [auy] (aC Pl):=aV
theorem Ss(j:Pg K mg base Pt):au P w K mg base aL 3 j.AsN.f j.AsN.fd [auy] Sr:=by
 refine j.AsN.u.okL ami ?_;intro J A outer s H vs Q E z h U O;obtain @⟨_,_,_,x,l,e,q⟩:=h;refine⟨_,(am (cU (PW.pt (wn (oP (gQ (cW K9 (by rfl) j.B.isinstance rM (aO (pv 0) (CV (v:=.ty "str") rfl j.B.str Jg rfl))))) (wm (oP (gQ (aU (Sl j) z rfl (ao (pv 0))))))))
  (am uI) eU)),?_⟩
 refine⟨_,_,_,_,rfl,.str _,rfl,⟨?_⟩⟩;refine eB ?_;refine⟨by omega,λH1 G=>⟨?_⟩⟩;rw[e];exact eB (q H1 G)
inductive Su:Sp where
 | mk {H:Hp}{Q:VK}{E:XK}{d:Addr}{k:Str}{e:V}{kvs:List (aq×V)} (_:H d=some (.dK kvs)) (_:kvs.length<=500) (_:(e=.non->∀d' H',H d'=none->ac H H'->H' d'=some (.dK (if (bJ kvs (.inr k)).isSome=true then oZ kvs (.inr k) else kvs))->Q (.ref d') H')) (_:(e≠.non->∀d' H',H d'=none->ac H H'->H' d'=some (.dK (cD kvs (.inr k) e))->Q (.ref d') H')):Su [.ref d,.str k,e] H Q E
theorem Sv:aM ["entries","key","entry","changed"] ["entries","key","entry"] (aC Pm):=aV
theorem G8(G:Pg K mg base Pt):au P w K mg base aL 1 G.WEn.f G.WEn.fd ["entries","key","entry"] Su:=by
 refine G.WEn.u.okL Sv ?_;intro av A outer s H vs Q E hr h xX dX;obtain @⟨_,_,_,d,k,e,kvs,hd,l,j,q2⟩:=h;have U:=hr.units;refine⟨_,(ak (aJ (i:=3) Sv.nd rfl (Or.inl rfl) (eX sU (by rfl) G.B.dict wc (ao (pv 0))))
  (ak (cU (eW zD (pv 2) gm (cj _))
  (am (kX U (pv 3) (pv 1) (pv 2) rfl)) (am (cU (rR (wG U (pv 1) (pv 3)) (by rfl))
   (am (bI (DM (pv 3) (pv 1) ⟨rfl,rfl,rfl,rfl⟩))) eU)))
  (am (ba (pv 3))))),?_⟩
 refine⟨d,_,rfl,hd,λp1 H1 n1 O e1=>?_⟩;refine⟨rfl,⟨?_⟩⟩;refine cY (λh=>?_) (λh=>?_)
 . have ne:e≠.non:=λz=>by rw[z]at h;cases h
   refine⟨ib.k (k:=.inr k) e1 (cp (by omega)),?_⟩;exact⟨q2 ne p1 _ n1 (gt O n1) aw⟩
 have Y:e=.non:=Jm λz=>h (by rw[bM z];rfl);have j:=j Y;refine⟨_,cw.k (k:=.inr k) e1,⟨?_⟩⟩;cases J:bJ kvs (.inr k) with
 | none=>
  refine eB ⟨j p1 H1 n1 O (by rw[J];exact e1)⟩
 | some v=>
  refine eR ?_;refine⟨.inl ⟨_,.inl e1⟩,kvs,.inr k,v,e1,rfl,J,?_⟩;exact⟨j p1 _ n1 (gt O n1) (by rw[J];exact aw)⟩
variable {xs:Lv}{ps:Lp}
theorem Sw(bk:Bk):∀st:Ls,dY (bk++dP st)=dY bk:=λst=>by
 unfold dY dP;rw[za,cK];have e:(st.map λz=>(ym,z)).filter (λe=>decide (e.1=dG))=[]:=by
  rw[asJ];intro e j;obtain⟨z,_,rfl⟩:=bf.mp j;exact λh=>absurd (cq h) (show ym≠dG by decide +kernel)
 rw[e];exact i4 _
theorem Sx(bk:Bk)(t:Str)(st:Ls):dY (bk++(dG,t)::dP st++[ly])=dY bk++[t]:=by
 have e:bk++(dG,t)::dP st=(bk++[(dG,t)])++dP st:=by rw[i6];rfl
 rw[BG,af (show ly.1≠dG by decide +kernel),e,Sw,BG,ai rfl]
theorem amj(bk:Bk):kE (bk++[ly])=true:=by
 unfold kE;rw[VR,asH,Option.some_or];exact bw rfl
theorem nU.snoc{bk:Bk}{t:Str}(h:nU xs ps (Str.empty::dY bk))(k:∃ch cs ow,gA xs ps t ch cs ow):nU xs ps (Str.empty::(dY bk++[t])):=λy j=>by
 rcases bc.mp j with z | z
 . exact h y (by rw[z];exact bA)
 rcases dA.mp z with z | z
 . exact h y (bL _ z)
 rw[bX.mp z];exact k
theorem Sy(a:Str)(l:Ls)(t:Str):(a::(l++[t])).getLast?=some t:=by
 rw[<-rE,VR];rfl
structure DU(D x dx d b Pt:Addr)(xs:Lv)(ps:Lp)(t:Str)(ch:Ch)(cs:Cs)(ow:Ow)(fs:Tr)(bk:Bk)(H:Hp):Prop where
 dk:Dk 0 D x dx d b none fs bk H
 la:(Str.empty::dY bk).getLast?=some t
 tx:gA xs ps t ch cs ow
 tk:nU xs ps (Str.empty::dY bk)
 up:kE bk=true
 fu:BM xs ps t fs
 ln:fs.length<=24
 tb:aG H Pt dz dg
theorem DU.same{t:Str}{ch:Ch}{cs:Cs}{ow:Ow}{fs:Tr}{bk:Bk}{H H':Hp}(h:DU D x dx d b Pt xs ps t ch cs ow fs bk H)(s:ac H H'):DU D x dx d b Pt xs ps t ch cs ow fs bk H':=⟨h.dk.same s,h.la,h.tx,h.tk,h.up,h.fu,h.ln,h.tb.same s⟩
theorem DU.busy{t:Str}{ch:Ch}{cs:Cs}{ow:Ow}{fs:Tr}{bk:Bk}{H:Hp}(h:DU D x dx d b Pt xs ps t ch cs ow fs bk H):iX H [x,d,b,Pt]:=h.dk.busy h.tb
def vH(j:V)(x:Addr):List (Str×V):=[(auw,j),(auE,.ref x)]
structure HW(Hc C S h a9 x:Addr)(sv:V)(xs:Lv)(ps:Lp)(ns:Ls)(R:Hp):Prop where
 ob:R h=some (.ins Hc a9 (vH sv x))
 wl:jK C S R sv xs ps ns
theorem HW.same{G:V}{ns:Ls}{R j:Hp}(z:HW Hc C S h a9 x G xs ps ns R)(s:ac R j):HW Hc C S h a9 x G xs ps ns j:=⟨s _ _ z.ob,z.wl.same s⟩
inductive Sz (C S T D Pt:Addr):Sp where
 | mk {H:Hp}{Q:VK}{E:XK}{G z:V}{x dx d b:Addr}{fs:Tr}{bk:Bk}{xs:Lv}{ps:Lp}{ns:Ls}{t:Str}{O ch:Ch}{U cs:Cs}{J ow:Ow} (_:jK C S (msk [x,d,b,Pt] H) G xs ps ns) (_:jk T (msk [x,d,b,Pt] H) z ch cs ow) (_:fA xs ps ch cs ow) (_:DU D x dx d b Pt xs ps t O U J fs bk H) (_:bk.length<=300) (_:∀t' aQ aR aI aY j H',dw ch aQ->dw cs aR->dw ow aI->DU D x dx d b Pt xs ps t' aQ aR aI aY j H'->j.length<=bk.length+12->bW x d b Pt H H'->Q .non H'):Sz C S T D Pt [G,.ref x,z] H Q E
theorem amk{k:Nat}(G:au P w K mg base (eS P w) k f fd [auw,auE,auL] (G1 C S T D Fa Pt)):au P w K mg base (eS P w) k f fd [auw,auE,auL] (Sz C S T D Pt):=by
 refine G.imp λvs H Q E h=>?_;obtain @⟨_,_,_,sv,gv,x,dx,d,b,fs,bk,xs,ps,ns,t,nX,ch,pT,cs,mn,ow,hW,hG,so,h,l3,q⟩:=h;refine⟨hW,hG,so,h.dk,h.ln,l3,h.tk,h.tb,λt' H' j hl J k tb=>?_,λt' lf' aY st H' j hn J BU fu l8 k tb=>?_,λ_ _ _ _ _ z=>absurd rfl z,λz=>nomatch z⟩
 . obtain⟨aQ,aR,aI,U,Y,r3,O⟩:=j;rw[h.la]at hl;cases hl;exact q t aQ aR aI fs bk H' U Y r3 ⟨J,h.la,O,h.tk,h.up,h.fu,h.ln,tb⟩ (Nat.le_add_right _ _) k
 obtain⟨aQ,aR,aI,U,Y,r3,O⟩:=id j;cases hn.mp rfl;refine q t' aQ aR aI aY _ H' U Y r3 ⟨J,by rw[Sx];exact Sy _ _ _,O,by rw[Sx];exact nU.snoc h.tk j.ok,amj _,fu,BU,tb⟩ ?_ k;rw[bD,bD,bq,mB];unfold dP;rw[ah];omega
inductive G9 (j:Addr):Sp where
 | mk {H:Hp}{Q:VK}{E:XK}{h z x:Addr}{G:V} (_:H h=some (.ins j z [])) (_:∀H',H' h=some (.ins j z (vH G x))->(∀p o,H p=some o->p≠h->H' p=some o)->Q .non H'):G9 j [.ref h,G,.ref x] H Q E
theorem aml:aM [auv,auw,auE] [auv,auw,auE] (aC Pn):=aV
theorem amm(j:Pg K mg base Pt):au P w K mg base aL 1 j.HIn.f j.HIn.fd [auv,auw,auE] (G9 j.Hc):=by
 refine j.HIn.u.okL aml ?_;intro O G outer s H vs Q E Y h xX U;obtain @⟨_,_,_,h,J,x,sv,z,q⟩:=h;refine⟨_,(ak (gR (pv 0) (pv 1) rfl)
  (am (gR (pv 0) (pv 2) rfl))),?_⟩
 refine⟨z,j.UH.cl,j.UH.nS,by decide,?_⟩;refine⟨aw,j.UH.cl,j.UH.nD,by show 1<1000;decide,?_⟩;exact q _ aw λp o e n=>aA (aA e n) n
end
section
variable {H:Hp}
seal PE PS bu PA PT PW PG dv PI cL
structure QD(D x dx d b:Addr)(v:V)(xs:Lv)(ps:Lp)(t:Str)(ch:Ch)(cs:Cs)(ow:Ow)(bk:Bk)(H:Hp):Prop where
 ob:H x=some (.ins D dx (dj d b v))
 bo:∃tb,H b=some (.lst tb)/\Paired (kD H) tb bk
 la:(Str.empty::dY bk).getLast?=some t
 tx:gA xs ps t ch cs ow
 tk:nU xs ps (Str.empty::dY bk)
 bt:GS bk
 ln:bk.length<=380
theorem QD.same{v:V}{xs:Lv}{ps:Lp}{t:Str}{ch:Ch}{cs:Cs}{ow:Ow}{bk:Bk}{H':Hp}(h:QD D x dx d b v xs ps t ch cs ow bk H)(s:ac H H'):QD D x dx d b v xs ps t ch cs ow bk H':=⟨s _ _ h.ob,h.bo.elim λtb j=>j.elim λa c=>⟨tb,s _ _ a,aB c λ_ _=>kD.same s⟩,h.la,h.tx,h.tk,h.bt,h.ln⟩
theorem DU.qd{xs:Lv}{ps:Lp}{t:Str}{ch:Ch}{cs:Cs}{ow:Ow}{fs:Tr}{bk:Bk}(h:DU D x dx d b Pt xs ps t ch cs ow fs bk H)(l:bk.length<=380):QD D x dx d b .non xs ps t ch cs ow bk H:=⟨h.dk.ob,h.dk.bo,h.la,h.tx,h.tk,h.dk.bt,l⟩
inductive SA (j D:Addr):Sp where
 | mk {H:Hp}{Q:VK}{E:XK}{h z x dx d b:Addr}{G v:V}{xs:Lv}{ps:Lp}{t:Str}{ch:Ch}{cs:Cs}{ow:Ow}{bk:Bk} (_:H h=some (.ins j z (vH G x))) (_:QD D x dx d b v xs ps t ch cs ow bk H) (_:∀H',ac H H'->Q (.bl (kE bk)) H'):SA j D [.ref h] H Q E
theorem amo:aM [auv] [auv] (aC Pp):=aV
theorem SD(j:Pg K mg base Pt):au P w K mg base aL 6 j.HUp.f j.HUp.fd [auv] (SA j.Hc j.D):=by
 refine j.HUp.u.okL amo ?_;intro av Y outer s H vs Q E U h xX dX;obtain @⟨_,_,_,h,a9,x,dx,d,b,sv,v,xs,ps,t,ch,cs,ow,bk,O,z,q⟩:=h;obtain⟨tb,G,J⟩:=id z.bo;exact⟨_,(am (ba (aU (ak4 j) U rfl (ao (bv (pv 0) rfl))))),O,j.UH.cl,j.UH.nD,rfl,z.ob,G,J,z.bt,q⟩
inductive Hd (j T D:Addr) (u:Bk->Prop):Sp where
 | mk {H:Hp}{Q:VK}{E:XK}{h z x dx d b:Addr}{G v:V}{xs:Lv}{ps:Lp}{t:Str}{ch:Ch}{cs:Cs}{ow:Ow}{bk:Bk} (_:H h=some (.ins j z (vH G x))) (_:QD D x dx d b v xs ps t ch cs ow bk H) (_:u bk) (_:∀v H',ac H H'->(∀L,iX H L->jk T (msk L H') v ch cs ow)->Q v H'):Hd j T D u [.ref h] H Q E
theorem amp:aM [auv] [auv] (aC Ps):=aV
theorem amq(j:Pg K mg base Pt):au P w K mg base aL 6 j.HSt.f j.HSt.fd [auv] (Hd j.Hc j.T j.D λ_=>True):=by
 refine j.HSt.u.okL amp ?_;intro av Y outer s H vs Q E U h xX dX;obtain @⟨_,_,_,h,a9,x,dx,d,b,sv,v,xs,ps,t,ch,cs,ow,bk,O,z,_,q⟩:=h;obtain⟨tb,G,J⟩:=id z.bo;exact⟨_,(am (ba (aU (RS j) U rfl (ao (bv (pv 0) rfl))))),O,j.UH.cl,j.UH.nD,rfl,z.ob,G,J,by have:=z.ln;omega,z.la,z.tx,q⟩
theorem SE:aM [auv] [auv] (aC Pu):=aV
theorem BV(j:Pg K mg base Pt):au P w K mg base aL 7 j.HSK.f j.HSK.fd [auv] (Hd j.Hc j.T j.D λbk=>kE bk=true):=by
 refine j.HSK.u.okL SE ?_;intro av Ar outer s H vs Q E O h xX dX;obtain @⟨_,_,_,h,a9,x,dx,d,b,sv,v,xs,ps,t,ch,cs,ow,bk,G,J,hu,q⟩:=h;refine⟨_,(ak (cU (oP (gQ (fF (pv 0) j.UH.cl j.HUp.mt (up (SD j)) O j.HUp.b .nil bY)))
  (am uI) eU)
  (am (ba (fF (pv 0) j.UH.cl j.HSt.mt (up (amq j)) O j.HSt.b .nil bY)))),?_⟩
 refine⟨G,rfl,G,J,λH1 z=>⟨?_⟩⟩;rw[hu];refine eB ?_;exact⟨z _ _ G,rfl,z _ _ G,J.same z,trivial,λv H' s' hv=>q v H' (z.trans s') λL Y=>hv L λb hb=>(Y b hb).elim λo U=>U.elim λe n=>⟨o,z _ _ e,n⟩⟩
def tZ(j D z h:Addr)(H:Hp)(E:XK):Prop:=∃G J x,H h=some (.ins j G (vH J x))/\(∃dx d b v xs ps t ch cs ow bk,QD D x dx d b v xs ps t ch cs ow bk H/\kE bk=false)/\∀H',ac H H'->E (.ref z) none H'
theorem tZ.same{H':Hp}{E:XK}(z:tZ Hc D NU h H E)(s:ac H H'):tZ Hc D NU h H' E:=z.elim λ_ a2=>a2.elim λ_ a3=>a3.elim λ_ a4=>a4.elim λhh a5=>a5.elim λa6 q=>a6.elim λ_ a7=>a7.elim λ_ a9=>a9.elim λ_ ab=>ab.elim λ_ j=>j.elim λ_ G=>G.elim λ_ J=>J.elim λ_ O=>O.elim λ_ U=>U.elim λ_ Y=>Y.elim λ_ a0=>a0.elim λ_ a1=>a1.elim λhD hu=>⟨_,_,_,s _ _ hh,⟨_,_,_,_,_,_,_,_,_,_,_,hD.same s,hu⟩,λH2 s2=>q H2 (s.trans s2)⟩
inductive SF (j D z:Addr):Sp where
 | mk {H:Hp}{Q:VK}{E:XK}{h:Addr} (_:tZ j D z h H E):SF j D z [.ref h] H Q E
inductive SG (j D z:Addr):Sp where
 | mk {H:Hp}{Q:VK}{E:XK}{h:Addr}{a:V} (_:tZ j D z h H E):SG j D z [.ref h,a] H Q E
theorem amI(j:Pg K mg base Pt):au P w K mg base (eS P w) 7 j.HSK.f j.HSK.fd [auv] (SF j.Hc j.D j.NU):=by
 refine j.HSK.u.okR SE (λvs H Q E h=>?_) (λav Y outer s H vs Q E J h=>?_)
 . cases h;rfl
 obtain @⟨_,_,_,h,a9,sv,x,z,⟨dx,d,b,v,xs,ps,t,ch,cs,ow,bk,G,O⟩,q⟩:=h;refine⟨_,(ak (cU (oP (gQ (fF (pv 0) j.UH.cl j.HUp.mt (up (SD j)) J j.HUp.b .nil bY)))
  (am (Eh j.R.xu j.R.mU bK)) eU) wo),?_⟩
 refine⟨z,rfl,z,G,λH1 U=>⟨?_⟩⟩;rw[O];exact eR ⟨aD 1,q H1 U⟩
theorem yq:aM [auv,auM,auN,"outcome"] [auv,auM] (aC Px):=aV
theorem amJ(j:Pg K mg base Pt):au P w K mg base (eS P w) 8 j.HWi.f j.HWi.fd [auv,auM] (SG j.Hc j.D j.NU):=by
 refine j.HWi.u.okR yq (λvs H Q E h=>?_) (λU O outer s H vs Q E J h=>?_)
 . cases h;rfl
 cases h with | mk z=>obtain⟨_,_,_,G,_⟩:=id z;exact⟨_,(ak (aJ (i:=2) yq.nd rfl (Or.inl rfl) (fF (pv 0) j.UH.cl j.HSK.mt (up (amI j)) J j.HSK.b .nil jj)) wo),G,rfl,⟨z⟩⟩
theorem ro:aM [auv,auA,auH,auN,au4,auU] [auv,auA,auH] (aC Py):=aV
theorem SH:aM [auv,au6,auy,auN] [auv,au6,auy] (aC Pz):=aV
end
section

variable {p:Str}
seal PE PS bu PA PT PW PG dv PI cL
def BW(ps:Lp)(ch:Ch)(p:Str)(j:Ls):Prop:=∃px be,Bx ps ch px/\km (fz px) be/\j=(look be p).getD []
theorem fA.put{xs:Lv}{ps:Lp}{ch:Ch}{cs:Cs}{ow:Ow}(h:fA xs ps ch cs ow){G ls:Ls}(J:ft p)(h1:∀x∈G,gU x)(h2:∀x∈ls,gU x)(O:G.length<=20)(U:ls.length<=20)(Y:ow.length<=7)(nb:∀q∈ps,p∉q.fs.map (·.1)):fA xs ps ch cs (bG ow p (G,ls)):=
 have l:(bG ow p (G,ls)).length<=8:=cR (pC _ _ _) (VM Y)
 ⟨⟨⟨h.ok.ok.ch,h.ok.ok.cs,λe j=>(qU j).elim (λz=>by rw[z];exact⟨J,h1,h2⟩) (h.ok.ok.ow e)⟩,h.ok.d1,h.ok.d2,pB h.ok.d3,h.ok.n1,h.ok.n2,l,λe j=>(qU j).elim (λz=>by rw[z];exact⟨O,U⟩) (h.ok.ln e)⟩,h.va,l,λe j=>(qU j).elim (λz=>by rw[z];exact nb) (h.br e)⟩
theorem BW.ok{ns:Ls}{ps:Lp}{ch:Ch}{j:Ls}(z:Apart ns ps)(h:BW ps ch p j):(∀x∈j,gU x)/\j.length<=4:=by
 obtain⟨px,be,x,g,rfl⟩:=h;cases e:look be p with
 | none=>exact⟨(λ_ h=>nomatch h),cE _⟩
 | some ls=>
  obtain⟨q,J,G⟩:=jR.mp (g.sub _ (pL e));obtain⟨_,a,b⟩:=(z.ok q (x.mm q J).1).2.1 _ G;exact⟨a,b⟩
theorem vI{K:Fg}{H:Hp}{ls:Ls}(h:H l=some (.lst (ls.map V.str))):DV K H (.ref l) (dS ls):=zX (ag.of h)
theorem SI{H H':Hp}{kvs:List (aq×V)}{tr:Tr}(h:Paired (cJ H H') kvs tr)(nd:(tr.map (·.1)).Nodup)(J:H l=none)(G:H' l=some (.lst [])):∃q,(bJ kvs (.inr p)).getD (.ref l)=.ref q/\H q=none/\H' q=some (.lst (((look tr p).getD []).map V.str)):=by
 by_cases j:p∈tr.map (·.1)
 . obtain⟨v,ls,e,m,_,q,e2,n,z⟩:=nu (F:=cJ H H') (λkv f z=>z.1) h j;rw[e,tR nd m];exact⟨q,e2,n,z⟩
 rw[tE (F:=cJ H H') (λkv f z=>z.1) h j,fZ.mpr j];exact⟨l,rfl,J,G⟩
def yr(D x dx d b Pt:Addr)(xs:Lv)(ps:Lp)(ch:Ch)(cs:Cs)(ow:Ow)(bk:Bk)(H H':Hp):Prop:=∃t aQ aR aI fs j,dw ch aQ/\dw cs aR/\dw ow aI/\DU D x dx d b Pt xs ps t aQ aR aI fs j H'/\j.length<=bk.length+12/\bW x d b Pt H H'
inductive He (j C S T D Pt:Addr):Sp where
 | mk {H:Hp}{Q:VK}{E:XK}{h z x dx d b c g o:Addr}{U:V}{fs:Tr}{bk:Bk}{xs:Lv}{ps:Lp}{ns:Ls}{t:Str}{J ch:Ch}{O cs:Cs}{G ow:Ow} (_:HW j C S h z x U xs ps ns (msk [x,d,b,Pt] H)) (_:DU D x dx d b Pt xs ps t J O G fs bk H) (_:bk.length<=300) (_:bP H c ch) (_:tJ H g cs) (_:pG H o ow) (_:fA xs ps ch cs ow) (_:∀H',yr D x dx d b Pt xs ps ch cs ow bk H H'->Q .non H'):He j C S T D Pt [.ref h,.ref c,.ref g,.ref o] H Q E
theorem SJ:aM [auv,aux,auI,auV] [auv,aux,auI,auV] (aC Pw):=aV
theorem Hf(j:Pg K mg base Pt):au P w K mg base aL 9 j.HGo.f j.HGo.fd [auv,aux,auI,auV] (He j.Hc j.C j.S j.T j.D Pt):=by
 refine j.HGo.u.okL SJ ?_;intro av Ar outer s H vs Q E Y h xX dX;obtain @⟨_,_,_,h,a9,x,dx,d,b,c,g,o,sv,fs,bk,xs,ps,ns,t,nX,ch,pT,cs,mn,ow,O,J,l3,hc,hg,ho,G,q⟩:=h;refine⟨_,(am (bI (vj (amk (R8 j)) Y rfl adC (eZ (bv (pv 0) rfl) (bv (pv 0) rfl) (qt j.MTIn (up (A3 j)) Y rfl j.UT.mgC j.TIn.b .nil bY (eZ (pv 1) (pv 2) (pv 3))))))),?_⟩;have U:=bg _ _ O.ob;refine⟨U,j.UH.cl,j.UH.nS,rfl,U,j.UH.cl,j.UH.nD,rfl,⟨⟨⟨?_⟩⟩⟩⟩;refine A4 (T:=j.T) hc hg ho G.ok.d3 (by have:=G.o2;omega) λgx H1 ng z eO=>?_;refine⟨O.wl.same (dL z),eO _ J.busy,G,J.same z,l3,λt' aQ aR aI aY fk H' r1 r2 r3 dq ll k=>?_⟩;exact q H' ⟨t',aQ,aR,aI,aY,fk,r1,r2,r3,dq,ll,(bW.of z).trans k⟩
end
section

seal PE PS bu PA PT PW PG dv PI cL
inductive SK (j C S D Pt:Addr):Sp where
 | mk {H:Hp}{Q:VK}{E:XK}{h z x dx d b l:Addr}{G:V}{fs:Tr}{bk:Bk}{xs:Lv}{ps:Lp}{ns:Ls}{t:Str}{ch:Ch}{cs:Cs}{ow:Ow}{p:Str}{ls:Ls} (_:HW j C S h z x G xs ps ns (msk [x,d,b,Pt] H)) (_:DU D x dx d b Pt xs ps t ch cs ow fs bk H) (_:bk.length<=300) (_:ft p) (_:H l=some (.lst (ls.map V.str))) (_:∀y∈ls,gU y) (_:ls.length<=20) (_:ow.length<=7) (_:∀q∈ps,p∉q.fs.map (·.1)) (_:ls≠[]) (_:∀H',yr D x dx d b Pt xs ps ch cs (bG ow p ([],ls)) bk H H'->Q .non H'):SK j C S D Pt [.ref h,.str p,.ref l] H Q E
theorem SM(j:Pg K mg base Pt):au P w K mg base aL 10 j.HEd.f j.HEd.fd [auv,auA,auH] (SK j.Hc j.C j.S j.D Pt):=by
 refine j.HEd.u.okL ro ?_;intro av Ar outer s H vs Q E O h xX dX;obtain @⟨_,_,_,h,a9,x,dx,d,b,l,sv,fs,bk,xs,ps,ns,t,ch,cs,ow,p,ls,hW,J,l3,ua,hl,yt,Hg,l7,ri,lr,q⟩:=h;have hu:=O.units;refine⟨_,(ak (aJ (i:=3) ro.nd rfl (Or.inl rfl) (fF (pv 0) j.UH.cl j.HSK.mt (up (BV j)) O j.HSK.b .nil bY))
  (ak (bI (aU (Sq j) O rfl (ao (pv 1))))
  (ak (aJ (i:=4) ro.nd rfl (Or.inl rfl) (DL hu (aU (Gg j) O rfl (ao (aU (Bh j) O rfl (aO (bv (pv 0) rfl) (bv (pv 3) rfl))))) (pv 1) (cx dE) ⟨rfl,rfl,rfl,rfl⟩))
  (ak (aJ (i:=5) ro.nd rfl (Or.inl rfl) (CW (eW (DP hu) (pv 2) (pv 4) (cj _)) (eE (aO (pv 4) (pv 2))) gm))
  (am (bI (ia (pv 0) j.UH.cl j.HGo.mt (up (Hf j)) O j.HGo.b .nil bY (eZ (bv (pv 3) rfl) (bv (pv 3) rfl) (aU (G8 j) O rfl (eZ (bv (pv 3) rfl) (pv 1) (pv 5))))))))))),?_⟩
 refine Ah ?_;intro dD sS u5 u4 u3 u2;have hh:=bg _ _ hW.ob;refine⟨hh,rfl,hh,J.qd (by omega),J.up,λv H1 s1 hv=>?_⟩;refine⟨by have:=ua.len;omega,ua.path,λH2 s2=>?_⟩;have hv:=hv [x,d,b,Pt] J.busy;obtain⟨va,BP,BQ,c0,h0,o0,rfl,w1,w2,w3,w4,w5,w6,w7⟩:=(hv.same (dL s2)).same bg;have bj:=s1.trans s2;have yu:=bj _ _ hh;have W2:=(hW.wl.same (dL bj)).same bg;have cB:dN xs ps ch:=⟨J.tx.so.ok.d1,J.tx.so.va⟩;have c4:=cB.len W2.ap W2.n4;refine⟨yu,j.UH.cl,j.UH.nS,rfl,w1,j.UT.cl,j.UT.nC,w2,?_⟩;refine⟨W2.sh,w5,J.tx.so.va,by omega,λD1 H3 tO px n3 s3 e3 pr pn pc=>?_⟩;have pm:=Bl pr;have cV:px.length<=5:=by
  have e:=pn.length_eq;rw[ah,ah]at e;omega
 have b0:(fz px).length<=15:=by
  have:=Gj (b:=3) (ps:=px) λp hp=>(W2.pcok p (pm p hp)).n3;omega
 refine⟨e3,Bj (W2.pc.same s3) pr,by omega,λd4 H4 kvs be n4 s4 e4 q9 g4=>?_⟩;refine⟨.inl ⟨_,.inl e4⟩,AA,λl5 H5 n5 s5 e5=>?_⟩;refine⟨_,cw.k (k:=.inr p) (s5 _ _ e4),?_⟩;obtain⟨lb,eb,nb,hb⟩:=SI (p:=p) (aB q9 λkv f a1=>a1.elim λz1 a2=>a2.elim λl a3=>a3.elim λz2 a4=>a4.elim λz3 z4=>⟨z1,l,z2,z3,s5 _ _ z4⟩) g4.nd (s4.free n5) e5;rw[eb];have hB:BW ps ch p ((look be p).getD []):=⟨px,be,⟨pn,λq hq=>⟨pm q hq,pc q hq⟩⟩,g4,rfl⟩;have e0:(look be p).getD []=[]:=by
  cases e:look be p with
  | none=>rfl
  | some y=>
   obtain⟨q',fT,lw⟩:=jR.mp (g4.sub _ (pL e));exact absurd (gE (f:=(·.1)) lw) (ri q' (pm q' fT))
 obtain⟨bl,b4⟩:=hB.ok W2.ap;generalize yw:(look be p).getD []=br at hb hB bl b4;have Hh:br=[]:=yw.symm.trans e0;subst Hh;clear yw;have kz:=s3.trans (s4.trans s5);have lu:=bj.trans kz;have yx:=lu _ _ hl;have Hi:∀y∈ls,Ln y:=λy hy=>(yt y hy).ln;have Hl:∀y∈([]:Ls),Ln y:=λy hy=>(bl y hy).ln;refine⟨dS ls,dS [],vI yx,vI hb,uS 8 Hi,uS 8 Hl,λbb iV=>⟨?_⟩⟩;rw[Lr]at iV;obtain⟨ko,o1,o2⟩:=id (w7.same kz);have lo:=bh o2;have b1:=kz _ _ w1;have hk:∀{R:Hp} kv e,i3 R kv e->kv.1=Sum.inr e.1:=λkv e z=>z.1;have go:∀{Y:Hp}{o':Addr}{kk:List (aq×V)},ac H5 Y->Y o'=some (.dK kk)->Paired (i3 Y) kk (bG ow p ([],ls))->fA xs ps ch cs (bG ow p ([],ls))->He j.Hc j.C j.S j.T j.D Pt [.ref h,.ref c0,.ref h0,.ref o'] Y (λ_ H'=>Q .non H') E0:=λ{Y o' kk} G e6 tV Hm=>by
  have nJ:=lu.trans G;have U:=kz.trans G;exact⟨hW.same (dL nJ),J.same nJ,l3,w5.same U,w6.same U,⟨_,e6,tV⟩,Hm,λH' a5=>a5.elim λt' a6=>a6.elim λaQ a7=>a7.elim λaR ab=>ab.elim λaI al=>al.elim λaY ax=>ax.elim λfk ay=>ay.elim λr1 az=>az.elim λr2 a'=>a'.elim λr3 aH=>aH.elim λdq a0=>a0.elim λll k=>q H' ⟨t',aQ,aR,aI,aY,fk,r1,r2,r3,dq,ll,(bW.of nJ).trans k⟩⟩
 cases bb with
 | true=>
  exact absurd (iV.mp rfl) lr
 | false=>
  have el:ls≠[]:=λz=>by have:=iV.mpr z;cases this
  refine eR ?_;refine⟨Ax,λtt Y n6 G e6=>?_⟩;have U:=kz.trans G;refine⟨U _ _ yu,rfl,U _ _ w1,j.UT.cl,j.UT.nC,w2,U _ _ w1,j.UT.cl,j.UT.nH,w3,?_⟩;refine⟨U _ _ w1,j.UT.cl,j.UT.nO,w4,G _ _ o1,by omega,(λz=>nomatch z),λ_ o' H7 no s7 e7=>?_⟩;refine go (G.trans s7) e7 ?_ ?_
  . exact li (F:=i3 H7) hk ⟨rfl,tt,lb,l,rfl,s7 _ _ e6,(G.trans s7) _ _ hb,(G.trans s7) _ _ yx⟩ (aB o2 λ_ _=>i3.same (G.trans s7))
  exact J.tx.so.put ua bl yt (by omega) Hg l7 ri
end
end K75
namespace HT
section
open PySem.SeqAt
open PySem.AutoSeq1 (wpAny_loadPart')
open PySem.MeetsSeq PySem.MeetsSeq2 PySem.MeetsSeq3
variable {P:Program}{w:World}{A:Around}{s:Shared}
theorem am1(p q:Addr)(it G:Av)(n n2:Nat)(dd U:Oa)(sl Y:Array (Option Value))(hz:it.size=G.size) :
 MeetsIn P w (Builtin.«tuple.__ne__» ⟨[.ref p,.ref q],[]⟩)
  (λA R s=>s.heap.get? p=some ⟨.type "tuple",dd,.seq it n,sl⟩/\s.heap.get? q=some ⟨.type "tuple",U,.seq G n2,Y⟩/\(∀j (h1:j<it.size) (h2:j<G.size),lg P w A.in1 s it[j] G[j])/\R (.ok (.ret (.bool false))) s):=by
 intro A R s h;obtain⟨hp,g,d,tk,os⟩:=s;obtain⟨g1,g2,he,h⟩:=h;have f2:=Ck;have lz:(it.toList.zip G.toList).length=it.size:=by simp[hz]
 wp_walk using wpAny_loadPart' g1,wpAny_loadPart' g2,oq _ (λrest c J=>c.1=none/\J=⟨hp,g,d,tk,os⟩/\∃j,rest=(it.toList.zip G.toList).drop j) _
 case turn=>
  rintro⟨u,v⟩ rest c J ⟨_,rfl,j,er⟩;have O:j<(it.toList.zip G.toList).length:=Vu λz=>by rw[asK z]at er;cases er
  have h1:j<it.size:=lz▸O;have h2:j<G.size:=hz▸h1;rw[IY O]at er;injection er with e1 e2
  have eu:u=it[j]:=by simpa using cS Prod.fst e1
  have ev:v=G[j]:=by simpa using cS Prod.snd e1
  subst eu ev;refine aa (he j h1 h2 _ _ ?_)
  wp_walk
  exact⟨rfl,rfl,j+1,e2⟩
 case fin=>
  rintro⟨c1,c2⟩ J ⟨ec,rfl,_⟩;simp only at ec;subst ec
  wp_walk
  simpa [Builtin.Tuple.tupleCompareSizes,hz]using h
 case h=>exact⟨rfl,rfl,0,rfl⟩
theorem am2{it G:Av}{Q E:VP}(h1:IsTup s.heap p it)(h2:IsTup s.heap q G)(hz:it.size=G.size)(hu:A.units<cLine)
 (he:∀j (h1:j<it.size) (h2:j<G.size),lg P w A.in1 s it[j] G[j]) (z:Q (.bool false) s):wpAny (model P w) A (compareOp .NotEq (.ref p) (.ref q)) Q E s:=by
 obtain⟨⟨cls,dd,data,sl⟩,J,Y,n,hd⟩:=id h1;obtain⟨⟨si,dQ,data2,eP⟩,U,O,n2,a0⟩:=id h2;simp only at Y hd O a0;subst Y hd O a0;show wpAny (model P w) A (richCompare .NotEq (.ref p) (.ref q)) Q E s;refine UO (op:=.NotEq) ⟨_,J,rfl⟩ ⟨_,U,rfl⟩ asL (rF asL ⟨_,J,rfl⟩ PySem.F.entry_tuple_ne (PySem.F.args_tuple_ne_2 _ _) (am1 p q it G n n2 dd dQ sl eP hz) ?_) hu;exact⟨J,U,he,show Value.bool false≠Value.notImplemented/\Q (.bool false) s from ⟨(λx=>nomatch x),z⟩⟩
end
end HT
namespace L2
open PySem.W (KeqHits)
section
variable {X:Cx}
theorem Hn{a_:Po}{Z:L2.St}{H:Hp}{s:Shared}{A:Around}(I:Inv X a_ Z H s)(Y:A.units+65<cLine){fG:List (aq×V)}{J:List (aq×Value)}(nd:(fG.map (·.1)).Nodup)(U:KV fG J):∀{ka kb:List (aq×V)}{va:List (aq×Value)},Paired (An X.K H) ka kb->KV ka va->(∀p∈kb,p∈fG)->KeqHits A.in1 s J va true
 | _,_,_,.nil,.nil,_=>.nil
 | _,_,_,.cons (a:=p) (b:=q) r t,.cons (b:=pv) rv tv,hm=>by
  obtain⟨e,d,d1,d2,ok⟩:=r;obtain⟨as,ra⟩:=d1.reads I rv.2;have hq:=adk nd (k:=q.1) (v:=q.2) (hm q bA);have j:=U.val q.1;rw[hq]at j;cases G:valueAt J q.1 with
  | none=>rw[G]at j;exact j.elim
  | some y=>
   rw[G]at j;have j:RelV q.2 y:=j;obtain⟨bs,rb⟩:=d2.reads I j;have O:=W.keq_at (A:=A) ra rb (qB ok) (qB ok) Y;have et:=(IJ 9 d d 9 ok ok).mpr rfl;rw[et]at O;have z:pv.1=q.1:=rv.1.symm.trans e;obtain⟨pk,a0⟩:=pv;have z:pk=q.1:=z;subst z;exact .hit (e:=true) (b:=true) G O (Hn I Y nd U t tv λp hp=>hm p (bL _ hp))
def am3(K:Fg)(x y:V)(H:Hp)(Q:VK):Prop:=∃(p q j z G J:Addr) (kvs O fG:List (aq×V)) (U:List Addr),x=.ref p/\y=.ref q/\H p=some (.tup [.ref j,.ref G])/\H q=some (.tup [.ref z,.ref J])/\j≠z/\G≠J/\H j=some (.dK kvs)/\H z=some (.dK fG)/\Paired (An K H) kvs O/\(∀p∈O,p∈fG)/\kvs.length=fG.length/\(fG.map (·.1)).Nodup /\
 H G=some (.lst (U.map V.ref))/\H J=some (.lst (U.map V.ref))/\Q (.bl false) H
theorem am4(hu:X.A.units+66<cLine):cu X (compareOp .NotEq) (am3 X.K):=by
 intro a_ s Z H x y v u Q I rx ry h;obtain⟨p,q,G,J,O,U,kvs,kb,fG,ts,rfl,rfl,hp,hq,na,nl,h1,h2,pr,hm,hl,nd,k1,k2,q'⟩:=h;cases rx;cases ry;obtain⟨_,hd,vs,a0,dd⟩:=kW I.hok h1;obtain⟨_,kQ,ws,Y,ic⟩:=kW I.hok h2;obtain⟨i1,v1,p1,_⟩:=I.tuple (aP.of (K:=X.K) hp);obtain⟨i2,v2,p2,_⟩:=I.tuple (aP.of (K:=X.K) hq);obtain⟨j1,w1,m1,_⟩:=I.list (ag.of (K:=X.K) k1);obtain⟨j2,w2,m2,_⟩:=I.list (ag.of (K:=X.K) k2);have e1:i1=[.ref G,.ref O]:=lV (Ds:=[G,O]) v1;have e2:i2=[.ref J,.ref U]:=lV (Ds:=[J,U]) v2;have e3:=lV w1;have e4:=lV w2;subst e1 e2 e3 e4;have yz:∀{a:Addr}{it:Av},PlainL s.heap a it->s.heap.IsList a it:=λa3=>a3.elim λo a4=>a4.elim λn a5=>a5.elim λe a6=>a6.elim λc a7=>a7.elim λ_ d=>⟨o,e,c,n,d⟩;refine HT.am2 p1 p2 rfl (by omega) (λj h1 h2=>?_) ⟨.bl false,H,I,rfl,q'⟩;have u1:X.A.in1.units+65<cLine:=by show X.A.units+1+65<cLine;omega
 match j,h1,h2 with
 | 0,_,_=>
  refine HT.lg.refs na λE Q q=>?_;refine W.keq_eq (knd:=b8 X.prog X.w) (r:=true) hd kQ dd ic (by omega) (λ_=>Hn I u1 nd Y pr a0 hm) ?_;have e:vs.length=ws.length:=by rw[<-a0.length,<-Y.length,hl]
  rw[e,Cv];exact q
 | 1,_,_=>
  refine HT.lg.of (SeqAt.EqAt.of_refs nl ?_);have z:=SeqAt.RcAt.lists (A:=X.A.in1) (s:=s) (e:=λ_=>true) (yz m1) (yz m2) rfl (by omega) λj _ _=>U2 _;have t:((List.range ((ts.map Value.ref).toArray.size)).all λ_=>true)=true:=eT.mpr λ_ _=>rfl;rw[t]at z;exact z
end
end L2
namespace K75
section
variable {H:Hp}
seal PE PS bu PA PT PW PG dv PI cL
theorem ana{xs:Lv}{ps:Lp}:BM xs ps Str.empty []:=⟨[],[],[],[],⟨[],[],[],vA,vA,vA,BH⟩,BH.so,⟨[],[],⟨.refl _,λp j=>nomatch j⟩,QG,rfl⟩,rfl⟩
theorem tk0{xs:Lv}{ps:Lp}:nU xs ps [Str.empty]:=λt j=>⟨[],[],[],by rw[bX.mp j];exact BH⟩
theorem Dk.allow{N N':Int}{lf lf':Option Int}{fs:Tr}{bk:Bk}(h:Dk N D x dx d b lf fs bk H)(p:∀m,lf'=some m->0<=m/\(fs.length:Int)+m<=39/\(fs.length:Int)+m+(bk.length:Int)<=N'):Dk N' D x dx d b lf' fs bk (ae H x (.ins D dx (dj d b (lv lf')))):=by
 have k:∀{q:Addr}{o:HO},H q=some o->(∀c dx fl,o≠.ins c dx fl)->ae H x (.ins D dx (dj d b (lv lf'))) q=some o:=λe n=>gM e (aT e h.ob (n _ _ _));obtain⟨kd,d1,d2⟩:=h.fi;obtain⟨tb,b1,b2⟩:=h.bo;exact⟨aw,⟨kd,k d1 (by intro _ _ _ z;cases z),aB d2 λ_ _ J=>J.elim λj and=>and.elim λl O=>O.elim λG z3=>⟨j,l,G,k z3 (by intro _ _ _ z;cases z)⟩⟩,⟨tb,k b1 (by intro _ _ _ z;cases z),aB b2 λ_ _ U=>U.elim λt Y=>Y.elim λj G=>⟨t,j,k G (by intro _ _ _ z;cases z)⟩⟩,h.nd,h.ok,h.bz,h.bt,p⟩
theorem bW.allow{o:HO}:bW x d b Pt H (ae H x o):=λq _ e n _ _ _=>gM e n
theorem aG.allow{N:Int}{lf:Option Int}{fs:Tr}{bk:Bk}{lp:Pos}{qu:Str}{o:HO}(h:Dk N D x dx d b lf fs bk H)(t:aG H Pt lp qu):aG (ae H x o) Pt lp qu:=K75.aG.kp t λq φ e=>gM e (aT e h.ob (by intro z;cases z))
inductive SO (D:Addr):Sp where
 | mk {H:Hp}{Q:VK}{E:XK}{x dx d b:Addr}{v j:V} (_:H x=some (.ins D dx (dj d b v))) (_:Q .non (ae H x (.ins D dx (dj d b j)))):SO D [.ref x,j] H Q E
theorem anh:aM [auv,"many"] [auv,"many"] (aC OI):=aV
theorem BX(j:Pg K mg base Pt):au P w K mg base aL 1 j.DAl.f j.DAl.fd [auv,"many"] (SO j.D):=by
 refine j.DAl.u.okL anh ?_;intro J G outer s H vs Q E U h xX O;obtain @⟨_,_,_,x,dx,d,b,v,Y,z,q⟩:=h;refine⟨_,(am (gR (pv 0) (pv 1) rfl)),?_⟩;refine⟨z,j.UD.cl,j.UD.nL,by show 3<1000;decide,?_⟩;rw[QO];exact q
end
section
variable {K:Fg}{H:Hp}{xs:Lv}{Q:Addr->Hp->Prop}{E:XK}
seal PE PS bu PA PT PW PG dv PI cL
theorem ani{t:Addr}:msk [t] H t=none:=by
 unfold msk;rw[ai bA]
theorem BY{t:Addr}(n:q≠t):msk [t] H q=H q:=by
 unfold msk;rw[af (by simpa using n)]
theorem anj(n:∃φ,H Pt=some (.ext φ))(h:ag K H a xs):ag K (msk [Pt] H) a xs:=by
 obtain⟨φ,n⟩:=n
 rcases h with(h | ⟨o,h⟩) | h
 . exact .inl (.inl (by rw[BY (aT h n (by intro z;cases z))];exact h))
 . exact .inl (.inr ⟨o,by rw[BY (aT h n (by intro z;cases z))];exact h⟩)
 exact .inr h
theorem ank{ps:Lp}(ha:H a=some (.lst xs))(U:gW C H xs ps)(J:ps.length<=100)(G:(ps.map cI).Nodup)(q:∀x H',H x=none->ac H H'->fw S H' (.ref x) xs ps->Q x H') :
 ∀x dx,H x=none->H dx=none->dx≠x->Gd K C S (.ref x::([.ref a]++[])) (ae (ae H dx (.own x)) x (.ins S dx [])) (λv H2=>v=.non/\Q x H2) E:=by
 intro x dx j O nx;have z:ac H (ae (ae H dx (.own x)) x (.ins S dx [])):=gt (gb O) j;refine⟨aw,z _ _ ha,U.same z,J,G,λH' keep Y=>⟨rfl,q x H' j (λb o e=>keep b o (z _ _ e) (aF e j)) Y⟩⟩
theorem anl(q:∀x dx d b H',H x=none->H d=none->H b=none->ac H H'->Dk 0 C x dx d b none [] [] H'->Q x H') :
 ∀x dx,H x=none->H dx=none->dx≠x->Go C [.ref x] (ae (ae H dx (.own x)) x (.ins C dx [])) (λv H2=>v=.non/\Q x H2) E:=by
 intro x dx j J nx;have G:ac H (ae (ae H dx (.own x)) x (.ins C dx [])):=gt (gb J) j;exact⟨aw,λd b H' nd U h1 h2 O k=>⟨rfl,q x dx d b H' j (G.free nd) (G.free U) (λp o e=>k p o (G _ _ e) (aF e j)) ⟨h1,⟨[],h2,.nil⟩,⟨[],O,.nil⟩,jo,(λf z=>nomatch z),λ_=>rfl,(λe z=>nomatch z),λ_ z=>nomatch z⟩⟩⟩
theorem fw.off{v:V}{ps:Lp}(n:∃φ,H Pt=some (.ext φ))(h:fw S H v xs ps):fw S (msk [Pt] H) v xs ps:=by
 obtain⟨φ,n⟩:=n;obtain⟨a,dx,fl,d,kvs,e,h1,h2,O,G,J,j,U⟩:=h;exact⟨a,dx,fl,d,kvs,e,by rw[BY (aT h1 n (by intro z;cases z))];exact h1,h2,O,G,J,by rw[BY (aT j n (by intro z;cases z))];exact j,U⟩
theorem anm{J:V}(q:∀h j H',H h=none->ac H H'->H' h=some (.ins Hc j (vH J x))->Q h H') :
 ∀h j,H h=none->H j=none->j≠h->G9 Hc (.ref h::([J,.ref x]++[])) (ae (ae H j (.own h)) h (.ins Hc j [])) (λv H2=>v=.non/\Q h H2) E:=by
 intro h j G hd nx;have O:ac H (ae (ae H j (.own h)) h (.ins Hc j [])):=gt (gb hd) G;exact⟨aw,λH' e k=>⟨rfl,q h j H' G (λp o z=>k p o (O _ _ z) (aF z G)) e⟩⟩
theorem SQ(bk:Bk)(t:Str)(st:Ls):dY (bk++(dG,t)::dP st)=dY bk++[t]:=by
 have e:bk++(dG,t)::dP st=(bk++[(dG,t)])++dP st:=by rw[i6];rfl
 rw[e,Sw,BG,ai rfl]
theorem ann(bk:Bk)(t:Str)(st:Ls):kE (bk++(dG,t)::dP st)=false:=by
 unfold kE;have key:∃e:Str×Str,(bk++(dG,t)::dP st).getLast?=some e/\e.1≠ly.1:=by
  have ne:(bk++(dG,t)::dP st)≠[]:=by simp
  refine⟨_,asI ne,?_⟩;rw[List.getLast_append_of_ne_nil _ (wa _ _)];have G:=List.getLast_mem (wa (dG,t) (dP st))
  rcases bc.mp G with z | z
  . rw[z];exact show dG≠ly.1 by decide +kernel
  obtain⟨y,_,j⟩:=bf.mp z;rw[<-j];exact show ym≠ly.1 by decide +kernel
 obtain⟨e,h1,h2⟩:=key;rw[h1];exact bM λz=>h2 (by rw[z])
theorem SR{fG:List (aq×V)}{tr:Tr}(hw:Paired (bV H) fG tr){kvs:List (aq×V)}{fs:Tr}(ok:fj fs)(hs:∀f∈fs,f∈tr)(h:Paired (bV H) kvs fs):∃j,Paired (An K H) kvs j/\∀p∈j,p∈fG:=by
 induction h with
 | nil=>exact⟨[],.nil,λ_ h=>nomatch h⟩
 | @cons kv f kvs fs r t ih=>
  obtain⟨j,h1,h2⟩:=ih (λg z=>ok g (bL _ z)) (λg z=>hs g (bL _ z));obtain⟨i,hi⟩:=List.mem_iff_getElem?.mp (hs f bA);obtain⟨kw,Y,J,l2,U,c2⟩:=AN hw hi;obtain⟨G,l1,O,c1⟩:=r;refine⟨kw::j,.cons ⟨G.trans J.symm,dS f.2,?_,?_,QV (ok f bA)⟩ h1,λp hp=>?_⟩
  . rw[O];exact zX (ag.of c1)
  . rw[U];exact zX (ag.of c2)
  rcases bc.mp hp with e | hp
  . rw[e];exact d6 Y
  exact h2 p hp
theorem SS{tb:Lv}{bk:Bk}(h:Paired (kD H) tb bk):∃j:List Addr,tb=j.map V.ref:=by
 induction h with
 | nil=>exact⟨[],rfl⟩
 | cons r t z=>
  obtain⟨a,e,_⟩:=r;obtain⟨j,rfl⟩:=z;exact⟨a::j,by rw[e];rfl⟩
end
section
variable {xs:Lv}{ps:Lp}{ch:Ch}{cs:Cs}{ow:Ow}{N m:Int}{H:Hp}
seal PE PS bu PA PT PW PG dv PI cL
theorem fA.putH(h:fA xs ps ch cs ow){c n:Str}(h1:cm c)(h2:cm n)(G:cs.length<=2):fA xs ps ch (bG cs c n) ow:=
 have l:(bG cs c n).length<=3:=cR (pC _ _ _) (VM G)
 ⟨⟨⟨h.ok.ok.ch,λe j=>(qU j).elim (λz=>by rw[z];exact⟨h1,h2⟩) (h.ok.ok.cs e),h.ok.ok.ow⟩,h.ok.d1,pB h.ok.d2,h.ok.d3,h.ok.n1,l,h.ok.n3,h.ok.ln⟩,h.va,h.o2,h.br⟩
structure DF(N m:Int)(D x dx d b Pt:Addr)(xs:Lv)(ps:Lp)(t:Str)(ch:Ch)(cs:Cs)(ow:Ow)(fs:Tr)(bk:Bk)(H:Hp):Prop where
 dk:Dk N D x dx d b (some m) fs bk H
 la:(Str.empty::dY bk).getLast?=some t
 tx:gA xs ps t ch cs ow
 tk:nU xs ps (Str.empty::dY bk)
 up:kE bk=true
 fu:BM xs ps t fs
 ln:fs.length<=24
 tb:aG H Pt dz dg
 few:m=1\/m=2
 all:(fs.length:Int)+m+(bk.length:Int)=N
theorem DF.same{t:Str}{fs:Tr}{bk:Bk}{H':Hp}(h:DF N m D x dx d b Pt xs ps t ch cs ow fs bk H)(s:ac H H'):DF N m D x dx d b Pt xs ps t ch cs ow fs bk H':=⟨h.dk.same s,h.la,h.tx,h.tk,h.up,h.fu,h.ln,h.tb.same s,h.few,h.all⟩
theorem DF.busy{t:Str}{fs:Tr}{bk:Bk}(h:DF N m D x dx d b Pt xs ps t ch cs ow fs bk H):iX H [x,d,b,Pt]:=h.dk.busy h.tb
theorem DF.qd{t:Str}{fs:Tr}{bk:Bk}(h:DF N m D x dx d b Pt xs ps t ch cs ow fs bk H)(l:bk.length<=380):QD D x dx d b (lv (some m)) xs ps t ch cs ow bk H:=⟨h.dk.ob,h.dk.bo,h.la,h.tx,h.tk,h.dk.bt,l⟩
theorem anp{ns:Ls}{aQ:Ch}{aR:Cs}{aI:Ow}{fs aY tr G:Tr}{p:Str}(j:Apart ns ps)(O:aQ.Perm ch)(d1:(ch.map (·.1)).Nodup)(d3:(ow.map (·.1)).Nodup)(a0:(aI.map (·.1)).Nodup)(hs:∀k∈ow.map (·.1),k∈aI.map (·.1))(hp:p∈aI.map (·.1))(hn:p∉ow.map (·.1))(nb:∀q∈ps,p∉q.fs.map (·.1))
 (g:By ps ch cs ow tr) (g':By ps aQ aR aI G) (e:look fs=look tr) (e':look aY=look G) (nd:(fs.map (·.1)).Nodup) (vw:(aY.map (·.1)).Nodup):fs.length+1<=aY.length:=by
 obtain⟨px,be,x,J,a⟩:=g;obtain⟨tS,pP,x',a1,U⟩:=g';have m:∀q,q∈px↔q∈tS:=λq=>by rw[x.iff j.nd d1,x'.iff j.nd ((O.map _).nodup_iff.mpr d1),O.mem_iff]
 have t0:=akh j d1 x.mm m J a1;have key:∀{β:Type}{l:List (Str×β)}{k:Str},look l k≠none↔k∈l.map (·.1):=λ{β l k}=>by
  rw[Ne,fZ,Classical.not_not]
 have lf:∀k,look fs k=((look ow k).map (·.2)).or (look be k):=λk=>by rw[e,a,Bw _ _ _ d3]
 have lf':∀k,look aY k=((look aI k).map (·.2)).or (look pP k):=λk=>by rw[e',U,Bw _ _ _ a0]
 have up:∀k,look fs k≠none->look aY k≠none:=λk h=>by
  rw[lf']at *;rw[lf]at h;cases h1:look aI k with
  | some z=>intro w;cases w
  | none=>
   have:look ow k=none:=fZ.mpr λz=>fZ.mp h1 (hs k z);rw[this]at h;rw[<-t0];exact h
 have a2:look aY p≠none:=by
  rw[lf'];cases h1:look aI p with
  | some z=>intro w;cases w
  | none=>exact absurd hp (fZ.mp h1)
 have Y:look fs p=none:=by
  rw[lf,fZ.mpr hn];show look be p=none;refine fZ.mpr λz=>?_;obtain⟨f,hf,ef⟩:=bf.mp z;obtain⟨q,hq,lw⟩:=jR.mp (J.sub f hf);exact nb q (x.mm q hq).1 (by rw[<-ef];exact gE (f:=(·.1)) lw)
 have:=iT (xs:=p::fs.map (·.1)) (ys:=aY.map (·.1)) (i5.mpr ⟨fZ.mp Y,nd⟩) λz hz=>by
  rcases bc.mp hz with w | w
  . rw[w];exact key.mp a2
  exact key.mp (up z (key.mpr w))
 rw[bq,ah,ah]at this;exact this
inductive Ho (G C S T D z Pt:Addr):Sp where
 | mk {H:Hp}{Q:VK}{E:XK}{N m:Int}{h O x dx d b c g o:Addr}{Y:V}{fs:Tr}{bk:Bk}{xs:Lv}{ps:Lp}{ns:Ls}{t p:Str}{J ch:Ch}{U cs:Cs}{j ow:Ow} (_:HW G C S h O x Y xs ps ns (msk [x,d,b,Pt] H)) (_:DF N m D x dx d b Pt xs ps t J U j fs bk H) (_:bk.length<=300) (_:bP H c ch) (_:tJ H g cs) (_:pG H o ow) (_:fA xs ps ch cs ow) (_:ch=J) (_:∀k∈j.map (·.1),k∈ow.map (·.1)) (_:p∈ow.map (·.1)) (_:p∉j.map (·.1)) (_:∀q∈ps,p∉q.fs.map (·.1))
  (_:∀t' aY st H',nW xs ps ch cs ow t'->Dk N D x dx d b (some 0) aY (bk++(dG,t')::dP st) H'->st.length<=10->bW x d b Pt H H'->aG H' Pt dz dg->E (.ref z) none H'):Ho G C S T D z Pt [.ref h,.ref c,.ref g,.ref o] H Q E
theorem anu(j:Pg K mg base Pt):au P w K mg base (eS P w) 9 j.HGo.f j.HGo.fd [auv,aux,auI,auV] (Ho j.Hc j.C j.S j.T j.D j.Fa Pt):=by
 refine j.HGo.u.okR SJ (λvs H Q E h=>?_) (λav Ar outer s H vs Q E hr h=>?_)
 . cases h;rfl
 obtain @⟨_,_,_,N,m,h,a9,x,dx,d,b,c,g,o,sv,fs,bk,xs,ps,ns,t,p,nX,ch,pT,cs,mn,ow,Y,G,l3,hc,hg,ho,so,ec,hs,hp,hn,nb,q⟩:=h;refine⟨_,(am (bI (vj (R8 j) hr rfl jj (eZ (bv (pv 0) rfl) (bv (pv 0) rfl) (qt j.MTIn (up (A3 j)) hr rfl j.UT.mgC j.TIn.b .nil bY (eZ (pv 1) (pv 2) (pv 3))))))),?_⟩;have hh:=bg _ _ Y.ob;refine⟨hh,j.UH.cl,j.UH.nS,rfl,hh,j.UH.cl,j.UH.nD,rfl,⟨⟨⟨?_⟩⟩⟩⟩;refine A4 (T:=j.T) hc hg ho so.ok.d3 (by have:=so.o2;omega) λgx H1 ng s1 eO=>?_;have D1:=G.same s1;refine⟨Y.wl.same (dL s1),eO _ G.busy,so,D1.dk,G.ln,l3,G.tk,D1.tb,λt' H' tg hl J k tb=>?_,λt' lf' aY st H' tg iu J BU fu l8 k tb=>?_,λt' aY st H' tg _ J l8 k tb=>q t' aY st H' tg J l8 ((bW.of s1).trans k) tb,λz=>?_⟩
 . obtain⟨aQ,aR,aI,r1,r2,O,U⟩:=tg;rw[G.la]at hl;cases hl;obtain⟨_,_,e3⟩:=U.uniq G.tx;refine absurd ?_ hn;rw[<-e3];exact(O.pm.map _).mem_iff.mpr hp
 . cases lf' with
   | none=>exact nomatch iu.mpr rfl
   | some m'=>
    obtain⟨p0,_,p2⟩:=J.ps m' rfl;obtain⟨aQ,aR,aI,r1,r2,O,U⟩:=id tg;have al:=G.all;rw[bD,bD,bq,mB]at p2;obtain⟨c1,az,o1,aH,⟨ab,a6,A8,a1,a2,a3,a0⟩,SV,g1,e1⟩:=G.fu;obtain⟨c2,a',o2,b0,⟨ax,a7,ay,b1,b2,b3,a4⟩,a5,g2,e2⟩:=fu;obtain⟨rfl,rfl,rfl⟩:=a0.uniq G.tx;obtain⟨rfl,rfl,rfl⟩:=a4.uniq U;have mf:=anp (p:=p) Y.wl.ap (b1.pm.symm.trans (r1.pm.trans (by rw[ec];exact a1.pm))) SV.ok.d1 SV.ok.d3 a5.ok.d3 (λk hk=>(b3.pm.map _).mem_iff.mp ((O.pm.map _).mem_iff.mpr (hs k ((a3.pm.map _).mem_iff.mpr hk)))) ((b3.pm.map _).mem_iff.mp ((O.pm.map _).mem_iff.mpr hp)) (λz=>hn ((a3.pm.map _).mem_iff.mpr z)) nb g1 g2 e1 e2 G.dk.nd J.nd;have:=G.few;omega
 have f:=G.few;rw[tQ (by omega)]at z;cases z
inductive SW (z C S D j Pt:Addr):Sp where
 | mk {H:Hp}{Q:VK}{E:XK}{N m:Int}{h G x dx d b l:Addr}{J:V}{fs:Tr}{bk:Bk}{xs:Lv}{ps:Lp}{ns:Ls}{t:Str}{ch:Ch}{cs:Cs}{ow:Ow}{p:Str}{ls:Ls} (_:HW z C S h G x J xs ps ns (msk [x,d,b,Pt] H)) (_:DF N m D x dx d b Pt xs ps t ch cs ow fs bk H) (_:bk.length<=300) (_:ft p) (_:H l=some (.lst (ls.map V.str))) (_:∀y∈ls,gU y) (_:ls.length<=20) (_:ow.length<=7) (_:∀q∈ps,p∉q.fs.map (·.1)) (_:ls≠[]) (_:p∉ow.map (·.1)) (_:∀t' aY st H',nW xs ps ch cs (bG ow p ([],ls)) t'->Dk N D x dx d b (some 0) aY (bk++(dG,t')::dP st) H'->st.length<=10->bW x d b Pt H H'->aG H' Pt dz dg->E (.ref j) none H'):SW z C S D j Pt [.ref h,.str p,.ref l] H Q E
theorem anA(j:Pg K mg base Pt):au P w K mg base (eS P w) 10 j.HEd.f j.HEd.fd [auv,auA,auH] (SW j.Hc j.C j.S j.D j.Fa Pt):=by
 refine j.HEd.u.okR ro (λvs H Q E h=>?_) (λav Ar outer s H vs Q E O h=>?_)
 . cases h;rfl
 refine wQ ?_;intros;obtain @⟨_,_,_,N,m,h,a9,x,dx,d,b,l,sv,fs,bk,xs,ps,ns,t,ch,cs,ow,p,ls,hW,J,l3,ua,hl,yt,Hg,l7,ri,lr,a4,q⟩:=h;have hu:=O.units;refine⟨_,(ak (aJ (i:=3) ro.nd rfl (Or.inl rfl) (fF (pv 0) j.UH.cl j.HSK.mt (up (BV j)) O j.HSK.b .nil bY))
  (ak (bI (aU (Sq j) O rfl (ao (pv 1))))
  (ak (aJ (i:=4) ro.nd rfl (Or.inl rfl) (DL hu (aU (Gg j) O rfl (ao (aU (Bh j) O rfl (aO (bv (pv 0) rfl) (bv (pv 3) rfl))))) (pv 1) (cx dE) ⟨rfl,rfl,rfl,rfl⟩))
  (ak (aJ (i:=5) ro.nd rfl (Or.inl rfl) (CW (eW (DP hu) (pv 2) (pv 4) (cj _)) (eE (aO (pv 4) (pv 2))) gm))
  (am (bI (ia (pv 0) j.UH.cl j.HGo.mt (up (anu j)) O j.HGo.b .nil jj (eZ (bv (pv 3) rfl) (bv (pv 3) rfl) (aU (G8 j) O rfl (eZ (bv (pv 3) rfl) (pv 1) (pv 5))))))))))),?_⟩
 refine Ah ?_;intro dD sS u5 u4 u3 u2;have hh:=bg _ _ hW.ob;refine⟨hh,rfl,hh,J.qd (by omega),J.up,λv H1 s1 hv=>?_⟩;refine⟨by have:=ua.len;omega,ua.path,λH2 s2=>?_⟩;have hv:=hv [x,d,b,Pt] J.busy;obtain⟨va,BP,BQ,c0,h0,o0,rfl,w1,w2,w3,w4,w5,w6,w7⟩:=(hv.same (dL s2)).same bg;have bj:=s1.trans s2;have yu:=bj _ _ hh;have W2:=(hW.wl.same (dL bj)).same bg;have cB:dN xs ps ch:=⟨J.tx.so.ok.d1,J.tx.so.va⟩;have c4:=cB.len W2.ap W2.n4;refine⟨yu,j.UH.cl,j.UH.nS,rfl,w1,j.UT.cl,j.UT.nC,w2,?_⟩;refine⟨W2.sh,w5,J.tx.so.va,by omega,λD1 H3 tO px n3 s3 e3 pr pn pc=>?_⟩;have pm:=Bl pr;have cV:px.length<=5:=by
  have e:=pn.length_eq;rw[ah,ah]at e;omega
 have a5:(fz px).length<=15:=by
  have:=Gj (b:=3) (ps:=px) λp hp=>(W2.pcok p (pm p hp)).n3;omega
 refine⟨e3,Bj (W2.pc.same s3) pr,by omega,λd4 H4 kvs be n4 s4 e4 q9 g4=>?_⟩;refine⟨.inl ⟨_,.inl e4⟩,AA,λl5 H5 n5 s5 e5=>?_⟩;refine⟨_,cw.k (k:=.inr p) (s5 _ _ e4),?_⟩;obtain⟨lb,eb,nb,hb⟩:=SI (p:=p) (aB q9 λkv f a0=>a0.elim λz1 a1=>a1.elim λl a2=>a2.elim λz2 a3=>a3.elim λz3 z4=>⟨z1,l,z2,z3,s5 _ _ z4⟩) g4.nd (s4.free n5) e5;rw[eb];have hB:BW ps ch p ((look be p).getD []):=⟨px,be,⟨pn,λq hq=>⟨pm q hq,pc q hq⟩⟩,g4,rfl⟩;have e0:(look be p).getD []=[]:=by
  cases e:look be p with
  | none=>rfl
  | some y=>
   obtain⟨q',fT,lw⟩:=jR.mp (g4.sub _ (pL e));exact absurd (gE (f:=(·.1)) lw) (ri q' (pm q' fT))
 obtain⟨bl,b4⟩:=hB.ok W2.ap;generalize yw:(look be p).getD []=br at hb hB bl b4;have Hh:br=[]:=yw.symm.trans e0;subst Hh;clear yw;have kz:=s3.trans (s4.trans s5);have lu:=bj.trans kz;have yx:=lu _ _ hl;have Hi:∀y∈ls,Ln y:=λy hy=>(yt y hy).ln;have Hl:∀y∈([]:Ls),Ln y:=λy hy=>(bl y hy).ln;refine⟨dS ls,dS [],vI yx,vI hb,uS 8 Hi,uS 8 Hl,λbb iV=>⟨?_⟩⟩;rw[Lr]at iV;obtain⟨ko,o1,o2⟩:=id (w7.same kz);have lo:=bh o2;have a6:=kz _ _ w1;have hk:∀{R:Hp} kv e,i3 R kv e->kv.1=Sum.inr e.1:=λkv e z=>z.1;have go:∀{Y:Hp}{o':Addr}{kk:List (aq×V)},ac H5 Y->Y o'=some (.dK kk)->Paired (i3 Y) kk (bG ow p ([],ls))->fA xs ps ch cs (bG ow p ([],ls))->Ho j.Hc j.C j.S j.T j.D j.Fa Pt [.ref h,.ref c0,.ref h0,.ref o'] Y (λ_ H'=>Q .non H') E:=λ{Y o' kk} G e6 tV Hm=>by
  have nJ:=lu.trans G;have U:=kz.trans G;exact⟨hW.same (dL nJ),J.same nJ,l3,w5.same U,w6.same U,⟨_,e6,tV⟩,Hm,rfl,λk hk=>xx (.inr hk),xx (.inl rfl),a4,ri,λt' aY st H' tg dq l8 k tb=>q t' aY st H' tg dq l8 ((bW.of nJ).trans k) tb⟩
 cases bb with
 | true=>
  exact absurd (iV.mp rfl) lr
 | false=>
  have el:ls≠[]:=λz=>by have:=iV.mpr z;cases this
  refine eR ?_;refine⟨Ax,λtt Y n6 G e6=>?_⟩;have U:=kz.trans G;refine⟨U _ _ yu,rfl,U _ _ w1,j.UT.cl,j.UT.nC,w2,U _ _ w1,j.UT.cl,j.UT.nH,w3,?_⟩;refine⟨U _ _ w1,j.UT.cl,j.UT.nO,w4,G _ _ o1,by omega,(λz=>nomatch z),λ_ o' H7 no s7 e7=>?_⟩;refine go (G.trans s7) e7 ?_ ?_
  . exact li (F:=i3 H7) hk ⟨rfl,tt,lb,l,rfl,s7 _ _ e6,(G.trans s7) _ _ hb,(G.trans s7) _ _ yx⟩ (aB o2 λ_ _=>i3.same (G.trans s7))
  exact J.tx.so.put ua bl yt (by omega) Hg l7 ri
inductive SX (j C S D Pt:Addr):Sp where
 | mk {H:Hp}{Q:VK}{E:XK}{h z x dx d b:Addr}{G:V}{fs:Tr}{bk:Bk}{xs:Lv}{ps:Lp}{ns:Ls}{t:Str}{ch:Ch}{cs:Cs}{ow:Ow}{c n:Str} (_:HW j C S h z x G xs ps ns (msk [x,d,b,Pt] H)) (_:DU D x dx d b Pt xs ps t ch cs ow fs bk H) (_:bk.length<=300) (_:cm c) (_:cm n) (_:cs.length<=2) (_:∀H',yr D x dx d b Pt xs ps ch (bG cs c n) ow bk H H'->Q .non H'):SX j C S D Pt [.ref h,.str c,.str n] H Q E
theorem anG(j:Pg K mg base Pt):au P w K mg base aL 10 j.HCh.f j.HCh.fd [auv,au6,auy] (SX j.Hc j.C j.S j.D Pt):=by
 refine j.HCh.u.okL SH ?_;intro av Ar outer s H vs Q E J h xX dX;obtain @⟨_,_,_,h,a9,x,dx,d,b,sv,fs,bk,xs,ps,ns,t,ch,cs,ow,c,n,hW,G,l3,U,hn,l2,q⟩:=h;refine⟨_,(ak (aJ (i:=3) SH.nd rfl (Or.inl rfl) (fF (pv 0) j.UH.cl j.HSK.mt (up (BV j)) J j.HSK.b .nil bY))
  (ak (bI (aU (Ss j) J rfl (ao (pv 1))))
  (ak (cU (eW zD (pv 2) gm (cj _))
  (am (bI (aU (Ss j) J rfl (ao (pv 2))))) eU)
  (am (bI (ia (pv 0) j.UH.cl j.HGo.mt (up (Hf j)) J j.HGo.b .nil bY (eZ (bv (pv 3) rfl) (aU (G8 j) J rfl (eZ (bv (pv 3) rfl) (pv 1) (pv 2))) (bv (pv 3) rfl)))))))),?_⟩
 refine lU ?_;intro dD sS u4 u3 u2;have Y:=bg _ _ hW.ob;refine⟨Y,rfl,Y,G.qd (by omega),G.up,λv H1 s1 hv=>?_⟩;refine⟨by have:=U.hi;omega,U.name,λH2 s2=>?_⟩;refine⟨rfl,⟨eR ?_⟩⟩;refine⟨by have:=hn.hi;omega,hn.name,λH3 s3=>?_⟩;have hv:=hv [x,d,b,Pt] G.busy;obtain⟨va,BP,BQ,c0,h0,o0,rfl,w1,w2,w3,w4,w5,w6,w7⟩:=(hv.same (dL (s2.trans s3))).same bg;have jL:=s1.trans (s2.trans s3);obtain⟨ko,o1,o2⟩:=id w6;have lo:=bh o2;refine⟨jL _ _ Y,rfl,w1,j.UT.cl,j.UT.nC,w2,w1,j.UT.cl,j.UT.nH,w3,o1,by omega,(λz=>nomatch z),λ_ d' H4 nd O e4=>?_⟩;have kC:=jL.trans O;refine⟨O _ _ w1,j.UT.cl,j.UT.nO,w4,hW.same (dL kC),G.same kC,l3,w5.same O,⟨_,e4,li (F:=xJ) (λkv e z=>z.1) ⟨rfl,rfl⟩ o2⟩,w7.same O,G.tx.so.putH U hn l2,λH' a0=>a0.elim λt' a1=>a1.elim λaQ a2=>a2.elim λaR a3=>a3.elim λaI a4=>a4.elim λaY a5=>a5.elim λfk a6=>a6.elim λr1 a7=>a7.elim λr2 ab=>ab.elim λr3 al=>al.elim λdq ap=>ap.elim λll k=>q H' ⟨t',aQ,aR,aI,aY,fk,r1,r2,r3,dq,ll,(bW.of kC).trans k⟩⟩
end
end K75
namespace HT
section
open PySem.SeqAt
open PySem.AutoSeq1 (wpAny_loadPart')
open PySem.MeetsSeq PySem.MeetsSeq2 PySem.MeetsSeq3
variable {P:Program}{w:World}{A:Around}{s:Shared}
theorem anS(p q:Addr)(it G:Av)(n n2:Nat)(dd U:Oa)(sl Y:Array (Option Value))(hz:it.size=G.size) :
 MeetsIn P w (Builtin.«tuple.__eq__» ⟨[.ref p,.ref q],[]⟩)
  (λA R s=>s.heap.get? p=some ⟨.type "tuple",dd,.seq it n,sl⟩/\s.heap.get? q=some ⟨.type "tuple",U,.seq G n2,Y⟩/\(∀j (h1:j<it.size) (h2:j<G.size),lg P w A.in1 s it[j] G[j])/\R (.ok (.ret (.bool true))) s):=by
 intro A R s h;obtain⟨hp,g,d,tk,os⟩:=s;obtain⟨g1,g2,he,h⟩:=h;have f2:=Ck;have lz:(it.toList.zip G.toList).length=it.size:=by simp[hz]
 wp_walk using wpAny_loadPart' g1,wpAny_loadPart' g2,oq _ (λrest c J=>c.1=none/\J=⟨hp,g,d,tk,os⟩/\∃j,rest=(it.toList.zip G.toList).drop j) _
 case turn=>
  rintro⟨u,v⟩ rest c J ⟨_,rfl,j,er⟩;have O:j<(it.toList.zip G.toList).length:=Vu λz=>by rw[asK z]at er;cases er
  have h1:j<it.size:=lz▸O;have h2:j<G.size:=hz▸h1;rw[IY O]at er;injection er with e1 e2
  have eu:u=it[j]:=by simpa using cS Prod.fst e1
  have ev:v=G[j]:=by simpa using cS Prod.snd e1
  subst eu ev;refine aa (he j h1 h2 _ _ ?_)
  wp_walk
  exact⟨rfl,rfl,j+1,e2⟩
 case fin=>
  rintro⟨c1,c2⟩ J ⟨ec,rfl,_⟩;simp only at ec;subst ec
  wp_walk
  simpa [Builtin.Tuple.tupleCompareSizes,hz]using h
 case h=>exact⟨rfl,rfl,0,rfl⟩
theorem anT{it G:Av}{Q E:VP}(h1:IsTup s.heap p it)(h2:IsTup s.heap q G)(hz:it.size=G.size)(hu:A.units<cLine)
 (he:∀j (h1:j<it.size) (h2:j<G.size),lg P w A.in1 s it[j] G[j]) (z:Q (.bool true) s):wpAny (model P w) A (compareOp .Eq (.ref p) (.ref q)) Q E s:=by
 obtain⟨⟨cls,dd,data,sl⟩,J,Y,n,hd⟩:=id h1;obtain⟨⟨si,dQ,data2,eP⟩,U,O,n2,a0⟩:=id h2;simp only at Y hd O a0;subst Y hd O a0;show wpAny (model P w) A (richCompare .Eq (.ref p) (.ref q)) Q E s;refine UO (op:=.Eq) ⟨_,J,rfl⟩ ⟨_,U,rfl⟩ asM (rF asM ⟨_,J,rfl⟩ PySem.F.entry_tuple_eq (PySem.F.args_tuple_eq_2 _ _) (anS p q it G n n2 dd dQ sl eP hz) ?_) hu;exact⟨J,U,he,show Value.bool true≠Value.notImplemented/\Q (.bool true) s from ⟨(λx=>nomatch x),z⟩⟩
end
end HT
namespace L2
section
open PySem.W (KeqHits)
section
variable {X:Cx}
def anU(K:Fg)(x y:V)(H:Hp)(Q:VK):Prop:=∃(p q j z G J:Addr) (kvs O fG:List (aq×V)) (U:List Addr),x=.ref p/\y=.ref q/\H p=some (.tup [.ref j,.ref G])/\H q=some (.tup [.ref z,.ref J])/\j≠z/\G≠J/\H j=some (.dK kvs)/\H z=some (.dK fG)/\Paired (An K H) kvs O/\(∀p∈O,p∈fG)/\kvs.length=fG.length/\(fG.map (·.1)).Nodup /\
 H G=some (.lst (U.map V.ref))/\H J=some (.lst (U.map V.ref))/\Q (.bl true) H
theorem anV(hu:X.A.units+66<cLine):cu X (compareOp .Eq) (anU X.K):=by
 intro a_ s Z H x y v u Q I rx ry h;obtain⟨p,q,G,J,O,U,kvs,kb,fG,ts,rfl,rfl,hp,hq,na,nl,h1,h2,pr,hm,hl,nd,k1,k2,q'⟩:=h;cases rx;cases ry;obtain⟨_,hd,vs,a0,dd⟩:=kW I.hok h1;obtain⟨_,kQ,ws,Y,ic⟩:=kW I.hok h2;obtain⟨i1,v1,p1,_⟩:=I.tuple (aP.of (K:=X.K) hp);obtain⟨i2,v2,p2,_⟩:=I.tuple (aP.of (K:=X.K) hq);obtain⟨j1,w1,m1,_⟩:=I.list (ag.of (K:=X.K) k1);obtain⟨j2,w2,m2,_⟩:=I.list (ag.of (K:=X.K) k2);have e1:i1=[.ref G,.ref O]:=lV (Ds:=[G,O]) v1;have e2:i2=[.ref J,.ref U]:=lV (Ds:=[J,U]) v2;have e3:=lV w1;have e4:=lV w2;subst e1 e2 e3 e4;have yz:∀{a:Addr}{it:Av},PlainL s.heap a it->s.heap.IsList a it:=λa4=>a4.elim λo a5=>a5.elim λn a6=>a6.elim λe a7=>a7.elim λc a3=>a3.elim λ_ d=>⟨o,e,c,n,d⟩;refine HT.anT p1 p2 rfl (by omega) (λj h1 h2=>?_) ⟨.bl true,H,I,rfl,q'⟩;have u1:X.A.in1.units+65<cLine:=by show X.A.units+1+65<cLine;omega
 match j,h1,h2 with
 | 0,_,_=>
  refine HT.lg.refs na λE Q q=>?_;refine W.keq_eq (knd:=b8 X.prog X.w) (r:=true) hd kQ dd ic (by omega) (λ_=>Hn I u1 nd Y pr a0 hm) ?_;have e:vs.length=ws.length:=by rw[<-a0.length,<-Y.length,hl]
  rw[e,Cv];exact q
 | 1,_,_=>
  refine HT.lg.of (SeqAt.EqAt.of_refs nl ?_);have z:=SeqAt.RcAt.lists (A:=X.A.in1) (s:=s) (e:=λ_=>true) (yz m1) (yz m2) rfl (by omega) λj _ _=>U2 _;have t:((List.range ((ts.map Value.ref).toArray.size)).all λ_=>true)=true:=eT.mpr λ_ _=>rfl;rw[t]at z;exact z
end
end
section
def mq(H:Hp)(ys:Lv)(ks:Ll):Prop:=Paired (fun(y:V) (k:List Int)=>∃t,y=.ref t/\H t=some (.tup (k.map V.int))/\k≠[]) ys ks
theorem mq.at{K:Fg}{H:Hp}{ys:Lv}{ks:Ll}(h:mq H ys ks):Eu K H ys ks:=aB h λ_ _ j=>j.elim λt z=>z.elim λe G=>G.elim λa b=>⟨t,e,aP.of a,b⟩
theorem mq.same{H H':Hp}{ys:Lv}{ks:Ll}(s:ac H H')(h:mq H ys ks):mq H' ys ks:=aB h λ_ _ j=>j.elim λt z=>z.elim λe G=>G.elim λa b=>⟨t,e,s _ _ a,b⟩
section
variable {X:Cx}
theorem an7:eV X (.builtin "sorted") (λxs H Q=>∃q ys ks,xs=[.ref q]/\ag X.K H q ys/\mq H ys ks/\ys.length<=4/\ks.Nodup/\∀U z,mq H U z->z.Perm ks->j7 z=true->fV H (.lst U) Q):=by
 intro a_ s Z H xs us Q I r h;obtain⟨q,ys,ks,rfl,hq,O,h4,nd,a0⟩:=h;obtain⟨u,rfl,ru⟩:=vals1 r;cases ru;have ht:Eu X.K H ys ks:=O.at;obtain⟨c_,G,hl,hz⟩:=I.list hq;have a1:=Es G;have Gf:=Es ht;have tp:=I.tups ht G;have kp:∀b o,s.heap.get? b=some o->((s.heap.push (seqObj "list" #[] 0)).update s.heap.objs.size (Obj.mapSeq (·++c_.toArray))).get? b=some o:=λb o e=>by
  rw[Heap.get?_update_ne _ _ _ _ (cg (bi e))];exact bB _ e
 refine adx (collect_list hl.isList ?_ (lS (by omega)));generalize (s.heap.push (seqObj "list" #[] 0)).update s.heap.objs.size (Obj.mapSeq (·++c_.toArray))=h' at kp ⊢;have J:Inv X a_ Z H { s with heap:=h',toks:=s.toks }:=I.kept kp;refine⟨ks,h',s.toks,rfl,aB tp λ_ _ t=>t.keep λb o e _=>kp b o e,by omega,nd,λh2 p e k2 he j ha=>?_⟩;have Y:∀i∈p,i<ys.length:=λi hi=>by
  have:=iK.mp (j.mem_iff.mp hi);omega
 have cV:=j.length_eq;rw[mE]at cV;refine⟨.ref h'.objs.size,_,J.laid (s:={ s with heap:=h',toks:=s.toks }) (t':=s.toks) (o:=.lst (p.map λi=>ys.getD i .non)) k2 (aD _) ⟨by rw[ah];exact lS (by omega),_,e,Et G _ _ p Y,he⟩,rfl,?_⟩;exact(a0 _ (p.map λi=>ks.getD i []) (Et O _ _ p Y) (adA (by rw[<-Gf,a1];exact j)) (by rw[Mo];exact ha)).at _ (J.hok.fresh (aD _))
end
theorem Ta{H1:Hp}{kvs:List (List NI×V)}{σ0:L2.St}{g:TG}{tt:TT}{te:TE}{Q:VK}(hd:H1 d=some (.dT kvs))(S:L2.St->Prop)(P:Nat->Lv->Prop)(s0:S σ0)(st:P 0 [])
 (a4:∀i k v b ys Z H (kk:L2.St->V->Hp->Prop) (k':L2.St->Hp->Prop),kvs[i]?=some (k,v)->gZ H k b->(∀c vs,H c=some (.tup vs)->H1 c=some (.tup vs))->S Z->P i ys ->
  (∀σ3 y,S σ3->P (i+1) (ys++[y])->kk σ3 y H)->(∀σ3,S σ3->P (i+1) ys->k' σ3 H) ->
  g (.ref b) Z H λσ3 H3=>tt σ3 H3 λok H4=>if ok=true then te σ3 H4 (kk σ3) else k' σ3 H4)
 (a3:kvs.length<sizeLine) (a0:∀i ys,P i ys->ys.length<=i)
 (done:∀D H' ys,H1 D=none->ac H1 H'->H' D=some (.lst ys)->P kvs.length ys->Q (.ref D) H') :
 Nl H1 d kvs σ0 g tt te Q:=by
 intro ob D hD;obtain⟨Tb,pQ⟩:=jx hD;refine⟨λi m Z H=>m=kvs.length - i/\i<=kvs.length/\S Z/\∃ys,H=ae (ae H1 d (.frz ob (.dT kvs))) D (.lst ys)/\P i ys,⟨kvs.length,by simp,cE _,s0,[],rfl,st⟩,?_⟩;rintro i m Z H ⟨rfl,hi,hS,ys,rfl,Y⟩;have ji:ae (ae H1 d (.frz ob (.dT kvs))) D (.lst ys) d=some (.frz ob (.dT kvs)):=by rw[aE Tb.symm,aw]
 by_cases O:i<kvs.length
 . refine .inr ⟨⟨ji,O⟩,λx H2 hy=>?_⟩;obtain⟨k,v,b,e1,rfl,nb,rfl⟩:=hy;refine a4 i k v b ys Z _ _ _ e1 nb (λc vs j=>?_) hS Y (λσ3 y G J=>?_) (λσ3 G J=>?_)
   . have nc:c≠D:=λz=>by rw[z,aw]at j;cases j
     rw[aE nc]at j;have nd:c≠d:=λz=>by rw[z,aw]at j;cases j
     rw[aE nd]at j;exact j
   . refine⟨ys,aw,Cu (cR (a0 i ys Y) hi) a3,kvs.length - (i+1),by omega,rfl,O,G,ys++[y],Wm,J⟩
   exact⟨kvs.length - (i+1),by omega,rfl,O,G,ys,rfl,J⟩
 have e:i=kvs.length:=by omega
 subst e;refine .inl ⟨⟨ji,aD _⟩,ji,done D _ ys pQ (λb o e=>?_) ?_ Y⟩
 . by_cases U:b=d
   . subst U;rw[aw,<-e,hd]
   rw[aE U,aE (aF e pQ),aE U];exact e
 rw[aE Tb,aw]
end
end L2
namespace K75
section
seal PE PS bu PA PT PW PG dv PI cL
theorem Tc:∀{a b:List Int},(a.map (Sum.inl:Int->Int ⊕ Str))=b.map Sum.inl->a=b
 | [],[],_=>rfl
 | [],_::_,h=>nomatch h
 | _::_,[],h=>nomatch h
 | x::a,y::b,h=>by
  rw[bp,bp]at h;injection h with h1 h2
  injection h1 with h1
  rw[h1,Tc h2]
theorem Td{H:Hp}{nm:Str}{mk:List Int}(h:gZ H [.inl (.inr nm),.inr (mk.map Sum.inl)] b):∃m,H b=some (.tup [.str nm,.ref m])/\H m=some (.tup (mk.map V.int)):=by
 obtain⟨vs,e,r⟩:=h;cases r with
 | cons j t=>
  cases t with
  | cons z t=>
   cases t;have j:_=V.str nm:=j;obtain⟨m,e2,h2⟩:=(show∃m,_=V.ref m/\H m=_ from z);subst j e2;refine⟨m,e,?_⟩;rw[h2,jp];rfl
inductive Te (S:Addr):Sp where
 | mk {H:Hp}{Q:VK}{E:XK}{j:V}{xs:Lv}{ps:Lp} (_:fw S H j xs ps) (_:ps.length<64) (_:∀l (ys:Ls) H',H l=none->ac H H'->H' l=some (.lst (ys.map V.str))->sortedS ys=true->ys.Nodup->(∀z,z∈ys↔z∈ps.map cM.nm)->Q (.ref l) H'):Te S [j] H Q E
theorem an8:aM [auv] [auv] (aC Ox):=aV
theorem an9:∀{a b:Ls},a.Nodup->(∀z∈a,z∈b)->a.length<=b.length:=λh k=>iT h k
theorem Hq(j:Pg K mg base Pt):au P w K mg base aL 1 j.SNa.f j.SNa.fd [auv] (Te j.S):=by
 refine j.SNa.u.okL an8 ?_;intro av A outer s H vs Q E hr h xX dX;obtain @⟨_,_,_,sv,xs,ps,⟨a,dx,fl,d,kvs,rfl,h1,hf,_,_,_,h2,Hr⟩,qD,q⟩:=h;have J:=Hr.2.2;rw[eN]at J;refine⟨_,(am (ba (cW (EK rfl) (by rfl) j.B.sorted rL (ao (eX (M8 rfl) (by rfl) j.B.set Jk (ao (Nm [auy,auz] [] [] fq rfl (bv (pv 0) rfl)
  (λ_ _ _ _=>(GI (n:=2) K rfl (d8 (a8 (i:=0) (show List.Nodup ([auy,auz]:Ls) by decide +kernel) rfl (Or.inl rfl)) (d8 (a8 (i:=1) (show List.Nodup ([auy,auz]:Ls) by decide +kernel) rfl (Or.inl rfl)) jr)))) (λ_ _ _ _=>ix) (λ_ _ _ _=>(pv 0))))))))),?_⟩
 have lk:=bh J;refine⟨h1,j.US.cl,j.US.nS,hf,d,kvs,rfl,h2,?_⟩;refine Ta h2 (λZ=>∃u v,Z=[u,v]) (λi ys=>ys=((ps.take i).map cM.nm).map V.str) ⟨_,_,rfl⟩ rfl ?_ (cp (by omega)) (λi ys e=>by rw[e,ah,ah,d5];omega) ?_
 . rintro i k v b ys Z H2 kk k' hk U up ⟨u,u',rfl⟩ rfl c1 c2;obtain⟨p,G,hE⟩:=ff J hk;rw[show k=cI p from hE]at U;obtain⟨m,hb,hm⟩:=Td U;refine⟨aP.of hb,rfl,rfl,?_⟩;dsimp only[o6];rw[ai rfl];refine⟨c1 _ _ ⟨_,_,rfl⟩ ?_⟩;rw[jQ,G,cK,cK];rfl
 rintro D H2 ys hD Y O rfl;rw[lk,eN]at O;refine⟨D,ps.map cM.nm,rfl,ag.of O,by rw[ah];omega,λr xs H3 n3 s3 e3 nd mem=>?_⟩;have hl:=an9 nd λz hz=>(mem z).mp hz;rw[ah]at hl;refine⟨r,xs,rfl,e3,by omega,λbF G hs=>λl H4 n4 s4 e4=>?_⟩;exact q l bF H4 ((Y.trans s3).free n4) (Y.trans (s3.trans s4)) e4 hs (G.nodup_iff.mpr nd) λz=>(G.mem_iff).trans (mem z)
def fB(ps:Lp)(nm:Str):Ll:=(ps.filter λp=>decide (p.nm=nm)).map cM.ms
theorem Tf{ps:Lp}(nd:(ps.map cI).Nodup)(nm:Str):(fB ps nm).Nodup:=by
 unfold fB;have h1:((ps.filter λp=>decide (p.nm=nm)).map cI).Nodup:=(Jl.map cI).nodup nd;have h2:∀p∈ps.filter λp=>decide (p.nm=nm),p.nm=nm:=λp J=>cq (qe.mp J).2;generalize ps.filter (λp=>decide (p.nm=nm))=z at h1 h2;clear nd
 induction z with
 | nil=>exact jo
 | cons p z O=>
  rw[bp,i5]at h1 ⊢;refine⟨λG=>h1.1 ?_,O h1.2 λr j=>h2 r (bL _ j)⟩;obtain⟨r,j,e⟩:=bf.mp G;refine bf.mpr ⟨r,j,?_⟩;unfold cI;rw[e,h2 p bA,h2 r (bL _ j)]
structure nY(ps:Lp):Prop where
 nd:(ps.map cI).Nodup
 mm:∀p∈ps,p.ms≠[]
 four:∀nm,(fB ps nm).length<=4
 len:ps.length<64
inductive Tg (S:Addr):Sp where
 | mk {H:Hp}{Q:VK}{E:XK}{j:V}{nm:Str}{xs:Lv}{ps:Lp} (_:fw S H j xs ps) (_:nY ps) (_:∀l ys ks H',H l=none->ac H H'->H' l=some (.lst ys)->mq H' ys ks->ks.Perm (fB ps nm)->j7 ks=true->Q (.ref l) H'):Tg S [j,.str nm] H Q E
theorem aoa:aM [auv,auy] [auv,auy] (aC Oy):=aV
theorem aob(j:Pg K mg base Pt):au P w K mg base aL 1 j.SMo.f j.SMo.fd [auv,auy] (Tg j.S):=by
 refine j.SMo.u.okL aoa ?_;intro av A outer s H vs Q E hr h xX dX;obtain @⟨_,_,_,sv,nm,xs,ps,⟨a,dx,fl,d,kvs,rfl,h1,hf,_,_,_,h2,Hr⟩,ok,q⟩:=h;have J:=Hr.2.2;rw[eN]at J;refine⟨_,(am (ba (cW an7 (by rfl) j.B.sorted rL (ao (Nm ["key"] [auy] [1] fq rfl (bv (pv 0) rfl)
  (λ_ _ _ _=>(a8 (i:=0) (show List.Nodup (["key",auy]:Ls) by decide +kernel) rfl (Or.inl rfl))) (λ_ _ _ _=>qC (eW kS (eY (DY K) (pv 0) aZ (λ_ _=>rfl)) (pv 1) (cj _))) (λ_ _ _ _=>(eY (DY K) (pv 0) aZ (λ_ _=>rfl)))))))),?_⟩
 have lk:=bh J;have vJ:=ok.len;refine⟨h1,j.US.cl,j.US.nS,hf,d,kvs,rfl,h2,?_⟩;refine Ta h2 (λZ=>∃u,Z=[u,some (.str nm)]) (λi ys=>ys.length<=i/\mq H ys (fB (ps.take i) nm)) ⟨_,rfl⟩ ⟨aD _,.nil⟩ ?_ (cp (by omega)) (λi ys e=>e.1) ?_
 . rintro i k v b ys Z H2 kk k' hk nb up ⟨u,rfl⟩ ⟨zl,G⟩ c1 c2;obtain⟨p,Y,hE⟩:=ff J hk;rw[show k=cI p from hE]at nb;obtain⟨m,U,hm⟩:=Td nb;have lY:p∈ps:=d6 Y;have e1:fB (ps.take (i+1)) nm=fB (ps.take i) nm++(if p.nm=nm then [p.ms] else []):=by
    unfold fB;rw[jQ,Y,za,cK]
    by_cases z:p.nm=nm
    . rw[ai z];simp[z]
    rw[af z];simp[z]
   refine⟨aP.of U,rfl,rfl,⟨?_⟩⟩;refine cY (λh=>?_) (λh=>?_)
   . have hz:p.nm=nm:=by
      have:=cq h;injection this
     refine⟨aP.of U,rfl,c1 _ _ ⟨_,rfl⟩ ⟨by rw[bD];simp;omega,?_⟩⟩;rw[e1,ai hz];refine ie ⟨m,rfl,up _ _ hm,?_⟩ G;exact ok.mm p lY
   have hz:p.nm≠nm:=λz=>h (bw (by rw[z]));refine c2 _ ⟨_,rfl⟩ ⟨by omega,?_⟩;rw[e1,af hz,i4];exact G
 rintro D H2 ys hD O eD ⟨zl,G⟩;rw[lk,eN]at G;have hl:=bh G;have h4:=ok.four nm;refine⟨D,ys,_,rfl,ag.of eD,G.same O,by omega,Tf ok.nd nm,λbF kN t' p' a'=>λl H3 n3 s3 e3=>?_⟩;exact q l bF kN H3 (O.free n3) (O.trans s3) e3 (t'.same s3) p' a'
variable {H H':Hp}
def jM(H:Hp)(b:V):Oi->Prop
 | none=>b=.non
 | some bs=>∃a,b=.ref a/\H a=some (.tup (bs.map V.int))
theorem jM.same{b:V}{o:Oi}(s:ac H H')(h:jM H b o):jM H' b o:=by
 cases o with
 | none=>exact h
 | some bs=>
  obtain⟨a,e1,e2⟩:=h;exact⟨a,e1,s _ _ e2⟩
def Th(ms:List Int):Oi->Bool
 | none=>true
 | some b=>HT.lexLt ms b
inductive Ti:Sp where
 | mk {H:Hp}{Q:VK}{E:XK}{a l:Addr}{b:V}{mk ls:List Int}{j:Oi} (_:H a=some (.tup (mk.map V.int))) (_:H l=some (.tup (ls.map V.int))) (_:jM H b j) (_:Q (.bl (!HT.lexLt mk ls && Th mk j)) H):Ti [.ref a,.ref l,b] H Q E
theorem aoc:aM [auz,"least","below"] [auz,"least","below"] (aC ON):=aV
theorem aod(z:Pg K mg base Pt):au P w K mg base aL 1 z.Wit.f z.Wit.fd [auz,"least","below"] Ti:=by
 refine z.Wit.u.okL aoc ?_;intro av A outer s H vs Q E hr h xX dX;obtain @⟨_,_,_,a,l,b,mk,ls,O,G,Y,j,q⟩:=h;have J:=hr.units0;refine⟨_,am (ba (qp (je (aaP J) (pv 0) (pv 1) (cj _)) (mK (JA (je zC (pv 2) gm (cj _)) (mK (je (Y0 J) (pv 0) (pv 2) (cj _))))))),?_⟩;refine⟨a,l,mk,ls,rfl,rfl,aP.of G,aP.of Y,⟨cY (λh1=>?_) (λh1=>?_)⟩⟩
 . rw[h1,uw]at q;cases O with
   | none=>
    have j:b=.non:=j;subst j;exact⟨rfl,⟨eR q⟩⟩
   | some bs=>
    obtain⟨c,rfl,U⟩:=j;refine⟨rfl,⟨eB ?_⟩⟩;exact⟨a,c,mk,bs,rfl,rfl,aP.of G,aP.of U,q⟩
 rw[rH.mpr h1,vS]at q;exact q
structure rp where
 nm:Str
 io:Option (List Int×Oi)
def BZ(w:rp)(mk:Oi):Bool:=match w.io,mk with
 | none,mk=>mk.isNone
 | some _,none=>false
 | some c,some m=>!HT.lexLt m c.1 && Th m c.2
def B0(H:Hp)(t:Addr)(nm:Str):Option (List Int×Oi)->Prop
 | none=>H t=some (.tup [.str "out",.str nm])
 | some c=>∃l b,H t=some (.tup [.str "in",.str nm,.ref l,b])/\H l=some (.tup (c.1.map V.int))/\jM H b c.2
def pV(H:Hp)(v:V)(w:rp):Prop:=∃t,v=.ref t/\B0 H t w.nm w.io
theorem B0.same(s:ac H H'){t:Addr}{nm:Str}{j:Option (List Int×Oi)}(h:B0 H t nm j):B0 H' t nm j:=by
 cases j with
 | none=>exact s _ _ h
 | some c=>
  obtain⟨l,b,h1,h2,z⟩:=h;exact⟨l,b,s _ _ h1,s _ _ h2,z.same s⟩
theorem pV.same(s:ac H H'){v:V}{w:rp}(h:pV H v w):pV H' v w:=h.elim λt j=>j.elim λa b=>⟨t,a,b.same s⟩
theorem pV.nm{v:V}{w:rp}(h:pV H v w):∃t j,v=.ref t/\H t=some (.tup j)/\j[1]?=some (.str w.nm):=by
 obtain⟨t,rfl,h⟩:=h;obtain⟨nm,z⟩:=w;cases z with
 | none=>exact⟨t,_,rfl,h,rfl⟩
 | some c=>
  obtain⟨l,b,h1,_⟩:=h;exact⟨t,_,rfl,h1,rfl⟩
theorem aof:¬(V.str "in"=V.str "out"):=by
 intro z;injection z with z
 exact absurd z (by decide +kernel)
inductive Tj:Sp where
 | mk {H:Hp}{Q:VK}{E:XK}{z j:V}{w:rp}{mk:Oi} (_:pV H z w) (_:jM H j mk) (_:Q (.bl (BZ w mk)) H):Tj [z,j] H Q E
theorem aog:aM ["wish",auz] ["wish",auz] (aC Om):=aV
theorem aoh(z:Pg K mg base Pt):au P w K mg base aL 2 z.Don.f z.Don.fd ["wish",auz] Tj:=by
 refine z.Don.u.okL aog ?_;intro av A outer s H vs Q E Y h xX dX;obtain @⟨_,_,_,wv,J,w,mk,⟨t,rfl,G⟩,j,q⟩:=h;refine⟨_,(ak (cU (eW kS (eY lM (pv 0) aZ (λ_ _=>rfl)) bK (cj _))
  (am (ba (je zC (pv 1) gm (cj _)))) eU)
  (am (ba (qp (je zD (pv 1) gm (cj _)) (mK (aU (aod z) Y rfl (eZ (pv 1) (eY lM (pv 0) aZ (λ_ _=>rfl)) (eY lM (pv 0) aZ (λ_ _=>rfl))))))))),?_⟩
 refine qJ ?_;intro dD sS gf;obtain⟨nm,io⟩:=w;cases io with
 | none=>
  refine⟨aP.of G,rfl,rfl,⟨?_⟩⟩;refine cY (λh=>?_) (λh=>absurd (bw rfl) h);refine⟨rfl,?_⟩;cases mk with
  | none=>
   have j:J=.non:=j;subst j;exact q
  | some m=>
   obtain⟨a,rfl,_⟩:=j;exact q
 | some c=>
  obtain⟨l,b,h1,h2,O⟩:=G;refine⟨aP.of h1,rfl,rfl,⟨?_⟩⟩;refine cY (λh=>absurd (cq h) aof) (λh=>?_);cases mk with
  | none=>
   have j:J=.non:=j;subst j;refine⟨rfl,⟨eB ?_⟩⟩;exact q
  | some m=>
   obtain⟨a,rfl,U⟩:=j;refine⟨rfl,⟨eR ?_⟩⟩;exact⟨aP.of h1,rfl,aP.of h1,rfl,U,h2,O,q⟩
inductive Tk (S:Addr):Sp where
 | mk {H:Hp}{Q:VK}{E:XK}{j:V}{nm:Str}{xs:Lv}{ps:Lp} (_:fw S H j xs ps) (_:nY ps) (_:∀l ys ks H',H l=none->ac H H'->H' l=some (.lst (.non::ys))->mq H' ys ks->ks.Perm (fB ps nm)->j7 ks=true->Q (.ref l) H'):Tk S [j,.str nm] H Q E
theorem aoi:aM [auw,auy] [auw,auy] (aC Oh):=aV
theorem Tl(j:Pg K mg base Pt):au P w K mg base aL 2 j.Cas.f j.Cas.fd [auw,auy] (Tk j.S):=by
 refine j.Cas.u.okL aoi ?_;intro av A outer s H vs Q E hr h xX dX;obtain @⟨_,_,_,sv,nm,xs,ps,hS,ok,q⟩:=h;refine⟨_,(am (ba (cF DW (cx (ao gm)) (ia (pv 0) j.US.cl j.SMo.mt (up (aob j)) hr j.SMo.b .nil bY (ao (pv 1)))))),?_⟩;refine⟨Aq,λp1 H1 n1 z e1=>?_⟩;obtain⟨a,dx,fl,d,kvs,rfl,J,U,Y,b4,O,b6⟩:=hS.same z;refine⟨J,O,?_⟩;refine⟨⟨a,dx,fl,d,kvs,rfl,J,U,Y,b4,O,b6⟩,ok,λl ys ks H2 n2 G e2 tv pm ad=>?_⟩;have hl:=bh tv;have h4:=ok.four nm;rw[<-pm.length_eq,<-hl]at h4;refine⟨G _ _ e1,e2,lS (by simp;omega),λp3 H3 n3 s3 e3=>?_⟩;exact q p3 ys ks H3 ((z.trans G).free n3) ((z.trans G).trans s3) e3 (tv.same s3) pm ad
structure gY(ps:Lp)(ys:Ls):Prop where
 srt:sortedS ys=true
 nd:ys.Nodup
 mem:∀z,z∈ys↔z∈ps.map cM.nm
theorem gY.uniq{ps:Lp}{a b:Ls}(h:gY ps a)(k:gY ps b):a=b:=
 NJ ((VN h.nd k.nd).mpr λz=>by rw[h.mem,k.mem]) h.srt k.srt
def cQ(ps:Lp)(n:Int)(nm:Str):Int:=n * ((fB ps nm).length+1:Nat)
inductive Tn (S:Addr):Sp where
 | mk {H:Hp}{Q:VK}{E:XK}{j:V}{xs:Lv}{ps:Lp} (_:fw S H j xs ps) (_:nY ps) (_:∀H' ys,ac H H'->gY ps ys->Q (.int (ys.foldl (cQ ps) 1)) H'):Tn S [j] H Q E
theorem B1:aM [auw,"width",auy] [auw] (aC Oe):=aV
theorem aoj(z:Pg K mg base Pt):au P w K mg base aL 3 z.Wid.f z.Wid.fd [auw] (Tn z.S):=by
 refine z.Wid.u.okL B1 ?_;intro av A outer s H vs Q E hr h xX dX;obtain @⟨_,_,_,sv,xs,ps,U,ok,q⟩:=h;have gz:=hr.mono (j:=1) (by decide);have vJ:=ok.len;refine⟨_,(ak (aJ (i:=1) B1.nd rfl (Or.inl rfl) aZ)
  (ak (fD fC rfl (cr (fF (pv 0) z.US.cl z.SNa.mt (up (Hq z)) gz z.SNa.b .nil bY)) (a8 (i:=2) B1.nd rfl (Or.inl rfl))
  (am (aJ (i:=1) B1.nd rfl (Or.inl rfl) (cF Dc (pv 1) (cW oY (by rfl) z.B.len mG (ao (aU (Tl z) hr rfl (aO (pv 0) (pv 2)))))))))
  (am (ba (pv 1))))),?_⟩
 refine kY ?_;intro dD sS im gf;obtain⟨a,dx,fl,d,kvs,rfl,b1,b2,b3,b4,b5,b6⟩:=id U;refine⟨b1,b4,?_⟩;dsimp only[eg,rE,we];refine⟨U,vJ,λl ys H1 n1 s1 e1 srt nd mem=>?_⟩;refine⟨⟨_,ag.of e1⟩,?_⟩;refine g9 (D:={ dD with nx:=im dD }) (xs:=ys.map V.str) (λi Z H2=>∃u n,Z=[some (.ref a),some (.int n),u]/\n=(ys.take i).foldl (cQ ps) 1/\ac H1 H2) ⟨none,1,rfl,rfl,ac.refl _⟩ ?_ ?_ ?_
 . rintro i Z H2 hi ⟨u,n,rfl,_,G⟩;exact ag.of (G _ _ e1)
 . intro i x Z H2 J hQ;refine cb ?_;intro tT;obtain⟨u,n,rfl,O,G⟩:=hQ;rw[cz]at J;cases Y:ys[i]? with
   | none=>rw[Y]at J;cases J
   | some y=>
    rw[Y]at J;cases J;refine⟨U.same (s1.trans G),ok,λc zs ks H3 n3 s3 e3 tv pm ad=>?_⟩;have hl:=bh tv;have h4:=ok.four y;have a0:=pm.length_eq;refine⟨c,_,rfl,.inl (ag.of e3),⟨.inr ⟨by simp;omega,by simp;omega⟩,?_⟩⟩;refine⟨_,_,rfl,?_,G.trans s3⟩;rw[jQ,Y,kM,<-O];show _=cQ ps n y;unfold cQ;rw[<-a0,<-hl];rfl
 rintro Z H2 ⟨u,n,rfl,O,G⟩;rw[ah,eN]at O;subst O;exact⟨q H2 ys (s1.trans G) ⟨srt,nd,mem⟩⟩
end
section
variable {α β:Type}{i:Nat}
seal PE PS bu PA PT PW PG dv PI cL
theorem ub{l:List α}{x:α}(h:l[i]?=some x):l.take (i+1)=l.take i++[x]:=by
 rw[List.take_succ,h];rfl
theorem To{f:α->List β}{l:List α}{x:α}(h:l[i]?=some x):(l.take (i+1)).flatMap f=(l.take i).flatMap f++f x:=by
 rw[ub h,CL];simp
theorem aok{f:α->List β}{l:List α}:((l.take i).flatMap f).length<=(l.flatMap f).length:=by
 have e:l.flatMap f=(l.take i).flatMap f++(l.drop i).flatMap f:=by rw[<-CL,Jj]
 rw[e,bD];omega
theorem Tp{F:α->β->Prop}:∀{xs z:List α}{ys j:List β},Paired F xs ys->Paired F z j->Paired F (xs++z) (ys++j)
 | _,_,_,_,.nil,h=>h
 | _,_,_,_,.cons r t,h=>.cons r (Tp t h)
abbrev Dec:=List (Str×Oi)
variable {de:Dec}
def uc(H:Hp)(kv:aq×V)(e:Str×Oi):Prop:=kv.1=.inr e.1/\jM H kv.2 e.2
theorem uc.same{H H':Hp}(s:ac H H'){kv:aq×V}{e:Str×Oi}(h:uc H kv e):uc H' kv e:=⟨h.1,h.2.same s⟩
def ud(H:Hp)(c:Addr)(de:Dec):Prop:=∃kvs,H c=some (.dK kvs)/\Paired (uc H) kvs de
theorem ud.same{H H':Hp}(s:ac H H'){c:Addr}(h:ud H c de):ud H' c de:=h.elim λkvs j=>j.elim λa b=>⟨kvs,s _ _ a,aB b λ_ _=>uc.same s⟩
def dZ(de:Dec):Ch:=de.filterMap λe=>e.2.map λm=>(e.1,m)
theorem aom(a b:Dec):dZ (a++b)=dZ a++dZ b:=List.filterMap_append
theorem Tq{x:Str}(h:x∈(dZ de).map (·.1)):x∈de.map (·.1):=by
 obtain⟨e,z,rfl⟩:=bf.mp h;obtain⟨d,hd,j⟩:=vT.mp z;cases hz:d.2 with
 | none=>rw[hz]at j;cases j
 | some m=>
  rw[hz]at j;have j:(d.1,m)=e:=fO j;rw[<-j];exact bf.mpr ⟨d,hd,rfl⟩
theorem aon(nd:(de.map (·.1)).Nodup){e:Str×Oi}(h:de[i]?=some e):e.1∉(de.take i).map (·.1):=by
 rw[VL];intro J;obtain⟨j,G,z⟩:=yR.mp J;rw[d5,ah]at G;rw[Jh]at z;have e1:(de.map (·.1))[j]?=some e.1:=by rw[fo (by rw[ah];omega),z]
 have e2:(de.map (·.1))[i]?=some e.1:=by rw[cz,h];rfl
 have:=(y7 (l:=de.map (·.1)) (i:=j) (j:=i) (by rw[ah];omega) nd).mp (by rw[e1,e2]);omega
theorem aoo(de:Dec):(dZ de).length<=de.length:=List.length_filterMap_le _ _
inductive Ts:Sp where
 | mk {H:Hp}{Q:VK}{E:XK}{d:Addr}{nm:Str}{j:V}{de:Dec}{o:Oi} (_:ud H d de) (_:jM H j o) (_:nm∉de.map (·.1)) (_:de.length<=100) (_:∀r H',H r=none->ac H H'->ud H' r (de++[(nm,o)])->Q (.ref r) H'):Ts [.ref d,.str nm,j] H Q E
theorem Tt:aM [auO,auy,"case","further"] [auO,auy,"case"] (aC Og):=aV
theorem aop(J:Pg K mg base Pt):au P w K mg base aL 1 J.Wca.f J.Wca.fd [auO,auy,"case"] Ts:=by
 refine J.Wca.u.okL Tt ?_;intro av A outer s H vs Q E hr h xX dX;obtain @⟨_,_,_,d,nm,j,de,o,⟨kvs,hd,O⟩,Y,hn,hl,q⟩:=h;have hu:=hr.units;have hk:∀kv f,uc H kv f->kv.1=Sum.inr f.1:=λkv f z=>z.1;refine⟨_,(ak (aJ (i:=3) Tt.nd rfl (Or.inl rfl) (eX sU (by rfl) J.B.dict wc (ao (pv 0))))
  (ak (kX hu (pv 3) (pv 1) (pv 2) rfl)
  (am (ba (pv 3))))),?_⟩
 refine kY ?_;intro dD sS im gf;have pl:=bh O;refine⟨d,_,rfl,hd,λp1 H1 n1 s1 e1=>?_⟩;refine⟨ib.k (k:=.inr nm) e1 (cp (by omega)),?_⟩;refine⟨?_⟩;have G:=nK (o:=.dK (cD kvs (.inr nm) j)) n1 s1;refine q p1 _ n1 G ⟨_,aw,?_⟩;have U:cD kvs (.inr nm) j=kvs++[(.inr nm,j)]:=DE _ (tE hk O hn);show Paired _ (cD kvs (.inr nm) j) _;refine U▸?_;rw[U]at G;exact ie ⟨rfl,Y.same G⟩ (aB O λ_ _=>uc.same G)
inductive Tu:Sp where
 | mk {H:Hp}{Q:VK}{E:XK}{d:Addr}{de:Dec} (_:ud H d de) (_:(de.map (·.1)).Nodup) (_:de.length<=100) (_:∀r H',H r=none->ac H H'->bP H' r (dZ de)->Q (.ref r) H'):Tu [.ref d] H Q E
theorem B2:aM [auO,aux,auy,auz] [auO] (aC Oj):=aV
theorem aoq(zZ:Pg K mg base Pt):au P w K mg base aL 1 zZ.Sde.f zZ.Sde.fd [auO] Tu:=by
 refine zZ.Sde.u.okL B2 ?_;intro av A outer s H vs Q E hr h xX dX;obtain @⟨_,_,_,d,de,⟨kvs,hd,pr⟩,nd,hl,q⟩:=h;have hu:=hr.units;have hk:∀kv f,fM H kv f->kv.1=Sum.inr f.1:=λkv f z=>z.1;refine⟨_,(ak (aJ (i:=1) B2.nd rfl (Or.inl rfl) o7)
  (ak (Ad fC rfl (pv 0) (kR rfl (d8 (a8 (i:=2) B2.nd rfl (Or.inl rfl)) (d8 (a8 (i:=3) B2.nd rfl (Or.inl rfl)) jr)))
  (am (cU (eW zD (pv 3) gm (cj _))
   (am (kX hu (pv 1) (pv 2) (pv 3) rfl)) eU)))
  (am (ba (pv 1))))),?_⟩
 refine kY ?_;intro dD sS im gf;have pl:=bh pr;refine λr H1 n1 s1 e1=>?_;have od:r≠d:=(aF hd n1).symm;refine⟨d,kvs,rfl,s1 _ _ hd,λob=>?_⟩;refine A1 (λi Z j=>∃u v O,Z=[some (.ref d),some (.ref r),u,v]/\(∀b x,H b=some x->b≠d->j b=some x)/\j d=some (.frz ob (.dK kvs))/\j r=some (.dK O)/\Paired (fM H) O (dZ (de.take i)))
  ⟨none,none,[],rfl,λb x e G=>aA (s1 _ _ e) G,aw,aA e1 od,.nil⟩ ?_ ?_ ?_
 . rintro i Z j ⟨u,v,O,rfl,_,h,_⟩;exact h
 . intro i k v p Z j hi hQ hp;refine cb ?_;intro tT;obtain⟨u,v',O,rfl,k5,h5,U,J⟩:=hQ;obtain⟨⟨x,o⟩,hf,a1,Y⟩:=ff pr hi;have a1:k=.inr x:=a1;subst a1;have aH:=(dB.mp hf).1;have sp:ac j (ae j p (.tup [kV (.inr x),v])):=gb hp;have et:dZ (de.take (i+1))=dZ (de.take i)++dZ [(x,o)]:=by rw[ub hf,aom]
   refine⟨aP.of aw,rfl,rfl,?_⟩;refine⟨rfl,⟨?_⟩⟩;cases o with
   | none=>
    have Y:v=.non:=Y;subst Y;refine eB ?_;refine⟨_,_,O,rfl,λb z e G=>sp _ _ (k5 _ _ e G),sp _ _ h5,sp _ _ U,?_⟩;rw[et,show dZ [(x,none)]=[] from rfl,i4];exact J
   | some m=>
    obtain⟨c,rfl,hc⟩:=Y;refine eR ?_;have xL:x∉(dZ (de.take i)).map (·.1):=λz=>aon nd hf (Tq z);have p5:=bh J;have cl:=aoo (de.take i);rw[d5]at cl;refine⟨ib.k (k:=.inr x) (sp _ _ U) (cp (by omega)),?_⟩;refine⟨_,_,_,rfl,λb z e G=>aA (sp _ _ (k5 _ _ e G)) (aF e n1),aA (sp _ _ h5) od.symm,aw,?_⟩;rw[et,show dZ [(x,some m)]=[(x,m)] from rfl,DE _ (tE hk J xL)];exact ie ⟨rfl,c,rfl,hc⟩ J
 rintro Z j ⟨u,v,O,rfl,k5,h5,U,J⟩;rw[pl,eN]at J;have sE:ac H (ae j d (.dK kvs)):=λb o e=>by
  by_cases G:b=d
  . subst G;rw[aw,<-e,hd]
  exact aA (k5 _ _ e G) G
 exact⟨q r _ n1 sE ⟨O,aA U od,aB J λ_ _=>fM.same sE⟩⟩
end
section
variable {M:Str->Ll}{de:Dec}{H:Hp}{zs fN:Lv}{v:V}
seal PE PS bu PA PT PW PG dv PI cL
theorem Hs:∀{l:Ll},j7 l=true->l.Pairwise (λa b=>HT.lexLt a b=true)
 | [],_=>.nil
 | [_],_=>VI _ _
 | x::y::r,h=>by
  obtain⟨h1,h2⟩:=oF.mp h;have j:=Hs (l:=y::r) h2;refine yY.mpr ⟨λz hz=>?_,j⟩
  rcases bc.mp hz with e | hz
  . rw[e];exact h1
  exact wU _ _ _ h1 (asC j hz)
theorem aor{a b:Ll}(p:a.Perm b)(h1:j7 a=true)(h2:j7 b=true):a=b:=by
 refine VJ (λx y _ _ h h'=>?_) (Hs h1) (Hs h2) p;exact Jm λne=>by
  have:=Ap x y ne;rw[h,h']at this;cases this
structure pW(ps:Lp)(M:Str->Ll):Prop where
 pm:∀nm,(M nm).Perm (fB ps nm)
 ad:∀nm,j7 (M nm)=true
theorem pW.is{ps:Lp}(h:pW ps M){nm:Str}{ks:Ll}(p:ks.Perm (fB ps nm))(a:j7 ks=true):ks=M nm:=aor (p.trans (h.pm nm).symm) a (h.ad nm)
def vK(M:Str->Ll)(nm:Str):List (Oi):=none::(M nm).map some
def nZ(M:Str->Ll)(nm:Str)(de:Dec):List Dec:=(vK M nm).map λc=>de++[(nm,c)]
def gN(M:Str->Ll)(ds:List Dec)(nm:Str):List Dec:=ds.flatMap (nZ M nm)
def f7(M:Str->Ll)(ys:Ls):List Dec:=ys.foldl (gN M) [[]]
theorem aos(M:Str->Ll)(nm:Str)(de:Dec):1<=(nZ M nm de).length:=by
 unfold nZ vK;simp
theorem Ht(M:Str->Ll)(nm:Str):∀ds:List Dec,ds.length<=(gN M ds nm).length
 | []=>cE _
 | d::ds=>by
  have h:=Ht M nm ds;have k:=aos M nm d;unfold gN at h ⊢;rw[wb,bD,bq];omega
theorem Tv(M:Str->Ll):∀(ys:Ls) (ds:List Dec),ds.length<=(ys.foldl (gN M) ds).length
 | [],_=>aD _
 | y::ys,ds=>cR (Ht M y ds) (Tv M ys (gN M ds y))
theorem aot(M:Str->Ll)(ys:Ls)(i:Nat):(f7 M (ys.take i)).length<=(f7 M ys).length:=by
 have e:f7 M ys=(ys.drop i).foldl (gN M) (f7 M (ys.take i)):=by
  unfold f7;rw[<-kM,Jj]
 rw[e];exact Tv M _ _
theorem Tw{ys:Ls}{i:Nat}{y:Str}(h:ys[i]?=some y):f7 M (ys.take (i+1))=(f7 M (ys.take i)).flatMap (nZ M y):=by
 unfold f7;rw[ub h,kM];rfl
theorem Tx(M:Str->Ll):∀(ys j:Ls) (ds:List Dec),(∀de∈ds,de.map (·.1)=j)->∀de∈ys.foldl (gN M) ds,de.map (·.1)=j++ys
 | [],j,ds,h,de,hd=>by rw[i4];exact h de hd
 | y::ys,j,ds,h,de,hd=>by
  have:=Tx M ys (j++[y]) (gN M ds y) (λe z=>by
   obtain⟨d,hd,z⟩:=jR.mp z;obtain⟨c,_,rfl⟩:=bf.mp z;rw[cK,h d hd];rfl) de hd
  rw[this,i6];rfl
theorem Hu{ys:Ls}(h:de∈f7 M ys):de.map (·.1)=ys:=Tx M ys [] [[]] (λe j=>by rw[bX.mp j];rfl) de h
theorem jM.mut(j:H D=some (.lst zs)){b:V}{o:Oi}(h:jM H b o):jM (ae H D (.lst fN)) b o:=by
 cases o with
 | none=>exact h
 | some bs=>
  obtain⟨a,e1,e2⟩:=h;exact⟨a,e1,aA e2 (aT e2 j (by intro z;cases z))⟩
def og(H:Hp)(v:V)(de:Dec):Prop:=∃c,v=.ref c/\ud H c de
theorem og.same{H':Hp}(s:ac H H')(h:og H v de):og H' v de:=h.elim λc j=>j.elim λa b=>⟨c,a,b.same s⟩
theorem og.mut(j:H D=some (.lst zs))(h:og H v de):og (ae H D (.lst fN)) v de:=by
 obtain⟨c,rfl,kvs,h1,h2⟩:=h;exact⟨c,rfl,kvs,aA h1 (aT h1 j (by intro z;cases z)),aB h2 λ_ _ z=>⟨z.1,z.2.mut j⟩⟩
def lA(H:Hp)(v:V)(ch:Ch):Prop:=∃c,v=.ref c/\bP H c ch
theorem lA.same{H':Hp}(s:ac H H'){ch:Ch}(h:lA H v ch):lA H' v ch:=h.elim λc j=>j.elim λa b=>⟨c,a,b.same s⟩
theorem lA.mut(j:H D=some (.lst zs)){ch:Ch}(h:lA H v ch):lA (ae H D (.lst fN)) v ch:=by
 obtain⟨c,rfl,kvs,h1,h2⟩:=h;refine⟨c,rfl,kvs,aA h1 (aT h1 j (by intro z;cases z)),aB h2 λ_ _ z=>?_⟩;obtain⟨J,m,O,G⟩:=z;exact⟨J,m,O,aA G (aT G j (by intro z;cases z))⟩
theorem Tz:∀{ys:Lv}{ks:Ll},mq H ys ks->Paired (jM H) ys (ks.map some)
 | _,_,.nil=>.nil
 | _,_,.cons ⟨t,e,h,_⟩ r=>.cons ⟨t,e,h⟩ (Tz r)
inductive TB (S:Addr):Sp where
 | mk {H:Hp}{Q:VK}{E:XK}{j:V}{xs:Lv}{ps:Lp}{M:Str->Ll} (_:fw S H j xs ps) (_:nY ps) (_:pW ps M) (_:(∀ys,gY ps ys->(f7 M ys).length<=500)) (_:∀l zs ys H',H l=none->ac H H'->gY ps ys->H' l=some (.lst zs)->Paired (lA H') zs ((f7 M ys).map dZ)->Q (.ref l) H'):TB S [j] H Q E
theorem vL:aM [auw,"ways",auy,"further",auO] [auw] (aC Of):=aV
theorem aow(J:Pg K mg base Pt):au P w K mg base aL 3 J.Sts.f J.Sts.fd [auw] (TB J.S):=by
 refine J.Sts.u.okL vL ?_;intro av A outer s H vs Q E hr h xX dX;obtain @⟨_,_,_,sv,xs,ps,M,hS,ok,hM,a0,q⟩:=h;have gz:=hr.mono (j:=1) (by decide);have vJ:=ok.len;refine⟨_,(ak (aJ (i:=1) vL.nd rfl (Or.inl rfl) (cx (ao o7)))
  (ak (fD fC rfl (cr (fF (pv 0) J.US.cl J.SNa.mt (up (Hq J)) gz J.SNa.b .nil bY)) (a8 (i:=2) vL.nd rfl (Or.inr rfl))
  (ak (aJ (i:=3) vL.nd rfl (Or.inl rfl) (cx dE))
   (ak (fD fC rfl (cr (pv 1)) (a8 (i:=4) vL.nd rfl (Or.inr rfl))
   (am (bI (dR ja oJ oK lO (pv 3) (ao (gK ["case"] [auO,auy] [4,2] fq rfl (cr (aU (Tl J) hr rfl (aO (pv 0) (pv 2)))) (λ_ _ _ _=>(a8 (i:=0) (show List.Nodup (["case",auO,auy]:Ls) by decide +kernel) rfl (Or.inl rfl))) (λ_ _ _ _=>ix) (λ_ _ _ _=>(aU (aop J) gz rfl (eZ (pv 1) (pv 2) (pv 0))))))))))
   (am (aJ (i:=1) vL.nd rfl (Or.inl rfl) (pv 3))))))
  (am (ba (gK [auO] [] [] fq rfl (cr (pv 1)) (λ_ _ _ _=>(a8 (i:=0) (show List.Nodup ([auO]:Ls) by decide +kernel) rfl (Or.inl rfl))) (λ_ _ _ _=>ix) (λ_ _ _ _=>(aU (aoq J) gz rfl (ao (pv 0))))))))),?_⟩
 refine kY ?_;intro dD sS im gf;refine λp1 H1 n1 s1 e1=>?_;refine⟨Aq,λp2 H2 n2 s2 e2=>?_⟩;have bj:=s1.trans s2;obtain⟨a,dx,fl,d,kvs,rfl,b1,b2,b3,b4,b5,b6⟩:=hS.same bj;refine⟨b1,b4,?_⟩;dsimp only[eg,rE,we];refine⟨hS.same bj,vJ,λl ys H3 n3 s3 e3 srt nd mem=>?_⟩;have hN:gY ps ys:=⟨srt,nd,mem⟩;have a3:=a0 ys hN;have yl:ys.length<=ps.length:=by
  have:=iT nd λz hz=>(mem z).mp hz
  rwa [ah]at this
 refine⟨⟨_,ag.of e3⟩,?_⟩;have dM:=bj.trans s3;refine g9 (D:={ dD with nx:=im dD }) (xs:=ys.map V.str) (λi Z Y=>∃wl u2 u3 U zs,Z=[some (.ref a),some (.ref wl),u2,u3,U]/\ac H3 Y/\Y wl=some (.lst zs)/\Paired (og Y) zs (f7 M (ys.take i)))
  ⟨p2,none,none,none,[.ref p1],rfl,ac.refl _,s3 _ _ e2,.cons ⟨p1,rfl,[],(s2.trans s3) _ _ e1,.nil⟩ .nil⟩ ?_ ?_ ?_
 . rintro i Z Y hi ⟨wl,u2,u3,U,zs,rfl,s4,_⟩;exact ag.of (s4 _ _ e3)
 . intro i x Z Y hx hQ;refine cb ?_;intro tT;obtain⟨wl,u2,u3,U,zs,rfl,s4,jX,vM⟩:=hQ;rw[cz]at hx;cases hy:ys[i]? with
   | none=>rw[hy]at hx;cases hx
   | some y=>
    rw[hy]at hx;cases hx;have aH:=(dB.mp hy).1;have wi:=aot M ys (i+1);rw[Tw hy]at wi;have zl:=bh vM;refine⟨AA,λp5 H5 n5 s5 e5=>?_⟩;refine⟨⟨_,ag.of (s5 _ _ jX)⟩,?_⟩;refine g9 (xs:=zs) (λj Z H6=>∃U fs,Z=[some (.ref a),some (.ref wl),some (.str y),some (.ref p5),U]/\ac Y H6/\H6 p5=some (.lst fs)/\Paired (og H6) fs (((f7 M (ys.take i)).take j).flatMap (nZ M y))) ⟨U,[],rfl,s5,e5,.nil⟩ ?_ ?_ ?_
    . rintro j Z H6 hj ⟨U,fs,rfl,s6,_⟩;exact ag.of (s6 _ _ jX)
    . intro j z Z H6 hz Gi;refine cb ?_;intro a5;obtain⟨a1,fs,rfl,s6,e6,f6⟩:=Gi;obtain⟨de,kF,c,rfl,hc⟩:=ff vM hz;have jU:=Hu (d6 kF);have gl:=aok (f:=nZ M y) (l:=f7 M (ys.take i)) (i:=j+1);rw[To kF,bD]at gl;have wR:=bh f6;refine⟨.inl ⟨rfl,_,ag.of e6⟩,hS.same (dM.trans (s4.trans s6)),ok,λc7 a2 a4 H7 n7 s7 e7 tv pm ad=>?_⟩;have ek:=hM.is pm ad;subst ek;have hb:Paired (jM H7) (.non::a2) (vK M y):=.cons rfl (Tz tv);have cl:=bh hb;have ol:(nZ M y de).length=(vK M y).length:=by unfold nZ;rw[ah]
      refine⟨⟨_,ag.of e7⟩,?_⟩;intro D8 jh;refine QK (σ0:=[none,some (.ref c),some (.str y)]) jh (ag.of e7) (λZ=>∃v,Z=[v,some (.ref c),some (.str y)]) (λk fN H8=>Paired (og H8) fN (((vK M y).take k).map λo=>de++[(y,o)])) ⟨_,rfl⟩ .nil ?_ ?_
      . rintro k x8 ue σ8 H8 kk pX ⟨v8,rfl⟩ mr O G hk;obtain⟨o,ho,hB⟩:=ff hb pX;have uf:=bh G;rw[ah,d5]at uf;refine⟨hc.same (s6.trans (s7.trans O)),hB.same O,?_,?_,λr9 H9 n9 s9 Hv=>?_⟩
        . rw[jU];intro hm;obtain⟨j',ni,TD⟩:=yR.mp hm;rw[d5]at ni;rw[Jh]at TD;have:=(y7 (l:=ys) (i:=j') (j:=i) (by omega) nd).mp (by rw[hy,fo (by omega),TD]);omega
        . have:=cS List.length jU;rw[ah,d5]at this;omega
        have d9:=s9 _ _ mr;refine hk _ _ _ ⟨_,rfl⟩ s9 (cp (by omega)) ?_;rw[ub ho,cK];exact ie (og.mut d9 ⟨r9,rfl,Hv⟩) (aB G λ_ _ z=>(z.same s9).mut d9)
      intro ue H8 mr O G;rw[cl,eN]at G;have uf:=bh G;rw[ah]at uf;have Hw:=(s7.trans O) _ _ e6;refine⟨Hw,mr,oB (cp (by omega)),?_⟩;refine⟨_,_,rfl,nK n5 (s6.trans (s7.trans O)),aw,?_⟩;rw[To kF];exact Tp (aB f6 λ_ _ z=>(z.same (s7.trans O)).mut Hw) (aB G λ_ _ z=>z.mut Hw)
    rintro Z H6 ⟨a1,fs,rfl,s6,e6,f6⟩;rw[zl,eN]at f6;refine⟨p5,_,_,_,fs,rfl,s4.trans s6,e6,?_⟩;rw[Tw hy];exact f6
 rintro Z Y ⟨wl,u2,u3,U,zs,rfl,s4,jX,vM⟩;rw[ah,eN]at vM;have zl:=bh vM;refine⟨⟨_,ag.of jX⟩,?_⟩;refine zV (σ0:=[none]) (ag.of jX) (λZ=>∃v,Z=[v]) (λk fN H8=>Paired (lA H8) fN (((f7 M ys).take k).map dZ)) ⟨_,rfl⟩ (λ_ _=>.nil) ?_ ?_
 . rintro D k x8 ue σ8 H8 kk hD pX ⟨v8,rfl⟩ mr O G hk;obtain⟨de,kF,c,rfl,hc⟩:=ff vM pX;have aH:=(dB.mp kF).1;have jU:=Hu (d6 kF);have uf:=bh G;rw[ah,d5]at uf;refine⟨hc.same O,by rw[jU];exact nd,?_,λr9 H9 n9 s9 Hv=>?_⟩
   . have:=cS List.length jU;rw[ah]at this;omega
   have d9:=s9 _ _ mr;refine hk _ _ _ ⟨_,rfl⟩ s9 (cp (by omega)) ?_;rw[ub kF,cK];exact ie (lA.mut d9 ⟨r9,rfl,Hv⟩) (aB G λ_ _ z=>(z.same s9).mut d9)
 intro D ue H8 hD mr O G;rw[zl,eN]at G;exact q D ue ys H8 ((dM.trans s4).free hD) ((dM.trans s4).trans O) hN mr G
end
section
seal PE PS bu PA PT PW PG dv PI cL
theorem Hy{H:Hp}{x:Str}:∀{kvs:List (aq×V)}{ch:Ch},Paired (fM H) kvs ch->jM H ((bJ kvs (.inr x)).getD .non) (ch.lookup x)
 | _,_,.nil=>rfl
 | kv::kvs,e::ch,.cons r t=>by
  obtain⟨j,m,G,J⟩:=r
  by_cases z:e.1=x
  . subst z;rw[jv j,G,show(e::ch).lookup e.1=some e.2 by rw[Cw,Cv]];exact⟨m,rfl,J⟩
  have n1:kv.1≠.inr x:=λy=>z (by rw[j]at y;injection y);have n2:(x == e.1)=false:=ur.mpr λy=>z y.symm;rw[jg n1,show(e::ch).lookup x=ch.lookup x by rw[Cw,n2]];exact Hy t
def Hz(ch:Ch)(j:List rp):Bool:=j.all λw=>BZ w (ch.lookup w.nm)
inductive TF:Sp where
 | mk {H:Hp}{Q:VK}{E:XK}{c a:Addr}{ch:Ch}{xs:Lv}{j:List rp} (_:bP H c ch) (_:H a=some (.lst xs)) (_:Paired (pV H) xs j) (_:j.length<=100) (_:∀H',ac H H'->Q (.bl (Hz ch j)) H'):TF [.ref c,.ref a] H Q E
theorem aoA:aM [aux,auM] [aux,auM] (aC Ol):=aV
theorem aoB(G:Pg K mg base Pt):au P w K mg base aL 3 G.Met.f G.Met.fd [aux,auM] TF:=by
 refine G.Met.u.okL aoA ?_;intro av A outer s H vs Q E Y h xX dX;obtain @⟨_,_,_,c,a,ch,xs,ws,⟨kvs,U,pr⟩,O,hw,xK,q⟩:=h;have hu:=Y.units;have wl:=bh hw;refine⟨_,(am (ba (cW (EU K) (by rfl) G.B.all VS (ao (gK ["wish"] [aux] [0] fq rfl (cr (pv 1)) (λ_ _ _ _=>(a8 (i:=0) (show List.Nodup (["wish",aux]:Ls) by decide +kernel) rfl (Or.inl rfl))) (λ_ _ _ _=>ix)
  (λ_ _ _ _=>(aU (aoh G) Y rfl (aO (pv 0) (zM hu (pv 1) (eY (DY K) (pv 0) aZ (λ_ _=>rfl)) ⟨rfl,rfl,rfl,rfl⟩))))))))),?_⟩
 refine⟨⟨_,ag.of O⟩,?_⟩;refine tq (σ0:=[none,some (.ref c)]) (ag.of O) (λZ=>∃v,Z=[v,some (.ref c)]) ((ws.map λw=>BZ w (ch.lookup w.nm)).map V.bl) (by rw[ah,ah,wl]) (oB (cp (by omega))) ⟨_,rfl⟩ ?_ ?_
 . intro i z y Z H2 k hz hy hQ hs hk;obtain⟨v,rfl⟩:=hQ;obtain⟨wi,lJ,J⟩:=ff hw hz;rw[jp,cz,lJ]at hy;cases hy;obtain⟨t,us,rfl,ht,h1⟩:=J.nm;refine⟨.inl ⟨_,.inl (hs _ _ U)⟩,aP.of (hs _ _ ht),Dx (j:=1) h1,_,cw.k (k:=.inr wi.nm) (hs _ _ U),?_⟩;exact⟨J.same hs,(Hy pr).same hs,hk _ _ ⟨_,rfl⟩ (ac.refl _)⟩
 intro D H2 hD hd hs;refine⟨D,_,rfl,ag.of hd,?_⟩;rw[FR];exact q H2 hs
variable {ps:Lp}{M:Str->Ll}
theorem aoC(h:pW ps M)(nm:Str)(de:Dec):(nZ M nm de).length=(fB ps nm).length+1:=by
 unfold nZ vK;rw[ah,bq,ah,(h.pm nm).length_eq]
theorem TH(h:pW ps M)(nm:Str):∀ds:List Dec,(gN M ds nm).length=ds.length * ((fB ps nm).length+1)
 | []=>by simp[gN]
 | d::ds=>by
  have j:=TH h nm ds;unfold gN at j ⊢;rw[wb,bD,aoC h,j,bq,IL,Nat.add_comm]
theorem TJ(h:pW ps M):∀(ys:Ls) (ds:List Dec) (n:Int),(ds.length:Int)=n->((ys.foldl (gN M) ds).length:Int)=ys.foldl (cQ ps) n
 | [],_,_,e=>e
 | y::ys,ds,n,e=>by
  refine TJ h ys (gN M ds y) (cQ ps n y) ?_;rw[TH h];unfold cQ;rw[<-e,Int.natCast_mul]
theorem aoD(h:pW ps M)(ys:Ls):((f7 M ys).length:Int)=ys.foldl (cQ ps) 1:=TJ h ys [[]] 1 rfl
theorem TK:∀{l:Ll},l.Pairwise (λa b=>HT.lexLt a b=true)->j7 l=true
 | [],_=>rfl
 | [_],_=>rfl
 | x::y::r,h=>by
  obtain⟨h1,h2⟩:=yY.mp h;show(HT.lexLt x y && j7 (y::r))=true;rw[h1 y bA,TK h2];rfl
def vN(x:List Int):Ll->Ll
 | []=>[x]
 | y::r=>if HT.lexLt x y=true then x::y::r else y::vN x r
theorem HE(x:List Int):∀l:Ll,(vN x l).Perm (x::l)
 | []=>.refl _
 | y::r=>by
  unfold vN;split
  . exact .refl _
  exact((HE x r).cons y).trans (.swap x y r)
theorem TL(x:List Int):∀l:Ll,x∉l->l.Pairwise (λa b=>HT.lexLt a b=true)->(vN x l).Pairwise (λa b=>HT.lexLt a b=true)
 | [],_,_=>VI _ _
 | y::r,hn,h=>by
  obtain⟨h1,h2⟩:=yY.mp h;have J:x≠y:=λz=>hn (by rw[z];exact bA);unfold vN;split
  case isTrue j=>
   refine yY.mpr ⟨λz hz=>?_,h⟩
   rcases bc.mp hz with e | hz
   . rw[e];exact j
   exact wU _ _ _ j (h1 z hz)
  case isFalse j=>
   have G:HT.lexLt y x=true:=by
    have:=Ap y x J.symm;rw[rH.mpr j]at this;exact this
   refine yY.mpr ⟨λz hz=>?_,TL x r (λz=>hn (bL _ z)) h2⟩
   rcases bc.mp ((HE x r).mem_iff.mp hz) with e | hz
   . rw[e];exact G
   exact h1 z hz
def ug:Ll->Ll
 | []=>[]
 | x::r=>vN x (ug r)
theorem HF:∀l:Ll,(ug l).Perm l
 | []=>.refl _
 | x::r=>(HE x (ug r)).trans ((HF r).cons x)
theorem TM:∀l:Ll,l.Nodup->(ug l).Pairwise (λa b=>HT.lexLt a b=true)
 | [],_=>.nil
 | x::r,h=>by
  obtain⟨h1,h2⟩:=i5.mp h;exact TL x (ug r) (λz=>h1 ((HF r).mem_iff.mp z)) (TM r h2)
theorem aoE(h:nY ps):pW ps λnm=>ug (fB ps nm):=⟨λnm=>HF _,λnm=>TK (TM _ (Tf h.nd nm))⟩
theorem TN{H:Hp}{zs fN:Lv}(j:H D=some (.lst zs)){v:V}{m:List Int}(h:iW H v m):iW (ae H D (.lst fN)) v m:=by
 obtain⟨t,a,b⟩:=h;exact⟨t,a,aA b (aT b j (by intro z;cases z))⟩
inductive TQ (S:Addr):Sp where
 | mk {H:Hp}{Q:VK}{E:XK}{j:V}{c:Addr}{xs:Lv}{ps:Lp}{ch:Ch} (_:fw S H j xs ps) (_:ps.length<64) (_:bP H c ch) (_:∀l zs ys H',H l=none->ac H H'->gY ps ys->H' l=some (.lst zs)->Paired (iW H') zs (ys.map λy=>(ch.lookup y).getD [])->Q (.ref l) H'):TQ S [j,.ref c] H Q E
theorem aoF:aM [auw,aux] [auw,aux] (aC Oo):=aV
theorem aoG(G:Pg K mg base Pt):au P w K mg base aL 2 G.MkL.f G.MkL.fd [auw,aux] (TQ G.S):=by
 refine G.MkL.u.okL aoF ?_;intro av A outer s H vs Q E hr h xX dX;obtain @⟨_,_,_,sv,c,xs,ps,ch,hS,vJ,⟨kvs,hc,pr⟩,q⟩:=h;have hu:=hr.units;refine⟨_,(am (ba (gK [auy] [aux] [1] fq rfl (cr (fF (pv 0) G.US.cl G.SNa.mt (up (Hq G)) hr G.SNa.b .nil bY)) (λ_ _ _ _=>(a8 (i:=0) (show List.Nodup ([auy,aux]:Ls) by decide +kernel) rfl (Or.inl rfl))) (λ_ _ _ _=>ix) (λ_ _ _ _=>(DL hu (pv 1) (pv 0) (eE dE) ⟨rfl,rfl,rfl,rfl⟩))))),?_⟩;obtain⟨a,dx,fl,d,FT,rfl,b1,b2,b3,b4,b5,b6⟩:=id hS;refine⟨b1,b4,?_⟩;dsimp only[eg,rE,we];refine⟨hS,vJ,λl ys H1 n1 s1 e1 srt nd mem=>?_⟩;have yl:ys.length<=ps.length:=by
  have:=iT nd λz hz=>(mem z).mp hz
  rwa [ah]at this
 refine⟨⟨_,ag.of e1⟩,?_⟩;refine zV (σ0:=[none,some (.ref c)]) (ag.of e1) (λZ=>∃v,Z=[v,some (.ref c)]) (λk fN H8=>Paired (iW H8) fN ((ys.take k).map λy=>(ch.lookup y).getD [])) ⟨_,rfl⟩ (λ_ _=>.nil) ?_ ?_
 . rintro D k x8 ue σ8 H8 kk hD U ⟨v8,rfl⟩ mr h8 O hk;rw[cz]at U;cases hy:ys[k]? with
   | none=>rw[hy]at U;cases U
   | some y=>
    rw[hy]at U;cases U;have aH:=(dB.mp hy).1;have uf:=bh O;rw[ah,d5]at uf;have c8:=(s1.trans h8) _ _ hc;refine⟨.inl ⟨_,.inl c8⟩,AA,λp9 H9 n9 Y e9=>?_⟩;refine⟨_,cw.k (k:=.inr y) (Y _ _ c8),?_⟩;have j:=(Hy (x:=y) pr).same ((s1.trans h8).trans Y);have hT:iW H9 ((bJ kvs (.inr y)).getD (.ref p9)) ((ch.lookup y).getD []):=by
     cases J:bJ kvs (.inr y) with
     | none=>
      rw[J]at j;cases hl:ch.lookup y with
      | none=>exact⟨p9,rfl,e9⟩
      | some m=>
       rw[hl]at j;obtain⟨t,e,_⟩:=j;cases e
     | some v=>
      rw[J]at j;cases hl:ch.lookup y with
      | none=>
       rw[hl]at j;have j:v=.non:=j;exact absurd J (by
        subst j;intro J;obtain⟨e,he⟩:=(⟨_,DN J⟩:∃e:aq,e∈kvs.map (·.1));have hm:=DN J;rw[Ga (key:=λe:Str×List Int=>(Sum.inr e.1:aq)) (λ_ _ (z:fM H _ _)=>z.1) pr]at hm;obtain⟨e',iS,ee⟩:=bf.mp hm;injection ee with ee
        subst ee;obtain⟨u,ls,g1,_,_,m,g4,_⟩:=nu (λ_ _ (z:fM H _ _)=>z.1) pr (bf.mpr ⟨e',iS,rfl⟩);rw[J]at g1;cases g1;cases g4)
      | some m=>
       rw[hl]at j;exact j
    have d9:=Y _ _ mr;refine hk _ _ _ ⟨_,rfl⟩ Y (cp (by omega)) ?_;rw[ub hy,cK];exact ie (TN d9 hT) (aB O λ_ _ z=>TN d9 (iW.same Y z))
 intro D ue H8 hD mr h8 O;rw[ah,eN]at O;exact q D ue ys H8 (s1.free hD) (s1.trans h8) ⟨srt,nd,mem⟩ mr O
inductive TR (j:Addr):Sp where
 | mk {H:Hp}{Q:VK}{E:XK}{x dx d:Addr}{kvs:List (aq×V)} (_:H x=some (.ins j dx [])) (_:H d=some (.dK kvs)) (_:∀d' H',H d'=none->(∀b o,H b=some o->b≠x->H' b=some o)->H' x=some (.ins j dx (ar aux (.ref d') []))->H' d'=some (.dK kvs)->Q .non H'):TR j [.ref x,.ref d] H Q E
theorem aoH:aM [auv,aux] [auv,aux] (aC Ov):=aV
theorem aoI(j:Pg K mg base Pt):au P w K mg base aL 1 j.BIn.f j.BIn.fd [auv,aux] (TR j.Bc):=by
 refine j.BIn.u.okL aoH ?_;intro U A outer s H vs Q E hr h xX Y;obtain @⟨_,_,_,x,dx,d,kvs,z,hd,q⟩:=h;refine⟨_,(am (gR (pv 0) (eX sU (by rfl) j.B.dict wc (ao (pv 1))) rfl)),?_⟩;refine⟨d,_,rfl,hd,λp1 H1 n1 G e1=>?_⟩;have O:p1≠x:=(aF z n1).symm;refine⟨G _ _ z,j.UB.cl,j.UB.nC,(by decide),?_⟩;exact q p1 _ n1 (λb o e J=>aA (G _ _ e) J) aw (aA e1 O)
theorem TU(M:Str->Ll):∀(ys:Ls) (ds:List Dec),(∀de∈ds,∀e∈de,∀m,e.2=some m->m∈M e.1)->∀de∈ys.foldl (gN M) ds,∀e∈de,∀m,e.2=some m->m∈M e.1
 | [],ds,h=>h
 | y::ys,ds,h=>TU M ys (gN M ds y) λde hd e Y m j=>by
  obtain⟨d,vv,U⟩:=jR.mp hd;obtain⟨c,O,rfl⟩:=bf.mp U
  rcases dA.mp Y with z | z
  . exact h d vv e z m j
  rw[bX.mp z]at j ⊢;have j:c=some m:=j;subst j
  rcases bc.mp O with z | z
  . cases z
  obtain⟨m',G,J⟩:=bf.mp z;cases J;exact G
theorem aoK{ys:Ls}{de:Dec}(h:de∈f7 M ys){e:Str×List Int}(z:e∈dZ de):e.2∈M e.1:=by
 obtain⟨d,hd,j⟩:=vT.mp z;have k:=TU M ys [[]] (λde hd e z=>by rw[bX.mp hd]at z;cases z) de h d hd;cases hz:d.2 with
 | none=>rw[hz]at j;cases j
 | some m=>
  rw[hz]at j;have j:(d.1,m)=e:=fO j;subst j;exact k m hz
theorem aoL{de:Dec}(h:(de.map (·.1)).Nodup):((dZ de).map (·.1)).Nodup:=by
 induction de with
 | nil=>exact jo
 | cons d r j=>
  rw[bp,i5]at h;unfold dZ;rw[yJ];cases hz:d.2 with
  | none=>exact j h.2
  | some m=>
   show((d.1,m)::dZ r).map (·.1) |>.Nodup
   rw[bp,i5];exact⟨λz=>h.1 (Tq z),j h.2⟩
theorem TV{H:Hp}:∀{zs:Lv}{z:List Ch},Paired (lA H) zs z->∃as:List Addr,zs=as.map V.ref
 | _,_,.nil=>⟨[],rfl⟩
 | _,_,.cons ⟨c,e,_⟩ r=>by
  obtain⟨as,j⟩:=TV r;exact⟨c::as,by rw[e,j];rfl⟩
theorem TX(j:∀nm,(fB ps nm).length<=4):∀(ys:Ls) (n:Int),0<=n->0<=ys.foldl (cQ ps) n/\ys.foldl (cQ ps) n<=n * 5 ^ ys.length
 | [],n,hn=>⟨hn,by simp⟩
 | y::ys,n,hn=>by
  have e:cQ ps n y<=n * 5:=by
   unfold cQ;have:=j y;exact Int.mul_le_mul_of_nonneg_left (by omega) hn
  have z:0<=cQ ps n y:=by
   unfold cQ;exact Int.mul_nonneg hn (by omega)
  obtain⟨h1,h2⟩:=TX j ys (cQ ps n y) z;refine⟨h1,Int.le_trans h2 ?_⟩;rw[bq,Int.pow_succ];have G:(0:Int)<=5 ^ ys.length:=Int.le_of_lt (Int.pow_pos (by decide))
  calc cQ ps n y * 5 ^ ys.length<=(n * 5) * 5 ^ ys.length:=Int.mul_le_mul_of_nonneg_right e G
   _=n * (5 ^ ys.length * 5):=by rw[Int.mul_comm (5 ^ ys.length) 5,VT]
theorem aoM{ys:Ls}(j:gY ps ys)(ok:nY ps):0<=ys.foldl (cQ ps) 1/\(ys.foldl (cQ ps) 1).natAbs.log2<200/\(Str.ofString (toString (ys.foldl (cQ ps) 1))).length<=1000:=by
 obtain⟨h1,h2⟩:=TX ok.four ys 1 (by decide);have O:ys.length<=63:=by
  have:=iT j.nd λz hz=>(j.mem z).mp hz;rw[ah]at this;have:=ok.len;omega
 have U:(5:Int) ^ ys.length<=5 ^ 63:=by
  have:=Nat.pow_le_pow_right (n:=5) (by decide) O;exact_mod_cast this
 have Y:(5:Int) ^ 63<2 ^ 200:=by decide
 have a0:(5:Int) ^ 63<10 ^ 100:=by decide
 generalize ys.foldl (cQ ps) 1=n at *;rw[Int.one_mul]at h2;have G:n<2 ^ 200:=by omega
 have J:n<10 ^ 100:=by omega
 refine⟨h1,?_,cR (toString_length_le h1 (by decide) J) (by decide)⟩
 by_cases z:n.natAbs=0
 . rw[z];decide
 refine(Nat.log2_lt z).mpr ?_;have:((n.natAbs:Nat):Int)<((2 ^ 200:Nat):Int):=by
  rw[Int.natAbs_of_nonneg h1];exact_mod_cast G
 exact_mod_cast this
end
section
variable {H:Hp}{qu:Str}{m:List Int}
seal PE PS bu PA PT PW PG dv PI cL
theorem aoN{lp:Pos}(h:aG H Pt lp qu):∃φ,H Pt=some (.ext φ):=by
 rcases h with z | ⟨c',z,_⟩
 . exact⟨_,z⟩
 exact⟨_,z⟩
theorem fw.keepT{H':Hp}{lp:Pos}{v:V}{vs:Lv}{ps:Lp}(t:aG H Pt lp qu)(k:jB Pt H H')(h:fw S H v vs ps):fw S H' v vs ps:=by
 obtain⟨a,dx,fl,d,kvs,e,j,J,O,U,Y,G,b7⟩:=h;exact⟨a,dx,fl,d,kvs,e,k _ _ j (aG.ne t j (by intro φ z;cases z)),J,O,U,Y,k _ _ G (aG.ne t G (by intro φ z;cases z)),b7⟩
theorem bP.keepT{H':Hp}{lp:Pos}{ch:Ch}(t:aG H Pt lp qu)(k:jB Pt H H')(h:bP H c ch):bP H' c ch:=by
 obtain⟨kvs,e,p⟩:=h;refine⟨kvs,k _ _ e (aG.ne t e (by intro φ z;cases z)),aB p λ_ _ z=>?_⟩;obtain⟨a,m,b,c⟩:=z;exact⟨a,m,b,k _ _ c (aG.ne t c (by intro φ z;cases z))⟩
def HG(fs tr:Ch):Int:=by
 classical
 exact if h:∃us,iF fs tr us then((Classical.choose h).length:Int) else 0
theorem aoO{fs tr:Ch}{us:Ls}(h:iF fs tr us):HG fs tr=(us.length:Int):=by
 classical
 have e:∃us,iF fs tr us:=⟨us,h⟩;unfold HG;rw[dif_pos e,(Classical.choose_spec e).eq h]
def B4(nm:Str):rp:=⟨nm,some ([],none)⟩
theorem aoP:∀m:List Int,HT.lexLt m []=false
 | []=>rfl
 | _::_=>rfl
theorem aoQ{ch:Ch}{nm:Str}:Hz ch [B4 nm]=(ch.lookup nm).isSome:=by
 unfold Hz;rw[Cm,VO,VQ];show BZ (B4 nm) (ch.lookup nm)=_;cases ch.lookup nm with
 | none=>rfl
 | some m=>
  show(!HT.lexLt m [] && true)=true;rw[aoP];rfl
theorem aoR{de:Dec}{nm:Str}(h:(nm,some m)∈de):(dZ de).lookup nm≠none:=by
 have:(nm,m)∈dZ de:=vT.mpr ⟨_,h,rfl⟩;intro z;rw[List.lookup_eq_none_iff]at z;have:=z _ this;simp at this
theorem TY(M:Str->Ll){nm:Str}:∀(ys:Ls) (ds:List Dec),(∃d∈ds,(nm,some m)∈d)->∃d∈ys.foldl (gN M) ds,(nm,some m)∈d
 | [],ds,h=>h
 | y::ys,ds,⟨d,hd,hm⟩=>TY M ys (gN M ds y) ⟨d++[(y,none)],jR.mpr ⟨d,hd,bf.mpr ⟨none,bA,rfl⟩⟩,yK _ hm⟩
theorem TZ{M:Str->Ll}{nm:Str}(j:m∈M nm):∀(ys:Ls) (ds:List Dec),ds≠[]->nm∈ys->∃d∈ys.foldl (gN M) ds,(nm,some m)∈d
 | [],_,_,h=>nomatch h
 | y::ys,ds,hd,h=>by
  obtain⟨d,r,rfl⟩:=List.exists_cons_of_ne_nil hd
  by_cases e:nm=y
  . subst e;refine TY M ys (gN M (d::r) nm) ⟨d++[(nm,some m)],jR.mpr ⟨d,bA,bf.mpr ⟨some m,bL _ (bf.mpr ⟨m,j,rfl⟩),rfl⟩⟩,fP _ bA⟩
  refine TZ j ys (gN M (d::r) y) (λz=>?_) ((bc.mp h).resolve_left e);have:=Ht M y (d::r);rw[z]at this;simp at this
theorem T0{xs:Lv}{ps:Lp}{M:Str->Ll}{ys:Ls}{de:Dec}(hl:xs.length=ps.length)(O:pW ps M)(U:gY ps ys)(hd:de∈f7 M ys):dN xs ps (dZ de):=by
 have hk:=Hu hd;have nd:(de.map (·.1)).Nodup:=by rw[hk];exact U.nd
 refine⟨aoL nd,λe Y=>?_⟩;have hm:=(O.pm e.1).mem_iff.mp (aoK hd Y);obtain⟨p,hp,e2⟩:=bf.mp hm;obtain⟨G,wD⟩:=qe.mp hp;obtain⟨j,z⟩:=List.getElem?_of_mem G;have J:j<xs.length:=by rw[hl];exact(dB.mp z).1
 exact⟨xs[j],p,⟨j,z,fo J⟩,cq wD,e2⟩
inductive T1 (C S j z Pt:Addr):Sp where
 | mk {H:Hp}{Q:VK}{E:XK}{J U:V}{G O:Addr}{xs:Lv}{ps:Lp}{ns:Ls}{now:Ch}{nm:Str} (_:jK C S H J xs ps ns) (_:nY ps) (_:bP H G now) (_:dN xs ps now) (_:H O=some (.lst [U])) (_:pV H U (B4 nm)) (_:nm∈ps.map cM.nm) (_:aG H Pt dz dg)
  (_:∀ys,gY ps ys->400<ys.foldl (cQ ps) 1->∀H',ac H H'->E (.ref z) none H')
  (_:∀ys,gY ps ys->¬400<ys.foldl (cQ ps) 1->∀b dx fl d ch H',H b=none->jB Pt H H'->aG H' Pt dz dg->H' b=some (.ins j dx fl)->fl.lookup (aux:Str)=some (.ref d)->bP H' d ch->dN xs ps ch->Q (.ref b) H'):T1 C S j z Pt [J,.ref G,.ref O] H Q E
theorem HN:aM [auw,auR,auM,"width","doing"] [auw,auR,auM] (aC lq):=aV
theorem aoS(G:Pg K mg base Pt):au P w K mg base (eS P w) 7 G.Bes.f G.Bes.fd [auw,auR,auM] (T1 G.C G.S G.Bc G.E9 Pt):=by
 obtain⟨tk,a6⟩:=G.K0.gw;refine L2.FunC.okR (show L2.FunC K _ _ _ _ _ _ from ⟨G.Bes.FN.1,G.Bes.FN.2⟩) HN (λvs H Q E h=>?_) (λA outer s H vs Q E hr h=>?_)
 . cases h;rfl
 refine wQ ?_;intros;obtain @⟨_,_,_,sv,wv,nw,wl,xs,ps,ns,now,nm,U,ok,az,cN,jX,a',jN,b6,qT,qS⟩:=h;have gz:bT 5 (A.deeper (envOfC auQ (aC lq) s.heap.objs.size G.Bes.f (.ref G.Bes.c))).in1:=hr.in1;have a7:(A.deeper (envOfC auQ (aC lq) s.heap.objs.size G.Bes.f (.ref G.Bes.c))).in1.units+68<cLine:=by have:=gz.un;omega
 refine⟨_,(ak (aJ (i:=3) HN.nd rfl (Or.inl rfl) (aU (aoj G) hr rfl (ao (pv 0))))
  (ak (cU (eW JU (pv 3) (iM (v:=.int 400) (by rfl) a6 ⟨_,rfl⟩) (cj _)) (am (Eh G.R.xt G.R.mE9 (Af bK (agd (pv 3))))) eU)
  (ak (zU (i:=4) [aux] [auM,auw] [2,0] HN.nd rfl rfl fq rfl (cr (aU (aow G) hr rfl (ao (pv 0))))
   (λ_ _ _ _=>(a8 (i:=0) (show List.Nodup ([aux,auM,auw]:Ls) by decide +kernel) rfl (Or.inl rfl)))
   (λ_ _ _ _=>qC (PW.pt (Jw (gQ (aU (aoB G) hr rfl (aO (pv 0) (pv 1)))) (Jv (gQ (aU (RE G) hr rfl (aO (pv 2) (pv 0)))))))) (λ_ _ _ _=>(pv 0)))
  (ak (cU (eW kS (cW oY (by rfl) G.B.len mG (ao (pv 4))) aZ (cj _)) (am uI) eU)
  (am (ba (qt G.MBIn (up (aoI G)) hr rfl G.UB.mgC G.BIn.b .nil bY (ao (afN (c:=G.Bes.c) (P:=Pt) (x:=aux) (cap:=[auR,auw]) (js:=[1,0]) (b_:=dg) (pv 4) ⟨rfl,rfl,rfl,by decide +kernel,rfl,by decide +kernel,rfl,rfl,rfl⟩ gz rfl rfl G.Bes.hN G.hB rfl G.B.max
   (λ_ _ _ _ _ xP=>eE (aO (zA zB (cW (Lz K) (by rfl) G.B.len mG (ao (aU (GN G) xP rfl (aO (pv 1) (pv 0)))))) (aU (aoG G) xP rfl (aO (pv 2) (pv 0))))) (λ_ _ _ _=>rfl)))))))))),?_⟩
 refine Ah ?_;intro dD sS A9 vm im gf;refine⟨U.sh,ok,λH1 ys s1 hN=>?_⟩;refine⟨⟨⟨?_⟩⟩⟩;refine cY (λh=>?_) (λh=>?_)
 . obtain⟨_,w2,w3⟩:=aoM hN ok;have l1:(("the width is ":Str)).length<=1000:=by decide
   refine⟨oB (cp l1),_,rfl,uv w2 (by decide),_,rfl,?_,aD 1,qT ys hN (cq h) H1 s1⟩;exact cR (Nat.add_le_add l1 w3) (by decide)
 have h4:¬400<ys.foldl (cQ ps) 1:=λz=>h (bw z);have hM:=aoE ok;have bd:=aoD hM ys;refine⟨U.sh.same s1,ok,hM,λbF al=>?_,λl zs pK H2 n2 s2 vO e2 hz=>?_⟩
 . rw[al.uniq hN];omega
 have e:=vO.uniq hN;subst e;generalize bn:(λnm=>ug (fB ps nm))=Mm at *;have zl:=bh hz;rw[ah]at zl;have bj:=s1.trans s2;have pl:=bh U.pc;refine⟨⟨_,ag.of e2⟩,?_⟩;intro D hD;refine tP (σ0:=[none,some (.ref wl),some sv]) hD (ag.of e2) (λZ=>∃v,Z=[v,some (.ref wl),some sv]) (λj fN _=>fN.length<=j/\Paired (lA H2) fN ((((f7 Mm pK).take j).map dZ).filter λch=>(ch.lookup nm).isSome)) ⟨_,rfl⟩ ⟨aD _,.nil⟩ ?_ ?_
 . rintro j x fN Z H3 k k' hx ⟨v,rfl⟩ eK h3 ⟨pj,pf⟩ hk fX;obtain⟨ch,J,cc,rfl,uG⟩:=ff hz hx;rw[cz]at J;cases kF:(f7 Mm pK)[j]? with
   | none=>rw[kF]at J;cases J
   | some de=>
    rw[kF]at J;cases J;have lY:=d6 kF;have aH:=(dB.mp kF).1;have jL:=bj.trans h3;have et:(((f7 Mm pK).take (j+1)).map dZ).filter (λch=>(ch.lookup nm).isSome)=(((f7 Mm pK).take j).map dZ).filter (λch=>(ch.lookup nm).isSome)++(if ((dZ de).lookup nm).isSome=true then [dZ de] else []):=by
     rw[ub kF,cK,za]
     congr 1
     show List.filter _ [dZ de]=_;rw[qj];rfl
    refine⟨uG.same h3,jL _ _ jX,.cons (a'.same jL) .nil,by show 1<=100;decide,λH4 s4=>⟨?_⟩⟩;rw[aoQ];refine cY (λhb=>?_) (λhb=>?_)
    . have kC:=jL.trans s4;have W4:=U.same kC;have cO:=T0 pl hM vO lY;refine⟨W4.sh,W4.pc,W4.ap,uG.same (h3.trans s4),cO.va,cO.len W4.ap W4.n4,λH5 O=>⟨?_⟩⟩;refine eR ?_;refine⟨hk _ _ _ ⟨_,rfl⟩ (s4.trans O) (cp (by omega)) ⟨by rw[bD,mB];omega,?_⟩⟩;rw[et,ai hb];exact ie ⟨cc,rfl,uG⟩ pf
    refine eB ?_;refine fX _ _ ⟨_,rfl⟩ s4 ⟨by omega,?_⟩;rw[et,af hb,i4];exact pf
 rintro fN H3 eK h3 ⟨pj,pf⟩;rw[zl,eN]at pf;generalize T2:((f7 Mm pK).map dZ).filter (λch=>(ch.lookup nm).isSome)=Y at pf;have lH:∀ch∈Y,dN xs ps ch:=λch hc=>by
  rw[<-T2]at hc;obtain⟨h1,_⟩:=qe.mp hc;obtain⟨de,hd,rfl⟩:=bf.mp h1;exact T0 pl hM vO hd
 have cC:0<Y.length:=by
  obtain⟨p,hp,ep⟩:=bf.mp jN;have ay:p.ms∈Mm nm:=(hM.pm nm).mem_iff.mpr (bf.mpr ⟨p,qe.mpr ⟨hp,bw ep⟩,rfl⟩);obtain⟨de,hd,k9⟩:=TZ ay pK [[]] (by simp) ((vO.mem nm).mpr jN);rw[<-T2];exact asu (qe.mpr ⟨bf.mpr ⟨de,hd,rfl⟩,Option.isSome_iff_ne_none.mpr (aoR k9)⟩)
 have fl:=bh pf;refine⟨D,_,rfl,.inl (ag.of eK),rfl,⟨?_⟩⟩;refine cY (λz=>?_) (λ_=>?_)
 . have z:=cq z;injection z with z
   omega
 obtain⟨as,ab⟩:=TV pf;subst ab;have dM:=bj.trans h3;have b4:Paired (lA H3) (as.map V.ref) Y:=aB pf λ_ _ a3=>a3.elim λc a4=>a4.elim λe z=>⟨c,e,z.same h3⟩;have ip:aG H3 Pt dz dg:=b6.same dM;have bb:as.length=Y.length:=by rw[<-fl,ah]
 have a0:∀(i:Nat) (b:Addr),as[i]?=some b->∃ch,Y[i]?=some ch/\bP H3 b ch:=λi b hi=>by
  have:(as.map V.ref)[i]?=some (V.ref b):=by rw[cz,hi];rfl
  obtain⟨ch,h1,c',e,h2⟩:=ff b4 this;cases e;exact⟨ch,h1,h2⟩
 refine⟨D,as,_,_,_,rfl,aG.ne ip eK (by intro φ z;cases z),eK,by omega,agB a7 as.length (λi=>-HG now (Y.getD i [])) (λi=>pK.map λy=>((Y.getD i []).lookup y).getD []),ip,λi a ha H4 kp=>?_,λi a H' ha bl kp T3=>?_⟩
 . obtain⟨ch,J,ax⟩:=a0 i a ha;have T4:Y.getD i []=ch:=by rw[uz,J];rfl
   have cO:=lH ch (d6 J);have T6:=ax.keepT ip kp;have b5:=(U.sh.same dM).keepT ip kp;obtain⟨ka,a1,a2⟩:=(az.same dM).keepT ip kp;obtain⟨kb,b1,b2⟩:=id T6;have lN:=cN.len U.ap U.n4;have lC:=cO.len U.ap U.n4;refine⟨a1,b1,a2,b2,cN.nd,cO.nd,trivial,trivial,xW (by omega),λl5 H5 br n5 O e5 hU=>?_⟩;refine⟨l5,_,rfl,.inl (ag.of e5),_,rfl,?_⟩;refine⟨b5.same O,ok.len,T6.same O,λl6 b7 bt H6 n6 s6 av e6 tV=>?_⟩;refine⟨Ax,λkt H7 n7 s7 e7=>⟨kt,rfl,(O.trans s6).trans s7,l6,b7,?_,s7 _ _ e6,?_⟩⟩
   . rw[e7,T4,aoO hU,ah]
   rw[T4,<-av.uniq vO];exact aB tV λ_ _=>iW.same s7
 obtain⟨ch,J,kvs,HP,pk⟩:=a0 i a ha;have cO:=lH ch (d6 J);have uV:=kp _ _ HP (aG.ne ip HP (by intro φ z;cases z));have a9:bP H' a ch:=bP.keepT ip kp ⟨kvs,HP,pk⟩;dsimp only[eg,rE,we];intro x dx nx T7 bm;have b3:=aF uV nx;have a5:=aF uV T7;refine⟨aw,aA (aA uV a5) b3,λd' H5 vw b0 ex ed=>⟨rfl,?_⟩⟩;have O:ac H' H5:=λb o e=>b0 _ _ (aA (aA e (aF e T7)) (aF e nx)) (aF e nx);obtain⟨bo,y1,y2⟩:=a9.same O;rw[O _ _ uV]at y1;cases y1;have nH:H x=none:=by
  cases hz:H x with
  | none=>rfl
  | some o=>
   by_cases xp:x=Pt
   . obtain⟨φ,z⟩:=aoN T3;rw[xp,z]at nx;cases nx
   rw[kp _ _ (dM _ _ hz) xp]at nx;cases nx
 exact qS pK vO h4 x dx _ d' ch H5 nH (λb o e n=>O _ _ (kp _ _ (dM _ _ e) n)) (T3.same O) ex rfl ⟨_,ed,y2⟩ cO
end
section
seal PE PS bu PA PT PW PG dv PI cL
theorem DU.keepT{xs:Lv}{ps:Lp}{t:Str}{ch:Ch}{cs:Cs}{ow:Ow}{fs:Tr}{bk:Bk}{H H':Hp}(h:DU D x dx d b Pt xs ps t ch cs ow fs bk H)(k:jB Pt H H')(tb:aG H' Pt dz dg):DU D x dx d b Pt xs ps t ch cs ow fs bk H':=⟨h.dk.keepT h.tb k,h.la,h.tx,h.tk,h.up,h.fu,h.ln,tb⟩
theorem fA.setC{H:Hp}{J:V}{xs:Lv}{ps:Lp}{ns:Ls}{ch j:Ch}{cs:Cs}{ow:Ow}(h:fA xs ps ch cs ow)(W:jK C S H J xs ps ns)(c:dN xs ps j):fA xs ps j cs ow:=
 ⟨⟨⟨λe G => by
   obtain⟨v,p,hi,e1,e2⟩:=c.va e G;have z:=GJ hi;rw[<-e1,<-e2];exact⟨W.nm _ (W.ap.nms p z),W.ap.mks p z⟩,h.ok.ok.cs,h.ok.ok.ow⟩,c.nd,h.ok.d2,h.ok.d3,c.len W.ap W.n4,h.ok.n2,h.ok.n3,h.ok.ln⟩,c.va,h.o2,h.br⟩
inductive T8 (z C S D j G Pt:Addr):Sp where
 | mk {H:Hp}{Q:VK}{E:XK}{h Y x dx d b O:Addr}{sv U:V}{fs:Tr}{bk:Bk}{xs:Lv}{ps:Lp}{ns:Ls}{t nm:Str}{ch:Ch}{cs:Cs}{ow:Ow} (_:HW z C S h Y x sv xs ps ns (msk [x,d,b,Pt] H)) (_:DU D x dx d b Pt xs ps t ch cs ow fs bk H) (_:bk.length<=300) (_:nY ps) (_:H O=some (.lst [U])) (_:pV H U (B4 nm)) (_:nm∈ps.map cM.nm)
  (_:∀ys,gY ps ys->400<ys.foldl (cQ ps) 1->∀H',ac H H'->E (.ref G) none H')
  (_:∀ys,gY ps ys->¬400<ys.foldl (cQ ps) 1->∀J bx fl H',H' J=some (.ins j bx fl)->aG H' Pt dz dg->Q (.ref J) H'):T8 z C S D j G Pt [.ref h,.ref O] H Q E
theorem apb(j:Pg K mg base Pt):au P w K mg base (eS P w) 10 j.HWi.f j.HWi.fd [auv,auM] (T8 j.Hc j.C j.S j.D j.Bc j.E9 Pt):=by
 refine j.HWi.u.okR yq (λvs H Q E h=>?_) (λav Ar outer s H vs Q E hr h=>?_)
 . cases h;rfl
 refine wQ ?_;intros;obtain @⟨_,_,_,h,a9,x,dx,d,b,wl,sv,wv,fs,bk,xs,ps,ns,t,nm,ch,cs,ow,hW,G,l3,ok,jX,ay,jN,qT,qS⟩:=h;refine⟨_,(ak (aJ (i:=2) yq.nd rfl (Or.inl rfl) (fF (pv 0) j.UH.cl j.HSK.mt (up (BV j)) hr j.HSK.b .nil bY))
  (ak (aJ (i:=3) yq.nd rfl (Or.inl rfl) (vj (d:=j.Bes.toFd) (aoS j) hr rfl jj (eZ (bv (pv 0) rfl) (bv (pv 2) rfl) (pv 1))))
  (ak (cU (gQ (cW Nz (by rfl) j.B.isinstance rM (aO (pv 3) (iM (v:=.ref j.Bc) rfl j.UB.mgC rfl))))
   (am (bI (ia (pv 0) j.UH.cl j.HGo.mt (up (Hf j)) hr j.HGo.b .nil bY (eZ (bv (pv 3) rfl) (bv (pv 2) rfl) (bv (pv 2) rfl))))) eU)
  (am (ba (pv 3)))))),?_⟩
 refine lU ?_;intro dD sS u4 u3 u2;have hh:=bg _ _ hW.ob;refine⟨hh,rfl,hh,G.qd (by omega),G.up,λv H1 J hv=>?_⟩;have ax:=hv [x,d,b,Pt] G.busy;obtain⟨va,BP,BQ,c0,h0,o0,rfl,w1,w2,w3,w4,w5,w6,w7⟩:=id ax;have W1:=(hW.wl.same (dL J)).same bg;have Y:=G.same J;refine⟨J _ _ hh,j.UH.cl,j.UH.nS,rfl,bg _ _ w1,j.UT.cl,j.UT.nC,w2,?_⟩;refine⟨W1,ok,w5.same bg,⟨G.tx.so.ok.d1,G.tx.so.va⟩,J _ _ jX,ay.same J,jN,Y.tb,λys hN z H2 s2=>qT ys hN z H2 (J.trans s2),λys hN z bb bx fl dd HQ H2 nb kT GY eb ef hc cO=>?_⟩;have D2:=Y.keepT kT GY;have U:ac (msk [x,d,b,Pt] H1) (msk [x,d,b,Pt] H2):=(bW.ofT kT).msk;have T9:=(hW.same (dL J)).same U;have Ua:=bg _ _ (U _ _ w1);refine⟨bb,j.Bc,j.Bc,bx,fl,true,rfl,eb,j.UB.cl,j.UB.ii,j.UB.kB,⟨eR ?_⟩⟩;refine⟨bg _ _ T9.ob,rfl,eb,j.UB.cl,j.UB.nC,ef,Ua,j.UT.cl,j.UT.nH,w3,Ua,j.UT.cl,j.UT.nO,w4,?_⟩;refine⟨T9,D2,l3,hc,(w6.same U).same bg,(w7.same U).same bg,G.tx.so.setC W1 cO,λH' a0=>a0.elim λt' a1=>a1.elim λaQ a2=>a2.elim λaR a3=>a3.elim λaI a4=>a4.elim λaY a5=>a5.elim λfk a6=>a6.elim λr1 a7=>a7.elim λr2 ab=>ab.elim λr3 al=>al.elim λdq ap=>ap.elim λll k=>?_⟩;have O:=Y.busy.free nb;simp only[bc,i7,i8,rJ]at O;exact⟨qS ys hN z bb bx fl H' (k _ _ eb O.1 O.2.1 O.2.2.1 O.2.2.2) dq.tb⟩
variable {c:Int}{p n:Nat}
def uh:Str:="/file"
def pY(is:List Int)(p:Nat):Nat:=(1+bZ is (2+(p:Int)) % 4).toNat
def mw(is:List Int)(c:Int)(p k:Nat):List (Str×Ls):=if bZ is (2+(p:Int)) / 4 % 2=1 then [(fh c p++uh,[Str.ofString (toString (k:Int))])] else []
def ui(is:List Int)(c:Int)(p k:Nat):cM:=⟨fh c p,[(k:Int),(p:Int)],mw is c p k,[],0⟩
def kG(is:List Int)(c:Int)(p m:Nat):Lp:=(List.range m).map (ui is c p)
def fm(is:List Int)(c:Int):Nat->Lp
 | 0=>[]
 | n+1=>fm is c n++kG is c n (pY is n)
def jn(c:Int)(n:Nat):Ls:=(List.range n).map λp:Nat=>fh c p
def lB(is:List Int):Nat->Int
 | 0=>1
 | n+1=>lB is n * ((pY is n+1:Nat):Int)
theorem app(is:List Int)(p:Nat):1<=pY is p:=by unfold pY;omega
theorem HR(is:List Int)(p:Nat):pY is p<=4:=by unfold pY;omega
theorem HS{β:Type}(f:Nat->β):∀n:Nat,(∀i j,i<n->j<n->f i=f j->i=j)->((List.range n).map f).Nodup
 | 0,_=>jo
 | n+1,h=>by
  rw[yS,cK,uB];refine⟨HS f n λi j hi O=>h i j (by omega) (by omega),(i5.mpr ⟨(λz=>nomatch z),jo⟩),λa J b G e=>?_⟩;obtain⟨i,hi,rfl⟩:=bf.mp J;have G:b=f n:=bX.mp G;subst G;have:=iK.mp hi;have:=h i n (by omega) (by omega) e;omega
theorem HU{is:List Int}{m:Nat}{q:cM}(h:q∈kG is c p m):∃k,k<m/\q=ui is c p k:=by
 obtain⟨k,j,e⟩:=bf.mp h;exact⟨k,iK.mp j,e.symm⟩
theorem pZ{is:List Int}{q:cM}:∀{n:Nat},q∈fm is c n->∃p k,p<n/\k<4/\q=ui is c p k
 | 0,h=>nomatch h
 | n+1,h=>by
  rcases dA.mp h with h | h
  . obtain⟨p,k,a,b,e⟩:=pZ h;exact⟨p,k,by omega,b,e⟩
  obtain⟨k,a,e⟩:=HU h;exact⟨n,k,by omega,by have:=HR is n;omega,e⟩
theorem yA(is:List Int)(c:Int):∀n:Nat,(fm is c n).length<=4 * n
 | 0=>aD _
 | n+1=>by
  have:=yA is c n;have:=HR is n;unfold fm kG;rw[bD,ah,mE];omega
theorem apq:∀i j:Fin 26,nz (i:Int)=nz (j:Int)->i=j:=by decide +kernel
theorem Ub(n:Int):nz n=nz (n % 26):=by
 unfold nz;rw[Int.emod_emod_of_dvd n (Int.dvd_refl 26)]
theorem HV{a b:Str}(h:a.cps=b.cps):a=b:=by cases a;cases b;cases h;rfl
theorem apr{a l j b:Str}(h:a++l++b=a++j++b):l=j:=by
 have h:(a.cps++l.cps)++b.cps=(a.cps++j.cps)++b.cps:=cS Str.cps h;have h1:=cS Array.toList h;rw[v7,v7,v7,v7]at h1;exact HV (IU.mp (List.append_cancel_left (asN h1)))
theorem HX{q:Nat}(J:p<26)(O:q<26)(h:fh c p=fh c q):p=q:=by
 have h:=apr h;rw[Ub (c+p),Ub (c+q)]at h;have j:0<=(c+(p:Int)) % 26/\(c+(p:Int)) % 26<26:=⟨by omega,by omega⟩;have G:0<=(c+(q:Int)) % 26/\(c+(q:Int)) % 26<26:=⟨by omega,by omega⟩;have e1:((⟨((c+(p:Int)) % 26).toNat,by omega⟩:Fin 26):Int)=(c+(p:Int)) % 26:=by show(((c+(p:Int)) % 26).toNat:Int)=_;omega
 have e2:((⟨((c+(q:Int)) % 26).toNat,by omega⟩:Fin 26):Int)=(c+(q:Int)) % 26:=by show(((c+(q:Int)) % 26).toNat:Int)=_;omega
 have:=apq ⟨((c+(p:Int)) % 26).toNat,by omega⟩ ⟨((c+(q:Int)) % 26).toNat,by omega⟩ (by rw[e1,e2];exact h);have:=cS (λz:Fin 26=>(z:Nat)) this;dsimp only at this;omega
theorem Uc{a b:cM}(h:cI a=cI b):a.ms=b.ms:=by
 unfold cI at h;injection h with _ h
 injection h with h _
 injection h with h
 exact Tc h
theorem B6(is:List Int)(c:Int):∀n:Nat,((fm is c n).map cI).Nodup
 | 0=>jo
 | n+1=>by
  unfold fm;rw[cK,uB];refine⟨B6 is c n,?_,λa z b G e=>?_⟩
  . unfold kG;rw[jp];refine HS _ _ λk k' _ _ e=>?_;have:=Uc (show cI (ui is c n k)=cI (ui is c n k') from e);have this:[(k:Int),(n:Int)]=[(k':Int),(n:Int)]:=this;injection this with this _
    omega
  obtain⟨q,J,rfl⟩:=bf.mp z;obtain⟨O,j,rfl⟩:=bf.mp G;obtain⟨p,k,h1,_,rfl⟩:=pZ J;obtain⟨k',_,rfl⟩:=HU j;have:=Uc e;have this:[(k:Int),(p:Int)]=[(k':Int),(n:Int)]:=this;injection this with _ this
  injection this with this
  omega
theorem Ud(a b:Lp)(nm:Str):fB (a++b) nm=fB a nm++fB b nm:=by
 unfold fB;rw[za,cK]
theorem Ue(is:List Int)(c:Int)(p m:Nat)(nm:Str):(fB (kG is c p m) nm).length=if fh c p=nm then m else 0:=by
 unfold fB kG;rw[ah];split
 . rename_i e;rw[List.filter_eq_self.mpr,ah,mE];intro q j;obtain⟨k,_,rfl⟩:=bf.mp j;exact bw e
 rename_i e;rw[asJ.mpr]
 . rfl
 intro q j z;obtain⟨k,_,rfl⟩:=bf.mp j;exact e (cq z)
theorem HY{is:List Int}{nm:Str}:∀{n:Nat},(∀p:Nat,p<n->fh c p≠nm)->(fB (fm is c n) nm).length=0
 | 0,_=>rfl
 | n+1,h=>by
  unfold fm;rw[Ud,bD,HY λp j=>h p (by omega),Ue,af (h n (by omega))]
theorem HZ{is:List Int}{c:Int}{nm:Str}{p:Nat}(e:fh c p=nm):∀{n:Nat},n<=26->p<n->(fB (fm is c n) nm).length=pY is p
 | 0,_,h=>absurd h (uy _)
 | n+1,l,h=>by
  unfold fm;rw[Ud,bD,Ue]
  by_cases z:p=n
  . subst z;rw[HY λq j w=>by
     have:=HX (c:=c) (p:=q) (q:=p) (by omega) (by omega) (w.trans e.symm);omega,ai e,CB]
  rw[HZ e (by omega) (by omega),af λw=>by
   have:=HX (c:=c) (p:=n) (q:=p) (by omega) (by omega) (w.trans e.symm);omega]
  rfl
theorem aps{is:List Int}(h:n<=5):nY (fm is c n) where
 nd:=B6 is c n
 mm:=λq G=>by
  obtain⟨p,k,_,_,rfl⟩:=pZ G;intro z;cases z
 four:=λnm=>by
  by_cases z:∃p:Nat,p<n/\fh c p=nm
  . obtain⟨p,j,e⟩:=z;rw[HZ e (by omega) j];exact HR is p
  rw[HY λp j e=>z ⟨p,j,e⟩];omega
 len:=by have:=yA is c n;omega
theorem apt{is:List Int}{m:Nat}(h:1<=m){z:Str}:z∈(kG is c p m).map cM.nm↔z=fh c p:=by
 constructor
 . intro hz;obtain⟨q,j,rfl⟩:=bf.mp hz;obtain⟨k,_,rfl⟩:=HU j;rfl
 intro e;exact bf.mpr ⟨ui is c p 0,bf.mpr ⟨0,iK.mpr h,rfl⟩,e.symm⟩
theorem B7{is:List Int}{z:Str}:∀{n:Nat},z∈(fm is c n).map cM.nm↔z∈jn c n
 | 0=>Iff.rfl
 | n+1=>by
  unfold fm jn;rw[cK,dA,B7,apt (app is n),yS,cK,dA,List.map_singleton,bX];rfl
theorem apu(h:n<=26):(jn c n).Nodup:=by
 unfold jn;exact HS _ _ λp q j z e=>HX (by omega) (by omega) e
theorem Uf{is:List Int}{c:Int}(h:n<=5):∀m:Nat,m<=n->(jn c m).foldl (cQ (fm is c n)) 1=lB is m
 | 0,_=>rfl
 | m+1,hm=>by
  unfold jn;rw[yS,cK,kM];have j:=Uf (is:=is) (c:=c) h m (by omega);unfold jn at j;rw[j];show cQ (fm is c n) (lB is m) (fh c m)=_;unfold cQ;rw[HZ (p:=m) rfl (by omega) (by omega)];rfl
theorem Ug{is:List Int}(h:n<=5){ys:Ls}(j:gY (fm is c n) ys):ys.foldl (cQ (fm is c n)) 1=lB is n:=by
 have pm:ys.Perm (jn c n):=(VN j.nd (apu (by omega))).mpr λz=>by rw[j.mem,B7]
 rw[List.Perm.foldl_eq' pm (λx _ y _ z=>by unfold cQ;rw[VT,VT,Int.mul_comm (_:Int) ((_:Nat):Int)]) 1];exact Uf h n (aD _)
theorem apv{x:Str}(h:cm x):ft (x++uh):=⟨[x,"file"],by
 refine HV ?_;show _=(Str.join ke [x,"file"]).cps;rfl,by show 1<=2;decide,by show 2<=4;decide,λp j=>by
 rcases bc.mp j with e | e
 . rw[e];exact h
 rw[bX.mp e];exact A0 (by decide +kernel)⟩
theorem apw:∀k:Fin 4,gU (Str.ofString (toString ((k:Nat):Int))):=λk=>by
 have h:∀k:Fin 4,((Str.ofString (toString ((k:Nat):Int))).length<=60 && (Str.ofString (toString ((k:Nat):Int))).cps.toList.all λc=>decide (32<=c/\c<=126/\c≠37))=true:=by decide +kernel
 obtain⟨a,b⟩:=oF.mp (h k);exact⟨cq a,λc j=>cq (eT.mp b c j)⟩
theorem B8{is:List Int}{k:Nat}{f:Str×Ls}(h:f∈mw is c p k):f=(fh c p++uh,[Str.ofString (toString (k:Int))]):=by
 unfold mw at h;split at h
 . exact bX.mp h
 cases h
theorem Uh(is:List Int)(c:Int)(p k:Nat):(mw is c p k).length<=1:=by
 unfold mw;split
 . exact aD _
 exact cE _
theorem apx{is:List Int}(h:n<=5)(Y:∀p:Nat,p<n->cm (fh c p)):Apart (jn c n) (fm is c n) where
 nd:=B6 is c n
 ok:=λq j=>by
  obtain⟨p,k,h1,h2,rfl⟩:=pZ j;have:=Uh is c p k;refine⟨by show(mw is c p k).length<=3;omega,λf G=>?_,?_⟩
  . rw[B8 G];exact⟨apv (Y p h1),λx J=>by rw[bX.mp J];exact apw ⟨k,h2⟩,by show 1<=4;decide⟩
  show((mw is c p k).map (·.1)).Nodup;unfold mw;split
  . exact(i5.mpr ⟨(λz=>nomatch z),jo⟩)
  exact jo
 one:=λq j q' U x J ir=>by
  obtain⟨p,k,_,_,rfl⟩:=pZ j;obtain⟨p',k',_,_,rfl⟩:=pZ U;obtain⟨f,G,e⟩:=bf.mp J;obtain⟨f',lw,O⟩:=bf.mp ir;rw[B8 G]at e;rw[B8 lw]at O;have e:(fh c p).cps++uh.cps=(fh c p').cps++uh.cps:=cS Str.cps (e.trans O.symm);have e:=cS Array.toList e;rw[v7,v7]at e;exact HV (IU.mp (asN e))
 len:=by have:=yA is c n;omega
 nms:=λq j=>B7.mp (gE j)
 offs:=λq j=>by obtain⟨p,k,_,_,rfl⟩:=pZ j;rfl
 mks:=λq j=>by
  obtain⟨p,k,h1,h2,rfl⟩:=pZ j;refine⟨by show 1<=2;decide,by show 2<=3;decide,λz hz=>?_⟩;have hz:z∈[(k:Int),(p:Int)]:=hz
  rcases bc.mp hz with e | e
  . rw[e];omega
  rw[bX.mp e];omega
theorem apy{is:List Int}{x:Str}(h:x.length<=4):∀q∈fm is c n,x∉q.fs.map (·.1):=λq z G=>by
 obtain⟨p,k,_,_,rfl⟩:=pZ z;obtain⟨f,j,e⟩:=bf.mp G;rw[B8 j]at e;have e:(fh c p++uh).length=x.length:=cS Str.length e;rw[lR]at e;have:uh.length=5:=by decide +kernel
 omega
theorem apz(is:List Int)(c:Int)(p m:Nat):kG is c p (m+1)=kG is c p m++[ui is c p m]:=by
 unfold kG;rw[yS,cK];rfl
theorem apA{v:V}{r:Int}(h:r=0\/r=1):uN [v] none (some r)=if r=1 then [v] else []:=by
 rcases h with rfl | rfl<;>rfl
inductive Ui (K:Fg) (C S:Addr):Sp where
 | mk {H:Hp}{Q:VK}{E:XK}{a:Addr}{n:Nat}{m:Int}{is:List Int} (_:ag K H a (is.map V.int)) (_:n<=5) (_:m=(n:Int)) (_:∀t j xs H',ac H H'->H' t=some (.tup [.ref j,.int (lB is n)])->fw S H' (.ref j) xs (fm is (bZ is 1) n)->gW C H' xs (fm is (bZ is 1) n)->(∀p:Nat,p<n->cm (fh (bZ is 1) p))->Q (.ref t) H'):Ui K C S [.ref a,.int m] H Q E
theorem p8:aM [auD,auS,"_law_parcels","_law_width",ave,auP,"_law_makes",au7,"_law_files"] [auD,auS] (aC Op):=aV
theorem apB(G:Pg K mg base Pt):au P w K mg base aL 3 G.LSh.f G.LSh.fd [auD,auS] (Ui K G.C G.S):=by
 refine G.LSh.u.okL p8 ?_;intro av A outer s H vs Q E Y h xX dX;obtain @⟨_,_,_,a,n,m,is,hS,n5,hm,q⟩:=h;subst hm;refine⟨_,(ak (aJ (i:=2) p8.nd rfl (Or.inl rfl) (cx dE))
  (ak (aJ (i:=3) p8.nd rfl (Or.inl rfl) aZ)
  (ak (fD fC rfl (C2 rfl G.B.range (ao (pv 1))) (a8 (i:=4) p8.nd rfl (Or.inl rfl))
   (ak (aJ (i:=5) p8.nd rfl (Or.inl rfl) (aU (PQ G) Y rfl (aO (aU (tI G) Y rfl (aO (pv 0) aZ)) (pv 4))))
   (ak (aJ (i:=6) p8.nd rfl (Or.inl rfl) (cF oR aZ (cF oS (aU (tI G) Y rfl (aO (pv 0) (cF oR aZ (pv 4)))) aZ)))
   (ak (aJ (i:=3) p8.nd rfl (Or.inl rfl) (cF Dc (pv 3) (cF oR (pv 6) aZ)))
   (am (fD fC rfl (C2 rfl G.B.range (ao (pv 6))) (a8 (i:=7) p8.nd rfl (Or.inl rfl))
    (ak (aJ (i:=8) p8.nd rfl (Or.inl rfl) (wB abC (cx (ao (eE (aO (cF Dj (pv 5) bK) (cx (ao (eX JY (by rfl) G.B.str Jg (ao (pv 7))))))))) wz (wA (cF oS (cF uK (aU (tI G) Y rfl (aO (pv 0) (cF oR aZ (pv 4)))) aZ) aZ))))
    (am (bI (dR ja y8 y9 sw (pv 2) (ao (qt G.MPIn (up (aiH G)) Y rfl G.TC.mgC G.PIn.b .nil bY (hX (pv 5) (hX (eE (aO (pv 7) (pv 4))) (hX aZ (uT (pv 8) (cx dE) (cx dE) (cx dE)))))))))))))))))
  (am (ba (eE (aO (qt G.MSIn (up (aiT G)) Y rfl G.US.mgC G.SIn.b .nil bY (ao (pv 2))) (pv 3)))))))),?_⟩
 refine lU ?_;intro dD sS u4 u3 u2;refine⟨AA,λJ H1 n1 s1 e1=>?_⟩;refine⟨by omega,by omega,?_⟩;refine C5 (lo:=0) (n:=((n:Int)).toNat) (λi Z H2=>∃(t4 t5 t6 t7 t8:Option V) (vs:Lv),Z=[some (.ref a),some (.int (n:Int)),some (.ref J),some (.int (lB is i)),t4,t5,t6,t7,t8]/\ac H H2/\H2 J=some (.lst vs)/\gW G.C (msk [J] H2) vs (fm is (bZ is 1) i)/\∀p:Nat,p<i->cm (fh (bZ is 1) p))
  ⟨none,none,none,none,none,[],rfl,s1,e1,.nil,λp hp=>absurd hp (uy _)⟩ ?_ ?_
 . intro i Z H2 hi hQ;rw[show((0:Int)+(i:Int))=(i:Int) from Int.zero_add _];refine cb ?_;intro tT;obtain⟨t4,t5,t6,t7,t8,vs,rfl,s2,kj,bO,jN⟩:=hQ;refine lU ?_;intros;refine⟨by omega,s2.seq hS,⟨⟨λH3 lx s3=>?_⟩⟩⟩;refine⟨by omega,(s2.trans s3).seq hS,(by show(0:Int)<4;decide),?_⟩;refine⟨.inr ⟨by omega,by omega⟩,?_⟩;refine⟨by omega,by omega,?_⟩;have kH:=s2.trans s3;refine C5 (lo:=0) (n:=(1+bZ is (2+(i:Int)) % 4).toNat) (λj Z U=>∃(t7 t8:Option V) (vs:Lv),Z=[some (.ref a),some (.int (n:Int)),some (.ref J),some (.int (lB is i * (1+bZ is (2+(i:Int)) % 4+1))),some (.int (i:Int)),some (.str (fh (bZ is 1) i)),some (.int (1+bZ is (2+(i:Int)) % 4)),t7,t8]/\ac H U/\U J=some (.lst vs)/\gW G.C (msk [J] U) vs (fm is (bZ is 1) i++kG is (bZ is 1) i j))
    ⟨_,_,vs,rfl,kH,s3 _ _ kj,by rw[show kG is (bZ is 1) i 0=[] from rfl,i4];exact bO.same (dL s3)⟩ ?_ ?_
   . intro j Z U hj kf;rw[show((0:Int)+(j:Int))=(j:Int) from Int.zero_add _];refine cb ?_;intro tT;obtain⟨Uj,Uk,B9,rfl,O,yB,Ca⟩:=kf;refine qJ ?_;intros;have j4:j<4:=by omega
     have ap:=lx.hi;have qK:(Str.ofString "/file").length=5:=by decide +kernel
     refine⟨_,_,rfl,rfl,fit (by omega) (by omega),?_⟩;refine⟨_,rfl,?_,?_⟩
     . exact Cu (Nat.log2_le_self _) (by omega)
     refine⟨Aq,λl1 H5 n5 s5 e5=>?_⟩;refine⟨Ax,λtt H6 n6 s6 e6=>?_⟩;refine⟨Aq,λl2 H7 n7 s7 e7=>?_⟩;have Ul:=s5.trans (s6.trans s7);refine⟨by omega,(O.trans Ul).seq hS,⟨by omega,by omega⟩,(by show(0:Int)<2;decide),ag.of e7,λf H8 n8 s8 e8=>?_⟩;rw[apA (by omega)]at e8;have Um:=Ul.trans s8;refine⟨.inl ⟨rfl,_,ag.of (Um _ _ yB)⟩,?_⟩;refine⟨Ax,λm H9 n9 s9 e9=>?_⟩;refine⟨AA,λq1 a6 ax Uo a1=>?_⟩;refine⟨AA,λq2 a7 ay Ia a2=>?_⟩;refine⟨AA,λq3 Up az bj a3=>?_⟩;have Ib:=s9.trans (Uo.trans (Ia.trans bj));have Uq:=Um.trans Ib;have jH:Paired (nI Up) (if bZ is (2+(i:Int)) / 4 % 2=1 then [V.ref tt] else []) (mw is (bZ is 1) i j):=by
      unfold mw;split
      . have Ur:=s8.trans Ib;exact .cons ⟨tt,l1,rfl,Ur _ _ (s7 _ _ e6),Ur _ _ (s7 _ _ (s6 _ _ e5))⟩ .nil
      exact .nil
     have ab:=Uh is (bZ is 1) i j;dsimp only[eg];refine ajm (K:=K) (C:=G.C) (rk:=0) (nm:=fh (bZ is 1) i) (mk:=[(j:Int),(i:Int)]) (fs:=mw is (bZ is 1) i j) (os:=[]) (bj _ _ (Ia _ _ (Uo _ _ e9))) (Ib _ _ e8) jH (bj _ _ (Ia _ _ a1)) (bj _ _ a2) a3 (by omega) λx a9 x9 dM a4=>?_;have Ic:=Uq.trans dM;have a0:iX Up [J]:=λb hb=>by
      rw[bX.mp hb];exact⟨_,Uq _ _ yB,by intro vs z;cases z⟩
     have a5:=bh Ca;have pl:=yA is (bZ is 1) i;have al:B9.length<=100:=by
      rw[a5,bD];unfold kG;rw[ah,mE];omega
     refine⟨Ic _ _ yB,cp (by omega),?_⟩;refine⟨_,_,B9++[.ref x],rfl,gt (O.trans Ic) n1,aw,?_⟩;rw[NF bA,apz,<-i6];exact ie (a4 [J] a0) (Ca.same (dL Ic))
   rintro Z U ⟨Uj,Uk,B9,rfl,O,yB,Ca⟩;have e:lB is (i+1)=lB is i * (1+bZ is (2+(i:Int)) % 4+1):=by
    show lB is i * ((pY is i+1:Nat):Int)=_
    congr 1
    unfold pY;omega
   refine⟨some (.int (i:Int)),some (.str (fh (bZ is 1) i)),some (.int (1+bZ is (2+(i:Int)) % 4)),Uj,Uk,B9,by rw[e],O,yB,Ca,λp hp=>?_⟩
   rcases VC p i with z | z
   . exact jN p z
   have:p=i:=by omega
   rw[this];exact lx
 rintro Z H2 ⟨t4,t5,t6,t7,t8,vs,rfl,s2,kj,bO,jN⟩;rw[v5]at bO jN;have pl:=yA is (bZ is 1) n;refine⟨?_⟩;dsimp only[List.set,eg];refine ank (K:=K) (C:=G.C) (S:=G.S) kj (bO.same bg) (by omega) (B6 _ _ _) λsh H3 n3 s3 Ie=>?_
 try dsimp only[List.set,eg]
 refine⟨⟨Ax,λt U n4 O e4=>?_⟩⟩;rw[v5]at e4;exact q t sh vs U (s2.trans (s3.trans O)) e4 (Ie.same O) ((bO.same bg).same (s3.trans O)) jN
end
section
seal PE PS bu PA PT PW PG dv PI cL
theorem lD:aM [auJ,auP,auZ,"_law_found","e"] [auJ,auP] (aC Oq):=aV
inductive Ig (z D j:Addr):Sp where
 | mk {H:Hp}{Q:VK}{E:XK}{h:Addr}{nm:Str} (_:∀E:XK,(∀H',ac H H'->E (.ref j) none H')->tZ z D j h H E) (_:∀t y H',ac H H'->H' t=some (.tup [.non,.ref y])->H' y=some (iP y (.ref j))->Q (.ref t) H'):Ig z D j [.ref h,.str nm] H Q E
theorem Us(j:Pg K mg base Pt):au P w K mg base aL 9 j.LWi.f j.LWi.fd [auJ,auP] (Ig j.Hc j.D j.NU):=by
 refine j.LWi.u.okL lD ?_;intro av Ar outer s H vs Q E hr h xX dX;obtain @⟨_,_,_,h,nm,O,q⟩:=h;refine⟨_,(ak (aJ (i:=2) lD.nd rfl (Or.inl rfl) gm)
  (ak (aJ (i:=3) lD.nd rfl (Or.inl rfl) gm)
  (Ag (L8 (i:=4) lD.nd rfl rfl rfl rfl j.R.mM rfl (λXE pn E hp=>am (aJ (i:=3) lD.nd rfl (Or.inl rfl) (Ei (pv 0) j.UH.cl j.HWi.mt (up (amJ j)) hr j.HWi.b .nil hp (ao (cx (ao (eE (uT bK (pv 1) (eE dE) gm))))))))
   (λa=>am (aJ (i:=2) lD.nd rfl (Or.inl rfl) (pv 4))))
  (am (ba (eE (aO (pv 3) (pv 2)))))))),?_⟩
 obtain⟨a9,sv,x,hh,_⟩:=id (O (λ_ _ _=>True) λ_ _=>trivial);refine⟨λσ' H'=>∃y,σ'=[some (.ref h),some (.str nm),some (.ref y),some .non,none]/\ac H H'/\H' y=some (iP y (.ref j.NU)),?_,?_⟩
 . refine⟨hh,rfl,AA,λt1 H1 n1 J e1=>?_⟩;refine⟨(by show 4<=sizeLine;decide),λt2 H2 n2 z e2=>?_⟩;refine⟨Aq,λt3 H3 n3 s3 e3=>?_⟩;have Y:=J.trans (z.trans s3);refine⟨(tZ.same (O _ λH4 U=>?_) Y)⟩;exact⟨j.R.eu,λy G=>⟨y,rfl,gt U (U.free G),aw⟩⟩
 rintro σ' H1 ⟨y,rfl,J,G⟩;exact⟨⟨Ax,λt H2 n2 z e2=>q t y H2 (J.trans z) e2 (z _ _ G)⟩⟩
inductive Ih (z C S D j G Pt:Addr):Sp where
 | mk {H:Hp}{Q:VK}{E:XK}{h O x dx d b:Addr}{Y:V}{fs:Tr}{bk:Bk}{xs:Lv}{ps:Lp}{ns:Ls}{t nm:Str}{ch:Ch}{cs:Cs}{ow:Ow} (_:HW z C S h O x Y xs ps ns (msk [x,d,b,Pt] H)) (_:DU D x dx d b Pt xs ps t ch cs ow fs bk H) (_:bk.length<=300) (_:nY ps) (_:nm∈ps.map cM.nm)
  (_:∀ys,gY ps ys->400<ys.foldl (cQ ps) 1->∀t y H',ac H H'->H' t=some (.tup [.non,.ref y])->H' y=some (iP y (.ref G))->Q (.ref t) H')
  (_:∀ys,gY ps ys->¬400<ys.foldl (cQ ps) 1->∀t J U fl H',H' t=some (.tup [.ref J,.non])->H' J=some (.ins j U fl)->aG H' Pt dz dg->Q (.ref t) H'):Ih z C S D j G Pt [.ref h,.str nm] H Q E
theorem Ut(j:Pg K mg base Pt):au P w K mg base aL 11 j.LWi.f j.LWi.fd [auJ,auP] (Ih j.Hc j.C j.S j.D j.Bc j.E9 Pt):=by
 refine j.LWi.u.okL lD ?_;intro av Ar outer s H vs Q E hr h xX dX;obtain @⟨_,_,_,h,a9,x,dx,d,b,sv,fs,bk,xs,ps,ns,t,nm,ch,cs,ow,hW,hD,l3,ok,jN,qT,qS⟩:=h;refine⟨_,(ak (aJ (i:=2) lD.nd rfl (Or.inl rfl) gm)
  (ak (aJ (i:=3) lD.nd rfl (Or.inl rfl) gm)
  (Ag (L8 (i:=4) lD.nd rfl rfl rfl rfl j.R.mM rfl (λXE pn E hp=>am (aJ (i:=3) lD.nd rfl (Or.inl rfl) (Ei (pv 0) j.UH.cl j.HWi.mt (up (apb j)) hr j.HWi.b .nil hp (ao (cx (ao (eE (uT bK (pv 1) (eE dE) gm))))))))
   (λa=>am (aJ (i:=2) lD.nd rfl (Or.inl rfl) (pv 4))))
  (am (ba (eE (aO (pv 3) (pv 2)))))))),?_⟩
 have hh:=bg _ _ hW.ob;refine⟨λσ' H'=>(∃y ys,σ'=[some (.ref h),some (.str nm),some (.ref y),some .non,none]/\gY ps ys/\400<ys.foldl (cQ ps) 1/\ac H H'/\H' y=some (iP y (.ref j.E9)))\/(∃O U fl ys,σ'=[some (.ref h),some (.str nm),some .non,some (.ref O),none]/\gY ps ys/\¬400<ys.foldl (cQ ps) 1/\H' O=some (.ins j.Bc U fl)/\aG H' Pt dz dg),?_,?_⟩
 . refine⟨hh,rfl,AA,λt1 H1 n1 s1 e1=>?_⟩;refine⟨(by show 4<=sizeLine;decide),λt2 H2 n2 G e2=>?_⟩;refine⟨Aq,λt3 H3 n3 s3 e3=>?_⟩;have Y:=s1.trans (G.trans s3);refine⟨hW.same (dL Y),hD.same Y,l3,ok,e3,⟨t2,rfl,t1,.non,s3 _ _ e2,s3 _ _ (G _ _ e1),rfl⟩,jN,λys J z H4 s4=>⟨j.R.et,λy hy=>?_⟩,λys J z O U fl H4 eb tb=>?_⟩
   . have kC:=Y.trans s4;exact⟨.inl ⟨y,ys,rfl,J,z,gt kC (kC.free hy),aw⟩⟩
   exact .inr ⟨O,U,fl,ys,rfl,J,z,eb,tb⟩
 rintro σ' H1 (⟨y,ys,rfl,J,z,s1,hy⟩ | ⟨O,U,fl,ys,rfl,J,z,eb,tb⟩)
 . exact⟨⟨Ax,λt H2 n2 G e2=>qT ys J z t y H2 (s1.trans G) e2 (G _ _ hy)⟩⟩
 exact⟨⟨Ax,λt H2 n2 G e2=>qS ys J z t O U fl H2 e2 (G _ _ eb) (tb.same G)⟩⟩
inductive Uu (j z:Addr):Sp where
 | mk {H:Hp}{Q:VK}{E:XK}{y:Addr}{wide:Bool} (_:H y=some (iP y (.ref (if wide=true then z else j)))) (_:∀H',ac H H'->Q (.bl true) H'):Uu j z [.ref y,.bl wide] H Q E
theorem apI:aM [auZ,avd] [auZ,avd] (aC Ot):=aV
theorem Uv(j:Pg K mg base Pt):au P w K mg base aL 1 j.LOn.f j.LOn.fd [auZ,avd] (Uu j.NU j.E9):=by
 refine j.LOn.u.okL apI ?_;intro U O outer s H vs Q E hr h xX dX;obtain @⟨_,_,_,y,wide,z,q⟩:=h;refine⟨_,(ak (cU (gQ (cW Ma (by rfl) j.B.isinstance rM (aO (pv 0) (eE (hX (iM (v:=.ref j.Fa) rfl j.R.mF rfl) (hX (iM (v:=.ref j.E1) rfl j.R.mE1 rfl) (hX (iM (v:=.ref j.E2) rfl j.R.mE2 rfl) (uT (iM (v:=.ref j.E3) rfl j.R.mE3 rfl) (iM (v:=.ref j.E4) rfl j.R.mE4 rfl) (iM (v:=.ref j.E5) rfl j.R.mE5 rfl) (iM (v:=.ref j.E6) rfl j.R.mE6 rfl)))))))))
  (am (ba mJ)) eU)
  (ak (cU (PW.pt (wn (gQ (cW Ma (by rfl) j.B.isinstance rM (aO (pv 0) (eE (aO (iM (v:=.ref j.E7) rfl j.R.mE7 rfl) (iM (v:=.ref j.E8) rfl j.R.mE8 rfl)))))) (wm (oP (gQ (cW adi (by rfl) j.B.isinstance rM (aO (pv 0) (CV (v:=.ty "ValueError") rfl j.B.verr PyProof.Rows.Boot.«ValueError» rfl))))))))
  (am (ba mJ)) eU)
  (am (ba (qp (je kS (cW L9 (by rfl) j.B.isinstance rM (aO (pv 0) (iM (v:=.ref j.E9) rfl j.R.mE9 rfl))) (pv 1) (cj _)) (mK (je Dd (cW L9 (by rfl) j.B.isinstance rM (aO (pv 0) (iM (v:=.ref j.NU) rfl j.R.mU rfl))) (pv 1) (cj _)))))))),?_⟩
 refine kY ?_;intro Y sS u3 u2;cases wide with
 | true=>
  have z:H y=some (iP y (.ref j.E9)):=z;refine⟨(by show 7<=sizeLine;decide),λt1 H2 n2 J e2=>?_⟩;refine⟨y,j.E9,t1,[j.Fa,j.E1,j.E2,j.E3,j.E4,j.E5,j.E6],false,rfl,J _ _ z,e2,j.R.xt,j.R.k7t,⟨eB ?_⟩⟩;refine⟨Ax,λt3 H3 n3 s3 e3=>?_⟩;have G:=J.trans s3;refine⟨y,j.E9,t3,[j.E7,j.E8],false,rfl,G _ _ z,e3,j.R.xt,j.R.k2t,⟨eB ?_⟩⟩;refine⟨y,j.E9,"ValueError",true,rfl,G _ _ z,j.R.xt,j.R.kVt,⟨eB ?_⟩⟩;refine⟨y,j.E9,j.E9,true,rfl,G _ _ z,j.R.xt,j.R.kTt,⟨rfl,⟨eR ?_⟩⟩⟩;exact⟨y,j.E9,j.NU,false,rfl,G _ _ z,j.R.xt,j.R.kUt,⟨rfl,q _ G⟩⟩
 | false=>
  have z:H y=some (iP y (.ref j.NU)):=z;refine⟨(by show 7<=sizeLine;decide),λt1 H2 n2 J e2=>?_⟩;refine⟨y,j.NU,t1,[j.Fa,j.E1,j.E2,j.E3,j.E4,j.E5,j.E6],false,rfl,J _ _ z,e2,j.R.xu,j.R.k7,⟨eB ?_⟩⟩;refine⟨Ax,λt3 H3 n3 s3 e3=>?_⟩;have G:=J.trans s3;refine⟨y,j.NU,t3,[j.E7,j.E8],false,rfl,G _ _ z,e3,j.R.xu,j.R.k2,⟨eB ?_⟩⟩;refine⟨y,j.NU,"ValueError",true,rfl,G _ _ z,j.R.xu,j.R.kV,⟨eB ?_⟩⟩;refine⟨y,j.NU,j.E9,false,rfl,G _ _ z,j.R.xu,j.R.kTu,⟨rfl,⟨eR ?_⟩⟩⟩;exact⟨y,j.NU,j.NU,true,rfl,G _ _ z,j.R.xu,j.R.kU,⟨rfl,q _ G⟩⟩
def bS:Str:="b"
def jO:Str:="more"
theorem Uw:ft bS:=PR [bS] (by decide +kernel) (by decide) (by decide) (by decide +kernel)
theorem Ii:∀y∈[jO],gU y:=λy z=>by
 rw[bX.mp z];have h:(decide (jO.length<=60) && jO.cps.toList.all λc=>decide (32<=c/\c<=126/\c≠37))=true:=by decide +kernel
 obtain⟨a,b⟩:=oF.mp h;exact⟨cq a,λc j=>cq (eT.mp b c j)⟩
theorem vP:aM [auJ,au2,auS,"_law_fell"] [auJ,au2,auS] (aC Ou):=aV
inductive Ux (z C S D Pt:Addr):Sp where
 | mk {H:Hp}{Q:VK}{E:XK}{h G x dx d b:Addr}{J:V}{m:Int}{fs:Tr}{bk:Bk}{xs:Lv}{ps:Lp}{ns:Ls}{t:Str}{ch:Ch}{cs:Cs}{ow:Ow} (_:HW z C S h G x J xs ps ns (msk [x,d,b,Pt] H)) (_:DU D x dx d b Pt xs ps t ch cs ow fs bk H) (_:bk.length<=300) (_:ow.length<=7) (_:∀q∈ps,bS∉q.fs.map (·.1)) (_:bS∉ow.map (·.1)) (_:m=1\/m=2)
  (_:∀t' aQ aR aI aY j H',Dk 0 D x dx d b none aY j H'->QD D x dx d b .non xs ps t' aQ aR aI j H'->kE j=false->aY.length<=39->bW x d b Pt H H'->aG H' Pt dz dg->Q (.bl true) H'):Ux z C S D Pt [.ref h,.ref x,.int m] H Q E
theorem apJ(j:Pg K mg base Pt):au P w K mg base aL 11 j.LEd.f j.LEd.fd [auJ,au2,auS] (Ux j.Hc j.C j.S j.D Pt):=by
 refine j.LEd.u.okL vP ?_;intro av Ar outer s H vs Q E Y h xX dX;obtain @⟨_,_,_,h,a9,x,dx,d,b,sv,m,fs,bk,xs,ps,ns,t,ch,cs,ow,hW,G,l3,l7,uj,nb,few,q⟩:=h;refine⟨_,(ak (bI (ia (pv 1) j.UD.cl j.DAl.mt (up (BX j)) Y j.DAl.b .nil bY (ao (pv 2))))
  (ak (aJ (i:=3) vP.nd rfl (Or.inl rfl) mJ)
  (Ag (Mr rfl rfl j.R.mF rfl (λXE pn E hp=>am (bI (Ei (pv 0) j.UH.cl j.HEd.mt (up (anA j)) Y j.HEd.b .nil hp (aO bK (cx (ao bK)))))) (λa=>am (aJ (i:=3) vP.nd rfl (Or.inl rfl) mJ)))
  (ak (bI (ia (pv 1) j.UD.cl j.DAl.mt (up (BX j)) Y j.DAl.b .nil bY (ao gm)))
  (am (ba (pv 3))))))),?_⟩
 refine⟨G.dk.ob,rfl,G.dk.ob,?_⟩;have m0:0<=m/\m<=2:=by omega
 have BU:=G.ln;have D1:=G.dk.allow (N':=(fs.length:Int)+m+(bk.length:Int)) (lf':=some m) λm' z=>by cases z;exact⟨m0.1,by omega,Int.le_refl _⟩
 have rq:aG (ae H x (.ins j.D dx (dj d b (lv (some m))))) Pt dz dg:=K75.aG.allow G.dk G.tb;have k1:bW x d b Pt H (ae H x (.ins j.D dx (dj d b (lv (some m))))):=.allow;have W1:=hW.same k1.msk;have F1:DF _ m j.D x dx d b Pt xs ps t ch cs ow fs bk _:=⟨D1,G.la,G.tx,G.tk,G.up,G.fu,G.ln,rq,few,rfl⟩;refine⟨λσ' H'=>∃N t' aQ aR aI aY st,σ'=[some (.ref h),some (.ref x),some (.int m),some (.bl true)]/\Dk N j.D x dx d b (some 0) aY (bk++(dG,t')::dP st) H'/\gA xs ps t' aQ aR aI/\st.length<=10/\bW x d b Pt H H'/\aG H' Pt dz dg,?_,?_⟩
 . refine⟨bg _ _ W1.ob,rfl,Aq,λl H2 n2 s2 e2=>?_⟩;refine⟨W1.same (dL s2),F1.same s2,l3,Uw,(show H2 l=some (.lst ([jO].map V.str)) from e2),Ii,(by show 1<=20;decide),l7,uj,(by intro z;cases z),nb,λt' aY st H' a0 dq l8 k tb=>a0.elim λaQ a1=>a1.elim λaR a2=>a2.elim λaI a3=>a3.elim λr1 a4=>a4.elim λr2 a5=>a5.elim λr3 U=>?_⟩;exact⟨j.R.ex,_,t',aQ,aR,aI,aY,st,rfl,dq,U,l8,k1.trans ((bW.of s2).trans k),tb⟩
 rintro σ' H2 ⟨N,t',aQ,aR,aI,aY,st,rfl,J,U,l8,k2,xv⟩;have O:=J.allow (N':=0) (lf':=none) λ_ z=>nomatch z
 have lb:(bk++(dG,t')::dP st).length<=380:=by
  rw[bD,bq];unfold dP;rw[ah];omega
 refine⟨J.ob,rfl,J.ob,⟨q t' aQ aR aI aY _ _ O ⟨O.ob,O.bo,by rw[SQ];exact Sy _ _ _,U,by rw[SQ];exact nU.snoc G.tk ⟨_,_,_,U⟩,O.bt,lb⟩ (ann _ _ _) (by have:=(J.ps 0 rfl).2.1;omega) (k2.trans .allow) (K75.aG.allow J xv)⟩⟩
inductive Uy (j C S D Pt:Addr):Sp where
 | mk {H:Hp}{Q:VK}{E:XK}{h z x dx d b:Addr}{G:V}{fs:Tr}{bk:Bk}{xs:Lv}{ps:Lp}{ns:Ls}{t:Str}{ch:Ch}{cs:Cs}{ow:Ow} (_:HW j C S h z x G xs ps ns (msk [x,d,b,Pt] H)) (_:DU D x dx d b Pt xs ps t ch cs ow fs bk H) (_:bk.length<=300) (_:ow.length<=7) (_:∀q∈ps,bS∉q.fs.map (·.1))
  (_:∀H',yr D x dx d b Pt xs ps ch cs (bG ow bS ([],[jO])) bk H H'->Q (.bl false) H'):Uy j C S D Pt [.ref h,.ref x,.non] H Q E
theorem apQ(j:Pg K mg base Pt):au P w K mg base aL 11 j.LEd.f j.LEd.fd [auJ,au2,auS] (Uy j.Hc j.C j.S j.D Pt):=by
 refine j.LEd.u.okL vP ?_;intro av Ar outer s H vs Q E U h xX dX;obtain @⟨_,_,_,h,a9,x,dx,d,b,sv,fs,bk,xs,ps,ns,t,ch,cs,ow,hW,J,l3,l7,uj,q⟩:=h;refine⟨_,(ak (bI (ia (pv 1) j.UD.cl j.DAl.mt (up (BX j)) U j.DAl.b .nil bY (ao (pv 2))))
  (ak (aJ (i:=3) vP.nd rfl (Or.inl rfl) mJ)
  (Ag (Mr rfl rfl j.R.mF rfl (λXE pn E hp=>am (bI (ia (pv 0) j.UH.cl j.HEd.mt (up (SM j)) U j.HEd.b .nil bY (aO bK (cx (ao bK)))))) (λa=>am (aJ (i:=3) vP.nd rfl (Or.inl rfl) mJ)))
  (ak (bI (ia (pv 1) j.UD.cl j.DAl.mt (up (BX j)) U j.DAl.b .nil bY (ao gm)))
  (am (ba (pv 3))))))),?_⟩
 refine⟨J.dk.ob,rfl,J.dk.ob,?_⟩;have D1:=J.dk.allow (N':=0) (lf':=none) λ_ z=>nomatch z
 have rq:aG (ae H x (.ins j.D dx (dj d b (lv none)))) Pt dz dg:=K75.aG.allow J.dk J.tb;have k1:bW x d b Pt H (ae H x (.ins j.D dx (dj d b (lv none)))):=.allow;have W1:=hW.same k1.msk;have F1:DU j.D x dx d b Pt xs ps t ch cs ow fs bk _:=⟨D1,J.la,J.tx,J.tk,J.up,J.fu,J.ln,rq⟩;refine⟨λσ' H'=>σ'=[some (.ref h),some (.ref x),some .non,some (.bl false)]/\yr j.D x dx d b Pt xs ps ch cs (bG ow bS ([],[jO])) bk H H',?_,?_⟩
 . refine⟨bg _ _ W1.ob,rfl,Aq,λl H2 n2 s2 e2=>?_⟩;refine⟨W1.same (dL s2),F1.same s2,l3,Uw,(show H2 l=some (.lst ([jO].map V.str)) from e2),Ii,(by show 1<=20;decide),l7,uj,(by intro z;cases z),λH' a2=>a2.elim λt' a3=>a3.elim λaQ a4=>a4.elim λaR a5=>a5.elim λaI a6=>a6.elim λaY a7=>a7.elim λO ab=>ab.elim λr1 al=>al.elim λr2 ap=>ap.elim λr3 a0=>a0.elim λG a1=>a1.elim λY k=>?_⟩;exact⟨rfl,t',aQ,aR,aI,aY,O,r1,r2,r3,G,Y,k1.trans ((bW.of s2).trans k)⟩
 rintro σ' H2 ⟨rfl,t',aQ,aR,aI,aY,O,r1,r2,r3,G,Y,k⟩;have D3:=G.dk.allow (N':=0) (lf':=none) λ_ z=>nomatch z
 exact⟨G.dk.ob,rfl,G.dk.ob,⟨q _ ⟨t',aQ,aR,aI,aY,O,r1,r2,r3,⟨D3,G.la,G.tx,G.tk,G.up,G.fu,G.ln,K75.aG.allow G.dk G.tb⟩,Y,k.trans .allow⟩⟩⟩
def atS:Str:="a"
def yC:Str:="mine"
theorem ap2:ft atS:=PR [atS] (by decide +kernel) (by decide) (by decide) (by decide +kernel)
theorem ap3:∀y∈[yC],gU y:=λy z=>by
 rw[bX.mp z];have h:(decide (yC.length<=60) && yC.cps.toList.all λc=>decide (32<=c/\c<=126/\c≠37))=true:=by decide +kernel
 obtain⟨a,b⟩:=oF.mp h;exact⟨cq a,λc j=>cq (eT.mp b c j)⟩
def ap4(j C S D G z J Pt:Addr):Sp:=λvs H Q E=>Ig j D G vs H Q E\/Ih j C S D z J Pt vs H Q E
theorem ap5(j:Pg K mg base Pt):au P w K mg base aL 11 j.LWi.f j.LWi.fd [auJ,auP] (ap4 j.Hc j.C j.S j.D j.NU j.Bc j.E9 Pt):=
 ⟨λvs H Q E h=>h.elim ((Us (P:=P) (w:=w) j).len vs H Q E) ((Ut (P:=P) (w:=w) j).len vs H Q E),λA o s H args us vs Q E J G z O h=>h.elim (λh=>((Us j).mono (by decide:9<=11)).run A o s H args us vs Q E J G z O h) λh=>(Ut j).run A o s H args us vs Q E J G z O h⟩
inductive yD (K:Fg) (Pt:Addr):Sp where
 | mk {H:Hp}{Q:VK}{E:XK}{a:Addr}{ns:List Int} (_:ag K H a (ns.map V.int)) (_:ns.length<=63) (_:aG H Pt dz dg) (_:∀H',aG H' Pt dz dg->Q (.bl true) H'):yD K Pt [.ref a] H Q E
theorem oj:aM [auD,auS,"_law_shelf_here","_law_width",au2,auJ,"_law_pending","_law_kept","_law_found",auZ] [auD] (aC FO):=aV
theorem ap6(j:Pg K mg base Pt):au P w K mg base aL 13 j.Law.f j.Law.fd [auD] (yD K Pt):=by
 refine j.Law.u.ok oj (λvs H Q E h=>?_) (λav Ar outer s H vs Q E G h=>?_)
 . cases h;rfl
 have hu:=G.units;have Uz:(Ar.deeper (PyProof.Rows.envOfC "law" (aC FO) s.heap.objs.size j.Law.f av)).units+66<cLine:=by have:=G.un;omega
 refine wQ ?_;intros;obtain @⟨_,_,_,a,is,hS,eu,a1,q⟩:=h;refine⟨_,(ak (aJ (i:=1) oj.nd rfl (Or.inl rfl) (cF oR aZ (cF oS (aU (tI j) G rfl (aO (pv 0) aZ)) aZ)))
  (ak (JF (aU (apB j) G rfl (aO (pv 0) (pv 1))) (kR rfl (d8 (a8 (i:=2) oj.nd rfl (Or.inl rfl)) (d8 (a8 (i:=3) oj.nd rfl (Or.inl rfl)) jr))))
  (ak (aJ (i:=4) oj.nd rfl (Or.inl rfl) (YF j.MDIn (up (ajs j)) G rfl j.UD.mgC j.DIn.b .nil bY))
  (ak (aJ (i:=5) oj.nd rfl (Or.inl rfl) (qt j.MHIn (up (amm j)) G rfl j.UH.mgC j.HIn.b .nil bY (aO (pv 2) (pv 4))))
  (ak (bI (ia (pv 5) j.UH.cl j.HEd.mt (up (SM j)) G j.HEd.b .nil bY (aO bK (cx (ao bK)))))
  (ak (bI (ia (pv 5) j.UH.cl j.HCh.mt (up (anG j)) G j.HCh.b .nil bY (aO bK bK)))
  (ak (aJ (i:=6) oj.nd rfl (Or.inl rfl) (je kS (cF oS (cF uK (aU (tI j) G rfl (aO (pv 0) aZ)) aZ) aZ) aZ (cj _)))
  (ak (cU (PW.pt (Jw (gQ (pv 6)) (Jv (oP (gQ (aU (apJ j) G rfl (eZ (pv 5) (pv 4) (cF oR aZ (cF oS (cF uK (aU (tI j) G rfl (aO (pv 0) aZ)) aZ) aZ)))))))))
   (am (ba mJ)) eU)
  (ak (aJ (i:=7) oj.nd rfl (Or.inl rfl) (eE (aO (fF (pv 4) j.UD.cl j.FNo.mt (up (xU j)) G j.FNo.b .nil bY) (fF (pv 4) j.UD.cl j.BNo.mt (up (xV j)) G j.BNo.b .nil bY))))
  (ak (JF (aU (ap5 j) G rfl (aO (pv 5) (aU (PQ j) G rfl (aO (aU (tI j) G rfl (aO (pv 0) aZ)) aZ)))) (kR rfl (d8 (a8 (i:=8) oj.nd rfl (Or.inl rfl)) (d8 (a8 (i:=9) oj.nd rfl (Or.inl rfl)) jr))))
  (ak (cU (gQ (pv 6))
   (am (ba (qp (aU (Uv j) G rfl (aO (pv 9) mJ)) (mK (je (anV Uz) (eE (aO (fF (pv 4) j.UD.cl j.FNo.mt (up (xU j)) G j.FNo.b .nil bY) (fF (pv 4) j.UD.cl j.BNo.mt (up (xV j)) G j.BNo.b .nil bY))) (pv 7) (cj _)))))) eU)
  (ak (cU (eW Df (pv 3) aZ (cj _))
   (am (ba (qp (je zC (pv 9) gm (cj _)) (mK (cW Nz (by rfl) j.B.isinstance rM (aO (pv 8) (iM (v:=.ref j.Oc) rfl j.UB.mgO rfl))))))) eU)
  (ak (cU (PW.pt (wn (oP (gQ (aU (Uv j) G rfl (aO (pv 9) mJ)))) (wm (eW (am4 Uz) (eE (aO (fF (pv 4) j.UD.cl j.FNo.mt (up (xU j)) G j.FNo.b .nil bY) (fF (pv 4) j.UD.cl j.BNo.mt (up (xV j)) G j.BNo.b .nil bY))) (pv 7) (cj _)))))
   (am (ba mJ)) eU)
  (am (ba (qp (WK (aU (apQ j) G rfl (eZ (pv 5) (pv 4) gm))) (mK (je (Lb hu) (zM hu (fF (pv 4) j.UD.cl j.FNo.mt (up (xU j)) G j.FNo.b .nil bY) bK ⟨rfl,rfl,rfl,rfl⟩) (cx (ao bK)) (cj _))))))))))))))))))),?_⟩
 refine acW ?_;intro dD sS LV LW LX LY LZ u9 u8 u7 u6 u5 u4 u3 u2;refine⟨by omega,hS,(by show(0:Int)<3;decide),?_⟩;obtain⟨n,hn⟩:∃n:Nat,3+bZ is 0 % 3=(n:Int):=⟨(3+bZ is 0 % 3).toNat,by omega⟩;have n5:n<=5:=by omega
 have n1:1<=n:=by omega
 refine⟨hS,n5,hn,λtt sh xs H1 s1 e1 Ie bO jN=>?_⟩;refine⟨aP.of e1,rfl,rfl,?_⟩
 try dsimp only[List.set,eg]
 refine anl (Q:=λx H1=>_) λx dx d b H2 nx nd nb s2 BI=>?_
 try dsimp only[List.set,eg]
 refine⟨⟨?_⟩⟩
 try dsimp only[List.set,eg]
 refine anm (Q:=λh H1=>_) λh a9 H3 nh s3 hh=>?_;have rq:aG H1 Pt dz dg:=a1.same s1;have ip:=rq.same (s2.trans s3);have D3:=BI.same s3;have sR:ac (msk [Pt] H1) (msk [x,d,b,Pt] H3):=λq o e=>by
  have e3:=bg q o e;have np:q≠Pt:=λz=>by rw[z,ani]at e;cases e
  refine df (λz=>?_) (s3 _ _ (s2 q o e3));simp only[bc,i7,i8]at z
  rcases z with z | z | z | z
  . rw[z,nx]at e3;cases e3
  . rw[z,nd]at e3;cases e3
  . rw[z,nb]at e3;cases e3
  exact np z
 have a3:∀{v:V}{p:cM},jI j.C H1 v p->jI j.C (msk [Pt] H1) v p:=λz=>z.off λb' hb o eo=>by
  obtain⟨φ,w⟩:=aG.at rq;rw[bX.mp hb,w]at eo;cases eo;exact⟨(by intro _ _ _ z;cases z),(by intro _ z;cases z),(by intro _ z;cases z)⟩
 have ok:=aps (is:=is) (c:=bZ is 1) n5;have ap:=apx (is:=is) (c:=bZ is 1) n5 jN;have e0:(jn (bZ is 1) n).length<=5:=by unfold jn;rw[ah,mE];exact n5
 have e5:∀z∈jn (bZ is 1) n,cm z:=λz hz=>by
  obtain⟨p,hp,rfl⟩:=bf.mp hz;exact jN p (iK.mp hp)
 have W3:jK j.C j.S (msk [x,d,b,Pt] H3) (.ref sh) xs (fm is (bZ is 1) n) (jn (bZ is 1) n):=⟨(fw.off (aG.at rq) Ie).same sR,gW.same sR (aB bO λ_ _=>a3),ap,e0,e5⟩;have GH:=D3.busy ip;have d_:h∉[x,d,b,Pt]:=(BI.busy (rq.same s2)).free nh;have UA:HW j.Hc j.C j.S h a9 x (.ref sh) xs (fm is (bZ is 1) n) (jn (bZ is 1) n) (msk [x,d,b,Pt] H3):=⟨df d_ hh,W3⟩;generalize Cb:fm is (bZ is 1) n=ps at *;generalize eh:jn (bZ is 1) n=ns at *;have uj:∀{z:Str},z.length<=4->∀q∈ps,z∉q.fs.map (·.1):=λhz=>by rw[<-Cb];exact apy hz
 have U3:DU j.D x dx d b Pt xs ps Str.empty [] [] [] [] [] H3:=⟨D3,rfl,BH,tk0,rfl,ana,by decide,ip⟩;refine⟨hh,rfl,Aq,λl4 H4 n4 s4 e4=>?_⟩;refine⟨UA.same (dL s4),U3.same s4,by decide,ap2,(show H4 l4=some (.lst ([yC].map V.str)) from e4),ap3,(by show 1<=20;decide),by decide,uj (by decide +kernel),(by intro z;cases z),λH5 br=>br.elim λt5 bt=>bt.elim λdn bz=>bz.elim λdr bF=>bF.elim λe6 bN=>bN.elim λer c2=>c2.elim λei c3=>c3.elim λr1 c4=>c4.elim λr2 c5=>c5.elim λr3 c7=>c7.elim λU5 c8=>c8.elim λl5 k5=>?_⟩;have Ij:=(UA.same (dL s4)).same k5.msk;have c0:dn=[]:=GR r1;have c1:dr=[]:=GR r2;subst c0 c1;have eO:e6.length=1:=r3.pm.length_eq;refine⟨bg _ _ Ij.ob,rfl,Ij,U5,by rw[gk]at l5;omega,A0 (by decide +kernel),A0 (by decide +kernel),by decide,λH6 c9=>c9.elim λt6 ca=>ca.elim λdp cc=>cc.elim λem ci=>ci.elim λCc ck=>ck.elim λet co=>co.elim λdi cv=>cv.elim λq1 cA=>cA.elim λq2 cB=>cB.elim λq3 az=>az.elim λU6 a'=>a'.elim λl6 k6=>?_⟩;have Cd:=Ij.same k6.msk;have c6:dp=[]:=GR q1;subst c6;have UC:ag K (msk [x,d,b,Pt] H6) a (is.map V.int):=k6.msk.seq (k5.msk.seq ((dL s4).seq (sR.seq ((dL s1).seq (anj (aG.at a1) hS)))));have Ik:ag K H6 a (is.map V.int):=bg.seq UC;have UE:Cc.Perm [(atS,(([]:Ls),[yC]))]:=q3.pm.trans r3.pm;have eP:Cc.length=1:=UE.length_eq;have dV:bS∉Cc.map (·.1):=λz=>by
  have z:=(UE.map (·.1)).mem_iff.mp z;have z:bS=atS:=bX.mp z;exact absurd z (by decide +kernel)
 have b6:di.length<=24:=by rw[gk]at l5;omega
 have aH:fh (bZ is 1) 0∈ps.map cM.nm:=by
  rw[<-Cb];exact B7.mpr (bf.mpr ⟨0,iK.mpr n1,rfl⟩)
 refine⟨by omega,Ik,⟨by omega,by omega⟩,(by show(0:Int)<2;decide),rfl,?_⟩;generalize Bo:decide (V.int (bZ is 0 / 3 % 2)=V.int 1)=pd;cases pd with
 | true=>
  refine⟨⟨eR ?_⟩⟩;refine⟨by omega,Ik,⟨by omega,by omega⟩,(by show(0:Int)<2;decide),Cd,U6,by omega,by omega,uj (by decide +kernel),dV,by omega,λt7 dq dt e7 vF dm H7 J Q7 ef e' k7 nV=>⟨eB ?_⟩⟩;obtain⟨kd,hd,pd⟩:=id J.fi;refine⟨J.ob,rfl,J.ob,hd,pd,J.nd,by omega,λf1 H8 Il dW s8 e8 uk=>?_⟩;have D8:=J.same s8;obtain⟨tb,hb,pb⟩:=id D8.bo;obtain⟨ts,rfl⟩:=SS pb;refine⟨D8.ob,rfl,D8.ob,hb,λg1 H9 dX s9 e9=>?_⟩;refine⟨Ax,λp7 HA nA sA eA=>?_⟩;have yE:=s8.trans (s9.trans sA);have dK:ag K HA a (is.map V.int):=yE.seq (bg.seq (k7.msk.seq UC));refine⟨by omega,dK,⟨λHB lx sB=>?_⟩⟩;have um:=yE.trans sB;have dM:=um _ _ (bg _ _ (k7.msk _ _ Cd.ob));refine .inl ⟨λE hE=>⟨a9,.ref sh,x,dM,⟨dx,d,b,.non,xs,ps,t7,dq,dt,e7,dm,Q7.same um,ef⟩,hE⟩,λt y HC sC eC ey=>?_⟩;refine⟨aP.of eC,rfl,rfl,?_⟩;refine⟨⟨eR ?_⟩⟩;refine⟨(show HC y=_ from ey),λHD sD=>⟨eR ?_⟩⟩;have yF:=um.trans (sC.trans sD);have qa:=(s9.trans sA).trans (sB.trans (sC.trans sD));have O:=J.same yF;obtain⟨dQ,a0,Im⟩:=id O.fi;refine⟨O.ob,rfl,O.ob,a0,Im,O.nd,by omega,λf2 HH Io Iq sH eH yG=>?_⟩;have DH:=O.same sH;have Ir:=sH _ _ (qa _ _ hb);refine⟨DH.ob,rfl,DH.ob,Ir,λg2 HI Iu sI eI=>?_⟩;refine⟨Ax,λpk HJ nk sJ eJ=>?_⟩;have uo:=sI.trans sJ;have U:=sH.trans uo;have uq:=sB.trans (sC.trans sD);obtain⟨kb,x1,x2⟩:=SR (K:=K) (aB uk λ_ _ b0=>b0.elim λY b1=>b1.elim λl b2=>b2.elim λz2 b3=>b3.elim λ_ z3=>(⟨Y,l,z2,U _ _ (qa _ _ z3)⟩:bV HJ _ _)) J.ok (λ_ h=>h) (aB yG λ_ _ b4=>b4.elim λY b5=>b5.elim λl b7=>b7.elim λz2 bd=>bd.elim λ_ z3=>(⟨Y,l,z2,uo _ _ z3⟩:bV HJ _ _));refine⟨pk,p7,f2,f1,g2,g1,Io,kb,Il,ts,rfl,rfl,eJ,U _ _ (uq _ _ eA),(aF (qa _ _ e8) Iq).symm,(aF (sH _ _ ((sA.trans uq) _ _ e9)) Iu).symm,uo _ _ eH,U _ _ (qa _ _ e8),x1,x2,by rw[bh yG,bh uk],?_,sJ _ _ eI,U _ _ ((sA.trans uq) _ _ e9),q HJ (nV.same (yF.trans U))⟩;exact QW (aB uk λ_ _ bj=>bj.elim λY bl=>bl.elim λl bm=>bm.elim λz2 bn=>bn.elim λ_ z3=>(⟨Y,l,z2,z3⟩:bV H8 _ _)) J.nd
 | false=>
  refine⟨⟨eB (eB ?_)⟩⟩;have J:=U6.dk;have BU:=U6.ln;obtain⟨kd,hd,pd⟩:=id J.fi;refine⟨J.ob,rfl,J.ob,hd,pd,J.nd,by omega,λf1 H8 Il dW s8 e8 uk=>?_⟩;have D8:=J.same s8;obtain⟨tb,hb,pb⟩:=id D8.bo;obtain⟨ts,rfl⟩:=SS pb;refine⟨D8.ob,rfl,D8.ob,hb,λg1 H9 dX s9 e9=>?_⟩;refine⟨Ax,λp7 HA nA sA eA=>?_⟩;have yE:=s8.trans (s9.trans sA);refine⟨by omega,yE.seq Ik,⟨λHB lx sB=>?_⟩⟩;have um:=yE.trans sB;have UB:=U6.same um;have a2:=Cd.same (dL um);refine .inr ⟨a2,UB,by omega,ok,aH,λys hN z t y HC sC eC ey=>?_,λys hN z t bb bx fl HC eC eb ee=>?_⟩
  . have wd:400<lB is n:=by rw[<-Cb]at hN z;rw[Ug n5 hN]at z;exact z
    refine⟨aP.of eC,rfl,rfl,?_⟩;refine⟨⟨eB ?_⟩⟩;refine⟨⟨⟨cY (λh=>absurd (cq h) (by omega)) (λ_=>?_)⟩⟩⟩;refine⟨(show HC y=_ from ey),λHD sD=>⟨eB ?_⟩⟩;have yF:=um.trans (sC.trans sD);have qa:=(s9.trans sA).trans (sB.trans (sC.trans sD));have O:=J.same yF;obtain⟨dQ,a0,Im⟩:=id O.fi;refine⟨O.ob,rfl,O.ob,a0,Im,O.nd,by omega,λf2 HH Io Iq sH eH yG=>?_⟩;have DH:=O.same sH;have Ir:=sH _ _ (qa _ _ hb);refine⟨DH.ob,rfl,DH.ob,Ir,λg2 HI Iu sI eI=>?_⟩;refine⟨Ax,λpk HJ nk sJ eJ=>?_⟩;have uo:=sI.trans sJ;have U:=sH.trans uo;have uq:=sB.trans (sC.trans sD);obtain⟨kb,x1,x2⟩:=SR (K:=K) (aB uk λ_ _ a4=>a4.elim λY a5=>a5.elim λl a6=>a6.elim λz2 a7=>a7.elim λ_ z3=>(⟨Y,l,z2,U _ _ (qa _ _ z3)⟩:bV HJ _ _)) J.ok (λ_ h=>h) (aB yG λ_ _ ab=>ab.elim λY al=>al.elim λl ax=>ax.elim λz2 ay=>ay.elim λ_ z3=>(⟨Y,l,z2,uo _ _ z3⟩:bV HJ _ _));refine⟨pk,p7,f2,f1,g2,g1,Io,kb,Il,ts,rfl,rfl,eJ,U _ _ (uq _ _ eA),(aF (qa _ _ e8) Iq).symm,(aF (sH _ _ ((sA.trans uq) _ _ e9)) Iu).symm,uo _ _ eH,U _ _ (qa _ _ e8),x1,x2,by rw[bh yG,bh uk],QW (aB uk λ_ _ cC=>cC.elim λY cN=>cN.elim λl cO=>cO.elim λz2 cP=>cP.elim λ_ z3=>(⟨Y,l,z2,z3⟩:bV H8 _ _)) J.nd,sJ _ _ eI,U _ _ ((sA.trans uq) _ _ e9),⟨eB ?_⟩⟩;have UG:=yF.trans U;refine⟨Cd.same (dL UG),U6.same UG,by omega,by omega,uj (by decide +kernel),λHK cV=>cV.elim λtK c_=>c_.elim λek d0=>d0.elim λen d1=>d1.elim λf4 d2=>d2.elim λUI d4=>d4.elim λej d7=>d7.elim λv1 d9=>d9.elim λv2 da=>da.elim λv3 db=>db.elim λUK dd=>dd.elim λlK kK=>?_⟩;refine⟨⟨eR ?_⟩⟩;have DK:=UK.dk;have eD:=UK.ln;obtain⟨ev,eK,ec⟩:=id DK.fi;refine⟨DK.ob,rfl,DK.ob,eK,ec,DK.nd,by omega,λf3 HL ew eQ sL eL ed=>?_⟩;have Iw:look UI bS=some [jO]:=by
     obtain⟨o0,o1,o2,tr,⟨e_,A8,f0,w1,w2,w3,hT⟩,so,⟨px,be,_,_,ea⟩,e⟩:=UK.fu;obtain⟨_,_,rfl⟩:=hT.uniq UK.tx;have p2:o2.Perm (bG Cc bS ([],[jO])):=w3.pm.symm.trans v3.pm;rw[e,ea,Bw _ _ _ so.ok.d3,akf p2 so.ok.d3,Gr,ai rfl];rfl
    have k9:bS∈UI.map (·.1):=Jm λz=>by rw[fZ.mpr z]at Iw;cases Iw
    obtain⟨v9,dT,dy,d',_,l9,Ix,_,dC⟩:=nu (F:=cJ HK HL) (λkv f z=>z.1) ed k9;have el:dT=[jO]:=by
     have:=tR DK.nd d';rw[Iw]at this;exact(fO this).symm
    have Ix:v9=.ref l9:=Ix;subst el Ix;refine⟨.inl ⟨_,.inl eL⟩,_,cw.k (k:=.inr bS) eL,?_⟩;rw[dy];refine⟨Aq,λez HM nM sM eM=>?_⟩;have UJ:∀y∈[jO],Ln y:=λy hy=>(Ii y hy).ln;refine⟨dS [jO],dS [jO],vI (sM _ _ dC),vI (ls:=[jO]) eM,uS 8 UJ,uS 8 UJ,λbb iV=>?_⟩;rw[iV.mpr rfl];exact q HM ((UK.tb.same sL).same sM)
  have wd:¬400<lB is n:=by rw[<-Cb]at hN z;rw[Ug n5 hN]at z;exact z
  refine⟨aP.of eC,rfl,rfl,?_⟩;refine⟨⟨eB ?_⟩⟩;refine⟨⟨⟨cY (λ_=>?_) (λh=>absurd (bw (by omega)) h)⟩⟩⟩;refine⟨rfl,⟨eR ?_⟩⟩;exact⟨bb,j.Bc,j.Oc,bx,fl,true,rfl,eb,j.UB.cl,j.UB.ii,j.UB.kO,q HC ee⟩
end
end K75
set_option maxHeartbeats 8000000
namespace K75
variable {K:Fg}{h:Heap}{mg:Mv}{p0 p1 p2:Str}
def arx{f c Pt:Addr}{od an:Oa}{sl:Array (Option Value)}{oc kV dc pm ct:Value}(X:K.In h)(G:h.Ns mainGlobals mg)(a:W.nsIn K mainGlobals auQ=some (some (.ref f)))(l:K.lookup f=some ⟨oc,od,.func (W.fnOf auQ auQ (jw lq) (gJ lq) (aC lq) .none kV dc pm an (.ref c) ct),sl⟩)(j:W.codeIn K (.ref c) auQ=true)(k:W.keepIn K (.ref f)=true)(b:Binds K (W.fnOf auQ auQ (jw lq) (gJ lq) (aC lq) .none kV dc pm an (.ref c) ct) [auw,auR,auM] [])(hd:W.codeHdIn K c Pt=true)(z:K.lookup Pt=none):PD K mg Pt:=⟨bH X G a l j k b,c,⟨⟨_,_,_,_,_,_,_,_,rfl,l,j⟩,k⟩,hd,z⟩
theorem iq{n:Nat}{us:Lw}(h:us.length=n+1):∃u r,us=u::r/\r.length=n:=by
 cases us with
 | nil=>cases h
 | cons u r=>exact⟨u,r,rfl,Nat.succ.inj h⟩
theorem bn1(h:∀j:Value,bindArgs fd ⟨[j],[]⟩=pure ([p0].zip [j])):Binds K fd [p0] []:=.all λus e=>by
 obtain⟨j,vs,rfl,z⟩:=iq e;cases CM z;exact h j
theorem bn2(h:∀j z:Value,bindArgs fd ⟨[j,z],[]⟩=pure ([p0,p1].zip [j,z])):Binds K fd [p0,p1] []:=.all λus e=>by
 obtain⟨j,vs,rfl,G⟩:=iq e;obtain⟨z,us,rfl,e1⟩:=iq G;cases CM e1;exact h j z
theorem bn3(h:∀j z G:Value,bindArgs fd ⟨[j,z,G],[]⟩=pure ([p0,p1,p2].zip [j,z,G])):Binds K fd [p0,p1,p2] []:=.all λus e=>by
 obtain⟨j,vs,rfl,J⟩:=iq e;obtain⟨z,us,rfl,e1⟩:=iq J;obtain⟨G,vs,rfl,e2⟩:=iq e1;cases CM e2;exact h j z G
theorem bn4{O:Str}(h:∀j z G J:Value,bindArgs fd ⟨[j,z,G,J],[]⟩=pure ([p0,p1,p2,O].zip [j,z,G,J])):Binds K fd [p0,p1,p2,O] []:=.all λus e=>by
 obtain⟨j,vs,rfl,U⟩:=iq e;obtain⟨z,us,rfl,e1⟩:=iq U;obtain⟨G,vs,rfl,e2⟩:=iq e1;obtain⟨J,us,rfl,e3⟩:=iq e2;cases CM e3;exact h j z G J
theorem bn8{p3 p4 p5 p6 p7:Str}(h:∀j z G J O U Y u7:Value,bindArgs fd ⟨[j,z,G,J,O,U,Y,u7],[]⟩=pure ([p0,p1,p2,p3,p4,p5,p6,p7].zip [j,z,G,J,O,U,Y,u7])):Binds K fd [p0,p1,p2,p3,p4,p5,p6,p7] []:=.all λus e=>by
 obtain⟨j,vs,rfl,e0⟩:=iq e;obtain⟨z,us,rfl,e1⟩:=iq e0;obtain⟨G,vs,rfl,e2⟩:=iq e1;obtain⟨J,us,rfl,e3⟩:=iq e2;obtain⟨O,vs,rfl,e4⟩:=iq e3;obtain⟨U,us,rfl,e5⟩:=iq e4;obtain⟨Y,vs,rfl,e6⟩:=iq e5;obtain⟨u7,us,rfl,e7⟩:=iq e6;cases CM e7;exact h j z G J O U Y u7
theorem arD{j t1 t2:Tok}(X:K.In h)(G:h.Ns mainGlobals mg)(z:W.nsIn K mainGlobals "MOST_LETTERS"=some (some (.int 8 j)))(J:W.nsIn K mainGlobals "MOST_PATH_WORDS"=some (some (.int 4 t1)))(O:W.nsIn K mainGlobals "GREATEST_WIDTH"=some (some (.int 400 t2))):Od mg:=⟨⟨j,i9 X G z⟩,⟨t1,i9 X G J⟩,⟨t2,i9 X G O⟩⟩
theorem arE(X:K.In h)(G:h.Ns mainGlobals mg)(nM:W.nsIn K mainGlobals "MendError"=some (some (.ref M)))(bd:W.nsIn K mainGlobals "Fallen"=some (some (.ref Fa)))(bj:W.nsIn K mainGlobals "NotUp"=some (some (.ref NU)))(b0:W.nsIn K mainGlobals "NoFile"=some (some (.ref E1)))(b1:W.nsIn K mainGlobals "NoFormer"=some (some (.ref E2)))(b2:W.nsIn K mainGlobals "NoName"=some (some (.ref E3)))(b3:W.nsIn K mainGlobals "NoParcel"=some (some (.ref E4)))(b4:W.nsIn K mainGlobals "NoPath"=some (some (.ref E5)))(b5:W.nsIn K mainGlobals "NoRow"=some (some (.ref E6)))(b6:W.nsIn K mainGlobals "NoShelf"=some (some (.ref E7)))(b7:W.nsIn K mainGlobals "NoStand"=some (some (.ref E8)))(bb:W.nsIn K mainGlobals "TooWide"=some (some (.ref E9)))(a5:W.excIn K Fa [.type "ValueError",.type "Exception",.type "BaseException",.type "object"] "ValueError.__new__"=true)(ga:W.findIn K (.ref Fa) "__getattribute__"=some (some (.builtin "BaseException.__getattribute__")))(gh:W.findIn K (.ref Fa) "__getattr__"=some none)(cls:W.findIn K (.ref Fa) "__class__"=some (some (.builtin "object.__class__")))(bl:W.specialIn K (.builtin "object.__class__") "__get__"=some (some (.builtin "getset_descriptor.__get__")))(bm:W.takesIn K (.builtin "object.__class__")=some true)(aH:W.mroIn K Fa (.type "object")=some true)(a':W.mroIn K Fa (.type "BaseException")=some true)(ex:W.exmOne K (.ref Fa) (.ref Fa)=some true)(Y:W.excIn K NU [.type "ValueError",.type "Exception",.type "BaseException",.type "object"] "ValueError.__new__"=true)(a6:W.findIn K (.ref NU) "__getattribute__"=some (some (.builtin "BaseException.__getattribute__")))(a9:W.findIn K (.ref NU) "__getattr__"=some none)(si:W.findIn K (.ref NU) "__class__"=some (some (.builtin "object.__class__")))(a0:W.specialIn K (.builtin "object.__class__") "__get__"=some (some (.builtin "getset_descriptor.__get__")))(a1:W.takesIn K (.builtin "object.__class__")=some true)(a2:W.mroIn K NU (.type "object")=some true)(a3:W.mroIn K NU (.type "BaseException")=some true)(k7:W.kitAny K (.ref NU) [.ref Fa,.ref E1,.ref E2,.ref E3,.ref E4,.ref E5,.ref E6]=some false)(k2:W.kitAny K (.ref NU) [.ref E7,.ref E8]=some false)(a4:W.excIn K E9 [.type "ValueError",.type "Exception",.type "BaseException",.type "object"] "ValueError.__new__"=true)(a7:W.findIn K (.ref E9) "__getattribute__"=some (some (.builtin "BaseException.__getattribute__")))(ab:W.findIn K (.ref E9) "__getattr__"=some none)(j:W.findIn K (.ref E9) "__class__"=some (some (.builtin "object.__class__")))(z:W.specialIn K (.builtin "object.__class__") "__get__"=some (some (.builtin "getset_descriptor.__get__")))(J:W.takesIn K (.builtin "object.__class__")=some true)(O:W.mroIn K E9 (.type "object")=some true)(U:W.mroIn K E9 (.type "BaseException")=some true)(ap:W.kitAny K (.ref E9) [.ref Fa,.ref E1,.ref E2,.ref E3,.ref E4,.ref E5,.ref E6]=some false)(al:W.kitAny K (.ref E9) [.ref E7,.ref E8]=some false)(az:W.kitOne K (.ref E9) (.type "ValueError")=some true)(av:W.kitOne K (.ref E9) (.ref E9)=some true)(ay:W.kitOne K (.ref E9) (.ref NU)=some false)(ax:W.kitOne K (.ref NU) (.ref E9)=some false)(et:W.exmOne K (.ref E9) (.ref M)=some true)(kU:W.kitOne K (.ref NU) (.ref NU)=some true)(kV:W.kitOne K (.ref NU) (.type "ValueError")=some true)(eu:W.exmOne K (.ref NU) (.ref M)=some true):PB K mg M Fa NU E1 E2 E3 E4 E5 E6 E7 E8 E9:=
 ⟨i9 X G nM,i9 X G bd,i9 X G bj,i9 X G b0,i9 X G b1,i9 X G b2,i9 X G b3,i9 X G b4,i9 X G b5,i9 X G b6,i9 X G b7,i9 X G bb,⟨a5,ga,gh,cls,bl,bm,aH,a'⟩,ex,⟨Y,a6,a9,si,a0,a1,a2,a3⟩,k7,k2,⟨a4,a7,ab,j,z,J,O,U⟩,ap,al,az,av,ay,ax,et,kU,kV,eu⟩
theorem ar5{P:Program}{w:World}(z:mg "law"=some (.ref fa))(p:Pq K mg Pt) :
 ∃(fd:Fy) (c:Addr),(∀(s:Shared) (v:Value),BindsTo s fd ⟨[v],[]⟩ [(auD,v)])/\W.codeHdIn K c Pt=true/\K.lookup Pt=none/\∀base:Heap,K.In base->base.Ns mainGlobals mg->base.BuiltinsAt mg Pt->au P w K mg base aL 13 fa fd [auD] (yD K Pt):=by
 cases z.symm.trans p.Law.m;refine⟨p.Law.fd,p.Bes.c,λs v=>?_,p.Bes.hN,p.Bes.hP,λbase _ _ j=>ap6 (⟨p,j⟩:Pg K mg base Pt)⟩;obtain⟨oc,od,kV,J,pm,an,G,ct,O,e,_⟩:=p.Law.u.ex;rw[e];exact .of_eq rfl
theorem ar6{l:W.OpenLaw}{q:Program}{a0:Ls}{J:(Mv)->Heap->Prop}{j:World->Heap->Prop}{d:DefRec}{K:Params->Fg}{Pt:Addr}(hn:l.most=some 63)(wH:d.params.defaults=[])
 (Y:∀(w:World) (h:Heap),j w h->(K w.params).In h/\h.get? Pt=some (W.tabObj #[]))
 (F:∀(w:World) (mg:Mv) (G:Addr) (h:Heap),(K w.params).In h->h.Ns mainGlobals mg->mg d.name=some (.ref G) ->
  ∃(fd:Fy) (c:Addr),(∀(s:Shared) (u:Value),BindsTo s fd ⟨[u],[]⟩ [(auD,u)])/\W.codeHdIn (K w.params) c Pt=true/\(K w.params).lookup Pt=none/\∀base:Heap,(K w.params).In base->base.Ns mainGlobals mg->base.BuiltinsAt mg Pt->au l.prog w (K w.params) mg base aL 13 G fd [auD] (yD (K w.params) Pt)) :
 W.WalkO q a0 J j l.row.toRowW d [] (λf vs=>PySem.call f vs):=
 L2.ago (n:=63) (k:=13) (x:=auD) (b_:=dg) (lpos:=dz) (Pt:=Pt) (CX:=λ_=>aL) (sp:=λw=>yD (K w.params) Pt) hn (by decide) wH ⟨rfl,by decide,by decide,rfl⟩ Y F (λ_ _ a ns hl U O=>⟨O,hl,.inl U,λ_ t=>⟨rfl,t⟩⟩) λ_ _ _ _ _ z=>z
end K75
end
open PySem PySem.W PyProof.Rows
structure PySem.W.Fast where (tw6767841848628341224 tw12620293347526526106 tw13543666498884106005 tw8356129530631565404 tw1493514540085511740 tw6658194957295104745 tw4119438193213083003 tw1059788172091942247 tw17723309723019436280 tw6772266546468234 tw8604277361632147206 tw7369497092752405115 tw16615152963189791621 tw8603743870668329494 tw13445249306598422175 tw1347850868753582123 tw12596185246258000093 tw12363791417378189668 tw13634292402120032225 tw16980354201789108108 tw9835537421143833840 tw17851160739104491915 tw15119114174683613549 tw18410632713289511594 tw4841384726137949763 tw14744428479639012179 tw808475182139126456 tw1212631836829766317 tw12248281818167223641 tw13574486267110745056 tw17893318615729299938 tw2308154377281476685 tw12573292554162438355 tw9314080421541496007 tw2368245073829945734 tw10975250086364592523 tw5480163505975428876 tw16938147434384112620 tw8618421365344218043 tw3920237017148728209 tw3278897862591541118 tw9121734322827761999 tw16342002140840711841 tw1907941565206608331 tw17124024115035565816 tw14991615183768834999 tw16672820719018138508 tw9548845401495507116 tw14903241794399833593 tw13272941664712890970 tw14874121281655392872 tw2284210151877673753 tw5693918490522899719 tw7551078916910277040 tw13633110266059470055 tw3526525269478664956 tw12136174712023720228 tw2182847220419349703 tw9434918993062540947 tw16378925536441688356 tw10203094661494814282 tw8966602589663635679 tw16729592818448375777 tw3589039257659527957 tw8458225888635239444 tw8010922150172205319 tw8838248625498786730 tw108483120985600593 tw16619626431150418819 tw5177797640662096818 tw5556434159486127344 tw9896856751658066225 tw1444251921872202433 tw14505412916539617254 tw16651295010048797293 tw17543777244751757258 tw18400745577636038093 tw9851786905822047378 tw9531747138829297580 tw8113979371209757347 tw8970260120898289874 tw1652420967322792649 tw2922177220279609980 tw6704646538791001101 tw7069807415613054588 tw7143204353560684433 tw15038894821961385050 tw5669498441479842125 tw3181587071236790472 tw14633439388432477336 tw1689667921473391439 tw13222727157876510201 tw3417852774676537616 tw17485090318221755009 tw9464320539338818512 tw1506288738463363108 tw17219360647847564111 tw6116290386392027414 tw942146841036626306 tw10552746466393025935 tw3079180333035811352 tw14537922552405488648 tw9709407907431794934 tw11538465248891336379 tw10338166654115338990 tw1589065909493338200 tw12877989707274855872 tw6226572707869100881 tw2485030147281584681 tw16619250546958629225 tw5169690079254239256 tw13593848335439796505 tw6570507161945064293 tw12348854447364206476 tw9826587222163636491 tw15329114960392593268 tw17767947782618302760 tw8676024354089210904 tw15389659789476989118 tw9708949544089506443 tw9218563273824601204 tw17001880324228698410 tw15466979664275484106 tw17189307185397443582 tw9275734099470049243 tw10890232262902758686 tw1490770075222624971 tw6736379079184412077 tw1729232101213682795 tw15313021404862956762 tw2393028768926951511 tw1292229221080047742 tw13335009369645918136 tw6820896409347382392 tw17823967285633834876 tw3648246415455801837 tw2127427057408568577 tw4188933528703910221 tw17671923104220566925 tw13396184886020007171 tw3621289080422631659 tw3860777357953788070 tw2724612041668094666 tw12621054320690124460 tw9820630733201390708 tw8122493349857707842 tw15783786071788006091 tw12464146640341915351 tw15411311679731241980 tw12206242997632363735 tw2781586110475942488 tw5867153274890361689 tw8706715291942860018 tw17460517740237026278 tw9406120606914907301 tw17274300297798995197 tw15714465338138928852 tw5905011072910143037 tw18330437883461694571 tw2599105127640807491 tw14402014839056741129 tw478515935942725896 tw461214073641739661 tw10808583859902495504 tw9292731739140639068 tw16850526589081526072 tw16648223846829713776 tw13269161202671594875 tw10868969169839201276 tw2617098249600426088 tw15876199225481466657 tw7985825086950315058 tw5832502082529605986 tw8588601525437055685 tw2400240504193050235 tw1145355559025279147 tw1191279858340119100 tw4928813802038936919 tw10679694037252267703 tw2916264121748566930 tw11242466905515929053 tw659974689594992023 tw12619637674096905376 tw11629534138000706085 tw4595769341566069503 tw10725154966404735135 tw14885493932006981466 tw3298435944840858282 tw7550437218658444767 tw8692699032265255251 tw4212566152141237876 tw6194080779357061991 tw7111285582895509202 tw12023183987150331669 tw16960879628644029661 tw17289586177535353627 tw11747375054120942798 tw2055296534326590455 tw11372641249707438209 tw15306008120496294789 tw17837115961614959813 tw5679270552061175787 tw1435258802366654773 tw6852842942348415077 tw12163556751423532236 tw1060508596393144011 tw13553296445542323249 tw7789488970523696246 tw7531505351044895727 tw10109842614491543251 tw9830581202711006733 tw3576403966426699308 tw13582040862837367621 tw15082655119531334332 tw13911351383588652487 tw2345160589156472474 tw7471905247555377884 tw5650473790636946135 tw9730381545973938762 tw8557644744097143502 tw2033429685090849411 tw10869727421831723252 tw17481750474545801644 tw319505629023716493 tw540141805908047713 tw9448465722111467917 tw16970470534902055554 tw14103191462646258580 tw12751836049455287917 tw8254911843824000470 tw843239724842812549 tw7368578173353738282 tw1398648201664248734 tw9000572806312331198 tw18432268361531234848 tw2055111650142451453 tw4034679846053346922 tw13532762802337698113 tw932328557960683710 tw5244303368763629963 tw3896127508433079698 tw2954450284481436374 tw11838570533616033230 tw3375493437876217636 tw2381937518193855511 tw6178094354659211792 tw5050341507977539687 tw5788391449980073549 tw15781220693575413984 tw5445881712850827696 tw16521010462874370696 tw433713356808029797 tw6330043403472060072 tw11880328392894714148 tw1021400618495201253 tw17263900532376322617 tw1599192367996489558 tw13832203421271259170 tw6474352050671319302 tw17251442327108737579 tw12389410738817096930 tw1045747690888140732 tw8261989778890724544 tw12470766560752743040 tw8324881539473453006 tw15230730826870851024 tw10747126697344024202 tw520741556707348696 tw14918506628861396494 tw16626816338699603925 tw12847540061210229196 tw5726213699867864626 tw12186751921841176380 tw6708823407212055826 tw10171729988600338415 tw15749247504705736272 tw17041785407881226360 tw16694309180057751028 tw16494046682536738607 tw6668084295112360586 tw9365648703097661566 tw78589688382125835 tw5298285361898725273 tw812480268430339691 tw7904428983356006415 tw237527755063125772 tw5021907727067613119 tw11372848067425503846 tw12097431442900316422 tw15006100035034286971 tw7469218282593309428 tw511177553939086266 tw481309123277183799 tw14728226575893560648 tw7808662753417991897 tw17966696595147548790 tw16813761076442973752 tw14811357786299636948 tw15717766548895557210 tw12449967158195241848 tw6645124019778253295 tw16324828672385827660 tw16074557364986101101 tw7341331577633758335 tw2234958753018354058 tw16966958033123603326 tw8397062379480104806 tw5924888326021503406 tw48663173305723014 tw4494827594013385124 tw9455123658270450047 tw6790471282430785927 tw446295873407404140 tw17544959786409249886 tw13194985062555385276 tw4369236066723301151 tw16023054171297343643 tw3606158523507567344 tw10330512868901810804 tw9605890882856425897 tw3412182430373292495 tw2292723118905387379 tw5321535228951861989 tw3518356387226661542 tw12316411766848283711 tw7710074158736834547 tw6226267713702310511 tw9647671778562192849 tw9494052186821933412 tw8960289497981045390 tw7156386755350803982 tw3369596004025566450 tw13954719555752582838 tw7485599137155961661 tw13334195502649079190 tw9420181175000355192 tw1947983699324116329 tw9608210487771937206 tw3003524615252655425 tw1353802669392804876 tw7180469890878105320 tw1142377176793133457 tw12768520698718703834 tw2912901540964735931 tw13792156863907844198 tw6904316094823720929 tw6637240445457922401 tw6380845041278593865 tw476185927395342741 tw4017285152386592235 tw16496185048407805202 tw11786117625478053722 tw8892360066092181758 tw6358752097106991400 tw8154705457275333050 tw6545027632779317552 tw11140798116583996524 tw5022696277028369198 tw10798646170051292172 tw7302575858965101946 tw8998706501869655017 tw11654818852330153021 tw5769624991475765485 tw3224376450221125353 tw15425057986351671952 tw10705600037400169325 tw5389821012005844776 tw9793882396006633662 tw13027970248827129752 tw752337726185330200 tw18441868792431109915 tw15581010795391025323 tw15459520721914304116 tw8772485367954766012 tw8174264649991806664 tw1370431619104973000 tw7196549858545702109 tw6315990114209356701 tw17189734047339952929 tw12347382097210921505 tw15680797624801367466 tw5633711643322115458 tw16287770726979631229 tw322939788957432175 tw17138775654057300442 tw16004067122988725393 tw8919029044976749086 tw8061687078116591559 tw2884363709189586005 tw17558962143222276976 tw16892830687866237951 tw12483966090110133687 tw11333537261490406939 tw10520041412157807885 tw3439335833958042409 tw8855106001716095128 tw2292498491243131904 tw9241379561853482948 tw8769178390613013720 tw874907588556425780 tw5607185106933495408 tw13036660058604458351 tw9181369946967617720 tw17204600966063498668 tw4920283778570949517 tw11676600809222700647 tw13955523241153023156 tw2705774595053005483 tw2352322034059379419 tw8670421387968331366 tw8287064506500047686 tw16726836932907687464 tw16557109256496715397 tw18138688195185783264 tw13793229085510970828 tw6267344887487240439 tw6238380314446968914 tw5340697951709473403 tw7217542815120034899 tw1118262561782785808 tw16349054044148842429 tw7249379966383752232 tw4806860611165012845 tw17871854762204403275 tw15831313029410886212 tw15078416074725013521 tw11324314297263833259 tw3557570984241010030 tw4612396819088091108 tw6441033905506541170 tw9603137626255672019 tw5209226353335828858 tw2211287329665828222 tw17776964467737872621 tw8454102346843374546 tw7702333830624039484 tw2293063914022828608 tw14785862408178191433 tw15294875724126921401 tw15048611775475728933 tw14973550021762418532 tw9161619649605547915 tw15115244376194392481 tw13700403458456015238 tw10272165437759004901 tw4813102070892384677 tw16027338504646801570 tw3451308279735943799 tw15014290856465399903 tw3475632887683131980 tw1916570287227973076 tw13373609415402114782 tw1623073657198970697 tw13380836040887236680 tw5297028481553076417 tw4986922965247985376 tw4748497339611927416 tw4514384853802222221 tw3324640647330320250 tw2101241345581838753 tw16311892008394939168 tw15412900869596613813 tw14903489930085658170 tw14861854801415650427 tw14583285156418537252 tw14486461389950051309 tw12828156476299196288 tw12031688751104323428 tw11784466351089888964 tw11094928391172460475 tw10810667114919559816 tw10378064615293669166 tw5387970700438288084 tw13979039932994111878 tw10209965756374432443 tw10731713296703127892 tw17485130369781038235 tw16016694909902698462 tw14494898314764001105 tw16067511982318146575 tw9304259464777169119 tw4936080783779464957 tw182125882684694878 tw12540327234855032144 tw1819059179287704194:True)
def PySem.W.Fast.tw4322850530336880554:PySem.Program:=PySem.Challenge.pw_parcelmend_k75_too_wide_a_shelf
set_option maxRecDepth 100000 in
set_option maxHeartbeats 0 in
theorem PySem.Challenge.cw_parcelmend_k75_too_wide_a_shelf_holds : PySem.Challenge.rw_parcelmend_k75_too_wide_a_shelf.Holds := by
 w_on;o_law;k_head;(case hw=>w_witness2)
 k_fill
 refine K75.ar6 (l:=PySem.Challenge.rw_parcelmend_k75_too_wide_a_shelf) rfl rfl (λw h Y=>⟨PySem.W.km_in_of Y,PySem.W.km_tabs_of Y _ bA⟩) ?F
 case F=>
  intro w mg fa h KX G wI
  refine' K75.ar5 wI (K75.Pq.mk ⟨?_,?_,?_,?_,?_,?_,?_,?_,?_,?_,?_,?_,?_,?_,?_,?_,?_⟩ (K75.arD KX G ..) _ _ _ _ _ _ _ ⟨?_,⟨?_,?_,?_,?_⟩,?_,?_,?_,?_,?_,?_,?_,?_,?_⟩ ⟨?_,⟨?_,?_,?_,?_⟩,?_,?_,?_⟩ ⟨?_,⟨?_,?_,?_,?_⟩,?_,?_,?_,?_,?_⟩ ⟨?_,⟨?_,?_,?_,?_⟩,?_,?_,?_,?_,?_⟩ ⟨?_,⟨?_,?_,?_,?_⟩,?_,?_,?_,?_⟩ ⟨?_,⟨?_,?_,?_,?_⟩,?_,?_,?_,?_,?_,?_,⟨?_,?_,?_,?_⟩⟩ (L2.fY ..) (L2.fY ..) (L2.fY ..) (L2.fY ..) (L2.fY ..) (L2.fY ..) (L2.fY ..) (L2.fY ..) (L2.fY ..) (L2.fY ..) (L2.fY ..) (L2.fY ..) (L2.fY ..) (L2.fY ..) (L2.fY ..) (L2.fY ..) (L2.fY ..) (L2.fY ..) (L2.fY ..) (L2.fY ..) (L2.fY ..) (L2.fY ..) (L2.fY ..) (L2.bH KX G ..) (L2.bH KX G ..) (L2.bH KX G ..) (L2.bH KX G ..) (L2.bH KX G ..) (L2.bH KX G ..) (L2.bH KX G ..) (L2.bH KX G ..) (L2.bH KX G ..) (L2.bH KX G ..) (L2.bH KX G ..) (L2.bH KX G ..) (L2.bH KX G ..) (L2.bH KX G ..) (L2.bH KX G ..) (L2.bH KX G ..) (K75.arx KX G ..) (L2.bH KX G ..) (L2.bH KX G ..) (L2.bH KX G ..) (L2.bH KX G ..) (L2.bH KX G ..) (L2.bH KX G ..) (L2.bH KX G ..) (L2.bH KX G ..) (L2.bH KX G ..) (L2.bH KX G ..) (L2.bH KX G ..) (L2.bH KX G ..) (L2.bH KX G ..) (L2.bH KX G ..) (L2.bH KX G ..) (L2.bH KX G ..) (L2.bH KX G ..) (L2.bH KX G ..) (L2.bH KX G ..) (L2.bH KX G ..) (L2.bH KX G ..) (L2.bH KX G ..) (L2.bH KX G ..) (L2.bH KX G ..) (L2.bH KX G ..) (L2.bH KX G ..) (L2.bH KX G ..) (L2.bH KX G ..) (L2.bH KX G ..) (L2.bH KX G ..) (L2.bH KX G ..) (L2.bH KX G ..) (L2.bH KX G ..) (L2.bH KX G ..) (L2.bH KX G ..) _ _ _ _ _ _ _ _ _ _ _ _ (K75.arE KX G ..))
  all_goals try first | exact K75.bn1 (λ_=>rfl) | exact K75.bn2 (λ_ _=>rfl) | exact K75.bn3 (λ_ _ _=>rfl) | exact K75.bn4 (λ_ _ _ _=>rfl) | exact K75.bn8 (λ_ _ _ _ _ _ _ _=>rfl) | k_is | (refine i9 KX G ?_;k_is) | (refine PySem.W.mg_none_of KX G ?_;k_is) | (unfold L2.fE;k_is) | k_exc | kts_exm | kit_is | kernel_rfl
