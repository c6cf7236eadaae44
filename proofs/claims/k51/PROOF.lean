import PyProof.Rows.All
import Wide.All
import OpenK.AllK
import Wide.FinOn
import Lean
import PyProof.EqAt
import PyProof.EqKinds
import PyProof.TupleCall
import KE.KRevSl
import KE.KDictSum
import KE.KEqDict
import PyProof.P3Eq
import KE.KTryMore
import KE.KSortTup
import PyProof.NeKinds
import KE.KLam
import PyProof.SetRoads
import KE.KIntText
import PyProof.DictValues
import PyProof.DictWalks
import KE.KItemsList
import PyProof.Toks
import PyProof.StrReplace2
import PyProof.StrLawsFirst
import KE.KMinKey
import PyProof.Rows.SortRuns
import PyProof.AttrMissHeap
import KE.KDictOf
import PySem.Challenge.RW_parcelmend_k51_groups
import KE.RegKIsAll
import KE.RegKTryMore
noncomputable section
set_option Elab.async false
set_option linter.all false
set_option genInjectivity false
set_option genSizeOf false
set_option genSizeOfSpec false
set_option maxRecDepth 100000
section
open PyProof PyProof.Rows PySem PySem.AutoSeq1 PySem.Builtin PySem.Builtin.Getset_descriptor PySem.Builtin.ObjectAttr PySem.Builtin.Str PySem.Calls PySem.MeetsSeq PySem.MeetsSeq2 PySem.MeetsSeq3 PySem.SeqAt PySem.Spec PySem.W
def ac:=@wpAny_bind
def af:=@if_neg
def ai:=@if_pos
def aj:=@wpAny_pure
def ao:=@wpS_bind
def aq:=@wpS_pure
def av:=@Nat.le_refl
def aw:=@List.length_map
def aL:=@decide_eq_true
def aT:=@Heap.lt_size
def aU:=@decide_eq_false
def bf:=@List.length_append
def bg:=@Heap.get?_push_of_some
def bh:=@List.mem_cons
def bn:=@Nat.le_trans
def bu:=@List.length_cons
def bB:=@Bool.false_ne_true
def bC:=@List.mem_map
def bD:=@List.mem_singleton
def bH:=@Nat.ne_of_lt
def bT:=@List.getElem?_map
def bZ:=@List.getElem?_eq_some_iff
def b0:=@of_decide_eq_true
def b9:=@List.map_cons
def ca:=@List.take_length
def cj:=@Nat.zero_le
def cK:=@Array.length_toList
def cS:=@List.mem_cons_self
def cT:=@List.mem_cons_of_mem
def cU:=@List.mem_append
def cW:=@List.append_assoc
def df:=@wpAny_mono
def dv:=@Heap.get?_push_size
def dw:=@List.mem_of_getElem?
def dC:=@List.mem_filter
def dE:=@List.length_take
def dQ:=@Ne.symm
def eJ:=@List.getElem?_eq_getElem
def eK:=@wpS_mono
def eM:=@wpS_forRange
def eN:=@PassesOwn.never
def eS:=@List.mem_append_right
def fq:=@Sum.inr.inj
def ft:=@List.append_nil
def fu:=@wpAny_holding
def fw:=@Nat.lt_of_lt_of_le
def fQ:=@congrArg
def fR:=@Bool.eq_false_iff
def fX:=@List.size_toArray
def gk:=@beq_eq_false_iff_ne
def gn:=@Option.some.inj
def gr:=@List.all_eq_true
def gt:=@wpAny_setState_of
def gJ:=@wpAny_rule
def gK:=@Nat.le_of_lt
def gL:=@List.map_append
def gM:=@plainId_quiet
def gN:=@codeAny_builtin
def gO:=@Array.toList_append
def ii:=@if_false
def ij:=@beq_iff_eq
def ik:=@List.lookup_cons
def il:=@Around.under_plainId
def im:=@PySem.W.mg_none_of
def iI:=@sizeLine_eq
def iJ:=@List.length_singleton
def iK:=@List.length_filter_le
def jd:=@Bool.false_eq_true
def je:=@List.length_nil
def jf:=@wpS_modify
def jg:=@PySem.boot_len
def jF:=@Nat.ne_of_gt
def jG:=@List.nodup_cons
def jH:=@Option.map_some
def jI:=@List.length_eq_zero_iff
def jJ:=@wpS_get
def j8:=@Nat.lt_irrefl
def j9:=@Bool.and_eq_true
def kf:=@Heap.SameBut.update
def kh:=@plain_eq_loop
def ki:=@List.take_append_drop
def kj:=@PyProof.Rows.boot_list
def km:=@PySem.F.plainAttrs_list
def lm:=@wpAny_isInstance
def lq:=@List.zip_cons_cons
def lr:=@List.mem_range
def lu:=@Heap.size_push
def lw:=@PySem.W.kia_one
def lx:=@List.nodup_nil
def ly:=@Array.getElem?_toList
def lA:=@Array.getD_eq_getD_getElem?
def lB:=@List.flatMap_cons
def mE:=@wpAny_call_entry
def mF:=@wpAny_forIn_list
def mG:=@Bool.false_and
def mH:=@Bool.and_false
def mI:=@wpAny_askSetting
def mJ:=@List.perm_append_comm
def mK:=@List.getElem?_of_mem
def oO:=@List.mem_append_left
def oP:=@codeAny_mono
def oQ:=@Bool.true_and
def oR:=@List.mem_map_of_mem
def oS:=@List.length_range
def oU:=@Array.getElem?_eq_getElem
def oV:=@List.Perm.append_left
def qK:=@wpAny_truthy_bool
def qL:=@wpAny_seqItems
def qM:=@PySem.mem_of_lookup
def qN:=@List.getElem?_append_right
def qO:=@List.any_eq_true
def qQ:=@Nat.not_lt_zero
def qR:=@List.getD_eq_getElem?_getD
def qS:=@Array.toList_push
def qT:=@PySem.F.called_set
def qU:=@List.pairwise_map
def qV:=@wpS_lift
def qW:=@Classical.byContradiction
def sU:=@Nat.add_assoc
def sV:=@Bool.not_true
def sW:=@if_true
def sX:=@wpAny_passesOwn
def sY:=@Nat.lt_succ_self
def sZ:=@Nat.le_succ
def tj:=@List.any_cons
def tq:=@List.filter_cons
def tu:=@Nat.lt_trans
def tw:=@call_meetsIn
def tz:=@wpAny_newList
def tD:=@fits_of_scanBound
def tE:=@List.Perm.refl
def tF:=@wpAny_tryCatch
def tG:=@List.foldl_append
def tH:=@PySem.F.plain_max_loop
def tI:=@PyProof.Rows.boot_sorted
def wp:=@wpAny_specialOf
def wq:=@Nat.le_of_eq
def wt:=@List.find?_cons
def wu:=@Nat.le_of_not_lt
def wv:=@beq_self_eq_true
def ww:=@wpAny_newObj_type
def wx:=@wpAny_typeOf
def wy:=@Nat.mod_lt
def wz:=@List.nodup_append
def wA:=@wpAny_storeSet_of
def wB:=@PySem.W.kat_nil
def wC:=@listUpdate_at
def wD:=@seqEpoch_at
def wE:=@entry_eq_loop
def wF:=@List.filter_sublist
def wG:=@PySem.F.slot_list_append
def wH:=@PySem.F.type_list_append
def wI:=@PySem.F.slot_list_extend
def wJ:=@PySem.F.type_list_extend
def wK:=@List.append_eq_nil_iff
def wL:=@List.exists_mem_of_ne_nil
def wM:=@List.filter_eq_nil_iff
def wN:=@PyProof.Rows.boot_dict
def wO:=@List.take_zero
def Ag:=@Calls.spliced_cons
def Ah:=@wpAny_Call_Name_kw
def Ai:=@richCompare_meets_room
def Aj:=@List.map_nil
def Ak:=@Calls.callWith_builtin
def Al:=@Heap.get?_update_other
def Am:=@Bool.false_or
def An:=@List.cons_append
def Ao:=@Nat.lt_succ_of_lt
def Ap:=@Nat.add_zero
def Aq:=@Nat.zero_add
def Ar:=@Nat.succ_pos
def As:=@List.foldl_cons
def Au:=@List.getElem_mem
def Aw:=@Heap.get?_update_self
def Ax:=@Heap.SameBut.refl
def Ay:=@Nat.pos_of_ne_zero
def Az:=@List.not_mem_nil
def AA:=@or_false
def AB:=@wpAny_updateSeq
def AC:=@List.not_lt
def AD:=@Nat.not_lt
def AE:=@Array.toList_extract
def AF:=@List.take_of_length_le
def AG:=@List.mem_flatMap
def AH:=@List.pairwise_singleton
def Ft:=@F.slot_tuple_hash
def Fu:=@List.cons.injEq
def Fv:=@F.slot_tuple_eq
def Fw:=@Paired.length
def Fx:=@List.filterMap_cons
def Fz:=@wpAny_execs_nil
def FA:=@wpAny_pyIter_list
def FC:=@PyProof.Rows.callWith_type1
def FD:=@Bool.eq_iff_iff
def FE:=@List.any_eq_false
def FF:=@Calls.spliced_nil
def FG:=@wpAny_call
def FH:=@List.of_mem_zip
def FI:=@Option.isSome_iff_exists
def FJ:=@List.getElem?_append_left
def FK:=@AutoSeq1.sub_tuple_tuple
def FL:=@List.zip_nil_left
def FM:=@List.zip_nil_right
def FN:=@Int.toNat_natCast
def FO:=@Bool.or_false
def FP:=@Calls.evalArgs_plain
def FQ:=@PySem.F.slot_dict_pop
def FR:=@PySem.F.plainAttrs_dict
def FS:=@Nat.lt_of_le_of_lt
def FT:=@PySem.W.kqd_eqv
def FU:=@PySem.W.mg_of
def FV:=@Calls.call_function_entry
def FW:=@kind_sorted
def FX:=@plain_sorted
def FY:=@entry_sorted
def FZ:=@args_sorted1
def F0:=@slot_list_sort
def F1:=@entry_list_sort
def F2:=@args_list_sort
def F3:=@sortedHeap_at
def F4:=@Array.toArray_toList
def F5:=@sortedHeap_old
def F6:=@wpAny_ite_split
def F7:=@List.drop_drop
def F8:=@Array.getElem?_eq_none
def F9:=@Obj.data_mapFields
def Ga:=@Walks.list
def Gb:=@List.take_add_one
def Gc:=@List.lt_irrefl
def Gd:=@PySem.W.kat_cons
def Ge:=@PySem.W.kat_go
def Gf:=@PySem.W.kat_yes
def Gg:=@PySem.W.kat_no
def Gh:=@decide_eq_decide
def Gi:=@PySem.W.kat_one
def Gj:=@get?_update_seq
def Gk:=@Heap.get?_update_ne
def Gm:=@Array.toList_zip
def Go:=@bne_self_eq_false
def Gp:=@Nat.succ_mul
def Gq:=@Nat.sub_self
def Gr:=@Array.size_setIfInBounds
def Gs:=@wpAny_letGo
def Gu:=@List.map_map
def Gv:=@Nat.mul_le_mul_right
def Gw:=@Nat.succ_le_succ
def Gx:=@List.getElem?_inj
def Gy:=@List.eq_nil_of_length_eq_zero
def Gz:=@PyProof.Rows.boot_set
def GA:=@decide_eq_true_iff
def GB:=@List.pairwise_append
def GC:=@List.sum_cons
def GD:=@Nat.mul_succ
def Oj:=@wpAny_eqBool_int
def Ol:=@wpAny_tupleItemsOf
def Om:=@Array.forIn_toList
def Oo:=@isSubtype_tuple_tuple
def Op:=@wpAny_richCompare_same_room
def Oq:=@Heap.get?_none_of_le
def Ot:=@List.getElem_inj
def Ou:=@wpAny_execs_cons
def Ov:=@PySem.W.plainGet_of
def Ow:=@PySem.W.callWith_K
def Ox:=@wpAny_standAt
def Oy:=@List.length_replicate
def Oz:=@List.all_cons
def OA:=@Option.isSome_map
def OB:=@PySem.F.slot_dict_get
def OC:=@wpAny_Call_method
def OD:=@StrsAre.length
def OE:=@typeLookup_type
def OF:=@builtinLookup_eq_fast
def OG:=@isSubtype_type
def OH:=@entryFor_alias
def OI:=@Nat.pow_succ
def OJ:=@List.mem_iff_getElem
def OK:=@Array.toList_setIfInBounds
def OL:=@List.range_succ
def OM:=@List.getElem?_eq_none
def ON:=@wpAny_setField
def OO:=@wpAny_newTuple
def OP:=@Bool.and_self
def OQ:=@List.length_pos_of_mem
def OR:=@sub_set_self
def OS:=@PyProof.Rows.F.plain_set_update_loop
def OT:=@wpAny_dictEntries
def OU:=@List.le_antisymm
def OV:=@Array.perm_iff_toList_perm
def OW:=@List.lt_trans
def OX:=@List.pairwise_iff_getElem
def OY:=@Array.toList_inj
def OZ:=@Array.toList_map
def O0:=@List.map_snd_zip
def O1:=@Nat.mul_le_mul
def O2:=@AutoSeq1.sub_list_list
def O3:=@getElem?_pos
def O4:=@Array.toList_reverse
def O5:=@List.reverse_perm
def O6:=@F.slot_list_getattribute
def O7:=@PySem.F.entry_max_loop
def O8:=@List.flatMap_append
def O9:=@List.Nodup.sublist
def Pa:=@List.pairwise_flatMap
def Pb:=@List.flatMap_eq_nil_iff
def Pc:=@List.perm_ext_iff_of_nodup
def Pd:=@List.getElem?_take
def Pe:=@Bool.and_eq_true_iff
def Pf:=@List.pairwise_cons
def Pg:=@List.map_eq_nil_iff
def Ph:=@Nat.pow_le_pow_right
def ajm:=@List.getElem?_set_self
def ajn:=@Calls.Name_function_global
def ajo:=@wpAny_isTrue_Compare1
def ajp:=@wpAny_pyNext_list_item
def ajq:=@wpAny_pyNext_list_end
def ajr:=@PySem.W.cellsFrom_some
def ajs:=@List.getElem?_replicate
def ajt:=@PySem.F.slot_tuple_lt
def aju:=@PySem.F.entry_tuple_lt
def ajv:=@PySem.F.args_tuple_lt_2
def ajw:=@subscriptTail_builtinR
def ajx:=@PySem.F.args_dict_pop_3
def ajy:=@PySem.F.entry_dict_pop
def ajz:=@PySem.F.slot_dict_clear
def ajA:=@PySem.F.entry_dict_get
def ajB:=@PySem.F.args_dict_get_2
def ajC:=@PySem.F.type_dict_pop
def ajD:=@wpAny_comprehension_free
def ajE:=@List.length_eraseIdx_of_lt
def ajF:=@Obj.isFreed_of_fields
def ajG:=@PySem.F.slot_set_iter
def ajH:=@filterMap_getElem?_range
def ajI:=@PySem.F.plain_extend_loop
def ajJ:=@PySem.F.plain_list_iadd
def ajK:=@List.length_erase_of_mem
def ajL:=@PySem.F.plain_set_new
def ajM:=@PyProof.Rows.F.entry_set_update_loop
def ajN:=@List.drop_eq_getElem_cons
def ajO:=@List.take_succ_eq_append_getElem
def ajP:=@List.drop_of_length_le
def ajQ:=@List.getElem_cons_drop
def ajR:=@Array.eraseIdxIfInBounds_eq
def ajS:=@List.getElem?_toArray
def ajT:=@PyProof.Rows.ltCps_eq
def ajU:=@List.Perm.eq_of_pairwise
def ajV:=@List.getLast?_eq_none_iff
def ajW:=@List.getLast?_eq_some_iff
def ajX:=@List.pairwise_iff_forall_sublist
def ajY:=@PyProof.Rows.boot_isinstance
end
abbrev Fg:=PySem.W.Frag
abbrev VP:=PySem.Value->PySem.Shared->Prop
abbrev Po:=List (PySem.Addr×PySem.Obj)
abbrev Mv:=PySem.Str->Option PySem.Value
abbrev Oi:=Option (List Int)
abbrev Ll:=List (List Int)
abbrev Ls:=List PySem.Str
abbrev Lw:=List PySem.Value
abbrev Av:=Array PySem.Value
abbrev Oa:=Option PySem.Addr
abbrev Fy:=PySem.FuncData
namespace L2
open PySem PySem.Spec PyProof.Rows
abbrev aF:=Sum Int Str
def mL:aF->Value->Bool
 | .inl k,v=>Value.isInt k v
 | .inr x,v=>Value.isStrOf x v
def jK(w:World):aF->Int
 | .inl k=>hashInt k
 | .inr x=>hashStr w x
theorem io:∀{k:aF} {v:Value},mL k v=true->(∃i t,k=Sum.inl i/\v=Value.int i t)\/(∃x t,k=Sum.inr x/\v=Value.str x t)
 | .inl i,v,h=>by
  obtain⟨t,e⟩:=Value.isInt_shape (k:=i) (v:=v) h;exact .inl ⟨i,t,rfl,e⟩
 | .inr x,v,h=>by
  obtain⟨t,e⟩:=Value.isStrOf_shape (x:=x) (v:=v) h;exact .inr ⟨x,t,rfl,e⟩
theorem Pj(i:Int)(t:Tok):mL (.inl i) (.int i t)=true:=by simp[mL,Value.isInt]
theorem Pk(x:Str)(t:Tok):mL (.inr x) (.str x t)=true:=by simp[mL,Value.isStrOf]
theorem Pm(a b:Int):decide ((Sum.inl a:aF)=Sum.inl b)=(a == b):=by
 by_cases e:a=b
 . subst e;simp
 . have h:¬(Sum.inl a:aF)=Sum.inl b:=fun q=>e (Sum.inl.inj q);rw[aU h];exact(gk.mpr e).symm
theorem Pn(a b:Str):decide ((Sum.inr a:aF)=Sum.inr b)=decide (a=b):=by
 by_cases e:a=b
 . subst e;simp
 . have h:¬(Sum.inr a:aF)=Sum.inr b:=fun q=>e (fq q);rw[aU h,aU e]
theorem Pq(a:Int)(b:Str):decide ((Sum.inl a:aF)=Sum.inr b)=false:=aU (fun q=>nomatch q)
theorem Ps(a:Str)(b:Int):decide ((Sum.inr a:aF)=Sum.inl b)=false:=aU (fun q=>nomatch q)
def bM(prog:Program)(w:World):PySem.KeyKind prog w aF where
 is:=mL
 hash:=jK w
 inj:=fun v a b ha hb=>by
  rcases io ha with⟨i,t,rfl,rfl⟩ | ⟨x,t,rfl,rfl⟩
  . rcases io hb with⟨j,u,rfl,e⟩ | ⟨y,u,rfl,e⟩
    . injection e with e1 _;rw[e1]
    . exact nomatch e
  . rcases io hb with⟨j,u,rfl,e⟩ | ⟨y,u,rfl,e⟩
    . exact nomatch e
    . injection e with e1 _;rw[e1]
 byValue:=fun k v h=>by
  rcases io h with⟨i,t,rfl,rfl⟩ | ⟨x,t,rfl,rfl⟩<;>rfl
 pyHash:=fun hv h=>by
  rcases io hv with⟨i,t,rfl,rfl⟩ | ⟨x,t,rfl,rfl⟩
  . exact wpAny_pyHash_int h
  . exact wpAny_pyHash_str h
 eqBool:=fun hu hv h=>by
  rcases io hu with⟨i,t,rfl,rfl⟩ | ⟨x,t,rfl,rfl⟩
  . rcases io hv with⟨j,u,rfl,rfl⟩ | ⟨y,u,rfl,rfl⟩
    . rw[Pm]at h;exact Oj h
    . rw[Pq]at h;exact SeqAt.EqAt.int_str i t y u _ _ _ _ h
  . rcases io hv with⟨j,u,rfl,rfl⟩ | ⟨y,u,rfl,rfl⟩
    . rw[Ps]at h;exact SeqAt.EqAt.str_int x t j u _ _ _ _ h
    . rw[Pn]at h;exact wpAny_eqBool_str h
 «strs»:=fun k x t v h=>by
  rcases io h with⟨i,u,rfl,e⟩ | ⟨y,u,rfl,e⟩
  . exact nomatch e
  . injection e with e1 _
    subst e1;cases v<;>rfl
theorem Pu(prog:Program)(w:World)(i:Int)(t:Tok):(bM prog w).is (.inl i) (.int i t)=true:=Pj i t
theorem oW(prog:Program)(w:World)(x:Str)(t:Tok):(bM prog w).is (.inr x) (.str x t)=true:=Pk x t
abbrev NI:=Sum aF (List aF)
section
variable {P:Program} {w:World}
def jL(P:Program)(w:World)(h:Heap):NI->Value->Prop
 | .inl k,v=>mL k v=true
 | .inr ls,v=>∃b,v = .ref b/\IsTupleKey (bM P w) h ls b
inductive gP (P:Program) (w:World) (h:Heap):List NI->Lw->Prop
 | nil:gP P w h [] []
 | cons {i:NI} {v:Value} {ks:List NI} {vs:Lw}:jL P w h i v->gP P w h ks vs->gP P w h (i::ks) (v::vs)
def gQ(P:Program)(w:World)(h:Heap)(ks:List NI)(a:Addr):Prop:=∃o items n,h.get? a=some o/\o.cls = .type "tuple"/\o.data = .seq items n/\gP P w h ks items.toList
def wP(P:Program)(w:World):NI->Int
 | .inl k=>jK w k
 | .inr ls=>tupleKeyHash (bM P w) ls
def AI:NI->Nat
 | .inl _=>1
 | .inr ls=>ls.length+1
def AJ(P:Program)(w:World)(ks:List NI):Int:=reduceHash (Builtin.Tuple.tupleHashOf (ks.map (wP P w)))
def wQ(ks:List NI):Nat:=(ks.map AI).sum+1
theorem jL.inj{h:Heap}{i j:NI}{v:Value}(a:jL P w h i v)(b:jL P w h j v):i=j:=by
 cases i with
 | inl k=>
  cases j with
  | inl l=>rw[(bM P w).inj v k l a b]
  | inr l=>
   obtain⟨c,rfl,_⟩:=b
   rcases io a with⟨_,_,_,e⟩ | ⟨_,_,_,e⟩<;>cases e
 | inr k=>
  obtain⟨c,rfl,hc⟩:=a;cases j with
  | inl l=>rcases io b with⟨_,_,_,e⟩ | ⟨_,_,_,e⟩<;>cases e
  | inr l=>
   obtain⟨d,e,hd⟩:=b;cases e;rw[hc.inj hd]
theorem gP.inj{h:Heap}{x y:List NI}{vs:Lw}(a:gP P w h x vs)(b:gP P w h y vs):x=y:=by
 induction a generalizing y with
 | nil=>cases b;rfl
 | cons p _ ih=>
  cases b with
  | cons q r=>rw[p.inj q,ih r]
theorem gQ.typeIs{s:Shared}{ks:List NI}{a:Addr}(x:gQ P w s.heap ks a):s.TypeIs (.ref a) "tuple":=x.elim fun o Pw=>Pw.elim fun _ Px=>Px.elim fun _ Py=>Py.elim fun ho Pz=>Pz.elim fun hc _=>⟨o,ho,hc⟩
theorem gQ.inj{h:Heap}{a:Addr}{x y:List NI}(p:gQ P w h x a)(q:gQ P w h y a):x=y:=by
 obtain⟨o,its,n,e,_,d,i⟩:=p;obtain⟨o',its',n',e',_,d',i'⟩:=q;rw[e]at e';cases e';rw[d]at d';injection d' with d1 _
 subst d1;exact i.inj i'
theorem gP.keeps{h h':Heap}{ks:List NI}{vs:Lw}(k:∀ls b,IsTupleKey (bM P w) h ls b->IsTupleKey (bM P w) h' ls b)(x:gP P w h ks vs):gP P w h' ks vs:=by
 induction x with
 | nil=>exact .nil
 | @cons i v ks vs p _ ih=>
  refine .cons ?_ ih;cases i with
  | inl l=>exact p
  | inr l=>
   obtain⟨b,e,hb⟩:=p;exact⟨b,e,k _ _ hb⟩
theorem gQ.keeps{h h':Heap}{ks:List NI}{a d:Addr}{o:Obj}{es:Array DictEntry}{ep:Nat}(x:gQ P w h ks a)(ho:h.get? d=some o)(hd:o.data = .dict es ep)(hs:Heap.SameBut d h h'):gQ P w h' ks a:=by
 obtain⟨oa,its,n,e,c,e2,i⟩:=x;have ne:a≠d:=by
  intro z;rw[z,ho]at e;cases e;rw[hd]at e2;cases e2
 exact⟨oa,its,n,(hs.2 a ne).trans e,c,e2,i.keeps fun ls b hb=>hb.keeps ho hd hs⟩
variable {A:Around} {E:VP} {s:Shared}
theorem jL.hash{i:NI}{v:Value}{Q:Int->Shared->Prop}(hu:A.units<cLine)(x:jL P w s.heap i v)(h:Q (wP P w i) { s with toks:=s.toks+AI i }):wpAny (model P w) A (pyHash v) Q E s:=by
 cases i with
 | inl k=>exact(bM P w).pyHash (k:=k) x h
 | inr ls=>
  obtain⟨b,rfl,hb⟩:=x;exact wpAny_pyHash_tuple hu hb h
theorem jL.eq{i j:NI}{u v:Value}{Q:Bool->Shared->Prop}(hu:A.units<cLine)(x:jL P w s.heap i u)(y:jL P w s.heap j v)(h:Q (decide (i=j)) s):wpAny (model P w) A (eqBool u v) Q E s:=by
 cases i with
 | inl k=>
  cases j with
  | inl l=>
   have e:decide ((Sum.inl k:NI)=Sum.inl l)=decide (k=l):=by
    by_cases q:k=l
    . rw[q];simp
    . rw[aU q,aU (fun z=>q (Sum.inl.inj z))]
   rw[e]at h;exact(bM P w).eqBool (a:=k) (b:=l) x y h
  | inr l=>
   rw[aU (fun z=>nomatch z)]at h;obtain⟨b,rfl,o,its,n,e,c,d,_⟩:=y
   rcases io x with⟨a,t,_,rfl⟩ | ⟨a,t,_,rfl⟩
   . exact SeqAt.EqAt.int_tuple a t ⟨o,e,c,n,d⟩ hu _ _ _ _ h
   . exact SeqAt.EqAt.str_tuple a t ⟨o,e,c,n,d⟩ hu _ _ _ _ h
 | inr k=>
  obtain⟨a,rfl,ha⟩:=x;cases j with
  | inl l=>
   rw[aU (fun z=>nomatch z)]at h;obtain⟨o,its,n,e,c,d,_⟩:=ha
   rcases io y with⟨b,t,_,rfl⟩ | ⟨b,t,_,rfl⟩
   . exact SeqAt.EqAt.tuple_int b t ⟨o,e,c,n,d⟩ hu _ _ _ _ h
   . exact SeqAt.EqAt.tuple_str b t ⟨o,e,c,n,d⟩ hu _ _ _ _ h
  | inr l=>
   obtain⟨b,rfl,hb⟩:=y;have e:decide ((Sum.inr k:NI)=Sum.inr l)=decide (k=l):=by
    by_cases q:k=l
    . rw[q];simp
    . rw[aU q,aU (fun z=>q (fq z))]
   rw[e]at h;exact wpAny_eqBool_tuple hu ha hb h
theorem PB{ks:List NI}{a:Addr}{Q:Int->Shared->Prop}(hu:A.units+8<cLine)(hk:gQ P w s.heap ks a)(h:Q (AJ P w ks) { s with toks:=s.toks+wQ ks }):wpAny (model P w) A (pyHash (.ref a)) Q E s:=by
 have hT:=hk.typeIs;obtain⟨o,its,n,ho,_,hd,hi⟩:=hk;have iL:A.units<cLine:=by omega
 unfold pyHash
 first | unfold pyHashByItsType | skip
 first | refine ac (wpAny_cRoomFor_or (.inr iL) ?_) | skip
 refine ac (wp hT Ft.lookup ?_);show wpAny _ _ (if (some (Value.builtin "tuple.__hash__") == some Value.none)=true then _ else _) Q E s;rw[af (by rw[beq_builtin_none];exact bB)];refine ac (wp hT Ft.lookup ?_);show wpAny _ _ (callSpecialIfBoundUnlessNone? (.ref a) "__hash__" _ >>= _) Q E s;refine ac (wpAny_callSpecialIfBoundUnlessNone?_slot hT Ft (mE Ft hT F.entry_tuple_hash ?_ (F.args_tuple_hash_1 _)));show wpAny _ _ (Builtin.Tuple.tupleItemsOf (.ref a) >>= _) _ _ s;refine ac (Ol ho hd ?_);refine ac ?_;rw[←Om];refine mF _
  (fun rest (b:Array Int) s'=>∃done left,ks=done++left/\gP P w s.heap left rest/\b.toList=done.map (wP P w)/\s' = { s with toks:=s.toks+(done.map AI).sum })
  _ ?_ ?_ _ _ ⟨[],ks,rfl,hi,rfl,rfl⟩
 . rintro x rest b s' ⟨done,left,rfl,hl,hb,rfl⟩;cases hl with
   | @cons k _ ko _ h1 mO=>
    refine ac (jL.hash (i:=k) (show A.units+1<cLine by omega) h1 ?_)
    first
     | exact aj ⟨done++[k],ko,by simp,mO,by simp[hb],by simp[sU]⟩
     | exact ac (aj (aj ⟨done++[k],ko,by simp,mO,by simp[hb],by simp[sU]⟩))
 . rintro b s' ⟨done,left,rfl,hl,hb,rfl⟩;cases hl;rw[ft]at h;show wpAny _ _ (retInt (Builtin.Tuple.tupleHashOf b.toList)) _ _ _;rw[hb];refine wpAny_ret_mkInt ?_;generalize hz:Builtin.Tuple.tupleHashOf (done.map (wP P w))=z at h ⊢;show wpAny _ _ (if (decide (-(2:Int) ^ 63<=z) && decide (z<2 ^ 63))=true then _ else _) Q E _;unfold AJ reduceHash at h;rw[hz]at h
   by_cases hr:(decide (-(2:Int) ^ 63<=z) && decide (z<2 ^ 63))=true
   . rw[ai hr];rw[ai hr]at h;exact aj (by simpa [sU,wQ]using h)
   . rw[af hr];rw[af hr]at h;exact ac (gJ (aj (by simpa [sU,wQ]using h)))
theorem PD{x y:List NI}{a b:Addr}{R:PySem.Fin->Shared->Prop}(hu:A.units<cLine)(hx:gQ P w s.heap x a)(hy:gQ P w s.heap y b)(h:R (.done (.ret (.bool (decide (x=y))))) s) :
 wpAny (model P w) A (Builtin.«tuple.__eq__» ⟨[.ref a,.ref b],[]⟩) R E s:=by
 have PF:=hy.typeIs;obtain⟨oa,xs,na,AK,_,PH,PJ⟩:=hx;obtain⟨ob,ys,nb,AL,_,lC,PL⟩:=hy;show wpAny _ _ (isInstance (.ref b) (.type "tuple") >>= _) _ _ s;refine ac (lm PF Oo ?_);simp only[sV,jd,ii];refine ac (Ol AK PH ?_);refine ac (Ol AL lC ?_);refine ac ?_;refine mF _
  (fun rest r s'=>r.1=none/\s'=s/\∃x' y' iM aJ,rest=List.zip iM aJ/\gP P w s.heap x' iM/\gP P w s.heap y' aJ/\decide (x'=y')=decide (x=y)/\(iM.length == aJ.length)=(xs.size == ys.size))
  _ ?_ ?_ _ _ ⟨rfl,rfl,x,y,xs.toList,ys.toList,rfl,PJ,PL,rfl,by simp⟩
 . rintro⟨u,v⟩ rest r s' ⟨hr,rfl,x',y',iM,aJ,hz,fY,wR,wS,hlen⟩;cases fY with
   | nil=>simp at hz
   | @cons k1 u' GF PM h1 PN=>
    cases wR with
    | nil=>simp at hz
    | @cons k2 v' GG PP h2 PQ=>
     simp only[lq,Fu,Prod.mk.injEq]at hz;obtain⟨⟨rfl,rfl⟩,rfl⟩:=hz;refine ac (jL.eq (i:=k1) (j:=k2) hu h1 h2 ?_)
     by_cases hk:k1=k2
     . subst hk;rw[aL rfl];simp only[sV,jd,ii];refine aj ⟨rfl,rfl,GF,GG,PM,PP,rfl,PN,PQ,?_,by simpa using hlen⟩;rw[←wS]
       by_cases GH:GF=GG
       . simp[GH]
       . simp[GH]
     . rw[aU hk];simp only[Bool.not_false,sW];have hf:decide (x=y)=false:=by rw[←wS];simp[hk]
       rw[hf]at h;exact ac (aj (aj (aj h)))
 . rintro⟨r1,r2⟩ s' ⟨hr,rfl,x',y',iM,aJ,hz,fY,wR,wS,hlen⟩;simp only at hr;subst hr;refine aj ?_;have PR:(xs.size == ys.size)=decide (x=y):=by
    rw[←wS,←hlen];cases fY with
    | nil=>
     cases wR with
     | nil=>simp
     | cons _ _=>simp
    | cons _ _=>
     cases wR with
     | nil=>simp
     | cons _ _=>simp at hz
   show R (.done (.ret (.bool (xs.size == ys.size)))) s';rw[PR];exact h
theorem PU{x y:List NI}{a b:Addr}{Q:Bool->Shared->Prop}(hu:A.units+8<cLine)(hx:gQ P w s.heap x a)(hy:gQ P w s.heap y b)(h:Q (decide (x=y)) s) :
 wpAny (model P w) A (eqBool (.ref a) (.ref b)) Q E s:=by
 unfold eqBool
 try with_reducible refine fu ?_
 show wpAny _ _ (if (Value.ref a == Value.ref b)=true then _ else _) Q E s
 by_cases jM:(Value.ref a == Value.ref b)=true
 . rw[ai jM];have e:a=b:=by have:=eq_of_beq jM;injection this
   subst e;obtain rfl:=hx.inj hy;exact ac (gJ (aj (by simpa using h)))
 . rw[af jM];exact ac (Op (op:=.Eq) hx.typeIs hy.typeIs Fv
    (mE Fv hx.typeIs F.entry_tuple_eq (PD (show A.units+1<cLine by omega) hx hy ⟨_,rfl,(fun e=>nomatch e),qK h⟩) (F.args_tuple_eq_2 _ _)) (by omega))
theorem PV{M:Model}{ls:List aF}{a:Addr}{n:Nat}{Q:Bool->Shared->Prop}(hk:IsTupleKey (bM P w) s.heap ls a)(h:Q true s):wpAny M A (eqIsQuiet (n+1) (.ref a)) Q E s:=by
 have hT:=hk.typeIs;obtain⟨o,its,m,ho,_,hd,hi⟩:=hk;unfold eqIsQuiet;refine ac (wp hT Fv.lookup ?_);show wpAny _ _ (isInstance (.ref a) (.type "tuple") >>= _) _ _ s;refine ac (lm hT Oo ?_);simp only[sV,jd,ii];refine ac (qL ho hd ?_);refine ac ?_;show wpAny _ _ (forIn its _ _) _ _ s;rw[←Om];refine mF _ (fun rest r s'=>r.1=none/\s'=s/\∀v∈rest,carriedByValue v=true) _ ?_ ?_ _ _ ⟨rfl,rfl,hi.byValue⟩
 . rintro v rest r s' ⟨hr,rfl,jN⟩;rw[eqIsQuiet_byValue _ (jN v cS)];refine ac (aj ?_);simp only[sV,jd,ii];exact aj ⟨rfl,rfl,fun u PX=>jN u (cT _ PX)⟩
 . rintro⟨r1,r2⟩ s' ⟨hr,rfl,_⟩;simp only at hr;subst hr;exact aj h
theorem PY{M:Model}{ks:List NI}{a:Addr}{Q:Bool->Shared->Prop}(hk:gQ P w s.heap ks a)(h:Q true s):wpAny M A (eqIsQuiet 8 (.ref a)) Q E s:=by
 have hT:=hk.typeIs;obtain⟨o,its,m,ho,_,hd,hi⟩:=hk;unfold eqIsQuiet;refine ac (wp hT Fv.lookup ?_);show wpAny _ _ (isInstance (.ref a) (.type "tuple") >>= _) _ _ s;refine ac (lm hT Oo ?_);simp only[sV,jd,ii];refine ac (qL ho hd ?_);refine ac ?_;show wpAny _ _ (forIn its _ _) _ _ s;rw[←Om];refine mF _ (fun rest r s'=>r.1=none/\s'=s/\∃ls,gP P w s.heap ls rest) _ ?_ ?_ _ _ ⟨rfl,rfl,ks,hi⟩
 . rintro v rest r s' ⟨hr,rfl,ls,wT⟩;cases wT with
   | @cons i _ AM _ h1 h2=>
    have fin:∀{R:Bool->Shared->Prop},R true s'->wpAny M A (eqIsQuiet 7 v) R E s':=fun {R} q=>by
     cases i with
     | inl k=>
      rw[eqIsQuiet_byValue _ ((bM P w).byValue k v h1)];exact aj q
     | inr l=>
      obtain⟨b,rfl,hb⟩:=h1;exact PV hb q
    refine ac (fin ?_);simp only[sV,jd,ii];exact aj ⟨rfl,rfl,AM,h2⟩
 . rintro⟨r1,r2⟩ s' ⟨hr,rfl,_⟩;simp only at hr;subst hr;exact aj h
end
def oX(P:Program)(w:World):HeapKind P w (List NI) where
 is:=gQ P w
 hash:=AJ P w
 draws:=wQ
 room:=fun A=>A.units+8<cLine
 inj:=fun a b=>a.inj b
 keeps:=fun x ho hd hs=>x.keeps ho hd hs
 pyHash:=fun hu hk h=>PB hu hk h
 eqBool:=fun hu hx hy h=>PU hu hx hy h
 quiet:=fun hk h=>PY hk h
theorem tJ{P:Program}{w:World}{A:Around}(hu:A.units+64<cLine):(oX P w).room A.in1:=show A.units+1+8<cLine by omega
set_option genInjectivity true in
inductive V where
 | non | bl (b:Bool) | int (i:Int) | str (x:Str) | byt (b:Array UInt8) | flt (b:UInt64) | ref (a:Addr) | ty (n:String)
 deriving DecidableEq
abbrev Lv:=List V
def RelV:V->Value->Prop
 | .non,u=>u=Value.none
 | .bl b,u=>u=Value.bool b
 | .int i,u=>∃t,u=Value.int i t
 | .str x,u=>∃t,u=Value.str x t
 | .byt b,u=>∃t,u=Value.bytes b t
 | .flt b,u=>∃t,u=Value.float b t
 | .ref a,u=>u=Value.ref a
 | .ty n,u=>u=Value.type n
abbrev aH:Lv->Lw->Prop:=Paired RelV
theorem aH.length{xs:Lv}{us:Lw}(r:aH xs us):xs.length=us.length:=Fw r
theorem aH.get:∀{xs:Lv} {us:Lw} {i:Nat} {x:V},aH xs us->xs[i]? = some x->∃u,us[i]? = some u/\RelV x u
 | _,_,_,_,.nil,e=>by simp at e
 | _,_,0,_,.cons r _,e=>by simp at e;subst e;exact⟨_,rfl,r⟩
 | _,_,i+1,x,.cons _ t,e=>by
  obtain⟨u,h1,h2⟩:=aH.get (i:=i) (x:=x) t (by simpa using e);exact⟨u,by simpa using h1,h2⟩
theorem aH.append:∀{xs ys:Lv} {us ws:Lw},aH xs us->aH ys ws->aH (xs++ys) (us++ws)
 | _,_,_,_,.nil,s=>s
 | _,_,_,_,.cons r t,s=>.cons r (aH.append t s)
theorem aH.take:∀{xs:Lv} {us:Lw} (n:Nat),aH xs us->aH (xs.take n) (us.take n)
 | _,_,0,_=>.nil
 | _,_,_+1,.nil=>.nil
 | _,_,n+1,.cons r t=>.cons r (aH.take n t)
theorem aH.drop:∀{xs:Lv} {us:Lw} (n:Nat),aH xs us->aH (xs.drop n) (us.drop n)
 | _,_,0,r=>r
 | _,_,_+1,.nil=>.nil
 | _,_,n+1,.cons _ t=>aH.drop n t
def eT:Option V->Option Value->Prop
 | some v,some u=>RelV v u
 | none,none=>True
 | _,_=>False
def KV{κ:Type}:List (κ×V)->List (κ×Value)->Prop:=Paired fun(p:κ×V) (q:κ×Value)=>p.1=q.1/\RelV p.2 q.2
def kV:aF->V
 | .inl i=>.int i
 | .inr x=>.str x
inductive HO where
 | lst (xs:Lv)
 | tup (xs:Lv)
 | dK (kvs:List (aF×V)) | dT (kvs:List (List NI×V))
 | set (S:Int->Bool) (n:Nat)
 | ins (C dx:Addr) (fs:List (Str×V))
 | own (x:Addr)
 | xd (fs:List (Str×V))
 | met (f x:Addr)
 | rng (lo hi:Int)
 | frz (o:Obj) (u:HO)
 | tbl (ps:Av)
 | ext (φ:Heap->Prop)
abbrev Hp:=Addr->Option HO
def ak(H:Hp)(a:Addr)(o:HO):Hp:=fun b=>if b=a then some o else H b
theorem bc{H:Hp}{a:Addr}{o:HO}:ak H a o a=some o:=by unfold ak;rw[ai rfl]
theorem a8{H:Hp}{a b:Addr}{o:HO}(h:b≠a):ak H a o b=H b:=by unfold ak;rw[af h]
theorem fz{H:Hp}{a b:Addr}{o u:HO}(h:H a=some o)(h':H b=some u)(d:o≠u):a≠b:=by
 intro e;subst e;rw[h]at h';exact d (gn h')
theorem bv{H:Hp}{a b:Addr}{o:HO}(h:H a=some o)(h':H b=none):a≠b:=by
 intro e;subst e;rw[h]at h';cases h'
def NV(H:Hp):NI->V->Prop
 | .inl k,v=>v=kV k
 | .inr ls,v=>∃b,v = .ref b/\H b=some (.tup (ls.map kV))
abbrev GI (H:Hp):List NI->Lv->Prop:=Paired (NV H)
def jh(H:Hp)(ks:List NI)(a:Addr):Prop:=∃vs,H a=some (.tup vs)/\GI H ks vs
theorem bd{α β:Type}{F G:α->β->Prop}:∀{l₁:List α} {l₂:List β},Paired F l₁ l₂->(∀a b,F a b->G a b)->Paired G l₁ l₂
 | _,_,.nil,_=>.nil
 | _,_,.cons r t,f=>.cons (f _ _ r) (bd t f)
theorem jh.keeps{H H':Hp}{ks:List NI}{a:Addr}(x:jh H ks a)(ht:∀b xs,H b=some (.tup xs)->H' b=some (.tup xs)):jh H' ks a:=by
 obtain⟨vs,e,r⟩:=x;refine⟨vs,ht _ _ e,bd r fun i v z=>?_⟩;cases i with
 | inl k=>exact z
 | inr l=>
  obtain⟨b,e1,e2⟩:=z;exact⟨b,e1,ht _ _ e2⟩
section
variable (P:Program) (w:World)
def bN(H:Hp)(h:Heap)(a:Addr):HO->Prop
 | .lst xs=>xs.length<=sizeLine/\∃(its:Lw) (n:Nat),aH xs its/\h.get? a=some { cls:=.type "list",data:=.seq its.toArray n }
 | .tup xs=>xs.length<=sizeLine/\∃its:Lw,aH xs its/\IsTup h a its.toArray
 | .dK kvs=>kvs.length<=sizeLine/\(a == sysModules)=false/\∃vs,KV kvs vs/\h.DictOf (bM P w) a vs
 | .dT kvs=>kvs.length<=sizeLine/\(a == sysModules)=false/\∃xs:List (List NI×Addr×Value),
  Paired (fun(p:List NI×V) (q:List NI×Addr×Value)=>p.1=q.1/\jh H p.1 q.2.1/\RelV p.2 q.2.2) kvs xs /\
  ∃o es ep,h.get? a=some o/\o.ExactDict/\o.data = .dict es ep/\es.toList=xs.map (entryOfKey (oX P w))/\(xs.map (·.1)).Nodup
 | .set S n=>h.SetOf (intKind P w) a S n
 | .ins C dx fs=>H dx=some (.own a)/\fs.length<=1000/\dx≠a/\h.get? a=some (PySem.W.instObj C dx) /\
  ∃mA,h.Ns1 dx mA/\(∀f,eT (fs.lookup f) (mA f))/\PySem.Within mA (fs.map (·.1))
 | .own _=>∃o,h.get? a=some o
 | .xd fs=>∃mA,h.Ns1 a mA/\∀f,eT (fs.lookup f) (mA f)
 | .rng lo hi=>∃t u v,h.get? a=some { cls:=.type "range",data:=.fields #[.int lo t,.int hi u,.int 1 v] }
 | .frz o u=>h.get? a=some o/\bN H h a u
 | .tbl ps=>h.get? a=some { cls:=.none,data:=.fields ps }
 | .met f x=>h.get? a=some (PySem.W.methodObj (.ref f) (.ref x))
 | .ext φ=>φ h/\(∃o,h.get? a=some o)/\∀h1 h2:Heap,φ h1->(∀o,h1.get? a=some o->h2.get? a=some o)->φ h2
def b7(H:Hp)(h:Heap):Prop:=∀a o,H a=some o->bN P w H h a o
end
section
variable {P:Program} {w:World} {H H':Hp} {h h':Heap} {a:Addr} {o:HO}
theorem bN.lt(x:bN P w H h a o):a<h.objs.size:=by
 cases o with
 | lst xs=>obtain⟨_,_,_,_,e⟩:=x;exact aT e
 | tup xs=>obtain⟨_,_,_,p⟩:=x;exact p.lt
 | dK kvs=>obtain⟨_,_,_,_,o,_,_,e,_⟩:=x;exact aT e
 | dT kvs=>obtain⟨_,_,_,_,o,_,_,e,_⟩:=x;exact aT e
 | set S n=>obtain⟨o,_,_,_,e,_⟩:=x;exact aT e
 | ins C dx fs=>obtain⟨_,_,_,e,_⟩:=x;exact aT e
 | own y=>obtain⟨_,e⟩:=x;exact aT e
 | xd fs=>obtain⟨_,⟨_,_,_,e,_⟩,_⟩:=x;exact aT e
 | rng lo hi=>obtain⟨_,_,_,e⟩:=x;exact aT e
 | frz ob u=>obtain⟨e,_⟩:=x;exact aT e
 | tbl ps=>exact aT (show h.get? a=some _ from x)
 | met f y=>exact aT (show h.get? a=some _ from x)
 | ext φ=>obtain⟨_,⟨_,e⟩,_⟩:=x;exact aT e
theorem Paired.mapP{α β:Type}{F G:α->β->Prop}:∀{l₁:List α} {l₂:List β},Paired F l₁ l₂->(∀a b,F a b->G a b)->Paired G l₁ l₂
 | _,_,.nil,_=>.nil
 | _,_,.cons r t,f=>.cons (f _ _ r) (Paired.mapP t f)
theorem bN.stay(x:bN P w H h a o)(k:∀b u,(b=a\/H b=some (.own a))->h.get? b=some u->h'.get? b=some u)
 (ho:∀b,H b=some (.own a)->H' b=some (.own a)) (ht:∀b xs,H b=some (.tup xs)->H' b=some (.tup xs)):bN P w H' h' a o:=by
 induction o with
 | lst xs=>obtain⟨z,its,n,r,e⟩:=x;exact⟨z,its,n,r,k _ _ (.inl rfl) e⟩
 | tup xs=>obtain⟨z,its,r,ob,e,c⟩:=x;exact⟨z,its,r,ob,k _ _ (.inl rfl) e,c⟩
 | dK kvs=>obtain⟨z,y,vs,r,ob,es,ep,e,c⟩:=x;exact⟨z,y,vs,r,ob,es,ep,k _ _ (.inl rfl) e,c⟩
 | dT kvs=>
  obtain⟨z,y,xs,r,ob,es,ep,e,c⟩:=x;exact⟨z,y,xs,Paired.mapP r fun p q z=>⟨z.1,z.2.1.keeps ht,z.2.2⟩,ob,es,ep,k _ _ (.inl rfl) e,c⟩
 | set S n=>obtain⟨ob,es,ep,t,e,c⟩:=x;exact⟨ob,es,ep,t,k _ _ (.inl rfl) e,c⟩
 | ins C dx fs=>
  obtain⟨d,z,ne,e,mA,⟨od,es,ep,e2,c⟩,r⟩:=x;exact⟨ho _ d,z,ne,k _ _ (.inl rfl) e,mA,⟨od,es,ep,k _ _ (.inr d) e2,c⟩,r⟩
 | own y=>obtain⟨ob,e⟩:=x;exact⟨ob,k _ _ (.inl rfl) e⟩
 | xd fs=>obtain⟨mA,⟨od,es,ep,e,c⟩,r⟩:=x;exact⟨mA,⟨od,es,ep,k _ _ (.inl rfl) e,c⟩,r⟩
 | rng lo hi=>obtain⟨t,u,v,e⟩:=x;exact⟨t,u,v,k _ _ (.inl rfl) e⟩
 | frz ob u ih=>obtain⟨e,q⟩:=x;exact⟨k _ _ (.inl rfl) e,ih q⟩
 | tbl ps=>
  have e:h.get? a=some { cls:=.none,data:=.fields ps }:=x;show h'.get? a=some { cls:=.none,data:=.fields ps };exact k a _ (.inl rfl) e
 | met f y=>
  have e:h.get? a=some (PySem.W.methodObj (.ref f) (.ref y)):=x;show h'.get? a=some (PySem.W.methodObj (.ref f) (.ref y));exact k a _ (.inl rfl) e
 | ext φ=>obtain⟨p,⟨o,e⟩,st⟩:=x;exact⟨st _ _ p fun o q=>k _ _ (.inl rfl) q,⟨o,k _ _ (.inl rfl) e⟩,st⟩
theorem b7.lt(x:b7 P w H h)(e:H a=some o):a<h.objs.size:=(x a o e).lt
theorem b7.fresh(x:b7 P w H h)(e:h.objs.size<=a):H a=none:=by
 cases q:H a with
 | none=>rfl
 | some u=>exact absurd (fw (x.lt q) e) (j8 _)
theorem b7.kept(x:b7 P w H h)(k:∀b u,h.get? b=some u->h'.get? b=some u):b7 P w H h':=fun a o e=>
 (x a o e).stay (fun b u _ q=>k b u q) (fun _ q=>q) fun _ _ q=>q
theorem b7.laid(x:b7 P w H h)(k:∀b u,h.get? b=some u->h'.get? b=some u)(hp:h.objs.size<=a)(new:bN P w (ak H a o) h' a o):b7 P w (ak H a o) h':=fun b u e=>by
 have hn:=x.fresh hp
 by_cases hb:b=a
 . subst hb;rw[bc]at e;cases e;exact new
 . rw[a8 hb]at e;exact(x b u e).stay (fun c v _ q=>k c v q) (fun c q=>by rw[a8 (bv q hn)];exact q) fun c xs q=>by rw[a8 (bv q hn)];exact q
end
def Rd(H:Hp)(a:Addr)(u:HO):Prop:=H a=some u\/∃o,H a=some (.frz o u)
theorem Rd.ok{P:Program}{w:World}{H:Hp}{h:Heap}{a:Addr}{u:HO}(r:Rd H a u)(x:b7 P w H h):bN P w H h a u:=by
 rcases r with r | ⟨o,r⟩
 . exact x a u r
 . obtain⟨_,q⟩:=x a _ r;exact q
def tK:Option HO->Prop
 | some (.lst _)=>True
 | some (.dK _)=>True
 | some (.dT _)=>True
 | some (.set _ _)=>True
 | some (.ins _ _ _)=>True
 | some (.ext _)=>True
 | _=>False
section
variable {P:Program} {w:World} {H:Hp} {h h':Heap} {x e:Addr} {o':HO}
theorem b7.write(ok:b7 P w H h)(mu:tK (H x))(he:e=x\/H e=some (.own x))(k:∀b u,b≠e->h.get? b=some u->h'.get? b=some u)(qX:∃u,h'.get? e=some u)
 (new:bN P w (ak H x o') h' x o'):b7 P w (ak H x o') h':=fun b u q=>by
 have GJ:∀c y,H c=some (.own y)->c≠x:=fun c y r z=>by subst z;rw[r]at mu;exact mu
 have PZ:∀c xs,H c=some (.tup xs)->c≠x:=fun c xs r z=>by subst z;rw[r]at mu;exact mu
 by_cases hb:b=x
 . subst hb;rw[bc]at q;cases q;exact new
 . rw[a8 hb]at q
   by_cases oY:b=e
   . have q':H b=some (.own x):=by
      rcases he with z | z
      . exact absurd (oY.trans z) hb
      . rw[oY];exact z
     rw[q]at q';cases q';obtain⟨v,hv⟩:=qX;exact⟨v,by rw[oY];exact hv⟩
   . refine(ok b u q).stay (fun c v hc r=>k c v ?_ r) (fun c r=>by rw[a8 (GJ c b r)];exact r) fun c xs r=>by rw[a8 (PZ c xs r)];exact r
     rcases hc with rfl | hc
     . exact oY
     . rintro rfl
       rcases he with z | z
       . exact GJ c b hc z
       . rw[hc]at z;cases z;exact hb rfl
end
structure Un(fs ex:List Addr)(H H':Hp)(h h':Heap):Prop where
 keep:∀b o,h.get? b=some o->H b=none->b∉fs->b∉ex->h'.get? b=some o
 slot:∀b o,h.get? b=some o->H b=none->b∈fs->b∉ex->∃sl,h'.get? b=some { o with slots:=sl }
 free:∀b o,h.get? b=some o->H b=none->b∉ex->H' b=none
 there:∀b o,h.get? b=some o->b∉ex->∃o',h'.get? b=some o'
 tups:∀b xs,H b=some (.tup xs)->H' b=some (.tup xs)
 frzs:∀b o u,H b=some (.frz o u)->H' b=some (.frz o u)
 tbls:∀b ps,H b=some (.tbl ps)->∃more,H' b=some (.tbl (ps++more))
section
variable {fs P0 ex ex':List Addr} {H H1 H2:Hp} {h h1 h2 h':Heap} {a x e:Addr} {o:HO}
theorem Un.any(u:Un fs ex H H1 h h1){b:Addr}{ob:Obj}(q:h.get? b=some ob)(n:H b=none)(hx:b∉ex):∃sl,h1.get? b=some { ob with slots:=sl }:=by
 by_cases hb:b∈fs
 . exact u.slot b ob q n hb hx
 . exact⟨ob.slots,u.keep b ob q n hb hx⟩
theorem Un.trans(a:Un fs ex H H1 h h1)(b:Un fs ex H1 H2 h1 h2):Un fs ex H H2 h h2 where
 keep:=fun c ob q n hc hx=>b.keep c ob (a.keep c ob q n hc hx) (a.free c ob q n hx) hc hx
 slot:=fun c ob q n hc hx=>by
  obtain⟨sl,e1⟩:=a.slot c ob q n hc hx;obtain⟨AN,e2⟩:=b.slot c _ e1 (a.free c ob q n hx) hc hx;exact⟨AN,e2⟩
 free:=fun c ob q n hx=>by
  obtain⟨o',e1⟩:=a.there c ob q hx;exact b.free c o' e1 (a.free c ob q n hx) hx
 there:=fun c ob q hx=>by
  obtain⟨o',e1⟩:=a.there c ob q hx;exact b.there c o' e1 hx
 tups:=fun c xs q=>b.tups c xs (a.tups c xs q)
 frzs:=fun c ob xs q=>b.frzs c ob xs (a.frzs c ob xs q)
 tbls:=fun c ps q=>by
  obtain⟨m1,e1⟩:=a.tbls c ps q;obtain⟨m2,e2⟩:=b.tbls c _ e1;exact⟨m1++m2,by rw[e2,Array.append_assoc]⟩
theorem Un.kept(k:∀b u,h.get? b=some u->h'.get? b=some u):Un fs ex H H h h':=
 ⟨fun b ob q _ _ _=>k b ob q,fun b ob q _ _ _=>⟨ob.slots,k b ob q⟩,fun _ _ _ n _=>n,fun b ob q _=>⟨ob,k b ob q⟩,fun _ _ q=>q,fun _ _ _ q=>q,fun _ ps q=>⟨#[],by rw[q];simp⟩⟩
theorem Un.refl:Un fs ex H H h h:=Un.kept fun _ _ q=>q
theorem Un.laid(k:∀b u,h.get? b=some u->h'.get? b=some u)(hp:h.objs.size<=a)(hn:H a=none):Un fs ex H (ak H a o) h h' where
 keep:=fun b u q _ _ _=>k b u q
 slot:=fun b u q _ _ _=>⟨u.slots,k b u q⟩
 free:=fun b u q n _=>by rw[a8 (bH (fw (aT q) hp))];exact n
 there:=fun b u q _=>⟨u,k b u q⟩
 tups:=fun b xs q=>by rw[a8 (bv q hn)];exact q
 frzs:=fun b u xs q=>by rw[a8 (bv q hn)];exact q
 tbls:=fun b ps q=>⟨#[],by rw[a8 (bv q hn),q];simp⟩
theorem Un.write(mu:tK (H x))(he:e=x\/H e=some (.own x))(k:∀b u,b≠e->h.get? b=some u->h'.get? b=some u)(qX:∃u,h'.get? e=some u):Un fs ex H (ak H x o) h h':=by
 have hx:∀b,H b=none->b≠x:=fun b n z=>by subst z;rw[n]at mu;exact mu
 have hb:∀b,H b=none->b≠e:=fun b n z=>by
  subst z
  rcases he with r | r
  . exact hx b n r
  . rw[n]at r;cases r
 have hm:∀b u,H b=some u->¬tK (some u)->b≠x:=fun b u q nm z=>by subst z;rw[q]at mu;exact nm mu
 refine⟨fun b u q n _ _=>k b u (hb b n) q,fun b u q n _ _=>⟨u.slots,k b u (hb b n) q⟩,fun b u q n _=>by rw[a8 (hx b n)];exact n,fun b u q _=>?_,
  fun b xs q=>by rw[a8 (hm b _ q fun z=>z)];exact q,fun b u xs q=>by rw[a8 (hm b _ q fun z=>z)];exact q,fun b ps q=>⟨#[],by rw[a8 (hm b _ q fun z=>z),q];simp⟩⟩
 by_cases oY:b=e
 . subst oY;exact qX
 . exact⟨u,k b u oY q⟩
end
def wU(h:Heap)(H:Hp):List Addr:=(List.range h.objs.size).filter fun a=>(H a).isSome
def kx(h:Heap)(H:Hp):Heap:=PySem.W.hideAll h (wU h H)
theorem P1(h:Heap)(H:Hp):(kx h H).objs.size=h.objs.size:=PySem.W.hideAll_size _ _
theorem P2{h:Heap}{H:Hp}{b:Addr}{o:Obj}(e:h.get? b=some o)(n:H b=none):(kx h H).get? b=some o:=
 PySem.W.hideAll_get _ e fun hm=>by
  have q:(H b).isSome=true:=(dC.mp hm).2;rw[n]at q;simp at q
theorem P4{h:Heap}{H:Hp}{b:Addr}{o:Obj}(e:(kx h H).get? b=some o):h.get? b=some o/\H b=none:=by
 have e':h.get? b=some o:=PySem.W.of_hideAll (wU h H) e;refine⟨e',?_⟩;cases q:H b with
 | none=>rfl
 | some x=>
  have hm:b∈wU h H:=dC.mpr ⟨lr.mpr (aT e'),by simp[q]⟩;have z:(kx h H).get? b=none:=PySem.W.hideAll_none (wU h H) hm;rw[z]at e;cases e
structure Mod(K:Fg)(mg:Mv)(base:Heap):Prop where
 kin:K.In base
 glob:base.Ns mainGlobals mg
 blt:∃mb,base.Ns builtinsNs mb/\∀x:Str,x≠"__name__"->mb x=bootBuiltins x
 nolimit:base.NoLimit
structure Cx where
 prog:Program
 w:World
 K:Fg
 mg:Mv
 base:Heap
 A:Around
 N:Ls
 s₀:Shared
 H₀:Hp
 env:Env
 outer:List Env
 stack:List Env
 ex:List Addr
 fn:Str->Bool
 calm:Bool
 pn:Po
 xe:VP
def ip(l:List Env):List Addr:=l.filterMap (·.frame)
abbrev Cx.fs (X:Cx):List Addr:=ip X.outer
def wV(sc:Scope)(x:Str):Prop:=sc.names.lookup x=some .local\/sc.names.lookup x=some .cell\/sc.names.lookup x=some .free
def Loc(sc:Scope)(x:Str):Prop:=sc.names.lookup x=some .local\/sc.names.lookup x=some .cell
def Look(env:Env)(h:Heap)(m:Mv)(x:Str)(u:Value):Prop:=
 (env.kindOf x=some .local/\m x=some u)\/((env.kindOf x=some .cell\/env.kindOf x=some .free)/\∃c,env.cells.lookup x=some c/\h.IsCell c (some u))
structure Cx.Ok(X:Cx):Prop where
 mod:Mod X.K X.mg X.base
 kind:X.env.scope.kind = .function
 glob:X.env.globals=mainGlobals
 blt:X.env.builtins=builtinsNs
 above:X.s₀.heap.objs.size<=X.env.locals
 inj:∀x y c,X.env.cells.lookup x=some c->X.env.cells.lookup y=some c->x=y
 has:∀x,(X.env.kindOf x=some .cell\/X.env.kindOf x=some .free)->∃c,X.env.cells.lookup x=some c
 cab:∀x c,X.fn x=true->X.env.cells.lookup x=some c->X.s₀.heap.objs.size<=c
 hd:X.calm=true->X.A.handled=none
 frames:X.A.frames=some X.stack
 stk:X.stack=X.outer\/(X.stack=X.env::X.outer/\X.env.frame=some X.env.locals)
 exf:∀b∈X.ex,b≠X.env.locals/\∀x c,X.env.cells.lookup x=some c->c≠b
 bs:∀b o,X.base.get? b=some o->X.s₀.heap.get? b=some o/\X.H₀ b=none
 bsz:X.base.objs.size<=X.s₀.heap.objs.size
 noex:∀b o,X.base.get? b=some o->b∉X.ex
 exfs:∀b∈X.ex,b∉X.fs
 funs:X.s₀.heap.FunFrames X.base X.outer
 frf:∀b∈X.fs,X.H₀ b=none
structure Inv(X:Cx)(pins:Po)(σ:List (Option V))(H:Hp)(s:Shared):Prop where
 ok:X.Ok
 os:s.os=X.s₀.os
 bare:AllBare s.gens
 base:Un X.fs X.ex X.H₀ H X.s₀.heap s.heap
 loc:∃m,s.heap.Ns X.env.locals m/\∀(i:Nat) (x:Str) (v:V),X.N[i]? = some x->σ[i]? = some (some v)->wV X.env.scope x->∃u,RelV v u/\Look X.env s.heap m x u
 cell:∀x c,X.env.cells.lookup x=some c->∃v,s.heap.IsCell c v
 free:H X.env.locals=none
 freeC:∀x c,X.env.cells.lookup x=some c->H c=none
 pin:∀p∈X.pn++pins,s.heap.get? p.1=some p.2/\H p.1=none/\p.1≠X.env.locals/\p.1∉X.fs/\∀v,p.2.data≠.cell v
 hok:b7 X.prog X.w H s.heap
 len:σ.length=X.N.length
section
variable {X:Cx} {pins:Po} {σ:List (Option V)} {H H':Hp} {s:Shared} {h':Heap}
theorem Cx.Ok.nofr(ok:X.Ok){b:Addr}{o:Obj}(e:X.base.get? b=some o):b∉X.fs:=fun hb=>by
 have:=(ok.funs.mem hb).1;rw[e]at this;cases this
theorem Inv.bs(I:Inv X pins σ H s):∀b o,X.base.get? b=some o->s.heap.get? b=some o/\H b=none:=fun b o e=>
 ⟨I.base.keep b o (I.ok.bs b o e).1 (I.ok.bs b o e).2 (I.ok.nofr e) (I.ok.noex b o e),I.base.free b o (I.ok.bs b o e).1 (I.ok.bs b o e).2 (I.ok.noex b o e)⟩
theorem Inv.bk(I:Inv X pins σ H s):∀b o,X.base.get? b=some o->s.heap.get? b=some o:=fun b o e=>(I.bs b o e).1
theorem Inv.mod(I:Inv X pins σ H s):Mod X.K X.mg X.base:=I.ok.mod
theorem Inv.kIn(I:Inv X pins σ H s):X.K.In s.heap:=I.ok.mod.kin.keeps I.bk
theorem Inv.nolimit(I:Inv X pins σ H s):s.heap.NoLimit:=I.ok.mod.nolimit.keeps I.bk
theorem Inv.lt(I:Inv X pins σ H s):X.env.locals<s.heap.objs.size:=I.loc.elim fun _ P5=>P5.elim fun hn _=>hn.lt
theorem Inv.sz(I:Inv X pins σ H s):X.s₀.heap.objs.size<=s.heap.objs.size:=bn I.ok.above (gK I.lt)
theorem Inv.nofs(I:Inv X pins σ H s){a:Addr}(h:s.heap.objs.size<=a):a∉X.fs:=fun hb=>by
 obtain⟨_,o,ho,_⟩:=I.ok.funs.mem hb;exact absurd (fw (aT ho) (bn I.sz h)) (j8 _)
theorem Inv.cne(I:Inv X pins σ H s):∀x c,X.env.cells.lookup x=some c->c≠X.env.locals:=fun x c e z=>by
 obtain⟨v,o,ho,hd⟩:=I.cell x c e;obtain⟨m,⟨o',es,ep,lD,ji,_⟩,_⟩:=I.loc;rw[z,lD]at ho;cases ho;rw[ji]at hd;cases hd
theorem Inv.funs(I:Inv X pins σ H s):s.heap.FunFrames X.base X.outer:=by
 have all:∀(l:List Env),(∀b∈ip l,b∈X.fs)->X.s₀.heap.FunFrames X.base l->s.heap.FunFrames X.base l:=by
  intro l
  induction l with
  | nil=>intro _ _;trivial
  | cons env r ih=>
   intro hs hl;obtain⟨hk,⟨L,o,hf,hn,ho,hd⟩,hr⟩:=hl;have hL:L∈X.fs:=hs L (by unfold ip;rw[Fx,hf];exact cS);obtain⟨sl,e⟩:=I.base.slot L o ho (I.ok.frf L hL) hL fun z=>I.ok.exfs L z hL;exact⟨hk,⟨L,_,hf,hn,e,hd⟩,ih (fun b hb=>hs b (by unfold ip;rw[Fx,hf];exact cT _ hb)) hr⟩
 exact all X.outer (fun _ hb=>hb) I.ok.funs
theorem Inv.stack(I:Inv X pins σ H s):s.heap.FunFrames X.base X.stack:=by
 rcases I.ok.stk with e | ⟨e,hf⟩
 . rw[e];exact I.funs
 . rw[e];obtain⟨m,hn,_⟩:=I.loc;refine .cons (by rw[I.ok.kind];decide) hf hn ?_ I.funs;exact Oq (bn I.ok.bsz I.ok.above)
theorem Inv.stkSub(I:Inv X pins σ H s):∀b∈ip X.stack,b∈X.env.locals::X.fs:=fun b hb=>by
 rcases I.ok.stk with e | ⟨e,hf⟩
 . rw[e]at hb;exact cT _ hb
 . rw[e]at hb;unfold ip at hb;rw[Fx,hf]at hb;exact hb
theorem Inv.stkFree(I:Inv X pins σ H s):∀b∈ip X.stack,H b=none:=fun b hb=>by
 rcases bh.mp (I.stkSub b hb) with e | hb
 . rw[e];exact I.free
 . obtain⟨_,o,ho,_⟩:=I.ok.funs.mem hb;exact I.base.free b o ho (I.ok.frf b hb) fun z=>I.ok.exfs b z hb
theorem Inv.step{g':Array GenState}{t':Nat}{d':Drawn}{ch:List Addr}(I:Inv X pins σ H s)
 (dF:∀b∈ch,(b∈X.ex\/X.s₀.heap.objs.size<=b)/\b≠X.env.locals/\(∀x c,X.env.cells.lookup x=some c->c≠b)/\∀p∈X.pn++pins,p.1≠b)
 (keep:∀b o,b≠X.env.locals->b∉X.fs->b∉ch->s.heap.get? b=some o->H b=none->h'.get? b=some o)
 (slot:∀b o,b≠X.env.locals->b∈X.fs->b∉ch->s.heap.get? b=some o->H b=none->∃sl,h'.get? b=some { o with slots:=sl }) (free:∀b o,b∉ch->s.heap.get? b=some o->H b=none->H' b=none)
 (there:∀b o,b∉ch->s.heap.get? b=some o->∃o',h'.get? b=some o')
 (tups:∀b xs,H b=some (.tup xs)->H' b=some (.tup xs)) (frzs:∀b o u,H b=some (.frz o u)->H' b=some (.frz o u)) (tbls:∀b ps,H b=some (.tbl ps)->∃more,H' b=some (.tbl (ps++more)))
 (ns:∀m,s.heap.Ns X.env.locals m->h'.Ns X.env.locals m) (hok:b7 X.prog X.w H' h') (hg:AllBare g') :
 Inv X pins σ H' { s with heap:=h',gens:=g',drawn:=d',toks:=t' }:=by
 have GK:∀b o,X.s₀.heap.get? b=some o->b≠X.env.locals:=fun b o e=>bH (fw (aT e) I.ok.above);have wW:∀b o,X.s₀.heap.get? b=some o->b∉X.ex->b∉ch:=fun b o e hx hb=>by
  rcases(dF b hb).1 with z | z
  . exact hx z
  . exact absurd (fw (aT e) z) (j8 _)
 have cellK:∀x c,X.env.cells.lookup x=some c->∀v,s.heap.IsCell c v->h'.IsCell c v:=fun x c e v P6=>P6.elim fun o P7=>P7.elim fun ho hd=>by
  have tL:c∉ch:=fun z=>(dF c z).2.2.1 x c e rfl
  by_cases hc:c∈X.fs
  . obtain⟨sl,q⟩:=slot c o (I.cne x c e) hc tL ho (I.freeC x c e);exact⟨_,q,hd⟩
  . exact⟨o,keep c o (I.cne x c e) hc tL ho (I.freeC x c e),hd⟩
 refine⟨I.ok,I.os,hg,⟨fun b o e n hb hx=>?_,fun b o e n hb hx=>?_,fun b o e n hx=>?_,fun b o e hx=>?_,fun b xs e=>tups b xs (I.base.tups b xs e),fun b o xs e=>frzs b o xs (I.base.frzs b o xs e),fun b ps e=>?_⟩,?_,fun x c e=>?_,?_,fun x c e=>?_,fun p hp=>?_,hok,I.len⟩
 . exact keep b o (GK b o e) hb (wW b o e hx) (I.base.keep b o e n hb hx) (I.base.free b o e n hx)
 . obtain⟨sl,e1⟩:=I.base.slot b o e n hb hx;obtain⟨AN,e2⟩:=slot b _ (GK b o e) hb (wW b o e hx) e1 (I.base.free b o e n hx);exact⟨AN,e2⟩
 . obtain⟨o',e1⟩:=I.base.there b o e hx;exact free b o' (wW b o e hx) e1 (I.base.free b o e n hx)
 . obtain⟨o',e1⟩:=I.base.there b o e hx;exact there b o' (wW b o e hx) e1
 . obtain⟨m1,e1⟩:=I.base.tbls b ps e;obtain⟨m2,e2⟩:=tbls b _ e1;exact⟨m1++m2,by rw[e2,Array.append_assoc]⟩
 . obtain⟨m,hn,hl⟩:=I.loc;refine⟨m,ns m hn,fun i x v e1 e2 e3=>?_⟩;obtain⟨u,r,l⟩:=hl i x v e1 e2 e3;refine⟨u,r,?_⟩
   rcases l with l | ⟨k,c,e,z⟩
   . exact .inl l
   . exact .inr ⟨k,c,e,cellK x c e _ z⟩
 . obtain⟨v,z⟩:=I.cell x c e;exact⟨v,cellK x c e v z⟩
 . obtain⟨m,⟨o,_,_,ho,_⟩,_⟩:=I.loc;exact free _ o (fun z=>(dF _ z).2.1 rfl) ho I.free
 . obtain⟨v,o,ho,hd⟩:=I.cell x c e;exact free c o (fun z=>(dF c z).2.2.1 x c e rfl) ho (I.freeC x c e)
 . obtain⟨e,n,ne,nf,d⟩:=I.pin p hp;have tL:p.1∉ch:=fun z=>(dF p.1 z).2.2.2 p hp rfl;exact⟨keep p.1 p.2 ne nf tL e n,free p.1 p.2 tL e n,ne,nf,d⟩
theorem Inv.un{t':Nat}(I:Inv X pins σ H s)(u:Un X.fs [] H H' s.heap h')(hok:b7 X.prog X.w H' h'):Inv X pins σ H' { s with heap:=h',toks:=t' }:=by
 obtain⟨m,⟨o,es,ep,ho,r⟩,_⟩:=id I.loc;obtain⟨sl,hL⟩:=u.any ho I.free (by simp);exact I.step (g':=s.gens) (d':=s.drawn) (ch:=[]) (fun _ z=>nomatch z) (fun b o _ hb _ e n=>u.keep b o e n hb (by simp)) (fun b o _ hb _ e n=>u.slot b o e n hb (by simp)) (fun b o _ e n=>u.free b o e n (by simp)) (fun b o _ e=>u.there b o e (by simp)) u.tups u.frzs u.tbls (fun m' hm=>by
  obtain⟨o',es',tM,lD,r'⟩:=hm;rw[ho]at lD;cases lD;exact⟨_,es',tM,hL,r'⟩) hok I.bare
theorem Inv.call{g':Array GenState}{t':Nat}{d':Drawn}{ch:List Addr}(I:Inv X pins σ H s)(u:Un (ip X.stack) ch H H' s.heap h')(hok:b7 X.prog X.w H' h')(hg:AllBare g')
 (dF:∀b∈ch,(b∈X.ex\/X.s₀.heap.objs.size<=b)/\b≠X.env.locals/\(∀x c,X.env.cells.lookup x=some c->c≠b)/\∀p∈X.pn++pins,p.1≠b) :
 Inv X pins σ H' { s with heap:=h',gens:=g',drawn:=d',toks:=t' }:=by
 obtain⟨m,⟨o,es,ep,ho,r⟩,_⟩:=id I.loc;obtain⟨sl,hL⟩:=u.any ho I.free fun z=>(dF _ z).2.1 rfl;exact I.step (ch:=ch) dF (fun b o hL hb hc e n=>u.keep b o e n (fun z=>(bh.mp (I.stkSub b z)).elim hL hb) hc) (fun b o _ _ hc e n=>u.any e n hc) (fun b o hc e n=>u.free b o e n hc) (fun b o hc e=>u.there b o e hc) u.tups u.frzs u.tbls (fun m' hm=>by
  obtain⟨o',es',tM,lD,r'⟩:=hm;rw[ho]at lD;cases lD;exact⟨_,es',tM,hL,r'⟩) hok hg
theorem Inv.turned{t':Nat}{it:Addr}(I:Inv X pins σ H s)(k:∀b o,b≠it->s.heap.get? b=some o->h'.get? b=some o)(hn:H it=none)(hL:it≠X.env.locals)
 (h1:it∈X.ex\/X.s₀.heap.objs.size<=it) (h2:∀x c,X.env.cells.lookup x=some c->c≠it) (h3:∀p∈X.pn++pins,p.1≠it):Inv X pins σ H { s with heap:=h',toks:=t' }:=by
 have tN:∀b u,H b=some u->b≠it:=fun b u e z=>by rw[z,hn]at e;cases e
 refine I.step (g':=s.gens) (d':=s.drawn) (ch:=[it]) (fun b hb=>?_) (fun b o _ _ hc e _=>k b o (fun z=>hc (by simp[z])) e) (fun b o _ _ hc e _=>⟨o.slots,k b o (fun z=>hc (by simp[z])) e⟩) (fun _ _ _ _ n=>n)
  (fun b o hc e=>⟨o,k b o (fun z=>hc (by simp[z])) e⟩) (fun _ _ e=>e) (fun _ _ _ e=>e) (fun b ps e=>⟨#[],by rw[e];simp⟩) (fun m hm=>?_) (fun b u e=>?_) I.bare
 . have e:b=it:=by simpa using hb
   subst e;exact⟨h1,hL,h2,h3⟩
 . obtain⟨o,es,ep,ho,r⟩:=hm;exact⟨o,es,ep,k _ o (dQ hL) ho,r⟩
 . refine(I.hok b u e).stay (fun c v hc q=>k c v ?_ q) (fun _ q=>q) fun _ _ q=>q
   rcases hc with z | z
   . rw[z];exact tN b u e
   . exact tN c _ z
theorem Inv.tok(I:Inv X pins σ H s)(t:Nat):Inv X pins σ H { s with toks:=t }:=I.un (h':=s.heap) (t':=t) Un.refl I.hok
theorem Inv.kept{t':Nat}(I:Inv X pins σ H s)(k:∀b u,s.heap.get? b=some u->h'.get? b=some u):Inv X pins σ H { s with heap:=h',toks:=t' }:=I.un (Un.kept k) (I.hok.kept k)
theorem Inv.laid{a:Addr}{o:HO}{t':Nat}(I:Inv X pins σ H s)(k:∀b u,s.heap.get? b=some u->h'.get? b=some u)(hp:s.heap.objs.size<=a)(new:bN X.prog X.w (ak H a o) h' a o) :
 Inv X pins σ (ak H a o) { s with heap:=h',toks:=t' }:=I.un (Un.laid k hp (I.hok.fresh hp)) (I.hok.laid k hp new)
theorem Inv.write{x e:Addr}{o:HO}{t':Nat}(I:Inv X pins σ H s)(mu:tK (H x))(he:e=x\/H e=some (.own x))(k:∀b u,b≠e->s.heap.get? b=some u->h'.get? b=some u)(qX:∃u,h'.get? e=some u)
 (new:bN X.prog X.w (ak H x o) h' x o):Inv X pins σ (ak H x o) { s with heap:=h',toks:=t' }:=I.un (Un.write mu he k qX) (I.hok.write mu he k qX new)
theorem Inv.pins_of{AO:Po}(I:Inv X pins σ H s)(h:∀p∈AO,s.heap.get? p.1=some p.2/\H p.1=none/\p.1≠X.env.locals/\p.1∉X.fs/\∀v,p.2.data≠.cell v):Inv X AO σ H s:=
 ⟨I.ok,I.os,I.bare,I.base,I.loc,I.cell,I.free,I.freeC,fun p hp=>(cU.mp hp).elim (fun z=>I.pin p (oO _ z)) (h p),I.hok,I.len⟩
theorem GL{N:Ls}(hN:N.Nodup){i j:Nat}{x:Str}(a:N[i]? = some x)(b:N[j]? = some x):i=j:=by
 obtain⟨h1,e1⟩:=bZ.mp a;obtain⟨h2,e2⟩:=bZ.mp b;exact(Ot hN).mp (e1.trans e2.symm)
theorem GN{M:Model}{A:Around}{E:VP}{i:Nat}{x:Str}{v:V}{u:Value}{Q:Unit->Shared->Prop}(I:Inv X pins σ H s)(hN:X.N.Nodup)(hi:X.N[i]? = some x)(hx:Loc X.env.scope x)(r:RelV v u)
 (h:∀s',Inv X pins (σ.set i (some v)) H s'->(∃a,Heap.SameBut a s.heap s'.heap/\(a=X.env.locals\/X.env.cells.lookup x=some a))->Q () s') (hf:X.fn x=true\/X.env.scope.names.lookup x=some .local:=by first | exact .inl rfl | exact .inr rfl | assumption):wpAny M A (storeName X.env x u) Q E s:=by
 obtain⟨m,hn,hl⟩:=id I.loc;have P8:(X.env.scope.kind == .class || (X.env.scope.kind == .module && X.env.locals != X.env.globals))=false:=by rw[I.ok.kind];rfl
 have GO:i<σ.length:=by rw[I.len];exact(bZ.mp hi).1
 have cne:=I.cne;have tracked:∀{a:Addr} {h':Heap},(∃o,s.heap.get? a=some o/\H a=none)->Heap.SameBut a s.heap h'->b7 X.prog X.w H h':=fun {a h'} ha hs b ob e=>by
  obtain⟨_,_,GP⟩:=ha;refine(I.hok b ob e).stay (fun c w' hc q=>(hs.2 c ?_).trans q) (fun _ q=>q) fun _ _ q=>q;rintro rfl
  rcases hc with rfl | hc
  . rw[GP]at e;cases e
  . rw[GP]at hc;cases hc
 rcases hx with hk | hk
 . refine wpAny_storeName_local hk hn (fun h' ky hs=>?_) P8;obtain⟨oL,_,_,fZ,_⟩:=id hn;refine h _ ⟨I.ok,I.os,I.bare,⟨fun b o e n hb hx=>?_,fun b o e n hb hx=>?_,I.base.free,fun b o e hx=>?_,I.base.tups,I.base.frzs,I.base.tbls⟩,⟨_,ky,fun j y v' e1 e2 e3=>?_⟩,fun y c e=>?_,I.free,I.freeC,fun p hp=>?_,tracked ⟨oL,fZ,I.free⟩ hs,by simpa using I.len⟩ ⟨_,hs,.inl rfl⟩
   . exact(hs.2 b (bH (fw (aT e) I.ok.above))).trans (I.base.keep b o e n hb hx)
   . obtain⟨sl,e1⟩:=I.base.slot b o e n hb hx;exact⟨sl,(hs.2 b (bH (fw (aT e) I.ok.above))).trans e1⟩
   . obtain⟨o',e1⟩:=I.base.there b o e hx;exact⟨o',(hs.2 b (bH (fw (aT e) I.ok.above))).trans e1⟩
   . by_cases hj:j=i
     . subst hj;rw[hi]at e1;cases e1;rw[ajm GO]at e2;cases e2;exact⟨u,r,.inl ⟨hk,by simp⟩⟩
     . rw[List.getElem?_set_ne (dQ hj)]at e2;obtain⟨u',r',q⟩:=hl j y v' e1 e2 e3;refine⟨u',r',?_⟩
       rcases q with⟨k,e⟩ | ⟨k,c,e,z⟩
       . refine .inl ⟨k,?_⟩;have:y≠x:=fun e=>hj (GL hN e1 (e▸hi));simp[this,e]
       . exact .inr ⟨k,c,e,z.sameBut hs (cne y c e)⟩
   . obtain⟨w',z⟩:=I.cell y c e;exact⟨w',z.sameBut hs (cne y c e)⟩
   . obtain⟨e,n,ne,nf,d⟩:=I.pin p hp;exact⟨(hs.2 p.1 ne).trans e,n,ne,nf,d⟩
 . have qY:X.fn x=true:=by
    rcases hf with z | z
    . exact z
    . rw[z]at hk;cases hk
   obtain⟨c,hc⟩:=I.ok.has x (.inl hk);obtain⟨w',z⟩:=I.cell x c hc;refine wpAny_storeName_cell I.ok.kind hk hc z (fun h' fB hs=>?_);obtain⟨oc,lE,P9⟩:=id z;refine h { s with heap:=h' } ⟨I.ok,I.os,I.bare,⟨fun b o e n hb hx=>?_,fun b o e n hb hx=>?_,I.base.free,fun b o e hx=>?_,I.base.tups,I.base.frzs,I.base.tbls⟩,⟨m,hn.sameBut hs (dQ (cne x c hc)),fun j y v' e1 e2 e3=>?_⟩,fun y c' e=>?_,I.free,I.freeC,fun p hp=>?_,tracked ⟨oc,lE,I.freeC x c hc⟩ hs,by simpa using I.len⟩ ⟨c,hs,.inr hc⟩
   . exact(hs.2 b (bH (fw (aT e) (I.ok.cab x c qY hc)))).trans (I.base.keep b o e n hb hx)
   . obtain⟨sl,e1⟩:=I.base.slot b o e n hb hx;exact⟨sl,(hs.2 b (bH (fw (aT e) (I.ok.cab x c qY hc)))).trans e1⟩
   . obtain⟨o',e1⟩:=I.base.there b o e hx;exact⟨o',(hs.2 b (bH (fw (aT e) (I.ok.cab x c qY hc)))).trans e1⟩
   . by_cases hj:j=i
     . subst hj;rw[hi]at e1;cases e1;rw[ajm GO]at e2;cases e2;exact⟨u,r,.inr ⟨.inl hk,c,hc,fB⟩⟩
     . rw[List.getElem?_set_ne (dQ hj)]at e2;obtain⟨u',r',q⟩:=hl j y v' e1 e2 e3;refine⟨u',r',?_⟩
       rcases q with q | ⟨k,c',e,z'⟩
       . exact .inl q
       . refine .inr ⟨k,c',e,z'.sameBut hs ?_⟩;rintro rfl;exact hj (GL hN e1 (I.ok.inj _ _ _ e hc▸hi))
   . by_cases lF:c'=c
     . subst lF;exact⟨_,fB⟩
     . obtain⟨w2,z2⟩:=I.cell y c' e;exact⟨w2,z2.sameBut hs lF⟩
   . obtain⟨e,n,ne,nf,d⟩:=I.pin p hp;refine⟨(hs.2 p.1 ?_).trans e,n,ne,nf,d⟩;intro q;rw[q,lE]at e;have q':oc=p.2:=gn e;exact d w' (by rw[←q'];exact P9)
theorem GQ{M:Model}{A:Around}{E:VP}{i:Nat}{x:Str}{v:V}{u:Value}{Q:Unit->Shared->Prop}(I:Inv X pins σ H s)(hN:X.N.Nodup)(hi:X.N[i]? = some x)(hx:Loc X.env.scope x)(r:RelV v u)
 (h:∀s',Inv X pins (σ.set i (some v)) H s'->Q () s') (hf:X.fn x=true\/X.env.scope.names.lookup x=some .local:=by first | exact .inl rfl | exact .inr rfl | assumption):wpAny M A (storeName X.env x u) Q E s:=
 GN I hN hi hx r (fun s' I' _=>h s' I') hf
theorem Inv.call'{s':Shared}{ch:List Addr}(I:Inv X pins σ H s)(ho:s'.os=s.os)(u:Un (ip X.stack) ch H H' s.heap s'.heap)(hok:b7 X.prog X.w H' s'.heap)(hg:AllBare s'.gens)
 (dF:∀b∈ch,(b∈X.ex\/X.s₀.heap.objs.size<=b)/\b≠X.env.locals/\(∀x c,X.env.cells.lookup x=some c->c≠b)/\∀p∈X.pn++pins,p.1≠b):Inv X pins σ H' s':=by
 obtain⟨h',g',d',t',o'⟩:=s';have e:o'=s.os:=ho;subst e;exact I.call (g':=g') (t':=t') (d':=d') u hok hg dF
end
abbrev XK:=Value->Oa->Hp->Prop
abbrev St:=List (Option V)
abbrev VK:=V->Hp->Prop
abbrev TE:=St->Hp->VK->Prop
abbrev TT:=St->Hp->(Bool->Hp->Prop)->Prop
abbrev TA:=St->Hp->(Lv->Hp->Prop)->Prop
structure Ends where
 nx:St->Hp->Prop
 rt:VK
 bk:St->Hp->Prop:=fun _ _=>False
 ct:St->Hp->Prop:=fun _ _=>False
abbrev TS:=Ends->St->Hp->Prop
def EP(X:Cx)(pins:Po)(σ:St)(Q:VK)(u:Value)(s':Shared):Prop:=∃v H',Inv X pins σ H' s'/\RelV v u/\Q v H'
def TP(X:Cx)(pins:Po)(σ:St)(Q:Bool->Hp->Prop)(b:Bool)(s':Shared):Prop:=∃H',Inv X pins σ H' s'/\Q b H'
def AP(X:Cx)(pins:Po)(σ:St)(Q:Lv->Hp->Prop)(us:Lw)(s':Shared):Prop:=∃vs H',Inv X pins σ H' s'/\aH vs us/\Q vs H'
def SP(X:Cx)(pins:Po)(D:Ends)(f:Flow)(s':Shared):Prop:=
 match f with
 | .next=>∃σ' H',Inv X pins σ' H' s'/\D.nx σ' H'
 | .brk=>∃σ' H',Inv X pins σ' H' s'/\D.bk σ' H'
 | .cont=>∃σ' H',Inv X pins σ' H' s'/\D.ct σ' H'
 | .ret u=>∃v σ' H',Inv X pins σ' H' s'/\RelV v u/\D.rt v H'
def PE(X:Cx)(e:Expr)(t:TE):Prop:=
 ∀(pins:Po) (s:Shared) (σ:St) (H:Hp) (Q:VK),Inv X pins σ H s->t σ H Q->wpAny (model X.prog X.w) X.A (eval e X.env) (EP X pins σ Q) X.xe s
def PT(X:Cx)(e:Expr)(t:TT):Prop:=
 ∀(pins:Po) (s:Shared) (σ:St) (H:Hp) (Q:Bool->Hp->Prop),Inv X pins σ H s->t σ H Q->wpAny (model X.prog X.w) X.A (isTrue e X.env (eval e X.env)) (TP X pins σ Q) X.xe s
def PW(X:Cx)(e:Expr)(t:TT):Prop:=
 ∀(whole:Sem Value) (pins:Po) (s:Shared) (σ:St) (H:Hp) (Q:Bool->Hp->Prop),Inv X pins σ H s->t σ H Q->wpAny (model X.prog X.w) X.A (isTrue e X.env whole) (TP X pins σ Q) X.xe s
theorem PW.pt{X:Cx}{e:Expr}{t:TT}(h:PW X e t):PT X e t:=h _
def PA(X:Cx)(es:List Expr)(t:TA):Prop:=
 ∀(pos:Pos) (pins:Po) (s:Shared) (σ:St) (H:Hp) (Q:Lv->Hp->Prop),Inv X pins σ H s->t σ H Q->wpAny (model X.prog X.w) X.A (spliced (backTo pos (starEach es X.env))) (AP X pins σ Q) X.xe s
def PS(X:Cx)(st:Stmt)(t:TS):Prop:=
 ∀(pins:Po) (s:Shared) (σ:St) (H:Hp) (D:Ends),Inv X pins σ H s->t D σ H->wpAny (model X.prog X.w) X.A (exec st X.env) (SP X pins D) X.xe s
def dH(X:Cx)(st:List Stmt)(t:TS):Prop:=
 ∀(pins:Po) (s:Shared) (σ:St) (H:Hp) (D:Ends),Inv X pins σ H s->t D σ H->wpAny (model X.prog X.w) X.A (execs st X.env) (SP X pins D) X.xe s
theorem thn{α:Type}{t:Sem α}{Q Q':α->Shared->Prop}{M:Model}{A:Around}{E:VP}{s:Shared}(h:wpAny M A t Q E s)(hQ:∀a s,Q a s->Q' a s):wpAny M A t Q' E s:=df h hQ fun _ _ x=>x
section
variable {X:Cx}
def qZ(i:Nat):TE:=fun σ H Q=>∃v,σ[i]? = some (some v)/\Q v H
def tC(v:V):TE:=fun _ H Q=>Q v H
theorem Qa{i:Nat}{x:Str}{pos:Pos}(hN:X.N[i]? = some x)(hv:wV X.env.scope x)(hd:(x == ("__debug__":Str))=false:=by decide)(iq:(x == ("__classdict__":Str))=false:=by decide):PE X (.Name x pos) (qZ i):=by
 intro pins s σ H Q I h;obtain⟨v,e,h⟩:=h;obtain⟨m,hn,hl⟩:=I.loc;obtain⟨u,r,l⟩:=hl i x v hN e hv;have fin:EP X pins σ Q u s:=⟨v,H,I,r,h⟩
 rcases l with⟨hk,hm⟩ | ⟨hk,c,hc,hcell⟩
 . exact wpAny_Name (wpAny_loadName_local I.ok.kind hk hn hm fin) hd
 . rcases hk with hk | hk
   . exact wpAny_Name (wpAny_loadName_cell I.ok.kind hk hc hcell fin) hd
   . exact wpAny_Name (wpAny_loadName_free I.ok.kind hk hc hcell fin iq) hd
theorem ap{i j pos}:PE X (.Constant (.int i) j pos) (tC (.int i)):=fun _ _ _ H _ I h=>wpAny_Constant_int ⟨.int i,H,I.tok _,⟨_,rfl⟩,h⟩
theorem mQ{b j pos}:PE X (.Constant (.bool b) j pos) (tC (.bl b)):=fun _ _ _ H _ I h=>Constant_bool ⟨.bl b,H,I,rfl,h⟩
theorem q0{j pos}:PE X (.Constant .none j pos) (tC .non):=fun _ _ _ H _ I h=>Constant_none ⟨.non,H,I,rfl,h⟩
theorem tO{x j pos}:PE X (.Constant (.str x) j pos) (tC (.str x)):=fun _ _ _ H _ I h=>Calls.Constant_str ⟨.str x,H,I.tok _,⟨_,rfl⟩,h⟩
def Gl(X:Cx)(x:Str):Prop:=X.env.kindOf x=some .globalImplicit
theorem GR{E:VP}{pins:Po}{s:Shared}{σ:St}{H:Hp}{x:Str}{u:Value}{pos:Pos}{Q:VP}(I:Inv X pins σ H s)(hg:Gl X x)(hm:X.mg x=some u)(h:Q u s)
 (hd:(x == ("__debug__":Str))=false:=by decide):wpAny (model X.prog X.w) X.A (eval (.Name x pos) X.env) Q E s:=
 ajn I.ok.kind hg (Calls.loadGlobal_global (by rw[I.ok.glob];exact I.mod.glob.keeps I.bk) hm h) hd
theorem oZ{E:VP}{pins:Po}{s:Shared}{σ:St}{H:Hp}{x:Str}{u:Value}{pos:Pos}{Q:VP}(I:Inv X pins σ H s)(hg:Gl X x)(hm:X.mg x=none)(hv:bootBuiltins x=some u)(h:Q u s)
 (hn:x≠"__name__":=by decide) (hd:(x == ("__debug__":Str))=false:=by decide):wpAny (model X.prog X.w) X.A (eval (.Name x pos) X.env) Q E s:=by
 obtain⟨mb,h1,h2⟩:=I.mod.blt;exact ajn I.ok.kind hg (Calls.loadGlobal_builtin (by rw[I.ok.glob];exact I.mod.glob.keeps I.bk) hm (by rw[I.ok.blt];exact h1.keeps I.bk) ((h2 x hn).trans hv) h) hd
theorem GS{x:Str}{v:V}{u:Value}{pos:Pos}(hg:Gl X x)(hm:X.mg x=none)(hv:bootBuiltins x=some u)(r:RelV v u)(hn:x≠"__name__":=by decide)(hd:(x == ("__debug__":Str))=false:=by decide):PE X (.Name x pos) (tC v):=
 fun _ _ _ H _ I h=>oZ I hg hm hv ⟨v,H,I,r,h⟩ hn hd
variable {a b:Expr} {ta tb:TE} {pos:Pos}
def PC(X:Cx)(op:CmpOp)(a b:Expr)(t:TE):Prop:=
 ∀(pins:Po) (s:Shared) (σ:St) (H:Hp) (Q:VK),Inv X pins σ H s->t σ H Q ->
  wpAny (model X.prog X.w) X.A (eval a X.env) (fun v s₁=>wpAny (model X.prog X.w) X.A (eval b X.env) (fun u s₂=>wpAny (model X.prog X.w) X.A (compareOp op v u) (EP X pins σ Q) X.xe s₂) X.xe s₁) X.xe s
def tB(t:TE):TT:=fun σ H Q=>t σ H fun x H1=>∃c,x = .bl c/\Q c H1
theorem wX{op:CmpOp}{t:TE}(h:PC X op a b t)(h1:behindInMarks op b=false:=by first | exact nobehind _ (by decide) (by decide) | rfl):PT X (.Compare a [op] [b] pos) (tB t):=by
 intro pins s σ H Q I hw;refine ajo (thn (h pins s σ H _ I hw) fun v s1 h1=>thn h1 fun u s2 h2=>thn h2 fun c s3 Qb=>Qb.elim fun x Qc=>Qc.elim fun H1 Qe=>Qe.elim fun I1 Qf=>Qf.elim fun r1 q1=>?_) h1;obtain⟨d,rfl,q⟩:=q1;cases r1;exact qK ⟨H1,I1,q⟩
theorem jj{e:Expr}{t:TE}(h:PE X e t)(he:∀whole,isTrue e X.env whole=(do let v ←whole;standAt e.pos;holding [v] (truthy v)):=by intro _;rfl):PT X e (tB t):=by
 intro pins s σ H Q I hw;refine isTrue_plain (thn (h pins s σ H _ I hw) fun v s1 Qg=>Qg.elim fun x Qh=>Qh.elim fun H1 Qi=>Qi.elim fun I1 Qj=>Qj.elim fun r1 q1=>?_) (he _);obtain⟨d,rfl,q⟩:=q1;cases r1;exact qK ⟨H1,I1,q⟩
variable {tA wY:TT} {rest:List Expr}
def Qk(t u:TT):TT:=fun σ H Q=>t σ H fun c H1=>if c=true then u σ H1 Q else Q false H1
def Ql(t u:TT):TT:=fun σ H Q=>t σ H fun c H1=>if c=true then Q true H1 else u σ H1 Q
def Qm(t:TT):TT:=fun σ H Q=>t σ H fun c H1=>Q (!c) H1
theorem wZ(ha:PT X a tA):PW X (.BoolOp .And [a] pos) tA:=by
 intro wh pins s σ H Q I h;refine isTrue_and (thn (ha pins s σ H Q I h) fun c s1 e=>?_);cases c with
 | true=>exact isTrue_and_nil e
 | false=>exact e
theorem w4(ha:PT X a tA):PW X (.BoolOp .Or [a] pos) tA:=by
 intro wh pins s σ H Q I h;refine isTrue_or (thn (ha pins s σ H Q I h) fun c s1 e=>?_);cases c with
 | false=>exact isTrue_or_nil e
 | true=>exact e
theorem w5(ha:PT X a tA)(hb:PW X (.BoolOp .And (b::rest) pos) wY):PW X (.BoolOp .And (a::b::rest) pos) (Qk tA wY):=by
 intro wh pins s σ H Q I h;refine isTrue_and (thn (ha pins s σ H _ I h) fun c s1 Qn=>Qn.elim fun H1 Qo=>Qo.elim fun I1 q1=>?_);cases c with
 | true=>exact hb wh pins s1 σ H1 Q I1 q1
 | false=>exact⟨H1,I1,q1⟩
theorem o0(ha:PT X a tA)(hb:PW X (.BoolOp .Or (b::rest) pos) wY):PW X (.BoolOp .Or (a::b::rest) pos) (Ql tA wY):=by
 intro wh pins s σ H Q I h;refine isTrue_or (thn (ha pins s σ H _ I h) fun c s1 Qp=>Qp.elim fun H1 Qq=>Qq.elim fun I1 q1=>?_);cases c with
 | true=>exact⟨H1,I1,q1⟩
 | false=>exact hb wh pins s1 σ H1 Q I1 q1
theorem w6(ha:PT X a tA):PT X (.UnaryOp .Not a pos) (Qm tA):=by
 intro pins s σ H Q I h;exact isTrue_not (ha pins s σ H (fun c H1=>Q (!c) H1) I h)
def Qs(ta tb:TE):TE:=fun σ H Q=>ta σ H fun x H1=>∃c,x = .bl c/\if c=true then tb σ H1 Q else Q (.bl false) H1
def Qt(ta tb:TE):TE:=fun σ H Q=>ta σ H fun x H1=>∃c,x = .bl c/\if c=true then Q (.bl true) H1 else tb σ H1 Q
theorem o4{op}{t:TE}(h:PE X a t):PE X (.BoolOp op [a] pos) t:=fun pins s σ H Q I hw=>BoolOp_one (h pins s σ H Q I hw)
theorem q5(ha:PE X a ta)(hb:PE X (.BoolOp .And (b::rest) pos) tb):PE X (.BoolOp .And (a::b::rest) pos) (Qs ta tb):=by
 intro pins s σ H Q I h;refine BoolOp_and (thn (ha pins s σ H _ I h) fun v s1 Qu=>Qu.elim fun x Qv=>Qv.elim fun H1 Qw=>Qw.elim fun I1 Qx=>Qx.elim fun r1 q1=>?_);obtain⟨c,rfl,q1⟩:=q1;cases r1;refine qK ?_;cases c with
 | true=>exact hb pins s1 σ H1 Q I1 q1
 | false=>exact⟨.bl false,H1,I1,rfl,q1⟩
theorem GU(ha:PE X a ta)(hb:PE X (.BoolOp .Or (b::rest) pos) tb):PE X (.BoolOp .Or (a::b::rest) pos) (Qt ta tb):=by
 intro pins s σ H Q I h;refine BoolOp_or (thn (ha pins s σ H _ I h) fun v s1 Qy=>Qy.elim fun x Qz=>Qz.elim fun H1 QA=>QA.elim fun I1 QB=>QB.elim fun r1 q1=>?_);obtain⟨c,rfl,q1⟩:=q1;cases r1;refine qK ?_;cases c with
 | false=>exact hb pins s1 σ H1 Q I1 q1
 | true=>exact⟨.bl true,H1,I1,rfl,q1⟩
end
def ae(K:Fg)(H:Hp)(a:Addr)(xs:Lv):Prop:=
 Rd H a (.lst xs) \/
  ∃(o:Obj) (its:Av) (n:Nat),K.lookup a=some o/\o.cls = .type "list"/\o.dict=none/\o.data = .seq its n/\its.size<=sizeLine/\aH xs its.toList
def aI(K:Fg)(H:Hp)(a:Addr)(xs:Lv):Prop:=
 Rd H a (.tup xs) \/
  ∃(o:Obj) (its:Av) (n:Nat),K.lookup a=some o/\o.cls = .type "tuple"/\o.data = .seq its n/\its.size<=sizeLine/\aH xs its.toList
def QC:Value->Option V
 | .none=>some .non
 | .bool b=>some (.bl b)
 | .int i _=>some (.int i)
 | .str x _=>some (.str x)
 | .bytes b _=>some (.byt b)
 | .float b _=>some (.flt b)
 | .ref a=>some (.ref a)
 | .type n=>some (.ty n)
 | _=>none
theorem RelV.abs{x:V}{u:Value}(r:RelV x u):QC u=some x:=by
 cases x with
 | non=>cases r;rfl
 | bl _=>cases r;rfl
 | int _=>obtain⟨t,rfl⟩:=r;rfl
 | str _=>obtain⟨t,rfl⟩:=r;rfl
 | byt _=>obtain⟨t,rfl⟩:=r;rfl
 | flt _=>obtain⟨t,rfl⟩:=r;rfl
 | ref _=>cases r;rfl
 | ty _=>cases r;rfl
theorem RelV.inj{x y:V}{u:Value}(r:RelV x u)(q:RelV y u):x=y:=gn (r.abs.symm.trans q.abs)
theorem aH.inj:∀{xs ys:Lv} {us:Lw},aH xs us->aH ys us->xs=ys
 | _,_,_,.nil,.nil=>rfl
 | _,_,_,.cons r t,.cons r' t'=>by rw[r.inj r',aH.inj t t']
section
variable {X:Cx} {pins:Po} {σ:St} {H:Hp} {s:Shared} {a:Addr} {xs ys:Lv}
theorem ae.of{K:Fg}(h:H a=some (.lst xs)):ae K H a xs:=.inl (.inl h)
theorem aI.of{K:Fg}(h:H a=some (.tup xs)):aI K H a xs:=.inl (.inl h)
theorem Inv.list(I:Inv X pins σ H s)(h:ae X.K H a xs):∃its:Lw,aH xs its/\PlainL s.heap a its.toArray/\xs.length<=sizeLine:=by
 rcases h with h | ⟨o,its,n,hk,hc,hd,hs,hz,r⟩
 . obtain⟨z,its,n,r,e⟩:=h.ok I.hok;exact⟨its,r,⟨_,n,e,rfl,rfl,rfl⟩,z⟩
 . refine⟨its.toList,r,⟨o,n,I.kIn a o hk,hc,hd,by simpa using hs⟩,?_⟩;have e:=r.length;simp only[cK]at e;omega
theorem Inv.tuple(I:Inv X pins σ H s)(h:aI X.K H a xs):∃its:Lw,aH xs its/\IsTup s.heap a its.toArray/\xs.length<=sizeLine:=by
 rcases h with h | ⟨o,its,n,hk,hc,hs,hz,r⟩
 . obtain⟨z,its,r,p⟩:=h.ok I.hok;exact⟨its,r,p,z⟩
 . refine⟨its.toList,r,⟨o,I.kIn a o hk,hc,n,by simpa using hs⟩,?_⟩;have e:=r.length;simp only[cK]at e;omega
theorem Inv.list_inj(I:Inv X pins σ H s)(h:ae X.K H a xs)(h':ae X.K H a ys):xs=ys:=by
 obtain⟨its,r,⟨o,n,e,_,_,d⟩,_⟩:=I.list h;obtain⟨its',r',⟨o',n',e',_,_,d'⟩,_⟩:=I.list h';rw[e]at e';cases e';rw[d]at d';injection d' with d1 _
 have:its=its':=by simpa using fQ Array.toList d1
 subst this;exact r.inj r'
end
abbrev Cx.wish (X:Cx) (E:VP):Cx:={ X with xe:=E }
abbrev Cx.nox (X:Cx):Cx:=X.wish fun _ _=>False
theorem Cx.Ok.wish{X:Cx}(ok:X.Ok)(E:VP):(X.wish E).Ok:=
 ⟨ok.mod,ok.kind,ok.glob,ok.blt,ok.above,ok.inj,ok.has,ok.cab,ok.hd,ok.frames,ok.stk,ok.exf,ok.bs,ok.bsz,ok.noex,ok.exfs,ok.funs,ok.frf⟩
theorem Cx.Ok.unwish{X:Cx}{E:VP}(ok:(X.wish E).Ok):X.Ok:=
 ⟨ok.mod,ok.kind,ok.glob,ok.blt,ok.above,ok.inj,ok.has,ok.cab,ok.hd,ok.frames,ok.stk,ok.exf,ok.bs,ok.bsz,ok.noex,ok.exfs,ok.funs,ok.frf⟩
section
variable {X:Cx} {pins:Po} {σ:St} {H:Hp} {s:Shared} {E:VP}
theorem Inv.wish(I:Inv X pins σ H s)(E:VP):Inv (X.wish E) pins σ H s:=⟨I.ok.wish E,I.os,I.bare,I.base,I.loc,I.cell,I.free,I.freeC,I.pin,I.hok,I.len⟩
theorem Inv.unwish(I:Inv (X.wish E) pins σ H s):Inv X pins σ H s:=⟨I.ok.unwish,I.os,I.bare,I.base,I.loc,I.cell,I.free,I.freeC,I.pin,I.hok,I.len⟩
theorem SP.unwish{D:Ends}{f:Flow}{s':Shared}(h:SP (X.wish E) pins D f s'):SP X pins D f s':=by
 cases f with
 | next=>obtain⟨σ',H',I,q⟩:=h;exact⟨σ',H',I.unwish,q⟩
 | brk=>obtain⟨σ',H',I,q⟩:=h;exact⟨σ',H',I.unwish,q⟩
 | cont=>obtain⟨σ',H',I,q⟩:=h;exact⟨σ',H',I.unwish,q⟩
 | ret u=>obtain⟨v,σ',H',I,r,q⟩:=h;exact⟨v,σ',H',I.unwish,r,q⟩
theorem dH.nox{st:List Stmt}{t:TS}(h:dH X.nox st t):dH X st t:=fun pins s σ H D I hw=>
 df (h pins s σ H D (I.wish _) hw) (fun _ _ q=>q.unwish) fun _ _ z=>False.elim z
end
section
variable {X:Cx} {st:Stmt} {rest:List Stmt} {t u:TS} {e:Expr} {te:TE} {pos:Pos}
def QD:TS:=fun D σ H=>D.nx σ H
def aN(t u:TS):TS:=fun D σ H=>t { D with nx:=u D } σ H
theorem eO:dH X [] QD:=fun _ _ σ H _ I h=>Fz ⟨σ,H,I,h⟩
theorem aA(h1:PS X st t)(h2:dH X rest u):dH X (st::rest) (aN t u):=by
 intro pins s σ H D I h;refine Ou (thn (h1 pins s σ H { D with nx:=u D } I h) fun f s1 q=>?_);cases f with
 | next=>
  obtain⟨σ',H',I',q⟩:=q;exact h2 pins s1 σ' H' D I' q
 | ret v=>exact q
 | brk=>exact q
 | cont=>exact q
theorem aG(h1:PS X st t):dH X [st] t:=by
 intro pins s σ H D I h;refine Ou (thn (h1 pins s σ H D I h) fun f s1 q=>?_);cases f with
 | next=>exact Fz q
 | ret v=>exact q
 | brk=>exact q
 | cont=>exact q
theorem Inv.quiet{pins:Po}{σ:St}{H:Hp}{s:Shared}(I:Inv X pins σ H s):interactive X.env=false:=by simp[interactive,I.ok.kind]
def QE(te:TE):TS:=fun D σ H=>te σ H fun _ H1=>D.nx σ H1
theorem gR(he:PE X e te)(hs:swapsWith e none pos.line X.env=pure false:=by rfl):PS X (.Expr e pos) (QE te):=by
 intro pins s σ H D I h;exact wpAny_Expr_any (thn (he pins s σ H _ I h) fun v s1 QF=>QF.elim fun x QG=>QG.elim fun H1 QH=>QH.elim fun I1 QI=>QI.elim fun r1 q1=>⟨σ,H1,I1,q1⟩) I.quiet hs
def QJ(te:TE):TS:=fun D σ H=>te σ H D.rt
theorem bE(he:PE X e te):PS X (.Return (some e) pos) (QJ te):=by
 intro pins s σ H D I h;exact wpAny_Return_some (thn (he pins s σ H _ I h) fun v s1 QK=>QK.elim fun x QL=>QL.elim fun H1 QM=>QM.elim fun I1 QN=>QN.elim fun r1 q1=>⟨x,σ,H1,I1,r1,q1⟩)
def QO(c:TT)(t u:TS):TS:=fun D σ H=>c σ H fun b H1=>if b=true then t D σ H1 else u D σ H1
theorem ej{c:Expr}{a b:List Stmt}{tc:TT}(hc:PT X c tc)(ha:dH X a t)(hb:dH X b u):PS X (.If c a b pos) (QO tc t u):=by
 intro pins s σ H D I h;refine wpAny_If (thn (hc pins s σ H _ I h) fun d s1 QP=>QP.elim fun H1 QQ=>QQ.elim fun I1 q1=>?_);cases d with
 | true=>exact ha pins s1 σ H1 D I1 q1
 | false=>exact hb pins s1 σ H1 D I1 q1
def QR:TS:=fun _ _ _=>False
theorem QS:PS X st QR:=fun _ _ _ _ _ _ h=>h.elim
end
abbrev TG:=V->St->Hp->(St->Hp->Prop)->Prop
abbrev mR:=Lv->St->Hp->(St->Hp->Prop)->Prop
def PG(X:Cx)(target:Expr)(t:TG):Prop:=
 ∀(pins:Po) (s:Shared) (σ:St) (H:Hp) (v:V) (u:Value) (Q:St->Hp->Prop),Inv X pins σ H s->RelV v u->t v σ H Q ->
  wpAny (model X.prog X.w) X.A (assign target X.env u) (fun _ s'=>∃σ' H',Inv X pins σ' H' s'/\Q σ' H') X.xe s
def jO(X:Cx)(ts:List Expr)(t:mR):Prop:=
 ∀(pins:Po) (s:Shared) (σ:St) (H:Hp) (vs:Lv) (us:Lw) (Q:St->Hp->Prop),Inv X pins σ H s->aH vs us->t vs σ H Q ->
  wpAny (model X.prog X.w) X.A (assignInOrder ((assignEach ts X.env).map (·.2)) us) (fun _ s'=>∃σ' H',Inv X pins σ' H' s'/\Q σ' H') X.xe s
section
variable {X:Cx} {pos:Pos}
def mS(i:Nat):TG:=fun v σ H Q=>Q (σ.set i (some v)) H
theorem aX{i:Nat}{x:Str}(hN:X.N.Nodup)(hi:X.N[i]? = some x)(hx:Loc X.env.scope x)(hf:X.fn x=true\/X.env.scope.names.lookup x=some .local:=by first | exact .inl rfl | exact .inr rfl | assumption):PG X (.Name x pos) (mS i):=by
 intro pins s σ H v u Q I r h;exact wpAny_assign_Name (GQ I hN hi hx r (fun s' I'=>⟨_,H,I',h⟩) hf)
def AQ:mR:=fun vs σ H Q=>vs = []/\Q σ H
def tP(t:TG)(u:mR):mR:=fun vs σ H Q=>∃v r,vs=v::r/\t v σ H fun σ' H'=>u r σ' H' Q
theorem q8:jO X [] AQ:=by
 intro pins s σ H vs us Q I r h;obtain⟨e,h⟩:=h;subst e;cases r;exact assignInOrder_nil ⟨σ,H,I,h⟩
theorem iN{e:Expr}{es:List Expr}{t:TG}{u:mR}(h1:PG X e t)(h2:jO X es u)
 (hs:(assignEach (e::es) X.env).map (·.2)=assign e X.env::(assignEach es X.env).map (·.2):=by rfl):jO X (e::es) (tP t u):=by
 intro pins s σ H vs us Q I r h;obtain⟨v,vr,e1,h⟩:=h;subst e1;cases r with
 | cons r rr=>
  rw[hs];refine assignInOrder_cons (thn (h1 pins s σ H _ _ _ I r h) fun _ s1 QT=>QT.elim fun σ1 QU=>QU.elim fun H1 QV=>QV.elim fun I1 q1=>?_);exact h2 pins s1 σ1 H1 _ _ Q I1 rr q1
def xa(K:Fg)(n:Nat)(t:mR):TG:=fun v σ H Q=>∃a xs,v = .ref a/\aI K H a xs/\xs.length=n/\t xs σ H Q
theorem rc{es:List Expr}{k:Nat}{t:mR}{n:Nat}(hc:X.calm=true)(h:jO X es t)
 (hn:(assignEach es X.env).length=n:=by rfl) (fC:(assignEach es X.env).findIdx? (·.1)=none:=by rfl):PG X (.Tuple es k pos) (xa X.K n t):=by
 intro pins s σ H v u Q I r hw;obtain⟨a,xs,e1,hq,hl,hw⟩:=hw;subst e1;cases r;obtain⟨its,rv,ht,hz⟩:=I.tuple hq;refine assign_Tuple_tuple (I.ok.hd hc) ht (by simp[hn,←hl,rv.length]) fC fun h' hx=>?_;have I1:Inv X pins σ H { s with heap:=h' }:=I.kept (t':=s.toks) fun b o e=>hx b o (bH (aT e)) e;exact h pins _ σ H xs _ Q I1 (by simpa using rv) hw
def AR(te:TE)(g:TG):TS:=fun D σ H=>te σ H fun x H1=>g x σ H1 D.nx
theorem QW{tg e:Expr}{te:TE}{g:TG}(he:PE X e te)(hg:PG X tg g)(hs:swapsWithSole [tg] e pos.line X.env=pure false:=by rfl)(hw:swappedStores [tg] e X.env=pure none:=by rfl)
 (h1:(assignEach [tg] X.env).map (·.2) = [assign tg X.env]:=by rfl):PS X (.Assign [tg] e pos) (AR te g):=by
 intro pins s σ H D I h;refine wpAny_Assign_stores (thn (he pins s σ H _ I h) fun v s1 QX=>QX.elim fun x QY=>QY.elim fun H1 QZ=>QZ.elim fun I1 Q0=>Q0.elim fun r1 q1=>?_) hs hw;rw[h1];exact thn (hg pins s1 σ H1 x v _ I1 r1 q1) fun _ s2 q=>q
theorem a9{i:Nat}{x:Str}{e:Expr}{te:TE}{pos':Pos}(hN:X.N.Nodup)(hi:X.N[i]? = some x)(hx:Loc X.env.scope x)(he:PE X e te)(hs:swapsWith e (some (.Name x pos')) pos.line X.env=pure false:=by rfl)(hf:X.fn x=true\/X.env.scope.names.lookup x=some .local:=by first | exact .inl rfl | exact .inr rfl | assumption) :
 PS X (.Assign [.Name x pos'] e pos) (AR te (mS i)):=by
 intro pins s σ H D I h;refine wpAny_Assign_Name (thn (he pins s σ H _ I h) fun v s1 Q1=>Q1.elim fun y Q2=>Q2.elim fun H1 Q3=>Q3.elim fun I1 Q4=>Q4.elim fun r1 q1=>?_) hs;exact GQ I1 hN hi hx r1 (fun s2 I2=>⟨_,H1,I2,q1⟩) hf
def Q5(c:TT)(tb:TS):TS:=fun D σ H=>∃W:Nat->St->Hp->Prop,(∃m,W m σ H)/\∀m σ H,W m σ H ->
 c σ H fun b H1=>if b=true then∃N:St->Hp->Prop,(∀σ' H',N σ' H'->∃m',m'<m/\W m' σ' H')/\tb { D with nx:=N,ct:=N,bk:=D.nx } σ H1 else D.nx σ H1
theorem Q6{c:Expr}{body:List Stmt}{tc:TT}{tb:TS}(hp:PassesOwn (model X.prog X.w) X.A X.env X.xe)(hc:PT X c tc)(hb:dH X body tb):PS X (.While c body [] pos) (Q5 tc tb):=by
 intro pins s σ H D I h;obtain⟨W,⟨m0,w0⟩,turn⟩:=h;refine wpAny_While (codeAny_whileLoop (fun n s'=>∃σ' H',Inv X pins σ' H' s'/\W n σ' H') ?_ m0 ⟨σ,H,I,w0⟩);rintro n s1 ⟨σ1,H1,I1,w1⟩;refine sX hp (thn (hc pins s1 σ1 H1 _ I1 (turn n σ1 H1 w1)) fun b s2 Q7=>Q7.elim fun H2 Q8=>Q8.elim fun I2 q2=>?_);cases b with
 | true=>
  obtain⟨N,hN,q2⟩:=q2;rw[ai rfl];refine sX hp (thn (hb pins s2 σ1 H2 _ I2 q2) fun f s3 q3=>?_);cases f with
  | next=>
   obtain⟨σ3,H3,I3,n3⟩:=q3;obtain⟨m',hm,w3⟩:=hN σ3 H3 n3;exact⟨m',hm,σ3,H3,I3,w3⟩
  | cont=>
   obtain⟨σ3,H3,I3,n3⟩:=q3;obtain⟨m',hm,w3⟩:=hN σ3 H3 n3;exact⟨m',hm,σ3,H3,I3,w3⟩
  | brk=>exact q3
  | ret v=>exact q3
 | false=>
  rw[af bB];exact Fz ⟨σ1,H2,I2,q2⟩
end
structure It where
 go:Nat->Hp->Prop
 yld:Nat->Hp->V->Hp->Prop
 stop:Nat->Hp->Prop
def dR(X:Cx)(pins:Po)(H:Hp)(b:Addr):Prop:=
 H b=none/\b≠X.env.locals/\b∉X.fs/\(b∈X.ex\/X.s₀.heap.objs.size<=b)/\(∀x c,X.env.cells.lookup x=some c->c≠b)/\∀p∈X.pn++pins,p.1≠b
theorem Inv.fpOk{X:Cx}{pins:Po}{σ:St}{H H':Hp}{s:Shared}{b:Addr}(I:Inv X pins σ H s)(hb:s.heap.objs.size<=b)(hn:H' b=none):dR X pins H' b:=by
 refine⟨hn,jF (fw I.lt hb),I.nofs hb,.inr (bn I.sz hb),fun x c e z=>?_,fun p hp z=>?_⟩
 . obtain⟨v,q⟩:=I.cell x c e;exact absurd (fw q.lt (by rw[z];exact hb)) (j8 _)
 . exact absurd (fw (aT (I.pin p hp).1) (by rw[z];exact hb)) (j8 _)
structure rf(P:Program)(w:World)(K:Fg)(tg:Expr)(J:It)(fp:List Addr)(it:Addr)(tn:Nat->Heap->Prop):Prop where
 mem:it∈fp
 obj:∀i h,tn i h->∀b∈fp,∃o,h.get? b=some o/\∀v,o.data≠.cell v
 keep:∀i h h',tn i h->(∀b∈fp,∀o,h.get? b=some o->h'.get? b=some o)->tn i h'
 item:∀(X:Cx),X.prog=P->X.w=w->X.K=K->X.calm=true->∀(i:Nat) (pins:Po) (s:Shared) (σ:St) (H:Hp) (E:VP),Inv X pins σ H s->(∀b∈fp,dR X pins H b)->tn i s.heap->J.go i H ->
  wpAny (model P w) X.A (pyNext (.ref it)) (fun r s1=>∃u,r=some u /\
   wpAny (model P w) X.A (letOwnedTupleGo tg (.ref it) u) (fun _ s2=>∃x H',Inv X pins σ H' s2/\RelV x u/\J.yld i H x H'/\tn (i+1) s2.heap/\∀b∈fp,H' b=none) E s1) E s
 done:∀(X:Cx),X.prog=P->X.w=w->X.K=K->X.calm=true->∀(i:Nat) (pins:Po) (s:Shared) (σ:St) (H:Hp) (E:VP),Inv X pins σ H s->(∀b∈fp,dR X pins H b)->tn i s.heap->J.stop i H ->
  wpAny (model P w) X.A (pyNext (.ref it)) (fun r s1=>r=none/\Inv X pins σ H s1) E s
 self:∀(A:Around) (i:Nat) (s:Shared) (Q:VP) (E:VP),tn i s.heap->Q (.ref it) s->wpAny (model P w) A (pyIter (.ref it)) Q E s
abbrev TI:=St->Hp->(It->Hp->Prop)->Prop
def GV(X:Cx)(pins:Po)(σ:St)(tg:Expr)(R:It->Hp->Prop)(xb:Value)(s2:Shared):Prop:=
 ∃(it:Addr) (fp:List Addr) (tn:Nat->Heap->Prop) (J:It) (H':Hp),xb = .ref it/\Inv X pins σ H' s2/\rf X.prog X.w X.K tg J fp it tn/\tn 0 s2.heap/\(∀b∈fp,dR X pins H' b)/\R J H'
def PI(X:Cx)(tg iter:Expr)(wi:TI):Prop:=
 ∀(pins:Po) (s:Shared) (σ:St) (H:Hp) (R:It->Hp->Prop),Inv X pins σ H s->wi σ H R ->
  wpAny (model X.prog X.w) X.A (eval iter X.env) (fun v s1=>wpAny (model X.prog X.w) X.A (pyIter v) (GV X pins σ tg R) X.xe s1) X.xe s
theorem GW{M:Model}{A:Around}{E:VP}{s:Shared}{tg:Expr}{it:Addr}{u:Value}{o:Obj}{n:String}{vs:Av}{Q:Unit->Shared->Prop}(ho:s.heap.get? it=some o)(hc:o.cls = .type n)(hd:o.data = .fields vs)
 (hn:["enumerate","zip","dict_itemiterator","dict_reverseitemiterator","odict_iterator","itertools.zip_longest","itertools.pairwise"].contains n=false) (hQ:Q () s):wpAny M A (letOwnedTupleGo tg (.ref it) u) Q E s:=by
 unfold letOwnedTupleGo;cases tg<;>first
  | exact aj hQ
  | (cases u<;>first
   | exact aj hQ
   | (refine ac (wpAny_load ho ?_)
      rw[hc,hd];show wpAny M A (if (["enumerate","zip","dict_itemiterator","dict_reverseitemiterator","odict_iterator","itertools.zip_longest","itertools.pairwise"].contains n && vs[0]? == some (rawInt _))=true then _ else _) Q E s;rw[af (by intro h;rw[hn,mG]at h;cases h)];exact aj hQ))
def kz(K:Fg)(a:Addr):It:=
 ⟨fun i H=>∃xs x,ae K H a xs/\xs[i]? = some x,fun i H x H'=>H'=H/\∀xs,ae K H a xs->xs[i]? = some x,fun i H=>∃xs,ae K H a xs/\xs.length<=i⟩
def lG(lo:Int)(n:Nat):It:=⟨fun i _=>i<n,fun i H x H'=>H'=H/\x = .int (lo+i),fun i _=>n<=i⟩
theorem Q9{P:Program}{w:World}{K:Fg}{tg:Expr}(a it:Addr):rf P w K tg (kz K a) [it] it (fun i h=>h.IsListIter it a i) where
 mem:=by simp
 obj:=fun i h st b hb=>by
  have e:b=it:=by simpa using hb
  subst e;obtain⟨o,e,c,d⟩:=st;exact⟨o,e,fun v z=>by rw[d]at z;cases z⟩
 keep:=fun i h h' st k=>st.at fun o e=>k it (by simp) o e
 item:=by
  intro X hP hw hK hc i pins s σ H E I hf st hg;subst hP hw hK;obtain⟨xs,x,hq,hx⟩:=hg;obtain⟨its,rv,p,hz⟩:=I.list hq;obtain⟨u,hu,ru⟩:=rv.get hx;obtain⟨f0,f1,f2,f3,f4,f5⟩:=hf it (by simp);refine ajp st p.isList (x:=u) (by simpa using hu) fun h' al sb=>?_;have I1:Inv X pins σ H { s with heap:=h' }:=I.turned (t':=s.toks) (fun b o hb e=>(sb.2 b hb).trans e) f0 f1 f3 f4 f5;obtain⟨o,e,c,d⟩:=id al;exact⟨u,rfl,GW (s:={ s with heap:=h' }) e c d (by decide) ⟨x,H,I1,ru,⟨rfl,fun ys hy=>by rw[I.list_inj hy hq];exact hx⟩,al,fun b hb=>(hf b hb).1⟩⟩
 done:=by
  intro X hP hw hK hc i pins s σ H E I hf st hg;subst hP hw hK;obtain⟨xs,hq,hx⟩:=hg;obtain⟨its,rv,p,hz⟩:=I.list hq;obtain⟨f0,f1,f2,f3,f4,f5⟩:=hf it (by simp);have hl:=rv.length;exact ajq (I.ok.hd hc) st p.isList (by simp;omega) fun h' eb=>⟨rfl,I.turned (t':=s.toks) (fun b o hb e=>eb b o hb e) f0 f1 f3 f4 f5⟩
 self:=fun _ _ _ _ _ st h=>wpAny_pyIter_listiter st h
theorem Ra{P:Program}{w:World}{K:Fg}{tg:Expr}(it:Addr)(lo:Int)(n:Nat):rf P w K tg (lG lo n) [it] it (fun i h=>IsRangeIter h it (lo+(i:Nat) * 1) ((n:Int) - (i:Nat)) 1) where
 mem:=by simp
 obj:=fun i h st b hb=>by
  have e:b=it:=by simpa using hb
  subst e;exact⟨_,st,fun v z=>by
   have z':Data.fields _=Data.cell v:=z;cases z'⟩
 keep:=fun i h h' st k=>k it (by simp) _ st
 item:=by
  intro X hP hw hK hc i pins s σ H E I hf st hg;subst hP hw hK;obtain⟨f0,f1,f2,f3,f4,f5⟩:=hf it (by simp);have W:=Walks.range (prog:=X.prog) (w:=X.w) (I.ok.hd hc) it lo 1 n;refine W.item i s _ _ hg st fun v h' tk hv al kk=>?_;obtain⟨t,rfl⟩:=hv;have I1:Inv X pins σ H { s with heap:=h',toks:=tk }:=I.turned (fun b o hb e=>kk b o (by simpa using hb) e) f0 f1 f3 f4 f5;refine⟨_,rfl,GW (s:={ s with heap:=h',toks:=tk }) (n:="range_iterator") al rfl rfl (by decide) ⟨.int (lo+i),H,I1,⟨t,?_⟩,⟨rfl,rfl⟩,al,fun b hb=>(hf b hb).1⟩⟩;rw[Int.mul_one]
 done:=by
  intro X hP hw hK hc i pins s σ H E I hf st hg;subst hP hw hK;obtain⟨f0,f1,f2,f3,f4,f5⟩:=hf it (by simp);exact wpAny_pyNext_range_end (I.ok.hd hc) st (by have:n<=i:=hg;omega) fun h' eb=>⟨rfl,I.turned (t':=s.toks) (fun b o hb e=>eb b o hb e) f0 f1 f3 f4 f5⟩
 self:=fun _ _ _ _ _ st h=>wpAny_pyIter_rangeiter st h
section
variable {X:Cx} {tg:Expr}
def Rc(K:Fg)(tl:TE):TI:=fun σ H R=>tl σ H fun x H1=>∃a,x = .ref a/\(∃xs,ae K H1 a xs)/\R (kz K a) H1
theorem bI{l:Expr}{tl:TE}(hl:PE X l tl):PI X tg l (Rc X.K tl):=by
 intro pins s σ H R I h;refine thn (hl pins s σ H _ I h) fun v s1 Rf=>Rf.elim fun x Rg=>Rg.elim fun H1 Rh=>Rh.elim fun I1 Ri=>Ri.elim fun r1 q1=>?_;obtain⟨a,e,⟨xs,hq⟩,q⟩:=q1;subst e;cases r1;obtain⟨its,rv,p,hz⟩:=I1.list hq;refine FA p.isList ?_;refine⟨s1.heap.objs.size,[s1.heap.objs.size],_,_,H1,rfl,I1.kept (t':=s1.toks) fun b o e=>bg _ e,Q9 a _,⟨_,dv _ rfl,rfl,rfl⟩,fun b hb=>?_,q⟩;have e:b=s1.heap.objs.size:=by simpa using hb
 subst e;exact I1.fpOk (av _) (I1.hok.fresh (av _))
theorem GX{pins:Po}{σ:St}{H:Hp}{s:Shared}{R:It->Hp->Prop}{E:VP}{lo hi:Int}{t u v:Tok}{tk:Nat}(I:Inv X pins σ H s)(h1:-(2 ^ 62)<=lo)(h2:lo<2 ^ 62)(h3:-(2 ^ 62)<=hi)(h4:hi<2 ^ 62)
 (q:R (lG lo (hi - lo).toNat) H):wpAny (model X.prog X.w) X.A (pyIter (.ref s.heap.objs.size)) (GV X pins σ tg R) E { s with heap:=s.heap.push { cls:=.type "range",data:=.fields #[.int lo t,.int hi u,.int 1 v] },toks:=tk }:=by
 refine wpAny_pyIter_range (IsRange.new ..) (small_one h1 h2 h3 h4) ?_;have I1:Inv X pins σ H { s with heap:=s.heap.push { cls:=.type "range",data:=.fields #[.int lo t,.int hi u,.int 1 v] },toks:=tk }:=I.kept fun b o e=>bg _ e;refine⟨(s.heap.push { cls:=.type "range",data:=.fields #[.int lo t,.int hi u,.int 1 v] }).objs.size,[(s.heap.push { cls:=.type "range",data:=.fields #[.int lo t,.int hi u,.int 1 v] }).objs.size],_,_,H,rfl,
  I1.kept (t':=tk) fun b o e=>bg _ e,Ra _ lo (hi - lo).toNat,?_,fun b hb=>?_,q⟩
 . have e1:lo+((0:Nat):Int) * 1=lo:=by simp
   have e2:(((hi - lo).toNat:Nat):Int) - ((0:Nat):Int)=Builtin.Range.rangeSize lo hi 1:=by rw[rangeSize_one];split<;>omega
   show IsRangeIter _ _ (lo+((0:Nat):Int) * 1) ((((hi - lo).toNat:Nat):Int) - ((0:Nat):Int)) 1;rw[e1,e2];exact dv _ rfl
 . have e:b=(s.heap.push { cls:=.type "range",data:=.fields #[.int lo t,.int hi u,.int 1 v] }).objs.size:=by simpa using hb
   subst e;exact I1.fpOk (av _) (I1.hok.fresh (av _))
def Rj(ta:TA):TI:=fun σ H R=>ta σ H fun vs H1=>∃j:Int,vs = [.int j]/\-(2 ^ 62)<=j/\j<2 ^ 62/\R (lG 0 j.toNat) H1
def Rk(ta:TA):TI:=fun σ H R=>ta σ H fun vs H1=>∃i j:Int,vs = [.int i,.int j]/\(-(2 ^ 62)<=i/\i<2 ^ 62/\-(2 ^ 62)<=j/\j<2 ^ 62)/\R (lG i (j - i).toNat) H1
theorem o5{a:Expr}{ta:TA}{p pos:Pos}(hg:Gl X "range")(hm:X.mg "range" = none)(ha:PA X [a] ta)(hs:starEach [a] X.env = [(false,eval a X.env)]:=by rfl):PI X tg (.Call (.Name "range" p) [a] [] pos) (Rj ta):=by
 intro pins s σ H R I h;refine Call_ (oZ I hg hm boot_range (FC (thn (ha pos pins s σ H _ I h) fun us s1 Rm=>Rm.elim fun vs Rn=>Rn.elim fun H1 Ro=>Ro.elim fun I1 Rp=>Rp.elim fun r1 q1=>?_) hs rfl));obtain⟨j,e,q1,q2,q⟩:=q1;subst e;cases r1 with
 | cons r rr=>
  cases rr;obtain⟨t,rfl⟩:=r;exact call_range_1 (GX I1 (by omega) (by omega) q1 q2 (by simpa using q))
theorem Rq{a b:Expr}{ta:TA}{p pos:Pos}(hg:Gl X "range")(hm:X.mg "range" = none)(ha:PA X [a,b] ta)(hs:starEach [a,b] X.env = [(false,eval a X.env),(false,eval b X.env)]:=by rfl)(o6:starEach [b] X.env = [(false,eval b X.env)]:=by rfl) :
 PI X tg (.Call (.Name "range" p) [a,b] [] pos) (Rk ta):=by
 intro pins s σ H R I h;refine Call_ (oZ I hg hm boot_range (FC (thn (ha pos pins s σ H _ I h) fun us s1 Rr=>Rr.elim fun vs Rs=>Rs.elim fun H1 Rt=>Rt.elim fun I1 Ru=>Ru.elim fun r1 q1=>?_) (by rw[hs,o6]) (by rw[o6];rfl)));obtain⟨i,j,e,⟨q1,q2,q3,q4⟩,q⟩:=q1;subst e;cases r1 with
 | cons r rr=>
  cases rr with
  | cons r' rr=>
   cases rr;obtain⟨t,rfl⟩:=r;obtain⟨t',rfl⟩:=r';exact call_range_2 (GX I1 q1 q2 q3 q4 q)
def Rv(wi:TI)(g:TG)(tb:TS):TS:=fun D σ H=>wi σ H fun J H1=>∃W:Nat->Nat->St->Hp->Prop,(∃m,W 0 m σ H1)/\∀i m σ H,W i m σ H ->
 (J.stop i H/\D.nx σ H)\/(J.go i H/\∃N:St->Hp->Prop,(∀σ' H',N σ' H'->∃m',m'<m/\W (i+1) m' σ' H')/\∀x H',J.yld i H x H'->g x σ H' fun σ2 H2=>tb { D with nx:=N,ct:=N,bk:=D.nx } σ2 H2)
def o7(fp:List Addr)(h:Heap):Po:=fp.filterMap fun b=>(h.get? b).map fun o=>(b,o)
theorem mT{fp:List Addr}{h:Heap}{b:Addr}{o:Obj}(hb:b∈fp)(e:h.get? b=some o):(b,o)∈o7 fp h:=List.mem_filterMap.mpr ⟨b,hb,by rw[e];rfl⟩
theorem Rw{fp:List Addr}{h:Heap}{p:Addr×Obj}(hp:p∈o7 fp h):p.1∈fp/\h.get? p.1=some p.2:=by
 obtain⟨b,hb,e⟩:=List.mem_filterMap.mp hp;cases q:h.get? b with
 | none=>rw[q]at e;cases e
 | some o=>
  rw[q]at e;have e':(b,o)=p:=gn e;subst e';exact⟨hb,q⟩
theorem Inv.pinned{pins:Po}{σ:St}{H:Hp}{s:Shared}{fp:List Addr}(I:Inv X pins σ H s)(hf:∀b∈fp,dR X pins H b)(ho:∀b∈fp,∃o,s.heap.get? b=some o/\∀v,o.data≠.cell v):Inv X (pins++o7 fp s.heap) σ H s:=
 I.pins_of fun p hp=>(cU.mp hp).elim (fun z=>I.pin p (eS _ z)) fun z=>by
  obtain⟨hb,e⟩:=Rw z;obtain⟨f0,f1,f2,_⟩:=hf p.1 hb;obtain⟨o,e',d⟩:=ho p.1 hb;rw[e]at e';cases e';exact⟨e,f0,f1,f2,d⟩
theorem Inv.unpinned{pins pl:Po}{σ:St}{H:Hp}{s:Shared}(I:Inv X (pins++pl) σ H s):Inv X pins σ H s:=I.pins_of fun p hp=>I.pin p (eS _ (oO _ hp))
theorem eu{iter:Expr}{body:List Stmt}{wi:TI}{g:TG}{tb:TS}{pos:Pos}(hp:PassesOwn (model X.prog X.w) X.A X.env X.xe)(hc:X.calm=true)(hi:PI X tg iter wi)(hg:PG X tg g)(hb:dH X body tb)
 (hs:∀x,foldedSetIterable iter X.env x=pure x:=by intro _;rfl):PS X (.For tg iter body [] pos) (Rv wi g tb):=by
 intro pins s σ H D I h;refine wpAny_For (thn (hi pins s σ H _ I h) fun v s1 h1=>thn h1 fun xb s2 h2=>?_) hs;obtain⟨it,fp,tn,J,H2,e,I2,T,cy,f2,W,⟨m0,w0⟩,turn⟩:=h2;subst e;have AS:∀{H':Hp},(∀b∈fp,H' b=none)->∀b∈fp,dR X pins H' b:=fun hn b hb=>⟨hn b hb,(f2 b hb).2⟩;refine codeAny_forLoop_any (fun n s'=>∃i σ' H',Inv X pins σ' H' s'/\tn i s'.heap/\(∀b∈fp,H' b=none)/\W i n σ' H') ?_ m0 ⟨0,σ,H2,I2,cy,fun b hb=>(f2 b hb).1,w0⟩;rintro n s3 ⟨i,σ3,H3,I3,aW,GY,w3⟩
 rcases turn i n σ3 H3 w3 with⟨stop,qn⟩ | ⟨go,N,hN,step⟩
 . refine sX hp (thn (T.done X rfl rfl rfl hc i pins s3 σ3 H3 X.xe I3 (AS GY) aW stop) fun r s4 Rx=>Rx.elim fun hr I4=>?_);subst hr;exact Fz ⟨σ3,H3,I4,qn⟩
 . refine sX hp (thn (T.item X rfl rfl rfl hc i pins s3 σ3 H3 X.xe I3 (AS GY) aW go) fun r s4 Ry=>Ry.elim fun u Rz=>Rz.elim fun hr h4=>?_);subst hr;refine sX hp (thn h4 fun _ s5 RA=>RA.elim fun x RB=>RB.elim fun H5 RC=>RC.elim fun I5 RD=>RD.elim fun r5 RE=>RE.elim fun y5 RF=>RF.elim fun be AT=>?_);have RG:=I5.pinned (AS AT) (T.obj _ _ be);refine sX hp (thn (hg _ s5 σ3 H5 x u _ RG r5 (step x H5 y5)) fun _ s6 RH=>RH.elim fun σ6 RI=>RI.elim fun H6 RJ=>RJ.elim fun I6 q6=>?_);refine sX hp (thn (hb _ s6 σ6 H6 _ I6 q6) fun f s7 q7=>?_);have again:∀{σ7:St} {H7:Hp},Inv X (pins++o7 fp s5.heap) σ7 H7 s7->N σ7 H7->∃m,m<n/\∃i σ' H',Inv X pins σ' H' s7/\tn i s7.heap/\(∀b∈fp,H' b=none)/\W i m σ' H':=fun {σ7 H7} I7 n7=>by
    obtain⟨m',hm,w7⟩:=hN σ7 H7 n7;refine⟨m',hm,i+1,σ7,H7,I7.unpinned,T.keep _ _ _ be fun b hb o e=>(I7.pin (b,o) (eS _ (eS _ (mT hb e)))).1,fun b hb=>?_,w7⟩;obtain⟨o,e,d⟩:=T.obj _ _ be b hb;exact(I7.pin (b,o) (eS _ (eS _ (mT hb e)))).2.1
   cases f with
   | next=>obtain⟨σ7,H7,I7,n7⟩:=q7;exact again I7 n7
   | cont=>obtain⟨σ7,H7,I7,n7⟩:=q7;exact again I7 n7
   | brk=>obtain⟨σ7,H7,I7,q7⟩:=q7;exact⟨σ7,H7,I7.unpinned,q7⟩
   | ret v=>obtain⟨x7,σ7,H7,I7,r7,q7⟩:=q7;exact⟨x7,σ7,H7,I7.unpinned,r7,q7⟩
end
theorem gu{K:Fg}{a:Addr}{xs:Lv}{g:TG}{tb:TS}{D:Ends}{σ:St}{H:Hp}(Pv:Nat->St->Hp->Prop)(h0:Pv 0 σ H)(hl:∀i σ H,i<=xs.length->Pv i σ H->ae K H a xs)
 (hs:∀i x σ H,xs[i]? = some x->Pv i σ H->g x σ H fun σ2 H2=>tb { D with nx:=Pv (i+1),ct:=Pv (i+1),bk:=D.nx } σ2 H2) (hd:∀σ H,Pv xs.length σ H->D.nx σ H) :
 ∃W:Nat->Nat->St->Hp->Prop,(∃m,W 0 m σ H)/\∀i m σ H,W i m σ H ->
  ((kz K a).stop i H/\D.nx σ H)\/((kz K a).go i H/\∃N:St->Hp->Prop,(∀σ' H',N σ' H'->∃m',m'<m/\W (i+1) m' σ' H')/\∀x H',(kz K a).yld i H x H'->g x σ H' fun σ2 H2=>tb { D with nx:=N,ct:=N,bk:=D.nx } σ2 H2):=by
 refine⟨fun i m σ H=>m=xs.length - i/\i<=xs.length/\Pv i σ H,⟨xs.length,by simp,cj _,h0⟩,?_⟩;rintro i m σ H ⟨rfl,hi,p⟩;have q:=hl i σ H hi p
 by_cases aP:i<xs.length
 . refine .inr ⟨⟨xs,xs[i],q,by simp[aP]⟩,Pv (i+1),fun σ' H' p'=>⟨xs.length - (i+1),by omega,rfl,aP,p'⟩,fun x H' y=>?_⟩;obtain⟨e,y⟩:=y;subst e;exact hs i x σ _ (y xs q) p
 . have e:i=xs.length:=by omega
   subst e;exact .inl ⟨⟨xs,q,av _⟩,hd σ H p⟩
theorem xc{lo:Int}{n:Nat}{g:TG}{tb:TS}{D:Ends}{σ:St}{H:Hp}(Pv:Nat->St->Hp->Prop)(h0:Pv 0 σ H)
 (hs:∀i σ H,i<n->Pv i σ H->g (.int (lo+i)) σ H fun σ2 H2=>tb { D with nx:=Pv (i+1),ct:=Pv (i+1),bk:=D.nx } σ2 H2) (hd:∀σ H,Pv n σ H->D.nx σ H) :
 ∃W:Nat->Nat->St->Hp->Prop,(∃m,W 0 m σ H)/\∀i m σ H,W i m σ H ->
  ((lG lo n).stop i H/\D.nx σ H)\/((lG lo n).go i H/\∃N:St->Hp->Prop,(∀σ' H',N σ' H'->∃m',m'<m/\W (i+1) m' σ' H')/\∀x H',(lG lo n).yld i H x H'->g x σ H' fun σ2 H2=>tb { D with nx:=N,ct:=N,bk:=D.nx } σ2 H2):=by
 refine⟨fun i m σ H=>m=n - i/\i<=n/\Pv i σ H,⟨n,by simp,cj _,h0⟩,?_⟩;rintro i m σ H ⟨rfl,hi,p⟩
 by_cases aP:i<n
 . refine .inr ⟨aP,Pv (i+1),fun σ' H' p'=>⟨n - (i+1),by omega,rfl,aP,p'⟩,fun x H' y=>?_⟩;obtain⟨e,y⟩:=y;subst e y;exact hs i σ _ aP p
 . have e:i=n:=by omega
   subst e;exact .inl ⟨av _,hd σ H p⟩
abbrev R2:=V->V->Hp->VK->Prop
def bw(X:Cx)(f:Value->Value->Sem Value)(r:R2):Prop:=
 ∀(pins:Po) (s:Shared) (σ:St) (H:Hp) (x y:V) (v u:Value) (Q:VK),Inv X pins σ H s->RelV x v->RelV y u->r x y H Q ->
  wpAny (model X.prog X.w) X.A (f v u) (EP X pins σ Q) X.xe s
def AU(X:Cx)(f:Value->Sem Value)(r:V->Hp->VK->Prop):Prop:=
 ∀(pins:Po) (s:Shared) (σ:St) (H:Hp) (x:V) (v:Value) (Q:VK),Inv X pins σ H s->RelV x v->r x H Q ->
  wpAny (model X.prog X.w) X.A (f v) (EP X pins σ Q) X.xe s
def eP(X:Cx)(f:Value)(r:Lv->Hp->VK->Prop):Prop:=
 ∀(pins:Po) (s:Shared) (σ:St) (H:Hp) (xs:Lv) (us:Lw) (Q:VK),Inv X pins σ H s->aH xs us->r xs H Q ->
  wpAny (model X.prog X.w) X.A (call f us) (EP X pins σ Q) X.xe s
def xf(r:R2)(ta tb:TE):TE:=fun σ H Q=>ta σ H fun x H1=>tb σ H1 fun y H2=>r x y H2 Q
def RK(r:V->Hp->VK->Prop)(ta:TE):TE:=fun σ H Q=>ta σ H fun x H1=>r x H1 Q
def rI(C:Int->Int->Prop)(g:Int->Int->V):R2:=fun x y H Q=>∃i j,x = .int i/\y = .int j/\C i j/\Q (g i j) H
def tQ(g:Int->Int->V):R2:=fun x y H Q=>∃i j,x = .int i/\y = .int j/\Q (g i j) H
def rU(g:Int->V):V->Hp->VK->Prop:=fun x H Q=>∃i,x = .int i/\Q (g i) H
section
variable {X:Cx} {a b c:Expr} {ta tb tc:TE} {pos:Pos}
theorem AV(ha:PE X a ta)(hb:PE X b tb){pins:Po}{s:Shared}{σ:St}{H:Hp}{R:V->V->Hp->Prop}(I:Inv X pins σ H s)
 (h:ta σ H fun x H1=>tb σ H1 fun y H2=>R x y H2) {Q:VP} {f:Value->Value->Sem Value}
 (hf:∀v u s2 x y H2,Inv X pins σ H2 s2->RelV x v->RelV y u->R x y H2->wpAny (model X.prog X.w) X.A (f v u) Q X.xe s2) :
 wpAny (model X.prog X.w) X.A (eval a X.env) (fun v s₁=>wpAny (model X.prog X.w) X.A (eval b X.env) (fun u s₂=>wpAny (model X.prog X.w) X.A (f v u) Q X.xe s₂) X.xe s₁) X.xe s:=by
 refine thn (ha pins s σ H _ I h) fun v s1 RL=>RL.elim fun x RM=>RM.elim fun H1 RN=>RN.elim fun I1 RO=>RO.elim fun r1 q1=>?_;refine thn (hb pins s1 σ H1 _ I1 q1) fun u s2 RP=>RP.elim fun y RQ=>RQ.elim fun H2 RR=>RR.elim fun I2 RS=>RS.elim fun r2 q2=>?_;exact hf v u s2 x y H2 I2 r1 r2 q2
theorem aY{op:Operator}{r:R2}(ho:bw X (binaryOp op) r)(ha:PE X a ta)(hb:PE X b tb):PE X (.BinOp a op b pos) (xf r ta tb):=by
 intro pins s σ H Q I h;exact wpAny_BinOp (AV ha hb I h fun v u s2 x y H2 I2 rx ry q=>ho pins s2 σ H2 x y v u Q I2 rx ry q)
theorem RT{op:UnaryOp}{r:V->Hp->VK->Prop}(ho:AU X (unaryOp op) r)(ha:PE X a ta):PE X (.UnaryOp op a pos) (RK r ta):=by
 intro pins s σ H Q I h;exact UnaryOp_ (thn (ha pins s σ H _ I h) fun v s1 RU=>RU.elim fun x RV=>RV.elim fun H1 RW=>RW.elim fun I1 RX=>RX.elim fun r1 q1=>ho pins s1 σ H1 x v Q I1 r1 q1)
theorem xg{f:Value->Value->Sem Value}{C:Int->Int->Prop}{g:Int->Int->Int}
 (rule:∀(i j:Int) (t u:Tok) (s:Shared) (Q:VP) (E:VP),C i j->Q (.int (g i j) s.toks) { s with toks:=s.toks+1 }->wpAny (model X.prog X.w) X.A (f (.int i t) (.int j u)) Q E s) :
 bw X f (rI C fun i j=>.int (g i j)):=by
 intro pins s σ H x y v u Q I rx ry h;obtain⟨i,j,rfl,rfl,hc,q⟩:=h;obtain⟨t,rfl⟩:=rx;obtain⟨t',rfl⟩:=ry;exact rule i j t t' s _ _ hc ⟨.int (g i j),H,I.tok _,⟨_,rfl⟩,q⟩
theorem RY{f:Value->Value->Sem Value}{g:Int->Int->Int}
 (rule:∀(i j:Int) (t u:Tok) (s:Shared) (Q:VP) (E:VP),Q (.int (g i j) s.toks) { s with toks:=s.toks+1 }->wpAny (model X.prog X.w) X.A (f (.int i t) (.int j u)) Q E s) :
 bw X f (tQ fun i j=>.int (g i j)):=by
 intro pins s σ H x y v u Q I rx ry h;obtain⟨i,j,rfl,rfl,q⟩:=h;obtain⟨t,rfl⟩:=rx;obtain⟨t',rfl⟩:=ry;exact rule i j t t' s _ _ ⟨.int (g i j),H,I.tok _,⟨_,rfl⟩,q⟩
theorem GZ{f:Value->Value->Sem Value}{g:Int->Int->Bool}
 (rule:∀(i j:Int) (t u:Tok) (s:Shared) (Q:VP) (E:VP),Q (.bool (g i j)) s->wpAny (model X.prog X.w) X.A (f (.int i t) (.int j u)) Q E s) :
 bw X f (tQ fun i j=>.bl (g i j)):=by
 intro pins s σ H x y v u Q I rx ry h;obtain⟨i,j,rfl,rfl,q⟩:=h;obtain⟨t,rfl⟩:=rx;obtain⟨t',rfl⟩:=ry;exact rule i j t t' s _ _ ⟨.bl (g i j),H,I,rfl,q⟩
def RZ(i j:Int):Prop:=0<j/\j<1073741824
def R0(i j:Int):Prop:=0<=j/\j<=1000000/\i.natAbs<2 ^ 64
def AW(i j:Int):Prop:=(-(2 ^ 64)<i/\i<2 ^ 64)\/(-(2 ^ 64)<j/\j<2 ^ 64)
theorem AW.ok{i j:Int}(h:AW i j):IntMulOk i j:=by
 rcases h with⟨h1,h2⟩ | ⟨h1,h2⟩
 . exact .of_left (intBits_le_64 h1 h2)
 . exact .of_right (intBits_le_64 h1 h2)
theorem iO:bw X (binaryOp .Add) (tQ fun i j=>.int (i+j)):=RY fun _ _ _ _ _ _ _ q=>add_int q
theorem rh:bw X (binaryOp .Mult) (rI AW fun i j=>.int (i * j)):=xg fun _ _ _ _ _ _ _ hc q=>mul_int q hc.ok
theorem AX:bw X (binaryOp .FloorDiv) (rI RZ fun i j=>.int (i / j)):=xg fun i j _ _ _ _ _ hc q=>by
 have h1:(0:Int)<j:=hc.1;have h2:j<1073741824:=hc.2;exact floordiv_int (by omega) (by rw[Int.fdiv_eq_ediv_of_nonneg i (by omega)];exact q) (.inl (PyProof.noPylong_small (by omega)))
theorem dg:bw X (binaryOp .Mod) (rI (fun _ j=>0<j) fun i j=>.int (i % j)):=xg fun i j _ _ _ _ _ hc q=>by
 have h1:(0:Int)<j:=hc;exact mod_int' (by omega) (by rw[Int.fmod_eq_emod_of_nonneg i (by omega)];exact q)
theorem R1:bw X (binaryOp .Pow) (rI R0 fun i j=>.int (i ^ j.toNat)):=xg fun _ _ _ _ _ _ _ hc q=>pow_int_small hc.1 hc.2.1 hc.2.2 q
theorem R3{f:Value->Sem Value}{g:Int->Int}
 (rule:∀(i:Int) (t:Tok) (s:Shared) (Q:VP) (E:VP),Q (.int (g i) s.toks) { s with toks:=s.toks+1 }->wpAny (model X.prog X.w) X.A (f (.int i t)) Q E s) :
 AU X f (rU fun i=>.int (g i)):=by
 intro pins s σ H x v Q I rx h;obtain⟨i,rfl,q⟩:=h;obtain⟨t,rfl⟩:=rx;exact rule i t s _ _ ⟨.int (g i),H,I.tok _,⟨_,rfl⟩,q⟩
theorem R4:AU X (unaryOp .USub) (rU fun i=>.int (-i)):=R3 fun _ _ _ _ _ q=>neg_int q
end
def G0:V->V->Bool
 | .non,.non=>true | .non,.int _=>true | .int _,.non=>true | .non,.bl _=>true | .bl _,.non=>true | .non,.str _=>true | .str _,.non=>true
 | .int _,.int _=>true | .bl _,.bl _=>true | .str _,.str _=>true | .byt _,.byt _=>true
 | .int _,.str _=>true | .str _,.int _=>true | .bl _,.str _=>true | .str _,.bl _=>true
 | _,_=>false
def R5:R2:=fun x y H Q=>G0 x y=true/\Q (.bl (decide (x=y))) H
def R6:R2:=fun x y H Q=>G0 x y=true/\Q (.bl (!decide (x=y))) H
theorem G5{i j:Int}:decide (V.int i=V.int j)=(i == j):=by
 rw[FD];simp
theorem G6{i j:Bool}:decide (V.bl i=V.bl j)=(i == j):=by
 rw[FD];simp
theorem G7{i j:Str}:decide (V.str i=V.str j)=(i == j):=by
 rw[FD];simp
theorem G8{i j:Array UInt8}:decide (V.byt i=V.byt j)=(i.toList == j.toList):=by
 rw[FD];cases i;cases j;simp
section
variable {X:Cx} {a b c:Expr} {ta tb tc:TE} {pos:Pos}
theorem cz{pins:Po}{σ:St}{H:Hp}{s:Shared}{Q:VK}{k k':Bool}(I:Inv X pins σ H s)(q:Q (.bl k) H)(e:k=k'):EP X pins σ Q (.bool k') s:=by
 subst e;exact⟨.bl k,H,I,rfl,q⟩
theorem iP:bw X (compareOp .Eq) R5:=by
 intro pins s σ H x y v u Q I rx ry h;obtain⟨hs,q⟩:=h;cases x with
 | non=>
  cases rx;cases y with
  | non=>cases ry;exact PySem.EqNone.eq_none_none (cz I q (by simp))
  | bl j=>cases ry;exact PySem.EqNone.eq_none_bool (cz I q (by simp))
  | int j=>obtain⟨t',rfl⟩:=ry;exact PySem.EqNone.eq_none_int (cz I q (by simp))
  | str j=>obtain⟨t',rfl⟩:=ry;exact PySem.EqNone.eq_none_str (cz I q (by simp))
  | _=>exact absurd (show false=true from hs) bB
 | bl i=>
  cases rx;cases y with
  | non=>cases ry;exact PySem.EqNone.eq_bool_none (cz I q (by simp))
  | bl j=>cases ry;exact eq_bool (cz I q G6)
  | str j=>obtain⟨t',rfl⟩:=ry;exact PySem.EqMixed.eq_bool_str (cz I q (by simp))
  | _=>exact absurd (show false=true from hs) bB
 | int i=>
  obtain⟨t,rfl⟩:=rx;cases y with
  | non=>cases ry;exact PySem.EqNone.eq_int_none (cz I q (by simp))
  | int j=>obtain⟨t',rfl⟩:=ry;exact eq_int (cz I q G5)
  | str j=>obtain⟨t',rfl⟩:=ry;exact PySem.EqMixed.eq_int_str (cz I q (by simp))
  | _=>exact absurd (show false=true from hs) bB
 | str i=>
  obtain⟨t,rfl⟩:=rx;cases y with
  | non=>cases ry;exact PySem.EqNone.eq_str_none (cz I q (by simp))
  | bl j=>cases ry;exact PySem.EqMixed.eq_str_bool (cz I q (by simp))
  | int j=>obtain⟨t',rfl⟩:=ry;exact PySem.EqMixed.eq_str_int (cz I q (by simp))
  | str j=>obtain⟨t',rfl⟩:=ry;exact eq_str (cz I q G7)
  | _=>exact absurd (show false=true from hs) bB
 | byt i=>
  obtain⟨t,rfl⟩:=rx;cases y with
  | byt j=>obtain⟨t',rfl⟩:=ry;exact PySem.W.eq_bytes (cz I q G8)
  | _=>exact absurd (show false=true from hs) bB
 | _=>cases y<;>exact absurd (show false=true from hs) bB
theorem G9:bw X (compareOp .NotEq) R6:=by
 intro pins s σ H x y v u Q I rx ry h;obtain⟨hs,q⟩:=h;cases x with
 | non=>
  cases rx;cases y with
  | non=>cases ry;exact PySem.EqNone.ne_none_none (cz I q (by simp))
  | bl j=>cases ry;exact PySem.EqNone.ne_none_bool (cz I q (by simp))
  | int j=>obtain⟨t',rfl⟩:=ry;exact PySem.EqNone.ne_none_int (cz I q (by simp))
  | str j=>obtain⟨t',rfl⟩:=ry;exact PySem.EqNone.ne_none_str (cz I q (by simp))
  | _=>exact absurd (show false=true from hs) bB
 | bl i=>
  cases rx;cases y with
  | non=>cases ry;exact PySem.EqNone.ne_bool_none (cz I q (by simp))
  | bl j=>cases ry;exact ne_bool (cz I q (fQ not G6))
  | str j=>obtain⟨t',rfl⟩:=ry;exact PySem.EqMixed.ne_bool_str (cz I q (by simp))
  | _=>exact absurd (show false=true from hs) bB
 | int i=>
  obtain⟨t,rfl⟩:=rx;cases y with
  | non=>cases ry;exact PySem.EqNone.ne_int_none (cz I q (by simp))
  | int j=>obtain⟨t',rfl⟩:=ry;exact ne_int (cz I q (fQ not G5))
  | str j=>obtain⟨t',rfl⟩:=ry;exact PySem.EqMixed.ne_int_str (cz I q (by simp))
  | _=>exact absurd (show false=true from hs) bB
 | str i=>
  obtain⟨t,rfl⟩:=rx;cases y with
  | non=>cases ry;exact PySem.EqNone.ne_str_none (cz I q (by simp))
  | bl j=>cases ry;exact PySem.EqMixed.ne_str_bool (cz I q (by simp))
  | int j=>obtain⟨t',rfl⟩:=ry;exact PySem.EqMixed.ne_str_int (cz I q (by simp))
  | str j=>obtain⟨t',rfl⟩:=ry;exact ne_str (cz I q (fQ not G7))
  | _=>exact absurd (show false=true from hs) bB
 | byt i=>
  obtain⟨t,rfl⟩:=rx;cases y with
  | byt j=>obtain⟨t',rfl⟩:=ry;exact PySem.W.ne_bytes (cz I q (fQ not G8))
  | _=>exact absurd (show false=true from hs) bB
 | _=>cases y<;>exact absurd (show false=true from hs) bB
theorem xh:bw X (compareOp .Lt) (tQ fun i j=>.bl (decide (i<j))):=GZ fun _ _ _ _ _ _ _ q=>lt_int q
theorem Ha:bw X (compareOp .Gt) (tQ fun i j=>.bl (decide (j<i))):=GZ fun _ _ _ _ _ _ _ q=>gt_int q
theorem Hb:bw X (compareOp .Is) (fun x y H Q=>y = .non/\Q (.bl (decide (x = .non))) H):=by
 intro pins s σ H x y v u Q I rx ry h;obtain⟨rfl,q⟩:=h;cases ry;refine is_none_gen (cz I q ?_);cases x<;>first
  | (cases rx;rfl)
  | (obtain⟨t,rfl⟩:=rx;rfl)
theorem bq(b:Expr){op:CmpOp}(h:op≠.In:=by decide)(h2:op≠.NotIn:=by decide):behindInMarks op b=false:=by
 have e1:(op == CmpOp.In)=false:=by cases op<;>first | rfl | exact absurd rfl h
 have e2:(op == CmpOp.NotIn)=false:=by cases op<;>first | rfl | exact absurd rfl h2
 cases b<;>simp[behindInMarks,e1,e2]
theorem gT{op:CmpOp}{r:R2}(ho:bw X (compareOp op) r)(ha:PE X a ta)(hb:PE X b tb)(hm:behindInMarks op b=false):PE X (.Compare a [op] [b] pos) (xf r ta tb):=by
 intro pins s σ H Q I h;exact wpAny_Compare1 (AV ha hb I h fun v u s2 x y H2 I2 rx ry q=>ho pins s2 σ H2 x y v u Q I2 rx ry q) hm
def R7(t:TE):TT:=fun σ H Q=>t σ H fun x H'=>∃k,x = .bl k/\Q k H'
theorem cb{op:CmpOp}{r:R2}(ho:bw X (compareOp op) r)(ha:PE X a ta)(hb:PE X b tb)(hm:behindInMarks op b=false):PT X (.Compare a [op] [b] pos) (R7 (xf r ta tb)):=by
 intro pins s σ H Q I h;refine ajo (thn (ha pins s σ H _ I h) fun v s1 R8=>R8.elim fun x R9=>R9.elim fun H1 Sa=>Sa.elim fun I1 Sb=>Sb.elim fun r1 q1=>thn (hb pins s1 σ H1 _ I1 q1) fun u s2 Sc=>Sc.elim fun y Sd=>Sd.elim fun H2 Se=>Se.elim fun I2 Sf=>Sf.elim fun r2 q2=>
  thn (ho pins s2 σ H2 x y v u _ I2 r1 r2 q2) fun c s3 Sg=>Sg.elim fun z Sh=>Sh.elim fun H3 Si=>Si.elim fun I3 Sj=>Sj.elim fun r3 Sk=>Sk.elim fun k Sl=>Sl.elim fun e q3=>?_) hm
 subst e;cases r3;exact qK ⟨H3,I3,q3⟩
theorem xi:(sizeLine:Nat)<2 ^ 63:=by rw[iI];decide
theorem Hc:bw X (binaryOp .Add) (fun x y H Q=>∃i j,x = .str i/\y = .str j/\i.length+j.length<=sizeLine/\Q (.str (i++j)) H):=by
 intro pins s σ H x y v u Q I rx ry h;obtain⟨i,j,rfl,rfl,hz,q⟩:=h;obtain⟨t,rfl⟩:=rx;obtain⟨t',rfl⟩:=ry;exact add_str (fun t' tk=>⟨.str (i++j),H,I.tok _,⟨_,rfl⟩,q⟩) hz
theorem vals1{x:V}{us:Lw}(r:aH [x] us):∃u,us = [u]/\RelV x u:=by
 cases r with
 | cons r1 r2=>cases r2;exact⟨_,rfl,r1⟩
theorem vals2{x y:V}{us:Lw}(r:aH [x,y] us):∃u w',us = [u,w']/\RelV x u/\RelV y w':=by
 cases r with
 | cons r1 r2=>
  cases r2 with
  | cons r3 r4=>cases r4;exact⟨_,_,rfl,r1,r3⟩
end
structure o8(h:Heap)(x dx C:Addr)(mA:Mv):Prop where
 obj:h.get? x=some (PySem.W.instObj C dx)
 ns:h.Ns1 dx mA
 ne:dx≠x
theorem Sm{h:Heap}{dx:Addr}{mA:Mv}(n:h.Ns1 dx mA):∃od,h.get? dx=some od/\∀name,PySem.W.lookIn name od=some (mA name):=by
 obtain⟨o,es,ep,ho,hd,hk,_,hm⟩:=n;refine⟨o,ho,fun name=>?_⟩;have e:=hm name;unfold nsFind findBy at e;rw[←Array.find?_toList]at e;unfold PySem.W.lookIn;rw[hd];dsimp only;split
 . rename_i y q;rw[q]at e;exact fQ some e
 . rename_i q;rw[q]at e;have a:es.toList.any (·.refKey)=false:=by
    rw[FE];intro y hy;obtain⟨z,t,ir⟩:=hk y (Array.mem_toList_iff.mp hy);simp[DictEntry.refKey,ir]
   have a':¬es.toList.any (·.refKey)=true:=by rw[a];exact bB
   rw[af a'];exact fQ some e
theorem o8.look{h:Heap}{x dx C:Addr}{mA:Mv}(I:o8 h x dx C mA):∃od,PySem.W.InstAt h x (PySem.W.instObj C dx) C (some od)/\∀name,PySem.W.lookIn name od=some (mA name):=
 (Sm I.ns).elim fun od Sn=>Sn.elim fun ho hl=>⟨od,⟨I.obj,rfl,rfl,ho⟩,hl⟩
section
variable {prog:Program} {w:World} {A:Around} {E:VP} {s:Shared} {K:Fg} {x dx C f:Addr} {mA:Mv} {name:Str} {v:Value}
theorem So{expr:Bool}{Q:VP}(X:K.In s.heap)(I:o8 s.heap x dx C mA)(hg:PySem.W.plainGet K C name=true)(hh:PySem.W.hasDictIn K C=true)
 (ha:PySem.W.findIn K (.ref C) name=some none) (hv:mA name=some v) (tR:PySem.W.handedIn v=true) (h:Q v { s with toks:=s.toks+1 }) :
 wpAny (model prog w) A (getAttr (.ref x) name expr) Q E s:=by
 obtain⟨od,J,hl⟩:=I.look;exact PySem.W.get_value X J (Ov hg).1 (PySem.W.findObj_own hh ha rfl (by rw[hl,hv])) tR h
theorem Sq{pl:Sem Bool}{Q:Value×Lw->Shared->Prop}(X:K.In s.heap)(I:o8 s.heap x dx C mA)(hg:PySem.W.plainGet K C name=true)
 (hf:PySem.W.findIn K (.ref C) name=some (some (.ref f))) (ht:PySem.W.isFn K (.ref f)=true) (hv:mA name=none) (h:Q (.ref f,[.ref x]) s) :
 wpAny (model prog w) A (getMethod (.ref x) name pl) Q E s:=by
 obtain⟨od,J,hl⟩:=I.look;exact PySem.W.method_fn X J (Ov hg).1 (Ov hg).2 hf (ij.mp ht) (by show(PySem.W.lookIn name od).map (·.isSome)=some false;rw[hl,hv];rfl) h
theorem Sr{ns:Ls}{Q:Unit->Shared->Prop}(X:K.In s.heap)(I:o8 s.heap x dx C mA)
 (hs:PySem.W.findIn K (.ref C) "__setattr__" = some (some (.builtin "object.__setattr__"))) (hp:PySem.W.plainOver K C=true) (ht:PySem.W.takerIn K C name=some none) (hh:PySem.W.hasDictIn K C=true)
 (hw:PySem.Within mA ns) (hsz:ns.length<=sizeLine)
 (h:∀h',o8 h' x dx C (fun y=>if y=name then some v else mA y)->Heap.SameBut dx s.heap h'->Q () { s with heap:=h',toks:=s.toks+2 }) :
 wpAny (model prog w) A (setAttr (.ref x) name v) Q E s:=by
 obtain⟨od,J,hl⟩:=I.look;refine PySem.W.set_plain X J hs (PySem.W.osa_open (s:={ s with toks:=s.toks+1 }) (r:=none) X J hp ht fun b=>?_);obtain⟨cd,hc,ji⟩:=PySem.W.any_some hh;have hx:s.heap.get? x=some ⟨.ref C,some dx,.plain,#[]⟩:=I.obj;refine ac (aj (ac (ac (wpAny_loadPart hx (ac (PySem.W.Looks.here (s:={ s with toks:=s.toks+1 }) (PySem.W.looks_clsIn X hc) ?_))))));rw[ji];refine aj (a:=some dx) (ac (aj (ac ?_)));refine wpAny_nsSet1 (s:={ s with toks:=s.toks+1 }) I.ns fun h' mU o6=>?_;obtain⟨oD,esD,epD,Ss,Su,Sv⟩:=mU.count (PySem.Within.cons name v hw);refine ac (wpAny_lookBehind Ss (by rw[Su];exact pastItsLine_dict (bn Sv (by rw[bu];omega))) ?_);exact aj (h _ ⟨(o6.2 _ (dQ I.ne)).trans I.obj,mU,I.ne⟩ o6)
theorem Sw{R:Result->Shared->Prop}{vs:Lw}{kw:List (Str×Value)}(X:K.In s.heap)(hm:PySem.W.makesIn K C=true)
 (hi:PySem.W.findIn K (.ref C) "__init__" = some (some (.ref f))) (hf:PySem.W.typeIn K (.ref f)=some (.type "function"))
 (h:codeAny (model prog w) (A.under (.builtin "type.__call__" ⟨.ref C::vs,kw⟩)) (.call (.ref f) ⟨.ref (s.heap.objs.size+1)::vs,kw⟩) (PySem.W.InitBack (s.heap.objs.size+1) R)
  { s with heap:=(s.heap.push PySem.W.emptyDict).push (PySem.W.instObj C s.heap.objs.size) }) :
 codeAny (model prog w) A (.call (.ref C) ⟨vs,kw⟩) R s:=by
 obtain⟨hh,g,d,t,os⟩:=s;exact PySem.W.make_core (PySem.W.makes_of X hm) (PySem.W.looks_findIn X hi) (fun self=>PySem.W.bind_fn X self hf) (.inl rfl) h
end
def az(f:Str)(v:V):List (Str×V)->List (Str×V)
 | []=>[(f,v)]
 | (g,x)::r=>if g=f then(g,v)::r else(g,x)::az f v r
theorem cf(f g:Str)(v:V):∀fs:List (Str×V),(az f v fs).lookup g=if g=f then some v else fs.lookup g
 | []=>by
  show List.lookup g [(f,v)]=_
  by_cases h:g=f
  . have hb:(g == f)=true:=ij.mpr h;simp only[List.lookup,hb,ai h]
  . have hb:(g == f)=false:=gk.mpr h;simp only[List.lookup,hb,af h]
 | (k,x)::r=>by
  have ih:=cf f g v r;rw[show az f v ((k,x)::r)=(if k=f then(k,v)::r else(k,x)::az f v r) from rfl]
  by_cases hk:k=f
  . rw[ai hk]
    by_cases h:g=k
    . have hb:(g == k)=true:=ij.mpr h;simp only[List.lookup,hb,ai (h.trans hk)]
    . have hb:(g == k)=false:=gk.mpr h;simp only[List.lookup,hb,af (fun e:g=f=>h (e.trans hk.symm))]
  . rw[af hk]
    by_cases h:g=k
    . have hb:(g == k)=true:=ij.mpr h;simp only[List.lookup,hb,af (fun e:g=f=>hk (h.symm.trans e))]
    . have hb:(g == k)=false:=gk.mpr h;simp only[List.lookup,hb];exact ih
theorem AY(f:Str)(v:V):∀fs:List (Str×V),f∈(az f v fs).map (·.1)/\∀g,g∈fs.map (·.1)->g∈(az f v fs).map (·.1)
 | []=>⟨by simp[az],fun g h=>by simp at h⟩
 | (k,x)::r=>by
  obtain⟨i1,i2⟩:=AY f v r;rw[show az f v ((k,x)::r)=(if k=f then(k,v)::r else(k,x)::az f v r) from rfl]
  by_cases hk:k=f
  . rw[ai hk];subst hk;exact⟨by simp,fun g h=>by simpa using h⟩
  . rw[af hk];refine⟨?_,fun g h=>?_⟩
    . rw[b9];exact cT _ i1
    . rw[b9]at h ⊢
      rcases bh.mp h with e | e
      . exact bh.mpr (.inl e)
      . exact cT _ (i2 g e)
theorem AZ(f:Str)(v:V):∀fs:List (Str×V),(az f v fs).length<=fs.length+1
 | []=>by simp[az]
 | (k,x)::r=>by
  have ih:=AZ f v r;rw[show az f v ((k,x)::r)=(if k=f then(k,v)::r else(k,x)::az f v r) from rfl]
  by_cases hk:k=f
  . rw[ai hk,bu,bu];omega
  . rw[af hk,bu,bu];omega
theorem eT.some_of{v:V}{o:Option Value}(r:eT (some v) o):∃u,o=some u/\RelV v u:=by
 cases o with
 | none=>exact(show False from r).elim
 | some u=>exact⟨u,rfl,r⟩
theorem eT.none_of{o:Option Value}(r:eT none o):o=none:=by
 cases o with
 | none=>rfl
 | some u=>exact(show False from r).elim
theorem Sx{v:V}{u:Value}(r:RelV v u):PySem.W.handedIn u=true:=by
 cases v with
 | non=>cases (show u=Value.none from r);rfl
 | bl b=>cases (show u=Value.bool b from r);rfl
 | int i=>obtain⟨t,e⟩:=(show∃t,u=Value.int i t from r);cases e;rfl
 | str x=>obtain⟨t,e⟩:=(show∃t,u=Value.str x t from r);cases e;rfl
 | byt b=>obtain⟨t,e⟩:=(show∃t,u=Value.bytes b t from r);cases e;rfl
 | flt b=>obtain⟨t,e⟩:=(show∃t,u=Value.float b t from r);cases e;rfl
 | ref a=>cases (show u=Value.ref a from r);rfl
 | ty n=>cases (show u=Value.type n from r);rfl
section
variable {P:Program} {w:World} {H H':Hp} {h h':Heap} {a C dx:Addr} {fs P0:List (Str×V)}
theorem xj(hok:b7 P w H h)(e:H a=some (.ins C dx fs)):∃mA,o8 h a dx C mA/\(∀f,eT (fs.lookup f) (mA f))/\PySem.Within mA (fs.map (·.1))/\fs.length<=1000/\H dx=some (.own a):=by
 obtain⟨d,z,ne,ob,mA,n,r,q⟩:=(show bN P w H h a (.ins C dx fs) from hok a _ e);exact⟨mA,⟨ob,n,ne⟩,r,q,z,d⟩
end
structure jP(K:Fg)(C:Addr):Prop where
 pg:PySem.W.plainGet K C Str.empty=true
 hd:PySem.W.hasDictIn K C=true
 po:PySem.W.plainOver K C=true
 sa:PySem.W.findIn K (.ref C) "__setattr__" = some (some (.builtin "object.__setattr__"))
theorem jP.get{K:Fg}{C:Addr}(c:jP K C)(f:Str):PySem.W.plainGet K C f=true:=c.pg
def iu(K:Fg)(C:Addr)(f:Str):Prop:=PySem.W.findIn K (.ref C) f=some none
theorem iu.taker{K:Fg}{C:Addr}{f:Str}(n:iu K C f):PySem.W.takerIn K C f=some none:=by
 unfold PySem.W.takerIn;rw[show PySem.W.findIn K (.ref C) f=some none from n];rfl
structure tS(K:Fg)(C:Addr)(m:Str)(f:Addr):Prop where
 at_:PySem.W.findIn K (.ref C) m=some (some (.ref f))
 fn:PySem.W.isFn K (.ref f)=true
 kp:PySem.W.keepIn K (.ref f)=true
section
variable {X:Cx} {pins:Po} {σ:St} {H:Hp} {s:Shared} {a C dx:Addr} {fs:List (Str×V)} {f:Str} {v:V} {A:Around} {E:VP}
theorem Sy{b:Bool}{Q:VP}(I:Inv X pins σ H s)(e:H a=some (.ins C dx fs))(c:jP X.K C)(n:iu X.K C f)(l:fs.lookup f=some v)
 (h:∀u s',Inv X pins σ H s'->RelV v u->Q u s'):wpAny (model X.prog X.w) A (getAttr (.ref a) f b) Q E s:=by
 obtain⟨mA,O,r,_,_,_⟩:=xj I.hok e;obtain⟨u,hu,ru⟩:=eT.some_of (v:=v) (o:=mA f) (by rw[←l];exact r f);exact So I.kIn O (c.get f) c.hd n hu (Sx ru) (h u _ (I.tok _) ru)
theorem Sz{m:Str}{g:Addr}{pl:Sem Bool}{Q:Value×Lw->Shared->Prop}(I:Inv X pins σ H s)(e:H a=some (.ins C dx fs))(c:jP X.K C)(k:tS X.K C m g)(l:fs.lookup m=none)
 (h:Q (.ref g,[.ref a]) s):wpAny (model X.prog X.w) A (getMethod (.ref a) m pl) Q E s:=by
 obtain⟨mA,O,r,_,_,_⟩:=xj I.hok e;have hn:mA m=none:=eT.none_of (by rw[←l];exact r m);exact Sq I.kIn O (c.get m) k.at_ k.fn hn h
theorem SA{y:V}{u:Value}{Q:Unit->Shared->Prop}(I:Inv X pins σ H s)(e:H a=some (.ins C dx fs))(c:jP X.K C)(n:iu X.K C f)(hl:fs.length<1000)(ry:RelV y u)
 (h:∀s',Inv X pins σ (ak H a (.ins C dx (az f y fs))) s'->Q () s'):wpAny (model X.prog X.w) A (setAttr (.ref a) f u) Q E s:=by
 obtain⟨mA,O,r,wi,_,ho⟩:=xj I.hok e;have hz:(fs.map (·.1)).length<=sizeLine:=by rw[aw,iI];omega
 refine Sr I.kIn O c.sa c.po n.taker c.hd wi hz fun h' O' sb=>h _ ?_;have hd:∃o,h'.get? dx=some o:=O'.ns.elim fun o SD=>SD.elim fun _ SE=>SE.elim fun _ SF=>SF.elim fun e' _=>⟨o,e'⟩;refine I.write (x:=a) (e:=dx) (by rw[e];exact True.intro) (.inr ho) (fun b q hb z=>(sb.2 b hb).trans z) hd ?_;refine⟨by rw[a8 O.ne];exact ho,?_,O.ne,O'.obj,_,O'.ns,fun g=>?_,fun g hg=>?_⟩
 . have:=AZ f y fs;omega
 . show eT ((az f y fs).lookup g) (if g=f then some u else mA g);rw[cf]
   by_cases q:g=f
   . rw[ai q,ai q];exact ry
   . rw[af q,af q];exact r g
 . by_cases q:g=f
   . rw[q];exact(AY f y fs).1
   . refine(AY f y fs).2 g (wi g fun z=>hg ?_);show(if g=f then some u else mA g)=none;rw[af q];exact z
theorem Inv.made(I:Inv X pins σ H s):Inv X pins σ (ak (ak H s.heap.objs.size (.own (s.heap.objs.size+1))) (s.heap.objs.size+1) (.ins C s.heap.objs.size []))
 { s with heap:=(s.heap.push PySem.W.emptyDict).push (PySem.W.instObj C s.heap.objs.size) }:=by
 have e1:(s.heap.push PySem.W.emptyDict).get? s.heap.objs.size=some PySem.W.emptyDict:=dv s.heap rfl;have e2:((s.heap.push PySem.W.emptyDict).push (PySem.W.instObj C s.heap.objs.size)).get? (s.heap.objs.size+1)=some (PySem.W.instObj C s.heap.objs.size):=by
  have:=dv (s.heap.push PySem.W.emptyDict) (o:=PySem.W.instObj C s.heap.objs.size) rfl
  rwa [lu]at this
 have e3:(s.heap.push PySem.W.emptyDict).Ns s.heap.objs.size (fun _=>none):=⟨PySem.W.emptyDict,#[],_,e1,rfl,(fun e he=>absurd he (by simp)),fun _=>rfl⟩;have I1:=I.laid (a:=s.heap.objs.size) (o:=.own (s.heap.objs.size+1)) (h':=s.heap.push PySem.W.emptyDict) (t':=s.toks) (fun b u q=>bg _ q) (av _) ⟨_,e1⟩;refine I1.laid (a:=s.heap.objs.size+1) (o:=.ins C s.heap.objs.size []) (t':=s.toks) (fun b u q=>bg _ q) (wq (lu _ _)) ?_;have ne:s.heap.objs.size≠s.heap.objs.size+1:=bH (sY _);refine⟨by rw[a8 ne,bc],cj _,ne,e2,fun _=>none,(Heap.Ns1.of_empty e3).at fun o q=>bg _ q,fun _=>True.intro,fun y hy=>absurd rfl hy⟩
theorem SG{prog:Program}{w:World}{env:Env}{e:Expr}{f:Str}{pos:Pos}{s:Shared}{Q:VP}(hb:attributeBase e f env (eval e env)=eval e env)
 (h:wpAny (model prog w) A (eval e env) (fun o s₁=>wpAny (model prog w) A (getAttr o f true) Q E s₁) E s):wpAny (model prog w) A (eval (.Attribute e f pos) env) Q E s:=
 Attribute_any_ h (by rw[arm_eval_Attribute,hb])
end
def Hd(K:Fg)(ta:TE)(f:Str):TE:=fun σ H Q=>ta σ H fun x H1=>∃a C dx fs v,x = .ref a/\H1 a=some (.ins C dx fs)/\jP K C/\iu K C f/\fs.lookup f=some v/\Q v H1
def SH(K:Fg)(ta tv:TE)(f:Str):TS:=fun D σ H=>tv σ H fun y H1=>ta σ H1 fun x H2=>∃a C dx fs,x = .ref a/\H2 a=some (.ins C dx fs)/\jP K C/\iu K C f/\fs.length<1000 /\
 D.nx σ (ak H2 a (.ins C dx (az f y fs)))
section
variable {X:Cx} {o e value:Expr} {f:Str} {pos pos' SI:Pos} {ta tv:TE}
theorem iQ(he:PE X e ta)(hb:attributeBase e f X.env (eval e X.env)=eval e X.env):PE X (.Attribute e f pos) (Hd X.K ta f):=by
 intro pins s σ H Q I h;refine SG hb (thn (he pins s σ H _ I h) fun u s1 SJ=>SJ.elim fun x SK=>SK.elim fun H1 SM=>SM.elim fun I1 SN=>SN.elim fun rx SO=>SO.elim fun a SQ=>SQ.elim fun C SR=>SR.elim fun dx SS=>SS.elim fun fs SU=>SU.elim fun v SV=>SV.elim fun ex SW=>SW.elim fun ea SX=>SX.elim fun c SY=>SY.elim fun n Ta=>Ta.elim fun l q=>?_);subst ex;obtain rfl:u=Value.ref a:=rx;exact Sy I1 ea c n l fun u' s2 I2 ru=>⟨v,H1,I2,ru,q⟩
theorem mV(ha:PE X o ta)(hv:PE X value tv)(hs:swapsWith value (some (.Attribute o f pos')) pos.line X.env=pure false):PS X (.Assign [.Attribute o f pos'] value pos) (SH X.K ta tv f):=by
 intro pins s σ H D I h;refine plainObj_wpAny_Assign_Attribute (thn (hv pins s σ H _ I h) fun u s1 Tb=>Tb.elim fun y Tc=>Tc.elim fun H1 Td=>Td.elim fun I1 Te=>Te.elim fun ry q=>thn (ha pins s1 σ H1 _ I1 q) fun ov s2 Tf=>Tf.elim fun x Tg=>Tg.elim fun H2 Th=>Th.elim fun I2 Ti=>Ti.elim fun rx Tj=>Tj.elim fun a Tk=>Tk.elim fun C Tl=>Tl.elim fun dx Tn=>Tn.elim fun fs To=>To.elim fun ex Tp=>Tp.elim fun ea Tq=>Tq.elim fun c Tr=>Tr.elim fun n Ts=>Ts.elim fun l q2=>?_) hs;subst ex;obtain rfl:ov=Value.ref a:=rx;exact SA I2 ea c n l ry fun s3 I3=>⟨σ,_,I3,q2⟩
end
section
variable {X:Cx} {pins:Po} {σ:St} {H:Hp} {s:Shared} {A:Around} {E:VP} {Q:VP} {c:Value} {b:Bool}
inductive iR (K:Fg) (H:Hp):V->Value->Prop where
 | non:iR K H .non (.type "NoneType")
 | bl (x:Bool):iR K H (.bl x) (.type "bool")
 | int (i:Int):iR K H (.int i) (.type "int")
 | str (x:Str):iR K H (.str x) (.type "str")
 | flt (x:UInt64):iR K H (.flt x) (.type "float")
 | lst {a:Addr} {xs:Lv} (e:H a=some (.lst xs)):iR K H (.ref a) (.type "list")
 | frz {a:Addr} {o:Obj} {xs:Lv} (e:H a=some (.frz o (.lst xs))):iR K H (.ref a) (.type "list")
 | tup {a:Addr} {xs:Lv} (e:H a=some (.tup xs)):iR K H (.ref a) (.type "tuple")
 | dK {a:Addr} {kvs:List (aF×V)} (e:H a=some (.dK kvs)):iR K H (.ref a) (.type "dict")
 | dT {a:Addr} {kvs:List (List NI×V)} (e:H a=some (.dT kvs)):iR K H (.ref a) (.type "dict")
 | ins {a C dx:Addr} {fs:List (Str×V)} (e:H a=some (.ins C dx fs)) (cl:jP K C) (ha:PySem.W.findIn K (.ref C) "__class__" = some (some (.builtin "object.__class__")))
  (hn:PySem.W.specialIn K (.builtin "object.__class__") "__get__" = some (some (.builtin "getset_descriptor.__get__"))) (He:PySem.W.takesIn K (.builtin "object.__class__")=some true)
  (hm:PySem.W.mroIn K C (.type "object")=some true):iR K H (.ref a) (.ref C)
theorem Tt{x:V}{u t:Value}(I:Inv X pins σ H s)(rx:RelV x u)(ty:iR X.K H x t)(e:PySem.W.kitOne X.K t c=some b)(h:∀tk,Q (.bool b) { s with toks:=tk }) :
 wpAny (model X.prog X.w) A (call (.builtin "isinstance") [u,c]) Q E s:=by
 cases ty with
 | non=>cases (show u=Value.none from rx);exact lw PySem.W.kitx_none I.kIn True.intro e (fun z=>nomatch z) h
 | bl y=>cases (show u=Value.bool y from rx);exact lw PySem.W.kitx_bool I.kIn True.intro e (fun z=>nomatch z) h
 | int i=>obtain⟨t,q⟩:=(show∃t,u=Value.int i t from rx);cases q;exact lw PySem.W.kitx_int I.kIn True.intro e (fun z=>nomatch z) h
 | str y=>obtain⟨t,q⟩:=(show∃t,u=Value.str y t from rx);cases q;exact lw PySem.W.kitx_str I.kIn True.intro e (fun z=>nomatch z) h
 | flt y=>obtain⟨t,q⟩:=(show∃t,u=Value.float y t from rx);cases q;exact lw PySem.W.kitx_float I.kIn True.intro e (fun z=>nomatch z) h
 | @lst a xs ea=>
  cases (show u=Value.ref a from rx);obtain⟨_,_,n,_,h1⟩:=(show bN X.prog X.w H s.heap a (.lst xs) from I.hok a _ ea);exact lw PySem.W.kitx_list I.kIn ⟨_,h1,rfl⟩ e (fun z=>nomatch z) h
 | @frz a ob xs ea=>
  cases (show u=Value.ref a from rx);obtain⟨_,_,_,n,_,h1⟩:=(show bN X.prog X.w H s.heap a (.frz ob (.lst xs)) from I.hok a _ ea);exact lw PySem.W.kitx_list I.kIn ⟨_,h1,rfl⟩ e (fun z=>nomatch z) h
 | @tup a xs ea=>
  cases (show u=Value.ref a from rx);obtain⟨_,_,_,p⟩:=(show bN X.prog X.w H s.heap a (.tup xs) from I.hok a _ ea);obtain⟨o,h1,h2,_⟩:=p;exact lw PySem.W.kitx_tuple I.kIn ⟨o,h1,h2⟩ e (fun z=>nomatch z) h
 | @dK a kvs ea=>
  cases (show u=Value.ref a from rx);obtain⟨_,_,vs,_,p⟩:=(show bN X.prog X.w H s.heap a (.dK kvs) from I.hok a _ ea);obtain⟨o,es,ep,h1,h2,_⟩:=p;exact lw PySem.W.kitx_dict I.kIn ⟨o,h1,h2.1⟩ e (fun z=>nomatch z) h
 | @dT a kvs ea=>
  cases (show u=Value.ref a from rx);obtain⟨_,_,xs,_,o,es,ep,h1,h2,_⟩:=(show bN X.prog X.w H s.heap a (.dT kvs) from I.hok a _ ea);exact lw PySem.W.kitx_dict I.kIn ⟨o,h1,h2.1⟩ e (fun z=>nomatch z) h
 | @ins a C dx fs ea cl ha hn He hm=>
  cases (show u=Value.ref a from rx);obtain⟨mA,O,_⟩:=xj I.hok ea;obtain⟨od,J,_⟩:=O.look;exact lw (PySem.W.kitx_own (cl.get _) cl.hd ha hn He hm) I.kIn J e (fun z=>nomatch z) h
end
structure cC(k:Nat)(A:Around):Prop where
 hd:A.handled=none
 dp:A.depth+3 * k+5<recursionLimit
 un:A.units+16 * k+200<cLine
 gd:A.guards=some []
theorem cC.mono{j k:Nat}{A:Around}(r:cC k A)(h:j<=k):cC j A:=⟨r.hd,by have:=r.dp;omega,by have:=r.un;omega,r.gd⟩
theorem cC.deeper{k:Nat}{A:Around}(r:cC (k+1) A)(env:Env):cC k (A.deeper env):=
 ⟨r.hd,by have:=r.dp;show A.depth+1+3 * k+5<_;omega,by have:=r.un;show A.units+3+16 * k+200<_;omega,r.gd⟩
theorem cC.in1{k:Nat}{A:Around}(r:cC (k+1) A):cC k A.in1:=
 ⟨r.hd,by have:=r.dp;show A.depth+3 * k+5<_;omega,by have:=r.un;show A.units+1+16 * k+200<_;omega,r.gd⟩
theorem Tu{A:Around}{C:Addr}{us:Lw}{kw:List (Str×Value)}:(A.under (.builtin "type.__call__" ⟨.ref C::us,kw⟩)).depth=A.depth+1:=by
 first | rfl | simp[Around.under,Code.weight,Code.isCreation,Code.isGuard,Code.isCaller,Code.frames,Code.isFrame,guardIds]
theorem Tv{A:Around}{C:Addr}{us:Lw}{kw:List (Str×Value)}:(A.under (.builtin "type.__call__" ⟨.ref C::us,kw⟩)).units=A.units+1:=by
 first | rfl | simp[Around.under,Code.cUnits,Code.frames,Code.isFrame]
theorem Tw{A:Around}{C:Addr}{us:Lw}{kw:List (Str×Value)}:(A.under (.builtin "type.__call__" ⟨.ref C::us,kw⟩)).guards=A.guards:=by
 first | rfl | simp[Around.under,pushGuards,Code.guards,Code.isGuard,guardIds]
theorem cC.make{k:Nat}{A:Around}(r:cC (k+1) A)(C:Addr)(us:Lw)(kw:List (Str×Value)):cC k (A.under (.builtin "type.__call__" ⟨.ref C::us,kw⟩)):=
 ⟨r.hd,by have:=r.dp;rw[Tu];omega,by have:=r.un;rw[Tv];omega,Tw.trans r.gd⟩
theorem cC.depth{k:Nat}{A:Around}(r:cC k A):A.depth<recursionLimit:=by have:=r.dp;omega
theorem cC.units{k:Nat}{A:Around}(r:cC k A):A.units+64<cLine:=by have:=r.un;omega
theorem cC.units0{k:Nat}{A:Around}(r:cC k A):A.units<cLine:=by have:=r.un;omega
def lH:TA:=fun _ H Q=>Q [] H
def jQ(ta:TE)(tr:TA):TA:=fun σ H Q=>ta σ H fun x H1=>tr σ H1 fun xs H2=>Q (x::xs) H2
section
variable {X:Cx} {e:Expr} {es:List Expr} {te:TE} {t:TA} {pos:Pos}
theorem ah:PA X [] lH:=fun _ _ _ _ H Q I h=>FF ⟨[],H,I,.nil,h⟩
theorem aa(ha:PE X e te)(hr:PA X es t)(hs:starEach (e::es) X.env=(false,eval e X.env)::starEach es X.env:=by rfl):PA X (e::es) (jQ te t):=by
 intro pos pins s σ H Q I h;rw[hs];show wpAny _ _ (spliced ((false,eval e X.env)::backTo pos (starEach es X.env))) _ _ s;refine Ag (thn (ha pins s σ H _ I h) fun u s1 Tx=>Tx.elim fun x Tz=>Tz.elim fun H1 TD=>TD.elim fun I1 TF=>TF.elim fun r1 q1=>?_);exact thn (hr pos pins s1 σ H1 _ I1 q1) fun us s2 TH=>TH.elim fun xs TJ=>TJ.elim fun H2 TK=>TK.elim fun I2 TL=>TL.elim fun r2 q2=>⟨x::xs,H2,I2,.cons r1 r2,q2⟩
def A0(t:TA):TE:=fun σ H Q=>t σ H fun xs H1=>xs.length<=sizeLine/\∀p,H1 p=none->Q (.ref p) (ak H1 p (.tup xs))
def TM(t:TA):TE:=fun σ H Q=>t σ H fun xs H1=>xs.length<=sizeLine/\∀p,H1 p=none->Q (.ref p) (ak H1 p (.lst xs))
theorem Hf{x1}(h:PA X es t):PE X (.Tuple es x1 pos) (A0 t):=by
 intro pins s σ H Q I hq;refine wpAny_Tuple_spliced (thn (h pos pins s σ H _ I hq) fun us s1 TN=>TN.elim fun xs TQ=>TQ.elim fun H1 TR=>TR.elim fun I1 TU=>TU.elim fun r TV=>TV.elim fun z q=>⟨by rw[←r.length];exact z,?_⟩);have hf:H1 s1.heap.objs.size=none:=I1.hok.fresh (av _);refine⟨.ref s1.heap.objs.size,ak H1 s1.heap.objs.size (.tup xs),I1.laid (t':=s1.toks) (fun b u e=>bg _ e) (av _) ?_,rfl,q _ hf⟩;exact⟨z,us,r,⟨_,dv _ rfl,rfl,_,rfl⟩⟩
theorem TW(h:PA X es t):PE X (.List es pos) (TM t):=by
 intro pins s σ H Q I hq;refine wpAny_List_spliced (thn (h pos pins s σ H _ I hq) fun us s1 TX=>TX.elim fun xs TY=>TY.elim fun H1 TZ=>TZ.elim fun I1 T0=>T0.elim fun r T1=>T1.elim fun z q=>⟨by rw[←r.length];exact z,?_⟩);have hf:H1 s1.heap.objs.size=none:=I1.hok.fresh (av _);refine⟨.ref s1.heap.objs.size,ak H1 s1.heap.objs.size (.lst xs),I1.laid (t':=s1.toks) (fun b u e=>bg _ e) (av _) ?_,rfl,q _ hf⟩;exact⟨z,us,0,r,dv _ rfl⟩
end
abbrev Sp:=Lv->Hp->VK->XK->Prop
abbrev jk:=List Env->Hp->Shared->XK->Value->Shared->Prop
structure kB(P:Program)(w:World)(K:Fg)(mg:Mv)(base:Heap)(A:Around)(outer:List Env)(s:Shared)(H:Hp):Prop where
 frames:A.frames=some outer
 mod:Mod K mg base
 bs:∀b o,base.get? b=some o->s.heap.get? b=some o/\H b=none
 bsz:base.objs.size<=s.heap.objs.size
 funs:s.heap.FunFrames base outer
 frf:∀b∈ip outer,H b=none
 hok:b7 P w H s.heap
 bare:AllBare s.gens
def CE(outer:List Env)(P:Program)(w:World)(H:Hp)(s:Shared)(Q:VK)(u:Value)(s':Shared):Prop:=
 ∃v H',s'.os=s.os/\AllBare s'.gens/\Un (ip outer) [] H H' s.heap s'.heap/\b7 P w H' s'.heap/\RelV v u/\Q v H'
def CR(CX:jk)(outer:List Env)(P:Program)(w:World)(H:Hp)(s:Shared)(Q:VK)(E:XK)(r:Result)(s':Shared):Prop:=
 match r with
 | .ok (.ret u)=>CE outer P w H s Q u s'
 | .ok _=>False
 | .error e=>CX outer H s E e s'
structure aB(P:Program)(w:World)(K:Fg)(mg:Mv)(base:Heap)(CX:jk)(k:Nat)(f:Addr)(fd:Fy)(ps:Ls)(sp:Sp):Prop where
 len:∀vs H Q E,sp vs H Q E->vs.length=ps.length
 run:∀(A:Around) (outer:List Env) (s:Shared) (H:Hp) (args:Args) (us:Lw) (vs:Lv) (Q:VK) (E:XK),cC k A->kB P w K mg base A outer s H->BindsTo s fd args (ps.zip us)->aH vs us->sp vs H Q E ->
  codeAny (model P w) A (.call (.ref f) args) (CR CX outer P w H s Q E) s
theorem kB.make{P:Program}{w:World}{K:Fg}{mg:Mv}{base:Heap}{A:Around}{outer:List Env}{s:Shared}{H:Hp}(e:kB P w K mg base A outer s H)(C:Addr)(us:Lw)(kw:List (Str×Value)) :
 kB P w K mg base (A.under (.builtin "type.__call__" ⟨.ref C::us,kw⟩)) outer s H:=⟨by first | exact e.frames | (simpa [Around.under,Code.envs,Code.isFrame,pushEnvs]using e.frames),e.mod,e.bs,e.bsz,e.funs,e.frf,e.hok,e.bare⟩
theorem kB.in1{P:Program}{w:World}{K:Fg}{mg:Mv}{base:Heap}{A:Around}{outer:List Env}{s:Shared}{H:Hp}(e:kB P w K mg base A outer s H) :
 kB P w K mg base A.in1 outer s H:=⟨e.frames,e.mod,e.bs,e.bsz,e.funs,e.frf,e.hok,e.bare⟩
section
variable {X:Cx} {pins:Po} {σ:St} {H:Hp} {s s':Shared}
theorem Inv.env0(I:Inv X pins σ H s):kB X.prog X.w X.K X.mg X.base X.A X.stack s H:=
 ⟨I.ok.frames,I.ok.mod,I.bs,bn I.ok.bsz I.sz,I.stack,I.stkFree,I.hok,I.bare⟩
theorem Inv.after{Q:VK}{u:Value}(I:Inv X pins σ H s)(h:CE X.stack X.prog X.w H s Q u s'):EP X pins σ Q u s':=by
 obtain⟨v,H',os,bare,un,hok,r,q⟩:=h;obtain⟨hh,g,d,t,A1⟩:=s';obtain rfl:A1=s.os:=os;exact⟨v,H',I.call (h':=hh) (g':=g) (d':=d) (t':=t) (ch:=[]) un hok bare (fun b z=>absurd z (by simp)),r,q⟩
end
def T2(sp:Sp)(eU:Lv)(E:XK)(t:TA):TE:=fun σ H Q=>t σ H fun vs H1=>sp (vs++eU) H1 Q E
def T3(C:Addr)(m:Str)(sp:Sp)(eU:Lv)(E:XK)(ta:TE)(t:TA):TE:=fun σ H Q=>ta σ H fun x H1=>∃a dx fs,x = .ref a/\H1 a=some (.ins C dx fs)/\fs.lookup m=none /\
 t σ H1 fun vs H2=>sp (x::(vs++eU)) H2 Q E
def T4(C:Addr)(sp:Sp)(eU:Lv)(E:XK)(t:TA):TE:=fun σ H Q=>t σ H fun vs H1=>∀x dx,H1 x=none->H1 dx=none->dx≠x ->
 sp (.ref x::(vs++eU)) (ak (ak H1 dx (.own x)) x (.ins C dx [])) (fun v H2=>v = .non/\Q (.ref x) H2) E
def Binds(K:Fg)(fd:Fy)(ps:Ls)(ds:Lw):Prop:=
 ∀(s:Shared) (us:Lw),K.In s.heap->(us++ds).length=ps.length->BindsTo s fd ⟨us,[]⟩ (ps.zip (us++ds))
theorem Binds.all{K:Fg}{fd:Fy}{ps:Ls}(h:∀us:Lw,us.length=ps.length->bindArgs fd ⟨us,[]⟩=pure (ps.zip us)):Binds K fd ps []:=fun s us _ hl=>by
 rw[ft]at hl ⊢;exact .of_eq (h us hl)
def ri(CX:jk)(X:Cx)(E:XK):Prop:=∀(pins:Po) (σ:St) (H:Hp) (s:Shared) (e:Value) (s':Shared),Inv X pins σ H s->CX X.stack H s E e s'->X.xe e s'
section
variable {X:Cx} {CX:jk} {k:Nat} {f C:Addr} {fd:Fy} {ps:Ls} {sp:Sp} {eU:Lv} {ds:Lw} {E:XK} {x m:Str} {p pos apos:Pos} {e o:Expr} {es:List Expr} {ta:TE} {t:TA}
theorem Hg{pins:Po}{σ:St}{H:Hp}{s:Shared}{Q:VK}{us:Lw}{vs:Lv}(F:aB X.prog X.w X.K X.mg X.base CX k f fd ps sp)(hr:cC k X.A)(hb:Binds X.K fd ps ds)(hd:aH eU ds)(hx:ri CX X E)
 (I:Inv X pins σ H s) (r:aH vs us) (h:sp (vs++eU) H Q E):wpAny (model X.prog X.w) X.A (call (.ref f) us) (EP X pins σ Q) X.xe s:=by
 have r2:aH (vs++eU) (us++ds):=r.append hd;have hl:(us++ds).length=ps.length:=by rw[←r2.length];exact F.len _ _ _ _ h
 refine FG (oP (F.run X.A X.stack s H ⟨us,[]⟩ (us++ds) (vs++eU) Q E hr I.env0 (hb s us I.kIn hl) r2 h) fun r s' hq=>?_);cases r with
 | error e=>exact hx pins σ H s e s' I hq
 | ok fl=>
  cases fl with
  | ret u=>exact I.after hq
  | next=>exact False.elim hq
  | brk=>exact False.elim hq
  | cont=>exact False.elim hq
theorem aO(F:aB X.prog X.w X.K X.mg X.base CX k f fd ps sp)(hr:cC k X.A)(hg:Gl X x)(hm:X.mg x=some (.ref f))(hk:PySem.W.keepIn X.K (.ref f)=true)(hb:Binds X.K fd ps ds)(hd:aH eU ds)(hx:ri CX X E)
 (ha:PA X (e::es) t) (lC:(x == ("__debug__":Str))=false:=by decide) (he:starEach (e::es) X.env=(false,eval e X.env)::starEach es X.env:=by rfl) (bo:(backTo pos (starEach es X.env)).any (·.1)=false:=by rfl) :
 PE X (.Call (.Name x p) (e::es) [] pos) (T2 sp eU E t):=by
 intro pins s σ H Q I h;refine Ah (GR I hg hm ?_ lC);refine Ow (h₀:=X.base) I.ok.mod.kin hk (thn (ha pos pins s σ H _ I h) fun us s1 T5=>T5.elim fun vs T6=>T6.elim fun H1 T7=>T7.elim fun I1 T8=>T8.elim fun r q=>⟨I1.kIn,?_⟩) he bo;exact Hg F hr hb hd hx I1 r q
theorem T9{pl:Sem Bool}(he:PE X o ta)(c:jP X.K C)(hm:tS X.K C m f)(F:aB X.prog X.w X.K X.mg X.base CX k f fd ps sp)(hr:cC k X.A)(hb:Binds X.K fd ps ds)(hd:aH eU ds)(hx:ri CX X E)(ha:PA X (e::es) t)
 (fC:starEach (e::es) X.env=(false,eval e X.env)::starEach es X.env:=by rfl) (bo:(backTo pos (starEach es X.env)).any (·.1)=false:=by rfl)
 (ht:eval (.Call (.Attribute o m apos) (e::es) [] pos) X.env=(do
  let ov ←eval o X.env
  standAt apos.atName
  let (f,first) ←holding [ov] (getMethod ov m pl)
  callWith pos f first (backTo pos (starEach (e::es) X.env)) (backToKw pos (keywordEach [] X.env))):=by rfl) :
 PE X (.Call (.Attribute o m apos) (e::es) [] pos) (T3 C m sp eU E ta t):=by
 intro pins s σ H Q I h;refine PySem.W.methodCall_KW (pl:=pl) (thn (he pins s σ H _ I h) fun u s1 Ua=>Ua.elim fun x Ub=>Ub.elim fun H1 Uc=>Uc.elim fun I1 Ud=>Ud.elim fun rx Ue=>Ue.elim fun a Uf=>Uf.elim fun dx Ug=>Ug.elim fun fs Uh=>Uh.elim fun ex Ui=>Ui.elim fun ea Uj=>Uj.elim fun l q=>?_) ht;subst ex;obtain rfl:u=Value.ref a:=rx;refine Sz I1 ea c hm l ?_;refine Ow (first:=[.ref a]) (h₀:=X.base) I.ok.mod.kin hm.kp (thn (ha pos pins s1 σ H1 _ I1 q) fun us s2 Uk=>Uk.elim fun vs Ul=>Ul.elim fun H2 Um=>Um.elim fun I2 Uo=>Uo.elim fun r q2=>⟨I2.kIn,?_⟩) fC bo;exact Hg (us:=.ref a::us) (vs:=.ref a::vs) F hr hb hd hx I2 (.cons rfl r) q2
structure Mk(K:Fg)(C f:Addr):Prop where
 makes:PySem.W.makesIn K C=true
 init:PySem.W.findIn K (.ref C) "__init__" = some (some (.ref f))
 fn:PySem.W.isFn K (.ref f)=true
 kp:PySem.W.keepIn K (.ref C)=true
theorem Up{pins:Po}{σ:St}{H:Hp}{s:Shared}{Q:VK}{us:Lw}{vs:Lv}(M:Mk X.K C f)(F:aB X.prog X.w X.K X.mg X.base CX k f fd ps sp)(hr:cC (k+1) X.A)(hb:Binds X.K fd ps ds)(hd:aH eU ds)
 (hx:ri CX X E) (I:Inv X pins σ H s) (r:aH vs us)
 (h:∀x dx,H x=none->H dx=none->dx≠x->sp (.ref x::(vs++eU)) (ak (ak H dx (.own x)) x (.ins C dx [])) (fun v H2=>v = .non/\Q (.ref x) H2) E) :
 wpAny (model X.prog X.w) X.A (call (.ref C) us) (EP X pins σ Q) X.xe s:=by
 have hq:=h (s.heap.objs.size+1) s.heap.objs.size (I.hok.fresh (sZ _)) (I.hok.fresh (av _)) (bH (sY _));have I2:=Inv.made (C:=C) I;have r2:aH (V.ref (s.heap.objs.size+1)::(vs++eU)) (Value.ref (s.heap.objs.size+1)::(us++ds)):=.cons rfl (r.append hd);have hl:(Value.ref (s.heap.objs.size+1)::us++ds).length=ps.length:=by
  have e:=r2.length;rw[F.len _ _ _ _ hq]at e;exact e.symm
 refine FG (Sw (f:=f) I.kIn M.makes M.init (ij.mp M.fn) (oP (F.run _ X.stack _ _ ⟨Value.ref (s.heap.objs.size+1)::us,[]⟩ (Value.ref (s.heap.objs.size+1)::(us++ds)) _ _ E (hr.make C us [])
  (I2.env0.make C us []) (hb _ (Value.ref (s.heap.objs.size+1)::us) I2.kIn hl) r2 hq) fun r s' eV=>?_))
 cases r with
 | error e=>exact hx pins σ _ _ e s' I2 eV
 | ok fl=>
  cases fl with
  | ret u=>
   obtain⟨v,H',I3,rv,ev,q3⟩:=I2.after eV;subst ev;exact⟨rv,⟨V.ref (s.heap.objs.size+1),H',I3,rfl,q3⟩⟩
  | next=>exact False.elim eV
  | brk=>exact False.elim eV
  | cont=>exact False.elim eV
theorem Hh(M:Mk X.K C f)(F:aB X.prog X.w X.K X.mg X.base CX k f fd ps sp)(hr:cC (k+1) X.A)(hg:Gl X x)(hm:X.mg x=some (.ref C))(hb:Binds X.K fd ps ds)(hd:aH eU ds)(hx:ri CX X E)
 (ha:PA X (e::es) t) (lC:(x == ("__debug__":Str))=false:=by decide) (he:starEach (e::es) X.env=(false,eval e X.env)::starEach es X.env:=by rfl) (bo:(backTo pos (starEach es X.env)).any (·.1)=false:=by rfl) :
 PE X (.Call (.Name x p) (e::es) [] pos) (T4 C sp eU E t):=by
 intro pins s σ H Q I h;refine Ah (GR I hg hm ?_ lC);refine Ow (h₀:=X.base) I.ok.mod.kin M.kp (thn (ha pos pins s σ H _ I h) fun us s1 Uq=>Uq.elim fun vs Ur=>Ur.elim fun H1 Us=>Us.elim fun I1 Ut=>Ut.elim fun r q=>⟨I1.kIn,?_⟩) he bo;exact Up M F hr hb hd hx I1 r q
end
def PK(X:Cx)(bJ:List Keyword)(t:TA):Prop:=
 ∀(pos:Pos) (pins:Po) (s:Shared) (σ:St) (H:Hp) (Q:Lv->Hp->Prop),Inv X pins σ H s->t σ H Q->wpAny (model X.prog X.w) X.A (evalAll ((backToKw pos (keywordEach bJ X.env)).map (·.2))) (AP X pins σ Q) X.xe s
section
variable {X:Cx} {CX:jk} {k:Nat} {f C:Addr} {fd:Fy} {ps ks:Ls} {sp:Sp} {E:XK} {x m:Str} {p pos apos rj:Pos} {e o:Expr} {es:List Expr} {bJ:List Keyword} {te ta:TE} {t tk:TA} {nm:Option Str}
theorem Uu:PK X [] lH:=fun _ _ _ _ H Q I h=>wpAny_evalAll_nil ⟨[],H,I,.nil,h⟩
theorem Uv(ha:PE X e te)(hr:PK X bJ t):PK X (⟨nm,e,rj⟩::bJ) (jQ te t):=by
 intro pos pins s σ H Q I h;show wpAny _ _ (evalAll ((do let v ←eval e X.env;standAt pos;pure v)::(backToKw pos (keywordEach bJ X.env)).map (·.2))) _ _ s;refine wpAny_evalAll_cons (ac (thn (ha pins s σ H _ I h) fun u s1 Uw=>Uw.elim fun x Ux=>Ux.elim fun H1 Uy=>Uy.elim fun I1 Uz=>Uz.elim fun r1 q1=>ac (Ox (aj ?_))));exact thn (hr pos pins s1 σ H1 _ I1 q1) fun us s2 UA=>UA.elim fun xs UB=>UB.elim fun H2 UC=>UC.elim fun I2 UD=>UD.elim fun r2 q2=>⟨x::xs,H2,I2,.cons r1 r2,q2⟩
variable {g:Lw->Lw->Lw} {gV:Lv->Lv->Lv}
end
structure bO(N P:Ls)(sc:Scope):Prop where
 kind:sc.kind = .function
 co:sc.isCoroutine=false
 gen:sc.isGenerator=false
 nd:N.Nodup
 pre:N.take P.length=P
 par:∀x∈P,sc.names.lookup x=some .local\/sc.names.lookup x=some .cell
 nofree:∀y∈sc.names,y.2≠.free
theorem Hi{kindOf:Str->Option NameKind}{x:Str}:∀{binds:List (Str×Value)} {m:Mv},(∀v,(x,v)∉binds)->bindL kindOf binds m x=m x
 | [],_,_=>rfl
 | (n,v)::r,m,h=>by
  unfold bindL;rw[Hi fun w hw=>h w (cT _ hw)];split
  . have:x≠n:=by rintro rfl;exact h v cS
    simp[this]
  . rfl
theorem Hl{kindOf:Str->Option NameKind}{x:Str}:∀{binds:List (Str×Value)} {m:Mv},(∀v,(x,v)∉binds)->bindC kindOf binds m x=m x
 | [],_,_=>rfl
 | (n,v)::r,m,h=>by
  unfold bindC;rw[Hl fun w hw=>h w (cT _ hw)];split
  . rfl
  . have:x≠n:=by rintro rfl;exact h v cS
    simp[this]
theorem Hm{kindOf:Str->Option NameKind}{x:Str}{v:Value}:∀{P:Ls} {vs:Lw} {i:Nat} {m:Mv},P.Nodup->P[i]? = some x->vs[i]? = some v->kindOf x=some .local ->
 bindL kindOf (P.zip vs) m x=some v
 | [],_,_,_,_,h,_,_=>by simp at h
 | _::_,[],_,_,_,_,h,_=>by simp at h
 | p::P,w::vs,0,m,nd,h1,h2,hk=>by
  simp at h1 h2;subst h1;subst h2;show bindL kindOf ((p,w)::P.zip vs) m p=_;unfold bindL;rw[Hi fun v hv=>(jG.mp nd).1 (FH hv).1,ai hk];simp
 | p::P,w::vs,i+1,m,nd,h1,h2,hk=>by
  show bindL kindOf ((p,w)::P.zip vs) m x=_;unfold bindL;exact Hm (i:=i) (jG.mp nd).2 (by simpa using h1) (by simpa using h2) hk
theorem Hn{kindOf:Str->Option NameKind}{x:Str}{v:Value}:∀{P:Ls} {vs:Lw} {i:Nat} {m:Mv},P.Nodup->P[i]? = some x->vs[i]? = some v->kindOf x≠some .local ->
 bindC kindOf (P.zip vs) m x=some v
 | [],_,_,_,_,h,_,_=>by simp at h
 | _::_,[],_,_,_,_,h,_=>by simp at h
 | p::P,w::vs,0,m,nd,h1,h2,hk=>by
  simp at h1 h2;subst h1;subst h2;show bindC kindOf ((p,w)::P.zip vs) m p=_;unfold bindC;rw[Hl fun v hv=>(jG.mp nd).1 (FH hv).1,af hk];simp
 | p::P,w::vs,i+1,m,nd,h1,h2,hk=>by
  show bindC kindOf ((p,w)::P.zip vs) m x=_;unfold bindC;exact Hn (i:=i) (jG.mp nd).2 (by simpa using h1) (by simpa using h2) hk
def start(N:Ls)(vs:Lv):St:=vs.map some++List.replicate (N.length - vs.length) none
def o9(CX:jk)(P:Program)(w:World)(K:Fg)(mg:Mv)(base:Heap)(N:Ls)(qual:Str)(scope:Scope)(f:Addr)(cd:Value)(A:Around)(outer:List Env)(s:Shared)(H:Hp)(E:XK):Cx where
 prog:=P
 w:=w
 K:=K
 mg:=mg
 base:=base
 A:=A.deeper (envOfC qual scope s.heap.objs.size f cd)
 N:=N
 s₀:=s
 H₀:=H
 env:=envOfC qual scope s.heap.objs.size f cd
 outer:=outer
 stack:=envOfC qual scope s.heap.objs.size f cd::outer
 ex:=[]
 calm:=true
 fn:=fun _=>true
 pn:=[]
 xe:=fun e s'=>wpAny (model P w) (A.deeper (envOfC qual scope s.heap.objs.size f cd)) (leaving (envOfC qual scope s.heap.objs.size f cd) e) (fun _ mW=>CX outer H s E e mW) (fun e' mW=>CX outer H s E e' mW) s'
theorem Ho{sc:Scope}{n:Nat}{x:Str}(h:sc.names.lookup x=some .cell):∃c,(cellsFrom n sc.names []).lookup x=some c:=by
 have q:=ajr sc.names n [] (.inl h);exact FI.mp q
theorem UE{CX:jk}{P:Program}{w:World}{K:Fg}{mg:Mv}{base:Heap}{N ps:Ls}{qual:Str}{scope:Scope}{f:Addr}{cd:Value}{A:Around}{outer:List Env}{s s1:Shared}{H:Hp}{E:XK}{us:Lw}{vs:Lv}
 (S:bO N ps scope) (hd:A.handled=none) (e0:kB P w K mg base A outer s H) (hl:vs.length=ps.length) (r:aH vs us)
 (x:InCallC s s.heap.objs.size (bindL (envOfC qual scope s.heap.objs.size f cd).kindOf (ps.zip us) fun _=>none) (cellsFrom (s.heap.objs.size+1) scope.names []) (bindC (envOfC qual scope s.heap.objs.size f cd).kindOf (ps.zip us) fun _=>none) s1) :
 Inv (o9 CX P w K mg base N qual scope f cd A outer s H E) [] (start N vs) H s1:=by
 have bo:ps.length<=N.length:=by have:=fQ List.length S.pre;rw[dE]at this;omega
 obtain⟨h1,tk,rfl,hk⟩:=x.done;have pe:∀b:Addr,b∉(o9 CX P w K mg base N qual scope f cd A outer s H E).ex:=fun b z=>absurd (show b∈([]:List Addr) from z) (by simp);refine⟨⟨e0.mod,S.kind,rfl,rfl,av _,fun y z c h1 h2=>?_,fun y hy=>?_,fun y c _ h=>?_,fun _=>hd,Around.frames_deeper e0.frames,.inr ⟨rfl,rfl⟩,fun b z=>absurd z (pe b),e0.bs,e0.bsz,fun b _ _=>pe b,fun b z=>absurd z (pe b),e0.funs,e0.frf⟩,
  rfl,e0.bare,Un.kept hk,⟨_,x.toInCall.ns,fun i y v h1 h2 h3=>?_⟩,fun y c h=>⟨_,x.cell y c h⟩,e0.hok.fresh (av _),fun y c h=>?_,fun p hp=>absurd (show p∈([]:Po) from hp) (by simp),e0.hok.kept hk,?_⟩
 . exact name_of_addr x.apart (qM h1) (qM h2)
 . have hy:scope.names.lookup y=some .cell\/scope.names.lookup y=some .free:=hy
   rcases hy with hy | hy
   . exact Ho hy
   . exact absurd rfl (S.nofree _ (qM hy))
 . exact gK (x.above y c (qM h))
 . have hi:i<vs.length:=by
    unfold start at h2
    by_cases hi:i<vs.length
    . exact hi
    . rw[qN (by simpa using hi)]at h2;rw[ajs]at h2;split at h2<;>cases h2
   have ha:vs[i]? = some v:=by
    unfold start at h2;rw[FJ (by simpa using hi),bT]at h2;cases e:vs[i]? with
    | none=>rw[e]at h2;cases h2
    | some a=>rw[e]at h2;cases h2;rfl
   obtain⟨u,hu,rv⟩:=r.get ha;have hp:ps[i]? = some y:=by
    rw[←S.pre,List.getElem?_take_of_lt (by omega)];exact h1
   have Hq:ps.Nodup:=by rw[←S.pre];exact S.nd.sublist (List.take_sublist _ _)
   refine⟨u,rv,?_⟩
   rcases S.par y (dw hp) with k | k
   . exact .inl ⟨k,Hm Hq hp hu k⟩
   . obtain⟨c,e⟩:=Ho (n:=s.heap.objs.size+1) k;refine .inr ⟨.inl k,c,e,?_⟩;have q:=x.cell y c e;rw[Hn Hq hp hu (by show scope.names.lookup y≠_;rw[k];decide)]at q;exact q
 . exact e0.hok.fresh (gK (x.above y c (qM h)))
 . unfold start;show _=N.length;rw[bf,aw,Oy];omega
theorem Hr{CX:jk}{P:Program}{w:World}{K:Fg}{mg:Mv}{base:Heap}{k:Nat}{f:Addr}{name qual:Str}{params:Arguments}{body:List Stmt}{scope:Scope}{dV kV doc pm aE ct oc:Value}{an od:Oa}
 {iw:Array (Option Value)} {N ps:Ls} {sp:Sp} (lk:K.lookup f=some ⟨oc,od,.func (PySem.W.fnOf name qual params body scope dV kV doc pm an aE ct),iw⟩) (iq:PySem.W.codeIn K aE qual=true) (S:bO N ps scope)
 (len:∀vs H Q E,sp vs H Q E->vs.length=ps.length)
 (ph:∀(A:Around) (outer:List Env) (s:Shared) (H:Hp) (vs:Lv) (Q:VK) (E:XK),cC k (A.deeper (envOfC qual scope s.heap.objs.size f aE))->sp vs H Q E ->
  ∃t,dH (o9 CX P w K mg base N qual scope f aE A outer s H E) body t/\t { nx:=fun _ H'=>Q .non H',rt:=Q } (start N vs) H) :
 aB P w K mg base CX (k+1) f (PySem.W.fnOf name qual params body scope dV kV doc pm an aE ct) ps sp:=by
 refine⟨len,fun A outer s H args us vs Q E hr e0 hb r kC=>?_⟩;have hl:=len _ _ _ _ kC;have KX:K.In s.heap:=e0.mod.kin.keeps fun b o e=>(e0.bs b o e).1;have lim:s.heap.NoLimit:=e0.mod.nolimit.keeps fun b o e=>(e0.bs b o e).1;have UG:∀y∈ps.zip us,scope.names.lookup y.1=some .local\/(scope.names.lookup y.1=some .cell/\((cellsFrom (s.heap.objs.size+1) scope.names []).lookup y.1).isSome=true):=fun⟨n,v⟩ hy=>by
  rcases S.par n (FH hy).1 with q | q
  . exact .inl q
  . exact .inr ⟨q,ajr _ _ _ (.inl q)⟩
 refine codeAny_call_function hr.depth (KX _ _ lk) rfl S.co S.gen rfl (PySem.W.codeRec_of KX iq) (hb _ _ _ _ ?_);refine wpAny_newFunctionEnv_cells S.kind UG fun env he s1 x=>?_;subst he;refine⟨lim.keeps x.toInCall.keep,codeAny_func ?_⟩;obtain⟨t,ht,hq⟩:=ph A outer s H vs Q E (hr.deeper _) kC;have I:Inv (o9 CX P w K mg base N qual scope f aE A outer s H E) [] (start N vs) H s1:=UE S hr.hd e0 hl r x;refine df (ht [] s1 (start N vs) H _ I hq) (fun fl s' hs=>?_) fun e s' hs=>hs;have fin:∀{σ':St} {H':Hp} {v:V} {u:Value},Inv (o9 CX P w K mg base N qual scope f aE A outer s H E) [] σ' H' s'->RelV v u->Q v H'->CE outer P w H s Q u s':=
  fun {σ' H' v u} J rv q=>⟨v,H',J.os,J.bare,J.base,J.hok,rv,q⟩
 cases fl with
 | ret u=>
  obtain⟨v,σ',H',J,rv,q⟩:=hs;exact fin J rv q
 | next=>
  obtain⟨σ',H',J,q⟩:=hs;exact fin (v:=V.non) (u:=Value.none) J rfl q
 | brk=>
  obtain⟨_,_,_,q⟩:=hs;exact False.elim q
 | cont=>
  obtain⟨_,_,_,q⟩:=hs;exact False.elim q
section
variable {X:Cx} {x:Str} {p pos:Pos} {e:Expr} {es:List Expr} {t:TA} {id T:String} {r:Lv->Hp->VK->Prop}
def xk(r:Lv->Hp->VK->Prop)(t:TA):TE:=fun σ H Q=>t σ H fun vs H1=>r vs H1 Q
theorem dU(hc:eP X (.builtin id) r)(hg:Gl X x)(hm:X.mg x=none)(hv:bootBuiltins x=some (.builtin id))(ha:PA X (e::es) t)(hn:x≠"__name__":=by decide)(lC:(x == ("__debug__":Str))=false:=by decide)
 (he:starEach (e::es) X.env=(false,eval e X.env)::starEach es X.env:=by rfl) (bo:(backTo pos (starEach es X.env)).any (·.1)=false:=by rfl):PE X (.Call (.Name x p) (e::es) [] pos) (xk r t):=by
 intro pins s σ H Q I h;refine Ah (oZ I hg hm hv ?_ hn lC);exact PyProof.Rows.callWith_builtin1 (thn (ha pos pins s σ H _ I h) fun us s1 UH=>UH.elim fun vs UI=>UI.elim fun H1 UJ=>UJ.elim fun I1 UK=>UK.elim fun r1 q1=>hc pins s1 σ H1 vs us Q I1 r1 q1) he bo
theorem eW(hc:eP X (.type T) r)(hg:Gl X x)(hm:X.mg x=none)(hv:bootBuiltins x=some (.type T))(ha:PA X (e::es) t)(hn:x≠"__name__":=by decide)(lC:(x == ("__debug__":Str))=false:=by decide)
 (he:starEach (e::es) X.env=(false,eval e X.env)::starEach es X.env:=by rfl) (bo:(backTo pos (starEach es X.env)).any (·.1)=false:=by rfl):PE X (.Call (.Name x p) (e::es) [] pos) (xk r t):=by
 intro pins s σ H Q I h;refine Ah (oZ I hg hm hv ?_ hn lC);exact FC (thn (ha pos pins s σ H _ I h) fun us s1 UL=>UL.elim fun vs UM=>UM.elim fun H1 UN=>UN.elim fun I1 UO=>UO.elim fun r1 q1=>hc pins s1 σ H1 vs us Q I1 r1 q1) he bo
end
end L2
namespace HT
open PySem PyProof.Rows
def lexLt:List Int->List Int->Bool
 | [],[]=>false
 | [],_::_=>true
 | _::_,[]=>false
 | x::xs,y::ys=>if x=y then lexLt xs ys else decide (x<y)
theorem A2(x y:Int)(xs ys:List Int):lexLt (x::xs) (y::ys)=if x=y then lexLt xs ys else decide (x<y):=rfl
theorem A3:lexLt [] []=false:=rfl
theorem A4(y:Int)(ys:List Int):lexLt [] (y::ys)=true:=rfl
theorem A5(x:Int)(xs:List Int):lexLt (x::xs) []=false:=rfl
theorem xm(A:Around)(s:Shared)(a:Int)(t:Tok)(c:Int)(u:Tok):∃e,SeqAt.EqAt A s (.int a t) (.int c u) e/\(e=true↔a=c):=
 ⟨(a == c),SeqAt.EqAt.int_int a t c u,by simp⟩
theorem xn(A:Around)(s:Shared)(a:Int)(t:Tok)(c:Int)(u:Tok)(prog:Program)(w:World)(E:VP)(Q:VP)(h:Q (.bool (decide (a<c))) s) :
 wpAny (model prog w) A (richCompare .Lt (.int a t) (.int c u)) Q E s:=
 (PyProof.Rows.lt_int h:wpAny (model prog w) A (compareOp .Lt (.int a t) (.int c u)) Q E s)
section
open PySem.SeqAt
open PySem.AutoSeq1 (wpAny_loadPart')
open PySem.MeetsSeq PySem.MeetsSeq2 PySem.MeetsSeq3
theorem UP(l b:Addr)(items aZ:Av)(n n2:Nat)(dd bU:Oa)(sl bV:Array (Option Value))(ns ms:List Int)(hi:IntsAre items.toList ns)(hj:IntsAre aZ.toList ms) :
 Meets (Builtin.«tuple.__lt__» ⟨[.ref l,.ref b],[]⟩)
  (fun _ R s=>s.heap.get? l=some { cls:=.type "tuple",dict:=dd,data:=.seq items n,slots:=sl }/\s.heap.get? b=some { cls:=.type "tuple",dict:=bU,data:=.seq aZ n2,slots:=bV } /\
   R (.ok (.ret (.bool (lexLt ns ms)))) s):=
 .of_wp fun prog w A R s h=>by
  obtain⟨hp,g,d,tk,os⟩:=s;obtain⟨hl,hb,h⟩:=h;have f2:=FK;have z1:items.size=ns.length:=by rw[←hi.length];simp
  have z2:aZ.size=ms.length:=by rw[←hj.length];simp
  wp_walk using wpAny_loadPart' hl,wpAny_loadPart' hb,mF _ (fun rest b s'=>b.1=none/\s'=⟨hp,g,d,tk,os⟩/\∃(vs ws:Lw) (eX eY:List Int),rest=vs.zip ws /\
   IntsAre vs eX/\IntsAre ws eY/\eX.length+aZ.size=eY.length+items.size/\R (.ok (.ret (.bool (lexLt eX eY)))) ⟨hp,g,d,tk,os⟩) _
  case turn=>
   rintro⟨y,x⟩ rest b s' ⟨dW,rfl,vs,ws,eX,eY,hz,jR,ix,hlen,hR⟩;cases jR with
   | nil=>rw[FL]at hz;cases hz
   | cons a t tU=>
    cases ix with
    | nil=>rw[FM]at hz;cases hz
    | cons c u tV=>
     rw[lq]at hz;injection hz with hyx kD
     injection hyx with hy hx
     subst hy hx;rw[A2]at hR;simp only[bu]at hlen;obtain⟨e,he,mX⟩:=xm A.in1 ⟨hp,g,d,tk,os⟩ a t c u;refine ac (he prog w _ _ ?_);cases e with
     | true=>
      rw[ai (mX.mp rfl)]at hR
      wp_walk
      exact⟨rfl,rfl,_,_,_,_,kD,tU,tV,by omega,hR⟩
     | false=>
      rw[af (fun q=>absurd (mX.mpr q) bB)]at hR;have lI:=xn A.in1 ⟨hp,g,d,tk,os⟩ a t c u prog w
      wp_walk using lI
      exact⟨_,rfl,by simpa using hR⟩
  case fin=>
   rintro⟨b1,b2⟩ s' ⟨dW,rfl,vs,ws,eX,eY,hz,jR,ix,hlen,hR⟩;simp only at dW;subst dW;have hv:lexLt eX eY=decide (items.size<aZ.size):=by
    cases jR with
    | nil=>
     cases ix with
     | nil=>
      simp only[je]at hlen;rw[A3];exact(aU (by omega)).symm
     | cons c u hw=>
      simp only[je,bu]at hlen;rw[A4];exact(aL (by omega)).symm
    | cons a t hv=>
     cases ix with
     | nil=>
      simp only[je,bu]at hlen;rw[A5];exact(aU (by omega)).symm
     | cons c u hw=>
      rw[lq]at hz;cases hz
   rw[hv]at hR
   wp_walk
   exact⟨_,rfl,by simpa [Builtin.Tuple.tupleCompareSizes]using hR⟩
  case h=>
   exact⟨rfl,rfl,items.toList,aZ.toList,ns,ms,rfl,hi,hj,by omega,h⟩
end
section
variable {prog:Program} {w:World} {A:Around} {E:VP} {s:Shared}
theorem UQ{l b:Addr}{items aZ:Av}{ns ms:List Int}{Q:VP}(hl:IsTup s.heap l items)(hb:IsTup s.heap b aZ)(hi:IntsAre items.toList ns)(hj:IntsAre aZ.toList ms)
 (hu:A.units<cLine) (h:Q (.bool (lexLt ns ms)) s):wpAny (model prog w) A (compareOp .Lt (.ref l) (.ref b)) Q E s:=by
 obtain⟨⟨cls,dd,data,sl⟩,ho,hc,n,hd⟩:=id hl;obtain⟨⟨rl,bU,data2,bV⟩,dY,bW,n2,hd2⟩:=id hb;simp only at hc hd bW hd2;subst hc hd bW hd2;exact Ai (op:=.Lt) ⟨_,ho,rfl⟩ ⟨_,dY,rfl⟩ ajt aju (ajv _ _) (UP l b items aZ n n2 dd bU sl bV ns ms hi hj)
  ⟨ho,dY,show Value.bool (lexLt ns ms)≠Value.notImplemented/\Q (.bool (lexLt ns ms)) s from ⟨(fun x=>nomatch x),h⟩⟩ hu
def eA(n d:Nat):Option Int->Nat
 | none=>d
 | some v=>if v<0 then(v+(n:Int)).toNat else min v.toNat n
theorem Hs(n d k:Nat):eA n d (some (k:Int))=min k n:=by
 show(if (k:Int)<0 then((k:Int)+(n:Int)).toNat else min (k:Int).toNat n)=min k n;rw[af (by omega),FN]
end
end HT
namespace L2
open PySem PySem.Spec PyProof.Rows
abbrev TO:=St->Hp->(Option Int->Hp->Prop)->Prop
def PO(X:Cx)(e:Option Expr)(t:TO):Prop:=
 ∀(pins:Po) (s:Shared) (σ:St) (H:Hp) (Q:Option Int->Hp->Prop),Inv X pins σ H s->t σ H Q ->
  wpAny (model X.prog X.w) X.A (evalPart e X.env) (fun u s'=>∃o H',Inv X pins σ H' s'/\IsPart u o/\Q o H') X.xe s
def UR:TO:=fun _ H Q=>Q none H
def UT(t:TE):TO:=fun σ H Q=>t σ H fun x H1=>∃i,x = .int i/\Q (some i) H1
theorem intsAre_of{ns:List Int}:∀{us:Lw},aH (ns.map V.int) us->IntsAre us ns:=by
 induction ns with
 | nil=>intro us r;rw[Aj]at r;cases r;exact .nil
 | cons n ns ih=>
  intro us r;rw[b9]at r;cases r with
  | cons r1 r2=>
   obtain⟨t,e⟩:=r1;subst e;exact .cons n t (ih r2)
section
variable {X:Cx} {e:Expr} {te:TE} {lo hi:Option Expr} {tl th:TO} {pos p2:Pos}
theorem UU:PO X none UR:=by
 intro pins s σ H Q I h;rw[evalPart_none];exact aj ⟨none,H,I,.none,h⟩
theorem A6(h:PE X e te):PO X (some e) (UT te):=by
 intro pins s σ H Q I hw;rw[evalPart_some];refine thn (h pins s σ H _ I hw) fun u s1 UV=>UV.elim fun x UW=>UW.elim fun H1 UX=>UX.elim fun I1 UY=>UY.elim fun r1 q1=>?_;obtain⟨i,rfl,q⟩:=q1;obtain⟨t,rfl⟩:=r1;exact⟨some i,H1,I1,.int i t,q⟩
def rm(X:Cx)(r:V->Option Int->Option Int->Hp->VK->Prop):Prop:=
 ∀(pins:Po) (s:Shared) (σ:St) (H:Hp) (x:V) (v vl vu:Value) (lo hi:Option Int) (sl:Addr) (Q:VK),Inv X pins σ H s->RelV x v->s.heap.IsSliceOf sl vl vu .none->IsPart vl lo->IsPart vu hi->r x lo hi H Q ->
  ∃T id,typeLookup (.type T) "__getitem__" = pure (some (.builtin id))/\s.TypeIs v T/\wpAny (model X.prog X.w) X.A (getItem v (.ref sl)) (EP X pins σ Q) X.xe s
def UZ(r:V->Option Int->Option Int->Hp->VK->Prop)(te:TE)(tl th:TO):TE:=fun σ H Q=>te σ H fun x H1=>tl σ H1 fun l H2=>th σ H2 fun u H3=>r x l u H3 Q
theorem Ht{r:V->Option Int->Option Int->Hp->VK->Prop}(hr:rm X r)(he:PE X e te)(hl:PO X lo tl)(hu:PO X hi th):PE X (.Subscript e (.Slice lo hi none p2) pos) (UZ r te tl th):=by
 intro pins s σ H Q I h;refine Subscript_ (thn (he pins s σ H _ I h) fun v s1 U0=>U0.elim fun x U1=>U1.elim fun H1 U2=>U2.elim fun I1 U3=>U3.elim fun r1 q1=>?_);refine wpAny_Slice (thn (hl pins s1 σ H1 _ I1 q1) fun vl s2 U4=>U4.elim fun l U5=>U5.elim fun H2 U6=>U6.elim fun I2 U7=>U7.elim fun pl q2=>thn (hu pins s2 σ H2 _ I2 q2) fun vu s3 U8=>U8.elim fun u U9=>U9.elim fun H3 Va=>Va.elim fun I3 Vb=>Vb.elim fun pu q3=>?_);rw[evalPart_none];refine aj ?_;have I4:Inv X pins σ H3 { s3 with heap:=s3.heap.push { cls:=.type "slice",data:=.fields #[vl,vu,.none] } }:=I3.kept (t':=s3.toks) fun b ob q=>bg _ q;obtain⟨T,id,hT,ht,hg⟩:=hr pins { s3 with heap:=s3.heap.push { cls:=.type "slice",data:=.fields #[vl,vu,.none] } } σ H3 x v vl vu l u s3.heap.objs.size Q I4 r1 (Heap.IsSliceOf.new ..) pl pu q3;show wpAny (model X.prog X.w) X.A (subscriptTail e (.Slice lo hi none p2) v (.ref s3.heap.objs.size)) (EP X pins σ Q) X.xe { s3 with heap:=s3.heap.push { cls:=.type "slice",data:=.fields #[vl,vu,.none] } };exact tail_any (ops:=[.ref s3.heap.objs.size,v]) ht hT hg (by with_unfolding_all rfl)
def lJ(xs:Lv)(lo hi:Option Int):Lv:=(xs.drop (HT.eA xs.length 0 lo)).take (HT.eA xs.length xs.length hi - HT.eA xs.length 0 lo)
theorem Vc(xs:Lv)(lo hi:Option Int):(lJ xs lo hi).length<=xs.length:=by
 unfold lJ;rw[dE,List.length_drop];omega
def Vd(K:Fg):R2:=fun x y H Q=>∃a b ns ms,x = .ref a/\y = .ref b/\aI K H a (ns.map V.int)/\aI K H b (ms.map V.int)/\Q (.bl (HT.lexLt ns ms)) H
theorem Ve(hu:X.A.units<cLine):bw X (compareOp .Lt) (Vd X.K):=by
 intro pins s σ H x y v u Q I rx ry h;obtain⟨a,b,ns,ms,rfl,rfl,ha,hb,q⟩:=h;cases rx;cases ry;obtain⟨its,r1,p1,_⟩:=I.tuple ha;obtain⟨iS,r2,p2,_⟩:=I.tuple hb;have i1:IntsAre its.toArray.toList ns:=intsAre_of r1;have i2:IntsAre iS.toArray.toList ms:=intsAre_of r2;exact HT.UQ p1 p2 i1 i2 hu ⟨.bl (HT.lexLt ns ms),H,I,rfl,q⟩
end
def mY(n:Nat)(i:Int):Option Nat:=if 0<=i then(if i<n then some i.toNat else none) else if -(n:Int)<=i then some (i+n).toNat else none
def bF{α:Type}(xs:List α)(i:Int):Option α:=(mY xs.length i).bind fun j=>xs[j]?
theorem Vf{n:Nat}{i:Int}{j:Nat}(h:mY n i=some j):seqIndex? i n=some j/\j<n/\-(n:Int)<=i/\i<n:=by
 unfold mY at h
 by_cases h0:0<=i
 . rw[ai h0]at h
   by_cases h1:i<n
   . rw[ai h1]at h;have e:i.toNat=j:=gn h;exact⟨by rw[seqIndex_of h0 h1,e],by omega,by omega,h1⟩
   . rw[af h1]at h;cases h
 . rw[af h0]at h
   by_cases h1:-(n:Int)<=i
   . rw[ai h1]at h;have e:(i+n).toNat=j:=gn h;exact⟨by rw[seqIndex_neg (by omega) h1,e],by omega,h1,by omega⟩
   . rw[af h1]at h;cases h
theorem A7{α:Type}{xs:List α}{i:Int}{v:α}(h:bF xs i=some v):∃j,seqIndex? i xs.length=some j/\xs[j]? = some v/\j<xs.length/\-(xs.length:Int)<=i/\i<xs.length:=by
 unfold bF at h;cases e:mY xs.length i with
 | none=>rw[e]at h;cases h
 | some j=>
  rw[e]at h;obtain⟨h1,h2,h3,h4⟩:=Vf e;exact⟨j,h1,h,h2,h3,h4⟩
theorem kE{α:Type}{xs:List α}{j:Nat}{v:α}(h:xs[j]? = some v):bF xs (j:Int)=some v:=by
 have hj:j<xs.length:=(bZ.mp h).1;have e:mY xs.length (j:Int)=some j:=by
  unfold mY;rw[ai (by omega),ai (by omega)];simp
 unfold bF;rw[e];exact h
def Vg(b:Expr):Prop:=∀o i,subscripted b false o i=operate [o,i] (getItem o i)
def rn(X:Cx)(r:R2):Prop:=
 ∀(value slice:Expr) (pins:Po) (s:Shared) (σ:St) (H:Hp) (x y:V) (v u:Value) (Q:VK),Inv X pins σ H s->RelV x v->RelV y u->r x y H Q ->
  subscripted slice false v u=operate [v,u] (getItem v u)->wpAny (model X.prog X.w) X.A (subscriptTail value slice v u) (EP X pins σ Q) X.xe s
def Hu(X:Cx)(id:String)(r:V->Lv->Hp->VK->Prop):Prop:=
 ∀(pins:Po) (s:Shared) (σ:St) (H:Hp) (x:V) (xs:Lv) (v:Value) (us:Lw) (Q:VK),Inv X pins σ H s->RelV x v->aH xs us->r x xs H Q ->
  wpAny (model X.prog X.w) X.A (call (.builtin id) (v::us)) (EP X pins σ Q) X.xe s
section
variable {X:Cx} {a b:Expr} {ta tb:TE} {pos:Pos}
theorem bi{r:R2}(hr:rn X r)(ha:PE X a ta)(hb:PE X b tb)(hs:Vg b):PE X (.Subscript a b pos) (xf r ta tb):=by
 intro pins s σ H Q I h;exact Subscript_ (AV ha hb I h fun v u s2 x y H2 I2 rx ry q=>hr a b pins s2 σ H2 x y v u Q I2 rx ry q (hs _ _))
def Hv(K:Fg):R2:=fun x y H Q=>∃p xs i v,x = .ref p/\y = .int i/\ae K H p xs/\bF xs i=some v/\Q v H
def Hw(K:Fg):R2:=fun x y H Q=>∃p xs i v,x = .ref p/\y = .int i/\aI K H p xs/\bF xs i=some v/\Q v H
def Vh:R2:=fun x y H Q=>∃z i c,x = .str z/\y = .int i/\z.length<=sizeLine/\bF z.cps.toList i=some c/\Q (.str ⟨#[c]⟩) H
theorem eZ:rn X (Hv X.K):=by
 intro value slice pins s σ H x y v u Q I rx ry h hs;obtain⟨p,xs,i,z,rfl,rfl,hq,he,q⟩:=h;cases rx;obtain⟨t,rfl⟩:=ry;obtain⟨its,r,pl,hz⟩:=I.list hq;obtain⟨j,h1,h2,h3,h4,h5⟩:=A7 he;obtain⟨w,ew,dZ⟩:=r.get h2;have hl:=r.length;have hn:=xi;have fin:EP X pins σ Q w s:=⟨z,H,I,dZ,q⟩
 by_cases h0:0<=i
 . have hj:i.toNat=j:=by
    rw[seqIndex_of h0 h5]at h1;exact gn h1
   exact item_listR pl.isList h0 (by omega) (by rw[hj];simpa using ew) fin hs
 . have hj:(i+(its.toArray.size:Int)).toNat=j:=by
    rw[seqIndex_neg (by omega) h4]at h1;rw[fX,←hl];exact gn h1
   exact ajw (x:=w) pl.isList.typeIs slot_list_getitem.lookup
    (wpAny_getItem_list_neg (Q:=fun r s'=>r=w/\EP X pins σ Q r s') pl.isList (by omega) (by rw[fX]<;>omega) (by omega) (by rw[hj];simpa using ew) ⟨rfl,fin⟩) hs
theorem jS:rn X (Hw X.K):=by
 intro value slice pins s σ H x y v u Q I rx ry h hs;obtain⟨p,xs,i,z,rfl,rfl,hq,he,q⟩:=h;cases rx;obtain⟨t,rfl⟩:=ry;obtain⟨its,r,pl,hz⟩:=I.tuple hq;obtain⟨j,h1,h2,h3,h4,h5⟩:=A7 he;obtain⟨w,ew,dZ⟩:=r.get h2;have hl:=r.length;have hn:=xi;have fin:EP X pins σ Q w s:=⟨z,H,I,dZ,q⟩;exact ajw (x:=w) pl.typeIs slot_tuple_getitem.lookup
  (getItem_tuple (j:=j) (Q:=fun r s'=>r=w/\EP X pins σ Q r s') pl (by omega) (by omega) (by rw[fX,←hl];exact h1) (by simpa using ew) ⟨rfl,fin⟩) hs
theorem A8:rn X Vh:=by
 intro value slice pins s σ H x y v u Q I rx ry h hs;obtain⟨z,i,c,rfl,rfl,hz,he,q⟩:=h;obtain⟨t,rfl⟩:=rx;obtain⟨t',rfl⟩:=ry;obtain⟨j,h1,h2,h3,h4,h5⟩:=A7 he;have hl:z.cps.toList.length=z.length:=by simp[Str.length]
 rw[hl]at h1 h4 h5;have hn:=xi;exact tail_any (typeIs_str s z t) slot_str_getitem.lookup (getItem_str (c:=c) (by
  have e1:decide (i < -(2 ^ 63:Int))=false:=aU (by omega);have e2:decide (i >= 2 ^ 63)=false:=aU (by omega);rw[e1,e2,FO]) (by rw[h1];simpa using h2) ⟨.str ⟨#[c]⟩,H,I.tok _,⟨_,rfl⟩,q⟩) hs
theorem Vi(lo hi:Option Int)(n:Nat):(sliceBounds lo hi none n).1=((HT.eA n 0 lo:Nat):Int)/\(sliceBounds lo hi none n).2.1=((HT.eA n n hi:Nat):Int)/\(sliceBounds lo hi none n).2.2=1:=by
 refine⟨?_,?_,rfl⟩
 . cases lo with
   | none=>simp[sliceBounds,HT.eA]
   | some i=>
    simp only[sliceBounds,HT.eA,Option.getD_none,show(1:Int) > 0 by decide,sW]
    by_cases h:i<0
    . simp only[h,sW]<;>omega
    . simp only[h,ii]<;>omega
 . cases hi with
   | none=>simp[sliceBounds,HT.eA]
   | some i=>
    simp only[sliceBounds,HT.eA,Option.getD_none,show(1:Int) > 0 by decide,sW]
    by_cases h:i<0
    . simp only[h,sW]<;>omega
    . simp only[h,ii]<;>omega
theorem Vj(its:Lw)(lo hi:Option Int):slicePick its.toArray lo hi none=((its.drop (HT.eA its.length 0 lo)).take (HT.eA its.length its.length hi - HT.eA its.length 0 lo)).toArray:=by
 obtain⟨h1,h2,h3⟩:=Vi lo hi its.toArray.size;unfold slicePick;rw[h1,h2,h3];simp only[sliceRange_one,pick_run,fX]<;>rfl
def Vk(K:Fg):V->Option Int->Option Int->Hp->VK->Prop:=fun x lo hi H Q=>∃a xs,x = .ref a/\ae K H a xs/\∀p,H p=none->Q (.ref p) (ak H p (.lst (lJ xs lo hi)))
theorem Vl:rm X (Vk X.K):=by
 intro pins s σ H x v vl vu lo hi sl Q I rx hs pl pu h;obtain⟨a,xs,rfl,hx,q⟩:=h;cases rx;obtain⟨its,r,ht,hz⟩:=I.list hx;have hlen:=r.length;refine⟨"list",_,slot_list_getitem.lookup,ht.isList.typeIs,?_⟩;refine wpAny_getItem_list_slice ht.isList hs pl pu .none (by simp) ?_ (by rw[fX]<;>omega);rw[Vj,←hlen];refine⟨.ref s.heap.objs.size,_,I.laid (t':=s.toks) (o:=.lst (lJ xs lo hi)) (fun b ob q=>bg _ q) (av _) ?_,rfl,q _ (I.hok.fresh (av _))⟩;exact⟨bn (Vc xs lo hi) hz,_,0,(r.drop (HT.eA xs.length 0 lo)).take (HT.eA xs.length xs.length hi - HT.eA xs.length 0 lo),dv _ rfl⟩
def kF:V->Bool
 | .non=>true
 | .bl _=>true
 | .int _=>true
 | .str _=>true
 | _=>false
def kG:V->V->Bool
 | .non,.non=>true
 | .bl a,.bl b=>a == b
 | .bl a,.int b=>(if a then 1 else 0) == b
 | .int a,.bl b=>a == (if b then 1 else 0)
 | .int a,.int b=>a == b
 | .str a,.str b=>a == b
 | _,_=>false
theorem Vm{A:Around}{s:Shared}{y x:V}{u v:Value}(ry:RelV y u)(rx:RelV x v)(fy:kF y=true)(fx:kF x=true):SeqAt.EqAt A s u v (kG y x):=by
 cases y with
 | non=>
  cases ry;cases x with
  | non=>cases rx;exact SeqAt.EqAt.same _
  | bl b=>cases rx;exact SeqAt.EqAt.none_bool b
  | int b=>obtain⟨t,rfl⟩:=rx;exact SeqAt.EqAt.none_int b t
  | str b=>obtain⟨t,rfl⟩:=rx;exact SeqAt.EqAt.none_str b t
  | _=>exact absurd (show false=true from fx) bB
 | bl a=>
  cases ry;cases x with
  | non=>cases rx;exact SeqAt.EqAt.bool_none a
  | bl b=>cases rx;exact SeqAt.EqAt.bool_bool a b
  | int b=>obtain⟨t,rfl⟩:=rx;exact SeqAt.EqAt.bool_int a b t
  | str b=>obtain⟨t,rfl⟩:=rx;exact SeqAt.EqAt.bool_str a b t
  | _=>exact absurd (show false=true from fx) bB
 | int a=>
  obtain⟨t',rfl⟩:=ry;cases x with
  | non=>cases rx;exact SeqAt.EqAt.int_none a t'
  | bl b=>cases rx;exact SeqAt.EqAt.int_bool a t' b
  | int b=>obtain⟨t,rfl⟩:=rx;exact SeqAt.EqAt.int_int a t' b t
  | str b=>obtain⟨t,rfl⟩:=rx;exact SeqAt.EqAt.int_str a t' b t
  | _=>exact absurd (show false=true from fx) bB
 | str a=>
  obtain⟨t',rfl⟩:=ry;cases x with
  | non=>cases rx;exact SeqAt.EqAt.str_none a t'
  | bl b=>cases rx;exact SeqAt.EqAt.str_bool a t' b
  | int b=>obtain⟨t,rfl⟩:=rx;exact SeqAt.EqAt.str_int a t' b t
  | str b=>obtain⟨t,rfl⟩:=rx;exact SeqAt.EqAt.str_str a t' b t
  | _=>exact absurd (show false=true from fx) bB
 | _=>exact absurd (show false=true from fy) bB
def gU(x:V)(u:Value):Bool:=match u with
 | .none=>kG .non x
 | .bool b=>kG (.bl b) x
 | .int i _=>kG (.int i) x
 | .str z _=>kG (.str z) x
 | _=>false
theorem Hz{x y:V}{u:Value}(r:RelV y u)(f:kF y=true):gU x u=kG y x:=by
 cases y with
 | non=>cases r;rfl
 | bl b=>cases r;rfl
 | int i=>obtain⟨t,rfl⟩:=r;rfl
 | str z=>obtain⟨t,rfl⟩:=r;rfl
 | _=>exact absurd (show false=true from f) bB
theorem tW{x:V}:∀{xs:Lv} {us:Lw},aH xs us->xs.all kF=true->us.any (gU x)=xs.any fun y=>kG y x
 | _,_,.nil,_=>rfl
 | y::xs,u::us,.cons r t,f=>by
  rw[Oz,j9]at f;rw[tj,tj,Hz r f.1,tW t f.2]
theorem tX{A:Around}{s:Shared}{x:V}{v:Value}(rx:RelV x v)(fx:kF x=true):∀{xs:Lv} {us:Lw},aH xs us->xs.all kF=true->∀u∈us,SeqAt.EqAt A s u v (gU x u)
 | _,_,.nil,_=>fun u hu=>by cases hu
 | y::xs,u::us,.cons r t,f=>fun u' hu=>by
  rw[Oz,j9]at f
  rcases bh.mp hu with rfl | hu
  . rw[Hz r f.1];exact Vm r rx f.1 fx
  . exact tX rx fx t f.2 u' hu
def iT(x:V)(xs:Lv):Bool:=xs.any fun y=>kG y x
def xp(K:Fg)(neg:Bool):R2:=fun x y H Q=>∃p xs,y = .ref p/\(ae K H p xs\/aI K H p xs)/\kF x=true/\xs.all kF=true/\Q (.bl (if neg then !iT x xs else iT x xs)) H
theorem A9:bw X (compareOp .In) (xp X.K false):=by
 intro pins s σ H x y v u Q I rx ry h;obtain⟨p,xs,rfl,hq,fx,fs,q⟩:=h;cases ry
 rcases hq with hq | hq
 . obtain⟨its,r,pl,hz⟩:=I.list hq;refine SeqAt.in_listAt (gU x) pl.isList (fun w hw=>tX rx fx r fs w (by simpa using hw)) ⟨.bl _,H,I,rfl,?_⟩;rw[show its.toArray.any (gU x)=its.any (gU x) by simp,tW r fs];exact q
 . obtain⟨its,r,pl,hz⟩:=I.tuple hq;refine SeqAt.in_tupleAt (gU x) pl (fun w hw=>tX rx fx r fs w (by simpa using hw)) ⟨.bl _,H,I,rfl,?_⟩;rw[show its.toArray.any (gU x)=its.any (gU x) by simp,tW r fs];exact q
theorem Vn:bw X (compareOp .NotIn) (xp X.K true):=by
 intro pins s σ H x y v u Q I rx ry h;obtain⟨p,xs,rfl,hq,fx,fs,q⟩:=h;cases ry
 rcases hq with hq | hq
 . obtain⟨its,r,pl,hz⟩:=I.list hq;refine SeqAt.notIn_listAt (gU x) pl.isList (fun w hw=>tX rx fx r fs w (by simpa using hw)) ⟨.bl _,H,I,rfl,?_⟩;rw[show its.toArray.any (gU x)=its.any (gU x) by simp,tW r fs];exact q
 . obtain⟨its,r,pl,hz⟩:=I.tuple hq;refine SeqAt.notIn_tupleAt (gU x) pl (fun w hw=>tX rx fx r fs w (by simpa using hw)) ⟨.bl _,H,I,rfl,?_⟩;rw[show its.toArray.any (gU x)=its.any (gU x) by simp,tW r fs];exact q
theorem jm:eP X (.builtin "len") (fun xs H Q=>∃p ys,xs = [.ref p]/\(ae X.K H p ys\/aI X.K H p ys)/\Q (.int ys.length) H):=by
 intro pins s σ H xs us Q I r h;obtain⟨p,ys,rfl,hq,q⟩:=h;obtain⟨u,rfl,rx⟩:=vals1 r;cases rx;have hn:=xi
 rcases hq with hq | hq
 . obtain⟨its,r',pl,hz⟩:=I.list hq;have hlen:=r'.length;exact Calls.call_len_list pl.isList (by simp only[fX]<;>omega) ⟨.int ys.length,H,I.tok _,⟨s.toks+1,by rw[fX,hlen]⟩,q⟩
 . obtain⟨its,r',pl,hz⟩:=I.tuple hq;have hlen:=r'.length;exact len_tuple pl (by simp only[fX]<;>omega) ⟨.int ys.length,H,I.tok _,⟨s.toks+1,by rw[fX,hlen]⟩,q⟩
theorem tY:eP X (.type "list") (fun xs H Q=>∃p ys,xs = [.ref p]/\(ae X.K H p ys\/aI X.K H p ys)/\∀l,H l=none->Q (.ref l) (ak H l (.lst ys))):=by
 intro pins s σ H xs us Q I r h;obtain⟨p,ys,rfl,hq,q⟩:=h;obtain⟨u,rfl,rx⟩:=vals1 r;cases rx;have fin:∀(its:Lw),aH ys its->ys.length<=sizeLine->∀(h':Heap) (c':Nat),(∀b o',s.heap.get? b=some o'->h'.get? b=some o') ->
  h'.get? s.heap.objs.size=some { cls:=.type "list",dict:=none,data:=.seq its.toArray c',slots:=#[] }->EP X pins σ Q (.ref s.heap.objs.size) { s with heap:=h' }:=fun its r' hz h' c' kp e=>
  ⟨.ref s.heap.objs.size,_,I.laid (t':=s.toks) kp (av _) (show bN X.prog X.w _ h' _ (.lst ys) from ⟨hz,its,c',r',e⟩),rfl,q _ (I.hok.fresh (av _))⟩
 rcases hq with hq | hq
 . obtain⟨its,r',pl,hz⟩:=I.list hq;have hlen:=r'.length;obtain⟨o,ho,hc,n,hd⟩:=pl.isList;exact call_list_seq p (.inl rfl) ho hc hd (fun h' c' kp e=>fin its r' hz h' c' kp e) (by simp only[fX]<;>omega)
 . obtain⟨its,r',pl,hz⟩:=I.tuple hq;have hlen:=r'.length;obtain⟨o,ho,hc,n,hd⟩:=pl;exact call_list_seq p (.inr rfl) ho hc hd (fun h' c' kp e=>fin its r' hz h' c' kp e) (by simp only[fX]<;>omega)
def Ba(K:Fg)(T:String)(x:V)(H:Hp):Prop:=match x with
 | .str _=>T = "str"
 | .int _=>T = "int"
 | .ref p=>(T = "list"/\∃xs,ae K H p xs)\/(T = "tuple"/\∃o,K.lookup p=some o/\o.cls = .type "tuple"/\o.dict=none) \/
  (T = "dict"/\((∃kvs,H p=some (.dK kvs))\/∃kvs,H p=some (.dT kvs)))\/(T = "set"/\∃S n,H p=some (.set S n))
 | _=>False
theorem HA{pins:Po}{σ:St}{H:Hp}{s:Shared}{T:String}{x:V}{v:Value}(I:Inv X pins σ H s)(r:RelV x v)(ty:Ba X.K T x H) :
 s.TypeIs v T/\∀a,v = .ref a->∃ob,s.heap.get? a=some ob/\ob.dict=none:=by
 cases x with
 | str z=>
  obtain⟨t,rfl⟩:=r;cases (show T = "str" from ty);exact⟨typeIs_str s z t,fun _ e=>nomatch e⟩
 | int i=>
  obtain⟨t,rfl⟩:=r;cases (show T = "int" from ty);exact⟨typeIs_int s i t,fun _ e=>nomatch e⟩
 | ref p=>
  cases r
  rcases ty with⟨rfl,xs,hq⟩ | ⟨rfl,o,hk,hc,hd⟩ | ⟨rfl,hk⟩ | ⟨rfl,S,n,hk⟩
  . obtain⟨its,_,pl,_⟩:=I.list hq;refine⟨pl.isList.typeIs,fun a e=>?_⟩;cases e;obtain⟨o,n,e,c,hd,_⟩:=pl;exact⟨o,e,hd⟩
  . refine⟨⟨o,I.kIn p o hk,hc⟩,fun a e=>?_⟩;cases e;exact⟨o,I.kIn _ o hk,hd⟩
  . have z:∃o,s.heap.get? p=some o/\o.ExactDict:=by
     rcases hk with⟨kvs,hk⟩ | ⟨kvs,hk⟩
     . obtain⟨_,_,_,_,o,_,_,e,ex,_⟩:=I.hok p _ hk;exact⟨o,e,ex⟩
     . obtain⟨_,_,_,_,o,_,_,e,ex,_⟩:=I.hok p _ hk;exact⟨o,e,ex⟩
    obtain⟨o,e,ex⟩:=z;refine⟨⟨o,e,ex.1⟩,fun a e2=>?_⟩;cases e2;exact⟨o,e,ex.2.1⟩
  . obtain⟨o,_,_,_,e,ex,_⟩:=I.hok p _ hk;refine⟨⟨o,e,ex.1⟩,fun a e2=>?_⟩;cases e2;exact⟨o,e,ex.2.1⟩
 | _=>exact False.elim ty
def Vo(K:Fg)(T:String)(r:V->Lv->Hp->VK->Prop)(to:TE):TE:=fun σ H Q=>to σ H fun x H1=>Ba K T x H1/\r x [] H1 Q
def Vp(K:Fg)(T:String)(r:V->Lv->Hp->VK->Prop)(to:TE)(t:TA):TE:=fun σ H Q=>to σ H fun x H1=>Ba K T x H1/\t σ H1 fun xs H2=>r x xs H2 Q
variable {o e:Expr} {es:List Expr} {to:TE} {t:TA} {name:Str} {apos dj:Pos} {T id:String} {r:V->Lv->Hp->VK->Prop}
theorem Vq(pa:PlainAttrs T)(slot:Slot T name id)(Bb:typeOf (.builtin id)=pure (.type "method_descriptor"))(hm:Hu X id r)(ho:PE X o to)
 (Bc:attributeBase o name X.env (eval o X.env)=eval o X.env:=by rfl) (Bd:(apos.endLine == dj.line)=true:=by rfl):PE X (.Call (.Attribute o name apos) [] [] dj) (Vo X.K T r to):=by
 intro pins s σ H Q I h;refine wpAny_Call_method0_late Bc Bd (thn (ho pins s σ H _ I h) fun v s1 Vr=>Vr.elim fun x Vs=>Vs.elim fun H1 Vt=>Vt.elim fun I1 Vu=>Vu.elim fun r1 Vv=>Vv.elim fun ty q1=>?_);obtain⟨h1,h2⟩:=HA I1 r1 ty;exact⟨T,id,pa,slot,Bb,h1,h2,Ak rfl (PySem.evalArgs_none (hm pins s1 σ H1 x [] v [] Q I1 r1 .nil q1))⟩
theorem jn(pa:PlainAttrs T)(slot:Slot T name id)(Bb:typeOf (.builtin id)=pure (.type "method_descriptor"))(hm:Hu X id r)(ho:PE X o to)(ha:PA X (e::es) t)
 (Bc:attributeBase o name X.env (eval o X.env)=eval o X.env:=by rfl)
 (Vw:((backTo dj (starEach (e::es) X.env)).all (fun x=>!x.1) && (backToKw dj (keywordEach [] X.env)).all (fun x=>x.1.isSome)
  && decide ((e::es).length+([]:List Keyword).length+(if ([]:List Keyword).isEmpty then 0 else 1)<30))=true:=by rfl)
 (Bd:(apos.endLine == dj.line)=true:=by rfl) (hs:starEach (e::es) X.env=(false,eval e X.env)::starEach es X.env:=by rfl) (Vx:(backTo dj (starEach es X.env)).any (·.1)=false:=by rfl) :
 PE X (.Call (.Attribute o name apos) (e::es) [] dj) (Vp X.K T r to t):=by
 intro pins s σ H Q I h;refine wpAny_Call_method_late Bc Vw Bd rfl (thn (ho pins s σ H _ I h) fun v s1 Vy=>Vy.elim fun x Vz=>Vz.elim fun H1 VA=>VA.elim fun I1 VB=>VB.elim fun r1 VC=>VC.elim fun ty q1=>?_);obtain⟨h1,h2⟩:=HA I1 r1 ty;refine⟨T,id,pa,slot,Bb,h1,h2,?_⟩;have hA:=ha dj pins s1 σ H1 _ I1 q1;rw[hs]at hA ⊢;refine Ak (by show(false || (backTo dj (starEach es X.env)).any (·.1))=false;rw[Vx]<;>rfl) (FP ?_);exact thn hA fun us s2 VD=>VD.elim fun vs VE=>VE.elim fun H2 VF=>VF.elim fun I2 VG=>VG.elim fun r2 q2=>hm pins s2 σ H2 x vs v us Q I2 r1 r2 q2
end
def Be(X:Cx)(id:String)(r:V->Lv->Hp->VK->Prop):Prop:=
 ∀(pins:Po) (s:Shared) (σ:St) (H:Hp) (x:V) (xs:Lv) (v:Value) (us:Lw) (Q:VK),Inv X pins σ H s->RelV x v->aH xs us->r x xs H Q ->
  wpAny (model X.prog X.w) X.A (call (.builtin id) (v::us)) (EP X pins σ Q) X.xe s
theorem aH.one:∀{x:V} {us:Lw},aH [x] us->∃u,us = [u]/\RelV x u
 | _,_,.cons r .nil=>⟨_,rfl,r⟩
section
variable {X:Cx} {pins:Po} {σ:St} {H:Hp} {s:Shared} {l b:Addr} {xs ys zs:Lv}
theorem Inv.lset{its its':Lw}{n:Nat}{f:Av->Av}{t':Nat}(I:Inv X pins σ H s)(hH:H l=some (.lst xs))
 (e:s.heap.get? l=some { cls:=.type "list",data:=.seq its.toArray n }) (hf:f its.toArray=its'.toArray) (hv:aH ys its') (hz:ys.length<=sizeLine) :
 Inv X pins σ (ak H l (.lst ys)) { s with heap:=s.heap.update l (Obj.mapSeq f),toks:=t' }:=by
 have q:=PySem.IsL.update e f;rw[hf]at q;refine I.write (x:=l) (e:=l) (by rw[hH];exact trivial) (.inl rfl) (fun b' u hb hu=>(Al s.heap (Obj.mapSeq f) (dQ hb)).trans hu) ⟨_,q⟩ ?_;exact⟨hz,its',_,hv,q⟩
theorem Inv.lnew{its:Lw}{t':Nat}(I:Inv X pins σ H s)(hv:aH ys its)(hz:ys.length<=sizeLine) :
 Inv X pins σ (ak H s.heap.objs.size (.lst ys)) { s with heap:=s.heap.push { cls:=.type "list",data:=.seq its.toArray },toks:=t' }:=
 I.laid (fun _ _ q=>bg _ q) (av _) ⟨hz,its,0,hv,dv _ rfl⟩
theorem Inv.fresh(I:Inv X pins σ H s):H s.heap.objs.size=none:=I.hok.fresh (av _)
theorem Inv.lstM(I:Inv X pins σ H s)(hH:H l=some (.lst xs)):xs.length<=sizeLine/\∃(its:Lw) (n:Nat),aH xs its/\xs.length=its.length/\s.heap.get? l=some { cls:=.type "list",data:=.seq its.toArray n }:=by
 obtain⟨z,its,n,r,e⟩:=I.hok l _ hH;exact⟨z,its,n,r,r.length,e⟩
theorem VH{n:Nat}(h:n<=sizeLine):Builtin.List.listTooLong n=false:=by
 unfold Builtin.List.listTooLong;exact aU (by omega)
end
section
variable {X:Cx}
def VI:V->Lv->Hp->VK->Prop:=fun x vs H Q=>∃l xs y,x = .ref l/\vs = [y]/\H l=some (.lst xs)/\xs.length<sizeLine/\Q .non (ak H l (.lst (xs++[y])))
theorem pi:Be X "list.append" VI:=by
 intro pins s σ H x vs v us Q I rx rv h;obtain⟨l,xs,y,rfl,rfl,hH,hz,q⟩:=h;cases rx;obtain⟨u,rfl,ru⟩:=rv.one;obtain⟨z,its,n,r,hl,e⟩:=I.lstM hH;refine call_meets F.slot_list_append ⟨_,e,rfl⟩ F.entry_list_append (F.args_list_append_2 _ _) (PySem.list_append l its.toArray n u (by rw[fX];omega)) ⟨e,?_⟩;refine⟨.non,_,I.lset (its':=its++[u]) hH e (by simp) (r.append (.cons ru .nil)) ?_,rfl,q⟩;rw[bf,iJ];omega
def VJ:V->Lv->Hp->VK->Prop:=fun x vs H Q=>∃l b xs zs,x = .ref l/\vs = [.ref b]/\H l=some (.lst xs)/\H b=some (.lst zs)/\xs.length+zs.length<=sizeLine/\Q .non (ak H l (.lst (xs++zs)))
theorem ro:Be X "list.extend" VJ:=by
 intro pins s σ H x vs v us Q I rx rv h;obtain⟨l,b,xs,zs,rfl,rfl,hH,hB,hz,q⟩:=h;cases rx;obtain⟨u,rfl,ru⟩:=rv.one;cases ru;obtain⟨z,its,n,r,hl,e⟩:=I.lstM hH;obtain⟨z2,iS,n2,r2,kH,e2⟩:=I.lstM hB;have hsz:its.toArray.size+iS.toArray.size<=sizeLine:=by rw[fX,fX];omega
 have VL:¬(!its.toArray.isEmpty && Builtin.List.listTooLong (its.toArray.size+iS.toArray.size))=true:=by
  rw[VH hsz,mH];exact bB
 refine call_meets F.slot_list_extend ⟨_,e,rfl⟩ F.entry_list_extend (F.args_list_extend_2 _ _)
  (AutoSeq1.list_extend_list_list_0 l its.toArray n b iS.toArray n2 VL (by rw[fX];omega) (by omega)) ⟨e,e2,?_⟩
 refine⟨.non,_,I.lset (its':=its++iS) hH e (by simp) (r.append r2) ?_,rfl,q⟩;rw[bf];omega
def VM:R2:=fun x y H Q=>∃l b xs zs,x = .ref l/\y = .ref b/\H l=some (.lst xs)/\H b=some (.lst zs)/\xs.length+zs.length<=sizeLine/\∀p,H p=none->Q (.ref p) (ak H p (.lst (xs++zs)))
theorem VN:bw X (binaryOp .Add) VM:=by
 intro pins s σ H x y v u Q I rx ry h;obtain⟨l,b,xs,zs,rfl,rfl,hH,hB,hz,q⟩:=h;cases rx;cases ry;obtain⟨z,its,n,r,hl,e⟩:=I.lstM hH;obtain⟨z2,iS,n2,r2,kH,e2⟩:=I.lstM hB;refine PySem.P.add_list e e2 ?_ (by rw[fX,fX];omega);have ea:its.toArray++iS.toArray=(its++iS).toArray:=by simp
 rw[ea];exact⟨.ref _,_,I.lnew (t':=s.toks) (r.append r2) (by rw[bf];omega),rfl,q _ I.fresh⟩
end
section
variable {prog:Program} {w:World} {A:Around} {E:VP} {s:Shared}
set_option maxRecDepth 100000 in
end
section
variable {X:Cx}
end
section
variable {κ:Type} [DecidableEq κ]
def bK(kvs:List (κ×V))(k:κ):Option V:=(kvs.find? fun kv=>decide (kv.1=k)).map (·.2)
def cX(kvs:List (κ×V))(k:κ)(v:V):List (κ×V):=
 if (kvs.any fun kv=>decide (kv.1=k))=true then kvs.map (fun kv=>if kv.1=k then(kv.1,v) else kv) else kvs++[(k,v)]
def mZ(kvs:List (κ×V))(k:κ):List (κ×V):=kvs.filter fun kv=>decide (kv.1≠k)
theorem gW{p:κ×V}{r:List (κ×V)}{k:κ}(e:p.1=k):bK (p::r) k=some p.2:=by simp[bK,wt,e]
theorem gw{p:κ×V}{r:List (κ×V)}{k:κ}(e:¬p.1=k):bK (p::r) k=bK r k:=by simp[bK,wt,e]
theorem rp(k:κ):∀kvs:List (κ×V),(kvs.any fun kv=>decide (kv.1=k))=(bK kvs k).isSome
 | []=>rfl
 | p::r=>by
  rw[tj]
  by_cases e:p.1=k
  . simp only[gW e,aL e,Bool.true_or,Option.isSome_some]
  . rw[gw e,aU e,Am];exact rp k r
theorem HB(k j:κ)(y:V):∀kvs:List (κ×V),bK (kvs.map fun kv=>if kv.1=k then(kv.1,y) else kv) j=(bK kvs j).map fun x=>if j=k then y else x
 | []=>rfl
 | p::r=>by
  have ih:=HB k j y r;rw[b9]
  by_cases h:p.1=k
  . rw[ai h]
    by_cases e:p.1=j
    . rw[gW (p:=(p.1,y)) e,gW e,jH,ai (e.symm.trans h)]
    . rw[gw (p:=(p.1,y)) e,gw e,ih]
  . rw[af h]
    by_cases e:p.1=j
    . rw[gW (p:=p) e,gW e,jH,af (fun z=>h (e.trans z))]
    . rw[gw (p:=p) e,gw e,ih]
theorem HC(k j:κ)(y:V):∀kvs:List (κ×V),bK kvs k=none->bK (kvs++[(k,y)]) j=if j=k then some y else bK kvs j
 | [],_=>by
  by_cases e:k=j
  . rw[ai e.symm];exact gW (p:=(k,y)) e
  . rw[af (fun z=>e z.symm)];exact gw (p:=(k,y)) e
 | p::r,hn=>by
  rw[An];have hk:¬p.1=k:=fun z=>by rw[gW z]at hn;cases hn
  rw[gw hk]at hn;have ih:=HC k j y r hn
  by_cases e:p.1=j
  . rw[gW e,gW e,af (fun z=>hk (e.trans z))]
  . rw[gw e,gw e,ih]
theorem VO(kvs:List (κ×V))(k j:κ)(y:V):bK (cX kvs k y) j=if j=k then some y else bK kvs j:=by
 unfold cX
 by_cases a:(kvs.any fun kv=>decide (kv.1=k))=true
 . rw[ai a,HB];rw[rp]at a
   by_cases e:j=k
   . obtain⟨x,hx⟩:=FI.mp a;rw[ai e,e,hx,jH,ai rfl]
   . rw[af e];cases bK kvs j with
     | none=>rfl
     | some x=>rw[jH,af e]
 . rw[af a];refine HC k j y kvs ?_;rw[rp]at a;cases q:bK kvs k with
   | none=>rfl
   | some x=>rw[q]at a;exact(a rfl).elim
theorem rq(kvs:List (κ×V))(k:κ)(v:V):(cX kvs k v).length<=kvs.length+1:=by
 unfold cX;split
 . rw[aw];omega
 . rw[bf,bu,je];omega
theorem HD{kvs:List (κ×V)}{k:κ}(v:V)(h:bK kvs k=none):cX kvs k v=kvs++[(k,v)]:=by
 unfold cX;rw[rp,h];exact af (by decide)
theorem eT.isSome_eq{o:Option V}{u:Option Value}(r:eT o u):o.isSome=u.isSome:=by
 cases o with
 | none=>cases u with
  | none=>rfl
  | some _=>exact(show False from r).elim
 | some _=>cases u with
  | none=>exact(show False from r).elim
  | some _=>rfl
theorem eT.getD{o:Option V}{u:Option Value}{d:V}{d':Value}(r:eT o u)(rd:RelV d d'):RelV (o.getD d) (u.getD d'):=by
 cases o with
 | none=>cases u with
  | none=>exact rd
  | some _=>exact(show False from r).elim
 | some _=>cases u with
  | none=>exact(show False from r).elim
  | some _=>exact r
theorem KV.val{kvs:List (κ×V)}{vs:List (κ×Value)}(r:KV kvs vs)(k:κ):eT (bK kvs k) (valueAt vs k):=by
 unfold KV at r
 induction r with
 | nil=>exact True.intro
 | @cons p q ps qs h t ih=>
  obtain⟨h1,h2⟩:=h
  by_cases e:p.1=k
  . have e':q.1=k:=h1.symm.trans e;have b:valueAt (q::qs) k=some q.2:=by simp[valueAt,wt,e']
    rw[gW e,b];exact h2
  . have e':¬q.1=k:=fun z=>e (h1.trans z);have b:valueAt (q::qs) k=valueAt qs k:=by simp[valueAt,wt,e']
    rw[gw e,b];exact ih
theorem KV.any{kvs:List (κ×V)}{vs:List (κ×Value)}(r:KV kvs vs)(k:κ):(kvs.any fun kv=>decide (kv.1=k))=vs.any fun kv=>decide (kv.1=k):=by
 unfold KV at r
 induction r with
 | nil=>rfl
 | cons h t ih=>rw[tj,tj,ih,h.1]
theorem KV.repl{kvs:List (κ×V)}{vs:List (κ×Value)}(r:KV kvs vs)(k:κ){y:V}{u:Value}(ry:RelV y u) :
 KV (kvs.map fun kv=>if kv.1=k then(kv.1,y) else kv) (vs.map fun kv=>if kv.1=k then(kv.1,u) else kv):=by
 unfold KV at r ⊢
 induction r with
 | nil=>exact .nil
 | @cons p q ps qs h t ih=>
  rw[b9,b9];refine .cons ?_ ih;obtain⟨h1,h2⟩:=h
  by_cases e:p.1=k
  . rw[ai e,ai (h1.symm.trans e)];exact⟨h1,ry⟩
  . rw[af e,af (fun z=>e (h1.trans z))];exact⟨h1,h2⟩
theorem KV.put{kvs:List (κ×V)}{vs:List (κ×Value)}(r:KV kvs vs)(k:κ){y:V}{u:Value}(ry:RelV y u):KV (cX kvs k y) (stored vs k u):=by
 unfold cX stored;rw[r.any k]
 by_cases e:(vs.any fun kv=>decide (kv.1=k))=true
 . rw[ai e,ai e];exact r.repl k ry
 . rw[af e,af e];exact Paired.snoc r ⟨rfl,ry⟩
theorem KV.drop{kvs:List (κ×V)}{vs:List (κ×Value)}(r:KV kvs vs)(k:κ):KV (mZ kvs k) (without vs k):=by
 unfold KV at r ⊢;unfold mZ without
 induction r with
 | nil=>exact .nil
 | @cons p q ps qs h t ih=>
  obtain⟨h1,h2⟩:=h;rw[tq,tq]
  by_cases e:p.1=k
  . have a:¬decide (p.1≠k)=true:=by simp[e]
    have b:¬decide (q.1≠k)=true:=by simp[h1.symm.trans e]
    rw[af a,af b];exact ih
  . have e':¬q.1=k:=fun z=>e (h1.trans z);have a:decide (p.1≠k)=true:=by simp[e]
    have b:decide (q.1≠k)=true:=by simp[e']
    rw[ai a,ai b];exact .cons ⟨h1,h2⟩ ih
theorem KV.length{kvs:List (κ×V)}{vs:List (κ×Value)}(r:KV kvs vs):kvs.length=vs.length:=Fw r
theorem Bf(kvs:List (κ×V))(k:κ):(mZ kvs k).length<=kvs.length:=iK _ _
end
theorem kI{P:Program}{w:World}{k:aF}{u:Value}(r:RelV (kV k) u):(bM P w).is k u=true:=by
 cases k with
 | inl i=>obtain⟨t,e⟩:=(show∃t,u=Value.int i t from r);subst e;exact Pu P w i t
 | inr x=>obtain⟨t,e⟩:=(show∃t,u=Value.str x t from r);subst e;exact oW P w x t
theorem HE{P:Program}{w:World}:∀{ks:List aF} {us:Lw},aH (ks.map kV) us->ItemsAre (bM P w) ks us
 | [],_,r=>by rw[Aj]at r;cases r;exact .nil
 | k::ks,_,r=>by
  rw[b9]at r;cases r with
  | cons h t=>exact .cons (kI h) (HE t)
abbrev KT (H:Hp):List (List NI×V)->List (List NI×Addr×Value)->Prop:=Paired fun p q=>p.1=q.1/\jh H p.1 q.2.1/\RelV p.2 q.2.2
theorem KT.val{H:Hp}{kvs:List (List NI×V)}{xs:List (List NI×Addr×Value)}(r:KT H kvs xs)(k:List NI):eT (bK kvs k) ((atKey xs k).map (·.2)):=by
 induction r with
 | nil=>exact True.intro
 | @cons p q ps qs h t ih=>
  obtain⟨h1,_,h2⟩:=h
  by_cases e:p.1=k
  . have e':q.1=k:=h1.symm.trans e;have b:atKey (q::qs) k=some q.2:=by simp[atKey,wt,e']
    rw[gW e,b];exact h2
  . have e':¬q.1=k:=fun z=>e (h1.trans z);have b:atKey (q::qs) k=atKey qs k:=by simp[atKey,wt,e']
    rw[gw e,b];exact ih
theorem KT.repl{H:Hp}{kvs:List (List NI×V)}{xs:List (List NI×Addr×Value)}(r:KT H kvs xs)(k:List NI){y:V}{u:Value}(ry:RelV y u) :
 KT H (kvs.map fun kv=>if kv.1=k then(kv.1,y) else kv) (xs.map (putAt k u)):=by
 induction r with
 | nil=>exact .nil
 | @cons p q ps qs h t ih=>
  rw[b9,b9];refine .cons ?_ ih;obtain⟨h1,h2,h3⟩:=h;unfold putAt
  by_cases e:p.1=k
  . rw[ai e,ai (h1.symm.trans e)];exact⟨h1,h2,ry⟩
  . rw[af e,af (fun z=>e (h1.trans z))];exact⟨h1,h2,h3⟩
theorem KT.put{H:Hp}{kvs:List (List NI×V)}{xs:List (List NI×Addr×Value)}(r:KT H kvs xs)(k:List NI){b:Addr}{y:V}{u:Value}(hb:jh H k b)(ry:RelV y u) :
 KT H (cX kvs k y) (storedH xs k b u):=by
 have e:(kvs.any fun kv=>decide (kv.1=k))=(atKey xs k).isSome:=by
  rw[rp,(r.val k).isSome_eq,OA]
 unfold cX storedH;rw[e]
 by_cases q:(atKey xs k).isSome=true
 . rw[ai q,ai q];exact r.repl k ry
 . rw[af q,af q];exact Paired.snoc r ⟨rfl,hb,ry⟩
theorem KT.keeps{H H':Hp}{kvs:List (List NI×V)}{xs:List (List NI×Addr×Value)}(r:KT H kvs xs)(ht:∀b ys,H b=some (.tup ys)->H' b=some (.tup ys)):KT H' kvs xs:=
 Paired.mapP r fun _ _ z=>⟨z.1,z.2.1.keeps ht,z.2.2⟩
section
variable {P:Program} {w:World} {H:Hp} {h:Heap} {a:Addr}
theorem HF{u:HO}(ok:b7 P w H h)(e:Rd H a u):bN P w H h a u:=e.ok ok
theorem lK{kvs:List (aF×V)}(ok:b7 P w H h)(e:Rd H a (.dK kvs)):kvs.length<=sizeLine/\(a == sysModules)=false/\∃vs,KV kvs vs/\h.DictOf (bM P w) a vs:=
 show bN P w H h a (.dK kvs) from HF ok e
theorem jo{kvs:List (aF×V)}(ok:b7 P w H h)(e:H a=some (.dK kvs)):kvs.length<=sizeLine/\(a == sysModules)=false/\∃vs,KV kvs vs/\h.DictOf (bM P w) a vs:=lK ok (.inl e)
theorem VQ{ks:List NI}{vs:Lv}{us:Lw}(ok:b7 P w H h)(x:GI H ks vs)(r:aH vs us):gP P w h ks us:=by
 induction x generalizing us with
 | nil=>cases r;exact .nil
 | @cons i v ks vs p _ ih=>
  cases r with
  | cons rv rr=>
   refine .cons ?_ (ih rr);cases i with
   | inl k=>
    have p:v=kV k:=p;subst p;exact kI (P:=P) (w:=w) rv
   | inr l=>
    obtain⟨b,rfl,e⟩:=p;cases rv;obtain⟨_,its,r2,o,h1,h2,n,h3⟩:=(show bN P w H h b (.tup (l.map kV)) from ok b _ e);exact⟨b,rfl,o,its.toArray,n,h1,h2,h3,by simpa using HE r2⟩
theorem rA{ks:List NI}(ok:b7 P w H h)(e:jh H ks a):(oX P w).is h ks a:=by
 obtain⟨vs,e,x⟩:=e;obtain⟨_,its,r,o,h1,h2,n,h3⟩:=(show bN P w H h a (.tup vs) from ok a _ e);exact⟨o,its.toArray,n,h1,h2,h3,by simpa using VQ ok x r⟩
theorem pj{kvs:List (List NI×V)}(ok:b7 P w H h)(e:Rd H a (.dT kvs)):kvs.length<=sizeLine/\(a == sysModules)=false /\
 ∃xs,KT H kvs xs/\h.DictOfH (oX P w) a xs:=by
 obtain⟨z,y,xs,r,o,es,ep,h1,h2,h3,h4,h5⟩:=(show bN P w H h a (.dT kvs) from HF ok e);refine⟨z,y,xs,r,o,es,ep,h1,h2,h3,h4,fun x hx=>?_,h5⟩;have all:∀{l:List (List NI×V)} {m:List (List NI×Addr×Value)},KT H l m->∀x∈m,(oX P w).is h x.1 x.2.1:=by
  intro l m q
  induction q with
  | nil=>intro x hx;exact nomatch hx
  | @cons p q ps qs hq t ih=>
   intro x hx
   rcases bh.mp hx with e | hx
   . subst e;exact rA ok (by rw[←hq.1];exact hq.2.1)
   . exact ih x hx
 exact all r x hx
theorem VR{kvs:List (List NI×V)}(ok:b7 P w H h)(e:H a=some (.dT kvs)):kvs.length<=sizeLine/\(a == sysModules)=false /\
 ∃xs,KT H kvs xs/\h.DictOfH (oX P w) a xs:=pj ok (.inl e)
end
def cY(H:Hp)(a:Addr)(y:V)(r:Option V):Prop:=
 (∃kvs k,Rd H a (.dK kvs)/\y=kV k/\r=bK kvs k)\/∃kvs k b,Rd H a (.dT kvs)/\y = .ref b/\jh H k b/\r=bK kvs k
def jT(H:Hp)(a:Addr)(y v:V)(H':Hp):Prop:=
 (∃kvs k,H a=some (.dK kvs)/\y=kV k/\kvs.length<sizeLine/\H'=ak H a (.dK (cX kvs k v))) \/
 ∃kvs k b,H a=some (.dT kvs)/\y = .ref b/\jh H k b/\kvs.length<sizeLine/\H'=ak H a (.dT (cX kvs k v))
theorem cY.k{H:Hp}{a:Addr}{kvs:List (aF×V)}{k:aF}(e:H a=some (.dK kvs)):cY H a (kV k) (bK kvs k):=.inl ⟨kvs,k,.inl e,rfl,rfl⟩
theorem cY.t{H:Hp}{a b:Addr}{kvs:List (List NI×V)}{k:List NI}(e:H a=some (.dT kvs))(eb:jh H k b):cY H a (.ref b) (bK kvs k):=.inr ⟨kvs,k,b,.inl e,rfl,eb,rfl⟩
theorem jT.k{H:Hp}{a:Addr}{kvs:List (aF×V)}{k:aF}{v:V}(e:H a=some (.dK kvs))(hl:kvs.length<sizeLine):jT H a (kV k) v (ak H a (.dK (cX kvs k v))):=.inl ⟨kvs,k,e,rfl,hl,rfl⟩
theorem jT.t{H:Hp}{a b:Addr}{kvs:List (List NI×V)}{k:List NI}{v:V}(e:H a=some (.dT kvs))(eb:jh H k b)(hl:kvs.length<sizeLine) :
 jT H a (.ref b) v (ak H a (.dT (cX kvs k v))):=.inr ⟨kvs,k,b,e,rfl,eb,hl,rfl⟩
section
variable {X:Cx} {pins:Po} {σ:St} {H:Hp} {s:Shared} {a:Addr} {y v:V} {u r:Value} {o:Option V} {A:Around} {E:VP}
theorem Inv.big(I:Inv X pins σ H s):sysModules<s.heap.objs.size:=by
 have h:mainGlobals<s.heap.objs.size:=(I.mod.glob.keeps I.bk).lt;exact tu (by decide) h
theorem VS{Q:VP}(hu:A.units+64<cLine)(I:Inv X pins σ H s)(g:cY H a y (some v))(ry:RelV y u)(h:∀w' s',Inv X pins σ H s'->RelV v w'->Q w' s') :
 wpAny (model X.prog X.w) A (getItem (.ref a) u) Q E s:=by
 rcases g with⟨kvs,k,e,ey,l⟩ | ⟨kvs,k,b,e,ey,eb,l⟩
 . subst ey;obtain⟨z,hd,vs,rel,dd⟩:=lK I.hok e;obtain⟨w',hw,dZ⟩:=eT.some_of (v:=v) (o:=valueAt vs k) (by rw[l];exact rel.val k);exact wpAny_getItem_of (kI ry) dd.mapOf hw (h w' _ (I.tok _) dZ)
 . subst ey;cases (show u=Value.ref b from ry);obtain⟨z,hd,xs,rel,dd⟩:=pj I.hok e;obtain⟨w',hw,dZ⟩:=eT.some_of (v:=v) (o:=(atKey xs k).map (·.2)) (by rw[l];exact rel.val k);obtain⟨p,hp,Bg⟩:=Option.map_eq_some_iff.mp hw;refine wpAny_getItem_heap (tJ hu) (rA I.hok eb) dd hp ?_;rw[Bg];exact h w' _ (I.tok _) dZ
theorem VT{Q:VP}(hu:A.units+64<cLine)(I:Inv X pins σ H s)(g:cY H a y o)(ry:RelV y u)(h:∀s',Inv X pins σ H s'->Q (.bool o.isSome) s') :
 wpAny (model X.prog X.w) A (compareOp .In u (.ref a)) Q E s:=by
 rcases g with⟨kvs,k,e,ey,l⟩ | ⟨kvs,k,b,e,ey,eb,l⟩
 . subst ey;obtain⟨z,hd,vs,rel,dd⟩:=lK I.hok e;refine wpAny_in_of (kI ry) hd dd.mapOf ?_;rw[←(rel.val k).isSome_eq,←l];exact h _ (I.tok _)
 . subst ey;cases (show u=Value.ref b from ry);obtain⟨z,hd,xs,rel,dd⟩:=pj I.hok e;refine wpAny_in_heap (tJ hu) (rA I.hok eb) hd dd ?_;have q:=(rel.val k).isSome_eq;rw[OA]at q;rw[←q,←l];exact h _ (I.tok _)
theorem VU{Q:VP}(hu:A.units+64<cLine)(I:Inv X pins σ H s)(g:cY H a y o)(ry:RelV y u)(h:∀s',Inv X pins σ H s'->Q (.bool (!o.isSome)) s') :
 wpAny (model X.prog X.w) A (compareOp .NotIn u (.ref a)) Q E s:=by
 rcases g with⟨kvs,k,e,ey,l⟩ | ⟨kvs,k,b,e,ey,eb,l⟩
 . subst ey;obtain⟨z,hd,vs,rel,dd⟩:=lK I.hok e;refine wpAny_notIn_of (kI ry) hd dd.mapOf ?_;rw[←(rel.val k).isSome_eq,←l];exact h _ (I.tok _)
 . subst ey;cases (show u=Value.ref b from ry);obtain⟨z,hd,xs,rel,dd⟩:=pj I.hok e;refine wpAny_notIn_heap (tJ hu) (rA I.hok eb) hd dd ?_;have q:=(rel.val k).isSome_eq;rw[OA]at q;rw[←q,←l];exact h _ (I.tok _)
theorem xq{h':Heap}{t':Nat}{ob:HO}(I:Inv X pins σ H s)(mu:tK (H a))(hs:Heap.SameBut a s.heap h')(he:∃q,h'.get? a=some q)(new:bN X.prog X.w (ak H a ob) h' a ob) :
 Inv X pins σ (ak H a ob) { s with heap:=h',toks:=t' }:=
 I.write (x:=a) (e:=a) mu (.inl rfl) (fun b q hb z=>(hs.2 b hb).trans z) he new
theorem tZ{P:Program}{w:World}{H':Hp}{h':Heap}{kvs:List (aF×V)}{vs:List (aF×Value)}(z:kvs.length<=sizeLine)(hd:(a == sysModules)=false)(rel:KV kvs vs)(dd:h'.DictOf (bM P w) a vs) :
 bN P w H' h' a (.dK kvs):=⟨z,hd,vs,rel,dd⟩
theorem VV{H':Hp}{Q:Unit->Shared->Prop}(hu:A.units+64<cLine)(I:Inv X pins σ H s)(g:jT H a y v H')(ry:RelV y u)(rv:RelV v r)(h:∀s',Inv X pins σ H' s'->Q () s') :
 wpAny (model X.prog X.w) A (setItem (.ref a) u r) Q E s:=by
 rcases g with⟨kvs,k,e,ey,l,eH⟩ | ⟨kvs,k,b,e,ey,eb,l,eH⟩
 . subst ey eH;obtain⟨z,hd,vs,rel,dd⟩:=jo I.hok e;have hz:vs.length<=sizeLine:=by rw[←rel.length];exact z
   have hl:(cX kvs k v).length<=sizeLine:=by have:=rq kvs k v;omega
   refine wpAny_setItem_pairs (hsz:=hz) (kI ry) dd fun h' fT hs=>h _ ?_;have he:∃q,h'.get? a=some q:=fT.elim fun q VW=>VW.elim fun _ VX=>VX.elim fun _ VY=>VY.elim fun hq _=>⟨q,hq⟩;exact xq I (by rw[e];exact True.intro) hs he (tZ hl hd (rel.put k rv) fT)
 . subst ey eH;cases (show u=Value.ref b from ry);obtain⟨z,hd,xs,rel,dd⟩:=VR I.hok e;have hz:xs.length<=sizeLine:=by rw[←Fw rel];exact z
   have hl:(cX kvs k v).length<=sizeLine:=by have:=rq kvs k v;omega
   refine wpAny_setItem_heap (hsz:=hz) (tJ hu) (rA I.hok eb) dd fun h' fT hs=>h _ ?_;obtain⟨q,es,ep,hq,h2,h3,h4,_,h5⟩:=fT;refine xq I (by rw[e];exact True.intro) hs ⟨q,hq⟩ ⟨hl,hd,_,(rel.put k eb rv).keeps fun c ys ec=>?_,q,es,ep,hq,h2,h3,h4,h5⟩;rw[a8 (fz ec e (fun z=>nomatch z))];exact ec
end
section
variable {X:Cx} {pins:Po} {σ:St} {H:Hp} {s:Shared} {a:Addr} {kvs:List (aF×V)} {k:aF} {u:Value} {A:Around} {E:VP}
theorem HG{v:V}{more:Lw}{Q:VP}(I:Inv X pins σ H s)(e:H a=some (.dK kvs))(ry:RelV (kV k) u)(l:bK kvs k=some v)(hm:more = []\/∃x,more = [x])
 (h:∀w' s',Inv X pins σ (ak H a (.dK (mZ kvs k))) s'->RelV v w'->Q w' s'):wpAny (model X.prog X.w) A (call (.builtin "dict.pop") (.ref a::u::more)) Q E s:=by
 obtain⟨z,hd,vs,rel,dd⟩:=jo I.hok e;obtain⟨w',hw,dZ⟩:=eT.some_of (v:=v) (o:=valueAt vs k) (by rw[←l];exact rel.val k);have hp:(keyPart u).isSome=true:=by
  cases k with
  | inl i=>obtain⟨t,q⟩:=(show∃t,u=Value.int i t from ry);subst q;rfl
  | inr x=>obtain⟨t,q⟩:=(show∃t,u=Value.str x t from ry);subst q;rfl
 have ha:argsOk "dict.pop" ⟨.ref a::u::more,[]⟩:=by
  rcases hm with q | ⟨x,q⟩
  . subst q;exact PySem.F.args_dict_pop_2 _ _
  . subst q;exact ajx _ _ _
 refine tw FQ dd.typeIs ajy ha (meets_dict_pop_there (bM X.prog X.w) a (kI ry) more hm hp)
  ⟨vs,w',dd,by rw[←rel.length];exact z,hw,fun h' fT hs=>h w' _ ?_ dZ⟩
 have he:∃q,h'.get? a=some q:=fT.elim fun q VZ=>VZ.elim fun _ V0=>V0.elim fun _ V1=>V1.elim fun hq _=>⟨q,hq⟩;exact xq I (by rw[e];exact True.intro) hs he (tZ (bn (Bf kvs k) z) hd (rel.drop k) fT)
theorem V2{r:Value}{Q:VP}(I:Inv X pins σ H s)(e:H a=some (.dK kvs))(ry:RelV (kV k) u)(l:bK kvs k=none)(h:∀s',Inv X pins σ H s'->Q r s') :
 wpAny (model X.prog X.w) A (call (.builtin "dict.pop") [.ref a,u,r]) Q E s:=by
 obtain⟨z,hd,vs,rel,dd⟩:=jo I.hok e;have hn:valueAt vs k=none:=eT.none_of (by rw[←l];exact rel.val k);have hp:(keyPart u).isSome=true:=by
  cases k with
  | inl i=>obtain⟨t,q⟩:=(show∃t,u=Value.int i t from ry);subst q;rfl
  | inr x=>obtain⟨t,q⟩:=(show∃t,u=Value.str x t from ry);subst q;rfl
 exact tw FQ dd.typeIs ajy (ajx _ _ _) (meets_dict_pop_default (bM X.prog X.w) a (kI ry) hd hp r) ⟨vs,dd,hn,h _ (I.tok _)⟩
theorem V3{Q:VP}(I:Inv X pins σ H s)(e:H a=some (.dK kvs))(h:∀s',Inv X pins σ (ak H a (.dK [])) s'->Q .none s'):wpAny (model X.prog X.w) A (call (.builtin "dict.clear") [.ref a]) Q E s:=by
 obtain⟨z,hd,vs,rel,dd⟩:=jo I.hok e;refine tw ajz dd.typeIs PySem.F.entry_dict_clear (PySem.F.args_dict_clear_1 _) (meets_dict_clear (bM X.prog X.w) a) ⟨vs,dd,by rw[←rel.length];exact z,fun h' fT hs=>h _ ?_⟩;have he:∃q,h'.get? a=some q:=fT.elim fun q V4=>V4.elim fun _ V5=>V5.elim fun _ V6=>V6.elim fun hq _=>⟨q,hq⟩;exact xq (t':=s.toks) I (by rw[e];exact True.intro) hs he (tZ (cj _) hd .nil fT)
theorem V7{Q:VP}(I:Inv X pins σ H s)(e:Rd H a (.dK kvs))(h:∀t s',Inv X pins σ H s'->Q (.int kvs.length t) s'):wpAny (model X.prog X.w) A (call (.builtin "len") [.ref a]) Q E s:=by
 obtain⟨z,hd,vs,rel,dd⟩:=lK I.hok e;refine call_len_dict hd dd (by rw[←rel.length];rw[iI]at z;omega) ?_;rw[←rel.length];exact h _ _ (I.tok _)
end
def HH(i:Expr):Prop:=∀ov iv,subscripted i false ov iv=operate [ov,iv] (getItem ov iv)
theorem V8{prog:Program}{w:World}{A:Around}{E:VP}{s:Shared}{env:Env}{value slice:Expr}{pos:Pos}{T id:String}{Q:VP}
 (hl:typeLookup (.type T) "__getitem__" = pure (some (.builtin id))) (hs:HH slice)
 (h:wpAny (model prog w) A (eval value env) (fun o s₁=>wpAny (model prog w) A (eval slice env) (fun i s₂=>s₂.TypeIs o T/\wpAny (model prog w) A (getItem o i) Q E s₂) E s₁) E s) :
 wpAny (model prog w) A (eval (.Subscript value slice pos) env) Q E s:=by
 refine Subscript_ (df h (fun o s₁ h₁=>df h₁ (fun i s₂ h₂=>?_) fun _ _ x=>x) fun _ _ x=>x);obtain⟨hT,h₂⟩:=h₂;unfold subscriptTail;refine ac ?_;rw[getitemInPython_of_ne hT.not_modules];refine ac (wp hT hl ?_);have fin:wpAny (model prog w) A (subscripted slice false o i) (fun r s₃=>wpAny (model prog w) A (letTemporaryGo value o r >>= fun _=>pure r) Q E s₃) E s₂:=by
  rw[hs o i];exact wpAny_operating (df h₂ (fun r s₃ h₃=>ac (wpAny_letTemporaryGo (aj h₃))) fun _ _ x=>x)
 first
  | exact aj (ac fin)
  | exact ac (aj (ac fin))
  | exact ac fin
theorem V9{X:Cx}{pins:Po}{σ:St}{H:Hp}{s:Shared}{a:Addr}{y:V}{o:Option V}(I:Inv X pins σ H s)(g:cY H a y o):s.TypeIs (.ref a) "dict":=by
 rcases g with⟨kvs,k,e,_,_⟩ | ⟨kvs,k,b,e,_,_,_⟩
 . obtain⟨_,_,vs,_,dd⟩:=lK I.hok e;exact dd.typeIs
 . obtain⟨_,_,xs,_,dd⟩:=pj I.hok e;exact dd.typeIs
def Wa(td ty:TE):TE:=fun σ H Q=>td σ H fun x H1=>ty σ H1 fun y H2=>∃a v,x = .ref a/\cY H2 a y (some v)/\Q v H2
def Wb(ty td:TE):TE:=fun σ H Q=>ty σ H fun y H1=>td σ H1 fun x H2=>∃a o,x = .ref a/\cY H2 a y o/\Q (.bl o.isSome) H2
def Wc(ty td:TE):TE:=fun σ H Q=>ty σ H fun y H1=>td σ H1 fun x H2=>∃a o,x = .ref a/\cY H2 a y o/\Q (.bl (!o.isSome)) H2
def Wd(td ty tv:TE):TS:=fun D σ H=>tv σ H fun v H1=>td σ H1 fun x H2=>ty σ H2 fun y H3=>∃a H4,x = .ref a/\jT H3 a y v H4/\D.nx σ H4
section
variable {X:Cx} {o i e value:Expr} {pos pos' SI:Pos} {td ty tv:TE}
theorem xr(hu:X.A.units+64<cLine)(ho:PE X o td)(hi:PE X i ty)(hs:HH i):PE X (.Subscript o i pos) (Wa td ty):=by
 intro pins s σ H Q I h;refine V8 PySem.F.slot_dict_getitem.lookup hs (thn (ho pins s σ H _ I h) fun u s1 We=>We.elim fun x Wf=>Wf.elim fun H1 Wg=>Wg.elim fun I1 Wh=>Wh.elim fun rx q1=>thn (hi pins s1 σ H1 _ I1 q1) fun iv s2 Wi=>Wi.elim fun y Wj=>Wj.elim fun H2 Wk=>Wk.elim fun I2 Wl=>Wl.elim fun ry Wm=>Wm.elim fun a Wn=>Wn.elim fun v Wo=>Wo.elim fun ex Wp=>Wp.elim fun g q2=>?_);subst ex;obtain rfl:u=Value.ref a:=rx;exact⟨V9 I2 g,VS hu I2 g ry fun w' s3 I3 dZ=>⟨v,H2,I3,dZ,q2⟩⟩
theorem Bh(hu:X.A.units+64<cLine)(hi:PE X i ty)(ho:PE X o td):PC X .In i o (Wb ty td):=by
 intro pins s σ H Q I h;refine thn (hi pins s σ H _ I h) fun iv s1 Wq=>Wq.elim fun y Wr=>Wr.elim fun H1 Ws=>Ws.elim fun I1 Wt=>Wt.elim fun ry q1=>thn (ho pins s1 σ H1 _ I1 q1) fun u s2 Wu=>Wu.elim fun x Wv=>Wv.elim fun H2 Ww=>Ww.elim fun I2 Wx=>Wx.elim fun rx Wy=>Wy.elim fun a Wz=>Wz.elim fun ov WA=>WA.elim fun ex WB=>WB.elim fun g q2=>?_;subst ex;obtain rfl:u=Value.ref a:=rx;exact VT hu I2 g ry fun s3 I3=>⟨.bl ov.isSome,H2,I3,rfl,q2⟩
theorem WC(hu:X.A.units+64<cLine)(hi:PE X i ty)(ho:PE X o td):PC X .NotIn i o (Wc ty td):=by
 intro pins s σ H Q I h;refine thn (hi pins s σ H _ I h) fun iv s1 WD=>WD.elim fun y WE=>WE.elim fun H1 WF=>WF.elim fun I1 WG=>WG.elim fun ry q1=>thn (ho pins s1 σ H1 _ I1 q1) fun u s2 WH=>WH.elim fun x WI=>WI.elim fun H2 WJ=>WJ.elim fun I2 WK=>WK.elim fun rx WL=>WL.elim fun a WM=>WM.elim fun ov WN=>WN.elim fun ex WO=>WO.elim fun g q2=>?_;subst ex;obtain rfl:u=Value.ref a:=rx;exact VU hu I2 g ry fun s3 I3=>⟨.bl (!ov.isSome),H2,I3,rfl,q2⟩
theorem ua(hu:X.A.units+64<cLine)(ho:PE X o td)(hi:PE X i ty)(hv:PE X value tv)(hs:swapsWith value (some (.Subscript o i pos')) pos.line X.env=pure false) :
 PS X (.Assign [.Subscript o i pos'] value pos) (Wd td ty tv):=by
 intro pins s σ H D I h;refine wpAny_Assign_Subscript (thn (hv pins s σ H _ I h) fun r s1 WP=>WP.elim fun v WQ=>WQ.elim fun H1 WR=>WR.elim fun I1 WS=>WS.elim fun rv q1=>thn (ho pins s1 σ H1 _ I1 q1) fun u s2 WT=>WT.elim fun x WU=>WU.elim fun H2 WV=>WV.elim fun I2 WW=>WW.elim fun rx q2=>thn (hi pins s2 σ H2 _ I2 q2) fun iv s3 WX=>WX.elim fun y WY=>WY.elim fun H3 WZ=>WZ.elim fun I3 W0=>W0.elim fun ry W1=>W1.elim fun a W3=>W3.elim fun H4 W4=>W4.elim fun ex W5=>W5.elim fun g q3=>?_) hs;subst ex;obtain rfl:u=Value.ref a:=rx;exact VV hu I3 g ry rv fun s4 I4=>⟨σ,H4,I4,q3⟩
end
theorem W6{P:Program}{w:World}{H:Hp}(h:Heap)(hb:sysModules<h.objs.size):bN P w H (h.push { cls:=.type "dict",data:=.dict #[] }) h.objs.size (.dK []):=
 ⟨cj _,gk.mpr (dQ (bH hb)),[],.nil,Heap.DictOf.new h⟩
theorem W7{P:Program}{w:World}{H:Hp}(h:Heap)(hb:sysModules<h.objs.size):bN P w H (h.push { cls:=.type "dict",data:=.dict #[] }) h.objs.size (.dT []):=
 ⟨cj _,gk.mpr (dQ (bH hb)),[],.nil,_,#[],0,dv _ rfl,⟨rfl,rfl,rfl⟩,rfl,rfl,lx⟩
def W8:TE:=fun _ H Q=>∀p,H p=none->Q (.ref p) (ak H p (.dK []))
def W9:TE:=fun _ H Q=>∀p,H p=none->Q (.ref p) (ak H p (.dT []))
section
variable {X:Cx} {pos:Pos}
theorem Xa:PE X (.Dict [] [] pos) W8:=fun pins s σ H Q I h=>
 wpAny_Dict_empty ⟨.ref s.heap.objs.size,_,I.laid (a:=s.heap.objs.size) (o:=.dK []) (t':=s.toks) (fun _ _ q=>bg _ q) (av _) (W6 s.heap I.big),rfl,h _ (I.hok.fresh (av _))⟩
theorem Xb:PE X (.Dict [] [] pos) W9:=fun pins s σ H Q I h=>
 wpAny_Dict_empty ⟨.ref s.heap.objs.size,_,I.laid (a:=s.heap.objs.size) (o:=.dT []) (t':=s.toks) (fun _ _ q=>bg _ q) (av _) (W7 s.heap I.big),rfl,h _ (I.hok.fresh (av _))⟩
end
structure M1(X:Cx)(o:Expr)(m:Str)(apos:Pos)(e:Expr)(dj:Pos):Prop where
 base:attributeBase o m X.env (eval o X.env)=eval o X.env
 few:((backTo dj (starEach [e] X.env)).all (fun x=>!x.1) && (backToKw dj (keywordEach [] X.env)).all (fun x=>x.1.isSome)
  && decide (([e]:List Expr).length+([]:List Keyword).length+(if ([]:List Keyword).isEmpty then 0 else 1)<30))=true
 line:(apos.endLine == dj.line)=true
 trees:backTo dj (starEach [e] X.env) = [(false,eval e X.env)]
structure M2(X:Cx)(o:Expr)(m:Str)(apos:Pos)(e f:Expr)(dj:Pos):Prop where
 base:attributeBase o m X.env (eval o X.env)=eval o X.env
 few:((backTo dj (starEach [e,f] X.env)).all (fun x=>!x.1) && (backToKw dj (keywordEach [] X.env)).all (fun x=>x.1.isSome)
  && decide (([e,f]:List Expr).length+([]:List Keyword).length+(if ([]:List Keyword).isEmpty then 0 else 1)<30))=true
 line:(apos.endLine == dj.line)=true
 trees:backTo dj (starEach [e,f] X.env) = [(false,eval e X.env),(false,eval f X.env)]
def xt(H:Hp)(a:Addr):Prop:=(∃kvs,Rd H a (.dK kvs))\/∃kvs,Rd H a (.dT kvs)
theorem Bi{X:Cx}{pins:Po}{σ:St}{H:Hp}{s:Shared}{a:Addr}(I:Inv X pins σ H s)(d:xt H a) :
 s.TypeIs (.ref a) "dict"/\(∀b,Value.ref a = .ref b->∃ob,s.heap.get? b=some ob/\ob.dict=none)/\(a == sysModules)=false:=by
 rcases d with⟨kvs,e⟩ | ⟨kvs,e⟩
 . obtain⟨_,hd,vs,_,dd⟩:=lK I.hok e;refine⟨dd.typeIs,fun b q=>?_,hd⟩;cases q;obtain⟨ob,_,_,h1,h2,_⟩:=dd;exact⟨ob,h1,h2.2.1⟩
 . obtain⟨_,hd,xs,_,dd⟩:=pj I.hok e;refine⟨dd.typeIs,fun b q=>?_,hd⟩;cases q;obtain⟨ob,_,_,h1,h2,_⟩:=dd;exact⟨ob,h1,h2.2.1⟩
section
variable {X:Cx} {pins:Po} {σ:St} {H:Hp} {s:Shared} {a:Addr} {y d:V} {u r:Value} {o:Option V} {A:Around} {E:VP}
theorem Xc{Q:VP}(hu:A.units+64<cLine)(I:Inv X pins σ H s)(g:cY H a y o)(ry:RelV y u)(h:∀w' s',Inv X pins σ H s'->RelV (o.getD .non) w'->Q w' s') :
 wpAny (model X.prog X.w) A (call (.builtin "dict.get") [.ref a,u]) Q E s:=by
 rcases g with⟨kvs,k,e,ey,l⟩ | ⟨kvs,k,b,e,ey,eb,l⟩
 . subst ey;obtain⟨z,hd,vs,rel,dd⟩:=lK I.hok e;refine tw OB dd.typeIs ajA (ajB _ _) (meets_dict_get (bM X.prog X.w) a (kI ry) hd) ⟨_,dd.mapOf,h _ _ (I.tok _) ?_⟩;rw[l];exact(rel.val k).getD rfl
 . subst ey;cases (show u=Value.ref b from ry);obtain⟨z,hd,xs,rel,dd⟩:=pj I.hok e;refine tw OB dd.typeIs ajA (ajB _ _) (meetsH_dict_get (oX X.prog X.w) a b hd) ⟨tJ hu,k,xs,rA I.hok eb,dd,h _ _ (I.tok _) ?_⟩;rw[l];exact(rel.val k).getD rfl
end
def Xd(td ty:TE):TE:=fun σ H Q=>td σ H fun x H1=>∃a,x = .ref a/\xt H1 a/\ty σ H1 fun y H2=>∃o,cY H2 a y o/\Q (o.getD .non) H2
def Xe(td ty:TE):TE:=fun σ H Q=>td σ H fun x H1=>∃a,x = .ref a/\xt H1 a/\ty σ H1 fun y H2=>∃kvs k v,H2 a=some (.dK kvs)/\y=kV k/\bK kvs k=some v/\Q v (ak H2 a (.dK (mZ kvs k)))
def Xf(td ty tx:TE):TE:=fun σ H Q=>td σ H fun x H1=>∃a,x = .ref a/\xt H1 a/\ty σ H1 fun y H2=>tx σ H2 fun z H3=>∃kvs k,H3 a=some (.dK kvs)/\y=kV k /\
 (∀v,bK kvs k=some v->Q v (ak H3 a (.dK (mZ kvs k))))/\(bK kvs k=none->Q z H3)
section
variable {X:Cx} {o e f:Expr} {apos dj:Pos} {td ty tx:TE}
theorem ub(hu:X.A.units+64<cLine)(ho:PE X o td)(he:PE X e ty)(m:M1 X o "get" apos e dj):PE X (.Call (.Attribute o "get" apos) [e] [] dj) (Xd td ty):=by
 intro pins s σ H Q I h;refine OC m.base m.few m.line FR OB PySem.F.type_dict_get (thn (ho pins s σ H _ I h) fun u s1 Xg=>Xg.elim fun x Xh=>Xh.elim fun H1 Xi=>Xi.elim fun I1 Xj=>Xj.elim fun rx Xk=>Xk.elim fun a Xl=>Xl.elim fun ex Xm=>Xm.elim fun d q1=>?_);subst ex;obtain rfl:u=Value.ref a:=rx;obtain⟨t1,t2,_⟩:=Bi I1 d;refine⟨t1,t2,?_⟩;rw[m.trees];refine Ak rfl (FP (Ag (thn (he pins s1 σ H1 _ I1 q1) fun iv s2 Xn=>Xn.elim fun y Xo=>Xo.elim fun H2 Xp=>Xp.elim fun I2 Xq=>Xq.elim fun ry Xr=>Xr.elim fun ov Xs=>Xs.elim fun g q2=>FF ?_)));exact Xc hu I2 g ry fun w' s3 I3 dZ=>⟨_,H2,I3,dZ,q2⟩
theorem Xt(ho:PE X o td)(he:PE X e ty)(m:M1 X o "pop" apos e dj):PE X (.Call (.Attribute o "pop" apos) [e] [] dj) (Xe td ty):=by
 intro pins s σ H Q I h;refine OC m.base m.few m.line FR FQ ajC (thn (ho pins s σ H _ I h) fun u s1 Xu=>Xu.elim fun x Xv=>Xv.elim fun H1 Xw=>Xw.elim fun I1 Xx=>Xx.elim fun rx Xy=>Xy.elim fun a Xz=>Xz.elim fun ex XA=>XA.elim fun d q1=>?_);subst ex;obtain rfl:u=Value.ref a:=rx;obtain⟨t1,t2,_⟩:=Bi I1 d;refine⟨t1,t2,?_⟩;rw[m.trees];refine Ak rfl (FP (Ag (thn (he pins s1 σ H1 _ I1 q1) fun iv s2 XB=>XB.elim fun y XC=>XC.elim fun H2 XD=>XD.elim fun I2 XE=>XE.elim fun ry XF=>XF.elim fun kvs XG=>XG.elim fun k XH=>XH.elim fun v XI=>XI.elim fun ea XJ=>XJ.elim fun ey XM=>XM.elim fun l q2=>FF ?_)));subst ey;exact HG I2 ea ry l (.inl rfl) fun w' s3 I3 dZ=>⟨v,_,I3,dZ,q2⟩
theorem XN(ho:PE X o td)(he:PE X e ty)(hf:PE X f tx)(m:M2 X o "pop" apos e f dj):PE X (.Call (.Attribute o "pop" apos) [e,f] [] dj) (Xf td ty tx):=by
 intro pins s σ H Q I h;refine OC m.base m.few m.line FR FQ ajC (thn (ho pins s σ H _ I h) fun u s1 XO=>XO.elim fun x XQ=>XQ.elim fun H1 XR=>XR.elim fun I1 XS=>XS.elim fun rx XT=>XT.elim fun a XU=>XU.elim fun ex XV=>XV.elim fun d q1=>?_);subst ex;obtain rfl:u=Value.ref a:=rx;obtain⟨t1,t2,_⟩:=Bi I1 d;refine⟨t1,t2,?_⟩;rw[m.trees];refine Ak rfl (FP (Ag (thn (he pins s1 σ H1 _ I1 q1) fun iv s2 XW=>XW.elim fun y XX=>XX.elim fun H2 XY=>XY.elim fun I2 XZ=>XZ.elim fun ry q2=>
  Ag (thn (hf pins s2 σ H2 _ I2 q2) fun fv s3 X2=>X2.elim fun z X3=>X3.elim fun H3 X4=>X4.elim fun I3 X5=>X5.elim fun rz X6=>X6.elim fun kvs X7=>X7.elim fun k X8=>X8.elim fun ea X9=>X9.elim fun ey Ya=>Ya.elim fun q3 q4=>FF ?_))))
 subst ey;cases l:bK kvs k with
 | some v=>exact HG I3 ea ry l (.inr ⟨fv,rfl⟩) fun w' s4 I4 dZ=>⟨v,_,I4,dZ,q3 v l⟩
 | none=>exact V2 I3 ea ry l fun s4 I4=>⟨z,H3,I4,rz,q4 l⟩
end
section
variable {X:Cx} {pins:Po} {σ:St} {H:Hp} {s:Shared} {a:Addr} {kvs:List (aF×V)} {A:Around} {E:VP}
theorem Yb{Q:VP}(I:Inv X pins σ H s)(e:Rd H a (.dK kvs))(h:∀p s',H p=none->Inv X pins σ (ak H p (.dK kvs)) s'->Q (.ref p) s'):wpAny (model X.prog X.w) A (call (.type "dict") [.ref a]) Q E s:=by
 obtain⟨z,hd,vs,rel,dd⟩:=lK I.hok e;refine kt_call_dict hd dd (by rw[←rel.length];exact z) fun h' fT hs=>?_;refine h _ _ (I.hok.fresh (av _)) (I.laid (a:=s.heap.objs.size) (o:=.dK kvs) (t':=s.toks) (fun b q hq=>?_) (av _) (tZ z (gk.mpr (dQ (bH I.big))) rel fT));exact(hs.2 b (bH (aT hq))).trans (bg _ hq)
end
section
variable {X:Cx} {pins:Po} {σ:St} {H:Hp} {s:Shared} {a:Addr} {y:V} {u:Value} {A:Around} {E:VP}
end
end L2
namespace Att
open PySem PySem.W PySem.Calls PyProof.Rows
theorem Yc{P:Params}{h:Heap}:∀(ns:List Int) (vs:Lw),WellAll P h vs (ns.map WData.int)->IntsAre vs ns:=by
 intro ns
 induction ns with
 | nil=>
  intro vs w;rw[Aj]at w;cases w;exact .nil
 | cons n ns ih=>
  intro vs w;rw[b9]at w;cases w with
  | cons a b=>
   cases a;exact .cons _ _ (ih _ b)
theorem Yd{l:OpenLaw}{n:Nat}(hn:l.most=some n){P:Params}{h:Heap}{args:List WData}{vals:Lw}
 (xu:l.row.toRowW.claim.pre args=true) (Bj:WellAll P h vals args) :
 ∃a vs ns,vals = [Value.ref a]/\args = [WData.list (ns.map WData.int)]/\h.get? a=some { cls:=.type "list",data:=.seq vs.toArray }/\IntsAre vs ns/\ns.length<=n:=by
 have Bk:WShape.hasAll [] args [.list .int]=true:=(pre_splitW xu).1;have hc:l.pre.holds [] { args:=args } = true:=(pre_splitW xu).2;obtain⟨d,r,rfl,h1,h2⟩:=hasAllW_cons Bk;obtain rfl:=hasAllW_nil h2;obtain⟨xs,rfl,h3⟩:=hasW_list h1;obtain⟨ns,rfl⟩:=items_int h3;have hlen:ns.length<=n:=by
  unfold OpenLaw.pre at hc;have h4:(WTm.not (.lt (.lit (.int (n:Int))) (.len (.arg 0)))).holds [] { args:=[.list (ns.map .int)] } = true:=by
   have h4:=(holds_andW hc).1;rw[hn]at h4;exact h4
  have h5:=condW_of h4 (w_not (w_lt w_lit (w_len_list (w_arg rfl))));rw[aw]at h5;refine wu fun q=>?_;have q':(n:Int)<((ns.length:Nat):Int):=by omega
  first
   | (rw[aL q']at h5;exact absurd h5 (by decide))
   | (simp at h5;omega)
 cases Bj with
 | cons w1 w2=>
  cases w2;cases w1 with
  | list ho jN=>exact⟨_,_,ns,rfl,rfl,ho,Yc ns _ jN,hlen⟩
theorem Ye(l:OpenLaw)(args:List WData):l.row.toRowW.claim.post args (.bool true) args=true:=
 postW_of (r:=l.row.toRowW) (X:=(true == true))
  (show WShape.has [] (.bool true) .bool=true by first | rfl | decide | simp[WShape.has,WShape.arms,WShape.armsAll])
  (show(WTm.eq .res (.lit (.bool true))).value [] { args:=args,res:=some (.bool true),after:=args } = some (.bool (true == true)) from w_eq_bool (w_res rfl) w_lit) rfl
theorem Yf{l:OpenLaw}{n:Nat}{q:Program}{loose:Ls}{XP:(Mv)->Heap->Prop}{YP:World->Heap->Prop}{d:DefRec}
 (hn:l.most=some n) (uc:d.params.defaults = [])
 (call:∀(w:World) (s₀ s₁:Shared) (mg mb:Mv) (fa:Addr) (o:Obj) (pm cd doc:Value) (a:Addr) (vs:Lw) (ns:List Int),
  Ground q loose [] XP w s₀ mg mb s₁.heap->YP w s₁.heap ->
  s₁.heap.get? fa=some o->o.data = .func (docDef d.name d.params d.body d.scope pm cd doc)->s₁.heap.CodeRec cd d.name->mg d.name=some (.ref fa) ->
  s₁.heap.get? a=some { cls:=.type "list",data:=.seq vs.toArray }->IntsAre vs ns->ns.length<=n->s₁.gens = #[] ->
  codeAny (model l.prog w) callerA (.call (.ref fa) ⟨[.ref a],[]⟩) (fun r s'=>r = .ok (.ret (.bool true))/\OldK s₁.heap s'.heap/\s'.os=s₁.os/\AllBare s'.gens) s₁) :
 WalkO q loose XP YP l.row.toRowW d [] (fun f vs=>PySem.call f vs):=by
 intro w s₀ s₁ mg mb G Y fa o pm cd doc dV kV ho hd iq hD ud hg args vals as xu aj2 hrd Bj rB;obtain rfl:dV = .none:=Dflts.none hD uc;obtain rfl:kV = .none:=Dflts.noKw hD;obtain⟨a,vs,ns,rfl,rfl,ue,hints,hlen⟩:=Yd hn xu Bj;refine enter_call (oP (call w s₀ s₁ mg mb fa o pm cd doc a vs ns G Y ho (fd_plain hd) iq ud ue hints hlen hg) fun r s' hq=>?_);obtain⟨rfl,h2,h3,h4⟩:=hq;exact⟨.inl ⟨.bool true,.bool true,[],rfl,fun _=>rfl,.bool true,Ye l _,fun _=>⟨List.Pairwise.nil,fun _ hm=>(nomatch hm)⟩⟩,h2,h3,h4⟩
section
variable {prog:Program} {w:World} {A:Around} {E:VP} {s:Shared} {K:Frag}
end
end Att
namespace L2
open PySem PySem.Spec PyProof.Rows
theorem HI:∀{vs:Lw} {ns:List Int},IntsAre vs ns->aH (ns.map V.int) vs
 | _,_,.nil=>.nil
 | _,_,.cons n t h=>.cons ⟨t,rfl⟩ (HI h)
def Bl(s:Stmt)(j:Nat):Stmt:=match s with
 | .ClassDef _ _ _ body _ _ _ _ _ _ _=>body.getD j (.Pass ⟨0,0,0,0⟩)
 | _=>.Pass ⟨0,0,0,0⟩
def f6(s:Stmt):Arguments:=match s with
 | .FunctionDef _ a _ _ _ _ _ _ _ _=>a
 | _=>{ posonlyargs:=[],args:=[],vararg:=none,kwonlyargs:=[],kw_defaults:=[],kwarg:=none,defaults:=[] }
def eQ(s:Stmt):List Stmt:=match s with
 | .FunctionDef _ _ b _ _ _ _ _ _ _=>b
 | _=>[]
def aS(s:Stmt):Scope:=match s with
 | .FunctionDef _ _ _ _ _ _ sc _ _ _=>sc
 | _=>{ kind:=.function,names:=[],isGenerator:=false,isCoroutine:=false }
abbrev aD:jk:=fun _ _ _ _ _ _=>False
abbrev E0:XK:=fun _ _ _=>False
theorem aK{X:Cx}:ri aD X E0:=fun _ _ _ _ _ _ _ h=>h.elim
structure au(K:Fg)(x qual:Str)(st:Stmt)(f:Addr)(fd:Fy):Prop where
 ex:∃(oc:Value) (od:Oa) (kV doc pm:Value) (an:Oa) (aE ct:Value) (iw:Array (Option Value)),
  fd=PySem.W.fnOf x qual (f6 st) (eQ st) (aS st) .none kV doc pm an aE ct/\K.lookup f=some ⟨oc,od,.func fd,iw⟩/\PySem.W.codeIn K aE qual=true
 kp:PySem.W.keepIn K (.ref f)=true
section
variable {P:Program} {w:World} {K:Fg} {mg:Mv} {base:Heap}
theorem au.ok{x qual:Str}{st:Stmt}{f:Addr}{fd:Fy}{N ps:Ls}{k:Nat}{sp:Sp}(F:au K x qual st f fd)(S:bO N ps (aS st))(len:∀vs H Q E,sp vs H Q E->vs.length=ps.length)
 (ph:∀(aE:Value) (A:Around) (outer:List Env) (s:Shared) (H:Hp) (vs:Lv) (Q:VK) (E:XK),cC k (A.deeper (envOfC qual (aS st) s.heap.objs.size f aE))->sp vs H Q E ->
  ∃t,dH (o9 aD P w K mg base N qual (aS st) f aE A outer s H E).nox (eQ st) t/\t { nx:=fun _ H'=>Q .non H',rt:=Q } (start N vs) H):aB P w K mg base aD (k+1) f fd ps sp:=by
 obtain⟨oc,od,kV,doc,pm,an,aE,ct,iw,rfl,lk,iq⟩:=F.ex;refine Hr lk iq S len fun A outer s H vs Q E hr kC=>?_;obtain⟨t,h,q⟩:=ph aE A outer s H vs Q E hr kC;exact⟨t,h.nox,q⟩
theorem au.binds{x qual:Str}{st:Stmt}{f:Addr}{fd:Fy}{ps:Ls}(F:au K x qual st f fd)
 (h:∀(kV doc pm:Value) (an:Oa) (aE ct:Value) (us:Lw),us.length=ps.length->bindArgs (PySem.W.fnOf x qual (f6 st) (eQ st) (aS st) .none kV doc pm an aE ct) ⟨us,[]⟩=pure (ps.zip us)):Binds K fd ps []:=by
 obtain⟨oc,od,kV,doc,pm,an,aE,ct,iw,rfl,lk,iq⟩:=F.ex;exact .all (h kV doc pm an aE ct)
theorem xv{x qual:Str}{st:Stmt}{f:Addr}{oc:Value}{od an:Oa}{iw:Array (Option Value)}{kV doc pm aE ct:Value}(l:K.lookup f=some ⟨oc,od,.func (PySem.W.fnOf x qual (f6 st) (eQ st) (aS st) .none kV doc pm an aE ct),iw⟩)
 (c:PySem.W.codeIn K aE qual=true) (k:PySem.W.keepIn K (.ref f)=true):au K x qual st f (PySem.W.fnOf x qual (f6 st) (eQ st) (aS st) .none kV doc pm an aE ct):=⟨⟨oc,od,kV,doc,pm,an,aE,ct,iw,rfl,l,c⟩,k⟩
end
theorem bp{n:Nat}(h:n<=1000):n<sizeLine:=FS h (by decide)
section
variable {X:Cx}
theorem pv(i:Nat){x:Str}{pos:Pos}(hN:X.N[i]? = some x:=by rfl)(hv:wV X.env.scope x:=by first | exact Or.inl rfl | exact Or.inr (Or.inl rfl) | exact Or.inr (Or.inr rfl))(hd:(x == ("__debug__":Str))=false:=by decide)
 (iq:(x == ("__classdict__":Str))=false:=by decide):PE X (.Name x pos) (qZ i):=Qa hN hv hd iq
theorem Yg:eP X (.builtin "len") (fun xs H Q=>∃a kvs,xs = [V.ref a]/\H a=some (.dK kvs)/\Q (.int kvs.length) H):=by
 intro pins s σ H xs us Q I r h;obtain⟨a,kvs,rfl,ha,q⟩:=h;obtain⟨u,rfl,ru⟩:=vals1 r;cases ru;exact V7 I (.inl ha) fun t s' I'=>⟨.int kvs.length,H,I',⟨t,rfl⟩,q⟩
end
theorem gX{A B:Prop}(h:B):if false=true then A else B:=by
 rw[af bB];exact h
theorem Bm{A B:Prop}(h:A):if true=true then A else B:=by
 rw[ai rfl];exact h
theorem bj{c A B:Prop}[Decidable c](h1:c->A)(h2:¬c->B):if c then A else B:=by
 by_cases h:c
 . rw[ai h];exact h1 h
 . rw[af h];exact h2 h
def ag(H H':Hp):Prop:=∀b o,H b=some o->H' b=some o
theorem ag.refl(H:Hp):ag H H:=fun _ _ h=>h
theorem ag.trans{H H1 H2:Hp}(a:ag H H1)(b:ag H1 H2):ag H H2:=fun c o h=>b c o (a c o h)
theorem ag.free{H H':Hp}(e:ag H H'){l:Addr}(h:H' l=Option.none):H l=Option.none:=by
 cases q:H l with
 | none=>rfl
 | some o=>
  rw[e l o q]at h;cases h
theorem ag.seq{K:Fg}{H H':Hp}{a:Addr}{xs:Lv}(e:ag H H')(h:ae K H a xs):ae K H' a xs:=by
 rcases h with(h | ⟨o,h⟩) | h
 . exact .inl (.inl (e _ _ h))
 . exact .inl (.inr ⟨o,e _ _ h⟩)
 . exact .inr h
section
variable {κ:Type} [DecidableEq κ]
theorem Yh{kvs:List (κ×V)}{k:κ}{v:V}(h:bK kvs k=some v):k∈kvs.map (·.1):=by
 have q:(kvs.any fun kv=>decide (kv.1=k))=true:=by
  rw[rp,h]
  all_goals rfl
 obtain⟨p,hp,e⟩:=qO.mp q;exact bC.mpr ⟨p,hp,b0 e⟩
end
section
variable {K:Fg}
theorem aj4 {us : Lw} {n : Nat} (h : us.length = n + 1) : ∃ u r, us = u :: r ∧ r.length = n := by
  cases us with
  | nil=>cases h
  | cons u r=>exact⟨u,r,rfl,Nat.succ.inj h⟩
theorem Yi{us:Lw}{l:Ls}(hl:l.length=1)(h:us.length=l.length):∃u0,us = [u0]:=by
 rw[hl]at h
 match us,h with
 | [u0],_=>exact⟨u0,rfl⟩
theorem au.binds1{x qual:Str}{st:Stmt}{f:Addr}{fd:Fy}{l:Ls}(F:au K x qual st f fd)
 (h:∀(kV doc pm:Value) (an:Oa) (aE ct u0:Value),bindArgs (PySem.W.fnOf x qual (f6 st) (eQ st) (aS st) .none kV doc pm an aE ct) ⟨[u0],[]⟩=pure (l.zip [u0])) (hl:l.length=1:=by rfl):Binds K fd l []:=
 F.binds (ps:=l) fun kV doc pm an aE ct us e=>by
  obtain⟨u0,rfl⟩:=Yi hl e;exact h kV doc pm an aE ct u0
theorem Yj{us:Lw}{l:Ls}(hl:l.length=2)(h:us.length=l.length):∃u0 u1,us = [u0,u1]:=by
 rw[hl]at h
 match us,h with
 | [u0,u1],_=>exact⟨u0,u1,rfl⟩
theorem au.binds2{x qual:Str}{st:Stmt}{f:Addr}{fd:Fy}{l:Ls}(F:au K x qual st f fd)
 (h:∀(kV doc pm:Value) (an:Oa) (aE ct u0 u1:Value),bindArgs (PySem.W.fnOf x qual (f6 st) (eQ st) (aS st) .none kV doc pm an aE ct) ⟨[u0,u1],[]⟩=pure (l.zip [u0,u1])) (hl:l.length=2:=by rfl):Binds K fd l []:=
 F.binds (ps:=l) fun kV doc pm an aE ct us e=>by
  obtain⟨u0,u1,rfl⟩:=Yj hl e;exact h kV doc pm an aE ct u0 u1
theorem Yk{us:Lw}{l:Ls}(hl:l.length=3)(h:us.length=l.length):∃u0 u1 u2,us = [u0,u1,u2]:=by
 rw[hl]at h
 match us,h with
 | [u0,u1,u2],_=>exact⟨u0,u1,u2,rfl⟩
theorem au.binds3{x qual:Str}{st:Stmt}{f:Addr}{fd:Fy}{l:Ls}(F:au K x qual st f fd)
 (h:∀(kV doc pm:Value) (an:Oa) (aE ct u0 u1 u2:Value),bindArgs (PySem.W.fnOf x qual (f6 st) (eQ st) (aS st) .none kV doc pm an aE ct) ⟨[u0,u1,u2],[]⟩=pure (l.zip [u0,u1,u2])) (hl:l.length=3:=by rfl):Binds K fd l []:=
 F.binds (ps:=l) fun kV doc pm an aE ct us e=>by
  obtain⟨u0,u1,u2,rfl⟩:=Yk hl e;exact h kV doc pm an aE ct u0 u1 u2
theorem Yl{us:Lw}{l:Ls}(hl:l.length=4)(h:us.length=l.length):∃u0 u1 u2 u3,us = [u0,u1,u2,u3]:=by
 rw[hl]at h
 match us,h with
 | [u0,u1,u2,u3],_=>exact⟨u0,u1,u2,u3,rfl⟩
theorem au.binds4{x qual:Str}{st:Stmt}{f:Addr}{fd:Fy}{l:Ls}(F:au K x qual st f fd)
 (h:∀(kV doc pm:Value) (an:Oa) (aE ct u0 u1 u2 u3:Value),bindArgs (PySem.W.fnOf x qual (f6 st) (eQ st) (aS st) .none kV doc pm an aE ct) ⟨[u0,u1,u2,u3],[]⟩=pure (l.zip [u0,u1,u2,u3])) (hl:l.length=4:=by rfl):Binds K fd l []:=
 F.binds (ps:=l) fun kV doc pm an aE ct us e=>by
  obtain⟨u0,u1,u2,u3,rfl⟩:=Yl hl e;exact h kV doc pm an aE ct u0 u1 u2 u3
theorem Ym{us:Lw}{l:Ls}(hl:l.length=8)(h:us.length=l.length):∃u0 u1 u2 u3 u4 u5 u6 u7,us = [u0,u1,u2,u3,u4,u5,u6,u7]:=by
 rw[hl]at h
 match us,h with
 | [u0,u1,u2,u3,u4,u5,u6,u7],_=>exact⟨u0,u1,u2,u3,u4,u5,u6,u7,rfl⟩
theorem au.binds8{x qual:Str}{st:Stmt}{f:Addr}{fd:Fy}{l:Ls}(F:au K x qual st f fd)
 (h:∀(kV doc pm:Value) (an:Oa) (aE ct u0 u1 u2 u3 u4 u5 u6 u7:Value),bindArgs (PySem.W.fnOf x qual (f6 st) (eQ st) (aS st) .none kV doc pm an aE ct) ⟨[u0,u1,u2,u3,u4,u5,u6,u7],[]⟩=pure (l.zip [u0,u1,u2,u3,u4,u5,u6,u7])) (hl:l.length=8:=by rfl):Binds K fd l []:=
 F.binds (ps:=l) fun kV doc pm an aE ct us e=>by
  obtain⟨u0,u1,u2,u3,u4,u5,u6,u7,rfl⟩:=Ym hl e;exact h kV doc pm an aE ct u0 u1 u2 u3 u4 u5 u6 u7
end
end L2
set_option maxHeartbeats 4000000
namespace L2
open PySem PySem.Spec PyProof.Rows
theorem jp{H:Hp}{p:Addr}{o:HO}(h:H p=none):ag H (ak H p o):=fun b u e=>by
 rw[a8 (bv e h)];exact e
theorem m6{H0 H:Hp}{p:Addr}{o:HO}(s:ag H0 H)(h:H0 p=none):ag H0 (ak H p o):=fun b u e=>by
 rw[a8 (bv e h)];exact s b u e
theorem Yn{K:Fg}{H H':Hp}{a:Addr}{xs:Lv}(e:ag H H')(h:aI K H a xs):aI K H' a xs:=by
 rcases h with(h | ⟨o,h⟩) | h
 . exact .inl (.inl (e _ _ h))
 . exact .inl (.inr ⟨o,e _ _ h⟩)
 . exact .inr h
abbrev dk (x:Str):Prop:=PyData.strOk x=true
theorem uf{x:Str}:dk x↔∀c∈x.cps.toList,c<0x110000:=by
 unfold dk PyData.strOk;rw[Array.all_eq_true'];simp
theorem HJ{x y:Str}(hx:dk x)(hy:dk y):dk (x++y):=by
 rw[uf]at *;intro c hc;have e:(x++y).cps.toList=x.cps.toList++y.cps.toList:=by
  show(x.cps++y.cps).toList=_;simp
 rw[e,cU]at hc;exact hc.elim (hx c) (hy c)
theorem Bn{c:Nat}(h:c<0x110000):dk ⟨#[c]⟩:=by
 rw[uf];intro d hd;have e:d=c:=by simpa using hd
 rw[e];exact h
theorem Yo(x y:Str):(x++y).length=x.length+y.length:=by
 show(x.cps++y.cps).size=_;rw[Array.size_append];rfl
theorem Yp(c:Nat):(⟨#[c]⟩:Str).length=1:=rfl
section
variable {X:Cx}
theorem HK:eP X (.builtin "isinstance") (fun xs H Q=>∃x t c b,xs = [x,.ty c]/\iR X.K H x t/\PySem.W.kitOne X.K t (.type c)=some b/\Q (.bl b) H):=by
 intro pins s σ H xs us Q I r h;obtain⟨x,t,c,b,rfl,ty,e,q⟩:=h;obtain⟨u,u2,rfl,r1,r2⟩:=vals2 r;cases (show u2=Value.type c from r2);exact Tt I r1 ty e fun tk=>⟨.bl b,H,I.tok tk,rfl,q⟩
end
end L2
namespace HT
open PySem PyProof.Rows
theorem Yq(A:Around)(s:Shared)(a:Int)(t:Tok)(c:Int)(u:Tok)(prog:Program)(w:World)(E:VP)(Q:VP)(h:Q (.bool (decide (c<=a))) s) :
 wpAny (model prog w) A (richCompare .GtE (.int a t) (.int c u)) Q E s:=
 (PyProof.Rows.ge_int h:wpAny (model prog w) A (compareOp .GtE (.int a t) (.int c u)) Q E s)
section
open PySem.SeqAt
open PySem.AutoSeq1 (wpAny_loadPart')
open PySem.MeetsSeq PySem.MeetsSeq2 PySem.MeetsSeq3
theorem Yr(l b:Addr)(items aZ:Av)(n n2:Nat)(dd bU:Oa)(sl bV:Array (Option Value))(ns ms:List Int)(hi:IntsAre items.toList ns)(hj:IntsAre aZ.toList ms) :
 Meets (Builtin.«tuple.__ge__» ⟨[.ref l,.ref b],[]⟩)
  (fun _ R s=>s.heap.get? l=some { cls:=.type "tuple",dict:=dd,data:=.seq items n,slots:=sl }/\s.heap.get? b=some { cls:=.type "tuple",dict:=bU,data:=.seq aZ n2,slots:=bV } /\
   R (.ok (.ret (.bool (!lexLt ns ms)))) s):=
 .of_wp fun prog w A R s h=>by
  obtain⟨hp,g,d,tk,os⟩:=s;obtain⟨hl,hb,h⟩:=h;have f2:=FK;have z1:items.size=ns.length:=by rw[←hi.length];simp
  have z2:aZ.size=ms.length:=by rw[←hj.length];simp
  wp_walk using wpAny_loadPart' hl,wpAny_loadPart' hb,mF _ (fun rest b s'=>b.1=none/\s'=⟨hp,g,d,tk,os⟩/\∃(vs ws:Lw) (eX eY:List Int),rest=vs.zip ws /\
   IntsAre vs eX/\IntsAre ws eY/\eX.length+aZ.size=eY.length+items.size/\R (.ok (.ret (.bool (!lexLt eX eY)))) ⟨hp,g,d,tk,os⟩) _
  case turn=>
   rintro⟨y,x⟩ rest b s' ⟨dW,rfl,vs,ws,eX,eY,hz,jR,ix,hlen,hR⟩;cases jR with
   | nil=>rw[FL]at hz;cases hz
   | cons a t tU=>
    cases ix with
    | nil=>rw[FM]at hz;cases hz
    | cons c u tV=>
     rw[lq]at hz;injection hz with hyx kD
     injection hyx with hy hx
     subst hy hx;rw[A2]at hR;simp only[bu]at hlen;obtain⟨e,he,mX⟩:=xm A.in1 ⟨hp,g,d,tk,os⟩ a t c u;refine ac (he prog w _ _ ?_);cases e with
     | true=>
      rw[ai (mX.mp rfl)]at hR
      wp_walk
      exact⟨rfl,rfl,_,_,_,_,kD,tU,tV,by omega,hR⟩
     | false=>
      have bt:a≠c:=fun q=>absurd (mX.mpr q) bB;rw[af bt]at hR;have lI:=Yq A.in1 ⟨hp,g,d,tk,os⟩ a t c u prog w;have eb:(!decide (a<c))=decide (c<=a):=by
       by_cases q:a<c
       . rw[aL q,aU (by omega)];rfl
       . rw[aU q,aL (by omega)];rfl
      rw[eb]at hR
      wp_walk using lI
      exact⟨_,rfl,by simpa using hR⟩
  case fin=>
   rintro⟨b1,b2⟩ s' ⟨dW,rfl,vs,ws,eX,eY,hz,jR,ix,hlen,hR⟩;simp only at dW;subst dW;have hv:(!lexLt eX eY)=decide (aZ.size<=items.size):=by
    cases jR with
    | nil=>
     cases ix with
     | nil=>
      simp only[je]at hlen;rw[A3];exact(aL (by omega)).symm
     | cons c u hw=>
      simp only[je,bu]at hlen;rw[A4];exact(aU (by omega)).symm
    | cons a t hv=>
     cases ix with
     | nil=>
      simp only[je,bu]at hlen;rw[A5];exact(aL (by omega)).symm
     | cons c u hw=>
      rw[lq]at hz;cases hz
   rw[hv]at hR
   wp_walk
   exact⟨_,rfl,by simpa [Builtin.Tuple.tupleCompareSizes]using hR⟩
  case h=>
   exact⟨rfl,rfl,items.toList,aZ.toList,ns,ms,rfl,hi,hj,by omega,h⟩
end
section
variable {prog:Program} {w:World} {A:Around} {E:VP} {s:Shared}
theorem Ys{l b:Addr}{items aZ:Av}{ns ms:List Int}{Q:VP}(hl:IsTup s.heap l items)(hb:IsTup s.heap b aZ)(hi:IntsAre items.toList ns)(hj:IntsAre aZ.toList ms)
 (hu:A.units<cLine) (h:Q (.bool (!lexLt ns ms)) s):wpAny (model prog w) A (compareOp .GtE (.ref l) (.ref b)) Q E s:=by
 obtain⟨⟨cls,dd,data,sl⟩,ho,hc,n,hd⟩:=id hl;obtain⟨⟨rl,bU,data2,bV⟩,dY,bW,n2,hd2⟩:=id hb;simp only at hc hd bW hd2;subst hc hd bW hd2;exact Ai (op:=.GtE) ⟨_,ho,rfl⟩ ⟨_,dY,rfl⟩ PySem.F.slot_tuple_ge PySem.F.entry_tuple_ge (PySem.F.args_tuple_ge_2 _ _) (Yr l b items aZ n n2 dd bU sl bV ns ms hi hj)
  ⟨ho,dY,show Value.bool (!lexLt ns ms)≠Value.notImplemented/\Q (.bool (!lexLt ns ms)) s from ⟨(fun x=>nomatch x),h⟩⟩ hu
end
end HT
namespace L2
open PySem PySem.Spec PyProof.Rows
section
variable {X:Cx}
def Yt(K:Fg):R2:=fun x y H Q=>∃a b ns ms,x = .ref a/\y = .ref b/\aI K H a (ns.map V.int)/\aI K H b (ms.map V.int)/\Q (.bl (!HT.lexLt ns ms)) H
theorem Yu(hu:X.A.units<cLine):bw X (compareOp .GtE) (Yt X.K):=by
 intro pins s σ H x y v u Q I rx ry h;obtain⟨a,b,ns,ms,rfl,rfl,ha,hb,q⟩:=h;cases rx;cases ry;obtain⟨its,r,p,_⟩:=I.tuple ha;obtain⟨iS,r2,p2,_⟩:=I.tuple hb;exact HT.Ys p p2 (by simpa using intsAre_of r) (by simpa using intsAre_of r2) hu ⟨.bl _,H,I,rfl,q⟩
end
mutual
inductive DV (K:Fg) (H:Hp):V->PySem.W.Dat->Prop
 | non:DV K H .non .none
 | int (i:Int):DV K H (.int i) (.int i)
 | str (x:Str):DV K H (.str x) (.str x)
 | tup {a:Addr} {xs:Lv} {ds:List PySem.W.Dat}:aI K H a xs->jq K H xs ds->DV K H (.ref a) (.tuple ds)
 | lst {a:Addr} {xs:Lv} {ds:List PySem.W.Dat}:ae K H a xs->jq K H xs ds->DV K H (.ref a) (.list ds)
inductive jq (K:Fg) (H:Hp):Lv->List PySem.W.Dat->Prop
 | nil:jq K H [] []
 | cons {x:V} {d:PySem.W.Dat} {xs:Lv} {ds:List PySem.W.Dat}:DV K H x d->jq K H xs ds->jq K H (x::xs) (d::ds)
end
theorem Bo{K:Fg}{H:Hp}:∀ns:List Int,jq K H (ns.map V.int) (ns.map PySem.W.Dat.int)
 | []=>.nil
 | n::ns=>.cons (.int n) (Bo ns)
theorem HL{K:Fg}{H:Hp}:∀xs:Ls,jq K H (xs.map V.str) (xs.map PySem.W.Dat.str)
 | []=>.nil
 | n::ns=>.cons (.str n) (HL ns)
section
variable {X:Cx} {pins:Po} {σ:St} {H:Hp} {s:Shared}
mutual
theorem DV.reads(I:Inv X pins σ H s):∀{x:V} {d:PySem.W.Dat} {u:Value},DV X.K H x d->RelV x u->∃as,Reads s.heap u (PySem.W.kqdP d) as
 | _,_,_,.non,r=>by cases r;exact⟨_,Reads.none⟩
 | _,_,_,.int i,r=>by obtain⟨t,rfl⟩:=r;exact⟨_,Reads.int i t⟩
 | _,_,_,.str x,r=>by obtain⟨t,rfl⟩:=r;exact⟨_,Reads.str x t⟩
 | _,_,_,.tup h q,r=>by
  cases r;obtain⟨its,rv,⟨o,e,c,n,d⟩,_⟩:=I.tuple h;obtain⟨as,z⟩:=jq.reads I q rv;rw[PySem.W.kqdP];exact⟨as,reads_tuple_at e c d (by simpa using z)⟩
 | _,_,_,.lst h q,r=>by
  cases r;obtain⟨its,rv,⟨o,n,e,c,_,d⟩,_⟩:=I.list h;obtain⟨as,z⟩:=jq.reads I q rv;rw[PySem.W.kqdP];exact⟨_,reads_list_at e c d (by simpa using z)⟩
theorem jq.reads(I:Inv X pins σ H s):∀{xs:Lv} {ds:List PySem.W.Dat} {us:Lw},jq X.K H xs ds->aH xs us->∃as,ReadsAll s.heap us (PySem.W.kqdPs ds) as
 | _,_,_,.nil,.nil=>⟨_,ReadsAll.nil⟩
 | _,_,_,.cons q qs,.cons r rs=>by
  obtain⟨as,z⟩:=DV.reads I q r;obtain⟨bs,y⟩:=jq.reads I qs rs;rw[PySem.W.kqdPs];exact⟨_,ReadsAll.cons z y⟩
end
end
theorem m7{d:PySem.W.Dat}(h:PySem.W.kqdOk 9 d=true):SeqAt.shaped (PySem.W.kqdP d)=true:=by
 have l:=PySem.W.kqd_lay 9 d h;unfold SeqAt.shaped;rw[l.1,oQ];exact aL (bn l.2 (by decide))
section
variable {X:Cx}
theorem xw(hu:X.A.units+64<cLine):bw X (compareOp .Eq) (fun x y H Q=>∃d e,DV X.K H x d/\DV X.K H y e/\PySem.W.kqdOk 9 d=true/\PySem.W.kqdOk 9 e=true/\∀b:Bool,(b=true↔d=e)->Q (.bl b) H):=by
 intro pins s σ H x y v u Q I rx ry h;obtain⟨d,e,hd,he,od,oe,q⟩:=h;obtain⟨as,ra⟩:=hd.reads I rx;obtain⟨bs,rb⟩:=he.reads I ry;exact eq_dataH ra rb (m7 od) (m7 oe) hu ⟨.bl _,H,I,rfl,q _ (FT 9 d e 9 od oe)⟩
theorem HM(hu:X.A.units+64<cLine):bw X (compareOp .NotEq) (fun x y H Q=>∃d e,DV X.K H x d/\DV X.K H y e/\PySem.W.kqdOk 9 d=true/\PySem.W.kqdOk 9 e=true/\∀b:Bool,(b=true↔d=e)->Q (.bl (!b)) H):=by
 intro pins s σ H x y v u Q I rx ry h;obtain⟨d,e,hd,he,od,oe,q⟩:=h;obtain⟨as,ra⟩:=hd.reads I rx;obtain⟨bs,rb⟩:=he.reads I ry;exact ne_dataH ra rb (m7 od) (m7 oe) hu ⟨.bl _,H,I,rfl,q _ (FT 9 d e 9 od oe)⟩
end
section
variable {X:Cx} {st:Stmt} {rest:List Stmt} {t u:TS}
def Yv(M:St->Hp->Prop)(t u:TS):TS:=fun D σ H=>t { D with nx:=M } σ H/\∀σ' H',M σ' H'->u D σ' H'
theorem Bp(M:St->Hp->Prop)(h1:PS X st t)(h2:dH X rest u):dH X (st::rest) (Yv M t u):=by
 intro pins s σ H D I h;refine Ou (thn (h1 pins s σ H { D with nx:=M } I h.1) fun f s1 q=>?_);cases f with
 | next=>
  obtain⟨σ',H',I',q⟩:=q;exact h2 pins s1 σ' H' D I' (h.2 σ' H' q)
 | ret v=>exact q
 | brk=>exact q
 | cont=>exact q
end
theorem Bq{H:Hp}{p t:Addr}{o:HO}(h:ak H p o t=none):t≠p/\H t=none:=by
 by_cases e:t=p
 . subst e;rw[bc]at h;cases h
 . exact⟨e,by rw[a8 e]at h;exact h⟩
theorem fit{a b:Str}(ha:a.length<=100)(hb:b.length<=100):a.length+b.length<=sizeLine:=gK (bp (by omega))
theorem Br{a:Str}(ha:a.length<=100):a.length<=sizeLine:=gK (bp (by omega))
theorem xx{α:Type}{xs:List α}{r:Int}(h0:0<=r)(h1:r<xs.length):∃v,bF xs r=some v/\xs[r.toNat]? = some v:=by
 obtain⟨n,rfl⟩:∃n:Nat,r=n:=⟨r.toNat,by omega⟩;have hn:n<xs.length:=by omega
 have e:xs[n]? = some (xs[n]'hn):=by simp
 exact⟨_,kE e,by simpa using e⟩
theorem HN{ns:List Int}{r:Int}(h0:0<=r)(h1:r<ns.length):∃z,bF (ns.map V.int) r=some (V.int z)/\ns[r.toNat]? = some z:=by
 obtain⟨v,e,e2⟩:=xx (xs:=ns.map V.int) h0 (by rw[aw];exact h1);rw[bT]at e2;cases q:ns[r.toNat]? with
 | none=>rw[q]at e2;cases e2
 | some z=>
  rw[q]at e2;cases e2;exact⟨z,e,rfl⟩
def cG(K:Fg)(mg:Mv)(x:Str)(st:Stmt):Prop:=∃f fd,mg x=some (.ref f)/\au K x x st f fd/\PySem.W.keepIn K (.ref f)=true
theorem cM{K:Fg}{h:Heap}{mg:Mv}{x:Str}{st:Stmt}{f:Addr}{od an:Oa}{sl:Array (Option Value)}{oc kV dc pm cd ct:Value}(X:K.In h)(G:h.Ns mainGlobals mg)
 (a:PySem.W.nsIn K mainGlobals x=some (some (.ref f))) (l:K.lookup f=some ⟨oc,od,.func (PySem.W.fnOf x x (f6 st) (eQ st) (aS st) .none kV dc pm an cd ct),sl⟩) (c:PySem.W.codeIn K cd x=true) (k:PySem.W.keepIn K (.ref f)=true) :
 cG K mg x st:=⟨f,_,FU X G a,xv l c k,k⟩
abbrev HP (ifs:List Expr) (env:Env):Sem Bool:=
 forIn ifs true fun c r=>if r=true then do let ok ←isTrue c env (eval c env);pure (ForInStep.yield ok) else pure (ForInStep.yield r)
def jr(X:Cx)(ifs:List Expr)(t:TT):Prop:=
 ∀(pins:Po) (s:Shared) (σ:St) (H:Hp) (Q:Bool->Hp->Prop),Inv X pins σ H s->t σ H Q->wpAny (model X.prog X.w) X.A (HP ifs X.env) (TP X pins σ Q) X.xe s
def rC:TT:=fun _ H Q=>Q true H
theorem jt{X:Cx}:jr X [] rC:=fun _ _ _ H _ I h=>wpAny_tests_nil ⟨H,I,h⟩
theorem f7{X:Cx}{c:Expr}{t:TT}(h:PT X c t):jr X [c] t:=fun pins s σ H Q I q=>wpAny_tests_one (h pins s σ H Q I q)
section
variable {prog:Program} {w:World} {A:Around} {R:Result->Shared->Prop} {s:Shared}
theorem Yw{elt target iter:Expr}{ifs:List Expr}{scope:Scope}{pos:Pos}{it acc:Value}{env:Env}(I:Nat->Shared->Prop)
 (turn:∀n s,I n s->wpAny (model prog w) A (pyNext it) (fun r s₁=>match r with
  | none=>R (.ok .next) s₁
  | some v=>wpAny (model prog w) A (letOwnedTupleGo target it v) (fun _ s₀=>wpAny (model prog w) A (assign target env v) (fun _ s₂=>
   wpAny (model prog w) A (HP ifs env) (fun ok s₃=>
    if ok=true then wpAny (model prog w) A (eval elt env) (fun x s₄=>
     wpAny (model prog w) A (call (.builtin "list.append") [acc,x]) (fun _ s₅=>∃m,m<n/\I m s₅) (notedBy (model prog w) A env fun e s'=>R (.error e) s') s₄) (notedBy (model prog w) A env fun e s'=>R (.error e) s') s₃
    else∃m,m<n/\I m s₃) (notedBy (model prog w) A env fun e s'=>R (.error e) s') s₂) (notedBy (model prog w) A env fun e s'=>R (.error e) s') s₀) (notedBy (model prog w) A env fun e s'=>R (.error e) s') s₁) (notedBy (model prog w) A env fun e s'=>R (.error e) s') s)
 (n:Nat) (h:I n s):codeAny (model prog w) A (.compLoop (.ListComp elt [⟨target,iter,ifs,0⟩] scope pos) 0 it acc env) R s:=by
 refine codeAny_loop rfl I (fun n s hI=>?_) n h;show wpAny _ A ((compTurn (.ListComp elt [⟨target,iter,ifs,0⟩] scope pos) 0 it acc env).onRaise (fun x=>do noteFrame x env;theTreesLotGoes x)) _ _ s;refine wpAny_noted ?_;rw[compTurn_list];refine ac (Ox (ac (df (turn n s hI) (fun r s₁ h₁=>?_) fun _ _ h'=>h')));cases r with
 | none=>exact aj h₁
 | some v=>
  refine ac (df h₁ (fun _ s₀ h₀=>?_) fun _ _ h'=>h');refine ac (df h₀ (fun _ s₂ h₂=>ac (df h₂ (fun ok s₃ h₃=>?_) fun _ _ h'=>h')) fun _ _ h'=>h');cases ok with
  | false=>exact aj ⟨rfl,h₃⟩
  | true=>
   exact ac (ac (df h₃ (fun x s₄ h₄=>ac (df h₄ (fun _ s₅ h₅=>aj (aj ⟨rfl,h₅⟩)) fun _ _ h'=>h')) fun _ _ h'=>h'))
end
theorem Yx{P:Program}{w:World}{H:Hp}{h1 h2:Heap}{C:Addr}(ok:b7 P w H h1)(sb:Heap.SameBut C h1 h2)(hn:H C=none):b7 P w H h2:=fun b ob e=>by
 refine(ok b ob e).stay (fun c w' hc q=>(sb.2 c ?_).trans q) (fun _ q=>q) fun _ _ q=>q;rintro rfl
 rcases hc with rfl | hc
 . rw[hn]at e;cases e
 . rw[hn]at hc;cases hc
def kJ(J:It)(g:TG)(tt:TT)(te:TE)(D:Addr)(Qd:Hp->Prop)(W:Nat->Nat->St->Hp->Prop):Prop:=
 ∀i m σ H,W i m σ H->(J.stop i H/\Qd H)\/(J.go i H/\∀x H2,J.yld i H x H2->g x σ H2 fun σ3 H3=>tt σ3 H3 fun ok H4=>
  if ok=true then te σ3 H4 fun y H5=>∃ys,H5 D=some (.lst ys)/\ys.length<sizeLine/\∃m',m'<m/\W (i+1) m' σ3 (ak H5 D (.lst (ys++[y])))
  else∃m',m'<m/\W (i+1) m' σ3 H4)
section
variable {X:Cx} {pins:Po} {σ:St} {H3:Hp} {s3:Shared}
end
def cH(env:Env):List (Str×NameKind)->List (Str×Addr)->List (Str×Addr)
 | [],cs=>cs
 | (n,k)::r,cs=>if k = .free then cH env r ((n,(env.cells.lookup n).getD 0)::cs) else cH env r cs
theorem HQ{scope:Scope}{env:Env}(h:∀y∈scope.names,y.2 = .free->∃c,env.cells.lookup y.1=some c):closureFor scope env=pure (cH env scope.names []):=by
 unfold closureFor;generalize scope.names=l at h;have go:∀(l:List (Str×NameKind)) (cs:List (Str×Addr)),(∀y∈l,y.2 = .free->∃c,env.cells.lookup y.1=some c) ->
  (forIn l cs fun(x:Str×NameKind) (r:List (Str×Addr))=>(if (x.2 == .free)=true then do let y ←cellOf env x.1;pure (ForInStep.yield ((x.1,y)::r)) else pure (ForInStep.yield r):Sem (ForInStep (List (Str×Addr)))))=pure (cH env l cs):=by
  intro l
  induction l with
  | nil=>intro cs _;rfl
  | cons x l ih=>
   intro cs h;obtain⟨n,k⟩:=x;rw[List.forIn_cons]
   by_cases e:k = .free
   . subst e;obtain⟨c,hc⟩:=h _ cS rfl;have hc:env.cells.lookup n=some c:=hc;have e1:cellOf env n=pure c:=by unfold cellOf;rw[hc]
     simp only[e1,cH,hc,sW,Option.getD_some,wv,pure_bind];exact ih _ fun y hy=>h y (cT _ hy)
   . have e':(k == NameKind.free)=false:=by simpa using e
     simp only[e',cH,e,ii,jd,pure_bind];exact ih _ fun y hy=>h y (cT _ hy)
 have:=go l [] h;simpa using this
theorem xy{env:Env}:∀{l:List (Str×NameKind)} {cs:List (Str×Addr)} {x:Str} {c:Addr},(∀y∈l,y.2 = .free->∃c,env.cells.lookup y.1=some c)->(∀x c,cs.lookup x=some c->env.cells.lookup x=some c) ->
 (cH env l cs).lookup x=some c->env.cells.lookup x=some c
 | [],_,_,_,_,hc,e=>hc _ _ e
 | (n,k)::l,cs,x,c,h,hc,e=>by
  unfold cH at e;have h':∀y∈l,y.2 = .free->∃c,env.cells.lookup y.1=some c:=fun y hy=>h y (cT _ hy);split at e
  . refine xy h' (fun z d hz=>?_) e;rename_i hk;rw[ik]at hz;split at hz
    . rename_i q;obtain⟨d',hd⟩:=h (n,k) cS hk;have hd:env.cells.lookup n=some d':=hd;have:z=n:=by simpa using q
      subst this;rw[hd]at hz ⊢;exact hz
    . exact hc _ _ hz
  . exact xy h' hc e
theorem Bt{env:Env}:∀{l:List (Str×NameKind)} {cs:List (Str×Addr)} {x:Str},(cs.lookup x).isSome=true->((cH env l cs).lookup x).isSome=true
 | [],_,_,h=>h
 | (n,k)::l,cs,x,h=>by
  unfold cH;split
  . refine Bt ?_;rw[ik];split
    . rfl
    . exact h
  . exact Bt h
theorem xz{env:Env}{x:Str}:∀{l:List (Str×NameKind)} {cs:List (Str×Addr)},(x,NameKind.free)∈l->((cH env l cs).lookup x).isSome=true
 | (n,k)::l,cs,h=>by
  unfold cH
  rcases bh.mp h with e | e
  . cases e;rw[ai rfl];refine Bt ?_;rw[ik];simp
  . split
    . exact xz e
    . exact xz e
def cO(X:Cx)(N:Ls)(sc:Scope)(s₀:Shared)(H₀:Hp)(C:Addr)(ex:List Addr):Cx where
 prog:=X.prog
 w:=X.w
 K:=X.K
 mg:=X.mg
 base:=X.base
 A:=X.A
 N:=N
 s₀:=s₀
 H₀:=H₀
 env:=compEnvC sc (cH X.env sc.names []) C X.env
 outer:=X.stack
 stack:=X.stack
 ex:=ex
 fn:=fun _=>false
 calm:=X.calm
 pn:=[]
 xe:=fun _ _=>False
structure jU(X:Cx)(own cap:Ls)(js:List Nat)(sc:Scope):Prop where
 kind:sc.kind = .function
 nocell:∀y∈sc.names,y.2≠.cell
 names:∀y∈sc.names,y.2 = .local->sc.names.lookup y.1=some .local
 nd:(own++cap).Nodup
 frees:∀y∈sc.names,y.2 = .free->y.1∈cap
 slots:js.map (fun j=>X.N[j]?)=cap.map some
 outer':cap.map X.env.kindOf=cap.map fun _=>some NameKind.cell
 capk':cap.map (fun x=>(relabel sc X.env).names.lookup x)=cap.map fun _=>some NameKind.cell
theorem ug{α β:Type}{f:α->β}{c:β}:∀{l:List α},l.map f=l.map (fun _=>c)->∀x∈l,f x=c
 | [],_,_,h=>nomatch h
 | y::l,e,x,h=>by
  rw[b9,b9]at e;injection e with e1 e2
  rcases bh.mp h with q | q
  . rw[q];exact e1
  . exact ug e2 x q
theorem jU.outer{X:Cx}{own cap:Ls}{js:List Nat}{sc:Scope}(S:jU X own cap js sc):∀x∈cap,X.env.kindOf x=some .cell:=ug S.outer'
theorem jU.capk{X:Cx}{own cap:Ls}{js:List Nat}{sc:Scope}(S:jU X own cap js sc):∀x∈cap,(relabel sc X.env).names.lookup x≠some .local:=fun x hx h=>by
 rw[ug S.capk' x hx]at h;cases h
def compStart(n:Nat)(js:List Nat)(σ:St):St:=List.replicate n none++js.map fun j=>(σ[j]?).join
def Bu(wi:TI)(n:Nat)(js:List Nat)(g:TG)(tt:TT)(te:TE):TE:=fun σ H Q=>wi σ H fun J H1=>∀D,H1 D=none ->
 ∃W:Nat->Nat->St->Hp->Prop,(∃m,W 0 m (compStart n js σ) (ak H1 D (.lst [])))/\kJ J g tt te D (fun H'=>Q (.ref D) H') W
section
variable {X:Cx} {pins:Po} {σ:St} {H3:Hp} {s3:Shared}
theorem HR{sc:Scope}{env:Env}{x:Str}{k:NameKind}(h:(relabel sc env).names.lookup x=some k):k = .local\/k = .globalImplicit\/(x,k)∈sc.names\/(x,NameKind.free)∈sc.names:=by
 have hm:=qM h;unfold relabel at hm;obtain⟨⟨n,k'⟩,hn,e⟩:=bC.mp hm;dsimp only at e;split at e
 . rename_i c;cases e;simp only[j9,ij]at c;obtain⟨⟨c,_⟩,_⟩:=c;subst c;exact .inr (.inr (.inr hn))
 . cases e;exact .inr (.inr (.inl hn))
theorem Yy{elt tg iter:Expr}{ifs:List Expr}{sc:Scope}{pos:Pos}{own cap:Ls}{js:List Nat}{g:TG}{tt:TT}{te:TE}{it C D:Addr}{fp:List Addr}{tn:Nat->Heap->Prop}{J:It}{h4:Heap}{tk:Nat}{m:Mv}
 {W:Nat->Nat->St->Hp->Prop} {Qd:Hp->Prop} {m0:Nat} (S:jU X own cap js sc) (hc:X.calm=true) (I3:Inv X pins σ H3 s3) (T:rf X.prog X.w X.K tg J fp it tn) (aW:tn 0 s3.heap) (f3:∀b∈fp,dR X pins H3 b)
 (eC:C=s3.heap.objs.size) (iy:h4.Ns C m) (hk:∀b o,s3.heap.get? b=some o->h4.get? b=some o)
 (hg:PG (cO X (own++cap) sc s3 H3 C fp) tg g) (ht:jr (cO X (own++cap) sc s3 H3 C fp) ifs tt) (he:PE (cO X (own++cap) sc s3 H3 C fp) elt te)
 (w0:W 0 m0 (compStart own.length js σ) H3) (ask:kJ J g tt te D Qd W) :
 codeAny (model X.prog X.w) X.A (.compStart (.ListComp elt [⟨tg,iter,ifs,0⟩] sc pos) 0 (.ref it) (.ref D) (compEnvC sc (cH X.env sc.names []) C X.env))
  (fun r s'=>r = .ok .next/\∃m' H',s'.heap.Ns C m'/\s'.os=s3.os/\AllBare s'.gens/\Un (ip X.stack) fp H3 H' s3.heap s'.heap/\b7 X.prog X.w H' s'.heap/\H' C=none/\Qd H') { s3 with heap:=h4,toks:=tk }:=by
 have Bv:∀y∈sc.names,y.2 = .free->∃c,X.env.cells.lookup y.1=some c:=fun y hy e=>I3.ok.has _ (.inl (S.outer _ (S.frees y hy e)));have iz:∀(x:Str) (c:Addr),(cO X (own++cap) sc s3 H3 C fp).env.cells.lookup x=some c->X.env.cells.lookup x=some c:=fun x c e=>
  xy Bv (fun x c h=>by cases (show([]:List (Str×Addr)).lookup x=some c from h)) e
 have ltC:∀(x:Str) (c:Addr),X.env.cells.lookup x=some c->c<s3.heap.objs.size:=fun x c e=>by
  obtain⟨v,q⟩:=I3.cell x c e;exact q.lt
 have xA:∀b∈fp,b<s3.heap.objs.size:=fun b hb=>by
  obtain⟨o,e,_⟩:=T.obj 0 _ aW b hb;exact aT e
 have pp:(cO X (own++cap) sc s3 H3 C fp).Ok:=by
  refine⟨I3.ok.mod,S.kind,I3.ok.glob,I3.ok.blt,wq eC.symm,fun x y c e1 e2=>I3.ok.inj x y c (iz x c e1) (iz y c e2),fun x hx=>?_,(fun x c z _=>nomatch (show false=true from z)),I3.ok.hd,I3.ok.frames,.inl rfl,fun b hb=>?_,
   I3.bs,bn I3.ok.bsz I3.sz,fun b o e hb=>?_,fun b hb hs=>?_,I3.stack,I3.stkFree⟩
  . have fY:(relabel sc X.env).names.lookup x=some .cell\/(relabel sc X.env).names.lookup x=some .free:=hx;have hm:(x,NameKind.free)∈sc.names:=by
     rcases fY with z | z
     . rcases HR z with q | q | q | q
       . cases q
       . cases q
       . exact absurd rfl (S.nocell _ q)
       . exact q
     . rcases HR z with q | q | q | q
       . cases q
       . cases q
       . exact q
       . exact q
    exact FI.mp (xz hm)
  . refine⟨?_,fun x c e=>(f3 b hb).2.2.2.2.1 x c (iz x c e)⟩;show b≠C;rw[eC];exact bH (xA b hb)
  . rcases(f3 b hb).2.2.2.1 with z | z
    . exact I3.ok.noex b o e z
    . have h1:b<X.base.objs.size:=aT e;exact absurd (fw h1 (bn I3.ok.bsz z)) (j8 _)
  . obtain⟨_,f1,f2,_⟩:=f3 b hb
    rcases bh.mp (I3.stkSub b hs) with z | z
    . exact f1 z
    . exact f2 z
 have Yz:H3 C=none:=by rw[eC];exact I3.hok.fresh (av _)
 have sl:js.length=cap.length:=by have:=fQ List.length S.slots;simpa using this
 have I4:Inv (cO X (own++cap) sc s3 H3 C fp) [] (compStart own.length js σ) H3 { s3 with heap:=h4,toks:=tk }:=by
  refine⟨pp,rfl,I3.bare,Un.kept hk,⟨m,iy,fun i x v e1 e2 hv=>?_⟩,fun x c e=>?_,Yz,fun x c e=>I3.freeC x c (iz x c e),fun p hp=>?_,I3.hok.kept hk,?_⟩
  . have e1:(own++cap)[i]? = some x:=e1;unfold compStart at e2
    by_cases hi:i<own.length
    . rw[FJ (by simpa using hi),ajs,ai hi]at e2;cases e2
    . rw[qN (by omega)]at e1;rw[qN (by simpa using hi),Oy,bT]at e2;obtain⟨j,hj⟩:∃j,js[i - own.length]? = some j:=by
       cases q:js[i - own.length]? with
       | none=>rw[q]at e2;cases e2
       | some j=>exact⟨j,rfl⟩
      rw[hj]at e2;have e2:(σ[j]?).join=some v:=gn e2;have e3:σ[j]? = some (some v):=by
       cases q:σ[j]? with
       | none=>rw[q]at e2;cases e2
       | some z=>rw[q]at e2;rw[show z=some v from e2]
      have hs:=fQ (fun l=>l[i - own.length]?) S.slots;simp only[bT,hj,e1,jH]at hs;have hN:X.N[j]? = some x:=gn hs;have hx:x∈cap:=dw e1;obtain⟨m2,mU,kH⟩:=I3.loc;obtain⟨u,ru,lk⟩:=kH j x v hN e3 (.inr (.inl (S.outer x hx)));refine⟨u,ru,?_⟩
      rcases lk with⟨k1,_⟩ | ⟨_,c,m8,bW⟩
      . rw[S.outer x hx]at k1;cases k1
      . have hv:wV (relabel sc X.env) x:=hv;have kd:(cO X (own++cap) sc s3 H3 C fp).env.kindOf x=some .cell\/(cO X (own++cap) sc s3 H3 C fp).env.kindOf x=some .free\/(cO X (own++cap) sc s3 H3 C fp).env.kindOf x=some .local:=by
         rcases hv with z | z | z
         . exact .inr (.inr z)
         . exact .inl z
         . exact .inr (.inl z)
        rcases kd with kd | kd | kd
        . obtain⟨c',fB⟩:=pp.has x (.inl kd);have:=iz x c' fB;rw[m8]at this;cases this;exact .inr ⟨.inl kd,c,fB,bW.keeps hk⟩
        . obtain⟨c',fB⟩:=pp.has x (.inr kd);have:=iz x c' fB;rw[m8]at this;cases this;exact .inr ⟨.inr kd,c,fB,bW.keeps hk⟩
        . have kd:(relabel sc X.env).names.lookup x=some .local:=kd;exact absurd kd (S.capk x hx)
  . obtain⟨v,q⟩:=I3.cell x c (iz x c e);exact⟨v,q.keeps hk⟩
  . have cD:p∈([]:Po):=hp;cases cD
  . show(compStart own.length js σ).length=(own++cap).length;unfold compStart;rw[bf,Oy,aw,bf,sl]
 have Bw:∀{H':Hp},(∀b∈fp,H' b=none)->∀b∈fp,dR (cO X (own++cap) sc s3 H3 C fp) [] H' b:=fun {H'} hn b hb=>by
  refine⟨hn b hb,?_,fun hs=>pp.exfs b hb hs,.inl hb,fun x c e=>(f3 b hb).2.2.2.2.1 x c (iz x c e),fun p hp=>?_⟩
  . show b≠C;rw[eC];exact bH (xA b hb)
  . have cD:p∈([]:Po):=hp;cases cD
 have f8:tn 0 h4:=T.keep 0 _ _ aW fun b _ o e=>hk b o e;have loop:codeAny (model X.prog X.w) X.A (.compLoop (.ListComp elt [⟨tg,iter,ifs,0⟩] sc pos) 0 (.ref it) (.ref D) (compEnvC sc (cH X.env sc.names []) C X.env))
  (fun r s'=>r = .ok .next/\∃m' H',s'.heap.Ns C m'/\s'.os=s3.os/\AllBare s'.gens/\Un (ip X.stack) fp H3 H' s3.heap s'.heap/\b7 X.prog X.w H' s'.heap/\H' C=none/\Qd H') { s3 with heap:=h4,toks:=tk }:=by
  refine Yw (fun n s'=>∃i σ' H',Inv (cO X (own++cap) sc s3 H3 C fp) [] σ' H' s'/\tn i s'.heap/\(∀b∈fp,H' b=none)/\W i n σ' H') ?_ m0 ⟨0,_,H3,I4,f8,fun b hb=>(f3 b hb).1,w0⟩;rintro n s' ⟨i,σ',H',J',al,HS,w'⟩
  rcases ask i n σ' H' w' with⟨stop,qd⟩ | ⟨go,step⟩
  . refine thn (T.done (cO X (own++cap) sc s3 H3 C fp) rfl rfl rfl hc i [] s' σ' H' _ J' (Bw HS) al stop) fun r s1 YA=>YA.elim fun hr J1=>?_;subst hr;obtain⟨m1,Bx,_⟩:=J1.loc;exact⟨rfl,m1,H',Bx,J1.os,J1.bare,J1.base,J1.hok,J1.free,qd⟩
  . refine thn (T.item (cO X (own++cap) sc s3 H3 C fp) rfl rfl rfl hc i [] s' σ' H' _ J' (Bw HS) al go) fun r s1 YB=>YB.elim fun u YC=>YC.elim fun hr h1=>?_;subst hr;refine thn h1 fun _ s2 YD=>YD.elim fun x YE=>YE.elim fun H5 YF=>YF.elim fun J5 YG=>YG.elim fun r5 YH=>YH.elim fun y5 YI=>YI.elim fun be AT=>?_;have YJ:=J5.pinned (Bw AT) (T.obj _ _ be);refine df (hg _ s2 σ' H5 x u _ YJ r5 (step x H5 y5)) (fun _ s6 YK=>YK.elim fun σ6 YL=>YL.elim fun H6 YM=>YM.elim fun J6 q6=>?_) (fun _ _ z=>z.elim);refine df (ht _ s6 σ6 H6 _ J6 q6) (fun ok s7 YN=>YN.elim fun H7 YO=>YO.elim fun J7 q7=>?_) (fun _ _ z=>z.elim);have again:∀{s9:Shared} {H9:Hp} {m':Nat},Inv (cO X (own++cap) sc s3 H3 C fp) ([]++o7 fp s2.heap) σ6 H9 s9->m'<n->W (i+1) m' σ6 H9 ->
     ∃m,m<n/\∃i σ' H',Inv (cO X (own++cap) sc s3 H3 C fp) [] σ' H' s9/\tn i s9.heap/\(∀b∈fp,H' b=none)/\W i m σ' H':=fun {s9 H9 m'} J9 hm w9=>by
     refine⟨m',hm,i+1,σ6,H9,J9.unpinned,T.keep _ _ _ be fun b hb o e=>(J9.pin (b,o) (eS _ (eS _ (mT hb e)))).1,fun b hb=>?_,w9⟩;obtain⟨o,e,d⟩:=T.obj _ _ be b hb;exact(J9.pin (b,o) (eS _ (eS _ (mT hb e)))).2.1
    cases ok with
    | false=>
     rw[af bB]at q7 ⊢;obtain⟨m',hm,w7⟩:=q7;exact again J7 hm w7
    | true=>
     rw[ai rfl]at q7 ⊢;refine df (he _ s7 σ6 H7 _ J7 q7) (fun y s8 YQ=>YQ.elim fun yv YR=>YR.elim fun H8 YS=>YS.elim fun J8 YT=>YT.elim fun r8 YU=>YU.elim fun ys YV=>YV.elim fun xB YW=>YW.elim fun hz YX=>YX.elim fun m' YY=>YY.elim fun hm w8=>?_) (fun _ _ z=>z.elim);refine df (pi (X:=cO X (own++cap) sc s3 H3 C fp) _ s8 σ6 H8 (.ref D) [yv] (.ref D) [y] (fun v H9=>H9=ak H8 D (.lst (ys++[yv]))) J8 rfl (.cons r8 .nil) ⟨D,ys,yv,rfl,rfl,xB,hz,rfl⟩) (fun _ s9 YZ=>YZ.elim fun _ Y0=>Y0.elim fun H9 Y1=>Y1.elim fun J9 Y2=>Y2.elim fun _ eH=>?_) (fun _ _ z=>z.elim);subst eH;exact again J9 hm w8
 exact codeAny_compStart_list loop (T.self X.A 0 _ _ _ f8 loop)
theorem HU{elt tg iter:Expr}{ifs:List Expr}{sc:Scope}{pos:Pos}{own cap:Ls}{js:List Nat}{g:TG}{tt:TT}{te:TE}{it:Addr}{fp:List Addr}{tn:Nat->Heap->Prop}{J:It}{H2:Hp}{s2:Shared}{use:Option (Value->Sem Unit)}{Qr:VP}{Er:VP}
 {Q:V->Hp->Prop} (S:jU X own cap js sc) (hc:X.calm=true) (I2:Inv X pins σ H2 s2) (T:rf X.prog X.w X.K tg J fp it tn) (cy:tn 0 s2.heap) (f2:∀b∈fp,dR X pins H2 b)
 (hg:∀s₀ H₀ C ex,PG (cO X (own++cap) sc s₀ H₀ C ex) tg g) (ht:∀s₀ H₀ C ex,jr (cO X (own++cap) sc s₀ H₀ C ex) ifs tt) (he:∀s₀ H₀ C ex,PE (cO X (own++cap) sc s₀ H₀ C ex) elt te)
 (q2:∀D,H2 D=none->∃W:Nat->Nat->St->Hp->Prop,(∃m,W 0 m (compStart own.length js σ) (ak H2 D (.lst [])))/\kJ J g tt te D (fun H'=>Q (.ref D) H') W)
 (fin:∀(D C:Addr) (H':Hp) (s':Shared) (m':Mv),s2.heap.objs.size<C->s'.heap.Ns C m'->Inv X pins σ H' s'->H' C=none->Q (.ref D) H'->compPost (model X.prog X.w) X.A Er use Qr (.ref D) C (.ok .next) s') :
 wpAny (model X.prog X.w) X.A (newList []) (fun acc s₃=>wpAny (model X.prog X.w) X.A (newFunctionEnv sc X.env.globals (cH X.env sc.names []) [] X.env.qual none .none (some X.env)) (fun HV s₄=>
  codeAny (model X.prog X.w) X.A (.compStart (.ListComp elt [⟨tg,iter,ifs,0⟩] sc pos) 0 (.ref it) acc { HV with scope:=relabel sc X.env }) (compPost (model X.prog X.w) X.A Er use Qr acc HV.locals) s₄) Er s₃) Er s2:=by
 have HW:H2 s2.heap.objs.size=none:=I2.fresh;obtain⟨W,⟨m0,w0⟩,ask⟩:=q2 _ HW;have I3:=I2.lnew (ys:=[]) (its:=[]) (t':=s2.toks) .nil (cj _);have xA:∀b∈fp,b<s2.heap.objs.size:=fun b hb=>by
  obtain⟨o,e,_⟩:=T.obj 0 _ cy b hb;exact aT e
 have f3:∀b∈fp,dR X pins (ak H2 s2.heap.objs.size (.lst [])) b:=fun b hb=>by
  refine⟨?_,(f2 b hb).2⟩;rw[a8 (bH (xA b hb))];exact(f2 b hb).1
 refine ww (hd:=by size_fits) (wpAny_newFunctionEnv S.nocell (by intro y hy;simp at hy) (fun h4 iy pq=>?_) S.kind);dsimp only at iy pq ⊢;have Y3:∀b o,(s2.heap.push { cls:=.type "list",dict:=none,data:=.seq ([]:Lw).toArray }).get? b=some o->h4.get? b=some o:=fun b o e=>
  pq.extBut b o (bH (aT e)) (bg _ e)
 have aW:tn 0 (s2.heap.push { cls:=.type "list",dict:=none,data:=.seq ([]:Lw).toArray }):=T.keep 0 _ _ cy fun b _ o e=>bg _ e;refine oP (Yy (s3:={ s2 with heap:=s2.heap.push { cls:=.type "list",dict:=none,data:=.seq ([]:Lw).toArray } }) (tk:=s2.toks+([]:List (Str×Value)).length) S hc I3 T aW f3 rfl iy Y3 (hg _ _ _ _) (ht _ _ _ _) (he _ _ _ _) w0 ask) fun r s' hr=>?_;obtain⟨er,m',H',ky,A1,Y4,Y5,uh,ui,qd⟩:=hr;subst er;have Y6:Un (ip X.stack) fp H2 (ak H2 s2.heap.objs.size (.lst [])) s2.heap (s2.heap.push { cls:=.type "list",dict:=none,data:=.seq ([]:Lw).toArray }):=Un.laid (fun b o e=>bg _ e) (av _) HW;refine fin _ _ H' s' m' ?_ ky (I2.call' (s':=s') (ch:=fp) A1 (Y6.trans Y5) uh Y4 (fun b hb=>⟨(f2 b hb).2.2.2.1,(f2 b hb).2.1,(f2 b hb).2.2.2.2.1,(f2 b hb).2.2.2.2.2⟩)) ui qd;show s2.heap.objs.size<(s2.heap.push { cls:=.type "list",dict:=none,data:=.seq ([]:Lw).toArray }).objs.size;rw[lu];exact sY _
theorem Inv.letGo{H:Hp}{s:Shared}{C:Addr}{h':Heap}(I:Inv X pins σ H s)(sb:Heap.SameBut C s.heap h')(hn:H C=none)(h0:X.s₀.heap.objs.size<=C)(h1:C≠X.env.locals)(h2:∀x c,X.env.cells.lookup x=some c->c≠C)(h3:∀p∈X.pn++pins,p.1≠C) :
 Inv X pins σ H { s with heap:=h' }:=by
 refine I.call' (s':={ s with heap:=h' }) (ch:=[C]) rfl ⟨fun b o e _ _ hb=>?_,fun b o e _ _ hb=>⟨o.slots,?_⟩,fun _ _ _ n _=>n,fun b o e hb=>⟨o,?_⟩,fun _ _ q=>q,fun _ _ _ q=>q,fun _ ps q=>⟨#[],by rw[q];simp⟩⟩ (Yx I.hok sb hn) I.bare (fun b hb=>?_)
 . exact(sb.2 b (by simpa using hb)).trans e
 . exact(sb.2 b (by simpa using hb)).trans e
 . exact(sb.2 b (by simpa using hb)).trans e
 . have:b=C:=by simpa using hb
   subst this;exact⟨.inr h0,h1,h2,h3⟩
theorem Inv.goes{H2 H:Hp}{s2 s:Shared}{σ':St}{C:Addr}{h':Heap}(I2:Inv X pins σ' H2 s2)(hC:s2.heap.objs.size<C)(I:Inv X pins σ H s)(sb:Heap.SameBut C s.heap h')(hn:H C=none):Inv X pins σ H { s with heap:=h' }:=by
 refine I.letGo sb hn (gK (FS I2.sz hC)) (jF (tu I2.lt hC)) (fun x c e z=>?_) (fun p hp z=>?_)
 . obtain⟨v,q⟩:=I2.cell x c e;exact absurd (tu q.lt hC) (by rw[z];exact j8 _)
 . exact absurd (tu (aT (I2.pin p hp).1) hC) (by rw[z];exact j8 _)
theorem jU.clos{own cap:Ls}{js:List Nat}{sc:Scope}(S:jU X own cap js sc)(ok:X.Ok):closureFor sc X.env=pure (cH X.env sc.names []):=
 HQ fun y hy e=>ok.has _ (.inl (S.outer _ (S.frees y hy e)))
theorem eB{elt tg iter:Expr}{ifs:List Expr}{sc:Scope}{pos:Pos}(own cap:Ls)(js:List Nat){wi:TI}{g:TG}{tt:TT}{te:TE}(S:jU X own cap js sc)(hc:X.calm=true)(hi:PI X tg iter wi)
 (hg:∀s₀ H₀ C ex,PG (cO X (own++cap) sc s₀ H₀ C ex) tg g) (ht:∀s₀ H₀ C ex,jr (cO X (own++cap) sc s₀ H₀ C ex) ifs tt) (he:∀s₀ H₀ C ex,PE (cO X (own++cap) sc s₀ H₀ C ex) elt te)
 (hs:∀x,foldedSetIterable iter X.env x=pure x:=by intro _;rfl):PE X (.ListComp elt [⟨tg,iter,ifs,0⟩] sc pos) (Bu wi own.length js g tt te):=by
 intro pins s σ H Q I h;rw[eval_ListComp];refine ajD (use:=none) rfl hs (S.clos I.ok) S.kind S.names (thn (hi pins s σ H _ I h) fun v s1 h1=>thn h1 fun xb s2 h2=>?_);obtain⟨it,fp,tn,J,H2,e,I2,T,cy,f2,q2⟩:=h2;subst e;refine HU (Q:=Q) S hc I2 T cy f2 hg ht he q2 fun D C H' s' m' hC ky I' ui qd=>?_;exact⟨m',ky,fun h' sb=>⟨.ref D,H',I2.goes hC I' sb ui,rfl,qd⟩⟩
theorem pw{i:Nat}{x:Str}{elt tg iter:Expr}{ifs:List Expr}{sc:Scope}{pos px ps:Pos}(own cap:Ls)(js:List Nat){wi:TI}{g:TG}{tt:TT}{te:TE}(hN:X.N.Nodup)(hx:X.N[i]? = some x)(hl:X.env.scope.names.lookup x=some .local)(S:jU X own cap js sc)(hc:X.calm=true)
 (hi:PI X tg iter wi) (hg:∀s₀ H₀ C ex,PG (cO X (own++cap) sc s₀ H₀ C ex) tg g) (ht:∀s₀ H₀ C ex,jr (cO X (own++cap) sc s₀ H₀ C ex) ifs tt) (he:∀s₀ H₀ C ex,PE (cO X (own++cap) sc s₀ H₀ C ex) elt te)
 (Y7:swapsWith (.ListComp elt [⟨tg,iter,ifs,0⟩] sc pos) (some (.Name x px)) ps.line X.env=pure true:=by rfl)
 (hs:∀x,foldedSetIterable iter X.env x=pure x:=by intro _;rfl):PS X (.Assign [.Name x px] (.ListComp elt [⟨tg,iter,ifs,0⟩] sc pos) ps) (AR (Bu wi own.length js g tt te) (mS i)):=by
 intro pins s σ H D I h;rw[exec_Assign_Name_used _ _ _ _ Y7];refine ac (Ox (ac ?_));show wpAny _ X.A (do let _ ←comprehension (.ListComp elt [⟨tg,iter,ifs,0⟩] sc pos) sc X.env _ (newList []) false (eval iter X.env) (some (assign (.Name x px) X.env))) _ _ s;refine ac (df (ajD (use:=some (assign (.Name x px) X.env)) (Q:=fun _ s'=>∃σ' H',Inv X pins σ' H' s'/\D.nx σ' H') rfl hs (S.clos I.ok) S.kind S.names
  (thn (hi pins s σ H _ I h) fun v s1 h1=>thn h1 fun xb s2 h2=>?_)) (fun _ s' hq=>aj (aj hq)) fun _ _ e=>e)
 obtain⟨it,fp,tn,J,H2,e,I2,T,cy,f2,q2⟩:=h2;subst e;refine HU (Q:=fun v H1=>mS i v σ H1 D.nx) S hc I2 T cy f2 hg ht he q2 fun D' C H' s' m' hC ky I' ui qd=>?_;show wpAny _ X.A (assign (.Name x px) X.env (.ref D')) _ _ s';refine wpAny_assign_Name (GN (v:=.ref D') I' hN hx (.inl hl) rfl (fun mW Y8 Y9=>Y9.elim fun a Za=>Za.elim fun sb ha=>?_) (.inr hl));have ne:C≠a:=by
  rcases ha with z | z
  . rw[z];exact jF (tu I2.lt hC)
  . obtain⟨v,q⟩:=I2.cell x a z;exact jF (tu q.lt hC)
 exact⟨m',ky.sameBut sb ne,fun h' Zb=>⟨_,H',I2.goes hC Y8 Zb ui,qd⟩⟩
end
section
variable {X:Cx} {e k:Expr} {te tk:TE} {pos p2:Pos}
end
section
variable {X:Cx} {a b c d:Expr} {ta tb tc td:TE} {pos:Pos}
end
abbrev fb (H:Hp) (o:HO) (Q:V->Hp->Prop):Prop:=∀p H',H p=none->ag H H'->H' p=some o->Q (.ref p) H'
theorem fb.at{H:Hp}{o:HO}{Q:V->Hp->Prop}(h:fb H o Q):∀p,H p=none->Q (.ref p) (ak H p o):=fun p hp=>h p _ hp (jp hp) bc
theorem bw.weak{X:Cx}{f:Value->Value->Sem Value}{r r':R2}(h:bw X f r)(w:∀x y H Q,r' x y H Q->r x y H Q):bw X f r':=fun pins s σ H x y v u Q I rx ry q=>h pins s σ H x y v u Q I rx ry (w _ _ _ _ q)
theorem eP.weak{X:Cx}{f:Value}{r r':Lv->Hp->VK->Prop}(h:eP X f r)(w:∀xs H Q,r' xs H Q->r xs H Q):eP X f r':=fun pins s σ H xs us Q I rx q=>h pins s σ H xs us Q I rx (w _ _ _ q)
theorem rm.weak{X:Cx}{r r':V->Option Int->Option Int->Hp->VK->Prop}(h:rm X r)(w:∀x l u H Q,r' x l u H Q->r x l u H Q):rm X r':=fun pins s σ H x v vl vu lo hi sl Q I rx hs pl pu q=>h pins s σ H x v vl vu lo hi sl Q I rx hs pl pu (w _ _ _ _ _ q)
section
variable {X:Cx} {e k:Expr} {es:List Expr} {te tk:TE} {t:TA} {pos p2:Pos}
def Zc:R2:=fun x y H Q=>∃l b xs zs,x = .ref l/\y = .ref b/\H l=some (.lst xs)/\H b=some (.lst zs)/\xs.length+zs.length<=sizeLine/\fb H (.lst (xs++zs)) Q
theorem By:bw X (binaryOp .Add) Zc:=VN.weak fun x y H Q Zd=>Zd.elim fun l Ze=>Ze.elim fun b Zf=>Zf.elim fun xs Zg=>Zg.elim fun zs Zh=>Zh.elim fun a1 Zi=>Zi.elim fun a2 Zj=>Zj.elim fun a3 Zk=>Zk.elim fun a4 Zl=>Zl.elim fun a5 a6=>⟨l,b,xs,zs,a1,a2,a3,a4,a5,a6.at⟩
def Zm(K:Fg):V->Option Int->Option Int->Hp->VK->Prop:=fun x lo hi H Q=>∃a xs,x = .ref a/\ae K H a xs/\fb H (.lst (lJ xs lo hi)) Q
theorem HX:rm X (Zm X.K):=Vl.weak fun x l u H Q Zn=>Zn.elim fun a Zo=>Zo.elim fun xs Zp=>Zp.elim fun a1 Zq=>Zq.elim fun a2 a3=>⟨a,xs,a1,a2,a3.at⟩
theorem Bz:eP X (.type "list") (fun xs H Q=>∃p ys,xs = [.ref p]/\(ae X.K H p ys\/aI X.K H p ys)/\fb H (.lst ys) Q):=tY.weak fun xs H Q Zr=>Zr.elim fun p Zs=>Zs.elim fun ys Zt=>Zt.elim fun a1 Zu=>Zu.elim fun a2 a3=>⟨p,ys,a1,a2,a3.at⟩
def Zv(t:TA):TE:=fun σ H Q=>t σ H fun xs H1=>xs.length<=sizeLine/\fb H1 (.tup xs) Q
def Zw(t:TA):TE:=fun σ H Q=>t σ H fun xs H1=>xs.length<=sizeLine/\fb H1 (.lst xs) Q
theorem PA.thn{t:TA}(h:PA X es t){A:Hp->Prop}{F:VK->Lv->Hp->Prop}{G:VK->Lv->Hp->Prop}(w:∀Q xs H,F Q xs H->G Q xs H):PA X es (fun σ H R=>∃Q:VK,t σ H (F Q)/\R=G Q):=by
 intro pos pins s σ H R I ⟨Q,q,e⟩;subst e;exact L2.thn (h pos pins s σ H _ I q) fun us s1 Zx=>Zx.elim fun vs Zy=>Zy.elim fun H1 Zz=>Zz.elim fun I1 ZA=>ZA.elim fun r1 q1=>⟨vs,H1,I1,r1,w _ _ _ q1⟩
theorem dm{x1}(h:PA X es t):PE X (.Tuple es x1 pos) (Zv t):=by
 intro pins s σ H Q I q;exact Hf (PA.thn (A:=fun _=>True) (F:=fun Q xs H1=>xs.length<=sizeLine/\fb H1 (.tup xs) Q) (G:=fun Q xs H1=>xs.length<=sizeLine/\∀p,H1 p=none->Q (.ref p) (ak H1 p (.tup xs))) h (fun Q xs H ZB=>ZB.elim fun a b=>⟨a,b.at⟩)) pins s σ H Q I ⟨Q,q,rfl⟩
theorem cq(h:PA X es t):PE X (.List es pos) (Zw t):=by
 intro pins s σ H Q I q;exact TW (PA.thn (A:=fun _=>True) (F:=fun Q xs H1=>xs.length<=sizeLine/\fb H1 (.lst xs) Q) (G:=fun Q xs H1=>xs.length<=sizeLine/\∀p,H1 p=none->Q (.ref p) (ak H1 p (.lst xs))) h (fun Q xs H ZC=>ZC.elim fun a b=>⟨a,b.at⟩)) pins s σ H Q I ⟨Q,q,rfl⟩
end
section
variable {g:TG} {tt:TT} {te:TE} {H1:Hp} {Q:Addr->Hp->Prop}
theorem HY{lo:Int}{n:Nat}{σ0:St}(S:St->Prop)(P:Nat->Lv->Hp->Prop)(s0:S σ0)(st:∀D,H1 D=none->P 0 [] (ak H1 D (.lst [])))
 (turn:∀D i ys σ H (k:St->V->Hp->Prop) (k':St->Hp->Prop),H1 D=none->i<n->S σ->H D=some (.lst ys)->ag H1 H->P i ys H ->
  (∀σ3 y H5,S σ3->ag H H5->ys.length<sizeLine->P (i+1) (ys++[y]) (ak H5 D (.lst (ys++[y])))->k σ3 y H5)->(∀σ3 H4,S σ3->ag H H4->P (i+1) ys H4->k' σ3 H4) ->
  g (.int (lo+i)) σ H fun σ3 H3=>tt σ3 H3 fun ok H4=>if ok=true then te σ3 H4 (k σ3) else k' σ3 H4)
 (done:∀D ys H,H1 D=none->H D=some (.lst ys)->ag H1 H->P n ys H->Q D H) :
 ∀D,H1 D=none->∃W:Nat->Nat->St->Hp->Prop,(∃m,W 0 m σ0 (ak H1 D (.lst [])))/\kJ (lG lo n) g tt te D (fun H'=>Q D H') W:=by
 intro D hD;refine⟨fun i m σ H=>m=n - i/\i<=n/\S σ/\∃ys,H D=some (.lst ys)/\ag H1 H/\P i ys H,⟨n,by simp,cj _,s0,[],bc,jp hD,st D hD⟩,?_⟩;rintro i m σ H ⟨rfl,hi,hS,ys,hd,hs,hp⟩
 by_cases aP:i<n
 . refine .inr ⟨aP,fun x H2 hy=>?_⟩;obtain⟨e1,e2⟩:=hy;subst e1 e2;exact turn D i ys σ _ (fun σ3 y H5=>∃ys,H5 D=some (.lst ys)/\ys.length<sizeLine/\∃m',m'<n - i/\(m'=n - (i+1)/\i+1<=n/\S σ3/\∃zs,ak H5 D (.lst (ys++[y])) D=some (.lst zs)/\ag H1 (ak H5 D (.lst (ys++[y])))/\P (i+1) zs (ak H5 D (.lst (ys++[y])))))
    (fun σ3 H4=>∃m',m'<n - i/\(m'=n - (i+1)/\i+1<=n/\S σ3/\∃zs,H4 D=some (.lst zs)/\ag H1 H4/\P (i+1) zs H4)) hD aP hS hd hs hp
    (fun σ3 y H5 a1 a2 a3 a4=>⟨ys,a2 _ _ hd,a3,n - (i+1),by omega,rfl,aP,a1,ys++[y],bc,m6 (hs.trans a2) hD,a4⟩)
    (fun σ3 H4 a1 a2 a3=>⟨n - (i+1),by omega,rfl,aP,a1,ys,a2 _ _ hd,hs.trans a2,a3⟩)
 . have e:i=n:=by omega
   subst e;exact .inl ⟨av _,done D ys H hD hd hs hp⟩
theorem BA{K:Fg}{a:Addr}{xs:Lv}{σ0:St}(hx:ae K H1 a xs)(S:St->Prop)(P:Nat->Lv->Hp->Prop)(s0:S σ0)(st:∀D,H1 D=none->P 0 [] (ak H1 D (.lst [])))
 (turn:∀D i x ys σ H (k:St->V->Hp->Prop) (k':St->Hp->Prop),H1 D=none->xs[i]? = some x->S σ->H D=some (.lst ys)->ag H1 H->P i ys H ->
  (∀σ3 y H5,S σ3->ag H H5->ys.length<sizeLine->P (i+1) (ys++[y]) (ak H5 D (.lst (ys++[y])))->k σ3 y H5)->(∀σ3 H4,S σ3->ag H H4->P (i+1) ys H4->k' σ3 H4) ->
  g x σ H fun σ3 H3=>tt σ3 H3 fun ok H4=>if ok=true then te σ3 H4 (k σ3) else k' σ3 H4)
 (done:∀D ys H,H1 D=none->H D=some (.lst ys)->ag H1 H->P xs.length ys H->Q D H) :
 ∀D,H1 D=none->∃W:Nat->Nat->St->Hp->Prop,(∃m,W 0 m σ0 (ak H1 D (.lst [])))/\kJ (kz K a) g tt te D (fun H'=>Q D H') W:=by
 intro D hD;refine⟨fun i m σ H=>m=xs.length - i/\i<=xs.length/\S σ/\∃ys,H D=some (.lst ys)/\ag H1 H/\P i ys H,⟨xs.length,by simp,cj _,s0,[],bc,jp hD,st D hD⟩,?_⟩;rintro i m σ H ⟨rfl,hi,hS,ys,hd,hs,hp⟩;have q:ae K H a xs:=ag.seq hs hx
 by_cases aP:i<xs.length
 . refine .inr ⟨⟨xs,xs[i],q,by simp[aP]⟩,fun x H2 hy=>?_⟩;obtain⟨e1,e2⟩:=hy;subst e1;exact turn D i x ys σ _ (fun σ3 y H5=>∃ys,H5 D=some (.lst ys)/\ys.length<sizeLine/\∃m',m'<xs.length - i/\(m'=xs.length - (i+1)/\i+1<=xs.length/\S σ3/\∃zs,ak H5 D (.lst (ys++[y])) D=some (.lst zs)/\ag H1 (ak H5 D (.lst (ys++[y])))/\P (i+1) zs (ak H5 D (.lst (ys++[y])))))
    (fun σ3 H4=>∃m',m'<xs.length - i/\(m'=xs.length - (i+1)/\i+1<=xs.length/\S σ3/\∃zs,H4 D=some (.lst zs)/\ag H1 H4/\P (i+1) zs H4)) hD (e2 xs q) hS hd hs hp
    (fun σ3 y H5 a1 a2 a3 a4=>⟨ys,a2 _ _ hd,a3,xs.length - (i+1),by omega,rfl,aP,a1,ys++[y],bc,m6 (hs.trans a2) hD,a4⟩)
    (fun σ3 H4 a1 a2 a3=>⟨xs.length - (i+1),by omega,rfl,aP,a1,ys,a2 _ _ hd,hs.trans a2,a3⟩)
 . have e:i=xs.length:=by omega
   subst e;exact .inl ⟨⟨xs,q,av _⟩,done D ys H hD hd hs hp⟩
theorem BB{lo:Int}{n:Nat}{σ0:St}(S:St->Prop)(P:Nat->Lv->Hp->Prop)(s0:S σ0)(st:∀D,H1 D=none->P 0 [] (ak H1 D (.lst [])))
 (turn:∀D i ys σ H (k:St->V->Hp->Prop),H1 D=none->i<n->S σ->H D=some (.lst ys)->ag H1 H->P i ys H ->
  (∀σ3 y H5,S σ3->ag H H5->ys.length<sizeLine->P (i+1) (ys++[y]) (ak H5 D (.lst (ys++[y])))->k σ3 y H5)->g (.int (lo+i)) σ H fun σ3 H3=>te σ3 H3 (k σ3))
 (done:∀D ys H,H1 D=none->H D=some (.lst ys)->ag H1 H->P n ys H->Q D H) :
 ∀D,H1 D=none->∃W:Nat->Nat->St->Hp->Prop,(∃m,W 0 m σ0 (ak H1 D (.lst [])))/\kJ (lG lo n) g rC te D (fun H'=>Q D H') W:=
 HY S P s0 st (fun D i ys σ H k k' a1 a2 a3 a4 a5 a6 a7 _=>turn D i ys σ H k a1 a2 a3 a4 a5 a6 a7) done
theorem HZ{K:Fg}{a:Addr}{xs:Lv}{σ0:St}(hx:ae K H1 a xs)(S:St->Prop)(P:Nat->Lv->Hp->Prop)(s0:S σ0)(st:∀D,H1 D=none->P 0 [] (ak H1 D (.lst [])))
 (turn:∀D i x ys σ H (k:St->V->Hp->Prop),H1 D=none->xs[i]? = some x->S σ->H D=some (.lst ys)->ag H1 H->P i ys H ->
  (∀σ3 y H5,S σ3->ag H H5->ys.length<sizeLine->P (i+1) (ys++[y]) (ak H5 D (.lst (ys++[y])))->k σ3 y H5)->g x σ H fun σ3 H3=>te σ3 H3 (k σ3))
 (done:∀D ys H,H1 D=none->H D=some (.lst ys)->ag H1 H->P xs.length ys H->Q D H) :
 ∀D,H1 D=none->∃W:Nat->Nat->St->Hp->Prop,(∃m,W 0 m σ0 (ak H1 D (.lst [])))/\kJ (kz K a) g rC te D (fun H'=>Q D H') W:=
 BA hx S P s0 st (fun D i x ys σ H k k' a1 a2 a3 a4 a5 a6 a7 _=>turn D i x ys σ H k a1 a2 a3 a4 a5 a6 a7) done
end
end L2
namespace Lcp
open PySem
end Lcp
namespace L2
open PySem PySem.Spec PyProof.Rows
def BC(xs:Ls)(lo hi:Option Int):Ls:=(xs.drop (HT.eA xs.length 0 lo)).take (HT.eA xs.length xs.length hi - HT.eA xs.length 0 lo)
theorem ZD(xs:Ls)(lo hi:Option Int):lJ (xs.map V.str) lo hi=(BC xs lo hi).map V.str:=by
 unfold lJ BC;rw[aw,List.map_take,List.map_drop]
theorem xC{xs:Ls}{r:Int}(h0:0<=r)(h1:r<xs.length):∃z,bF (xs.map V.str) r=some (V.str z)/\xs[r.toNat]? = some z:=by
 obtain⟨v,e,e2⟩:=xx (xs:=xs.map V.str) h0 (by rw[aw];exact h1);rw[bT]at e2;cases q:xs[r.toNat]? with
 | none=>rw[q]at e2;cases e2
 | some z=>
  rw[q]at e2;cases e2;exact⟨z,e,rfl⟩
theorem xD(xs:Ls)(y:Str):xs.map V.str++[V.str y]=(xs++[y]).map V.str:=by rw[gL];rfl
theorem iA{n:Nat}(h:n<=1000):n<=sizeLine:=gK (bp h)
abbrev dS (xs:Ls):PySem.W.Dat:=.list (xs.map PySem.W.Dat.str)
theorem uj{K:Fg}{H:Hp}{a:Addr}{xs:Ls}(h:ae K H a (xs.map V.str)):DV K H (.ref a) (dS xs):=.lst h (HL xs)
theorem ZE{xs ys:Ls}(h:xs.map PySem.W.Dat.str=ys.map PySem.W.Dat.str):xs=ys:=by
 induction xs generalizing ys with
 | nil=>cases ys with
  | nil=>rfl
  | cons y ys=>cases h
 | cons x xs ih=>cases ys with
  | nil=>cases h
  | cons y ys=>
   rw[b9,b9]at h;injection h with h1 h2
   injection h1 with h1
   rw[h1,ih h2]
end L2
namespace Lcp
open PySem L2
end Lcp
namespace L2
open PySem PySem.Spec PyProof.Rows Lcp
end L2
namespace L2
open PySem PySem.Spec PyProof.Rows
section
variable {X:Cx}
theorem ZF{ys:Ls}:∀{us:Lw},aH (ys.map V.str) us->StrsAre us ys:=by
 induction ys with
 | nil=>intro us r;rw[Aj]at r;cases r;exact .nil
 | cons n ns ih=>
  intro us r;rw[b9]at r;cases r with
  | cons r1 r2=>
   obtain⟨t,e⟩:=r1;subst e;exact .cons n t (ih r2)
end
section
variable {X:Cx} {K:Fg}
theorem Ia(K:Fg)(h:X.K=K:=by rfl):rn X (Hv K):=h▸eZ
theorem f9(K:Fg)(h:X.K=K:=by rfl):rn X (Hw K):=h▸jS
theorem ZG(K:Fg)(h:X.K=K:=by rfl):bw X (compareOp .In) (xp K false):=h▸A9
theorem ZH(K:Fg)(h:X.K=K:=by rfl):bw X (compareOp .NotIn) (xp K true):=h▸Vn
def ZI(K:Fg):Lv->Hp->VK->Prop:=fun xs H Q=>∃p ys,xs = [.ref p]/\(ae K H p ys\/aI K H p ys)/\Q (.int ys.length) H
theorem Ib(K:Fg)(h:X.K=K:=by rfl):eP X (.builtin "len") (ZI K):=by subst h;exact jm
end
end L2
namespace Lcp
open PySem L2
end Lcp
namespace L2
open PySem PySem.Spec PyProof.Rows
section
variable {X:Cx} {pins:Po} {σ:St} {H:Hp} {s:Shared}
theorem Inv.track{a:Addr}{o:HO}(I:Inv X pins σ H s)(hn:H a=none)(h0:X.s₀.heap.objs.size<=a)(h1:a≠X.env.locals)(h2:∀x c,X.env.cells.lookup x=some c->c≠a)(h3:∀p∈X.pn++pins,p.1≠a)
 (new:bN X.prog X.w (ak H a o) s.heap a o):Inv X pins σ (ak H a o) s:=by
 have up:∀{c:Addr} {w:HO},H c=some w->ak H a o c=some w:=fun {c w} hc=>by rw[a8 (bv hc hn)];exact hc
 refine⟨I.ok,I.os,I.bare,⟨I.base.keep,I.base.slot,fun b ob e n hx=>?_,I.base.there,fun b xs e=>up (I.base.tups b xs e),fun b o' u e=>up (I.base.frzs b o' u e),fun b ps e=>(I.base.tbls b ps e).elim fun m q=>⟨m,up q⟩⟩,I.loc,I.cell,?_,fun x c e=>?_,
  fun p hp=>⟨(I.pin p hp).1,?_,(I.pin p hp).2.2⟩,fun b u q=>?_,I.len⟩
 . rw[a8 (bH (fw (aT e) h0))];exact I.base.free b ob e n hx
 . rw[a8 (dQ h1)];exact I.free
 . rw[a8 (h2 x c e)];exact I.freeC x c e
 . rw[a8 (h3 p hp)];exact(I.pin p hp).2.1
 . by_cases z:b=a
   . subst z;rw[bc]at q;cases q;exact new
   . rw[a8 z]at q;exact(I.hok b _ q).stay (fun _ _ _ q=>q) (fun c hc=>up hc) fun c xs hc=>up hc
end
section
variable {X:Cx}
theorem uk:eP X (.type "dict") (fun xs H Q=>∃a kvs,xs = [.ref a]/\H a=some (.dK kvs)/\fb H (.dK kvs) Q):=by
 intro pins s σ H xs us Q I r h;obtain⟨a,kvs,rfl,e,q⟩:=h;obtain⟨u,rfl,ru⟩:=vals1 r;cases ru;exact Yb I (.inl e) fun p s' hp I'=>⟨.ref p,_,I',rfl,q.at p hp⟩
def ZJ:V->Lv->Hp->VK->Prop:=fun x vs H Q=>∃a kvs,x = .ref a/\vs = []/\H a=some (.dK kvs)/\Q .non (ak H a (.dK []))
theorem ZK:Be X "dict.clear" ZJ:=by
 intro pins s σ H x xs v us Q I rx rs h;obtain⟨a,kvs,rfl,rfl,e,q⟩:=h;cases rx;cases rs;exact V3 I e fun s' I'=>⟨.non,_,I',rfl,q⟩
end
theorem BD:∀{us:Lw} {ys:Ls},StrsAre us ys->aH (ys.map V.str) us
 | _,_,.nil=>.nil
 | _,_,.cons x t r=>.cons ⟨t,rfl⟩ (BD r)
section
variable {prog:Program} {w:World} {A:Around} {E:VP} {s:Shared}
theorem ZL{r:Addr}{Q:VP}(py:wpAny (model prog w) A.in1 (collect (.ref r)) (fun us s'=>∃(ys:Ls) (h':Heap) (tk:Nat),s' = { s with heap:=h',toks:=tk }/\StrsAre us ys/\us.length<64 /\
 ∀(h2:Heap) (out:Lw) (aJ:Ls) (e:Nat),(∀b o,h'.get? b=some o->h2.get? b=some o)->h2.get? h'.objs.size=some (seqObj "list" out.toArray e)->StrsAre out aJ->aJ.Perm ys->sortedS aJ=true->Q (.ref h'.objs.size) { s with heap:=h2,toks:=tk }) E s) :
 wpAny (model prog w) A (call (.builtin "sorted") [.ref r]) Q E s:=by
 refine FV FW FX FY (FZ _) ?_;unfold Builtin.«sorted»;refine ac (m:=checkCount "sorted" 1 1 _) (aj ?_);refine ac (df py (fun us s' ZM=>ZM.elim fun ys ZN=>ZN.elim fun h' ZO=>ZO.elim fun tk ZP=>ZP.elim fun es ZQ=>ZQ.elim fun hS ZR=>ZR.elim fun pA fin=>?_) fun _ _ e=>e);subst es;refine ac (tz ?_ (by rw[iI];omega));have fZ:(h'.push (seqObj "list" us.toArray 0)).get? h'.objs.size=some (seqObj "list" us.toArray 0):=dv _ rfl;show wpAny _ _ _ _ _ { s with heap:=h'.push (seqObj "list" us.toArray 0),toks:=tk };refine ac (fu (mE F0 ⟨_,fZ,rfl⟩ F1 (list_sort_treeK strKind_oneLt fZ hS.keysOf (fun v₁ v₂ rest e=>keyKind_strs (by rw[←e];exact hS)) pA fun al a1 a2=>⟨_,rfl,?_⟩) (F2 _)));obtain⟨aJ,h1,h2,h3⟩:=sorted_out_str hS a1 a2;obtain⟨e,he⟩:=F3 (vs:=us) (out:=(arrOf al).map (·.2)) fZ;refine aj ⟨_,rfl,fin _ ((arrOf al).map (·.2)).toList aJ e (fun b o q=>?_) (by rw[F4];exact he) h1 h2 h3⟩;have hb:=aT q;rw[F5 (bH hb) (by rw[lu];exact Ao hb)];exact bg _ q
end
section
variable {X:Cx}
theorem Ic{pins:Po}{σ:St}{H:Hp}{s:Shared}{h' h2:Heap}{tk e:Nat}{out:Lw}{aJ:Ls}(I:Inv X pins σ H { s with heap:=h',toks:=tk })(k:∀b o,h'.get? b=some o->h2.get? b=some o)
 (he:h2.get? h'.objs.size=some (seqObj "list" out.toArray e)) (hS:StrsAre out aJ) (hl:aJ.length<=sizeLine):Inv X pins σ (ak H h'.objs.size (.lst (aJ.map V.str))) { s with heap:=h2,toks:=tk }:=
 I.laid (s:={ s with heap:=h',toks:=tk }) (t':=tk) k (av _) ⟨by rw[aw];exact hl,out,e,BD hS,he⟩
theorem ZS:eP X (.builtin "sorted") (fun xs H Q=>∃p ys,xs = [.ref p]/\ae X.K H p (ys.map V.str)/\ys.length<64/\∀aJ,aJ.Perm ys->sortedS aJ=true->fb H (.lst (aJ.map V.str)) Q):=by
 intro pins s σ H xs us Q I r h;obtain⟨p,ys,rfl,hp,pA,q⟩:=h;obtain⟨u,rfl,ru⟩:=vals1 r;cases ru;obtain⟨its,rv,ht,hz⟩:=I.list hp;have hS:StrsAre its ys:=ZF rv;have hlen:=OD hS;refine sorted_strs ht.isList hS (by omega) fun out aJ a1 a2 a3=>?_;obtain⟨e,he⟩:=sortedAll_at s.heap its out;have hl:=a2.length_eq;refine⟨.ref (s.heap.objs.size+1),_,I.laid (t':=s.toks) (a:=s.heap.objs.size+1) (o:=.lst (aJ.map V.str)) (fun b o q=>sortedAll_old q) (sZ _) ⟨by rw[aw];exact iA (by omega),out.toList,e,BD a1,by rw[F4];exact he⟩,rfl,?_⟩;exact(q aJ a2 a3).at _ (I.hok.fresh (sZ _))
def pB(kvs:List (aF×V))(ks:Ls):Prop:=kvs.map (·.1)=ks.map Sum.inr
theorem Ie{kvs:List (aF×V)}{ks:Ls}(h:pB kvs ks){vs:List (aF×Value)}(rel:KV kvs vs){us:Lw}(hl:us.length=vs.length)(hv:∀(j:Nat) (v:Value),us[j]? = some v->∃k x,vs[j]? = some (k,x)/\(bM X.prog X.w).is k v=true):StrsAre us ks:=by
 induction us generalizing kvs vs ks with
 | nil=>
  have:vs = []:=jI.mp hl.symm;subst this;cases rel;unfold pB at h;cases ks with
  | nil=>exact .nil
  | cons a b=>cases h
 | cons u us ih=>
  cases rel with
  | nil=>cases hl
  | @cons p q ps qs r rr=>
   cases ks with
   | nil=>cases h
   | cons a ks=>
    unfold pB at h;rw[b9,b9]at h;injection h with h1 h2
    obtain⟨k,x,e,hk⟩:=hv 0 u rfl;have e:q=(k,x):=gn e;have hp:p.1=k:=by rw[r.1,e]
    have hk:mL k u=true:=hk;rw[←hp,h1]at hk
    rcases io hk with⟨i,t,e1,e2⟩ | ⟨x',t,e1,e2⟩
    . cases e1
    . cases e1;subst e2;exact .cons _ _ (ih h2 rr (by simpa using hl) fun j v hj=>hv (j+1) v (by simpa using hj))
theorem ZT(hc:X.calm=true):eP X (.builtin "sorted") (fun xs H Q=>∃d kvs ks,xs = [.ref d]/\H d=some (.dK kvs)/\pB kvs ks/\kvs.length<64/\∀aJ,aJ.Perm ks->sortedS aJ=true->fb H (.lst (aJ.map V.str)) Q):=by
 intro pins s σ H xs us Q I r h;obtain⟨d,kvs,ks,rfl,e,xE,pA,q⟩:=h;obtain⟨u,rfl,ru⟩:=vals1 r;cases ru;obtain⟨z,hd,vs,rel,dd⟩:=jo I.hok e;obtain⟨ep,ZU⟩:=dd.dictAt;have hlen:=rel.length;refine ZL (PySem.W.kdu_collect (PySem.W.kdl_dict (knd:=bM X.prog X.w) (kvs:=vs) (ep:=ep) hd) (I.ok.hd hc) ZU (by omega) fun h' tk acc hk pC=>?_);have hS:StrsAre acc.toList ks:=Ie (X:=X) xE rel (by rw[cK];exact pC.1) fun j v hj=>pC.2 j v (by rw[←ly];exact hj);have kH:acc.toList.length=vs.length:=by rw[cK];exact pC.1
 have I':Inv X pins σ H { s with heap:=h',toks:=tk }:=I.kept hk;refine⟨ks,h',tk,rfl,hS,by omega,fun h2 out aJ e' k2 he gx cD BE=>?_⟩;have hl:=cD.length_eq;have m9:=OD hS;exact⟨.ref h'.objs.size,_,Ic I' k2 he gx (iA (by omega)),rfl,(q aJ cD BE).at _ (I'.hok.fresh (av _))⟩
end
theorem xF:Slot "set_iterator" "__next__" "set_iterator.__next__":=
 .of (owner:="set_iterator") (n:="__next__") (by rw[OE,OF];kernel_rfl) (by decide +kernel) (by decide +kernel) (by decide +kernel)
  (by first | exact .inl (by decide +kernel) | exact .inr (by decide +kernel)) (by rw[OG];kernel_rfl)
theorem Ig:Slot "set_iterator" "__iter__" "set_iterator.__iter__":=
 .of (owner:="set_iterator") (n:="__iter__") (by rw[OE,OF];kernel_rfl) (by decide +kernel) (by decide +kernel) (by decide +kernel)
  (by first | exact .inl (by decide +kernel) | exact .inr (by decide +kernel)) (by rw[OG];kernel_rfl)
theorem ZV:entryFor table "set_iterator.__next__" = some Builtin.«set_iterator.__next__»:=entryFor_of_tree (by kernel_rfl)
theorem ZW:entryFor table "set_iterator.__iter__" = some Builtin.«dict_keyiterator.__iter__»:=OH (id':="dict_keyiterator.__iter__") (by kernel_rfl) rfl (by decide +kernel) (by kernel_rfl)
theorem ZX:entryFor table "set.__iter__" = some Builtin.«frozenset.__iter__»:=OH (id':="frozenset.__iter__") (by kernel_rfl) rfl (by decide +kernel) (by kernel_rfl)
theorem Ih:Manifest.owners.lookup (String.ofList ['r','o','t','a','r','e','t','i','_','t','e','s'].reverse)=some Manifest.sig_set_iterator:=by kernel_rfl
theorem ZY(a:Value):argsOk "set_iterator.__next__" ⟨[a],[]⟩:=by
 unfold argsOk;rw[signature?_of (id:="set_iterator.__next__") (n:=['_','_','t','x','e','n','_','_']) (o:=['r','o','t','a','r','e','t','i','_','t','e','s']) (by kernel_rfl) Ih];kernel_rfl
theorem ZZ(a:Value):argsOk "set_iterator.__iter__" ⟨[a],[]⟩:=by
 unfold argsOk;rw[signature?_of (id:="set_iterator.__iter__") (n:=['_','_','r','e','t','i','_','_']) (o:=['r','o','t','a','r','e','t','i','_','t','e','s']) (by kernel_rfl) Ih];kernel_rfl
section
variable {prog:Program} {w:World} {A:Around} {E:VP} {s:Shared} {a it:Addr} {ep:Nat} {t:SetTable}
theorem Z0:typeLookup (.type "set") "__len__" = pure (some (.builtin "set.__len__")):=by rw[OE,OF];kernel_rfl
theorem Z1{Q:Bool->Shared->Prop}(hT:s.TypeIs (.ref a) "set")(h:Q false s):wpAny (model prog w) A (Builtin.List.listLengthHint (.ref a)) Q E s:=by
 unfold Builtin.List.listLengthHint;refine ac (wp hT Z0 ?_);generalize Ii:("set.__len__":String)=id0
 wp_delta
 rw[show splitId id0=some ("set","__len__") from by subst Ii;decide +kernel];subst Ii;refine ac (lm (T:="set") (b:=true) hT (by rw[OG];kernel_rfl) ?_);refine F6 (fun jM=>absurd jM (by decide)) (fun _=>?_);refine F6 (fun _=>?_) (fun jM=>absurd (by decide +kernel) jM);refine ac (wx hT ?_);exact aj h
end
section
variable {X:Cx}
theorem Ij{pos:Pos}:PE X (.Dict [] [] pos) (fun _ H Q=>fb H (.dK []) Q):=fun pins s σ H Q I h=>Xa pins s σ H Q I h.at
theorem Z3{pos:Pos}:PE X (.Dict [] [] pos) (fun _ H Q=>fb H (.dT []) Q):=fun pins s σ H Q I h=>Xb pins s σ H Q I h.at
theorem nh(K:Fg){e:Expr}{f:Str}{pos:Pos}{ta:TE}(he:PE X e ta)(hb:attributeBase e f X.env (eval e X.env)=eval e X.env)(h:X.K=K:=by rfl):PE X (.Attribute e f pos) (Hd K ta f):=h▸iQ he hb
end
section
variable {X:Cx}
variable {e e1 e2:Expr} {te t1 t2:TE} {pos:Pos}
end
end L2
namespace L2
open PySem
end L2
namespace L2
theorem rD{t1 t2:TS}{D:Ends}{σ:St}{H:Hp}(h:let d:=D;let s:=σ;let u2:=t2;aN t1 u2 d s H):aN t1 (t2) D σ H:=h
theorem kK{t1 t2 t3:TS}{D:Ends}{σ:St}{H:Hp}(h:let d:=D;let s:=σ;let u3:=t3;let u2:=aN t2 u3;aN t1 u2 d s H):aN t1 (aN t2 (t3)) D σ H:=h
theorem xG{t1 t2 t3 t4:TS}{D:Ends}{σ:St}{H:Hp}(h:let d:=D;let s:=σ;let u4:=t4;let u3:=aN t3 u4;let u2:=aN t2 u3;aN t1 u2 d s H):aN t1 (aN t2 (aN t3 (t4))) D σ H:=h
theorem BF{t1 t2 t3 t4 t5:TS}{D:Ends}{σ:St}{H:Hp}(h:let d:=D;let s:=σ;let u5:=t5;let u4:=aN t4 u5;let u3:=aN t3 u4;let u2:=aN t2 u3;aN t1 u2 d s H):aN t1 (aN t2 (aN t3 (aN t4 (t5)))) D σ H:=h
theorem Z4{t1 t2 t3 t4 t5 t6:TS}{D:Ends}{σ:St}{H:Hp}(h:let d:=D;let s:=σ;let u6:=t6;let u5:=aN t5 u6;let u4:=aN t4 u5;let u3:=aN t3 u4;let u2:=aN t2 u3;aN t1 u2 d s H):aN t1 (aN t2 (aN t3 (aN t4 (aN t5 (t6))))) D σ H:=h
theorem Ik{t1 t2 t3 t4 t5 t6 t7:TS}{D:Ends}{σ:St}{H:Hp}(h:let d:=D;let s:=σ;let u7:=t7;let u6:=aN t6 u7;let u5:=aN t5 u6;let u4:=aN t4 u5;let u3:=aN t3 u4;let u2:=aN t2 u3;aN t1 u2 d s H):aN t1 (aN t2 (aN t3 (aN t4 (aN t5 (aN t6 (t7)))))) D σ H:=h
theorem Z5{t1 t2 t3 t4 t5 t6 t7 t8 t9 Il Im Io ul:TS}{D:Ends}{σ:St}{H:Hp}(h:let d:=D;let s:=σ;let BG:=ul;let Iq:=aN Io BG;let Ir:=aN Im Iq;let Iu:=aN Il Ir;let u9:=aN t9 Iu;let u8:=aN t8 u9;let u7:=aN t7 u8;let u6:=aN t6 u7;let u5:=aN t5 u6;let u4:=aN t4 u5;let u3:=aN t3 u4;let u2:=aN t2 u3;aN t1 u2 d s H):aN t1 (aN t2 (aN t3 (aN t4 (aN t5 (aN t6 (aN t7 (aN t8 (aN t9 (aN Il (aN Im (aN Io (ul)))))))))))) D σ H:=h
theorem ck{X:Cx}{b:List PySem.Stmt}{D:Ends}{σ:St}{H:Hp}(h:let x:=X;let d:=D;∃t,dH x b t/\t d σ H):∃t,dH X b t/\t D σ H:=h
theorem bX{p:Prop}(h:let T:=p;T):p:=h
open PySem PySem.Spec PyProof.Rows PySem.W PySem.Builtin PySem.Builtin.ObjectAttr PySem.Builtin.Getset_descriptor
section
variable {K:Fg} {D a:Addr} {M:Model} {h:Heap}
end
section
variable {prog:Program} {w:World} {A:Around} {E:VP} {s:Shared} {K:Fg} {D a:Addr}
end
end L2
namespace L2
open PySem PySem.Spec PyProof.Rows PySem.W
section
variable {l:List Env} {B:Heap} {H H0:Hp} {h0 h h' h'':Heap} {P:Program} {w:World}
end
section
variable {X:Cx} {pins:Po} {σ:St} {H:Hp} {s:Shared} {E:XK}
end
section
variable {P:Program} {w:World} {K:Fg} {mg:Mv} {base:Heap} {N:Ls} {qual:Str} {scope:Scope} {f:Addr} {cd:Value} {A:Around} {outer:List Env} {s0:Shared} {H0:Hp} {E:XK}
end
section
variable {X:Cx} {pins:Po} {σ:St} {H:Hp} {s:Shared}
end
section
variable {X:Cx} {CX:jk} {k:Nat} {f C:Addr} {fd:Fy} {ps:Ls} {sp:Sp} {eU:Lv} {ds:Lw} {E:St->XK} {x m:Str} {p pos apos:Pos} {e o:Expr} {es:List Expr} {ta:TE} {t:TA}
end
section
variable {X:Cx}
theorem xH:∀{Ds:List Addr} {us:Lw},aH (Ds.map V.ref) us->us=Ds.map Value.ref
 | [],_,.nil=>rfl
 | D::Ds,_,.cons r t=>by
  rw[b9,xH t]
  congr 1
def um(K:Fg)(H:Hp)(p q:aF×V):Prop:=p.1=q.1/\∃d,DV K H p.2 d/\DV K H q.2 d/\PySem.W.kqdOk 9 d=true
theorem Iw{kvs:List (aF×V)}(nd:(kvs.map (·.1)).Nodup){k:aF}{v:V}(h:(k,v)∈kvs):bK kvs k=some v:=by
 induction kvs with
 | nil=>cases h
 | cons p r ih=>
  rw[b9,jG]at nd
  rcases bh.mp h with e | h
  . subst e;exact gW rfl
  . rw[gw fun e=>nd.1 (by rw[e];exact oR (f:=(·.1)) h)];exact ih nd.2 h
theorem BH{pins:Po}{σ:St}{H:Hp}{s:Shared}(I:Inv X pins σ H s)(hu:X.A.units+65<cLine){bJ:List (aF×V)}{ws:List (aF×Value)}(nd:(bJ.map (·.1)).Nodup)(dZ:KV bJ ws):∀{ka kb:List (aF×V)} {va:List (aF×Value)},Paired (um X.K H) ka kb->KV ka va->(∀p∈kb,p∈bJ)->KeqHits X.A.in1 s ws va true
 | _,_,_,.nil,.nil,_=>.nil
 | _,_,_,.cons (a:=p) (b:=q) r t,.cons (b:=pv) rv tv,hm=>by
  obtain⟨e,d,d1,d2,ok⟩:=r;obtain⟨as,ra⟩:=d1.reads I rv.2;have hq:=Iw nd (k:=q.1) (v:=q.2) (hm q cS);have rel:=dZ.val q.1;rw[hq]at rel;cases hy:valueAt ws q.1 with
  | none=>rw[hy]at rel;exact rel.elim
  | some y=>
   rw[hy]at rel;have rel:RelV q.2 y:=rel;obtain⟨bs,rb⟩:=d2.reads I rel;have Ix:=keq_at (A:=X.A) ra rb (m7 ok) (m7 ok) hu;have et:=(FT 9 d d 9 ok ok).mpr rfl;rw[et]at Ix;have hk:pv.1=q.1:=rv.1.symm.trans e;obtain⟨pk,BI⟩:=pv;have hk:pk=q.1:=hk;subst hk;exact .hit (e:=true) (b:=true) hy Ix (BH I hu nd dZ t tv fun p hp=>hm p (cT _ hp))
end
end L2
namespace L2
open PySem PySem.Spec PyProof.Rows
def fc{α:Type}(n:Nat)(f:Nat->Nat->Bool):PySem.W.KasT α->Option α
 | .ret a=>some a
 | .ask i j k=>if (decide (i<n) && decide (j<n) && decide (i≠j))=true then fc n f (k (f i j)) else none
theorem Iy{α:Type}{n:Nat}{f:Nat->Nat->Bool}{cmp:Nat->Nat->(Bool->Shared->Prop)->Shared->Prop}{s:Shared}(hc:∀i j C,i<n->j<n->i≠j->C (f i j) s->cmp i j C s) :
 ∀(t:PySem.W.KasT α) {a:α},fc n f t=some a->∀{Q:α->Shared->Prop},Q a s->t.kasWp cmp Q s
 | .ret b,a,e,Q,q=>by
  cases e;exact q
 | .ask i j k,a,e,Q,q=>by
  unfold fc at e;split at e
  . rename_i h;simp only[j9,decide_eq_true_eq]at h;exact hc i j _ h.1.1 h.1.2 h.2 (Iy hc (k (f i j)) e q)
  . cases e
section
variable {prog:Program} {w:World} {A:Around} {E:VP} {s:Shared}
theorem BJ{α β:Type}{R:α->β->Prop}:∀{xs:List α} {ys:List β},Paired R xs ys->∀i,i<xs.length->∀(d:α) (e:β),R (xs.getD i d) (ys.getD i e):=by
 intro xs ys p
 induction p with
 | nil=>exact fun i h=>absurd h (qQ _)
 | cons x p ih=>
  intro i hi d e;cases i with
  | zero=>exact x
  | succ i=>exact ih i (Nat.lt_of_succ_lt_succ hi) d e
theorem Z6{vs:Lw}:(List.range vs.length).map (fun i=>vs.getD i Value.none)=vs:=by
 apply List.ext_getElem
 . rw[aw,oS]
 . intro i h1 h2;rw[List.getElem_map,List.getElem_range,qR,eJ h2];rfl
theorem pD{α β:Type}{R:α->β->Prop}{xs:List α}{ys:List β}(p:Paired R xs ys):xs.length=ys.length:=by
 induction p with
 | nil=>rfl
 | cons _ _ ih=>rw[bu,bu,ih]
end
theorem Z7{α:Type}{d:α}{ks:List α}:(List.range ks.length).map (fun i=>ks.getD i d)=ks:=by
 apply List.ext_getElem
 . rw[aw,oS]
 . intro i h1 h2;rw[List.getElem_map,List.getElem_range,qR,eJ h2];rfl
theorem Z8{α:Type}{d:α}{ks:List α}{p:List Nat}(hp:p.Perm (List.range ks.length)):(p.map fun i=>ks.getD i d).Perm ks:=by
 have h:=hp.map fun i=>ks.getD i d;rw[Z7]at h;exact h
theorem BK{α β:Type}{R:α->β->Prop}{xs:List α}{ys:List β}(h:Paired R xs ys)(d:α)(e:β):∀p:List Nat,(∀i∈p,i<xs.length)->Paired R (p.map fun i=>xs.getD i d) (p.map fun i=>ys.getD i e)
 | [],_=>.nil
 | i::p,hi=>.cons (BJ h i (hi i cS) d e) (BK h d e p fun j hj=>hi j (cT _ hj))
theorem Z9{α β γ:Type}{R:α->β->Prop}{S:α->γ->Prop}{T:β->γ->Prop}(h:∀x y z,R x y->S x z->T y z):∀{xs:List α} {ys:List β} {zs:List γ},Paired R xs ys->Paired S xs zs->Paired T ys zs:=by
 intro xs ys zs p
 induction p generalizing zs with
 | nil=>
  intro q;cases q;exact .nil
 | cons x p ih=>
  intro q;cases q with
  | cons y q=>exact .cons (h _ _ _ x y) (ih q)
section
variable {X:Cx}
end
end L2
namespace HT
open PySem PyProof.Rows
section
open PySem.SeqAt
open PySem.AutoSeq1 (wpAny_loadPart')
open PySem.MeetsSeq PySem.MeetsSeq2 PySem.MeetsSeq3
theorem xI{α:Type}{xs:Array α}{i:Nat}{x:α}{r:List α}(h:xs.toList.drop i=x::r):xs[i]? = some x/\xs.toList.drop (i+1)=r:=by
 have h1:(xs.toList.drop i)[0]? = some x:=by rw[h];rfl
 rw[List.getElem?_drop,Ap,ly]at h1;refine⟨h1,?_⟩;rw[←F7,h];rfl
theorem Iz{α:Type}{xs:Array α}{i:Nat}(h:xs.toList.drop i = []):xs[i]? = none/\xs.size<=i:=by
 have h1:=List.drop_eq_nil_iff.mp h;rw[cK]at h1;exact⟨F8 h1,h1⟩
theorem uo{α:Type}{xs:Array α}{i:Nat}{x:α}{r:List α}(h:xs.toList.drop i=x::r):i<xs.size:=by
 have h1:=fQ List.length h;rw[List.length_drop,cK,bu]at h1;omega
end
section
variable {prog:Program} {w:World} {A:Around} {E:VP} {s:Shared}
end
end HT
namespace L2
open PySem PySem.Spec PyProof.Rows
section
variable {X:Cx}
end
open PySem.W
section
variable {X:Cx}
theorem aaa(hu:X.A.units+65<cLine):bw X (compareOp .NotEq) (fun x y H Q=>∃a b kvs kb bJ,x = .ref a/\y = .ref b/\H a=some (.dK kvs)/\H b=some (.dK bJ)/\Paired (um X.K H) kvs kb/\(∀p∈kb,p∈bJ)/\kvs.length=bJ.length/\(bJ.map (·.1)).Nodup/\Q (.bl false) H):=by
 intro pins s σ H x y v u Q I rx ry h;obtain⟨a,b,kvs,kb,bJ,rfl,rfl,ea,eb,pr,hm,hl,nd,q⟩:=h;cases rx;cases ry;obtain⟨_,hd,vs,rel,dd⟩:=jo I.hok ea;obtain⟨_,ji,ws,ni,fT⟩:=jo I.hok eb;refine PySem.W.keq_ne (knd:=bM X.prog X.w) (r:=true) hd ji dd fT (by omega) (fun _=>BH I hu nd ni pr rel hm) ⟨.bl false,H,I,?_,q⟩;have e:vs.length=ws.length:=by rw[←rel.length,←ni.length,hl]
 rw[e];simp[RelV]
def aab(K:Fg):V->V->Hp->VK->Prop:=fun x y H Q=>∃d e,DV K H x d/\DV K H y e/\PySem.W.kqdOk 9 d=true/\PySem.W.kqdOk 9 e=true/\∀b:Bool,(b=true↔d=e)->Q (.bl (!b)) H
theorem IA(K:Fg)(hu:X.A.units+64<cLine)(h:X.K=K:=by rfl):bw X (compareOp .NotEq) (aab K):=h▸HM hu
end
end L2
namespace L2
open PySem
def lL(m:Nat):Prop:=m=7\/m=15\/m=31\/m=63
def xJ(mask:Nat):Nat->Nat->Nat
 | 0,i=>i
 | m+1,i=>xJ mask m ((i * 5+1) % (mask+1))
def IB(mask:Nat):Bool:=(List.range (mask+1)).all fun i=>(List.range (mask+1)).all fun j=>(List.range (mask+1)).any fun m=>xJ mask m i == j
theorem aac{mask:Nat}(h:lL mask):IB mask=true:=by
 rcases h with rfl | rfl | rfl | rfl
 . decide +kernel
 . decide +kernel
 . decide +kernel
 . decide +kernel
theorem aad{mask i j:Nat}(h:lL mask)(hi:i<=mask)(hj:j<=mask):∃m,m<=mask/\xJ mask m i=j:=by
 have:=aac h;unfold IB at this;rw[gr]at this;have:=this i (lr.mpr (by omega));rw[gr]at this;have:=this j (lr.mpr (by omega));obtain⟨m,hm,e⟩:=qO.mp this;exact⟨m,by have:=lr.mp hm;omega,eq_of_beq e⟩
def iB(mask:Nat):Nat->Nat->Nat->Nat×Nat
 | 0,i,p=>(i,p)
 | m+1,i,p=>iB mask m ((i * 5+1+p / 32) % (mask+1)) (p / 32)
theorem IC(mask:Nat):∀(m i:Nat),iB mask m i 0=(xJ mask m i,0)
 | 0,i=>rfl
 | m+1,i=>by
  show iB mask m ((i * 5+1+0 / 32) % (mask+1)) (0 / 32)=_;rw[Nat.zero_div,Ap,IC mask m];rfl
theorem ID(mask:Nat):∀(m k i p:Nat),iB mask (m+k) i p=iB mask k (iB mask m i p).1 (iB mask m i p).2
 | 0,k,i,p=>by rw[Aq];rfl
 | m+1,k,i,p=>by
  rw[Nat.succ_add];exact ID mask m k _ _
theorem IE(mask:Nat):∀(m i p:Nat),(iB mask m i p).2=p / 32 ^ m
 | 0,i,p=>by simp[iB]
 | m+1,i,p=>by
  show(iB mask m _ (p / 32)).2=_;rw[IE mask m,Nat.div_div_eq_div_mul,OI,Nat.mul_comm]
theorem IF(mask:Nat):∀(m i p:Nat),i<=mask->(iB mask m i p).1<=mask
 | 0,i,p,h=>h
 | m+1,i,p,h=>IF mask m _ _ (Nat.le_of_lt_succ (wy (i * 5+1+p / 32) (Ar mask)))
theorem aae{mask i p j:Nat}(h:lL mask)(hi:i<=mask)(hp:p<2 ^ 64)(hj:j<=mask):∃m,m<SetTable.turns mask/\(iB mask m i p).1=j:=by
 have h2:(iB mask 13 i p).2=0:=by
  rw[IE];exact Nat.div_eq_of_lt (tu hp (by decide))
 obtain⟨m,hm,e⟩:=aad h (IF mask 13 i p hi) hj;refine⟨13+m,by unfold SetTable.turns;omega,?_⟩;rw[ID,h2,IC];exact e
theorem IG(mask:Nat)(ow:Array (Option Nat)):∀(f i p:Nat),SetTable.layClean.free mask ow f i p=none->∀m,m<f->(ow.getD (iB mask m i p).1 (some 0)).isNone=false
 | 0,i,p,_,m,h=>absurd h (qQ _)
 | f+1,i,p,e,m,h=>by
  unfold SetTable.layClean.free at e;cases hq:(List.range (SetTable.runEnd mask i+1 - i)).find? fun k=>(ow.getD (i+k) (some 0)).isNone with
  | some k=>rw[hq]at e;cases e
  | none=>
   rw[hq]at e;cases m with
   | zero=>
    have:=List.find?_eq_none.mp hq 0 (lr.mpr (by unfold SetTable.runEnd;split<;>omega));rw[Ap]at this;cases hz:(ow.getD i (some 0)).isNone with
    | true=>exact absurd hz this
    | false=>exact hz
   | succ m=>exact IG mask ow f _ _ e m (by omega)
theorem IH(mask:Nat)(ow:Array (Option Nat)):∀(f i p j:Nat),SetTable.layClean.free mask ow f i p=some j->(ow.getD j (some 0)).isNone=true
 | 0,i,p,j,e=>by cases e
 | f+1,i,p,j,e=>by
  unfold SetTable.layClean.free at e;cases hq:(List.range (SetTable.runEnd mask i+1 - i)).find? fun k=>(ow.getD (i+k) (some 0)).isNone with
  | some k=>
   rw[hq]at e;cases e;exact List.find?_some (p:=fun k=>(ow.getD (i+k) (some 0)).isNone) hq
  | none=>
   rw[hq]at e;exact IH mask ow f _ _ j e
theorem II{α:Type}:∀{l:List (Option α)} {j:Nat} {x:α},l[j]? = some none->((l.set j (some x)).filterMap id).Perm (x::l.filterMap id)
 | [],j,x,h=>by cases h
 | o::l,0,x,h=>by
  cases h;simp
 | o::l,j+1,x,h=>by
  have ih:=II (l:=l) (j:=j) (x:=x) h;rw[List.set_cons_succ];cases o with
  | none=>simpa using ih
  | some y=>
   simp only[Fx,id];exact(ih.cons y).trans (.swap ..)
structure Lay(mask:Nat)(r:Array (Option Nat)×Nat):Prop where
 size:r.1.size=mask+1
 perm:(r.1.toList.filterMap id).Perm (List.range r.2)
theorem Lay.step{mask:Nat}(hm:lL mask){r:Array (Option Nat)×Nat}(x:Lay mask r)(hk:r.2<=mask)(h:Int):∃j,SetTable.layClean.free mask r.1 (SetTable.turns mask) (SetTable.bits h % (mask+1)) (SetTable.bits h)=some j/\Lay mask (r.1.setIfInBounds j (some r.2),r.2+1):=by
 obtain⟨ow,k⟩:=r;dsimp only at *;have hz:ow.size=mask+1:=x.size;have hlen:=x.perm.length_eq;dsimp only at hlen;rw[oS]at hlen;cases hf:SetTable.layClean.free mask ow (SetTable.turns mask) (SetTable.bits h % (mask+1)) (SetTable.bits h) with
 | none=>
  exfalso;have jN:∀j,j<=mask->(ow.getD j (some 0)).isNone=false:=fun j hj=>by
   obtain⟨m,h1,h2⟩:=aae hm (i:=SetTable.bits h % (mask+1)) (p:=SetTable.bits h) (Nat.le_of_lt_succ (wy (SetTable.bits h) (Ar mask))) (by
    unfold SetTable.bits;have h1:=Int.emod_lt_of_pos h (show(0:Int)<2 ^ 64 by decide);have h0:=Int.emod_nonneg h (show(2 ^ 64:Int)≠0 by decide);omega) hj
   have:=IG mask ow _ _ _ hf m h1
   rwa [h2]at this
  have:(ow.toList.filterMap id).length=ow.toList.length:=by
   rw[List.length_filterMap_eq_countP,List.countP_eq_length];intro o ho;obtain⟨j,hj,e⟩:=OJ.mp ho;rw[cK]at hj;have:=jN j (by omega);rw[lA,oU hj]at this;rw[←e,Array.getElem_toList];cases hq:ow[j]with
   | none=>rw[hq]at this;cases this
   | some y=>rfl
  have e9:ow.toList.length=ow.size:=cK;omega
 | some j=>
  have hs:=IH mask ow _ _ _ _ hf;have hj:j<ow.size:=by
   refine Nat.lt_of_not_le fun z=>?_;rw[lA,F8 z]at hs;cases hs
  have hn:ow.toList[j]? = some none:=by
   rw[lA,oU hj]at hs;rw[ly,oU hj];cases hq:ow[j]with
   | none=>rfl
   | some y=>rw[hq]at hs;cases hs
  refine⟨j,rfl,⟨by simp[hz],?_⟩⟩;dsimp only;rw[OK,OL];exact(II hn).trans ((x.perm.cons k).trans (List.perm_append_singleton k _).symm)
theorem IJ{mask:Nat}(hm:lL mask):∀(hs:List Int) (r:Array (Option Nat)×Nat),Lay mask r->r.2+hs.length<=mask+1->∃r',hs.foldl (fun(acc:Option (Array (Option Nat)×Nat)) h=>do
 let (owner,k) ←acc
 let j ←SetTable.layClean.free mask owner (SetTable.turns mask) (SetTable.bits h % (mask+1)) (SetTable.bits h)
 pure (owner.setIfInBounds j (some k),k+1)) (some r)=some r'/\Lay mask r'/\r'.2=r.2+hs.length
 | [],r,x,_=>⟨r,rfl,x,rfl⟩
 | h::hs,r,x,hl=>by
  rw[bu]at hl;obtain⟨j,e,x'⟩:=x.step hm (by omega) h;obtain⟨r',e1,x1,e2⟩:=IJ hm hs _ x' (by dsimp only;omega);refine⟨r',?_,x1,by rw[e2,bu];dsimp only;omega⟩;rw[As,←e1]
  congr 1
  show(SetTable.layClean.free mask r.1 (SetTable.turns mask) (SetTable.bits h % (mask+1)) (SetTable.bits h)).bind _=_;rw[e];rfl
theorem IK{mask f m:Nat}{led plain:Bool}{hs:Array Int}(hm:lL mask)(hl:hs.size<=mask):∃t order,SetTable.laid mask f m led plain hs=some (t,order)/\order.toList.Perm (List.range hs.size)/\t.fits hs.size=true/\t.led=led/\t.plain=plain/\t.mask=mask:=by
 have x0:Lay mask (Array.replicate (mask+1) none,0):=⟨by simp,by simp⟩;obtain⟨r,e,x,e2⟩:=IJ hm hs.toList _ x0 (by dsimp only;rw[cK];omega);have hc:SetTable.layClean mask hs=some r.1:=by
  unfold SetTable.layClean;rw[←Array.foldl_toList,e];rfl
 dsimp only at e2;rw[Aq,cK]at e2;have ho:((List.range (mask+1)).filterMap fun j=>(r.1.getD j none).map (j,·)).map (·.2)=r.1.toList.filterMap id:=by
  have e3:r.1.toList=(List.range (mask+1)).map fun j=>r.1.getD j none:=by
   refine List.ext_getElem? fun j=>?_;rw[bT,ly]
   by_cases hj:j<mask+1
   . rw[List.getElem?_range hj,oU (by rw[x.size];exact hj),jH,lA,oU (by rw[x.size];exact hj)];rfl
   . rw[F8 (by rw[x.size];omega),OM (by rw[oS];omega)];rfl
  rw[e3,List.filterMap_map,List.map_filterMap]
  congr 1
  funext j
  show Option.map _ (Option.map _ (r.1.getD j none))=r.1.getD j none;cases r.1.getD j none<;>rfl
 have hlen:((List.range (mask+1)).filterMap fun j=>(r.1.getD j none).map (j,·)).length=hs.size:=by
  have:=fQ List.length ho;rw[aw,x.perm.length_eq,oS,e2]at this;exact this
 unfold SetTable.laid;rw[hc];refine⟨_,_,rfl,?_,?_,rfl,rfl,rfl⟩
 . show(((List.range (mask+1)).filterMap fun j=>(r.1.getD j none).map (j,·)).map (·.2)).Perm _;rw[ho,←e2];exact x.perm
 . unfold SetTable.fits SetTable.fill;have hp:((((List.range (mask+1)).filterMap fun j=>(r.1.getD j none).map (j,·)).map (·.1)).toArray).size=hs.size:=by
    rw[fX,aw];exact hlen
   have e9:(#[]:Array Nat).size=0:=rfl;rw[j9];refine⟨ij.mpr hp,aL ?_⟩;show _+(#[]:Array Nat).size<=mask;rw[e9,Ap];exact bn (wq hp) hl
open PySem.Spec PyProof.Rows
def ed(w:World):Bool:=w.params.followText "set-order"
def ga(e:Int×Value):Str:=match e.2 with
 | .str y _=>y
 | _=>Str.ofString ""
def kM(w:World)(e:Int×Value):Prop:=∃y tk,e=(jK w (.inr y),Value.str y tk)
structure dn(w:World)(o:Obj)(es:Array (Int×Value))(ep:Nat)(t:SetTable)(xs:Ls):Prop where
 ex:o.ExactSet
 dat:o.data = .set es ep t
 good:∀e∈es.toList,kM w e
 perm:(es.toList.map ga).Perm xs
 nd:xs.Nodup
 len:xs.length<=1000
 fit:t.fits es.size=true
 led:t.led = !ed w
 pl:es.size≠0->t.plain=false
 msk:es.size=0->lL t.mask
def bP(w:World)(h:Heap)(a:Addr)(xs:Ls):Prop:=∃o es ep t,h.get? a=some o/\dn w o es ep t xs
theorem bP.at'{w:World}{h h':Heap}{a:Addr}{xs:Ls}(x:bP w h a xs)(k:∀o,h.get? a=some o->h'.get? a=some o):bP w h' a xs:=
 x.elim fun o aaf=>aaf.elim fun es aag=>aag.elim fun ep aah=>aah.elim fun t aai=>aai.elim fun e r=>⟨o,es,ep,t,k o e,r⟩
theorem bP.typeIs{w:World}{s:Shared}{a:Addr}{xs:Ls}(x:bP w s.heap a xs):s.TypeIs (.ref a) "set":=x.elim fun o aaj=>aaj.elim fun _ aak=>aak.elim fun _ aal=>aal.elim fun _ aam=>aam.elim fun e r=>⟨o,e,r.ex.1⟩
section
variable {w:World} {P:Program} {o:Obj} {es:Array (Int×Value)} {ep:Nat} {t:SetTable} {xs:Ls}
theorem dn.elems(x:dn w o es ep t xs):ElemsOf (bM P w) es.toList:=fun e he=>by
 obtain⟨y,tk,rfl⟩:=x.good e he;exact⟨⟨.inr y,oW P w y tk,rfl⟩,rfl⟩
theorem dn.size(x:dn w o es ep t xs):es.size=xs.length:=by
 have:=x.perm.length_eq;rw[aw,cK]at this;exact this
theorem dn.bnd(x:dn w o es ep t xs):es.size<scanBound:=by
 rw[x.size];have:=x.len;show _<4096;omega
theorem IL{y:Str}{e:Int×Value}(g:kM w e):(bM P w).is (.inr y) e.2=true↔ga e=y:=by
 obtain⟨z,tk,rfl⟩:=g;constructor
 . intro h;have:=(bM P w).inj _ _ _ h (oW P w z tk);injection this with this
   exact this.symm
 . intro h;rw[←h];exact oW P w z tk
theorem dn.find_some(x:dn w o es ep t xs){y:Str}{j:Nat}(h:List.findIdx? (fun e=>(bM P w).is (.inr y) e.2) es.toList=some j):y∈xs:=by
 obtain⟨hj,hp,_⟩:=List.findIdx?_eq_some_iff_getElem.mp h;have hm:=Au hj;exact x.perm.mem_iff.mp (bC.mpr ⟨_,hm,(IL (x.good _ hm)).mp hp⟩)
theorem dn.find_none(x:dn w o es ep t xs){y:Str}(h:List.findIdx? (fun e=>(bM P w).is (.inr y) e.2) es.toList=none):y∉xs:=fun hy=>by
 obtain⟨e,he,hk⟩:=bC.mp (x.perm.mem_iff.mpr hy);have:=List.findIdx?_eq_none_iff.mp h e he;rw[(IL (x.good _ he)).mpr hk]at this;cases this
end
theorem aan(t:SetTable)(es:Array (Int×Value))(h:Int)(x:Value):(layNew t es h x).2.1.led=t.led:=by
 unfold layNew;split
 . dsimp only;unfold SetTable.orStandIn;split<;>rfl
 . rfl
theorem aao{mask f m:Nat}{led plain:Bool}{hs:Array Int}{r:SetTable×Array Nat}(e:SetTable.laid mask f m led plain hs=some r):r.1.led=led/\r.1.plain=plain/\r.1.mask=mask/\r.1.dummies = #[]:=by
 unfold SetTable.laid at e;cases hq:SetTable.layClean mask hs with
 | none=>rw[hq]at e;cases e
 | some ow=>
  rw[hq]at e;cases e;exact⟨rfl,rfl,rfl,rfl⟩
theorem aap(t:SetTable)(es:Array (Int×Value))(n:Nat):(relayAll t es n).2.1.led=t.led/\(t.plain=false->(relayAll t es n).2.1.plain=false):=by
 unfold relayAll;split
 . rename_i t' order e;dsimp only;split
   . obtain⟨h1,h2,_⟩:=aao e;exact⟨h1,fun z=>h2.trans z⟩
   . exact⟨rfl,fun _=>rfl⟩
 . exact⟨rfl,fun _=>rfl⟩
def gy(xs:Ls)(y:Str):Ls:=if y∈xs then xs else xs++[y]
theorem IM{xs:Ls}{y:Str}(h:xs.Nodup):(gy xs y).Nodup:=by
 unfold gy;split
 . exact h
 . rename_i z;rw[wz];exact⟨h,by simp,fun a ha b hb=>by rw[bD.mp hb];exact fun q=>z (q▸ha)⟩
theorem BL{xs:Ls}{y z:Str}:z∈gy xs y↔z∈xs\/z=y:=by
 unfold gy;split
 . rename_i h;exact⟨.inl,fun q=>q.elim id fun q=>q▸h⟩
 . simp
theorem xK(xs:Ls)(y:Str):(gy xs y).length<=xs.length+1:=by
 unfold gy;split
 . omega
 . simp
section
variable {prog:Program} {w:World} {A:Around} {E:VP} {s:Shared} {a:Addr}
theorem dn.store{h:Heap}{o:Obj}{es es':Array (Int×Value)}{ep:Nat}{t t':SetTable}(ho:h.get? a=some o)(x:o.ExactSet)(d:o.data = .set es ep t):(h.update a (Obj.putSet es' t')).get? a=some { o with data:=.set es' (ep+1) t' }:=by
 have q:=Aw (Obj.putSet es' t') ho (by rw[putSet_of es' t' d];rfl)
 rwa [putSet_of es' t' d]at q
theorem IN{g:Bool->Sem Unit}(hg:∀(b:Bool) (s₁:Shared) (Q':Unit->Shared->Prop),Q' () s₁->wpAny (model prog w) A (g b) Q' E s₁){o:Obj}{es cr:Array (Int×Value)}{ep:Nat}{t t2:SetTable}{ys:Ls}{wd:Bool}{R:Option Bool->Shared->Prop}
 (ho:s.heap.get? a=some o) (hx:o.ExactSet) (hd:o.data = .set es ep t) (gd:∀e∈cr.toList,kM w e) (pm:(cr.toList.map ga).Perm ys) (nd:ys.Nodup) (ln:ys.length<=1000) (hf:t2.fits cr.size=true) (ld:t2.led = !ed w) (pl:t2.plain=false) (ne:cr.size≠0)
 (h:∀h',Heap.SameBut a s.heap h'->bP w h' a ys->R (some true) { s with heap:=h' }) :
 wpAny (model prog w) A (do { storeSet a cr t2;if (!wd && t2.tooFull)=true then do { g (relayAll t2 cr (SetTable.grown cr.size)).2.2;storeSet a (relayAll t2 cr (SetTable.grown cr.size)).1 (relayAll t2 cr (SetTable.grown cr.size)).2.1;pure (some true) } else pure (some true) }) R E s:=by
 have sz:cr.size=ys.length:=by have:=pm.length_eq;rw[aw,cK]at this;exact this
 have b1:cr.size<scanBound:=by rw[sz];show _<4096;omega
 refine ac (wA ho hd ?_ (tD b1));have o1:=dn.store (es':=cr) (t':=t2) ho hx hd;have sb:=kf s.heap a (Obj.putSet cr t2);split
 . have hp:=relayAll_perm t2 cr (SetTable.grown cr.size);have uq:=relayAll_fits t2 cr (SetTable.grown cr.size);have xL:=aap t2 cr (SetTable.grown cr.size);generalize hR:relayAll t2 cr (SetTable.grown cr.size)=Rl at hp uq xL ⊢;obtain⟨BM,t3,g2⟩:=Rl;dsimp only at hp uq xL ⊢;have IP:BM.size=cr.size:=by rw[←cK,hp.length_eq,cK]
   refine ac (hg _ _ _ (ac (wA o1 rfl ?_ (tD (by rw[IP];exact b1)))));have o2:=dn.store (es':=BM) (t':=t3) o1 hx rfl;exact aj (h _ (sb.trans (kf _ a _)) ⟨_,BM,_,t3,o2,hx,rfl,fun e he=>gd e (hp.mem_iff.mp he),(hp.map ga).trans pm,nd,ln,uq,xL.1.trans ld,fun _=>xL.2 pl,fun z=>absurd (IP.symm.trans z) ne⟩)
 . exact aj (h _ sb ⟨_,cr,_,t2,o1,hx,rfl,gd,pm,nd,ln,hf,ld,fun _=>pl,fun z=>absurd z ne⟩)
theorem BN{xs:Ls}{y:Str}{tk:Tok}{Q:Bool->Shared->Prop}(hS:bP w s.heap a xs)(hl:xs.length<1000)(h:∀b h',Heap.SameBut a s.heap h'->bP w h' a (gy xs y)->Q b { s with heap:=h' }) :
 wpAny (model prog w) A (setAddHashed a (.str y tk) (jK w (.inr y))) Q E s:=by
 obtain⟨o,es,ep,t,ho,x⟩:=hS;have el:ElemsOf (bM prog w) es.toList:=x.elems;unfold setAddHashed setAddHashedIn;refine fu (ac (gt ho x.dat x.fit ?_));dsimp only;rw[byScan_of (x:=.str y tk) rfl x.bnd el];simp only[↓reduceIte];unfold setAddByScan;refine ac (ac (gJ (ac (wpAny_setScan_of (knd:=bM prog w) (k:=.inr y) (oW prog w y tk) ho x.dat x.fit el ?_))));cases hr:List.findIdx? (fun e=>(bM prog w).is (.inr y) e.2) es.toList with
 | some j=>
  dsimp only;refine aj (aj ?_);have hy:=x.find_some hr;exact h false s.heap (Ax a s.heap) (by unfold gy;rw[ai hy];exact⟨o,es,ep,t,ho,x⟩)
 | none=>
  dsimp only;have hy:=x.find_none hr;have ur:=layNew_perm t es (jK w (.inr y)) (.str y tk);have xM:=layNew_fits t es (jK w (.inr y)) (.str y tk);have xN:=aan t es (jK w (.inr y)) (.str y tk);have e0:(bM prog w).hash (.inr y)=jK w (.inr y):=rfl
  try rw[e0]
  generalize hL:layNew t es (jK w (.inr y)) (.str y tk)=L at ur xM xN ⊢;obtain⟨cr,t1,wd,aj7⟩:=L;dsimp only at ur xM xN ⊢;rw[qS]at ur;have gd:∀e∈cr.toList,kM w e:=fun e he=>by
   rcases cU.mp (ur.mem_iff.mp he) with z | z
   . exact x.good e z
   . exact⟨y,tk,bD.mp z⟩
  have ea:gy xs y=xs++[y]:=by unfold gy;rw[af hy]
  have pm:(cr.toList.map ga).Perm (gy xs y):=by
   rw[ea];refine(ur.map ga).trans ?_;rw[gL];exact x.perm.append_right _
  have ne:cr.size≠0:=fun z=>by
   have:=pm.length_eq;rw[ea,aw,cK,z,bf]at this;simp at this
  have ln:(gy xs y).length<=1000:=by have:=xK xs y;omega
  have hgw:∀(b:Bool) {s₁:Shared} {Q':Unit->Shared->Prop},Q' () s₁->wpAny (model prog w) A (match b with | true=>rule "set.scan.the-table-gave-way" | false=>pure ()) Q' E s₁:=fun b s₁ Q' hq=>by
   cases b
   . exact aj hq
   . exact gJ hq
  refine ac (hgw _ ?_);have fin:∀h',Heap.SameBut a s.heap h'->bP w h' a (gy xs y)->wpAny (model prog w) A (pure true:Sem Bool) Q E { s with heap:=h' }:=fun h' k z=>aj (h true h' k z);split
  . refine ac ?_;rw[hashByValue_scannable (x:=.str y tk) 8 rfl];refine aj ?_;refine IN ?_ ho x.ex x.dat gd pm (IM x.nd) ln ?_ ?_ ?_ ne (fun h' k z=>fin h' k z)
    . intro b s₁ Q' hq;cases b
      . exact aj hq
      . exact gJ hq
    . exact SetTable.fits_plain_off xM
    . exact xN.trans x.led
    . rfl
  . rename_i lM;refine ac (aj ?_);simp only[↓reduceIte];refine IN ?_ ho x.ex x.dat gd pm (IM x.nd) ln xM (xN.trans x.led) (by simpa using lM) ne (fun h' k z=>fin h' k z);intro b s₁ Q' hq;cases b
    . exact aj hq
    . exact gJ hq
end
theorem BO{α:Type}:∀{l:List α} {i:Nat} (h:i<l.length),(l[i]::l.eraseIdx i).Perm l
 | [],i,h=>absurd h (qQ _)
 | x::r,0,h=>.refl _
 | x::r,i+1,h=>by
  have h':i<r.length:=by simpa using h
  show(r[i]::x::r.eraseIdx i).Perm _;exact(List.Perm.swap ..).trans ((BO (l:=r) (i:=i) h').cons x)
theorem IQ{α:Type}(next:Nat->Nat):∀(f k:Nat) (left:List α) (out:Array α),f=left.length->(pickOrder.go next f k left out).toList.Perm (out.toList++left)
 | 0,k,left,out,h=>by
  rw[jI.mp h.symm];simp[pickOrder.go]
 | f+1,k,left,out,h=>by
  have hp:next k % left.length<left.length:=wy _ (by omega);unfold pickOrder.go;rw[eJ hp];dsimp only;refine(IQ next f (k+1) _ _ (by rw[ajE hp];omega)).trans ?_;rw[qS,cW];exact oV _ (BO hp)
theorem IR{α:Type}(next:Nat->Nat)(xs:Array α):(pickOrder next xs).toList.Perm xs.toList:=by
 have:=IQ next xs.size 0 xs.toList #[] (by simp);simpa [pickOrder]using this
section
variable {prog:Program} {w:World} {A:Around} {E:VP} {s:Shared} {a:Addr}
theorem aar{n:Nat}(hn:n≠0){Q:Nat->Shared->Prop}(h:∀i d,i<n->Q i { s with drawn:=d }):wpAny (model prog w) A (choose .order n) Q E s:=fun Γ p hΓ=>by
 unfold choose;rw[Sem.wp_choose];refine⟨hn,?_⟩;simp only[Sem.wp_pure];exact h _ _ (wy _ (Ay hn))
theorem IS{α:Type}:∀(n:Nat) (l:List α) (s:Shared) (Q:List α->Shared->Prop),n=l.length->(∀out d,out.Perm l->Q out { s with drawn:=d })->wpAny (model prog w) A (drawOrder n l) Q E s
 | 0,l,s,Q,hn,h=>by
  have hl:=jI.mp hn.symm;subst hl;exact aj (h [] s.drawn .nil)
 | n+1,l,s,Q,hn,h=>by
  cases l with
  | nil=>cases hn
  | cons x r=>
   show wpAny _ _ (choose .order (x::r).length >>= _) _ _ _;refine ac (aar (by simp) fun i d hi=>?_);rw[eJ hi];dsimp only;refine ac (IS n ((x::r).eraseIdx i) _ _ (by rw[ajE hi];simp at hn ⊢;omega) fun out d2 hp=>aj ?_);exact h _ d2 ((hp.cons _).trans (BO hi))
end
def gz(h:Heap)(it a:Addr)(ep n:Nat)(f:Value)(i:Nat):Prop:=∃o,h.get? it=some o/\o.cls = .type "set_iterator"/\o.data = .fields #[f,rawInt i,.ref a,rawInt n,rawInt ep]
theorem gz.at'{h h':Heap}{it a:Addr}{ep n i:Nat}{f:Value}(x:gz h it a ep n f i)(k:∀o,h.get? it=some o->h'.get? it=some o):gz h' it a ep n f i:=x.elim fun o aas=>aas.elim fun e r=>⟨o,k _ e,r⟩
theorem gz.typeIs{s:Shared}{it a:Addr}{ep n i:Nat}{f:Value}(x:gz s.heap it a ep n f i):s.TypeIs (.ref it) "set_iterator":=x.elim fun o aat=>aat.elim fun e aau=>aau.elim fun r _=>⟨o,e,r⟩
inductive Md (w:World) (h:Heap) (I a T:Addr) (es:Array (Int×Value)) (ep:Nat) (t:SetTable) (os:List (Int×Value)) (i:Nat):Prop
 | text (b:ed w=true) (e:os=(pickOrder (w.params.setOrder a ep) es).toList) (x:gz h I a ep es.size (rawInt 0) i)
 | draw (pl:List Nat) (b:ed w=false) (e:os.length=pl.length/\∀(k j:Nat),pl[k]? = some j->os[k]? = es[j]?) (x:gz h I a ep es.size (.ref T) i) (y:∃o n,h.get? T=some o/\o.data = .seq (pl.map fun j=>rawInt (j:Nat)).toArray n) (z:I≠T)
 | tab (sl:Nat) (b:ed w=false) (l:es.size<=1) (e:os=es.toList) (x:gz h I a ep es.size (rawInt sl) i) (y:SetTable.below t.place sl=i)
def rE(w:World)(I a T:Addr)(os:List (Int×Value))(i:Nat)(h:Heap):Prop:=∃o es ep t xs,h.get? a=some o/\dn w o es ep t xs/\os.Perm es.toList/\I≠a/\Md w h I a T es ep t os i
section
variable {prog:Program} {w:World} {A:Around} {E:VP} {s:Shared} {a it:Addr}
theorem BP{ep n i:Nat}{f v:Value}{Q:Unit->Shared->Prop}(x:gz s.heap it a ep n f i)(q:∀h',Heap.SameBut it s.heap h'->gz h' it a ep n v i->Q () { s with heap:=h' }):wpAny (model prog w) A (setField (.ref it) 0 v) Q E s:=by
 obtain⟨o,ho,hc,hd⟩:=x;exact ON ho hd (by simp) (q _ (kf ..) ⟨_,Aw _ ho (ajF (F9 hd _)),(Obj.cls_mapFields ..).trans hc,by rw[F9 hd];simp⟩)
theorem BQ{ep n i:Nat}{f:Value}{Q:Unit->Shared->Prop}(x:gz s.heap it a ep n f i)(q:∀h',Heap.SameBut it s.heap h'->gz h' it a ep n f (i+1)->Q () { s with heap:=h' }):wpAny (model prog w) A (setField (.ref it) 1 (rawInt ((i:Int)+1))) Q E s:=by
 obtain⟨o,ho,hc,hd⟩:=x;exact ON ho hd (by simp) (q _ (kf ..) ⟨_,Aw _ ho (ajF (F9 hd _)),(Obj.cls_mapFields ..).trans hc,by rw[F9 hd];simp[rawInt]⟩)
theorem BR{ep n i:Nat}{f:Value}{R:PySem.Fin->Shared->Prop}{E':VP}(hh:A.handled=none)(x:gz s.heap it a ep n f i)
 (q:∀h' e,Heap.ExtBut it s.heap h'->Shared.TypeIs { s with heap:=h' } e "StopIteration"->E' e { s with heap:=h' }):wpAny (model prog w) A.in1 (do { setField (.ref it) 2 .none;raiseNew (←newExc (.type "StopIteration") []) }) R E' s:=by
 obtain⟨o,ho,hc,hd⟩:=x;refine ac (ON ho hd (by simp) ?_);show wpAny _ _ (newExc (.type "StopIteration") [] >>= _) _ _ _;refine ac ?_;simp only[newExc,newTuple];refine ac (ww ?_ (by size_fits));refine ac (m:=firstArgMember _ _) (wpAny_of_eq (a:=Value.none) (by first | rfl | (simp only[firstArgMember];rfl)) ?_);refine ww ?_ (by size_fits);simp only[raiseNew];refine ac (wpAny_handled ?_);rw[show A.in1.handled=none from hh];refine ac (aj (wpAny_throw ?_));refine q _ _ (((kf ..).extBut.push _).push _) ?_;exact⟨_,dv _ rfl,rfl⟩
theorem IT(j:Nat):SetTable.below #[j] 0=0/\SetTable.below #[j] (j+1)=1:=by
 constructor
 . simp[SetTable.below,SetTable.below.go]
 . simp[SetTable.below,SetTable.below.go]
theorem IU{o:Obj}{es:Array (Int×Value)}{ep:Nat}{t:SetTable}{i:Nat}{Q:Option (Value×Nat)->Shared->Prop}(b:ed w=true)(ho:s.heap.get? a=some o)(hd:o.data = .set es ep t)(hf:t.fits es.size=true)
 (q:Q (((pickOrder (w.params.setOrder a ep) es)[i]?).map fun e=>(e.2,0)) s):wpAny (model prog w) A (setNext a 0 i ep) Q E s:=by
 have hb:w.params.followText "set-order" = true:=b;unfold setNext;refine ac (gt ho hd hf ?_);refine ac (m:=setsByText) (ac (mI (aj ?_)));show wpAny _ _ (if w.params.followText "set-order" = true then _ else _) _ _ s;rw[ai hb,af (show ¬((ep != ep)=true) by simp)];refine ac ?_;unfold setWalk;refine ac (gt ho hd hf ?_);refine ac (m:=setsByText) (ac (mI (aj ?_)));show wpAny _ _ (if w.params.followText "set-order" = true then _ else _) _ _ s;rw[ai hb];exact ac (mI (aj (aj q)))
theorem IV{o:Obj}{es:Array (Int×Value)}{ep:Nat}{t:SetTable}{sl i:Nat}{Q:Option (Value×Nat)->Shared->Prop}(b:ed w=false)(ho:s.heap.get? a=some o)(hd:o.data = .set es ep t)(hf:t.fits es.size=true)(hl:t.led = !ed w)(l:es.size<=1)
 (q:Q (match es[SetTable.below t.place sl]?,t.place[SetTable.below t.place sl]? with | some (_,x),some j=>some (x,j+1) | _,_=>none) s):wpAny (model prog w) A (setNext a sl i ep) Q E s:=by
 have hb:w.params.followText "set-order" = false:=b;unfold setNext;refine ac (gt ho hd hf ?_);refine ac (m:=setsByText) (ac (mI (aj ?_)));show wpAny _ _ (if w.params.followText "set-order" = true then _ else _) _ _ s;rw[af (by rw[hb];exact bB)];show wpAny _ _ (if (!t.plain && decide (es.size > 1))=true then _ else _) _ _ s;rw[af (by rw[aU (by omega),mH];exact bB)];show wpAny _ _ ((if (!t.led && !es.isEmpty)=true then _ else _) >>= _) _ _ s;rw[af (by rw[hl,b];exact bB)];exact ac (aj (aj q))
theorem rF{ep n i:Nat}{f:Value}{o:Obj}{es:Array (Int×Value)}{t:SetTable}{Q:Option Value->Shared->Prop}(x:gz s.heap it a ep es.size f i)(ho:s.heap.get? a=some o)(hd:o.data = .set es ep t)(hf:t.fits es.size=true)
 {E1:VP}
 (q:wpAny (model prog w) A.in1 (if let .int slot _:=f then
  (do
   match ←setNext a slot.toNat i ep with
   | some (x,next)=>setField (.ref it) 0 (rawInt next);setField (.ref it) 1 (rawInt ((i:Int)+1));ret x
   | none=>setField (.ref it) 2 .none;raiseNew (←newExc (.type "StopIteration") []))
  else(do
   let some places ←seqItems? f | unsupported "internal:set_iterator"
   match places[i]? with
   | some (.int place _)=>let x ←setNextDrawn a place.toNat ep;setField (.ref it) 1 (rawInt ((i:Int)+1));ret x
   | some _=>unsupported "internal:set_iterator"
   | none=>setField (.ref it) 0 (rawInt 0);setField (.ref it) 2 .none;raiseNew (←newExc (.type "StopIteration") [])))
  (fun fin s'=>∃v,fin = .done (.ret v)/\Q (some v) s') (fun e s'=>Shared.TypeIs s' e "StopIteration"/\Q none s') s) :
 wpAny (model prog w) A (pyNext (.ref it)) Q E s:=by
 obtain⟨oi,hoi,hc,hdi⟩:=id x;unfold pyNext;refine ac (wpAny_attempt (wpAny_callSpecial?_slot (name:=Str.ofString "__next__") x.typeIs xF (mE xF x.typeIs ZV ?_ (ZY _))));unfold Builtin.«set_iterator.__next__»;refine ac (aj ?_);refine ac (wpAny_fieldsOf hoi hdi ?_);show wpAny _ _ (setEntries a >>= _) _ _ s;unfold setEntries;refine ac (ac (gt ho hd hf (aj ?_)));dsimp only;rw[af (by simp)];refine df q (fun fin s' z=>?_) (fun e s' z=>?_)
 . obtain⟨v,rfl,z⟩:=z;exact⟨v,rfl,aj z⟩
 . exact ac (lm (T:="StopIteration") (b:=true) z.1 isSubtype_stop (aj z.2))
end
section
variable {prog:Program} {w:World} {A:Around} {E:VP} {s:Shared} {a I T:Addr}
theorem Md.keep{h h':Heap}{es:Array (Int×Value)}{ep:Nat}{t:SetTable}{os:List (Int×Value)}{i:Nat}(x:Md w h I a T es ep t os i)(k:∀b,b=I\/b=T->∀o,h.get? b=some o->h'.get? b=some o):Md w h' I a T es ep t os i:=by
 cases x with
 | text b e x=>exact .text b e (x.at' (k I (.inl rfl)))
 | draw pl b e x y z=>
  obtain⟨o,n,e1,e2⟩:=y;exact .draw pl b e (x.at' (k I (.inl rfl))) ⟨o,n,k T (.inr rfl) o e1,e2⟩ z
 | tab sl b l e x y=>exact .tab sl b l e (x.at' (k I (.inl rfl))) y
theorem aax{os:List (Int×Value)}{i:Nat}{e:Int×Value}{Q:Option Value->Shared->Prop}(x:rE w I a T os i s.heap)(hi:os[i]? = some e)(q:∀h',Heap.SameBut I s.heap h'->rE w I a T os (i+1) h'->Q (some e.2) { s with heap:=h' }) :
 wpAny (model prog w) A (pyNext (.ref I)) Q E s:=by
 obtain⟨o,es,ep,t,xs,ho,X,pm,rG,m⟩:=x;have done:∀h',Heap.SameBut I s.heap h'->Md w h' I a T es ep t os (i+1)->Q (some e.2) { s with heap:=h' }:=fun h' k m'=>q h' k ⟨o,es,ep,t,xs,by rw[k.2 a (fun z=>rG z.symm)];exact ho,X,pm,rG,m'⟩;cases m with
 | text b eo x=>
  have gY:(pickOrder (w.params.setOrder a ep) es)[i]? = some e:=by rw[eo,ly]at hi;exact hi
  refine rF (E1:=E) (n:=0) x ho X.dat X.fit ?_;show wpAny _ _ (setNext a 0 i ep >>= _) _ _ _;refine ac (IU b ho X.dat X.fit ?_);rw[gY];refine ac (BP x fun h1 k1 x1=>ac (BQ (s:={ s with heap:=h1 }) x1 fun h2 k2 x2=>aj ⟨_,rfl,done h2 (k1.trans k2) (.text b eo x2)⟩))
 | draw pl b eo x y z=>
  obtain⟨oT,nT,hT,xO⟩:=y;have aP:i<pl.length:=by
   rw[←eo.1];exact(bZ.mp hi).1
  have bo:pl[i]? = some pl[i]:=eJ aP;have he:es[pl[i]]? = some e:=(eo.2 i _ bo).symm.trans hi;refine rF (E1:=E) (n:=0) x ho X.dat X.fit ?_;show wpAny _ _ (seqItems? (.ref T) >>= _) _ _ _;refine ac (qL hT xO ?_);have BS:(pl.map fun j=>rawInt (j:Nat)).toArray[i]? = some (rawInt (pl[i]:Nat)):=by simp[aP]
  dsimp only;rw[BS];show wpAny _ _ (setNextDrawn a pl[i] ep >>= _) _ _ _;refine ac ?_;unfold setNextDrawn;refine ac (gt ho X.dat X.fit ?_);dsimp only;rw[af (show ¬((ep != ep)=true) by simp),he];refine aj ?_;refine ac (BQ x fun h2 k2 x2=>aj ⟨_,rfl,done h2 k2 (.draw pl b eo x2 ⟨oT,nT,by rw[k2.2 T (fun q=>z q.symm)];exact hT,xO⟩ z)⟩)
 | tab sl b l eo x y=>
  have hz:es.size=1/\i=0:=by
   rw[eo]at hi;have:=(bZ.mp hi).1;rw[cK]at this;omega
  have BU:es[i]? = some e:=by rw[eo,ly]at hi;exact hi
  have aR:t.place.size=1:=by
   have:=X.fit;unfold SetTable.fits at this;simp only[j9,ij]at this;omega
  obtain⟨j,hj⟩:∃j,t.place = #[j]:=by
   rcases hp:t.place with⟨l⟩
   rw[hp]at aR
   match l,aR with
   | [j],_=>exact⟨j,rfl⟩
  refine rF (E1:=E) (n:=0) x ho X.dat X.fit ?_;show wpAny _ _ (setNext a sl i ep >>= _) _ _ _;refine ac (IV b ho X.dat X.fit X.led l ?_);have pE:t.place[i]? = some j:=by rw[hj,hz.2];rfl
  rw[y,BU,pE];refine ac (BP x fun h1 k1 x1=>ac (BQ (s:={ s with heap:=h1 }) x1 fun h2 k2 x2=>aj ⟨_,rfl,done h2 (k1.trans k2) (.tab (j+1) b l eo x2 (by rw[hj,(IT j).2,hz.2]))⟩))
theorem aay{os:List (Int×Value)}{Q:Option Value->Shared->Prop}(hh:A.handled=none)(x:rE w I a T os os.length s.heap)(q:∀h',Heap.ExtBut I s.heap h'->Q none { s with heap:=h' }):wpAny (model prog w) A (pyNext (.ref I)) Q E s:=by
 obtain⟨o,es,ep,t,xs,ho,X,pm,rG,m⟩:=x;have hn:os.length=es.size:=by rw[pm.length_eq,cK]
 have hq:∀h' e,Heap.ExtBut I s.heap h'->Shared.TypeIs { s with heap:=h' } e "StopIteration"->Shared.TypeIs { s with heap:=h' } e "StopIteration"/\Q none { s with heap:=h' }:=fun h' e k z=>⟨z,q h' k⟩;cases m with
 | text b eo x=>
  refine rF (E1:=E) (n:=0) x ho X.dat X.fit ?_;show wpAny _ _ (setNext a 0 os.length ep >>= _) _ _ _;refine ac (IU b ho X.dat X.fit ?_);have gY:(pickOrder (w.params.setOrder a ep) es)[os.length]? = none:=by
   have:(pickOrder (w.params.setOrder a ep) es).toList[os.length]? = none:=by rw[←eo];simp
   rwa [ly]at this
  rw[gY];exact BR hh x hq
 | draw pl b eo x y z=>
  obtain⟨oT,nT,hT,xO⟩:=y;refine rF (E1:=E) (n:=0) x ho X.dat X.fit ?_;show wpAny _ _ (seqItems? (.ref T) >>= _) _ _ _;refine ac (qL hT xO ?_);have BS:(pl.map fun j=>rawInt (j:Nat)).toArray[os.length]? = none:=by simp[eo.1]
  dsimp only;rw[BS];refine ac (BP x fun h1 k1 x1=>?_);refine BR (s:={ s with heap:=h1 }) hh x1 fun h' e k z=>hq h' e (k1.extBut.trans k) z
 | tab sl b l eo x y=>
  refine rF (E1:=E) (n:=0) x ho X.dat X.fit ?_;show wpAny _ _ (setNext a sl os.length ep >>= _) _ _ _;refine ac (IV b ho X.dat X.fit X.led l ?_);have BU:es[os.length]? = none:=by rw[hn];simp
  rw[y,BU];exact BR hh x hq
theorem aaz(hh:A.handled=none)(I a T:Addr)(os:List (Int×Value)):Walks prog w A I [I,a,T] [I] os.length (fun i v=>∃e,os[i]? = some e/\v=e.2) (fun i h=>rE w I a T os i h) where
 sub:=fun b hb=>by simp at hb;simp[hb]
 frame:=fun i h h' st hk=>by
  obtain⟨o,es,ep,t,xs,ho,X,pm,rG,m⟩:=st;exact⟨o,es,ep,t,xs,hk a (by simp) o ho,X,pm,rG,m.keep fun b hb o e=>hk b (by rcases hb with rfl | rfl<;>simp) o e⟩
 item:=fun i s Q E hi st hQ=>by
  refine aax st (eJ hi) fun h' k al=>?_;exact hQ _ h' s.toks ⟨_,eJ hi,rfl⟩ al fun b o hb e=>k.extBut b o (fun h=>hb (by simp[h])) e
 done:=fun s Q E st hQ=>aay hh st fun h' kN=>hQ h' s.toks fun b o hb e=>kN b o (fun h=>hb (by simp[h])) e
 self:=fun i s Q E st hQ=>by
  obtain⟨o,es,ep,t,xs,ho,X,pm,rG,m⟩:=st;have hT:s.TypeIs (.ref I) "set_iterator":=by
   cases m with
   | text b e x=>exact x.typeIs
   | draw pl b e x y z=>exact x.typeIs
   | tab sl b l e x y=>exact x.typeIs
  refine wpAny_pyIter_slot hT Ig (mE Ig hT ZW ?_ (ZZ _));show wpAny _ _ (ret (.ref I)) _ _ s;exact aj ⟨_,rfl,"set_iterator",_,hT,xF.lookup,hQ⟩
theorem IW{es:Array (Int×Value)}:∀{pl:List Nat},(∀j∈pl,j<es.size)->(pl.filterMap (es[·]?)).length=pl.length/\∀(k j:Nat),pl[k]? = some j->(pl.filterMap (es[·]?))[k]? = es[j]?
 | [],_=>⟨rfl,fun k j h=>by cases h⟩
 | p::r,h=>by
  have aR:p<es.size:=h p (by simp);have hp:es[p]? = some es[p]:=oU aR;obtain⟨h1,h2⟩:=IW (pl:=r) fun j hj=>h j (cT _ hj);rw[List.filterMap_cons_some hp];refine⟨by simp[h1],fun k j hk=>?_⟩;cases k with
  | zero=>cases hk;exact hp.symm
  | succ k=>exact h2 k j hk
theorem aaA{xs:Ls}{Q:VP}(x:bP w s.heap a xs)(hQ:∀I T d h' os,s.heap.objs.size<=I->(∀b o,s.heap.get? b=some o->h'.get? b=some o)->(T=a\/s.heap.objs.size<=T)->rE w I a T os 0 h'->(os.map ga).Perm xs->(∀e∈os,kM w e)->Q (.ref I) { s with heap:=h',drawn:=d }) :
 wpAny (model prog w) A (pyIter (.ref a)) Q E s:=by
 obtain⟨o,es,ep,t,ho,X⟩:=id x;have aP:=aT ho;refine wpAny_pyIter_slot x.typeIs ajG (mE ajG x.typeIs ZX ?_ (PySem.F.args_set_iter_1 _));unfold Builtin.«frozenset.__iter__»;refine ac (m:=Builtin.Frozenset.slot0 _ _) (aj ?_);refine ac ?_;unfold Builtin.Frozenset.sizeOf setEntries;refine ac (ac (gt ho X.dat X.fit (aj (aj ?_))));refine ac ?_;unfold setDrawn;refine ac (gt ho X.dat X.fit ?_);refine ac (m:=setsByText) (ac (mI (aj ?_)));show wpAny _ _ (pure (!ed w && (!t.plain && decide (es.size > 1)))) _ _ _;refine aj ?_;have fin:∀(f:Value) (d:_) (h1:Heap),(∀b o,s.heap.get? b=some o->h1.get? b=some o)->s.heap.objs.size<=h1.objs.size ->
  (∀h',(∀b o,h1.get? b=some o->h'.get? b=some o)->gz h' h1.objs.size a ep es.size f 0->h1.objs.size<h'.objs.size->∃T os,(T=a\/s.heap.objs.size<=T)/\os.Perm es.toList/\Md w h' h1.objs.size a T es ep t os 0) ->
  wpAny (model prog w) A.in1 (setEpoch a >>= fun e=>newFields "set_iterator" [f,rawInt 0,.ref a,rawInt es.size,rawInt e] >>= fun v=>ret v) (fun fin s'=>∃v,fin = .done (.ret v)/\∃T r,s'.TypeIs v T/\typeLookup (.type T) "__next__" = pure (some r)/\Q v s') E { s with heap:=h1,drawn:=d }:=by
  intro f d h1 k1 hz hm;refine ac ?_;unfold setEpoch;refine ac (gt (s:={ s with heap:=h1,drawn:=d }) (k1 a o ho) X.dat X.fit (aj ?_));refine ac (ww ?_);have ht:gz (h1.push { cls:=.type "set_iterator",data:=.fields #[f,rawInt 0,.ref a,rawInt es.size,rawInt ep] }) h1.objs.size a ep es.size f 0:=⟨_,dv _ rfl,rfl,rfl⟩;obtain⟨T,os,hT,pm,m⟩:=hm _ (fun b o e=>bg _ e) ht (by rw[lu];exact sY _);refine aj ⟨_,rfl,"set_iterator",_,ht.typeIs (s:={ s with heap:=_,drawn:=d }),xF.lookup,?_⟩;refine hQ h1.objs.size T d _ os hz (fun b o e=>bg _ (k1 b o e)) hT ⟨o,es,ep,t,xs,bg _ (k1 a o ho),X,pm,jF (fw aP hz),m⟩ ((pm.map ga).trans X.perm) fun e he=>X.good e (pm.mem_iff.mp he)
 cases hb:(!ed w && (!t.plain && decide (es.size > 1))) with
 | false=>
  rw[af bB];refine ac (m:=pure (rawInt 0)) (aj ?_);refine fin (rawInt 0) s.drawn s.heap (fun b o e=>e) (av _) fun h' k ht hl=>?_;cases hw:ed w with
  | true=>exact⟨a,_,.inl rfl,IR _ _,.text hw rfl ht⟩
  | false=>
   have hs:es.size<=1:=by
    refine wu fun z=>?_;rw[hw,X.pl (by omega),aL (by omega:es.size > 1)]at hb;cases hb
   refine⟨a,_,.inl rfl,.refl _,.tab 0 hw hs rfl ht ?_⟩;have aR:t.place.size=es.size:=by
    have:=X.fit;unfold SetTable.fits at this;simp only[j9,ij]at this;exact this.1
   rcases hp:t.place with⟨l⟩
   rw[hp]at aR
   match l,aR with
   | [],_=>rfl
   | [j],_=>exact(IT j).1
   | _::_::_,z=>simp at z;omega
 | true=>
  have hw:ed w=false:=by cases hw:ed w with | false=>rfl | true=>rw[hw]at hb;cases hb
  rw[ai rfl];refine ac (IS es.size (List.range es.size) s _ (by simp) fun pl d hp=>?_);have hsz:es.size<=sizeLine:=tD X.bnd;refine ac (OO ?_ (by rw[aw,hp.length_eq,oS];exact hsz));have bo:∀j∈pl,j<es.size:=fun j hj=>lr.mp (hp.mem_iff.mp hj);obtain⟨g1,g2⟩:=IW bo;refine fin (.ref s.heap.objs.size) d (s.heap.push { cls:=.type "tuple",data:=.seq (pl.map fun(i:Nat)=>rawInt i).toArray }) (fun b o e=>bg _ e) (by rw[lu];exact sZ _) fun h' k ht hl=>?_;refine⟨s.heap.objs.size,pl.filterMap (es[·]?),.inr (av _),?_,.draw pl hw ⟨g1,g2⟩ ht ⟨_,0,k _ _ (dv _ rfl),rfl⟩ (jF (by rw[lu];exact sY _))⟩;exact(hp.filterMap _).trans (by rw[ajH])
end
theorem BV{w:World}:∀{os:List (Int×Value)},(∀e∈os,kM w e)->StrsAre (os.map (·.2)) (os.map ga)
 | [],_=>.nil
 | e::r,h=>by
  obtain⟨y,tk,rfl⟩:=h e (by simp);exact .cons y tk (BV fun e he=>h e (cT _ he))
section
variable {prog:Program} {w:World} {A:Around} {E:VP} {s:Shared} {a:Addr}
theorem aaB{xs:Ls}{R:Result->Shared->Prop}(hh:A.handled=none)(x:bP w s.heap a xs)(S:Addr)(BW:S≠a)(res:Value)(c₀:Nat)(hS:s.heap.get? S=some { cls:=.type "list",data:=.seq #[] c₀ })
 (hR:∀(h':Heap) (tk:Nat) (d:Drawn) (os:List (Int×Value)) (acc:Av) (c':Nat),(∀b o,b≠S->s.heap.get? b=some o->h'.get? b=some o)->h'.get? S=some { cls:=.type "list",dict:=none,data:=.seq acc c',slots:=#[] }->acc.toList=os.map (·.2)->(os.map ga).Perm xs->(∀e∈os,kM w e)->R (.ok (.ret res)) { s with heap:=h',toks:=tk,drawn:=d }) (hn:xs.length<=sizeLine) :
 wpAny (model prog w) A.in1 (Builtin.List.listExtendWith (.ref S) (.ref a) res) (fun fin s'=>match fin with | .done f=>R (.ok f) s' | .again c'=>c'.quiet=true/\codeAny (model prog w) A c' R s') (fun e s'=>R (.error e) s') s:=by
 unfold Builtin.List.listExtendWith;refine ac (wx (T:="set") x.typeIs ?_);have h1:Builtin.List.listSameRef (.ref S) (.ref a)=false:=by simp[Builtin.List.listSameRef,BW]
 have h2:(Value.type "set" == Value.type "list")=false:=by decide
 have h3:(Value.type "set" == Value.type "tuple")=false:=by decide
 simp only[h1,h2,h3,FO,jd,ii];refine ac (aaA x fun I T d hp os hI kp hT st pm gd=>?_);have ut:=aT hS;have ln:os.length=xs.length:=by have:=pm.length_eq;rwa [aw]at this
 have hST:S≠T:=fun z=>hT.elim (fun q=>BW (z.trans q)) fun q=>absurd (fw (z▸ut) q) (j8 _);have uu:S∉[I,a,T]:=by
  simp only[bh,Az,AA,not_or];exact⟨bH (fw ut hI),BW,hST⟩
 have W:=aaz (prog:=prog) (w:=w) (A:=A.in1) hh I a T os;have key:∀(h:Heap) (c₁ tk:Nat),rE w I a T os 0 h->(∀b o,b≠S->s.heap.get? b=some o->h.get? b=some o)->h.get? S=some { cls:=.type "list",data:=.seq #[] c₁ } ->
  codeAny (model prog w) A (.builtin "list.extend.loop" ⟨[.ref S,.ref I,res],[]⟩) R { s with heap:=h,toks:=tk,drawn:=d }:=by
  intro h c₁ tk fC hk uv;refine codeAny_extend_loopS W.toS (by omega) S uu res os.length 0 _ #[] c₁ rfl (cj _) fC uv (ItemsOf.nil _) fun s' IX c' hm gx pC=>?_;rw[Moved.eq_with hm];refine hR s'.heap s'.toks d os IX c' (fun b o hb e=>hm.heap b o (fun pF=>?_) (hk b o hb e)) gx ?_ pm gd
  . rcases bh.mp pF with e' | pF
    . exact hb e'
    . have aP:=aT e;rw[bD.mp pF]at aP;exact absurd (fw aP hI) (j8 _)
  . refine List.ext_getElem? fun j=>?_;rw[ly,bT]
    by_cases hj:j<os.length
    . have IY:j<IX.size:=by rw[pC.1];exact hj
      obtain⟨e,he,hv⟩:=pC.2 j _ (oU IY);rw[he,oU IY,hv];rfl
    . rw[F8 (by rw[pC.1];omega),OM (by omega)];rfl
 have uv:=kp _ _ hS;refine ac (fu (Z1 (bP.typeIs (s:={ s with heap:=hp,drawn:=d }) (x.at' fun o e=>kp a o e)) ?_));refine F6 (fun _=>?_) (fun _=>aj ⟨gM ajI _,key _ c₀ _ st (fun b o _ e=>kp b o e) uv⟩);refine ac (gJ (ac ?_));show wpAny _ _ (updateSeq S (·.push .none) >>= fun _=>updateSeq S (·.pop)) _ _ _;refine ac (AB (s:={ s with heap:=hp,drawn:=d }) uv rfl ?_);have IZ:=Aw (Obj.mapSeq (·.push Value.none)) uv rfl;refine AB (hz:=by seq_fits) IZ rfl ?_;have hS₃:=Aw (Obj.mapSeq (·.pop)) IZ rfl;refine aj ⟨gM ajI _,key _ _ _ (W.frame 0 _ _ st fun b hb o e=>?_) (fun b o hb e=>?_) hS₃⟩
 . have I8:b≠S:=fun h=>uu (h▸hb);exact(Al _ _ (dQ I8)).trans ((Al _ _ (dQ I8)).trans e)
 . exact(Al _ _ (dQ hb)).trans ((Al _ _ (dQ hb)).trans (kp b o e))
theorem aaE{xs:Ls}{R:Lw->Shared->Prop}(hh:A.handled=none)(x:bP w s.heap a xs)
 (h:∀(h':Heap) (tk:Nat) (d:Drawn) (us:Lw) (ys:Ls),(∀b o,s.heap.get? b=some o->h'.get? b=some o)->StrsAre us ys->ys.Perm xs->R us { s with heap:=h',toks:=tk,drawn:=d }) (hn:xs.length<=sizeLine):wpAny (model prog w) A (collect (.ref a)) R E s:=by
 obtain⟨o,_,_,_,ho,_⟩:=id x;have aP:=aT ho;unfold collect;refine ac (wpAny_runValue (gN PyProof.Rows.entry_proto_collect' ?_));rw[il PySem.F.plain_proto_collect _];show wpAny _ A.in1 (newList [] >>= fun l=>again (.builtin "list.__iadd__" ⟨[l,.ref a],[]⟩)) _ _ s;refine ac (ww (aj ⟨gM ajJ _,gN PyProof.Rows.entry_list_iadd' ?_⟩));rw[il ajJ _];show wpAny _ A.in1 (Builtin.List.listExtendWith (.ref s.heap.objs.size) (.ref a) (.ref s.heap.objs.size)) _ _ _;have key:=aaB (prog:=prog) (A:=A) (s:={ s with heap:=s.heap.push { cls:=.type "list",data:=.seq ([]:Lw).toArray } })
  (R:=fun(q:Result) (s':Shared)=>∃(h':Heap) (tk:Nat) (d:Drawn) (os:List (Int×Value)) (acc:Av) (c':Nat),q = .ok (.ret (.ref s.heap.objs.size))/\s' = { s with heap:=h',toks:=tk,drawn:=d }/\(∀b o,s.heap.get? b=some o->h'.get? b=some o) /\
   h'.get? s.heap.objs.size=some { cls:=.type "list",dict:=none,data:=.seq acc c',slots:=#[] }/\acc.toList=os.map (·.2)/\(os.map ga).Perm xs/\∀e∈os,kM w e)
  hh (x.at' fun o e=>bg _ e) s.heap.objs.size (jF aP) (.ref s.heap.objs.size) 0 (dv _ rfl)
  (fun h' tk d os acc c' hk gx e1 e2 e3=>⟨h',tk,d,os,acc,c',rfl,rfl,fun b o e=>hk b o (bH (aT e)) (bg _ e),gx,e1,e2,e3⟩) hn
 refine df key (fun fin s' z=>?_) fun e s' z=>?_
 . cases fin with
   | done f=>
    obtain⟨h',tk,d,os,acc,c',e,rfl,hk,gx,e1,e2,e3⟩:=z;cases e;show wpAny _ A (load s.heap.objs.size >>= _) _ _ _;refine ac (wpAny_load (s:={ s with heap:=h',toks:=tk,drawn:=d }) gx (aj ?_));exact h h' tk d _ _ hk (by rw[e1];exact BV e3) e2
   | again c₁=>
    refine⟨z.1,oP z.2 fun q s₂ y=>?_⟩;obtain⟨h',tk,d,os,acc,c',rfl,rfl,hk,gx,e1,e2,e3⟩:=y;show wpAny _ A (load s.heap.objs.size >>= _) _ _ _;refine ac (wpAny_load (s:={ s with heap:=h',toks:=tk,drawn:=d }) gx (aj ?_));exact h h' tk d _ _ hk (by rw[e1];exact BV e3) e2
 . obtain⟨_,_,_,_,_,_,e',_⟩:=z;cases e'
theorem aaF{r:Addr}{Q:VP}(py:wpAny (model prog w) A.in1 (collect (.ref r)) (fun us s'=>∃(ys:Ls) (h':Heap) (tk:Nat) (d:Drawn),s' = { s with heap:=h',toks:=tk,drawn:=d }/\StrsAre us ys/\us.length<64 /\
 ∀(h2:Heap) (out:Lw) (aJ:Ls) (e:Nat),(∀b o,h'.get? b=some o->h2.get? b=some o)->h2.get? h'.objs.size=some (seqObj "list" out.toArray e)->StrsAre out aJ->aJ.Perm ys->sortedS aJ=true->Q (.ref h'.objs.size) { s with heap:=h2,toks:=tk,drawn:=d }) E s) :
 wpAny (model prog w) A (call (.builtin "sorted") [.ref r]) Q E s:=by
 refine FV FW FX FY (FZ _) ?_;unfold Builtin.«sorted»;refine ac (m:=checkCount "sorted" 1 1 _) (aj ?_);refine ac (df py (fun us s' aaG=>aaG.elim fun ys aaH=>aaH.elim fun h' aaI=>aaI.elim fun tk aaJ=>aaJ.elim fun d aaK=>aaK.elim fun es aaL=>aaL.elim fun hS aaM=>aaM.elim fun pA fin=>?_) fun _ _ e=>e);subst es;refine ac (tz ?_ (by rw[iI];omega));have fZ:(h'.push (seqObj "list" us.toArray 0)).get? h'.objs.size=some (seqObj "list" us.toArray 0):=dv _ rfl;show wpAny _ _ _ _ _ { s with heap:=h'.push (seqObj "list" us.toArray 0),toks:=tk,drawn:=d };refine ac (fu (mE F0 ⟨_,fZ,rfl⟩ F1 (list_sort_treeK strKind_oneLt fZ hS.keysOf (fun v₁ v₂ rest e=>keyKind_strs (by rw[←e];exact hS)) pA fun al a1 a2=>⟨_,rfl,?_⟩) (F2 _)));obtain⟨aJ,h1,h2,h3⟩:=sorted_out_str hS a1 a2;obtain⟨e,he⟩:=F3 (vs:=us) (out:=(arrOf al).map (·.2)) fZ;refine aj ⟨_,rfl,fin _ ((arrOf al).map (·.2)).toList aJ e (fun b o q=>?_) (by rw[F4];exact he) h1 h2 h3⟩;have hb:=aT q;rw[F5 (bH hb) (by rw[lu];exact Ao hb)];exact bg _ q
end
def kO(w:World)(a:Addr)(xs:Ls):HO:=.ext fun h=>bP w h a xs
theorem BX{P:Program}{w:World}{H:Hp}{h:Heap}{a:Addr}{xs:Ls}(x:bP w h a xs):bN P w H h a (kO w a xs):=
 ⟨x,x.elim fun o aaN=>aaN.elim fun _ aaO=>aaO.elim fun _ aaP=>aaP.elim fun _ aaQ=>aaQ.elim fun e _=>⟨o,e⟩,fun _ _ z k=>z.at' k⟩
theorem BY{P:Program}{w:World}{H:Hp}{h:Heap}{a:Addr}{xs:Ls}(ok:b7 P w H h)(e:H a=some (kO w a xs)):bP w h a xs:=(show bN P w H h a (kO w a xs) from ok a _ e).1
section
variable {X:Cx} {pins:Po} {σ:List (Option V)} {H:Hp} {s:Shared}
theorem Inv.drew{d:Drawn}(I:Inv X pins σ H s):Inv X pins σ H { s with drawn:=d }:=⟨I.ok,I.os,I.bare,I.base,I.loc,I.cell,I.free,I.freeC,I.pin,I.hok,I.len⟩
theorem BZ(hc:X.calm=true):eP X (.builtin "sorted") (fun vs H Q=>∃p xs,vs = [.ref p]/\H p=some (kO X.w p xs)/\xs.length<64/\∀ys,ys.Perm xs->sortedS ys=true->fb H (.lst (ys.map V.str)) Q):=by
 intro pins s σ H xs us Q I r h;obtain⟨p,zs,rfl,e,pA,q⟩:=h;obtain⟨u,rfl,ru⟩:=vals1 r;cases ru;refine aaF (aaE (I.ok.hd hc) (BY I.hok e) (fun h' tk d us ys k hs hp=>?_) (iA (by omega)));have hl:=hp.length_eq;have kH:=OD hs;have I':Inv X pins σ H { s with heap:=h',toks:=tk,drawn:=d }:=(I.kept (t':=tk) k).drew;refine⟨ys,h',tk,d,rfl,hs,by omega,fun h2 out aJ e' k2 he gx cD BE=>?_⟩;have m9:=cD.length_eq;exact⟨.ref h'.objs.size,_,Ic (s:={ s with drawn:=d }) I' k2 he gx (iA (by omega)),rfl,(q aJ (cD.trans hp) BE).at _ (I'.hok.fresh (av _))⟩
end
theorem I9{es:Array (Int×Value)}{order:Array Nat}(hp:order.toList.Perm (List.range es.size)):(order.filterMap (es[·]?)).toList.Perm es.toList:=by
 rw[Array.toList_filterMap];exact(hp.filterMap _).trans (by rw[ajH])
theorem aaR{n:Nat}(h:n<=40):lL (SetTable.sizeAbove n - 1)/\n<=SetTable.sizeAbove n - 1/\SetTable.sizeAbove n<=64:=by
 have hd:(List.range 41).all (fun n=>decide ((SetTable.sizeAbove n - 1=7\/SetTable.sizeAbove n - 1=15\/SetTable.sizeAbove n - 1=31\/SetTable.sizeAbove n - 1=63)/\n<=SetTable.sizeAbove n - 1/\SetTable.sizeAbove n<=64))=true:=by decide +kernel
 unfold lL;exact b0 (gr.mp hd n (lr.mpr (by omega)))
section
variable {prog:Program} {w:World} {A:Around} {E:VP} {s:Shared} {a:Addr}
theorem B0:dn w { cls:=.type "set",dict:=none,data:=.set #[] 0 (.fresh 0 0 (!ed w)) } #[] 0 (.fresh 0 0 (!ed w)) []:=
 ⟨⟨rfl,rfl,rfl⟩,rfl,(fun e he=>by cases he),.nil,.nil,by decide,rfl,rfl,fun h=>absurd rfl h,fun _=>.inl rfl⟩
theorem aaS{o:Obj}{es:Array (Int×Value)}{ep:Nat}{t:SetTable}{xs:Ls}{n:Nat}{Q:Unit->Shared->Prop}(ho:s.heap.get? a=some o)(X:dn w o es ep t xs)(hn:n<=40)(hx:xs.length<=n)
 (q:∀h' o' es' t',Heap.SameBut a s.heap h'->h'.get? a=some o'->dn w o' es' (ep+1) t' xs->n<=t'.mask->Q () { s with heap:=h' }):wpAny (model prog w) A (setRelay a n) Q E s:=by
 obtain⟨m1,m2,m3⟩:=aaR hn;unfold setRelay;refine ac (gt ho X.dat X.fit ?_);dsimp only;have sl:¬(SetTable.sizeAbove n > sizeLine):=by rw[iI];omega
 rw[af sl];have hz:=X.size;have hsz:(es.map (·.1)).size=es.size:=Array.size_map;obtain⟨t',order,e,hp,hf,hl,bo,hm⟩:=IK (mask:=SetTable.sizeAbove n - 1) (f:=t.finger) (m:=t.movedTo (SetTable.sizeAbove n - 1)) (led:=t.led) (plain:=t.plain) (hs:=es.map (·.1)) m1 (by rw[hsz];omega);rw[hsz]at hp hf;have e':t.relaid (es.map (·.1)) n=some (t',order):=e;rw[e'];have pm:=I9 hp;have z1:(order.filterMap (es[·]?)).size=es.size:=by rw[←cK,pm.length_eq,cK]
 refine ac ?_;show wpAny _ _ (if ((order.filterMap (es[·]?)).size != es.size)=true then _ else _) _ _ _;rw[af (by rw[z1];simp)];refine aj ?_;dsimp only;refine wA ho X.dat ?_ (by rw[z1];exact tD X.bnd);refine q _ _ _ t' (kf ..) (dn.store ho X.ex X.dat) ⟨X.ex,rfl,fun e he=>X.good e (pm.mem_iff.mp he),(pm.map ga).trans X.perm,X.nd,X.len,by rw[z1];exact hf,hl.trans X.led,fun z=>bo.trans (X.pl (by rw[←z1];exact z)),fun _=>by rw[hm];exact m1⟩ (by rw[hm];exact m2)
theorem Ja{xs:Ls}{n:Nat}{Q:Unit->Shared->Prop}(x:bP w s.heap a xs)(hn:xs.length+n<=20)
 (q:∀h' o' es' tM t',Heap.SameBut a s.heap h'->h'.get? a=some o'->dn w o' es' tM t' xs->(t'.fill=0->n<=t'.mask)->Q () { s with heap:=h' }):wpAny (model prog w) A (setRoomFor a n) Q E s:=by
 obtain⟨o,es,ep,t,ho,X⟩:=x;have aR:t.place.size=xs.length:=by
  have:=X.fit;unfold SetTable.fits at this;simp only[j9,ij]at this;rw[this.1,X.size]
 unfold setRoomFor;refine ac (gt ho X.dat X.fit ?_);show wpAny _ _ (match t.roomFor n with | some wanted=>setRelay a wanted | x=>pure PUnit.unit) _ _ _;unfold SetTable.roomFor
 by_cases hq:(t.fill+n) * 5 >= t.mask * 3
 . rw[ai hq];refine aaS ho X (by rw[aR];omega) (by rw[aR];omega) fun h' o' es' t' k h1 h2 h3=>q h' o' es' _ t' k h1 h2 fun _=>by rw[aR]at h3;omega
 . rw[af hq];exact aj (q s.heap o es ep t (Ax _ _) ho X fun z=>by rw[z]at hq;omega)
end
section
variable {prog:Program} {w:World} {A:Around} {E:VP} {s:Shared} {a f:Addr}
theorem aaT{o:Obj}{es:Array (Int×Value)}{ep:Nat}{t:SetTable}{xs:Ls}{Q:Array (Int×Value)->Shared->Prop}(ho:s.heap.get? a=some o)(X:dn w o es ep t xs)(c:ed w=true\/es.size<=1)(q:∀arr:Array (Int×Value),arr.toList.Perm es.toList->Q arr s) :
 wpAny (model prog w) A (setWalk a) Q E s:=by
 unfold setWalk;refine ac (gt ho X.dat X.fit ?_);refine ac (m:=setsByText) (ac (mI (aj ?_)));cases hb:ed w with
 | true=>
  have hb:w.params.followText "set-order" = true:=hb;show wpAny _ _ (if w.params.followText "set-order" = true then _ else _) _ _ s;rw[ai hb];exact ac (mI (aj (q _ (IR _ _))))
 | false=>
  have hs:es.size<=1:=by
   rcases c with c | c
   . rw[c]at hb;cases hb
   . exact c
  have hb:w.params.followText "set-order" = false:=hb;show wpAny _ _ (if w.params.followText "set-order" = true then _ else _) _ _ s;rw[af (by rw[hb];exact bB)];show wpAny _ _ (if (!t.plain && decide (es.size > 1))=true then _ else _) _ _ s;rw[af (by rw[aU (by omega),mH];exact bB)];show wpAny _ _ ((if (!t.led && decide (es.size > 1))=true then _ else _) >>= _) _ _ s;rw[af (by rw[aU (by omega),mH];exact bB)];exact ac (aj (aj (q _ (.refl _))))
theorem aaU{Jb:List Addr}{Q:Bool->Shared->Prop}(h:∀b∈Jb,∃xs,bP w s.heap b xs)(q:Q true s):wpAny (model prog w) A (setsQuiet Jb) Q E s:=by
 unfold setsQuiet;refine ac (mF _ (fun rest r s'=>r.1=none/\s'=s/\∀b∈rest,∃xs,bP w s.heap b xs) _ ?_ ?_ _ _ ⟨rfl,rfl,h⟩)
 . rintro b rest r s' ⟨e1,rfl,hr⟩;obtain⟨xs,o,es,ep,t,ho,X⟩:=hr b (by simp);unfold setEntries;refine ac (ac (gt ho X.dat X.fit (aj ?_)));refine ac (wpAny_forIn_array' _ (fun Jc r2 s2=>r2.1=none/\s2=s'/\∀e∈Jc,kM w e) _ ?_ ?_ _ _ ⟨rfl,rfl,X.good⟩)
   . rintro e Jc r2 s2 ⟨e3,rfl,hg⟩;obtain⟨y,tk,rfl⟩:=hg e (by simp);exact aj ⟨rfl,rfl,fun e he=>hg e (cT _ he)⟩
   . rintro⟨r2,u2⟩ s2 ⟨e3,rfl,_⟩;dsimp only at e3;subst e3;exact aj ⟨rfl,rfl,fun b hb=>hr b (cT _ hb)⟩
 . rintro⟨r,u⟩ s' ⟨e1,rfl,_⟩;dsimp only at e1;subst e1;exact aj q
theorem aaV{o:Obj}{es:Array (Int×Value)}{ep:Nat}{t:SetTable}{xo xs:Ls}{Q:Array (Int×Value)->Shared->Prop}(ho:s.heap.get? a=some o)(X:dn w o es ep t xo)(y:bP w s.heap f xs)(bt:f≠a)
 (q:∀h' (arr:Array (Int×Value)),Heap.SameBut f s.heap h'->bP w h' f xs->arr.toList.Perm es.toList->Q arr { s with heap:=h' }):wpAny (model prog w) A (setWalkUnseen a [f] (some f)) Q E s:=by
 unfold setWalkUnseen;refine ac (gt ho X.dat X.fit ?_);refine ac (m:=setsByText) (ac (mI (aj ?_)));show wpAny _ _ (if (ed w || (t.led && t.plain) || decide (es.size<=1))=true then _ else _) _ _ _
 by_cases c:(ed w || (t.led && t.plain) || decide (es.size<=1))=true
 . rw[ai c];refine aaT ho X ?_ fun arr pm=>q s.heap arr (Ax _ _) y pm
   by_cases hz:es.size<=1
   . exact .inr hz
   . rw[X.pl (by omega),aU hz,mH,FO,FO]at c;exact .inl c
 . rw[af c];refine ac (aaU (fun b hb=>?_) ?_)
   . rcases bh.mp hb with rfl | hb
     . exact⟨xo,o,es,ep,t,ho,X⟩
     . rw[bD.mp hb];exact⟨xs,y⟩
   . show wpAny _ _ (if (!true)=true then _ else _) _ _ _;rw[af (by decide)];refine ac (gJ ?_);obtain⟨of,ef,epf,tf,B1,F⟩:=id y;show wpAny _ _ (setState f >>= _) _ _ _;refine ac (gt B1 F.dat F.fit ?_);dsimp only;split
     . refine ac (wA B1 F.dat ?_ (tD F.bnd));refine aj (q _ es (kf ..) ⟨_,ef,_,_,dn.store B1 F.ex F.dat,F.ex,rfl,F.good,F.perm,F.nd,F.len,?_,?_,?_,?_⟩ (.refl _))
       . have:=F.fit;cases tf;exact this
       . show(tf.led && t.led)=_;rw[F.led,X.led,OP]
       . intro z;show(tf.plain && t.plain)=false;rw[F.pl z,mG]
       . exact F.msk
     . exact aj (q s.heap es (Ax _ _) y (.refl _))
theorem Jd{each:Sem Unit}{o:Obj}{eo:Array (Int×Value)}{ep:Nat}{t:SetTable}{xo xs:Ls}{Q:Unit->Shared->Prop}(ho:s.heap.get? a=some o)(X:dn w o eo ep t xo)(y:bP w s.heap f xs)(bt:f≠a)(hz:xs.length+xo.length<=20)
 (hE:∀(s':Shared) (Q:Unit->Shared->Prop),s'.heap.get? a=some o->Q () s'->wpAny (model prog w) A each Q E s')
 (q:∀h' ys,Heap.SameBut f s.heap h'->bP w h' f ys->(∀z,z∈ys↔z∈xs\/z∈xo)->Q () { s with heap:=h' }):wpAny (model prog w) A (setMerge f a each) Q E s:=by
 have ze:=X.size;unfold setMerge;rw[af (by simpa using bt)];refine ac (gt ho X.dat X.fit ?_);dsimp only
 by_cases he:eo.isEmpty=true
 . rw[ai he];have h0:xo = []:=jI.mp (by rw[←ze];simpa using he);exact aj (q s.heap xs (Ax _ _) y fun z=>by rw[h0];simp)
 . rw[af he];refine ac (Ja (n:=eo.size) y (by rw[ze];exact hz) fun h1 of cr Je t1 k1 e1 F hm=>?_);have iU:h1.get? a=some o:=by rw[k1.2 a (dQ bt)];exact ho
   refine ac (gt (s:={ s with heap:=h1 }) e1 F.dat F.fit ?_);dsimp only;have aR:t1.place.size=xs.length:=by
    have:=F.fit;unfold SetTable.fits at this;simp only[j9,ij]at this;rw[this.1,F.size]
   have Jf:eo.size≠0:=fun z=>he (by simpa using z);have hx0:t1.fill=0->xs = []/\cr.size=0:=fun z=>by
    unfold SetTable.fill at z;have:xs.length=0:=by omega
    exact⟨jI.mp this,by rw[F.size,this]⟩
   by_cases xP:t1.fill=0
   . obtain⟨hx,hes⟩:=hx0 xP;unfold SetTable.road;rw[af (by rw[xP];simp)]
     by_cases hr:(t1.mask == t.mask && t.dummies.isEmpty)=true
     . rw[ai hr];dsimp only;refine wA e1 F.dat ?_ (tD X.bnd);refine q _ xo (k1.trans (kf ..)) ⟨_,eo,_,_,dn.store e1 F.ex F.dat,F.ex,rfl,X.good,X.perm,X.nd,X.len,?_,?_,?_,fun z=>absurd z Jf⟩ fun z=>by rw[hx];simp
       . have:=X.fit;cases t;exact this
       . show(t1.led && t.led)=_;rw[F.led,X.led,OP]
       . intro z;show(t1.plain && t.plain)=false;rw[X.pl z,mH]
     . rw[af hr];dsimp only;have hsz:(eo.map (·.1)).size=eo.size:=Array.size_map;obtain⟨t',order,e,hp,hf,hl,bo,hmk⟩:=IK (mask:=t1.mask) (f:=t1.finger) (m:=t1.moves) (led:=t1.led && t.led) (plain:=t1.plain && t.plain) (hs:=eo.map (·.1)) (F.msk hes) (by rw[hsz];exact hm xP);rw[hsz]at hp hf;rw[e];have pm:=I9 hp;have z1:(order.filterMap (eo[·]?)).size=eo.size:=by rw[←cK,pm.length_eq,cK]
       refine ac ?_;show wpAny _ _ (if ((order.filterMap (eo[·]?)).size != eo.size)=true then _ else _) _ _ _;rw[af (by rw[z1];simp)];refine aj ?_;dsimp only;refine wA e1 F.dat ?_ (by rw[z1];exact tD X.bnd);refine q _ xo (k1.trans (kf ..)) ⟨_,_,_,t',dn.store e1 F.ex F.dat,F.ex,rfl,fun e he=>X.good e (pm.mem_iff.mp he),(pm.map ga).trans X.perm,X.nd,X.len,by rw[z1];exact hf,?_,?_,fun z=>absurd (z1.symm.trans z) Jf⟩ fun z=>by rw[hx];simp
       . rw[hl,F.led,X.led,OP]
       . intro z;rw[bo,X.pl (by rw[←z1];exact z),mH]
   . unfold SetTable.road;rw[ai (by simpa using xP)];dsimp only;refine ac (aaV (s:={ s with heap:=h1 }) iU X ⟨of,cr,Je,t1,e1,F⟩ bt fun h2 arr k2 y2 pm=>?_);have dY:h2.get? a=some o:=by rw[k2.2 a (dQ bt)];exact iU
     refine ac (wpAny_forIn_array' _ (fun rest _ s'=>∃h3 ys,s' = { s with heap:=h3 }/\Heap.SameBut f s.heap h3/\bP w h3 f ys/\(∀e∈rest,kM w e)/\ys.length+rest.length<=40/\∀z,(z∈ys\/z∈rest.map ga)↔(z∈xs\/z∈xo)) _ ?_ ?_ _ _ ⟨h2,xs,rfl,k1.trans k2,y2,fun e he=>X.good e (pm.mem_iff.mp he),?_,fun z=>?_⟩)
     . rintro e rest r s' ⟨h3,ys,rfl,k3,y3,hg,hl,pF⟩;obtain⟨z,tk,rfl⟩:=hg e (by simp);have xQ:h3.get? a=some o:=by rw[k3.2 a (dQ bt)];exact ho
       rw[bu]at hl;refine ac (fu (BN (s:={ s with heap:=h3 }) y3 (by omega) fun b h4 k4 y4=>?_));have xR:h4.get? a=some o:=by rw[k4.2 a (dQ bt)];exact xQ
       refine ac (hE _ _ xR ?_);refine ac (gt (s:={ s with heap:=h4 }) xR X.dat X.fit ?_);dsimp only;rw[af (by simp)];refine aj ⟨h4,gy ys z,rfl,k3.trans k4,y4,fun e he=>hg e (cT _ he),by have:=xK ys z;omega,fun u=>?_⟩;rw[←pF u,BL,b9,bh];have ek:ga (jK w (.inr z),Value.str z tk)=z:=rfl;rw[ek];constructor
       . rintro((p | p) | p)
         . exact .inl p
         . exact .inr (.inl p)
         . exact .inr (.inr p)
       . rintro(p | p | p)
         . exact .inl (.inl p)
         . exact .inl (.inr p)
         . exact .inr p
     . rintro r s' ⟨h3,ys,rfl,k3,y3,_,_,pF⟩;exact aj (q h3 ys k3 y3 fun z=>by rw[←pF z];simp)
     . have e9:eo.toList.length=eo.size:=cK;have e8:=pm.length_eq;omega
     . have:z∈arr.toList.map ga↔z∈xo:=((pm.map ga).trans X.perm).mem_iff;rw[this]
end
theorem dJ{α:Type}[DecidableEq α]:∀{xs ys:List α},xs.Nodup->(∀z∈xs,z∈ys)->xs.length<=ys.length
 | [],ys,_,_=>cj _
 | x::xs,ys,hn,h=>by
  have hx:=h x (by simp);have ky:=jG.mp hn;have:=dJ (xs:=xs) (ys:=ys.erase x) ky.2 fun z hz=>(List.mem_erase_of_ne (fun e=>ky.1 (by rw[←e];exact hz))).mpr (h z (cT _ hz));rw[ajK hx]at this;have hp:0<ys.length:=OQ hx;rw[bu];omega
section
variable {prog:Program} {w:World} {A:Around} {E:VP} {s:Shared} {a f:Addr}
theorem B2{v:Value}{Q:Bool->Shared->Prop}(hT:s.TypeIs v "set")(q:Q true s):wpAny (model prog w) A (Builtin.Frozenset.isAnySet v) Q E s:=by
 unfold Builtin.Frozenset.isAnySet;show wpAny _ _ (isInstance v (.type "set") >>= _) _ _ _;exact ac (lm (T:="set") (b:=true) hT OR (aj q))
theorem aaY{v:Value}{Q:Bool->Shared->Prop}(hT:s.TypeIs v "dict")(q:Q false s):wpAny (model prog w) A (Builtin.Frozenset.isAnySet v) Q E s:=by
 unfold Builtin.Frozenset.isAnySet;show wpAny _ _ (isInstance v (.type "set") >>= _) _ _ _;refine ac (lm (T:="dict") (b:=false) hT PySem.F.sub_dict_set ?_);exact lm (T:="dict") (b:=false) hT PySem.F.sub_dict_frozenset q
theorem aaZ{Q:VP}(h:Q (.ref s.heap.objs.size) { s with heap:=s.heap.push { cls:=.type "set",dict:=none,data:=.set #[] 0 (.fresh 0 0 (!ed w)) } }):wpAny (model prog w) A (newSet (.type "set")) Q E s:=by
 unfold newSet;refine ac (m:=setsByText) (ac (mI (aj ?_)));exact ww h
theorem aa0{xs:Ls}{Q:VP}(x:bP w s.heap a xs)(hz:xs.length<=20)(q:∀h' ys,(∀b o,s.heap.get? b=some o->h'.get? b=some o)->s.heap.objs.size<h'.objs.size->bP w h' s.heap.objs.size ys->(∀z,z∈ys↔z∈xs)->Q (.ref s.heap.objs.size) { s with heap:=h' }) :
 wpAny (model prog w) A (Builtin.Frozenset.copyOf a) Q E s:=by
 obtain⟨o,es,ep,t,ho,X⟩:=id x;have aP:=aT ho;unfold Builtin.Frozenset.copyOf;refine ac ?_;unfold Builtin.Frozenset.baseOf;refine ac (lm (T:="set") (b:=true) x.typeIs OR (aj ?_));rw[ai rfl];refine ac (aaZ ?_);refine ac (m:=Builtin.Frozenset.addrOf _) (aj ?_);have iU:=bg { cls:=.type "set",dict:=none,data:=.set #[] 0 (.fresh 0 0 (!ed w)) } ho;refine ac (Jd (s:={ s with heap:=_ }) iU X ⟨_,_,_,_,dv _ rfl,B0⟩ (jF aP) (by simpa using hz) (fun s' Q _ h=>aj h) fun h' ys k y hm=>aj ?_);refine q h' ys (fun b o e=>?_) ?_ y fun z=>by rw[hm z];simp
 . rw[k.2 b (bH (aT e))];exact bg _ e
 . obtain⟨o',_,_,_,e',_⟩:=y;exact aT e'
theorem aa1:entryFor table "set.__or__" = some Builtin.«frozenset.__or__»:=OH (id':="frozenset.__or__") (by kernel_rfl) rfl (by decide +kernel) (by kernel_rfl)
theorem aa2{l r:Addr}{xs ys:Ls}{Q:VP}(x:bP w s.heap l xs)(y:bP w s.heap r ys)(bt:l≠r)(hz:xs.length+ys.length<=20)
 (q:∀h' zs,(∀b o,s.heap.get? b=some o->h'.get? b=some o)->bP w h' s.heap.objs.size zs->(∀z,z∈zs↔z∈xs\/z∈ys)->Q (.ref s.heap.objs.size) { s with heap:=h' }) :
 wpAny (model prog w) A (call (.builtin "set.__or__") [.ref l,.ref r]) (fun v s'=>v≠.notImplemented/\Q v s') E s:=by
 refine mE PySem.F.slot_set_or x.typeIs aa1 ?_ (PySem.F.args_set_or_2 _ _);unfold Builtin.«frozenset.__or__»;show wpAny _ _ (Builtin.Frozenset.slot1 "__or__" ⟨[.ref l,.ref r],[]⟩ >>= _) _ _ _;refine ac (m:=Builtin.Frozenset.slot1 _ _) (aj ?_);dsimp only;rw[af bB];dsimp only;refine ac ?_;show wpAny _ _ (Builtin.Frozenset.isAnySet (.ref l) >>= _) _ _ _;refine ac (B2 x.typeIs ?_);refine B2 y.typeIs ?_;show wpAny _ _ (if (!true)=true then _ else _) _ _ _;rw[af (by decide)];refine ac (m:=Builtin.Frozenset.addrOf _) (aj ?_);refine ac ?_;show wpAny _ _ (Builtin.Frozenset.copyOf l >>= _) _ _ _;obtain⟨ox,_,_,_,hox,_⟩:=id x;have hlx:=aT hox;refine ac (aa0 x (by omega) fun h1 zs k1 pG z1 m1=>?_);show wpAny _ _ (if (Value.ref r != Value.ref l)=true then _ else _) _ _ _;rw[ai (by simp[bne];exact fun z=>bt z.symm)];have y1:=y.at' (h':=h1) fun o e=>k1 _ o e;obtain⟨o,es,ep,t,ho,X⟩:=id y1;obtain⟨oy,_,_,_,hoy,_⟩:=id y;have hly:=aT hoy;have lz:zs.length<=xs.length:=by
  obtain⟨_,_,_,_,_,Z⟩:=z1;obtain⟨_,_,_,_,_,X0⟩:=x;exact dJ Z.nd fun z hz=>(m1 z).mp hz
 refine ac (m:=Builtin.Frozenset.addrOf _) (aj (ac (fu ?_)));unfold Builtin.Frozenset.updateFrom;refine ac (B2 (s:={ s with heap:=h1 }) y1.typeIs ?_);rw[ai rfl];refine ac (m:=Builtin.Frozenset.addrOf _) (aj ?_);refine ac (m:=setEpoch r) (wpAny_setEpoch_of (s:={ s with heap:=h1 }) ho X.dat X.fit ?_);refine Jd (s:={ s with heap:=h1 }) ho X z1 (jF hly) (by omega) (fun s' Q' e q'=>?_) fun h2 us k2 u2 m2=>?_
 . unfold Builtin.Frozenset.unchanged;refine ac (wpAny_setEpoch_of e X.dat X.fit ?_);rw[af (by simp)];exact aj q'
 . refine aj (aj ⟨_,rfl,(by intro z;cases z),q h2 us (fun b o e=>?_) u2 fun z=>by rw[m2 z,m1 z]⟩);rw[k2.2 b (bH (aT e))];exact k1 b o e
def gb(w:World):Obj:={ cls:=.type "set",dict:=none,data:=.set #[] 0 (.fresh 0 0 (!ed w)) }
theorem aa7(v:Value){Q₁:VP}(h:Q₁ (.ref s.heap.objs.size) { s with heap:=s.heap.push (gb w) }):codeAny (model prog w) A (.call (.builtin "set.__new__") ⟨[.type "set",v],[]⟩) (wants Q₁ E) s:=by
 refine codeAny_of_tree ?_;show wpAny _ A.in1 (do { checkBuiltinCall "set.__new__" ⟨[.type "set",v],[]⟩;again (.builtin "set.__new__" ⟨[.type "set",v],[]⟩) }) _ _ s;refine ac (wpAny_of_eq (PySem.F.newCall_set_1 v) (aj ⟨gM ajL _,gN PySem.F.entry_set_new ?_⟩));rw[il ajL _];unfold Builtin.«set.__new__» Builtin.Frozenset.newClass;have aa8:=OR;obtain⟨hp,g,d,tk,os⟩:=s;dsimp only
 wp_walk
 refine mI (aj ?_);dsimp only;simp only[newObj];exact ac (wpAny_alloc (aj (aj h)))
theorem Jg{v:Value}{Q:VP}(hq:∀A':Around,A'.handled=A.handled->wpAny (model prog w) A' (Builtin.Frozenset.updateFrom "set.__init__" s.heap.objs.size v) (fun _ s'=>Q (.ref s.heap.objs.size) s') E { s with heap:=s.heap.push (gb w) }) :
 wpAny (model prog w) A (call (.type "set") [v]) Q E s:=by
 obtain⟨c,tl,aka⟩:=qT.mro;have akb:=qT.made;have aa8:=qT.sub;refine FG (codeAny_of_tree ?_);show wpAny _ _ (callAny (.type "set") _) _ _ _;refine aj ⟨Code.quiet_builtin _ (by decide +kernel),gN PySem.F.entry_type_call ?_⟩;rw[Around.under_plain (weight_type_call_type "set" [v] []) rfl];have h1:=qT.notType;have h2:=qT.canCreate;have hct:=PySem.F.typeCall_set_1 v
 repeat (any_goals (first | assumption | wp_step))
 refine oP (aa7 v (E:=E) (Q₁:=fun obj s₁=>obj = .ref s.heap.objs.size/\s₁ = { s with heap:=s.heap.push (gb w) }) ⟨rfl,rfl⟩) fun r s₁ hr=>?_;cases r with
 | error e=>exact hr
 | ok fl=>
  cases fl with
  | ret obj=>
   obtain⟨rfl,rfl⟩:=hr;have hS:(s.heap.push (gb w)).get? s.heap.objs.size=some (gb w):=dv _ rfl;have hT:Shared.TypeIs { s with heap:=s.heap.push (gb w) } (.ref s.heap.objs.size) "set":=⟨_,hS,rfl⟩;have xS:=qT.init.lookup;have hbi:=qT.init.bind (.ref s.heap.objs.size)
   repeat (any_goals (first | assumption | wp_step))
   refine oP (codeAny_call_builtin (R:=wants (fun r s₂=>r = .none/\Q (.ref s.heap.objs.size) s₂) E) qT.init.plain PySem.F.entry_set_init (check_set_init_1 hT ?_)) fun r₂ s₂ B3=>?_
   . unfold Builtin.«set.__init__» noKeywords;have eV:=hq;generalize hUF:Builtin.Frozenset.updateFrom=UF at eV ⊢;have gx:(s.heap.push (gb w)).get? s.heap.objs.size=some { cls:=.type "set",dict:=none,data:=.set #[] 0 (.fresh 0 0 (!ed w)) }:=hS
     wp_walk
     exact df (eV _ rfl) (fun _ s' z=>aj ⟨rfl,z⟩) fun _ _ e=>e
   . cases r₂ with
     | error e=>exact B3
     | ok fl₂=>
      cases fl₂ with
      | ret r=>
       obtain⟨rfl,z⟩:=B3
       repeat (any_goals (first | assumption | wp_step))
      | _=>exact B3.elim
  | _=>exact hr.elim
theorem aba{v:Value}{Q:Bool->Shared->Prop}(hT:s.TypeIs v "list")(q:Q false s):wpAny (model prog w) A (Builtin.Frozenset.isAnySet v) Q E s:=by
 unfold Builtin.Frozenset.isAnySet;show wpAny _ _ (isInstance v (.type "set") >>= _) _ _ _;refine ac (lm (T:="list") (b:=false) hT PySem.F.sub_list_set ?_);exact lm (T:="list") (b:=false) hT PySem.F.sub_list_frozenset q
theorem abb{R:Result->Shared->Prop}{I S:Addr}{fp wr:List Addr}{n:Nat}{P:Nat->Value->Prop}{St:Nat->Heap->Prop}(W:Walks prog w A.in1 I fp wr n P St)(uu:S∉fp){ys:Ls}(hv:∀i v,P i v->∃y tk,ys[i]? = some y/\v = .str y tk)(hb:n<=500)(hn:ys.length=n) :
 ∀(k i:Nat) (s:Shared) (xs:Ls),n - i=k->i<=n->St i s.heap->bP w s.heap S xs->xs.length<=i->(∀h' tk zs,(∀b o,b≠S->b∉wr->s.heap.get? b=some o->h'.get? b=some o)->bP w h' S zs->(∀z,z∈zs↔z∈xs\/z∈ys.drop i)->R (.ok (.ret .none)) { s with heap:=h',toks:=tk }) ->
  codeAny (model prog w) A (.builtin "set.update.loop" ⟨[.ref S,.ref I],[]⟩) R s:=by
 have Jh:S∉wr:=fun h=>uu (W.sub _ h);intro k
 induction k with
 | zero=>
  intro i s xs hk hi fC hS hl hR;have gA:i=n:=by omega
  subst gA;refine gN ajM ?_;rw[il OS _];show wpAny _ A.in1 (pyNext (.ref I) >>= _) _ _ s;refine ac (W.done s _ _ fC fun h' tk hm=>?_);show wpAny _ A.in1 (ret Value.none) _ _ _;exact aj (hR h' tk xs (fun b o _ hb e=>hm b o hb e) (hS.at' fun o e=>hm S o Jh e) fun z=>by rw[List.drop_eq_nil_of_le (by omega)];simp)
 | succ k ih=>
  intro i s xs hk hi fC hS hl hR;have aP:i<n:=by omega
  refine gN ajM ?_;rw[il OS _];show wpAny _ A.in1 (pyNext (.ref I) >>= _) _ _ s;refine ac (W.item i s _ _ aP fC fun v h1 kP hP uw hm=>?_);obtain⟨y,tk,hy,rfl⟩:=hv i v hP;have gx:bP w h1 S xs:=hS.at' fun o e=>hm S o Jh e;show wpAny _ A.in1 (holding [Value.str y tk] (setAdd S (.str y tk)) >>= _) _ _ _;refine ac (fu ?_);unfold setAdd;refine fu (ac ((bM prog w).pyHash (k:=.inr y) (oW prog w y tk) ?_));refine BN (s:={ s with heap:=h1,toks:=kP+1 }) gx (by omega) fun b h2 k2 S2=>?_;have ld:=xK xs y;have hd:ys.drop i=y::ys.drop (i+1):=by
   obtain⟨gY,e⟩:=bZ.mp hy;rw[←e];exact ajN gY
  refine aj ⟨gM OS _,ih (i+1) { s with heap:=h2,toks:=kP+1 } (gy xs y) (by omega) aP (W.frame _ h1 _ uw fun b hb o e=>?_) S2 (by omega) fun h' iV zs kk Z mem=>?_⟩
  . rw[k2.2 b (fun h:b=S=>uu (by rw[←h];exact hb))];exact e
  . refine hR h' iV zs (fun b o hb hw e=>kk b o hb hw ?_) Z fun z=>?_
    . rw[k2.2 b hb];exact hm b o hw e
    . rw[mem z,BL,hd,bh];constructor
      . rintro((p | p) | p)
        . exact .inl p
        . exact .inr (.inl p)
        . exact .inr (.inr p)
      . rintro(p | p | p)
        . exact .inl (.inl p)
        . exact .inl (.inr p)
        . exact .inr p
theorem abc{l:Addr}{items:Av}{ys:Ls}{Q:VP}(hh:A.handled=none)(hl:s.heap.IsList l items)(hv:∀(i:Nat) (v:Value),items[i]? = some v->∃y tk,ys[i]? = some y/\v=Value.str y tk)(hb:items.size<=500)(hn:ys.length=items.size)
 (q:∀h' tk zs,(∀b o,s.heap.get? b=some o->h'.get? b=some o)->bP w h' s.heap.objs.size zs->(∀z,z∈zs↔z∈ys)->Q (.ref s.heap.objs.size) { s with heap:=h',toks:=tk }):wpAny (model prog w) A (call (.type "set") [.ref l]) Q E s:=by
 refine Jg fun A' hA=>?_;have pG:(s.heap.push (gb w)).IsList l items:=hl.push _;obtain⟨ol,rH,gB,nl,Ji⟩:=id hl;have ut:l<s.heap.objs.size:=aT rH;unfold Builtin.Frozenset.updateFrom;refine ac (aba (s:={ s with heap:=_ }) pG.typeIs ?_);rw[af bB];refine ac (wx (s:={ s with heap:=_ }) pG.typeIs ?_);rw[af (by decide)];refine ac (FA (s:={ s with heap:=_ }) pG ?_);refine ac (wpAny_runValue ?_);have hz:(s.heap.push (gb w)).objs.size=s.heap.objs.size+1:=lu _ _;have abd:l≠(s.heap.push (gb w)).objs.size:=by rw[hz];exact bH (Ao ut)
 refine abb (Ga (A:=A'.in1) (by rw[show A'.in1.handled=A'.handled from rfl,hA,hh]) _ l abd items) (S:=s.heap.objs.size) ?_ hv hb hn (items.size - 0) 0 _ [] (by omega) (cj _) ⟨⟨_,dv _ rfl,rfl,rfl⟩,pG.push _⟩
  ⟨_,_,_,_,bg _ (dv _ rfl),B0⟩ (cj _) fun h' tk zs k Z m=>?_
 . simp only[bh,Az,AA,not_or];exact⟨by rw[hz];exact bH (sY _),jF ut⟩
 . show wpAny _ _ _ _ _ _;refine aj (q h' tk zs (fun b o e=>k b o (bH (aT e)) (fun hb=>?_) (bg _ (bg _ e))) Z fun z=>by rw[m z];simp);have:=aT e;rw[bD.mp hb,hz]at this;exact absurd (Nat.lt_of_succ_lt this) (j8 _)
end
section
variable {prog:Program} {w:World} {A:Around} {E:VP} {s:Shared}
theorem abe{d:Addr}{o:Obj}{es:Array DictEntry}{ep:Nat}{ks:Ls}{Q:VP}(ho:s.heap.get? d=some o)(hc:o.cls = .type "dict")(hd:o.data = .dict es ep)(hm:(d == sysModules)=false)(hn:ks.length=es.size)(hb:ks.length<=20)
 (hk:∀(i:Nat) (e:DictEntry),es[i]? = some e->∃y tk,ks[i]? = some y/\e.key=Value.str y tk/\e.hash=jK w (.inr y))
 (q:∀h' zs,(∀b o,s.heap.get? b=some o->h'.get? b=some o)->bP w h' s.heap.objs.size zs->(∀z,z∈zs↔z∈ks)->Q (.ref s.heap.objs.size) { s with heap:=h' }):wpAny (model prog w) A (call (.type "set") [.ref d]) Q E s:=by
 refine Jg fun A' hA=>?_;have aP:=aT ho;have iU:=bg (gb w) ho;have hT:Shared.TypeIs { s with heap:=s.heap.push (gb w) } (.ref d) "dict":=⟨_,iU,hc⟩;unfold Builtin.Frozenset.updateFrom;refine ac (aaY hT ?_);rw[af bB];refine ac (wx hT ?_);rw[ai (by decide)];refine ac (gJ ?_);refine ac (m:=Builtin.Frozenset.addrOf _) (aj ?_);rw[hm,af bB];refine ac (wpAny_dictEpoch (s:={ s with heap:=s.heap.push (gb w) }) iU hd ?_);refine ac (OT (s:={ s with heap:=s.heap.push (gb w) }) iU hd ?_);have hS0:bP w (s.heap.push (gb w)) s.heap.objs.size []:=⟨_,_,_,_,dv _ rfl,B0⟩;refine ac (Ja (s:={ s with heap:=s.heap.push (gb w) }) (n:=es.size) hS0 (by rw[←hn];simpa using hb) fun h1 o1 cr Je t1 k1 e1 X1 _=>?_);have bt:d≠s.heap.objs.size:=bH aP;have dY:h1.get? d=some o:=by rw[k1.2 d bt];exact iU
 refine ac (OT (s:={ s with heap:=h1 }) dY hd ?_);refine ac ?_;rw[Std.Legacy.Range.forIn_eq_forIn_range'];simp only[Std.Legacy.Range.size,Nat.sub_zero,Nat.add_sub_cancel,Nat.div_one];refine mF _ (fun rest _ s'=>∃h' i zs,s' = { s with heap:=h' }/\rest=List.range' i (es.size - i)/\i<=es.size/\Heap.SameBut s.heap.objs.size (s.heap.push (gb w)) h'/\bP w h' s.heap.objs.size zs/\zs.length<=i/\∀z,z∈zs↔z∈ks.take i) _ ?_ ?_ _ _ ⟨h1,0,[],rfl,by simp,cj _,k1,⟨_,_,_,_,e1,X1⟩,av _,fun z=>by simp⟩
 . rintro x rest b s' ⟨h',i,zs,rfl,hr,hi,kk,Z,hl,mem⟩;have Jj:i<es.size:=by
    rcases Nat.lt_or_ge i es.size with h | h
    . exact h
    . rw[Nat.sub_eq_zero_of_le h]at hr;simp at hr
   obtain⟨rfl,kD⟩:x=i/\rest=List.range' (i+1) (es.size - (i+1)):=by
    have e:es.size - i=(es.size - (i+1))+1:=by omega
    rw[e,List.range'_succ]at hr;injection hr with h1 h2;exact⟨h1,h2⟩
   have xQ:h'.get? d=some o:=by rw[kk.2 d bt];exact iU
   refine ac (OT (s:={ s with heap:=h' }) xQ hd ?_);have hg:es[x]? = some es[x]:=oU Jj;obtain⟨y,tk,hy,ir,B4⟩:=hk x _ hg;rw[hg];dsimp only;rw[ir,B4];refine ac (fu (BN (s:={ s with heap:=h' }) Z (by omega) fun b h2 k2 Z2=>?_));have xR:h2.get? d=some o:=by rw[k2.2 d bt];exact xQ
   refine ac (wpAny_dictEpoch (s:={ s with heap:=h2 }) xR hd ?_);rw[af (by simp)];refine aj ⟨h2,x+1,gy zs y,rfl,kD,Jj,kk.trans k2,Z2,by have:=xK zs y;omega,fun z=>?_⟩;rw[BL,mem z,Gb,hy];simp
 . rintro b s' ⟨h',i,zs,rfl,hr,hi,kk,Z,hl,mem⟩;have gA:i=es.size:=by
    rcases Nat.lt_or_ge i es.size with h | h
    . have e:es.size - i=(es.size - (i+1))+1:=by omega
      rw[e,List.range'_succ]at hr;exact nomatch hr
    . exact Nat.le_antisymm hi h
   refine aj (q h' zs (fun b o e=>?_) Z fun z=>by rw[mem z,gA,←hn,ca]);rw[kk.2 b (bH (aT e))];exact bg _ e
end
def B5(w:World)(H:Hp)(ys:Ls)(Q:VK):Prop:=∀r xs H',H r=none->ag H H'->H' r=some (kO w r xs)->xs.Nodup->(∀z,z∈xs↔z∈ys)->Q (.ref r) H'
theorem bP.nd{w:World}{h:Heap}{a:Addr}{xs:Ls}(x:bP w h a xs):xs.Nodup:=x.elim fun _ abg=>abg.elim fun _ abh=>abh.elim fun _ abi=>abi.elim fun _ abj=>abj.elim fun _ X=>X.nd
theorem Jk{us:Lw}{ys:Ls}(h:StrsAre us ys):us.length=ys.length/\∀(i:Nat) (v:Value),us[i]? = some v->∃y tk,ys[i]? = some y/\v=Value.str y tk:=by
 induction h with
 | nil=>exact⟨rfl,fun i v e=>by cases e⟩
 | cons y t _ ih=>
  refine⟨by simp[ih.1],fun i v e=>?_⟩;cases i with
  | zero=>cases e;exact⟨y,t,rfl,rfl⟩
  | succ i=>exact ih.2 i v e
theorem Jl:∀{ys:Ls} {us:Lw},aH (ys.map V.str) us->StrsAre us ys
 | [],us,r=>by cases r;exact .nil
 | y::ys,us,r=>by
  cases r with
  | cons a b=>
   obtain⟨t,rfl⟩:=a;exact .cons y t (Jl b)
section
variable {X:Cx}
theorem Jm(hc:X.calm=true):eP X (.type "set") (fun vs H Q=>∃p ys,vs = [.ref p]/\ae X.K H p (ys.map V.str)/\ys.length<=500/\B5 X.w H ys Q):=by
 intro pins s σ H xs us Q I r h;obtain⟨p,ys,rfl,hp,hz,q⟩:=h;obtain⟨u,rfl,ru⟩:=vals1 r;cases ru;obtain⟨its,rv,ht,hz'⟩:=I.list hp;have hs:=Jk (Jl rv);refine abc (I.ok.hd hc) ht.isList (ys:=ys) (fun i v e=>hs.2 i v (by simpa using e)) (by simp;omega) (by simp[hs.1]) fun h' tk zs k Z m=>?_;have hn:=I.hok.fresh (av s.heap.objs.size);exact⟨.ref s.heap.objs.size,_,I.laid (t':=tk) (a:=s.heap.objs.size) (o:=kO X.w s.heap.objs.size zs) k (av _) (BX Z),rfl,q _ zs _ hn (jp hn) bc Z.nd m⟩
theorem Jn:eP X (.type "set") (fun vs H Q=>∃p kvs ks,vs = [.ref p]/\H p=some (.dK kvs)/\pB kvs ks/\ks.length<=20/\B5 X.w H ks Q):=by
 intro pins s σ H xs us Q I r h;obtain⟨p,kvs,ks,rfl,e,xE,hz,q⟩:=h;obtain⟨u,rfl,ru⟩:=vals1 r;cases ru;obtain⟨z,hd,vs,rel,dd⟩:=jo I.hok e;obtain⟨o,es,ep,ho,hx,hdt,hko,jV,hno⟩:=id dd;have hlen:=rel.length;have l1:kvs.length=ks.length:=by have:=fQ List.length xE;simpa using this
 have l2:es.size=vs.length:=by have:=jV.length;simpa using this
 have hS:StrsAre (es.toList.map (·.key)) ks:=Ie (X:=X) xE rel (by rw[aw,cK];exact l2) fun j v hj=>by
  rw[bT]at hj;cases he:es.toList[j]? with
  | none=>rw[he]at hj;cases hj
  | some en=>
   rw[he]at hj;cases hj;have hjl:=(bZ.mp he).1;rw[cK]at hjl;obtain⟨kv,Jo⟩:∃kv,vs[j]? = some kv:=⟨vs[j]'(by omega),eJ _⟩;exact⟨kv.1,kv.2,Jo,(jV.get? he Jo).1⟩
 refine abe (ks:=ks) ho hx.1 hdt hd (by omega) hz (fun i en hi=>?_) fun h' zs k Z m=>?_
 . obtain⟨y,tk,hy,hk⟩:=(Jk hS).2 i en.key (by rw[bT,ly,hi];rfl);obtain⟨k',Jp,B4⟩:=hko en (Array.mem_of_getElem? hi);refine⟨y,tk,hy,hk,?_⟩;rw[hk]at Jp;rw[B4,(bM X.prog X.w).inj _ _ _ Jp (oW X.prog X.w y tk)];rfl
 . have hn:=I.hok.fresh (av s.heap.objs.size);exact⟨.ref s.heap.objs.size,_,I.laid (t':=s.toks) (a:=s.heap.objs.size) (o:=kO X.w s.heap.objs.size zs) k (av _) (BX Z),rfl,q _ zs _ hn (jp hn) bc Z.nd m⟩
theorem abn:bw X (binaryOp .BitOr) (fun x y H Q=>∃p q xs ys,x = .ref p/\y = .ref q/\p≠q/\H p=some (kO X.w p xs)/\H q=some (kO X.w q ys)/\xs.length+ys.length<=20/\B5 X.w H (xs++ys) Q):=by
 intro pins s σ H x y v u Q I rx ry h;obtain⟨p,q,xs,ys,rfl,rfl,bt,e1,e2,hz,qq⟩:=h;cases rx;cases ry;have x1:=BY I.hok e1;have x2:=BY I.hok e2;refine wpAny_binaryOp_same (op:=.BitOr) (T:="set") x1.typeIs x2.typeIs PySem.F.fills_set_or PySem.F.slot_set_or (aa2 x1 x2 bt hz fun h' zs k Z m=>?_);have hn:=I.hok.fresh (av s.heap.objs.size);exact⟨.ref s.heap.objs.size,_,I.laid (t':=s.toks) (a:=s.heap.objs.size) (o:=kO X.w s.heap.objs.size zs) k (av _) (BX Z),rfl,qq _ zs _ hn (jp hn) bc Z.nd fun z=>by rw[m z];simp⟩
end
open PySem.W (tabObj)
def gc(P:Addr)(ps:Av):HO:=.ext fun h=>h.get? P=some (tabObj ps)
def ux(c':Addr)(qual:Str):HO:=.ext fun h=>h.CodeRec (.ref c') qual
def fU(H:Hp)(P:Addr)(pos:Pos)(qual:Str):Prop:=H P=some (gc P #[])\/∃c',H P=some (gc P #[rawInt pos.line,rawInt pos.col,.ref c'])/\H c'=some (ux c' qual)
theorem uy{Pr:Program}{w:World}{H:Hp}{h:Heap}{a:Addr}{p:Heap->Prop}{o:Obj}(e:h.get? a=some o)(hp:p h)(hk:∀h1 h2:Heap,p h1->(∀o,h1.get? a=some o->h2.get? a=some o)->p h2):bN Pr w H h a (.ext p):=⟨hp,⟨_,e⟩,hk⟩
theorem abo{c':Addr}{qual:Str}{h1 h2:Heap}(h:h1.CodeRec (.ref c') qual)(k:∀o,h1.get? c'=some o->h2.get? c'=some o):h2.CodeRec (.ref c') qual:=by
 obtain⟨c,oc,vs,t,e,nj,h3,h4⟩:=h;cases e;exact⟨c',oc,vs,t,rfl,k _ nj,h3,h4⟩
section
variable {X:Cx} {c P:Addr} {params:Arguments} {body:Expr} {scope:Scope} {pos:Pos} {qual:Str}
end
end L2
namespace L2
open PySem PySem.Spec PyProof.Rows
section
variable {X:Cx}
end
section
variable {X:Cx} {tg:Expr}
end
theorem Inv.turnedL{X:Cx}{pins:Po}{σ:St}{H:Hp}{s:Shared}{h':Heap}{t':Nat}{fp:List Addr}(I:Inv X pins σ H s)(k:∀b o,b∉fp->s.heap.get? b=some o->h'.get? b=some o)(hf:∀b∈fp,dR X pins H b):Inv X pins σ H { s with heap:=h',toks:=t' }:=by
 have tN:∀b u,H b=some u->b∉fp:=fun b u e z=>by rw[(hf b z).1]at e;cases e
 have hL:X.env.locals∉fp:=fun z=>(hf _ z).2.1 rfl;refine I.step (g':=s.gens) (d':=s.drawn) (ch:=fp) (fun b hb=>?_) (fun b o _ _ hc e _=>k b o hc e) (fun b o _ _ hc e _=>⟨o.slots,k b o hc e⟩) (fun _ _ _ _ n=>n)
  (fun b o hc e=>⟨o,k b o hc e⟩) (fun _ _ e=>e) (fun _ _ _ e=>e) (fun b ps e=>⟨#[],by rw[e];simp⟩) (fun m hm=>?_) (fun b u e=>?_) I.bare
 . obtain⟨f0,f1,f2,f3,f4,f5⟩:=hf b hb;exact⟨f3,f1,f4,f5⟩
 . obtain⟨o,es,ep,ho,r⟩:=hm;exact⟨o,es,ep,k _ o hL ho,r⟩
 . refine(I.hok b u e).stay (fun c v hc q=>k c v ?_ q) (fun _ q=>q) fun _ _ q=>q
   rcases hc with z | z
   . rw[z];exact tN b u e
   . exact tN c _ z
def uz(K:Fg)(a:Addr):It:=
 ⟨fun i H=>∃xs x,ae K H a xs/\xs[i]? = some x,fun i H v H'=>∃p x,H p=none/\(∀xs,ae K H a xs->xs[i]? = some x)/\v = .ref p/\H'=ak H p (.tup [.int i,x]),fun i H=>∃xs,ae K H a xs/\xs.length<=i⟩
theorem abp{P:Program}{w:World}{K:Fg}{elts:List Expr}{x1:Nat}{pos:Pos}(a e it:Addr)(bt:e≠it):rf P w K (.Tuple elts x1 pos) (uz K a) [e,it] e (fun i h=>(∃old,IsEnum h e it i old)/\h.IsListIter it a i) where
 mem:=by simp
 obj:=fun i h st b hb=>by
  obtain⟨⟨old,st⟩,o,e',c,d⟩:=st
  rcases bh.mp hb with rfl | hb
  . exact⟨_,st,fun v z=>by
     have z':Data.fields _=Data.cell v:=z;cases z'⟩
  . have hb:=bD.mp hb;subst hb;exact⟨o,e',fun v z=>by rw[d]at z;cases z⟩
 keep:=fun i h h' abq k=>abq.elim fun abr cy=>abr.elim fun old st=>⟨⟨old,k e (by simp) _ st⟩,cy.at fun o e'=>k it (by simp) o e'⟩
 item:=by
  intro X hP hw hK hc i pins s σ H E I hf st hg;subst hP hw hK;obtain⟨⟨old,st⟩,cy⟩:=st;obtain⟨xs,x,hq,hx⟩:=hg;obtain⟨its,rv,p,hz⟩:=I.list hq;obtain⟨u,hu,ru⟩:=rv.get hx;refine wpAny_pyNext_enum_item st cy p.isList (x:=u) (by simpa using hu) bt fun h1 ho B6 abt hsz cE=>⟨.ref s.heap.objs.size,rfl,?_⟩;refine wpAny_letOwnedTupleGo_enum ho fun h2 en2 sb=>?_;have sb:Heap.SameBut e h1 h2:=sb;have Jq:e<s.heap.objs.size:=aT st;have hil:it<s.heap.objs.size:=by
   obtain⟨o,e',_⟩:=cy;exact aT e'
  have I1:Inv X pins σ H { s with heap:=h2,toks:=s.toks+1 }:=I.turnedL (fp:=[e,it]) (fun b ob hb e'=>by
   simp only[bh,Az,AA,not_or]at hb;exact(sb.2 b hb.1).trans (cE b ob hb.1 hb.2 e')) hf
  have hn:H s.heap.objs.size=none:=I.hok.fresh (av _);have fp:=I.fpOk (H':=H) (av _) hn;have ue:h2.get? s.heap.objs.size=some { cls:=.type "tuple",data:=.seq #[.int i s.toks,u] }:=(sb.2 _ (jF Jq)).trans abt;have I2:Inv X pins σ (ak H s.heap.objs.size (.tup [.int i,x])) { s with heap:=h2,toks:=s.toks+1 }:=by
   refine I1.track hn I.sz fp.2.1 fp.2.2.2.2.1 fp.2.2.2.2.2 ?_;exact⟨by show 2<=sizeLine;decide,[.int i s.toks,u],.cons ⟨_,rfl⟩ (.cons ru .nil),_,ue,rfl,0,rfl⟩
  refine⟨.ref s.heap.objs.size,_,I2,rfl,⟨_,x,hn,fun ys hy=>by rw[I.list_inj hy hq];exact hx,rfl,rfl⟩,⟨⟨u,by simpa using en2⟩,B6.at fun o e'=>(sb.2 it (dQ bt)).trans e'⟩,fun b hb=>?_⟩;have hb0:=(hf b hb).1;rw[a8,hb0];simp only[bh,Az,AA]at hb
  rcases hb with rfl | rfl
  . exact bH Jq
  . exact bH hil
 done:=by
  intro X hP hw hK hc i pins s σ H E I hf st hg;subst hP hw hK;obtain⟨⟨old,st⟩,cy⟩:=st;obtain⟨xs,hq,hx⟩:=hg;obtain⟨its,rv,p,hz⟩:=I.list hq;have hl:=rv.length;exact wpAny_pyNext_enum_end (I.ok.hd hc) st cy p.isList (by simp;omega) fun h' eb=>⟨rfl,I.turnedL (t':=s.toks) (fp:=[e,it]) (fun b o hb e'=>eb b o (fun z=>hb (by simp[z])) e') hf⟩
 self:=fun _ _ _ _ _ st h=>st.elim fun abx _=>abx.elim fun _ st=>wpAny_pyIter_enum st h
section
variable {X:Cx}
def aby(K:Fg)(ta:TA):TI:=fun σ H R=>ta σ H fun vs H1=>∃a,vs = [.ref a]/\(∃xs,ae K H1 a xs)/\R (uz K a) H1
theorem Jr{l:Expr}{ta:TA}{p pos p2:Pos}{elts:List Expr}{x1:Nat}(hg:Gl X "enumerate")(hm:X.mg "enumerate" = none)(ha:PA X [l] ta)(hs:starEach [l] X.env = [(false,eval l X.env)]:=by rfl) :
 PI X (.Tuple elts x1 p2) (.Call (.Name "enumerate" p) [l] [] pos) (aby X.K ta):=by
 intro pins s σ H R I h;refine Call_ (oZ I hg hm boot_enumerate (FC (thn (ha pos pins s σ H _ I h) fun us s1 abz=>abz.elim fun vs abA=>abA.elim fun H1 abB=>abB.elim fun I1 abC=>abC.elim fun r1 q1=>?_) hs rfl));obtain⟨a,e,⟨xs,hq⟩,q⟩:=q1;subst e;obtain⟨u,rfl,rx⟩:=vals1 r1;cases rx;obtain⟨its,rv,pl,hz⟩:=I1.list hq;refine call_enumerate_list pl.isList fun h' en it hsz kp=>?_;refine wpAny_pyIter_enum en ?_;refine⟨s1.heap.objs.size+1,[s1.heap.objs.size+1,s1.heap.objs.size],_,_,H1,rfl,I1.kept (t':=s1.toks) kp,abp a _ _ (Nat.succ_ne_self _),⟨⟨_,en⟩,it⟩,fun b hb=>?_,q⟩;have e:s1.heap.objs.size<=b:=by
  simp only[bh,Az,AA]at hb
  rcases hb with rfl | rfl
  . exact sZ _
  . exact av _
 exact I1.fpOk e (I1.hok.fresh e)
end
section
variable {prog:Program} {w:World} {A:Around} {E:VP} {s:Shared}
theorem Js{x y:Str}(h:x≠y):decide (x.cps.toList<y.cps.toList) = !decide (y.cps.toList<x.cps.toList):=by
 have ne:x.cps.toList≠y.cps.toList:=fun z=>h (by
  obtain⟨⟨x⟩⟩:=x;obtain⟨⟨y⟩⟩:=y;have z:x=y:=z;rw[z])
 by_cases l:x.cps.toList<y.cps.toList
 . rw[aL l,aU (List.lt_asymm l)];rfl
 . rw[aU l];have l':y.cps.toList<x.cps.toList:=by
    rcases Classical.em (y.cps.toList<x.cps.toList) with z | z
    . exact z
    . exact absurd (OU (AC.mp z) (AC.mp l)) ne
   rw[aL l'];rfl
end
section
variable {X:Cx}
end
theorem take_snoc{α:Type}{ys:List α}{i:Nat}{y:α}(h:ys[i]? = some y):ys.take (i+1)=ys.take i++[y]:=by
 rw[List.take_succ,h];rfl
section
variable {g:TG} {te:TE} {H1:Hp} {Q:Addr->Hp->Prop}
theorem Jt{K:Fg}{a:Addr}{xs:Lv}{σ0:St}(hx:ae K H1 a xs)(S:St->Prop)(ys:Lv)(hl:ys.length=xs.length)(big:xs.length<=sizeLine)(s0:S σ0)
 (turn:∀(i:Nat) x y σ H (k:St->V->Hp->Prop),xs[i]? = some x->ys[i]? = some y->S σ->ag H1 H->(∀σ3 H5,S σ3->ag H H5->k σ3 y H5)->g x σ H fun σ3 H3=>te σ3 H3 (k σ3))
 (done:∀D H,H1 D=none->H D=some (.lst ys)->ag H1 H->Q D H) :
 ∀D,H1 D=none->∃W:Nat->Nat->St->Hp->Prop,(∃m,W 0 m σ0 (ak H1 D (.lst [])))/\kJ (kz K a) g rC te D (fun H'=>Q D H') W:=by
 refine HZ hx S (fun i zs _=>zs=ys.take i) s0 (fun _ _=>rfl) (fun D i x zs σ H k a1 a2 a3 a4 a5 a6 a7=>?_) fun D zs H a1 a2 a3 a4=>?_
 . have hi:i<ys.length:=by rw[hl];exact(bZ.mp a2).1
   have hy:=eJ hi;refine turn i x ys[i] σ H k a2 hy a3 a5 fun σ3 H5 b1 b2=>a7 σ3 _ H5 b1 b2 ?_ ?_
   . rw[a6,dE];omega
   . rw[a6,take_snoc hy]
 . rw[a4,←hl,ca]at a2;exact done D H a1 a2 a3
end
end L2
namespace HT
open PySem PyProof.Rows
abbrev At:=Int ⊕ Str
def lN:At->At->Bool
 | .inl a,.inl b=>decide (a<b)
 | .inr x,.inr y=>decide (x.cps.toList<y.cps.toList)
 | _,_=>false
def kin:At->At->Prop
 | .inl _,.inl _=>True
 | .inr _,.inr _=>True
 | _,_=>False
def cZ:List At->List At->Bool
 | [],[]=>false
 | [],_::_=>true
 | _::_,[]=>false
 | x::xs,y::ys=>if x=y then cZ xs ys else lN x y
def dL:List At->List At->Prop
 | x::xs,y::ys=>if x=y then dL xs ys else kin x y
 | _,_=>True
theorem nn(x y:At)(xs ys:List At):cZ (x::xs) (y::ys)=if x=y then cZ xs ys else lN x y:=rfl
theorem uA(x y:At)(xs ys:List At):dL (x::xs) (y::ys)=if x=y then dL xs ys else kin x y:=rfl
inductive gC:Lw->List At->Prop
 | nil:gC [] []
 | int (n:Int) (t:Tok) {vs:Lw} {as:List At}:gC vs as->gC (.int n t::vs) (.inl n::as)
 | str (x:Str) (t:Tok) {vs:Lw} {as:List At}:gC vs as->gC (.str x t::vs) (.inr x::as)
theorem gC.length{vs:Lw}{as:List At}(h:gC vs as):vs.length=as.length:=by
 induction h with
 | nil=>rfl
 | int _ _ _ ih=>exact fQ (· + 1) ih
 | str _ _ _ ih=>exact fQ (· + 1) ih
theorem abD(A:Around)(s:Shared)(a:Str)(t:Tok)(c:Str)(u:Tok):∃e,SeqAt.EqAt A s (.str a t) (.str c u) e/\(e=true↔a=c):=
 ⟨(a == c),SeqAt.EqAt.str_str a t c u,by simp⟩
theorem Ju(A:Around)(s:Shared)(a:Str)(t:Tok)(c:Str)(u:Tok)(prog:Program)(w:World)(E:VP)(Q:VP)(h:Q (.bool (decide (a.cps.toList<c.cps.toList))) s) :
 wpAny (model prog w) A (richCompare .Lt (.str a t) (.str c u)) Q E s:=
 (PyProof.Rows.lt_str h:wpAny (model prog w) A (compareOp .Lt (.str a t) (.str c u)) Q E s)
section
open PySem.SeqAt
open PySem.AutoSeq1 (wpAny_loadPart')
open PySem.MeetsSeq PySem.MeetsSeq2 PySem.MeetsSeq3
end
section
variable {prog:Program} {w:World} {A:Around} {E:VP} {s:Shared}
end
end HT
namespace L2
open PySem PyProof.Rows
theorem rJ{α β:Type}{n:Nat}{f:Nat->Nat->Bool}{g:α->PySem.W.KasT β}{a:α}:∀{t:PySem.W.KasT α},fc n f t=some a->fc n f (t.bind g)=fc n f (g a)
 | .ret b,e=>by cases e;rfl
 | .ask i j k,e=>by
  show(if _ then fc n f ((k (f i j)).bind g) else none)=_;unfold fc at e;split at e
  . rename_i h;rw[ai h];exact rJ e
  . cases e
theorem uB{α:Type}{n i j:Nat}{f:Nat->Nat->Bool}{k:Bool->PySem.W.KasT α}(hi:i<n)(hj:j<n)(bt:i≠j):fc n f (.ask i j k)=fc n f (k (f i j)):=by
 show(if _ then _ else _)=_;rw[ai];rw[aL hi,aL hj,aL bt];rfl
structure Pl(n:Nat)(p:Array Nat):Prop where
 sz:p.size=n
 lt:∀i,i<n->p.getD i 0<n
 ne:∀i j,i<n->j<n->i≠j->p.getD i 0≠p.getD j 0
theorem uC{p:Array Nat}{i:Nat}(h:i<p.size):p.getD i 0=p.toList[i]'(by simpa using h):=by
 simp[Array.getD,h]
theorem Pl.of{n:Nat}{p:Array Nat}(h:p.toList.Perm (List.range n)):Pl n p:=by
 have hs:p.size=n:=by
  have:=h.length_eq;simpa using this
 have hd:p.toList.Nodup:=h.nodup_iff.mpr List.nodup_range;refine⟨hs,fun i hi=>?_,fun i j hi hj bt e=>?_⟩
 . rw[uC (by omega)];exact lr.mp (h.mem_iff.mp (Au _))
 . rw[uC (by omega),uC (by omega)]at e;exact bt ((Ot hd).mp e)
def no(f:Nat->Nat->Bool)(p:Array Nat)(k:Nat):Prop:=∀i j,i<j->j<k->f (p.getD i 0) (p.getD j 0)=true
def B7(f:Nat->Nat->Bool)(p:Array Nat)(k:Nat):Prop:=∀i j,i<j->j<k->f (p.getD j 0) (p.getD i 0)=true
section
variable {n:Nat} {f:Nat->Nat->Bool} (ju:∀i j,i<n->j<n->i≠j->f i j = !f j i) (tr:∀i j k,i<n->j<n->k<n->f i j=true->f j k=true->f i k=true)
include ju tr
theorem B8{p:Array Nat}(hp:Pl n p):∀(u m:Nat),m+u=n->1<=m->no f p m->∃r,fc n f (PySem.W.kas_asc p u m)=some r/\m<=r/\r<=n/\no f p r/\(r=n\/f (p.getD r 0) (p.getD (r - 1) 0)=true)
 | 0,m,e,h1,hs=>⟨m,rfl,av _,by omega,hs,.inl (by omega)⟩
 | u+1,m,e,h1,hs=>by
  unfold PySem.W.kas_asc;have a1:=hp.lt m (by omega);have a2:=hp.lt (m - 1) (by omega);have a3:=hp.ne m (m - 1) (by omega) (by omega) (by omega);rw[uB a1 a2 a3];cases c:f (p.getD m 0) (p.getD (m - 1) 0) with
  | true=>exact⟨m,by rw[ai rfl];rfl,av _,by omega,hs,.inr c⟩
  | false=>
   rw[af (by simp)];have c':f (p.getD (m - 1) 0) (p.getD m 0)=true:=by rw[ju _ _ a2 a1 (dQ a3),c];rfl
   obtain⟨r,e1,e2,e3,e4,e5⟩:=B8 hp u (m+1) (by omega) (by omega) (fun i j gZ hj=>by
    by_cases B9:j<m
    . exact hs i j gZ B9
    . obtain rfl:j=m:=by omega
      by_cases hi:i=j - 1
      . subst hi;exact c'
      . exact tr _ _ _ (hp.lt _ (by omega)) a2 a1 (hs i (j - 1) (by omega) (by omega)) c')
   exact⟨r,e1,by omega,e3,e4,e5⟩
theorem Jv{p:Array Nat}(hp:Pl n p):∀(u m:Nat),m+u=n->1<=m->B7 f p m->∃r,fc n f (PySem.W.kas_desc u p m 0)=some (p,r,0)/\m<=r/\r<=n/\B7 f p r
 | 0,m,e,h1,hs=>⟨m,rfl,av _,by omega,hs⟩
 | u+1,m,e,h1,hs=>by
  unfold PySem.W.kas_desc;have a1:=hp.lt m (by omega);have a2:=hp.lt (m - 1) (by omega);have a3:=hp.ne m (m - 1) (by omega) (by omega) (by omega);rw[uB a1 a2 a3];cases c:f (p.getD m 0) (p.getD (m - 1) 0) with
  | true=>
   rw[ai rfl,af (by omega)];obtain⟨r,e1,e2,e3,e4⟩:=Jv hp u (m+1) (by omega) (by omega) (fun i j gZ hj=>by
    by_cases B9:j<m
    . exact hs i j gZ B9
    . obtain rfl:j=m:=by omega
      by_cases hi:i=j - 1
      . subst hi;exact c
      . exact tr _ _ _ a1 a2 (hp.lt _ (by omega)) c (hs i (j - 1) (by omega) (by omega)))
   exact⟨r,e1,by omega,e3,e4⟩
  | false=>
   have c':f (p.getD (m - 1) 0) (p.getD m 0)=true:=by rw[ju _ _ a2 a1 (dQ a3),c];rfl
   rw[af (by simp),uB a2 a1 (dQ a3),c',ai rfl];exact⟨m,rfl,av _,by omega,hs⟩
omit ju tr in
theorem Jw{p:Array Nat}{r:Nat}(hr:r<=p.size)(k:Nat):(PySem.W.kas_rev p 0 r).getD k 0=if k<r then p.getD (r - 1 - k) 0 else p.getD k 0:=by
 unfold PySem.W.kas_rev;rw[lA,lA,lA,getElem?_mirror_all hr]
 by_cases h:k<r
 . rw[ai ⟨cj _,h⟩,ai h,Aq]
 . rw[af (by omega),af h]
omit ju tr in
theorem abE{p:Array Nat}{r:Nat}(hp:p.toList.Perm (List.range n)):(PySem.W.kas_rev p 0 r).toList.Perm (List.range n):=
 (OV.mp (mirror_perm p 0 r _)).trans hp
theorem abF{p:Array Nat}(hp:p.toList.Perm (List.range n))(h2:2<=n):∃r q,fc n f (PySem.W.kas_count n p)=some (r,q)/\1<=r/\r<=n/\q.toList.Perm (List.range n)/\no f q r:=by
 have P:=Pl.of hp;obtain⟨r,e1,e2,e3,e4,e5⟩:=B8 ju tr P (n - 1) 1 (by omega) (av _) (fun i j gZ hj=>by omega);unfold PySem.W.kas_count;rw[rJ e1]
 by_cases hr:r=n
 . rw[ai (by simpa using hr)];exact⟨r,p,rfl,e2,e3,hp,e4⟩
 rw[af (by simpa using hr)]
 by_cases h1:r > 1
 . rw[ai h1,uB (P.lt _ (by omega)) (P.lt _ (by omega)) (P.ne _ _ (by omega) (by omega) (by omega)),e4 0 (r - 1) (by omega) (by omega),ai rfl];exact⟨r,p,rfl,e2,e3,hp,e4⟩
 obtain rfl:r=1:=by omega
 rw[af h1];have hD:B7 f p 2:=fun i j gZ hj=>by
  obtain rfl:j=1:=by omega
  obtain rfl:i=0:=by omega
  exact e5.resolve_left hr
 obtain⟨m,d1,d2,d3,d4⟩:=Jv ju tr P (n - 2) 2 (by omega) (by omega) hD;unfold PySem.W.kas_descPart;rw[show n - (1+1)=n - 2 by omega,rJ d1];show∃r q,fc n f (if (0:Nat) > 0 then _ else PySem.W.kas_tail3 m n p)=_/\_;rw[af (j8 0)];unfold PySem.W.kas_tail3;have hq:=abE (r:=m) hp;obtain⟨k,k1,k2,k3,k4,k5⟩:=B8 ju tr (Pl.of hq) (n - m) m (by omega) (by omega) (fun i j gZ hj=>by
  rw[Jw (by rw[P.sz];omega),Jw (by rw[P.sz];omega),ai (by omega),ai hj];exact d4 _ _ (by omega) (by omega))
 rw[rJ k1];exact⟨k,_,rfl,by omega,k3,hq,k4⟩
theorem Ca{p:Array Nat}(P:Pl n p){k:Nat}(hk:k<n)(hs:no f p k):∀(u l r:Nat),l<=r->r<=k->r - l<=u->(∀i,i<l->f (p.getD i 0) (p.getD k 0)=true)->(∀i,r<=i->i<k->f (p.getD k 0) (p.getD i 0)=true) ->
 ∃q,fc n f (PySem.W.kas_place p k u l r)=some q/\q<=k/\(∀i,i<q->f (p.getD i 0) (p.getD k 0)=true)/\(∀i,q<=i->i<k->f (p.getD k 0) (p.getD i 0)=true)
 | 0,l,r,hl,hr,hu,ha,hb=>⟨l,rfl,by omega,ha,fun i h1 h2=>hb i (by omega) h2⟩
 | u+1,l,r,hl,hr,hu,ha,hb=>by
  unfold PySem.W.kas_place
  by_cases h:l >= r
  . rw[ai h];exact⟨l,rfl,by omega,ha,fun i h1 h2=>hb i (by omega) h2⟩
  rw[af h];have b1:l<=(l+r) / 2:=by omega
  have b2:(l+r) / 2<r:=by omega
  have a1:=P.lt k hk;have a2:=P.lt ((l+r) / 2) (by omega);have a3:=P.ne k ((l+r) / 2) hk (by omega) (by omega);rw[uB a1 a2 a3];cases c:f (p.getD k 0) (p.getD ((l+r) / 2) 0) with
  | true=>
   rw[ai rfl];refine Ca P hk hs u l _ b1 (by omega) (by omega) ha fun i h1 h2=>?_
   by_cases hi:i=(l+r) / 2
   . subst hi;exact c
   . exact tr _ _ _ a1 a2 (P.lt i (by omega)) c (hs _ i (by omega) h2)
  | false=>
   rw[af (by simp)];have c':f (p.getD ((l+r) / 2) 0) (p.getD k 0)=true:=by rw[ju _ _ a2 a1 (dQ a3),c];rfl
   refine Ca P hk hs u _ r b2 hr (by omega) (fun i h1=>?_) hb
   by_cases hi:i=(l+r) / 2
   . subst hi;exact c'
   . exact tr _ _ _ (P.lt i (by omega)) a2 a1 (hs i _ (by omega) (by omega)) c'
theorem Jx:∀(u k:Nat) {p:Array Nat},k+u=n->p.toList.Perm (List.range n)->no f p k->∃q,fc n f (PySem.W.kas_bin u p k)=some q/\q.toList.Perm (List.range n)/\no f q n
 | 0,k,p,e,hp,hs=>⟨p,rfl,hp,by rw[←e];exact hs⟩
 | u+1,k,p,e,hp,hs=>by
  have P:=Pl.of hp;unfold PySem.W.kas_bin;obtain⟨l,e1,e2,e3,e4⟩:=Ca ju tr P (k:=k) (by omega) hs k 0 k (cj _) (av _) (by omega) (fun i h=>absurd h (qQ _)) (fun i h1 h2=>by omega);rw[rJ e1];have hq:(bubble p k (k - l)).toList.Perm (List.range n):=(OV.mp (bubble_perm p k _)).trans hp;have at':∀i,(bubble p k (k - l)).getD i 0=if i=l then p.getD k 0 else if l<i/\i<=k then p.getD (i - 1) 0 else p.getD i 0:=by
   intro i;have z:=getElem?_bubble (xs:=p) (src:=k) (by rw[P.sz];omega) (k - l) (by omega) i;rw[show k - (k - l)=l by omega]at z;rw[lA,z];split
   . rw[lA]
   . split
     . rw[lA]
     . rw[lA]
  refine Jx u (k+1) (by omega) hq fun i j gZ hj=>?_;rw[at',at']
  by_cases h1:i=l
  . rw[ai h1,af (by omega),ai ⟨by omega,by omega⟩];exact e4 _ (by omega) (by omega)
  rw[af h1]
  by_cases h2:j=l
  . rw[ai h2,af (by omega)];exact e3 i (by omega)
  rw[af h2]
  by_cases h3:l<i
  . rw[ai ⟨h3,by omega⟩,ai ⟨by omega,by omega⟩];exact hs _ _ (by omega) (by omega)
  rw[af (by omega)]
  by_cases h4:l<j
  . rw[ai ⟨h4,by omega⟩];exact hs _ _ (by omega) (by omega)
  rw[af (by omega)];exact hs _ _ gZ (by omega)
theorem abG(h2:2<=n):∃p:Array Nat,fc n f (PySem.W.kas_sort n)=some p/\p.toList.Perm (List.range n)/\no f p n:=by
 obtain⟨r,q,e1,e2,e3,e4,e5⟩:=abF ju tr (p:=(List.range n).toArray) (by simp) h2;unfold PySem.W.kas_sort;rw[rJ e1]
 by_cases h:r<n
 . show∃p,fc n f (if r<n then _ else _)=_/\_;rw[ai h];show∃p,fc n f (PySem.W.kas_bin (n - max r 1) q (max r 1))=_/\_;rw[show max r 1=r by omega];exact Jx ju tr (n - r) r (by omega) e4 e5
 . show∃p,fc n f (if r<n then _ else _)=_/\_;rw[af h];obtain rfl:r=n:=by omega
   exact⟨q,rfl,e4,e5⟩
end
open PySem.Spec
open HT (At cZ dL lN kin gC)
def aV:At->V
 | .inl n=>.int n
 | .inr x=>.str x
theorem Cb:∀{as:List At} {us:Lw},aH (as.map aV) us->gC us as
 | [],us,h=>by cases h;exact .nil
 | .inl n::as,us,h=>by
  cases h with
  | cons r t=>
   obtain⟨tk,rfl⟩:=(show∃tk,_=Value.int n tk from r);exact .int n tk (Cb t)
 | .inr x::as,us,h=>by
  cases h with
  | cons r t=>
   obtain⟨tk,rfl⟩:=(show∃tk,_=Value.str x tk from r);exact .str x tk (Cb t)
theorem abH(x:At):lN x x=false:=by
 cases x with
 | inl a=>exact aU (by omega)
 | inr a=>exact aU (Gc _)
theorem abI{x y z:At}(h1:lN x y=true)(h2:lN y z=true):lN x z=true:=by
 cases x<;>cases y<;>cases z<;>first | exact aL (by have a:=b0 h1;have b:=b0 h2;omega) | exact aL (OW (b0 h1) (b0 h2)) | cases h1 | cases h2
theorem abJ{x y:At}(h:x≠y)(k:kin x y):lN x y = !lN y x:=by
 cases x with
 | inl a=>
  cases y with
  | inl b=>
   show decide _ = !decide _;have bt:a≠b:=fun z=>h (by rw[z])
   by_cases l:a<b
   . rw[aL l,aU (by omega)];rfl
   . rw[aU l,aL (by omega)];rfl
  | inr b=>exact k.elim
 | inr a=>
  cases y with
  | inl b=>exact k.elim
  | inr b=>exact Js fun z=>h (by rw[z])
theorem xT:∀x:List At,cZ x x=false
 | []=>rfl
 | a::x=>by
  rw[HT.nn,ai rfl];exact xT x
theorem Jy:∀x y:List At,x≠y->dL x y->cZ x y = !cZ y x
 | [],[],h,_=>absurd rfl h
 | [],_::_,_,_=>rfl
 | _::_,[],_,_=>rfl
 | a::x,b::y,h,k=>by
  rw[HT.nn,HT.nn];rw[HT.uA]at k
  by_cases e:a=b
  . subst e;rw[ai rfl,ai rfl];rw[ai rfl]at k;exact Jy x y (fun q=>h (by rw[q])) k
  . rw[af e,af (fun q=>e q.symm)];rw[af e]at k;exact abJ e k
theorem Cc:∀x y z:List At,cZ x y=true->cZ y z=true->cZ x z=true
 | [],[],_,h,_=>by cases h
 | [],_::_,[],_,h=>by cases h
 | [],_::_,_::_,_,_=>rfl
 | _::_,[],_,h,_=>by cases h
 | _::_,_::_,[],_,h=>by cases h
 | a::x,b::y,c::z,h1,h2=>by
  rw[HT.nn]at h1 h2 ⊢
  by_cases e1:a=b
  . subst e1;rw[ai rfl]at h1
    by_cases e2:a=c
    . subst e2;rw[ai rfl]at h2 ⊢;exact Cc x y z h1 h2
    . rw[af e2]at h2 ⊢;exact h2
  . rw[af e1]at h1
    by_cases e2:b=c
    . subst e2;rw[af e1];exact h1
    . rw[af e2]at h2;have l:=abI h1 h2;rw[af (fun q=>by rw[q,abH]at l;cases l)];exact l
section
variable {prog:Program} {w:World} {A:Around} {E:VP} {s:Shared}
theorem abK{b:Bool}{Q:Bool->Shared->Prop}{xs:Lw}{is:List At}(hx:gC xs is):∀{ys:Lw} {js:List At} (i:Nat),gC ys js->dL is js->Q (cZ is js) s ->
 PySem.W.KatLex prog w A b (decide (is.length<js.length)) Q (xs.zip ys) i s:=by
 induction hx with
 | nil=>
  intro ys js i hy ok q;have z:∀(c:At) (js:List At),decide (([]:List At).length<(c::js).length)=true:=fun c js=>aL (Ar _);cases hy with
  | nil=>exact wB q
  | int c u hy=>exact wB (show Q (decide _) s from by rw[z];exact q)
  | str c u hy=>exact wB (show Q (decide _) s from by rw[z];exact q)
 | int a t hx ih=>
  intro ys js i hy ok q;cases hy with
  | nil=>
   refine wB (show Q (decide _) s from ?_);rw[aU (by rw[je];exact qQ _)];exact q
  | str c u hy=>
   rw[HT.uA,af (by intro z;cases z)]at ok;exact ok.elim
  | int c u hy=>
   rename_i xs is ys js;rw[HT.nn]at q;rw[HT.uA]at ok;refine Gd (Oj (Ge (fun e=>Gf ?_) fun e=>Gg ?_))
   . have e:=eq_of_beq e;rw[ai (by rw[e])]at q ok;have z:decide ((Sum.inl a::is).length<(Sum.inl c::js).length)=decide (is.length<js.length):=by
      rw[bu,bu];exact Gh.mpr Nat.succ_lt_succ_iff
     rw[z];exact ih (i+1) hy ok q
   . have e:(Sum.inl a:At)≠Sum.inl c:=fun z=>by
      cases z;rw[wv]at e;cases e
     rw[af e]at q;cases hb:(b && i == 0) with
     | true=>exact oneLt_int q
     | false=>exact Gi _ _ (HT.xn _ _ _ _ _ _ _ _ _ _ q)
 | str a t hx ih=>
  intro ys js i hy ok q;cases hy with
  | nil=>
   refine wB (show Q (decide _) s from ?_);rw[aU (by rw[je];exact qQ _)];exact q
  | int c u hy=>
   rw[HT.uA,af (by intro z;cases z)]at ok;exact ok.elim
  | str c u hy=>
   rename_i xs is ys js;rw[HT.nn]at q;rw[HT.uA]at ok;refine Gd (wpAny_eqBool_str (Ge (fun e=>Gf ?_) fun e=>Gg ?_))
   . have e:=b0 e;rw[ai (by rw[e])]at q ok;have z:decide ((Sum.inr a::is).length<(Sum.inr c::js).length)=decide (is.length<js.length):=by
      rw[bu,bu];exact Gh.mpr Nat.succ_lt_succ_iff
     rw[z];exact ih (i+1) hy ok q
   . have e:(Sum.inr a:At)≠Sum.inr c:=fun z=>by
      cases z;rw[aL rfl]at e;cases e
     rw[af e]at q;cases hb:(b && i == 0) with
     | true=>exact oneLt_str q
     | false=>exact Gi _ _ (HT.Ju _ _ _ _ _ _ _ _ _ _ q)
def jW(h:Heap)(v:Value)(as:List At):Prop:=∃a o xs n,v = .ref a/\h.get? a=some o/\o.cls = .type "tuple"/\o.data = .seq xs n/\gC xs.toList as/\∃x r,as = .inr x::r
theorem abL{b:Bool}{Q:Bool->Shared->Prop}{x y:Value}{is js:List At}(hx:jW s.heap x is)(hy:jW s.heap y js)(ok:dL is js)(q:Q (cZ is js) s):wpAny (model prog w) A (keyLt' (tuples' b) x y) Q E s:=by
 obtain⟨ax,ox,xs,n,rfl,x1,x2,x3,x4,_⟩:=hx;obtain⟨ay,oy,ys,k,rfl,y1,y2,y3,y4,_⟩:=hy;refine PySem.W.kat_lt x1 x3 y1 y3 ?_;have e1:=x4.length;have e2:=y4.length;have z:decide (xs.size<ys.size)=decide (is.length<js.length):=by
  rw[←e1,←e2,cK,cK]
 rw[z];exact abK x4 0 y4 ok q
theorem jW.keep{h h':Heap}{v:Value}{is:List At}(t:jW h v is)(k:∀b o,h.get? b=some o->o.cls = .type "tuple"->h'.get? b=some o):jW h' v is:=by
 obtain⟨a,o,xs,n,e,h1,h2,h3,h4⟩:=t;exact⟨a,o,xs,n,e,k a o h1 h2,h2,h3,h4⟩
theorem abM{h:Heap}:∀{vs:Lw} {ks:List (List At)},Paired (jW h) vs ks->∃fs:Lw,PySem.W.KatTups h vs fs/\fs.length=vs.length/\∀v∈fs,∃(i:Str) (t:Tok),v = .str i t:=by
 intro vs ks p
 induction p with
 | nil=>exact⟨[],trivial,rfl,fun _ h=>nomatch h⟩
 | cons x p ih=>
  obtain⟨fs,h1,h2,h3⟩:=ih;obtain⟨a,o,xs,n,rfl,x1,x2,x3,x4,y,r,rfl⟩:=x;cases hl:xs.toList with
  | nil=>
   rw[hl]at x4;cases x4
  | cons f r=>
   rw[hl]at x4;cases x4 with
   | str i t z=>
    refine⟨.str y t::fs,PySem.W.KatTups.cons x1 x2 x3 (by rw[←ly,hl];rfl) h1,by rw[bu,bu,h2],fun v hv=>?_⟩
    rcases bh.mp hv with rfl | hv
    . exact⟨y,t,rfl⟩
    . exact h3 v hv
def fA(ks:List (List At))(i j:Nat):Bool:=cZ (ks.getD i []) (ks.getD j [])
theorem abN{ks:List (List At)}(nd:ks.Nodup){i j:Nat}(hi:i<ks.length)(hj:j<ks.length)(h:i≠j):ks.getD i []≠ks.getD j []:=by
 rw[qR,qR,eJ hi,eJ hj];exact fun z=>h ((Ot nd).mp z)
theorem Jz{ks:List (List At)}{i:Nat}(hi:i<ks.length):ks.getD i []∈ks:=by
 rw[qR,eJ hi];exact Au hi
theorem abO{f:Nat->Nat->Bool}{p:Array Nat}(h:no f p p.size):p.toList.Pairwise fun i j=>f i j=true:=by
 rw[OX];intro i j hi hj gZ;have gY:i<p.size:=by simpa using hi
 have iW:j<p.size:=by simpa using hj
 have:=h i j gZ iW;rw[uC gY,uC iW]at this;exact this
theorem abP{a:Addr}{vs:Lw}{ks:List (List At)}{n:Nat}{P:PySem.Fin->Shared->Prop}(ho:s.heap.get? a=some (seqObj "list" vs.toArray n))(hk:Paired (jW s.heap) vs ks)(h4:vs.length<64)(nd:ks.Nodup)(ok:∀x∈ks,∀y∈ks,dL x y)
 (h:∀p:List Nat,p.Perm (List.range vs.length)->p.Pairwise (fun i j=>fA ks i j=true)->P (.done (.ret .none)) { s with heap:=sortedHeap s.heap a vs (p.map fun i=>vs.getD i Value.none).toArray }) :
 wpAny (model prog w) A (Builtin.«list.sort» ⟨[.ref a],[]⟩) P E s:=by
 have xU:a<s.heap.objs.size:=aT ho;have xV:vs.length=ks.length:=pD hk;rw[list_sort_plain];obtain⟨ep,uD⟩:∃ep,(s.heap.update a (Obj.mapSeq fun _=>(#[]:Av))).get? a=some (seqObj "list" #[] ep):=⟨_,Gj ho (fun _=>#[])⟩;refine ac (listItems_at ho rfl ?_);refine ac (wC ho rfl ?_);refine ac (wD uD rfl ?_);refine ac (OO ?_);refine ac (tz ?_);refine fu ?_;have jX:(((s.heap.update a (Obj.mapSeq fun _=>(#[]:Av))).push (seqObj "tuple" vs.toArray 0)).push (seqObj "list" #[] 0)).get? a=some (seqObj "list" #[] ep):=
  bg _ (bg _ uD)
 have kp:∀b o,s.heap.get? b=some o->o.cls = .type "tuple"->(((s.heap.update a (Obj.mapSeq fun _=>(#[]:Av))).push (seqObj "tuple" vs.toArray 0)).push (seqObj "list" #[] 0)).get? b=some o:=fun b o e c=>by
  have hb:b≠a:=fun z=>by
   rw[z,ho]at e;cases e;exact absurd (show Value.type "list" = Value.type "tuple" from c) (by decide)
  refine bg _ (bg _ ?_);rw[Gk _ _ _ _ hb];exact e
 have pH:Paired (jW (((s.heap.update a (Obj.mapSeq fun _=>(#[]:Av))).push (seqObj "tuple" vs.toArray 0)).push (seqObj "list" #[] 0))) vs ks:=bd hk fun _ _ t=>t.keep kp;have e7:∀out:Av,sortedHeap s.heap a vs out=(((s.heap.update a (Obj.mapSeq fun _=>(#[]:Av))).push (seqObj "tuple" vs.toArray 0)).push (seqObj "list" #[] 0)).update a (Obj.mapSeq fun _=>out):=fun _=>rfl;show wpAny (model prog w) A _ P E { s with heap:=(((s.heap.update a (Obj.mapSeq fun _=>(#[]:Av))).push (seqObj "tuple" vs.toArray 0)).push (seqObj "list" #[] 0)) };simp only[e7]at h;generalize ((s.heap.update a (Obj.mapSeq fun _=>(#[]:Av))).push (seqObj "tuple" vs.toArray 0)).push (seqObj "list" #[] 0)=h6 at jX pH h ⊢;dsimp only
 by_cases h2:vs.toArray.size<2
 . have nj:vs.length<2:=h2;rw[ai h2,ai h2];refine ac (aj ?_);rw[StateT.run_pure];refine ac (aj ?_);dsimp only;have eo:(arrOf (SortSt.mk' general' (vs.toArray.zip vs.toArray) #[] 7 none)).map (·.2)=vs.toArray:=by
    show(vs.toArray.zip vs.toArray).map (·.2)=vs.toArray;apply OY.mp;rw[OZ,Gm];exact O0 (av _)
   rw[eo];refine ac (wD jX rfl ?_);refine ac (wC jX rfl ?_ (hsz2:=by show vs.length<=_;rw[iI];omega));simp only[Go,ii,jd];have q:=h (List.range vs.length) (tE _) (by
    have:vs.length=0\/vs.length=1:=by omega
    rcases this with z | z<;>rw[z]<;>simp[OL])
   rw[Z6]at q;exact aj q
 . have nj:2<=vs.length:=wu h2;rw[af h2,af h2];obtain⟨fs,t1,t2,t3⟩:=abM pH;refine ac (PySem.W.kat_kind (T:=.type "str") t1 (by omega) (fun v hv=>?_) rfl ?_)
   . obtain⟨i,t,rfl⟩:=t3 v hv;exact .of_pure rfl
   have JA:∀i j,i<vs.length->j<vs.length->dL (ks.getD i []) (ks.getD j []):=fun i j hi hj=>ok _ (Jz (xV▸hi)) _ (Jz (xV▸hj));obtain⟨p,hr,hp,ha'⟩:=abG (n:=vs.length) (f:=fA ks) (fun i j hi hj bt=>Jy _ _ (abN nd (xV▸hi) (xV▸hj) bt) (JA i j hi hj)) (fun i j k _ _ _=>Cc _ _ _) nj;have JB:p.size=vs.length:=by
    have:=hp.length_eq;rw[oS,cK]at this;exact this
   have run:(PySem.W.kas_sort vs.length).kasWp (PySem.W.kas_ask prog w A (tuples' (Value.type "str" != Value.type "tuple")) vs) (fun p' s'=>p'=p/\s' = { s with heap:=h6 }) { s with heap:=h6 }:=
    Iy (n:=vs.length) (f:=fA ks) (fun i j C hi hj _ c=>abL (BJ pH i hi _ _) (BJ pH j hj _ _) (JA i j hi hj) c) _ hr ⟨rfl,rfl⟩
   refine ac (df (PySem.W.kat_run (Q:=fun al s'=>arrOf al=p.map (PySem.W.kas_item (vs.toArray.zip vs.toArray))/\failedOf al=none/\s' = { s with heap:=h6 }) (G:=fun p' s'=>p'=p/\s' = { s with heap:=h6 }) rfl nj (by omega)
    (fun p' al s' a1 a2 a3 a4=>⟨a4.1▸a2,a3,a4.2⟩) run) ?_ fun _ _ e=>e)
   rintro⟨⟨⟩,al⟩ s' ⟨har,hf,rfl⟩;dsimp only;rw[PySem.W.kat_snds rfl har];refine ac (wD jX rfl ?_);refine ac (wC jX rfl ?_ (hsz2:=by show(p.toList.map _).length<=_;rw[aw,cK,JB,iI];omega));rw[hf];simp only[Go,ii,jd];exact aj (h p.toList hp (abO (by rw[JB];exact ha')))
theorem abS{r:Addr}{Q:VP}(py:wpAny (model prog w) A.in1 (collect (.ref r)) (fun us s'=>∃(ks:List (List At)) (h':Heap) (tk:Nat),s' = { s with heap:=h',toks:=tk }/\Paired (jW h') us ks/\us.length<64/\ks.Nodup/\(∀x∈ks,∀y∈ks,dL x y) /\
 ∀(h2:Heap) (p:List Nat) (e:Nat),(∀b o,h'.get? b=some o->h2.get? b=some o)->h2.get? h'.objs.size=some (seqObj "list" (p.map fun i=>us.getD i Value.none).toArray e)->p.Perm (List.range us.length)->p.Pairwise (fun i j=>fA ks i j=true)->Q (.ref h'.objs.size) { s with heap:=h2,toks:=tk }) E s) :
 wpAny (model prog w) A (call (.builtin "sorted") [.ref r]) Q E s:=by
 refine FV FW FX FY (FZ (.ref r)) ?_;unfold Builtin.«sorted»;refine ac (m:=checkCount "sorted" 1 1 _) (aj (ac (df py (fun us s' z=>?_) fun _ _ e=>e)));obtain⟨ks,h',tk,rfl,hT,h4,nd,ok,fin⟩:=z;refine ac (tz ?_ (by rw[iI];omega));have fZ:(h'.push (seqObj "list" us.toArray 0)).get? h'.objs.size=some (seqObj "list" us.toArray 0):=dv _ rfl;show wpAny _ _ _ _ _ { s with heap:=h'.push (seqObj "list" us.toArray 0),toks:=tk };have hT':Paired (jW (h'.push (seqObj "list" us.toArray 0))) us ks:=bd hT fun _ _ t=>t.keep fun b o e _=>bg _ e;refine ac (fu (mE F0 ⟨_,fZ,rfl⟩ F1 (abP fZ hT' h4 nd ok fun p a1 a2=>⟨_,rfl,?_⟩) (F2 _)));obtain⟨e,he⟩:=F3 (vs:=us) (out:=(p.map fun i=>us.getD i Value.none).toArray) fZ;refine aj ⟨_,rfl,fin _ p e (fun b o q=>?_) he a1 a2⟩;have hb:=aT q;rw[F5 (bH hb) (by rw[lu];exact Ao hb)];exact bg _ q
end
def lO(H:Hp)(ys:Lv)(ks:List (List At)):Prop:=Paired (fun(y:V) (k:List At)=>∃t,y = .ref t/\H t=some (.tup (k.map aV))/\∃x r,k = .inr x::r) ys ks
section
variable {X:Cx}
theorem Inv.tupA{pins:Po}{σ:St}{H:Hp}{s:Shared}(I:Inv X pins σ H s){ys:Lv}{ks:List (List At)}{its:Lw}(h:lO H ys ks)(r:aH ys its):Paired (jW s.heap) its ks:=
 Z9 (R:=RelV) (fun y v k rv z=>by
  obtain⟨t,rfl,hs,hk⟩:=z;cases rv;obtain⟨is,r1,p1,_⟩:=I.tuple (aI.of (K:=X.K) hs);obtain⟨o,e1,c1,n,d1⟩:=p1;exact⟨t,o,is.toArray,n,rfl,e1,c1,d1,Cb r1,hk⟩) r h
theorem abU:eP X (.builtin "sorted") (fun xs H Q=>∃q ys ks,xs = [.ref q]/\ae X.K H q ys/\lO H ys ks/\ys.length<64/\ks.Nodup/\(∀x∈ks,∀y∈ks,dL x y)/\∀aJ ko,lO H aJ ko->ko.Perm ks->ko.Pairwise (fun x y=>cZ x y=true)->fb H (.lst aJ) Q):=by
 intro pins s σ H xs us Q I r h;obtain⟨q,ys,ks,rfl,hq,ht,h4,nd,ok,fin⟩:=h;obtain⟨u,rfl,ru⟩:=vals1 r;cases ru;obtain⟨its,rv,hl,hz⟩:=I.list hq;have hlen:=pD rv;have uE:=pD ht;have tp:=I.tupA ht rv;have kp:∀b o,s.heap.get? b=some o->((s.heap.push (seqObj "list" #[] 0)).update s.heap.objs.size (Obj.mapSeq (·++its.toArray))).get? b=some o:=fun b o e=>by
  rw[Gk _ _ _ _ (bH (aT e))];exact bg _ e
 refine abS (collect_list hl.isList ?_ (iA (by omega)));generalize (s.heap.push (seqObj "list" #[] 0)).update s.heap.objs.size (Obj.mapSeq (·++its.toArray))=h' at kp ⊢;have I':Inv X pins σ H { s with heap:=h',toks:=s.toks }:=I.kept kp;refine⟨ks,h',s.toks,rfl,bd tp fun _ _ t=>t.keep fun b o e _=>kp b o e,by omega,nd,ok,fun h2 p e k2 he hp ha=>?_⟩;have hm:∀i∈p,i<ys.length:=fun i hi=>by
  have:=lr.mp (hp.mem_iff.mp hi);omega
 have bo:=hp.length_eq;rw[oS]at bo;refine⟨.ref h'.objs.size,_,I'.laid (s:={ s with heap:=h',toks:=s.toks }) (t':=s.toks) (o:=.lst (p.map fun i=>ys.getD i .non)) k2 (av _) ⟨by rw[aw];exact iA (by omega),_,e,BK rv _ _ p hm,he⟩,rfl,?_⟩;exact(fin _ (p.map fun i=>ks.getD i []) (BK ht _ _ p hm) (Z8 (by rw[←uE,hlen];exact hp)) (qU.mpr ha)).at _ (I'.hok.fresh (av _))
end
end L2
namespace HT
open PySem PyProof.Rows
theorem abV(A:Around)(s:Shared)(a:Int)(t:Tok)(c:Int)(u:Tok)(prog:Program)(w:World)(E:VP)(Q:VP)(h:Q (.bool (decide (a<=c))) s) :
 wpAny (model prog w) A (richCompare .LtE (.int a t) (.int c u)) Q E s:=
 (PyProof.Rows.le_int h:wpAny (model prog w) A (compareOp .LtE (.int a t) (.int c u)) Q E s)
section
open PySem.SeqAt
open PySem.AutoSeq1 (wpAny_loadPart')
open PySem.MeetsSeq PySem.MeetsSeq2 PySem.MeetsSeq3
theorem abW(l b:Addr)(items aZ:Av)(n n2:Nat)(dd bU:Oa)(sl bV:Array (Option Value))(ns ms:List Int)(hi:IntsAre items.toList ns)(hj:IntsAre aZ.toList ms) :
 Meets (Builtin.«tuple.__le__» ⟨[.ref l,.ref b],[]⟩)
  (fun _ R s=>s.heap.get? l=some { cls:=.type "tuple",dict:=dd,data:=.seq items n,slots:=sl }/\s.heap.get? b=some { cls:=.type "tuple",dict:=bU,data:=.seq aZ n2,slots:=bV } /\
   R (.ok (.ret (.bool (!lexLt ms ns)))) s):=
 .of_wp fun prog w A R s h=>by
  obtain⟨hp,g,d,tk,os⟩:=s;obtain⟨hl,hb,h⟩:=h;have f2:=FK;have z1:items.size=ns.length:=by rw[←hi.length];simp
  have z2:aZ.size=ms.length:=by rw[←hj.length];simp
  wp_walk using wpAny_loadPart' hl,wpAny_loadPart' hb,mF _ (fun rest b s'=>b.1=none/\s'=⟨hp,g,d,tk,os⟩/\∃(vs ws:Lw) (eX eY:List Int),rest=vs.zip ws /\
   IntsAre vs eX/\IntsAre ws eY/\eX.length+aZ.size=eY.length+items.size/\R (.ok (.ret (.bool (!lexLt eY eX)))) ⟨hp,g,d,tk,os⟩) _
  case turn=>
   rintro⟨y,x⟩ rest b s' ⟨dW,rfl,vs,ws,eX,eY,hz,jR,ix,hlen,hR⟩;cases jR with
   | nil=>rw[FL]at hz;cases hz
   | cons a t tU=>
    cases ix with
    | nil=>rw[FM]at hz;cases hz
    | cons c u tV=>
     rw[lq]at hz;injection hz with hyx kD
     injection hyx with hy hx
     subst hy hx;rw[A2]at hR;simp only[bu]at hlen;obtain⟨e,he,mX⟩:=xm A.in1 ⟨hp,g,d,tk,os⟩ a t c u;refine ac (he prog w _ _ ?_);cases e with
     | true=>
      rw[ai (mX.mp rfl).symm]at hR
      wp_walk
      exact⟨rfl,rfl,_,_,_,_,kD,tU,tV,by omega,hR⟩
     | false=>
      have bt:a≠c:=fun q=>absurd (mX.mpr q) bB;rw[af (dQ bt)]at hR;have lI:=abV A.in1 ⟨hp,g,d,tk,os⟩ a t c u prog w;have eb:(!decide (c<a))=decide (a<=c):=by
       by_cases q:c<a
       . rw[aL q,aU (by omega)];rfl
       . rw[aU q,aL (by omega)];rfl
      rw[eb]at hR
      wp_walk using lI
      exact⟨_,rfl,by simpa using hR⟩
  case fin=>
   rintro⟨b1,b2⟩ s' ⟨dW,rfl,vs,ws,eX,eY,hz,jR,ix,hlen,hR⟩;simp only at dW;subst dW;have hv:(!lexLt eY eX)=decide (items.size<=aZ.size):=by
    cases jR with
    | nil=>
     cases ix with
     | nil=>
      simp only[je]at hlen;rw[A3];exact(aL (by omega)).symm
     | cons c u hw=>
      simp only[je,bu]at hlen;rw[A5];exact(aL (by omega)).symm
    | cons a t hv=>
     cases ix with
     | nil=>
      simp only[je,bu]at hlen;rw[A4];exact(aU (by omega)).symm
     | cons c u hw=>
      rw[lq]at hz;cases hz
   rw[hv]at hR
   wp_walk
   exact⟨_,rfl,by simpa [Builtin.Tuple.tupleCompareSizes]using hR⟩
  case h=>
   exact⟨rfl,rfl,items.toList,aZ.toList,ns,ms,rfl,hi,hj,by omega,h⟩
end
section
variable {prog:Program} {w:World} {A:Around} {E:VP} {s:Shared}
theorem abX{l b:Addr}{items aZ:Av}{ns ms:List Int}{Q:VP}(hl:IsTup s.heap l items)(hb:IsTup s.heap b aZ)(hi:IntsAre items.toList ns)(hj:IntsAre aZ.toList ms)
 (hu:A.units<cLine) (h:Q (.bool (!lexLt ms ns)) s):wpAny (model prog w) A (compareOp .LtE (.ref l) (.ref b)) Q E s:=by
 obtain⟨⟨cls,dd,data,sl⟩,ho,hc,n,hd⟩:=id hl;obtain⟨⟨rl,bU,data2,bV⟩,dY,bW,n2,hd2⟩:=id hb;simp only at hc hd bW hd2;subst hc hd bW hd2;exact Ai (op:=.LtE) ⟨_,ho,rfl⟩ ⟨_,dY,rfl⟩ PySem.F.slot_tuple_le PySem.F.entry_tuple_le (PySem.F.args_tuple_le_2 _ _) (abW l b items aZ n n2 dd bU sl bV ns ms hi hj)
  ⟨ho,dY,show Value.bool (!lexLt ms ns)≠Value.notImplemented/\Q (.bool (!lexLt ms ns)) s from ⟨(fun x=>nomatch x),h⟩⟩ hu
end
end HT
namespace L2
open PySem PySem.Spec PyProof.Rows
section
variable {X:Cx}
def abY(K:Fg):R2:=fun x y H Q=>∃a b ns ms,x = .ref a/\y = .ref b/\aI K H a (ns.map V.int)/\aI K H b (ms.map V.int)/\Q (.bl (!HT.lexLt ms ns)) H
theorem abZ(hu:X.A.units<cLine):bw X (compareOp .LtE) (abY X.K):=by
 intro pins s σ H x y v u Q I rx ry h;obtain⟨a,b,ns,ms,rfl,rfl,ha,hb,q⟩:=h;cases rx;cases ry;obtain⟨its,r,p,_⟩:=I.tuple ha;obtain⟨iS,r2,p2,_⟩:=I.tuple hb;exact HT.abX p p2 (by simpa using intsAre_of r) (by simpa using intsAre_of r2) hu ⟨.bl _,H,I,rfl,q⟩
theorem JC:bw X (compareOp .Gt) (fun x y H Q=>∃i j,x = .str i/\y = .str j/\Q (.bl (decide (j.cps.toList<i.cps.toList))) H):=by
 intro pins s σ H x y v u Q I rx ry h;obtain⟨i,j,rfl,rfl,q⟩:=h;obtain⟨t,rfl⟩:=rx;obtain⟨t',rfl⟩:=ry;exact PySem.P.gt_str (cz I q rfl)
theorem JD{a:Str}(h:dk a):∀(k:Nat) (b:Array Nat),(∀c∈b.toList,c<0x110000)->dk ⟨(List.replicate k a.cps).foldl (· ++ ·) b⟩/\Str.length ⟨(List.replicate k a.cps).foldl (· ++ ·) b⟩=b.size+k * a.length
 | 0,b,hb=>⟨uf.mpr hb,by show b.size=_;omega⟩
 | k+1,b,hb=>by
  rw[List.replicate_succ,As];obtain⟨e1,e2⟩:=JD h k (b++a.cps) (fun c hc=>by
   rw[gO]at hc
   rcases cU.mp hc with z | z
   . exact hb c z
   . exact uf.mp h c z)
  refine⟨e1,e2.trans ?_⟩;have:a.length=a.cps.size:=rfl;rw[Array.size_append,Gp];omega
theorem JE:bw X (binaryOp .Mult) (fun x y H Q=>∃(a:Str) (n:Int),x = .str a/\y = .int n/\0<=n/\n<=9/\a.length<=9/\dk a/\∀z:Str,dk z->z.length<=n.toNat * a.length->Q (.str z) H):=by
 intro pins s σ H x y v u Q I rx ry h;obtain⟨a,n,rfl,rfl,h0,h9,hl,ok,q⟩:=h;obtain⟨t,rfl⟩:=rx;obtain⟨t',rfl⟩:=ry;have b1:n.toNat * a.length<=81:=O1 (show n.toNat<=9 by omega) hl;refine PySem.P.mul_str (by rw[aU (by omega),aU (by omega)];rfl) (fun h1 h2 h3=>?_) (fun h1 h2=>?_) ?_
 . have:(9:Int)<=(2 ^ 63 - 1) / n:=(Int.le_ediv_iff_mul_le (by omega)).mpr (by omega);omega
 . exact aU (by rw[Nat.mul_comm];exact AD.mpr (bn b1 (by decide)))
 . by_cases h1:n<1
   . rw[ai h1];exact⟨by decide,.str Str.empty,H,I.tok _,⟨_,rfl⟩,q _ (by decide +kernel) (cj _)⟩
   rw[af h1]
   by_cases h2:(n == 1 || a.length == 0)=true
   . rw[ai h2];refine⟨.str a,H,I,⟨_,rfl⟩,q _ ok ?_⟩;rw[Bool.or_eq_true]at h2
     rcases h2 with h2 | h2
     . have:=eq_of_beq h2;subst this;exact wq (Nat.one_mul _).symm
     . have:=eq_of_beq h2;omega
   . rw[af h2];obtain⟨e1,e2⟩:=JD ok n.toNat #[] (fun c hc=>by simp at hc);refine⟨?_,.str _,H,I.tok _,⟨_,rfl⟩,q _ e1 (by rw[e2];simp)⟩;have sz:(#[]:Array Nat).size=0:=rfl;exact iA (by rw[sz]at e2;omega)
end
section
variable {prog:Program} {w:World} {A:Around} {E:VP} {s:Shared} {d it:Addr} {es:Array DictEntry} {ep i:Nat}
end
section
variable {X:Cx} {pins:Po} {σ:St} {H:Hp} {s:Shared}
end
section
variable {X:Cx} {e e1 e2 e3 e4:Expr} {te t1 t2 t3 t4:TE} {pos:Pos}
end
section
variable {X:Cx}
end
open PySem.W
section
variable {M:Model} {A:Around} {E:VP} {s:Shared} {base:Heap} {env:Env} {outer:List Env} {L e:Addr} {cls:Value} {dct:Oa} {Q:Unit->Shared->Prop}
end
open PySem.Builtin PySem.Builtin.ObjectAttr
section
variable {prog:Program} {w:World} {A:Around} {E:VP} {h:Heap} {g:Array GenState} {d:Drawn} {t:Nat} {os:OsState} {K:Fg} {C M fI:Addr} {fld:Str}
end
end L2
namespace L2
open PySem PySem.Spec PyProof.Rows PySem.W
section
variable {X:Cx} {pins:Po} {σ:St} {H:Hp} {s:Shared}
end
section
variable {X:Cx} {pins:Po} {σ:St} {H:Hp} {s:Shared} {E:XK}
end
section
variable {P:Program} {w:World} {K:Fg} {mg:Mv} {base:Heap} {N:Ls} {qual:Str} {scope:Scope} {f:Addr} {cd:Value} {A:Around} {outer:List Env} {s0:Shared} {H0:Hp} {E:XK}
end
section
variable {prog:Program} {w:World} {A:Around} {E:VP} {s:Shared} {env:Env} {K:Fg} {C M fI:Addr} {fld:Str}
end
section
variable {P:Program} {w:World} {K:Fg} {mg:Mv} {base:Heap} {N:Ls} {qual:Str} {scope:Scope} {f:Addr} {cd:Value} {A:Around} {outer:List Env} {s0:Shared} {H0:Hp} {E:XK}
end
open PySem.Builtin PySem.Builtin.ObjectAttr PySem.Builtin.Getset_descriptor
section
variable {X:Cx}
end
section
variable {prog:Program} {w:World} {A:Around} {E:VP} {s:Shared} {K:Fg} {D a:Addr} {fld:Str} {v:Value}
end
section
variable {X:Cx}
end
end L2
namespace L2
open PySem PySem.Spec PyProof.Rows
section
variable {X:Cx}
end
open PySem.Builtin.Str in
open PySem.Builtin PySem.Builtin.Str in
section
variable {X:Cx}
end
open HT (At cZ dL)
section
variable {X:Cx} {pins:Po} {σ:St} {H0:Hp} {l q I S:Addr} {as:List Addr} {ks:Nat->List At} {R:Result->Shared->Prop} {Q:VP} {E:VP}
theorem Inv.isL{H:Hp}{s:Shared}(I:Inv X pins σ H s)(h:H l=some (.lst (as.map V.ref))):s.heap.IsList l (as.map Value.ref).toArray:=by
 obtain⟨its,r,p,_⟩:=I.list (ae.of (K:=X.K) h);rw[xH r]at p;exact p.isList
theorem dR.of{H H':Hp}{b:Addr}(f:dR X pins H b)(n:H' b=none):dR X pins H' b:=⟨n,f.2⟩
theorem Inv.turnF{H:Hp}{s:Shared}{h':Heap}{t':Nat}{b:Addr}(I:Inv X pins σ H s)(f:dR X pins H b)(k:∀c o,c≠b->s.heap.get? c=some o->h'.get? c=some o):Inv X pins σ H { s with heap:=h',toks:=t' }:=
 I.turned k f.1 f.2.1 f.2.2.2.1 f.2.2.2.2.1 f.2.2.2.2.2
end
def uF(P:Addr)(H H':Hp):Prop:=∀b o,H b=some o->b≠P->H' b=some o
section
variable {X:Cx} {c P:Addr} {params:Arguments} {body e:Expr} {scope:Scope} {p pos lpos rj:Pos} {qual x:Str} {k:Nat} {te tb:TE}
theorem fU.same{H H':Hp}(s:ag H H')(h:fU H P lpos qual):fU H' P lpos qual:=by
 rcases h with h | ⟨c',h1,h2⟩
 . exact .inl (s _ _ h)
 . exact .inr ⟨c',s _ _ h1,s _ _ h2⟩
end
end L2
namespace L2
open PySem PySem.Spec PyProof.Rows
section
variable {X:Cx} {pins:Po} {σ:St} {H0:Hp} {l q I S:Addr} {as:List Addr} {kA:Nat->Hp->Addr->Prop} {g:Nat->Nat->Bool} {Rb:Nat->Prop} {R:Result->Shared->Prop} {Q:VP} {E:VP}
end
end L2
namespace HT
open PySem PyProof.Rows
theorem ab1(A:Around)(s:Shared)(a:Int)(t:Tok)(c:Int)(u:Tok)(prog:Program)(w:World)(E:VP)(Q:VP)(h:Q (.bool (decide (c<a))) s) :
 wpAny (model prog w) A (richCompare .Gt (.int a t) (.int c u)) Q E s:=
 (PyProof.Rows.gt_int h:wpAny (model prog w) A (compareOp .Gt (.int a t) (.int c u)) Q E s)
section
open PySem.SeqAt
open PySem.AutoSeq1 (wpAny_loadPart')
open PySem.MeetsSeq PySem.MeetsSeq2 PySem.MeetsSeq3
end
section
variable {prog:Program} {w:World} {A:Around} {E:VP} {s:Shared}
end
end HT
namespace L2
open PySem PySem.Spec PyProof.Rows
section
variable {X:Cx}
end
open PySem.W (tabObj)
def uG(q c':Addr)(qual:Str)(params:Arguments)(body:Expr)(scope:Scope)(clos:List (Str×Addr)):HO:=.ext fun h=>∃pm gD,h.get? q=some (PySem.W.kla_obj "<lambda>" qual params body scope clos pm c' gD)
def JF(P:Addr)(qual:Str)(params:Arguments)(body:Expr)(scope:Scope)(clos:List (Str×Addr))(pos:Pos):TE:=fun σ H Q=>fU H P pos qual/\∀q c' H',H q=none->H' P≠none->(∀b o,H b=some o->b≠P->H' b=some o)->fU H' P pos qual->H' c'=some (ux c' qual)->H' q=some (uG q c' qual params body scope clos)->Q (.ref q) H'
section
variable {X:Cx} {c P:Addr} {params:Arguments} {body:Expr} {scope:Scope} {clos:List (Str×Addr)} {pos:Pos} {qual:Str}
theorem ab2(xW:X.env.code = .ref c)(hd:PySem.W.codeHdIn X.K c P=true)(hb:X.base.BuiltinsAt X.mg P)(gB:closureFor scope X.env=pure clos)(hq:X.env.qual ++ "<lambda>" = qual:=by rfl)(xY:X.env.globals=mainGlobals:=by rfl)(Cd:defaultsOf params X.env=([],[]):=by rfl) :
 PE X (.Lambda params body scope pos) (JF P qual params body scope clos pos):=by
 intro pins s σ H Q I h;obtain⟨tb,q⟩:=h;subst hq;refine PySem.W.kla_eval Cd ?_;have hg:s.heap.Ns mainGlobals X.mg:=I.mod.glob.keeps I.bk;obtain⟨bm,ob,b1,b2,b3,b4,b5,b6⟩:=hb;have dW:s.heap.BuiltinsAt X.mg P:=⟨bm,ob,b1,b2,b3,b4,I.bk _ _ b5,b6⟩;have C:=PySem.W.codeHd_of_K I.kIn hd;have hgP:∀ps,s.heap.get? P=some (tabObj ps)->mainGlobals≠P:=fun ps e z=>by
  obtain⟨o,es,ep,e',d',_⟩:=hg;rw[z,e]at e';cases e';cases d'
 have aP:∀b o,s.heap.get? b=some o->b<s.heap.objs.size:=fun b o e=>aT e
 rcases tb with e | ⟨c',e1,e2⟩
 . have hP:s.heap.get? P=some (tabObj #[]):=(show bN X.prog X.w H s.heap P (gc P #[]) from I.hok P _ e).1;refine PySem.W.kla_makeFunction gB xY hg xW C hP trivial rfl (hgP _ hP) dW fun c' gD h' tk hx lQ hl JG Ce=>?_;have I1:Inv X pins σ (ak H P (gc P (#[] ++ #[rawInt pos.line,rawInt pos.col,.ref c']))) { s with heap:=h',toks:=tk }:=
    I.write (x:=P) (e:=P) (by rw[e];exact True.intro) (.inl rfl) (fun b u hb e=>hx b u hb e) ⟨_,Ce⟩ (uy Ce Ce fun h1 h2 a k=>k _ a)
   have nc:H c'=none:=I.hok.fresh lQ;have cP:c'≠P:=fun z=>absurd (aP _ _ hP) (AD.mpr (z▸lQ));have nc1:ak H P (gc P (#[] ++ #[rawInt pos.line,rawInt pos.col,.ref c'])) c'=none:=by rw[a8 cP];exact nc
   have ab5:=JG;obtain⟨c2,oc,vs,t,ec,lE,pJ,hov⟩:=ab5;cases ec;have I2:=I1.track (o:=ux c' (X.env.qual ++ "<lambda>")) nc1 (bn I.sz lQ) (jF (fw I.lt lQ)) (fun x cc ex z=>by
    obtain⟨v,oo,hv,_⟩:=I.cell x cc ex;exact absurd (aP _ _ hv) (AD.mpr (z▸lQ))) (fun p hp z=>absurd (aP _ _ (I.pin p hp).1) (AD.mpr (z▸lQ))) (uy lE JG fun h1 h2 a k=>abo a k)
   have gq:(h'.push (PySem.W.kla_obj "<lambda>" (X.env.qual ++ "<lambda>") params body scope clos ((X.mg "__name__").getD .none) c' gD)).get? h'.objs.size=some (PySem.W.kla_obj "<lambda>" (X.env.qual ++ "<lambda>") params body scope clos ((X.mg "__name__").getD .none) c' gD):=dv _ rfl;have I3:=I2.laid (t':=tk) (h':=h'.push (PySem.W.kla_obj "<lambda>" (X.env.qual ++ "<lambda>") params body scope clos ((X.mg "__name__").getD .none) c' gD)) (a:=h'.objs.size) (o:=uG h'.objs.size c' (X.env.qual ++ "<lambda>") params body scope clos)
    (fun b u e=>bg _ e) (av _) (uy gq ⟨_,_,gq⟩ fun h1 h2 ab6 k=>ab6.elim fun pm ab7=>ab7.elim fun cv a=>⟨pm,cv,k _ a⟩)
   have hsz:s.heap.objs.size<=h'.objs.size:=bn lQ (gK hl);have nq:H h'.objs.size=none:=I.hok.fresh hsz;have qP:h'.objs.size≠P:=fun z=>absurd (aP _ _ hP) (AD.mpr (z▸hsz));have qc:h'.objs.size≠c':=(bH hl).symm;refine⟨.ref h'.objs.size,_,I3,rfl,q _ c' _ nq ?_ (fun b o eb nb=>?_) (.inr ⟨c',?_,?_⟩) ?_ bc⟩
   . rw[a8 qP.symm,a8 cP.symm,bc];exact fun z=>nomatch z
   . rw[a8 (bv eb nq),a8 (bv eb nc),a8 nb];exact eb
   . rw[a8 qP.symm,a8 cP.symm,bc];rfl
   . rw[a8 qc.symm,bc]
   . rw[a8 qc.symm,bc]
 . have hP:s.heap.get? P=some (tabObj #[rawInt pos.line,rawInt pos.col,.ref c']):=(show bN X.prog X.w H s.heap P (gc P _) from I.hok P _ e1).1;have hf:codeAmong pos (#[rawInt pos.line,rawInt pos.col,.ref c']:Av).toList=some (.ref c'):=by
    show(if ((pos.line:Int) == pos.line && (pos.col:Int) == pos.col)=true then _ else _)=_;rw[ai (by simp)]
   refine PySem.W.kla_makeFunctionHit gB xY hg xW C hP trivial hf dW fun gD h' tk hk hsz=>?_;have gq:(h'.push (PySem.W.kla_obj "<lambda>" (X.env.qual ++ "<lambda>") params body scope clos ((X.mg "__name__").getD .none) c' gD)).get? h'.objs.size=some (PySem.W.kla_obj "<lambda>" (X.env.qual ++ "<lambda>") params body scope clos ((X.mg "__name__").getD .none) c' gD):=dv _ rfl;have I3:=I.laid (t':=tk) (h':=h'.push (PySem.W.kla_obj "<lambda>" (X.env.qual ++ "<lambda>") params body scope clos ((X.mg "__name__").getD .none) c' gD)) (a:=h'.objs.size) (o:=uG h'.objs.size c' (X.env.qual ++ "<lambda>") params body scope clos)
    (fun b u e=>bg _ (hk b u e)) hsz (uy gq ⟨_,_,gq⟩ fun h1 h2 ab8 k=>ab8.elim fun pm ab9=>ab9.elim fun cv a=>⟨pm,cv,k _ a⟩)
   have nq:H h'.objs.size=none:=I.hok.fresh hsz;refine⟨.ref h'.objs.size,_,I3,rfl,q _ c' _ nq ?_ (fun b o eb nb=>?_) (.inr ⟨c',?_,?_⟩) ?_ bc⟩
   . rw[a8 (bv e1 nq),e1];exact fun z=>nomatch z
   . rw[a8 (bv eb nq)];exact eb
   . rw[a8 (bv e1 nq)];exact e1
   . rw[a8 (bv e2 nq)];exact e2
   . rw[a8 (bv e2 nq)];exact e2
end
end L2
namespace L2
open PySem PySem.Spec PyProof.Rows
open PySem.W (envX)
def uH(P:Program)(w:World)(K:Fg)(mg:Mv)(base:Heap)(N:Ls)(qual:Str)(scope:Scope)(f:Addr)(cd:Value)(clos:List (Str×Addr))(A:Around)(outer:List Env)(s:Shared)(H:Hp)(E:XK):Cx where
 prog:=P
 w:=w
 K:=K
 mg:=mg
 base:=base
 A:=A.deeper (envX qual scope s.heap.objs.size f cd clos)
 N:=N
 s₀:=s
 H₀:=H
 env:=envX qual scope s.heap.objs.size f cd clos
 outer:=outer
 stack:=envX qual scope s.heap.objs.size f cd clos::outer
 ex:=[]
 calm:=true
 fn:=fun _=>false
 pn:=[]
 xe:=fun e s'=>wpAny (model P w) (A.deeper (envX qual scope s.heap.objs.size f cd clos)) (leaving (envX qual scope s.heap.objs.size f cd clos) e) (fun _ mW=>aD outer H s E e mW) (fun e' mW=>aD outer H s E e' mW) s'
structure np(X:Cx)(x:Str)(cap:Ls)(js:List Nat)(sc:Scope):Prop where
 kind:sc.kind = .function
 co:sc.isCoroutine=false
 gen:sc.isGenerator=false
 nocell:∀y∈sc.names,y.2≠.cell
 par:sc.names.lookup x=some .local
 frees:∀y∈sc.names,y.2 = .free->y.1∈cap
 slots:js.map (fun j=>X.N[j]?)=cap.map some
 outer':cap.map X.env.kindOf=cap.map fun _=>some NameKind.cell
 capk':cap.map (fun y=>sc.names.lookup y)=cap.map fun _=>some NameKind.free
def rK(v:V)(js:List Nat)(σ:St):St:=some v::js.map fun j=>(σ[j]?).join
section
variable {X:Cx} {pins:Po} {σ:St} {H:Hp} {s:Shared} {x:Str} {cap:Ls} {js:List Nat} {scope:Scope} {q c':Addr} {qual:Str} {params:Arguments} {body:Expr} {pm gD:Value} {v:V} {u:Value} {A:Around} {k:Nat} {Q:VK} {E:XK} {t:TE}
theorem np.outer(S:np X x cap js scope):∀y∈cap,X.env.kindOf y=some .cell:=ug S.outer'
theorem np.capk(S:np X x cap js scope):∀y∈cap,scope.names.lookup y=some .free:=ug S.capk'
theorem np.clos(S:np X x cap js scope)(ok:X.Ok):closureFor scope X.env=pure (cH X.env scope.names []):=
 HQ fun y hy e=>ok.has _ (.inl (S.outer _ (S.frees y hy e)))
theorem aca(S:np X x cap js scope)(I:Inv X pins σ H s)(hd:A.handled=none)(acb:A.depth<recursionLimit)(uq:A.frames=some X.stack)(ho:s.heap.get? q=some (PySem.W.kla_obj "<lambda>" qual params body scope (cH X.env scope.names []) pm c' gD))(Cf:s.heap.CodeRec (.ref c') qual)
 (hb:bindArgs (PySem.W.kla_fn "<lambda>" qual params body scope (cH X.env scope.names []) pm (.ref c') gD) ⟨[u],[]⟩=pure [(x,u)]) (r:RelV v u)
 (ht:PE (uH X.prog X.w X.K X.mg X.base (x::cap) qual scope q (.ref c') (cH X.env scope.names []) A X.stack s H E) body t) (hq:t (rK v js σ) H Q) :
 codeAny (model X.prog X.w) A (.call (.ref q) ⟨[u],[]⟩) (CR aD X.stack X.prog X.w H s Q E) s:=by
 have e0:=I.env0;have lim:s.heap.NoLimit:=I.nolimit;have Bv:∀y∈scope.names,y.2 = .free->∃c,X.env.cells.lookup y.1=some c:=fun y hy e=>I.ok.has _ (.inl (S.outer _ (S.frees y hy e)));have iz:∀(y:Str) (c:Addr),(cH X.env scope.names []).lookup y=some c->X.env.cells.lookup y=some c:=fun y c e=>
  xy Bv (fun y c h=>by cases (show([]:List (Str×Addr)).lookup y=some c from h)) e
 refine PySem.W.kla_callFunE acb ho rfl S.co S.gen rfl Cf ?_;rw[hb];refine aj ?_;refine wpAny_newFunctionEnv S.nocell (fun y hy=>by rw[bD.mp hy];exact S.par) (fun h' iy pq=>⟨lim.fresh _ pq,PySem.W.kla_codeExpr ?_⟩) S.kind;have hk:∀b o,s.heap.get? b=some o->h'.get? b=some o:=fun b o e=>pq.extBut b o (bH (aT e)) (bg _ e);have pe:∀b:Addr,b∉(uH X.prog X.w X.K X.mg X.base (x::cap) qual scope q (.ref c') (cH X.env scope.names []) A X.stack s H E).ex:=fun b z=>absurd (show b∈([]:List Addr) from z) (by simp);have pp:(uH X.prog X.w X.K X.mg X.base (x::cap) qual scope q (.ref c') (cH X.env scope.names []) A X.stack s H E).Ok:=by
  refine⟨e0.mod,S.kind,rfl,rfl,av _,fun y z c h1 h2=>I.ok.inj y z c (iz y c h1) (iz z c h2),fun y hy=>?_,(fun y c z _=>nomatch (show false=true from z)),fun _=>hd,Around.frames_deeper uq,.inr ⟨rfl,rfl⟩,fun b z=>absurd z (pe b),e0.bs,e0.bsz,fun b _ _=>pe b,fun b z=>absurd z (pe b),e0.funs,e0.frf⟩;have hy:scope.names.lookup y=some .cell\/scope.names.lookup y=some .free:=hy
  rcases hy with hy | hy
  . exact absurd rfl (S.nocell _ (qM hy))
  . exact FI.mp (xz (qM hy))
 have J:Inv (uH X.prog X.w X.K X.mg X.base (x::cap) qual scope q (.ref c') (cH X.env scope.names []) A X.stack s H E) [] (rK v js σ) H { s with heap:=h',toks:=s.toks + [(x,u)].length }:=by
  refine⟨pp,rfl,I.bare,Un.kept hk,⟨_,iy,fun i y z h1 h2 h3=>?_⟩,fun y c h=>?_,I.hok.fresh (av _),fun y c h=>I.freeC y c (iz y c h),fun p hp=>absurd (show p∈([]:Po) from hp) (by simp),I.hok.kept hk,?_⟩
  . cases i with
    | zero=>
     have h1:x=y:=gn h1;have h2:some v=some z:=gn h2;subst h1;cases h2;exact⟨u,r,.inl ⟨S.par,by show([(x,u)]:List (Str×Value)).reverse.lookup x=some u;simp[List.lookup]⟩⟩
    | succ i=>
     have h1:cap[i]? = some y:=h1;have h2:(js.map fun j=>(σ[j]?).join)[i]? = some (some z):=h2;rw[bT]at h2;cases hj:js[i]? with
     | none=>rw[hj]at h2;cases h2
     | some j=>
      rw[hj]at h2;have h2:(σ[j]?).join=some z:=gn h2;have e3:σ[j]? = some (some z):=by
       cases e:σ[j]? with
       | none=>rw[e]at h2;cases h2
       | some a=>rw[e]at h2;rw[show a=some z from h2]
      have hs:=fQ (fun l=>l[i]?) S.slots;simp only[bT,hj,h1,jH]at hs;have hN:X.N[j]? = some y:=gn hs;have hy:y∈cap:=dw h1;obtain⟨m2,mU,kH⟩:=I.loc;obtain⟨a,ra,lk⟩:=kH j y z hN e3 (.inr (.inl (S.outer y hy)));refine⟨a,ra,?_⟩
      rcases lk with⟨k1,_⟩ | ⟨_,c,m8,bW⟩
      . rw[S.outer y hy]at k1;cases k1
      . have kd:scope.names.lookup y=some .free:=S.capk y hy;obtain⟨c2,fB⟩:=pp.has y (.inr kd);have e:=iz y c2 fB;rw[m8]at e;cases e;exact .inr ⟨.inr kd,c,fB,bW.keeps hk⟩
  . obtain⟨a,ha⟩:=I.cell y c (iz y c h);exact⟨a,ha.keeps hk⟩
  . show(rK v js σ).length=(x::cap).length;unfold rK;have:=fQ List.length S.slots;rw[aw,aw]at this;rw[bu,bu,aw,this]
 refine df (ht [] _ (rK v js σ) H _ J hq) (fun a s' hs=>?_) fun e s' hs=>hs;obtain⟨z,H',J',rv,q'⟩:=hs;exact⟨z,H',J'.os,J'.bare,J'.base,J'.hok,rv,q'⟩
end
section
variable {X:Cx} {c P:Addr} {params:Arguments} {body e:Expr} {scope:Scope} {p pos lpos rj:Pos} {qual x:Str} {cap:Ls} {js:List Nat} {k:Nat} {te tb:TE}
end
end L2
namespace L2
open PySem PySem.Spec PyProof.Rows
section
variable {X:Cx} {e e1 e2 e3:Expr} {te t1 t2 t3:TE} {pos:Pos}
end
structure rL(K:Fg)(x qual:Str)(st:Stmt)(f c:Addr)(fd:Fy):Prop where
 ex:∃(oc:Value) (od:Oa) (kV doc pm:Value) (an:Oa) (ct:Value) (iw:Array (Option Value)),fd=PySem.W.fnOf x qual (f6 st) (eQ st) (aS st) .none kV doc pm an (.ref c) ct /\
  K.lookup f=some ⟨oc,od,.func (PySem.W.fnOf x qual (f6 st) (eQ st) (aS st) .none kV doc pm an (.ref c) ct),iw⟩/\PySem.W.codeIn K (.ref c) qual=true
 kp:PySem.W.keepIn K (.ref f)=true
theorem rL.fn{K:Fg}{x qual:Str}{st:Stmt}{f c:Addr}{fd:Fy}(F:rL K x qual st f c fd):au K x qual st f fd:=by
 obtain⟨⟨oc,od,kV,doc,pm,an,ct,iw,e,l,h⟩,k⟩:=F;subst e;exact⟨⟨oc,od,kV,doc,pm,an,.ref c,ct,iw,rfl,l,h⟩,k⟩
open PySem.W (tabObj CodeHd)
theorem acd{P:Program}{w:World}{K:Fg}{mg mb:Mv}{CX:jk}{k:Nat}{fa a Pt c:Addr}{fd:Fy}{x qual:Str}{lpos:Pos}{sp:Sp}{s₁:Shared}{vs:Lw}{ns:List Int}
 (KX:K.In s₁.heap) (iy:s₁.heap.Ns mainGlobals mg) (hb:s₁.heap.Ns builtinsNs mb) (pK:∀x:Str,x≠"__name__"->mb x=bootBuiltins x) (ace:s₁.heap.NoLimit) (hg:s₁.gens = #[])
 (bmain:∃bm ob,mg "__builtins__" = some (.ref bm)/\bm≠builtinsNs/\s₁.heap.get? bm=some ob/\ob.cls = .type "module"/\ob.dict=some builtinsNs/\ob.data = .plain)
 (hP:s₁.heap.get? Pt=some (tabObj #[])) (hC:CodeHd s₁.heap c Pt) (Cg:K.lookup Pt=none)
 (ha:s₁.heap.get? a=some { cls:=.type "list",data:=.seq vs.toArray }) (hi:IntsAre vs ns) (hl:ns.length<=sizeLine) (hr:cC k callerA)
 (F:∀base:Heap,K.In base->base.Ns mainGlobals mg->base.BuiltinsAt mg Pt->aB P w K mg base CX k fa fd [x] sp) (Ci:∀(s:Shared) (u:Value),BindsTo s fd ⟨[u],[]⟩ [(x,u)])
 (kC:∀H:Hp,H Pt=some (gc Pt #[])->ae K H a (ns.map V.int)->sp [.ref a] H (fun v H'=>v = .bl true/\fU H' Pt lpos qual) fun _ _ _=>False)
 (Cj:∀H e s',CX [] H s₁ (fun _ _ _=>False) e s'->False) :
 codeAny (model P w) callerA (.call (.ref fa) ⟨[.ref a],[]⟩) (fun r s'=>r = .ok (.ret (.bool true))/\OldK s₁.heap s'.heap/\s'.os=s₁.os/\AllBare s'.gens) s₁:=by
 have rv:=HI hi;have acf:=hi.length;have JH:a≠Pt:=fun z=>by rw[z,hP]at ha;cases ha
 have core:∀H:Hp,H Pt=some (gc Pt #[])->(∀b,b≠Pt->H b=none\/∃o xs,H b=some (.frz o (.lst xs)))->ae K H a (ns.map V.int)->b7 P w H s₁.heap->(∀b,H b≠none->b=a\/b=Pt)->(H a≠none->K.lookup a=none) ->
  codeAny (model P w) callerA (.call (.ref fa) ⟨[.ref a],[]⟩) (fun r s'=>r = .ok (.ret (.bool true))/\OldK s₁.heap s'.heap/\s'.os=s₁.os/\AllBare s'.gens) s₁:=by
  intro H hT hO hS hok hA hK;have Ck:∀{b:Addr} {o:Obj},s₁.heap.get? b=some o->H b=none->(kx s₁.heap H).get? b=some o:=fun e n=>P2 e n;have JI:∀{b:Addr} {o:Obj},s₁.heap.get? b=some o->(∀it n,o.data≠.seq it n)->(∀ps,o.data≠.fields ps)->H b=none:=fun {b o} e d1 d2=>by
   cases q:H b with
   | none=>rfl
   | some u=>
    rcases hA b (by rw[q];simp) with e' | e'
    . subst e';rw[ha]at e;cases e;exact absurd rfl (d1 _ _)
    . subst e';rw[hP]at e;cases e;exact absurd rfl (d2 _)
  have xZ:∀{b:Addr} {m:Mv},s₁.heap.Ns b m->(kx s₁.heap H).Ns b m:=fun {b m} ⟨o,es,ep,e,d,r⟩=>⟨o,es,ep,Ck e (JI e (fun it n z=>by rw[d]at z;cases z) fun ps z=>by rw[d]at z;cases z),d,r⟩;have JJ:K.In (kx s₁.heap H):=fun b o e=>Ck (KX b o e) (by
   cases q:H b with
   | none=>rfl
   | some u=>
    rcases hA b (by rw[q];simp) with e' | e'
    . subst e';rw[hK (by rw[q];simp)]at e;cases e
    . subst e';rw[Cg]at e;cases e)
  have hM:Mod K mg (kx s₁.heap H):=⟨JJ,xZ iy,⟨mb,xZ hb,pK⟩,ace.elim fun mc acg=>acg.elim fun h1 h2=>⟨mc,xZ h1,h2⟩⟩;have e0:kB P w K mg (kx s₁.heap H) callerA [] s₁ H:=⟨rfl,hM,fun b o e=>P4 e,wq (P1 _ _),trivial,fun b hb=>absurd (show b∈([]:List Addr) from hb) (by simp),hok,.of_eq hg⟩;have hBt:(kx s₁.heap H).BuiltinsAt mg Pt:=by
   obtain⟨bm,ob',b1,b2,b3,b4,b5,b6⟩:=bmain;refine⟨bm,ob',b1,b2,fun z=>?_,fun z=>?_,Ck b3 (JI b3 (fun it n z=>by rw[b6]at z;cases z) fun ps z=>by rw[b6]at z;cases z),b4,b5,b6⟩
   . obtain⟨o,es,ep,e,d,_⟩:=iy;rw[z,e]at b3;cases b3;rw[d]at b6;cases b6
   . rw[z,hP]at b3;cases b3;cases b6
  refine oP ((F _ JJ (xZ iy) hBt).run callerA [] s₁ H ⟨[.ref a],[]⟩ [.ref a] [.ref a] _ _ hr e0 (Ci s₁ (.ref a)) (.cons rfl .nil) (kC H hT hS)) fun r s' h=>?_;cases r with
  | error e=>exact(Cj H e s' h).elim
  | ok fl=>
   cases fl with
   | next=>exact False.elim h
   | brk=>exact False.elim h
   | cont=>exact False.elim h
   | ret u=>
    obtain⟨v,H',os,bare,un,uh,r',q',tb⟩:=h;subst q';obtain rfl:u=Value.bool true:=r';have old:∀b o,s₁.heap.get? b=some o->b≠Pt->s'.heap.get? b=some o:=fun b o e nb=>by
     cases q:H b with
     | none=>exact un.keep b o e q (by intro z;exact absurd (show b∈([]:List Addr) from z) (by simp)) (by simp)
     | some u=>
      rcases hO b nb with z | ⟨ob,xs,z⟩
      . rw[q]at z;cases z
      . have z2:=un.frzs b ob _ z;obtain⟨e1,_⟩:=hok b _ z;obtain⟨e2,_⟩:=uh b _ z2;rw[e]at e1;cases e1;exact e2
    have tab:s'.heap.get? Pt=some (tabObj #[])\/∃more,s'.heap.get? Pt=some (tabObj (#[]++more)):=by
     rcases tb with z | ⟨c',z,_⟩
     . exact .inl (show bN P w H' s'.heap Pt (gc Pt #[]) from uh Pt _ z).1
     . exact .inr ⟨_,by rw[Array.empty_append];exact(show bN P w H' s'.heap Pt (gc Pt _) from uh Pt _ z).1⟩
    refine⟨rfl,⟨fun b o e=>?_,fun b o e=>?_⟩,os,bare⟩
    . by_cases nb:b=Pt
      . subst nb;rw[hP]at e;cases e
        rcases tab with z | ⟨more,z⟩
        . exact .inl z
        . exact .inr (.inl ⟨(hC.tab hP).isCodeTable,rfl,#[],more,rfl,z⟩)
      . exact .inl (old b o e nb)
    . by_cases nb:b=Pt
      . subst nb
        rcases tab with z | ⟨more,z⟩
        . exact⟨_,z⟩
        . exact⟨_,z⟩
      . exact⟨o,old b o e nb⟩
 have JK:∀H:Hp,H Pt=some (gc Pt #[])->bN P w H s₁.heap Pt (gc Pt #[]):=fun H _=>uy hP hP fun h1 h2 z k=>k _ z;cases hk:K.lookup a with
 | some o=>
  have e:=KX a o hk;rw[ha]at e;cases e;refine core (fun b=>if b=Pt then some (gc Pt #[]) else none) (ai rfl) (fun b nb=>.inl (af nb)) (.inr ⟨_,vs.toArray,_,hk,rfl,rfl,rfl,by rw[fX,acf];exact hl,by simpa using rv⟩) (fun b u z=>?_) (fun b z=>?_) fun z=>absurd (af JH) z
  . by_cases hb:b=Pt
    . have z':=(ai hb).symm.trans z;cases z';subst hb;exact JK _ (ai rfl)
    . have z':=(af hb).symm.trans z;cases z'
  . by_cases hb:b=Pt
    . exact .inr hb
    . exact absurd (af hb) z
 | none=>
  refine core (fun b=>if b=Pt then some (gc Pt #[]) else if b=a then some (.frz { cls:=.type "list",data:=.seq vs.toArray } (.lst (ns.map V.int))) else none) (ai rfl) (fun b nb=>?_) (.inl (.inr ⟨{ cls:=.type "list",data:=.seq vs.toArray },by show(if a=Pt then _ else if a=a then _ else _)=_;rw[af JH,ai rfl]⟩)) (fun b u z=>?_) (fun b z=>?_) fun _=>hk
  . show(if b=Pt then _ else if b=a then _ else _)=_\/∃o xs,(if b=Pt then _ else if b=a then _ else _)=_;rw[af nb]
    by_cases hb:b=a
    . exact .inr ⟨_,_,ai hb⟩
    . exact .inl (af hb)
  . have z:(if b=Pt then some (gc Pt #[]) else if b=a then some (.frz { cls:=.type "list",data:=.seq vs.toArray } (.lst (ns.map V.int))) else none)=some u:=z
    by_cases hb:b=Pt
    . rw[ai hb]at z;cases z;subst hb;exact JK _ (ai rfl)
    . rw[af hb]at z
      by_cases lR:b=a
      . rw[ai lR]at z;cases z;subst lR;exact⟨ha,by rw[aw];exact hl,vs,_,rv,ha⟩
      . rw[af lR]at z;cases z
  . have z:(if b=Pt then some (gc Pt #[]) else if b=a then some (HO.frz { cls:=.type "list",data:=.seq vs.toArray } (.lst (ns.map V.int))) else none)≠none:=z
    by_cases hb:b=Pt
    . exact .inr hb
    . rw[af hb]at z
      by_cases lR:b=a
      . exact .inl lR
      . rw[af lR]at z;exact absurd rfl z
theorem acj{l:PySem.W.OpenLaw}{n k:Nat}{q:Program}{loose:Ls}{XP:(Mv)->Heap->Prop}{YP:World->Heap->Prop}{d:DefRec}{K:Params->Fg}{CX:World->jk}{sp:World->Sp}{x qual:Str}{lpos:Pos}{Pt:Addr}
 (hn:l.most=some n) (mU:n<=sizeLine) (uc:d.params.defaults = []) (hr:cC k callerA)
 (hY:∀(w:World) (h:Heap),YP w h->(K w.params).In h/\h.get? Pt=some (tabObj #[]))
 (F:∀(w:World) (mg:Mv) (fa:Addr) (h:Heap),(K w.params).In h->h.Ns mainGlobals mg->mg d.name=some (.ref fa) ->
  ∃(fd:Fy) (c:Addr),(∀(s:Shared) (u:Value),BindsTo s fd ⟨[u],[]⟩ [(x,u)])/\PySem.W.codeHdIn (K w.params) c Pt=true/\(K w.params).lookup Pt=none /\
   ∀base:Heap,(K w.params).In base->base.Ns mainGlobals mg->base.BuiltinsAt mg Pt->aB l.prog w (K w.params) mg base (CX w) k fa fd [x] (sp w))
 (kC:∀(w:World) (H:Hp) (a:Addr) (ns:List Int),ns.length<=n->H Pt=some (gc Pt #[])->ae (K w.params) H a (ns.map V.int)->sp w [.ref a] H (fun v H'=>v = .bl true/\fU H' Pt lpos qual) fun _ _ _=>False)
 (Cj:∀(w:World) (H:Hp) (s:Shared) (e:Value) (s':Shared),CX w [] H s (fun _ _ _=>False) e s'->False) :
 PySem.W.WalkO q loose XP YP l.row.toRowW d [] (fun f vs=>PySem.call f vs):=by
 refine Att.Yf hn uc fun w s₀ s₁ mg mb fa o pm cd doc a vs ns G Y ho hd iq ud ue hints hlen hg=>?_;obtain⟨KX,hP⟩:=hY w _ Y;obtain⟨fd,c,hb,hC,Cg,hF⟩:=F w mg fa _ KX G.T.g ud;exact acd KX G.T.g G.T.b G.T.builtins G.T.nolimit hg G.T.bmain hP (PySem.W.codeHd_of_K KX hC) Cg ue hints (bn hlen mU) hr hF hb (fun H hO hS=>kC w H a ns hlen hO hS) fun H e s'=>Cj w H s₁ e s'
end L2
namespace HT
open PySem PyProof.Rows
section
open PySem.SeqAt
open PySem.AutoSeq1 (wpAny_loadPart')
open PySem.MeetsSeq PySem.MeetsSeq2 PySem.MeetsSeq3
variable {P:Program} {w:World} {A:Around} {s:Shared}
def jY(P:Program)(w:World)(A:Around)(s:Shared)(y x:Value):Prop:=∀(E:VP) (Q:Bool->Shared->Prop),Q true s->wpAny (model P w) A (eqBool y x) Q E s
theorem jY.refs{l b:Addr}(ne:l≠b)(h:∀(E Q:VP),Q (.bool true) s->wpAny (model P w) A (richCompare .Eq (.ref l) (.ref b)) Q E s):jY P w A s (.ref l) (.ref b):=fun E Q q=>by
 unfold eqBool;refine fu (F6 (fun e=>absurd (by have z:=eq_of_beq e;injection z) ne) fun _=>?_);exact ac (h E _ (qK q))
theorem ack(l b:Addr)(it ba:Av)(n n2:Nat)(dd bU:Oa)(sl bV:Array (Option Value))(hz:it.size=ba.size)(k:Nat) :
 ∀i:Nat,it.size - i=k->MeetsIn P w (Builtin.«list.__eq__.loop» ⟨[.ref l,.ref b,rawInt i,rawInt 3],[]⟩)
  (fun A R s=>s.heap.get? l=some ⟨.type "list",dd,.seq it n,sl⟩/\s.heap.get? b=some ⟨.type "list",bU,.seq ba n2,bV⟩/\(∀j (h1:j<it.size) (h2:j<ba.size),jY P w A.in1 s it[j] ba[j])/\R (.ok (.ret (.bool false))) s):=by
 induction k with
 | zero=>
  intro i hk A R s h;obtain⟨hp,g,d,tk,os⟩:=s;obtain⟨g1,g2,he,h⟩:=h
  wp_walk using wpAny_loadPart' g1,wpAny_loadPart' g2
  have e1:it[((i:Nat):Int).toNat]? = none:=by simp;omega
  have e2:ba[((i:Nat):Int).toNat]? = none:=by simp;omega
  rw[e1,e2]
  wp_walk using wpAny_loadPart' g1,wpAny_loadPart' g2
  show R (.ok (.ret (.bool (it.size != ba.size)))) _;rw[hz];simpa using h
 | succ k ih=>
  intro i hk A R s h;obtain⟨hp,g,d,tk,os⟩:=s;obtain⟨g1,g2,he,h⟩:=h
  wp_walk using wpAny_loadPart' g1,wpAny_loadPart' g2
  have l1:i<it.size:=by omega
  have l2:i<ba.size:=by omega
  have e1:it[((i:Nat):Int).toNat]? = some it[i]:=by simp[l1]
  have e2:ba[((i:Nat):Int).toNat]? = some ba[i]:=by simp[l2]
  have e3:((i:Int)+1)=((i+1:Nat):Int):=by push_cast;rfl
  rw[e1,e2];refine ac (he i l1 l2 _ _ ?_)
  wp_walk
  rw[e3];exact⟨gM kh _,gN wE (by
   rw[il kh _];exact ih (i+1) (by omega) A R _ ⟨g1,g2,he,h⟩)⟩
theorem acl(l b:Addr)(it ba:Av)(n n2:Nat)(dd bU:Oa)(sl bV:Array (Option Value))(hz:it.size=ba.size) :
 MeetsIn P w (Builtin.«list.__ne__» ⟨[.ref l,.ref b],[]⟩)
  (fun A R s=>s.heap.get? l=some ⟨.type "list",dd,.seq it n,sl⟩/\s.heap.get? b=some ⟨.type "list",bU,.seq ba n2,bV⟩/\(∀j (h1:j<it.size) (h2:j<ba.size),jY P w A.in1 s it[j] ba[j])/\R (.ok (.ret (.bool false))) s):=by
 intro A R s h;obtain⟨hp,g,d,tk,os⟩:=s;obtain⟨g1,g2,he,h⟩:=h;have f3:=O2;have nz:¬(it.size != ba.size)=true:=by simp[hz]
 wp_walk using wpAny_loadPart' g1,wpAny_loadPart' g2
 exact⟨gM kh _,gN wE (by
  rw[il kh _];exact ack l b it ba n n2 dd bU sl bV hz _ 0 rfl A R _ ⟨g1,g2,he,h⟩)⟩
theorem acm{l b:Addr}{it ba:Av}{Q E:VP}(h1:s.heap.IsList l it)(h2:s.heap.IsList b ba)(hz:it.size=ba.size)(hu:A.units<cLine)
 (he:∀j (h1:j<it.size) (h2:j<ba.size),jY P w A.in1 s it[j] ba[j]) (q:Q (.bool false) s):wpAny (model P w) A (compareOp .NotEq (.ref l) (.ref b)) Q E s:=by
 obtain⟨⟨cls,dd,data,sl⟩,ho,hc,n,hd⟩:=id h1;obtain⟨⟨rl,bU,data2,bV⟩,dY,bW,n2,hd2⟩:=id h2;simp only at hc hd bW hd2;subst hc hd bW hd2;show wpAny (model P w) A (richCompare .NotEq (.ref l) (.ref b)) Q E s;refine Op (op:=.NotEq) ⟨_,ho,rfl⟩ ⟨_,dY,rfl⟩ PySem.F.slot_list_ne (tw PySem.F.slot_list_ne ⟨_,ho,rfl⟩ PySem.F.entry_list_ne (PySem.F.args_list_ne_2 _ _) (acl l b it ba n n2 dd bU sl bV hz) ?_) hu;exact⟨ho,dY,he,show Value.bool false≠Value.notImplemented/\Q (.bool false) s from ⟨(fun x=>nomatch x),q⟩⟩
end
end HT
namespace L2
open PySem PySem.Spec PyProof.Rows
open PySem.W (KeqHits)
section
variable {X:Cx}
theorem JL{A:Around}{s:Shared}{bJ:List (aF×V)}{ws:List (aF×Value)}(nd:(bJ.map (·.1)).Nodup)(dZ:KV bJ ws):∀{ka:List (aF×V)} {va:List (aF×Value)},KV ka va->(∀p∈ka,p∈bJ/\∃r,p.2 = .ref r)->KeqHits A s ws va true
 | _,_,.nil,_=>.nil
 | _,_,.cons (a:=p) (b:=pv) rv tv,hm=>by
  obtain⟨hp,r,er⟩:=hm p cS;have hq:=Iw nd (k:=p.1) (v:=p.2) hp;have rel:=dZ.val p.1;rw[hq]at rel;cases hy:valueAt ws p.1 with
  | none=>rw[hy]at rel;exact rel.elim
  | some y=>
   rw[hy]at rel;have rel:RelV p.2 y:=rel;obtain⟨pk,BI⟩:=pv;have r2:RelV p.2 BI:=rv.2;have hk:p.1=pk:=rv.1;rw[er]at rel r2;have e:y=BI:=by cases rel;cases r2;rfl
   subst hk e;exact .hit (e:=true) (b:=true) hy (SeqAt.EqAt.same _) (JL nd dZ tv fun q hq=>hm q (cT _ hq))
end
end L2
namespace L2
open PySem PySem.Spec PyProof.Rows
section
variable {X:Cx}
def acn(K:Fg):R2:=fun x y H Q=>∃a b xs,x = .ref a/\y = .ref b/\ae K H a xs/\ae K H b []/\Q (.bl (decide (xs.length=0))) H
theorem JM(hu:X.A.units<cLine):bw X (compareOp .Eq) (acn X.K):=by
 intro pins s σ H x y v u Q I rx ry h;obtain⟨a,b,xs,rfl,rfl,ha,hb,q⟩:=h;cases rx;cases ry;obtain⟨its,rv,pl,_⟩:=I.list ha;obtain⟨iS,Cm,lS,_⟩:=I.list hb;cases Cm;have hl:=Fw rv
 by_cases h0:xs.length=0
 . rw[aL h0]at q;have hz:its.toArray.size=([]:Lw).toArray.size:=by show its.length=0;omega
   refine SeqAt.eq_listAt (e:=fun _=>true) pl.isList lS.isList hz hu (fun j h1 h2=>absurd h2 (by simp)) ?_;have:(List.range its.toArray.size).all (fun _=>true)=true:=by simp
   rw[this];exact⟨.bl true,H,I,rfl,q⟩
 . rw[aU h0]at q;refine SeqAt.eq_list_lengthsAt pl.isList lS.isList (by show(its.length != 0)=true;exact bne_iff_ne.mpr (by omega)) hu ⟨.bl false,H,I,rfl,q⟩
end
end L2
namespace HT
open PySem PyProof.Rows
section
open PySem.SeqAt
open PySem.AutoSeq1 (wpAny_loadPart')
open PySem.MeetsSeq PySem.MeetsSeq2 PySem.MeetsSeq3
end
section
variable {A:Around} {s:Shared}
end
end HT
namespace L2
open PySem PySem.Spec PyProof.Rows
section
variable {X:Cx} {pins:Po} {σ:St} {H:Hp} {s:Shared}
theorem aco(A:Around)(hu:A.units+65<cLine)(I:Inv X pins σ H s){x y:V}{v u:Value}{d e:PySem.W.Dat}(rx:RelV x v)(ry:RelV y u)(hd:DV X.K H x d)(he:DV X.K H y e)(od:PySem.W.kqdOk 9 d=true)(oe:PySem.W.kqdOk 9 e=true) :
 ∃b,SeqAt.EqAt A.in1 s v u b/\(b=true↔d=e):=by
 obtain⟨as,ra⟩:=hd.reads I rx;obtain⟨bs,rb⟩:=he.reads I ry;exact⟨_,PySem.W.keq_at (A:=A) ra rb (m7 od) (m7 oe) (by show A.units+1+64<cLine;omega),FT 9 d e 9 od oe⟩
end
end L2
namespace Tim
set_option maxHeartbeats 200000
open PySem PyProof.Rows
def JN:Bool->Keyed->Array Keyed->Nat->Nat->Nat->StateT SortSt Sem (Option Nat):=sortPriv% PySem.Builtin.gallop
def JO:Array Keyed->Array Keyed->StateT SortSt Sem (Array Keyed):=sortPriv% PySem.Builtin.mergeLo
def JP:Array Keyed->Array Keyed->StateT SortSt Sem (Array Keyed):=sortPriv% PySem.Builtin.mergeHi
def CmpOk(prog:Program)(w:World)(A:Around)(s:Shared)(κ:SortKind)(a₀:Array Keyed):Prop:=
 ∀x∈a₀.toList,∀y∈a₀.toList,∀(Q:Bool->Shared->Prop) (E:VP),(∀b,Q b s)->wpAny (model prog w) A (keyLt' κ x.1 y.1) Q E s
section
variable {prog:Program} {w:World} {A:Around} {E:VP} {s:Shared} {a₀:Array Keyed} {κ:SortKind}
theorem cI{α:Type}{c:Prop}[Decidable c]{m m':StateT SortSt Sem α}{Q:α->SortSt->Prop}{st:SortSt}(h1:c->wpS (model prog w) A E s m Q st)(h2:¬c->wpS (model prog w) A E s m' Q st):wpS (model prog w) A E s (if c then m else m') Q st:=by
 by_cases hc:c
 . rw[ai hc];exact h1 hc
 . rw[af hc];exact h2 hc
theorem da{α:Type}{x y:Nat}{m m':StateT SortSt Sem α}{Q:α->SortSt->Prop}{st:SortSt}(h1:x=y->wpS (model prog w) A E s m Q st)(h2:x≠y->wpS (model prog w) A E s m' Q st):wpS (model prog w) A E s (if (x == y)=true then m else m') Q st:=
 cI (fun z=>h1 (by simpa using z)) fun z=>h2 (by simpa using z)
theorem uI(hc:CmpOk prog w A s κ a₀){x y:Keyed}{st:SortSt}{Q:Option Bool->SortSt->Prop}(hx:x∈a₀.toList)(hy:y∈a₀.toList)(hk:kindOf st=κ)(h:∀b,Q (some b) st):wpS (model prog w) A E s (lt' x y) Q st:=by
 rw[lt'_eq];refine ao (jJ ?_);rw[hk];refine ao (qV (wpAny_attempt (hc x hx y hy _ _ fun b=>⟨rfl,?_⟩)));exact aq (h b)
theorem cu{arr:Array Keyed}{i:Nat}{st:SortSt}{Q:Keyed->SortSt->Prop}(hi:i<arr.size)(h:Q arr[i] st):wpS (model prog w) A E s (elem' arr i) Q st:=by
 rw[elem'_eq,O3 arr i hi];exact aq h
theorem uJ(hc:CmpOk prog w A s κ a₀){left:Bool}{key:Keyed}{arr:Array Keyed}{i:Nat}{st:SortSt}{Q:Option Bool->SortSt->Prop}(pL:∀p∈arr.toList,p∈a₀.toList)(ir:key∈a₀.toList)(hi:i<arr.size)(hk:kindOf st=κ)
 (h:∀b,Q (some b) st):wpS (model prog w) A E s (do
  let x ←elem' arr i
  if left=true then lt' x key
  else do
   let r ←lt' key x
   pure (Option.map (fun x=>!x) r)) Q st:=by
 refine ao (cu hi ?_);have hm:=pL arr[i] (by simp);cases left with
 | true=>exact uI hc hm ir hk h
 | false=>exact ao (uI hc ir hm hk fun b=>aq (h _))
theorem nr(hc:CmpOk prog w A s κ a₀){left:Bool}{key:Keyed}{arr:Array Keyed}{base n hint:Nat}{st:SortSt}{Q:Option Nat->SortSt->Prop}(pL:∀p∈arr.toList,p∈a₀.toList)(ir:key∈a₀.toList)(hb:base+n<=arr.size)(hh:hint<n)(hk:kindOf st=κ)
 (h:∀k,k<=n->Q (some k) st):wpS (model prog w) A E s (JN left key arr base n hint) Q st:=by
 unfold JN;refine ao (uJ hc pL ir (by omega) hk fun b=>?_);cases b with
 | true=>
  refine ao (eK (eM (I:=fun _ c al=>al=st/\∃l o,c=(none,l,o)/\l<o/\l<n - hint) (Q:=fun c al=>al=st/\∃l o,c=(none,l,o)/\l<o/\l<n - hint) ?_ (fun _ _ z=>z) ⟨rfl,0,1,rfl,by omega,by omega⟩) ?_)
  . rintro x c al _ _ ⟨rfl,l,o,rfl,h1,h2⟩;dsimp only
    by_cases ho:o >= n - hint
    . rw[ai ho];exact aq ⟨rfl,l,o,rfl,h1,h2⟩
    . rw[af ho];refine ao (uJ hc pL ir (by omega) hk fun b=>?_);cases b with
      | true=>exact aq ⟨rfl,o,2 * o+1,rfl,by omega,by omega⟩
      | false=>exact aq ⟨rfl,l,o,rfl,h1,h2⟩
  . rintro c al ⟨rfl,l,o,rfl,h1,h2⟩;refine ao (eK (eM (I:=fun _ c fe=>fe=al/\∃l o,c=(none,l,o)/\o<=n) (Q:=fun c fe=>fe=al/\∃l o,c=(none,l,o)/\o<=n) ?_ (fun _ _ z=>z) ⟨rfl,_,_,rfl,by omega⟩) ?_)
    . rintro x c fe _ _ ⟨rfl,l,o,rfl,h1⟩;dsimp only
      by_cases ho:l >= o
      . rw[ai ho];exact aq ⟨rfl,l,o,rfl,h1⟩
      . rw[af ho];refine ao (uJ hc pL ir (by omega) hk fun b=>?_);cases b with
        | true=>exact aq ⟨rfl,_,o,rfl,h1⟩
        | false=>exact aq ⟨rfl,l,_,rfl,by omega⟩
    . rintro c fe ⟨rfl,l,o,rfl,h1⟩;exact aq (h o h1)
 | false=>
  refine ao (eK (eM (I:=fun _ c al=>al=st/\∃l o,c=(none,l,o)/\l<o/\l<hint+1) (Q:=fun c al=>al=st/\∃l o,c=(none,l,o)/\l<o/\l<hint+1) ?_ (fun _ _ z=>z) ⟨rfl,0,1,rfl,by omega,by omega⟩) ?_)
  . rintro x c al _ _ ⟨rfl,l,o,rfl,h1,h2⟩;dsimp only
    by_cases ho:o >= hint+1
    . rw[ai ho];exact aq ⟨rfl,l,o,rfl,h1,h2⟩
    . rw[af ho];refine ao (uJ hc pL ir (by omega) hk fun b=>?_);cases b with
      | true=>exact aq ⟨rfl,l,o,rfl,h1,h2⟩
      | false=>exact aq ⟨rfl,o,2 * o+1,rfl,by omega,by omega⟩
  . rintro c al ⟨rfl,l,o,rfl,h1,h2⟩;refine ao (eK (eM (I:=fun _ c fe=>fe=al/\∃l o,c=(none,l,o)/\o<=n) (Q:=fun c fe=>fe=al/\∃l o,c=(none,l,o)/\o<=n) ?_ (fun _ _ z=>z) ⟨rfl,_,_,rfl,by omega⟩) ?_)
    . rintro x c fe _ _ ⟨rfl,l,o,rfl,h1⟩;dsimp only
      by_cases ho:l >= o
      . rw[ai ho];exact aq ⟨rfl,l,o,rfl,h1⟩
      . rw[af ho];refine ao (uJ hc pL ir (by omega) hk fun b=>?_);cases b with
        | true=>exact aq ⟨rfl,_,o,rfl,h1⟩
        | false=>exact aq ⟨rfl,l,_,rfl,by omega⟩
    . rintro c fe ⟨rfl,l,o,rfl,h1⟩;exact aq (h o h1)
structure eE(a b out:List Keyed)(ia ib:Nat):Prop where
 p:out.Perm (a.take ia++b.take ib)
theorem JQ{α:Type}(a b c d:List α):((a++b)++(c++d)).Perm ((a++c)++(b++d)):=by
 rw[cW,cW];refine oV a ?_;rw[←cW,←cW];exact mJ.append_right d
theorem JR{α:Type}(a:Array α)(i:Nat):(a.extract i).toList=a.toList.drop i:=by
 rw[AE];exact AF (by simp)
theorem Cn{α:Type}(a:Array α)(i k:Nat):(a.extract i (i+k)).toList=(a.toList.drop i).take k:=by
 rw[AE];simp
theorem eE.done{a b out:Array Keyed}{ia ib:Nat}(h:eE a.toList b.toList out.toList ia ib):(out++a.extract ia++b.extract ib).toList.Perm (a.toList++b.toList):=by
 rw[gO,gO,JR,JR,cW];refine(h.p.append_right _).trans ((JQ _ _ _ _).trans ?_);rw[ki,ki]
theorem eE.last{a b out:Array Keyed}{ia ib:Nat}(h:eE a.toList b.toList out.toList ia ib):(out++b.extract ib++a.extract ia).toList.Perm (a.toList++b.toList):=by
 refine List.Perm.trans ?_ h.done;rw[gO,gO,gO,gO,cW,cW];exact oV _ mJ
theorem Co{α:Type}{b:Array α}{i:Nat}(h:i<b.size):b.toList.take (i+1)=b.toList.take i++[b[i]]:=by
 rw[ajO (by simpa using h)];rfl
theorem eE.pushB{a b out:Array Keyed}{ia ib:Nat}(h:eE a.toList b.toList out.toList ia ib)(hi:ib<b.size):eE a.toList b.toList (out.push b[ib]).toList ia (ib+1):=by
 refine⟨?_⟩;rw[Co hi,qS,←cW];exact h.p.append_right _
theorem eE.pushA{a b out:Array Keyed}{ia ib:Nat}(h:eE a.toList b.toList out.toList ia ib)(hi:ia<a.size):eE a.toList b.toList (out.push a[ia]).toList (ia+1) ib:=by
 refine⟨?_⟩;rw[Co hi,qS,cW];refine(h.p.append_right _).trans ?_;rw[cW];exact oV _ mJ
theorem eE.appB{a b out:Array Keyed}{ia ib:Nat}(h:eE a.toList b.toList out.toList ia ib)(k:Nat):eE a.toList b.toList (out++b.extract ib (ib+k)).toList ia (ib+k):=by
 refine⟨?_⟩;rw[List.take_add,gO,Cn,←cW];exact h.p.append_right _
theorem eE.appA{a b out:Array Keyed}{ia ib:Nat}(h:eE a.toList b.toList out.toList ia ib)(k:Nat):eE a.toList b.toList (out++a.extract ia (ia+k)).toList (ia+k) ib:=by
 refine⟨?_⟩;rw[List.take_add,gO,Cn,cW];refine(h.p.append_right _).trans ?_;rw[cW];exact oV _ mJ
def rM(κ:SortKind)(st:SortSt)(a b:Array Keyed)(al:SortSt)(r:Array Keyed):Prop:=(∃g,al=SortSt.mk' κ (arrOf st) (pendingOf st) g (failedOf st))/\r.toList.Perm (a.toList++b.toList)
theorem acp(hc:CmpOk prog w A s κ a₀){a b:Array Keyed}{st:SortSt}{Q:Array Keyed->SortSt->Prop}(ha:∀p∈a.toList,p∈a₀.toList)(hb:∀p∈b.toList,p∈a₀.toList)(na:1<=a.size)(nb:1<=b.size)(hk:kindOf st=κ)
 (h:∀out g,out.toList.Perm (a.toList++b.toList)->Q out (SortSt.mk' κ (arrOf st) (pendingOf st) g (failedOf st))):wpS (model prog w) A E s (JO a b) Q st:=by
 have fC:st=SortSt.mk' κ (arrOf st) (pendingOf st) (gallopOf st) (failedOf st):=by subst hk;rfl
 have am:∀{i:Nat} (z:i<a.size),a[i]∈a₀.toList:=fun z=>ha _ (by simp);have bm:∀{i:Nat} (z:i<b.size),b[i]∈a₀.toList:=fun z=>hb _ (by simp);have i0:eE a.toList b.toList (#[b[0]]:Array Keyed).toList 0 1:=⟨by rw[Co (i:=0) (by omega)];exact tE _⟩;unfold JO;refine ao (qV (gJ ⟨rfl,?_⟩));refine ao (cu (by omega) ?_);dsimp only
 by_cases e1:(1 == b.size)=true
 . rw[ai e1,fC];exact aq (h _ _ i0.done)
 rw[af e1]
 by_cases e2:(0+1 == a.size)=true
 . rw[ai e2,fC];exact aq (h _ _ i0.last)
 rw[af e2];have Cp:¬1=b.size:=fun z=>e1 (by simpa using z);have e2':¬0+1=a.size:=fun z=>e2 (by simpa using z);refine ao (jJ ?_);refine ao (eK (eM (I:=fun x c al=>(∃g,al=SortSt.mk' κ (arrOf st) (pendingOf st) g (failedOf st))/\∃out ia ib g,c=(none,out,ia,ib,g)/\eE a.toList b.toList out.toList ia ib/\ia+1<a.size/\ib<b.size/\x+1<=ia+ib)
  (Q:=fun c al=>∃r t,c=(some r,t)/\rM κ st a b al r) ?_ ?_ ⟨⟨_,fC⟩,_,_,_,_,rfl,i0,by omega,by omega,by omega⟩) ?_)
 . rintro x c al _ _ ⟨⟨g,rfl⟩,out,ia,ib,mg,rfl,hl,b1,b2,b3⟩;dsimp only;refine ao (eK (eM (I:=fun y c al=>(∃g,al=SortSt.mk' κ (arrOf st) (pendingOf st) g (failedOf st))/\∃out ja jb u v,c=(none,out,ja,jb,u,v)/\eE a.toList b.toList out.toList ja jb/\ja+1<a.size/\jb<b.size/\ia+ib+y<=ja+jb)
    (Q:=fun c al=>(∃r t,c=(some r,t)/\rM κ st a b al r)\/((∃g,al=SortSt.mk' κ (arrOf st) (pendingOf st) g (failedOf st))/\∃out ja jb u v,c=(none,out,ja,jb,u,v)/\eE a.toList b.toList out.toList ja jb/\ja+1<a.size/\jb<b.size/\ia+ib+1<=ja+jb)) ?_ ?_ ⟨⟨_,rfl⟩,_,_,_,_,_,rfl,hl,b1,b2,av _⟩) ?_)
   . rintro y c al _ _ ⟨⟨g,rfl⟩,out,ja,jb,u,v,rfl,hl,b1,b2,b3⟩;dsimp only;refine ao (cu b2 ?_);refine ao (cu (by omega) ?_);refine ao (uI hc (bm _) (am _) rfl fun q=>?_);cases q with
     | true=>
      refine ao (cu b2 ?_)
      by_cases d1:(jb+1 == b.size)=true
      . rw[ai d1];exact aq (.inl ⟨_,_,rfl,⟨_,rfl⟩,(hl.pushB b2).done⟩)
      . rw[af d1];have d1':¬jb+1=b.size:=fun z=>d1 (by simpa using z);split
        . exact aq (.inr ⟨⟨_,rfl⟩,_,_,_,_,_,rfl,hl.pushB b2,b1,by omega,by omega⟩)
        . exact aq ⟨⟨_,rfl⟩,_,_,_,_,_,rfl,hl.pushB b2,b1,by omega,by omega⟩
     | false=>
      refine ao (cu (by omega) ?_)
      by_cases d1:(ja+1+1 == a.size)=true
      . rw[ai d1];exact aq (.inl ⟨_,_,rfl,⟨_,rfl⟩,(hl.pushA _).last⟩)
      . rw[af d1];have d1':¬ja+1+1=a.size:=fun z=>d1 (by simpa using z);split
        . exact aq (.inr ⟨⟨_,rfl⟩,_,_,_,_,_,rfl,hl.pushA _,by omega,b2,by omega⟩)
        . exact aq ⟨⟨_,rfl⟩,_,_,_,_,_,rfl,hl.pushA _,by omega,b2,by omega⟩
   . rintro c al ⟨hg,out,ja,jb,u,v,rfl,hl,b1,b2,b3⟩;exact .inr ⟨hg,out,ja,jb,u,v,rfl,hl,b1,b2,by omega⟩
   . rintro c al (⟨r,t,rfl,q⟩ | ⟨⟨g,rfl⟩,out,ja,jb,u,v,rfl,hl,b1,b2,b4⟩)
     . exact aq ⟨_,_,rfl,q⟩
     . dsimp only;refine ao (qV (gJ ⟨rfl,?_⟩));refine ao (eK (eM (I:=fun y c al=>(∃g,al=SortSt.mk' κ (arrOf st) (pendingOf st) g (failedOf st))/\∃out ja jb g u v,c=(none,out,ja,jb,g,u,v)/\eE a.toList b.toList out.toList ja jb/\ja+1<a.size/\jb<b.size/\ia+ib+1<=ja+jb)
        (Q:=fun c al=>(∃r t,c=(some r,t)/\rM κ st a b al r)\/((∃g,al=SortSt.mk' κ (arrOf st) (pendingOf st) g (failedOf st))/\∃out ja jb g u v,c=(none,out,ja,jb,g,u,v)/\eE a.toList b.toList out.toList ja jb/\ja+1<a.size/\jb<b.size/\ia+ib+1<=ja+jb)) ?_ (fun _ _ z=>.inr z) ⟨⟨_,rfl⟩,_,_,_,_,_,_,rfl,hl,b1,b2,b4⟩) ?_)
       . rintro y c al _ _ ⟨⟨g,rfl⟩,out,ja,jb,mg,u,v,rfl,hl,b1,b2,b3⟩;dsimp only;refine cI (fun _=>?_) fun _=>?_
         all_goals
          refine ao (jf ?_);refine ao (cu b2 ?_);refine ao (nr hc ha (bm _) (by omega) (by omega) rfl fun k hk=>?_);refine cI (fun _=>da (fun _=>?_) fun c1=>da (fun _=>?_) fun c2=>?_) fun _=>?_
          . exact aq (.inl ⟨_,_,rfl,⟨_,rfl⟩,(hl.appA k).last⟩)
          . exact aq (.inl ⟨_,_,rfl,⟨_,rfl⟩,(hl.appA k).done⟩)
          . refine ao (cu b2 (da (fun _=>?_) fun c3=>?_))
            . exact aq (.inl ⟨_,_,rfl,⟨_,rfl⟩,((hl.appA k).pushB b2).done⟩)
            . refine ao (cu (by omega) ?_);refine ao (nr hc hb (am _) (by omega) (by omega) rfl fun k2 bG=>?_);refine cI (fun _=>da (fun _=>?_) fun c4=>?_) fun _=>?_
              . exact aq (.inl ⟨_,_,rfl,⟨_,rfl⟩,(((hl.appA k).pushB b2).appB k2).done⟩)
              . refine ao (cu (by omega) (da (fun _=>?_) fun c5=>?_))
                . exact aq (.inl ⟨_,_,rfl,⟨_,rfl⟩,((((hl.appA k).pushB b2).appB k2).pushA _).last⟩)
                . refine cI (fun _=>?_) fun _=>?_
                  . exact aq (.inr ⟨⟨_,rfl⟩,_,_,_,_,_,_,rfl,((((hl.appA k).pushB b2).appB k2).pushA _),by omega,by omega,by omega⟩)
                  . exact aq ⟨⟨_,rfl⟩,_,_,_,_,_,_,rfl,((((hl.appA k).pushB b2).appB k2).pushA _),by omega,by omega,by omega⟩
              . refine ao (cu (by omega) (da (fun _=>?_) fun c5=>?_))
                . exact aq (.inl ⟨_,_,rfl,⟨_,rfl⟩,(((hl.appA k).pushB b2).pushA _).last⟩)
                . refine cI (fun _=>?_) fun _=>?_
                  . exact aq (.inr ⟨⟨_,rfl⟩,_,_,_,_,_,_,rfl,(((hl.appA k).pushB b2).pushA _),by omega,by omega,by omega⟩)
                  . exact aq ⟨⟨_,rfl⟩,_,_,_,_,_,_,rfl,(((hl.appA k).pushB b2).pushA _),by omega,by omega,by omega⟩
          . refine ao (cu b2 (da (fun _=>?_) fun c3=>?_))
            . exact aq (.inl ⟨_,_,rfl,⟨_,rfl⟩,(hl.pushB b2).done⟩)
            . refine ao (cu (by omega) ?_);refine ao (nr hc hb (am _) (by omega) (by omega) rfl fun k2 bG=>?_);refine cI (fun _=>da (fun _=>?_) fun c4=>?_) fun _=>?_
              . exact aq (.inl ⟨_,_,rfl,⟨_,rfl⟩,((hl.pushB b2).appB k2).done⟩)
              . refine ao (cu (by omega) (da (fun _=>?_) fun c5=>?_))
                . exact aq (.inl ⟨_,_,rfl,⟨_,rfl⟩,(((hl.pushB b2).appB k2).pushA _).last⟩)
                . refine cI (fun _=>?_) fun _=>?_
                  . exact aq (.inr ⟨⟨_,rfl⟩,_,_,_,_,_,_,rfl,(((hl.pushB b2).appB k2).pushA _),by omega,by omega,by omega⟩)
                  . exact aq ⟨⟨_,rfl⟩,_,_,_,_,_,_,rfl,(((hl.pushB b2).appB k2).pushA _),by omega,by omega,by omega⟩
              . refine ao (cu (by omega) (da (fun _=>?_) fun c5=>?_))
                . exact aq (.inl ⟨_,_,rfl,⟨_,rfl⟩,((hl.pushB b2).pushA _).last⟩)
                . refine cI (fun _=>?_) fun _=>?_
                  . exact aq (.inr ⟨⟨_,rfl⟩,_,_,_,_,_,_,rfl,((hl.pushB b2).pushA _),by omega,by omega,by omega⟩)
                  . exact aq ⟨⟨_,rfl⟩,_,_,_,_,_,_,rfl,((hl.pushB b2).pushA _),by omega,by omega,by omega⟩
       . rintro c al (⟨r,t,rfl,q⟩ | ⟨⟨g,rfl⟩,out,ja,jb,mg,u,v,rfl,hl,b1,b2,b4⟩)
         . exact aq ⟨_,_,rfl,q⟩
         . refine ao (jf ?_);exact aq ⟨⟨_,rfl⟩,_,_,_,_,rfl,hl,b1,b2,by dsimp only;omega⟩
 . rintro c al ⟨hg,out,ia,ib,g,rfl,hl,b1,b2,b3⟩;omega
 . rintro c al ⟨r,t,rfl,⟨g,rfl⟩,hp⟩;exact aq (h _ _ hp)
structure eF(a b out:List Keyed)(na nb:Nat):Prop where
 p:out.Perm (a.drop na++b.drop nb)
theorem JS{α:Type}(a:Array α)(i:Nat):(a.extract 0 i).toList=a.toList.take i:=by
 rw[AE];simp
theorem acr{α:Type}(a:Array α){i j:Nat}(h:i<=j):(a.extract i j).toList=(a.toList.drop i).take (j - i):=by
 rw[AE]
theorem eF.done{a b out:Array Keyed}{na nb:Nat}(h:eF a.toList b.toList out.toList na nb):(a.extract 0 na++b.extract 0 nb++out.reverse).toList.Perm (a.toList++b.toList):=by
 rw[gO,gO,JS,JS,O4];refine(oV _ ((O5 _).trans h.p)).trans ((JQ _ _ _ _).trans ?_);rw[ki,ki]
theorem eF.last{a b out:Array Keyed}{na nb:Nat}(h:eF a.toList b.toList out.toList na nb):(b.extract 0 nb++a.extract 0 na++out.reverse).toList.Perm (a.toList++b.toList):=by
 refine List.Perm.trans ?_ h.done;rw[gO,gO,gO,gO];exact List.Perm.append_right _ mJ
theorem Cq{α:Type}{b:Array α}{i:Nat}(h:i - 1<b.size)(h1:1<=i):b.toList.drop (i - 1)=b[i - 1]::b.toList.drop i:=by
 obtain⟨j,rfl⟩:∃j,i=j+1:=⟨i - 1,by omega⟩;exact ajN (by simpa using h)
theorem eF.pushB{a b out:Array Keyed}{na nb:Nat}(h:eF a.toList b.toList out.toList na nb)(hi:nb - 1<b.size)(h1:1<=nb):eF a.toList b.toList (out.push b[nb - 1]).toList na (nb - 1):=by
 refine⟨?_⟩;rw[Cq hi h1,qS];refine(h.p.append_right _).trans ?_;rw[cW];exact oV _ mJ
theorem eF.pushA{a b out:Array Keyed}{na nb:Nat}(h:eF a.toList b.toList out.toList na nb)(hi:na - 1<a.size)(h1:1<=na):eF a.toList b.toList (out.push a[na - 1]).toList (na - 1) nb:=by
 refine⟨?_⟩;rw[Cq hi h1,qS];exact(h.p.append_right _).trans mJ
theorem JT{α:Type}(a:Array α){i j:Nat}(h:i<=j):a.toList.drop i=(a.extract i j).toList++a.toList.drop j:=by
 rw[acr a h];have e:a.toList.drop j=(a.toList.drop i).drop (j - i):=by rw[F7];congr 1;omega
 rw[e,ki]
theorem eF.appB{a b out:Array Keyed}{na nb k:Nat}(h:eF a.toList b.toList out.toList na nb)(hk:k<=nb):eF a.toList b.toList (out++(b.extract k nb).reverse).toList na k:=by
 refine⟨?_⟩;rw[JT b hk,gO,O4];refine(h.p.append (O5 _)).trans ?_;rw[cW];exact oV _ mJ
theorem eF.appA{a b out:Array Keyed}{na nb k:Nat}(h:eF a.toList b.toList out.toList na nb)(hk:k<=na):eF a.toList b.toList (out++(a.extract k na).reverse).toList k nb:=by
 refine⟨?_⟩;rw[JT a hk,gO,O4];refine(h.p.append (O5 _)).trans ?_;exact mJ.trans (by rw[cW])
theorem acs(hc:CmpOk prog w A s κ a₀){a b:Array Keyed}{st:SortSt}{Q:Array Keyed->SortSt->Prop}(ha:∀p∈a.toList,p∈a₀.toList)(hb:∀p∈b.toList,p∈a₀.toList)(na:1<=a.size)(nb:1<=b.size)(hk:kindOf st=κ)
 (h:∀out g,out.toList.Perm (a.toList++b.toList)->Q out (SortSt.mk' κ (arrOf st) (pendingOf st) g (failedOf st))):wpS (model prog w) A E s (JP a b) Q st:=by
 have fC:st=SortSt.mk' κ (arrOf st) (pendingOf st) (gallopOf st) (failedOf st):=by subst hk;rfl
 have am:∀{i:Nat} (z:i<a.size),a[i]∈a₀.toList:=fun z=>ha _ (by simp);have bm:∀{i:Nat} (z:i<b.size),b[i]∈a₀.toList:=fun z=>hb _ (by simp);have i0:eF a.toList b.toList (#[a[a.size - 1]]:Array Keyed).toList (a.size - 1) b.size:=⟨by
  rw[Cq (i:=a.size) (by omega) na,ajP (by simp),ajP (by simp)];exact tE _⟩
 unfold JP;refine ao (qV (gJ ⟨rfl,?_⟩));refine ao (cu (by omega) ?_);refine da (fun _=>?_) fun e1=>da (fun _=>?_) fun e2=>?_
 . rw[fC];exact aq (h _ _ i0.done)
 . rw[fC];exact aq (h _ _ i0.last)
 refine ao (jJ ?_);refine ao (eK (eM (I:=fun x c al=>(∃g,al=SortSt.mk' κ (arrOf st) (pendingOf st) g (failedOf st))/\∃ja jb out g,c=(none,ja,jb,out,g)/\eF a.toList b.toList out.toList ja jb/\1<=ja/\2<=jb/\ja<a.size/\jb<=b.size/\ja+jb+x+1<=a.size+b.size)
  (Q:=fun c al=>∃r t,c=(some r,t)/\rM κ st a b al r) ?_ ?_ ⟨⟨_,fC⟩,_,_,_,_,rfl,i0,by omega,by omega,by omega,by omega,by omega⟩) ?_)
 . rintro x c al _ _ ⟨⟨g,rfl⟩,ia,ib,out,mg,rfl,hl,b1,b2,b5,b6,b3⟩;dsimp only;refine ao (eK (eM (I:=fun y c al=>(∃g,al=SortSt.mk' κ (arrOf st) (pendingOf st) g (failedOf st))/\∃ja jb out u v,c=(none,ja,jb,out,u,v)/\eF a.toList b.toList out.toList ja jb/\1<=ja/\2<=jb/\ja<a.size/\jb<=b.size/\ja+jb+y<=ia+ib)
    (Q:=fun c al=>(∃r t,c=(some r,t)/\rM κ st a b al r)\/((∃g,al=SortSt.mk' κ (arrOf st) (pendingOf st) g (failedOf st))/\∃ja jb out u v,c=(none,ja,jb,out,u,v)/\eF a.toList b.toList out.toList ja jb/\1<=ja/\2<=jb/\ja<a.size/\jb<=b.size/\ja+jb+1<=ia+ib)) ?_ ?_ ⟨⟨_,rfl⟩,_,_,_,_,_,rfl,hl,b1,b2,b5,b6,av _⟩) ?_)
   . rintro y c al _ _ ⟨⟨g,rfl⟩,ja,jb,out,u,v,rfl,hl,b1,b2,b5,b6,b3⟩;dsimp only;refine ao (cu (by omega) ?_);refine ao (cu (by omega) ?_);refine ao (uI hc (bm _) (am _) rfl fun q=>?_);cases q with
     | true=>
      refine ao (cu (by omega) (da (fun _=>?_) fun c1=>cI (fun _=>?_) fun _=>?_))
      . exact aq (.inl ⟨_,_,rfl,⟨_,rfl⟩,(hl.pushA _ b1).done⟩)
      . exact aq (.inr ⟨⟨_,rfl⟩,_,_,_,_,_,rfl,hl.pushA _ b1,by omega,by omega,by omega,by omega,by omega⟩)
      . exact aq ⟨⟨_,rfl⟩,_,_,_,_,_,rfl,hl.pushA _ b1,by omega,by omega,by omega,by omega,by omega⟩
     | false=>
      refine ao (cu (by omega) (da (fun _=>?_) fun c1=>cI (fun _=>?_) fun _=>?_))
      . exact aq (.inl ⟨_,_,rfl,⟨_,rfl⟩,(hl.pushB _ (by omega)).last⟩)
      . exact aq (.inr ⟨⟨_,rfl⟩,_,_,_,_,_,rfl,hl.pushB _ (by omega),by omega,by omega,by omega,by omega,by omega⟩)
      . exact aq ⟨⟨_,rfl⟩,_,_,_,_,_,rfl,hl.pushB _ (by omega),by omega,by omega,by omega,by omega,by omega⟩
   . rintro c al ⟨hg,ja,jb,out,u,v,rfl,hl,b1,b2,b5,b6,b3⟩;exact .inr ⟨hg,ja,jb,out,u,v,rfl,hl,b1,b2,b5,b6,by omega⟩
   . rintro c al (⟨r,t,rfl,q⟩ | ⟨⟨g,rfl⟩,ja,jb,out,u,v,rfl,hl,b1,b2,b5,b6,b4⟩)
     . exact aq ⟨_,_,rfl,q⟩
     . dsimp only;refine ao (qV (gJ ⟨rfl,?_⟩));refine ao (eK (eM (I:=fun y c al=>(∃g,al=SortSt.mk' κ (arrOf st) (pendingOf st) g (failedOf st))/\∃ja jb out g u v,c=(none,ja,jb,out,g,u,v)/\eF a.toList b.toList out.toList ja jb/\1<=ja/\2<=jb/\ja<a.size/\jb<=b.size/\ja+jb+1<=ia+ib)
        (Q:=fun c al=>(∃r t,c=(some r,t)/\rM κ st a b al r)\/((∃g,al=SortSt.mk' κ (arrOf st) (pendingOf st) g (failedOf st))/\∃ja jb out g u v,c=(none,ja,jb,out,g,u,v)/\eF a.toList b.toList out.toList ja jb/\1<=ja/\2<=jb/\ja<a.size/\jb<=b.size/\ja+jb+1<=ia+ib)) ?_ (fun _ _ z=>.inr z) ⟨⟨_,rfl⟩,_,_,_,_,_,_,rfl,hl,b1,b2,b5,b6,b4⟩) ?_)
       . rintro y c al _ _ ⟨⟨g,rfl⟩,ja,jb,out,mg,u,v,rfl,hl,b1,b2,b5,b6,b3⟩;dsimp only;refine cI (fun _=>?_) fun _=>?_
         all_goals
          refine ao (jf ?_);refine ao (cu (by omega) ?_);refine ao (nr hc ha (bm _) (by omega) (by omega) rfl fun k hk=>?_);refine cI (fun _=>da (fun _=>?_) fun c1=>?_) fun _=>?_
          . exact aq (.inl ⟨_,_,rfl,⟨_,rfl⟩,(hl.appA hk).done⟩)
          . skip
            refine ao (cu (by omega) (da (fun _=>?_) fun c3=>?_))
            . exact aq (.inl ⟨_,_,rfl,⟨_,rfl⟩,((hl.appA hk).pushB _ (by omega)).last⟩)
            . refine ao (cu (by omega) ?_);refine ao (nr hc hb (am _) (by omega) (by omega) rfl fun k2 bG=>?_);refine cI (fun _=>da (fun _=>?_) fun c4=>da (fun _=>?_) fun c6=>?_) fun _=>?_
              . exact aq (.inl ⟨_,_,rfl,⟨_,rfl⟩,(((hl.appA hk).pushB _ (by omega)).appB bG).last⟩)
              . exact aq (.inl ⟨_,_,rfl,⟨_,rfl⟩,(((hl.appA hk).pushB _ (by omega)).appB bG).done⟩)
              . refine ao (cu (by omega) (da (fun _=>?_) fun c5=>?_))
                . exact aq (.inl ⟨_,_,rfl,⟨_,rfl⟩,((((hl.appA hk).pushB _ (by omega)).appB bG).pushA _ (by omega)).done⟩)
                . refine cI (fun _=>?_) fun _=>?_
                  . exact aq (.inr ⟨⟨_,rfl⟩,_,_,_,_,_,_,rfl,((((hl.appA hk).pushB _ (by omega)).appB bG).pushA _ (by omega)),by omega,by omega,by omega,by omega,by omega⟩)
                  . exact aq ⟨⟨_,rfl⟩,_,_,_,_,_,_,rfl,((((hl.appA hk).pushB _ (by omega)).appB bG).pushA _ (by omega)),by omega,by omega,by omega,by omega,by omega⟩
              . refine ao (cu (by omega) (da (fun _=>?_) fun c5=>?_))
                . exact aq (.inl ⟨_,_,rfl,⟨_,rfl⟩,(((hl.appA hk).pushB _ (by omega)).pushA _ (by omega)).done⟩)
                . refine cI (fun _=>?_) fun _=>?_
                  . exact aq (.inr ⟨⟨_,rfl⟩,_,_,_,_,_,_,rfl,(((hl.appA hk).pushB _ (by omega)).pushA _ (by omega)),by omega,by omega,by omega,by omega,by omega⟩)
                  . exact aq ⟨⟨_,rfl⟩,_,_,_,_,_,_,rfl,(((hl.appA hk).pushB _ (by omega)).pushA _ (by omega)),by omega,by omega,by omega,by omega,by omega⟩
          . skip
            refine ao (cu (by omega) (da (fun _=>?_) fun c3=>?_))
            . exact aq (.inl ⟨_,_,rfl,⟨_,rfl⟩,((hl).pushB _ (by omega)).last⟩)
            . refine ao (cu (by omega) ?_);refine ao (nr hc hb (am _) (by omega) (by omega) rfl fun k2 bG=>?_);refine cI (fun _=>da (fun _=>?_) fun c4=>da (fun _=>?_) fun c6=>?_) fun _=>?_
              . exact aq (.inl ⟨_,_,rfl,⟨_,rfl⟩,(((hl).pushB _ (by omega)).appB bG).last⟩)
              . exact aq (.inl ⟨_,_,rfl,⟨_,rfl⟩,(((hl).pushB _ (by omega)).appB bG).done⟩)
              . refine ao (cu (by omega) (da (fun _=>?_) fun c5=>?_))
                . exact aq (.inl ⟨_,_,rfl,⟨_,rfl⟩,((((hl).pushB _ (by omega)).appB bG).pushA _ (by omega)).done⟩)
                . refine cI (fun _=>?_) fun _=>?_
                  . exact aq (.inr ⟨⟨_,rfl⟩,_,_,_,_,_,_,rfl,((((hl).pushB _ (by omega)).appB bG).pushA _ (by omega)),by omega,by omega,by omega,by omega,by omega⟩)
                  . exact aq ⟨⟨_,rfl⟩,_,_,_,_,_,_,rfl,((((hl).pushB _ (by omega)).appB bG).pushA _ (by omega)),by omega,by omega,by omega,by omega,by omega⟩
              . refine ao (cu (by omega) (da (fun _=>?_) fun c5=>?_))
                . exact aq (.inl ⟨_,_,rfl,⟨_,rfl⟩,(((hl).pushB _ (by omega)).pushA _ (by omega)).done⟩)
                . refine cI (fun _=>?_) fun _=>?_
                  . exact aq (.inr ⟨⟨_,rfl⟩,_,_,_,_,_,_,rfl,(((hl).pushB _ (by omega)).pushA _ (by omega)),by omega,by omega,by omega,by omega,by omega⟩)
                  . exact aq ⟨⟨_,rfl⟩,_,_,_,_,_,_,rfl,(((hl).pushB _ (by omega)).pushA _ (by omega)),by omega,by omega,by omega,by omega,by omega⟩
       . rintro c al (⟨r,t,rfl,q⟩ | ⟨⟨g,rfl⟩,ja,jb,out,mg,u,v,rfl,hl,b1,b2,b5,b6,b4⟩)
         . exact aq ⟨_,_,rfl,q⟩
         . refine ao (jf ?_);exact aq ⟨⟨_,rfl⟩,_,_,_,_,rfl,hl,b1,b2,b5,b6,by dsimp only;omega⟩
 . rintro c al ⟨hg,ia,ib,out,g,rfl,hl,b1,b2,b5,b6,b3⟩;omega
 . rintro c al ⟨r,t,rfl,⟨g,rfl⟩,hp⟩;exact aq (h _ _ hp)
end
def Seg:Nat->List (Nat×Nat×Nat)->Nat->Prop
 | s,[],e=>s=e
 | s,x::r,e=>x.1=s/\1<=x.2.1/\Seg (s+x.2.1) r e
theorem Seg.app:∀{l r:List (Nat×Nat×Nat)} {s e:Nat},Seg s (l++r) e↔∃m,Seg s l m/\Seg m r e
 | [],r,s,e=>⟨fun h=>⟨s,rfl,h⟩,fun act=>act.elim fun m acu=>acu.elim fun h1 h2=>by cases h1;exact h2⟩
 | x::l,r,s,e=>⟨fun h=>by
  obtain⟨m,h1,h2⟩:=Seg.app.mp h.2.2;exact⟨m,⟨h.1,h.2.1,h1⟩,h2⟩,fun acv=>acv.elim fun m acw=>acw.elim fun h1 h2=>⟨h1.1,h1.2.1,Seg.app.mpr ⟨m,h1.2.2,h2⟩⟩⟩
theorem Seg.le:∀{l:List (Nat×Nat×Nat)} {s e:Nat},Seg s l e->s<=e
 | [],s,e,h=>wq h
 | x::l,s,e,h=>bn (Nat.le_add_right _ _) h.2.2.le
theorem Seg.two{l:List (Nat×Nat×Nat)}{i e:Nat}(h:Seg 0 l e)(hi:i+1<l.length):∃sa na p nb q,l[i]? = some (sa,na,p)/\l[i+1]? = some (sa+na,nb,q)/\1<=na/\1<=nb/\sa+na+nb<=e/\Seg 0 ((l.set i (sa,na+nb,p)).eraseIdx (i+1)) e:=by
 obtain⟨pre,u,v,post,rfl,rfl⟩:∃pre u v post,l=pre++u::v::post/\pre.length=i:=
  ⟨l.take i,l[i],l[i+1],l.drop (i+2),by rw[ajQ,ajQ,ki],by rw[dE];omega⟩
 obtain⟨m,h1,h2,h3,h4,h5,h6⟩:=Seg.app.mp h;obtain⟨u1,u2,u3⟩:=u;obtain⟨v1,v2,v3⟩:=v;cases h2;cases h4;refine⟨u1,u2,u3,v2,v3,?_,?_,h3,h5,h6.le,?_⟩
 . rw[qN (av _),Gq];rfl
 . rw[qN (by omega),show pre.length+1 - pre.length=1 by omega];rfl
 . rw[List.set_append_right _ _ (av _),Gq,List.eraseIdx_append_of_length_le (by omega),show pre.length+1 - pre.length=1 by omega];refine Seg.app.mpr ⟨u1,h1,rfl,bn h3 (Nat.le_add_right _ _),?_⟩;show Seg (u1+(u2+v2)) post e;rw[←sU];exact h6
theorem JU{α:Type}(o:Nat):∀(m:List α) (k:Nat) (a:Array α),o+k+m.length<=a.size->((m.zipIdx k).foldl (fun a (x:α×Nat)=>a.setIfInBounds (o+x.2) x.1) a).toList=a.toList.take (o+k)++m++a.toList.drop (o+k+m.length)
 | [],k,a,h=>by simp
 | x::m,k,a,h=>by
  rw[List.zipIdx_cons,As,JU o m (k+1) _ (by rw[Gr];simp at h;omega)];simp only[OK];simp only[bu]at h;have hlen:o+k<a.toList.length:=by rw[cK];omega
  rw[List.drop_set_of_lt (by omega),←sU,ajO (by rw[List.length_set];exact hlen),List.take_set_of_le (av _),List.getElem_set_self,bu];rw[cW,cW,cW];simp[sU,Nat.add_comm 1 m.length]
section
variable {prog:Program} {w:World} {A:Around} {E:VP} {s:Shared} {a₀:Array Keyed} {κ:SortKind}
structure TB(a₀:Array Keyed)(κ:SortKind)(st:SortSt):Prop where
 p:(arrOf st).toList.Perm a₀.toList
 k:kindOf st=κ
 f:failedOf st=none
theorem acx{σ:Type}{x st:σ}{Q:PUnit->σ->Prop}(h:Q ⟨⟩ x):wpS (model prog w) A E s (set x:StateT σ Sem PUnit) Q st:=by
 unfold wpS;rw[StateT.run_set];exact aj ⟨rfl,h⟩
theorem Cr(hc:CmpOk prog w A s κ a₀){i e:Nat}{st:SortSt}{Q:Bool->SortSt->Prop}(hB:TB a₀ κ st)(hs:Seg 0 (pendingOf st).toList e)(he:e<=a₀.size)(hi:i+1<(pendingOf st).size)
 (h:∀al,TB a₀ κ al->Seg 0 (pendingOf al).toList e->(pendingOf al).size+1=(pendingOf st).size->Q true al):wpS (model prog w) A E s (mergeAt' i) Q st:=by
 obtain⟨κ',ar,pd,g0,f0⟩:=st;obtain⟨hp,hk,hf⟩:=hB;cases hk;cases hf;change ar.toList.Perm a₀.toList at hp;change Seg 0 pd.toList e at hs;change i+1<pd.size at hi;obtain⟨sa,na,p,nb,q,h1,h2,h3,h4,h5,h6⟩:=hs.two (by simpa using hi);have hz:ar.size=a₀.size:=by have:=hp.length_eq;simpa using this
 rw[ly]at h1 h2;have hm:∀p∈ar.toList,p∈a₀.toList:=fun p hq=>hp.mem_iff.mp hq;have sg:Seg 0 ((pd.setIfInBounds i (sa,na+nb,p)).eraseIdxIfInBounds (i+1)).toList e:=by
  rw[ajR,dif_pos (by rw[Gr];exact hi),Array.toList_eraseIdx,OK];exact h6
 have sz:((pd.setIfInBounds i (sa,na+nb,p)).eraseIdxIfInBounds (i+1)).size+1=pd.size:=by
  rw[ajR,dif_pos (by rw[Gr];exact hi),Array.size_eraseIdx,Gr];omega
 unfold mergeAt';refine ao (jJ ?_);dsimp only;rw[h1,h2];refine ao (acx ?_);refine ao (cu (by omega) ?_);refine ao (nr hc hm (hm _ (by simp)) (by omega) (by omega) rfl fun k hk=>?_);refine da (fun _=>?_) fun c1=>?_
 . exact aq (h _ ⟨hp,rfl,rfl⟩ sg sz)
 refine ao (cu (by omega) ?_);refine ao (nr hc hm (hm _ (by simp)) (by omega) (by omega) rfl fun pM hnb=>?_);refine da (fun _=>?_) fun c2=>?_
 . exact aq (h _ ⟨hp,rfl,rfl⟩ sg sz)
 have x1:(ar.extract (sa+k) (sa+na)).toList=(ar.toList.drop (sa+k)).take (na - k):=by
  rw[AE];show List.take (sa+na - (sa+k)) _=_;rw[show sa+na - (sa+k)=na - k by omega]
 have y1:(ar.extract (sa+na) (sa+na+pM)).toList=(ar.toList.drop (sa+na)).take pM:=Cn _ _ _;have sub:∀{b:Array Keyed} {u v:Nat},b.toList=(ar.toList.drop u).take v->∀p∈b.toList,p∈a₀.toList:=fun z p hp=>hm p (List.mem_of_mem_drop (List.mem_of_mem_take (z▸hp)));have fin:∀(out:Array Keyed) (g:Nat),out.toList.Perm ((ar.extract (sa+k) (sa+na)).toList++(ar.extract (sa+na) (sa+na+pM)).toList) ->
  TB a₀ κ' (SortSt.mk' κ' (out.toList.zipIdx.foldl (fun a (x:Keyed×Nat)=>a.setIfInBounds (sa+k+x.2) x.1) ar) ((pd.setIfInBounds i (sa,na+nb,p)).eraseIdxIfInBounds (i+1)) g none):=by
  intro out g hq;refine⟨?_,rfl,rfl⟩;refine List.Perm.trans ?_ hp;have hlen:out.toList.length=na - k+pM:=by
   rw[hq.length_eq,x1,y1];simp;omega
  show(out.toList.zipIdx.foldl (fun a (x:Keyed×Nat)=>a.setIfInBounds (sa+k+x.2) x.1) ar).toList.Perm _;rw[JU (sa+k) out.toList 0 ar (by rw[hlen];omega),Ap,hlen];refine((oV _ hq).append_right _).trans (List.Perm.of_eq ?_);rw[x1,y1];have e1:ar.toList.drop (sa+na)=(ar.toList.drop (sa+k)).drop (na - k):=by rw[F7];congr 1;omega
  have e2:ar.toList.drop (sa+k+(na - k+pM))=(ar.toList.drop (sa+na)).drop pM:=by rw[F7];congr 1;omega
  rw[e2,cW,cW,ki,e1,ki,ki]
 have k1:1<=(ar.extract (sa+k) (sa+na)).size:=by rw[←cK,x1];simp;omega
 have k2:1<=(ar.extract (sa+na) (sa+na+pM)).size:=by rw[←cK,y1];simp;omega
 refine cI (fun _=>?_) fun _=>?_
 . refine ao (acp hc (sub x1) (sub y1) k1 k2 rfl fun out g hq=>?_);exact ao (jf (ao (jJ (aq (h _ (fin out g hq) sg sz)))))
 . refine ao (acs hc (sub x1) (sub y1) k1 k2 rfl fun out g hq=>?_);exact ao (jf (ao (jJ (aq (h _ (fin out g hq) sg sz)))))
def TS(st al:SortSt):Prop:=∃xs:Array Keyed,xs.toList.Perm (arrOf st).toList/\al=setArr st xs
theorem TS.refl(st:SortSt):TS st st:=⟨arrOf st,tE _,rfl⟩
theorem TS.rev{st al:SortSt}(h:TS st al){ys:Array Keyed}(hp:ys.Perm (arrOf al)):TS st (setArr al ys):=by
 obtain⟨xs,hx,rfl⟩:=h;exact⟨ys,(OV.mp hp).trans hx,rfl⟩
theorem TS.tb{st al:SortSt}(h:TS st al)(hB:TB a₀ κ st):TB a₀ κ al:=by
 obtain⟨xs,hx,rfl⟩:=h;exact⟨hx.trans hB.p,hB.k,hB.f⟩
theorem TB.size{st:SortSt}(hB:TB a₀ κ st):(arrOf st).size=a₀.size:=by
 have:=hB.p.length_eq;simpa using this
theorem jZ(hc:CmpOk prog w A s κ a₀){i j:Nat}{st:SortSt}{Q:Option Bool->SortSt->Prop}(hB:TB a₀ κ st)(hi:i<a₀.size)(hj:j<a₀.size)(h:∀b,Q (some b) st):wpS (model prog w) A E s (ltAt' i j) Q st:=by
 rw[ltAt'_eq];refine ao (jJ ?_);refine ao (cu (hB.size▸hi) (ao (cu (hB.size▸hj) ?_)));exact uI hc (hB.p.mem_iff.mp (by simp)) (hB.p.mem_iff.mp (by simp)) hB.k h
theorem lT{st al:SortSt}{i j:Nat}{Q:Unit->SortSt->Prop}(t:TS st al)(h:∀fe,TS st fe->Q () fe):wpS (model prog w) A E s (reverseSlice' i j) Q al:=by
 rw[reverseSlice'_eq];exact jf (h _ (t.rev (mirror_perm _ _ _ _)))
theorem acy(hc:CmpOk prog w A s κ a₀){lo n ok:Nat}{st:SortSt}{Q:Bool->SortSt->Prop}(hB:TB a₀ κ st)(hn:lo+n<=a₀.size)(h:∀al,TS st al->Q true al):wpS (model prog w) A E s (binarySort' lo n ok) Q st:=by
 unfold binarySort';refine ao (eK (eM (I:=fun k c al=>c=(none,())/\TS st al) (Q:=fun c al=>c=(none,())/\TS st al) ?_ (fun _ _ z=>z) ⟨rfl,.refl _⟩) ?_)
 . rintro k c al h1 h2 ⟨rfl,t⟩;refine ao (eK (eM (I:=fun _ c fe=>fe=al/\∃l r,c=(none,l,r)/\r<=k) (Q:=fun c fe=>fe=al/\∃l r,c=(none,l,r)/\r<=k) ?_ (fun _ _ z=>z) ⟨rfl,0,k,rfl,av _⟩) ?_)
   . rintro x c fe _ _ ⟨rfl,l,r,rfl,hr⟩;refine cI (fun _=>aq ⟨rfl,l,r,rfl,hr⟩) fun hlr=>?_;have akk:¬l >= r:=hlr;refine ao (jZ hc (t.tb hB) (by omega) (by dsimp only;omega) fun b=>?_);cases b with
     | true=>exact aq ⟨rfl,l,_,rfl,by dsimp only;omega⟩
     | false=>exact aq ⟨rfl,_,r,rfl,hr⟩
   . rintro c fe ⟨rfl,l,r,rfl,hr⟩;refine ao (jf (aq ⟨rfl,t.rev (bubble_perm _ _ _)⟩))
 . rintro c al ⟨rfl,t⟩;exact aq (h _ t)
theorem acA(hc:CmpOk prog w A s κ a₀){lo jv:Nat}{st:SortSt}{Q:Option Nat->SortSt->Prop}(hB:TB a₀ κ st)(h1:1<=jv)(hn:lo+jv<=a₀.size)(h:∀n al,TS st al->1<=n->n<=jv->Q (some n) al):wpS (model prog w) A E s (countRun' lo jv) Q st:=by
 unfold countRun';refine ao (eK (eM (I:=fun x c al=>al=st/\∃n,c=(none,n)/\1<=n/\n<=x) (Q:=fun c al=>al=st/\∃n,c=(none,n)/\1<=n/\n<=jv) ?_ ?_ ⟨rfl,1,rfl,av _,av _⟩) ?_)
 . rintro x c al h2 h3 ⟨rfl,n,rfl,h4,h5⟩;refine ao (jZ hc hB (by first | omega | (dsimp only at *;omega)) (by first | omega | (dsimp only at *;omega)) fun b=>?_);cases b with
   | true=>exact aq ⟨rfl,n,rfl,h4,by omega⟩
   | false=>exact aq ⟨rfl,n+1,rfl,by omega,by omega⟩
 . rintro c al ⟨rfl,n,rfl,h4,h5⟩;exact⟨rfl,n,rfl,h4,by omega⟩
 . rintro c al ⟨rfl,n,rfl,h4,h5⟩;refine da (fun _=>aq (h n _ (.refl _) h4 h5)) fun c1=>?_;have c1':n≠jv:=c1;refine cI (fun _=>ao (jZ hc hB (by first | omega | (dsimp only at *;omega)) (by first | omega | (dsimp only at *;omega)) fun b=>?_)) fun _=>?_
   . cases b with
     | true=>exact aq (h n _ (.refl _) h4 h5)
     | false=>
      refine ao (lT (.refl _) fun Cs t1=>?_);refine ao (qV (gJ ⟨rfl,?_⟩));refine ao (eK (eM (I:=fun x c cy=>TS al cy/\∃m q,c=(none,m,q)/\1<=m/\m<=x) (Q:=fun c cy=>TS al cy/\∃m q,c=(none,m,q)/\1<=m/\m<=jv) ?_ ?_ ⟨t1,n+1,0,rfl,by omega,av _⟩) ?_)
      . rintro x c cy g1 g2 ⟨t2,m,q,rfl,g3,g4⟩;refine ao (jZ hc (t2.tb hB) (by first | omega | (dsimp only at *;omega)) (by first | omega | (dsimp only at *;omega)) fun b=>?_);cases b with
        | true=>
         dsimp only;rw[ai rfl];refine cI (fun _=>?_) fun _=>?_
         . refine ao (lT t2 fun aW t3=>?_);exact aq ⟨t3,_,_,rfl,by first | omega | (dsimp only at *;omega),by first | omega | (dsimp only at *;omega)⟩
         . exact aq ⟨t2,_,_,rfl,by first | omega | (dsimp only at *;omega),by first | omega | (dsimp only at *;omega)⟩
        | false=>
         refine ao (jZ hc (t2.tb hB) (by first | omega | (dsimp only at *;omega)) (by first | omega | (dsimp only at *;omega)) fun b=>?_);cases b with
         | true=>exact aq ⟨t2,_,_,rfl,by first | omega | (dsimp only at *;omega),by first | omega | (dsimp only at *;omega)⟩
         | false=>exact aq ⟨t2,_,_,rfl,by first | omega | (dsimp only at *;omega),by first | omega | (dsimp only at *;omega)⟩
      . rintro c cy ⟨t2,m,q,rfl,g3,g4⟩;exact⟨t2,m,q,rfl,g3,by omega⟩
      . rintro c cy ⟨t2,m,q,rfl,g3,g4⟩;refine cI (fun _=>?_) fun _=>?_
        . refine ao (lT t2 fun aW t3=>ao (lT t3 fun f8 t4=>?_));refine ao (eK (eM (I:=fun x c be=>be=f8/\∃k,c=(none,k)/\1<=k/\k<=x) (Q:=fun c be=>be=f8/\∃k,c=(none,k)/\1<=k/\k<=jv) ?_ ?_ ⟨rfl,m,rfl,g3,av _⟩) ?_)
          . rintro x c be f1 f2 ⟨rfl,k,rfl,f3,f4⟩;refine ao (jZ hc (t4.tb hB) (by first | omega | (dsimp only at *;omega)) (by first | omega | (dsimp only at *;omega)) fun b=>?_);cases b with
            | true=>exact aq ⟨rfl,_,rfl,by first | omega | (dsimp only at *;omega),by first | omega | (dsimp only at *;omega)⟩
            | false=>exact aq ⟨rfl,_,rfl,by first | omega | (dsimp only at *;omega),by first | omega | (dsimp only at *;omega)⟩
          . rintro c be ⟨rfl,k,rfl,f3,f4⟩;exact⟨rfl,k,rfl,f3,by first | omega | (dsimp only at *;omega)⟩
          . rintro c be ⟨rfl,k,rfl,f3,f4⟩;exact aq (h k _ t4 f3 f4)
        . refine ao (lT t2 fun f8 t4=>?_);refine ao (eK (eM (I:=fun x c be=>be=f8/\∃k,c=(none,k)/\1<=k/\k<=x) (Q:=fun c be=>be=f8/\∃k,c=(none,k)/\1<=k/\k<=jv) ?_ ?_ ⟨rfl,m,rfl,g3,av _⟩) ?_)
          . rintro x c be f1 f2 ⟨rfl,k,rfl,f3,f4⟩;refine ao (jZ hc (t4.tb hB) (by first | omega | (dsimp only at *;omega)) (by first | omega | (dsimp only at *;omega)) fun b=>?_);cases b with
            | true=>exact aq ⟨rfl,_,rfl,by first | omega | (dsimp only at *;omega),by first | omega | (dsimp only at *;omega)⟩
            | false=>exact aq ⟨rfl,_,rfl,by first | omega | (dsimp only at *;omega),by first | omega | (dsimp only at *;omega)⟩
          . rintro c be ⟨rfl,k,rfl,f3,f4⟩;exact⟨rfl,k,rfl,f3,by first | omega | (dsimp only at *;omega)⟩
          . rintro c be ⟨rfl,k,rfl,f3,f4⟩;exact aq (h k _ t4 f3 f4)
   . have t1:TS al al:=.refl _;refine ao (qV (gJ ⟨rfl,?_⟩));refine ao (eK (eM (I:=fun x c cy=>TS al cy/\∃m q,c=(none,m,q)/\1<=m/\m<=x) (Q:=fun c cy=>TS al cy/\∃m q,c=(none,m,q)/\1<=m/\m<=jv) ?_ ?_ ⟨t1,n+1,0,rfl,by omega,av _⟩) ?_)
     . rintro x c cy g1 g2 ⟨t2,m,q,rfl,g3,g4⟩;refine ao (jZ hc (t2.tb hB) (by first | omega | (dsimp only at *;omega)) (by first | omega | (dsimp only at *;omega)) fun b=>?_);cases b with
       | true=>
        dsimp only;rw[ai rfl];refine cI (fun _=>?_) fun _=>?_
        . refine ao (lT t2 fun aW t3=>?_);exact aq ⟨t3,_,_,rfl,by first | omega | (dsimp only at *;omega),by first | omega | (dsimp only at *;omega)⟩
        . exact aq ⟨t2,_,_,rfl,by first | omega | (dsimp only at *;omega),by first | omega | (dsimp only at *;omega)⟩
       | false=>
        refine ao (jZ hc (t2.tb hB) (by first | omega | (dsimp only at *;omega)) (by first | omega | (dsimp only at *;omega)) fun b=>?_);cases b with
        | true=>exact aq ⟨t2,_,_,rfl,by first | omega | (dsimp only at *;omega),by first | omega | (dsimp only at *;omega)⟩
        | false=>exact aq ⟨t2,_,_,rfl,by first | omega | (dsimp only at *;omega),by first | omega | (dsimp only at *;omega)⟩
     . rintro c cy ⟨t2,m,q,rfl,g3,g4⟩;exact⟨t2,m,q,rfl,g3,by omega⟩
     . rintro c cy ⟨t2,m,q,rfl,g3,g4⟩;refine cI (fun _=>?_) fun _=>?_
       . refine ao (lT t2 fun aW t3=>ao (lT t3 fun f8 t4=>?_));refine ao (eK (eM (I:=fun x c be=>be=f8/\∃k,c=(none,k)/\1<=k/\k<=x) (Q:=fun c be=>be=f8/\∃k,c=(none,k)/\1<=k/\k<=jv) ?_ ?_ ⟨rfl,m,rfl,g3,av _⟩) ?_)
         . rintro x c be f1 f2 ⟨rfl,k,rfl,f3,f4⟩;refine ao (jZ hc (t4.tb hB) (by first | omega | (dsimp only at *;omega)) (by first | omega | (dsimp only at *;omega)) fun b=>?_);cases b with
           | true=>exact aq ⟨rfl,_,rfl,by first | omega | (dsimp only at *;omega),by first | omega | (dsimp only at *;omega)⟩
           | false=>exact aq ⟨rfl,_,rfl,by first | omega | (dsimp only at *;omega),by first | omega | (dsimp only at *;omega)⟩
         . rintro c be ⟨rfl,k,rfl,f3,f4⟩;exact⟨rfl,k,rfl,f3,by first | omega | (dsimp only at *;omega)⟩
         . rintro c be ⟨rfl,k,rfl,f3,f4⟩;exact aq (h k _ t4 f3 f4)
       . refine ao (lT t2 fun f8 t4=>?_);refine ao (eK (eM (I:=fun x c be=>be=f8/\∃k,c=(none,k)/\1<=k/\k<=x) (Q:=fun c be=>be=f8/\∃k,c=(none,k)/\1<=k/\k<=jv) ?_ ?_ ⟨rfl,m,rfl,g3,av _⟩) ?_)
         . rintro x c be f1 f2 ⟨rfl,k,rfl,f3,f4⟩;refine ao (jZ hc (t4.tb hB) (by first | omega | (dsimp only at *;omega)) (by first | omega | (dsimp only at *;omega)) fun b=>?_);cases b with
           | true=>exact aq ⟨rfl,_,rfl,by first | omega | (dsimp only at *;omega),by first | omega | (dsimp only at *;omega)⟩
           | false=>exact aq ⟨rfl,_,rfl,by first | omega | (dsimp only at *;omega),by first | omega | (dsimp only at *;omega)⟩
         . rintro c be ⟨rfl,k,rfl,f3,f4⟩;exact⟨rfl,k,rfl,f3,by first | omega | (dsimp only at *;omega)⟩
         . rintro c be ⟨rfl,k,rfl,f3,f4⟩;exact aq (h k _ t4 f3 f4)
theorem Seg.mod{f:Nat×Nat×Nat->Nat×Nat×Nat}(hf:∀x,(f x).1=x.1/\(f x).2.1=x.2.1):∀{l:List (Nat×Nat×Nat)} {i s e:Nat},Seg s l e->Seg s (l.modify i f) e
 | [],i,s,e,h=>by rw[List.modify_nil];exact h
 | x::l,0,s,e,h=>by
  rw[List.modify_zero_cons];exact⟨(hf x).1.trans h.1,by rw[(hf x).2];exact h.2.1,by rw[(hf x).2];exact h.2.2⟩
 | x::l,i+1,s,e,h=>by
  rw[List.modify_succ_cons];exact⟨h.1,h.2.1,Seg.mod hf h.2.2⟩
theorem ba{c:Prop}[Decidable c]{n:Nat}(h:¬n<=1):(if c then n - 2 - 1 else n - 2)+1<n:=by split<;>omega
theorem tm_runs(hc:CmpOk prog w A s κ a₀){st:SortSt}{Q:Unit->SortSt->Prop}(hB:TB a₀ κ st)(hp:pendingOf st = #[])(h:∀al,TB a₀ κ al->Q () al):wpS (model prog w) A E s sortRuns' Q st:=by
 have hz:(arrOf st).size=a₀.size:=hB.size;obtain⟨κ0,ar,pd,g0,f0⟩:=st;change ar.size=a₀.size at hz;cases (show pd = #[] from hp);unfold sortRuns';refine ao (jJ ?_);dsimp only;rw[hz];refine ao (eK (eM (I:=fun _ c al=>TB a₀ κ al/\∃lo,c=(none,lo)/\lo<=a₀.size/\Seg 0 (pendingOf al).toList lo) (Q:=fun c al=>TB a₀ κ al/\∃lo,c=(none,lo)/\lo<=a₀.size/\Seg 0 (pendingOf al).toList lo) ?_ (fun _ _ z=>z) ⟨hB,0,rfl,by omega,rfl⟩) ?_)
 . rintro x c al g1 g2 ⟨uK,lo,rfl,rB,sg⟩;dsimp only;refine cI (fun _=>aq ⟨uK,lo,rfl,rB,sg⟩) fun c1=>?_;refine ao (acA hc uK (by omega) (by omega) fun n Cs t1 n1 n2=>?_);have Ct:Seg 0 (pendingOf Cs).toList lo:=by obtain⟨xs,_,rfl⟩:=t1;exact sg
   have x6:=t1.tb uK;dsimp only;refine cI (fun c2=>?_) fun _=>?_
   . refine ao (qV (gJ ⟨rfl,?_⟩));refine ao (acy hc x6 (by omega) fun cy t2=>?_);have JV:Seg 0 (pendingOf cy).toList lo:=by obtain⟨xs,_,rfl⟩:=t2;exact Ct
     have JW:=t2.tb x6;simp only[sV,jd,ii];change n<minRun' a₀.size a₀.size 0 at c2;have m1:1<=min (a₀.size - lo) (minRun' a₀.size a₀.size 0):=by omega
     refine ao (jJ ?_);have lst:∀(be:SortSt),TB a₀ κ be->Seg 0 (pendingOf be).toList lo->TB a₀ κ (SortSt.mk' (kindOf be) (arrOf be) ((pendingOf be).push (lo,min (a₀.size - lo) (minRun' a₀.size a₀.size 0),0)) (gallopOf be) (failedOf be))/\∃l,(none,lo+min (a₀.size - lo) (minRun' a₀.size a₀.size 0))=((none:Option Unit),l)/\l<=a₀.size/\Seg 0 ((pendingOf be).push (lo,min (a₀.size - lo) (minRun' a₀.size a₀.size 0),0)).toList l:=fun be b5 s5=>
      ⟨⟨b5.p,b5.k,b5.f⟩,_,rfl,by omega,by rw[qS];exact Seg.app.mpr ⟨lo,s5,rfl,m1,rfl⟩⟩
     rcases hbk:(pendingOf cy).back? with _ | ⟨s1,n1,q1⟩
     . exact ao (jf (aq (lst _ JW JV)))
     . refine ao (eK (eM (I:=fun _ c aW=>c=(none,())/\TB a₀ κ aW/\Seg 0 (pendingOf aW).toList lo) (Q:=fun c aW=>c=(none,())/\TB a₀ κ aW/\Seg 0 (pendingOf aW).toList lo) ?_ (fun _ _ z=>z) ⟨rfl,JW,JV⟩) ?_)
       . rintro y c aW _ _ ⟨rfl,b3,s3⟩;refine ao (jJ ?_)
         by_cases lM:(pendingOf aW).size > 1
         . rw[ai lM,O3 (pendingOf aW) ((pendingOf aW).size - 2) (by omega)];refine cI (fun _=>aq ⟨rfl,b3,s3⟩) fun _=>?_;refine ao (Cr hc b3 s3 rB (by show(pendingOf aW).size - 2+1<(pendingOf aW).size;omega) fun f8 b4 s4 _=>?_);exact aq ⟨rfl,b4,s4⟩
         . rw[af lM];exact aq ⟨rfl,b3,s3⟩
       . rintro c aW ⟨rfl,b3,s3⟩;refine ao (jf ?_);exact ao (jf (aq (lst (SortSt.mk' (kindOf aW) (arrOf aW) ((pendingOf aW).modify ((pendingOf aW).size - 1) fun x=>match x with | (u,v,_)=>(u,v,power' a₀.size (2 * s1+n1) (2 * s1+n1+n1+min (a₀.size - lo) (minRun' a₀.size a₀.size 0)) a₀.size)) (gallopOf aW) (failedOf aW)) ⟨b3.p,b3.k,b3.f⟩ (by
          show Seg 0 ((pendingOf aW).modify _ _).toList lo;rw[Array.toList_modify];refine Seg.mod ?_ s3;exact fun x=>⟨rfl,rfl⟩))))
   ·
    refine ao (jJ ?_);have lst:∀(be:SortSt),TB a₀ κ be->Seg 0 (pendingOf be).toList lo->TB a₀ κ (SortSt.mk' (kindOf be) (arrOf be) ((pendingOf be).push (lo,n,0)) (gallopOf be) (failedOf be))/\∃l,(none,lo+n)=((none:Option Unit),l)/\l<=a₀.size/\Seg 0 ((pendingOf be).push (lo,n,0)).toList l:=fun be b5 s5=>
     ⟨⟨b5.p,b5.k,b5.f⟩,_,rfl,by omega,by rw[qS];exact Seg.app.mpr ⟨lo,s5,rfl,n1,rfl⟩⟩
    rcases hbk:(pendingOf Cs).back? with _ | ⟨s1,n1,q1⟩
    . exact ao (jf (aq (lst _ x6 Ct)))
    . refine ao (eK (eM (I:=fun _ c aW=>c=(none,())/\TB a₀ κ aW/\Seg 0 (pendingOf aW).toList lo) (Q:=fun c aW=>c=(none,())/\TB a₀ κ aW/\Seg 0 (pendingOf aW).toList lo) ?_ (fun _ _ z=>z) ⟨rfl,x6,Ct⟩) ?_)
      . rintro y c aW _ _ ⟨rfl,b3,s3⟩;refine ao (jJ ?_)
        by_cases lM:(pendingOf aW).size > 1
        . rw[ai lM,O3 (pendingOf aW) ((pendingOf aW).size - 2) (by omega)];refine cI (fun _=>aq ⟨rfl,b3,s3⟩) fun _=>?_;refine ao (Cr hc b3 s3 rB (by show(pendingOf aW).size - 2+1<(pendingOf aW).size;omega) fun f8 b4 s4 _=>?_);exact aq ⟨rfl,b4,s4⟩
        . rw[af lM];exact aq ⟨rfl,b3,s3⟩
      . rintro c aW ⟨rfl,b3,s3⟩;refine ao (jf ?_);exact ao (jf (aq (lst (SortSt.mk' (kindOf aW) (arrOf aW) ((pendingOf aW).modify ((pendingOf aW).size - 1) fun x=>match x with | (u,v,_)=>(u,v,power' a₀.size (2 * s1+n1) (2 * s1+n1+n1+n) a₀.size)) (gallopOf aW) (failedOf aW)) ⟨b3.p,b3.k,b3.f⟩ (by
         show Seg 0 ((pendingOf aW).modify _ _).toList lo;rw[Array.toList_modify];refine Seg.mod ?_ s3;exact fun x=>⟨rfl,rfl⟩))))
 . rintro c al ⟨uK,lo,rfl,rB,sg⟩;refine ao (eK (eM (I:=fun _ c aW=>c=(none,())/\TB a₀ κ aW/\Seg 0 (pendingOf aW).toList lo) (Q:=fun c aW=>c=(none,())/\TB a₀ κ aW/\Seg 0 (pendingOf aW).toList lo) ?_ (fun _ _ z=>z) ⟨rfl,uK,sg⟩) ?_)
   . rintro y c aW _ _ ⟨rfl,b3,s3⟩;refine ao (jJ ?_);refine cI (fun _=>aq ⟨rfl,b3,s3⟩) fun lM=>?_;have Bg:¬(pendingOf aW).size<=1:=lM;refine ao (Cr hc b3 s3 rB ?_ fun f8 b4 s4 _=>?_)
     . exact ba Bg
     . exact aq ⟨rfl,b4,s4⟩
   . rintro c aW ⟨rfl,b3,s3⟩;exact aq (h _ b3)
end
end Tim
namespace HT
open PySem PyProof.Rows
def lU(A:Around)(s:Shared)(y x:Value)(b:Bool):Prop:=
 ∀(prog:Program) (w:World) (E:VP) (Q:VP),Q (.bool b) s->wpAny (model prog w) A (richCompare .Lt y x) Q E s
inductive iX (A:Around) (s:Shared):Lw->Lw->Bool->Prop
 | nil {vs:Lw}:iX A s vs [] false
 | more {w:Value} {ws:Lw}:iX A s [] (w::ws) true
 | eq {v w:Value} {vs ws:Lw} {r:Bool}:SeqAt.EqAt A s v w true->iX A s vs ws r->iX A s (v::vs) (w::ws) r
 | ne {v w:Value} {vs ws:Lw} {r:Bool}:SeqAt.EqAt A s v w false->lU A s v w r->iX A s (v::vs) (w::ws) r
section
open PySem.SeqAt
open PySem.AutoSeq1 (wpAny_loadPart')
open PySem.MeetsSeq PySem.MeetsSeq2 PySem.MeetsSeq3
theorem acB(l b:Addr)(items aZ:Av)(n n2:Nat)(dd bU:Oa)(sl bV:Array (Option Value))(k:Nat):∀(i:Nat) (vs ws:Lw) (r:Bool),items.toList.drop i=vs->aZ.toList.drop i=ws->i<=items.size->i<=aZ.size->ws.length=k ->
 Meets (Builtin.«list.__eq__.loop» ⟨[.ref l,.ref b,rawInt i,rawInt 0],[]⟩) (fun A R s=>s.heap.get? l=some { cls:=.type "list",dict:=dd,data:=.seq items n,slots:=sl }/\s.heap.get? b=some { cls:=.type "list",dict:=bU,data:=.seq aZ n2,slots:=bV } /\
  iX A.in1 s vs ws r/\R (.ok (.ret (.bool r))) s):=by
 have stop:∀(i:Nat) (v:Bool),(items[i]? = none\/aZ[i]? = none)->v=decide (items.size<aZ.size)->Meets (Builtin.«list.__eq__.loop» ⟨[.ref l,.ref b,rawInt i,rawInt 0],[]⟩) (fun A R s=>s.heap.get? l=some { cls:=.type "list",dict:=dd,data:=.seq items n,slots:=sl }/\s.heap.get? b=some { cls:=.type "list",dict:=bU,data:=.seq aZ n2,slots:=bV }/\R (.ok (.ret (.bool v))) s):=by
  intro i v hn hv prog w A R s h;obtain⟨hp,g,d,tk,os⟩:=s;obtain⟨hl,hb,h⟩:=h
  wp_walk using wpAny_loadPart' hl,wpAny_loadPart' hb
  have e:((i:Nat):Int).toNat=i:=FN i;rw[e];rw[hv]at h
  rcases hn with hn | hn
  . rw[hn]
    wp_walk using wpAny_loadPart' hl,wpAny_loadPart' hb
    exact h
  . rw[hn];cases items[i]? with
    | none=>
     wp_walk using wpAny_loadPart' hl,wpAny_loadPart' hb
     exact h
    | some x=>
     wp_walk using wpAny_loadPart' hl,wpAny_loadPart' hb
     exact h
 induction k with
 | zero=>
  intro i vs ws r e1 e2 l1 l2 hk prog w A R s h;obtain⟨hl,hb,hg,h⟩:=h;have ev:=jI.mp hk;rw[ev]at hg e2;obtain⟨q1,q2⟩:=Iz e2;cases hg;exact stop i false (.inr q1) (aU (by omega)).symm prog w A R s ⟨hl,hb,h⟩
 | succ k ih=>
  intro i vs ws r e1 e2 l1 l2 hk prog w A R s h;obtain⟨hl,hb,hg,h⟩:=h;cases hg with
  | nil=>cases hk
  | more=>
   have p1:=uo e2;obtain⟨q1,q2⟩:=Iz e1;exact stop i true (.inl q1) (aL (by omega)).symm prog w A R s ⟨hl,hb,h⟩
  | eq he hg=>
   have p1:=uo e1;have p2:=uo e2;obtain⟨g1,r1⟩:=xI e1;obtain⟨g2,r2⟩:=xI e2;obtain⟨hp,g,d,tk,os⟩:=s
   wp_walk using wpAny_loadPart' hl,wpAny_loadPart' hb
   have e:((i:Nat):Int).toNat=i:=FN i;rw[e,g1,g2];refine ac (he prog w _ _ ?_)
   wp_walk
   have hc:((i:Int)+1)=((i+1:Nat):Int):=by omega
   rw[hc];refine⟨gM kh _,gN wE ?_⟩;rw[il kh _];exact ih (i+1) _ _ _ r1 r2 p1 p2 (by simpa using hk) prog w A R _ ⟨hl,hb,hg,h⟩
  | ne he hv=>
   have p1:=uo e1;have p2:=uo e2;obtain⟨g1,r1⟩:=xI e1;obtain⟨g2,r2⟩:=xI e2;obtain⟨hp,g,d,tk,os⟩:=s
   wp_walk using wpAny_loadPart' hl,wpAny_loadPart' hb
   have e:((i:Nat):Int).toNat=i:=FN i;rw[e,g1,g2];refine ac (he prog w _ _ ?_);have lI:=hv prog w
   wp_walk using wpAny_loadPart' hl,wpAny_loadPart' hb
   rw[g1,g2]
   wp_walk using lI
   first | exact h | exact⟨_,rfl,by simpa using h⟩
theorem acC(l b:Addr)(items aZ:Av)(n n2:Nat)(dd bU:Oa)(sl bV:Array (Option Value))(r:Bool) :
 Meets (Builtin.«list.__lt__» ⟨[.ref l,.ref b],[]⟩) (fun A R s=>s.heap.get? l=some { cls:=.type "list",dict:=dd,data:=.seq items n,slots:=sl }/\s.heap.get? b=some { cls:=.type "list",dict:=bU,data:=.seq aZ n2,slots:=bV } /\
  iX A.in1 s items.toList aZ.toList r/\R (.ok (.ret (.bool r))) s):=by
 intro prog w A R s h;obtain⟨hp,g,d,tk,os⟩:=s;obtain⟨hl,hb,hg,h⟩:=h;have f3:=O2
 wp_walk using wpAny_loadPart' hl,wpAny_loadPart' hb
 refine⟨gM kh _,gN wE ?_⟩;rw[il kh _];exact acB l b items aZ n n2 dd bU sl bV _ 0 _ _ r rfl rfl (cj _) (cj _) rfl prog w A R _ ⟨hl,hb,hg,h⟩
theorem acD(l b:Addr)(items aZ:Av)(n n2:Nat)(dd bU:Oa)(sl bV:Array (Option Value))(r:Bool) :
 Meets (Builtin.«tuple.__lt__» ⟨[.ref l,.ref b],[]⟩)
  (fun A R s=>s.heap.get? l=some { cls:=.type "tuple",dict:=dd,data:=.seq items n,slots:=sl }/\s.heap.get? b=some { cls:=.type "tuple",dict:=bU,data:=.seq aZ n2,slots:=bV } /\
   iX A.in1 s items.toList aZ.toList r/\R (.ok (.ret (.bool r))) s):=
 .of_wp fun prog w A R s h=>by
  obtain⟨hp,g,d,tk,os⟩:=s;obtain⟨hl,hb,hg0,h⟩:=h;have f2:=FK
  wp_walk using wpAny_loadPart' hl,wpAny_loadPart' hb,mF _ (fun rest b s'=>b.1=none/\s'=⟨hp,g,d,tk,os⟩/\∃(vs ws:Lw),rest=vs.zip ws /\
   iX A.in1 ⟨hp,g,d,tk,os⟩ vs ws r/\vs.length+aZ.size=ws.length+items.size) _
  case turn=>
   rintro⟨y,x⟩ rest b s' ⟨dW,rfl,vs,ws,hz,hg,hlen⟩;cases hg with
   | nil=>rw[FM]at hz;cases hz
   | more=>rw[FL]at hz;cases hz
   | eq he hg=>
    rw[lq]at hz;injection hz with hyx kD
    injection hyx with hy hx
    subst hy hx;simp only[bu]at hlen;refine ac (he prog w _ _ ?_)
    wp_walk
    exact⟨rfl,rfl,_,_,kD,hg,by omega⟩
   | ne he hv=>
    rw[lq]at hz;injection hz with hyx kD
    injection hyx with hy hx
    subst hy hx;refine ac (he prog w _ _ ?_);have lI:=hv prog w
    wp_walk using lI
    exact⟨_,rfl,by simpa using h⟩
  case fin=>
   rintro⟨b1,b2⟩ s' ⟨dW,rfl,vs,ws,hz,hg,hlen⟩;simp only at dW;subst dW;have hv:r=decide (items.size<aZ.size):=by
    cases hg with
    | nil=>
     simp only[je]at hlen;exact(aU (by omega)).symm
    | more=>
     simp only[je,bu]at hlen;exact(aL (by omega)).symm
    | eq _ _=>rw[lq]at hz;cases hz
    | ne _ _=>rw[lq]at hz;cases hz
   rw[hv]at h
   wp_walk
   exact⟨_,rfl,by simpa [Builtin.Tuple.tupleCompareSizes]using h⟩
  case h=>
   exact⟨rfl,rfl,items.toList,aZ.toList,rfl,hg0,by simp[Nat.add_comm]⟩
end
section
variable {A:Around} {s:Shared}
theorem lU.lists{l b:Addr}{items aZ:Av}{r:Bool}(hl:s.heap.IsList l items)(hb:s.heap.IsList b aZ)(hg:iX A.in1 s items.toList aZ.toList r)(hu:A.units<cLine):lU A s (.ref l) (.ref b) r:=fun prog w E Q h=>by
 obtain⟨⟨cls,dd,data,sl⟩,ho,hc,n,hd⟩:=id hl;obtain⟨⟨rl,bU,data2,bV⟩,dY,bW,n2,hd2⟩:=id hb;simp only at hc hd bW hd2;subst hc hd bW hd2;exact Ai (op:=.Lt) ⟨_,ho,rfl⟩ ⟨_,dY,rfl⟩ PySem.F.slot_list_lt PySem.F.entry_list_lt (PySem.F.args_list_lt_2 _ _) (acC l b items aZ n n2 dd bU sl bV r)
  ⟨ho,dY,hg,show Value.bool r≠Value.notImplemented/\Q (.bool r) s from ⟨(fun x=>nomatch x),h⟩⟩ hu
theorem lU.tuples{l b:Addr}{items aZ:Av}{r:Bool}(hl:IsTup s.heap l items)(hb:IsTup s.heap b aZ)(hg:iX A.in1 s items.toList aZ.toList r)(hu:A.units<cLine):lU A s (.ref l) (.ref b) r:=fun prog w E Q h=>by
 obtain⟨⟨cls,dd,data,sl⟩,ho,hc,n,hd⟩:=id hl;obtain⟨⟨rl,bU,data2,bV⟩,dY,bW,n2,hd2⟩:=id hb;simp only at hc hd bW hd2;subst hc hd bW hd2;exact Ai (op:=.Lt) ⟨_,ho,rfl⟩ ⟨_,dY,rfl⟩ ajt aju (ajv _ _) (acD l b items aZ n n2 dd bU sl bV r)
  ⟨ho,dY,hg,show Value.bool r≠Value.notImplemented/\Q (.bool r) s from ⟨(fun x=>nomatch x),h⟩⟩ hu
theorem JX{A:Around}{s:Shared}:∀{vs ws:Lw} {ns ms:Ls},gC vs (ns.map Sum.inr)->gC ws (ms.map Sum.inr)->iX A s vs ws (cZ (ns.map Sum.inr) (ms.map Sum.inr))
 | _,_,ns,[],_,.nil=>by
  cases ns<;>exact .nil
 | _,_,[],_::_,.nil,.str _ _ _=>.more
 | _,_,n::ns,m::ms,.str _ t hv,.str _ u hw=>by
  rw[b9,b9,nn];obtain⟨e,he,hi⟩:=abD A s n t m u
  by_cases z:n=m
  . rw[hi.mpr z]at he;rw[ai (by rw[z])];exact .eq he (JX hv hw)
  . rw[fR.mpr fun w=>z (hi.mp w)]at he;rw[af fun w=>z (fq w)];exact .ne he fun prog w E Q h=>Ju A s n t m u prog w E Q h
end
end HT
namespace L2
open PySem PySem.Spec PyProof.Rows
open HT (At cZ dL gC)
section
variable {prog:Program} {w:World} {A:Around} {E:VP} {s:Shared}
def JY(prog:Program)(w:World)(A:Around)(s:Shared)(vs:Lw)(h:Heap):Prop:=
 (∃fs,PySem.W.KatTups h vs fs/\fs.length=vs.length/\∀v∈fs,∃(i:Int) (t:Tok),v = .int i t)/\Tim.CmpOk prog w A { s with heap:=h } (tuples' (Value.type "int" != Value.type "tuple")) (vs.toArray.zip vs.toArray)
theorem acF{a:Addr}{vs:Lw}{n:Nat}{P:PySem.Fin->Shared->Prop}(ho:s.heap.get? a=some (seqObj "list" vs.toArray n))(hz:vs.length<=1000)
 (hk:∀h6:Heap,(∀b o,b≠a->s.heap.get? b=some o->h6.get? b=some o)->JY prog w A s vs h6)
 (h:∀out:Lw,out.Perm vs->P (.done (.ret .none)) { s with heap:=sortedHeap s.heap a vs out.toArray }) :
 wpAny (model prog w) A (Builtin.«list.sort» ⟨[.ref a],[]⟩) P E s:=by
 have xU:a<s.heap.objs.size:=aT ho;rw[list_sort_plain];obtain⟨ep,uD⟩:∃ep,(s.heap.update a (Obj.mapSeq fun _=>(#[]:Av))).get? a=some (seqObj "list" #[] ep):=⟨_,Gj ho (fun _=>#[])⟩;refine ac (listItems_at ho rfl ?_);refine ac (wC ho rfl ?_ (by show vs.length<=_;rw[iI];omega) (cj _));refine ac (wD uD rfl ?_);refine ac (OO ?_ (by show vs.length<=_;rw[iI];omega));refine ac (tz ?_ (cj _));refine fu ?_;have jX:(((s.heap.update a (Obj.mapSeq fun _=>(#[]:Av))).push (seqObj "tuple" vs.toArray 0)).push (seqObj "list" #[] 0)).get? a=some (seqObj "list" #[] ep):=
  bg _ (bg _ uD)
 have pH:=hk (((s.heap.update a (Obj.mapSeq fun _=>(#[]:Av))).push (seqObj "tuple" vs.toArray 0)).push (seqObj "list" #[] 0)) fun b o hb e=>by
  refine bg _ (bg _ ?_);rw[Gk _ _ _ _ hb];exact e
 have e7:∀out:Av,sortedHeap s.heap a vs out=(((s.heap.update a (Obj.mapSeq fun _=>(#[]:Av))).push (seqObj "tuple" vs.toArray 0)).push (seqObj "list" #[] 0)).update a (Obj.mapSeq fun _=>out):=fun _=>rfl;show wpAny (model prog w) A _ P E { s with heap:=(((s.heap.update a (Obj.mapSeq fun _=>(#[]:Av))).push (seqObj "tuple" vs.toArray 0)).push (seqObj "list" #[] 0)) };simp only[e7]at h;generalize ((s.heap.update a (Obj.mapSeq fun _=>(#[]:Av))).push (seqObj "tuple" vs.toArray 0)).push (seqObj "list" #[] 0)=h6 at jX pH h ⊢;dsimp only
 by_cases h2:vs.toArray.size<2
 . rw[ai h2,ai h2];refine ac (aj ?_);rw[StateT.run_pure];refine ac (aj ?_);dsimp only;have eo:(arrOf (SortSt.mk' general' (vs.toArray.zip vs.toArray) #[] 7 none)).map (·.2)=vs.toArray:=by
    show(vs.toArray.zip vs.toArray).map (·.2)=vs.toArray;apply OY.mp;rw[OZ,Gm];exact O0 (av _)
   rw[eo];refine ac (wD jX rfl ?_);refine ac (wC jX rfl ?_ (hsz2:=by show vs.length<=_;rw[iI];omega));simp only[Go,ii,jd];exact aj (h vs (tE _))
 . have nj:2<=vs.length:=wu h2;rw[af h2,af h2];obtain⟨⟨fs,t1,t2,t3⟩,hc⟩:=pH;refine ac (PySem.W.kat_kind (T:=.type "int") t1 (by omega) (fun v hv=>?_) rfl ?_)
   . obtain⟨i,t,rfl⟩:=t3 v hv;exact .of_pure rfl
   have run:=Tim.tm_runs (E:=E) hc (st:=SortSt.mk' (tuples' (Value.type "int" != Value.type "tuple")) (vs.toArray.zip vs.toArray) #[] 7 none) (Q:=fun _ al=>Tim.TB (vs.toArray.zip vs.toArray) (tuples' (Value.type "int" != Value.type "tuple")) al) ⟨tE _,rfl,rfl⟩ rfl fun al z=>z;refine ac (df run ?_ fun _ _ e=>e);rintro⟨⟨⟩,al⟩ s' ⟨rfl,hB⟩;have hp:(((arrOf al).map (·.2)).toList).Perm vs:=by
    rw[OZ];refine(hB.p.map _).trans (List.Perm.of_eq ?_);rw[Gm];exact O0 (av _)
   have hl:=hp.length_eq;dsimp only;refine ac (wD jX rfl ?_);refine ac (wC jX rfl ?_ (hsz2:=by show((arrOf al).map (·.2)).size<=_;rw[←cK,hl,iI];omega));rw[show failedOf al=none from hB.f];simp only[Go,ii,jd];have q:=h _ hp;rw[F4]at q;exact aj q
theorem acG{r:Addr}{Q:VP}(py:wpAny (model prog w) A.in1 (collect (.ref r)) (fun us s'=>∃(h':Heap) (tk:Nat),s' = { s with heap:=h',toks:=tk }/\us.length<=1000/\(∀h6:Heap,(∀b o,h'.get? b=some o->h6.get? b=some o)->JY prog w A.in1.in1 { s with heap:=h',toks:=tk } us h6) /\
 ∀(h2:Heap) (out:Lw) (e:Nat),(∀b o,h'.get? b=some o->h2.get? b=some o)->h2.get? h'.objs.size=some (seqObj "list" out.toArray e)->out.Perm us->Q (.ref h'.objs.size) { s with heap:=h2,toks:=tk }) E s) :
 wpAny (model prog w) A (call (.builtin "sorted") [.ref r]) Q E s:=by
 refine FV FW FX FY (FZ (.ref r)) ?_;unfold Builtin.«sorted»;refine ac (m:=checkCount "sorted" 1 1 _) (aj (ac (df py (fun us s' z=>?_) fun _ _ e=>e)));obtain⟨h',tk,rfl,h4,hk,fin⟩:=z;refine ac (tz ?_ (by rw[iI];omega));have fZ:(h'.push (seqObj "list" us.toArray 0)).get? h'.objs.size=some (seqObj "list" us.toArray 0):=dv _ rfl;show wpAny _ _ _ _ _ { s with heap:=h'.push (seqObj "list" us.toArray 0),toks:=tk };refine ac (fu (mE F0 ⟨_,fZ,rfl⟩ F1 (acF fZ h4 (fun h6 k6=>hk h6 fun b o e=>k6 b o (bH (aT e)) (bg _ e)) fun out a1=>⟨_,rfl,?_⟩) (F2 _)));obtain⟨e,he⟩:=F3 (vs:=us) (out:=out.toArray) fZ;refine aj ⟨_,rfl,fin _ out e (fun b o q=>?_) he a1⟩;have hb:=aT q;rw[F5 (bH hb) (by rw[lu];exact Ao hb)];exact bg _ q
end
def iY(H:Hp)(y:V)(g:Int×Ls):Prop:=∃t l,y = .ref t/\H t=some (.tup [.int g.1,.ref l])/\H l=some (.lst (g.2.map V.str))/\∀x∈g.2,dk x
theorem iY.same{H H':Hp}(s:ag H H'){y:V}{g:Int×Ls}(h:iY H y g):iY H' y g:=h.elim fun t acH=>acH.elim fun l acI=>acI.elim fun a acJ=>acJ.elim fun b acK=>acK.elim fun c d=>⟨t,l,a,s _ _ b,s _ _ c,d⟩
def uL(g h:Int×Ls):Bool:=if g.1=h.1 then cZ (g.2.map Sum.inr) (h.2.map Sum.inr) else decide (g.1<h.1)
theorem Cu:∀{xs:Ls} {us:Lw},aH (xs.map V.str) us->gC us (xs.map Sum.inr)
 | [],_,.nil=>.nil
 | x::xs,_,.cons e r=>by
  obtain⟨t,rfl⟩:=(show∃t,_=Value.str x t from e);exact .str x t (Cu r)
theorem uM(k:Nat){xs:Ls}(h:∀x∈xs,dk x):PySem.W.kqdOk (k+1) (dS xs)=true:=by
 simp only[dS,PySem.W.kqdOk,gr,bC];rintro d ⟨x,hx,rfl⟩;cases k with
 | zero=>exact h x hx
 | succ n=>exact h x hx
section
variable {X:Cx} {pins:Po} {σ:St} {H:Hp} {s:Shared}
theorem JZ(A:Around)(hu:A.units+68<cLine)(I:Inv X pins σ H s){l1 l2:Addr}{xs ys:Ls}(h:H l1=some (.lst (xs.map V.str)))(k:H l2=some (.lst (ys.map V.str)))(hx:∀x∈xs,dk x)(hy:∀x∈ys,dk x) :
 (∃e,SeqAt.EqAt A.in1 s (.ref l1) (.ref l2) e/\(e=true↔xs=ys))/\HT.lU A.in1 s (.ref l1) (.ref l2) (cZ (xs.map Sum.inr) (ys.map Sum.inr)):=by
 obtain⟨e',kN,gY⟩:=aco (x:=.ref l1) (y:=.ref l2) A (by omega) I rfl rfl (uj (ae.of h)) (uj (ae.of k)) (uM 8 hx) (uM 8 hy);obtain⟨j1,w1,m1,_⟩:=I.list (ae.of (K:=X.K) h);obtain⟨j2,w2,m2,_⟩:=I.list (ae.of (K:=X.K) k);refine⟨⟨e',kN,gY.trans ⟨fun z=>ZE (by injection z),fun z=>by rw[z]⟩⟩,HT.lU.lists m1.isList m2.isList ?_ (by show A.units+1<cLine;omega)⟩;simpa using HT.JX (A:=A.in1.in1) (s:=s) (Cu w1) (Cu w2)
theorem acL(A:Around)(hu:A.units+69<cLine)(I:Inv X pins σ H s){a b:V}{u v:Value}{g k:Int×Ls}(h:iY H a g)(h':iY H b k)(ru:RelV a u)(rv:RelV b v):HT.lU A s u v (uL g k):=by
 obtain⟨t1,l1,rfl,h1,h2,h3⟩:=h;obtain⟨t2,l2,rfl,k1,k2,k3⟩:=h';cases ru;cases rv;obtain⟨B6,v1,p1,_⟩:=I.tuple (aI.of (K:=X.K) h1);obtain⟨ba,v2,p2,_⟩:=I.tuple (aI.of (K:=X.K) k1);refine HT.lU.tuples p1 p2 ?_ (by omega);cases v1 with
 | cons e1 t1=>
  cases v2 with
  | cons e2 t2=>
   obtain⟨kP,rfl⟩:=(show∃tk,_=Value.int g.1 tk from e1);obtain⟨x9,rfl⟩:=(show∃tk,_=Value.int k.1 tk from e2);cases t1 with
   | cons f1 g1=>
    cases t2 with
    | cons f2 g2=>
     cases f1;cases f2;cases g1;cases g2;show HT.iX A.in1 s [Value.int g.1 kP,.ref l1] [Value.int k.1 x9,.ref l2] _;unfold uL;obtain⟨e,he,hi⟩:=HT.xm A.in1 s g.1 kP k.1 x9;obtain⟨⟨e',kN,gY⟩,lt⟩:=JZ A (by omega) I h2 k2 h3 k3
     by_cases z:g.1=k.1
     . rw[ai z];rw[hi.mpr z]at he;refine .eq he ?_
       by_cases y:g.2=k.2
       . rw[gY.mpr y]at kN;rw[y,xT];exact .eq kN .nil
       . rw[fR.mpr fun w=>y (gY.mp w)]at kN;exact .ne kN lt
     . rw[af z];rw[fR.mpr fun w=>z (hi.mp w)]at he;exact .ne he fun prog w E Q h=>HT.xn A.in1 s g.1 kP k.1 x9 prog w E Q h
def acM:R2:=fun x y H Q=>∃g k,iY H x g/\iY H y k/\Q (.bl (uL g k)) H
theorem acN(hu:X.A.units+69<cLine):bw X (compareOp .Lt) acM:=by
 intro pins s σ H x y v u Q I rx ry h;obtain⟨g,k,ha,hb,q⟩:=h;exact acL X.A hu I ha hb rx ry _ _ _ _ ⟨.bl _,H,I,rfl,q⟩
theorem J0{ys:Lv}{us:Lw}{gs:List (Int×Ls)}(p:Paired (iY H) ys gs):aH ys us->∀v∈us,∃(t l:Addr) (n:Int) (xs:Ls),v = .ref t/\H t=some (.tup [.int n,.ref l])/\H l=some (.lst (xs.map V.str))/\∀x∈xs,dk x:=by
 induction p generalizing us with
 | nil=>
  intro r;cases r;exact fun _ h=>nomatch h
 | cons h _ ih=>
  intro r v hv;cases r with
  | cons r1 r2=>
   obtain⟨t,l,rfl,h1,h2,h3⟩:=h
   rcases bh.mp hv with rfl | hv
   . cases r1;exact⟨t,l,_,_,rfl,h1,h2,h3⟩
   . exact ih r2 v hv
theorem acO(I:Inv X pins σ H s){ys:Lv}{us:Lw}{gs:List (Int×Ls)}(p:Paired (iY H) ys gs):aH ys us->∃fs:Lw,PySem.W.KatTups s.heap us fs/\fs.length=us.length/\∀v∈fs,∃(i:Int) (t:Tok),v = .int i t:=by
 induction p generalizing us with
 | nil=>
  intro r;cases r;exact⟨[],trivial,rfl,fun _ h=>nomatch h⟩
 | cons h _ ih=>
  intro r;cases r with
  | cons r1 r2=>
   obtain⟨fs,f1,f2,f3⟩:=ih r2;obtain⟨t,l,rfl,h1,h2,h3⟩:=h;cases r1;obtain⟨is,v1,⟨o,o1,o2,n,o3⟩,_⟩:=I.tuple (aI.of (K:=X.K) h1);cases v1 with
   | cons e1 t1=>
    obtain⟨kP,rfl⟩:=(show∃tk,_=Value.int _ tk from e1);refine⟨_::fs,PySem.W.KatTups.cons o1 o2 o3 rfl f1,by rw[bu,bu,f2],fun v hv=>?_⟩
    rcases bh.mp hv with rfl | hv
    . exact⟨_,_,rfl⟩
    . exact f3 v hv
theorem acP(A:Around)(hu:A.units+68<cLine)(I:Inv X pins σ H s){ys:Lv}{us:Lw}{gs:List (Int×Ls)}(p:Paired (iY H) ys gs)(r:aH ys us)(b:Bool):Tim.CmpOk X.prog X.w A.in1 s (tuples' b) (us.toArray.zip us.toArray):=by
 intro x hx y hy Q E q;have mem:∀z∈(us.toArray.zip us.toArray).toList,z.1∈us:=fun z hz=>by
  rw[Gm]at hz;exact(FH hz).1
 obtain⟨t1,l1,n1,Cv,e1,h1,h2,h3⟩:=J0 p r _ (mem x hx);obtain⟨t2,l2,n2,Cw,e2,k1,k2,k3⟩:=J0 p r _ (mem y hy);rw[e1,e2];obtain⟨B6,v1,⟨o,o1,o2,n,o3⟩,_⟩:=I.tuple (aI.of (K:=X.K) h1);obtain⟨ba,v2,⟨o',o1',o2',n',o3'⟩,_⟩:=I.tuple (aI.of (K:=X.K) k1);refine PySem.W.kat_lt o1 o3 o1' o3' ?_;obtain⟨⟨e',kN,gY⟩,lt⟩:=JZ A hu I h2 k2 h3 k3;cases v1 with
 | cons a1 c1=>
  cases v2 with
  | cons a2 c2=>
   obtain⟨kP,rfl⟩:=(show∃tk,_=Value.int n1 tk from a1);obtain⟨x9,rfl⟩:=(show∃tk,_=Value.int n2 tk from a2);cases c1 with
   | cons f1 g1=>
    cases c2 with
    | cons f2 g2=>
     cases f1;cases f2;cases g1;cases g2;refine Gd (Oj (Ge (fun e=>Gf ?_) fun e=>Gg ?_))
     . refine Gd (kN _ _ _ _ (Ge (fun e=>Gf (wB (q _))) fun e=>Gg ?_));have z:(b && (0+1) == 0)=false:=by cases b<;>rfl
       rw[z];exact Gi _ _ (lt _ _ _ _ (q _))
     . cases hb:(b && 0 == 0) with
       | true=>exact oneLt_int (q _)
       | false=>exact Gi _ _ (HT.xn _ _ _ _ _ _ _ _ _ _ (q _))
theorem acS{ys:Lv}{us:Lw}(r:aH ys us):∀{out:Lw},out.Perm us->∃aJ:Lv,aJ.Perm ys/\aH aJ out:=by
 intro out hp;have go:∀{a b:Lw},a.Perm b->∀ys:Lv,aH ys b->∃aJ,aJ.Perm ys/\aH aJ a:=by
  intro a b p
  induction p with
  | nil=>exact fun ys r=>⟨ys,.refl _,r⟩
  | cons x _ ih=>
   intro ys r;cases r with
   | cons r1 r2=>
    obtain⟨zs,z1,z2⟩:=ih _ r2;exact⟨_::zs,z1.cons _,.cons r1 z2⟩
  | swap x y l=>
   intro ys r;cases r with
   | cons r1 r2=>
    cases r2 with
    | cons r2 r3=>exact⟨_,.swap _ _ _,.cons r2 (.cons r1 r3)⟩
  | trans _ _ ih1 Cy=>
   intro ys r;obtain⟨zs,z1,z2⟩:=Cy ys r;obtain⟨ws,w1,w2⟩:=ih1 zs z2;exact⟨ws,w1.trans z1,w2⟩
 exact go hp ys r
theorem acU(hu:X.A.in1.units+68<cLine):eP X (.builtin "sorted") (fun xs H Q=>∃q ys gs,xs = [.ref q]/\ae X.K H q ys/\Paired (iY H) ys gs/\ys.length<=1000/\∀aJ,aJ.Perm ys->fb H (.lst aJ) Q):=by
 intro pins s σ H xs us Q I r h;obtain⟨q,ys,gs,rfl,hq,ht,h4,fin⟩:=h;obtain⟨u,rfl,ru⟩:=vals1 r;cases ru;obtain⟨its,rv,hl,hz⟩:=I.list hq;have hlen:=pD rv;have kp:∀b o,s.heap.get? b=some o->((s.heap.push (seqObj "list" #[] 0)).update s.heap.objs.size (Obj.mapSeq (·++its.toArray))).get? b=some o:=fun b o e=>by
  rw[Gk _ _ _ _ (bH (aT e))];exact bg _ e
 refine acG (collect_list hl.isList ?_ (iA (by omega)));generalize (s.heap.push (seqObj "list" #[] 0)).update s.heap.objs.size (Obj.mapSeq (·++its.toArray))=h' at kp ⊢;have I':Inv X pins σ H { s with heap:=h',toks:=s.toks }:=I.kept kp;refine⟨h',s.toks,rfl,by omega,fun h6 k6=>?_,fun h2 out e k2 he hp=>?_⟩
 . have I6:Inv X pins σ H { s with heap:=h6,toks:=s.toks }:=I.kept fun b o e=>k6 b o (kp b o e);exact⟨acO I6 ht rv,acP X.A.in1 hu I6 ht rv _⟩
 . obtain⟨aJ,cD,rv'⟩:=acS rv hp;have bo:=hp.length_eq;refine⟨.ref h'.objs.size,_,I'.laid (s:={ s with heap:=h',toks:=s.toks }) (t':=s.toks) (o:=.lst aJ) k2 (av _) ⟨by rw[cD.length_eq];exact iA (by omega),_,e,rv',he⟩,rfl,?_⟩;exact(fin aJ cD).at _ (I'.hok.fresh (av _))
end
end L2
namespace HT
open PySem PyProof.Rows
theorem acW:typeLookup (.type "list") "keys" = pure none:=am_miss_of_fast (by kernel_rfl)
theorem J2:entryFor table "dict.update.loop" = some Builtin.«dict.update.loop»:=entryFor_of_tree (by kernel_rfl)
theorem ya:plainId "dict.update.loop" = true:=by decide +kernel
section
variable {prog:Program} {w:World} {A:Around} {E:VP} {s:Shared}
theorem acX{a:Addr}{its:Av}{Q:Option Value->Shared->Prop}(hl:PlainL s.heap a its)(hA:A.handled=none)
 (h:∀h' tk,(∀b o,s.heap.get? b=some o->h'.get? b=some o)->Q none { s with heap:=h',toks:=tk }):wpAny (model prog w) A (getAttr? (.ref a) "keys") Q E s:=by
 obtain⟨⟨c,dct,dat,sl⟩,k,hx,hc,hd,yb⟩:=hl;simp only at hc yb hd;subst hc yb hd;obtain⟨hp,g,d,tk,os⟩:=s;have hT:∀iV,(⟨hp,g,d,iV,os⟩:Shared).TypeIs (.ref a) "list":=fun _=>⟨_,hx,rfl⟩;have f1:=sub_AttributeError;have f3:=O6.lookup;have f4:=O6.bind (.ref a);have f5:=am_list_getattr_none;unfold getAttr? getAttrBy? getAttrBy
 repeat (any_goals (first | assumption | exact hT _ | ((with_reducible show wpAny _ _ (call (Value.builtin "list.__getattribute__") _ _) _ _ _);refine call_meets O6 (hT _) am_entry_list_getattribute (F.args_list_getattribute_2 _ _) (meets_getattribute_miss_list a its k sl "keys" _ acW (by decide +kernel)) ⟨hx,hA,fun h' iV e fY=>?_⟩) | wp_step))
 obtain⟨t',u',he⟩:=fY.there;show wpAny _ _ (getattributeRaised _ _ _ _ _ _ _) _ _ _;unfold getattributeRaised
 repeat (any_goals (first | assumption | wp_step))
 exact h _ _ fY.keeps
theorem acY{κ:Type}[DecidableEq κ]{knd:PySem.KeyKind prog w κ}{d it l:Addr}{vs:Lw}(hh:A.handled=none)(hh1:A.in1.handled=none)(base:Heap)(hl:base.IsList l vs.toArray)(R:Result->Shared->Prop)(ps:List (κ×Value))
 (hp:∀(i:Nat) (v:Value),vs[i]? = some v->∃(t:Addr) (k:Value) (kv:κ×Value),v=Value.ref t/\ps[i]? = some kv/\IsTup base t #[k,kv.2]/\knd.is kv.1 k=true) (hlen:ps.length=vs.length) (hsz:vs.length<=1000) (nd:d≠it)
 (fin:∀h' tk,(∀b o,base.get? b=some o->h'.get? b=some o)->h'.DictOf knd d (ps.foldl (fun m kv=>stored m kv.1 kv.2) [])->R (.ok (.ret .none)) { s with heap:=h',toks:=tk }) :
 ∀(n i:Nat),i+n=vs.length->∀(h:Heap) (tk:Nat),(∀b o,base.get? b=some o->h.get? b=some o)->base.get? d=none->base.get? it=none->h.IsListIter it l i->h.DictOf knd d ((ps.take i).foldl (fun m kv=>stored m kv.1 kv.2) [])->((ps.take i).foldl (fun m kv=>stored m kv.1 kv.2) []).length<=i ->
  codeAny (model prog w) A (.builtin "dict.update.loop" ⟨[.ref d,.ref it,rawInt i,.none],[]⟩) R { s with heap:=h,toks:=tk }:=by
 intro n
 induction n with
 | zero=>
  intro i hi h tk kp fd fi hit hd hln;refine gN J2 ?_;rw[il ya _];unfold Builtin.«dict.update.loop»;have xS:h.IsList l vs.toArray:=hl.elim fun o ac1=>ac1.elim fun e r=>⟨o,kp l o e,r⟩;refine ac (ajq hh1 hit xS (by rw[ajS,OM (by omega)]) fun h' hx=>?_);show wpAny _ _ (Builtin.Dict.addKeywords d [] >>= fun _=>ret Value.none) _ _ _;refine ac (aj (aj (fin h' tk (fun b o e=>hx b o (fun z=>by rw[z,fi]at e;cases e) (kp b o e)) ?_)));rw[AF (by omega)]at hd;obtain⟨o,es,ep,ho,r⟩:=hd;exact⟨o,es,ep,hx d o nd ho,r⟩
 | succ n ih=>
  intro i hi h tk kp fd fi hit hd hln;refine gN J2 ?_;rw[il ya _];unfold Builtin.«dict.update.loop»;have xS:h.IsList l vs.toArray:=hl.elim fun o ac2=>ac2.elim fun e r=>⟨o,kp l o e,r⟩;have hv:vs[i]? = some vs[i]:=eJ (by omega);obtain⟨t,k,kv,ev,hk,ht,ir⟩:=hp i _ hv;refine ac (ajp hit xS (by rw[ajS];exact hv) fun h1 ac3 sb=>?_);rw[ev];have rN:∀b o,base.get? b=some o->h1.get? b=some o:=fun b o e=>(sb.2 b fun z=>by rw[z,fi]at e;cases e).trans (kp b o e);obtain⟨o,ho,hc,m,yb⟩:=ht;have iU:=rN t o ho;have hT:({ s with heap:=h1,toks:=tk }:Shared).TypeIs (.ref t) "tuple":=⟨_,iU,hc⟩;refine ac (fu ?_);refine ac (tF ?_);unfold Builtin.Dict.pairItems;refine ac (wx hT ?_);rw[ai (by decide)];refine ac (qL iU yb (aj ?_));have yc:h1.DictOf knd d ((ps.take i).foldl (fun m kv=>stored m kv.1 kv.2) []):=by
   obtain⟨o,es,ep,ho,r⟩:=hd;exact⟨o,es,ep,(sb.2 d nd).trans ho,r⟩
  refine fu (wpAny_dictSet_pairs ir yc (fun h2 hd2 J3=>?_) (by rw[iI];omega));have es:(ps.take (i+1)).foldl (fun m kv=>stored m kv.1 kv.2) []=stored ((ps.take i).foldl (fun m kv=>stored m kv.1 kv.2) []) kv.1 kv.2:=by
   rw[Gb,hk,tG];rfl
  have m8:((i:Int)+1)=((i+1:Nat):Int):=by omega
  refine aj ⟨gM ya _,?_⟩;rw[m8];refine ih (i+1) (by omega) h2 (tk+1) (fun b o e=>(J3.2 b fun z=>by rw[z,fd]at e;cases e).trans (rN b o e)) fd fi ?_ (by rw[es];exact hd2) ?_
  . obtain⟨o',lD,r'⟩:=ac3;exact⟨o',(J3.2 it nd.symm).trans lD,r'⟩
  . rw[es];have:=stored_length_le ((ps.take i).foldl (fun m kv=>stored m kv.1 kv.2) []) kv.1 kv.2;omega
theorem ac4{κ:Type}[DecidableEq κ]{knd:PySem.KeyKind prog w κ}{l:Addr}{vs:Lw}{ps:List (κ×Value)}{Q:VP}(hl:PlainL s.heap l vs.toArray)(hh:A.handled=none)
 (hp:∀(i:Nat) (v:Value),vs[i]? = some v->∃(t:Addr) (k:Value) (kv:κ×Value),v=Value.ref t/\ps[i]? = some kv/\IsTup s.heap t #[k,kv.2]/\knd.is kv.1 k=true) (hlen:ps.length=vs.length) (hsz:vs.length<=1000)
 (h:∀h' tk,(∀b o,s.heap.get? b=some o->h'.get? b=some o)->h'.DictOf knd s.heap.objs.size (ps.foldl (fun m kv=>stored m kv.1 kv.2) [])->Q (.ref s.heap.objs.size) { s with heap:=h',toks:=tk }) :
 wpAny (model prog w) A (call (.type "dict") [.ref l]) Q E s:=by
 refine callType_codes (Q₁:=fun obj s₁=>obj = .ref s.heap.objs.size/\s₁ = { s with heap:=s.heap.push { cls:=.type "dict",data:=.dict #[] } }) F.kt_called_dict (F.kt_typeCall_dict_1 _) F.entry_dict_init (kt_code_dict_new _ ⟨rfl,rfl⟩) ?_;rintro obj s₁ ⟨rfl,rfl⟩;have uN:(s.heap.push { cls:=.type "dict",data:=.dict #[] }).DictOf knd s.heap.objs.size []:=Heap.DictOf.new s.heap;have J4:∀b o,s.heap.get? b=some o->(s.heap.push { cls:=.type "dict",data:=.dict #[] }).get? b=some o:=fun b o e=>bg _ e;refine⟨uN.typeIs,F.args_dict_init_2 _ _,?_⟩;unfold Builtin.«dict.__init__»;refine ac ?_;unfold Builtin.Dict.selfAndRest;refine ac (wpAny_notOrdered_dict uN.typeIs ?_);show wpAny _ _ (pure (s.heap.objs.size,[Value.ref l])) _ _ _;refine aj ?_;show wpAny _ _ (Builtin.Dict.updateFrom "dict.__init__" s.heap.objs.size (.ref l) [] .none) _ _ _;unfold Builtin.Dict.updateFrom;have rO:=hl.keeps J4;refine ac (wx rO.isList.typeIs ?_);rw[ai (by decide)];refine ac (acX rO hh fun h1 kP rN=>?_);rw[ai (show(none:Option Value).isNone=true from rfl)];refine ac (gJ ?_);have pG:PlainL h1 l vs.toArray:=rO.keeps rN;refine ac (FA pG.isList ?_);have yc:h1.DictOf knd s.heap.objs.size []:=by
  obtain⟨o,es,ep,ho,r⟩:=uN;exact⟨o,es,ep,rN _ _ ho,r⟩
 have Ka:s.heap.objs.size<h1.objs.size:=by
  obtain⟨o,es,ep,ho,r⟩:=yc;exact aT ho
 refine aj ⟨gM ya _,?_⟩;refine acY (s:=s) (A:=A.in1) (it:=h1.objs.size) (l:=l) (vs:=vs) hh hh s.heap hl.isList (wants (fun r s₂=>r = .none/\Q (.ref s.heap.objs.size) s₂) E) ps hp hlen hsz (bH Ka) (fun h' tk kp hd=>⟨rfl,h h' tk kp hd⟩) vs.length 0 (Aq _) _ kP (fun b o e=>bg _ (rN b o (J4 b o e))) (Oq (av _)) (Oq (gK Ka)) ⟨{ cls:=.type "list_iterator",data:=.fields #[.ref l,.int 0 0] },dv _ rfl,rfl,rfl⟩ (yc.push _) (cj _)
end
end HT
namespace L2
open PySem PySem.Spec PyProof.Rows
section
variable {X:Cx}
theorem Kb:∀{kvs a:List (aF×V)} {ps b:List (aF×Value)},KV kvs ps->KV a b->KV (kvs.foldl (fun m kv=>cX m kv.1 kv.2) a) (ps.foldl (fun m kv=>stored m kv.1 kv.2) b)
 | [],_,[],_,.nil,h=>h
 | kv::kvs,a,p::ps,b,.cons r t,h=>by
  obtain⟨r1,r2⟩:=r;exact Kb (kvs:=kvs) (ps:=ps) (a:=cX a kv.1 kv.2) (b:=stored b p.1 p.2) t (by rw[←r1];exact KV.put h kv.1 r2)
theorem ac5{pins:Po}{σ:St}{H:Hp}{s:Shared}(I:Inv X pins σ H s){ys:Lv}{kvs:List (aF×V)}(h:Paired (fun(y:V) (kv:aF×V)=>∃t,y = .ref t/\H t=some (.tup [kV kv.1,kv.2])) ys kvs) :
 ∀{its:Lw},aH ys its->∃ps:List (aF×Value),KV kvs ps/\ps.length=its.length/\∀(i:Nat) (v:Value),its[i]? = some v->∃(t:Addr) (k:Value) (kv:aF×Value),v=Value.ref t/\ps[i]? = some kv/\IsTup s.heap t #[k,kv.2]/\(bM X.prog X.w).is kv.1 k=true:=by
 induction h with
 | nil=>
  intro its r;cases r;exact⟨[],.nil,rfl,fun i v hv=>by cases hv⟩
 | @cons y kv ys kvs hy _ ih=>
  intro its r;cases r with
  | cons r1 r2=>
   obtain⟨ps,p1,p2,p3⟩:=ih r2;obtain⟨t,rfl,ht⟩:=hy;cases r1;obtain⟨is,v1,pt,_⟩:=I.tuple (aI.of (K:=X.K) ht);cases v1 with
   | cons e1 t1=>
    cases t1 with
    | cons e2 t2=>
     cases t2;rename_i ku vu;refine⟨(kv.1,vu)::ps,.cons ⟨rfl,e2⟩ p1,by rw[bu,bu,p2],fun i v hv=>?_⟩;cases i with
     | zero=>
      cases hv;exact⟨t,ku,(kv.1,vu),rfl,rfl,pt,kI e1⟩
     | succ i=>exact p3 i v hv
theorem Kc:∀(kvs a:List (aF×V)),(kvs.foldl (fun m kv=>cX m kv.1 kv.2) a).length<=a.length+kvs.length
 | [],a=>av _
 | kv::kvs,a=>by
  have:=Kc kvs (cX a kv.1 kv.2);have:=rq a kv.1 kv.2;rw[As,bu];omega
theorem ac6(hc:X.calm=true):eP X (.type "dict") (fun xs H Q=>∃q ys kvs,xs = [.ref q]/\ae X.K H q ys/\Paired (fun(y:V) (kv:aF×V)=>∃t,y = .ref t/\H t=some (.tup [kV kv.1,kv.2])) ys kvs/\ys.length<=1000/\fb H (.dK (kvs.foldl (fun m kv=>cX m kv.1 kv.2) [])) Q):=by
 intro pins s σ H xs us Q I r h;obtain⟨q,ys,kvs,rfl,hq,hp,hl,fin⟩:=h;obtain⟨u,rfl,ru⟩:=vals1 r;cases ru;obtain⟨its,rv,pl,hz⟩:=I.list hq;obtain⟨ps,p1,p2,p3⟩:=ac5 I hp rv;have hlen:=pD rv;have kH:=pD hp;have rel:=Kb p1 (a:=[]) (b:=[]) .nil;have lS:=Kc kvs [];refine HT.ac4 (knd:=bM X.prog X.w) pl (I.ok.hd hc) p3 p2 (by omega) fun h' tk kp hd=>?_;refine⟨.ref s.heap.objs.size,_,I.laid (a:=s.heap.objs.size) (o:=.dK (kvs.foldl (fun m kv=>cX m kv.1 kv.2) [])) (t':=tk) kp (av _) (tZ (iA (by simp at lS;omega)) (gk.mpr (dQ (bH I.big))) rel hd),rfl,?_⟩;exact fin.at _ (I.hok.fresh (av _))
end
section
variable {X:Cx} {pins:Po} {σ:St} {H0:Hp} {l q I S:Addr} {as:List Addr} {kA:Nat->Hp->Value->Prop} {g:Nat->Nat->Bool} {Rb:Nat->Prop} {R:Result->Shared->Prop} {Q:VP} {E:VP}
def Cz(X:Cx)(q:Addr)(as:List Addr)(kA:Nat->Hp->Value->Prop)(H0:Hp)(σ:St):Prop:=∀(i:Nat) (a:Addr),as[i]? = some a->∀(pins:Po) (H:Hp) (s:Shared),Inv X pins σ H s->ag H0 H ->
 wpAny (model X.prog X.w) X.A.in1 (call (.ref q) [.ref a]) (fun u s'=>∃kt H',Inv X pins σ H' s'/\kt=u/\ag H H'/\kA i H' kt) (fun _ _=>False) s
structure CA(X:Cx)(n:Nat)(kA:Nat->Hp->Value->Prop)(g:Nat->Nat->Bool)(Rb:Nat->Prop):Prop where
 mono:∀{i H H' kt},ag H H'->kA i H kt->kA i H' kt
 tr:∀a b c,g a b=true->g b c=true->g a c=true
 irr:∀a,g a a=false
 r0:Rb 0
 rs:∀i j,Rb j->i<n->g i j=true->Rb i
 cmp:∀(i j:Nat) (kt kb:Value) (pins:Po) (σ:St) (H:Hp) (s:Shared) (Q:VP) (E:VP),Rb j->0<i->i<n->Inv X pins σ H s->kA i H kt->kA j H kb->Q (.bool (g i j)) s->wpAny (model X.prog X.w) X.A.in1 (richCompare .Gt kt kb) Q E s
theorem ac7(hc:X.calm=true)(hu:X.A.in1.units<cLine)(uO:l≠I)(pN:S≠I)(rO:H0 l=some (.lst (as.map V.ref)))(C:CA X as.length kA g Rb)
 (turn:Cz X q as kA H0 σ) (hR:∀i a H' s',as[i]? = some a->(∀j,j<as.length->g j i=false)->Inv X pins σ H' s'->ag H0 H'->R (.ok (.ret (.ref a))) s') :
 ∀(r j i:Nat) (H:Hp) (s:Shared) (ab:Addr) (kb:Value) (c:Nat),as.length - (j+1)=r->j+1<=as.length->Inv X pins σ H s->ag H0 H->dR X pins H I->dR X pins H S->s.heap.get? S=some (seqObj "list" #[.ref ab,kb] c)->s.heap.IsListIter I l (j+1) ->
  as[i]? = some ab->kA i H kb->Rb i->(∀j',j'<=j->g j' i=false)->codeAny (model X.prog X.w) X.A (.builtin "max.loop" ⟨[.ref I,.ref q,.ref S],[]⟩) R s:=by
 have uP:(toString "max"++toString ".loop":String) = "max.loop":=by decide
 have hsz:(as.map Value.ref).toArray.size=as.length:=by simp
 intro r
 induction r with
 | zero=>
  intro j i H s ab kb c hr hj Iv sm fI fS hS hit jM CB rb best;have W:=Ga (prog:=X.prog) (w:=X.w) (A:=X.A.in1) (Iv.ok.hd hc) I l uO (as.map Value.ref).toArray;have gA:j+1=as.length:=by omega
  refine gN O7 ?_;rw[il tH _];show wpAny _ X.A.in1 (seqItems? (.ref S) >>= _) _ _ _;refine ac (qL hS rfl ?_);show wpAny _ X.A.in1 (tryCatch (pyNext (.ref I)) _ >>= _) _ _ _;refine ac (tF (W.done _ _ _ ⟨by rw[hsz,←gA];exact hit,Iv.isL (sm _ _ rO)⟩ fun h' iV fV=>?_));have I1:Inv X pins σ H { s with heap:=h',toks:=iV }:=Iv.turnF fI fun b o hb e=>fV b o (by simpa using hb) e;have gx:=fV S _ (by simpa using pN) hS;have s1:=kf h' S (Obj.mapSeq fun _=>(#[]:Av));show wpAny _ X.A.in1 (updateSeq S (fun _=>#[]) >>= _) _ _ _;refine ac ?_;refine AB gx rfl (ac (Gs (aj ?_)));exact hR i ab H _ jM (fun j' iW=>best j' (by omega)) (I1.turnF (t':=iV) fS fun b o hb e=>(s1.2 b hb).trans e) sm
 | succ r ih=>
  intro j i H s ab kb c hr hj Iv sm fI fS hS hit jM CB rb best;have W:=Ga (prog:=X.prog) (w:=X.w) (A:=X.A.in1) (Iv.ok.hd hc) I l uO (as.map Value.ref).toArray;have aP:j+1<as.length:=by omega
  refine gN O7 ?_;rw[il tH _];show wpAny _ X.A.in1 (seqItems? (.ref S) >>= _) _ _ _;refine ac (qL hS rfl ?_);show wpAny _ X.A.in1 (tryCatch (pyNext (.ref I)) _ >>= _) _ _ _;refine ac (tF (W.item (j+1) _ _ _ (by rw[hsz];exact aP) ⟨hit,Iv.isL (sm _ _ rO)⟩ fun v h' iV hP uw fV=>?_));have j0:(as.map Value.ref)[j+1]? = some v:=by simpa using hP
  obtain⟨a,ha,rfl⟩:∃a,as[j+1]? = some a/\v = .ref a:=by
   rw[bT]at j0;cases e:as[j+1]? with
   | none=>rw[e]at j0;cases j0
   | some a=>rw[e]at j0;cases j0;exact⟨a,rfl,rfl⟩
  obtain⟨nt,uQ,lE,pJ⟩:=id uw.1;have I1:Inv X pins σ H { s with heap:=h',toks:=iV }:=Iv.turnF fI fun b o hb e=>fV b o (by simpa using hb) e;have uR:h'.get? S=some (seqObj "list" #[.ref ab,kb] c):=fV S _ (by simpa using pN) hS;have Ip:Inv X (pins++o7 [I,S] h') σ H { s with heap:=h',toks:=iV }:=I1.pinned (fp:=[I,S]) (fun b hb=>by
   rcases bh.mp hb with e | e
   . rw[e];exact fI
   . rw[bD.mp e];exact fS) (fun b hb=>by
   rcases bh.mp hb with e | e
   . rw[e];exact⟨nt,uQ,fun v z=>by rw[pJ]at z;cases z⟩
   . rw[bD.mp e];exact⟨_,uR,fun v z=>nomatch z⟩)
  show wpAny _ X.A.in1 (tryCatch (holding [.ref a] (call (.ref q) [.ref a])) _ >>= _) _ _ _;refine ac (tF (fu (df (turn (j+1) a ha _ H _ Ip sm) (fun x s2 he=>?_) fun _ _ hF=>hF.elim)));obtain⟨kt,H2,pO,rfl,bA,yd⟩:=he;have pI:=pO.pin (I,nt) (eS _ (eS _ (mT (by simp) uQ)));have pS:=pO.pin (S,seqObj "list" #[.ref ab,kb] c) (eS _ (eS _ (mT (by simp) uR)));have I2:=pO.unpinned;have Kf:=sm.trans bA;have ye:dR X pins H2 I:=fI.of pI.2.1;have rP:dR X pins H2 S:=fS.of pS.2.1;have ac8:s2.heap.IsListIter I l (j+1+1):=⟨nt,pI.1,lE,pJ⟩;show wpAny _ X.A.in1 (tryCatch (holding [.ref a,kt] (richCompare .Gt kt kb >>= _)) _ >>= _) _ _ _;refine ac (tF (fu (ac (C.cmp (j+1) i kt kb _ _ _ _ _ _ rb (Ar _) aP I2 yd (C.mono bA CB) ?_))));refine ac (fu (qK ?_));refine ac (Gs (aj ?_))
  by_cases dW:g (j+1) i=true
  . have s1:=kf s2.heap S (Obj.mapSeq fun _=>#[.ref a,kt]);obtain⟨c2,bW⟩:∃c2,(s2.heap.update S (Obj.mapSeq fun _=>#[.ref a,kt])).get? S=some (seqObj "list" #[.ref a,kt] c2):=⟨_,Gj pS.1 fun _=>#[.ref a,kt]⟩;simp only[dW,sW];refine ac ?_;refine AB pS.1 rfl (ac (Gs ?_));rw[uP];refine aj ⟨gM tH _,ih (j+1) (j+1) H2 _ a kt c2 (by omega) aP (I2.turnF (t':=s2.toks) rP fun b o hb e=>(s1.2 b hb).trans e) Kf ye rP bW ⟨nt,(s1.2 I pN.symm).trans pI.1,lE,pJ⟩ ha yd (C.rs _ _ rb aP dW) fun j' iW=>?_⟩
    by_cases e:j'=j+1
    . subst e;exact C.irr _
    . cases z:g j' (j+1) with
      | false=>rfl
      | true=>have:=C.tr _ _ _ z dW;rw[best j' (by omega)]at this;cases this
  . have lR:g (j+1) i=false:=by simpa using dW
    simp only[lR,jd,ii];refine ac (Gs ?_);rw[uP];refine aj ⟨gM tH _,ih (j+1) i H2 _ ab kb c (by omega) aP I2 Kf ye rP pS.1 ac8 jM (C.mono bA CB) rb fun j' iW=>?_⟩
    by_cases e:j'=j+1
    . subst e;exact lR
    . exact best j' (by omega)
theorem ac9{H:Hp}{s:Shared}(Iv:Inv X pins σ H s)(hc:X.calm=true)(hu:X.A.in1.units<cLine)(hl:H l=some (.lst (as.map V.ref)))(bt:0<as.length)(C:CA X as.length kA g Rb)
 (turn:Cz X q as kA H σ) (hQ:∀i a H' s',as[i]? = some a->(∀j,j<as.length->g j i=false)->Inv X pins σ H' s'->ag H H'->Q (.ref a) s') :
 wpAny (model X.prog X.w) X.A (call (.builtin "max") [.ref l] [(Str.ofString "key",.ref q)]) Q E s:=by
 have uP:(toString "max"++toString ".loop":String) = "max.loop":=by decide
 have wT:=Iv.isL hl;obtain⟨ol,rH,_⟩:=id wT;have hll:l<s.heap.objs.size:=aT rH;have hsz:(as.map Value.ref).toArray.size=as.length:=by simp
 refine kmk_tree PySem.F.kind_max PySem.F.plain_max PySem.F.entry_max (kmk_max_key _ _) ?_;show wpAny _ X.A.in1 (Builtin.Builtins.bindParams "max" ["key","default"] 0 ⟨[],[(Str.ofString "key",.ref q)]⟩ >>= _) _ _ s;refine ac (wpAny_of_eq (show Builtin.Builtins.bindParams "max" ["key","default"] 0 ⟨[],[(Str.ofString "key",.ref q)]⟩=pure [some (.ref q),none] from rfl) ?_);refine ac (aj ?_);refine ac (FA wT ?_);refine ac (tz ?_ (cj _));rw[uP];refine aj ⟨gM tH _,?_⟩;have hS:(s.heap.push { cls:=.type "list_iterator",data:=.fields #[.ref l,.int 0 0] }).objs.size=s.heap.objs.size+1:=size_push' ..;have uO:l≠s.heap.objs.size:=bH hll;have pN:(s.heap.push { cls:=.type "list_iterator",data:=.fields #[.ref l,.int 0 0] }).objs.size≠s.heap.objs.size:=by rw[hS];exact jF (sY _)
 have fI:dR X pins H s.heap.objs.size:=Iv.fpOk (av _) (Iv.hok.fresh (av _));have fS:dR X pins H (s.heap.push { cls:=.type "list_iterator",data:=.fields #[.ref l,.int 0 0] }).objs.size:=Iv.fpOk (by rw[hS];exact sZ _) (Iv.hok.fresh (by rw[hS];exact sZ _));have gI:((s.heap.push { cls:=.type "list_iterator",data:=.fields #[.ref l,.int 0 0] }).push (seqObj "list" #[] 0)).get? s.heap.objs.size=some { cls:=.type "list_iterator",data:=.fields #[.ref l,.int 0 0] }:=
  bg _ (dv _ rfl)
 have gS:((s.heap.push { cls:=.type "list_iterator",data:=.fields #[.ref l,.int 0 0] }).push (seqObj "list" #[] 0)).get? (s.heap.push { cls:=.type "list_iterator",data:=.fields #[.ref l,.int 0 0] }).objs.size=some (seqObj "list" #[] 0):=dv _ rfl;have I0:Inv X pins σ H { s with heap:=(s.heap.push { cls:=.type "list_iterator",data:=.fields #[.ref l,.int 0 0] }).push (seqObj "list" #[] 0) }:=Iv.kept (t':=s.toks) fun b o e=>bg _ (bg _ e);generalize (s.heap.push { cls:=.type "list_iterator",data:=.fields #[.ref l,.int 0 0] }).objs.size=S at *;generalize s.heap.objs.size=I at *;generalize (s.heap.push { cls:=.type "list_iterator",data:=.fields #[.ref l,.int 0 0] }).push (seqObj "list" #[] 0)=h0 at *;have W:=Ga (prog:=X.prog) (w:=X.w) (A:=X.A.in1) (Iv.ok.hd hc) I l uO (as.map Value.ref).toArray;refine gN O7 ?_;rw[il tH _];show wpAny _ X.A.in1 (seqItems? (.ref S) >>= _) _ _ _;refine ac (qL gS rfl ?_);show wpAny _ X.A.in1 (tryCatch (pyNext (.ref I)) _ >>= _) _ _ _;refine ac (tF (W.item 0 _ _ _ (by rw[hsz];exact bt) ⟨⟨_,gI,rfl,rfl⟩,I0.isL hl⟩ fun v h' iV hP uw fV=>?_));have j0:(as.map Value.ref)[0]? = some v:=by simpa using hP
 obtain⟨a,ha,rfl⟩:∃a,as[0]? = some a/\v = .ref a:=by
  rw[bT]at j0;cases e:as[0]? with
  | none=>rw[e]at j0;cases j0
  | some a=>rw[e]at j0;cases j0;exact⟨a,rfl,rfl⟩
 obtain⟨nt,uQ,lE,pJ⟩:=id uw.1;have I1:Inv X pins σ H { s with heap:=h',toks:=iV }:=I0.turnF fI fun b o hb e=>fV b o (by simpa using hb) e;have uR:h'.get? S=some (seqObj "list" #[] 0):=fV S _ (by simpa using pN) gS;have Ip:Inv X (pins++o7 [I,S] h') σ H { s with heap:=h',toks:=iV }:=I1.pinned (fp:=[I,S]) (fun b hb=>by
  rcases bh.mp hb with e | e
  . rw[e];exact fI
  . rw[bD.mp e];exact fS) (fun b hb=>by
  rcases bh.mp hb with e | e
  . rw[e];exact⟨nt,uQ,fun v z=>by rw[pJ]at z;cases z⟩
  . rw[bD.mp e];exact⟨_,uR,fun v z=>nomatch z⟩)
 show wpAny _ X.A.in1 (tryCatch (holding [.ref a] (call (.ref q) [.ref a])) _ >>= _) _ _ _;refine ac (tF (fu (df (turn 0 a ha _ H _ Ip (ag.refl H)) (fun x s2 he=>?_) fun _ _ hF=>hF.elim)));obtain⟨kt,H2,pO,rfl,bA,yd⟩:=he;have pI:=pO.pin (I,nt) (eS _ (eS _ (mT (by simp) uQ)));have pS:=pO.pin (S,seqObj "list" #[] 0) (eS _ (eS _ (mT (by simp) uR)));have I2:=pO.unpinned;have ye:dR X pins H2 I:=fI.of pI.2.1;have rP:dR X pins H2 S:=fS.of pS.2.1;have s1:=kf s2.heap S (Obj.mapSeq fun _=>#[.ref a,kt]);obtain⟨c2,bW⟩:∃c2,(s2.heap.update S (Obj.mapSeq fun _=>#[.ref a,kt])).get? S=some (seqObj "list" #[.ref a,kt] c2):=⟨_,Gj pS.1 fun _=>#[.ref a,kt]⟩;show wpAny _ X.A.in1 (updateSeq S (fun _=>#[.ref a,kt]) >>= _) _ _ _;refine ac ?_;refine AB pS.1 rfl ?_;rw[uP];refine aj ⟨gM tH _,ac7 (H0:=H) hc hu uO pN hl C turn (fun i a H' s' e b I' sm=>hQ i a H' s' e b I' sm) _ 0 0 H2 _ a kt c2 rfl bt (I2.turnF (t':=s2.toks) rP fun b o hb e=>(s1.2 b hb).trans e) bA ye rP bW ⟨nt,(s1.2 I pN.symm).trans pI.1,lE,pJ⟩ ha yd C.r0 fun j' iW=>?_⟩;have e:j'=0:=by omega
 subst e;exact C.irr _
end
theorem adb{X:Cx}(n:Nat)(ns:Nat->Int):CA X n (fun i _ u=>∃tk,u=Value.int (ns i) tk) (fun i j=>decide (ns j<ns i)) (fun _=>True):=by
 refine⟨fun _ h=>h,fun a b c h k=>?_,fun a=>aU (Int.lt_irrefl _),trivial,fun _ _ _ _ _=>trivial,?_⟩
 . have h:=b0 h;have k:=b0 k;exact aL (by omega)
 . rintro i j kt kb pins σ H s Q E _ _ _ I ⟨t,rfl⟩ ⟨u,rfl⟩ q;exact HT.ab1 _ _ _ _ _ _ _ _ _ _ q
open PySem.W (envX)
def adc(X:Cx)(P:Addr)(qual:Str)(lpos:Pos)(js:List Nat)(te tb:TE):TE:=fun σ H Q=>jQ te lH σ H fun us H1=>∃(l:Addr) (as:List Addr) (ns:Nat->Int),us = [.ref l]/\l≠P/\H1 l=some (.lst (as.map V.ref))/\0<as.length/\fU H1 P lpos qual /\
 (∀i a,as[i]? = some a->∀H2,uF P H1 H2->tb (rK (.ref a) js σ) H2 fun v H3=>v = .int (ns i)/\ag H2 H3) /\
 ∀i a H',as[i]? = some a->(∀j,j<as.length->ns j<=ns i)->uF P H1 H'->fU H' P lpos qual->Q (.ref a) H'
section
variable {X:Cx} {c P:Addr} {params:Arguments} {body e:Expr} {scope:Scope} {p pos lpos rj:Pos} {qual x:Str} {cap:Ls} {js:List Nat} {k:Nat} {te tb:TE}
theorem add(he:PE X e te)(S:np X x cap js scope)(hr:cC (k+1) X.A.in1)(hc:X.calm=true)(xW:X.env.code = .ref c)(hd:PySem.W.codeHdIn X.K c P=true)(hb:X.base.BuiltinsAt X.mg P)(hg:Gl X "max")(hm:X.mg "max" = none)
 (ph:∀(q c':Addr) (s:Shared) (H:Hp) (E:XK),cC k (X.A.in1.deeper (envX qual scope s.heap.objs.size q (.ref c') (cH X.env scope.names [])))->PE (uH X.prog X.w X.K X.mg X.base (x::cap) qual scope q (.ref c') (cH X.env scope.names []) X.A.in1 X.stack s H E) body tb)
 (Ci:∀(pm gD u:Value) (c':Addr),bindArgs (PySem.W.kla_fn "<lambda>" qual params body scope (cH X.env scope.names []) pm (.ref c') gD) ⟨[u],[]⟩=pure [(x,u)])
 (hq:X.env.qual ++ "<lambda>" = qual:=by rfl) (xY:X.env.globals=mainGlobals:=by rfl) (Cd:defaultsOf params X.env=([],[]):=by rfl)
 (h1:backTo pos (starEach [e] X.env)=(false,eval e X.env)::backTo pos (starEach [] X.env):=by rfl) (h2:starEach [e] X.env = [(false,eval e X.env)]:=by rfl) (h3:(backTo pos (starEach [e] X.env)).any (·.1)=false:=by rfl) :
 PE X (.Call (.Name "max" p) [e] [⟨some "key",.Lambda params body scope lpos,rj⟩] pos) (adc X P qual lpos js te tb):=by
 intro pins s σ H Q I h;have hu:X.A.in1.units<cLine:=by have:=hr.un;omega
 refine Ah (oZ I hg hm boot_max ?_ (by decide) (by decide));have ha:PA X [e] (jQ te lH):=aa he ah h2;refine callWith_kw (thn (ha pos pins s σ H _ I h) fun us s1 ade=>ade.elim fun vs adf=>adf.elim fun H1 adg=>adg.elim fun I1 adh=>adh.elim fun r adi=>adi.elim fun l adj=>adj.elim fun as adk=>adk.elim fun ns adl=>adl.elim fun e1 adm=>adm.elim fun lP adn=>adn.elim fun hl ado=>ado.elim fun bt adp=>adp.elim fun tb1 adr=>adr.elim fun ads fin=>?_) h1 h3;subst e1;obtain⟨u1,rfl,ru⟩:=vals1 r;cases ru;have hk:PK X [⟨some "key",.Lambda params body scope lpos,rj⟩] (jQ (JF P qual params body scope (cH X.env scope.names []) lpos) lH):=Uv (ab2 xW hd hb (S.clos I.ok) hq xY Cd) Uu;refine thn (hk pos pins s1 σ H1 (fun zs H2=>∃q c',zs = [.ref q]/\uF P H1 H2/\fU H2 P lpos qual/\H2 c'=some (ux c' qual)/\H2 q=some (uG q c' qual params body scope (cH X.env scope.names []))) I1 ⟨tb1,fun q c' H2 nq nP kp CD fB eV=>⟨q,c',rfl,kp,CD,fB,eV⟩⟩) fun ws s2 adt=>adt.elim fun zs adu=>adu.elim fun H2 adv=>adv.elim fun I2 adw=>adw.elim fun rz adx=>adx.elim fun q ady=>ady.elim fun c' adz=>adz.elim fun ez adA=>adA.elim fun kp adB=>adB.elim fun CD adC=>adC.elim fun bW uS=>?_;subst ez;obtain⟨w1,rfl,rw1⟩:=vals1 rz;cases rw1;have turn:Cz X q as (fun i _ u=>∃tk,u=Value.int (ns i) tk) H2 σ:=by
  intro i a ha AO H3 s3 I3 sm;obtain⟨pm,gD,ho⟩:=(show bN X.prog X.w H3 s3.heap q (uG q c' qual params body scope (cH X.env scope.names [])) from I3.hok q _ (sm _ _ uS)).1;have Cf:s3.heap.CodeRec (.ref c') qual:=(show bN X.prog X.w H3 s3.heap c' (ux c' qual) from I3.hok c' _ (sm _ _ bW)).1;refine FG (oP (aca (E:=E0) (v:=.ref a) (u:=.ref a) S I3 hr.hd hr.depth I3.env0.in1.frames ho Cf (Ci pm gD _ c') rfl (ph q c' _ _ _ (hr.deeper _)) (ads i a ha H3 fun b o e n=>sm _ _ (kp b o e n))) fun r s' pP=>?_);cases r with
  | error e=>exact(show False from pP).elim
  | ok fl=>
   cases fl with
   | ret u=>
    obtain⟨v,H',I',rv,ev,sm'⟩:=I3.after pP;subst ev;obtain⟨tk,rv⟩:=(show∃tk,u=Value.int (ns i) tk from rv);exact⟨u,H',I',rfl,sm',tk,rv⟩
   | next=>exact False.elim pP
   | brk=>exact False.elim pP
   | cont=>exact False.elim pP
 refine ac9 I2 hc hu (kp _ _ hl lP) bt (adb as.length ns) turn fun i a H' s' ha best I' sm=>?_;exact⟨.ref a,H',I',rfl,fin i a H' ha (fun j hj=>Int.not_lt.mp (of_decide_eq_false (best j hj))) (fun b o e n=>sm _ _ (kp b o e n)) (CD.same sm)⟩
end
end L2
namespace HT
open PySem PyProof.Rows
section
open PySem.SeqAt
open PySem.AutoSeq1 (wpAny_loadPart')
open PySem.MeetsSeq PySem.MeetsSeq2 PySem.MeetsSeq3
variable {P:Program} {w:World} {A:Around} {s:Shared}
theorem adF(l b:Addr)(it ba:Av)(n n2:Nat)(dd bU:Oa)(sl bV:Array (Option Value))(hz:it.size=ba.size)(k:Nat) :
 ∀i:Nat,it.size - i=k->MeetsIn P w (Builtin.«list.__eq__.loop» ⟨[.ref l,.ref b,rawInt i,rawInt 2],[]⟩)
  (fun A R s=>s.heap.get? l=some ⟨.type "list",dd,.seq it n,sl⟩/\s.heap.get? b=some ⟨.type "list",bU,.seq ba n2,bV⟩/\(∀j (h1:j<it.size) (h2:j<ba.size),jY P w A.in1 s it[j] ba[j])/\R (.ok (.ret (.bool true))) s):=by
 induction k with
 | zero=>
  intro i hk A R s h;obtain⟨hp,g,d,tk,os⟩:=s;obtain⟨g1,g2,he,h⟩:=h
  wp_walk using wpAny_loadPart' g1,wpAny_loadPart' g2
  have e1:it[((i:Nat):Int).toNat]? = none:=by simp;omega
  have e2:ba[((i:Nat):Int).toNat]? = none:=by simp;omega
  rw[e1,e2]
  wp_walk using wpAny_loadPart' g1,wpAny_loadPart' g2
  show R (.ok (.ret (.bool (it.size == ba.size)))) _;rw[hz];simpa using h
 | succ k ih=>
  intro i hk A R s h;obtain⟨hp,g,d,tk,os⟩:=s;obtain⟨g1,g2,he,h⟩:=h
  wp_walk using wpAny_loadPart' g1,wpAny_loadPart' g2
  have l1:i<it.size:=by omega
  have l2:i<ba.size:=by omega
  have e1:it[((i:Nat):Int).toNat]? = some it[i]:=by simp[l1]
  have e2:ba[((i:Nat):Int).toNat]? = some ba[i]:=by simp[l2]
  have e3:((i:Int)+1)=((i+1:Nat):Int):=by push_cast;rfl
  rw[e1,e2];refine ac (he i l1 l2 _ _ ?_)
  wp_walk
  rw[e3];exact⟨gM kh _,gN wE (by
   rw[il kh _];exact ih (i+1) (by omega) A R _ ⟨g1,g2,he,h⟩)⟩
theorem adG(l b:Addr)(it ba:Av)(n n2:Nat)(dd bU:Oa)(sl bV:Array (Option Value))(hz:it.size=ba.size) :
 MeetsIn P w (Builtin.«list.__eq__» ⟨[.ref l,.ref b],[]⟩)
  (fun A R s=>s.heap.get? l=some ⟨.type "list",dd,.seq it n,sl⟩/\s.heap.get? b=some ⟨.type "list",bU,.seq ba n2,bV⟩/\(∀j (h1:j<it.size) (h2:j<ba.size),jY P w A.in1 s it[j] ba[j])/\R (.ok (.ret (.bool true))) s):=by
 intro A R s h;obtain⟨hp,g,d,tk,os⟩:=s;obtain⟨g1,g2,he,h⟩:=h;have f3:=O2;have nz:¬(it.size != ba.size)=true:=by simp[hz]
 wp_walk using wpAny_loadPart' g1,wpAny_loadPart' g2
 exact⟨gM kh _,gN wE (by
  rw[il kh _];exact adF l b it ba n n2 dd bU sl bV hz _ 0 rfl A R _ ⟨g1,g2,he,h⟩)⟩
theorem adH{l b:Addr}{it ba:Av}{Q E:VP}(h1:s.heap.IsList l it)(h2:s.heap.IsList b ba)(hz:it.size=ba.size)(hu:A.units<cLine)
 (he:∀j (h1:j<it.size) (h2:j<ba.size),jY P w A.in1 s it[j] ba[j]) (q:Q (.bool true) s):wpAny (model P w) A (compareOp .Eq (.ref l) (.ref b)) Q E s:=by
 obtain⟨⟨cls,dd,data,sl⟩,ho,hc,n,hd⟩:=id h1;obtain⟨⟨rl,bU,data2,bV⟩,dY,bW,n2,hd2⟩:=id h2;simp only at hc hd bW hd2;subst hc hd bW hd2;show wpAny (model P w) A (richCompare .Eq (.ref l) (.ref b)) Q E s;refine Op (op:=.Eq) ⟨_,ho,rfl⟩ ⟨_,dY,rfl⟩ PySem.F.slot_list_eq (tw PySem.F.slot_list_eq ⟨_,ho,rfl⟩ PySem.F.entry_list_eq (PySem.F.args_list_eq_2 _ _) (adG l b it ba n n2 dd bU sl bV hz) ?_) hu;exact⟨ho,dY,he,show Value.bool true≠Value.notImplemented/\Q (.bool true) s from ⟨(fun x=>nomatch x),q⟩⟩
end
end HT
namespace L2
open PySem PySem.Spec PyProof.Rows
open PySem.W (KeqHits)
section
variable {X:Cx}
theorem adI(hu:X.A.units+65<cLine):bw X (compareOp .Eq) (fun x y H Q=>∃a b kvs kb bJ,x = .ref a/\y = .ref b/\H a=some (.dK kvs)/\H b=some (.dK bJ)/\Paired (um X.K H) kvs kb/\(∀p∈kb,p∈bJ)/\kvs.length=bJ.length/\(bJ.map (·.1)).Nodup/\Q (.bl true) H):=by
 intro pins s σ H x y v u Q I rx ry h;obtain⟨a,b,kvs,kb,bJ,rfl,rfl,ea,eb,pr,hm,hl,nd,q⟩:=h;cases rx;cases ry;obtain⟨_,hd,vs,rel,dd⟩:=jo I.hok ea;obtain⟨_,ji,ws,ni,fT⟩:=jo I.hok eb;refine PySem.W.keq_eq (knd:=bM X.prog X.w) (r:=true) hd ji dd fT (by omega) (fun _=>BH I hu nd ni pr rel hm) ⟨.bl true,H,I,?_,q⟩;have e:vs.length=ws.length:=by rw[←rel.length,←ni.length,hl]
 rw[e];simp[RelV]
def yf(H:Hp)(x y:V):Prop:=∃(p q a1 a2 b1 b2:Addr) (kvs bJ:List (aF×V)),x = .ref p/\y = .ref q/\H p=some (.lst [.ref a1,.ref b1])/\H q=some (.lst [.ref a2,.ref b2])/\a1≠a2/\b1≠b2/\H a1=some (.dK kvs)/\H a2=some (.dK kvs)/\(kvs.map (·.1)).Nodup/\(∀p∈kvs,∃r,p.2 = .ref r) /\
 H b1=some (.dK bJ)/\H b2=some (.dK bJ)/\(bJ.map (·.1)).Nodup/\∀p∈bJ,∃r,p.2 = .ref r
theorem Kg{pins:Po}{σ:St}{H:Hp}{s:Shared}(hu:X.A.units+65<cLine)(I:Inv X pins σ H s){x y:V}{v u:Value}(rx:RelV x v)(ry:RelV y u)(h:yf H x y) :
 ∃(l b:Addr) (it ba:Av),v = .ref l/\u = .ref b/\s.heap.IsList l it/\s.heap.IsList b ba/\it.size=ba.size/\∀j (h1:j<it.size) (h2:j<ba.size),HT.jY X.prog X.w X.A.in1 s it[j] ba[j]:=by
 obtain⟨p,q,a1,a2,b1,b2,kvs,bJ,rfl,rfl,hp,hq,na,nb,h1,h2,nd,hr,k1,k2,nd',pP⟩:=h;cases rx;cases ry;have Kh:∀{a:Addr} {it:Av},PlainL s.heap a it->s.heap.IsList a it:=fun adK=>adK.elim fun o adL=>adL.elim fun n adM=>adM.elim fun e adN=>adN.elim fun c adO=>adO.elim fun _ d=>⟨o,e,c,n,d⟩;obtain⟨i1,v1,p1,_⟩:=I.list (ae.of (K:=X.K) hp);obtain⟨i2,v2,p2,_⟩:=I.list (ae.of (K:=X.K) hq);have e1:i1 = [.ref a1,.ref b1]:=xH (Ds:=[a1,b1]) v1;have e2:i2 = [.ref a2,.ref b2]:=xH (Ds:=[a2,b2]) v2;subst e1 e2;have u1:X.A.in1.units<cLine:=by show X.A.units+1<cLine;omega
 have one:∀{a b:Addr} {ks:List (aF×V)},a≠b->H a=some (.dK ks)->H b=some (.dK ks)->(ks.map (·.1)).Nodup->(∀p∈ks,∃r,p.2 = .ref r)->HT.jY X.prog X.w X.A.in1 s (.ref a) (.ref b):=fun {a b ks} na h1 h2 nd hr=>by
  obtain⟨_,hd,vs,rel,dd⟩:=jo I.hok h1;obtain⟨_,ji,ws,ni,fT⟩:=jo I.hok h2;refine HT.jY.refs na fun E Q q=>?_;refine PySem.W.keq_eq (knd:=bM X.prog X.w) (r:=true) hd ji dd fT u1 (fun _=>JL nd ni rel fun p hp=>⟨hp,hr p hp⟩) ?_;have e:vs.length=ws.length:=by rw[←rel.length,←ni.length]
  rw[e,wv];exact q
 refine⟨p,q,_,_,rfl,rfl,Kh p1,Kh p2,rfl,fun j uT nj=>?_⟩
 match j,uT,nj with
 | 0,_,_=>exact one na h1 h2 nd hr
 | 1,_,_=>exact one nb k1 k2 nd' pP
theorem adP(hu:X.A.units+65<cLine):bw X (compareOp .NotEq) (fun x y H Q=>yf H x y/\Q (.bl false) H):=by
 intro pins s σ H x y v u Q I rx ry h;obtain⟨l,b,it,ba,rfl,rfl,h1,h2,hz,he⟩:=Kg hu I rx ry h.1;exact HT.acm h1 h2 hz (by omega) he ⟨.bl false,H,I,rfl,h.2⟩
theorem adQ(hu:X.A.units+65<cLine):bw X (compareOp .Eq) (fun x y H Q=>yf H x y/\Q (.bl true) H):=by
 intro pins s σ H x y v u Q I rx ry h;obtain⟨l,b,it,ba,rfl,rfl,h1,h2,hz,he⟩:=Kg hu I rx ry h.1;exact HT.adH h1 h2 hz (by omega) he ⟨.bl true,H,I,rfl,h.2⟩
end
end L2
abbrev ak0:PySem.Str:="_law_cell"
abbrev ak1:PySem.Str:="_law_names_here"
abbrev ak2:PySem.Str:="_law_parcels_here"
abbrev ak3:PySem.Str:="parcel"
abbrev ak4:PySem.Str:="_law_k"
abbrev ak5:PySem.Str:="_law_goal_here"
abbrev ak6:PySem.Str:="_law_script"
abbrev ak7:PySem.Str:="_law_draw"
abbrev ak8:PySem.Str:="parcels"
abbrev ak9:PySem.Str:="_law_one"
abbrev ala:PySem.Str:="name"
abbrev alb:PySem.Str:="make"
abbrev alc:PySem.Str:="shelf"
abbrev ald:PySem.Str:="is_within"
abbrev ale:PySem.Str:="_law_now"
abbrev alf:PySem.Str:="_law_chosen"
abbrev alg:PySem.Str:="_law_cell_at"
abbrev alh:PySem.Str:="does_meet"
abbrev ali:PySem.Str:="_law_name"
abbrev alj:PySem.Str:="_law_group"
abbrev alk:PySem.Str:="chosen"
abbrev alm:PySem.Str:="files"
abbrev aln:PySem.Str:="rank"
abbrev alo:PySem.Str:="set_behind"
abbrev alp:PySem.Str:="_law_found"
abbrev alq:PySem.Str:="_law_meets"
abbrev alr:PySem.Str:="goal"
abbrev als:PySem.Str:="claim"
abbrev alt:PySem.Str:="group"
abbrev alu:PySem.Str:="needs"
abbrev alv:PySem.Str:="now"
abbrev alw:PySem.Str:="meeting"
abbrev alx:PySem.Str:="_law_names"
abbrev aly:PySem.Str:="_law_claim"
abbrev alz:PySem.Str:="_law_ring_here"
abbrev alA:PySem.Str:="_law_other"
abbrev alB:PySem.Str:="_law_sound"
abbrev alC:PySem.Str:="_law_walked"
abbrev alD:PySem.Str:="faults_of"
abbrev alE:PySem.Str:="_law_claim_here"
abbrev alF:PySem.Str:="self"
abbrev alG:PySem.Str:="names"
abbrev alH:PySem.Str:="paths_of"
abbrev alI:PySem.Str:="_law_otherwise"
abbrev alJ:PySem.Str:="_law_groups"
abbrev alK:PySem.Str:="shuts"
abbrev alL:PySem.Str:="with_one_more"
abbrev alM:PySem.Str:="path"
abbrev alN:PySem.Str:="lines"
abbrev alO:PySem.Str:="clash_faults"
abbrev alP:PySem.Str:="_law_parcels"
abbrev alQ:PySem.Str:="_law_goal"
abbrev alR:PySem.Str:="need_faults"
abbrev alS:PySem.Str:="shut_faults"
abbrev alT:PySem.Str:="keys_unlike"
abbrev alU:PySem.Str:="first_group"
abbrev alV:PySem.Str:="_law_parcel"
abbrev alW:PySem.Str:="_law_behind"
abbrev alX:PySem.Str:="other"
abbrev alY:PySem.Str:="parcels_of"
abbrev alZ:PySem.Str:="offers"
abbrev al0:PySem.Str:="second"
abbrev al1:PySem.Str:="groups"
abbrev al2:PySem.Str:="groups_to"
abbrev al3:PySem.Str:="_law_ring"
abbrev al4:PySem.Str:="_law_sets"
abbrev al5:PySem.Str:="is_sound"
abbrev al6:PySem.Str:="first"
abbrev al7:PySem.Str:="shelved"
abbrev al8:PySem.Str:="_law_at"
abbrev al9:PySem.Str:="least"
abbrev ama:PySem.Str:="below"
namespace K51
open PySem L2
open HT (At cZ dL)
structure dz where
 nm:Str
 ls:List Int
 bl:Oi
structure aQ where
 nm:Str
 ms:List Int
 rk:Int
 fs:List (Str×Ls)
 ns:List dz
 ss:List dz
 os:Ls
abbrev Lp:=List aQ
def yg(ms:List Int):Oi->Bool
 | none=>true
 | some b=>HT.lexLt ms b
def b8(c:dz)(p:aQ):Bool:=(decide (c.nm=p.nm) && (!HT.lexLt p.ms c.ls && yg p.ms c.bl)) || (iT (.str c.nm) (p.os.map V.str) && (decide (c.ls = []) && c.bl.isNone))
def dM{α β:Type}(f:Nat->α->List β):List α->Nat->List β
 | [],_=>[]
 | x::r,k=>f k x++dM f r (k+1)
theorem Ki{α β:Type}{f:Nat->α->List β}:∀{l m:List α} {k:Nat},dM f (l++m) k=dM f l k++dM f m (k+l.length)
 | [],m,k=>rfl
 | x::r,m,k=>by
  show f k x++dM f (r++m) (k+1)=(f k x++dM f r (k+1))++dM f m (k+(r.length+1));rw[Ki,cW,show k+1+r.length=k+(r.length+1) by omega]
theorem ff{α:Type}{l:List α}{i:Nat}{x:α}(h:l[i]? = some x):l.take (i+1)=l.take i++[x]:=by
 rw[List.take_succ,h];rfl
theorem adR{α:Type}{l:List α}{i:Nat}{x:α}(h:l[i]? = some x):(l.take i).length=i:=by
 rw[dE];have:=(bZ.mp h).1;omega
theorem Kj{α β:Type}{f:Nat->α->List β}{l:List α}{i:Nat}{x:α}(h:l[i]? = some x):dM f (l.take (i+1)) 0=dM f (l.take i) 0++f i x:=by
 rw[ff h,Ki,adR h,Aq];show _++(f i x++[])=_;rw[ft]
theorem yh{α β:Type}{f:α->List β}{l:List α}{i:Nat}{x:α}(h:l[i]? = some x):(l.take (i+1)).flatMap f=(l.take i).flatMap f++f x:=by
 rw[ff h,O8];simp
theorem iZ{α:Type}{f:α->Bool}{l:List α}{i:Nat}{x:α}(h:l[i]? = some x):(l.take (i+1)).filter f=(l.take i).filter f++(if f x=true then [x] else []):=by
 rw[ff h,List.filter_append]
 by_cases q:f x=true
 . rw[ai q];simp[q]
 . rw[af q];simp[q]
theorem yi{α β:Type}{f:Nat->α->List β}{y:β}:∀{l:List α} {k:Nat},y∈dM f l k->∃i x,x∈l/\k<=i/\y∈f i x
 | [],k,h=>by cases h
 | x::r,k,h=>by
  rcases cU.mp h with h | h
  . exact⟨k,x,.head _,av _,h⟩
  . obtain⟨i,z,a,b,c⟩:=yi h;exact⟨i,z,.tail _ a,by omega,c⟩
theorem CF{α β:Type}{f g:Nat->α->List β}(h:∀i x,(f i x).Perm (g i x)):∀{l:List α} {k:Nat},(dM f l k).Perm (dM g l k)
 | [],_=>.refl _
 | x::r,k=>(h k x).append (CF h)
theorem yj{α β:Type}{f:Nat->α->List β}{m:Nat}(h:∀i x,(f i x).length<=m):∀{l:List α} {k:Nat},(dM f l k).length<=l.length * m
 | [],_=>by simp[dM]
 | x::r,k=>by
  show(f k x++dM f r (k+1)).length<=(r.length+1) * m;rw[bf,Gp];have:=h k x;have:=yj h (l:=r) (k:=k+1);omega
theorem CG{α β:Type}{f:Nat->α->List β}(h1:∀i x,(f i x).Nodup)(h2:∀i j x z y,i<j->y∈f i x->y∉f j z):∀{l:List α} {k:Nat},(dM f l k).Nodup
 | [],_=>lx
 | x::r,k=>by
  show(f k x++dM f r (k+1)).Nodup;refine wz.mpr ⟨h1 k x,CG h1 h2,fun a ha b hb e=>?_⟩;subst e;obtain⟨i,z,_,c,d⟩:=yi hb;exact h2 k i x z a (by omega) ha d
def rQ:Str:="need"
def nu:Str:="shut"
def pQ:Str:="clash"
def cJ(x y:Str):Bool:=decide (x.cps.toList<y.cps.toList)
def i4(p:aQ)(ps:Lp)(i:Nat)(c:dz):List (List At):=if ps.filter (b8 c) = [] then [[.inr rQ,.inr p.nm,.inl i]] else []
def jw(p:aQ)(ps:Lp):Lp:=ps.filter fun o=>decide (o.nm≠p.nm)
def pR(p:aQ)(ps:Lp)(i:Nat)(c:dz):List (List At):=((jw p ps).filter (b8 c)).map fun o=>[.inr nu,.inr p.nm,.inl i,.inr o.nm]
def db(p:aQ):Ls:=p.fs.map (·.1)
def uU(p o:aQ):Ls:=(db p).filter fun x=>decide (x∈db o)
def jx(p o:aQ):List (List At):=(uU p o).map fun x=>[.inr pQ,.inr p.nm,.inr o.nm,.inr x]
def lV(p:aQ)(ps:Lp):List (List At):=dM (i4 p ps) p.ns 0
def nv(p:aQ)(ps:Lp):List (List At):=dM (pR p ps) p.ss 0
def ny(p:aQ)(ps:Lp):List (List At):=(ps.filter fun o=>cJ p.nm o.nm).flatMap (jx p)
def fD(ps:Lp)(p:aQ):List (List At):=lV p ps++nv p ps++ny p ps
def kQ(ps:Lp):List (List At):=ps.flatMap (fD ps)
theorem Kk{α β:Type}{f g:α->List β}(h:∀x,(f x).Perm (g x)):∀l:List α,(l.flatMap f).Perm (l.flatMap g)
 | []=>.refl _
 | x::r=>by rw[lB,lB];exact(h x).append (Kk h r)
theorem Kl{α β:Type}{f:α->List β}{l m:List α}(h:l.Perm m):(l.flatMap f).Perm (m.flatMap f):=by
 induction h with
 | nil=>exact .refl _
 | cons x _ ih=>rw[lB,lB];exact(tE _).append ih
 | swap x y l=>
  rw[lB,lB,lB,lB,←cW,←cW];exact mJ.append (.refl _)
 | trans _ _ a b=>exact a.trans b
theorem adS{ps qs:Lp}(h:ps.Perm qs)(p:aQ):(fD ps p).Perm (fD qs p):=by
 refine((CF fun i c=>?_).append (CF fun i c=>?_)).append ?_
 . unfold i4;have e:(ps.filter (b8 c) = [])↔(qs.filter (b8 c) = []):=by
    have z:=h.filter (b8 c);constructor
    . intro a;rw[a]at z;exact z.nil_eq.symm
    . intro a;rw[a]at z;exact z.eq_nil
   by_cases q:ps.filter (b8 c) = []
   . rw[ai q,ai (e.mp q)]
   . rw[af q,af (fun a=>q (e.mpr a))]
 . exact((h.filter _).filter _).map _
 . exact Kl (h.filter _)
theorem adT{ps qs:Lp}(h:ps.Perm qs):(kQ ps).Perm (kQ qs):=(Kl h).trans (Kk (adS h) qs)
inductive Kd:List At->Prop
 | need (n:Str) (i:Nat):Kd [.inr rQ,.inr n,.inl i]
 | shut (n:Str) (i:Nat) (o:Str):Kd [.inr nu,.inr n,.inl i,.inr o]
 | clash (n o x:Str):Kd [.inr pQ,.inr n,.inr o,.inr x]
theorem CH{p:aQ}{ps:Lp}{a:List At}(h:a∈lV p ps):∃i:Nat,a = [.inr rQ,.inr p.nm,.inl i]:=by
 obtain⟨i,c,_,_,h⟩:=yi h;unfold i4 at h;split at h
 . exact⟨i,bD.mp h⟩
 . cases h
theorem CI{p:aQ}{ps:Lp}{a:List At}(h:a∈nv p ps):∃(i:Nat) (o:Str),a = [.inr nu,.inr p.nm,.inl i,.inr o]:=by
 obtain⟨i,c,_,_,h⟩:=yi h;obtain⟨o,_,rfl⟩:=bC.mp h;exact⟨i,o.nm,rfl⟩
theorem Km{p:aQ}{ps:Lp}{a:List At}(h:a∈ny p ps):∃o x:Str,a = [.inr pQ,.inr p.nm,.inr o,.inr x]:=by
 obtain⟨o,_,h⟩:=AG.mp h;obtain⟨x,_,rfl⟩:=bC.mp h;exact⟨_,_,rfl⟩
theorem CJ{p:aQ}{ps:Lp}{a:List At}(h:a∈fD ps p):Kd a/\a[1]? = some (.inr p.nm):=by
 rcases cU.mp h with h | h
 . rcases cU.mp h with h | h
   . obtain⟨i,rfl⟩:=CH h;exact⟨.need _ _,rfl⟩
   . obtain⟨i,o,rfl⟩:=CI h;exact⟨.shut _ _ _,rfl⟩
 . obtain⟨o,x,rfl⟩:=Km h;exact⟨.clash _ _ _,rfl⟩
theorem CK{ps:Lp}{a:List At}(h:a∈kQ ps):Kd a:=by
 obtain⟨p,_,h⟩:=AG.mp h;exact(CJ h).1
theorem adU{a:List At}(h:Kd a):∃x r,a = .inr x::r:=by
 cases h<;>exact⟨_,_,rfl⟩
theorem CL:rQ≠nu:=by decide +kernel
theorem CM:rQ≠pQ:=by decide +kernel
theorem CN:nu≠pQ:=by decide +kernel
theorem ge{x y:At}{r t:List At}(h:x≠y->HT.kin x y)(h2:x=y->dL r t):dL (x::r) (y::t):=by
 show if x=y then dL r t else HT.kin x y
 by_cases e:x=y
 . rw[ai e];exact h2 e
 . rw[af e];exact h e
theorem CO{r:List At}:dL [] r:=by
 cases r<;>trivial
theorem adV{a b:List At}(ha:Kd a)(hb:Kd b):dL a b:=by
 cases ha with
 | need n i=>
  cases hb with
  | need m j=>exact ge (fun _=>trivial) fun _=>ge (fun _=>trivial) fun _=>ge (fun _=>trivial) fun _=>CO
  | shut m j q=>exact ge (fun _=>trivial) fun e=>absurd (fq e) CL
  | clash m q y=>exact ge (fun _=>trivial) fun e=>absurd (fq e) CM
 | shut n i o=>
  cases hb with
  | need m j=>exact ge (fun _=>trivial) fun e=>absurd (fq e).symm CL
  | shut m j q=>exact ge (fun _=>trivial) fun _=>ge (fun _=>trivial) fun _=>ge (fun _=>trivial) fun _=>ge (fun _=>trivial) fun _=>CO
  | clash m q y=>exact ge (fun _=>trivial) fun e=>absurd (fq e) CN
 | clash n o x=>
  cases hb with
  | need m j=>exact ge (fun _=>trivial) fun e=>absurd (fq e).symm CM
  | shut m j q=>exact ge (fun _=>trivial) fun e=>absurd (fq e).symm CN
  | clash m q y=>exact ge (fun _=>trivial) fun _=>ge (fun _=>trivial) fun _=>ge (fun _=>trivial) fun _=>ge (fun _=>trivial) fun _=>CO
theorem Kn{α β:Type}{f:α->β}{l:List α}(inj:∀a b,f a=f b->a=b)(h:l.Nodup):(l.map f).Nodup:=List.Pairwise.map f (fun a b ne e=>ne (inj a b e)) h
theorem CP{α β:Type}{f:α->β}:∀{l:List α},(l.map f).Nodup->∀{q:α->Bool},((l.filter q).map f).Nodup
 | l,h,q=>O9 ((wF).map f) h
theorem adW{p:aQ}{ps:Lp}(hn:(ps.map (·.nm)).Nodup)(hp:(db p).Nodup):(fD ps p).Nodup:=by
 refine wz.mpr ⟨wz.mpr ⟨?_,?_,?_⟩,?_,?_⟩
 . refine CG (fun i c=>?_) fun i j c d y gZ h1 h2=>?_
   . unfold i4;split
     . simp
     . exact lx
   . unfold i4 at h1 h2;split at h1
     . split at h2
       . have e:=(bD.mp h1).symm.trans (bD.mp h2);simp only[Fu,Sum.inl.injEq]at e;omega
       . cases h2
     . cases h1
 . refine CG (fun i c=>?_) fun i j c d y gZ h1 h2=>?_
   . have z:=CP (CP hn (q:=fun o=>decide (o.nm≠p.nm))) (q:=b8 c);have w:=Kn (f:=fun n:Str=>([.inr nu,.inr p.nm,.inl (i:Int),.inr n]:List At)) (fun a b e=>by simpa using e) z;rw[Gu]at w;exact w
   . obtain⟨o,_,e1⟩:=bC.mp h1;obtain⟨o',_,e2⟩:=bC.mp h2;have e:=e1.trans e2.symm;simp only[Fu,Sum.inl.injEq]at e;omega
 . intro a ha b hb e;obtain⟨i,rfl⟩:=CH ha;obtain⟨j,o,e2⟩:=CI hb;rw[e2]at e;exact CL (by injection e with e _;exact fq e)
 . refine Pa.mpr ⟨fun o _=>Kn (fun a b e=>by simpa using e) (O9 wF hp),?_⟩;have z:(ps.filter fun o=>cJ p.nm o.nm).Pairwise fun a b=>a.nm≠b.nm:=qU.mp (CP hn (q:=fun o=>cJ p.nm o.nm));refine z.imp fun {a b} ne x hx y hy e=>?_;obtain⟨u,_,e1⟩:=bC.mp hx;obtain⟨v,_,e2⟩:=bC.mp hy;have e:=(e1.trans e).trans e2.symm;simp only[Fu,Sum.inr.injEq]at e;exact ne e.2.2.1
 . intro a ha b hb e;obtain⟨o,x,e2⟩:=Km hb;rw[e2]at e
   rcases cU.mp ha with ha | ha
   . obtain⟨i,rfl⟩:=CH ha;exact CM (by injection e with e _;exact fq e)
   . obtain⟨i,o,rfl⟩:=CI ha;exact CN (by injection e with e _;exact fq e)
theorem adX{ps:Lp}(hn:(ps.map (·.nm)).Nodup)(hp:∀p∈ps,(db p).Nodup):(kQ ps).Nodup:=by
 refine Pa.mpr ⟨fun p h=>adW hn (hp p h),(qU.mp hn).imp fun {a b} ne x hx y hy e=>?_⟩;have e1:=(CJ hx).2;have e2:=(CJ hy).2;rw[e,e2]at e1;exact ne (fq (gn e1)).symm
structure yk(p:aQ):Prop where
 ns:p.ns.length<=2
 ss:p.ss.length<=2
 fs:p.fs.length<=3
 nd:(db p).Nodup
theorem Ko{α β:Type}{f:α->List β}{m:Nat}(h:∀x,(f x).length<=m):∀l:List α,(l.flatMap f).length<=l.length * m
 | []=>by simp
 | x::r=>by
  rw[lB,bf,bu,Gp];have:=h x;have:=Ko h r;omega
def ym(ps:Lp):Prop:=∀qs:Lp,(∀q∈qs,q∈ps)->(qs.map (·.nm)).Nodup->(kQ qs).length<64
theorem adY{qs:Lp}{p:aQ}(h1:p.ns.length<=2)(h3:p.fs = []):(fD qs p).length<=2+p.ss.length * qs.length:=by
 have l1:(lV p qs).length<=2 * 1:=bn (yj (m:=1) fun i c=>by unfold i4;split<;>simp) (Gv 1 h1);have l2:(nv p qs).length<=p.ss.length * qs.length:=yj (m:=qs.length) fun i c=>by
  unfold pR jw;rw[aw];exact bn (iK _ _) (iK _ _)
 have l3:ny p qs = []:=by
  unfold ny;rw[Pb];intro o _;unfold jx uU db;rw[h3];rfl
 unfold fD;rw[l3,ft,bf];omega
theorem Kp{α:Type}[DecidableEq α]:∀{l m:List α},l.Nodup->(∀x∈l,x∈m)->l.length<=m.length
 | [],m,_,_=>cj _
 | x::r,m,nd,h=>by
  obtain⟨n1,n2⟩:=jG.mp nd;have hx:=h x (.head _);have:=Kp (m:=m.erase x) n2 fun y hy=>(List.mem_erase_of_ne (fun e:y=x=>n1 (e▸hy))).mpr (h y (.tail _ hy));rw[ajK hx]at this;have:=OQ hx;rw[bu];omega
theorem adZ{α:Type}:∀{l m:List α},l.Nodup->m.Nodup->(∀x,x∈l↔x∈m)->l.Perm m:=fun h1 h2 h=>(Pc h1 h2).mpr h
end K51
namespace K51
open PySem L2
def cm(i:Nat):Stmt:=PySem.Challenge.pw_parcelmend_k51_groups.main.body.getD i (.Pass ⟨0,0,0,0⟩)
abbrev nA:Stmt:=Bl (cm 9) 0
abbrev pT:Stmt:=Bl (cm 10) 0
abbrev nB:Stmt:=Bl (cm 10) 3
abbrev nC:Stmt:=cm 5
abbrev yo:Stmt:=cm 6
abbrev pU:Stmt:=cm 8
abbrev yq:Stmt:=cm 12
abbrev uV:Stmt:=cm 13
abbrev yr:Stmt:=cm 14
abbrev rR:Stmt:=cm 15
abbrev yt:Stmt:=cm 16
abbrev yu:Stmt:=cm 17
abbrev yw:Stmt:=cm 18
abbrev uW:Stmt:=cm 19
abbrev yx:Stmt:=cm 21
abbrev rS:Stmt:=cm 22
abbrev yy:Stmt:=cm 23
abbrev yz:Stmt:=cm 24
abbrev rT:Stmt:=cm 26
abbrev kR:Stmt:=cm 27
abbrev uX:Stmt:=cm 28
abbrev uY:Stmt:=cm 29
abbrev yA:Stmt:=cm 30
abbrev yB:Stmt:=cm 31
abbrev yC:Stmt:=cm 32
abbrev rV:Stmt:=cm 33
abbrev uZ:Stmt:=cm 34
abbrev yD:Stmt:=cm 35
abbrev yE:Stmt:=cm 36
abbrev yF:Stmt:=cm 37
abbrev vb:Stmt:=cm 38
abbrev rW:Stmt:=cm 39
abbrev rX:Stmt:=cm 40
abbrev pV:Stmt:=cm 41
structure eR(mg:Mv):Prop where
 range:mg "range" = none
 len:mg "len" = none
 list:mg "list" = none
 dict:mg "dict" = none
 tuple:mg "tuple" = none
 sorted:mg "sorted" = none
 enumerate:mg "enumerate" = none
 isinstance:mg "isinstance" = none
 bool:mg "bool" = none
 int:mg "int" = none
 str:mg "str" = none
 any:mg "any" = none
 zip:mg "zip" = none
 set:mg "set" = none
 all:mg "all" = none
 max:mg "max" = none
theorem ad0{x:Str}(ok:dk x){r:Int}(h0:0<=r)(h1:r<x.length):∃c,bF x.cps.toList r=some c/\c<0x110000:=by
 obtain⟨n,rfl⟩:∃n:Nat,r=n:=⟨r.toNat,by omega⟩;have hn:n<x.cps.toList.length:=by
  have:x.cps.toList.length=x.length:=by simp[Str.length]
  omega
 exact⟨_,kE (eJ hn),uf.mp ok _ (Au hn)⟩
def nG:Str:="abcdefghijklmnopqrstuvwxyz"
theorem ad1:dk nG:=by decide +kernel
theorem yG:nG.length=26:=by decide +kernel
theorem CQ(n:Int):∃c,bF nG.cps.toList (n % 26)=some c/\c<0x110000:=ad0 ad1 (by omega) (by rw[yG];omega)
theorem Kq{a b c:V}(n:Int){R:V->Prop}(ha:R a)(hb:R b)(hc:R c):∃v,bF [a,b,c] (n % 3)=some v/\R v:=by
 have h:n % 3=0\/n % 3=1\/n % 3=2:=by omega
 rcases h with h | h | h<;>rw[h]
 . exact⟨_,rfl,ha⟩
 . exact⟨_,rfl,hb⟩
 . exact⟨_,rfl,hc⟩
def gf(H:Hp)(b:V):Oi->Prop
 | none=>b = .non
 | some bs=>∃a,b = .ref a/\H a=some (.tup (bs.map V.int))
def dq(H:Hp)(v:V)(c:dz):Prop:=∃t l b,v = .ref t/\H t=some (.tup [.str c.nm,.ref l,b])/\H l=some (.tup (c.ls.map V.int))/\gf H b c.bl
theorem gf.same{H H':Hp}{b:V}{o:Oi}(s:ag H H')(h:gf H b o):gf H' b o:=by
 cases o with
 | none=>exact h
 | some bs=>
  obtain⟨a,e1,e2⟩:=h;exact⟨a,e1,s _ _ e2⟩
theorem dq.same{H H':Hp}{v:V}{c:dz}(s:ag H H')(h:dq H v c):dq H' v c:=by
 obtain⟨t,l,b,e,h1,h2,h3⟩:=h;exact⟨t,l,b,e,s _ _ h1,s _ _ h2,h3.same s⟩
section
variable {P:Program} {w:World} {K:Fg} {mg:Mv} {base:Heap}
def yH(K:Fg):Sp:=fun vs H Q _=>∃(a:Addr) (k:Int) (ns:List Int),vs = [.ref a,.int k]/\0<=k/\ae K H a (ns.map V.int)/\∀n:Int,Q (.int n) H
theorem ad2:bO [ak6,ak4] [ak6,ak4] (aS rT):=⟨rfl,rfl,rfl,by decide +kernel,rfl,by decide +kernel,by decide +kernel⟩
theorem CT{f:Addr}{fd:Fy}(F:au K alg alg rT f fd)(B:eR mg):aB P w K mg base aD 1 f fd [ak6,ak4] (yH K):=by
 refine F.ok ad2 (fun vs H Q E h=>?_) (fun aE A outer s H vs Q E hr h=>?_)
 . obtain⟨a,k,ns,rfl,_⟩:=h;rfl
 . refine ck ?_;intro xX dX;obtain⟨a,k,ns,rfl,k0,hA,q⟩:=h;refine⟨_,(aA (ej (cb xh (pv 1) (dU jm (by rfl) B.len jg (aa (pv 0) ah)) (bq _))
    (aG (bE (bi eZ (pv 0) (pv 1) (fun _ _=>rfl)))) eO)
    (aG (bE ap))),?_⟩
   refine rD ?_;intro dD sS fE;refine⟨_,rfl,_,rfl,a,_,rfl,.inl hA,_,_,rfl,rfl,_,rfl,?_⟩;refine bj (fun h=>?_) (fun h=>?_)
   . have h':=b0 h;rw[aw]at h';obtain⟨z,hz,_⟩:=HN (ns:=ns) (r:=k) k0 h';exact⟨_,rfl,_,rfl,a,_,_,_,rfl,rfl,hA,hz,q z⟩
   . exact q 0
def ad3(c k:Int):Int:=(c+7919 * k+1) * 48271 % 2147483647 * ((c+7919 * k+1) * 48271 % 2147483647 / 1009+69621) % 2147483647
def pW:Sp:=fun vs H Q _=>∃c k:Int,vs = [.int c,.int k]/\-1000<=k/\k<=1000/\∀n:Int,n=ad3 c k->Q (.int n) H
theorem Kr:bO [ak0,ak4,"_law_number"] [ak0,ak4] (aS kR):=⟨rfl,rfl,rfl,by decide +kernel,rfl,by decide +kernel,by decide +kernel⟩
theorem rY{f:Addr}{fd:Fy}(F:au K ak7 ak7 kR f fd):aB P w K mg base aD 1 f fd [ak0,ak4] pW:=by
 refine F.ok Kr (fun vs H Q E h=>?_) (fun aE A outer s H vs Q E hr h=>?_)
 . obtain⟨c,k,rfl,_⟩:=h;rfl
 . refine ck ?_;intro xX dX;obtain⟨c,k,rfl,k0,k1,q⟩:=h;refine⟨_,(aA (a9 (i:=2) Kr.nd rfl (Or.inl rfl) (aY dg (aY rh (aY iO (aY iO (pv 0) (aY rh ap (pv 1))) ap) ap) ap))
    (aG (bE (aY dg (aY rh (pv 2) (aY iO (aY AX (pv 2) ap) ap)) ap)))),?_⟩
   refine rD ?_;intro dD sS fE;refine⟨_,rfl,_,rfl,_,_,rfl,rfl,.inl ⟨by omega,by omega⟩,_,_,rfl,rfl,_,_,rfl,rfl,_,_,rfl,rfl,.inr ⟨by omega,by omega⟩,_,_,rfl,rfl,(by show(0:Int)<2147483647;decide),?_⟩;refine⟨_,rfl,_,rfl,_,_,rfl,rfl,⟨by omega,by omega⟩,_,_,rfl,rfl,_,_,rfl,rfl,.inl ⟨by omega,by omega⟩,_,_,rfl,rfl,(by show(0:Int)<2147483647;decide),?_⟩;exact q _ rfl
structure yI(xs:Ls):Prop where
 len:xs.length=8
 all:∀x∈xs,dk x
def CU:Sp:=fun vs H Q _=>∃c:Int,vs = [.int c]/\∀l H' xs,H l=none->ag H H'->H' l=some (.lst (xs.map V.str))->yI xs->Q (.ref l) H'
theorem yJ:bO [ak0,"_law_small","_law_head","_law_tail"] [ak0] (aS uX):=⟨rfl,rfl,rfl,by decide +kernel,rfl,by decide +kernel,by decide +kernel⟩
theorem Ks{f dh:Addr}{fd fg:Fy}(F:au K alx alx uX f fd)(B:eR mg)(br:au K ak7 ak7 kR dh fg)(cp:mg ak7 = some (.ref dh)):aB P w K mg base aD 2 f fd [ak0] CU:=by
 have dN:aB P w K mg base aD 1 dh fg [ak0,ak4] pW:=rY br;have dO:=br.binds2 (l:=[ak0,ak4]) (fun _ _ _ _ _ _ _ _=>rfl);refine F.ok yJ (fun vs H Q E h=>?_) (fun aE A outer s H vs Q E hr h=>?_)
 . obtain⟨c,rfl,_⟩:=h;rfl
 . refine ck ?_;intro xX dX;obtain⟨c,rfl,q⟩:=h;refine⟨_,(aA (a9 (i:=1) yJ.nd rfl (Or.inr rfl) tO)
    (aA (a9 (i:=2) yJ.nd rfl (Or.inr rfl) (aY JE (bi A8 (pv 1) (aY dg (aO dN hr rfl cp br.kp dO .nil aK (aa (pv 0) (aa ap ah))) ap) (fun _ _=>rfl)) (aY dg (aO dN hr rfl cp br.kp dO .nil aK (aa (pv 0) (aa ap ah))) ap)))
    (aA (a9 (i:=3) yJ.nd rfl (Or.inr rfl) (aY JE (bi A8 (pv 1) (aY dg (aO dN hr rfl cp br.kp dO .nil aK (aa (pv 0) (aa ap ah))) ap) (fun _ _=>rfl)) (aY dg (aO dN hr rfl cp br.kp dO .nil aK (aa (pv 0) (aa ap ah))) ap)))
    (aG (bE (eB [ak4] ["_law_head","_law_small",ak0,"_law_tail"] [2,1,0,3] ⟨rfl,by decide +kernel,by decide +kernel,by decide +kernel,by decide +kernel,rfl,rfl,rfl⟩ rfl (o5 rfl B.range (aa ap ah)) (fun _ _ _ _=>(aX (i:=0) (show List.Nodup ([ak4,"_law_head","_law_small",ak0,"_law_tail"]:Ls) by decide +kernel) rfl (Or.inl rfl))) (fun _ _ _ _=>jt) (fun _ _ _ _=>(aY Hc (aY Hc (pv 1) (bi A8 (pv 2) (aY dg (aY iO (aO dN hr rfl cp br.kp dO .nil aK (aa (pv 3) (aa ap ah))) (aY rh ap (pv 0))) ap) (fun _ _=>rfl))) (pv 4))))))))),?_⟩
   refine xG ?_;intro dD sS nH g9 fE;have l1:∀z,(⟨#[z]⟩:Str).length=1:=fun z=>Yp z;refine⟨_,rfl,_,rfl,_,_,rfl,by decide,by decide,fun d0 _=>?_⟩;obtain⟨z0,hz0,zb0⟩:=CQ d0;refine⟨_,_,rfl,rfl,(by show(0:Int)<26;decide),_,_,z0,rfl,rfl,Br (by show nG.length<=100;rw[yG];decide),hz0,_,rfl,_,_,rfl,by decide,by decide,fun d1 _=>?_⟩;refine⟨_,_,rfl,rfl,(by show(0:Int)<4;decide),_,_,rfl,rfl,by omega,by omega,by rw[l1];decide,Bn zb0,fun hd hdo Ji=>?_⟩;rw[l1]at Ji;refine⟨_,rfl,_,rfl,_,_,rfl,by decide,by decide,fun d2 _=>?_⟩;obtain⟨z2,yK,zb2⟩:=CQ d2;refine⟨_,_,rfl,rfl,(by show(0:Int)<26;decide),_,_,z2,rfl,rfl,Br (by show nG.length<=100;rw[yG];decide),yK,_,rfl,_,_,rfl,by decide,by decide,fun d3 _=>?_⟩;refine⟨_,_,rfl,rfl,(by show(0:Int)<4;decide),_,_,rfl,rfl,by omega,by omega,by rw[l1];decide,Bn zb2,fun tl tlo tll=>?_⟩;rw[l1]at tll;have akn:hd.length<=3:=by omega
   have ako:tl.length<=3:=by omega
   refine⟨8,rfl,by omega,by omega,?_⟩;refine BB (σ0:=[none,some (.str hd),some (.str nG),some (.int c),some (.str tl)]) (fun σ=>∃v,σ = [v,some (.str hd),some (.str nG),some (.int c),some (.str tl)]) (fun i ys _=>∃xs:Ls,ys=xs.map V.str/\xs.length=i/\∀x∈xs,dk x) ⟨_,rfl⟩ (fun _ _=>⟨[],rfl,rfl,fun _ h=>nomatch h⟩) ?_ ?_
   . intro D i ys σ H2 k hD hi pX ji hs vc hk;refine bX ?_;intro tT;obtain⟨v,rfl⟩:=pX;obtain⟨xs,rfl,hx,hl⟩:=vc;have Kt:i<8:=by simpa using hi
     refine⟨_,rfl,_,rfl,_,rfl,_,_,rfl,by decide,by decide,fun d4 _=>?_⟩;obtain⟨z,hz,zb⟩:=CQ (d4+5 * (0+(i:Int)));refine⟨_,rfl,_,_,rfl,rfl,.inl ⟨by omega,by omega⟩,_,_,rfl,rfl,_,_,rfl,rfl,(by show(0:Int)<26;decide),_,_,z,rfl,rfl,Br (by show nG.length<=100;rw[yG];decide),hz,_,_,rfl,rfl,fit (by omega) (by rw[l1];decide),_,rfl,_,_,rfl,rfl,fit (by rw[Yo,l1];omega) (by omega),?_⟩;refine hk _ _ _ ⟨_,rfl⟩ (ag.refl _) (bp (by rw[aw];omega)) ⟨xs++[_],xD xs _,by rw[bf,hx];rfl,fun y hy=>?_⟩
     rcases cU.mp hy with hy | hy
     . exact hl y hy
     . rw[bD.mp hy];exact HJ (HJ hdo (Bn zb)) tlo
   . intro D ys H2 hD ji hs vd;obtain⟨xs,rfl,hx,hl⟩:=vd;exact q D H2 xs hD hs ji ⟨hx,hl⟩
end
theorem aea{κ:Type}[DecidableEq κ]{kvs:List (κ×V)}{k:κ}(h:k∉kvs.map (·.1)):bK kvs k=none:=by
 cases e:bK kvs k with
 | none=>rfl
 | some v=>exact absurd (Yh e) h
section
variable {κ β:Type} [DecidableEq κ] {F:κ×V->β->Prop} {key:β->κ}
theorem CV(hk:∀kv p,F kv p->kv.1=key p):∀{kvs:List (κ×V)} {ps:List β},Paired F kvs ps->kvs.map (·.1)=ps.map key
 | _,_,.nil=>rfl
 | _,_,.cons r t=>by rw[b9,b9,hk _ _ r,CV hk t]
end
structure Txt(K:Fg)(mg:Mv)(C:Addr):Prop where
 cl:jP K C
 nN:iu K C ala
 nM:iu K C alb
 nR:iu K C aln
 nF:iu K C alm
 nE:iu K C alu
 nS:iu K C alK
 nO:iu K C alZ
 mgC:mg "Parcel" = some (.ref C)
structure CW(fl:List (Str×V))(nm mk rk:V)(pf pn ps po:Addr):Prop where
 name:fl.lookup (ala:Str)=some nm
 make:fl.lookup (alb:Str)=some mk
 rank:fl.lookup (aln:Str)=some rk
 files:fl.lookup (alm:Str)=some (.ref pf)
 needs:fl.lookup (alu:Str)=some (.ref pn)
 shuts:fl.lookup (alK:Str)=some (.ref ps)
 offers:fl.lookup (alZ:Str)=some (.ref po)
def pY(nm mk rk:V)(pf pn ps po:Addr):List (Str×V):=az alZ (.ref po) (az alK (.ref ps) (az alu (.ref pn) (az alm (.ref pf) (az aln rk (az alb mk (az ala nm []))))))
theorem aeb(nm mk rk:V)(pf pn ps po:Addr):CW (pY nm mk rk pf pn ps po) nm mk rk pf pn ps po:=by
 unfold pY;constructor
 . rw[cf,af (by decide +kernel),cf,af (by decide +kernel),cf,af (by decide +kernel),cf,af (by decide +kernel),cf,af (by decide +kernel),cf,af (by decide +kernel),cf,ai rfl]
 . rw[cf,af (by decide +kernel),cf,af (by decide +kernel),cf,af (by decide +kernel),cf,af (by decide +kernel),cf,af (by decide +kernel),cf,ai rfl]
 . rw[cf,af (by decide +kernel),cf,af (by decide +kernel),cf,af (by decide +kernel),cf,af (by decide +kernel),cf,ai rfl]
 . rw[cf,af (by decide +kernel),cf,af (by decide +kernel),cf,af (by decide +kernel),cf,ai rfl]
 . rw[cf,af (by decide +kernel),cf,af (by decide +kernel),cf,ai rfl]
 . rw[cf,af (by decide +kernel),cf,ai rfl]
 . rw[cf,ai rfl]
section
variable {P:Program} {w:World} {K:Fg} {mg:Mv} {base:Heap}
structure Ku(K:Fg)(H:Hp)(xs:Lv)(fs:List (V×Lv)):Prop where
 len:xs.length=fs.length
 item:∀(i:Nat) (p:V) (ls:Lv),fs[i]? = some (p,ls)->∃t l,xs[i]? = some (.ref t)/\aI K H t [p,.ref l]/\ae K H l ls
structure yL(H H':Hp)(D:Addr)(xs:Lv)(fs:List (V×Lv))(k:Nat):Prop where
 len:xs.length=k
 item:∀(i:Nat) (p:V) (ls:Lv),i<k->fs[i]? = some (p,ls)->∃t l,xs[i]? = some (.ref t)/\H t=none/\H l=none/\t≠D/\l≠D/\H' t=some (.tup [p,.ref l])/\H' l=some (.lst ls)
def ve:Expr:=match (eQ nA).getD 3 (.Pass ⟨0,0,0,0⟩) with
 | .Assign _ e _=>e
 | _=>.Constant .none 0 ⟨0,0,0,0⟩
def pZ:Scope:=match ve with
 | .ListComp _ _ sc _=>sc
 | _=>{ kind:=.function,names:=[],isGenerator:=false,isCoroutine:=false }
def Kv:Expr:=match ve with
 | .ListComp e _ _ _=>e
 | _=>.Constant .none 0 ⟨0,0,0,0⟩
def CY:Expr:=match ve with
 | .ListComp _ [⟨t,_,_,_⟩] _ _=>t
 | _=>.Constant .none 0 ⟨0,0,0,0⟩
def Kw:Expr:=match ve with
 | .ListComp _ [⟨_,t,_,_⟩] _ _=>t
 | _=>.Constant .none 0 ⟨0,0,0,0⟩
theorem CZ(X:Cx):jU X [alM,alN] [] [] pZ:=⟨rfl,by decide +kernel,by decide +kernel,by decide +kernel,by decide +kernel,rfl,rfl,rfl⟩
def Kx(K:Fg):Lv->Hp->VK->Prop:=fun xs H Q=>∃p ys,xs = [.ref p]/\(ae K H p ys\/aI K H p ys)/\∀l,H l=none->Q (.ref l) (ak H l (.lst ys))
theorem aec{X:Cx}(hc:X.calm=true)(s₀:Shared)(H₀:Hp)(C₀:Addr)(ex:List Addr):PG (cO X (([alM,alN]:Ls)++([]:Ls)) pZ s₀ H₀ C₀ ex) CY (xa X.K 2 (tP (mS 0) (tP (mS 1) AQ))):=
 rc (X:=cO X (([alM,alN]:Ls)++([]:Ls)) pZ s₀ H₀ C₀ ex) hc (iN (aX (i:=0) (CZ X).nd rfl (Or.inl rfl)) (iN (aX (i:=1) (CZ X).nd rfl (Or.inl rfl)) q8))
theorem aed{X:Cx}(ti:X.mg "list" = none)(s₀:Shared)(H₀:Hp)(C₀:Addr)(ex:List Addr):PE (cO X (([alM,alN]:Ls)++([]:Ls)) pZ s₀ H₀ C₀ ex) Kv (A0 (jQ (qZ 0) (jQ (xk (Kx X.K) (jQ (qZ 1) lH)) lH))):=
 Hf (X:=cO X (([alM,alN]:Ls)++([]:Ls)) pZ s₀ H₀ C₀ ex) (aa (pv 0) (aa (eW (tY (X:=cO X (([alM,alN]:Ls)++([]:Ls)) pZ s₀ H₀ C₀ ex)) (by rfl) ti kj (aa (pv 1) ah)) ah))
theorem aee{X:Cx}{wi:TI}(hc:X.calm=true)(ti:X.mg "list" = none)(hi:PI X CY Kw wi):PE X ve (Bu wi 2 [] (xa X.K 2 (tP (mS 0) (tP (mS 1) AQ))) rC (A0 (jQ (qZ 0) (jQ (xk (Kx X.K) (jQ (qZ 1) lH)) lH)))):=
 eB [alM,alN] [] [] (elt:=Kv) (tg:=CY) (iter:=Kw) (ifs:=[]) (sc:=pZ) (CZ X) hc hi (aec hc) (fun _ _ _ _=>jt) (aed ti)
theorem aef:bO [alF,ala,alb,aln,alm,alu,alK,alZ] [alF,ala,alb,aln,alm,alu,alK,alZ] (aS nA):=⟨rfl,rfl,rfl,by decide +kernel,rfl,by decide +kernel,by decide +kernel⟩
def C0(K:Fg)(C:Addr):Sp:=fun vs H Q _=>∃(x dx fa na sa oa:Addr) (nm mk rk:V) (xs ns ss os:Lv) (fs:List (V×Lv)),vs = [.ref x,nm,mk,rk,.ref fa,.ref na,.ref sa,.ref oa]/\H x=some (.ins C dx []) /\
 ae K H fa xs/\Ku K H xs fs/\ae K H na ns/\ae K H sa ss/\ae K H oa os/\fs.length<=1000 /\
 ∀(fl:List (Str×V)) (pf pn ps po:Addr) (iM:Lv) (H':Hp),CW fl nm mk rk pf pn ps po->H' x=some (.ins C dx fl)->H pf=none->H pn=none->H ps=none->H po=none ->
  H' pf=some (.lst iM)->yL H H' pf iM fs fs.length->H' pn=some (.lst ns)->H' ps=some (.lst ss)->H' po=some (.lst os)->(∀b o,H b=some o->b≠x->H' b=some o)->Q .non H'
structure fF(C dx x:Addr)(H Hk:Hp)(fl:List (Str×V)):Prop where
 same:∀b o,H b=some o->b≠x->Hk b=some o
 free:∀b,Hk b=none->H b=none
 ob:Hk x=some (.ins C dx fl)
section
variable {C dx x p a:Addr} {H Hk:Hp} {fl nI:List (Str×V)} {o o':HO} {xs:Lv}
theorem fF.put(S:fF C dx x H Hk fl):fF C dx x H (ak Hk x (.ins C dx nI)) nI:=
 ⟨fun b o e hb=>by rw[a8 hb];exact S.same b o e hb,fun b e=>S.free b (Bq e).2,bc⟩
theorem fF.lay(S:fF C dx x H Hk fl)(hp:Hk p=none):fF C dx x H (ak Hk p o) fl:=
 ⟨fun b u e hb=>by rw[a8 (bv (S.same b u e hb) hp)];exact S.same b u e hb,fun b e=>S.free b (Bq e).2,by rw[a8 (bv S.ob hp)];exact S.ob⟩
theorem fF.sqL(S:fF C dx x H Hk fl)(hx:H x=some (.ins C dx nI))(h:ae K H a xs):ae K Hk a xs:=by
 rcases h with(h | ⟨o,h⟩) | h
 . exact .inl (.inl (S.same _ _ h (fz h hx (by intro z;cases z))))
 . exact .inl (.inr ⟨o,S.same _ _ h (fz h hx (by intro z;cases z))⟩)
 . exact .inr h
theorem fF.sqT(S:fF C dx x H Hk fl)(hx:H x=some (.ins C dx nI))(h:aI K H a xs):aI K Hk a xs:=by
 rcases h with(h | ⟨o,h⟩) | h
 . exact .inl (.inl (S.same _ _ h (fz h hx (by intro z;cases z))))
 . exact .inl (.inr ⟨o,S.same _ _ h (fz h hx (by intro z;cases z))⟩)
 . exact .inr h
theorem bL(h:Hk a=some o)(n:a≠p):ak Hk p o' a=some o:=by rw[a8 n];exact h
theorem lp{f:Str}{v:V}{n:Nat}(h:fl.length<=n):(az f v fl).length<=n+1:=bn (AZ _ _ _) (by omega)
theorem few{n:Nat}(h:fl.length<=n)(h2:n<1000):fl.length<1000:=by omega
theorem p0:([]:List (Str×V)).length<=0:=av _
end
theorem aeg{H Hk Hj:Hp}{D:Addr}{xs:Lv}{fs:List (V×Lv)}{k:Nat}(fn:yL H Hk D xs fs k)(h:∀b o,Hk b=some o->b≠D->H b=none->Hj b=some o):yL H Hj D xs fs k:=by
 refine⟨fn.len,fun i p ls hi hp=>?_⟩;obtain⟨t,l,e1,e2,e3,e4,e5,e6,e7⟩:=fn.item i p ls hi hp;exact⟨t,l,e1,e2,e3,e4,e5,h t _ e6 e4 e2,h l _ e7 e5 e3⟩
theorem aeh{f C:Addr}{fd:Fy}(F:au K "__init__" "Parcel.__init__" nA f fd)(T:Txt K mg C)(ti:mg "list" = none) :
 aB P w K mg base aD 1 f fd [alF,ala,alb,aln,alm,alu,alK,alZ] (C0 K C):=by
 refine F.ok aef (fun vs H Q E h=>?_) (fun aE A outer s H vs Q E hr h=>?_)
 . obtain⟨x,dx,fa,na,sa,oa,nm,mk,rk,xs,ns,ss,os,fs,rfl,_⟩:=h;rfl
 . refine ck ?_;intro xX dX;obtain⟨x,dx,fa,na,sa,oa,nm,mk,rk,xs,ns,ss,os,fs,rfl,hx,lW,kS,lX,hsa,AK,Ky,k⟩:=h;refine⟨_,aA (mV (pv 0) (pv 1) rfl) (aA (mV (pv 0) (pv 2) rfl) (aA (mV (pv 0) (pv 3) rfl)
    (aA (mV (pv 0) (aee rfl ti (bI (pv 4))) rfl)
    (aA (mV (pv 0) (eW tY (by rfl) ti kj (aa (pv 5) ah)) rfl)
    (aA (mV (pv 0) (eW tY (by rfl) ti kj (aa (pv 6) ah)) rfl)
    (aG (mV (pv 0) (eW tY (by rfl) ti kj (aa (pv 7) ah)) rfl))))))),?_⟩
   refine Ik ?_;intro dD sS uU7 Kz vf nH g9 fE;have S0:fF C dx x H H []:=⟨fun _ _ e _=>e,fun _ e=>e,hx⟩;refine⟨_,rfl,_,rfl,x,C,dx,_,rfl,S0.ob,T.cl,T.nN,few p0 (by decide),?_⟩;have S1:fF C dx x H _ (az ala nm []):=S0.put;refine⟨_,rfl,_,rfl,x,C,dx,_,rfl,S1.ob,T.cl,T.nM,few (lp p0) (by decide),?_⟩;have S2:fF C dx x H _ (az alb mk (az ala nm [])):=S1.put;refine⟨_,rfl,_,rfl,x,C,dx,_,rfl,S2.ob,T.cl,T.nR,few (lp (lp p0)) (by decide),?_⟩;have S3:fF C dx x H _ (az aln rk (az alb mk (az ala nm []))):=S2.put;generalize ak (ak (ak H x (.ins C dx (az ala nm []))) x (.ins C dx (az alb mk (az ala nm [])))) x (.ins C dx (az aln rk (az alb mk (az ala nm []))))=H1 at S3 ⊢;refine⟨_,rfl,fa,rfl,⟨xs,S3.sqL hx lW⟩,fun D hD=>?_⟩;refine⟨fun i m σ H2=>m=xs.length - i/\i<=xs.length/\∃(u v:Option V) (ys:Lv),σ = [u,v]/\H2 D=some (.lst ys)/\ag H1 H2/\yL H H2 D ys fs i,⟨xs.length,by simp,cj _,none,none,[],rfl,bc,jp hD,rfl,fun i p ls hi=>absurd hi (qQ _)⟩,?_⟩;intro i m σ H2 pX;refine bX ?_;intro tT;obtain⟨rfl,hi,u,v,ys,rfl,vg,s2,fn⟩:=pX
   skip
   have C1:ae K H2 fa xs:=s2.seq (S3.sqL hx lW)
   by_cases aP:i<xs.length
   . refine .inr ⟨⟨xs,xs[i],C1,by simp[aP]⟩,fun z H3 y=>?_⟩;obtain⟨e,y⟩:=y;subst e;have ez:=y xs C1;have hif:i<fs.length:=by rw[←kS.len];exact aP
     obtain⟨⟨p,ls⟩,bo⟩:∃q,fs[i]? = some q:=⟨fs[i],by simp[hif]⟩;obtain⟨t,l,e1,e2,e3⟩:=kS.item i p ls bo;rw[ez]at e1;cases e1;have t2:=Yn s2 (S3.sqT hx e2);have l2:=s2.seq (S3.sqL hx e3);refine⟨t,_,rfl,t2,rfl,_,_,rfl,_,_,rfl,rfl,?_⟩;refine⟨_,rfl,_,rfl,l,_,rfl,.inl l2,fun l' mO=>⟨(by show 2<=sizeLine;decide),fun t' C2=>?_⟩⟩;obtain⟨n1,n2⟩:=Bq C2;have dl:D≠l':=bv vg mO;have dt:D≠t':=bv vg n2;refine⟨ys,bL (bL vg dl) dt,bp (by rw[fn.len];omega),xs.length - (i+1),by omega,rfl,aP,_,_,ys++[.ref t'],rfl,bc,?_,⟨by rw[bf,fn.len];rfl,fun j p' AM hj cD=>?_⟩⟩
     . exact m6 (m6 (m6 s2 (s2.free mO)) (s2.free n2)) hD
     . by_cases yM:j=i
       . subst yM;rw[bo]at cD;cases cD;refine⟨t',l',by rw[qN (by rw[fn.len];omega),fn.len];simp,S3.free _ (s2.free n2),S3.free _ (s2.free mO),dt.symm,dl.symm,bL bc dt.symm,bL (bL bc n1.symm) dl.symm⟩
       . have iW:j<i:=by omega
         obtain⟨t0,l0,g1,g2,g3,g4,g5,g6,g7⟩:=fn.item j p' AM iW cD;exact⟨t0,l0,by rw[FJ (by rw[fn.len];exact iW)];exact g1,g2,g3,g4,g5,bL (bL (bL g6 (bv g6 mO)) (bv g6 n2)) g4,bL (bL (bL g7 (bv g7 mO)) (bv g7 n2)) g5⟩
   . have ei:i=xs.length:=by omega
     subst ei;refine .inl ⟨⟨xs,C1,av _⟩,?_⟩;have S4:fF C dx x H H2 (az aln rk (az alb mk (az ala nm []))):=⟨fun b o e hb=>s2 b o (S3.same b o e hb),fun b e=>S3.free b (s2.free e),s2 _ _ S3.ob⟩;have yN:D≠x:=fz vg S4.ob (by intro z;cases z);have hD0:H D=none:=S3.free _ hD;refine⟨_,rfl,x,C,dx,_,rfl,S4.ob,T.cl,T.nF,few (lp (lp (lp p0))) (by decide),?_⟩;have S5:fF C dx x H _ (az alm (.ref D) (az aln rk (az alb mk (az ala nm [])))):=S4.put;refine⟨_,rfl,na,_,rfl,.inl (S5.sqL hx lX),fun pn nJ=>?_⟩;have S6:=S5.lay (o:=.lst ns) nJ;have C3:pn≠x:=(bv S5.ob nJ).symm;refine⟨_,rfl,x,C,dx,_,rfl,S6.ob,T.cl,T.nE,few (lp (lp (lp (lp p0)))) (by decide),?_⟩;have S7:fF C dx x H _ (az alu (.ref pn) (az alm (.ref D) (az aln rk (az alb mk (az ala nm []))))):=S6.put;refine⟨_,rfl,sa,_,rfl,.inl (S7.sqL hx hsa),fun ps aR=>?_⟩;have S8:=S7.lay (o:=.lst ss) aR;have KA:ps≠x:=(bv S7.ob aR).symm;refine⟨_,rfl,x,C,dx,_,rfl,S8.ob,T.cl,T.nS,few (lp (lp (lp (lp (lp p0))))) (by decide),?_⟩;have S9:fF C dx x H _ (az alK (.ref ps) (az alu (.ref pn) (az alm (.ref D) (az aln rk (az alb mk (az ala nm [])))))):=S8.put;refine⟨_,rfl,oa,_,rfl,.inl (S9.sqL hx AK),fun po jV=>?_⟩;have KC:=S9.lay (o:=.lst os) jV;have xpo:po≠x:=(bv S9.ob jV).symm;refine⟨_,rfl,x,C,dx,_,rfl,KC.ob,T.cl,T.nO,few (lp (lp (lp (lp (lp (lp p0)))))) (by decide),?_⟩;have KD:fF C dx x H _ (pY nm mk rk D pn ps po):=KC.put;have k5:∀b o,H2 b=some o->b≠x->(ak H2 x (.ins C dx (az alm (.ref D) (az aln rk (az alb mk (az ala nm [])))))) b=some o:=fun b o e hb=>bL e hb;have kp:=fun b o (e:H2 b=some o) (hb:b≠x)=>bL (p:=x) (o':=.ins C dx (az alu (.ref pn) (az alm (.ref D) (az aln rk (az alb mk (az ala nm [])))))) (bL (p:=pn) (o':=.lst ns) (k5 b o e hb) (bv (k5 b o e hb) nJ)) hb;have kq:=fun b o (e:H2 b=some o) (hb:b≠x)=>bL (p:=x) (o':=.ins C dx (az alK (.ref ps) (az alu (.ref pn) (az alm (.ref D) (az aln rk (az alb mk (az ala nm []))))))) (bL (p:=ps) (o':=.lst ss) (kp b o e hb) (bv (kp b o e hb) aR)) hb;have kr:=fun b o (e:H2 b=some o) (hb:b≠x)=>bL (p:=x) (o':=.ins C dx (pY nm mk rk D pn ps po)) (bL (p:=po) (o':=.lst os) (kq b o e hb) (bv (kq b o e hb) jV)) hb;have KG:(ak (ak (ak H2 x (.ins C dx (az alm (.ref D) (az aln rk (az alb mk (az ala nm [])))))) pn (.lst ns)) x (.ins C dx (az alu (.ref pn) (az alm (.ref D) (az aln rk (az alb mk (az ala nm []))))))) pn=some (.lst ns):=bL bc C3;have KH:=bL (p:=x) (o':=.ins C dx (az alK (.ref ps) (az alu (.ref pn) (az alm (.ref D) (az aln rk (az alb mk (az ala nm []))))))) (bL (p:=ps) (o':=.lst ss) KG (bv KG aR)) C3;have pn3:=bL (p:=x) (o':=.ins C dx (pY nm mk rk D pn ps po)) (bL (p:=po) (o':=.lst os) KH (bv KH jV)) C3;have KI:=bL (p:=x) (o':=.ins C dx (az alK (.ref ps) (az alu (.ref pn) (az alm (.ref D) (az aln rk (az alb mk (az ala nm []))))))) (bc (H:=ak (ak (ak H2 x (.ins C dx (az alm (.ref D) (az aln rk (az alb mk (az ala nm [])))))) pn (.lst ns)) x (.ins C dx (az alu (.ref pn) (az alm (.ref D) (az aln rk (az alb mk (az ala nm []))))))) (a:=ps) (o:=.lst ss)) KA;have C4:=bL (p:=x) (o':=.ins C dx (pY nm mk rk D pn ps po)) (bL (p:=po) (o':=.lst os) KI (bv KI jV)) KA;refine k (pY nm mk rk D pn ps po) D pn ps po ys _ (aeb nm mk rk D pn ps po) KD.ob hD0 (S5.free _ nJ) (S7.free _ aR) (S9.free _ jV) (kr D _ vg yN) ?_ pn3 C4 (bL bc xpo) KD.same;rw[kS.len]at fn;exact aeg fn fun b o e hb hn=>kr b o e fun z=>by rw[z,hx]at hn;cases hn
end
def nK(H:Hp)(v:V)(f:Str×Ls):Prop:=∃t l,v = .ref t/\H t=some (.tup [.str f.1,.ref l])/\H l=some (.lst (f.2.map V.str))
def fh(H:Hp)(a:Addr)(cs:List dz):Prop:=∃ys,H a=some (.lst ys)/\Paired (dq H) ys cs
def kT(C:Addr)(H:Hp)(v:V)(p:aQ):Prop:=∃a dx fl rk m pf pn ps po xs,v = .ref a/\H a=some (.ins C dx fl)/\CW fl (.str p.nm) (.ref m) rk pf pn ps po/\H m=some (.tup (p.ms.map V.int)) /\
 H pf=some (.lst xs)/\Paired (nK H) xs p.fs/\H po=some (.lst (p.os.map V.str))/\rk = .int p.rk/\fh H pn p.ns/\fh H ps p.ss
theorem fh.same{H H':Hp}{a:Addr}{cs:List dz}(s:ag H H')(h:fh H a cs):fh H' a cs:=by
 obtain⟨ys,h1,h2⟩:=h;exact⟨ys,s _ _ h1,bd h2 fun _ _=>dq.same s⟩
theorem nK.same{H H':Hp}{v:V}{f:Str×Ls}(s:ag H H')(h:nK H v f):nK H' v f:=by
 obtain⟨t,l,e,a,b⟩:=h;exact⟨t,l,e,s _ _ a,s _ _ b⟩
theorem kT.same{C:Addr}{H H':Hp}{v:V}{p:aQ}(s:ag H H')(h:kT C H v p):kT C H' v p:=by
 obtain⟨a,dx,fl,rk,m,pf,pn,ps,po,xs,e,h1,h2,h3,h4,h5,h6⟩:=h;exact⟨a,dx,fl,rk,m,pf,pn,ps,po,xs,e,s _ _ h1,h2,s _ _ h3,s _ _ h4,bd h5 (fun _ _=>nK.same s),s _ _ h6.1,h6.2.1,h6.2.2.1.same s,h6.2.2.2.same s⟩
abbrev fk (C:Addr) (H:Hp):Lv->Lp->Prop:=Paired (kT C H)
theorem fk.same{C:Addr}{H H':Hp}{vs:Lv}{ps:Lp}(s:ag H H')(h:fk C H vs ps):fk C H' vs ps:=bd h fun _ _=>kT.same s
def msk(L:List Addr)(H:Hp):Hp:=fun b=>if b∈L then none else H b
theorem vh{L:List Addr}{H:Hp}:ag (msk L H) H:=fun b o e=>by
 unfold msk at e;split at e
 . cases e
 . exact e
theorem vi{L:List Addr}{H H':Hp}(s:ag H H'):ag (msk L H) (msk L H'):=fun b o e=>by
 unfold msk at e ⊢;split at e
 . cases e
 . rw[af ‹_›];exact s _ _ e
theorem C5{L:List Addr}{H:Hp}{p:Addr}{o:HO}(h:p∈L):msk L (ak H p o)=msk L H:=by
 funext b
 unfold msk;split
 . rfl
 . have hb:¬b∈L:=‹_›;rw[a8 (fun z=>hb (by rw[z];exact h))]
theorem fG{L:List Addr}{H:Hp}{b:Addr}{o:HO}(n:b∉L)(h:H b=some o):msk L H b=some o:=by
 unfold msk;rw[af n];exact h
def hJ(H:Hp)(L:List Addr):Prop:=∀b∈L,∃o,H b=some o/\∀vs,o≠.tup vs
theorem hJ.free{H:Hp}{L:List Addr}(h:hJ H L){b:Addr}(n:H b=none):b∉L:=fun z=>by
 obtain⟨o,e,_⟩:=h b z;rw[n]at e;cases e
theorem hJ.tup{H:Hp}{L:List Addr}(h:hJ H L){b:Addr}{vs:Lv}(n:H b=some (.tup vs)):b∉L:=fun z=>by
 obtain⟨o,e,q⟩:=h b z;rw[n]at e;cases e;exact q _ rfl
theorem vj{α β:Type}{F:α->β->Prop}:∀{xs:List α} {ys:List β},Paired F xs ys->∀{i:Nat} {y:β},ys[i]? = some y->∃x,xs[i]? = some x/\F x y
 | _,_,.nil,i,y,h=>by cases h
 | _,_,.cons r t,0,y,h=>by cases h;exact⟨_,rfl,r⟩
 | _,_,.cons r t,i+1,y,h=>vj t (i:=i) h
theorem bQ{α β:Type}{F:α->β->Prop}:∀{xs:List α} {ys:List β},Paired F xs ys->∀{i:Nat} {x:α},xs[i]? = some x->∃y,ys[i]? = some y/\F x y
 | _,_,.nil,i,y,h=>by cases h
 | _,_,.cons r t,0,y,h=>by cases h;exact⟨_,rfl,r⟩
 | _,_,.cons r t,i+1,y,h=>bQ t (i:=i) h
theorem aM{α β:Type}{F:α->β->Prop}:∀{xs:List α} {ys:List β},Paired F xs ys->xs.length=ys.length
 | _,_,.nil=>rfl
 | _,_,.cons _ t=>fQ (· + 1) (aM t)
theorem dr{α β:Type}{F:α->β->Prop}{x:α}{y:β}(h:F x y):∀{xs:List α} {ys:List β},Paired F xs ys->Paired F (xs++[x]) (ys++[y])
 | _,_,.nil=>.cons h .nil
 | _,_,.cons r t=>.cons r (dr h t)
theorem KJ{α β:Type}{F:α->β->Prop}:∀{xs:List α} {ys:List β},xs.length=ys.length->(∀(i:Nat) (y:β),ys[i]? = some y->∃x,xs[i]? = some x/\F x y)->Paired F xs ys
 | [],[],_,_=>.nil
 | [],_::_,h,_=>nomatch h
 | _::_,[],h,_=>nomatch h
 | x::xs,y::ys,h,k=>by
  obtain⟨x',e,r⟩:=k 0 y rfl;cases e;exact .cons r (KJ (Nat.succ.inj h) fun i z hz=>k (i+1) z hz)
def qa(fs:List (Str×Ls)):List (V×Lv):=fs.map fun f=>(.str f.1,f.2.map V.str)
section
variable {P:Program} {w:World} {K:Fg} {mg:Mv} {base:Heap}
theorem aeo{H:Hp}{xs:Lv}{fs:List (Str×Ls)}(h:Paired (nK H) xs fs):Ku K H xs (qa fs):=by
 refine⟨by rw[qa,aw];exact aM h,fun i p ls e=>?_⟩;rw[qa,bT]at e;cases hf:fs[i]? with
 | none=>rw[hf]at e;cases e
 | some f=>
  rw[hf]at e;cases e;obtain⟨x,hx,t,l,rfl,a,b⟩:=vj h hf;exact⟨t,l,hx,aI.of a,ae.of b⟩
theorem gf.msk{H H':Hp}{L:List Addr}(hL:hJ H L)(s:ag H H'){b:V}{o:Oi}(h:gf H b o):gf (msk L H') b o:=by
 cases o with
 | none=>exact h
 | some bs=>
  obtain⟨a,e1,e2⟩:=h;exact⟨a,e1,fG (hL.tup e2) (s _ _ e2)⟩
theorem dq.msk{H H':Hp}{L:List Addr}(hL:hJ H L)(s:ag H H'){v:V}{c:dz}(h:dq H v c):dq (msk L H') v c:=by
 obtain⟨t,l,b,e,h1,h2,h3⟩:=h;exact⟨t,l,b,e,fG (hL.tup h1) (s _ _ h1),fG (hL.tup h2) (s _ _ h2),h3.msk hL s⟩
theorem aep{C:Addr}{H:Hp}{Q:VK}{E:XK}{m fa na sa oa:Addr}{p:aQ}{xs ns ss:Lv}(hm:H m=some (.tup (p.ms.map V.int)))(hf:H fa=some (.lst xs))(kS:Paired (nK H) xs p.fs)
 (hn:H na=some (.lst ns)) (iy:Paired (dq H) ns p.ns) (hs:H sa=some (.lst ss)) (C6:Paired (dq H) ss p.ss) (ho:H oa=some (.lst (p.os.map V.str))) (Ky:p.fs.length<=1000) (q:∀x H',H x=none->ag H H'->(∀L,hJ H L->kT C (msk L H') (.ref x) p)->Q (.ref x) H') :
 ∀x dx,H x=none->H dx=none->dx≠x->C0 K C (.ref x::([.str p.nm,.ref m,.int p.rk,.ref fa,.ref na,.ref sa,.ref oa]++[])) (ak (ak H dx (.own x)) x (.ins C dx [])) (fun v H2=>v = .non/\Q (.ref x) H2) E:=by
 intro x dx hx C7 nx;have s1:ag H (ak (ak H dx (.own x)) x (.ins C dx [])):=m6 (jp C7) hx;have C8:(qa p.fs).length=p.fs.length:=by rw[qa,aw]
 refine⟨x,dx,fa,na,sa,oa,.str p.nm,.ref m,.int p.rk,xs,ns,ss,p.os.map V.str,qa p.fs,rfl,bc,ae.of (s1 _ _ hf),?_,ae.of (s1 _ _ hn),ae.of (s1 _ _ hs),ae.of (s1 _ _ ho),by rw[C8];exact Ky,?_⟩
 . exact aeo (bd kS fun _ _=>nK.same s1)
 intro fl pf pn ps po iM H' hF AL n1 n2 n3 n4 hpf qY nJ aR jV keep;have s2:ag H H':=fun b o e=>keep b o (s1 _ _ e) (bv e hx);have fr:∀b,(ak (ak H dx (.own x)) x (.ins C dx [])) b=none->H b=none:=fun b z=>s1.free z;refine⟨rfl,q x H' hx s2 fun L hL=>⟨x,dx,fl,.int p.rk,m,pf,pn,ps,po,iM,rfl,fG (hL.free hx) AL,hF,fG (hL.tup hm) (s2 _ _ hm),fG (hL.free (fr _ n1)) hpf,?_,fG (hL.free (fr _ n4)) jV,rfl,
  ⟨ns,fG (hL.free (fr _ n2)) nJ,bd iy fun _ _=>dq.msk hL s2⟩,⟨ss,fG (hL.free (fr _ n3)) aR,bd C6 fun _ _=>dq.msk hL s2⟩⟩⟩
 refine KJ (by rw[qY.len,C8]) fun i f hi=>?_;obtain⟨t,l,e1,e2,e3,e4,e5,e6,e7⟩:=qY.item i (.str f.1) (f.2.map V.str) (by rw[C8];exact(bZ.mp hi).1) (by rw[qa,bT,hi];rfl);exact⟨_,e1,t,l,rfl,fG (hL.free (fr _ e2)) e6,fG (hL.free (fr _ e3)) e7⟩
structure rZ(K:Fg)(mg:Mv)(S fN fM fP:Addr):Prop where
 cl:jP K S
 nS:iu K S al7
 mN:tS K S alG fN
 mM:tS K S "makes_of" fM
 mP:tS K S ak3 fP
 mgC:mg "Shelf" = some (.ref S)
def ee(p:aQ):List NI:=[.inl (.inr p.nm),.inr (p.ms.map Sum.inl)]
theorem C9{H:Hp}{b m:Addr}{nm:Str}{mk:List Int}(hb:H b=some (.tup [.str nm,.ref m]))(hm:H m=some (.tup (mk.map V.int))):jh H [.inl (.inr nm),.inr (mk.map Sum.inl)] b:=
 ⟨_,hb,.cons rfl (.cons ⟨m,rfl,by rw[hm,Gu];rfl⟩ .nil)⟩
def KL(kvs:List (List NI×V))(vs:Lv)(ps:Lp)(i:Nat):Prop:=kvs.length<=i/\(∀(j:Nat) (p:aQ) (v:V),j<i->ps[j]? = some p->vs[j]? = some v->bK kvs (ee p)=some v)/\Paired (fun(kv:List NI×V) (p:aQ)=>kv.1=ee p) kvs (ps.take i)
def lY(S:Addr)(H:Hp)(v:V)(vs:Lv)(ps:Lp):Prop:=∃a dx fl d kvs,v = .ref a/\H a=some (.ins S dx fl)/\fl.lookup (al7:Str)=some (.ref d)/\fl.lookup (ak3:Str)=none/\fl.lookup (alG:Str)=none/\fl.lookup ("makes_of":Str)=none/\H d=some (.dT kvs)/\KL kvs vs ps ps.length
theorem lY.same{S:Addr}{H H':Hp}{v:V}{vs:Lv}{ps:Lp}(s:ag H H')(h:lY S H v vs ps):lY S H' v vs ps:=by
 obtain⟨a,dx,fl,d,kvs,e,h1,h2,h3,h3a,h3b,h4,h5⟩:=h;exact⟨a,dx,fl,d,kvs,e,s _ _ h1,h2,h3,h3a,h3b,s _ _ h4,h5⟩
def Db(K:Fg)(C S:Addr):Sp:=fun vs H Q _=>∃(x dx a:Addr) (xs:Lv) (ps:Lp),vs = [.ref x,.ref a]/\H x=some (.ins S dx [])/\H a=some (.lst xs)/\fk C H xs ps/\ps.length<=100/\(ps.map ee).Nodup /\
 ∀H',(∀b o,H b=some o->b≠x->H' b=some o)->lY S H' (.ref x) xs ps->Q .non H'
theorem KN:bO [alF,ak8,ak3] [alF,ak8] (aS pT):=⟨rfl,rfl,rfl,by decide +kernel,rfl,by decide +kernel,by decide +kernel⟩
theorem aet{f C S fN fM fP:Addr}{fd:Fy}(F:au K "__init__" "Shelf.__init__" pT f fd)(T:Txt K mg C)(U:rZ K mg S fN fM fP):aB P w K mg base aD 1 f fd [alF,ak8] (Db K C S):=by
 refine F.ok KN (fun vs H Q E h=>?_) (fun aE A outer s H vs Q E hr h=>?_)
 . obtain⟨x,dx,a,xs,ps,rfl,_⟩:=h;rfl
 . refine ck ?_;intro xX dX;obtain⟨x,dx,a,xs,ps,rfl,hx,ha,aR,yO,r9,q⟩:=h;have hu:=hr.units;refine⟨_,(aA (mV (pv 0) Z3 rfl)
    (aG (eu eN rfl (bI (pv 1)) (aX (i:=2) KN.nd rfl (Or.inl rfl))
    (aG (ua hu (iQ (pv 0) rfl) (dm (aa (iQ (pv 2) rfl) (aa (iQ (pv 2) rfl) ah))) (pv 2) rfl))))),?_⟩
   refine rD ?_;intro dD sS fE;refine fun d H1 n1 s1 e1=>?_;refine⟨_,rfl,x,S,dx,_,rfl,s1 _ _ hx,U.cl,U.nS,(by decide),?_⟩;have yN:d≠x:=(bv hx n1).symm;have ax:a≠x:=fz ha hx (by intro z;cases z);have nl:=aM aR;refine⟨_,rfl,a,rfl,⟨_,ae.of (by rw[a8 ax];exact s1 _ _ ha)⟩,?_⟩;refine gu (xs:=xs) (fun i σ H2=>∃u kvs,σ = [some (.ref x),some (.ref a),u]/\(∀b o,H b=some o->b≠x->H2 b=some o)/\H2 x=some (.ins S dx (az al7 (.ref d) []))/\H2 d=some (.dT kvs)/\KL kvs xs ps i)
    ⟨none,[],rfl,fun b o e hb=>by rw[a8 hb];exact s1 _ _ e,bc,by rw[a8 yN];exact e1,av _,fun j p v hj=>absurd hj (qQ _),.nil⟩ ?_ ?_ ?_
   . intro i σ H2 hi vc;refine bX ?_;intro tT;obtain⟨u,kvs,rfl,k2,_⟩:=vc;exact ae.of (k2 _ _ ha ax)
   . intro i v σ H2 hv vd;refine bX ?_;intro tT;obtain⟨u,kvs,rfl,k2,yP,hd2,hk⟩:=vd
     skip
     obtain⟨p,hp,b,dy,fl,rk,m,pf,pn,yQ,po,ys,rfl,h1,h2,h3,h4,h5,h6⟩:=bQ aR hv;have bx:b≠x:=fz h1 hx (by intro z;injection z with _ _ z;subst z;have:=h2.name;cases this);have b2:=k2 _ _ h1 bx;have m2:=k2 _ _ h3 (fz h3 hx (by intro z;cases z));have uE:(az (al7:Str) (V.ref d) []).lookup (al7:Str)=some (.ref d):=by rw[cf,ai rfl]
     refine⟨_,rfl,_,rfl,x,S,dx,_,_,rfl,yP,U.cl,U.nS,uE,_,rfl,b,C,dy,_,_,rfl,b2,T.cl,T.nN,h2.name,_,rfl,b,C,dy,_,_,rfl,b2,T.cl,T.nM,h2.make,(by show 2<=sizeLine;decide),fun t H3 n3 s3 e3=>?_⟩;have aP:=(bZ.mp hv).1;refine⟨d,_,rfl,jT.t (s3 _ _ hd2) (C9 e3 (s3 _ _ m2)) (bp (by have:=hk.1;omega)),?_⟩;refine⟨_,_,rfl,fun c o e hc=>?_,?_,bc,?_,fun j p' v' hj cD tR=>?_,?_⟩
     . rw[a8 (fun z=>by rw[z,n1]at e;cases e)];exact s3 _ _ (k2 _ _ e hc)
     . rw[a8 yN.symm];exact s3 _ _ yP
     . exact bn (rq _ _ _) (Gw hk.1)
     . rw[VO]
       by_cases yM:j=i
       . subst yM;rw[hp]at cD;rw[hv]at tR;cases cD;cases tR;exact ai rfl
       . have iW:j<i:=by omega
         rw[af]
         . exact hk.2.1 j p' v' iW cD tR
         . intro z;have z:ee p'=ee p:=z;refine yM ((Gx (l:=ps.map ee) (i:=j) (j:=i) ?_ r9).mp ?_)
           . rw[aw];have:=(bZ.mp cD).1;omega
           . rw[bT,bT,hp,cD,jH,jH,z]
     . have uN:bK kvs (ee p)=none:=by
        refine aea ?_;rw[CV (key:=ee) (fun _ _ z=>z) hk.2.2];intro hm;obtain⟨p',cD,e'⟩:=bC.mp hm;obtain⟨j,hj⟩:=mK cD;rw[Pd]at hj;split at hj
        . have gZ:j=i:=(Gx (l:=ps.map ee) (by rw[aw];exact(bZ.mp hj).1) r9).mp (by rw[bT,bT,hj,hp,jH,jH,e']);omega
        . cases hj
       show Paired _ (cX kvs (ee p) (.ref b)) (ps.take (i+1));rw[HD _ uN,Gb,hp];refine dr ?_ hk.2.2;rfl
   . intro σ H2 hQ4;refine bX ?_;intro tT;obtain⟨u,kvs,rfl,k2,yP,hd2,hk⟩:=hQ4
     skip
     rw[nl]at hk;exact q H2 k2 ⟨x,dx,_,d,kvs,rfl,yP,by rw[cf,ai rfl],by rw[cf,af (by decide +kernel)];rfl,by rw[cf,af (by decide +kernel)];rfl,by rw[cf,af (by decide +kernel)];rfl,hd2,hk⟩
def KO(K:Fg)(S:Addr):Sp:=fun vs H Q _=>∃(sv v:V) (m:Addr) (xs:Lv) (ps:Lp) (j:Nat) (p:aQ),vs = [sv,.str p.nm,.ref m]/\lY S H sv xs ps/\ps[j]? = some p/\xs[j]? = some v/\H m=some (.tup (p.ms.map V.int))/\∀H',ag H H'->Q v H'
theorem aev:bO [alF,ala,alb] [alF,ala,alb] (aS nB):=⟨rfl,rfl,rfl,by decide +kernel,rfl,by decide +kernel,by decide +kernel⟩
theorem aew{f S fN fM fP:Addr}{fd:Fy}(F:au K ak3 "Shelf.parcel" nB f fd)(U:rZ K mg S fN fM fP):aB P w K mg base aD 1 f fd [alF,ala,alb] (KO K S):=by
 refine F.ok aev (fun vs H Q E h=>?_) (fun aE A outer s H vs Q E hr h=>?_)
 . obtain⟨sv,v,m,xs,ps,j,p,rfl,_⟩:=h;rfl
 . refine ck ?_;intro xX dX;obtain⟨sv,v,m,xs,ps,j,p,rfl,⟨a,dx,fl,d,kvs,rfl,h1,h2,h3,_,_,h4,h5⟩,hp,hv,hm,q⟩:=h;have hu:=hr.units;have KP:=h5.2.1 j p v (bZ.mp hp).1 hp hv;refine⟨_,(aA (ej (wX (WC hu (dm (aa (pv 1) (aa (pv 2) ah))) (iQ (pv 0) rfl)) (by rfl))
    (aG QS) eO)
    (aG (bE (xr hu (iQ (pv 0) rfl) (dm (aa (pv 1) (aa (pv 2) ah))) (fun _ _=>rfl))))),?_⟩
   refine rD ?_;intro dD sS fE;refine⟨_,rfl,_,rfl,(by show 2<=sizeLine;decide),fun t H1 n1 s1 e1=>?_⟩;have g1:cY H1 d (.ref t) (bK kvs (ee p)):=cY.t (s1 _ _ h4) (C9 e1 (s1 _ _ hm));refine⟨_,rfl,a,S,dx,_,_,rfl,s1 _ _ h1,U.cl,U.nS,h2,d,_,rfl,g1,_,rfl,?_⟩;rw[KP];refine bj (fun h=>absurd h (by show ¬((!true)=true);decide)) (fun h=>?_);refine⟨_,rfl,a,S,dx,_,_,rfl,s1 _ _ h1,U.cl,U.nS,h2,_,rfl,_,rfl,(by show 2<=sizeLine;decide),fun t2 H2 n2 s2 e2=>?_⟩;have bA:=s1.trans s2;have g2:cY H2 d (.ref t2) (bK kvs (ee p)):=cY.t (bA _ _ h4) (C9 e2 (bA _ _ hm));rw[KP]at g2;exact⟨d,v,rfl,g2,q H2 bA⟩
end
open PySem.Spec PyProof.Rows
theorem KQ:∀(p:Str) (l:Ls),risingS p l=true->(p::l).Pairwise (fun a b=>a.cps.toList<=b.cps.toList)
 | p,[],_=>AH _ _
 | p,x::r,h=>by
  have h:(!ltCps x.cps.toList p.cps.toList && risingS x r)=true:=h;obtain⟨h1,h2⟩:=Pe.mp h;have ih:=KQ x r h2;have le:p.cps.toList<=x.cps.toList:=by
   rw[ajT]at h1;intro z;rw[aL z]at h1;cases h1
  refine Pf.mpr ⟨fun y hy=>?_,ih⟩
  rcases bh.mp hy with e | hy
  . rw[e];exact le
  . exact List.le_trans le (List.rel_of_pairwise_cons ih hy)
theorem Dc:∀{l:Ls},sortedS l=true->l.Pairwise (fun a b=>a.cps.toList<=b.cps.toList)
 | [],_=>.nil
 | x::r,h=>KQ x r h
theorem aex{a b:Ls}(p:a.Perm b)(h1:sortedS a=true)(h2:sortedS b=true):a=b:=by
 refine ajU (fun x y _ _ h h'=>?_) (Dc h1) (Dc h2) p;have e:=OU h h';obtain⟨⟨x⟩⟩:=x;obtain⟨⟨y⟩⟩:=y;have e:x=y:=e;rw[e]
section
variable {β:Type}
def eG(tr:List (Str×β))(x:Str)(ls:β):List (Str×β):=if (tr.any fun f=>decide (f.1=x))=true then tr.map (fun f=>if f.1=x then(f.1,ls) else f) else tr++[(x,ls)]
theorem yR{tr:List (Str×β)}{x:Str}{ls:β}{f:Str×β}(h:f∈eG tr x ls):f=(x,ls)\/f∈tr:=by
 unfold eG at h;split at h
 . obtain⟨g,hg,e⟩:=bC.mp h;split at e
   . rename_i hx;left;rw[←e,hx]
   . right;rw[←e];exact hg
 . rcases cU.mp h with h | h
   . exact .inr h
   . exact .inl (bD.mp h)
theorem KR(tr:List (Str×β))(x:Str)(ls:β):(eG tr x ls).map (·.1)=if (tr.any fun f=>decide (f.1=x))=true then tr.map (·.1) else tr.map (·.1)++[x]:=by
 unfold eG;split
 . rw[Gu];refine List.map_congr_left fun f _=>?_;show(if f.1=x then(f.1,ls) else f).1=f.1;split<;>rfl
 . rw[gL];rfl
theorem yS{tr:List (Str×β)}{x:Str}:(tr.any fun f=>decide (f.1=x))=true↔x∈tr.map (·.1):=by
 rw[qO,bC];constructor
 . rintro⟨f,hf,e⟩;exact⟨f,hf,b0 e⟩
 . rintro⟨f,hf,e⟩;exact⟨f,hf,aL e⟩
theorem yT{tr:List (Str×β)}{x:Str}{ls:β}(h:(tr.map (·.1)).Nodup):((eG tr x ls).map (·.1)).Nodup:=by
 rw[KR];split
 . exact h
 . rename_i hx;rw[wz];refine⟨h,by simp,fun a ha b hb=>?_⟩;rw[bD.mp hb];intro e;exact hx (yS.mpr (e▸ha))
theorem KS{tr:List (Str×β)}{x y:Str}{ls:β}(h:y=x\/y∈tr.map (·.1)):y∈(eG tr x ls).map (·.1):=by
 rw[KR];split
 . rename_i hx
   rcases h with h | h
   . rw[h];exact yS.mp hx
   . exact h
 . rcases h with h | h
   . rw[h];exact eS _ (bD.mpr rfl)
   . exact oO _ h
theorem aey(tr:List (Str×β))(x:Str)(ls:β):(eG tr x ls).length<=tr.length+1:=by
 unfold eG;split
 . rw[aw];omega
 . rw[bf,iJ];omega
theorem yU{F:aF×V->Str×β->Prop}(hk:∀kv f,F kv f->kv.1=Sum.inr f.1){x:Str}{ls:β}{v:V}(hv:F (.inr x,v) (x,ls)){kvs:List (aF×V)}{tr:List (Str×β)}(h:Paired F kvs tr):Paired F (cX kvs (.inr x) v) (eG tr x ls):=by
 have e:(kvs.any fun kv=>decide (kv.1=Sum.inr x))=(tr.any fun f=>decide (f.1=x)):=by
  induction h with
  | nil=>rfl
  | cons r t ih=>
   rw[tj,tj,ih,hk _ _ r]
   congr 1
   exact Gh.mpr ⟨fun z=>fq z,fun z=>by rw[z]⟩
 unfold cX eG;rw[e];split
 . clear e;rename_i hh;clear hh
   induction h with
   | nil=>exact .nil
   | @cons kv f kvs tr r t ih=>
    refine .cons ?_ ih;have hr:=hk _ _ r;dsimp only
    by_cases hx:f.1=x
    . have KU:kv.1=Sum.inr x:=by rw[hr,hx]
      rw[ai KU,ai hx,KU,hx];exact hv
    . rw[af (fun z=>hx (fq (hr.symm.trans z))),af hx];exact r
 . exact dr hv h
end
theorem Dd{β:Type}{F:aF×V->Str×β->Prop}(hk:∀kv f,F kv f->kv.1=Sum.inr f.1){kvs:List (aF×V)}{tr:List (Str×β)}(h:Paired F kvs tr):pB kvs (tr.map (·.1)):=by
 unfold pB
 induction h with
 | nil=>rfl
 | cons r t ih=>rw[b9,b9,b9,ih,hk _ _ r]
theorem aez{β:Type}{F:aF×V->Str×β->Prop}(hk:∀kv f,F kv f->kv.1=Sum.inr f.1){kvs:List (aF×V)}{tr:List (Str×β)}(h:Paired F kvs tr){x:Str}(hx:x∈tr.map (·.1)):∃v ls,bK kvs (.inr x)=some v/\(x,ls)∈tr/\F (.inr x,v) (x,ls):=by
 induction h with
 | nil=>cases hx
 | @cons kv f kvs tr r t ih=>
  have hr:=hk _ _ r
  by_cases e:f.1=x
  . refine⟨kv.2,f.2,by rw[gW (hr.trans (by rw[e]))],?_,?_⟩
    . rw[←e];exact cS
    . rw[←e,←hr];exact r
  . rcases bh.mp hx with z | z
    . exact absurd z.symm e
    . obtain⟨v,ls,a,b,c⟩:=ih z;exact⟨v,ls,by rw[gw (fun q=>e (fq (hr.symm.trans q)))];exact a,cT _ b,c⟩
theorem aeA{β:Type}{F:aF×V->Str×β->Prop}(hk:∀kv f,F kv f->kv.1=Sum.inr f.1){kvs:List (aF×V)}{tr:List (Str×β)}(h:Paired F kvs tr){x:Str}(hx:x∉tr.map (·.1)):bK kvs (.inr x)=none:=by
 induction h with
 | nil=>rfl
 | @cons kv f kvs tr r t ih=>
  have hr:=hk _ _ r;rw[b9,bh,not_or]at hx;rw[gw (fun q=>hx.1 (fq (hr.symm.trans q)).symm)];exact ih hx.2
theorem KW{β:Type}{tr:List (Str×β)}(h:(tr.map (·.1)).Nodup){x:Str}{a b:β}(ha:(x,a)∈tr)(hb:(x,b)∈tr):a=b:=by
 induction tr with
 | nil=>cases ha
 | cons f tr ih=>
  rw[b9,jG]at h
  rcases bh.mp ha with ea | ha
  . rcases bh.mp hb with eb | hb
    . rw[←ea]at eb;exact(Prod.mk.inj eb).2.symm
    . exact absurd (oR (f:=(·.1)) hb) (by rw[←ea]at h;exact h.1)
  . rcases bh.mp hb with eb | hb
    . exact absurd (oR (f:=(·.1)) ha) (by rw[←eb]at h;exact h.1)
    . exact ih h.2 ha hb
abbrev Ch:=List (Str×List Int)
def bR(H:Hp)(kv:aF×V)(e:Str×List Int):Prop:=kv.1 = .inr e.1/\∃m,kv.2 = .ref m/\H m=some (.tup (e.2.map V.int))
theorem bR.same{H H':Hp}(s:ag H H'){kv:aF×V}{e:Str×List Int}(h:bR H kv e):bR H' kv e:=h.elim fun a aeB=>aeB.elim fun m aeC=>aeC.elim fun b c=>⟨a,m,b,s _ _ c⟩
def cw(H:Hp)(c:Addr)(ch:Ch):Prop:=∃kvs,H c=some (.dK kvs)/\Paired (bR H) kvs ch
theorem cw.same{H H':Hp}(s:ag H H'){c:Addr}{ch:Ch}(h:cw H c ch):cw H' c ch:=h.elim fun kvs aeD=>aeD.elim fun a b=>⟨kvs,s _ _ a,bd b fun _ _=>bR.same s⟩
section
variable {P:Program} {w:World} {K:Fg} {mg:Mv} {base:Heap}
def vk(xs:Lv)(ps:Lp)(v:V)(p:aQ):Prop:=∃j:Nat,ps[j]? = some p/\xs[j]? = some v
def KY(xs:Lv)(ps:Lp)(ch:Ch):Prop:=∀e∈ch,∃v p,vk xs ps v p/\p.nm=e.1/\p.ms=e.2
def KZ(S:Addr):Sp:=fun vs H Q _=>∃(sv:V) (c:Addr) (xs:Lv) (ps:Lp) (ch:Ch),vs = [sv,.ref c]/\lY S H sv xs ps/\cw H c ch/\KY xs ps ch/\ch.length<64 /\
 ∀D H' K0 jy,H D=none->ag H H'->H' D=some (.lst K0)->Paired (vk xs ps) K0 jy->(jy.map (·.nm)).Perm (ch.map (·.1))->(∀p∈jy,(p.nm,p.ms)∈ch)->sortedS (jy.map (·.nm))=true->Q (.ref D) H'
theorem aeE:bO [alc,alk] [alc,alk] (aS yq):=⟨rfl,rfl,rfl,by decide +kernel,rfl,by decide +kernel,by decide +kernel⟩
theorem aeF{f S fN fM nL:Addr}{fd sd:Fy}(F:au K alY alY yq f fd)(B:eR mg)(U:rZ K mg S fN fM nL)(se:au K ak3 "Shelf.parcel" nB nL sd):aB P w K mg base aD 2 f fd [alc,alk] (KZ S):=by
 have aeG:aB P w K mg base aD 1 nL sd [alF,ala,alb] (KO K S):=aew se U;have aeH:=se.binds3 (l:=[alF,ala,alb]) (fun _ _ _ _ _ _ _ _ _=>rfl);refine F.ok aeE (fun vs H Q E h=>?_) (fun aE A outer s H vs Q E hr h=>?_)
 . obtain⟨sv,c,xs,ps,ch,rfl,_⟩:=h;rfl
 . refine ck ?_;intro xX dX;obtain⟨sv,c,xs,ps,ch,rfl,hS,hC,hV,pA,q⟩:=h;have hu:=hr.units;obtain⟨kvs,e1,e2⟩:=id hC;have hk:∀kv f,bR H kv f->kv.1=Sum.inr f.1:=fun kv f z=>z.1;have kl:=aM e2;refine⟨_,(aG (bE (eB [ala] [alc,alk] [0,1] ⟨rfl,by decide +kernel,by decide +kernel,by decide +kernel,by decide +kernel,rfl,rfl,rfl⟩ rfl (bI (dU (ZT rfl) (by rfl) B.sorted tI (aa (pv 1) ah))) (fun _ _ _ _=>(aX (i:=0) (show List.Nodup ([ala,alc,alk]:Ls) by decide +kernel) rfl (Or.inl rfl))) (fun _ _ _ _=>jt) (fun _ _ _ _=>(T9 (pv 1) U.cl U.mP aeG hr aeH .nil aK (aa (pv 0) (aa (xr hu (pv 2) (pv 0) (fun _ _=>rfl)) ah))))))),?_⟩;refine⟨_,rfl,c,kvs,_,rfl,e1,Dd hk e2,by omega,fun ys hp hs a H1 n1 s1 a1=>?_⟩;refine⟨a,rfl,⟨_,ae.of a1⟩,?_⟩;refine HZ (σ0:=[none,some sv,some (.ref c)]) (ae.of a1) (fun σ=>∃v,σ = [v,some sv,some (.ref c)]) (fun i zs _=>∃jy,Paired (vk xs ps) zs jy/\jy.map (·.nm)=ys.take i/\∀p∈jy,(p.nm,p.ms)∈ch) ⟨_,rfl⟩ (fun _ _=>⟨[],.nil,rfl,fun _ h=>nomatch h⟩) ?_ ?_
   . intro D i x zs σ H2 k hD hi pX hd h2 vc fV;refine bX ?_;intro tT;obtain⟨v,rfl⟩:=pX;obtain⟨jy,pr,pn,pc⟩:=vc
     skip
     rw[bT]at hi;cases hy:ys[i]? with
     | none=>rw[hy]at hi;cases hi
     | some y=>
      rw[hy]at hi;cases hi;have vm:y∈ch.map (·.1):=hp.mem_iff.mp (dw hy);obtain⟨u,ms,g1,g2,_,m,rfl,g3⟩:=aez hk e2 vm;obtain⟨v2,p,gA,en,em⟩:=hV _ g2;obtain⟨j,j1,j2⟩:=id gA;have en:p.nm=y:=en;have em:p.ms=ms:=em;subst en em;obtain⟨sa,dx,fl,d,kk,rfl,b1,b2,b3,b4,b5⟩:=hS.same (s1.trans h2);have bA:=s1.trans h2;refine⟨_,rfl,sa,dx,fl,rfl,b1,b3,_,rfl,_,rfl,_,rfl,c,_,rfl,(by rw[←g1];exact cY.k (k:=.inr p.nm) (bA _ _ e1)),?_⟩;refine⟨_,v2,m,xs,ps,j,p,rfl,⟨sa,dx,fl,d,kk,rfl,b1,b2,b3,b4,b5⟩,j1,j2,bA _ _ g3,fun H3 s3=>?_⟩;have hl:zs.length<=64:=by
       have e:=fQ List.length pn;rw[aw,dE]at e;have:=aM pr;have:=hp.length_eq;rw[aw]at this;omega
      refine fV _ _ _ ⟨_,rfl⟩ s3 (bp (by omega)) ⟨jy++[p],dr gA pr,?_,fun p' cD=>?_⟩
      . rw[gL,pn,Gb,hy];rfl
      . rcases cU.mp cD with z | z
        . exact pc p' z
        . rw[bD.mp z];exact g2
   . intro D zs H2 hD hd h2 vd;refine bX ?_;intro tT;obtain⟨jy,pr,pn,pc⟩:=vd
     skip
     rw[aw,ca]at pn;refine q D H2 zs jy (s1.free hD) (s1.trans h2) hd pr ?_ pc ?_
     . rw[pn];exact hp
     . rw[pn];exact hs
end
end K51
namespace K51
open PySem L2 PySem.Spec
section
variable {g:TG} {tt:TT} {te:TE} {H1:Hp} {Q:Hp->Prop}
theorem hU{K:Fg}{a D:Addr}{xs:Lv}{σ0:St}(hD:H1 D=none)(hx:ae K H1 a xs)(S:St->Prop)(P:Nat->Lv->Hp->Prop)(s0:S σ0)(st:P 0 [] (ak H1 D (.lst [])))
 (turn:∀i x ys σ H (k:St->V->Hp->Prop) (k':St->Hp->Prop),xs[i]? = some x->S σ->H D=some (.lst ys)->ag H1 H->P i ys H ->
  (∀σ3 y H5,S σ3->ag H H5->ys.length<sizeLine->P (i+1) (ys++[y]) (ak H5 D (.lst (ys++[y])))->k σ3 y H5)->(∀σ3 H4,S σ3->ag H H4->P (i+1) ys H4->k' σ3 H4) ->
  g x σ H fun σ3 H3=>tt σ3 H3 fun ok H4=>if ok=true then te σ3 H4 (k σ3) else k' σ3 H4)
 (done:∀ys H,H D=some (.lst ys)->ag H1 H->P xs.length ys H->Q H) :
 ∃W:Nat->Nat->St->Hp->Prop,(∃m,W 0 m σ0 (ak H1 D (.lst [])))/\kJ (kz K a) g tt te D (fun H'=>Q H') W:=by
 refine⟨fun i m σ H=>m=xs.length - i/\i<=xs.length/\S σ/\∃ys,H D=some (.lst ys)/\ag H1 H/\P i ys H,⟨xs.length,by simp,cj _,s0,[],bc,jp hD,st⟩,?_⟩;intro i m σ H pX;refine bX ?_;intro tT;obtain⟨rfl,hi,hS,ys,hd,hs,hp⟩:=pX
 skip
 have q:ae K H a xs:=ag.seq hs hx
 by_cases aP:i<xs.length
 . refine .inr ⟨⟨xs,xs[i],q,by simp[aP]⟩,fun x H2 hy=>?_⟩;obtain⟨e1,e2⟩:=hy;subst e1;exact turn i x ys σ _ (fun σ3 y H5=>∃ys,H5 D=some (.lst ys)/\ys.length<sizeLine/\∃m',m'<xs.length - i/\(m'=xs.length - (i+1)/\i+1<=xs.length/\S σ3/\∃zs,ak H5 D (.lst (ys++[y])) D=some (.lst zs)/\ag H1 (ak H5 D (.lst (ys++[y])))/\P (i+1) zs (ak H5 D (.lst (ys++[y])))))
    (fun σ3 H4=>∃m',m'<xs.length - i/\(m'=xs.length - (i+1)/\i+1<=xs.length/\S σ3/\∃zs,H4 D=some (.lst zs)/\ag H1 H4/\P (i+1) zs H4)) (e2 xs q) hS hd hs hp
    (fun σ3 y H5 a1 a2 a3 a4=>⟨ys,a2 _ _ hd,a3,xs.length - (i+1),by omega,rfl,aP,a1,ys++[y],bc,m6 (hs.trans a2) hD,a4⟩)
    (fun σ3 H4 a1 a2 a3=>⟨xs.length - (i+1),by omega,rfl,aP,a1,ys,a2 _ _ hd,hs.trans a2,a3⟩)
 . have e:i=xs.length:=by omega
   subst e;exact .inl ⟨⟨xs,q,av _⟩,done ys H hd hs hp⟩
theorem vn{K:Fg}{a D:Addr}{xs:Lv}{σ0:St}(hD:H1 D=none)(hx:ae K H1 a xs)(S:St->Prop)(P:Nat->Lv->Hp->Prop)(s0:S σ0)(st:P 0 [] (ak H1 D (.lst [])))
 (turn:∀i x ys σ H (k:St->V->Hp->Prop),xs[i]? = some x->S σ->H D=some (.lst ys)->ag H1 H->P i ys H ->
  (∀σ3 y H5,S σ3->ag H H5->ys.length<sizeLine->P (i+1) (ys++[y]) (ak H5 D (.lst (ys++[y])))->k σ3 y H5)->g x σ H fun σ3 H3=>te σ3 H3 (k σ3))
 (done:∀ys H,H D=some (.lst ys)->ag H1 H->P xs.length ys H->Q H) :
 ∃W:Nat->Nat->St->Hp->Prop,(∃m,W 0 m σ0 (ak H1 D (.lst [])))/\kJ (kz K a) g rC te D (fun H'=>Q H') W:=
 hU hD hx S P s0 st (fun i x ys σ H k k' a1 a2 a3 a4 a5 a6 _=>turn i x ys σ H k a1 a2 a3 a4 a5 a6) done
end
abbrev dI (ms:List Int):PySem.W.Dat:=.tuple (ms.map PySem.W.Dat.int)
theorem sf{a b:List Int}:dI a=dI b↔a=b:=⟨fun h=>(List.map_inj_right fun x y z=>PySem.W.Dat.int.inj z).mp (PySem.W.Dat.tuple.inj h),fun h=>by rw[h]⟩
theorem qb(n:Nat)(ms:List Int):PySem.W.kqdOk (n+1) (dI ms)=true:=by
 simp only[dI,PySem.W.kqdOk,gr,bC];rintro d ⟨i,_,rfl⟩;simp[PySem.W.kqdOk]
theorem si{K:Fg}{H:Hp}{m:Addr}{ms:List Int}(h:H m=some (.tup (ms.map V.int))):DV K H (.ref m) (dI ms):=.tup (aI.of h) (Bo ms)
theorem aeI{X:Cx}(K:Fg){es:List Expr}{k:Nat}{pos:Pos}{t:mR}{n:Nat}(hc:X.calm=true)(h:jO X es t)(hK:X.K=K:=by rfl)
 (hn:(assignEach es X.env).length=n:=by rfl) (fC:(assignEach es X.env).findIdx? (·.1)=none:=by rfl):PG X (.Tuple es k pos) (xa K n t):=hK▸rc hc h hn fC
theorem vo:∀xs:Ls,(xs.map V.str).all kF=true
 | []=>rfl
 | x::xs=>by rw[b9,Oz,vo xs];rfl
theorem nQ{α:Type}{f:α->Bool}{l:List α}{i:Nat}{x:α}(h:l[i]? = some x):(l.take (i+1)).filter f=(l.take i).filter f++(if f x=true then [x] else []):=iZ h
theorem K1{b:Bool}{ls:List Int}(h:b=true↔dI ls=PySem.W.Dat.tuple []):b=decide (ls = []):=by
 rw[show PySem.W.Dat.tuple []=dI [] from rfl,sf]at h
 by_cases q:ls = []
 . rw[aL q];exact h.mpr q
 . rw[aU q];exact fR.mpr fun z=>q (h.mp z)
section
variable {P:Program} {w:World} {K:Fg} {mg:Mv} {base:Heap}
def K2:Sp:=fun vs H Q _=>∃(a l:Addr) (b:V) (mk ls:List Int) (bl:Oi),vs = [.ref a,.ref l,b]/\H a=some (.tup (mk.map V.int))/\H l=some (.tup (ls.map V.int))/\gf H b bl/\Q (.bl (!HT.lexLt mk ls && yg mk bl)) H
theorem aeJ:bO [alb,al9,ama] [alb,al9,ama] (aS nC):=⟨rfl,rfl,rfl,by decide +kernel,rfl,by decide +kernel,by decide +kernel⟩
theorem aeK{f:Addr}{fd:Fy}(F:au K ald ald nC f fd):aB P w K mg base aD 1 f fd [alb,al9,ama] K2:=by
 refine F.ok aeJ (fun vs H Q E h=>?_) (fun aE A outer s H vs Q E hr h=>?_)
 . obtain⟨a,l,b,mk,ls,bl,rfl,_⟩:=h;rfl
 . refine ck ?_;intro xX dX;obtain⟨a,l,b,mk,ls,bl,rfl,hA,hL,hB,q⟩:=h;have hu:=hr.units0;refine⟨_,aG (bE (q5 (gT (Yu hu) (pv 0) (pv 1) (bq _)) (o4 (GU (gT Hb (pv 2) q0 (bq _)) (o4 (gT (Ve hu) (pv 0) (pv 2) (bq _))))))),?_⟩;refine⟨_,rfl,_,rfl,a,l,mk,ls,rfl,rfl,aI.of hA,aI.of hL,_,rfl,bj (fun h1=>?_) (fun h1=>?_)⟩
   . rw[h1,oQ]at q;cases bl with
     | none=>
      have hB:b = .non:=hB;subst hB;exact⟨_,rfl,rfl,_,rfl,Bm q⟩
     | some bs=>
      obtain⟨c,rfl,hC⟩:=hB;refine⟨_,rfl,rfl,_,rfl,gX ?_⟩;exact⟨_,rfl,_,rfl,a,c,mk,bs,rfl,rfl,aI.of hA,aI.of hC,q⟩
   . rw[fR.mpr h1,mG]at q;exact q
def K3(C:Addr):Sp:=fun vs H Q _=>∃(cv pv:V) (c:dz) (p:aQ),vs = [cv,pv]/\dq H cv c/\kT C H pv p/\∀H',ag H H'->Q (.bl (b8 c p)) H'
theorem yV:bO [als,ak3,ala,al9,ama] [als,ak3] (aS pU):=⟨rfl,rfl,rfl,by decide +kernel,rfl,by decide +kernel,by decide +kernel⟩
theorem aeL{f iC C:Addr}{fd kU:Fy}(F:au K alh alh pU f fd)(iD:au K ald ald nC iC kU)(jz:mg ald = some (.ref iC))(T:Txt K mg C) :
 aB P w K mg base aD 2 f fd [als,ak3] (K3 C):=by
 have aeM:aB P w K mg base aD 1 iC kU [alb,al9,ama] K2:=aeK iD;have aeN:=iD.binds3 (l:=[alb,al9,ama]) (fun _ _ _ _ _ _ _ _ _=>rfl);refine F.ok yV (fun vs H Q E h=>?_) (fun aE A outer s H vs Q E hr h=>?_)
 . obtain⟨cv,v,c,p,rfl,_⟩:=h;rfl
 . refine ck ?_;intro xX dX;obtain⟨cv,v,cl,p,rfl,⟨c,l,b,rfl,c1,c2,c3⟩,⟨a,dx,fl,rk,m,pf,pn,ps,po,xs,rfl,hA,hF,hM,_,_,hO,_⟩,q⟩:=h;have hu:=hr.units;refine⟨_,aA (a9 (i:=2) yV.nd rfl (Or.inl rfl) (bi jS (pv 0) ap (fun _ _=>rfl)))
    (aA (a9 (i:=3) yV.nd rfl (Or.inl rfl) (bi jS (pv 0) ap (fun _ _=>rfl)))
    (aA (a9 (i:=4) yV.nd rfl (Or.inl rfl) (bi jS (pv 0) ap (fun _ _=>rfl)))
    (Bp (fun σ H2=>σ = [some (.ref c),some (.ref a),some (.str cl.nm),some (.ref l),some b]/\H2=H/\(decide (cl.nm=p.nm) && (!HT.lexLt p.ms cl.ls && yg p.ms cl.bl))=false)
     (ej (PW.pt (w5 (cb iP (iQ (pv 1) rfl) (pv 2) (bq _)) (wZ (jj (aO aeM hr rfl jz iD.kp aeN .nil aK (aa (iQ (pv 1) rfl) (aa (pv 3) (aa (pv 4) ah))))))))
      (aG (bE mQ)) eO)
    (aG (bE (q5 (gT A9 (pv 2) (iQ (pv 1) rfl) (by rfl)) (q5 (gT (xw hu) (pv 3) (dm ah) (bq _)) (o4 (gT Hb (pv 4) q0 (bq _)))))))))),?_⟩
   refine xG ?_;intro dD sS nH g9 fE;have a0:bF [V.str cl.nm,.ref l,b] 0=some (V.str cl.nm):=rfl;have a1:bF [V.str cl.nm,.ref l,b] 1=some (V.ref l):=rfl;have a2:bF [V.str cl.nm,.ref l,b] 2=some b:=rfl;refine⟨_,rfl,c,_,_,_,rfl,rfl,aI.of c1,a0,?_⟩;refine⟨_,rfl,c,_,_,_,rfl,rfl,aI.of c1,a1,?_⟩;refine⟨_,rfl,c,_,_,_,rfl,rfl,aI.of c1,a2,?_⟩;refine⟨?_,?_⟩
   . refine⟨_,rfl,a,C,dx,_,_,rfl,hA,T.cl,T.nN,hF.name,_,rfl,rfl,_,rfl,?_⟩;refine bj (fun h1=>?_) (fun h1=>?_)
     . have e1:p.nm=cl.nm:=by
        have:=b0 h1;injection this
       refine⟨_,rfl,a,C,dx,_,_,rfl,hA,T.cl,T.nM,hF.make,_,rfl,_,rfl,m,l,b,p.ms,cl.ls,cl.bl,rfl,hM,c2,c3,_,rfl,?_⟩;refine bj (fun h2=>?_) (fun h2=>?_)
       . have e:b8 cl p=true:=by unfold b8;rw[h2,aL e1.symm];rfl
         rw[e]at q;exact q _ (ag.refl H)
       . exact⟨rfl,rfl,by rw[fR.mpr h2,mH]⟩
     . refine⟨rfl,rfl,?_⟩;have:cl.nm≠p.nm:=fun e=>h1 (by rw[e];exact aL rfl);rw[aU this,mG]
   . rintro σ' H' ⟨rfl,rfl,hN⟩;unfold b8 at q;rw[hN,Am]at q;refine⟨_,rfl,_,rfl,a,C,dx,_,_,rfl,hA,T.cl,T.nO,hF.offers,po,_,rfl,.inl (ae.of hO),rfl,vo _,_,rfl,bj (fun h1=>?_) (fun h1=>?_)⟩
     . have uT:iT (.str cl.nm) (p.os.map V.str)=true:=h1;rw[uT,oQ]at q;refine⟨_,rfl,(by show 0<=sizeLine;decide),fun t H1 n1 s1 e1=>?_⟩;refine⟨dI cl.ls,dI [],si (s1 _ _ c2),si e1,qb 8 _,qb 8 _,fun b1 K4=>⟨b1,rfl,bj (fun h2=>?_) (fun h2=>?_)⟩⟩
       . rw[K1 K4]at h2;rw[h2,oQ]at q;refine⟨_,rfl,rfl,?_⟩;cases yW:cl.bl with
         | none=>
          rw[yW]at c3 q;have c3:b = .non:=c3;subst c3;exact q _ s1
         | some bs=>
          rw[yW]at c3 q;obtain⟨d,rfl,_⟩:=c3;exact q _ s1
       . have e:=K1 K4;rw[fR.mpr h2]at e;rw[←e,mG]at q;exact q _ s1
     . have uT:iT (.str cl.nm) (p.os.map V.str)=false:=fR.mpr h1;rw[uT,mG]at q;exact q _ (ag.refl _)
abbrev aeO (C:Addr) (H:Hp) (ps:Lp) (Q:VK):Prop:=∀D H' ys,H D=none->ag H H'->H' D=some (.lst ys)->fk C H' ys ps->Q (.ref D) H'
def De(C:Addr):Sp:=fun vs H Q _=>∃(cv:V) (a:Addr) (c:dz) (xs:Lv) (ps:Lp),vs = [cv,.ref a]/\dq H cv c/\H a=some (.lst xs)/\fk C H xs ps/\ps.length<=100/\aeO C H (ps.filter (b8 c)) Q
theorem aeP:bO [als,ak8] [als,ak8] (aS rR):=⟨rfl,rfl,rfl,by decide +kernel,rfl,by decide +kernel,by decide +kernel⟩
theorem K5{f j3 iC C:Addr}{fd nU kU:Fy}(F:au K alw alw rR f fd)(jA:au K alh alh pU j3 nU)(kW:mg alh = some (.ref j3))(iD:au K ald ald nC iC kU)(jz:mg ald = some (.ref iC))(T:Txt K mg C) :
 aB P w K mg base aD 3 f fd [als,ak8] (De C):=by
 have aeQ:aB P w K mg base aD 2 j3 nU [als,ak3] (K3 C):=aeL jA iD jz T;have aeR:=jA.binds2 (l:=[als,ak3]) (fun _ _ _ _ _ _ _ _=>rfl);refine F.ok aeP (fun vs H Q E h=>?_) (fun aE A outer s H vs Q E hr h=>?_)
 . obtain⟨cv,a,c,xs,ps,rfl,_⟩:=h;rfl
 . refine ck ?_;intro xX dX;obtain⟨cv,a,c,xs,ps,rfl,hc,ha,aR,yO,q⟩:=h;have hl:=aM aR;refine⟨_,(aG (bE (eB [ak3] [als] [0] ⟨rfl,by decide +kernel,by decide +kernel,by decide +kernel,by decide +kernel,rfl,rfl,rfl⟩ rfl (bI (pv 1)) (fun _ _ _ _=>(aX (i:=0) (show List.Nodup ([ak3,als]:Ls) by decide +kernel) rfl (Or.inl rfl))) (fun _ _ _ _=>f7 (jj (aO aeQ hr rfl kW jA.kp aeR .nil aK (aa (pv 1) (aa (pv 0) ah))))) (fun _ _ _ _=>(pv 0))))),?_⟩;refine⟨_,rfl,a,rfl,⟨_,ae.of ha⟩,?_⟩;intro D hD;refine hU (σ0:=[none,some cv]) hD (ae.of ha) (fun σ=>∃v,σ = [v,some cv]) (fun j zs _=>zs.length<=j/\fk C H zs ((ps.take j).filter (b8 c))) ⟨_,rfl⟩ ⟨av _,.nil⟩ ?_ ?_
   . rintro j y zs σ H3 k k' hy ⟨v,rfl⟩ de h3 ⟨zl,zp⟩ cE bG;obtain⟨p,hp,hE⟩:=bQ aR hy;have aP:=(bZ.mp hp).1;refine⟨_,rfl,_,rfl,cv,y,c,p,rfl,hc.same h3,hE.same h3,fun H4 h4=>⟨_,rfl,?_⟩⟩;refine bj (fun h=>?_) (fun h=>?_)
     . refine⟨_,rfl,cE _ _ _ ⟨_,rfl⟩ h4 (bp (by omega)) ⟨by rw[bf,iJ];omega,?_⟩⟩;rw[nQ hp,ai h];exact dr hE zp
     . refine bG _ _ ⟨_,rfl⟩ h4 ⟨by omega,?_⟩;rw[nQ hp,af h,ft];exact zp
   . rintro zs H3 de h3 ⟨zl,zp⟩;rw[hl,ca]at zp;exact q D H3 zs hD h3 de (zp.same h3)
def K6(C:Addr):Sp:=fun vs H Q _=>∃(v:V) (p:aQ),vs = [v]/\kT C H v p/\p.fs.length<=100/\fb H (.lst ((db p).map V.str)) Q
theorem aeS:bO [ak3] [ak3] (aS uW):=⟨rfl,rfl,rfl,by decide +kernel,rfl,by decide +kernel,by decide +kernel⟩
theorem aeT{f C:Addr}{fd:Fy}(F:au K alH alH uW f fd)(T:Txt K mg C):aB P w K mg base aD 1 f fd [ak3] (K6 C):=by
 refine F.ok aeS (fun vs H Q E h=>?_) (fun aE A outer s H vs Q E hr h=>?_)
 . obtain⟨v,p,rfl,_⟩:=h;rfl
 . refine ck ?_;intro xX dX;obtain⟨v,p,rfl,⟨a,dx,fl,rk,m,pf,pn,ps,po,xs,rfl,hA,hF,hM,lW,kS,_⟩,yO,q⟩:=h;have hl:=aM kS;refine⟨_,(aG (bE (eB [alM,alN] [] [] ⟨rfl,by decide +kernel,by decide +kernel,by decide +kernel,by decide +kernel,rfl,rfl,rfl⟩ rfl (bI (iQ (pv 0) rfl)) (fun _ _ _ _=>(aeI (n:=2) K rfl (iN (aX (i:=0) (show List.Nodup ([alM,alN]:Ls) by decide +kernel) rfl (Or.inl rfl)) (iN (aX (i:=1) (show List.Nodup ([alM,alN]:Ls) by decide +kernel) rfl (Or.inl rfl)) q8)))) (fun _ _ _ _=>jt) (fun _ _ _ _=>(pv 0))))),?_⟩;refine⟨_,rfl,a,C,dx,_,_,rfl,hA,T.cl,T.nF,hF.files,pf,rfl,⟨_,ae.of lW⟩,?_⟩;intro D hD;refine vn (σ0:=[none,none]) hD (ae.of lW) (fun σ=>∃u v,σ = [u,v]) (fun j zs _=>zs=((db p).take j).map V.str) ⟨_,_,rfl⟩ rfl ?_ ?_
   . rintro j y zs σ H3 k hy ⟨u,v,rfl⟩ de h3 rfl cE;obtain⟨f,hf,t,l,rfl,f1,f2⟩:=bQ kS hy;have aP:=(bZ.mp hf).1;have pE:(db p)[j]? = some f.1:=by unfold db;rw[bT,hf];rfl
     refine⟨t,_,rfl,aI.of (h3 _ _ f1),rfl,_,_,rfl,_,_,rfl,rfl,?_⟩;refine⟨_,rfl,cE _ _ _ ⟨_,_,rfl⟩ (ag.refl _) (bp (by rw[aw,dE];omega)) ?_⟩;rw[ff pE,gL];rfl
   . rintro zs H3 de h3 rfl;have e:(db p).take xs.length=db p:=AF (by unfold db;rw[aw];omega);rw[e]at de;exact q D H3 hD h3 de
end
end K51
namespace L2
open PySem PySem.Spec
theorem K7{K:Fg}{a:Addr}{xs:Lv}{g:TG}{tb:TS}{D:Ends}{σ:St}{H:Hp}(Pv:Nat->St->Hp->Prop)(h0:Pv 0 σ H)(hl:∀i σ H,i<=xs.length->Pv i σ H->ae K H a xs)
 (hs:∀i x p σ H,xs[i]? = some x->Pv i σ H->H p=none->g (.ref p) σ (ak H p (.tup [.int i,x])) fun σ2 H2=>tb { D with nx:=Pv (i+1),ct:=Pv (i+1),bk:=D.nx } σ2 H2) (hd:∀σ H,Pv xs.length σ H->D.nx σ H) :
 ∃W:Nat->Nat->St->Hp->Prop,(∃m,W 0 m σ H)/\∀i m σ H,W i m σ H ->
  ((uz K a).stop i H/\D.nx σ H)\/((uz K a).go i H/\∃N:St->Hp->Prop,(∀σ' H',N σ' H'->∃m',m'<m/\W (i+1) m' σ' H')/\∀x H',(uz K a).yld i H x H'->g x σ H' fun σ2 H2=>tb { D with nx:=N,ct:=N,bk:=D.nx } σ2 H2):=by
 refine⟨fun i m σ H=>m=xs.length - i/\i<=xs.length/\Pv i σ H,⟨xs.length,by simp,cj _,h0⟩,?_⟩;rintro i m σ H ⟨rfl,hi,p⟩;have q:=hl i σ H hi p
 by_cases aP:i<xs.length
 . refine .inr ⟨⟨xs,xs[i],q,by simp[aP]⟩,Pv (i+1),fun σ' H' p'=>⟨xs.length - (i+1),by omega,rfl,aP,p'⟩,fun x H' y=>?_⟩;obtain⟨b,x',hb,e,rfl,rfl⟩:=y;exact hs i x' b σ _ (e xs q) p hb
 . have e:i=xs.length:=by omega
   subst e;exact .inl ⟨⟨xs,q,av _⟩,hd σ H p⟩
end L2
namespace K51
open PySem L2 PySem.Spec
open HT (At cZ dL)
def jB(H:Hp)(v:V)(k:List At):Prop:=∃t,v = .ref t/\H t=some (.tup (k.map aV))
abbrev gg (H:Hp):Lv->List (List At)->Prop:=Paired (jB H)
theorem jB.same{H H':Hp}(s:ag H H'){v:V}{k:List At}(h:jB H v k):jB H' v k:=h.elim fun t aeU=>aeU.elim fun a b=>⟨t,a,s _ _ b⟩
theorem gg.same{H H':Hp}(s:ag H H'){vs:Lv}{ks:List (List At)}(h:gg H vs ks):gg H' vs ks:=bd h fun _ _=>jB.same s
theorem jB.mut{H:Hp}{p:Addr}{ys:Lv}{o:HO}(hp:H p=some (.lst ys)){v:V}{k:List At}(h:jB H v k):jB (ak H p o) v k:=h.elim fun t aeV=>aeV.elim fun a b=>⟨t,a,bL b (fz b hp (by intro z;cases z))⟩
theorem gg.mut{H:Hp}{p:Addr}{ys:Lv}{o:HO}(hp:H p=some (.lst ys)){vs:Lv}{ks:List (List At)}(h:gg H vs ks):gg (ak H p o) vs ks:=bd h fun _ _=>jB.mut hp
theorem nV{α β:Type}{F:α->β->Prop}:∀{xs iM:List α} {ys aJ:List β},Paired F xs ys->Paired F iM aJ->Paired F (xs++iM) (ys++aJ)
 | _,_,_,_,.nil,h=>h
 | _,_,_,_,.cons r t,h=>.cons r (nV t h)
theorem fH{H H2:Hp}{p:Addr}{o:HO}(n:H p=none)(s:ag H H2):ag H (ak H2 p o):=fun b u e=>bL (s _ _ e) (bv e n)
abbrev aeW (H:Hp) (ks:List (List At)) (Q:VK):Prop:=∀D H' ys,H D=none->ag H H'->H' D=some (.lst ys)->gg H' ys ks->Q (.ref D) H'
theorem K8{f:Nat->dz->List (List At)}{m:Nat}(h:∀i x,(f i x).length<=m){l:List dz}{i:Nat}:(dM f (l.take i) 0).length<=l.length * m:=
 bn (yj h) (Gv _ (by rw[dE];omega))
theorem aeX(p:aQ)(ps:Lp)(i:Nat)(c:dz):(i4 p ps i c).length<=1:=by unfold i4;split<;>simp
theorem aeY(p:aQ)(ps:Lp)(i:Nat)(c:dz):(pR p ps i c).length<=ps.length:=by
 unfold pR jw;rw[aw];exact bn (iK _ _) (iK _ _)
section
variable {P:Program} {w:World} {K:Fg} {mg:Mv} {base:Heap}
def sj(C:Addr)(f:aQ->Lp->List (List At)):Sp:=fun vs H Q _=>∃(v:V) (a:Addr) (xs:Lv) (p:aQ) (ps:Lp),vs = [v,.ref a]/\kT C H v p/\H a=some (.lst xs)/\fk C H xs ps/\ps.length<=9/\p.ns.length<=9/\p.ss.length<=9/\(∀o∈p::ps,o.fs.length<=9)/\aeW H (f p ps) Q
theorem yX:bO [ak3,ak8,"faults","number",als] [ak3,ak8] (aS yt):=⟨rfl,rfl,rfl,by decide +kernel,rfl,by decide +kernel,by decide +kernel⟩
theorem aeZ{f lZ j3 iC C:Addr}{fd qe nU kU:Fy}(F:au K alR alR yt f fd)(B:eR mg)(T:Txt K mg C)(jC:au K alw alw rR lZ qe)(nW:mg alw = some (.ref lZ))
 (jA:au K alh alh pU j3 nU) (kW:mg alh = some (.ref j3)) (iD:au K ald ald nC iC kU) (jz:mg ald = some (.ref iC)):aB P w K mg base aD 4 f fd [ak3,ak8] (sj C lV):=by
 have Df:aB P w K mg base aD 3 lZ qe [als,ak8] (De C):=K5 jC jA kW iD jz T;have Dg:=jC.binds2 (l:=[als,ak8]) (fun _ _ _ _ _ _ _ _=>rfl);refine F.ok yX (fun vs H Q E h=>?_) (fun aE A outer s H vs Q E hr h=>?_)
 . obtain⟨v,a,xs,p,ps,rfl,_⟩:=h;rfl
 . refine ck ?_;intro xX dX;obtain⟨v,a,xs,p,ps,rfl,⟨b,dx,fl,rk,m,pf,pn,yQ,po,fx,rfl,hA,hF,hM,lW,kS,hO,hR,⟨cx,qg,hX⟩,_⟩,ha,aR,l1,l2,l3,l4,q⟩:=h;refine⟨_,(aA (a9 (i:=2) yX.nd rfl (Or.inl rfl) (cq ah))
    (aA (eu eN rfl (Jr (by rfl) B.enumerate (aa (iQ (pv 0) rfl) ah)) (rc rfl (iN (aX (i:=3) yX.nd rfl (Or.inl rfl)) (iN (aX (i:=4) yX.nd rfl (Or.inl rfl)) q8)))
    (aG (ej (cb iP (dU jm (by rfl) B.len jg (aa (aO Df hr rfl nW jC.kp Dg .nil aK (aa (pv 4) (aa (pv 1) ah))) ah)) ap (bq _))
     (aG (gR (jn km wG wH pi (pv 2) (aa (dm (aa tO (aa (iQ (pv 0) rfl) (aa (pv 3) ah)))) ah)))) eO)))
    (aG (bE (pv 2))))),?_⟩
   refine kK ?_;intro dD sS g9 fE;refine⟨(by show 0<=sizeLine;decide),fun p1 H1 n1 s1 e1=>?_⟩;refine⟨_,rfl,b,C,dx,_,_,rfl,s1 _ _ hA,T.cl,T.nE,hF.needs,pn,rfl,⟨_,ae.of (s1 _ _ qg)⟩,?_⟩;have cl:=aM hX;refine K7 (xs:=cx) (fun i σ H2=>∃u v zs,σ = [some (.ref b),some (.ref a),some (.ref p1),u,v]/\ag H H2/\H2 p1=some (.lst zs)/\gg H2 zs (dM (i4 p ps) (p.ns.take i) 0)) ⟨none,none,[],rfl,s1,e1,.nil⟩ ?_ ?_ ?_
   . intro i σ H2 hi hQ;obtain⟨u,v,zs,rfl,s2,e2,z2⟩:=hQ;exact ae.of (s2 _ _ qg)
   . intro i z t σ H2 hz hQ ht;refine bX ?_;intro tT;obtain⟨u,v,zs,rfl,s2,e2,z2⟩:=hQ;obtain⟨c,hc,Dh⟩:=bQ hX hz;have st:ag H2 (ak H2 t (.tup [.int i,z])):=jp ht;refine⟨t,_,rfl,aI.of bc,rfl,_,_,rfl,_,_,rfl,rfl,?_⟩;have s3:=s2.trans st;refine⟨_,rfl,_,rfl,z,a,c,xs,ps,rfl,Dh.same s3,s3 _ _ ha,aR.same s3,by omega,fun D H4 ys n4 s4 e4 z4=>⟨D,_,rfl,.inl (ae.of e4),rfl,_,rfl,?_⟩⟩;have lz:=aM z4;have vp:=st.trans s4;have gs:=Kj (f:=i4 p ps) hc;have zl:=aM z2;have gl:=K8 (m:=1) (aeX p ps) (l:=p.ns) (i:=i);refine bj (fun h=>?_) (fun h=>?_)
     . have h0:ps.filter (b8 c) = []:=by
        have:=b0 h;injection this with this
        exact Gy (by omega)
       refine⟨_,rfl,.inl ⟨rfl,_,ae.of (vp _ _ e2)⟩,_,rfl,b,C,dx,_,_,rfl,(s3.trans s4) _ _ hA,T.cl,T.nN,hF.name,_,rfl,(by show 3<=sizeLine;decide),fun p5 H5 n5 s5 e5=>?_⟩;have qh:=(vp.trans s5) _ _ e2;refine⟨p1,_,_,rfl,rfl,qh,bp (by omega),?_⟩;refine⟨_,_,_,rfl,fH n1 ((s3.trans s4).trans s5),bc,?_⟩;rw[gs,i4,ai h0];exact dr (jB.mut (k:=[.inr rQ,.inr p.nm,.inl i]) qh ⟨p5,rfl,e5⟩) ((z2.same (vp.trans s5)).mut qh)
     . have h0:ps.filter (b8 c)≠[]:=fun z=>h (by rw[lz,z];exact aL rfl);refine⟨_,_,zs,rfl,s3.trans s4,vp _ _ e2,?_⟩;rw[gs,i4,af h0,ft];exact z2.same vp
   . intro σ H2 hQ;obtain⟨u,v,zs,rfl,s2,e2,z2⟩:=hQ;rw[cl,ca]at z2;exact⟨_,rfl,q p1 H2 zs n1 s2 e2 z2⟩
theorem vq:bO [ak3,ak8,"others","faults","number",als] [ak3,ak8] (aS yu):=⟨rfl,rfl,rfl,by decide +kernel,rfl,by decide +kernel,by decide +kernel⟩
theorem ae0{f lZ j3 iC C:Addr}{fd qe nU kU:Fy}(F:au K alS alS yu f fd)(B:eR mg)(T:Txt K mg C)(jC:au K alw alw rR lZ qe)(nW:mg alw = some (.ref lZ))
 (jA:au K alh alh pU j3 nU) (kW:mg alh = some (.ref j3)) (iD:au K ald ald nC iC kU) (jz:mg ald = some (.ref iC)):aB P w K mg base aD 4 f fd [ak3,ak8] (sj C nv):=by
 have Df:aB P w K mg base aD 3 lZ qe [als,ak8] (De C):=K5 jC jA kW iD jz T;have Dg:=jC.binds2 (l:=[als,ak8]) (fun _ _ _ _ _ _ _ _=>rfl);refine F.ok vq (fun vs H Q E h=>?_) (fun aE A outer s H vs Q E hr h=>?_)
 . obtain⟨v,a,xs,p,ps,rfl,_⟩:=h;rfl
 . refine ck ?_;intro xX dX;obtain⟨v,a,xs,p,ps,rfl,⟨b,dx,fl,rk,m,pf,pn,yQ,po,fx,rfl,hA,hF,hM,lW,kS,hO,hR,_,⟨cx,qg,hX⟩⟩,ha,aR,l1,l2,l3,l4,q⟩:=h;have hlen:=aM aR;refine⟨_,(Bp (fun σ H2=>∃D zs,σ = [some (.ref b),some (.ref a),some (.ref D),none,none,none]/\ag H H2/\H2 D=some (.lst zs)/\fk C H2 zs (jw p ps)) (pw (i:=2) [alX] [ak3] [0] vq.nd rfl rfl ⟨rfl,by decide +kernel,by decide +kernel,by decide +kernel,by decide +kernel,rfl,rfl,rfl⟩ rfl (bI (pv 1)) (fun _ _ _ _=>(aX (i:=0) (show List.Nodup ([alX,ak3]:Ls) by decide +kernel) rfl (Or.inl rfl))) (fun _ _ _ _=>f7 (cb G9 (nh K (pv 0) rfl) (nh K (pv 1) rfl) (bq _))) (fun _ _ _ _=>(pv 0)))
    (aA (a9 (i:=3) vq.nd rfl (Or.inl rfl) (cq ah))
    (aA (eu eN rfl (Jr (by rfl) B.enumerate (aa (iQ (pv 0) rfl) ah)) (rc rfl (iN (aX (i:=4) vq.nd rfl (Or.inr rfl)) (iN (aX (i:=5) vq.nd rfl (Or.inl rfl)) q8)))
    (aG (gR (jn km wI wJ ro (pv 3) (aa (eB [alX] [ak3,"number"] [0,4] ⟨rfl,by decide +kernel,by decide +kernel,by decide +kernel,by decide +kernel,rfl,rfl,rfl⟩ rfl (bI (aO Df hr rfl nW jC.kp Dg .nil aK (aa (pv 5) (aa (pv 2) ah)))) (fun _ _ _ _=>(aX (i:=0) (show List.Nodup ([alX,ak3,"number"]:Ls) by decide +kernel) rfl (Or.inl rfl))) (fun _ _ _ _=>jt) (fun _ _ _ _=>(dm (aa tO (aa (nh K (pv 1) rfl) (aa (pv 2) (aa (nh K (pv 0) rfl) ah))))))) ah)))))
    (aG (bE (pv 3)))))),?_⟩
   refine⟨?_,?_⟩
   . refine⟨_,rfl,a,rfl,⟨_,ae.of ha⟩,?_⟩;intro D hD;refine hU (σ0:=[none,some (.ref b)]) hD (ae.of ha) (fun σ=>∃v,σ = [v,some (.ref b)]) (fun j zs _=>zs.length<=j/\fk C H zs (jw p (ps.take j))) ⟨_,rfl⟩ ⟨av _,.nil⟩ ?_ ?_
     . rintro j y zs σ H3 k k' hy ⟨v,rfl⟩ de h3 ⟨zl,zp⟩ cE bG;obtain⟨o,ho,hE⟩:=bQ aR hy;have aP:=(bZ.mp ho).1;obtain⟨b',md,nI,Di,m',Dj,Dl,Dm,Dn,Do,rfl,qi,qj,_⟩:=id hE;refine⟨_,rfl,b',C,md,_,_,rfl,h3 _ _ qi,T.cl,T.nN,qj.name,_,rfl,b,C,dx,_,_,rfl,h3 _ _ hA,T.cl,T.nN,hF.name,rfl,_,rfl,?_⟩;refine bj (fun h=>?_) (fun h=>?_)
       . refine⟨_,rfl,cE _ _ _ ⟨_,rfl⟩ (ag.refl _) (bp (by omega)) ⟨by rw[bf,iJ];omega,?_⟩⟩;have h0:o.nm≠p.nm:=fun z=>by
          rw[z]at h;simp at h
         unfold jw;rw[nQ ho,ai (aL h0)];exact dr hE zp
       . refine bG _ _ ⟨_,rfl⟩ (ag.refl _) ⟨by omega,?_⟩;have h0:¬o.nm≠p.nm:=fun z=>h (by simpa using z);unfold jw;rw[nQ ho,af (by rw[aU h0];decide),ft];exact zp
     . rintro zs H3 de h3 ⟨zl,zp⟩;rw[hlen,ca]at zp;exact⟨D,zs,rfl,h3,de,zp.same h3⟩
   . intro σ' H0 Dp;obtain⟨D0,oz,rfl,s0,d0,yY⟩:=Dp;refine⟨(by show 0<=sizeLine;decide),fun p1 H1 n1 s1 e1=>?_⟩;have K9:=s0.trans s1;have yZ:H p1=none:=s0.free n1;refine⟨_,rfl,b,C,dx,_,_,rfl,K9 _ _ hA,T.cl,T.nS,hF.shuts,yQ,rfl,⟨_,ae.of (K9 _ _ qg)⟩,?_⟩;have cl:=aM hX;refine K7 (xs:=cx) (fun i σ H2=>∃u v zs,σ = [some (.ref b),some (.ref a),some (.ref D0),some (.ref p1),u,v]/\ag H0 H2/\H2 p1=some (.lst zs)/\gg H2 zs (dM (pR p ps) (p.ss.take i) 0)) ⟨none,none,[],rfl,s1,e1,.nil⟩ ?_ ?_ ?_
     . intro i σ H2 hi hQ;obtain⟨u,v,zs,rfl,s2,e2,z2⟩:=hQ;exact ae.of (s2 _ _ (s0 _ _ qg))
     . intro i z t σ H2 hz hQ ht;refine bX ?_;intro tT;obtain⟨u,v,zs,rfl,s2,e2,z2⟩:=hQ;obtain⟨c,hc,Dh⟩:=bQ hX hz;have st:ag H2 (ak H2 t (.tup [.int i,z])):=jp ht;refine⟨t,_,rfl,aI.of bc,rfl,_,_,rfl,_,_,rfl,rfl,?_⟩;have s3:=s2.trans st;have ol:(jw p ps).length<=ps.length:=iK _ _;refine⟨_,rfl,.inl ⟨rfl,_,ae.of (st _ _ e2)⟩,_,rfl,_,rfl,z,D0,c,oz,jw p ps,rfl,Dh.same (s0.trans s3),s3 _ _ d0,yY.same s3,by omega,fun D H4 ys n4 s4 e4 z4=>⟨D,rfl,⟨_,ae.of e4⟩,?_⟩⟩;have lz:=aM z4;have vt:=s3.trans s4;have gs:=Kj (f:=pR p ps) hc;have zl:=aM z2;have gl:=bn (K8 (m:=ps.length) (aeY p ps) (l:=p.ss) (i:=i)) (O1 l3 l1);have nI:((jw p ps).filter (b8 c)).length<=ps.length:=bn (iK _ _) ol;intro D5 Dq;refine vn (σ0:=[none,some (.ref b),some (.int i)]) Dq (ae.of e4) (fun σ=>∃v,σ = [v,some (.ref b),some (.int i)]) (fun j zs' H5=>gg H5 zs' ((((jw p ps).filter (b8 c)).take j).map fun o=>[.inr nu,.inr p.nm,.inl i,.inr o.nm])) ⟨_,rfl⟩ .nil ?_ ?_
       . rintro j y zs' σ H5 k hy ⟨v,rfl⟩ iE h5 zp cE;obtain⟨o,ho,b',md,akp,Di,m',Dj,Dl,Dm,Dn,Do,rfl,qi,qj,_⟩:=bQ z4 hy;have aP:=(bZ.mp ho).1;have vv:=aM zp;rw[aw,dE]at vv;refine⟨_,rfl,b,C,dx,_,_,rfl,((s0.trans vt).trans h5) _ _ hA,T.cl,T.nN,hF.name,_,rfl,_,rfl,b',C,md,_,_,rfl,h5 _ _ qi,T.cl,T.nN,qj.name,(by show 4<=sizeLine;decide),fun p6 H6 n6 s6 e6=>?_⟩;have d6:=s6 _ _ iE;refine cE _ _ _ ⟨_,rfl⟩ s6 (bp (by omega)) ?_;rw[ff ho,gL];exact dr (jB.mut (k:=[.inr nu,.inr p.nm,.inl i,.inr o.nm]) d6 ⟨p6,rfl,e6⟩) ((zp.same s6).mut d6)
       . rintro zs' H5 iE h5 zp;rw[AF (by omega)]at zp;have vv:=aM zp;rw[aw]at vv;have qh:=(st.trans (s4.trans h5)) _ _ e2;refine⟨p1,D5,_,_,rfl,rfl,qh,iE,gK (bp (by omega)),?_⟩;refine⟨_,_,_,rfl,fH n1 (vt.trans h5),bc,?_⟩;rw[gs];exact nV ((z2.same (st.trans (s4.trans h5))).mut qh) (zp.mut qh)
     . intro σ H2 hQ;obtain⟨u,v,zs,rfl,s2,e2,z2⟩:=hQ;rw[cl,ca]at z2;exact⟨_,rfl,q p1 H2 zs yZ (s0.trans s2) e2 z2⟩
end
open PyProof.Rows
theorem Dr{z:Str}{xs:Ls}:iT (.str z) (xs.map V.str)=true↔z∈xs:=by
 unfold iT;rw[qO];constructor
 . rintro⟨v,hv,e⟩;obtain⟨y,hy,rfl⟩:=bC.mp hv;have:y=z:=by simpa [kG]using e
   rw[←this];exact hy
 . intro h;exact⟨.str z,oR h,by simp[kG]⟩
theorem La{α β:Type}{f:α->List β}{l:List α}{i:Nat}:((l.take i).flatMap f).length<=(l.flatMap f).length:=by
 have e:l.flatMap f=(l.take i).flatMap f++(l.drop i).flatMap f:=by rw[←O8,ki]
 rw[e,bf];omega
theorem Lb{p o:aQ}:(jx p o).length<=p.fs.length:=by
 unfold jx uU db;rw[aw];exact bn (iK _ _) (by rw[aw];exact av _)
section
variable {P:Program} {w:World} {K:Fg} {mg:Mv} {base:Heap}
theorem vw:bO [ak3,ak8,"others","faults",alX,"paths"] [ak3,ak8] (aS yw):=⟨rfl,rfl,rfl,by decide +kernel,rfl,by decide +kernel,by decide +kernel⟩
theorem ae1{f vx C:Addr}{fd y0:Fy}(F:au K alO alO yw f fd)(B:eR mg)(T:Txt K mg C)(nX:au K alH alH uW vx y0)(sk:mg alH = some (.ref vx)):aB P w K mg base aD 2 f fd [ak3,ak8] (sj C ny):=by
 have Lc:aB P w K mg base aD 1 vx y0 [ak3] (K6 C):=aeT nX T;have Ld:=nX.binds1 (l:=[ak3]) (fun _ _ _ _ _ _ _=>rfl);refine F.ok vw (fun vs H Q E h=>?_) (fun aE A outer s H vs Q E hr h=>?_)
 . obtain⟨v,a,xs,p,ps,rfl,_⟩:=h;rfl
 . refine ck ?_;intro xX dX;obtain⟨v,a,xs,p,ps,rfl,hP,ha,aR,l1,l2,l3,l4,q⟩:=h;obtain⟨b,dx,fl,rk,m,pf,pn,yQ,po,fx,rfl,hA,hF,_⟩:=id hP;have hlen:=aM aR;have lp:p.fs.length<=9:=l4 p (.head _);refine⟨_,(Bp (fun σ H2=>∃D zs,σ = [some (.ref b),some (.ref a),some (.ref D),none,none,none]/\ag H H2/\H2 D=some (.lst zs)/\fk C H2 zs (ps.filter fun o=>cJ p.nm o.nm)) (pw (i:=2) [alX] [ak3] [0] vw.nd rfl rfl ⟨rfl,by decide +kernel,by decide +kernel,by decide +kernel,by decide +kernel,rfl,rfl,rfl⟩ rfl (bI (pv 1)) (fun _ _ _ _=>(aX (i:=0) (show List.Nodup ([alX,ak3]:Ls) by decide +kernel) rfl (Or.inl rfl))) (fun _ _ _ _=>f7 (cb JC (nh K (pv 0) rfl) (nh K (pv 1) rfl) (bq _))) (fun _ _ _ _=>(pv 0)))
    (aA (a9 (i:=3) vw.nd rfl (Or.inl rfl) (cq ah))
    (aA (eu eN rfl (bI (pv 2)) (aX (i:=4) vw.nd rfl (Or.inr rfl))
    (aA (a9 (i:=5) vw.nd rfl (Or.inr rfl) (aO Lc hr rfl sk nX.kp Ld .nil aK (aa (pv 4) ah)))
     (aG (gR (jn km wI wJ ro (pv 3) (aa (eB [alM] [ak3,alX,"paths"] [0,4,5] ⟨rfl,by decide +kernel,by decide +kernel,by decide +kernel,by decide +kernel,rfl,rfl,rfl⟩ rfl (bI (aO Lc hr rfl sk nX.kp Ld .nil aK (aa (pv 0) ah))) (fun _ _ _ _=>(aX (i:=0) (show List.Nodup ([alM,ak3,alX,"paths"]:Ls) by decide +kernel) rfl (Or.inl rfl))) (fun _ _ _ _=>f7 (cb (ZG K) (pv 0) (pv 3) (by rfl))) (fun _ _ _ _=>(dm (aa tO (aa (nh K (pv 1) rfl) (aa (nh K (pv 2) rfl) (aa (pv 0) ah))))))) ah))))))
    (aG (bE (pv 3)))))),?_⟩
   refine⟨?_,?_⟩
   . refine⟨_,rfl,a,rfl,⟨_,ae.of ha⟩,?_⟩;intro D hD;refine hU (σ0:=[none,some (.ref b)]) hD (ae.of ha) (fun σ=>∃v,σ = [v,some (.ref b)]) (fun j zs _=>zs.length<=j/\fk C H zs ((ps.take j).filter fun o=>cJ p.nm o.nm)) ⟨_,rfl⟩ ⟨av _,.nil⟩ ?_ ?_
     . rintro j y zs σ H3 k k' hy ⟨v,rfl⟩ de h3 ⟨zl,zp⟩ cE bG;obtain⟨o,ho,hE⟩:=bQ aR hy;have aP:=(bZ.mp ho).1;obtain⟨b',md,nI,Di,m',Dj,Dl,Dm,Dn,Do,rfl,qi,qj,_⟩:=id hE;refine⟨_,rfl,b',C,md,_,_,rfl,h3 _ _ qi,T.cl,T.nN,qj.name,_,rfl,b,C,dx,_,_,rfl,h3 _ _ hA,T.cl,T.nN,hF.name,_,_,rfl,rfl,_,rfl,?_⟩;refine bj (fun h=>?_) (fun h=>?_)
       . refine⟨_,rfl,cE _ _ _ ⟨_,rfl⟩ (ag.refl _) (bp (by omega)) ⟨by rw[bf,iJ];omega,?_⟩⟩;rw[nQ ho,ai (show cJ p.nm o.nm=true from h)];exact dr hE zp
       . refine bG _ _ ⟨_,rfl⟩ (ag.refl _) ⟨by omega,?_⟩;rw[nQ ho,af (show ¬cJ p.nm o.nm=true from h),ft];exact zp
     . rintro zs H3 de h3 ⟨zl,zp⟩;rw[hlen,ca]at zp;exact⟨D,zs,rfl,h3,de,zp.same h3⟩
   . intro σ' H0 Dp;obtain⟨D0,oz,rfl,s0,d0,yY⟩:=Dp;refine⟨(by show 0<=sizeLine;decide),fun p1 H1 n1 s1 e1=>?_⟩;have yZ:H p1=none:=s0.free n1;refine⟨_,rfl,D0,rfl,⟨_,ae.of (s1 _ _ d0)⟩,?_⟩;have ol:(ps.filter fun o=>cJ p.nm o.nm).length<=ps.length:=iK _ _;have ozl:=aM yY;have Le:((ps.filter fun o=>cJ p.nm o.nm).flatMap (jx p)).length<=81:=by
      refine bn (Ko (m:=9) (fun o=>bn Lb lp) _) ?_;omega
     refine gu (xs:=oz) (fun i σ H2=>∃u v zs,σ = [some (.ref b),some (.ref a),some (.ref D0),some (.ref p1),u,v]/\ag H0 H2/\H2 p1=some (.lst zs)/\gg H2 zs (((ps.filter fun o=>cJ p.nm o.nm).take i).flatMap (jx p))) ⟨none,none,[],rfl,s1,e1,.nil⟩ ?_ ?_ ?_
     . intro i σ H2 hi hQ;obtain⟨u,v,zs,rfl,s2,e2,z2⟩:=hQ;exact ae.of (s2 _ _ d0)
     . intro i z σ H2 hz hQ;refine bX ?_;intro tT;obtain⟨u,v,zs,rfl,s2,e2,z2⟩:=hQ;obtain⟨o,ho,hE⟩:=bQ yY hz;have om:o∈ps:=(dC.mp (dw ho)).1;have lo:o.fs.length<=9:=l4 o (.tail _ om);obtain⟨b',md,nI,Di,m',Dj,Dl,Dm,Dn,Do,rfl,qi,qj,_⟩:=id hE;refine⟨_,rfl,_,o,rfl,hE.same s2,by omega,fun l5 H5 n5 s5 e5=>?_⟩;have nY:=s2.trans s5;refine⟨_,rfl,.inl ⟨rfl,_,ae.of (s5 _ _ e2)⟩,_,rfl,_,p,rfl,hP.same (s0.trans nY),by omega,fun l6 H6 n6 s6 e6=>⟨l6,rfl,⟨_,ae.of e6⟩,?_⟩⟩;have zl:=aM z2;have gs:=yh (f:=jx p) ho;have gl:=La (f:=jx p) (l:=ps.filter fun o=>cJ p.nm o.nm) (i:=i);intro D7 hD7;refine hU (σ0:=[none,some (.ref b),some (.ref b'),some (.ref l5)]) hD7 (ae.of e6) (fun σ=>∃v,σ = [v,some (.ref b),some (.ref b'),some (.ref l5)]) (fun j zs' H7=>zs'.length<=j/\gg H7 zs' ((((db p).take j).filter fun x=>decide (x∈db o)).map fun x=>[.inr pQ,.inr p.nm,.inr o.nm,.inr x])) ⟨_,rfl⟩ ⟨av _,.nil⟩ ?_ ?_
       . rintro j y zs' σ H7 k k' hy ⟨v,rfl⟩ Dt h7 ⟨vv,zp⟩ cE bG;rw[bT]at hy;cases hx:(db p)[j]? with
         | none=>rw[hx]at hy;cases hy
         | some x=>
          rw[hx]at hy;cases hy;have aP:=(bZ.mp hx).1;have pl:(db p).length=p.fs.length:=by unfold db;rw[aw]
          refine⟨_,rfl,_,rfl,l5,_,rfl,.inl (ae.of (h7 _ _ (s6 _ _ e5))),rfl,vo _,_,rfl,?_⟩;refine bj (fun h=>?_) (fun h=>?_)
          . have h0:x∈db o:=Dr.mp h;refine⟨_,rfl,b,C,dx,_,_,rfl,((s0.trans nY).trans (s6.trans h7)) _ _ hA,T.cl,T.nN,hF.name,_,rfl,b',C,md,_,_,rfl,(nY.trans (s6.trans h7)) _ _ qi,T.cl,T.nN,qj.name,_,rfl,(by show 4<=sizeLine;decide),fun p8 H8 n8 s8 e8=>?_⟩;have d8:=s8 _ _ Dt;refine cE _ _ _ ⟨_,rfl⟩ s8 (bp (by omega)) ⟨by rw[bf,iJ];omega,?_⟩;rw[nQ hx,ai (aL h0),gL];exact dr (jB.mut (k:=[.inr pQ,.inr p.nm,.inr o.nm,.inr x]) d8 ⟨p8,rfl,e8⟩) ((zp.same s8).mut d8)
          . have h0:x∉db o:=fun z=>h (Dr.mpr z);refine bG _ _ ⟨_,rfl⟩ (ag.refl _) ⟨by omega,?_⟩;rw[nQ hx,af (by rw[aU h0];decide),ft];exact zp
       . rintro zs' H7 Dt h7 ⟨vv,zp⟩;rw[aw,ca]at zp;have Lf:=aM zp;have cl:(jx p o).length<=9:=bn Lb lp;have zl3:zs'.length=(jx p o).length:=Lf;have Du:=(s5.trans (s6.trans h7)) _ _ e2;refine⟨p1,D7,_,_,rfl,rfl,Du,Dt,gK (bp (by omega)),?_⟩;refine⟨_,_,_,rfl,fH n1 (nY.trans (s6.trans h7)),bc,?_⟩;rw[gs];exact nV ((z2.same (s5.trans (s6.trans h7))).mut Du) (zp.mut Du)
     . intro σ H2 hQ;obtain⟨u,v,zs,rfl,s2,e2,z2⟩:=hQ;rw[ozl,ca]at z2;exact⟨_,rfl,q p1 H2 zs yZ (s0.trans s2) e2 z2⟩
end
theorem y9{l:Ls}(h:sortedS l=true)(nd:l.Nodup):l.Pairwise fun a b=>cJ a b=true:=by
 have h1:=Dc h;refine(List.Pairwise.and h1 nd).imp fun {a b} z=>?_;obtain⟨z1,z2⟩:=z;have e:=Js z2;unfold cJ;rw[e,aU (AC.mpr z1)];rfl
theorem ae5{H:Hp}:∀{ys:Lv} {ks:List (List At)},gg H ys ks->(∀k∈ks,Kd k)->lO H ys ks:=by
 intro ys ks h
 induction h with
 | nil=>exact fun _=>.nil
 | cons r t ih=>
  intro hk;obtain⟨t',rfl,e⟩:=r;exact .cons ⟨t',rfl,e,adU (hk _ (.head _))⟩ (ih fun k fV=>hk k (.tail _ fV))
theorem lO.same{H H':Hp}(s:ag H H'){ys:Lv}{ks:List (List At)}(h:lO H ys ks):lO H' ys ks:=bd h fun _ _ ae6=>ae6.elim fun t ae7=>ae7.elim fun a ae8=>ae8.elim fun b c=>⟨t,a,s _ _ b,c⟩
theorem ae9{C:Addr}{H:Hp}{xs:Lv}{ps:Lp}(h:fk C H xs ps):∀{vs:Lv} {qs:Lp},Paired (vk xs ps) vs qs->fk C H vs qs:=by
 intro vs qs p
 induction p with
 | nil=>exact .nil
 | cons r t ih=>
  obtain⟨j,j1,j2⟩:=r;obtain⟨x,hx,hp⟩:=vj h j1;rw[j2]at hx;cases hx;exact .cons hp ih
theorem afa{xs:Lv}{ps:Lp}:∀{vs:Lv} {qs:Lp},Paired (vk xs ps) vs qs->∀q∈qs,q∈ps:=by
 intro vs qs p
 induction p with
 | nil=>exact fun _ h=>nomatch h
 | cons r t ih=>
  intro q hq;obtain⟨j,j1,j2⟩:=r
  rcases bh.mp hq with rfl | hq
  . exact dw j1
  . exact ih q hq
structure Told(ps:Lp)(ch:Ch)(ks:List (List At)):Prop where
 ex:∃qs:Lp,(∀q∈qs,q∈ps/\(q.nm,q.ms)∈ch)/\(qs.map (·.nm)).Perm (ch.map (·.1))/\ks.Perm (kQ qs)
 so:ks.Pairwise fun x y=>cZ x y=true
abbrev afb (H:Hp) (ps:Lp) (ch:Ch) (Q:VK):Prop:=∀D H' ys ks,H D=none->ag H H'->H' D=some (.lst ys)->lO H' ys ks->Told ps ch ks->Q (.ref D) H'
structure Dv(C S:Addr)(H:Hp)(sv:V)(c:Addr)(ps:Lp)(ch:Ch):Prop where
 sh:∃xs,lY S H sv xs ps/\fk C H xs ps/\KY xs ps ch
 cho:cw H c ch
 nd:(ch.map (·.1)).Nodup
 four:ch.length<=8
 few:∀p∈ps,yk p
 sm:ym ps
section
variable {P:Program} {w:World} {K:Fg} {mg:Mv} {base:Heap}
def Lg(C S:Addr):Sp:=fun vs H Q _=>∃(sv:V) (c:Addr) (ps:Lp) (ch:Ch),vs = [sv,.ref c]/\Dv C S H sv c ps ch/\afb H ps ch Q
structure Defs(K:Fg)(mg:Mv)(C S:Addr):Prop where
 B:eR mg
 T:Txt K mg C
 wit:∃f fd,au K ald ald nC f fd/\mg ald = some (.ref f)
 mee:∃f fd,au K alh alh pU f fd/\mg alh = some (.ref f)
 mtg:∃f fd,au K alw alw rR f fd/\mg alw = some (.ref f)
 nfa:∃f fd,au K alR alR yt f fd/\mg alR = some (.ref f)
 sfa:∃f fd,au K alS alS yu f fd/\mg alS = some (.ref f)
 cfa:∃f fd,au K alO alO yw f fd/\mg alO = some (.ref f)
 pat:∃f fd,au K alH alH uW f fd/\mg alH = some (.ref f)
 pof:∃f fd,au K alY alY yq f fd/\mg alY = some (.ref f)
 shf:∃fN fM f fd,rZ K mg S fN fM f/\au K ak3 "Shelf.parcel" nB f fd
theorem za:bO [alc,alk,ak8,"faults",ak3] [alc,alk] (aS uV):=⟨rfl,rfl,rfl,by decide +kernel,rfl,by decide +kernel,by decide +kernel⟩
theorem afc{f C S:Addr}{fd:Fy}(F:au K alD alD uV f fd)(D:Defs K mg C S):aB P w K mg base aD 5 f fd [alc,alk] (Lg C S):=by
 have B:=D.B;have T:=D.T;obtain⟨iC,kU,iD,jz⟩:=D.wit;obtain⟨j3,nU,jA,kW⟩:=D.mee;obtain⟨lZ,qe,jC,nW⟩:=D.mtg;obtain⟨Lh,Li,vy,Dw⟩:=D.nfa;obtain⟨Lj,Lk,vz,Dx⟩:=D.sfa;obtain⟨Lm,Ln,vA,Dy⟩:=D.cfa;obtain⟨vx,y0,nX,sk⟩:=D.pat;obtain⟨Lo,Lq,vB,Dz⟩:=D.pof;obtain⟨fN,fM,nL,sd,U,se⟩:=D.shf;have afd:aB P w K mg base aD 2 Lo Lq [alc,alk] (KZ S):=aeF vB B U se;have afe:aB P w K mg base aD 4 Lh Li [ak3,ak8] (sj C lV):=aeZ vy B T jC nW jA kW iD jz;have aff:aB P w K mg base aD 4 Lj Lk [ak3,ak8] (sj C nv):=ae0 vz B T jC nW jA kW iD jz;have afg:aB P w K mg base aD 2 Lm Ln [ak3,ak8] (sj C ny):=ae1 vA B T nX sk;have afh:=vB.binds2 (l:=[alc,alk]) (fun _ _ _ _ _ _ _ _=>rfl);have afi:=vy.binds2 (l:=[ak3,ak8]) (fun _ _ _ _ _ _ _ _=>rfl);have afj:=vz.binds2 (l:=[ak3,ak8]) (fun _ _ _ _ _ _ _ _=>rfl);have afk:=vA.binds2 (l:=[ak3,ak8]) (fun _ _ _ _ _ _ _ _=>rfl);refine F.ok za (fun vs H Q E h=>?_) (fun aE A outer s H vs Q E hr h=>?_)
 . obtain⟨sv,c,ps,ch,rfl,_⟩:=h;rfl
 . refine ck ?_;intro xX dX;obtain⟨sv,c,ps,ch,rfl,⟨⟨xs,hS,aR,hV⟩,hC,r9,h4,hfw,hsm⟩,q⟩:=h;have kX:=hr.mono (j:=2) (by decide);refine⟨_,(aA (a9 (i:=2) za.nd rfl (Or.inl rfl) (aO afd kX rfl Dz vB.kp afh .nil aK (aa (pv 0) (aa (pv 1) ah))))
    (aA (a9 (i:=3) za.nd rfl (Or.inl rfl) (cq ah))
    (aA (eu eN rfl (bI (pv 2)) (aX (i:=4) za.nd rfl (Or.inl rfl))
    (aA (gR (jn km wI wJ ro (pv 3) (aa (aO afe hr rfl Dw vy.kp afi .nil aK (aa (pv 4) (aa (pv 2) ah))) ah)))
     (aA (gR (jn km wI wJ ro (pv 3) (aa (aO aff hr rfl Dx vz.kp afj .nil aK (aa (pv 4) (aa (pv 2) ah))) ah)))
     (aG (gR (jn km wI wJ ro (pv 3) (aa (aO afg kX rfl Dy vA.kp afk .nil aK (aa (pv 4) (aa (pv 2) ah))) ah)))))))
    (aG (bE (dU abU (by rfl) B.sorted tI (aa (pv 3) ah))))))),?_⟩
   refine xG ?_;intro dD sS nH g9 fE;refine⟨_,rfl,_,rfl,sv,c,xs,ps,ch,rfl,hS,hC,hV,by omega,fun D0 H0 vs qs n0 s0 d0 gA DA hcm hso=>?_⟩;have iF:fk C H0 vs qs:=ae9 (aR.same s0) gA;have qm:=afa gA;have qf:∀q∈qs,yk q:=fun q hq=>hfw q (qm q hq);have qn:(qs.map (·.nm)).Nodup:=DA.nodup_iff.mpr r9;have q4:qs.length<=8:=by
    have:=DA.length_eq;rw[aw,aw]at this;omega
   have qso:qs.Pairwise fun a b=>cJ a.nm b.nm=true:=qU.mp (y9 hso qn);have Le:=hsm qs qm qn;have vl:=aM iF;have DB:∀q∈qs,∀o∈q::qs,o.fs.length<=9:=fun q hq o ho=>by
    have hm:o∈qs:=by
     rcases bh.mp ho with rfl | ho
     . exact hq
     . exact ho
    have:=(qf o hm).fs;omega
   refine⟨(by show 0<=sizeLine;decide),fun p1 H1 n1 s1 e1=>?_⟩;have yZ:H p1=none:=s0.free n1;refine⟨_,rfl,D0,rfl,⟨_,ae.of (s1 _ _ d0)⟩,?_⟩;refine gu (xs:=vs) (fun i σ H2=>∃u zs,σ = [some sv,some (.ref c),some (.ref D0),some (.ref p1),u]/\ag H0 H2/\H2 p1=some (.lst zs)/\gg H2 zs ((qs.take i).flatMap (fD qs))) ⟨none,[],rfl,s1,e1,.nil⟩ ?_ ?_ ?_
   . intro i σ H2 hi hQ;obtain⟨u,zs,rfl,s2,e2,z2⟩:=hQ;exact ae.of (s2 _ _ d0)
   . intro i z σ H2 hz hQ;refine bX ?_;intro tT;obtain⟨u,zs,rfl,s2,e2,z2⟩:=hQ;obtain⟨p,hp,hE⟩:=bQ iF hz;have pm:=dw hp;have pf:=qf p pm;have zl:=aM z2;have gs:=yh (f:=fD qs) hp;have gl:=La (f:=fD qs) (l:=qs) (i:=i+1);have gl':((qs.take (i+1)).flatMap (fD qs)).length<64:=FS gl Le;rw[gs,bf,fD,bf,bf]at gl';have l2:=pf.ns;have l3:=pf.ss;refine⟨_,rfl,.inl ⟨rfl,_,ae.of e2⟩,_,rfl,_,rfl,z,D0,vs,p,qs,rfl,hE.same s2,s2 _ _ d0,iF.same s2,by omega,by omega,by omega,DB p pm,fun D3 H3 kY n3 s3 d3 z3=>?_⟩;have DC:=s3 _ _ e2;have zl3:=aM z3;refine⟨p1,D3,_,_,rfl,rfl,DC,d3,gK (bp (by omega)),?_⟩;have m3:ag H0 (ak H3 p1 (.lst (zs++kY))):=fH n1 (s2.trans s3);refine⟨_,rfl,.inl ⟨rfl,_,ae.of bc⟩,_,rfl,_,rfl,z,D0,vs,p,qs,rfl,hE.same m3,m3 _ _ d0,iF.same m3,by omega,by omega,by omega,DB p pm,fun D4 H4 kZ n4 s4 d4 z4=>?_⟩;have e4:=s4 _ _ (bc (H:=H3) (a:=p1) (o:=.lst (zs++kY)));have zl4:=aM z4;refine⟨p1,D4,_,_,rfl,rfl,e4,d4,gK (bp (by rw[bf];omega)),?_⟩;have m4:ag H0 (ak H4 p1 (.lst (zs++kY++kZ))):=fH n1 (m3.trans s4);refine⟨_,rfl,.inl ⟨rfl,_,ae.of bc⟩,_,rfl,_,rfl,z,D0,vs,p,qs,rfl,hE.same m4,m4 _ _ d0,iF.same m4,by omega,by omega,by omega,DB p pm,fun D5 H5 Lr n5 s5 d5 z5=>?_⟩;have e5:=s5 _ _ (bc (H:=H4) (a:=p1) (o:=.lst (zs++kY++kZ)));have zl5:=aM z5;refine⟨p1,D5,_,_,rfl,rfl,e5,d5,gK (bp (by rw[bf,bf];omega)),?_⟩;refine⟨_,_,rfl,fH n1 (m4.trans s5),bc,?_⟩;rw[gs];have y3:gg (ak H3 p1 (.lst (zs++kY))) (zs++kY) ((qs.take i).flatMap (fD qs)++lV p qs):=nV ((z2.same s3).mut DC) (z3.mut DC);have y4:gg (ak H4 p1 (.lst (zs++kY++kZ))) (zs++kY++kZ) ((qs.take i).flatMap (fD qs)++lV p qs++nv p qs):=nV ((y3.same s4).mut e4) (z4.mut e4);have y5:=nV ((y4.same s5).mut (o:=.lst (zs++kY++kZ++Lr)) e5) (z5.mut (o:=.lst (zs++kY++kZ++Lr)) e5);unfold fD;rw[←cW,←cW];exact y5
   . intro σ H2 hQ;obtain⟨u,zs,rfl,s2,e2,z2⟩:=hQ;rw[vl,ca]at z2;have z2:gg H2 zs (kQ qs):=z2;have zl:=aM z2;refine⟨_,rfl,p1,zs,kQ qs,rfl,ae.of e2,ae5 z2 fun k hk=>CK hk,by omega,adX qn fun p hp=>(qf p hp).nd,fun x hx y hy=>adV (CK hx) (CK hy),fun aJ ko ht hp hw p3 H3 n3 s3 e3=>?_⟩;exact q p3 H3 aJ ko ((s0.trans s2).free n3) ((s0.trans s2).trans s3) e3 (lO.same s3 ht) ⟨⟨qs,fun p hp=>⟨qm p hp,hcm p hp⟩,DA,hp⟩,hw⟩
def Lu(C S:Addr):Sp:=fun vs H Q _=>∃(sv:V) (c:Addr) (ps:Lp) (ch:Ch),vs = [sv,.ref c]/\Dv C S H sv c ps ch/\∀H' ks,ag H H'->Told ps ch ks->Q (.bl (decide (ks = []))) H'
theorem afq:bO [alc,alk] [alc,alk] (aS yr):=⟨rfl,rfl,rfl,by decide +kernel,rfl,by decide +kernel,by decide +kernel⟩
theorem afr{f vC C S:Addr}{fd zc:Fy}(F:au K al5 al5 yr f fd)(D:Defs K mg C S)(qk:au K alD alD uV vC zc)(vD:mg alD = some (.ref vC)):aB P w K mg base aD 6 f fd [alc,alk] (Lu C S):=by
 have B:=D.B;have afs:aB P w K mg base aD 5 vC zc [alc,alk] (Lg C S):=afc qk D;have aft:=qk.binds2 (l:=[alc,alk]) (fun _ _ _ _ _ _ _ _=>rfl);refine F.ok afq (fun vs H Q E h=>?_) (fun aE A outer s H vs Q E hr h=>?_)
 . obtain⟨sv,c,ps,ch,rfl,_⟩:=h;rfl
 . refine ck ?_;intro xX dX;obtain⟨sv,c,ps,ch,rfl,hA,q⟩:=h;refine⟨_,(aG (bE (gT iP (dU jm (by rfl) B.len jg (aa (aO afs hr rfl vD qk.kp aft .nil aK (aa (pv 0) (aa (pv 1) ah))) ah)) ap (bq _)))),?_⟩;refine⟨_,rfl,_,rfl,sv,c,ps,ch,rfl,hA,fun D0 H0 ys ks n0 s0 d0 ht hT=>⟨D0,_,rfl,.inl (ae.of d0),rfl,?_⟩⟩;have yl:=aM ht;have e:=q H0 ks s0 hT;have z:decide (ks = [])=decide (V.int (ys.length:Int)=V.int 0):=by
    refine Gh.mpr ⟨fun z=>?_,fun z=>?_⟩
    . rw[z]at yl;have yl:ys.length=0:=yl;rw[yl];rfl
    . injection z with z
      exact Gy (by omega)
   rw[z]at e;exact e
end
seal PE PS dH PA PT PW PG jO PI jr
def gh(H:Hp)(v:V)(ch:Ch):Prop:=∃c,v = .ref c/\cw H c ch
theorem gh.same{H H':Hp}(s:ag H H'){v:V}{ch:Ch}(h:gh H v ch):gh H' v ch:=h.elim fun c afu=>afu.elim fun a b=>⟨c,a,b.same s⟩
theorem gh.mut{H:Hp}{D:Addr}{zs zs':Lv}(hD:H D=some (.lst zs)){v:V}{ch:Ch}(h:gh H v ch):gh (ak H D (.lst zs')) v ch:=by
 obtain⟨c,rfl,kvs,h1,h2⟩:=h;refine⟨c,rfl,kvs,bL h1 (fz h1 hD (by intro z;cases z)),bd h2 fun _ _ z=>?_⟩;obtain⟨z1,m,z2,z3⟩:=z;exact⟨z1,m,z2,bL z3 (fz z3 hD (by intro z;cases z))⟩
theorem sq{H:Hp}{x:Str}:∀{kvs:List (aF×V)} {ch:Ch},Paired (bR H) kvs ch->gf H ((bK kvs (.inr x)).getD .non) (ch.lookup x)
 | _,_,.nil=>rfl
 | kv::kvs,e::ch,.cons r t=>by
  obtain⟨r1,m,r2,r3⟩:=r
  by_cases z:e.1=x
  . subst z;rw[gW r1,r2,show(e::ch).lookup e.1=some e.2 by rw[ik,wv]];exact⟨m,rfl,r3⟩
  . have n1:kv.1≠.inr x:=fun y=>z (by rw[r1]at y;injection y);have n2:(x == e.1)=false:=gk.mpr fun y=>z y.symm;rw[gw n1,show(e::ch).lookup x=ch.lookup x by rw[ik,n2]];exact sq t
def vE:Oi->PySem.W.Dat
 | none=>.none
 | some m=>dI m
theorem DE{a b:Oi}(h:vE a=vE b):a=b:=by
 cases a with
 | none=>
  cases b with
  | none=>rfl
  | some y=>cases h
 | some x=>
  cases b with
  | none=>cases h
  | some y=>rw[sf.mp h]
theorem me{K:Fg}{H:Hp}{v:V}{o:Oi}(h:gf H v o):DV K H v (vE o)/\PySem.W.kqdOk 9 (vE o)=true:=by
 cases o with
 | none=>
  have h:v = .non:=h;subst h;exact⟨.non,rfl⟩
 | some m=>
  obtain⟨a,rfl,h⟩:=h;exact⟨.tup (aI.of h) (Bo _),qb 8 m⟩
section
variable {P:Program} {w:World} {K:Fg} {mg:Mv} {base:Heap}
def gj(fs tr:Ch)(k:Str):Bool:=decide (fs.lookup k≠tr.lookup k)
def Lx:Sp:=fun vs H Q _=>∃(a b:Addr) (fs tr:Ch),vs = [.ref a,.ref b]/\cw H a fs/\cw H b tr/\fs.length+tr.length<=20 /\
 ∀l H' ys,H l=none->ag H H'->H' l=some (.lst ((ys.filter (gj fs tr)).map V.str))->sortedS ys=true->ys.Nodup->(∀z,z∈ys↔z∈fs.map (·.1)\/z∈tr.map (·.1))->Q (.ref l) H'
theorem afv:bO [al6,al0] [al6,al0] (aS yo):=⟨rfl,rfl,rfl,by decide +kernel,rfl,by decide +kernel,by decide +kernel⟩
theorem afw{f:Addr}{fd:Fy}(F:au K alT alT yo f fd)(B:eR mg):aB P w K mg base aD 1 f fd [al6,al0] Lx:=by
 refine F.ok afv (fun vs H Q E h=>?_) (fun aE A outer s H vs Q E hr h=>?_)
 . obtain⟨a,b,fs,tr,rfl,_⟩:=h;rfl
 . refine ck ?_;intro xX dX;obtain⟨a,b,fs,tr,rfl,⟨ka,ha,pa⟩,⟨kb,hb,pb⟩,l20,q⟩:=h;have hu:=hr.units;refine⟨_,(aG (bE (eB ["key"] [al6,al0] [0,1] ⟨rfl,by decide +kernel,by decide +kernel,by decide +kernel,by decide +kernel,rfl,rfl,rfl⟩ rfl (bI (dU (BZ rfl) (by rfl) B.sorted tI (aa (aY abn (eW Jn (by rfl) B.set Gz (aa (pv 0) ah)) (eW Jn (by rfl) B.set Gz (aa (pv 1) ah))) ah)))
    (fun _ _ _ _=>(aX (i:=0) (show List.Nodup (["key",al6,al0]:Ls) by decide +kernel) rfl (Or.inl rfl))) (fun _ _ _ _=>f7 (cb (IA K hu) (ub hu (pv 1) (pv 0) ⟨rfl,rfl,rfl,rfl⟩) (ub hu (pv 2) (pv 0) ⟨rfl,rfl,rfl,rfl⟩) (bq _))) (fun _ _ _ _=>(pv 0))))),?_⟩
   refine⟨_,rfl,a,ka,fs.map (·.1),rfl,ha,Dd (fun _ _ (z:bR H _ _)=>z.1) pa,by rw[aw];omega,fun r1 Cv H1 n1 s1 e1 nd1 m1=>?_⟩;refine⟨_,rfl,b,kb,tr.map (·.1),rfl,s1 _ _ hb,Dd (fun _ _ (z:bR H _ _)=>z.1) pb,by rw[aw];omega,fun r2 Cw H2 n2 s2 e2 nd2 m2=>?_⟩;have l1:Cv.length<=fs.length:=by have:=dJ nd1 fun z hz=>(m1 z).mp hz;rwa [aw]at this
   have l2:Cw.length<=tr.length:=by have:=dJ nd2 fun z hz=>(m2 z).mp hz;rwa [aw]at this
   refine⟨r1,r2,Cv,Cw,rfl,rfl,bv e1 n2,s2 _ _ e1,e2,by omega,fun r3 zs H3 n3 s3 e3 Ly m3=>?_⟩;have l3:zs.length<=20:=by have:=dJ Ly fun z hz=>(m3 z).mp hz;rw[bf]at this;omega
   refine⟨r3,zs,rfl,e3,by omega,fun ys pm srt p H4 n4 s4 e4=>?_⟩;have cQ:ag H H4:=(s1.trans s2).trans (s3.trans s4);have lys:ys.length<=20:=by rw[pm.length_eq];exact l3
   refine⟨p,rfl,⟨_,ae.of e4⟩,?_⟩;refine BA (K:=K) (xs:=ys.map V.str) (σ0:=[none,some (.ref a),some (.ref b)]) (ae.of e4) (fun σ=>∃v,σ = [v,some (.ref a),some (.ref b)]) (fun i ws _=>ws=((ys.take i).filter (gj fs tr)).map V.str) ⟨_,rfl⟩ (fun _ _=>rfl) ?_ ?_
   . rintro D i x ws σ H5 k k' hD hx ⟨v,rfl⟩ iE s5 rfl hk fV;rw[bT]at hx;cases hy:ys[i]? with
     | none=>rw[hy]at hx;cases hx
     | some y=>
      rw[hy]at hx;cases hx;have di:=cQ.trans s5;obtain⟨d1,o1⟩:=me (K:=K) ((sq (x:=y) pa).same di);obtain⟨d2,o2⟩:=me (K:=K) ((sq (x:=y) pb).same di);refine⟨_,rfl,a,rfl,.inl ⟨_,.inl (di _ _ ha)⟩,_,rfl,_,cY.k (k:=.inr y) (di _ _ ha),?_⟩;refine⟨_,rfl,b,rfl,.inl ⟨_,.inl (di _ _ hb)⟩,_,rfl,_,cY.k (k:=.inr y) (di _ _ hb),?_⟩;refine⟨_,_,d1,d2,o1,o2,fun bb pK=>⟨_,rfl,?_⟩⟩;have e0:=iZ (f:=gj fs tr) hy;refine bj (fun h=>?_) (fun h=>?_)
      . have bt:gj fs tr y=true:=aL fun e=>by
         have:bb=true:=pK.mpr (by rw[e]);rw[this]at h;cases h
        refine⟨_,rfl,hk _ _ _ ⟨_,rfl⟩ (ag.refl _) (bp ?_) ?_⟩
        . rw[aw];have:=iK (gj fs tr) (ys.take i);rw[dE]at this;omega
        . rw[e0,ai bt,gL];rfl
      . have heq:fs.lookup y=tr.lookup y:=by
         cases bb with
         | true=>exact DE (pK.mp rfl)
         | false=>exact absurd rfl h
        refine fV _ _ ⟨_,rfl⟩ (ag.refl _) ?_;rw[e0,af (by unfold gj;rw[aU (fun z=>z heq)];exact bB),ft]
   . rintro D ws H5 hD iE s5 rfl;rw[aw,ca]at iE;refine q D H5 ys (cQ.free hD) (cQ.trans s5) iE srt (pm.nodup_iff.mpr Ly) fun z=>?_;rw[pm.mem_iff,m3,cU,m1,m2]
end
def gE(ch:Ch)(p:aQ):Bool:=decide (ch.lookup p.nm=some p.ms)
def sr(qs:Lp)(p:aQ):Bool:=p.ns.all fun c=>qs.any (b8 c)
def qo(p q:aQ):Bool:=decide (q.nm=p.nm) || (!(p.ss.any fun c=>b8 c q) && !((db p).any fun x=>decide (x∈db q)))
def qp(qs:Lp):Bool:=qs.all fun p=>sr qs p && qs.all (qo p)
def cR(ps:Lp)(ch:Ch):Bool:=qp (ps.filter (gE ch))
theorem DG{α β:Type}{f:Nat->α->List β}{Pp:α->Prop}(h:∀i x,f i x = []↔Pp x):∀(l:List α) (k:Nat),dM f l k = []↔∀x∈l,Pp x
 | [],k=>⟨fun _ x hx=>absurd hx (by simp),fun _=>rfl⟩
 | x::r,k=>by
  show f k x++dM f r (k+1) = []↔_;rw[wK,h,DG h r (k+1)];constructor
  . rintro⟨a,b⟩ y hy
    rcases bh.mp hy with e | e
    . rw[e];exact a
    . exact b y e
  . intro a;exact⟨a x cS,fun y hy=>a y (cT _ hy)⟩
theorem Lz{p:aQ}{qs:Lp}:lV p qs = []↔sr qs p=true:=by
 unfold lV sr;rw[DG (Pp:=fun c=>qs.any (b8 c)=true) (fun i c=>?_),gr];unfold i4
 by_cases h:qs.filter (b8 c) = []
 . rw[ai h];refine⟨fun z=>(by cases z),fun z=>?_⟩;obtain⟨q,hq,hm⟩:=qO.mp z;have:q∈qs.filter (b8 c):=dC.mpr ⟨hq,hm⟩;rw[h]at this;cases this
 . rw[af h];refine⟨fun _=>?_,fun _=>rfl⟩;obtain⟨q,hq⟩:=wL _ h;obtain⟨a,b⟩:=dC.mp hq;exact qO.mpr ⟨q,a,b⟩
theorem LA{p:aQ}{qs:Lp}:nv p qs = []↔∀c∈p.ss,∀q∈qs,q.nm≠p.nm->b8 c q=false:=by
 unfold nv;refine DG (Pp:=fun c=>∀q∈qs,q.nm≠p.nm->b8 c q=false) (fun i c=>?_) p.ss 0;unfold pR jw;rw[Pg,wM];constructor
 . intro h q hq ne;exact fR.mpr (h q (dC.mpr ⟨hq,aL ne⟩))
 . intro h q hq;obtain⟨a,b⟩:=dC.mp hq;rw[h q a (b0 b)];exact bB
theorem DH{p:aQ}{qs:Lp}:ny p qs = []↔∀q∈qs,cJ p.nm q.nm=true->∀x∈db p,x∉db q:=by
 unfold ny;rw[Pb];constructor
 . intro h q hq lt x hx fY;have z:=h q (dC.mpr ⟨hq,lt⟩);unfold jx uU at z;rw[Pg,wM]at z;exact z x hx (aL fY)
 . intro h q hq;obtain⟨a,b⟩:=dC.mp hq;unfold jx uU;rw[Pg,wM];intro x hx z;exact h q a b x hx (b0 z)
theorem LB{a b:Str}(h:a≠b):cJ a b=true\/cJ b a=true:=by
 unfold cJ
 by_cases z:a.cps.toList<b.cps.toList
 . exact .inl (aL z)
 . right;refine aL (qW fun y=>h ?_);have e:a.cps.toList=b.cps.toList:=OU (AC.mp y) (AC.mp z);cases a;cases b;exact fQ _ (OY.mp e)
theorem vF{p q:aQ}:qo p q=true↔(q.nm≠p.nm->(∀c∈p.ss,b8 c q=false)/\∀x∈db p,x∉db q):=by
 unfold qo
 by_cases e:q.nm=p.nm
 . rw[aL e,Bool.true_or];exact⟨fun _ n=>absurd e n,fun _=>rfl⟩
 . rw[aU e,Am,j9,Bool.not_eq_true',Bool.not_eq_true',FE,FE];constructor
   . rintro⟨a,b⟩ _;exact⟨fun c hc=>fR.mpr (a c hc),fun x hx fY=>b x hx (aL fY)⟩
   . intro h;obtain⟨a,b⟩:=h e;exact⟨fun c hc=>by rw[a c hc];exact bB,fun x hx z=>b x hx (b0 z)⟩
theorem afA{qs:Lp}:kQ qs = []↔qp qs=true:=by
 unfold kQ qp;rw[Pb,gr];constructor
 . intro h p hp;have h1:=h p hp;unfold fD at h1;rw[wK,wK]at h1;obtain⟨⟨a,b⟩,c⟩:=h1;rw[Lz.mp a,oQ,gr];intro q hq;refine vF.mpr fun ne=>⟨fun cl hc=>LA.mp b cl hc q hq ne,fun x hx fY=>?_⟩
   rcases LB (fun z=>ne z.symm:p.nm≠q.nm) with lt | lt
   . exact DH.mp c q hq lt x hx fY
   . have h2:=h q hq;unfold fD at h2;rw[wK]at h2;exact DH.mp h2.2 p hp lt x fY hx
 . intro h p hp;have h1:=h p hp;rw[j9,gr]at h1;unfold fD;rw[wK,wK];refine⟨⟨Lz.mpr h1.1,LA.mpr fun c hc q hq ne=>(vF.mp (h1.2 q hq) ne).1 c hc⟩,DH.mpr fun q hq lt=>(vF.mp (h1.2 q hq) fun z=>?_).2⟩;rw[z]at lt;exact absurd (b0 lt) (Gc _)
theorem nZ{β:Type}{l:List (Str×β)}{x:Str}{v:β}(h:l.lookup x=some v):(x,v)∈l:=by
 induction l with
 | nil=>cases h
 | cons e r ih=>
  rw[ik]at h
  by_cases y:x=e.1
  . rw[show(x == e.1)=true from ij.mpr y]at h;have h:e.2=v:=gn h;rw[y,←h];exact cS
  . rw[show(x == e.1)=false from gk.mpr y]at h;exact cT _ (ih h)
theorem zd{β:Type}{l:List (Str×β)}{x:Str}(h:x∈l.map (·.1)):∃v,l.lookup x=some v:=by
 induction l with
 | nil=>cases h
 | cons e r ih=>
  rw[ik]
  by_cases y:x=e.1
  . rw[show(x == e.1)=true from ij.mpr y];exact⟨_,rfl⟩
  . rw[show(x == e.1)=false from gk.mpr y];rw[b9]at h;exact ih ((bh.mp h).resolve_left y)
theorem LC{β:Type}{l:List (Str×β)}(nd:(l.map (·.1)).Nodup){x:Str}{v:β}:l.lookup x=some v↔(x,v)∈l:=by
 refine⟨nZ,fun h=>?_⟩;obtain⟨v',hv⟩:=zd (bC.mpr ⟨_,h,rfl⟩:x∈l.map (·.1));rw[hv,KW nd (nZ hv) h]
theorem afB{β:Type}{l:List (Str×β)}{x:Str}(h:x∉l.map (·.1)):l.lookup x=none:=by
 cases hz:l.lookup x with
 | none=>rfl
 | some v=>exact absurd (bC.mpr ⟨_,nZ hz,rfl⟩) h
theorem afC{ps:Lp}(h:(ps.map ee).Nodup){p q:aQ}(hp:p∈ps)(hq:q∈ps)(e1:p.nm=q.nm)(e2:p.ms=q.ms):p=q:=by
 obtain⟨i,hi⟩:=mK hp;obtain⟨j,hj⟩:=mK hq;have e:ee p=ee q:=by unfold ee;rw[e1,e2]
 have gZ:i=j:=(Gx (l:=ps.map ee) (by rw[aw];exact(bZ.mp hi).1) h).mp (by rw[bT,bT,hi,hj,jH,jH,e]);subst gZ;rw[hi]at hj;exact gn hj
theorem LD{α β:Type}{f:α->β}{l:List α}(h:(l.map f).Nodup):l.Nodup:=(qU.mp h).imp fun ne e=>ne (by rw[e])
theorem afD{ps:Lp}{ch:Ch}(ok:(ps.map ee).Nodup)(nd:(ch.map (·.1)).Nodup){ks:List (List At)}(h:Told ps ch ks):ks = []↔cR ps ch=true:=by
 obtain⟨⟨qs,a,b,c⟩,_⟩:=h;have hp:qs.Perm (ps.filter (gE ch)):=by
  refine adZ (LD (b.nodup_iff.mpr nd)) ((LD ok).filter _) fun p=>?_;rw[dC];unfold gE;rw[GA,LC nd];refine⟨a p,fun afE=>afE.elim fun h1 h2=>?_⟩;have:p.nm∈qs.map (·.nm):=b.mem_iff.mpr (oR (f:=(·.1)) h2);obtain⟨q,hq,e⟩:=bC.mp this;obtain⟨h3,h4⟩:=a q hq;have e:q.nm=p.nm:=e;rw[e]at h4;rw[←afC ok h3 h1 e (KW nd h4 h2)];exact hq
 have hA:=c.trans (adT hp);unfold cR;rw[←afA];constructor
 . intro e;rw[e]at hA;exact hA.nil_eq.symm
 . intro e;rw[e]at hA;exact hA.eq_nil
theorem LF{ps:Lp}{a b:Ch}(h:∀x,a.lookup x=b.lookup x):cR ps a=cR ps b:=by
 unfold cR;rw[List.filter_congr fun p _=>show gE a p=gE b p by unfold gE;rw[h]]
end K51
namespace K51
open PySem L2
open HT (At cZ dL)
def hZ(tr:Ch)(x:Str):Ch:=tr.filter fun f=>decide (f.1≠x)
theorem LG{tr:Ch}{x y:Str}{m:List Int}:(eG tr x m).lookup y=if y=x then some m else tr.lookup y:=by
 unfold eG;split
 . rename_i hz;have hx:=yS.mp hz;clear hz
   induction tr with
   | nil=>cases hx
   | cons e r ih=>
    rw[b9,ik,ik]
    by_cases ex:e.1=x
    . rw[ai ex]
      by_cases ey:y=x
      . rw[ai ey,ey,ex,wv]
      . rw[af ey,ex,show(y == x)=false from gk.mpr ey];dsimp only;clear ih hx
        induction r with
        | nil=>rfl
        | cons f r ih=>
         rw[b9,ik,ik]
         by_cases fx:f.1=x
         . rw[ai fx,fx,show(y == x)=false from gk.mpr ey];exact ih
         . rw[af fx];cases (y == f.1) with
           | true=>rfl
           | false=>exact ih
    . rw[af ex];have fY:x∈r.map (·.1):=(bh.mp hx).resolve_left fun z=>ex z.symm;have:=ih fY
      by_cases ey:y=e.1
      . rw[show(y == e.1)=true from ij.mpr ey,af (by rw[ey];exact ex)]
      . rw[show(y == e.1)=false from gk.mpr ey];exact this
 . rename_i hx;rw[List.lookup_append]
   by_cases ey:y=x
   . rw[ai ey,afB (fun z=>hx (yS.mpr (ey▸z))),ey];show(List.lookup x [(x,m)])=_;rw[ik,wv]
   . rw[af ey];have:List.lookup y [(x,m)]=none:=by rw[ik,show(y == x)=false from gk.mpr ey];rfl
     rw[this];cases tr.lookup y<;>rfl
theorem DI{tr:Ch}{x y:Str}:(hZ tr x).lookup y=if y=x then none else tr.lookup y:=by
 unfold hZ
 induction tr with
 | nil=>split<;>rfl
 | cons e r ih=>
  rw[tq,ik]
  by_cases ex:e.1=x
  . rw[af (by simp[ex]),ih]
    by_cases ey:y=x
    . rw[ai ey,ai ey]
    . rw[af ey,af ey,show(y == e.1)=false from gk.mpr (by rw[ex];exact ey)]
  . rw[ai (by simp[ex]),ik,ih]
    by_cases ey:y=e.1
    . rw[show(y == e.1)=true from ij.mpr ey];show some e.2=if y=x then none else some e.2;rw[af (by rw[ey];exact ex)]
    . rw[show(y == e.1)=false from gk.mpr ey]
def cF(goal:Ch)(ch:Ch)(n:Str):Ch:=(goal.lookup n).elim (hZ ch n) (eG ch n)
def ic(goal:Ch)(ch:Ch)(n:Str):Ch:=(goal.lookup n).elim (hZ ch n) (eG (hZ ch n) n)
def ci(f:Ch->Ch->Str->Ch)(goal now:Ch)(g:Ls):Ch:=g.foldl (f goal) now
structure zf(f:Ch->Ch->Str->Ch):Prop where
 look:∀goal ch n y,(f goal ch n).lookup y=if y=n then goal.lookup n else ch.lookup y
 nd:∀goal ch n,(ch.map (·.1)).Nodup->((f goal ch n).map (·.1)).Nodup
 mem:∀goal ch n e,e∈f goal ch n->e∈ch\/e∈goal
theorem DJ{ch:Ch}{n:Str}(h:(ch.map (·.1)).Nodup):((hZ ch n).map (·.1)).Nodup:=O9 (wF.map _) h
theorem k7:zf cF:=by
 refine⟨fun goal ch n y=>?_,fun goal ch n h=>?_,fun goal ch n e h=>?_⟩
 . unfold cF;cases goal.lookup n with
   | none=>exact DI
   | some m=>exact LG
 . unfold cF;cases goal.lookup n with
   | none=>exact DJ h
   | some m=>exact yT h
 . unfold cF at h;cases hg:goal.lookup n with
   | none=>rw[hg]at h;exact .inl (dC.mp h).1
   | some m=>
    rw[hg]at h
    rcases yR h with z | z
    . right;rw[z];exact nZ hg
    . exact .inl z
theorem vG:zf ic:=by
 refine⟨fun goal ch n y=>?_,fun goal ch n h=>?_,fun goal ch n e h=>?_⟩
 . unfold ic;cases goal.lookup n with
   | none=>exact DI
   | some m=>
    show(eG (hZ ch n) n m).lookup y=_;rw[LG,DI]
    by_cases e:y=n
    . rw[ai e,ai e]
    . rw[af e,af e,af e]
 . unfold ic;cases goal.lookup n with
   | none=>exact DJ h
   | some m=>exact yT (DJ h)
 . unfold ic at h;cases hg:goal.lookup n with
   | none=>rw[hg]at h;exact .inl (dC.mp h).1
   | some m=>
    rw[hg]at h
    rcases yR h with z | z
    . right;rw[z];exact nZ hg
    . exact .inl (dC.mp z).1
section
variable {f:Ch->Ch->Str->Ch} (F:zf f)
include F
theorem mf{goal:Ch}{y:Str}:∀{g:Ls} {now:Ch},(ci f goal now g).lookup y=if y∈g then goal.lookup y else now.lookup y
 | [],now=>rfl
 | n::g,now=>by
  show(ci f goal (f goal now n) g).lookup y=_;rw[mf (g:=g),F.look]
  by_cases h:y∈g
  . rw[ai h,ai (cT _ h)]
  . rw[af h]
    by_cases e:y=n
    . rw[ai e,ai (by rw[e];exact cS),e]
    . rw[af e,af fun z=>h ((bh.mp z).resolve_left e)]
theorem LH{goal:Ch}:∀{g:Ls} {now:Ch},(now.map (·.1)).Nodup->((ci f goal now g).map (·.1)).Nodup
 | [],now,h=>h
 | n::g,now,h=>LH (g:=g) (F.nd _ _ _ h)
theorem LI{goal:Ch}{e:Str×List Int}:∀{g:Ls} {now:Ch},e∈ci f goal now g->e∈now\/e∈goal
 | [],now,h=>.inl h
 | n::g,now,h=>by
  rcases LI (g:=g) h with z | z
  . exact F.mem _ _ _ _ z
  . exact .inr z
theorem LJ{ps:Lp}{goal now:Ch}{g:Ls}{c:Ch}(h:∀x,now.lookup x=c.lookup x):cR ps (ci f goal now g)=cR ps (ci cF goal c g):=
 LF fun x=>by rw[mf F,mf k7,h]
end
abbrev cV (l:Ls):Prop:=l.Pairwise fun a b=>cJ a b=true
theorem DK(a:Str):cJ a a=false:=aU (Gc _)
theorem afF{a b c:Str}(h:cJ a b=true)(k:cJ b c=true):cJ a c=true:=aL (OW (b0 h) (b0 k))
theorem LK{a b:Str}(h:cJ a b=true):cJ b a=false:=aU fun z=>Gc _ (OW (b0 h) z)
theorem cV.nd{l:Ls}(h:cV l):l.Nodup:=h.imp fun {a b} z e=>by rw[e,DK]at z;cases z
theorem cV.uniq:∀{a b:Ls},cV a->cV b->(∀z,z∈a↔z∈b)->a=b:=fun {a b} h k m=>
 ajU (fun x y _ _ p q=>by rw[LK p]at q;cases q) h k ((Pc h.nd k.nd).mpr m)
abbrev i5 (a b:Ls):Bool:=cZ (a.map Sum.inr) (b.map Sum.inr)
theorem su(x y:Str)(a b:Ls):i5 (x::a) (y::b)=if x=y then i5 a b else cJ x y:=by
 show cZ (Sum.inr x::a.map Sum.inr) (Sum.inr y::b.map Sum.inr)=_;rw[HT.nn]
 by_cases e:x=y
 . rw[ai e,ai (by rw[e])]
 . rw[af e,af fun z=>e (fq z)];rfl
theorem zg(a:Ls):i5 a a=false:=xT _
theorem LL:∀{a b:Ls},a.length=b.length->a≠b->i5 a b=true\/i5 b a=true
 | [],[],_,h=>absurd rfl h
 | [],_::_,h,_=>by cases h
 | _::_,[],h,_=>by cases h
 | x::a,y::b,h,ne=>by
  rw[su,su]
  by_cases e:x=y
  . rw[ai e,ai e.symm];exact LL (by simpa using h) fun z=>ne (by rw[e,z])
  . rw[af e,af fun z=>e z.symm];exact LB e
theorem LM:∀{a b:Ls} (x y:Ls),a.length=b.length->i5 a b=true->i5 (a++x) (b++y)=true
 | [],[],_,_,_,h=>by cases h
 | [],_::_,_,_,h,_=>by cases h
 | _::_,[],_,_,h,_=>by cases h
 | u::a,v::b,x,y,hl,h=>by
  rw[su]at h;rw[An,An,su]
  by_cases e:u=v
  . rw[ai e]at h ⊢;exact LM x y (by simpa using hl) h
  . rw[af e]at h ⊢;exact h
theorem afG(a:Ls){x y:Str}(h:cJ x y=true):i5 (a++[x]) (a++[y])=true:=by
 induction a with
 | nil=>
  show i5 [x] [y]=true;rw[su,af fun e=>by rw[e,DK]at h;cases h];exact h
 | cons u a ih=>
  rw[An,An,su,ai rfl];exact ih
def i6(g:Ls)(n:Str):Bool:=g.getLast?.elim true fun l=>cJ l n
def og(names g:Ls):List (Ls):=(names.filter (i6 g)).map fun n=>g++[n]
def ie(names:Ls):Nat->List (Ls)
 | 0=>[[]]
 | k+1=>(ie names k).flatMap (og names)
theorem LN{g:Ls}{n:Str}:cV (g++[n])↔cV g/\i6 g n=true:=by
 show(g++[n]).Pairwise _↔_;rw[GB];constructor
 . rintro⟨a,_,c⟩;refine⟨a,?_⟩;unfold i6;cases h:g.getLast? with
   | none=>rfl
   | some l=>exact c l (List.mem_of_getLast? h) n cS
 . rintro⟨a,b⟩;refine⟨a,AH _ _,fun x hx y hy=>?_⟩;rw[bD.mp hy];unfold i6 at b;cases h:g.getLast? with
   | none=>rw[ajV.mp h]at hx;cases hx
   | some l=>
    rw[h]at b;have b:cJ l n=true:=b;obtain⟨r,hr⟩:=ajW.mp h;rw[hr]at hx a
    rcases cU.mp hx with z | z
    . exact afF ((GB.mp a).2.2 x z l cS) b
    . rw[bD.mp z];exact b
theorem mh{names:Ls}:∀{k:Nat} {g:Ls},g∈ie names k↔g.length=k/\cV g/\∀x∈g,x∈names
 | 0,g=>by
  show g∈[[]]↔_;rw[bD];constructor
  . rintro rfl;exact⟨rfl,.nil,fun _ h=>nomatch h⟩
  . exact fun h=>jI.mp h.1
 | k+1,g=>by
  show g∈(ie names k).flatMap (og names)↔_;rw[AG];constructor
  . rintro⟨h,hh,hg⟩;obtain⟨n,hn,rfl⟩:=bC.mp hg;obtain⟨n1,n2⟩:=dC.mp hn;obtain⟨a,b,c⟩:=mh.mp hh;refine⟨by rw[bf,a];rfl,LN.mpr ⟨b,n2⟩,fun x hx=>?_⟩
    rcases cU.mp hx with z | z
    . exact c x z
    . rw[bD.mp z];exact n1
  . rintro⟨a,b,c⟩;have ne:g≠[]:=fun z=>by rw[z]at a;cases a
    have e:=List.dropLast_concat_getLast ne;rw[←e]at b c;obtain⟨b1,b2⟩:=LN.mp b;refine⟨g.dropLast,mh.mpr ⟨by rw[List.length_dropLast,a];rfl,b1,fun x hx=>c x (oO _ hx)⟩,?_⟩;exact bC.mpr ⟨g.getLast ne,dC.mpr ⟨c _ (eS _ cS),b2⟩,e⟩
theorem DL{names:Ls}(hn:cV names):∀k:Nat,(ie names k).Pairwise fun a b=>i5 a b=true
 | 0=>AH _ _
 | k+1=>by
  have ih:=DL hn k;refine Pa.mpr ⟨fun g _=>?_,?_⟩
  . exact qU.mpr ((hn.sublist wF).imp fun {a b} h=>afG g h)
  . have m:∀g∈ie names k,g.length=k:=fun g hg=>(mh.mp hg).1;refine(ajX.mpr ?_);intro a b hs x hx y hy;have ha:=m a (hs.subset (.head _));have hb:=m b (hs.subset (.tail _ (.head _)));have hl:i5 a b=true:=(ajX.mp ih) hs;obtain⟨u,_,rfl⟩:=bC.mp hx;obtain⟨v,_,rfl⟩:=bC.mp hy;exact LM _ _ (ha.trans hb.symm) hl
def zh(o g:Ls):Prop:=o.length<g.length\/(o.length=g.length/\i5 o g=true)
structure oh(ps:Lp)(now goal:Ch)(names g:Ls):Prop where
 ne:g≠[]
 inc:cV g
 sub:∀x∈g,x∈names
 snd:g=names\/cR ps (ci cF goal now g)=true
 min:∀o,o≠[]->cV o->(∀x∈o,x∈names)->zh o g->cR ps (ci cF goal now o)=false
theorem LO:∀{o l:Ls},cV o->cV l->(∀x∈o,x∈l)->l.length<=o.length->o=l:=fun {o l} h k m hl=>
 h.uniq k fun z=>⟨m z,fun hz=>qW fun hn=>by
  have:=dJ (xs:=z::o) (ys:=l) (jG.mpr ⟨hn,h.nd⟩) fun y hy=>by
   rcases bh.mp hy with e | e
   . rw[e];exact hz
   . exact m y e
  rw[bu]at this;omega⟩
theorem oh.uniq{ps:Lp}{now goal:Ch}{names g h:Ls}(hn:cV names)(a:oh ps now goal names g)(b:oh ps now goal names h):g=h:=by
 have go:∀{g h:Ls},oh ps now goal names g->oh ps now goal names h->¬zh g h:=fun {g h} a b z=>by
  have s:=b.min g a.ne a.inc a.sub z
  rcases a.snd with e | e
  . have le:h.length<=names.length:=dJ b.inc.nd b.sub
    rcases z with z | ⟨z1,z2⟩
    . rw[e]at z;omega
    . have:h=names:=LO b.inc hn b.sub (by rw[←z1,e];exact av _);rw[this,e,zg]at z2;cases z2
  . rw[e]at s;cases s
 refine qW fun ne=>?_
 by_cases hl:g.length=h.length
 . rcases LL hl ne with z | z
   . exact go a b (.inr ⟨hl,z⟩)
   . exact go b a (.inr ⟨hl.symm,z⟩)
 . rcases Nat.lt_or_gt_of_ne hl with z | z
   . exact go a b (.inl z)
   . exact go b a (.inl z)
structure gF(c goal:Ch)(l:Ls):Prop where
 inc:cV l
 mem:∀z,z∈l↔c.lookup z≠goal.lookup z
theorem gF.uniq{c goal:Ch}{a b:Ls}(h:gF c goal a)(k:gF c goal b):a=b:=h.inc.uniq k.inc fun z=>by rw[h.mem,k.mem]
theorem gF.congr{c d goal:Ch}{a:Ls}(h:gF c goal a)(e:∀z,c.lookup z=d.lookup z):gF d goal a:=⟨h.inc,fun z=>by rw[h.mem,e]⟩
theorem afH{c goal:Ch}{l l' g:Ls}(h:gF c goal l)(k:gF (ci cF goal c g) goal l')(ne:g≠[])(sub:∀x∈g,x∈l):l'.length<l.length:=by
 obtain⟨x,hx⟩:=wL _ ne;have m:∀z∈l',z∈l/\z∉g:=fun z hz=>by
  have:=(k.mem z).mp hz;rw[mf k7]at this
  by_cases hg:z∈g
  . rw[ai hg]at this;exact absurd rfl this
  . rw[af hg]at this;exact⟨(h.mem z).mpr this,hg⟩
 have:=dJ (xs:=x::l') (ys:=l) (jG.mpr ⟨fun z=>(m x z).2 hx,k.inc.nd⟩) fun y hy=>by
  rcases bh.mp hy with e | e
  . rw[e];exact sub x hx
  . exact(m y e).1
 rw[bu]at this;omega
def dA(goal now:Ch)(gs:List (Ls))(i:Nat):Ch:=(gs.take i).foldl (ci cF goal) now
theorem afI{goal now:Ch}{gs:List (Ls)}{i:Nat}{g:Ls}(h:gs[i]? = some g):dA goal now gs (i+1)=ci cF goal (dA goal now gs i) g:=by
 unfold dA;rw[ff h,tG];rfl
def vH(ps:Lp)(c goal:Ch)(g:Ls):Prop:=∃l,gF c goal l/\oh ps c goal l g
structure Walk(ps:Lp)(now goal:Ch)(gs:List (Ls)):Prop where
 step:∀i g,gs[i]? = some g->vH ps (dA goal now gs i) goal g
 fin:∀z,(dA goal now gs gs.length).lookup z=goal.lookup z
theorem DM{ps:Lp}{now goal:Ch}{a b:List (Ls)}(h:Walk ps now goal a)(k:Walk ps now goal b):∀i,i<=a.length->i<=b.length->a.take i=b.take i
 | 0,_,_=>rfl
 | i+1,ha,hb=>by
  have ih:=DM h k i (by omega) (by omega);have e1:=eJ (l:=a) (i:=i) (by omega);have e2:=eJ (l:=b) (i:=i) (by omega);obtain⟨l,l1,l2⟩:=h.step i _ e1;obtain⟨m,m1,m2⟩:=k.step i _ e2;unfold dA at l1 l2 m1 m2;rw[ih]at l1 l2;rw[l1.uniq m1]at l2;rw[ff e1,ff e2,ih,l2.uniq m1.inc m2]
theorem Walk.uniq{ps:Lp}{now goal:Ch}{a b:List (Ls)}(h:Walk ps now goal a)(k:Walk ps now goal b):a=b:=by
 have go:∀{a b:List (Ls)},Walk ps now goal a->Walk ps now goal b->¬a.length<b.length:=fun {a b} h k z=>by
  have e:=DM h k a.length (av _) (by omega);obtain⟨l,l1,l2⟩:=k.step a.length _ (eJ (l:=b) z);obtain⟨x,hx⟩:=wL _ l2.ne;have:=(l1.mem x).mp (l2.sub x hx);unfold dA at this;rw[←e]at this;exact this (h.fin x)
 have hl:a.length=b.length:=Nat.le_antisymm (wu (go k h)) (wu (go h k));have e:=DM h k a.length (av _) (by omega);rw[ca,hl,ca]at e;exact e
open PySem.Spec PyProof.Rows
seal PE PS dH PA PT PW PG jO PI jr
theorem zi{H:Hp}{x:Str}{kvs:List (aF×V)}{ch:Ch}(h:Paired (bR H) kvs ch):(∃m t,ch.lookup x=some m/\bK kvs (.inr x)=some (.ref t)/\H t=some (.tup (m.map V.int)))\/(ch.lookup x=none/\bK kvs (.inr x)=none):=by
 induction h with
 | nil=>exact .inr ⟨rfl,rfl⟩
 | @cons kv e kvs ch r t ih=>
  obtain⟨r1,m,r2,r3⟩:=r;rw[ik]
  by_cases ex:x=e.1
  . rw[show(x == e.1)=true from ij.mpr ex];exact .inl ⟨_,m,rfl,by rw[gW (r1.trans (by rw[ex])),r2],r3⟩
  . rw[show(x == e.1)=false from gk.mpr ex,gw (fun q=>ex (fq (r1.symm.trans q)).symm)];exact ih
theorem LP{H:Hp}{x:Str}{kvs:List (aF×V)}{ch:Ch}(h:Paired (bR H) kvs ch):Paired (bR H) (mZ kvs (.inr x)) (hZ ch x):=by
 unfold mZ hZ
 induction h with
 | nil=>exact .nil
 | @cons kv e kvs ch r t ih=>
  rw[tq,tq]
  by_cases ex:e.1=x
  . rw[af (by simp[r.1,ex]),af (by simp[ex])];exact ih
  . rw[ai (by rw[GA,r.1];exact fun z=>ex (fq z)),ai (by simp[ex])];exact .cons r ih
section
variable {P:Program} {w:World} {K:Fg} {mg:Mv} {base:Heap}
def qr(f:Ch->Ch->Str->Ch):Sp:=fun vs H Q _=>∃(a b c:Addr) (now goal:Ch) (g:Ls),vs = [.ref a,.ref b,.ref c]/\cw H a now/\cw H b goal/\H c=some (.lst (g.map V.str))/\now.length+g.length<=100 /\
 ∀r H',H r=none->ag H H'->cw H' r (ci f goal now g)->Q (.ref r) H'
theorem DO:bO [alv,alr,alt,"behind",ala] [alv,alr,alt] (aS rS):=⟨rfl,rfl,rfl,by decide +kernel,rfl,by decide +kernel,by decide +kernel⟩
theorem LQ{f:Ch->Ch->Str->Ch}{goal now:Ch}{g:Ls}{i:Nat}{y:Str}(h:g[i]? = some y):ci f goal now (g.take (i+1))=f goal (ci f goal now (g.take i)) y:=by
 unfold ci;rw[ff h,tG];rfl
theorem zj{f:Addr}{fd:Fy}(F:au K alo alo rS f fd)(B:eR mg):aB P w K mg base aD 1 f fd [alv,alr,alt] (qr cF):=by
 refine F.ok DO (fun vs H Q E h=>?_) (fun aE A outer s H vs Q E hr h=>?_)
 . obtain⟨a,b,c,now,goal,g,rfl,_⟩:=h;rfl
 . refine ck ?_;intro xX dX;obtain⟨a,b,c,now,goal,g,rfl,⟨kn,hn,pn⟩,⟨kg,hg,pg⟩,hc,hl,q⟩:=h;have hu:=hr.units;refine⟨_,(aA (a9 (i:=3) DO.nd rfl (Or.inl rfl) (eW uk (by rfl) B.dict wN (aa (pv 0) ah)))
    (aA (eu eN rfl (bI (pv 2)) (aX (i:=4) DO.nd rfl (Or.inl rfl))
    (aG (ej (wX (Bh hu (pv 4) (pv 1)) (by rfl))
     (aG (ua hu (pv 3) (pv 4) (xr hu (pv 1) (pv 4) (fun _ _=>rfl)) rfl)) (aG (ej (wX (Bh hu (pv 4) (pv 3)) (by rfl))
      (aG (gR (Xt (pv 3) (pv 4) ⟨rfl,rfl,rfl,rfl⟩))) eO)))))
    (aG (bE (pv 3))))),?_⟩
   refine kK ?_;intro dD sS g9 fE;have pl:=aM pn;refine⟨_,rfl,a,_,rfl,hn,fun p1 H1 n1 s1 e1=>?_⟩;refine⟨_,rfl,c,rfl,⟨_,ae.of (s1 _ _ hc)⟩,?_⟩;refine gu (xs:=g.map V.str) (fun i σ H2=>∃u kvs,σ = [some (.ref a),some (.ref b),some (.ref c),some (.ref p1),u]/\ag H H2/\H2 p1=some (.dK kvs)/\kvs.length<=now.length+i/\Paired (bR H) kvs (ci cF goal now (g.take i))) ⟨none,kn,rfl,s1,e1,by omega,pn⟩ ?_ ?_ ?_
   . rintro i σ H2 hi ⟨u,kvs,rfl,s2,_⟩;exact ae.of (s2 _ _ hc)
   . intro i x σ H2 hx hQ;refine bX ?_;intro tT;obtain⟨u,kvs,rfl,s2,e2,l2,p2⟩:=hQ;rw[bT]at hx;cases hy:g[i]? with
     | none=>rw[hy]at hx;cases hx
     | some y=>
      rw[hy]at hx;cases hx;have hi:=(bZ.mp hy).1;have gs:=LQ (f:=cF) (goal:=goal) (now:=now) hy;have vI:=s2 _ _ hg;refine⟨_,rfl,_,rfl,b,_,rfl,cY.k (k:=.inr y) vI,_,rfl,?_⟩
      rcases zi (x:=y) pg with⟨m,t,g1,g2,g3⟩ | ⟨g1,g2⟩
      . refine bj (fun h=>?_) (fun h=>absurd (by rw[g2];rfl) h);refine⟨_,rfl,_,rfl,b,.ref t,rfl,by rw[←g2];exact cY.k (k:=.inr y) vI,?_⟩;refine⟨_,rfl,_,rfl,p1,_,rfl,jT.k (k:=.inr y) e2 (bp (by omega)),?_⟩;refine⟨_,_,rfl,fH n1 s2,bc,?_,?_⟩
        . exact bn (rq _ _ _) (by omega)
        . rw[gs];unfold cF;rw[g1];exact yU (fun kv f (z:bR H kv f)=>z.1) ⟨rfl,t,rfl,g3⟩ p2
      . refine bj (fun h=>by rw[g2]at h;cases h) (fun h=>?_);have es:cF goal (ci cF goal now (g.take i)) y=hZ (ci cF goal now (g.take i)) y:=by unfold cF;rw[g1];rfl
        refine⟨_,rfl,_,rfl,p1,_,rfl,cY.k (k:=.inr y) e2,_,rfl,?_⟩
        rcases zi (x:=y) p2 with⟨m,t,k1,k2,k3⟩ | ⟨k1,k2⟩
        . refine bj (fun h=>?_) (fun h=>absurd (by rw[k2];rfl) h);refine⟨_,rfl,p1,rfl,.inl ⟨_,.inl e2⟩,_,rfl,kvs,.inr y,.ref t,e2,rfl,k2,?_⟩;refine⟨_,_,rfl,fH n1 s2,bc,?_,?_⟩
          . exact bn (Bf _ _) (by omega)
          . rw[gs,es];exact LP p2
        . refine bj (fun h=>by rw[k2]at h;cases h) (fun h=>?_);refine⟨_,_,rfl,s2,e2,by omega,?_⟩;rw[gs,es,show hZ (ci cF goal now (g.take i)) y=ci cF goal now (g.take i) from ?_]
          . exact p2
          . unfold hZ;rw[List.filter_eq_self];intro e he;refine aL fun z=>?_;obtain⟨v,hv⟩:=zd (bC.mpr ⟨e,he,z⟩);rw[k1]at hv;cases hv
   . rintro σ H2 ⟨u,kvs,rfl,s2,e2,l2,p2⟩;rw[aw,ca]at p2;exact⟨_,rfl,q p1 H2 n1 s2 ⟨kvs,e2,bd p2 fun _ _=>bR.same s2⟩⟩
end
def fJ(A:List Addr)(H:Hp)(v:V)(g:Ls):Prop:=∃l,v = .ref l/\l∉A/\H l=some (.lst (g.map V.str))
theorem fJ.same{A:List Addr}{H H':Hp}(s:ag H H'){v:V}{g:Ls}(h:fJ A H v g):fJ A H' v g:=h.elim fun l afJ=>afJ.elim fun a afK=>afK.elim fun b c=>⟨l,a,b,s _ _ c⟩
theorem fJ.mut{A:List Addr}{H:Hp}{D:Addr}(hD:D∈A){o:HO}{v:V}{g:Ls}(h:fJ A H v g):fJ A (ak H D o) v g:=by
 obtain⟨l,a,b,c⟩:=h;exact⟨l,a,b,by rw[a8 (show l≠D from fun z=>b (by rw[z];exact hD))];exact c⟩
theorem fJ.sub{A B:List Addr}(hs:∀x∈B,x∈A){H:Hp}{v:V}{g:Ls}(h:fJ A H v g):fJ B H v g:=h.elim fun l afL=>afL.elim fun a afM=>afM.elim fun b c=>⟨l,a,fun z=>b (hs l z),c⟩
abbrev mi:=fJ []
theorem afN{g:Ls}{l:Str}(h:g.getLast? = some l):bF (g.map V.str) (-1)=some (.str l):=by
 obtain⟨r,rfl⟩:=ajW.mp h;unfold bF;have e:mY ((r++[l]).map V.str).length (-1)=some r.length:=by
  unfold mY;rw[aw,bf,iJ,af (by omega),ai (by omega)]
  congr 1
  omega
 rw[e];show((r++[l]).map V.str)[r.length]? = _;rw[bT,qN (av _),Gq];rfl
section
variable {P:Program} {w:World} {K:Fg} {mg:Mv} {base:Heap}
def LR:Sp:=fun vs H Q _=>∃(a b:Addr) (zs:Lv) (gs:List (Ls)) (names:Ls),vs = [.ref a,.ref b]/\H a=some (.lst zs)/\Paired (mi H) zs gs/\H b=some (.lst (names.map V.str))/\names.length<=100/\(∀g∈gs,g.length<=100)/\(gs.flatMap (og names)).length<=500 /\
 ∀l ys H',H l=none->ag H H'->H' l=some (.lst ys)->Paired (mi H') ys (gs.flatMap (og names))->Q (.ref l) H'
theorem DP:bO [al1,alG,"larger",alt] [al1,alG] (aS yz):=⟨rfl,rfl,rfl,by decide +kernel,rfl,by decide +kernel,by decide +kernel⟩
theorem afO{α β:Type}{f:α->List β}{l:List α}{i:Nat}:((l.take i).flatMap f).length<=(l.flatMap f).length:=by
 have e:l.flatMap f=(l.take i).flatMap f++(l.drop i).flatMap f:=by rw[←O8,ki]
 rw[e,bf];omega
theorem afP{f:Addr}{fd:Fy}(F:au K alL alL yz f fd)(B:eR mg):aB P w K mg base aD 1 f fd [al1,alG] LR:=by
 refine F.ok DP (fun vs H Q E h=>?_) (fun aE A outer s H vs Q E hr h=>?_)
 . obtain⟨a,b,zs,gs,names,rfl,_⟩:=h;rfl
 . refine ck ?_;intro xX dX;obtain⟨a,b,zs,gs,names,rfl,ha,hp,hb,n1,g1,l5,q⟩:=h;refine⟨_,(aA (a9 (i:=2) DP.nd rfl (Or.inl rfl) (cq ah))
    (aA (eu eN rfl (bI (pv 0)) (aX (i:=3) DP.nd rfl (Or.inr rfl))
    (aG (gR (jn km wI wJ ro (pv 2) (aa (eB [ala] [alt] [3] ⟨rfl,by decide +kernel,by decide +kernel,by decide +kernel,by decide +kernel,rfl,rfl,rfl⟩ rfl (bI (pv 1)) (fun _ _ _ _=>(aX (i:=0) (show List.Nodup ([ala,alt]:Ls) by decide +kernel) rfl (Or.inl rfl))) (fun _ _ _ _=>f7 (PW.pt (o0 (cb iP (dU (Ib K) (by rfl) B.len jg (aa (pv 1) ah)) ap (bq _)) (w4 (cb JC (pv 0) (bi (Ia K) (pv 1) (RT R4 ap) (fun _ _=>rfl)) (bq _)))))) (fun _ _ _ _=>(aY By (pv 1) (cq (aa (pv 0) ah))))) ah)))))
    (aG (bE (pv 2))))),?_⟩
   refine kK ?_;intro dD sS g9 fE;refine⟨(by show 0<=sizeLine;decide),fun p1 H1 LS s1 e1=>?_⟩;refine⟨_,rfl,a,rfl,⟨_,ae.of (s1 _ _ ha)⟩,?_⟩;have plz:=aM hp;refine gu (xs:=zs) (fun i σ H2=>∃u ys,σ = [some (.ref a),some (.ref b),some (.ref p1),u]/\ag H H2/\H2 p1=some (.lst ys)/\Paired (fJ [p1] H2) ys ((gs.take i).flatMap (og names))) ⟨none,[],rfl,s1,e1,.nil⟩ ?_ ?_ ?_
   . rintro i σ H2 hi ⟨u,ys,rfl,s2,_⟩;exact ae.of (s2 _ _ ha)
   . intro i x σ H2 hx hQ;refine bX ?_;intro tT;obtain⟨u,ys,rfl,s2,e2,p2⟩:=hQ;obtain⟨g,hg,l,rfl,_,hl⟩:=bQ hp hx;have gl:=g1 g (dw hg);have DQ:=yh (f:=og names) hg;have ll:=afO (f:=og names) (l:=gs) (i:=i+1);rw[DQ,bf]at ll;have yl:=aM p2;have kH:=s2 _ _ hl;refine⟨_,rfl,.inl ⟨rfl,_,ae.of e2⟩,_,rfl,b,rfl,⟨_,ae.of (s2 _ _ hb)⟩,?_⟩;intro D hD;have nD:p1≠D:=fun z=>by rw[←z,e2]at hD;cases hD
     refine hU (σ0:=[none,some (.ref l)]) hD (ae.of (s2 _ _ hb)) (fun σ=>∃v,σ = [v,some (.ref l)]) (fun j ws H3=>Paired (fJ [D,p1] H3) ws (((names.take j).filter (i6 g)).map fun n=>g++[n])) ⟨_,rfl⟩ .nil ?_ ?_
     . rintro j y ws σ H3 k k' hy ⟨v,rfl⟩ de h3 hP cE bG;rw[bT]at hy;cases hn:names[j]? with
       | none=>rw[hn]at hy;cases hy
       | some n=>
        rw[hn]at hy;cases hy;have m9:=h3 _ _ kH;have fs:=iZ (f:=i6 g) hn;have wl:=aM hP;have fl:((names.take j).filter (i6 g)).length<=100:=bn (iK _ _) (by rw[dE];omega);rw[aw]at wl;refine⟨_,rfl,l,_,rfl,.inl (ae.of m9),rfl,_,rfl,?_⟩;have elt:i6 g n=true->∀(Hx:Hp),Hx l=some (.lst (g.map V.str))->ag H3 Hx->∀(p5:Addr) (H5:Hp),Hx p5=none->ag Hx H5->H5 p5=some (.lst [.str n])->(g.map V.str).length+1<=sizeLine/\∀(p6:Addr) (H6:Hp),H5 p6=none->ag H5 H6->H6 p6=some (.lst (g.map V.str++[.str n]))->k [some (.str n),some (.ref l)] (.ref p6) H6:=by
         intro ok Hx hlx sx p5 H5 n5 s5 e5;refine⟨iA (by rw[aw];omega),fun p6 H6 n6 s6 e6=>?_⟩;have vJ:=sx.trans (s5.trans s6);refine cE _ _ _ ⟨_,rfl⟩ vJ (bp (by omega)) ?_;rw[fs,ai ok,gL];refine dr ?_ (bd hP fun _ _ z=>(z.same vJ).mut (by simp));refine fJ.mut (by simp) ⟨p6,rfl,?_,by rw[e6,xD]⟩;intro z;have oj:H3 p6=none:=(sx.trans s5).free n6
         rcases bh.mp z with e | e
         . rw[e,de]at oj;cases oj
         . rw[bD.mp e]at oj;have:=h3 _ _ e2;rw[this]at oj;cases oj
        refine bj (fun h=>?_) (fun h=>?_)
        . have g0:g = []:=by
           have z:=b0 h;injection z with z
           rw[aw]at z;exact jI.mp (by omega)
          have ok:i6 g n=true:=by rw[g0];rfl
          refine Bm ⟨_,rfl,_,rfl,(by show 1<=sizeLine;decide),fun p5 H5 n5 s5 e5=>?_⟩;obtain⟨z1,z2⟩:=elt ok H3 m9 (ag.refl _) p5 H5 n5 s5 e5;exact⟨l,p5,_,_,rfl,rfl,s5 _ _ m9,e5,z1,z2⟩
        . have vK:g≠[]:=fun z=>h (by rw[z];rfl);obtain⟨la,xU⟩:∃la,g.getLast? = some la:=by
           cases hz:g.getLast? with
           | none=>exact absurd (ajV.mp hz) vK
           | some la=>exact⟨la,rfl⟩
          have LU:i6 g n=cJ la n:=by unfold i6;rw[xU];rfl
          refine⟨_,rfl,_,rfl,_,rfl,l,_,_,_,rfl,rfl,ae.of m9,afN xU,_,_,rfl,rfl,_,rfl,?_⟩;refine bj (fun h=>?_) (fun h=>?_)
          . have ok:i6 g n=true:=LU.trans h;refine⟨_,rfl,_,rfl,(by show 1<=sizeLine;decide),fun p5 H5 n5 s5 e5=>?_⟩;obtain⟨z1,z2⟩:=elt ok H3 m9 (ag.refl _) p5 H5 n5 s5 e5;exact⟨l,p5,_,_,rfl,rfl,s5 _ _ m9,e5,z1,z2⟩
          . refine bG _ _ ⟨_,rfl⟩ (ag.refl _) ?_;rw[fs,af (by rw[LU];exact h),ft];exact hP
     . rintro ws H3 de s3 hP;rw[aw,ca]at hP;have wl:=aM hP;have e3:=s3 _ _ e2;have ml:((names.filter (i6 g)).map fun n=>g++[n]).length=(og names g).length:=rfl;refine⟨p1,D,_,_,rfl,rfl,e3,de,iA (by omega),?_⟩;refine⟨_,_,rfl,fH LS (s2.trans s3),bc,?_⟩;rw[DQ];exact nV (bd p2 fun _ _ z=>(z.same s3).mut (by simp)) (bd hP fun _ _ z=>(z.mut (D:=p1) (by simp)).sub (by simp))
   . rintro σ H2 ⟨u,ys,rfl,s2,e2,p2⟩;rw[plz,ca]at p2;exact⟨_,rfl,q p1 ys H2 LS s2 e2 (bd p2 fun _ _ z=>z.sub (by simp))⟩
end
def mj:Ls->List (Ls)
 | []=>[[]]
 | x::r=>mj r++(mj r).map (x :: ·)
theorem LV:∀l:Ls,(mj l).length=2 ^ l.length
 | []=>rfl
 | x::r=>by
  show(mj r++(mj r).map (x :: ·)).length=2 ^ (r.length+1);rw[bf,aw,LV r,OI];omega
theorem zk:∀{l g:Ls},cV l->cV g->(∀x∈g,x∈l)->g∈mj l
 | [],g,_,_,h=>by
  cases g with
  | nil=>exact bD.mpr rfl
  | cons x g=>exact absurd (h x cS) (by simp)
 | x::r,g,hl,hg,h=>by
  obtain⟨h1,h2⟩:=Pf.mp hl;show g∈mj r++(mj r).map (x :: ·);cases g with
  | nil=>exact oO _ (zk h2 hg fun _ z=>nomatch z)
  | cons y g=>
   obtain⟨g1,g2⟩:=Pf.mp hg;have sub:∀z∈g,z∈r:=fun z hz=>by
    rcases bh.mp (h z (cT _ hz)) with e | e
    . have a:=g1 z hz;rw[e]at a
      rcases bh.mp (h y cS) with e' | e'
      . rw[e',DK]at a;cases a
      . rw[LK (h1 y e')]at a;cases a
    . exact e
   rcases bh.mp (h y cS) with e | e
   . rw[e];exact eS _ (bC.mpr ⟨g,zk h2 g2 sub,rfl⟩)
   . refine oO _ (zk h2 hg fun z hz=>?_)
     rcases bh.mp hz with e' | e'
     . rw[e'];exact e
     . exact sub z e'
theorem afR{names:Ls}(hn:cV names)(k:Nat):(ie names k).Nodup:=(DL hn k).imp fun {a b} z e=>by rw[e,zg]at z;cases z
theorem afS{names:Ls}(hn:cV names)(h8:names.length<=8)(k:Nat):(ie names k).length<=256:=by
 have:=Kp (m:=mj names) (afR hn k) fun g hg=>by
  obtain⟨_,b,c⟩:=mh.mp hg;exact zk hn b c
 rw[LV]at this;exact bn this (Ph (by decide) h8)
theorem afT{names:Ls}(hn:cV names){k j:Nat}{g o:Ls}(hg:(ie names k)[j]? = some g)(ho:o∈ie names k)(lt:i5 o g=true):o∈(ie names k).take j:=by
 obtain⟨i,hi⟩:=mK ho;obtain⟨hi1,LW⟩:=bZ.mp hi;obtain⟨hj1,LX⟩:=bZ.mp hg
 by_cases h:i<j
 . exact dw (i:=i) (by rw[Pd,ai h];exact hi)
 . exfalso
   by_cases e:i=j
   . subst e;rw[←LW,LX,zg]at lt;cases lt
   . have z:=OX.mp (DL hn k) j i hj1 hi1 (by omega);rw[LW,LX]at z;have:=Cc _ _ _ lt z;rw[xT]at this;cases this
structure on(C S:Addr)(H:Hp)(sv:V)(ps:Lp)(N:Ls):Prop where
 sh:∃xs,lY S H sv xs ps/\fk C H xs ps
 keys:(ps.map ee).Nodup
 few:∀p∈ps,yk p
 sm:ym ps
 len8:N.length<=8
 nms:∀p∈ps,p.nm∈N
theorem on.same{C S:Addr}{H H':Hp}{sv:V}{ps:Lp}{N:Ls}(s:ag H H')(h:on C S H sv ps N):on C S H' sv ps N:=by
 obtain⟨⟨xs,h1,h2⟩,h3,h4,h5,h6,h7⟩:=h;exact⟨⟨xs,h1.same s,h2.same s⟩,h3,h4,h5,h6,h7⟩
structure bS(ps:Lp)(ch:Ch):Prop where
 nd:(ch.map (·.1)).Nodup
 val:∀e∈ch,∃p∈ps,p.nm=e.1/\p.ms=e.2
theorem bS.key{ps:Lp}{ch:Ch}{N:Ls}(h:bS ps ch)(hn:∀p∈ps,p.nm∈N){x:Str}(hx:x∈ch.map (·.1)):x∈N:=by
 obtain⟨e,he,rfl⟩:=bC.mp hx;obtain⟨p,hp,e1,_⟩:=h.val e he;exact e1▸hn p hp
theorem bS.len{ps:Lp}{ch:Ch}{N:Ls}(h:bS ps ch)(hn:∀p∈ps,p.nm∈N)(l:N.length<=8):ch.length<=8:=by
 have:=dJ h.nd fun x hx=>h.key hn hx;rw[aw]at this;omega
theorem bS.beh{ps:Lp}{f:Ch->Ch->Str->Ch}(F:zf f){now goal:Ch}(h:bS ps now)(k:bS ps goal)(g:Ls):bS ps (ci f goal now g):=by
 refine⟨LH F h.nd,fun e he=>?_⟩
 rcases LI F he with z | z
 . exact h.val e z
 . exact k.val e z
theorem on.setAt{C S:Addr}{H:Hp}{sv:V}{ps:Lp}{N:Ls}(h:on C S H sv ps N){c:Addr}{ch:Ch}(hc:cw H c ch)(k:bS ps ch):Dv C S H sv c ps ch:=by
 obtain⟨⟨xs,h1,h2⟩,h3,h4,h5,h6,h7⟩:=h;refine⟨⟨xs,h1,h2,fun e he=>?_⟩,hc,k.nd,k.len h7 h6,h4,h5⟩;obtain⟨p,hp,e1,e2⟩:=k.val e he;obtain⟨j,hj⟩:=mK hp;obtain⟨v,hv,_⟩:=vj h2 hj;exact⟨v,p,⟨j,hj,hv⟩,e1,e2⟩
theorem oq{ch:Ch}{z:Str}(h:ch.lookup z≠none):z∈ch.map (·.1):=by
 cases hz:ch.lookup z with
 | none=>exact absurd hz h
 | some v=>exact bC.mpr ⟨_,nZ hz,rfl⟩
theorem LY{c goal:Ch}{ys:Ls}(srt:sortedS ys=true)(nd:ys.Nodup)(mem:∀z,z∈ys↔z∈c.map (·.1)\/z∈goal.map (·.1)):gF c goal (ys.filter (gj c goal)):=by
 refine⟨(y9 srt nd).sublist wF,fun z=>?_⟩;rw[dC];unfold gj;rw[GA];refine⟨fun h=>h.2,fun h=>⟨(mem z).mpr ?_,h⟩⟩
 by_cases hc:c.lookup z=none
 . right;refine oq fun e=>h ?_;rw[hc,e]
 . exact .inl (oq hc)
theorem gF.len{c goal:Ch}{l:Ls}{ps:Lp}{N:Ls}(h:gF c goal l)(hc:bS ps c)(hg:bS ps goal)(hn:∀p∈ps,p.nm∈N)(h8:N.length<=8):l.length<=8:=by
 have:=dJ h.inc.nd (ys:=N) fun z hz=>by
  have:=(h.mem z).mp hz
  by_cases e:c.lookup z=none
  . refine hg.key hn (oq fun e'=>this ?_);rw[e,e']
  . exact hc.key hn (oq e)
 omega
section
variable {P:Program} {w:World} {K:Fg} {mg:Mv} {base:Heap}
def LZ(C S:Addr):Sp:=fun vs H Q _=>∃(sv:V) (a b c:Addr) (ps:Lp) (N:Ls) (now goal:Ch) (names:Ls),vs = [sv,.ref a,.ref b,.ref c]/\on C S H sv ps N/\cw H a now/\cw H b goal/\bS ps now/\bS ps goal /\
 H c=some (.lst (names.map V.str))/\cV names/\names≠[]/\names.length<=8/\∀l H' g,ag H H'->H' l=some (.lst (g.map V.str))->oh ps now goal names g->Q (.ref l) H'
structure DR(K:Fg)(mg:Mv)(C S:Addr):Prop where
 D:Defs K mg C S
 fof:∃f fd,au K alD alD uV f fd/\mg alD = some (.ref f)
 sou:∃f fd,au K al5 al5 yr f fd/\mg al5 = some (.ref f)
 beh:∃f fd,au K alo alo rS f fd/\mg alo = some (.ref f)
 wom:∃f fd,au K alL alL yz f fd/\mg alL = some (.ref f)
 kun:∃f fd,au K alT alT yo f fd/\mg alT = some (.ref f)
 fst:∃f fd,au K alU alU yy f fd/\mg alU = some (.ref f)
theorem vL:bO [alc,alv,alr,alG,al1,"many",alt] [alc,alv,alr,alG] (aS yy):=⟨rfl,rfl,rfl,by decide +kernel,rfl,by decide +kernel,by decide +kernel⟩
theorem afW{f C S:Addr}{fd:Fy}(F:au K alU alU yy f fd)(DF:DR K mg C S):aB P w K mg base aD 7 f fd [alc,alv,alr,alG] (LZ C S):=by
 have B:=DF.D.B;obtain⟨vC,zc,qk,vD⟩:=DF.fof;obtain⟨L0,L1,vM,DS⟩:=DF.sou;obtain⟨jD,k8,fK,j4⟩:=DF.beh;obtain⟨L3,L4,vN,DT⟩:=DF.wom;have afX:aB P w K mg base aD 6 L0 L1 [alc,alk] (Lu C S):=afr vM DF.D qk vD;have qt:aB P w K mg base aD 1 jD k8 [alv,alr,alt] (qr cF):=zj fK B;have afY:aB P w K mg base aD 1 L3 L4 [al1,alG] LR:=afP vN B;have afZ:=vM.binds2 (l:=[alc,alk]) (fun _ _ _ _ _ _ _ _=>rfl);have qv:=fK.binds3 (l:=[alv,alr,alt]) (fun _ _ _ _ _ _ _ _ _=>rfl);have af0:=vN.binds2 (l:=[al1,alG]) (fun _ _ _ _ _ _ _ _=>rfl);refine F.ok vL (fun vs H Q E h=>?_) (fun aE A outer s H vs Q E hr h=>?_)
 . obtain⟨sv,a,b,c,ps,N,now,goal,names,rfl,_⟩:=h;rfl
 . refine ck ?_;intro xX dX;obtain⟨sv,a,b,c,ps,N,now,goal,names,rfl,hW,hA,hB,cA,cB,hc,qw,bt,h8,q⟩:=h;have bY:=hr.mono (j:=1) (by decide);have nl:=cA.len hW.nms hW.len8;have DU:1<=names.length:=Ay fun z=>bt (jI.mp z);refine⟨_,(aA (a9 (i:=4) vL.nd rfl (Or.inl rfl) (cq (aa (cq ah) ah)))
    (aA (eu eN rfl (Rq rfl B.range (aa ap (aa (dU jm (by rfl) B.len jg (aa (pv 3) ah)) ah))) (aX (i:=5) vL.nd rfl (Or.inl rfl))
    (aA (a9 (i:=4) vL.nd rfl (Or.inl rfl) (aO afY bY rfl DT vN.kp af0 .nil aK (aa (pv 4) (aa (pv 3) ah))))
     (aG (eu eN rfl (bI (pv 4)) (aX (i:=6) vL.nd rfl (Or.inl rfl))
     (aG (ej (jj (aO afX hr rfl DS vM.kp afZ .nil aK (aa (pv 0) (aa (aO qt bY rfl j4 fK.kp qv .nil aK (aa (pv 1) (aa (pv 2) (aa (pv 6) ah)))) ah))))
      (aG (bE (pv 6))) eO))))))
    (aG (bE (pv 3))))),?_⟩
   refine kK ?_;intro dD sS g9 fE;refine⟨(by show 0<=sizeLine;decide),fun p1 H1 n1 s1 e1=>?_⟩;refine⟨(by show 1<=sizeLine;decide),fun p2 H2 n2 s2 e2=>?_⟩;have bA:=s1.trans s2;refine⟨_,rfl,c,_,rfl,.inl (ae.of (bA _ _ hc)),1,((names.map V.str).length:Int),rfl,⟨by omega,by omega,by rw[aw];omega,by rw[aw];omega⟩,?_⟩;have af1:((((names.map V.str).length:Int) - 1).toNat)=names.length - 1:=by rw[aw];omega
   rw[af1];refine xc (D:={ dD with nx:=g9 dD }) (fun i σ H3=>∃gl u5 u6 zs,σ = [some sv,some (.ref a),some (.ref b),some (.ref c),some (.ref gl),u5,u6]/\ag H H3/\H3 gl=some (.lst zs)/\Paired (mi H3) zs (ie names i)/\∀k,1<=k->k<=i->∀o∈ie names k,cR ps (ci cF goal now o)=false)
    ⟨p2,none,none,[.ref p1],rfl,bA,e2,.cons ⟨p1,rfl,by simp,s2 _ _ e1⟩ .nil,fun k h1 h2=>by omega⟩ ?_ ?_
   . intro i σ H3 hi hQ;refine bX ?_;intro tT;obtain⟨gl,u5,u6,zs,rfl,s3,e3,p3,all⟩:=hQ;have hc3:=s3 _ _ hc;have lv:=afS qw h8 (i+1);refine⟨_,rfl,_,rfl,gl,c,zs,ie names i,names,rfl,e3,p3,hc3,by omega,fun g hg=>?_,bn lv (by decide),fun l4 kZ H4 n4 s4 e4 p4=>?_⟩
     . rw[(mh.mp hg).1];omega
     have p4:Paired (mi H4) kZ (ie names (i+1)):=p4;have yl:=aM p4;have vt:=s3.trans s4;refine⟨_,rfl,l4,rfl,⟨_,ae.of e4⟩,?_⟩;refine gu (xs:=kZ) (fun j σ H5=>∃u6,σ = [some sv,some (.ref a),some (.ref b),some (.ref c),some (.ref l4),some (.int (1+(i:Int))),u6]/\ag H4 H5/\∀o∈(ie names (i+1)).take j,cR ps (ci cF goal now o)=false) ⟨u6,rfl,ag.refl _,fun o ho=>(by rw[wO]at ho;cases ho)⟩ ?_ ?_ ?_
     . rintro j σ H5 hj ⟨u6,rfl,s5,_⟩;exact ae.of (s5 _ _ e4)
     . intro j x σ H5 hx hQ5;refine bX ?_;intro tT5;obtain⟨u6',rfl,s5,vO⟩:=hQ5;obtain⟨g,hg,l,rfl,_,hl⟩:=bQ p4 hx;obtain⟨g1,g2,g3⟩:=mh.mp (dw hg);have sw:=vt.trans s5;have gle:g.length<=8:=bn (dJ g2.nd g3) h8;refine⟨_,rfl,_,rfl,_,rfl,_,rfl,a,b,l,now,goal,g,rfl,hA.same sw,hB.same sw,s5 _ _ hl,by omega,fun r6 H6 n6 s6 c6=>?_⟩;have vJ:=sw.trans s6;refine⟨sv,r6,ps,ci cF goal now g,rfl,(hW.same vJ).setAt c6 (cA.beh k7 cB g),fun H7 ks s7 ht=>⟨_,rfl,?_⟩⟩;have tl:=afD hW.keys (cA.beh k7 cB g).nd ht;refine bj (fun h=>?_) (fun h=>?_)
       . have hs:=tl.mp (b0 h);refine⟨_,rfl,q l H7 g (vJ.trans s7) ((s5.trans (s6.trans s7)) _ _ hl) ⟨fun z=>?_,g2,g3,.inr hs,fun o o1 o2 o3 lt=>?_⟩⟩
         . rw[z]at g1;cases g1
         . have DW:1<=o.length:=Ay fun z=>o1 (jI.mp z)
           rcases lt with lt | ⟨L5,zm⟩
           . exact all o.length DW (by omega) o (mh.mpr ⟨rfl,o2,o3⟩)
           . exact vO o (afT qw hg (mh.mpr ⟨L5.trans g1,o2,o3⟩) zm)
       . have hs:cR ps (ci cF goal now g)=false:=fR.mpr fun z=>h (aL (tl.mpr z));refine⟨_,rfl,s5.trans (s6.trans s7),fun o ho=>?_⟩;rw[ff hg]at ho
         rcases cU.mp ho with z | z
         . exact vO o z
         . rw[bD.mp z];exact hs
     . rintro σ H5 ⟨u6',rfl,s5,vO⟩;rw[yl,ca]at vO;refine⟨l4,_,_,kZ,rfl,vt.trans s5,s5 _ _ e4,bd p4 fun _ _ z=>z.same s5,fun k k1 k2 o ho=>?_⟩
       by_cases e:k=i+1
       . rw[e]at ho;exact vO o ho
       . exact all k k1 (by omega) o ho
   . rintro σ H3 ⟨gl,u5,u6,zs,rfl,s3,e3,p3,all⟩;refine⟨_,rfl,q c H3 names s3 (s3 _ _ hc) ⟨bt,qw,fun _ z=>z,.inl rfl,fun o o1 o2 o3 lt=>?_⟩⟩;have DW:1<=o.length:=Ay fun z=>o1 (jI.mp z)
     rcases lt with lt | ⟨L5,zm⟩
     . exact all o.length DW (by omega) o (mh.mpr ⟨rfl,o2,o3⟩)
     . rw[LO o2 qw o3 (by omega),zg]at zm;cases zm
end
theorem L6{goal now:Ch}{gs:List (Ls)}{g:Ls}{i:Nat}(h:i<=gs.length):dA goal now (gs++[g]) i=dA goal now gs i:=by
 unfold dA;rw[List.take_append_of_le_length h]
theorem DX{goal now:Ch}{gs:List (Ls)}{g:Ls}:dA goal now (gs++[g]) (gs++[g]).length=ci cF goal (dA goal now gs gs.length) g:=by
 unfold dA;rw[ca,ca,tG];rfl
theorem af5{ps:Lp}{goal now:Ch}{gs:List (Ls)}{g:Ls}(h:∀i g,gs[i]? = some g->vH ps (dA goal now gs i) goal g)(k:vH ps (dA goal now gs gs.length) goal g):∀i g',(gs++[g])[i]? = some g'->vH ps (dA goal now (gs++[g]) i) goal g':=by
 intro i g' hi
 by_cases z:i<gs.length
 . rw[FJ z]at hi;rw[L6 (gK z)];exact h i g' hi
 . have hl:=(bZ.mp hi).1;rw[bf,iJ]at hl;have e:i=gs.length:=by omega
   subst e;rw[qN (av _),Gq]at hi;cases hi;rw[L6 (av _)];exact k
section
variable {P:Program} {w:World} {K:Fg} {mg:Mv} {base:Heap}
def L7(C S:Addr):Sp:=fun vs H Q _=>∃(sv:V) (a b:Addr) (ps:Lp) (N:Ls) (now goal:Ch),vs = [sv,.ref a,.ref b]/\on C S H sv ps N/\cw H a now/\cw H b goal/\bS ps now/\bS ps goal /\
 ∀l zs gs H',H l=none->ag H H'->H' l=some (.lst zs)->Paired (fJ [l] H') zs gs->Walk ps now goal gs->gs.length<=8->Q (.ref l) H'
theorem qx:bO [alc,alv,alr,al1,"reached","left",alt] [alc,alv,alr] (aS yx):=⟨rfl,rfl,rfl,by decide +kernel,rfl,by decide +kernel,by decide +kernel⟩
def L8(H:Hp)(sv:V)(a b p1:Addr)(ps:Lp)(now goal:Ch)(m:Nat)(σ:L2.St)(H2:Hp):Prop:=
 ∃re lf u zs gs left,σ = [some sv,some (.ref a),some (.ref b),some (.ref p1),some (.ref re),some (.ref lf),u]/\m=left.length/\ag H H2/\H2 p1=some (.lst zs)/\Paired (fJ [p1] H2) zs gs/\cw H2 re (dA goal now gs gs.length)/\bS ps (dA goal now gs gs.length) /\
  lf≠p1/\H2 lf=some (.lst (left.map V.str))/\gF (dA goal now gs gs.length) goal left/\(∀i g,gs[i]? = some g->vH ps (dA goal now gs i) goal g)/\gs.length+left.length<=8
theorem af6{f C S:Addr}{fd:Fy}(F:au K al2 al2 yx f fd)(DF:DR K mg C S):aB P w K mg base aD 8 f fd [alc,alv,alr] (L7 C S):=by
 have B:=DF.D.B;obtain⟨jD,k8,fK,j4⟩:=DF.beh;obtain⟨L9,Ma,sA,zn⟩:=DF.kun;obtain⟨Mb,Mc,vP,DY⟩:=DF.fst;have af7:aB P w K mg base aD 7 Mb Mc [alc,alv,alr,alG] (LZ C S):=afW vP DF;have qt:aB P w K mg base aD 1 jD k8 [alv,alr,alt] (qr cF):=zj fK B;have Me:aB P w K mg base aD 1 L9 Ma [al6,al0] Lx:=afw sA B;have af8:=vP.binds4 (l:=[alc,alv,alr,alG]) (fun _ _ _ _ _ _ _ _ _ _=>rfl);have qv:=fK.binds3 (l:=[alv,alr,alt]) (fun _ _ _ _ _ _ _ _ _=>rfl);have Mf:=sA.binds2 (l:=[al6,al0]) (fun _ _ _ _ _ _ _ _=>rfl);refine F.ok qx (fun vs H Q E h=>?_) (fun aE A outer s H vs Q E hr h=>?_)
 . obtain⟨sv,a,b,ps,N,now,goal,rfl,_⟩:=h;rfl
 . refine ck ?_;intro xX dX;obtain⟨sv,a,b,ps,N,now,goal,rfl,hW,hA,hB,cA,cB,q⟩:=h;have bY:=hr.mono (j:=1) (by decide);have nl:=cA.len hW.nms hW.len8;have gl:=cB.len hW.nms hW.len8;refine⟨_,(aA (a9 (i:=3) qx.nd rfl (Or.inl rfl) (cq ah))
    (aA (a9 (i:=4) qx.nd rfl (Or.inl rfl) (pv 1))
    (aA (a9 (i:=5) qx.nd rfl (Or.inl rfl) (aO Me bY rfl zn sA.kp Mf .nil aK (aa (pv 4) (aa (pv 2) ah))))
    (aA (Q6 eN (cb Ha (dU jm (by rfl) B.len jg (aa (pv 5) ah)) ap (bq _)) (aA (a9 (i:=6) qx.nd rfl (Or.inl rfl) (aO af7 hr rfl DY vP.kp af8 .nil aK (aa (pv 0) (aa (pv 4) (aa (pv 2) (aa (pv 5) ah))))))
     (aA (gR (jn km wG wH pi (pv 3) (aa (pv 6) ah)))
     (aA (a9 (i:=4) qx.nd rfl (Or.inl rfl) (aO qt bY rfl j4 fK.kp qv .nil aK (aa (pv 4) (aa (pv 2) (aa (pv 6) ah)))))
     (aG (a9 (i:=5) qx.nd rfl (Or.inl rfl) (aO Me bY rfl zn sA.kp Mf .nil aK (aa (pv 4) (aa (pv 2) ah)))))))))
    (aG (bE (pv 3))))))),?_⟩
   refine BF ?_;intro dD sS vf nH g9 fE;refine⟨(by show 0<=sizeLine;decide),fun p1 H1 n1 s1 e1=>?_⟩;refine⟨_,rfl,?_⟩;refine⟨_,rfl,_,rfl,a,b,now,goal,rfl,hA.same s1,hB.same s1,by omega,fun l2 H2 ys n2 s2 e2 srt nd mem=>?_⟩;have bA:=s1.trans s2;have Mg:=LY srt nd mem;refine⟨L8 H sv a b p1 ps now goal,⟨_,a,l2,none,[],[],_,rfl,rfl,bA,s2 _ _ e1,.nil,hA.same bA,cA,(bv e1 n2).symm,e2,Mg,fun i g h=>(by cases h),?_⟩,?_⟩
   . have:=Mg.len cA cB hW.nms hW.len8;simpa using this
   . intro m σ H3 hQ;refine bX ?_;intro tT;obtain⟨re,lf,u,zs,gs,left,rfl,rfl,s3,e3,p3,c3,k3,DZ,el,hL,st,l8⟩:=hQ;have zl:=aM p3;refine⟨_,rfl,lf,_,rfl,.inl (ae.of el),_,_,rfl,rfl,_,rfl,?_⟩;refine bj (fun h=>?_) (fun h=>?_)
     . have sC:(0:Int)<((left.map V.str).length:Int):=b0 h;rw[aw]at sC;have lne:left≠[]:=fun z=>by rw[z]at sC;simp at sC
       refine⟨fun σ' H'=>∃m',m'<left.length/\L8 H sv a b p1 ps now goal m' σ' H',fun σ' H' h=>h,?_⟩;refine⟨_,rfl,_,rfl,_,rfl,_,rfl,sv,re,b,lf,ps,N,dA goal now gs gs.length,goal,left,rfl,hW.same s3,c3,hB.same s3,k3,cB,el,hL.inc,lne,by omega,fun l4 H4 g s4 e4 fo=>?_⟩;have zo:=s4 _ _ e3;have n4:l4≠p1:=fun z=>by
        rw[z,zo]at e4;injection e4 with e4
        injection e4 with e4
        obtain⟨x,hx⟩:=wL _ fo.ne;have hm:V.str x∈zs:=by rw[e4];exact oR hx
        obtain⟨i,hi⟩:=mK hm;obtain⟨_,_,l,hl,_⟩:=bQ p3 hi;cases hl
       refine⟨_,rfl,.inl ⟨rfl,_,ae.of zo⟩,_,rfl,p1,_,_,rfl,rfl,zo,bp (by omega),?_⟩;have m5:ag H (ak H4 p1 (.lst (zs++[.ref l4]))):=fH n1 (s3.trans s4);have cc:cw (ak H4 p1 (.lst (zs++[.ref l4]))) re (dA goal now gs gs.length):=by
        obtain⟨c,m8,bW⟩:=gh.mut (zs':=zs++[.ref l4]) zo ⟨re,rfl,c3.same s4⟩;cases m8;exact bW
       have e5:ak H4 p1 (.lst (zs++[.ref l4])) l4=some (.lst (g.map V.str)):=by rw[a8 n4];exact e4
       have gl8:g.length<=8:=bn (dJ fo.inc.nd fo.sub) (by omega);have cl:=k3.len hW.nms hW.len8;refine⟨_,rfl,_,rfl,_,rfl,re,b,l4,_,goal,g,rfl,cc,hB.same m5,e5,by omega,fun r6 H6 n6 s6 c6=>?_⟩;have k6:=k3.beh k7 cB g;have cl6:=k6.len hW.nms hW.len8;refine⟨_,rfl,_,rfl,r6,b,_,goal,rfl,c6,hB.same (m5.trans s6),by omega,fun l7 H7 ys7 n7 s7 e7 aga nd7 agc=>?_⟩;have Mh:=LY aga nd7 agc;have less:=afH hL Mh fo.ne fo.sub;have e57:=(s6.trans s7) _ _ (bc (H:=H4) (a:=p1) (o:=.lst (zs++[.ref l4])));have or:=s6.trans s7;refine⟨_,less,r6,l7,_,_,gs++[g],_,rfl,rfl,m5.trans or,e57,?_,?_,?_,?_,e7,?_,af5 st ⟨left,hL,fo⟩,?_⟩
       . refine dr ⟨l4,rfl,by simpa using n4,or _ _ e5⟩ (bd p3 fun _ _ z=>((z.same s4).mut (by simp)).same or)
       . rw[DX];exact c6.same s7
       . rw[DX];exact k6
       . exact(bv (s6 _ _ bc) n7).symm
       . rw[DX];exact Mh
       . rw[bf,iJ];omega
     . have l0:left = []:=qW fun z=>h (aL (by
        have:=Ay fun y=>z (jI.mp y);show(0:Int)<((left.map V.str).length:Int);rw[aw];omega))
       refine⟨_,rfl,q p1 zs gs H3 n1 s3 e3 p3 ⟨st,fun z=>qW fun y=>?_⟩ (by omega)⟩;have:=(hL.mem z).mpr y;rw[l0]at this;cases this
end
end K51
namespace K51
open PySem L2 PySem.Spec PyProof.Rows
seal PE PS dH PA PT PW PG jO PI jr
theorem hJ.over{H H':Hp}{L:List Addr}(h:hJ H L)(s:ag H H'):hJ H' L:=fun b hb=>(h b hb).elim fun o age=>age.elim fun e q=>⟨o,s _ _ e,q⟩
theorem fh.msk{H:Hp}{L:List Addr}(hL:hJ H L){a:Addr}{cs:List dz}(n:a∉L)(h:fh H a cs):fh (msk L H) a cs:=h.elim fun ys agf=>agf.elim fun e p=>⟨ys,fG n e,bd p fun _ _=>dq.msk hL (ag.refl _)⟩
theorem dq.mut{H:Hp}{p:Addr}{ys:Lv}{o:HO}(hp:H p=some (.lst ys)){v:V}{c:dz}(h:dq H v c):dq (ak H p o) v c:=by
 obtain⟨t,l,b,e,h1,h2,h3⟩:=h;refine⟨t,l,b,e,bL h1 (fz h1 hp (by intro z;cases z)),bL h2 (fz h2 hp (by intro z;cases z)),?_⟩;cases hb:c.bl with
 | none=>rw[hb]at h3;exact h3
 | some bs=>
  rw[hb]at h3;obtain⟨a,e1,e2⟩:=h3;exact⟨a,e1,bL e2 (fz e2 hp (by intro z;cases z))⟩
def j5(H:Hp)(v:V)(p:aQ):Prop:=∃t m na sa oa,v = .ref t/\H t=some (.tup [.str p.nm,.ref m,.ref na,.ref sa,.ref oa])/\H m=some (.tup (p.ms.map V.int))/\fh H na p.ns/\fh H sa p.ss/\H oa=some (.lst (p.os.map V.str))
theorem j5.same{H H':Hp}(s:ag H H'){v:V}{p:aQ}(h:j5 H v p):j5 H' v p:=by
 obtain⟨t,m,na,sa,oa,e,h1,h2,h5,h6,h7⟩:=h;exact⟨t,m,na,sa,oa,e,s _ _ h1,s _ _ h2,h5.same s,h6.same s,s _ _ h7⟩
abbrev iG (H:Hp):Lv->Lp->Prop:=Paired (j5 H)
theorem iG.same{H H':Hp}(s:ag H H'){vs:Lv}{ps:Lp}(h:iG H vs ps):iG H' vs ps:=bd h fun _ _=>j5.same s
def ot:List Int->Int
 | []=>-1
 | [a]=>a
 | _::a::_=>a
structure Good(p:aQ):Prop where
 few:yk p
 s1:p.ss.length<=1
 f0:p.fs = []
 r0:p.rk=0
 nb:∀c∈p.ns,c.bl=none
 sb:∀c∈p.ss,c.bl=none
 nm:dk p.nm
section
variable {P:Program} {w:World} {K:Fg} {mg:Mv} {base:Heap}
def Mi:Sp:=fun vs H Q _=>∃(na:Addr) (c k:Int) (xs:Ls),vs = [.ref na,.int c,.int k]/\0<=k/\k<=100/\H na=some (.lst (xs.map V.str))/\yI xs/\∀v H' cl,ag H H'->dq H' v cl->cl.bl=none->Q v H'
theorem Mj:bO [ak1,ak0,ak4,ali] [ak1,ak0,ak4] (aS uY):=⟨rfl,rfl,rfl,by decide +kernel,rfl,by decide +kernel,by decide +kernel⟩
theorem agg{f dh:Addr}{fd fg:Fy}(F:au K aly aly uY f fd)(br:au K ak7 ak7 kR dh fg)(cp:mg ak7 = some (.ref dh)):aB P w K mg base aD 2 f fd [ak1,ak0,ak4] Mi:=by
 have dN:aB P w K mg base aD 1 dh fg [ak0,ak4] pW:=rY br;have dO:=br.binds2 (l:=[ak0,ak4]) (fun _ _ _ _ _ _ _ _=>rfl);refine F.ok Mj (fun vs H Q E h=>?_) (fun aE A outer s H vs Q E hr h=>?_)
 . obtain⟨na,c,k,xs,rfl,_⟩:=h;rfl
 . refine ck ?_;intro xX dX;obtain⟨na,c,k,xs,rfl,k0,k1,lX,hN,q⟩:=h;refine⟨_,(aA (a9 (i:=3) Mj.nd rfl (Or.inl rfl) (bi eZ (pv 0) (aY dg (aO dN hr rfl cp br.kp dO .nil aK (aa (pv 1) (aa (pv 2) ah))) ap) (fun _ _=>rfl)))
    (aG (bE (dm (aa (pv 3) (aa (bi eZ (cq (aa (dm ah) (aa (dm ah) (aa (dm (aa (aY dg (aO dN hr rfl cp br.kp dO .nil aK (aa (pv 1) (aa (aY iO (pv 2) ap) ah))) ap) ah)) ah)))) (aY dg (aO dN hr rfl cp br.kp dO .nil aK (aa (pv 1) (aa (aY iO (pv 2) ap) ah))) ap) (fun _ _=>rfl)) (aa q0 ah))))))),?_⟩
   refine rD ?_;intro dD sS fE;refine⟨_,rfl,_,rfl,_,rfl,c,k,rfl,by omega,by omega,fun d0 _=>?_⟩;obtain⟨z,hz,_⟩:=xC (xs:=xs) (r:=d0 % 7) (by omega) (by rw[hN.len];show _<((8:Nat):Int);omega);refine⟨_,_,rfl,rfl,(by show(0:Int)<7;decide),na,_,_,_,rfl,rfl,ae.of lX,hz,?_⟩;refine⟨_,rfl,(by show 0<=sizeLine;decide),fun p1 H1 n1 s1 e1=>?_⟩;refine⟨(by show 0<=sizeLine;decide),fun p2 H2 n2 s2 e2=>?_⟩;refine⟨_,rfl,_,rfl,_,_,rfl,rfl,_,_,rfl,by omega,by omega,fun d1 _=>?_⟩;refine⟨_,_,rfl,rfl,(by show(0:Int)<3;decide),(by show 1<=sizeLine;decide),fun p3 H3 n3 s3 e3=>?_⟩;refine⟨(by show 3<=sizeLine;decide),fun p4 H4 n4 s4 e4=>?_⟩;refine⟨_,rfl,_,rfl,_,_,rfl,rfl,_,_,rfl,by omega,by omega,fun d2 _=>?_⟩;obtain⟨lv,hlv,l,ls,rfl,hl⟩:=Kq (a:=.ref p1) (b:=.ref p2) (c:=.ref p3) d2 (R:=fun v=>∃l ls,v = .ref l/\H4 l=some (.tup (ls.map V.int))) ⟨_,[],rfl,((s2.trans s3).trans s4) _ _ e1⟩ ⟨_,[],rfl,(s3.trans s4) _ _ e2⟩ ⟨_,[_],rfl,s4 _ _ e3⟩;refine⟨_,_,rfl,rfl,(by show(0:Int)<3;decide),p4,_,_,_,rfl,rfl,ae.of e4,hlv,(by show 3<=sizeLine;decide),fun p5 H5 n5 s5 e5=>?_⟩;exact q _ _ ⟨z,ls,none⟩ ((((s1.trans s2).trans s3).trans s4).trans s5) ⟨p5,l,.non,rfl,e5,s5 _ _ hl,rfl⟩ rfl
def Ml:Sp:=fun vs H Q _=>∃(na:Addr) (c at_:Int) (rb:Bool) (xs:Ls),vs = [.ref na,.int c,.int at_,.bl rb]/\H na=some (.lst (xs.map V.str))/\yI xs/\∀v H' p,ag H H'->(∀L,hJ H L->j5 (msk L H') v p)->Good p->ot p.ms=at_->p.nm∈xs.take 5->Q v H'
theorem qy:bO [ak1,ak0,al8,alz,"_law_make",ali,"_law_needs","_law_shuts","_law_offers"] [ak1,ak0,al8,alz] (aS yA):=⟨rfl,rfl,rfl,by decide +kernel,rfl,by decide +kernel,by decide +kernel⟩
theorem agi{f dh qz:Addr}{fd fg vQ:Fy}(F:au K alV alV yA f fd)(B:eR mg)(br:au K ak7 ak7 kR dh fg)(cp:mg ak7 = some (.ref dh))(ou:au K aly aly uY qz vQ)(sD:mg aly = some (.ref qz)) :
 aB P w K mg base aD 3 f fd [ak1,ak0,al8,alz] Ml:=by
 have dN:aB P w K mg base aD 1 dh fg [ak0,ak4] pW:=rY br;have dO:=br.binds2 (l:=[ak0,ak4]) (fun _ _ _ _ _ _ _ _=>rfl);have Mm:aB P w K mg base aD 2 qz vQ [ak1,ak0,ak4] Mi:=agg ou br cp;have Mn:=ou.binds3 (l:=[ak1,ak0,ak4]) (fun _ _ _ _ _ _ _ _ _=>rfl);refine F.ok qy (fun vs H Q E h=>?_) (fun aE A outer s H vs Q E hr h=>?_)
 . obtain⟨na,c,at_,rb,xs,rfl,_⟩:=h;rfl
 . refine ck ?_;intro xX dX;obtain⟨na,c,at_,rb,xs,rfl,lX,hN,q⟩:=h;have bY:=hr.mono (j:=1) (by decide);refine⟨_,(aA (a9 (i:=4) qy.nd rfl (Or.inl rfl) (cq (aa (dm (aa (pv 2) ah)) (aa (dm (aa (aY dg (aO dN bY rfl cp br.kp dO .nil aK (aa (pv 1) (aa ap ah))) ap) (aa (pv 2) ah))) (aa (dm (aa (aY dg (aO dN bY rfl cp br.kp dO .nil aK (aa (pv 1) (aa ap ah))) ap) (aa (pv 2) (aa (aY dg (aO dN bY rfl cp br.kp dO .nil aK (aa (pv 1) (aa ap ah))) (aY R1 ap ap)) ah)))) ah)))))
    (aA (a9 (i:=5) qy.nd rfl (Or.inl rfl) (aY dg (aO dN bY rfl cp br.kp dO .nil aK (aa (pv 1) (aa ap ah))) ap))
    (aA (pw (i:=6) [ak4] [ak1,ak0] [0,1] qy.nd rfl rfl ⟨rfl,by decide +kernel,by decide +kernel,by decide +kernel,by decide +kernel,rfl,rfl,rfl⟩ rfl (o5 rfl B.range (aa (aY dg (aO dN bY rfl cp br.kp dO .nil aK (aa (pv 1) (aa ap ah))) ap) ah)) (fun _ _ _ _=>(aX (i:=0) (show List.Nodup ([ak4,ak1,ak0]:Ls) by decide +kernel) rfl (Or.inl rfl))) (fun _ _ _ _=>jt) (fun _ _ _ _=>(aO Mm hr rfl sD ou.kp Mn .nil aK (aa (pv 1) (aa (pv 2) (aa (aY iO ap (aY rh ap (pv 0))) ah))))))
    (aA (ej (PW.pt (w5 (jj (pv 3)) (wZ (cb xh (pv 5) ap (bq _)))))
    (aG (a9 (i:=6) qy.nd rfl (Or.inl rfl) (cq (aa (dm (aa (bi eZ (pv 0) (aY dg (aY iO (pv 5) ap) ap) (fun _ _=>rfl)) (aa (dm ah) (aa q0 ah)))) ah)))) eO)
    (aA (pw (i:=7) [ak4] [ak1,ak0] [0,1] qy.nd rfl rfl ⟨rfl,by decide +kernel,by decide +kernel,by decide +kernel,by decide +kernel,rfl,rfl,rfl⟩ rfl (o5 rfl B.range (aa (aY AX (aY dg (aO dN bY rfl cp br.kp dO .nil aK (aa (pv 1) (aa ap ah))) ap) ap) ah)) (fun _ _ _ _=>(aX (i:=0) (show List.Nodup ([ak4,ak1,ak0]:Ls) by decide +kernel) rfl (Or.inl rfl))) (fun _ _ _ _=>jt) (fun _ _ _ _=>(aO Mm hr rfl sD ou.kp Mn .nil aK (aa (pv 1) (aa (pv 2) (aa (aY iO ap (aY rh ap (pv 0))) ah))))))
    (aA (a9 (i:=8) qy.nd rfl (Or.inl rfl) (Ht HX (eB [ak4] [ak1,ak0] [0,1] ⟨rfl,by decide +kernel,by decide +kernel,by decide +kernel,by decide +kernel,rfl,rfl,rfl⟩ rfl (o5 rfl B.range (aa ap ah)) (fun _ _ _ _=>(aX (i:=0) (show List.Nodup ([ak4,ak1,ak0]:Ls) by decide +kernel) rfl (Or.inl rfl))) (fun _ _ _ _=>f7 (cb iP (aY dg (aO dN bY rfl cp br.kp dO .nil aK (aa (pv 2) (aa (aY iO ap (pv 0)) ah))) ap) ap (bq _))) (fun _ _ _ _=>(bi (Ia K) (pv 1) (aY iO ap (pv 0)) (fun _ _=>rfl)))) UU (A6 ap)))
    (aG (bE (dm (aa (bi eZ (pv 0) (pv 5) (fun _ _=>rfl)) (aa (bi eZ (pv 4) (aY dg (aO dN bY rfl cp br.kp dO .nil aK (aa (pv 1) (aa ap ah))) ap) (fun _ _=>rfl)) (aa (pv 6) (aa (pv 7) (aa (pv 8) ah)))))))))))))),?_⟩
   refine Ik ?_;intro dD sS uU7 Kz vf nH g9 fE;refine⟨_,rfl,(by show 1<=sizeLine;decide),fun p1 H1 n1 s1 e1=>?_⟩;refine⟨_,rfl,_,_,rfl,by decide,by decide,fun d1 _=>?_⟩;refine⟨_,_,rfl,rfl,(by show(0:Int)<3;decide),_,rfl,(by show 2<=sizeLine;decide),fun p2 H2 n2 s2 e2=>?_⟩;refine⟨_,rfl,_,_,rfl,by decide,by decide,fun d2 _=>?_⟩;refine⟨_,_,rfl,rfl,(by show(0:Int)<3;decide),_,rfl,_,rfl,_,_,rfl,by decide,by decide,fun d3 _=>?_⟩;refine⟨_,_,rfl,rfl,⟨by decide,by decide,by decide⟩,_,_,rfl,rfl,(by show(0:Int)<10 ^ (9:Int).toNat;decide),(by show 3<=sizeLine;decide),fun p3 H3 n3 s3 e3=>?_⟩;refine⟨(by show 3<=sizeLine;decide),fun p4 H4 n4 s4 e4=>?_⟩;have cQ:=((s1.trans s2).trans s3).trans s4;have D1:∀m,m=V.ref p1\/m=V.ref p2\/m=V.ref p3->∃a ms,m = .ref a/\H4 a=some (.tup (ms.map V.int))/\ot ms=at_:=fun m hm=>by
    rcases hm with rfl | rfl | rfl
    . exact⟨p1,[at_],rfl,((s2.trans s3).trans s4) _ _ e1,rfl⟩
    . exact⟨p2,[_,at_],rfl,(s3.trans s4) _ _ e2,rfl⟩
    . exact⟨p3,[_,at_,_],rfl,s4 _ _ e3,rfl⟩
   refine⟨_,rfl,_,_,rfl,by decide,by decide,fun d4 _=>?_⟩;refine⟨_,_,rfl,rfl,(by show(0:Int)<5;decide),?_⟩;have rest:∀(pn:Addr) (H6:Hp) (cn:List dz),ag H4 H6->H pn=none->fh H6 pn cn->cn.length<=2->(∀c∈cn,c.bl=none)->vf dD [some (.ref na),some (.int c),some (.int at_),some (.bl rb),some (.ref p4),some (.int (d4 % 5)),some (.ref pn),none,none] H6:=by
    intro pn H6 cn fW D2 oA agj oB;have mn:=cQ.trans fW;refine⟨_,rfl,_,_,rfl,by decide,by decide,fun d8 _=>?_⟩;refine⟨_,_,rfl,rfl,(by show(0:Int)<5;decide),_,_,rfl,rfl,⟨by omega,by omega⟩,d8 % 5 / 4,rfl,by omega,by omega,?_⟩;refine BB (σ0:=[none,some (.ref na),some (.int c)]) (fun σ=>∃v,σ = [v,some (.ref na),some (.int c)]) (fun i ys H8=>∃cs:List dz,Paired (dq H8) ys cs/\cs.length=i/\∀c∈cs,c.bl=none) ⟨_,rfl⟩ (fun _ _=>⟨[],.nil,rfl,fun _ h=>nomatch h⟩) ?_ ?_
    . intro D i ys σ H8 k hD hi hS hd hs hP hk;refine bX ?_;intro tT;obtain⟨v,rfl⟩:=hS;obtain⟨cs,hX,gB,oB⟩:=hP;have hyl:=aM hX;refine⟨_,rfl,_,rfl,_,rfl,_,_,rfl,rfl,.inl ⟨by omega,by omega⟩,_,_,rfl,rfl,na,c,_,xs,rfl,by omega,by omega,(mn.trans hs) _ _ lX,hN,fun v' H9 cl s9 D6 Ea=>?_⟩;have oC:=s9 _ _ hd;refine hk _ _ _ ⟨_,rfl⟩ s9 (bp (by omega)) ⟨cs++[cl],dr (D6.mut oC) (bd hX fun _ _ z=>(z.same s9).mut oC),by rw[bf,gB];rfl,fun c' fB=>?_⟩
      rcases cU.mp fB with z | z
      . exact oB c' z
      . rw[bD.mp z];exact Ea
    . intro ps yp H8 psn aR s8 hP;obtain⟨cs,hX,akz,pq⟩:=hP;have hX:fh H8 ps cs:=⟨yp,aR,hX⟩;have Mo:cs.length<=1:=by omega
      have s48:=fW.trans s8;have k9:=mn.trans s8;refine⟨3,rfl,by omega,by omega,?_⟩;refine HY (σ0:=[none,some (.ref na),some (.int c)]) (fun σ=>∃v,σ = [v,some (.ref na),some (.int c)]) (fun i ys _=>∃os:Ls,ys=os.map V.str/\os.length<=i) ⟨_,rfl⟩ (fun _ _=>⟨[],rfl,av _⟩) ?_ ?_
      . intro D i ys σ H9 k k' hD hi hS hd hs hP hk fV;refine bX ?_;intro tT;obtain⟨v,rfl⟩:=hS;obtain⟨os,rfl,rH⟩:=hP;have hi3:i<3:=by simpa using hi
        refine⟨_,rfl,_,rfl,_,_,rfl,rfl,_,_,rfl,by omega,by omega,fun d9 _=>?_⟩;refine⟨_,_,rfl,rfl,(by show(0:Int)<3;decide),rfl,_,rfl,?_⟩;refine bj (fun h=>?_) (fun h=>?_)
        . obtain⟨z,hz,_⟩:=xC (xs:=xs) (r:=4+(0+(i:Int))) (by omega) (by rw[hN.len];show _<((8:Nat):Int);omega);refine⟨_,rfl,_,rfl,_,_,rfl,rfl,na,_,_,_,rfl,rfl,ae.of ((k9.trans hs) _ _ lX),hz,?_⟩;exact hk _ _ _ ⟨_,rfl⟩ (ag.refl _) (bp (by rw[aw];omega)) ⟨os++[z],xD os z,by rw[bf];exact Gw rH⟩
        . exact fV _ _ ⟨_,rfl⟩ (ag.refl _) ⟨os,rfl,by omega⟩
      . intro D ys H9 hD hd hs hP;obtain⟨os,rfl,rH⟩:=hP;refine⟨_,rfl,D,_,rfl,ae.of hd,fun i7 eI zq fm fL=>?_⟩;rw[ZD]at fL;have t9:=hs.trans fm;have t4:=s48.trans t9;obtain⟨z,hz,yK⟩:=xC (xs:=xs) (r:=d4 % 5) (by omega) (by rw[hN.len];show _<((8:Nat):Int);omega);refine⟨_,rfl,_,rfl,na,_,_,_,rfl,rfl,ae.of ((k9.trans t9) _ _ lX),hz,?_⟩;refine⟨_,rfl,_,rfl,_,_,rfl,by decide,by decide,fun d11 _=>?_⟩;obtain⟨mv,vR,ma,ms,rfl,Mp,ago⟩:=Kq (a:=.ref p1) (b:=.ref p2) (c:=.ref p3) d11 (R:=fun m=>∃a ms,m = .ref a/\eI a=some (.tup (ms.map V.int))/\ot ms=at_) (let ⟨a,ms,e1,e2,e3⟩:=D1 _ (.inl rfl);⟨a,ms,e1,t4 _ _ e2,e3⟩) (let ⟨a,ms,e1,e2,e3⟩:=D1 _ (.inr (.inl rfl));⟨a,ms,e1,t4 _ _ e2,e3⟩) (let ⟨a,ms,e1,e2,e3⟩:=D1 _ (.inr (.inr rfl));⟨a,ms,e1,t4 _ _ e2,e3⟩);refine⟨_,_,rfl,rfl,(by show(0:Int)<3;decide),p4,_,_,_,rfl,rfl,ae.of (t4 _ _ e4),vR,_,rfl,_,rfl,_,rfl,(by show 5<=sizeLine;decide),fun zr Eb Ec eh sE=>?_⟩;have ul:=t9.trans eh;refine q _ _ ⟨z,ms,0,[],cn,cs,BC os none (some 2)⟩ ((k9.trans t9).trans eh) (fun L hL=>(have zt:=hL.over ((k9.trans t9).trans eh);⟨zr,ma,pn,ps,i7,rfl,fG (zt.tup sE) sE,fG (zt.tup (eh _ _ Mp)) (eh _ _ Mp),fh.msk zt (hL.free D2) (oA.same (s8.trans ul)),fh.msk zt (hL.free (mn.free psn)) (hX.same ul),fG (hL.free ((k9.trans hs).free zq)) (eh _ _ fL)⟩)) ⟨⟨agj,bn Mo (by decide),cj _,lx⟩,Mo,rfl,rfl,oB,pq,?_⟩ ago ?_
        . exact hN.all z (dw yK)
        . exact dw (i:=(d4 % 5).toNat) (by rw[Pd,ai (by omega)];exact yK)
   refine⟨_,rfl,_,_,rfl,by decide,by decide,fun d7 _=>?_⟩;refine⟨_,_,rfl,rfl,(by show(0:Int)<3;decide),d7 % 3,rfl,by omega,by omega,?_⟩;refine BB (σ0:=[none,some (.ref na),some (.int c)]) (fun σ=>∃v,σ = [v,some (.ref na),some (.int c)]) (fun i ys H8=>∃cs:List dz,Paired (dq H8) ys cs/\cs.length=i/\∀c∈cs,c.bl=none) ⟨_,rfl⟩ (fun _ _=>⟨[],.nil,rfl,fun _ h=>nomatch h⟩) ?_ ?_
   . intro D i ys σ H8 k hD hi hS hd hs hP hk;refine bX ?_;intro tT;obtain⟨v,rfl⟩:=hS;obtain⟨cs,hX,gB,oB⟩:=hP;have hyl:=aM hX;refine⟨_,rfl,_,rfl,_,rfl,_,_,rfl,rfl,.inl ⟨by omega,by omega⟩,_,_,rfl,rfl,na,c,_,xs,rfl,by omega,by omega,(cQ.trans hs) _ _ lX,hN,fun v' H9 cl s9 D6 Ea=>?_⟩;have oC:=s9 _ _ hd;refine hk _ _ _ ⟨_,rfl⟩ s9 (bp (by omega)) ⟨cs++[cl],dr (D6.mut oC) (bd hX fun _ _ z=>(z.same s9).mut oC),by rw[bf,gB];rfl,fun c' fB=>?_⟩
     rcases cU.mp fB with z | z
     . exact oB c' z
     . rw[bD.mp z];exact Ea
   . intro pn yn H6 Mq nJ s6 hP;obtain⟨cn,oA,gB,oB⟩:=hP;have oA:fh H6 pn cn:=⟨yn,nJ,oA⟩;refine⟨_,rfl,_,rfl,?_⟩;refine bj (fun h=>?_) (fun h=>?_)
     . refine⟨_,rfl,_,_,rfl,rfl,_,rfl,?_⟩;refine bj (fun h=>?_) (fun h=>?_)
       . obtain⟨z,hz,_⟩:=xC (xs:=xs) (r:=(d4 % 5+1) % 3) (by omega) (by rw[hN.len];show _<((8:Nat):Int);omega);refine⟨_,rfl,_,rfl,_,_,rfl,rfl,_,_,rfl,rfl,(by show(0:Int)<3;decide),na,_,_,_,rfl,rfl,ae.of ((cQ.trans s6) _ _ lX),hz,(by show 0<=sizeLine;decide),fun p5 H7 n7 s7 e7=>?_⟩;refine⟨(by show 3<=sizeLine;decide),fun p6 H8 n8 s8 e8=>?_⟩;refine⟨(by show 1<=sizeLine;decide),fun p7 H9 n9 s9 e9=>?_⟩;have qA:=(s7.trans s8).trans s9;refine rest p7 H9 [⟨z,[],none⟩] (s6.trans qA) (cQ.free (s6.free ((s7.trans s8).free n9))) ⟨_,e9,.cons ⟨p6,p5,.non,rfl,s9 _ _ e8,(s8.trans s9) _ _ e7,rfl⟩ .nil⟩ (by show 1<=2;decide) fun c' fB=>?_;rw[bD.mp fB]
       . exact rest pn H6 cn s6 (cQ.free Mq) oA (by omega) oB
     . exact gX (rest pn H6 cn s6 (cQ.free Mq) oA (by omega) oB)
end
structure Mr(ps:Lp):Prop where
 ss:∀p∈ps,p.ss = []
 need:∀p∈ps,∀c∈p.ns,c.ls = []/\∃q∈ps,q.nm=c.nm
structure sF(ps:Lp):Prop where
 len:ps.length<=8
 good:∀p∈ps,Good p
 keys:(ps.map ee).Nodup
 sm:ym ps
 nms:∃N:Ls,N.length<=8/\∀p∈ps,p.nm∈N
 ring:ps.length=8->Mr ps
theorem Ms{α β:Type}{f:α->List β}{m:Nat}:∀l:List α,(∀x∈l,(f x).length<=m)->(l.flatMap f).length<=l.length * m
 | [],_=>by simp
 | x::r,h=>by
  rw[lB,bf,bu,Gp];have:=h x cS;have:=Ms r fun y hy=>h y (cT _ hy);omega
theorem Mt{ps:Lp}{N:Ls}{s:Nat}(hN:∀p∈ps,p.nm∈N)(h:∀p∈ps,Good p/\p.ss.length<=s)(hl:N.length * (2+s * N.length)<64):ym ps:=by
 intro qs hq nd;have ql:qs.length<=N.length:=by
  have:=dJ nd (ys:=N) fun z hz=>by
   obtain⟨q,eV,e⟩:=bC.mp hz;rw[←e];exact hN q (hq q eV)
  rwa [aw]at this
 have a:=Ms (f:=fD qs) (m:=2+s * N.length) qs fun p hp=>by
  obtain⟨g,gs⟩:=h p (hq p hp);refine bn (adY g.few.ns g.f0) (Nat.add_le_add_left (O1 gs ql) 2)
 exact FS (bn a (Gv _ ql)) hl
def vS(xs:List Int)(lo hi:Option Int):List Int:=(xs.drop (HT.eA xs.length 0 lo)).take (HT.eA xs.length xs.length hi - HT.eA xs.length 0 lo)
theorem agp(xs:List Int)(lo hi:Option Int):lJ (xs.map V.int) lo hi=(vS xs lo hi).map V.int:=by
 unfold lJ vS;rw[aw,List.map_take,List.map_drop]
theorem agq(xs:List Int):(vS xs (some 3) (some 10)).length<=7:=by
 unfold vS;rw[show(3:Int)=((3:Nat):Int) from rfl,show(10:Int)=((10:Nat):Int) from rfl,HT.Hs,HT.Hs,dE];omega
theorem Mu{ps:Lp}(h:ps.Pairwise fun p q=>ot p.ms<ot q.ms):(ps.map ee).Nodup:=by
 refine qU.mpr (h.imp fun {p q} lt e=>?_);unfold ee at e;injection e with _ e
 injection e with e _
 injection e with e
 have:p.ms=q.ms:=(List.map_inj_right fun a b z=>Sum.inl.inj z).mp e;rw[this]at lt;omega
def lb(xs:Ls)(n:Nat)(j:Nat):aQ:=⟨xs.getD j Str.empty,[1,(j:Int)],0,[],if j<n then [⟨xs.getD ((j+1) % n) Str.empty,[],none⟩] else [],[],[]⟩
theorem agr{xs:Ls}(hN:yI xs){n:Nat}(h1:1<=n)(h8:n<=8):sF ((List.range 8).map (lb xs n)):=by
 have mem:∀j,j<8->xs.getD j Str.empty∈xs:=fun j hj=>by
  rw[qR,eJ (by rw[hN.len];exact hj)];exact Au _
 have good:∀p∈(List.range 8).map (lb xs n),Good p/\p.nm∈xs:=fun p hp=>by
  obtain⟨j,hj,rfl⟩:=bC.mp hp;have hj:=lr.mp hj;refine⟨⟨⟨?_,cj _,cj _,lx⟩,cj _,rfl,rfl,?_,(fun _ h=>nomatch h),hN.all _ (mem j hj)⟩,mem j hj⟩
  . unfold lb;dsimp only;split
    . show 1<=2;decide
    . exact cj _
  . unfold lb;dsimp only;intro c hc;split at hc
    . rw[bD.mp hc]
    . cases hc
 refine⟨by simp,fun p hp=>(good p hp).1,?_,Mt (N:=xs) (s:=0) (fun p hp=>(good p hp).2) (fun p hp=>⟨(good p hp).1,?_⟩) (by rw[hN.len];decide),⟨xs,by rw[hN.len];decide,fun p hp=>(good p hp).2⟩,fun _=>⟨fun p hp=>?_,fun p hp c hc=>?_⟩⟩
 . refine Mu (qU.mpr ((List.pairwise_lt_range (n:=8)).imp fun {a b} h=>?_));show(a:Int)<(b:Int);omega
 . obtain⟨j,_,rfl⟩:=bC.mp hp;exact cj _
 . obtain⟨j,_,rfl⟩:=bC.mp hp;rfl
 . obtain⟨j,_,rfl⟩:=bC.mp hp;unfold lb at hc;dsimp only at hc;split at hc
   . rw[bD.mp hc];have aP:(j+1) % n<n:=wy _ h1;exact⟨rfl,lb xs n ((j+1) % n),bC.mpr ⟨_,lr.mpr (by omega),rfl⟩,rfl⟩
   . cases hc
section
variable {P:Program} {w:World} {K:Fg} {mg:Mv} {base:Heap}
def zu(K:Fg):Sp:=fun vs H Q _=>∃(a:Addr) (ns:List Int),vs = [.ref a]/\ae K H a (ns.map V.int)/\∀l H' vs ps,H l=none->ag H H'->H' l=some (.lst vs)->iG H' vs ps->sF ps->Q (.ref l) H'
theorem qB:bO [ak6,ak1,alz,"_law_cells",alp,ak4,ak9] [ak6] (aS yB):=⟨rfl,rfl,rfl,by decide +kernel,rfl,by decide +kernel,by decide +kernel⟩
theorem ags{f jE dh oE qz zv:Addr}{fd mo fg sG vQ Ed:Fy}(F:au K alP alP yB f fd)(B:eR mg)(fO:au K alg alg rT jE mo)(i8:mg alg = some (.ref jE))(br:au K ak7 ak7 kR dh fg)(cp:mg ak7 = some (.ref dh))
 (lc:au K alx alx uX oE sG) (sH:mg alx = some (.ref oE)) (ou:au K aly aly uY qz vQ) (sD:mg aly = some (.ref qz)) (vT:au K alV alV yA zv Ed) (Ee:mg alV = some (.ref zv)) :
 aB P w K mg base aD 4 f fd [ak6] (zu K):=by
 have mq:aB P w K mg base aD 1 jE mo [ak6,ak4] (yH K):=CT fO B;have mr:=fO.binds2 (l:=[ak6,ak4]) (fun _ _ _ _ _ _ _ _=>rfl);have Ef:aB P w K mg base aD 2 oE sG [ak0] CU:=Ks lc B br cp;have Eg:=lc.binds1 (l:=[ak0]) (fun _ _ _ _ _ _ _=>rfl);have agt:aB P w K mg base aD 3 zv Ed [ak1,ak0,al8,alz] Ml:=agi vT B br cp ou sD;have agu:=vT.binds4 (l:=[ak1,ak0,al8,alz]) (fun _ _ _ _ _ _ _ _ _ _=>rfl);refine F.ok qB (fun vs H Q E h=>?_) (fun aE A outer s H vs Q E hr h=>?_)
 . obtain⟨a,ns,rfl,_⟩:=h;rfl
 . refine ck ?_;intro xX dX;obtain⟨a,ns,rfl,hA,q⟩:=h;have bY:=hr.mono (j:=1) (by decide);have kX:=hr.mono (j:=2) (by decide);refine⟨_,(aA (a9 (i:=1) qB.nd rfl (Or.inl rfl) (aO Ef kX rfl sH lc.kp Eg .nil aK (aa (aO mq bY rfl i8 fO.kp mr .nil aK (aa (pv 0) (aa ap ah))) ah)))
    (aA (a9 (i:=2) qB.nd rfl (Or.inl rfl) (gT iP (aY dg (aO mq bY rfl i8 fO.kp mr .nil aK (aa (pv 0) (aa ap ah))) ap) ap (bq _)))
    (aA (a9 (i:=3) qB.nd rfl (Or.inl rfl) (Ht HX (pv 0) (A6 ap) (A6 ap)))
    (aA (a9 (i:=4) qB.nd rfl (Or.inl rfl) (cq ah))
    (aA (eu eN rfl (o5 rfl B.range (aa (dU jm (by rfl) B.len jg (aa (pv 3) ah)) ah)) (aX (i:=5) qB.nd rfl (Or.inl rfl))
    (aA (a9 (i:=6) qB.nd rfl (Or.inr rfl) (aO agt hr rfl Ee vT.kp agu .nil aK (aa (pv 1) (aa (bi eZ (pv 3) (pv 5) (fun _ _=>rfl)) (aa (pv 5) (aa (pv 2) ah))))))
     (aG (ej (cb xh (dU jm (by rfl) B.len jg (aa (eB [alA] [ak9] [6] ⟨rfl,by decide +kernel,by decide +kernel,by decide +kernel,by decide +kernel,rfl,rfl,rfl⟩ rfl (bI (pv 4)) (fun _ _ _ _=>(aX (i:=0) (show List.Nodup ([alA,ak9]:Ls) by decide +kernel) rfl (Or.inl rfl))) (fun _ _ _ _=>f7 (cb iP (bi (f9 K) (pv 0) ap (fun _ _=>rfl)) (bi (f9 K) (pv 1) ap (fun _ _=>rfl)) (bq _))) (fun _ _ _ _=>(pv 0))) ah)) ap (bq _))
     (aG (gR (jn km wG wH pi (pv 4) (aa (pv 6) ah)))) eO))))
    (aG (bE (pv 4)))))))),?_⟩
   refine Z4 ?_;intro dD sS Kz vf nH g9 fE;refine⟨_,rfl,a,_,ns,rfl,by decide,hA,fun c0=>⟨_,rfl,fun l1 H1 xs n1 s1 e1 hN=>?_⟩⟩;refine⟨_,rfl,a,_,ns,rfl,by decide,s1.seq hA,fun c1=>?_⟩;refine⟨_,_,rfl,rfl,(by show(0:Int)<3;decide),rfl,?_⟩;refine⟨_,rfl,_,rfl,_,rfl,a,_,rfl,s1.seq hA,fun p2 H2 n2 s2 e2=>?_⟩;rw[agp]at e2;have c7:=agq ns;generalize vS ns (some 3) (some 10)=cs at e2 c7;refine⟨(by show 0<=sizeLine;decide),fun p3 H3 n3 s3 e3=>?_⟩;have eh:=(s1.trans s2).trans s3;have bA:=s1.trans s2;refine⟨_,rfl,p2,_,rfl,.inl (ae.of (s3 _ _ e2)),((cs.map V.int).length:Int),rfl,by omega,by rw[aw];omega,?_⟩;refine xc (fun i σ H4=>∃(u v:Option V) (vs:Lv) (ps:Lp) (rb:Bool),σ = [some (.ref a),some (.ref l1),some (.bl rb),some (.ref p2),some (.ref p3),u,v]/\ag H2 H4/\H4 p3=some (.lst vs)/\iG (msk [p3] H4) vs ps/\ps.length<=i/\(∀p∈ps,Good p/\ot p.ms<i/\p.nm∈xs.take 5)/\ps.Pairwise fun p q=>ot p.ms<ot q.ms) ⟨none,none,[],[],_,rfl,s3,e3,.nil,av _,(fun _ h=>nomatch h),.nil⟩ ?_ ?_
   . intro i σ H4 hi hQ;refine bX ?_;intro tT;obtain⟨u,v,vs,ps,rb,rfl,s4,e4,h4,pl,pg,pm⟩:=hQ;have gY:i<cs.length:=by
      rw[aw]at hi;omega
     obtain⟨z,hz,_⟩:=HN (ns:=cs) (r:=0+(i:Int)) (by omega) (by omega);refine⟨_,rfl,_,rfl,_,rfl,p2,_,_,_,rfl,rfl,ae.of (s4 _ _ e2),hz,_,rfl,_,rfl,l1,z,_,rb,xs,rfl,(s2.trans s4) _ _ e1,hN,fun v5 H5 p s5 h5 g5 m5 n5=>?_⟩;have b3:hJ H4 [p3]:=fun b hb=>by
      rw[bD.mp hb];exact⟨_,e4,by intro vs z;cases z⟩
     have vU:=h5 [p3] b3;obtain⟨t,m,na,sa,oa,rfl,ht,_⟩:=vU.same vh;refine⟨_,rfl,p3,rfl,⟨_,ae.of (s5 _ _ e4)⟩,?_⟩;intro D hD;have vl:=aM h4;refine hU (σ0:=[none,some (.ref t)]) hD (ae.of (s5 _ _ e4)) (fun σ=>∃v,σ = [v,some (.ref t)]) (fun j zs _=>zs.length<=j) ⟨_,rfl⟩ (av _) ?_ ?_
     . rintro j y zs σ H6 k k' hy ⟨v,rfl⟩ vV h6 zl cE bG;obtain⟨o,ho,hE⟩:=bQ h4 hy;have aP:=(bZ.mp ho).1;obtain⟨t',m',Mw,Mx,My,rfl,C2,_⟩:=hE.same vh;refine⟨_,rfl,t',_,_,_,rfl,rfl,aI.of (h6 _ _ (s5 _ _ C2)),rfl,_,rfl,t,_,_,_,rfl,rfl,aI.of (h6 _ _ ht),rfl,rfl,_,rfl,?_⟩;refine bj (fun h=>?_) (fun h=>?_)
       . exact⟨_,rfl,cE _ _ _ ⟨_,rfl⟩ (ag.refl _) (bp (by omega)) (by rw[bf,iJ];omega)⟩
       . exact bG _ _ ⟨_,rfl⟩ (ag.refl _) (by omega)
     . rintro zs H6 vV h6 zl;refine⟨D,_,rfl,.inl (ae.of vV),_,_,rfl,rfl,_,rfl,?_⟩;have fW:=s5.trans h6;have e6:=fW _ _ e4;refine bj (fun h=>?_) (fun h=>?_)
       . refine⟨_,rfl,.inl ⟨rfl,_,ae.of e6⟩,_,rfl,p3,_,_,rfl,rfl,e6,bp (by omega),?_⟩;refine⟨_,_,_,ps++[p],rb,rfl,fH n3 (s4.trans fW),bc,?_,by rw[bf];exact Gw pl,fun p' cD=>?_,?_⟩
         . rw[C5 cS];exact dr (vU.same (vi h6)) (h4.same (vi fW))
         . rcases cU.mp cD with z | z
           . obtain⟨a1,a2,a3⟩:=pg p' z;exact⟨a1,by omega,a3⟩
           . rw[bD.mp z];exact⟨g5,by rw[m5];omega,n5⟩
         . refine GB.mpr ⟨pm,AH _ _,fun p' cD q hq=>?_⟩;rw[bD.mp hq,m5];have:=(pg p' cD).2.1;omega
       . refine⟨_,_,vs,ps,rb,rfl,s4.trans fW,e6,h4.same (vi fW),by omega,fun p' cD=>?_,pm⟩;obtain⟨a1,a2,a3⟩:=pg p' cD;exact⟨a1,by omega,a3⟩
   . intro σ H4 hQ;obtain⟨u,v,vs,ps,rb,rfl,s4,e4,h4,pl,pg,pm⟩:=hQ;have l7:ps.length<=7:=by
      refine bn pl ?_;rw[aw];omega
     have t5:(xs.take 5).length=5:=by rw[dE,hN.len];rfl
     refine⟨_,rfl,q p3 H4 vs ps (bA.free n3) (bA.trans s4) e4 (h4.same vh) ⟨by omega,fun p hp=>(pg p hp).1,Mu pm,Mt (N:=xs.take 5) (s:=1) (fun p hp=>(pg p hp).2.2) (fun p hp=>⟨(pg p hp).1,(pg p hp).1.s1⟩) (by rw[t5];decide),⟨xs.take 5,by rw[t5];decide,fun p hp=>(pg p hp).2.2⟩,fun z=>?_⟩⟩;omega
theorem qC:bO [ak6,ak1,"_law_size",alp,ak4,"_law_needs"] [ak6] (aS yC):=⟨rfl,rfl,rfl,by decide +kernel,rfl,by decide +kernel,by decide +kernel⟩
theorem agv{f jE dh oE:Addr}{fd mo fg sG:Fy}(F:au K al3 al3 yC f fd)(B:eR mg)(fO:au K alg alg rT jE mo)(i8:mg alg = some (.ref jE))(br:au K ak7 ak7 kR dh fg)(cp:mg ak7 = some (.ref dh))
 (lc:au K alx alx uX oE sG) (sH:mg alx = some (.ref oE)):aB P w K mg base aD 3 f fd [ak6] (zu K):=by
 have mq:aB P w K mg base aD 1 jE mo [ak6,ak4] (yH K):=CT fO B;have mr:=fO.binds2 (l:=[ak6,ak4]) (fun _ _ _ _ _ _ _ _=>rfl);have Ef:aB P w K mg base aD 2 oE sG [ak0] CU:=Ks lc B br cp;have Eg:=lc.binds1 (l:=[ak0]) (fun _ _ _ _ _ _ _=>rfl);have dN:aB P w K mg base aD 1 dh fg [ak0,ak4] pW:=rY br;have dO:=br.binds2 (l:=[ak0,ak4]) (fun _ _ _ _ _ _ _ _=>rfl);refine F.ok qC (fun vs H Q E h=>?_) (fun aE A outer s H vs Q E hr h=>?_)
 . obtain⟨a,ns,rfl,_⟩:=h;rfl
 . refine ck ?_;intro xX dX;obtain⟨a,ns,rfl,hA,q⟩:=h;have bY:=hr.mono (j:=1) (by decide);refine⟨_,(aA (a9 (i:=1) qC.nd rfl (Or.inl rfl) (aO Ef hr rfl sH lc.kp Eg .nil aK (aa (aO mq bY rfl i8 fO.kp mr .nil aK (aa (pv 0) (aa ap ah))) ah)))
    (aA (a9 (i:=2) qC.nd rfl (Or.inl rfl) (aY iO ap (aY dg (aO dN bY rfl cp br.kp dO .nil aK (aa (aO mq bY rfl i8 fO.kp mr .nil aK (aa (pv 0) (aa ap ah))) (aa ap ah))) ap)))
    (aA (a9 (i:=3) qC.nd rfl (Or.inl rfl) (cq ah))
    (aA (eu eN rfl (o5 rfl B.range (aa ap ah)) (aX (i:=4) qC.nd rfl (Or.inl rfl))
    (aA (a9 (i:=5) qC.nd rfl (Or.inl rfl) (cq ah))
     (aA (ej (cb xh (pv 4) (pv 2) (bq _))
     (aG (a9 (i:=5) qC.nd rfl (Or.inl rfl) (cq (aa (dm (aa (bi eZ (pv 1) (aY dg (aY iO (pv 4) ap) (pv 2)) (fun _ _=>rfl)) (aa (dm ah) (aa q0 ah)))) ah)))) eO)
     (aG (gR (jn km wG wH pi (pv 3) (aa (dm (aa (bi eZ (pv 1) (pv 4) (fun _ _=>rfl)) (aa (dm (aa ap (aa (pv 4) ah))) (aa (pv 5) (aa (cq ah) (aa (cq ah) ah)))))) ah)))))))
    (aG (bE (pv 3))))))),?_⟩
   refine BF ?_;intro dD sS vf nH g9 fE;refine⟨_,rfl,a,_,ns,rfl,by decide,hA,fun c0=>⟨_,rfl,fun l1 H1 xs n1 s1 e1 hN=>?_⟩⟩;refine⟨_,rfl,a,_,ns,rfl,by decide,s1.seq hA,fun c1=>⟨_,_,rfl,by decide,by decide,fun d1 _=>?_⟩⟩;refine⟨_,_,rfl,rfl,(by show(0:Int)<3;decide),_,_,rfl,rfl,?_⟩;refine⟨(by show 0<=sizeLine;decide),fun p3 H3 n3 s3 e3=>?_⟩;have eh:=s1.trans s3;obtain⟨n,hn⟩:∃n:Nat,(n:Int)=5+d1 % 3:=⟨(5+d1 % 3).toNat,by omega⟩;have n5:5<=n:=by omega
   have n7:n<=7:=by omega
   refine⟨8,rfl,by omega,by omega,?_⟩;have Mz:∀j:Nat,j<8->bF (xs.map V.str) (j:Int)=some (.str (xs.getD j Str.empty)):=fun j hj=>by
    refine kE ?_;rw[bT,eJ (by rw[hN.len];exact hj),qR,eJ (by rw[hN.len];exact hj)];rfl
   refine xc (fun i σ H4=>∃(u v:Option V) (vs:Lv),σ = [some (.ref a),some (.ref l1),some (.int (5+d1 % 3)),some (.ref p3),u,v]/\ag H1 H4/\H4 p3=some (.lst vs)/\iG (msk [p3] H4) vs ((List.range i).map (lb xs n))) ⟨none,none,[],rfl,s3,e3,.nil⟩ ?_ ?_
   . intro i σ H4 hi hQ;refine bX ?_;intro tT;obtain⟨u,v,vs,rfl,s4,e4,h4⟩:=hQ;have Kt:i<8:=by simpa using hi
     have vl:=aM h4;rw[aw,oS]at vl;have Cp:=s4 _ _ e1;refine kK ?_;intro dB sB uB3 MA;have app:∀(pn:Addr) (H6:Hp),ag H4 H6->H4 pn=none->fh H6 pn (lb xs n i).ns->uB3 dB [some (.ref a),some (.ref l1),some (.int (5+d1 % 3)),some (.ref p3),some (.int (0+(i:Int))),some (.ref pn)] H6:=by
      intro pn H6 s6 D2 oA;have e6:=s6 _ _ e4;refine⟨_,rfl,.inl ⟨rfl,_,ae.of e6⟩,_,rfl,_,rfl,l1,_,_,_,rfl,rfl,ae.of (s6 _ _ Cp),(by rw[show(0:Int)+(i:Int)=(i:Int) by omega];exact Mz i Kt),_,rfl,(by show 2<=sizeLine;decide),fun p6 H7 n7 s7 e7=>?_⟩;refine⟨_,rfl,(by show 0<=sizeLine;decide),fun p7 H8 n8 s8 e8=>?_⟩;refine⟨(by show 0<=sizeLine;decide),fun p8 H9 n9 s9 e9=>?_⟩;refine⟨(by show 5<=sizeLine;decide),fun p9 eI zq fm fL=>?_⟩;have qA:=((s7.trans s8).trans s9).trans fm;refine⟨p3,_,_,rfl,rfl,qA _ _ e6,bp (by omega),?_⟩;refine⟨_,_,_,rfl,fH n3 (s4.trans (s6.trans qA)),bc,?_⟩;have b3:hJ H4 [p3]:=fun b hb=>by
       rw[bD.mp hb];exact⟨_,e4,by intro vs z;cases z⟩
      have Eh:=b3.over (s6.trans qA);rw[C5 cS,OL,gL];refine dr ⟨p9,p6,pn,p7,p8,rfl,fG (Eh.tup fL) fL,?_,fh.msk Eh (b3.free D2) (oA.same qA),?_,?_⟩ (h4.same (vi (s6.trans qA)))
      . have z:=((s8.trans s9).trans fm) _ _ e7;rw[show(0:Int)+(i:Int)=(i:Int) by omega]at z;exact fG (Eh.tup z) z
      . exact⟨[],fG (b3.free (s6.free (s7.free n8))) ((s9.trans fm) _ _ e8),.nil⟩
      . exact fG (b3.free (s6.free ((s7.trans s8).free n9))) (fm _ _ e9)
     refine⟨(by show 0<=sizeLine;decide),fun p5 H5 n5' s5 e5=>?_⟩;refine⟨_,rfl,_,rfl,_,_,rfl,rfl,_,rfl,?_⟩;refine bj (fun h=>?_) (fun h=>?_)
     . have aP:i<n:=by
        have z:(0:Int)+(i:Int)<5+d1 % 3:=b0 h;omega
       have em:(0+(i:Int)+1) % (5+d1 % 3)=(((i+1) % n:Nat):Int):=by
        rw[←hn,show(0:Int)+(i:Int)+1=((i+1:Nat):Int) by omega];exact(Int.natCast_emod (i+1) n).symm
       have akB:(i+1) % n<n:=wy _ (by omega);refine⟨_,rfl,_,rfl,_,_,rfl,rfl,_,rfl,_,_,rfl,rfl,(by show(0:Int)<5+d1 % 3;omega),l1,_,_,_,rfl,rfl,ae.of (s5 _ _ Cp),(by rw[em];exact Mz _ (by omega)),(by show 0<=sizeLine;decide),fun p6 H6 n6 s6 e6=>?_⟩;refine⟨(by show 3<=sizeLine;decide),fun p7 H7 n7' s7 e7=>?_⟩;refine⟨(by show 1<=sizeLine;decide),fun p8 H8 n8 s8 e8=>?_⟩;refine app p8 H8 (((s5.trans s6).trans s7).trans s8) (((s5.trans s6).trans s7).free n8) ?_;unfold lb;dsimp only;rw[ai aP];exact⟨_,e8,.cons ⟨p7,p6,.non,rfl,s8 _ _ e7,(s7.trans s8) _ _ e6,rfl⟩ .nil⟩
     . have lQ:¬i<n:=fun z=>h (aL (by omega));refine app p5 H5 s5 n5' ?_;unfold lb;dsimp only;rw[af lQ];exact⟨[],e5,.nil⟩
   . rintro σ H4 ⟨u,v,vs,rfl,s4,e4,h4⟩;exact⟨_,rfl,q p3 H4 vs _ (s1.free n3) (s1.trans s4) e4 (h4.same vh) (agr hN (by omega) (by omega))⟩
end
end K51
namespace L2
open PySem PySem.Spec PyProof.Rows
section
variable {X:Cx}
def agy(K:Fg):R2:=fun x y H Q=>∃d e,DV K H x d/\DV K H y e/\PySem.W.kqdOk 9 d=true/\PySem.W.kqdOk 9 e=true/\∀b:Bool,(b=true↔d=e)->Q (.bl b) H
theorem agz(K:Fg)(hu:X.A.units+64<cLine)(h:X.K=K:=by rfl):bw X (compareOp .Eq) (agy K):=h▸xw hu
def MB(K:Fg):R2:=fun x y H Q=>∃a b xs,x = .ref a/\y = .ref b/\ae K H a xs/\ae K H b []/\Q (.bl (decide (xs.length≠0))) H
theorem zw(hu:X.A.units<cLine):bw X (compareOp .NotEq) (MB X.K):=by
 intro pins s σ H x y v u Q I rx ry h;obtain⟨a,b,xs,rfl,rfl,ha,hb,q⟩:=h;cases rx;cases ry;obtain⟨its,rv,pl,_⟩:=I.list ha;obtain⟨iS,Cm,lS,_⟩:=I.list hb;cases Cm;have hl:=pD rv
 by_cases h0:xs.length=0
 . rw[aU (fun z=>z h0)]at q;have hz:its.toArray.size=([]:Lw).toArray.size:=by show its.length=0;omega
   refine SeqAt.RcNeAt.lists (e:=fun _=>true) pl.isList lS.isList hz hu (fun j h1 h2=>absurd h2 (by simp)) _ _ _ _ ?_;have:(!(List.range its.toArray.size).all (fun _=>true))=false:=by simp
   rw[this];exact⟨.bl false,H,I,rfl,q⟩
 . rw[aL h0]at q;exact SeqAt.RcNeAt.lists_lengths pl.isList lS.isList (by show(its.length != 0)=true;exact bne_iff_ne.mpr (by omega)) hu _ _ _ _ ⟨.bl true,H,I,rfl,q⟩
theorem agA(K:Fg)(hu:X.A.units<cLine)(h:X.K=K:=by rfl):bw X (compareOp .NotEq) (MB K):=h▸zw hu
end
end L2
namespace K51
open PySem L2 PySem.Spec PyProof.Rows
open HT (At cZ dL)
seal PE PS dH PA PT PW PG jO PI jr
section
variable {P:Program} {w:World} {K:Fg} {mg:Mv} {base:Heap}
def MD:Sp:=fun vs H Q _=>∃(cv ov:V) (c:dz) (p:aQ),vs = [cv,ov]/\dq H cv c/\j5 H ov p/\c.bl=none/\∀H',ag H H'->Q (.bl (b8 c p)) H'
theorem zx:bO [alE,ak9,ali,"_law_least","_law_below"] [alE,ak9] (aS rV):=⟨rfl,rfl,rfl,by decide +kernel,rfl,by decide +kernel,by decide +kernel⟩
theorem agB{f:Addr}{fd:Fy}(F:au K alq alq rV f fd):aB P w K mg base aD 1 f fd [alE,ak9] MD:=by
 refine F.ok zx (fun vs H Q E h=>?_) (fun aE A outer s H vs Q E hr h=>?_)
 . obtain⟨cv,ov,c,p,rfl,_⟩:=h;rfl
 . refine ck ?_;intro xX dX;obtain⟨cv,ov,cl,p,rfl,⟨c,l,b,rfl,c1,c2,c3⟩,⟨t,m,na,sa,oa,rfl,h1,h2,h5,h6,h7⟩,yW,q⟩:=h;have hu:=hr.units;have iL:=hr.units0;refine⟨_,(aA (QW (pv 0) (rc rfl (iN (aX (i:=2) zx.nd rfl (Or.inl rfl)) (iN (aX (i:=3) zx.nd rfl (Or.inl rfl)) (iN (aX (i:=4) zx.nd rfl (Or.inl rfl)) q8)))))
    (aG (bE (GU (q5 (gT iP (bi jS (pv 1) ap (fun _ _=>rfl)) (pv 2) (bq _)) (o4 (gT (abZ iL) (pv 3) (bi jS (pv 1) ap (fun _ _=>rfl)) (bq _)))) (o4 (q5 (gT A9 (pv 2) (bi jS (pv 1) ap (fun _ _=>rfl)) (by rfl)) (o4 (gT (xw hu) (pv 3) (dm ah) (bq _))))))))),?_⟩
   have a0:bF [V.str p.nm,.ref m,.ref na,.ref sa,.ref oa] 0=some (V.str p.nm):=rfl;have a1:bF [V.str p.nm,.ref m,.ref na,.ref sa,.ref oa] 1=some (V.ref m):=rfl;have a4:bF [V.str p.nm,.ref m,.ref na,.ref sa,.ref oa] 4=some (V.ref oa):=rfl;have em:b8 cl p=((decide (cl.nm=p.nm) && !HT.lexLt p.ms cl.ls) || (iT (.str cl.nm) (p.os.map V.str) && decide (cl.ls = []))):=by
    unfold b8;rw[yW,show yg p.ms none=true from rfl,Bool.and_true,show(none:Oi).isNone=true from rfl,Bool.and_true]
   rw[em]at q;refine⟨_,rfl,c,_,rfl,aI.of c1,rfl,_,_,rfl,_,_,rfl,_,_,rfl,rfl,?_⟩;refine⟨_,rfl,t,_,_,_,rfl,rfl,aI.of h1,a0,_,rfl,rfl,_,rfl,?_⟩;refine bj (fun hq=>?_) (fun hq=>?_)
   . have e1:p.nm=cl.nm:=by
      have:=b0 hq;injection this
     refine⟨_,rfl,_,rfl,t,_,_,_,rfl,rfl,aI.of h1,a1,l,m,cl.ls,p.ms,rfl,rfl,aI.of c2,aI.of h2,_,rfl,?_⟩;refine bj (fun uS=>?_) (fun uS=>?_)
     . rw[uS,aL e1.symm]at q;exact q _ (ag.refl H)
     . rw[fR.mpr uS,mH,Am]at q;refine⟨_,rfl,_,rfl,t,_,_,_,rfl,rfl,aI.of h1,a4,oa,_,rfl,.inl (ae.of h7),rfl,vo _,_,rfl,bj (fun hq=>?_) (fun hq=>?_)⟩
       . have eV:iT (.str cl.nm) (p.os.map V.str)=true:=hq;rw[eV,oQ]at q;refine⟨_,rfl,(by show 0<=sizeLine;decide),fun t1 H1 n1 s1 e1=>?_⟩;refine⟨_,_,si (s1 _ _ c2),si (ms:=[]) e1,qb 8 _,qb 8 _,fun bb hb=>?_⟩;have e:decide (cl.ls = [])=bb:=by
          cases bb with
          | true=>exact aL (sf.mp (hb.mp rfl))
          | false=>exact aU fun z=>bB (hb.mpr (sf.mpr z))
         rw[e]at q;exact q _ s1
       . have eV:iT (.str cl.nm) (p.os.map V.str)=false:=fR.mpr hq;rw[eV,mG]at q;exact q _ (ag.refl H)
   . have bt:cl.nm≠p.nm:=fun e=>hq (by rw[e];exact aL rfl);rw[aU bt,mG,Am]at q;refine⟨_,rfl,gX ?_⟩;refine⟨_,rfl,_,rfl,t,_,_,_,rfl,rfl,aI.of h1,a4,oa,_,rfl,.inl (ae.of h7),rfl,vo _,_,rfl,bj (fun hq=>?_) (fun hq=>?_)⟩
     . have eV:iT (.str cl.nm) (p.os.map V.str)=true:=hq;rw[eV,oQ]at q;refine⟨_,rfl,(by show 0<=sizeLine;decide),fun t1 H1 n1 s1 e1=>?_⟩;refine⟨_,_,si (s1 _ _ c2),si (ms:=[]) e1,qb 8 _,qb 8 _,fun bb hb=>?_⟩;have e:decide (cl.ls = [])=bb:=by
        cases bb with
        | true=>exact aL (sf.mp (hb.mp rfl))
        | false=>exact aU fun z=>bB (hb.mpr (sf.mpr z))
       rw[e]at q;exact q _ s1
     . have eV:iT (.str cl.nm) (p.os.map V.str)=false:=fR.mpr hq;rw[eV,mG]at q;exact q _ (ag.refl H)
theorem Ei{α:Type}{l:List α}{i:Nat}{x:α}{R:α->Prop}(h:l[i]? = some x)(a:∀y∈l.take i,R y)(b:R x):∀y∈l.take (i+1),R y:=fun y hy=>by
 rw[ff h]at hy
 rcases cU.mp hy with z | z
 . exact a y z
 . rw[bD.mp z];exact b
theorem agC{α:Type}{f:α->Bool}{l:List α}(h:l.filter f≠[]):l.any f=true:=by
 obtain⟨q,hq⟩:=wL _ h;obtain⟨a,b⟩:=dC.mp hq;exact qO.mpr ⟨q,a,b⟩
theorem agD{α:Type}{f:α->Bool}{l:List α}(h:l.filter f = []):l.any f=false:=by
 rw[FE];exact wM.mp h
def i9(p:aQ)(c:dz)(o:aQ):Bool:=decide (o.nm≠p.nm) && b8 c o
theorem ME{qs:Lp}{p:aQ}(f0:p.fs = [])(h:∀c∈p.ss,qs.filter (i9 p c) = []):qs.all (qo p)=true:=by
 refine gr.mpr fun o ho=>vF.mpr fun ne=>⟨fun c hc=>?_,fun x hx=>?_⟩
 . have:=wM.mp (h c hc) o ho;unfold i9 at this;rw[aL ne,oQ]at this;exact fR.mpr this
 . unfold db at hx;rw[f0]at hx;cases hx
theorem agE{qs:Lp}{p:aQ}{c:dz}(hc:c∈p.ss)(h:qs.filter (i9 p c)≠[]):qs.all (qo p)=false:=by
 obtain⟨o,ho⟩:=wL _ h;obtain⟨h1,h2⟩:=dC.mp ho;unfold i9 at h2;obtain⟨h3,h4⟩:=Pe.mp h2;refine fR.mpr fun z=>?_;have:=(vF.mp (gr.mp z o h1) (b0 h3)).1 c hc;rw[h4]at this;cases this
def Ej:Sp:=fun vs H Q _=>∃(a c:Addr) (xs:Lv) (ps:Lp) (ch:Ch),vs = [.ref a,.ref c]/\H a=some (.lst xs)/\iG H xs ps/\ps.length<=9/\(∀p∈ps,Good p)/\cw H c ch/\∀H',ag H H'->Q (.bl (cR ps ch)) H'
theorem vW:bO [ak2,alf,"_law_some",ak9,"_law_need","_law_shut"] [ak2,alf] (aS uZ):=⟨rfl,rfl,rfl,by decide +kernel,rfl,by decide +kernel,by decide +kernel⟩
theorem MF{f lh:Addr}{fd qD:Fy}(F:au K alB alB uZ f fd)(j6:au K alq alq rV lh qD)(mw:mg alq = some (.ref lh)):aB P w K mg base aD 2 f fd [ak2,alf] Ej:=by
 have MG:aB P w K mg base aD 1 lh qD [alE,ak9] MD:=agB j6;have MH:=j6.binds2 (l:=[alE,ak9]) (fun _ _ _ _ _ _ _ _=>rfl);refine F.ok vW (fun vs H Q E h=>?_) (fun aE A outer s H vs Q E hr h=>?_)
 . obtain⟨a,c,xs,ps,ch,rfl,_⟩:=h;rfl
 . refine ck ?_;intro xX dX;obtain⟨a,c,xs,ps,ch,rfl,ha,aR,l9,good,hC,q⟩:=h;have hu:=hr.units;have iL:=hr.units0;obtain⟨kvs,e1,e2⟩:=id hC;have hlen:=aM aR;refine⟨_,(aA (pw (i:=2) [ak9] [alf] [1] vW.nd rfl rfl ⟨rfl,by decide +kernel,by decide +kernel,by decide +kernel,by decide +kernel,rfl,rfl,rfl⟩ rfl (bI (pv 0)) (fun _ _ _ _=>(aX (i:=0) (show List.Nodup ([ak9,alf]:Ls) by decide +kernel) rfl (Or.inl rfl))) (fun _ _ _ _=>f7 (cb (agz K hu) (ub hu (pv 1) (bi (f9 K) (pv 0) ap (fun _ _=>rfl)) ⟨rfl,rfl,rfl,rfl⟩) (bi (f9 K) (pv 0) ap (fun _ _=>rfl)) (bq _))) (fun _ _ _ _=>(pv 0)))
    (aA (eu eN rfl (bI (pv 2)) (aX (i:=3) vW.nd rfl (Or.inr rfl))
    (aA (eu eN rfl (bI (bi jS (pv 3) ap (fun _ _=>rfl))) (aX (i:=4) vW.nd rfl (Or.inr rfl))
     (aG (ej (cb (JM iL) (eB [alA] ["_law_need"] [4] ⟨rfl,by decide +kernel,by decide +kernel,by decide +kernel,by decide +kernel,rfl,rfl,rfl⟩ rfl (bI (pv 2)) (fun _ _ _ _=>(aX (i:=0) (show List.Nodup ([alA,"_law_need"]:Ls) by decide +kernel) rfl (Or.inl rfl))) (fun _ _ _ _=>f7 (jj (aO MG hr rfl mw j6.kp MH .nil aK (aa (pv 1) (aa (pv 0) ah))))) (fun _ _ _ _=>(pv 0))) (cq ah) (bq _))
      (aG (bE mQ)) eO)))
     (aG (eu eN rfl (bI (bi jS (pv 3) ap (fun _ _=>rfl))) (aX (i:=5) vW.nd rfl (Or.inr rfl))
     (aG (ej (cb (zw iL) (eB [alA] [ak9,"_law_shut"] [3,5] ⟨rfl,by decide +kernel,by decide +kernel,by decide +kernel,by decide +kernel,rfl,rfl,rfl⟩ rfl (bI (pv 2)) (fun _ _ _ _=>(aX (i:=0) (show List.Nodup ([alA,ak9,"_law_shut"]:Ls) by decide +kernel) rfl (Or.inl rfl))) (fun _ _ _ _=>f7 (PW.pt (w5 (cb G9 (bi (f9 K) (pv 0) ap (fun _ _=>rfl)) (bi (f9 K) (pv 1) ap (fun _ _=>rfl)) (bq _)) (wZ (jj (aO MG hr rfl mw j6.kp MH .nil aK (aa (pv 2) (aa (pv 0) ah)))))))) (fun _ _ _ _=>(pv 0))) (cq ah) (bq _))
      (aG (bE mQ)) eO))))))
    (aG (bE mQ)))),?_⟩
   refine kK ?_
   intros
   refine⟨_,rfl,a,rfl,⟨_,ae.of ha⟩,?_⟩;intro D hD;refine hU (σ0:=[none,some (.ref c)]) hD (ae.of ha) (fun σ=>∃v,σ = [v,some (.ref c)]) (fun j zs _=>zs.length<=j/\iG H zs ((ps.take j).filter (gE ch))) ⟨_,rfl⟩ ⟨av _,.nil⟩ ?_ ?_
   . rintro j y zs σ H3 k k' hy ⟨v,rfl⟩ de h3 ⟨zl,zp⟩ cE bG;obtain⟨p,hp,hE⟩:=bQ aR hy;obtain⟨t,m,na,sa,oa,rfl,h1,h2,_⟩:=id hE;have aP:=(bZ.mp hp).1;have a0:bF [V.str p.nm,.ref m,.ref na,.ref sa,.ref oa] 0=some (V.str p.nm):=rfl;have a1:bF [V.str p.nm,.ref m,.ref na,.ref sa,.ref oa] 1=some (V.ref m):=rfl;obtain⟨d1,o1⟩:=me (K:=K) ((sq (x:=p.nm) e2).same h3);obtain⟨d2,o2⟩:=me (K:=K) (show gf H3 (.ref m) (some p.ms) from ⟨m,rfl,h3 _ _ h2⟩);refine⟨_,rfl,c,rfl,.inl ⟨_,.inl (h3 _ _ e1)⟩,_,rfl,t,_,_,_,rfl,rfl,aI.of (h3 _ _ h1),a0,_,cY.k (k:=.inr p.nm) (h3 _ _ e1),_,rfl,t,_,_,_,rfl,rfl,aI.of (h3 _ _ h1),a1,_,_,d1,d2,o1,o2,fun bb hb=>⟨_,rfl,?_⟩⟩;refine bj (fun h=>?_) (fun h=>?_)
     . have Ek:gE ch p=true:=aL (DE (hb.mp h));refine⟨_,rfl,cE _ _ _ ⟨_,rfl⟩ (ag.refl _) (bp (by omega)) ⟨by rw[bf,iJ];omega,?_⟩⟩;rw[iZ hp,ai Ek];exact dr hE zp
     . have Ek:¬gE ch p=true:=fun z=>h (hb.mpr (by rw[b0 z]));refine bG _ _ ⟨_,rfl⟩ (ag.refl _) ⟨by omega,?_⟩;rw[iZ hp,af Ek,ft];exact zp
   rintro zs H0 d0 s0 ⟨zl,iF⟩;rw[hlen,ca]at iF;have iF:=iG.same s0 iF;have qf:∀p∈ps.filter (gE ch),Good p:=fun p hp=>good p (dC.mp hp).1;have q:∀H',ag H0 H'->Q (.bl (qp (ps.filter (gE ch)))) H':=fun H' s'=>q H' (s0.trans s');have q9:(ps.filter (gE ch)).length<=9:=bn (iK _ _) l9;generalize ps.filter (gE ch)=qs at iF qf q q9;have vl:=aM iF;have bad:∀p∈qs,(sr qs p && qs.all (qo p))=false->∀H',ag H0 H'->Q (.bl false) H':=fun p hp hb H' s'=>by
    have e:qp qs=false:=fR.mpr fun z=>by
     have:=gr.mp z p hp;rw[hb]at this;cases this
    rw[e]at q;exact q H' s'
   refine⟨_,rfl,D,rfl,⟨_,ae.of d0⟩,?_⟩;refine gu (xs:=zs) (fun i σ H2=>∃u3 u4 u5,σ = [some (.ref a),some (.ref c),some (.ref D),u3,u4,u5]/\ag H0 H2/\∀p∈qs.take i,(sr qs p && qs.all (qo p))=true) ⟨none,none,none,rfl,ag.refl _,fun p hp=>(by rw[wO]at hp;cases hp)⟩ ?_ ?_ ?_
   . intro i σ H2 hi hQ;obtain⟨u3,u4,u5,rfl,s2,_⟩:=hQ;exact ae.of (s2 _ _ d0)
   . intro i z σ H2 hz hQ;refine bX ?_;intro tT;obtain⟨u3,u4,u5,rfl,s2,jN⟩:=hQ;obtain⟨p,hp,hE⟩:=bQ iF hz;have pm:=dw hp;have pf:=qf p pm;obtain⟨t,m,na,sa,oa,rfl,h1,h2,⟨nx,h5,vU⟩,⟨sx,h6,MI⟩,h7⟩:=id hE;have nl:=aM vU;have sl:=aM MI;have a0:bF [V.str p.nm,.ref m,.ref na,.ref sa,.ref oa] 0=some (V.str p.nm):=rfl;have a2:bF [V.str p.nm,.ref m,.ref na,.ref sa,.ref oa] 2=some (V.ref na):=rfl;have a3:bF [V.str p.nm,.ref m,.ref na,.ref sa,.ref oa] 3=some (V.ref sa):=rfl;refine⟨_,rfl,t,_,_,_,rfl,rfl,aI.of (s2 _ _ h1),a2,na,rfl,⟨_,ae.of (s2 _ _ h5)⟩,?_⟩;refine gu (xs:=nx) (fun k σ H3=>∃u4,σ = [some (.ref a),some (.ref c),some (.ref D),some (.ref t),u4,u5]/\ag H0 H3/\∀cl∈p.ns.take k,qs.any (b8 cl)=true) ⟨u4,rfl,s2,fun cl hc=>(by rw[wO]at hc;cases hc)⟩ ?_ ?_ ?_
     . intro k σ H3 hk hQ;obtain⟨u4,rfl,s3,_⟩:=hQ;exact ae.of (s3 _ _ h5)
     . intro k cv σ H3 El hQ;refine bX ?_;intro tT;obtain⟨u4,rfl,s3,hn⟩:=hQ;obtain⟨cl,gB,Em⟩:=bQ vU El;refine⟨_,rfl,D,rfl,⟨_,ae.of (s3 _ _ d0)⟩,?_⟩;intro D4 hD4;refine hU (σ0:=[none,some cv]) hD4 (ae.of (s3 _ _ d0)) (fun σ=>∃v,σ = [v,some cv]) (fun j zs' _=>zs'.length=((qs.take j).filter (b8 cl)).length) ⟨_,rfl⟩ rfl ?_ ?_
       . rintro j y zs' σ H4 kk MJ hy ⟨v,rfl⟩ gG En zl cE bG;obtain⟨o,ho,zy⟩:=bQ iF hy;have MK:=s3.trans En;have fj:((qs.take j).filter (b8 cl)).length<=9:=bn (iK _ _) (by rw[dE];omega);refine⟨_,rfl,_,rfl,cv,y,cl,o,rfl,Em.same MK,zy.same MK,pf.nb cl (dw gB),fun H5 sI=>⟨_,rfl,?_⟩⟩;refine bj (fun h=>?_) (fun h=>?_)
         . exact⟨_,rfl,cE _ _ _ ⟨_,rfl⟩ sI (bp (by omega)) (by rw[bf,zl,iZ ho,ai h,bf];rfl)⟩
         . exact bG _ _ ⟨_,rfl⟩ sI (by rw[zl,iZ ho,af h,ft])
       . rintro zs' H4 gG En zl;rw[vl,ca]at zl;refine⟨(by show 0<=sizeLine;decide),fun p5 H5 n5 s5 e5=>?_⟩;refine⟨D4,p5,_,rfl,rfl,ae.of (s5 _ _ gG),ae.of e5,_,rfl,?_⟩;have sw:=En.trans s5;refine bj (fun h=>?_) (fun h=>?_)
         . have hf:qs.filter (b8 cl) = []:=Gy (by rw[←zl];exact b0 h);refine bad p pm ?_ _ (s3.trans sw);rw[Bool.and_eq_false_iff];left;refine fR.mpr fun z=>?_;have:=gr.mp z cl (dw gB);rw[agD hf]at this;cases this
         . have hf:qs.filter (b8 cl)≠[]:=fun z=>h (by rw[zl,z];exact aL rfl);exact⟨_,rfl,s3.trans sw,Ei gB hn (agC hf)⟩
     . intro σ H3 hQ;refine bX ?_;intro tT;obtain⟨u4,rfl,s3,hn⟩:=hQ;rw[nl,ca]at hn;have agG:sr qs p=true:=gr.mpr hn;refine⟨_,rfl,t,_,_,_,rfl,rfl,aI.of (s3 _ _ h1),a3,sa,rfl,⟨_,ae.of (s3 _ _ h6)⟩,?_⟩;refine gu (xs:=sx) (fun k σ H4=>∃u5,σ = [some (.ref a),some (.ref c),some (.ref D),some (.ref t),u4,u5]/\ag H0 H4/\∀cl∈p.ss.take k,qs.filter (i9 p cl) = []) ⟨u5,rfl,s3,fun o ho=>(by rw[wO]at ho;cases ho)⟩ ?_ ?_ ?_
       . intro k σ H4 hk hQ;obtain⟨u5,rfl,s4,_⟩:=hQ;exact ae.of (s4 _ _ h6)
       . intro k cv σ H4 El hQ;refine bX ?_;intro tT;obtain⟨u5,rfl,s4,zA⟩:=hQ;obtain⟨cl,gB,Em⟩:=bQ MI El;have ML:=dw gB;refine⟨_,rfl,D,rfl,⟨_,ae.of (s4 _ _ d0)⟩,?_⟩;intro D5 Dq;refine hU (σ0:=[none,some (.ref t),some cv]) Dq (ae.of (s4 _ _ d0)) (fun σ=>∃v,σ = [v,some (.ref t),some cv]) (fun j zs' _=>zs'.length=((qs.take j).filter (i9 p cl)).length) ⟨_,rfl⟩ rfl ?_ ?_
         . rintro j y zs' σ H5 kk MJ hy ⟨v,rfl⟩ iE sI zl cE bG;obtain⟨o,ho,zy⟩:=bQ iF hy;obtain⟨t',m',Mw,Mx,My,rfl,g1,_⟩:=id zy;have a0':bF [V.str o.nm,.ref m',.ref Mw,.ref Mx,.ref My] 0=some (V.str o.nm):=rfl;have di:=s4.trans sI;have fj:((qs.take j).filter (i9 p cl)).length<=9:=bn (iK _ _) (by rw[dE];omega);refine⟨_,rfl,t',_,_,_,rfl,rfl,aI.of (di _ _ g1),a0',_,rfl,t,_,_,_,rfl,rfl,aI.of (di _ _ h1),a0,rfl,_,rfl,?_⟩;refine bj (fun h=>?_) (fun h=>?_)
           . have bt:o.nm≠p.nm:=fun z=>by
              rw[z,aL rfl]at h;cases h
             have es:i9 p cl o=b8 cl o:=by unfold i9;rw[aL bt,oQ]
             refine⟨_,rfl,_,rfl,cv,.ref t',cl,o,rfl,Em.same di,zy.same di,pf.sb cl ML,fun H6 MM=>⟨_,rfl,?_⟩⟩;refine bj (fun h=>?_) (fun h=>?_)
             . exact⟨_,rfl,cE _ _ _ ⟨_,rfl⟩ MM (bp (by omega)) (by rw[bf,zl,iZ ho,ai (es.trans h),bf];rfl)⟩
             . exact bG _ _ ⟨_,rfl⟩ MM (by rw[zl,iZ ho,af (by rw[es];exact h),ft])
           . have heq:o.nm=p.nm:=qW fun z=>h (by rw[aU fun y=>z (by injection y)];rfl);have es:i9 p cl o=false:=by unfold i9;rw[aU (fun z=>z heq),mG]
             refine gX (bG _ _ ⟨_,rfl⟩ (ag.refl _) (by rw[zl,iZ ho,af (by rw[es];exact bB),ft]))
         . rintro zs' H5 iE sI zl;rw[vl,ca]at zl;refine⟨(by show 0<=sizeLine;decide),fun p6 H6 n6 s6 e6=>?_⟩;refine⟨D5,p6,_,rfl,rfl,ae.of (s6 _ _ iE),ae.of e6,_,rfl,?_⟩;have fW:=sI.trans s6;have ig:=s4.trans fW;refine bj (fun h=>?_) (fun h=>?_)
           . have hf:qs.filter (i9 p cl)≠[]:=fun z=>b0 h (by rw[zl,z];rfl);refine bad p pm ?_ _ ig;rw[agE ML hf,mH]
           . have hf:qs.filter (i9 p cl) = []:=Gy (by
              rw[←zl];exact qW fun z=>h (aL z))
             exact⟨_,rfl,ig,Ei gB zA hf⟩
       . rintro σ H4 ⟨u5,rfl,s4,zA⟩;rw[sl,ca]at zA;refine⟨_,_,_,rfl,s4,Ei hp jN ?_⟩;rw[agG,ME pf.f0 zA];rfl
   . rintro σ H2 ⟨u3,u4,u5,rfl,s2,jN⟩;rw[vl,ca]at jN;have e:qp qs=true:=gr.mpr jN;rw[e]at q;exact q H2 s2
end
theorem MN:∀{a b:Ls},a.Nodup->(∀z∈a,z∈b)->a.length<=b.length:=fun h k=>dJ h k
def du(ps:Lp)(nm:Str):Ll:=(ps.filter fun p=>decide (p.nm=nm)).map aQ.ms
structure oF(ps:Lp)(ys:Ls):Prop where
 srt:sortedS ys=true
 nd:ys.Nodup
 mem:∀z,z∈ys↔z∈ps.map aQ.nm
theorem oF.uniq{ps:Lp}{a b:Ls}(h:oF ps a)(k:oF ps b):a=b:=
 aex ((Pc h.nd k.nd).mpr fun z=>by rw[h.mem,k.mem]) h.srt k.srt
def agI(H:Hp)(v:V)(m:List Int):Prop:=∃t,v = .ref t/\H t=some (.tup (m.map V.int))
theorem agJ(ps:Lp)(p:aQ)(nm:Str):du (ps++[p]) nm=du ps nm++(if p.nm=nm then [p.ms] else []):=by
 unfold du;rw[List.filter_append,gL,tq,List.filter_nil]
 by_cases e:p.nm=nm
 . rw[aL e,ai e];rfl
 . rw[aU e,af e];rfl
theorem MO{ps:Lp}{j:Nat}{o:aQ}(h:ps[j]? = some o){nm:Str}:du (ps.take (j+1)) nm=du (ps.take j) nm++(if o.nm=nm then [o.ms] else []):=by
 rw[ff h,agJ]
theorem agK{ps:Lp}:∀{ys:Ls},ys.Nodup->(ys.map fun y=>(du ps y).length).sum<=ps.length:=by
 induction ps with
 | nil=>
  intro ys _;have e:∀ys:Ls,(ys.map fun y=>(du [] y).length).sum=0:=fun ys=>by
   induction ys with
   | nil=>rfl
   | cons y ys ih=>rw[b9,GC,ih];rfl
  rw[e ys];exact av _
 | cons p ps ih=>
  intro ys nd;have e:∀y,(du (p::ps) y).length=(du ps y).length+if p.nm=y then 1 else 0:=fun y=>by
   unfold du;rw[tq]
   by_cases z:p.nm=y
   . rw[ai (aL z),ai z];rfl
   . rw[af (by simpa using z),af z];rfl
  have k:∀{ys:Ls},ys.Nodup->(ys.map fun y=>(du (p::ps) y).length).sum<=(ys.map fun y=>(du ps y).length).sum+(if p.nm∈ys then 1 else 0):=by
   intro ys
   induction ys with
   | nil=>intro _;exact cj _
   | cons y ys Cy=>
    intro nd;obtain⟨n1,n2⟩:=jG.mp nd;have:=Cy n2;rw[b9,b9,GC,GC,e]
    by_cases z:p.nm=y
    . have n3:p.nm∉ys:=z▸n1;rw[af n3]at this;rw[ai z,ai (by rw[z];exact cS)];omega
    . rw[af z]
      by_cases m:p.nm∈ys
      . rw[ai m]at this;rw[ai (cT _ m)];omega
      . rw[af m]at this;rw[af fun w=>m ((bh.mp w).resolve_left z)];omega
  have a:=k nd;have b:=ih nd;rw[bu];split at a<;>omega
def gH(ps:Lp)(fs:List Ch)(y:Str):List Ch:=fs++(du ps y).flatMap fun m=>fs.map fun c=>c++[(y,m)]
def dP(ps:Lp)(ys:Ls):List Ch:=ys.foldl (gH ps) [[]]
theorem Eo{fs:List Ch}{y:Str}:∀ms:Ll,(ms.flatMap fun m=>fs.map fun c=>c++[(y,m)]).length=fs.length * ms.length
 | []=>rfl
 | m::ms=>by
  rw[lB,bf,aw,Eo ms,bu,GD];omega
theorem Ep(ps:Lp)(fs:List Ch)(y:Str):(gH ps fs y).length=fs.length * ((du ps y).length+1):=by
 unfold gH;rw[bf,Eo,GD];omega
theorem MQ(ps:Lp):∀(ys:Ls) (fs:List Ch),fs.length<=(ys.foldl (gH ps) fs).length
 | [],_=>av _
 | y::ys,fs=>by
  refine bn ?_ (MQ ps ys (gH ps fs y));rw[Ep];exact Nat.le_mul_of_pos_right _ (Ar _)
theorem agL(ps:Lp)(ys:Ls)(i:Nat):(dP ps (ys.take i)).length<=(dP ps ys).length:=by
 have e:dP ps ys=(ys.drop i).foldl (gH ps) (dP ps (ys.take i)):=by
  unfold dP;rw[←tG,ki]
 rw[e];exact MQ ps _ _
theorem MR{ps:Lp}{ys:Ls}{i:Nat}{y:Str}(h:ys[i]? = some y):dP ps (ys.take (i+1))=gH ps (dP ps (ys.take i)) y:=by
 unfold dP;rw[ff h,tG];rfl
theorem MT{ps:Lp}:∀(ys pre:Ls) (fs:List Ch),(∀ch∈fs,ch.length<=pre.length/\∀x∈ch.map (·.1),x∈pre)->∀ch∈ys.foldl (gH ps) fs,ch.length<=(pre++ys).length/\∀x∈ch.map (·.1),x∈pre++ys
 | [],pre,fs,h=>by rw[ft];exact h
 | y::ys,pre,fs,h=>by
  have z:=MT (ps:=ps) ys (pre++[y]) (gH ps fs y) fun ch hc=>by
   rcases cU.mp hc with hc | hc
   . obtain⟨a,b⟩:=h ch hc;exact⟨by rw[bf];omega,fun x hx=>cU.mpr (.inl (b x hx))⟩
   . obtain⟨m,_,hc⟩:=AG.mp hc;obtain⟨c,bW,rfl⟩:=bC.mp hc;obtain⟨a,b⟩:=h c bW;refine⟨by rw[bf,bf];exact Gw a,fun x hx=>?_⟩;rw[gL]at hx
     rcases cU.mp hx with hx | hx
     . exact cU.mpr (.inl (b x hx))
     . exact cU.mpr (.inr hx)
  rw[cW]at z;exact z
theorem agM{ps:Lp}{ys:Ls}{ch:Ch}(h:ch∈dP ps ys):ch.length<=ys.length/\∀x∈ch.map (·.1),x∈ys:=MT ys [] [[]] (fun c hc=>by rw[bD.mp hc];exact⟨av _,fun x hx=>by cases hx⟩) ch h
theorem MU{ps:Lp}:∀(ys:Ls) (fs:List Ch),(ys.foldl (gH ps) fs).length<=fs.length * 2 ^ (ys.map fun y=>(du ps y).length).sum
 | [],fs=>by simp
 | y::ys,fs=>by
  have c:(du ps y).length+1<=2 ^ (du ps y).length:=Nat.lt_two_pow_self;rw[As,b9,GC,Nat.pow_add,←Nat.mul_assoc];refine bn (MU ys (gH ps fs y)) (Gv _ ?_);rw[Ep];exact Nat.mul_le_mul_left _ c
theorem agN{ps:Lp}{ys:Ls}(hN:oF ps ys)(h7:ps.length<=7):(dP ps ys).length<=128:=by
 have a:=MU (ps:=ps) ys [[]];have b:=agK (ps:=ps) hN.nd;have c:=Ph (n:=2) (by decide) (show(ys.map fun y=>(du ps y).length).sum<=7 by omega);unfold dP;rw[iJ,Nat.one_mul]at a;exact bn a c
theorem MV{ps:Lp}:∀(ys:Ls) (fs:List Ch),ys.Nodup->(∀ch∈fs,bS ps ch/\∀y∈ys,y∉ch.map (·.1))->∀ch∈ys.foldl (gH ps) fs,bS ps ch
 | [],fs,_,h=>fun ch hc=>(h ch hc).1
 | y::ys,fs,nd,h=>by
  obtain⟨n1,n2⟩:=jG.mp nd;refine MV ys (gH ps fs y) n2 fun ch hc=>?_
  rcases cU.mp hc with hc | hc
  . exact⟨(h ch hc).1,fun z hz=>(h ch hc).2 z (cT _ hz)⟩
  . obtain⟨m,hm,hc⟩:=AG.mp hc;obtain⟨c,bW,rfl⟩:=bC.mp hc;obtain⟨⟨a1,a2⟩,b⟩:=h c bW;refine⟨⟨?_,fun e he=>?_⟩,fun z hz hx=>?_⟩
    . rw[gL,wz];refine⟨a1,by simp,fun x hx z hz=>?_⟩;have:z=y:=by simpa using hz
      rw[this];exact fun e=>b y cS (e▸hx)
    . rcases cU.mp he with he | he
      . exact a2 e he
      . rw[bD.mp he];unfold du at hm;obtain⟨p,hp,ep⟩:=bC.mp hm;obtain⟨p1,p2⟩:=dC.mp hp;exact⟨p,p1,b0 p2,ep⟩
    . rw[gL]at hx
      rcases cU.mp hx with hx | hx
      . exact b z (cT _ hz) hx
      . have:z=y:=by simpa using hx
        exact n1 (this▸hz)
theorem agO{ps:Lp}{ys:Ls}(nd:ys.Nodup){ch:Ch}(h:ch∈dP ps ys):bS ps ch:=
 MV ys [[]] nd (fun c hc=>by rw[bD.mp hc];exact⟨⟨lx,fun _ h=>nomatch h⟩,fun _ _ h=>nomatch h⟩) ch h
theorem MW{ps:Lp}:∀(ys:Ls) (fs:List Ch),[]∈fs->[]∈ys.foldl (gH ps) fs
 | [],_,h=>h
 | y::ys,fs,h=>MW ys (gH ps fs y) (oO _ h)
theorem agP(ps:Lp)(ys:Ls):[]∈dP ps ys:=MW ys [[]] cS
def my(x:Str):Ls->Ls
 | []=>[x]
 | y::r=>if ltCps y.cps.toList x.cps.toList=true then y::my x r else x::y::r
theorem Es(x:Str):∀l:Ls,(my x l).Perm (x::l)
 | []=>.refl _
 | y::r=>by
  unfold my;split
  . exact((Es x r).cons y).trans (.swap x y r)
  . exact .refl _
theorem MX{a b:Str}(h:ltCps a.cps.toList b.cps.toList=true):ltCps b.cps.toList a.cps.toList=false:=by
 rw[ajT]at h ⊢;exact aU (List.lt_asymm (b0 h))
theorem MY(x:Str):∀(l:Ls) (p:Str),risingS p l=true->ltCps x.cps.toList p.cps.toList=false->risingS p (my x l)=true
 | [],p,_,h=>by
  show(!ltCps x.cps.toList p.cps.toList && true)=true;rw[h];rfl
 | y::r,p,h,hx=>by
  have h:(!ltCps y.cps.toList p.cps.toList && risingS y r)=true:=h;obtain⟨h1,h2⟩:=Pe.mp h;unfold my;split
  . rename_i lt;show(!ltCps y.cps.toList p.cps.toList && risingS y (my x r))=true;rw[h1,MY x r y h2 (MX lt)];rfl
  . rename_i lt;show(!ltCps x.cps.toList p.cps.toList && (!ltCps y.cps.toList x.cps.toList && risingS y r))=true;rw[hx,fR.mpr lt,h2];rfl
theorem agQ(x:Str):∀l:Ls,sortedS l=true->sortedS (my x l)=true
 | [],_=>rfl
 | y::r,h=>by
  have h:risingS y r=true:=h;unfold my;split
  . rename_i lt;exact MY x r y h (MX lt)
  . rename_i lt;show(!ltCps y.cps.toList x.cps.toList && risingS y r)=true;rw[fR.mpr lt,h];rfl
theorem MZ:∀l:Ls,∃ys,sortedS ys=true/\ys.Nodup/\∀z,z∈ys↔z∈l
 | []=>⟨[],rfl,lx,fun _=>Iff.rfl⟩
 | x::l=>by
  obtain⟨ys,h1,h2,h3⟩:=MZ l
  by_cases hx:x∈ys
  . refine⟨ys,h1,h2,fun z=>?_⟩;rw[h3,bh];refine⟨.inr,fun h=>?_⟩
    rcases h with e | h
    . rw[e];exact(h3 x).mp hx
    . exact h
  . refine⟨my x ys,agQ x ys h1,(Es x ys).nodup_iff.mpr (jG.mpr ⟨hx,h2⟩),fun z=>?_⟩;rw[(Es x ys).mem_iff,bh,bh,h3]
theorem M0(ps:Lp):∃ys,oF ps ys:=by
 obtain⟨ys,h1,h2,h3⟩:=MZ (ps.map aQ.nm);exact⟨ys,h1,h2,h3⟩
theorem Et{H:Hp}{kvs:List (aF×V)}{ch:Ch}(h:Paired (bR H) kvs ch)(nd:(ch.map (·.1)).Nodup):(kvs.map (·.1)).Nodup/\∀p∈kvs,∃r,p.2 = .ref r:=by
 have e:=CV (key:=fun e:Str×List Int=>(Sum.inr e.1:aF)) (fun _ _ (z:bR H _ _)=>z.1) h;refine⟨?_,fun p hp=>?_⟩
 . rw[e];have:ch.map (fun e:Str×List Int=>(Sum.inr e.1:aF))=(ch.map (·.1)).map Sum.inr:=by rw[Gu];rfl
   rw[this];exact List.Pairwise.map _ (fun a b h z=>h (fq z)) nd
 . obtain⟨i,hi⟩:=mK hp;obtain⟨e,_,_,m,e2,_⟩:=bQ h hi;exact⟨m,e2⟩
section
variable {P:Program} {w:World} {K:Fg} {mg:Mv} {base:Heap}
theorem agR{C S:Addr}{H:Hp}{Q:Addr->Hp->Prop}{E:XK}{a:Addr}{xs:Lv}{ps:Lp}(ha:H a=some (.lst xs))(aR:fk C H xs ps)(yO:ps.length<=100)(r9:(ps.map ee).Nodup)(q:∀x H',H x=none->ag H H'->lY S H' (.ref x) xs ps->Q x H') :
 ∀x dx,H x=none->H dx=none->dx≠x->Db K C S (.ref x::([.ref a]++[])) (ak (ak H dx (.own x)) x (.ins S dx [])) (fun v H2=>v = .non/\Q x H2) E:=by
 intro x dx hx C7 nx;have s1:ag H (ak (ak H dx (.own x)) x (.ins S dx [])):=m6 (jp C7) hx;refine⟨x,dx,a,xs,ps,rfl,bc,s1 _ _ ha,aR.same s1,yO,r9,fun H' keep hS=>⟨rfl,q x H' hx (fun b o e=>keep b o (s1 _ _ e) (bv e hx)) hS⟩⟩
def M3:Sp:=fun vs H Q _=>∃(a:Addr) (xs:Lv) (ps:Lp) (ys:Ls),vs = [.ref a]/\H a=some (.lst xs)/\iG H xs ps/\ps.length<=9/\oF ps ys/\(dP ps ys).length<=400 /\
 ∀l zs H',H l=none->ag H H'->H' l=some (.lst zs)->Paired (gh H') zs (dP ps ys)->Q (.ref l) H'
theorem oG:bO [ak2,alp,ali,"_law_longer","_law_make",alf,alA] [ak2] (aS yD):=⟨rfl,rfl,rfl,by decide +kernel,rfl,by decide +kernel,by decide +kernel⟩
theorem agS{f:Addr}{fd:Fy}(F:au K al4 al4 yD f fd)(B:eR mg):aB P w K mg base aD 1 f fd [ak2] M3:=by
 refine F.ok oG (fun vs H Q E h=>?_) (fun aE A outer s H vs Q E hr h=>?_)
 . obtain⟨a,xs,ps,ys,rfl,_⟩:=h;rfl
 . refine ck ?_;intro xX dX;obtain⟨a,xs,ps,ys,rfl,ha,aR,l9,hN,akD,q⟩:=h;have hu:=hr.units;have xl:=aM aR;have Eu:∀{Hx:Hp} (kv:aF×V) (f:Str×List Int),bR Hx kv f->kv.1=Sum.inr f.1:=fun kv f z=>z.1;refine⟨_,(aA (a9 (i:=1) oG.nd rfl (Or.inl rfl) (cq (aa Ij ah)))
    (aA (eu eN rfl (bI (dU (BZ rfl) (by rfl) B.sorted tI (aa (eW (Jm rfl) (by rfl) B.set Gz (aa (eB [ak9] [] [] ⟨rfl,by decide +kernel,by decide +kernel,by decide +kernel,by decide +kernel,rfl,rfl,rfl⟩ rfl (bI (pv 0)) (fun _ _ _ _=>(aX (i:=0) (show List.Nodup ([ak9]:Ls) by decide +kernel) rfl (Or.inl rfl))) (fun _ _ _ _=>jt) (fun _ _ _ _=>(bi (f9 K) (pv 0) ap (fun _ _=>rfl)))) ah)) ah))) (aX (i:=2) oG.nd rfl (Or.inr rfl))
    (aA (a9 (i:=3) oG.nd rfl (Or.inl rfl) (eW Bz (by rfl) B.list kj (aa (pv 1) ah)))
     (aA (eu eN rfl (bI (eB [ak9] [ali] [2] ⟨rfl,by decide +kernel,by decide +kernel,by decide +kernel,by decide +kernel,rfl,rfl,rfl⟩ rfl (bI (pv 0)) (fun _ _ _ _=>(aX (i:=0) (show List.Nodup ([ak9,ali]:Ls) by decide +kernel) rfl (Or.inl rfl))) (fun _ _ _ _=>f7 (cb iP (bi (f9 K) (pv 0) ap (fun _ _=>rfl)) (pv 1) (bq _))) (fun _ _ _ _=>(bi (f9 K) (pv 0) ap (fun _ _=>rfl))))) (aX (i:=4) oG.nd rfl (Or.inl rfl))
     (aG (eu eN rfl (bI (pv 1)) (aX (i:=5) oG.nd rfl (Or.inl rfl))
      (aA (a9 (i:=6) oG.nd rfl (Or.inl rfl) (eW uk (by rfl) B.dict wN (aa (pv 5) ah)))
       (aA (ua hu (pv 6) (pv 2) (pv 4) rfl)
       (aG (gR (jn km wG wH pi (pv 3) (aa (pv 6) ah)))))))))
     (aG (a9 (i:=1) oG.nd rfl (Or.inl rfl) (pv 3))))))
    (aG (bE (pv 1))))),?_⟩
   refine kK ?_
   intros
   refine fun p1 H1 n1 s1 e1=>?_;refine⟨(by show 1<=sizeLine;decide),fun p2 H2 n2 s2 e2=>?_⟩;have mz:=s1.trans s2;refine⟨_,rfl,a,rfl,⟨_,ae.of (mz _ _ ha)⟩,?_⟩;refine Jt (σ0:=[none]) (ae.of (mz _ _ ha)) (fun σ=>∃u,σ = [u]) ((ps.map aQ.nm).map V.str) (by rw[aw,aw,xl]) (gK (bp (by omega))) ⟨_,rfl⟩ ?_ ?_
   . intro i z y σ H3 k hz hy hQ hs hk;obtain⟨u,rfl⟩:=hQ;obtain⟨p,hp,t,m,na,sa,oa,rfl,h1,_⟩:=bQ aR hz;rw[bT,bT,hp]at hy;cases hy;have a0:bF [V.str p.nm,.ref m,.ref na,.ref sa,.ref oa] 0=some (V.str p.nm):=rfl;exact⟨_,rfl,t,_,_,_,rfl,rfl,aI.of ((mz.trans hs) _ _ h1),a0,hk _ _ ⟨_,rfl⟩ (ag.refl _)⟩
   . intro D H3 hD eD s3;refine⟨D,ps.map aQ.nm,rfl,ae.of eD,by rw[aw];omega,fun r Ev H4 n4 s4 e4 nd mem=>?_⟩;have hl:=MN nd fun z hz=>(mem z).mp hz;rw[aw]at hl;refine⟨r,Ev,rfl,e4,by omega,fun aJ hp hs=>fun l H5 n5 s5 e5=>?_⟩;have ey:=oF.uniq ⟨hs,hp.nodup_iff.mpr nd,fun z=>by rw[hp.mem_iff,mem]⟩ hN;subst ey;have nY:=s3.trans (s4.trans s5);have di:=mz.trans nY;refine⟨l,rfl,⟨_,ae.of e5⟩,?_⟩;refine gu (xs:=aJ.map V.str) (fun i σ H6=>∃lf u2 u3 u4 u5 u6 zs,σ = [some (.ref a),some (.ref lf),u2,u3,u4,u5,u6]/\ag H5 H6/\H lf=none/\H6 lf=some (.lst zs)/\Paired (gh H6) zs (dP ps (aJ.take i)))
      ⟨p2,none,none,none,none,none,[.ref p1],rfl,ag.refl _,s1.free n2,nY _ _ e2,.cons ⟨p1,rfl,[],(s2.trans nY) _ _ e1,.nil⟩ .nil⟩ ?_ ?_ ?_
     . rintro i σ H6 hi ⟨lf,u2,u3,u4,u5,u6,zs,rfl,s6,_⟩;exact ae.of (s6 _ _ e5)
     . intro i x σ H6 hx hQ;refine bX ?_;intro tT;obtain⟨lf,u2,u3,u4,u5,u6,zs,rfl,s6,DZ,vX,qE⟩:=hQ;rw[bT]at hx;cases hy:aJ[i]? with
       | none=>rw[hy]at hx;cases hx
       | some y=>
        rw[hy]at hx;cases hx;have ig:=di.trans s6;have ilt:=(bZ.mp hy).1;have wi:=agL ps aJ (i+1);rw[MR hy]at wi;have wl:=Ep ps (dP ps (aJ.take i)) y;have zl:=aM qE;have gA:∀ch∈dP ps (aJ.take i),y∉ch.map (·.1)/\ch.length<=100:=fun ch hc=>by
         obtain⟨a1,a2⟩:=agM hc;rw[dE]at a1;have yl:=dJ hN.nd fun z hz=>(hN.mem z).mp hz;rw[aw]at yl;refine⟨fun z=>?_,by omega⟩;obtain⟨j',iW,M4⟩:=OJ.mp (a2 y z);rw[dE]at iW;rw[List.getElem_take]at M4;have:=(Gx (l:=aJ) (i:=j') (j:=i) (by omega) hN.nd).mp (by rw[hy,eJ (by omega),M4]);omega
        have Ew:=MR (ps:=ps) hy;unfold gH at Ew;generalize dP ps (aJ.take i)=Fs at qE wi wl zl gA Ew;refine⟨_,rfl,lf,_,rfl,.inl (ae.of vX),fun p7 H7 n7 s7 e7=>?_⟩;refine⟨_,rfl,a,rfl,⟨_,ae.of ((ig.trans s7) _ _ ha)⟩,?_⟩;intro D8 xB;refine hU (σ0:=[none,some (.str y)]) xB (ae.of ((ig.trans s7) _ _ ha)) (fun σ=>∃v,σ = [v,some (.str y)]) (fun j zs' _=>zs'.length<=j/\Paired (agI H) zs' (du (ps.take j) y)) ⟨_,rfl⟩ ⟨av _,.nil⟩ ?_ ?_
        . rintro j x8 zs8 σ8 H8 kk MJ hx8 ⟨v8,rfl⟩ Ex h8 ⟨zl8,M5⟩ cE bG;obtain⟨p,pE,t,m,na,sa,oa,rfl,h1,h2,_⟩:=bQ aR hx8;have M6:=(ig.trans s7).trans h8;have jlt:=(bZ.mp pE).1;have a0:bF [V.str p.nm,.ref m,.ref na,.ref sa,.ref oa] 0=some (V.str p.nm):=rfl;have a1:bF [V.str p.nm,.ref m,.ref na,.ref sa,.ref oa] 1=some (V.ref m):=rfl;refine⟨_,rfl,t,_,_,_,rfl,rfl,aI.of (M6 _ _ h1),a0,_,rfl,rfl,_,rfl,?_⟩;refine bj (fun h=>?_) (fun h=>?_)
          . have en:p.nm=y:=by have z:=b0 h;injection z
            refine⟨_,rfl,t,_,_,_,rfl,rfl,aI.of (M6 _ _ h1),a1,cE _ _ _ ⟨_,rfl⟩ (ag.refl _) (bp (by omega)) ⟨by rw[bf,iJ];omega,?_⟩⟩;rw[MO pE,ai en];exact dr ⟨m,rfl,h2⟩ M5
          . have en:p.nm≠y:=fun z=>h (by rw[z];exact aL rfl);refine bG _ _ ⟨_,rfl⟩ (ag.refl _) ⟨by omega,?_⟩;rw[MO pE,af en,ft];exact M5
        . rintro mv H8 Ex h8 ⟨zl8,vR⟩;rw[AF (by omega)]at vR;have ml:=aM vR;have M7:=s7.trans h8;have n78:p7≠D8:=bv e7 xB;refine⟨D8,rfl,⟨_,ae.of Ex⟩,?_⟩;refine gu (xs:=mv) (fun k σ H9=>∃u4 u5 u6 zz,σ = [some (.ref a),some (.ref lf),some (.str y),some (.ref p7),u4,u5,u6]/\ag H6 H9/\H9 D8=some (.lst mv)/\H9 p7=some (.lst zz)/\Paired (gh H9) zz (Fs++((du ps y).take k).flatMap fun m=>Fs.map fun c=>c++[(y,m)]))
           ⟨u4,u5,u6,zs,rfl,M7,Ex,h8 _ _ e7,by rw[wO,List.flatMap_nil,ft];exact bd qE fun _ _ z=>z.same M7⟩ ?_ ?_ ?_
          . rintro k σ H9 hk ⟨u4,u5,u6,zz,rfl,s9,d9,_⟩;exact ae.of d9
          . intro k mx σ H9 hmx hQ;refine bX ?_;intro tT;obtain⟨u4,u5,u6,zz,rfl,s9,d9,e9,z9⟩:=hQ;obtain⟨mm,M8,tm,rfl,htm⟩:=bQ vR hmx;have klt:=(bZ.mp M8).1;have bl:Fs.length * (k+1)+Fs.length<=400:=by
             have:Fs.length * (k+1+1)<=Fs.length * ((du ps y).length+1):=Nat.mul_le_mul_left _ (by omega);rw[GD]at this;omega
            have bz:(Fs++((du ps y).take k).flatMap fun m=>Fs.map fun c=>c++[(y,m)]).length=Fs.length * (k+1):=by
             rw[bf,Eo,dE,Nat.min_eq_left (by omega),GD];omega
            have M9:(Fs++((du ps y).take (k+1)).flatMap fun m=>Fs.map fun c=>c++[(y,m)])=(Fs++((du ps y).take k).flatMap fun m=>Fs.map fun c=>c++[(y,m)])++Fs.map fun c=>c++[(y,mm)]:=by
             rw[yh M8,cW]
            generalize (Fs++((du ps y).take k).flatMap fun m=>Fs.map fun c=>c++[(y,m)])=Bs at z9 bz M9;refine⟨_,rfl,lf,rfl,⟨_,ae.of (s9 _ _ vX)⟩,?_⟩;refine gu (xs:=zs) (fun j σ eI=>∃u5 u6 zz,σ = [some (.ref a),some (.ref lf),some (.str y),some (.ref p7),some (.ref tm),u5,u6]/\ag H6 eI/\eI D8=some (.lst mv)/\eI p7=some (.lst zz)/\Paired (gh eI) zz (Bs++(Fs.take j).map fun c=>c++[(y,mm)]))
             ⟨u5,u6,zz,rfl,s9,d9,e9,by rw[wO,Aj,ft];exact z9⟩ ?_ ?_ ?_
            . rintro j σ eI hj ⟨u5,u6,zz,rfl,fm,_⟩;exact ae.of (fm _ _ vX)
            . intro j cx σ eI qg hQ;refine bX ?_;intro tT;obtain⟨u5,u6,zz,rfl,fm,Ey,fL,qF⟩:=hQ;obtain⟨ch,dF,cc,rfl,kvs,lF,pr⟩:=bQ qE qg;have jlt:=(bZ.mp dF).1;have agZ:=aM qF;rw[bf,aw,dE]at agZ;obtain⟨hny,gB⟩:=gA ch (dw dF);have prl:=aM pr;refine⟨_,rfl,cc,_,rfl,fm _ _ lF,fun Na Ez zB mB oH=>?_⟩;refine⟨_,rfl,_,rfl,_,rfl,Na,_,rfl,jT.k (k:=.inr y) oH (bp (by omega)),?_⟩;have bA:=fH (o:=.dK (cX kvs (.inr y) (.ref tm))) zB mB;have zC:=bA _ _ fL;refine⟨_,rfl,.inl ⟨rfl,_,ae.of zC⟩,_,rfl,p7,_,_,rfl,rfl,zC,bp (by omega),?_⟩;have ek:cX kvs (.inr y) (.ref tm)=kvs++[(.inr y,.ref tm)]:=HD _ (aeA Eu pr hny);have oI:=fm.trans bA;refine⟨_,_,_,rfl,fH n7 oI,bL (bA _ _ Ey) n78.symm,bc,?_⟩;rw[ff dF,gL,←cW];refine dr (gh.mut zC ⟨Na,rfl,_,bc,?_⟩) (bd qF fun _ _ z=>gh.mut zC (z.same bA));refine ek▸?_;rw[ek]at bA oI;exact dr ⟨rfl,tm,rfl,(ig.trans oI) _ _ htm⟩ (bd pr fun _ _=>bR.same oI)
            . rintro σ eI ⟨u5,u6,zz,rfl,fm,Ey,fL,qF⟩;rw[zl,ca,←M9]at qF;exact⟨_,_,_,_,rfl,fm,Ey,fL,qF⟩
          . rintro σ H9 ⟨u4,u5,u6,zz,rfl,s9,d9,e9,z9⟩;rw[ml,ca,←Ew]at z9;exact⟨_,rfl,p7,_,_,_,_,_,zz,rfl,s6.trans s9,ig.free n7,e9,z9⟩
     . rintro σ H6 ⟨lf,u2,u3,u4,u5,u6,zs,rfl,s6,DZ,vX,qE⟩;rw[aw,ca]at qE;exact⟨_,rfl,q lf zs H6 DZ (di.trans s6) vX qE⟩
def Nb:Sp:=fun vs H Q _=>∃(a b c:Addr) (now goal:Ch) (names:Ls),vs = [.ref a,.ref b,.ref c]/\cw H a now/\cw H b goal/\H c=some (.lst (names.map V.str))/\names.length<=100 /\
 ∀l H',H l=none->ag H H'->H' l=some (.lst ((names.filter (gj now goal)).map V.str))->Q (.ref l) H'
theorem ag1:bO [ale,ak5,ak1] [ale,ak5,ak1] (aS yE):=⟨rfl,rfl,rfl,by decide +kernel,rfl,by decide +kernel,by decide +kernel⟩
theorem ag2{f:Addr}{fd:Fy}(F:au K alI alI yE f fd):aB P w K mg base aD 1 f fd [ale,ak5,ak1] Nb:=by
 refine F.ok ag1 (fun vs H Q E h=>?_) (fun aE A outer s H vs Q E hr h=>?_)
 . obtain⟨a,b,c,now,goal,names,rfl,_⟩:=h;rfl
 . refine ck ?_;intro xX dX;obtain⟨a,b,c,fs,tr,ys,rfl,⟨ka,ha,pa⟩,⟨kb,hb,pb⟩,hc,lys,q⟩:=h;have hu:=hr.units;refine⟨_,(aG (bE (eB [ali] [ale,ak5] [0,1] ⟨rfl,by decide +kernel,by decide +kernel,by decide +kernel,by decide +kernel,rfl,rfl,rfl⟩ rfl (bI (pv 2)) (fun _ _ _ _=>(aX (i:=0) (show List.Nodup ([ali,ale,ak5]:Ls) by decide +kernel) rfl (Or.inl rfl))) (fun _ _ _ _=>f7 (cb (IA K hu) (ub hu (pv 1) (pv 0) ⟨rfl,rfl,rfl,rfl⟩) (ub hu (pv 2) (pv 0) ⟨rfl,rfl,rfl,rfl⟩) (bq _))) (fun _ _ _ _=>(pv 0))))),?_⟩;refine⟨_,rfl,c,rfl,⟨_,ae.of hc⟩,?_⟩;refine BA (K:=K) (xs:=ys.map V.str) (σ0:=[none,some (.ref a),some (.ref b)]) (ae.of hc) (fun σ=>∃v,σ = [v,some (.ref a),some (.ref b)]) (fun i ws _=>ws=((ys.take i).filter (gj fs tr)).map V.str) ⟨_,rfl⟩ (fun _ _=>rfl) ?_ ?_
   . rintro D i x ws σ H5 k k' hD hx ⟨v,rfl⟩ iE di rfl hk fV;rw[bT]at hx;cases hy:ys[i]? with
     | none=>rw[hy]at hx;cases hx
     | some y=>
      rw[hy]at hx;cases hx;obtain⟨d1,o1⟩:=me (K:=K) ((sq (x:=y) pa).same di);obtain⟨d2,o2⟩:=me (K:=K) ((sq (x:=y) pb).same di);refine⟨_,rfl,a,rfl,.inl ⟨_,.inl (di _ _ ha)⟩,_,rfl,_,cY.k (k:=.inr y) (di _ _ ha),?_⟩;refine⟨_,rfl,b,rfl,.inl ⟨_,.inl (di _ _ hb)⟩,_,rfl,_,cY.k (k:=.inr y) (di _ _ hb),?_⟩;refine⟨_,_,d1,d2,o1,o2,fun bb pK=>⟨_,rfl,?_⟩⟩;have e0:=iZ (f:=gj fs tr) hy;refine bj (fun h=>?_) (fun h=>?_)
      . have bt:gj fs tr y=true:=aL fun e=>by
         have:bb=true:=pK.mpr (by rw[e]);rw[this]at h;cases h
        refine⟨_,rfl,hk _ _ _ ⟨_,rfl⟩ (ag.refl _) (bp ?_) ?_⟩
        . rw[aw];have:=iK (gj fs tr) (ys.take i);rw[dE]at this;omega
        . rw[e0,ai bt,gL];rfl
      . have heq:fs.lookup y=tr.lookup y:=by
         cases bb with
         | true=>exact DE (pK.mp rfl)
         | false=>exact absurd rfl h
        refine fV _ _ ⟨_,rfl⟩ (ag.refl _) ?_;rw[e0,af (by unfold gj;rw[aU (fun z=>z heq)];exact bB),ft]
   . rintro D ws H5 hD iE s5 rfl;rw[aw,ca]at iE;exact q D H5 hD s5 iE
theorem EA:bO [ale,ak5,alj,alp,ali] [ale,ak5,alj] (aS yF):=⟨rfl,rfl,rfl,by decide +kernel,rfl,by decide +kernel,by decide +kernel⟩
theorem ag3{ch:Ch}{y:Str}(h:ch.lookup y=none):hZ ch y=ch:=by
 unfold hZ;rw[List.filter_eq_self];intro e he;refine aL fun z=>?_;obtain⟨v,hv⟩:=zd (bC.mpr ⟨e,he,z⟩);rw[h]at hv;cases hv
theorem ag4{f:Addr}{fd:Fy}(F:au K alW alW yF f fd)(B:eR mg):aB P w K mg base aD 1 f fd [ale,ak5,alj] (qr ic):=by
 refine F.ok EA (fun vs H Q E h=>?_) (fun aE A outer s H vs Q E hr h=>?_)
 . obtain⟨a,b,c,now,goal,g,rfl,_⟩:=h;rfl
 . refine ck ?_;intro xX dX;obtain⟨a,b,c,now,goal,g,rfl,⟨kn,hn,pn⟩,⟨kg,hg,pg⟩,hc,hl,q⟩:=h;have hu:=hr.units;refine⟨_,(aA (a9 (i:=3) EA.nd rfl (Or.inl rfl) (eW uk (by rfl) B.dict wN (aa (pv 0) ah)))
    (aA (eu eN rfl (bI (pv 2)) (aX (i:=4) EA.nd rfl (Or.inl rfl))
    (aA (gR (XN (pv 3) (pv 4) q0 ⟨rfl,rfl,rfl,rfl⟩))
     (aG (ej (wX (Bh hu (pv 4) (pv 1)) (by rfl))
     (aG (ua hu (pv 3) (pv 4) (xr hu (pv 1) (pv 4) (fun _ _=>rfl)) rfl)) eO))))
    (aG (bE (pv 3))))),?_⟩
   refine kK ?_;intro dD sS g9 fE;have pl:=aM pn;refine⟨_,rfl,a,_,rfl,hn,fun p1 H1 n1 s1 e1=>?_⟩;refine⟨_,rfl,c,rfl,⟨_,ae.of (s1 _ _ hc)⟩,?_⟩;refine gu (xs:=g.map V.str) (fun i σ H2=>∃u kvs,σ = [some (.ref a),some (.ref b),some (.ref c),some (.ref p1),u]/\ag H H2/\H2 p1=some (.dK kvs)/\kvs.length<=now.length+i/\Paired (bR H) kvs (ci ic goal now (g.take i))) ⟨none,kn,rfl,s1,e1,by omega,pn⟩ ?_ ?_ ?_
   . rintro i σ H2 hi ⟨u,kvs,rfl,s2,_⟩;exact ae.of (s2 _ _ hc)
   . intro i x σ H2 hx hQ;refine bX ?_;intro tT;obtain⟨u,kvs,rfl,s2,e2,l2,p2⟩:=hQ;rw[bT]at hx;cases hy:g[i]? with
     | none=>rw[hy]at hx;cases hx
     | some y=>
      rw[hy]at hx;cases hx;have hi:=(bZ.mp hy).1;have gs:=LQ (f:=ic) (goal:=goal) (now:=now) hy;refine rD ?_;intro dB sB MA;have rest:∀H3 zD,ag H H3->H3 p1=some (.dK zD)->zD.length<=now.length+i->Paired (bR H) zD (hZ (ci ic goal now (g.take i)) y)->MA dB [some (.ref a),some (.ref b),some (.ref c),some (.ref p1),some (.str y)] H3:=by
       intro H3 zD s3 e3 l3 p3;have vI:=s3 _ _ hg;refine⟨_,rfl,_,rfl,b,_,rfl,cY.k (k:=.inr y) vI,_,rfl,?_⟩
       rcases zi (x:=y) pg with⟨m,t,g1,g2,g3⟩ | ⟨g1,g2⟩
       . refine bj (fun h=>?_) (fun h=>absurd (by rw[g2];rfl) h);refine⟨_,rfl,_,rfl,b,.ref t,rfl,by rw[←g2];exact cY.k (k:=.inr y) vI,?_⟩;refine⟨_,rfl,_,rfl,p1,_,rfl,jT.k (k:=.inr y) e3 (bp (by omega)),?_⟩;refine⟨_,_,rfl,fH n1 s3,bc,?_,?_⟩
         . exact bn (rq _ _ _) (by omega)
         . rw[gs];unfold ic;rw[g1];exact yU (fun kv f (z:bR H kv f)=>z.1) ⟨rfl,t,rfl,g3⟩ p3
       . refine bj (fun h=>by rw[g2]at h;cases h) (fun h=>?_);refine⟨_,_,rfl,s3,e3,by omega,?_⟩;rw[gs];unfold ic;rw[g1];exact p3
      refine⟨_,rfl,p1,rfl,.inl ⟨_,.inl e2⟩,_,rfl,kvs,.inr y,e2,rfl,fun v hv=>?_,fun hv=>?_⟩
      . exact rest _ _ (fH n1 s2) bc (bn (Bf _ _) l2) (LP p2)
      . refine rest _ _ s2 e2 l2 ?_
        rcases zi (x:=y) p2 with⟨m,t,k1,k2,k3⟩ | ⟨k1,k2⟩
        . rw[k2]at hv;cases hv
        . rw[ag3 k1];exact p2
   . rintro σ H2 ⟨u,kvs,rfl,s2,e2,l2,p2⟩;rw[aw,ca]at p2;exact⟨_,rfl,q p1 H2 n1 s2 ⟨kvs,e2,bd p2 fun _ _=>bR.same s2⟩⟩
end
def mC(names:Ls):List (Ls):=names.foldl (fun f n=>f++f.map (·++[n])) [[]]
theorem EB{names:Ls}{i:Nat}{y:Str}(h:names[i]? = some y):mC (names.take (i+1))=mC (names.take i)++(mC (names.take i)).map (·++[y]):=by
 unfold mC;rw[ff h,tG];rfl
theorem Nc{names:Ls}:∀i,i<=names.length->(mC (names.take i)).length=2 ^ i
 | 0,_=>rfl
 | i+1,h=>by
  rw[EB (eJ (by omega)),bf,aw,Nc i (by omega),OI];omega
theorem EC{names:Ls}(h8:names.length<=8){i:Nat}(hi:i<=names.length):(mC (names.take i)).length<=256:=by
 rw[Nc i hi];exact Ph (n:=2) (by decide) (show i<=8 by omega)
theorem ED{names:Ls}(hn:cV names):∀i,i<=names.length->∀g∈mC (names.take i),cV g/\∀x∈g,x∈names.take i
 | 0,_,g,hg=>by
  rw[bD.mp hg];exact⟨.nil,fun _ h=>nomatch h⟩
 | i+1,h,g,hg=>by
  have hy:=eJ (l:=names) (i:=i) (by omega);rw[EB hy]at hg;rw[ff hy];have ih:=ED hn i (by omega);have big:∀x∈names.take i,cJ x names[i]=true:=fun x hx=>by
   obtain⟨j,hj,rfl⟩:=OJ.mp hx;rw[dE]at hj;rw[List.getElem_take];exact OX.mp hn j i (by omega) (by omega) (by omega)
  rcases cU.mp hg with z | z
  . obtain⟨a,b⟩:=ih g z;exact⟨a,fun x hx=>oO _ (b x hx)⟩
  . obtain⟨g',EE,rfl⟩:=bC.mp z;obtain⟨a,b⟩:=ih g' EE;refine⟨GB.mpr ⟨a,AH _ _,fun x hx y hy=>?_⟩,fun x hx=>?_⟩
    . rw[bD.mp hy];exact big x (b x hx)
    . rcases cU.mp hx with y | y
      . exact oO _ (b x y)
      . exact eS _ y
section
variable {P:Program} {w:World} {K:Fg} {mg:Mv} {base:Heap}
def vY(names:Ls)(H:Hp)(y:V):Prop:=∃g:Ls,iY H y ((g.length:Int),g)/\g≠[]/\cV g/\∀x∈g,x∈names
theorem vY.same{names:Ls}{H H':Hp}(s:ag H H'){y:V}(h:vY names H y):vY names H' y:=h.elim fun g ag5=>ag5.elim fun a b=>⟨g,a.same s,b⟩
def Nd:Sp:=fun vs H Q _=>∃(a:Addr) (names:Ls),vs = [.ref a]/\H a=some (.lst (names.map V.str))/\cV names/\names.length<=8/\(∀x∈names,dk x)/\∀l ys H',H l=none->ag H H'->H' l=some (.lst ys)->(∀y∈ys,vY names H' y)->Q (.ref l) H'
theorem zE:bO [ak1,alp,ali] [ak1] (aS vb):=⟨rfl,rfl,rfl,by decide +kernel,rfl,by decide +kernel,by decide +kernel⟩
theorem ag6{f:Addr}{fd:Fy}(F:au K alJ alJ vb f fd)(B:eR mg):aB P w K mg base aD 1 f fd [ak1] Nd:=by
 refine F.ok zE (fun vs H Q E h=>?_) (fun aE A outer s H vs Q E hr h=>?_)
 . obtain⟨a,names,rfl,_⟩:=h;rfl
 . refine ck ?_;intro xX dX;obtain⟨a,names,rfl,ha,qw,h8,htx,q⟩:=h;have hu3:(A.deeper (envOfC alJ (aS vb) s.heap.objs.size f aE)).units+1+68<cLine:=by have:=hr.un;omega
   have hu:=hr.units;have iL:=hr.units0;refine⟨_,(aA (a9 (i:=1) zE.nd rfl (Or.inl rfl) (cq (aa (cq ah) ah)))
    (aA (eu eN rfl (bI (pv 0)) (aX (i:=2) zE.nd rfl (Or.inr rfl))
    (aG (a9 (i:=1) zE.nd rfl (Or.inl rfl) (aY By (pv 1) (eB [alj] [ali] [2] ⟨rfl,by decide +kernel,by decide +kernel,by decide +kernel,by decide +kernel,rfl,rfl,rfl⟩ rfl (bI (pv 1)) (fun _ _ _ _=>(aX (i:=0) (show List.Nodup ([alj,ali]:Ls) by decide +kernel) rfl (Or.inl rfl))) (fun _ _ _ _=>jt) (fun _ _ _ _=>(aY By (pv 0) (cq (aa (pv 1) ah)))))))))
    (aG (bE (dU (acU hu3) (by rfl) B.sorted tI (aa (eB [alj] [] [] ⟨rfl,by decide +kernel,by decide +kernel,by decide +kernel,by decide +kernel,rfl,rfl,rfl⟩ rfl (bI (pv 1)) (fun _ _ _ _=>(aX (i:=0) (show List.Nodup ([alj]:Ls) by decide +kernel) rfl (Or.inl rfl))) (fun _ _ _ _=>f7 (cb (agA K iL) (pv 0) (cq ah) (bq _))) (fun _ _ _ _=>(dm (aa (dU (Ib K) (by rfl) B.len jg (aa (pv 0) ah)) (aa (pv 0) ah))))) ah)))))),?_⟩
   refine kK ?_;intro dD sS g9 fE;refine⟨(by show 0<=sizeLine;decide),fun p1 H1 n1 s1 e1=>?_⟩;refine⟨(by show 1<=sizeLine;decide),fun p2 H2 n2 s2 e2=>?_⟩;have bA:=s1.trans s2;refine⟨_,rfl,a,rfl,⟨_,ae.of (bA _ _ ha)⟩,?_⟩;refine gu (xs:=names.map V.str) (fun i σ H3=>∃lf u zs,σ = [some (.ref a),some (.ref lf),u]/\ag H H3/\H3 lf=some (.lst zs)/\Paired (mi H3) zs (mC (names.take i))) ⟨p2,none,[.ref p1],rfl,bA,e2,.cons ⟨p1,rfl,by simp,s2 _ _ e1⟩ .nil⟩ ?_ ?_ ?_
   . rintro i σ H3 hi ⟨lf,u,zs,rfl,s3,_⟩;exact ae.of (s3 _ _ ha)
   . intro i x σ H3 hx hQ;refine bX ?_;intro tT;obtain⟨lf,u,zs,rfl,s3,e3,p3⟩:=hQ;rw[bT]at hx;cases hy:names[i]? with
     | none=>rw[hy]at hx;cases hx
     | some y=>
      rw[hy]at hx;cases hx;have hi:=(bZ.mp hy).1;have zl:=aM p3;have Nf:=EC h8 (i:=i) (by omega);have ag9:=EC h8 (i:=i+1) (by omega);have Ng:=EB hy;rw[Ng,bf,aw]at ag9;refine⟨_,rfl,_,rfl,lf,rfl,⟨_,ae.of e3⟩,?_⟩;intro D hD;refine vn (σ0:=[none,some (.str y)]) hD (ae.of e3) (fun σ=>∃v,σ = [v,some (.str y)]) (fun j ws H4=>Paired (fJ [D] H4) ws (((mC (names.take i)).take j).map (·++[y]))) ⟨_,rfl⟩ .nil ?_ ?_
      . rintro j v ws σ H4 k hv ⟨u4,rfl⟩ gG s4 hP hk;obtain⟨g,hg,l,rfl,_,hl⟩:=bQ p3 hv;have wl:=aM hP;rw[aw,dE]at wl;have gm:=dw hg;obtain⟨gi,gs⟩:=ED qw i (by omega) g gm;have gl:g.length<=8:=bn (dJ gi.nd gs) (by rw[dE];omega);have jl:=(bZ.mp hg).1;refine⟨_,rfl,_,rfl,(by show 1<=sizeLine;decide),fun p5 H5 n5 s5 e5=>?_⟩;refine⟨l,p5,_,_,rfl,rfl,(s4.trans s5) _ _ hl,e5,iA (by rw[aw];simp;omega),fun p6 H6 n6 s6 e6=>?_⟩;have fW:=s5.trans s6;refine hk _ _ _ ⟨_,rfl⟩ fW (bp (by omega)) ?_;rw[ff hg,gL];refine dr (fJ.mut (by simp) ⟨p6,rfl,?_,by rw[e6,xD]⟩) (bd hP fun _ _ z=>(z.same fW).mut (by simp));intro z;have oj:=s5.free n6;rw[bD.mp z,gG]at oj;cases oj
      . rintro ws H4 gG s4 hP;rw[zl,ca]at hP;have wl:=aM hP;rw[aw]at wl;refine⟨lf,D,_,_,rfl,rfl,s4 _ _ e3,gG,iA (by omega),fun p5 H5 n5 s5 e5=>?_⟩;refine⟨p5,_,_,rfl,s3.trans (s4.trans s5),e5,?_⟩;rw[Ng];exact nV (bd p3 fun _ _ z=>z.same (s4.trans s5)) (bd hP fun _ _ z=>(z.sub (by simp)).same s5)
   . rintro σ H3 ⟨lf,u,zs,rfl,s3,e3,p3⟩;rw[aw]at p3;have zl:=aM p3;have Nf:=EC h8 (av names.length);have Nh:=ED qw names.length (av _);rw[ca]at p3 zl Nf Nh;refine⟨_,rfl,lf,rfl,⟨_,ae.of e3⟩,?_⟩;intro D hD;refine hU (σ0:=[none]) hD (ae.of e3) (fun σ=>∃v,σ = [v]) (fun j ws H4=>ws.length<=j/\∃gs:List (Int×Ls),Paired (fun y (g:Int×Ls)=>∃t l,y = .ref t/\H4 t=some (.tup [.int g.1,.ref l])/\l≠D/\H4 l=some (.lst (g.2.map V.str))) ws gs/\∀g∈gs,g.1=(g.2.length:Int)/\g.2≠[]/\cV g.2/\∀x∈g.2,x∈names) ⟨_,rfl⟩ ⟨av _,[],.nil,fun _ h=>nomatch h⟩ ?_ ?_
     . rintro j v ws σ H4 k k' hv ⟨u4,rfl⟩ gG s4 ⟨wl,gs,hP,hG⟩ cE bG;obtain⟨g,hg,l,rfl,_,hl⟩:=bQ p3 hv;obtain⟨gi,aha⟩:=Nh g (dw hg);have jl:=(bZ.mp hg).1;have zF:l≠D:=bv hl hD;refine⟨_,rfl,(by show 0<=sizeLine;decide),fun p5 H5 n5 s5 e5=>?_⟩;have EF:=s4.trans s5;refine⟨l,p5,_,rfl,rfl,ae.of (EF _ _ hl),ae.of e5,_,rfl,?_⟩;refine bj (fun h=>?_) (fun h=>?_)
       . have vK:g≠[]:=fun z=>b0 h (by rw[z];rfl);refine⟨_,rfl,l,_,rfl,.inl (ae.of (EF _ _ hl)),_,rfl,(by show 2<=sizeLine;decide),fun p6 H6 n6 s6 e6=>?_⟩;have fW:=s5.trans s6;have vV:=fW _ _ gG;have t6:ak H6 D (.lst (ws++[.ref p6])) p6=some (.tup [.int (g.length:Int),.ref l]):=by
          rw[aw]at e6;exact bL e6 (fz e6 vV (by intro z;cases z))
         have t7:ak H6 D (.lst (ws++[.ref p6])) l=some (.lst (g.map V.str)):=bL ((EF.trans s6) _ _ hl) zF;refine cE _ _ _ ⟨_,rfl⟩ fW (bp (by omega)) ⟨by rw[bf,iJ];omega,gs++[((g.length:Int),g)],?_,fun g' EE=>?_⟩
         . refine dr ⟨p6,l,rfl,t6,zF,t7⟩ (bd hP ?_);rintro y g' ⟨t,l',rfl,t1,t2,t3⟩;have Ni:=fW _ _ t1;exact⟨t,l',rfl,bL Ni (fz Ni vV (by intro z;cases z)),t2,bL (fW _ _ t3) t2⟩
         . rcases cU.mp EE with z | z
           . exact hG g' z
           . rw[bD.mp z];exact⟨rfl,vK,gi,aha⟩
       . refine bG _ _ ⟨_,rfl⟩ s5 ⟨by omega,gs,bd hP ?_,hG⟩;rintro y g' ⟨t,l',rfl,t1,t2,t3⟩;exact⟨t,l',rfl,s5 _ _ t1,t2,s5 _ _ t3⟩
     . rintro ws H4 gG s4 ⟨wl,gs,hP,hG⟩;have Nj:Paired (iY H4) ws gs:=by
        clear wl gG
        induction hP with
        | nil=>exact .nil
        | cons r t ih=>
         obtain⟨t',l',rfl,t1,t2,t3⟩:=r;obtain⟨a1,a2,a3,a4⟩:=hG _ cS;exact .cons ⟨t',l',rfl,t1,t3,fun x hx=>htx x (a4 x hx)⟩ (ih fun g hg=>hG g (cT _ hg))
       refine⟨D,ws,gs,rfl,ae.of gG,Nj,by omega,fun aJ hp p6 H6 n6 s6 e6=>?_⟩;refine q p6 aJ H6 ((s3.trans s4).free n6) ((s3.trans s4).trans s6) e6 fun y hy=>?_;obtain⟨j,hj⟩:=mK (hp.mem_iff.mp hy);obtain⟨g,hg,hr⟩:=bQ Nj hj;obtain⟨a1,a2,a3,a4⟩:=hG g (dw hg);refine vY.same s6 ⟨g.2,?_,a2,a3,a4⟩;rw[←a1];exact hr
end
end K51
namespace L2
open PySem PySem.Spec PyProof.Rows
theorem rL.ok{P:Program}{w:World}{K:Fg}{mg:Mv}{base:Heap}{x qual:Str}{st:Stmt}{f c:Addr}{fd:Fy}{N ps:Ls}{k:Nat}{sp:Sp}(F:rL K x qual st f c fd)(S:bO N ps (aS st))(len:∀vs H Q E,sp vs H Q E->vs.length=ps.length)
 (ph:∀(A:Around) (outer:List Env) (s:Shared) (H:Hp) (vs:Lv) (Q:VK) (E:XK),cC k (A.deeper (envOfC qual (aS st) s.heap.objs.size f (.ref c)))->sp vs H Q E ->
  ∃t,dH (o9 aD P w K mg base N qual (aS st) f (.ref c) A outer s H E).nox (eQ st) t/\t { nx:=fun _ H'=>Q .non H',rt:=Q } (start N vs) H):aB P w K mg base aD (k+1) f fd ps sp:=by
 obtain⟨oc,od,kV,doc,pm,an,ct,iw,rfl,lk,iq⟩:=F.ex;refine Hr lk iq S len fun A outer s H vs Q E hr kC=>?_;obtain⟨t,h,q⟩:=ph A outer s H vs Q E hr kC;exact⟨t,h.nox,q⟩
end L2
namespace K51
open PySem L2 PySem.Spec PyProof.Rows
open HT (At cZ dL)
seal PE PS dH PA PT PW PG jO PI jr
theorem ahb{H:Hp}{Pt:Addr}{lp:Pos}{qu:Str}(h:fU H Pt lp qu):∃φ,H Pt=some (.ext φ):=by
 rcases h with z | ⟨c',z,_⟩
 . exact⟨_,z⟩
 . exact⟨_,z⟩
theorem Nk{H:Hp}{Pt b:Addr}{lp:Pos}{qu:Str}(h:fU H Pt lp qu){o:HO}(e:H b=some o)(n:∀φ,o≠.ext φ):b≠Pt:=fun z=>by
 obtain⟨φ,w⟩:=ahb h;rw[z,w]at e;cases e;exact n _ rfl
def Ke(H H':Hp):Prop:=∀b o,H b=some o->(∀φ,o≠.ext φ)->H' b=some o
theorem EG{H H':Hp}{Pt:Addr}{lp:Pos}{qu:Str}(t:fU H Pt lp qu)(k:uF Pt H H'):Ke H H':=fun b o e n=>k b o e (Nk t e n)
theorem ahc{H H':Hp}(k:Ke H H'){kvs:List (aF×V)}{ch:Ch}(h:Paired (bR H) kvs ch):Paired (bR H') kvs ch:=bd h fun _ _ z=>by
 obtain⟨a,m,b,c⟩:=z;exact⟨a,m,b,k _ _ c (by intro φ z;cases z)⟩
theorem Nl{H:Hp}:∀{zs:Lv} {chs:List Ch},Paired (gh H) zs chs->∃as:List Addr,zs=as.map V.ref
 | _,_,.nil=>⟨[],rfl⟩
 | _,_,.cons ⟨c,e,_⟩ r=>by
  obtain⟨as,e'⟩:=Nl r;exact⟨c::as,by rw[e,e'];rfl⟩
def EH(ps:Lp):Ch:=ps.foldl (fun c p=>eG c p.nm p.ms) []
theorem EI:∀(qs:Lp) (c:Ch) {ps:Lp},(∀q∈qs,q∈ps)->bS ps c->bS ps (qs.foldl (fun c p=>eG c p.nm p.ms) c)
 | [],c,ps,_,h=>h
 | q::qs,c,ps,m,h=>EI qs (eG c q.nm q.ms) (fun q' hq=>m q' (cT _ hq)) ⟨yT h.nd,fun e he=>by
  rcases yR he with z | z
  . rw[z];exact⟨q,m q cS,rfl,rfl⟩
  . exact h.val e z⟩
theorem Nm:∀(qs:Lp) (c:Ch) {x:Str},(x∈c.map (·.1)\/x∈qs.map (·.nm))->x∈(qs.foldl (fun c p=>eG c p.nm p.ms) c).map (·.1)
 | [],c,x,h=>h.elim id fun z=>nomatch z
 | q::qs,c,x,h=>by
  refine Nm qs (eG c q.nm q.ms) ?_
  rcases h with h | h
  . exact .inl (KS (.inr h))
  . rcases bh.mp h with e | e
    . exact .inl (KS (.inl e))
    . exact .inr e
theorem No(ps:Lp):cR ps []=true:=by
 have e:ps.filter (gE []) = []:=wM.mpr fun p _=>by unfold gE;simp
 unfold cR;rw[e];rfl
theorem ahe(m:List Int):HT.lexLt m []=false:=by cases m<;>rfl
theorem ahf{ps:Lp}(h:sF ps)(r:Mr ps):cR ps (EH ps)=true:=by
 have ok:bS ps (EH ps):=EI ps [] (fun _ z=>z) ⟨lx,fun _ z=>nomatch z⟩;unfold cR qp;refine gr.mpr fun p hp=>?_;have pm:=(dC.mp hp).1;have gp:=h.good p pm;rw[j9];refine⟨gr.mpr fun c hc=>?_,ME gp.f0 fun c hc=>?_⟩
 . obtain⟨e1,q,hq,e2⟩:=r.need p pm c hc;have hk:c.nm∈(EH ps).map (·.1):=Nm ps [] (.inr (e2▸oR hq));obtain⟨m,hm⟩:=zd hk;obtain⟨o,ho,o1,o2⟩:=ok.val _ (nZ hm);refine qO.mpr ⟨o,dC.mpr ⟨ho,?_⟩,?_⟩
   . unfold gE;rw[o1,o2];exact aL hm
   . unfold b8;rw[o1,aL rfl,e1,ahe,gp.nb c hc];rfl
 . rw[r.ss p pm]at hc;cases hc
def Np(H:Hp)(y:V)(p:aQ):Prop:=∃t m,y = .ref t/\H t=some (.tup [.str p.nm,.ref m])/\H m=some (.tup (p.ms.map V.int))
theorem Nq{H:Hp}:∀{ws:Lv} {qs:Lp},Paired (Np H) ws qs->∃kvs:List (aF×V),Paired (fun(y:V) (kv:aF×V)=>∃t,y = .ref t/\H t=some (.tup [kV kv.1,kv.2])) ws kvs/\Paired (fun(kv:aF×V) (p:aQ)=>bR H kv (p.nm,p.ms)) kvs qs
 | _,_,.nil=>⟨[],.nil,.nil⟩
 | _,_,.cons (b:=p) ⟨t,m,e,h1,h2⟩ r=>by
  obtain⟨kvs,a,b⟩:=Nq r;exact⟨(.inr p.nm,.ref m)::kvs,.cons ⟨t,e,h1⟩ a,.cons ⟨rfl,m,rfl,h2⟩ b⟩
theorem Nr{H:Hp}:∀{kvs:List (aF×V)} {qs:Lp},Paired (fun(kv:aF×V) (p:aQ)=>bR H kv (p.nm,p.ms)) kvs qs->∀{a:List (aF×V)} {c:Ch},Paired (bR H) a c->Paired (bR H) (kvs.foldl (fun m kv=>cX m kv.1 kv.2) a) (qs.foldl (fun c p=>eG c p.nm p.ms) c)
 | _,_,.nil,_,_,h=>h
 | _,_,.cons (a:=kv) (b:=p) r t,a,c,h=>by
  obtain⟨k,v⟩:=kv;obtain⟨r1,r2⟩:=r;have r1:k = .inr p.nm:=r1;subst r1;exact Nr t (yU (fun kv f (z:bR H kv f)=>z.1) ⟨rfl,r2⟩ h)
def sJ:Pos:=match eQ rX with
 | [_,_,.If _ [.Return (some (.Call _ _ [⟨_,.Lambda _ _ _ p,_⟩] _)) _] _ _,_]=>p
 | _=>⟨0,0,0,0⟩
def qG:Str:="_law_goal.<locals>.<lambda>"
def Nt(Pt:Addr):Sp:=fun vs H Q _=>∃(a:Addr) (c:Int) (xs:Lv) (ps:Lp),vs = [.ref a,.int c]/\H a=some (.lst xs)/\iG H xs ps/\sF ps/\fU H Pt sJ qG /\
 ∀r H' goal,uF Pt H H'->fU H' Pt sJ qG->cw H' r goal->bS ps goal->cR ps goal=true->Q (.ref r) H'
section
variable {P:Program} {w:World} {K:Fg} {mg:Mv} {base:Heap}
theorem Nu:bO [ak2,ak0,"_law_sound_here"] [ak2,ak0] (aS rX):=⟨rfl,rfl,rfl,by decide +kernel,rfl,by decide +kernel,by decide +kernel⟩
theorem ahg{f c Pt zG oJ lh dh:Addr}{fd EJ sK qD fg:Fy}(F:rL K alQ alQ rX f c fd)(B:eR mg)(hd:PySem.W.codeHdIn K c Pt=true)(hb:base.BuiltinsAt mg Pt)
 (vZ:au K al4 al4 yD zG EJ) (EK:mg al4 = some (.ref zG)) (j7:au K alB alB uZ oJ sK) (qH:mg alB = some (.ref oJ)) (j6:au K alq alq rV lh qD) (mw:mg alq = some (.ref lh))
 (br:au K ak7 ak7 kR dh fg) (cp:mg ak7 = some (.ref dh)):aB P w K mg base aD 4 f fd [ak2,ak0] (Nt Pt):=by
 have ahh:aB P w K mg base aD 1 zG EJ [ak2] M3:=agS vZ B;have ahi:=vZ.binds1 (l:=[ak2]) (fun _ _ _ _ _ _ _=>rfl);have zH:aB P w K mg base aD 2 oJ sK [ak2,alf] Ej:=MF j7 j6 mw;have zI:=j7.binds2 (l:=[ak2,alf]) (fun _ _ _ _ _ _ _ _=>rfl);have dN:aB P w K mg base aD 1 dh fg [ak0,ak4] pW:=rY br;have dO:=br.binds2 (l:=[ak0,ak4]) (fun _ _ _ _ _ _ _ _=>rfl);refine F.ok Nu (fun vs H Q E h=>?_) (fun A outer s H vs Q E hr h=>?_)
 . obtain⟨a,c,xs,ps,rfl,_⟩:=h;rfl
 . refine ck ?_;intro xX dX;obtain⟨a,ce,xs,ps,rfl,ha,aR,bo,tab,q⟩:=h;have kX:=hr.mono (j:=2) (by decide);have bY:=hr.mono (j:=1) (by decide);have hrl:cC 1 (A.deeper (envOfC alQ (aS rX) s.heap.objs.size f (.ref c))).in1:=kX.in1;have xl:=aM aR;have l8:=bo.len;have qs:∀r H' goal,ag H H'->cw H' r goal->bS ps goal->cR ps goal=true->Q (.ref r) H':=fun r H' goal s'=>q r H' goal (fun b o e _=>s' b o e) (tab.same s');refine⟨_,(aA (ej (cb iP (dU jm (by rfl) B.len jg (aa (pv 0) ah)) ap (bq _))
    (aG (bE (eW (ac6 rfl) (by rfl) B.dict wN (aa (eB [ak9] [ak0] [1] ⟨rfl,by decide +kernel,by decide +kernel,by decide +kernel,by decide +kernel,rfl,rfl,rfl⟩ rfl (bI (pv 0)) (fun _ _ _ _=>(aX (i:=0) (show List.Nodup ([ak9,ak0]:Ls) by decide +kernel) rfl (Or.inl rfl))) (fun _ _ _ _=>f7 (cb Ha (aY dg (aY AX (pv 1) ap) ap) ap (bq _))) (fun _ _ _ _=>(dm (aa (bi (f9 K) (pv 0) ap (fun _ _=>rfl)) (aa (bi (f9 K) (pv 0) ap (fun _ _=>rfl)) ah))))) ah)))) eO)
    (aA (pw (i:=2) [alf] [ak2] [0] Nu.nd rfl rfl ⟨rfl,by decide +kernel,by decide +kernel,by decide +kernel,by decide +kernel,rfl,rfl,rfl⟩ rfl (bI (aO ahh bY rfl EK vZ.kp ahi .nil aK (aa (pv 0) ah))) (fun _ _ _ _=>(aX (i:=0) (show List.Nodup ([alf,ak2]:Ls) by decide +kernel) rfl (Or.inl rfl))) (fun _ _ _ _=>f7 (jj (aO zH kX rfl qH j7.kp zI .nil aK (aa (pv 1) (aa (pv 0) ah))))) (fun _ _ _ _=>(pv 0)))
    (aA (ej (cb iP (aY dg (pv 1) ap) ap (bq _))
    (aG (bE (add (c:=c) (P:=Pt) (x:=alf) (cap:=[]) (js:=[]) (qual:=qG) (pv 2) ⟨rfl,rfl,rfl,by decide +kernel,rfl,by decide +kernel,rfl,rfl,rfl⟩ hrl rfl rfl hd hb rfl B.max
     (fun _ _ _ _ _ hrm=>dU Yg (by rfl) B.len jg (aa (pv 0) ah)) (fun _ _ _ _=>rfl)))) eO)
    (aG (bE (bi eZ (pv 2) (aY dg (aO dN bY rfl cp br.kp dO .nil aK (aa (pv 1) (aa ap ah))) (dU jm (by rfl) B.len jg (aa (pv 2) ah))) (fun _ _=>rfl))))))),?_⟩
   refine xG ?_;intro dD sS nH g9 fE;refine⟨_,rfl,a,_,rfl,.inl (ae.of ha),rfl,_,rfl,?_⟩;refine bj (fun h=>?_) (fun h=>?_)
   . have h8:ps.length=8:=by
      have z:=b0 h;injection z with z
      omega
     refine⟨_,rfl,a,rfl,⟨_,ae.of ha⟩,?_⟩;intro D hD;refine hU (σ0:=[none,some (.int ce)]) hD (ae.of ha) (fun σ=>∃v,σ = [v,some (.int ce)]) (fun j ws H3=>Paired (Np H3) ws (if 0<ce / 8 % 3 then ps.take j else [])) ⟨_,rfl⟩ (by split<;>exact .nil) ?_ ?_
     . rintro j y ws σ H3 k k' hy ⟨v,rfl⟩ de h3 hP cE bG;obtain⟨p,hp,hE⟩:=bQ aR hy;obtain⟨t,m,na,sa,oa,rfl,h1,h2,_⟩:=id hE;have jl:=(bZ.mp hp).1;have wl:=aM hP;refine⟨_,rfl,_,_,rfl,rfl,⟨by omega,by omega⟩,_,_,rfl,rfl,(by show(0:Int)<3;decide),_,_,rfl,rfl,_,rfl,?_⟩;refine bj (fun h=>?_) (fun h=>?_)
       . have hc:0<ce / 8 % 3:=b0 h;rw[ai hc]at hP wl;rw[dE]at wl;have a0:bF [V.str p.nm,.ref m,.ref na,.ref sa,.ref oa] 0=some (V.str p.nm):=rfl;have a1:bF [V.str p.nm,.ref m,.ref na,.ref sa,.ref oa] 1=some (V.ref m):=rfl;refine⟨_,rfl,t,_,_,_,rfl,rfl,aI.of (h3 _ _ h1),a0,_,rfl,t,_,_,_,rfl,rfl,aI.of (h3 _ _ h1),a1,(by show 2<=sizeLine;decide),fun p4 H4 n4 s4 e4=>?_⟩;have gG:=s4 _ _ de;refine cE _ _ _ ⟨_,rfl⟩ s4 (bp (by omega)) ?_;rw[ai hc,ff hp];have mt:∀{b:Addr} {zs:Lv},H4 b=some (.tup zs)->∀o,ak H4 D o b=some (.tup zs):=fun e o=>bL e (fz e gG (by intro z;cases z));refine dr ⟨p4,m,rfl,mt e4 _,mt ((h3.trans s4) _ _ h2) _⟩ (bd hP ?_);rintro y p' ⟨t',m',rfl,g1,g2⟩;exact⟨t',m',rfl,mt (s4 _ _ g1) _,mt (s4 _ _ g2) _⟩
       . have hc:¬0<ce / 8 % 3:=fun z=>h (aL z);refine bG _ _ ⟨_,rfl⟩ (ag.refl _) ?_;rw[af hc]at hP ⊢;exact hP
     . rintro ws H3 de s3 hP;rw[xl,ca]at hP;obtain⟨kvs,k1,k2⟩:=Nq hP;have k3:=Nr k2 (a:=[]) (c:=[]) .nil;have wl:=aM hP;have wl2:(if 0<ce / 8 % 3 then ps else []).length<=8:=by
        split
        . omega
        . exact cj _
       refine⟨D,ws,kvs,rfl,ae.of de,k1,by omega,fun p4 H4 n4 s4 e4=>?_⟩;refine qs p4 H4 _ (s3.trans s4) ⟨_,e4,bd k3 fun _ _=>bR.same s4⟩ ?_ ?_
       . split
         . exact EI ps [] (fun _ z=>z) ⟨lx,fun _ z=>nomatch z⟩
         . exact⟨lx,fun _ z=>nomatch z⟩
       . split
         . exact ahf bo (bo.ring h8)
         . exact No ps
   . have h7:ps.length<=7:=by
      have:ps.length≠8:=fun z=>h (aL (by rw[xl,z];rfl));omega
     obtain⟨ys,hN⟩:=M0 ps;have akJ:=agN hN h7;refine⟨_,rfl,a,xs,ps,ys,rfl,ha,aR,by omega,hN,by omega,fun l zs H1 n1 s1 e1 hz=>?_⟩;have zl:=aM hz;refine⟨l,rfl,⟨_,ae.of e1⟩,?_⟩;intro D hD;refine hU (σ0:=[none,some (.ref a)]) hD (ae.of e1) (fun σ=>∃v,σ = [v,some (.ref a)]) (fun j ws H3=>ws.length<=j/\Paired (gh H3) ws (((dP ps ys).take j).filter (cR ps))) ⟨_,rfl⟩ ⟨av _,.nil⟩ ?_ ?_
     . rintro j y ws σ H3 k k' hy ⟨v,rfl⟩ de h3 ⟨wl,hP⟩ cE bG;obtain⟨ch,dF,cc,rfl,lF⟩:=bQ hz hy;have jl:=(bZ.mp dF).1;have sL:=s1.trans h3;refine⟨_,rfl,_,rfl,a,cc,xs,ps,ch,rfl,sL _ _ ha,aR.same sL,by omega,bo.good,lF.same h3,fun H4 s4=>⟨_,rfl,?_⟩⟩;refine bj (fun h=>?_) (fun h=>?_)
       . have gG:=s4 _ _ de;refine⟨_,rfl,cE _ _ _ ⟨_,rfl⟩ s4 (bp (by omega)) ⟨by rw[bf,iJ];omega,?_⟩⟩;rw[iZ dF,ai h];exact dr (gh.mut gG ⟨cc,rfl,lF.same (h3.trans s4)⟩) (bd hP fun _ _ z=>gh.mut gG (z.same s4))
       . refine bG _ _ ⟨_,rfl⟩ s4 ⟨by omega,?_⟩;rw[iZ dF,af h,ft];exact bd hP fun _ _ z=>z.same s4
     . rintro ws H3 de s3 ⟨wl,hP⟩;rw[zl,ca]at hP;have sL:=s1.trans s3;have pl:=aM hP;have DU:0<ws.length:=by
        rw[pl];exact OQ (dC.mpr ⟨agP ps ys,No ps⟩)
       have good:∀ch∈(dP ps ys).filter (cR ps),bS ps ch/\cR ps ch=true:=fun ch hc=>by
        obtain⟨a1,a2⟩:=dC.mp hc;exact⟨agO hN.nd a1,a2⟩
       refine⟨_,rfl,_,_,rfl,rfl,(by show(0:Int)<2;decide),rfl,_,rfl,?_⟩;refine bj (fun h=>?_) (fun h=>?_)
       . obtain⟨as,eas⟩:=Nl hP;subst eas;have sM:fU H3 Pt sJ qG:=tab.same sL;rw[aw]at DU;have at_:∀(i:Nat) (b:Addr),as[i]? = some b->∃ch,((dP ps ys).filter (cR ps))[i]? = some ch/\cw H3 b ch:=fun i b hi=>by
          have:(as.map V.ref)[i]? = some (V.ref b):=by rw[bT,hi];rfl
          obtain⟨ch,h1,c',e,h2⟩:=bQ hP this;cases e;exact⟨ch,h1,h2⟩
         refine⟨_,rfl,D,as,fun i=>((((dP ps ys).filter (cR ps)).getD i []).length:Int),rfl,Nk sM de (by intro φ z;cases z),de,DU,sM,fun i b hi H4 kp=>?_,fun i b H' hi best kp ahl=>?_⟩
         . obtain⟨ch,dF,kvs,e,pr⟩:=at_ i b hi;have ke:=EG sM kp;have egd:((dP ps ys).filter (cR ps)).getD i []=ch:=by rw[qR,dF];rfl
           refine⟨_,rfl,b,kvs,rfl,ke _ _ e (by intro φ z;cases z),?_,ag.refl _⟩;dsimp only;rw[egd,aM pr]
         . obtain⟨ch,dF,kvs,e,pr⟩:=at_ i b hi;have ke:=EG sM kp;obtain⟨g1,g2⟩:=good ch (dw dF);exact q b H' ch (fun x o e' n=>kp _ _ (sL _ _ e') n) ahl ⟨kvs,ke _ _ e (by intro φ z;cases z),ahc ke pr⟩ g1 g2
       . have sC:(0:Int)<(ws.length:Int):=by omega
         refine⟨_,rfl,_,rfl,_,_,rfl,by decide,by decide,fun d0 _=>?_⟩;obtain⟨y,hy,vm⟩:=xx (xs:=ws) (r:=d0 % (ws.length:Int)) (Int.emod_nonneg _ (by omega)) (Int.emod_lt_of_pos _ sC);refine⟨_,rfl,D,_,rfl,.inl (ae.of de),_,_,rfl,rfl,sC,D,_,_,_,rfl,rfl,ae.of de,hy,?_⟩;obtain⟨ch,dF,cc,rfl,lF⟩:=bQ hP vm;obtain⟨g1,g2⟩:=good ch (dw dF);exact qs cc H3 ch sL lF g1 g2
end
theorem ahn{K:Fg}{H:Hp}{kvs bJ:List (aF×V)}{c1 c2:Ch}(p1:Paired (bR H) kvs c1)(p2:Paired (bR H) bJ c2)(sub:∀e∈c1,e∈c2):∃kb,Paired (um K H) kvs kb/\∀p∈kb,p∈bJ:=by
 induction p1 with
 | nil=>exact⟨[],.nil,fun _ h=>nomatch h⟩
 | @cons kv e kvs c1 r t ih=>
  obtain⟨kb,h1,h2⟩:=ih fun e he=>sub e (cT _ he);obtain⟨j,hj⟩:=mK (sub e cS);obtain⟨kw,hw,w1,m2,w2,w3⟩:=vj p2 hj;obtain⟨r1,m1,r2,r3⟩:=r;refine⟨kw::kb,.cons ⟨r1.trans w1.symm,vE (some e.2),?_,?_,?_⟩ h1,fun p hp=>?_⟩
  . exact(me (show gf H kv.2 (some e.2) from ⟨m1,r2,r3⟩)).1
  . exact(me (show gf H kw.2 (some e.2) from ⟨m2,w2,w3⟩)).1
  . exact(me (K:=K) (show gf H kv.2 (some e.2) from ⟨m1,r2,r3⟩)).2
  . rcases bh.mp hp with z | z
    . rw[z];exact dw hw
    . exact h2 p z
theorem EL{c1 c2:Ch}(n1:(c1.map (·.1)).Nodup)(h:∀z,c1.lookup z=c2.lookup z):∀e∈c1,e∈c2:=fun e he=>
 nZ ((h e.1).symm.trans ((LC n1).mpr he))
theorem aho{c1 c2:Ch}(n1:(c1.map (·.1)).Nodup)(n2:(c2.map (·.1)).Nodup)(h:∀z,c1.lookup z=c2.lookup z):c1.length=c2.length:=by
 have a:=dJ n1 fun x hx=>by
  obtain⟨e,he,rfl⟩:=bC.mp hx;exact oR (EL n1 h e he)
 have b:=dJ n2 fun x hx=>by
  obtain⟨e,he,rfl⟩:=bC.mp hx;exact oR (EL n2 (fun z=>(h z).symm) e he)
 rw[aw,aw]at a b;omega
theorem Nv{K:Fg}{H:Hp}{x y:Addr}{c1 c2:Ch}(h1:cw H x c1)(h2:cw H y c2)(n1:(c1.map (·.1)).Nodup)(n2:(c2.map (·.1)).Nodup)(h:∀z,c1.lookup z=c2.lookup z) :
 ∃a b kvs kb bJ,(V.ref x) = .ref a/\(V.ref y) = .ref b/\H a=some (.dK kvs)/\H b=some (.dK bJ)/\Paired (um K H) kvs kb/\(∀p∈kb,p∈bJ)/\kvs.length=bJ.length/\(bJ.map (·.1)).Nodup:=by
 obtain⟨kvs,e1,p1⟩:=h1;obtain⟨bJ,e2,p2⟩:=h2;obtain⟨kb,a1,a2⟩:=ahn (K:=K) p1 p2 (EL n1 h);exact⟨x,y,kvs,kb,bJ,rfl,rfl,e1,e2,a1,a2,by rw[aM p1,aM p2];exact aho n1 n2 h,(Et p2 n2).1⟩
theorem ahp{c goal:Ch}{ys:Ls}(srt:sortedS ys=true)(nd:ys.Nodup)(mem:∀z,z∈c.map (·.1)\/z∈goal.map (·.1)->z∈ys):gF c goal (ys.filter (gj c goal)):=by
 refine⟨(y9 srt nd).sublist wF,fun z=>?_⟩;rw[dC];unfold gj;rw[GA];refine⟨fun h=>h.2,fun h=>⟨mem z ?_,h⟩⟩
 by_cases hc:c.lookup z=none
 . right;refine oq fun e=>h ?_;rw[hc,e]
 . exact .inl (oq hc)
theorem ahq{a b:Ls}(p:a.Perm b)(h1:sortedS a=true)(h2:cV b):a=b:=
 cV.uniq (y9 h1 (p.nodup_iff.mpr h2.nd)) h2 fun z=>p.mem_iff
theorem ahr{o g:Ls}(h:uL ((o.length:Int),o) ((g.length:Int),g)=true):zh o g:=by
 unfold uL at h;dsimp only at h
 by_cases e:(o.length:Int)=(g.length:Int)
 . rw[ai e]at h;exact .inr ⟨by omega,h⟩
 . rw[af e]at h;have:=b0 h;exact .inl (by omega)
theorem ahs{ps:Lp}{c goal:Ch}{left g:Ls}(h:oh ps c goal left g)(hL:gF c goal left)(hs:cR ps goal=true):cR ps (ci cF goal c g)=true:=by
 rcases h.snd with e | e
 . rw[←hs];refine LF fun x=>?_;rw[mf k7,e]
   by_cases hx:x∈left
   . rw[ai hx]
   . rw[af hx];exact qW fun z=>hx ((hL.mem x).mpr z)
 . exact e
def Nw:Sp:=fun vs H Q _=>∃(a n g f:Addr) (xs:Lv) (ps:Lp) (now goal:Ch) (zs:Lv) (gs:List (Ls)),vs = [.ref a,.ref n,.ref g,.ref f]/\H a=some (.lst xs)/\iG H xs ps/\sF ps/\cw H n now/\cw H g goal/\bS ps now/\bS ps goal/\cR ps goal=true /\
 H f=some (.lst zs)/\Paired (mi H) zs gs/\Walk ps now goal gs/\∀H',ag H H'->Q (.bl true) H'
section
variable {P:Program} {w:World} {K:Fg} {mg:Mv} {base:Heap}
theorem oK:bO [ak2,ale,ak5,alp,ak1,alj,"_law_left","_law_size",alA,"_law_behind_here"] [ak2,ale,ak5,alp] (aS rW):=⟨rfl,rfl,rfl,by decide +kernel,rfl,by decide +kernel,by decide +kernel⟩
theorem aht{f zJ zK zL oJ lh jD:Addr}{fd EM EN EO sK qD k8:Fy}(F:au K alC alC rW f fd)(B:eR mg)(kL:PySem.W.kitOne K (.type "list") (.type "list")=some true)
 (v0:au K alI alI yE zJ EM) (EQ:mg alI = some (.ref zJ)) (sN:au K alW alW yF zK EN) (zM:mg alW = some (.ref zK)) (v4:au K alJ alJ vb zL EO) (ER:mg alJ = some (.ref zL))
 (j7:au K alB alB uZ oJ sK) (qH:mg alB = some (.ref oJ)) (j6:au K alq alq rV lh qD) (mw:mg alq = some (.ref lh)) (fK:au K alo alo rS jD k8) (j4:mg alo = some (.ref jD)) :
 aB P w K mg base aD 3 f fd [ak2,ale,ak5,alp] Nw:=by
 have ahu:aB P w K mg base aD 1 zJ EM [ale,ak5,ak1] Nb:=ag2 v0;have ahv:=v0.binds3 (l:=[ale,ak5,ak1]) (fun _ _ _ _ _ _ _ _ _=>rfl);have Nx:aB P w K mg base aD 1 zK EN [ale,ak5,alj] (qr ic):=ag4 sN B;have Ny:=sN.binds3 (l:=[ale,ak5,alj]) (fun _ _ _ _ _ _ _ _ _=>rfl);have ahw:aB P w K mg base aD 1 zL EO [ak1] Nd:=ag6 v4 B;have ahx:=v4.binds1 (l:=[ak1]) (fun _ _ _ _ _ _ _=>rfl);have zH:aB P w K mg base aD 2 oJ sK [ak2,alf] Ej:=MF j7 j6 mw;have zI:=j7.binds2 (l:=[ak2,alf]) (fun _ _ _ _ _ _ _ _=>rfl);have qt:aB P w K mg base aD 1 jD k8 [alv,alr,alt] (qr cF):=zj fK B;have qv:=fK.binds3 (l:=[alv,alr,alt]) (fun _ _ _ _ _ _ _ _ _=>rfl);refine F.ok oK (fun vs H Q E h=>?_) (fun aE A outer s H vs Q E hr h=>?_)
 . obtain⟨a,n,g,f,xs,ps,now,goal,zs,gs,rfl,_⟩:=h;rfl
 . refine ck ?_;intro xX dX;obtain⟨a,n,go,fo,xs,ps,now,goal,zs,gs,rfl,ha,aR,bo,hn,hg,cn,cg,sg,hf,hz,W,q⟩:=h;have bY:=hr.mono (j:=1) (by decide);have hu:=hr.units;have iL:=hr.units0;have v6:(A.deeper (envOfC alC (aS rW) s.heap.objs.size f aE)).units+65<cLine:=by have:=hr.un;omega
   have ahy:(A.deeper (envOfC alC (aS rW) s.heap.objs.size f aE)).units+69<cLine:=by have:=hr.un;omega
   have xl:=aM aR;have l8:=bo.len;obtain⟨ys,hN⟩:=M0 ps;have ysl:ys.length<=8:=by
    have:=dJ hN.nd fun z hz=>(hN.mem z).mp hz;rw[aw]at this;omega
   have Nz:∀y∈ys,dk y:=fun y hy=>by
    obtain⟨p,hp,rfl⟩:=bC.mp ((hN.mem y).mp hy);exact(bo.good p hp).nm
   have ES:∀{c:Ch},bS ps c->∀z∈c.map (·.1),z∈ys:=fun {c} h z hz=>by
    obtain⟨e,he,rfl⟩:=bC.mp hz;obtain⟨p,hp,e1,_⟩:=h.val e he;exact(hN.mem _).mpr (bC.mpr ⟨p,hp,e1⟩)
   have chl:∀{c:Ch},bS ps c->c.length<=8:=fun {c} h=>by
    have:=dJ h.nd (ES h);rw[aw]at this;omega
   refine⟨_,(aA (a9 (i:=4) oK.nd rfl (Or.inl rfl) (dU (BZ rfl) (by rfl) B.sorted tI (aa (eW (Jm rfl) (by rfl) B.set Gz (aa (eB [ak9] [] [] ⟨rfl,by decide +kernel,by decide +kernel,by decide +kernel,by decide +kernel,rfl,rfl,rfl⟩ rfl (bI (pv 0)) (fun _ _ _ _=>(aX (i:=0) (show List.Nodup ([ak9]:Ls) by decide +kernel) rfl (Or.inl rfl))) (fun _ _ _ _=>jt) (fun _ _ _ _=>(bi (f9 K) (pv 0) ap (fun _ _=>rfl)))) ah)) ah)))
    (aA (eu eN rfl (bI (pv 3)) (aX (i:=5) oK.nd rfl (Or.inl rfl))
    (aA (a9 (i:=6) oK.nd rfl (Or.inr rfl) (aO ahu bY rfl EQ v0.kp ahv .nil aK (aa (pv 1) (aa (pv 2) (aa (pv 4) ah)))))
     (aA (ej (PW.pt (o0 (w6 (jj (dU HK (by rfl) B.isinstance ajY (aa (pv 5) (aa (GS (v:=.ty "list") rfl B.list kj rfl) ah))))) (o0 (cb (JM iL) (pv 5) (cq ah) (bq _)) (w4 (cb (zw iL) (eB [ali] ["_law_left"] [6] ⟨rfl,by decide +kernel,by decide +kernel,by decide +kernel,by decide +kernel,rfl,rfl,rfl⟩ rfl (bI (pv 5)) (fun _ _ _ _=>(aX (i:=0) (show List.Nodup ([ali,"_law_left"]:Ls) by decide +kernel) rfl (Or.inl rfl))) (fun _ _ _ _=>f7 (cb (ZH K) (pv 0) (pv 1) (by rfl))) (fun _ _ _ _=>(pv 0))) (cq ah) (bq _))))))
     (aG (bE mQ)) eO)
     (aA (eu eN rfl (bI (aO ahw bY rfl ER v4.kp ahx .nil aK (aa (pv 6) ah))) (rc rfl (iN (aX (i:=7) oK.nd rfl (Or.inl rfl)) (iN (aX (i:=8) oK.nd rfl (Or.inl rfl)) q8)))
     (aG (ej (PW.pt (w5 (cb (acN ahy) (dm (aa (pv 7) (aa (pv 8) ah))) (dm (aa (dU jm (by rfl) B.len jg (aa (pv 5) ah)) (aa (pv 5) ah))) (bq _)) (wZ (jj (aO zH hr rfl qH j7.kp zI .nil aK (aa (pv 0) (aa (aO Nx bY rfl zM sN.kp Ny .nil aK (aa (pv 1) (aa (pv 2) (aa (pv 8) ah)))) ah)))))))
      (aG (bE mQ)) eO)))
     (aA (a9 (i:=9) oK.nd rfl (Or.inl rfl) (aO Nx bY rfl zM sN.kp Ny .nil aK (aa (pv 1) (aa (pv 2) (aa (pv 5) ah)))))
     (aA (ej (PW.pt (o0 (cb (HM hu) (pv 5) (dU ZS (by rfl) B.sorted tI (aa (pv 5) ah)) (bq _)) (o0 (w6 (jj (aO zH hr rfl qH j7.kp zI .nil aK (aa (pv 0) (aa (pv 9) ah))))) (w4 (cb (aaa v6) (aO qt bY rfl j4 fK.kp qv .nil aK (aa (pv 1) (aa (pv 2) (aa (eW Bz (by rfl) B.list kj (aa (pv 5) ah)) ah)))) (pv 9) (bq _))))))
     (aG (bE mQ)) eO)
     (aG (a9 (i:=1) oK.nd rfl (Or.inl rfl) (pv 9)))))))))
    (aG (bE (gT (adI v6) (pv 1) (pv 2) (bq _)))))),?_⟩
   refine kK ?_
   intros
   refine⟨_,rfl,a,rfl,⟨_,ae.of ha⟩,?_⟩;refine Jt (σ0:=[none]) (ae.of ha) (fun σ=>∃u,σ = [u]) ((ps.map aQ.nm).map V.str) (by rw[aw,aw,xl]) (gK (bp (by omega))) ⟨_,rfl⟩ ?_ ?_
   . intro i z y σ H3 k hz hy hQ hs hk;obtain⟨u,rfl⟩:=hQ;obtain⟨p,hp,t,m,na,sa,oa,rfl,h1,_⟩:=bQ aR hz;rw[bT,bT,hp]at hy;cases hy;have a0:bF [V.str p.nm,.ref m,.ref na,.ref sa,.ref oa] 0=some (V.str p.nm):=rfl;exact⟨_,rfl,t,_,_,_,rfl,rfl,aI.of (hs _ _ h1),a0,hk _ _ ⟨_,rfl⟩ (ag.refl _)⟩
   . intro D H3 hD eD s3;refine⟨D,ps.map aQ.nm,rfl,ae.of eD,by rw[aw];omega,fun r Ev H4 n4 s4 e4 nd mem=>?_⟩;have hl:=MN nd fun z hz=>(mem z).mp hz;rw[aw]at hl;refine⟨r,Ev,rfl,e4,by omega,fun aJ hp hs=>fun ln H5 n5 s5 e5=>?_⟩;have ey:=oF.uniq ⟨hs,hp.nodup_iff.mpr nd,fun z=>by rw[hp.mem_iff,mem]⟩ hN;subst ey;have di:=s3.trans (s4.trans s5);refine⟨_,rfl,fo,rfl,⟨_,ae.of (di _ _ hf)⟩,?_⟩;have zl:=aM hz;refine gu (xs:=zs) (fun i σ H6=>∃nw u5 u6 u7 u8 u9 c,σ = [some (.ref a),some (.ref nw),some (.ref go),some (.ref fo),some (.ref ln),u5,u6,u7,u8,u9]/\ag H5 H6/\cw H6 nw c/\bS ps c/\∀z,c.lookup z=(dA goal now gs i).lookup z)
      ⟨n,none,none,none,none,none,now,rfl,ag.refl _,hn.same di,cn,fun _=>rfl⟩ ?_ ?_ ?_
     . rintro i σ H6 hi ⟨nw,u5,u6,u7,u8,u9,c,rfl,s6,_⟩;exact ae.of ((di.trans s6) _ _ hf)
     . intro i x σ H6 hx hQ;refine bX ?_;intro tT;obtain⟨nw,u5,u6,u7,u8,u9,c,rfl,s6,hc,cc,ec⟩:=hQ;obtain⟨g,NA,l,rfl,_,v7⟩:=bQ hz hx;obtain⟨left,hL,oM⟩:=W.step i g NA;have ig:=di.trans s6;have ET:=ig _ _ v7;have NB:=ahp (c:=c) (goal:=goal) hN.srt hN.nd fun z hz=>hz.elim (ES cc z) (ES cg z);have eL:aJ.filter (gj c goal)=left:=NB.uniq (hL.congr fun z=>(ec z).symm);have hLc:gF c goal left:=eL▸NB;have EU:∀z∈left,z∈aJ:=fun z hz=>(dC.mp (eL▸hz)).1;have ll:=dJ hL.inc.nd EU;have EV:∀z∈g,dk z:=fun z hz=>Nz z (EU z (oM.sub z hz));have gl:=dJ oM.inc.nd oM.sub;have cl:=chl cc;refine BF ?_
       intros
       refine⟨_,rfl,_,rfl,_,rfl,nw,go,ln,c,goal,aJ,rfl,hc,hg.same ig,s6 _ _ e5,by omega,fun l7 H7 n7 s7 e7=>?_⟩;rw[eL]at e7;have s07:=ig.trans s7;have NC:=s7 _ _ ET;refine⟨_,rfl,_,_,_,_,rfl,.lst NC,kL,_,rfl,?_⟩;refine gX ?_;refine⟨_,rfl,(by show 0<=sizeLine;decide),fun p8 H8 n8 s8 e8=>?_⟩;have EW:=s8 _ _ NC;refine⟨l,p8,_,rfl,rfl,ae.of EW,ae.of e8,_,rfl,?_⟩;have vK:decide ((g.map V.str).length=0)=false:=aU fun z=>oM.ne (by rw[aw]at z;exact jI.mp z);rw[vK];refine gX ?_;refine⟨_,rfl,l,rfl,⟨_,ae.of EW⟩,?_⟩;intro D9 hD9;refine hU (σ0:=[none,some (.ref l7)]) hD9 (ae.of EW) (fun σ=>∃v,σ = [v,some (.ref l7)]) (fun j ws _=>ws = []) ⟨_,rfl⟩ rfl ?_ ?_
       . rintro j y ws σ H9 k k' hy ⟨v,rfl⟩ oC h9 rfl cE bG;rw[bT]at hy;cases hm:g[j]? with
         | none=>rw[hm]at hy;cases hy
         | some m=>
          rw[hm]at hy;cases hy;have gA:iT (.str m) (left.map V.str)=true:=Dr.mpr (oM.sub m (dw hm));refine⟨_,rfl,_,rfl,l7,_,rfl,.inl (ae.of ((s8.trans h9) _ _ e7)),rfl,by simp[kF],_,rfl,?_⟩;rw[gA];refine gX ?_;exact bG _ _ ⟨_,rfl⟩ (ag.refl _) rfl
       rintro ws H9 oC s9 rfl;refine⟨(by show 0<=sizeLine;decide),fun i7 eI zq fm fL=>?_⟩;refine⟨D9,i7,_,rfl,rfl,ae.of (fm _ _ oC),ae.of fL,_,rfl,?_⟩;refine bj (fun h=>absurd rfl (b0 h)) (fun _=>?_);have oN:=s8.trans (s9.trans fm);have ahC:=s07.trans oN;have c10:=hc.same (s7.trans oN);refine⟨_,rfl,l7,left,rfl,oN _ _ e7,hL.inc,by omega,fun z hz=>Nz z (EU z hz),fun l11 gv Ez zB mB oH hgv=>?_⟩;have ND:=ahC.trans mB;have NE:=s7.trans (oN.trans mB);have ahF:∀o,o≠[]->cV o->(∀x∈o,x∈left)->zh o g->cR ps (ci ic goal c o)=false:=fun o o1 o2 o3 lt=>by
        rw[LJ vG ec];exact oM.min o o1 o2 o3 lt
       refine⟨l11,rfl,⟨_,ae.of oH⟩,?_⟩;refine gu (xs:=gv) (fun j σ v9=>∃u7 u8,σ = [some (.ref a),some (.ref nw),some (.ref go),some (.ref fo),some (.ref ln),some (.ref l),some (.ref l7),u7,u8,u9]/\ag Ez v9) ⟨u7,u8,rfl,ag.refl _⟩ ?_ ?_ ?_
       . rintro j σ v9 hj ⟨u7,u8,rfl,bA⟩;exact ae.of (bA _ _ oH)
       . intro j y σ v9 hy hQ;refine bX ?_;intro tT2;obtain⟨u7,u8,rfl,bA⟩:=hQ;obtain⟨o,EX,o1,o2,o3⟩:=hgv y (dw hy);have EX:=EX.same bA;obtain⟨t,lo,rfl,t1,t2,t3⟩:=id EX;have ol:=dJ o2.nd o3;refine⟨t,_,rfl,aI.of t1,rfl,_,_,rfl,_,_,rfl,rfl,?_⟩;refine⟨_,rfl,_,rfl,(by show 2<=sizeLine;decide),fun zr Eb Ec eh sE=>?_⟩;have zN:=ND.trans (bA.trans eh);refine⟨_,rfl,l,_,rfl,.inl (ae.of (zN _ _ v7)),_,rfl,(by show 2<=sizeLine;decide),fun zO EY sO cQ mD=>?_⟩;have sP:=zN.trans cQ;have ahG:=NE.trans (bA.trans (eh.trans cQ));rw[aw]at mD;refine⟨((o.length:Int),o),((g.length:Int),g),⟨zr,lo,rfl,cQ _ _ sE,(eh.trans cQ) _ _ t2,t3⟩,⟨zO,l,rfl,mD,sP _ _ v7,EV⟩,_,rfl,?_⟩;refine bj (fun h=>?_) (fun h=>?_)
         . have sn:=ahF o o1 o2 o3 (ahr h);refine⟨_,rfl,_,rfl,_,rfl,_,rfl,nw,go,lo,c,goal,o,rfl,hc.same ahG,hg.same sP,(eh.trans cQ) _ _ t2,by omega,fun r15 sQ n15 li c15=>?_⟩;have wa:=sP.trans li;refine⟨a,r15,xs,ps,_,rfl,wa _ _ ha,aR.same wa,by omega,bo.good,c15,fun NF mn=>⟨_,rfl,?_⟩⟩;rw[sn];refine gX ?_;exact⟨_,_,rfl,bA.trans (eh.trans (cQ.trans (li.trans mn)))⟩
         . exact gX ⟨_,_,rfl,bA.trans (eh.trans cQ)⟩
       . rintro σ v9 ⟨u7,u8,rfl,bA⟩;have zP:=ND.trans bA;have oI:=NE.trans bA;have NG:=zP _ _ v7;refine⟨_,rfl,_,rfl,_,rfl,nw,go,l,c,goal,g,rfl,hc.same oI,hg.same zP,NG,by omega,fun NH Eb Ec eh EZ=>?_⟩;have zN:=zP.trans eh;have NJ:=eh _ _ NG;have sn:cR ps (ci ic goal c g)=true:=(LJ vG ec).trans (ahs oM hL sg);have cL:=cc.beh vG cg g;have cB:=cc.beh k7 cg g;refine⟨_,rfl,_,rfl,l,g,rfl,ae.of NJ,by omega,fun zQ ahK ahL zO EY sO cQ mD=>?_⟩;have ey:=ahq ahK ahL oM.inc;subst ey;have ahM:=cQ _ _ NJ;refine⟨_,_,uj (ae.of ahM),uj (ae.of mD),uM 8 EV,uM 8 EV,fun b hb=>⟨_,rfl,?_⟩⟩;rw[hb.mpr rfl];refine gX ?_;have sP:=zN.trans cQ;refine⟨_,rfl,_,rfl,a,NH,xs,ps,_,rfl,sP _ _ ha,aR.same sP,by omega,bo.good,EZ.same cQ,fun sQ li=>⟨_,rfl,?_⟩⟩;rw[sn];refine gX ?_;have NK:=eh.trans (cQ.trans li);have ahN:=oI.trans NK;have wa:=zP.trans NK;refine⟨_,rfl,_,rfl,_,rfl,l,_,rfl,.inl (ae.of (wa _ _ v7)),fun p16 NF n16 mn e16=>?_⟩;refine⟨nw,go,p16,c,goal,zQ,rfl,hc.same (ahN.trans mn),hg.same (wa.trans mn),e16,by omega,fun r17 zR NL jc c17=>?_⟩;have E2:=cQ.trans (li.trans (mn.trans jc));have eqz:∀z,(ci cF goal c zQ).lookup z=(ci ic goal c zQ).lookup z:=fun z=>by rw[mf k7,mf vG]
         obtain⟨x1,x2,x3,x4,x5,y1,y2,y3,y4,y5,y6,y7,y8⟩:=Nv (K:=K) c17 (EZ.same E2) cB.nd cL.nd eqz;refine⟨_,rfl,x1,x2,x3,x4,x5,y1,y2,y3,y4,y5,y6,y7,y8,_,rfl,?_⟩;refine gX ?_;refine⟨_,rfl,?_⟩;refine⟨NH,_,_,_,_,_,ci ic goal c zQ,rfl,s6.trans (oI.trans (eh.trans E2)),EZ.same E2,cL,fun z=>?_⟩;rw[afI NA,mf vG,mf k7,ec]
     . rintro σ H6 ⟨nw,u5,u6,u7,u8,u9,c,rfl,s6,hc,cc,ec⟩;rw[zl]at ec;have ig:=di.trans s6;obtain⟨x1,x2,x3,x4,x5,y1,y2,y3,y4,y5,y6,y7,y8⟩:=Nv (K:=K) hc (hg.same ig) cc.nd cg.nd fun z=>(ec z).trans (W.fin z);exact⟨_,rfl,_,rfl,x1,x2,x3,x4,x5,y1,y2,y3,y4,y5,y6,y7,y8,q H6 ig⟩
end
end K51
namespace L2
open PySem PySem.Spec PyProof.Rows
section
variable {X:Cx}
def ahS(K:Fg):Lv->Hp->VK->Prop:=fun xs H Q=>∃p ys,xs = [.ref p]/\(ae K H p ys\/aI K H p ys)/\fb H (.lst ys) Q
theorem zS(K:Fg)(h:X.K=K:=by rfl):eP X (.type "list") (ahS K):=by subst h;exact Bz
end
end L2
namespace K51
open PySem L2 PySem.Spec PyProof.Rows
open HT (At cZ dL)
seal PE PS dH PA PT PW PG jO PI jr
theorem gf.ke{H H':Hp}(k:Ke H H'){b:V}{o:Oi}(h:gf H b o):gf H' b o:=by
 cases o with
 | none=>exact h
 | some m=>
  obtain⟨a,e,h⟩:=h;exact⟨a,e,k _ _ h (by intro φ z;cases z)⟩
theorem fh.ke{H H':Hp}(k:Ke H H'){a:Addr}{cs:List dz}(h:fh H a cs):fh H' a cs:=by
 obtain⟨ys,h1,h2⟩:=h;refine⟨ys,k _ _ h1 (by intro φ z;cases z),bd h2 fun v c h=>?_⟩;obtain⟨t,l,b,e,h1,h2,h3⟩:=h;exact⟨t,l,b,e,k _ _ h1 (by intro φ z;cases z),k _ _ h2 (by intro φ z;cases z),h3.ke k⟩
theorem j5.ke{H H':Hp}(k:Ke H H'){v:V}{p:aQ}(h:j5 H v p):j5 H' v p:=by
 obtain⟨t,m,na,sa,oa,e,h1,h2,h5,h6,h7⟩:=h;exact⟨t,m,na,sa,oa,e,k _ _ h1 (by intro φ z;cases z),k _ _ h2 (by intro φ z;cases z),h5.ke k,h6.ke k,k _ _ h7 (by intro φ z;cases z)⟩
theorem ahT{K:Fg}{H H':Hp}{a:Addr}{xs:Lv}(k:Ke H H')(h:ae K H a xs):ae K H' a xs:=by
 rcases h with(h | ⟨o,h⟩) | h
 . exact .inl (.inl (k _ _ h (by intro φ z;cases z)))
 . exact .inl (.inr ⟨o,k _ _ h (by intro φ z;cases z)⟩)
 . exact .inr h
theorem NM{ps:Lp}{goal:Ch}(k:bS ps goal):∀(gs:List (Ls)) {now:Ch},bS ps now->bS ps (gs.foldl (ci cF goal) now)
 | [],_,h=>h
 | g::gs,now,h=>NM k gs (h.beh k7 k g)
theorem ahU{ps:Lp}{now goal:Ch}{gs:List (Ls)}{N:Ls}(W:Walk ps now goal gs)(cn:bS ps now)(cg:bS ps goal)(good:∀p∈ps,Good p)(hn:∀p∈ps,p.nm∈N)(h8:N.length<=8):∀g∈gs,g.length<=8/\∀x∈g,dk x:=fun g hg=>by
 obtain⟨i,hi⟩:=mK hg;obtain⟨left,hL,fo⟩:=W.step i g hi;have cc:bS ps (dA goal now gs i):=NM cg _ cn;have ll:=hL.len cc cg hn h8;have nm:∀{c:Ch},bS ps c->∀{x:Str},x∈c.map (·.1)->dk x:=fun {c} h {x} hx=>by
  obtain⟨e,he,rfl⟩:=bC.mp hx;obtain⟨p,hp,e1,_⟩:=h.val e he;exact e1▸(good p hp).nm
 refine⟨bn (dJ fo.inc.nd fo.sub) ll,fun x hx=>?_⟩;have ne:=(hL.mem x).mp (fo.sub x hx)
 by_cases e:(dA goal now gs i).lookup x=none
 . exact nm cg (oq fun e'=>ne (by rw[e,e']))
 . exact nm cc (oq e)
def dG(gs:List (Ls)):PySem.W.Dat:=.list (gs.map dS)
theorem NN{K:Fg}{H:Hp}{a:Addr}{zs:Lv}{gs:List (Ls)}(h:H a=some (.lst zs))(p:Paired (mi H) zs gs):DV K H (.ref a) (dG gs):=by
 refine .lst (ae.of h) ?_;clear h
 induction p with
 | nil=>exact .nil
 | cons r t ih=>
  obtain⟨l,rfl,_,h⟩:=r;exact .cons (uj (ae.of h)) ih
theorem NO{gs:List (Ls)}(h:∀g∈gs,∀x∈g,dk x):PySem.W.kqdOk 9 (dG gs)=true:=by
 show(gs.map dS).all (PySem.W.kqdOk 8)=true;refine gr.mpr fun d hd=>?_;obtain⟨g,hg,rfl⟩:=bC.mp hd;exact uM 7 (h g hg)
theorem ahV{K:Fg}{C:Addr}{H:Hp}{Q:VK}{E:XK}{m fa na sa oa:Addr}{p:aQ}{ns ss:Lv}(r0:p.rk=0)(f0:p.fs = [])(hm:H m=some (.tup (p.ms.map V.int)))(hf:H fa=some (.lst []))
 (hn:H na=some (.lst ns)) (iy:Paired (dq H) ns p.ns) (hs:H sa=some (.lst ss)) (C6:Paired (dq H) ss p.ss) (ho:H oa=some (.lst (p.os.map V.str))) (q:∀x H',H x=none->ag H H'->(∀L,hJ H L->kT C (msk L H') (.ref x) p)->Q (.ref x) H') :
 ∀x dx,H x=none->H dx=none->dx≠x->C0 K C (.ref x::([.str p.nm,.ref m,.int 0,.ref fa,.ref na,.ref sa,.ref oa]++[])) (ak (ak H dx (.own x)) x (.ins C dx [])) (fun v H2=>v = .non/\Q (.ref x) H2) E:=by
 have z:=aep (K:=K) (C:=C) (E:=E) (Q:=Q) (p:=p) hm hf (by rw[f0];exact .nil) hn iy hs C6 ho (by rw[f0];exact cj _) q;rw[r0]at z;exact z
def zT(K:Fg)(Pt:Addr):Sp:=fun vs H Q _=>∃(a:Addr) (ns:List Int),vs = [.ref a]/\ae K H a (ns.map V.int)/\ns.length<=63/\fU H Pt sJ qG/\∀H',fU H' Pt sJ qG->Q (.bl true) H'
section
variable {P:Program} {w:World} {K:Fg} {mg:Mv} {base:Heap}
theorem lj:bO [ak6,ak2,ak5,ale,ak4,"_law_shelf","_law_handed",alp,"_law_kept"] [ak6] (aS pV):=⟨rfl,rfl,rfl,by decide +kernel,rfl,by decide +kernel,by decide +kernel⟩
theorem ahW{f C S Pt fN fM fP sR qI jE dh zU zV zW zX zY jD:Addr}{fd zZ wb mo fg E3 E4 E5 E6 E7 k8:Fy}(F:au K "law" "law" pV f fd)(B:eR mg)(T:Txt K mg C)(US:rZ K mg S fN fM fP)(MP:Mk K C sR)(MS:Mk K S qI)(kL:PySem.W.kitOne K (.type "list") (.type "list")=some true)
 (Aa:au K "__init__" "Parcel.__init__" nA sR zZ) (Ab:au K "__init__" "Shelf.__init__" pT qI wb)
 (fO:au K alg alg rT jE mo) (i8:mg alg = some (.ref jE)) (br:au K ak7 ak7 kR dh fg) (cp:mg ak7 = some (.ref dh))
 (wc:au K alP alP yB zU E3) (E8:mg alP = some (.ref zU)) (ahX:aB P w K mg base aD 4 zU E3 [ak6] (zu K))
 (we:au K al3 al3 yC zV E4) (E9:mg al3 = some (.ref zV)) (ahY:aB P w K mg base aD 3 zV E4 [ak6] (zu K))
 (wf:au K alQ alQ rX zW E5) (Fa:mg alQ = some (.ref zW)) (ahZ:aB P w K mg base aD 4 zW E5 [ak2,ak0] (Nt Pt))
 (sT:au K al2 al2 yx zX E6) (Ac:mg al2 = some (.ref zX)) (NP:aB P w K mg base aD 8 zX E6 [alc,alv,alr] (L7 C S))
 (wj:au K alC alC rW zY E7) (Fb:mg alC = some (.ref zY)) (ah0:aB P w K mg base aD 3 zY E7 [ak2,ale,ak5,alp] Nw)
 (fK:au K alo alo rS jD k8) (j4:mg alo = some (.ref jD)):aB P w K mg base aD 9 f fd [ak6] (zT K Pt):=by
 have mq:aB P w K mg base aD 1 jE mo [ak6,ak4] (yH K):=CT fO B;have dN:aB P w K mg base aD 1 dh fg [ak0,ak4] pW:=rY br;have qt:aB P w K mg base aD 1 jD k8 [alv,alr,alt] (qr cF):=zj fK B;have ah1:=aeh (P:=P) (w:=w) (base:=base) Aa T B.list;have ah2:aB P w K mg base aD 1 qI wb [alF,ak8] (Db K C S):=aet Ab T US;have ah3:=Aa.binds8 (l:=[alF,ala,alb,aln,alm,alu,alK,alZ]) (fun _ _ _ _ _ _ _ _ _ _ _ _ _ _=>rfl);have ah4:=Ab.binds2 (l:=[alF,ak8]) (fun _ _ _ _ _ _ _ _=>rfl);have mr:=fO.binds2 (l:=[ak6,ak4]) (fun _ _ _ _ _ _ _ _=>rfl);have dO:=br.binds2 (l:=[ak0,ak4]) (fun _ _ _ _ _ _ _ _=>rfl);have ah5:=wc.binds1 (l:=[ak6]) (fun _ _ _ _ _ _ _=>rfl);have ah6:=we.binds1 (l:=[ak6]) (fun _ _ _ _ _ _ _=>rfl);have ah7:=wf.binds2 (l:=[ak2,ak0]) (fun _ _ _ _ _ _ _ _=>rfl);have NQ:=sT.binds3 (l:=[alc,alv,alr]) (fun _ _ _ _ _ _ _ _ _=>rfl);have ah8:=wj.binds4 (l:=[ak2,ale,ak5,alp]) (fun _ _ _ _ _ _ _ _ _ _=>rfl);have qv:=fK.binds3 (l:=[alv,alr,alt]) (fun _ _ _ _ _ _ _ _ _=>rfl);refine F.ok lj (fun vs H Q E h=>?_) (fun aE A outer s H vs Q E hr h=>?_)
 . obtain⟨a,is,rfl,_⟩:=h;rfl
 . refine ck ?_;intro xX dX;obtain⟨a,is,rfl,hA,h63,tab,q⟩:=h;have hu:=hr.units;have iL:=hr.units0;have v6:(A.deeper (envOfC "law" (aS pV) s.heap.objs.size f aE)).units+65<cLine:=by have:=hr.un;omega
   have NR:=hr.mono (j:=4) (by decide);have NS:=hr.mono (j:=3) (by decide);have kX:=hr.mono (j:=2) (by decide);have bY:=hr.mono (j:=1) (by decide);have Eu:∀{Hx:Hp} (kv:aF×V) (f:Str×List Int),bR Hx kv f->kv.1=Sum.inr f.1:=fun kv f z=>z.1;refine⟨_,(aA (a9 (i:=1) lj.nd rfl (Or.inl rfl) (aO ahX NR rfl E8 wc.kp ah5 .nil aK (aa (pv 0) ah)))
    (aA (ej (cb iP (aY dg (aO mq bY rfl i8 fO.kp mr .nil aK (aa (pv 0) (aa ap ah))) ap) ap (bq _))
    (aG (a9 (i:=1) lj.nd rfl (Or.inl rfl) (aO ahY NS rfl E9 we.kp ah6 .nil aK (aa (pv 0) ah)))) eO)
    (aA (a9 (i:=2) lj.nd rfl (Or.inl rfl) (aO ahZ NR rfl Fa wf.kp ah7 .nil aK (aa (pv 1) (aa (aO mq bY rfl i8 fO.kp mr .nil aK (aa (pv 0) (aa ap ah))) ah))))
    (aA (a9 (i:=3) lj.nd rfl (Or.inl rfl) Ij)
    (aA (eu eN rfl (o5 rfl B.range (aa (dU jm (by rfl) B.len jg (aa (pv 1) ah)) ah)) (aX (i:=4) lj.nd rfl (Or.inl rfl))
    (aG (ej (cb iP (aY dg (aO dN bY rfl cp br.kp dO .nil aK (aa (aO mq bY rfl i8 fO.kp mr .nil aK (aa (pv 0) (aa ap ah))) (aa (pv 4) ah))) ap) ap (bq _))
     (aG (ua hu (pv 3) (bi jS (bi eZ (pv 1) (pv 4) (fun _ _=>rfl)) ap (fun _ _=>rfl)) (bi jS (bi eZ (pv 1) (pv 4) (fun _ _=>rfl)) ap (fun _ _=>rfl)) rfl)) eO)))
    (aA (a9 (i:=5) lj.nd rfl (Or.inl rfl) (Hh MS ah2 kX rfl US.mgC ah4 .nil aK (aa (eB [ak9] [] [] ⟨rfl,by decide +kernel,by decide +kernel,by decide +kernel,by decide +kernel,rfl,rfl,rfl⟩ rfl (bI (pv 1)) (fun _ _ _ _=>(aX (i:=0) (show List.Nodup ([ak9]:Ls) by decide +kernel) rfl (Or.inl rfl))) (fun _ _ _ _=>jt) (fun _ _ _ _=>(Hh MP ah1 kX rfl T.mgC ah3 .nil aK (aa (bi (f9 K) (pv 0) ap (fun _ _=>rfl)) (aa (bi (f9 K) (pv 0) ap (fun _ _=>rfl)) (aa ap (aa (cq ah) (aa (eW (zS K) (by rfl) B.list kj (aa (bi (f9 K) (pv 0) ap (fun _ _=>rfl)) ah)) (aa (eW (zS K) (by rfl) B.list kj (aa (bi (f9 K) (pv 0) ap (fun _ _=>rfl)) ah)) (aa (eW (zS K) (by rfl) B.list kj (aa (bi (f9 K) (pv 0) ap (fun _ _=>rfl)) ah)) ah)))))))))) ah)))
    (aA (a9 (i:=6) lj.nd rfl (Or.inl rfl) (cq (aa (eW uk (by rfl) B.dict wN (aa (pv 3) ah)) (aa (eW uk (by rfl) B.dict wN (aa (pv 2) ah)) ah))))
    (aA (a9 (i:=7) lj.nd rfl (Or.inl rfl) (aO NP hr rfl Ac sT.kp NQ .nil aK (aa (pv 5) (aa (bi eZ (pv 6) ap (fun _ _=>rfl)) (aa (bi eZ (pv 6) ap (fun _ _=>rfl)) ah)))))
    (aA (ej (PW.pt (o0 (w6 (jj (dU HK (by rfl) B.isinstance ajY (aa (pv 7) (aa (GS (v:=.ty "list") rfl B.list kj rfl) ah))))) (o0 (w6 (jj (aO ah0 NS rfl Fb wj.kp ah8 .nil aK (aa (pv 1) (aa (pv 3) (aa (pv 2) (aa (pv 7) ah))))))) (w4 (cb (adP v6) (pv 6) (cq (aa (pv 3) (aa (pv 2) ah))) (bq _))))))
    (aG (bE mQ)) eO)
    (aA (pw (i:=8) [alj] [] [] lj.nd rfl rfl ⟨rfl,by decide +kernel,by decide +kernel,by decide +kernel,by decide +kernel,rfl,rfl,rfl⟩ rfl (bI (pv 7)) (fun _ _ _ _=>(aX (i:=0) (show List.Nodup ([alj]:Ls) by decide +kernel) rfl (Or.inl rfl))) (fun _ _ _ _=>jt) (fun _ _ _ _=>(eW (zS K) (by rfl) B.list kj (aa (pv 0) ah))))
    (aA (gR (jn km wG wH pi (pv 7) (aa (cq (aa tO ah)) ah)))
    (aA (ej (cb (zw iL) (pv 8) (cq ah) (bq _))
    (aG (gR (Vq FR ajz PySem.F.type_dict_clear ZK (aO qt bY rfl j4 fK.kp qv .nil aK (aa (bi eZ (pv 6) ap (fun _ _=>rfl)) (aa (bi eZ (pv 6) ap (fun _ _=>rfl)) (aa (bi eZ (pv 8) ap (fun _ _=>rfl)) ah))))))) eO)
    (aG (bE (q5 (gT (adQ v6) (pv 6) (cq (aa (pv 3) (aa (pv 2) ah))) (bq _)) (o4 (gT (xw hu) (aO NP hr rfl Ac sT.kp NQ .nil aK (aa (pv 5) (aa (bi eZ (pv 6) ap (fun _ _=>rfl)) (aa (bi eZ (pv 6) ap (fun _ _=>rfl)) ah)))) (pv 8) (bq _)))))))))))))))))),?_⟩
   refine Z5 ?_;intro dD sS BG Iq Ir Iu u9 u8 u7 u6 u5 u4 u3 u2;have rest:∀(pl:Addr) (H2:Hp) (vs:Lv) (ps:Lp),ag H H2->H2 pl=some (.lst vs)->iG H2 vs ps->sF ps->u3 dD [some (.ref a),some (.ref pl),none,none,none,none,none,none,none] H2:=by
    intro pl H2 vs ps mz e2 aR bo;have vl:=aM aR;have l8:=bo.len;obtain⟨N,N8,Nn⟩:=bo.nms;refine⟨_,rfl,_,rfl,a,_,is,rfl,by decide,mz.seq hA,fun c1=>?_⟩;refine⟨pl,c1,vs,ps,rfl,e2,aR,bo,tab.same mz,fun go H3 goal kp sM hgo cg sg=>?_⟩;have ke:=EG (tab.same mz) kp;have hA3:=ahT ke (mz.seq hA);have e3:=ke _ _ e2 (by intro φ z;cases z);have Fc:iG H3 vs ps:=bd aR fun _ _=>j5.ke ke;refine fun pn H4 n4 s4 en4=>?_;refine⟨_,rfl,pl,_,rfl,.inl (ae.of (s4 _ _ e3)),(vs.length:Int),rfl,by omega,by omega,?_⟩;refine xc (fun i σ H5=>∃(u:Option V) (kvs:List (aF×V)) (now:Ch),σ = [some (.ref a),some (.ref pl),some (.ref go),some (.ref pn),u,none,none,none,none]/\ag H3 H5/\H5 pn=some (.dK kvs)/\Paired (bR H5) kvs now/\bS ps now/\now.length<=i) ⟨none,[],[],rfl,s4,en4,.nil,⟨lx,fun _ h=>nomatch h⟩,av _⟩ ?_ ?_
    . intro i σ H5 hi hQ;refine bX ?_;intro tT;obtain⟨u,kvs,now,rfl,s5,e5,p5,cn,cl⟩:=hQ;have gY:i<vs.length:=by omega
      obtain⟨y,hy,vm⟩:=xx (xs:=vs) (r:=0+(i:Int)) (by omega) (by omega);have hyi:vs[i]? = some y:=by rw[←vm];congr 1;omega
      obtain⟨p,hp,t,m,na,sa,oa,rfl,h1,h2,_⟩:=bQ Fc hyi;have a0:bF [V.str p.nm,.ref m,.ref na,.ref sa,.ref oa] 0=some (V.str p.nm):=rfl;have a1:bF [V.str p.nm,.ref m,.ref na,.ref sa,.ref oa] 1=some (V.ref m):=rfl;refine⟨_,rfl,a,_,is,rfl,by decide,s5.seq hA3,fun c2=>⟨_,rfl,c2,_,rfl,by omega,by omega,fun d _=>?_⟩⟩;refine⟨_,_,rfl,rfl,(by show(0:Int)<3;decide),rfl,_,rfl,?_⟩;refine bj (fun h=>?_) (fun h=>?_)
      . refine⟨_,rfl,_,rfl,pl,_,_,_,rfl,rfl,ae.of (s5 _ _ e3),hy,t,_,_,_,rfl,rfl,aI.of (s5 _ _ h1),a1,_,rfl,_,rfl,_,rfl,pl,_,_,_,rfl,rfl,ae.of (s5 _ _ e3),hy,t,_,_,_,rfl,rfl,aI.of (s5 _ _ h1),a0,pn,_,rfl,jT.k (k:=.inr p.nm) e5 (bp (by have:=aM p5;omega)),?_⟩;refine⟨_,_,eG now p.nm p.ms,rfl,fH n4 s5,bc,?_,⟨yT cn.nd,fun e he=>?_⟩,bn (aey now p.nm p.ms) (by omega)⟩
        . refine bd (yU (F:=bR H5) Eu ⟨rfl,m,rfl,s5 _ _ h2⟩ p5) fun kv f z=>?_;obtain⟨z1,m',z2,z3⟩:=z;exact⟨z1,m',z2,bL z3 (fz z3 e5 (by intro z;cases z))⟩
        . rcases yR he with z | z
          . rw[z];exact⟨p,dw hp,rfl,rfl⟩
          . exact cn.val e z
      . exact⟨_,kvs,now,rfl,s5,e5,p5,cn,by omega⟩
    . intro σ H5 hQ;refine bX ?_;intro tT;obtain⟨u,kvs,now,rfl,s5,e5,p5,cn,cl⟩:=hQ;refine⟨_,rfl,pl,rfl,⟨_,ae.of (s5 _ _ e3)⟩,?_⟩;intro D hD;refine vn (σ0:=[none]) hD (ae.of (s5 _ _ e3)) (fun σ=>∃v,σ = [v]) (fun i zs Hx=>fk C (msk [D] Hx) zs (ps.take i)) ⟨_,rfl⟩ .nil ?_ ?_
      . rintro i x zs σ Hx k hx ⟨v,rfl⟩ hd h2 pr hk;obtain⟨p,hp,t,m,na,sa,oa,rfl,h1,hm,⟨nx,Bx,mU⟩,⟨sx,hs1,o6⟩,ho⟩:=bQ Fc hx;have zl:=aM pr;rw[dE]at zl;have gp:=bo.good p (dw hp);have Fd:=s5.trans h2;have a0:bF [V.str p.nm,.ref m,.ref na,.ref sa,.ref oa] 0=some (V.str p.nm):=rfl;have a1:bF [V.str p.nm,.ref m,.ref na,.ref sa,.ref oa] 1=some (V.ref m):=rfl;have a2:bF [V.str p.nm,.ref m,.ref na,.ref sa,.ref oa] 2=some (V.ref na):=rfl;have a3:bF [V.str p.nm,.ref m,.ref na,.ref sa,.ref oa] 3=some (V.ref sa):=rfl;have a4:bF [V.str p.nm,.ref m,.ref na,.ref sa,.ref oa] 4=some (V.ref oa):=rfl;refine⟨_,rfl,t,_,_,_,rfl,rfl,aI.of (Fd _ _ h1),a0,_,rfl,t,_,_,_,rfl,rfl,aI.of (Fd _ _ h1),a1,(by show 0<=sizeLine;decide),fun q1 G1 m1 t1 f1=>?_⟩;have r1:=Fd.trans t1;refine⟨_,rfl,t,_,_,_,rfl,rfl,aI.of (r1 _ _ h1),a2,na,_,rfl,.inl (ae.of (r1 _ _ Bx)),fun q2 G2 m2 t2 f2=>?_⟩;have r2:=r1.trans t2;refine⟨_,rfl,t,_,_,_,rfl,rfl,aI.of (r2 _ _ h1),a3,sa,_,rfl,.inl (ae.of (r2 _ _ hs1)),fun q3 G3 m3 t3 f3=>?_⟩;have r3:=r2.trans t3;refine⟨_,rfl,t,_,_,_,rfl,rfl,aI.of (r3 _ _ h1),a4,oa,_,rfl,.inl (ae.of (r3 _ _ ho)),fun q4 G4 m4 t4 f4=>?_⟩;have r4:=r3.trans t4;have tx:=t1.trans (t2.trans (t3.trans t4));refine ahV (p:=p) gp.r0 gp.f0 (r4 _ _ hm) ((t2.trans (t3.trans t4)) _ _ f1) ((t3.trans t4) _ _ f2) (bd mU fun _ _=>dq.same r4) (t4 _ _ f3) (bd o6 fun _ _=>dq.same r4) f4 fun y Hy n5 sy hpc=>?_;refine hk _ _ _ ⟨_,rfl⟩ (tx.trans sy) (bp (by omega)) ?_;rw[C5 cS,ff hp];refine dr (hpc [D] fun b hb=>?_) (pr.same (vi (tx.trans sy)));rw[bD.mp hb];exact⟨_,tx _ _ hd,by intro vs z;cases z⟩
      rintro zs H6 d6 s6 pr;refine bX ?_;intro tT;rw[vl,ca]at pr;have hz:fk C H6 zs ps:=pr.same vh;refine agR (K:=K) (C:=C) (ps:=ps) d6 hz (by omega) bo.keys fun sx H7 n7 s7 Bk=>?_;have or:=s6.trans s7;have NT:=s5.trans or;obtain⟨kg,eg,pg⟩:=id hgo;refine⟨_,rfl,pn,_,rfl,or _ _ e5,fun p8 H8 n8 s8 e8=>?_⟩;refine⟨_,rfl,go,_,rfl,(NT.trans s8) _ _ eg,fun p9 H9 n9 s9 e9=>?_⟩;refine⟨(by show 2<=sizeLine;decide),fun i7 eI zq fm fL=>?_⟩;have oN:=(s8.trans s9).trans fm;have Ad:=or.trans oN;have wk:=s5.trans Ad;have NU:Paired (bR eI) kvs now:=bd p5 fun _ _ z=>z.same Ad;have NW:Paired (bR eI) kg goal:=bd pg fun _ _ z=>z.same wk;have NX:=(s9.trans fm) _ _ e8;have NY:=fm _ _ e9;have NZ:on C S eI (.ref sx) ps N:=⟨⟨zs,Bk.same oN,hz.same (s7.trans oN)⟩,bo.keys,fun p hp=>(bo.good p hp).few,bo.sm,N8,Nn⟩;have aif:=sM.same wk;obtain⟨nk,rk⟩:=Et p5 cn.nd;obtain⟨ng,rg⟩:=Et pg cg.nd;have two:∀{Hx:Hp} {pz:Addr},ag eI Hx->Hx pz=some (.lst [.ref pn,.ref go])->yf Hx (.ref i7) (.ref pz):=fun {Hx pz} qJ ez=>⟨i7,pz,p8,pn,p9,go,kvs,kg,rfl,rfl,qJ _ _ fL,ez,(bv (or _ _ e5) n8).symm,(bv ((NT.trans s8) _ _ eg) n9).symm,qJ _ _ NX,qJ _ _ (Ad _ _ e5),nk,rk,qJ _ _ NY,qJ _ _ (wk _ _ eg),ng,rg⟩;have c8:cw eI p8 now:=⟨kvs,NX,NU⟩;have c9:cw eI p9 goal:=⟨kg,NY,NW⟩;have aig:cw eI pn now:=⟨kvs,Ad _ _ e5,NU⟩;have cgo:cw eI go goal:=⟨kg,wk _ _ eg,NW⟩;refine⟨_,rfl,_,rfl,i7,_,_,_,rfl,rfl,ae.of fL,kE (j:=0) rfl,_,rfl,i7,_,_,_,rfl,rfl,ae.of fL,kE (j:=1) rfl,?_⟩;refine⟨.ref sx,p8,p9,ps,N,now,goal,rfl,NZ,c8,c9,cn,cg,fun l zl gs Ez zB mB oH Fe W g8=>?_⟩;have wg:=ahU W cn cg bo.good Nn N8;have zll:=aM Fe;have N0:=wk.trans mB;refine⟨_,rfl,_,_,_,_,rfl,.lst oH,kL,_,rfl,gX ?_⟩;refine⟨_,rfl,_,rfl,_,rfl,_,rfl,pl,pn,go,l,vs,ps,now,goal,zl,gs,rfl,N0 _ _ e3,Fc.same N0,bo,aig.same mB,cgo.same mB,cn,cg,sg,oH,bd Fe fun _ _ z=>z.sub (by simp),W,fun v9 bA=>⟨_,rfl,gX ?_⟩⟩;have aij:=mB.trans bA;refine⟨_,rfl,_,rfl,_,rfl,(by show 2<=sizeLine;decide),fun zr Eb Ec eh sE=>?_⟩;have N1:=aij.trans eh;refine⟨two N1 sE,_,rfl,gX ?_⟩;have N2:=bA.trans eh;have wm:=N2 _ _ oH;refine⟨_,rfl,l,rfl,⟨_,ae.of wm⟩,?_⟩;intro Dk N3;have zF:l≠Dk:=bv wm N3;refine vn (σ0:=[none]) N3 (ae.of wm) (fun σ=>∃v,σ = [v]) (fun i ks Hx=>Paired (fJ [Dk,l] Hx) ks (gs.take i)) ⟨_,rfl⟩ .nil ?_ ?_
      . rintro i x ks σ Hx k hx ⟨v,rfl⟩ hd hs pr hk;obtain⟨g,hg,lg,rfl,_,ET⟩:=bQ Fe hx;have kl:=aM pr;rw[dE]at kl;refine⟨_,rfl,lg,_,rfl,.inl (ae.of ((N2.trans hs) _ _ ET)),fun zO EY sO cQ mD=>?_⟩;refine hk _ _ _ ⟨_,rfl⟩ cQ (bp (by omega)) ?_;rw[ff hg];refine dr (fJ.mut (by simp) ⟨zO,rfl,fun z=>?_,mD⟩) (bd pr fun _ _ z=>(z.same cQ).mut (by simp))
        rcases bh.mp z with z | z
        . rw[z,hd]at sO;cases sO
        . rw[bD.mp z,hs _ _ wm]at sO;cases sO
      rintro ks EY d14 cQ pr;refine bX ?_;intro tT;rw[zll,ca]at pr;have kl:=aM pr;have ail:=N1.trans cQ;have mD:=cQ _ _ wm;refine⟨_,rfl,.inl ⟨rfl,_,ae.of mD⟩,(by show 1<=sizeLine;decide),fun Ae sQ n15 li e15=>?_⟩;have aim:=li _ _ mD;refine⟨l,_,_,rfl,rfl,aim,bp (by omega),?_⟩;have N4:ag eI (ak sQ l (.lst (zl++[.ref Ae]))):=fH zB (ail.trans li);have wn:ak sQ l (.lst (zl++[.ref Ae])) Dk=some (.lst ks):=by rw[a8 zF.symm];exact li _ _ d14
      have Af:Paired (mi (ak sQ l (.lst (zl++[.ref Ae])))) ks gs:=bd pr fun _ _ z=>((z.same li).mut (by simp)).sub (by simp);generalize ak sQ l (.lst (zl++[.ref Ae]))=NF at N4 wn Af;have fin:∀(Hx:Hp),ag eI Hx->Hx Dk=some (.lst ks)->Paired (mi Hx) ks gs->BG dD [some (.ref a),some (.ref pl),some (.ref go),some (.ref pn),u,some (.ref sx),some (.ref i7),some (.ref l),some (.ref Dk)] Hx:=by
       intro Hx qJ md kx';refine⟨_,rfl,_,rfl,_,rfl,(by show 2<=sizeLine;decide),fun N5 zR NL jc Ff=>?_⟩;have iH:=qJ.trans jc;refine⟨two iH Ff,_,rfl,Bm ?_⟩;refine⟨_,rfl,_,rfl,i7,_,_,_,rfl,rfl,ae.of (iH _ _ fL),kE (j:=0) rfl,_,rfl,i7,_,_,_,rfl,rfl,ae.of (iH _ _ fL),kE (j:=1) rfl,?_⟩;refine⟨.ref sx,p8,p9,ps,N,now,goal,rfl,NZ.same iH,c8.same iH,c9.same iH,cn,cg,fun l2 Lf N6 Fh N7 k9 e18 aiq W2 g82=>?_⟩;have eg2:=W2.uniq W;subst eg2;have N9:=jc.trans k9;refine⟨_,rfl,dG N6,dG N6,NN e18 (bd aiq fun _ _ z=>z.sub (by simp)),NN (N9 _ _ md) (bd kx' fun _ _ z=>z.same N9),NO fun g hg=>(wg g hg).2,NO fun g hg=>(wg g hg).2,fun b hb=>?_⟩;rw[hb.mpr rfl];exact q Fh (aif.same (iH.trans k9))
      refine⟨_,rfl,(by show 0<=sizeLine;decide),fun N5 zR NL jc Ff=>?_⟩;refine⟨Dk,N5,_,rfl,rfl,ae.of (jc _ _ wn),ae.of Ff,_,rfl,?_⟩;have iH:=N4.trans jc;refine bj (fun h=>?_) (fun h=>?_)
      . cases akT:Af with
        | nil=>exact absurd rfl (b0 h)
        | @cons kv g ko DQ r t=>
         obtain⟨lk,rfl,_,uE⟩:=r;have at0:bF (V.ref lk::ko) 0=some (V.ref lk):=kE (j:=0) rfl;have g8':=(wg g cS).1;have n8':=cn.len Nn N8;refine⟨_,rfl,i7,_,_,_,rfl,rfl,ae.of (iH _ _ fL),kE (j:=0) rfl,_,rfl,i7,_,_,_,rfl,rfl,ae.of (iH _ _ fL),kE (j:=1) rfl,_,rfl,Dk,_,_,_,rfl,rfl,ae.of (jc _ _ wn),at0,?_⟩;refine⟨p8,p9,lk,now,goal,g,rfl,c8.same iH,c9.same iH,jc _ _ uE,by omega,fun Ob Fh N7 k9 c18=>?_⟩;obtain⟨kr,er,_⟩:=c18;refine⟨.inr (.inr (.inl ⟨rfl,.inl ⟨_,er⟩⟩)),Ob,_,rfl,rfl,er,?_⟩;have Fi:ag zR (ak Fh Ob (.dK [])):=fH N7 k9;exact fin _ (iH.trans Fi) ((jc.trans Fi) _ _ wn) (bd Af fun _ _ z=>z.same (jc.trans Fi))
      . exact fin zR iH (jc _ _ wn) (bd Af fun _ _ z=>z.same jc)
   refine⟨_,rfl,a,is,rfl,hA,fun pl H1 vs ps n1 s1 e1 aR bo=>?_⟩;refine⟨_,rfl,a,_,is,rfl,by decide,s1.seq hA,fun c1=>?_⟩;refine⟨_,_,rfl,rfl,(by show(0:Int)<8;decide),rfl,_,rfl,?_⟩;refine bj (fun h=>?_) (fun h=>?_)
   . refine⟨_,rfl,a,is,rfl,s1.seq hA,fun lS H2 vs2 C4 n2 s2 e2 aiv aiw=>?_⟩;exact rest lS H2 vs2 C4 (s1.trans s2) e2 aiv aiw
   . exact rest pl H1 vs ps s1 e1 aR bo
end
end K51
set_option maxHeartbeats 8000000
namespace K51
open PySem L2
def Oc(K:Fg)(mg:Mv):Prop:=∃C sR zZ,Txt K mg C/\Mk K C sR/\au K "__init__" "Parcel.__init__" nA sR zZ
theorem aix{K:Fg}{h:Heap}{mg:Mv}{C f0:Addr}{Fj Fk:Oa}{Fl:Array (Option Value)}{Fm Fn Fo Fp wo Fq:Value}(X:K.In h)(Gn:h.Ns mainGlobals mg)
 (aC:PySem.W.nsIn K mainGlobals "Parcel" = some (some (.ref C))) (a0:PySem.W.findIn K (.ref C) "__init__" = some (some (.ref f0))) (i0:PySem.W.isFn K (.ref f0)=true) (k0:PySem.W.keepIn K (.ref f0)=true)
 (l0:K.lookup f0=some ⟨Fm,Fj,.func (PySem.W.fnOf "__init__" "Parcel.__init__" (f6 nA) (eQ nA) (aS nA) .none Fn Fo Fp Fk wo Fq),Fl⟩) (c0:PySem.W.codeIn K wo "Parcel.__init__" = true)
 (pg:PySem.W.plainGet K C Str.empty=true) (hd:PySem.W.hasDictIn K C=true) (po:PySem.W.plainOver K C=true) (sa:PySem.W.findIn K (.ref C) "__setattr__" = some (some (.builtin "object.__setattr__"))) (mk:PySem.W.makesIn K C=true) (kc:PySem.W.keepIn K (.ref C)=true) (n0:PySem.W.findIn K (.ref C) "name" = some none) (n1:PySem.W.findIn K (.ref C) "make" = some none) (n2:PySem.W.findIn K (.ref C) "rank" = some none) (n3:PySem.W.findIn K (.ref C) "files" = some none) (n4:PySem.W.findIn K (.ref C) "needs" = some none) (n5:PySem.W.findIn K (.ref C) "shuts" = some none) (n6:PySem.W.findIn K (.ref C) "offers" = some none):Oc K mg:=
 ⟨C,f0,_,⟨⟨pg,hd,po,sa⟩,n0,n1,n2,n3,n4,n5,n6,FU X Gn aC⟩,⟨mk,a0,i0,kc⟩,xv l0 c0 k0⟩
def Od(K:Fg)(mg:Mv):Prop:=∃S qI wb g1 g2 nL sd,rZ K mg S g1 g2 nL/\Mk K S qI/\au K "__init__" "Shelf.__init__" pT qI wb/\au K "parcel" "Shelf.parcel" nB nL sd
theorem aiy{K:Fg}{h:Heap}{mg:Mv}{S f0 f1 f2 f3:Addr}{Fj Fk:Oa}{Fl:Array (Option Value)}{Fm Fn Fo Fp wo Fq:Value}{od3 an3:Oa}{sl3:Array (Option Value)}{oc3 kV3 dc3 pm3 Oe ct3:Value}(X:K.In h)(Gn:h.Ns mainGlobals mg)
 (aC:PySem.W.nsIn K mainGlobals "Shelf" = some (some (.ref S))) (a0:PySem.W.findIn K (.ref S) "__init__" = some (some (.ref f0))) (i0:PySem.W.isFn K (.ref f0)=true) (k0:PySem.W.keepIn K (.ref f0)=true)
 (l0:K.lookup f0=some ⟨Fm,Fj,.func (PySem.W.fnOf "__init__" "Shelf.__init__" (f6 pT) (eQ pT) (aS pT) .none Fn Fo Fp Fk wo Fq),Fl⟩) (c0:PySem.W.codeIn K wo "Shelf.__init__" = true) (a1:PySem.W.findIn K (.ref S) "names" = some (some (.ref f1))) (i1:PySem.W.isFn K (.ref f1)=true) (k1:PySem.W.keepIn K (.ref f1)=true) (a2:PySem.W.findIn K (.ref S) "makes_of" = some (some (.ref f2))) (i2:PySem.W.isFn K (.ref f2)=true) (k2:PySem.W.keepIn K (.ref f2)=true) (a3:PySem.W.findIn K (.ref S) "parcel" = some (some (.ref f3))) (i3:PySem.W.isFn K (.ref f3)=true) (k3:PySem.W.keepIn K (.ref f3)=true)
 (l3:K.lookup f3=some ⟨oc3,od3,.func (PySem.W.fnOf "parcel" "Shelf.parcel" (f6 nB) (eQ nB) (aS nB) .none kV3 dc3 pm3 an3 Oe ct3),sl3⟩) (c3:PySem.W.codeIn K Oe "Shelf.parcel" = true)
 (pg:PySem.W.plainGet K S Str.empty=true) (hd:PySem.W.hasDictIn K S=true) (po:PySem.W.plainOver K S=true) (sa:PySem.W.findIn K (.ref S) "__setattr__" = some (some (.builtin "object.__setattr__"))) (mk:PySem.W.makesIn K S=true) (kc:PySem.W.keepIn K (.ref S)=true) (n0:PySem.W.findIn K (.ref S) "shelved" = some none):Od K mg:=
 ⟨S,f0,_,f1,f2,f3,_,⟨⟨pg,hd,po,sa⟩,n0,⟨a1,i1,k1⟩,⟨a2,i2,k2⟩,⟨a3,i3,k3⟩,FU X Gn aC⟩,⟨mk,a0,i0,kc⟩,xv l0 c0 k0,xv l3 c3 k3⟩
def Of(K:Fg)(mg:Mv)(x:Str)(st:Stmt)(Pt:Addr):Prop:=∃f c fd,mg x=some (.ref f)/\rL K x x st f c fd/\PySem.W.codeHdIn K c Pt=true/\K.lookup Pt=none
theorem aiH{K:Fg}{h:Heap}{mg:Mv}{x:Str}{st:Stmt}{f c Pt:Addr}{od an:Oa}{sl:Array (Option Value)}{oc kV dc pm ct:Value}(X:K.In h)(G:h.Ns mainGlobals mg)
 (a:PySem.W.nsIn K mainGlobals x=some (some (.ref f))) (l:K.lookup f=some ⟨oc,od,.func (PySem.W.fnOf x x (f6 st) (eQ st) (aS st) .none kV dc pm an (.ref c) ct),sl⟩) (cc:PySem.W.codeIn K (.ref c) x=true) (k:PySem.W.keepIn K (.ref f)=true) (hd:PySem.W.codeHdIn K c Pt=true) (hn:K.lookup Pt=none) :
 Of K mg x st Pt:=⟨f,c,_,FU X G a,⟨⟨_,_,_,_,_,_,_,_,rfl,l,cc⟩,k⟩,hd,hn⟩
theorem aiI{K:Fg}{h:Heap}{mg:Mv}(X:K.In h)(G:h.Ns mainGlobals mg)(z0:PySem.W.nsIn K mainGlobals "range" = some none)(z1:PySem.W.nsIn K mainGlobals "len" = some none)(z2:PySem.W.nsIn K mainGlobals "list" = some none)(z3:PySem.W.nsIn K mainGlobals "dict" = some none)(z4:PySem.W.nsIn K mainGlobals "tuple" = some none)(z5:PySem.W.nsIn K mainGlobals "sorted" = some none)(z6:PySem.W.nsIn K mainGlobals "enumerate" = some none)(z7:PySem.W.nsIn K mainGlobals "isinstance" = some none)(z8:PySem.W.nsIn K mainGlobals "bool" = some none)(z9:PySem.W.nsIn K mainGlobals "int" = some none)(qF:PySem.W.nsIn K mainGlobals "str" = some none)(z11:PySem.W.nsIn K mainGlobals "any" = some none)(z12:PySem.W.nsIn K mainGlobals "zip" = some none)(z13:PySem.W.nsIn K mainGlobals "set" = some none)(z14:PySem.W.nsIn K mainGlobals "all" = some none)(z15:PySem.W.nsIn K mainGlobals "max" = some none):eR mg:=
 ⟨im X G z0,im X G z1,im X G z2,im X G z3,im X G z4,im X G z5,im X G z6,im X G z7,im X G z8,im X G z9,im X G qF,im X G z11,im X G z12,im X G z13,im X G z14,im X G z15⟩
theorem aiO{P:Program}{w:World}{K:Fg}{mg:Mv}{fa Pt:Addr}(lW:mg "law" = some (.ref fa))(B:eR mg)(CC:Oc K mg)(CS:Od K mg)(DN:Of K mg "_law_goal" rX Pt)(aiP:cG K mg "is_within" nC)(aiQ:cG K mg "keys_unlike" yo)(aiR:cG K mg "does_meet" pU)(aiS:cG K mg "parcels_of" yq)(aiT:cG K mg "faults_of" uV)(aiU:cG K mg "is_sound" yr)(aiV:cG K mg "meeting" rR)(aiW:cG K mg "need_faults" yt)(aiX:cG K mg "shut_faults" yu)(aiY:cG K mg "clash_faults" yw)(aiZ:cG K mg "paths_of" uW)(ai0:cG K mg "groups_to" yx)(ai1:cG K mg "set_behind" rS)(ai2:cG K mg "first_group" yy)(ai3:cG K mg "with_one_more" yz)(ai4:cG K mg "_law_cell_at" rT)(ai5:cG K mg "_law_draw" kR)(ai6:cG K mg "_law_names" uX)(ai7:cG K mg "_law_claim" uY)(ai8:cG K mg "_law_parcel" yA)(ai9:cG K mg "_law_parcels" yB)(aja:cG K mg "_law_ring" yC)(ajb:cG K mg "_law_meets" rV)(ajc:cG K mg "_law_sound" uZ)(ajd:cG K mg "_law_sets" yD)(aje:cG K mg "_law_otherwise" yE)(ajf:cG K mg "_law_behind" yF)(ajg:cG K mg "_law_groups" vb)(ajh:cG K mg "_law_walked" rW)(aji:cG K mg "law" pV) :
 ∃(fd:Fy) (c:Addr),(∀(s:Shared) (v:Value),BindsTo s fd ⟨[v],[]⟩ [("_law_script",v)])/\PySem.W.codeHdIn K c Pt=true/\K.lookup Pt=none/\∀base:Heap,K.In base->base.Ns mainGlobals mg->base.BuiltinsAt mg Pt->aB P w K mg base aD 9 fa fd ["_law_script"] (zT K Pt):=by
 obtain⟨C,sR,zZ,TC,MC,Aa⟩:=CC;obtain⟨S,qI,wb,akW,akX,nL,sd,U,MS,Ab,se⟩:=CS;obtain⟨zW,cN,E5,Fa,wf,Og,hPt⟩:=DN;obtain⟨iC,kU,jz,iD,_⟩:=aiP;obtain⟨L9,Ma,zn,sA,_⟩:=aiQ;obtain⟨j3,nU,kW,jA,_⟩:=aiR;obtain⟨Lo,Lq,Dz,vB,_⟩:=aiS;obtain⟨vC,zc,vD,qk,_⟩:=aiT;obtain⟨L0,L1,DS,vM,_⟩:=aiU;obtain⟨lZ,qe,nW,jC,_⟩:=aiV;obtain⟨Lh,Li,Dw,vy,_⟩:=aiW;obtain⟨Lj,Lk,Dx,vz,_⟩:=aiX;obtain⟨Lm,Ln,Dy,vA,_⟩:=aiY;obtain⟨vx,y0,sk,nX,_⟩:=aiZ;obtain⟨zX,E6,Ac,sT,_⟩:=ai0;obtain⟨jD,k8,j4,fK,_⟩:=ai1;obtain⟨Mb,Mc,DY,vP,_⟩:=ai2;obtain⟨L3,L4,DT,vN,_⟩:=ai3;obtain⟨jE,mo,i8,fO,_⟩:=ai4;obtain⟨dh,fg,cp,br,_⟩:=ai5;obtain⟨oE,sG,sH,lc,_⟩:=ai6;obtain⟨qz,vQ,sD,ou,_⟩:=ai7;obtain⟨zv,Ed,Ee,vT,_⟩:=ai8;obtain⟨zU,E3,E8,wc,_⟩:=ai9;obtain⟨zV,E4,E9,we,_⟩:=aja;obtain⟨lh,qD,mw,j6,_⟩:=ajb;obtain⟨oJ,sK,qH,j7,_⟩:=ajc;obtain⟨zG,EJ,EK,vZ,_⟩:=ajd;obtain⟨zJ,EM,EQ,v0,_⟩:=aje;obtain⟨zK,EN,zM,sN,_⟩:=ajf;obtain⟨zL,EO,ER,v4,_⟩:=ajg;obtain⟨zY,E7,Fb,wj,_⟩:=ajh;obtain⟨akY,akZ,ajk,Oh,_⟩:=aji;have e:=lW.symm.trans ajk;cases e;obtain⟨oc,od,kV,doc,pm,an,aE,ct,iw,rfl,lk,iq⟩:=id Oh.ex;refine⟨PySem.W.fnOf "law" "law" (f6 pV) (eQ pV) (aS pV) .none kV doc pm an aE ct,cN,fun s v=>.of_eq rfl,Og,hPt,fun base _ _ hB=>?_⟩;have DD:Defs K mg C S:=⟨B,TC,⟨_,_,iD,jz⟩,⟨_,_,jA,kW⟩,⟨_,_,jC,nW⟩,⟨_,_,vy,Dw⟩,⟨_,_,vz,Dx⟩,⟨_,_,vA,Dy⟩,⟨_,_,nX,sk⟩,⟨_,_,vB,Dz⟩,⟨_,_,_,_,U,se⟩⟩;have DF:DR K mg C S:=⟨DD,⟨_,_,qk,vD⟩,⟨_,_,vM,DS⟩,⟨_,_,fK,j4⟩,⟨_,_,vN,DT⟩,⟨_,_,sA,zn⟩,⟨_,_,vP,DY⟩⟩;exact ahW Oh B TC U MC MS rfl Aa Ab fO i8 br cp wc E8 (ags wc B fO i8 br cp lc sH ou sD vT Ee) we E9 (agv we B fO i8 br cp lc sH) wf.fn Fa (ahg wf B Og hB vZ EK j7 qH j6 mw br cp) sT Ac (af6 sT DF) wj Fb (aht wj B rfl v0 EQ sN zM v4 ER j7 qH j6 mw fK j4) fK j4
theorem ajl{l:PySem.W.OpenLaw}{q:Program}{loose:Ls}{XP:(Mv)->Heap->Prop}{YP:World->Heap->Prop}{d:DefRec}{K:Params->Fg}{Pt:Addr}(hn:l.most=some 63)(uc:d.params.defaults = [])
 (hY:∀(w:World) (h:Heap),YP w h->(K w.params).In h/\h.get? Pt=some (PySem.W.tabObj #[]))
 (F:∀(w:World) (mg:Mv) (fa:Addr) (h:Heap),(K w.params).In h->h.Ns mainGlobals mg->mg d.name=some (.ref fa) ->
  ∃(fd:Fy) (c:Addr),(∀(s:Shared) (u:Value),BindsTo s fd ⟨[u],[]⟩ [("_law_script",u)])/\PySem.W.codeHdIn (K w.params) c Pt=true/\(K w.params).lookup Pt=none/\∀base:Heap,(K w.params).In base->base.Ns mainGlobals mg->base.BuiltinsAt mg Pt->aB l.prog w (K w.params) mg base aD 9 fa fd ["_law_script"] (zT (K w.params) Pt)) :
 PySem.W.WalkO q loose XP YP l.row.toRowW d [] (fun f vs=>PySem.call f vs):=
 L2.acj (n:=63) (k:=9) (x:="_law_script") (qual:=qG) (lpos:=sJ) (Pt:=Pt) (CX:=fun _=>aD) (sp:=fun w=>zT (K w.params) Pt) hn (by decide) uc ⟨rfl,by decide,by decide,rfl⟩ hY F (fun _ _ a ns hl hT hS=>⟨a,ns,rfl,hS,hl,.inl hT,fun _ t=>⟨rfl,t⟩⟩) fun _ _ _ _ _ z=>z
end K51
open PySem PySem.W PyProof.Rows
namespace PySem.W.Fast
def tw4723814802026500636:=0
def tw11458643451096628941:=0
def tw8474433974580459059:=0
def tw7457395365027696008:=0
def tw16051098734476030401:=0
def tw18413935075396555324:=0
def tw872133858977100592:=0
def tw17354144151570080316:=0
def tw16879375903766691443:=0
def tw4799209890227740486:=0
def tw14368390812208257868:=0
def tw11756411156000111617:=0
def tw13742851311882650008:=0
def tw13418802173912607231:=0
def tw5025904887342214274:=0
def tw15347860471470782705:=0
def tw3376641387278460383:=0
def tw15681048333473365674:=0
def tw17227994571257862583:=0
def tw4179922924935058836:=0
def tw8645123978116442566:=0
def tw17825190142633095664:=0
def tw15429939254409321176:=0
def tw18300346846431753804:=0
def tw6994390554419573931:=0
def tw16143012703819674941:=0
def tw14823291808208468082:=0
def tw9537604563418535618:=0
def tw8572132902000125925:=0
def tw5225456726875622084:=0
def tw6407569612865116163:=0
def tw15004260226181181111:=0
def tw15565837207987315018:=0
def tw10480194446662769632:=0
def tw2732010350988756206:=0
def tw7035200791780334302:=0
def tw9292702123198312236:=0
def tw14915750108736441200:=0
def tw16081660886231292966:=0
def tw3978569424867333707:=0
def tw6962584074233795774:=0
def tw4808874806662104618:=0
def tw12158782728423129196:=0
def tw3884904657656896698:=0
def tw9757888968722863795:=0
def tw11254048377440323473:=0
def tw3191756308708769336:=0
def tw17181857808155861149:=0
def tw13775056621375887627:=0
def tw1000194700448413889:=0
def tw8271899251481884390:=0
def tw6094618494512045471:=0
def tw6676965849582584905:=0
def tw15900542229022440088:=0
def tw7078349378015072256:=0
def tw5789258704718512449:=0
def tw7007206921408178501:=0
def tw16467113234946852198:=0
def tw15043103486070429081:=0
def tw7849414065950998725:=0
def tw1525708375715923435:=0
def tw16720570777826434506:=0
def tw4422575222156285051:=0
def tw13782808725493215636:=0
def tw10724348342057035344:=0
def tw18052728039239479869:=0
def tw1686165975327330129:=0
def tw8458693769324837225:=0
def tw13932457652096382802:=0
def tw4013063939828981266:=0
def tw11580320462010277027:=0
def tw16082877234716971326:=0
def tw11946235865650090837:=0
def tw5480373378053793486:=0
def tw11754663287798362058:=0
def tw3139418107287556783:=0
def tw3009902855850709151:=0
def tw12943714910461773205:=0
def tw9277336059413540311:=0
end PySem.W.Fast
def PySem.W.Fast.tw4500064538140447117:PySem.Program:=PySem.Challenge.pw_parcelmend_k51_groups
set_option maxRecDepth 100000 in
set_option maxHeartbeats 0 in
theorem PySem.Challenge.cw_parcelmend_k51_groups_holds : PySem.Challenge.rw_parcelmend_k51_groups.Holds := by
 w_on;o_law;k_head;(case hw=>w_witness2)
 k_fill
 refine K51.ajl (l:=PySem.Challenge.rw_parcelmend_k51_groups) rfl rfl (fun w h Y=>⟨PySem.W.km_in_of Y,PySem.W.km_tabs_of Y _ cS⟩) ?F
 case F=>
  intro w mg fa h KX G ud
  refine' K51.aiO ud (K51.aiI KX G ?_ ?_ ?_ ?_ ?_ ?_ ?_ ?_ ?_ ?_ ?_ ?_ ?_ ?_ ?_ ?_) (K51.aix KX G ?_ ?_ ?_ ?_ ?_ ?_ ?_ ?_ ?_ ?_ ?_ ?_ ?_ ?_ ?_ ?_ ?_ ?_ ?_) (K51.aiy KX G ?_ ?_ ?_ ?_ ?_ ?_ ?_ ?_ ?_ ?_ ?_ ?_ ?_ ?_ ?_ ?_ ?_ ?_ ?_ ?_ ?_ ?_ ?_ ?_) (K51.aiH KX G ?_ ?_ ?_ ?_ ?_ ?_)
   (L2.cM KX G ?_ ?_ ?_ ?_)
   (L2.cM KX G ?_ ?_ ?_ ?_)
   (L2.cM KX G ?_ ?_ ?_ ?_)
   (L2.cM KX G ?_ ?_ ?_ ?_)
   (L2.cM KX G ?_ ?_ ?_ ?_)
   (L2.cM KX G ?_ ?_ ?_ ?_)
   (L2.cM KX G ?_ ?_ ?_ ?_)
   (L2.cM KX G ?_ ?_ ?_ ?_)
   (L2.cM KX G ?_ ?_ ?_ ?_)
   (L2.cM KX G ?_ ?_ ?_ ?_)
   (L2.cM KX G ?_ ?_ ?_ ?_)
   (L2.cM KX G ?_ ?_ ?_ ?_)
   (L2.cM KX G ?_ ?_ ?_ ?_)
   (L2.cM KX G ?_ ?_ ?_ ?_)
   (L2.cM KX G ?_ ?_ ?_ ?_)
   (L2.cM KX G ?_ ?_ ?_ ?_)
   (L2.cM KX G ?_ ?_ ?_ ?_)
   (L2.cM KX G ?_ ?_ ?_ ?_)
   (L2.cM KX G ?_ ?_ ?_ ?_)
   (L2.cM KX G ?_ ?_ ?_ ?_)
   (L2.cM KX G ?_ ?_ ?_ ?_)
   (L2.cM KX G ?_ ?_ ?_ ?_)
   (L2.cM KX G ?_ ?_ ?_ ?_)
   (L2.cM KX G ?_ ?_ ?_ ?_)
   (L2.cM KX G ?_ ?_ ?_ ?_)
   (L2.cM KX G ?_ ?_ ?_ ?_)
   (L2.cM KX G ?_ ?_ ?_ ?_)
   (L2.cM KX G ?_ ?_ ?_ ?_)
   (L2.cM KX G ?_ ?_ ?_ ?_)
   (L2.cM KX G ?_ ?_ ?_ ?_)
  all_goals try first | k_is | kit_is | kernel_rfl
