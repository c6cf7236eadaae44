import PyProof.Rows.All
import Wide.All
import OpenK.AllK
import Wide.FinOn
import Lean
import PyProof.EqAt
import PyProof.EqKinds
import PyProof.TupleCall
import KE.KRevSl
import KE.KDictSum
import KE.KEqDict
import PyProof.P3Eq
import KE.KTryMore
import KE.KSortTup
import PyProof.NeKinds
import KE.KLam
import PyProof.SetRoads
import KE.KIntText
import PyProof.DictValues
import PyProof.DictWalks
import KE.KItemsList
import PyProof.Toks
import PyProof.StrReplace2
import PyProof.StrLawsFirst
import KE.KMinKey
import PySem.Challenge.RW_parcelmend_k43_what_holds
import KE.RegKIsAll
import KE.RegKTryMore
noncomputable section
set_option Elab.async false
set_option linter.all false
set_option genInjectivity false
set_option genSizeOf false
set_option genSizeOfSpec false
set_option maxRecDepth 100000
section
open PyProof PyProof.Rows PySem PySem.AutoSeq1 PySem.Builtin PySem.Builtin.Getset_descriptor PySem.Builtin.ObjectAttr PySem.Builtin.Str PySem.Calls PySem.MeetsSeq PySem.MeetsSeq2 PySem.MeetsSeq3 PySem.SeqAt PySem.Spec PySem.W
def ai:=@wpAny_bind
def ap:=@if_neg
def aw:=@wpAny_pure
def aB:=@if_pos
def aE:=@decide_eq_true
def aK:=@List.length_map
def aL:=@of_decide_eq_true
def aS:=@Nat.le_refl
def ba:=@decide_eq_false
def be:=@List.length_append
def bn:=@Heap.lt_size
def bS:=@Heap.get?_push_of_some
def bW:=@List.getElem?_eq_some_iff
def ck:=@Nat.ne_of_lt
def cr:=@Bool.false_ne_true
def cE:=@List.mem_cons
def cP:=@List.mem_map
def cU:=@Bool.false_and
def cV:=@List.length_cons
def dg:=@List.getElem?_eq_getElem
def dq:=@List.getElem?_map
def dM:=@List.map_cons
def ej:=@wpAny_mono
def em:=@Heap.get?_push_size
def et:=@Bool.and_eq_true
def eu:=@Bool.true_and
def eA:=@List.map_append
def eB:=@List.take_length
def eE:=@PySem.boot_len
def eS:=@List.mem_cons_of_mem
def eU:=@Nat.le_trans
def eV:=@List.length_take
def fL:=@List.append_nil
def fO:=@Nat.lt_of_lt_of_le
def fQ:=@Nat.zero_le
def gc:=@List.mem_cons_self
def gu:=@Option.some.inj
def gv:=@List.size_toArray
def gw:=@Bool.and_eq_true_iff
def gM:=@Ne.symm
def gN:=@List.mem_append
def gO:=@List.mem_of_getElem?
def gP:=@List.mem_singleton
def ic:=@if_false
def ie:=@List.mem_append_right
def ig:=@PySem.W.mg_none_of
def iQ:=@List.mem_filter
def iR:=@Nat.le_of_lt
def jh:=@beq_eq_false_iff_ne
def ji:=@List.length_nil
def jj:=@Bool.eq_false_iff
def jD:=@Array.length_toList
def jE:=@List.length_singleton
def jF:=@List.lookup_cons
def jG:=@List.length_range
def jH:=@PassesOwn.never
def kC:=@Bool.false_eq_true
def kD:=@congrArg
def kE:=@beq_iff_eq
def lj:=@wpAny_truthy_bool
def lm:=@Nat.lt_irrefl
def lq:=@List.mem_range
def lr:=@Bool.eq_iff_iff
def lu:=@PySem.W.kia_one
def lw:=@Option.map_some
def lx:=@List.any_eq_true
def ly:=@List.getD_eq_getElem?_getD
def lA:=@PyProof.Rows.boot_list
def mY:=@wpAny_call_entry
def mZ:=@Heap.size_push
def m3:=@List.nodup_cons
def m4:=@Bool.and_false
def oS:=@Sum.inr.inj
def oU:=@wpAny_holding
def oV:=@Nat.ne_of_gt
def oW:=@List.any_cons
def oX:=@PySem.W.mg_of
def oY:=@wpAny_setState_of
def oZ:=@List.append_assoc
def o0:=@List.not_mem_nil
def o5:=@or_false
def qE:=@wpAny_isInstance
def qF:=@codeAny_mono
def qG:=@wpAny_newObj_type
def qH:=@codeAny_builtin
def qI:=@PySem.F.called_set
def sE:=@wpAny_forIn_list
def sF:=@wpAny_rule
def sG:=@List.zip_cons_cons
def sH:=@sizeLine_eq
def sI:=@Array.getElem?_toList
def sJ:=@Heap.SameBut.update
def sK:=@plainId_quiet
def sL:=@Around.under_plainId
def sM:=@List.mem_flatMap
def v7:=@wpAny_specialOf
def v9:=@Bool.not_true
def wa:=@if_true
def wb:=@Paired.length
def wc:=@Nat.lt_succ_self
def we:=@Option.isSome_iff_exists
def wf:=@PySem.mem_of_lookup
def wg:=@List.find?_cons
def wj:=@Nat.lt_trans
def wk:=@PySem.F.slot_dict_get
def wm:=@List.all_eq_true
def wn:=@Heap.get?_update_self
def wo:=@List.length_eq_zero_iff
def wp:=@Obj.data_mapFields
def wq:=@wpAny_askSetting
def wt:=@List.getElem?_of_mem
def wu:=@List.pairwise_cons
def ww:=@List.take_of_length_le
def wx:=@PyProof.Rows.boot_isinstance
def wy:=@PySem.F.plainAttrs_list
def wz:=@List.take_zero
def zR:=@List.mem_append_left
def zS:=@wpAny_passesOwn
def zT:=@wpAny_Call_Name_kw
def zU:=@List.map_nil
def zV:=@Heap.get?_update_other
def zW:=@Bool.false_or
def zX:=@List.cons_append
def zY:=@call_meetsIn
def zZ:=@beq_self_eq_true
def Aa:=@Nat.not_lt_zero
def Ab:=@List.getElem_mem
def Ac:=@wpAny_setField
def Ad:=@Array.getElem?_eq_getElem
def Ae:=@PySem.F.slot_dict_keyiterator_next
def Af:=@PyProof.Rows.boot_sorted
def Em:=@F.slot_tuple_hash
def En:=@Nat.add_assoc
def Eo:=@F.slot_tuple_eq
def Ep:=@wpAny_seqItems
def Es:=@Nat.le_of_eq
def Et:=@Calls.spliced_cons
def Eu:=@wpAny_call
def Ev:=@List.getElem?_append_right
def Ew:=@Bool.or_false
def Ex:=@List.all_cons
def Ey:=@Calls.callWith_builtin
def Ez:=@PySem.F.entry_dict_get
def EA:=@Option.getD_some
def EB:=@decide_eq_decide
def EC:=@wpAny_typeNameOfWhole_keyiter
def ED:=@wpAny_typeNameOf_keyiter
def EE:=@plain_eq_loop
def EF:=@Nat.le_add_right
def EG:=@List.map_map
def EH:=@Nat.succ_le_succ
def EI:=@List.getElem?_inj
def EJ:=@List.pairwise_singleton
def EK:=@List.nil_append
def EL:=@decide_eq_true_iff
def EM:=@PyProof.Rows.boot_dict
def EN:=@List.range_succ
def EO:=@List.sum_cons
def EQ:=@PySem.F.slot_list_append
def ER:=@PySem.F.type_list_append
def ES:=@Nat.mul_succ
def K2:=@wpAny_tupleItemsOf
def K3:=@Array.forIn_toList
def K4:=@isSubtype_tuple_tuple
def K5:=@List.filterMap_cons
def K6:=@List.getElem_inj
def K7:=@wpAny_execs_nil
def K8:=@wpAny_execs_cons
def K9:=@wpAny_pyIter_list
def La:=@PyProof.Rows.callWith_type1
def Lb:=@List.any_eq_false
def Le:=@PySem.W.plainGet_of
def Lf:=@PySem.W.makes_of
def Lg:=@Calls.spliced_nil
def Lh:=@PySem.W.callWith_K
def Li:=@List.of_mem_zip
def Lj:=@List.getElem?_append_left
def Lk:=@List.length_replicate
def Lm:=@AutoSeq1.sub_tuple_tuple
def Ln:=@List.zip_nil_left
def Lo:=@List.zip_nil_right
def Lq:=@richCompare_meets_room
def Lr:=@Int.toNat_natCast
def Lu:=@Calls.evalArgs_plain
def Lx:=@Bool.true_or
def Ly:=@Option.isSome_map
def Lz:=@List.nodup_nil
def LA:=@Nat.le_of_not_lt
def LB:=@Nat.lt_of_le_of_lt
def LC:=@typeLookup_type
def LD:=@builtinLookup_eq_fast
def LF:=@isSubtype_type
def LG:=@wpAny_ite_split
def LH:=@wpAny_typeOf
def LI:=@Bool.or_true
def LJ:=@PySem.W.kat_nil
def LK:=@listUpdate_at
def LL:=@wpAny_newList
def LM:=@Nat.lt_succ_of_lt
def LN:=@fits_of_scanBound
def LO:=@Obj.isFreed_of_fields
def LP:=@Obj.cls_mapFields
def LQ:=@wpAny_attempt
def LR:=@wpAny_callSpecial?_slot
def LS:=@wpAny_fieldsOf
def LU:=@wpAny_pyIter_slot
def LV:=@PyProof.Rows.F.plain_set_update_loop
def LW:=@wpAny_dictEntries
def LX:=@wpAny_dictEpoch
def LY:=@List.filter_append
def LZ:=@List.take_add_one
def L0:=@Classical.byContradiction
def L1:=@List.find?_eq_none
def L3:=@List.find?_some
def L4:=@List.mem_of_find?_eq_some
def L5:=@Bool.not_eq_true'
def L6:=@List.length_filter_le
def agn:=@wpAny_richCompare_same_room
def ago:=@List.getElem?_set_self
def agp:=@Calls.Name_function_global
def agq:=@wpAny_isTrue_Compare1
def agr:=@PySem.W.methodCall_KW
def ags:=@PySem.W.cellsFrom_some
def agt:=@List.getElem?_replicate
def agu:=@subscriptTail_builtinR
def agv:=@PySem.F.args_dict_get_2
def agw:=@PySem.F.args_dict_get_3
def agx:=@PySem.F.plainAttrs_dict
def agy:=@PySem.F.type_dict_get
def agz:=@wpAny_comprehension_free
def agA:=@Calls.call_function_entry
def agB:=@List.length_eraseIdx_of_lt
def agC:=@PySem.F.slot_set_iter
def agD:=@Array.getElem?_eq_none
def agE:=@PySem.F.plain_extend_loop
def agF:=@PySem.F.plain_list_iadd
def agG:=@List.length_pos_of_mem
def agH:=@PySem.F.plain_set_new
def agI:=@PyProof.Rows.F.entry_set_update_loop
def agJ:=@PySem.F.slot_dict_iter
def agK:=@PySem.F.entry_dict_keyiterator_next
def agL:=@PySem.F.args_dict_keyiterator_next_1
def agM:=@wpAny_isOneOf_keyiter
def agN:=@PyProof.Rows.ltCps_eq
def agO:=@List.rel_of_pairwise_cons
def agP:=@List.Perm.eq_of_pairwise
def agQ:=@PyProof.Rows.boot_set
def agR:=@PyProof.Rows.boot_int
def agS:=@PyProof.Rows.boot_bool
def agT:=@PyProof.Rows.boot_any
end
abbrev Fg:=PySem.W.Frag
abbrev VP:=PySem.Value->PySem.Shared->Prop
abbrev Po:=List (PySem.Addr×PySem.Obj)
abbrev Mv:=PySem.Str->Option PySem.Value
abbrev Oi:=Option (List Int)
abbrev Ll:=List (List Int)
abbrev Ls:=List PySem.Str
abbrev Lw:=List PySem.Value
abbrev Av:=Array PySem.Value
abbrev Oa:=Option PySem.Addr
abbrev Fy:=PySem.FuncData
namespace L2
open PySem PySem.Spec PyProof.Rows
abbrev bj:=Sum Int Str
def o6:bj->Value->Bool
 | .inl k,v=>Value.isInt k v
 | .inr x,v=>Value.isStrOf x v
def lB(w:World):bj->Int
 | .inl k=>hashInt k
 | .inr x=>hashStr w x
theorem iS:∀{k:bj}{v:Value},o6 k v=true->(∃i t,k=Sum.inl i/\v=Value.int i t)\/(∃x t,k=Sum.inr x/\v=Value.str x t)
 | .inl i,v,h=>by
  obtain⟨t,e⟩:=Value.isInt_shape (k:=i) (v:=v) h;exact .inl ⟨i,t,rfl,e⟩
 | .inr x,v,h=>by
  obtain⟨t,e⟩:=Value.isStrOf_shape (x:=x) (v:=v) h;exact .inr ⟨x,t,rfl,e⟩
theorem L7(i:Int)(t:Tok):o6 (.inl i) (.int i t)=true:=by simp[o6,Value.isInt]
theorem L8(x:Str)(t:Tok):o6 (.inr x) (.str x t)=true:=by simp[o6,Value.isStrOf]
theorem L9(a b:Int):decide ((Sum.inl a:bj)=Sum.inl b)=(a == b):=by
 by_cases e:a=b
 . subst e;simp
 . have h:¬(Sum.inl a:bj)=Sum.inl b:=fun q=>e (Sum.inl.inj q);rw[ba h];exact(jh.mpr e).symm
theorem Ma(a b:Str):decide ((Sum.inr a:bj)=Sum.inr b)=decide (a=b):=by
 by_cases e:a=b
 . subst e;simp
 . have h:¬(Sum.inr a:bj)=Sum.inr b:=fun q=>e (oS q);rw[ba h,ba e]
theorem Mb(a:Int)(b:Str):decide ((Sum.inl a:bj)=Sum.inr b)=false:=ba (fun q=>nomatch q)
theorem Mc(a:Str)(b:Int):decide ((Sum.inr a:bj)=Sum.inl b)=false:=ba (fun q=>nomatch q)
def cA(prog:Program)(w:World):PySem.KeyKind prog w bj where
 is:=o6
 hash:=lB w
 inj:=fun v a b ha hb=>by
  rcases iS ha with⟨i,t,rfl,rfl⟩ | ⟨x,t,rfl,rfl⟩
  . rcases iS hb with⟨j,u,rfl,e⟩ | ⟨y,u,rfl,e⟩
    . injection e with e1 _;rw[e1]
    . exact nomatch e
  . rcases iS hb with⟨j,u,rfl,e⟩ | ⟨y,u,rfl,e⟩
    . exact nomatch e
    . injection e with e1 _;rw[e1]
 byValue:=fun k v h=>by
  rcases iS h with⟨i,t,rfl,rfl⟩ | ⟨x,t,rfl,rfl⟩<;>rfl
 pyHash:=fun hv h=>by
  rcases iS hv with⟨i,t,rfl,rfl⟩ | ⟨x,t,rfl,rfl⟩
  . exact wpAny_pyHash_int h
  . exact wpAny_pyHash_str h
 eqBool:=fun hu hv h=>by
  rcases iS hu with⟨i,t,rfl,rfl⟩ | ⟨x,t,rfl,rfl⟩
  . rcases iS hv with⟨j,u,rfl,rfl⟩ | ⟨y,u,rfl,rfl⟩
    . rw[L9]at h;exact wpAny_eqBool_int h
    . rw[Mb]at h;exact SeqAt.EqAt.int_str i t y u _ _ _ _ h
  . rcases iS hv with⟨j,u,rfl,rfl⟩ | ⟨y,u,rfl,rfl⟩
    . rw[Mc]at h;exact SeqAt.EqAt.str_int x t j u _ _ _ _ h
    . rw[Ma]at h;exact wpAny_eqBool_str h
 «strs»:=fun k x t v h=>by
  rcases iS h with⟨i,u,rfl,e⟩ | ⟨y,u,rfl,e⟩
  . exact nomatch e
  . injection e with e1 _
    subst e1;cases v<;>rfl
theorem Me(prog:Program)(w:World)(i:Int)(t:Tok):(cA prog w).is (.inl i) (.int i t)=true:=L7 i t
theorem qJ(prog:Program)(w:World)(x:Str)(t:Tok):(cA prog w).is (.inr x) (.str x t)=true:=L8 x t
abbrev NI:=Sum bj (List bj)
section
variable {P:Program}{w:World}
def jI(P:Program)(w:World)(h:Heap):NI->Value->Prop
 | .inl k,v=>o6 k v=true
 | .inr ls,v=>∃b,v=.ref b/\IsTupleKey (cA P w) h ls b
inductive gQ (P:Program) (w:World) (h:Heap):List NI->Lw->Prop
 | nil:gQ P w h [] []
 | cons {i:NI}{v:Value}{ks:List NI}{vs:Lw}:jI P w h i v->gQ P w h ks vs->gQ P w h (i::ks) (v::vs)
def gR(P:Program)(w:World)(h:Heap)(ks:List NI)(a:Addr):Prop:=∃o items n,h.get? a=some o/\o.cls=.type "tuple"/\o.data=.seq items n/\gQ P w h ks items.toList
def wA(P:Program)(w:World):NI->Int
 | .inl k=>lB w k
 | .inr ls=>tupleKeyHash (cA P w) ls
def Ag:NI->Nat
 | .inl _=>1
 | .inr ls=>ls.length+1
def Ah(P:Program)(w:World)(ks:List NI):Int:=reduceHash (Builtin.Tuple.tupleHashOf (ks.map (wA P w)))
def wB(ks:List NI):Nat:=(ks.map Ag).sum+1
theorem jI.inj{h:Heap}{i j:NI}{v:Value}(a:jI P w h i v)(b:jI P w h j v):i=j:=by
 cases i with
 | inl k=>
  cases j with
  | inl l=>rw[(cA P w).inj v k l a b]
  | inr l=>
   obtain⟨c,rfl,_⟩:=b
   rcases iS a with⟨_,_,_,e⟩ | ⟨_,_,_,e⟩<;>cases e
 | inr k=>
  obtain⟨c,rfl,hc⟩:=a;cases j with
  | inl l=>rcases iS b with⟨_,_,_,e⟩ | ⟨_,_,_,e⟩<;>cases e
  | inr l=>
   obtain⟨d,e,hd⟩:=b;cases e;rw[hc.inj hd]
theorem gQ.inj{h:Heap}{x y:List NI}{vs:Lw}(a:gQ P w h x vs)(b:gQ P w h y vs):x=y:=by
 induction a generalizing y with
 | nil=>cases b;rfl
 | cons p _ ih=>
  cases b with
  | cons q r=>rw[p.inj q,ih r]
theorem gR.typeIs{s:Shared}{ks:List NI}{a:Addr}(x:gR P w s.heap ks a):s.TypeIs (.ref a) "tuple":=x.elim fun o Mf=>Mf.elim fun _ Mg=>Mg.elim fun _ Mh=>Mh.elim fun ho Mi=>Mi.elim fun hc _=>⟨o,ho,hc⟩
theorem gR.inj{h:Heap}{a:Addr}{x y:List NI}(p:gR P w h x a)(q:gR P w h y a):x=y:=by
 obtain⟨o,its,n,e,_,d,i⟩:=p;obtain⟨o',its',n',e',_,d',i'⟩:=q;rw[e]at e';cases e';rw[d]at d';injection d' with d1 _
 subst d1;exact i.inj i'
theorem gQ.keeps{h h':Heap}{ks:List NI}{vs:Lw}(k:∀ls b,IsTupleKey (cA P w) h ls b->IsTupleKey (cA P w) h' ls b)(x:gQ P w h ks vs):gQ P w h' ks vs:=by
 induction x with
 | nil=>exact .nil
 | @cons i v ks vs p _ ih=>
  refine .cons ?_ ih;cases i with
  | inl l=>exact p
  | inr l=>
   obtain⟨b,e,hb⟩:=p;exact⟨b,e,k _ _ hb⟩
theorem gR.keeps{h h':Heap}{ks:List NI}{a d:Addr}{o:Obj}{es:Array DictEntry}{ep:Nat}(x:gR P w h ks a)(ho:h.get? d=some o)(hd:o.data=.dict es ep)(hs:Heap.SameBut d h h'):gR P w h' ks a:=by
 obtain⟨oa,its,n,e,c,e2,i⟩:=x;have ne:a≠d:=by
  intro z;rw[z,ho]at e;cases e;rw[hd]at e2;cases e2
 exact⟨oa,its,n,(hs.2 a ne).trans e,c,e2,i.keeps fun ls b hb=>hb.keeps ho hd hs⟩
variable {A:Around}{E:VP}{s:Shared}
theorem jI.hash{i:NI}{v:Value}{Q:Int->Shared->Prop}(hu:A.units<cLine)(x:jI P w s.heap i v)(h:Q (wA P w i) { s with toks:=s.toks+Ag i }):wpAny (model P w) A (pyHash v) Q E s:=by
 cases i with
 | inl k=>exact(cA P w).pyHash (k:=k) x h
 | inr ls=>
  obtain⟨b,rfl,hb⟩:=x;exact wpAny_pyHash_tuple hu hb h
theorem jI.eq{i j:NI}{u v:Value}{Q:Bool->Shared->Prop}(hu:A.units<cLine)(x:jI P w s.heap i u)(y:jI P w s.heap j v)(h:Q (decide (i=j)) s):wpAny (model P w) A (eqBool u v) Q E s:=by
 cases i with
 | inl k=>
  cases j with
  | inl l=>
   have e:decide ((Sum.inl k:NI)=Sum.inl l)=decide (k=l):=by
    by_cases q:k=l
    . rw[q];simp
    . rw[ba q,ba (fun z=>q (Sum.inl.inj z))]
   rw[e]at h;exact(cA P w).eqBool (a:=k) (b:=l) x y h
  | inr l=>
   rw[ba (fun z=>nomatch z)]at h;obtain⟨b,rfl,o,its,n,e,c,d,_⟩:=y
   rcases iS x with⟨a,t,_,rfl⟩ | ⟨a,t,_,rfl⟩
   . exact SeqAt.EqAt.int_tuple a t ⟨o,e,c,n,d⟩ hu _ _ _ _ h
   . exact SeqAt.EqAt.str_tuple a t ⟨o,e,c,n,d⟩ hu _ _ _ _ h
 | inr k=>
  obtain⟨a,rfl,ha⟩:=x;cases j with
  | inl l=>
   rw[ba (fun z=>nomatch z)]at h;obtain⟨o,its,n,e,c,d,_⟩:=ha
   rcases iS y with⟨b,t,_,rfl⟩ | ⟨b,t,_,rfl⟩
   . exact SeqAt.EqAt.tuple_int b t ⟨o,e,c,n,d⟩ hu _ _ _ _ h
   . exact SeqAt.EqAt.tuple_str b t ⟨o,e,c,n,d⟩ hu _ _ _ _ h
  | inr l=>
   obtain⟨b,rfl,hb⟩:=y;have e:decide ((Sum.inr k:NI)=Sum.inr l)=decide (k=l):=by
    by_cases q:k=l
    . rw[q];simp
    . rw[ba q,ba (fun z=>q (oS z))]
   rw[e]at h;exact wpAny_eqBool_tuple hu ha hb h
theorem Mj{ks:List NI}{a:Addr}{Q:Int->Shared->Prop}(hu:A.units+8<cLine)(hk:gR P w s.heap ks a)(h:Q (Ah P w ks) { s with toks:=s.toks+wB ks }):wpAny (model P w) A (pyHash (.ref a)) Q E s:=by
 have hT:=hk.typeIs;obtain⟨o,its,n,ho,_,hd,hi⟩:=hk;have dN:A.units<cLine:=by omega
 unfold pyHash
 first | unfold pyHashByItsType | skip
 first | refine ai (wpAny_cRoomFor_or (.inr dN) ?_) | skip
 refine ai (v7 hT Em.lookup ?_);show wpAny _ _ (if (some (Value.builtin "tuple.__hash__") == some Value.none)=true then _ else _) Q E s;rw[ap (by rw[beq_builtin_none];exact cr)];refine ai (v7 hT Em.lookup ?_);show wpAny _ _ (callSpecialIfBoundUnlessNone? (.ref a) "__hash__" _ >>= _) Q E s;refine ai (wpAny_callSpecialIfBoundUnlessNone?_slot hT Em (mY Em hT F.entry_tuple_hash ?_ (F.args_tuple_hash_1 _)));show wpAny _ _ (Builtin.Tuple.tupleItemsOf (.ref a) >>= _) _ _ s;refine ai (K2 ho hd ?_);refine ai ?_;rw[←K3];refine sE _
  (fun rest (b:Array Int) s'=>∃done left,ks=done++left/\gQ P w s.heap left rest/\b.toList=done.map (wA P w)/\s'={ s with toks:=s.toks+(done.map Ag).sum })
  _ ?_ ?_ _ _ ⟨[],ks,rfl,hi,rfl,rfl⟩
 . rintro x rest b s' ⟨done,left,rfl,hl,hb,rfl⟩;cases hl with
   | @cons k _ jk _ h1 m6=>
    refine ai (jI.hash (i:=k) (show A.units+1<cLine by omega) h1 ?_)
    first
     | exact aw ⟨done++[k],jk,by simp,m6,by simp[hb],by simp[En]⟩
     | exact ai (aw (aw ⟨done++[k],jk,by simp,m6,by simp[hb],by simp[En]⟩))
 . rintro b s' ⟨done,left,rfl,hl,hb,rfl⟩;cases hl;rw[fL]at h;show wpAny _ _ (retInt (Builtin.Tuple.tupleHashOf b.toList)) _ _ _;rw[hb];refine wpAny_ret_mkInt ?_;generalize hz:Builtin.Tuple.tupleHashOf (done.map (wA P w))=z at h ⊢;show wpAny _ _ (if (decide (-(2:Int) ^ 63<=z) && decide (z<2 ^ 63))=true then _ else _) Q E _;unfold Ah reduceHash at h;rw[hz]at h
   by_cases hr:(decide (-(2:Int) ^ 63<=z) && decide (z<2 ^ 63))=true
   . rw[aB hr];rw[aB hr]at h;exact aw (by simpa [En,wB]using h)
   . rw[ap hr];rw[ap hr]at h;exact ai (sF (aw (by simpa [En,wB]using h)))
theorem Ml{x y:List NI}{a b:Addr}{R:PySem.Fin->Shared->Prop}(hu:A.units<cLine)(hx:gR P w s.heap x a)(hy:gR P w s.heap y b)(h:R (.done (.ret (.bool (decide (x=y))))) s) :
 wpAny (model P w) A (Builtin.«tuple.__eq__» ⟨[.ref a,.ref b],[]⟩) R E s:=by
 have Mm:=hy.typeIs;obtain⟨oa,xs,na,Ai,_,Mn,Mo⟩:=hx;obtain⟨ob,ys,nb,o7,_,iT,Mp⟩:=hy;show wpAny _ _ (isInstance (.ref b) (.type "tuple") >>= _) _ _ s;refine ai (qE Mm K4 ?_);simp only[v9,kC,ic];refine ai (K2 Ai Mn ?_);refine ai (K2 o7 iT ?_);refine ai ?_;refine sE _
  (fun rest r s'=>r.1=none/\s'=s/\∃x' y' ii bt,rest=List.zip ii bt/\gQ P w s.heap x' ii/\gQ P w s.heap y' bt/\decide (x'=y')=decide (x=y)/\(ii.length == bt.length)=(xs.size == ys.size))
  _ ?_ ?_ _ _ ⟨rfl,rfl,x,y,xs.toList,ys.toList,rfl,Mo,Mp,rfl,by simp⟩
 . rintro⟨u,v⟩ rest r s' ⟨hr,rfl,x',y',ii,bt,hz,sN,qK,wC,hlen⟩;cases sN with
   | nil=>simp at hz
   | @cons k1 u' ET Mq h1 Mr=>
    cases qK with
    | nil=>simp at hz
    | @cons k2 v' EU Ms h2 Mt=>
     simp only[sG,List.cons.injEq,Prod.mk.injEq]at hz;obtain⟨⟨rfl,rfl⟩,rfl⟩:=hz;refine ai (jI.eq (i:=k1) (j:=k2) hu h1 h2 ?_)
     by_cases hk:k1=k2
     . subst hk;rw[aE rfl];simp only[v9,kC,ic];refine aw ⟨rfl,rfl,ET,EU,Mq,Ms,rfl,Mr,Mt,?_,by simpa using hlen⟩;rw[←wC]
       by_cases wD:ET=EU
       . simp[wD]
       . simp[wD]
     . rw[ba hk];simp only[Bool.not_false,wa];have hf:decide (x=y)=false:=by rw[←wC];simp[hk]
       rw[hf]at h;exact ai (aw (aw (aw h)))
 . rintro⟨r1,r2⟩ s' ⟨hr,rfl,x',y',ii,bt,hz,sN,qK,wC,hlen⟩;simp only at hr;subst hr;refine aw ?_;have Mu:(xs.size == ys.size)=decide (x=y):=by
    rw[←wC,←hlen];cases sN with
    | nil=>
     cases qK with
     | nil=>simp
     | cons _ _=>simp
    | cons _ _=>
     cases qK with
     | nil=>simp
     | cons _ _=>simp at hz
   show R (.done (.ret (.bool (xs.size == ys.size)))) s';rw[Mu];exact h
theorem Mw{x y:List NI}{a b:Addr}{Q:Bool->Shared->Prop}(hu:A.units+8<cLine)(hx:gR P w s.heap x a)(hy:gR P w s.heap y b)(h:Q (decide (x=y)) s) :
 wpAny (model P w) A (eqBool (.ref a) (.ref b)) Q E s:=by
 unfold eqBool
 try with_reducible refine oU ?_
 show wpAny _ _ (if (Value.ref a == Value.ref b)=true then _ else _) Q E s
 by_cases lC:(Value.ref a == Value.ref b)=true
 . rw[aB lC];have e:a=b:=by have:=eq_of_beq lC;injection this
   subst e;obtain rfl:=hx.inj hy;exact ai (sF (aw (by simpa using h)))
 . rw[ap lC];exact ai (agn (op:=.Eq) hx.typeIs hy.typeIs Eo
    (mY Eo hx.typeIs F.entry_tuple_eq (Ml (show A.units+1<cLine by omega) hx hy ⟨_,rfl,(fun e=>nomatch e),lj h⟩) (F.args_tuple_eq_2 _ _)) (by omega))
theorem Mx{M:Model}{ls:List bj}{a:Addr}{n:Nat}{Q:Bool->Shared->Prop}(hk:IsTupleKey (cA P w) s.heap ls a)(h:Q true s):wpAny M A (eqIsQuiet (n+1) (.ref a)) Q E s:=by
 have hT:=hk.typeIs;obtain⟨o,its,m,ho,_,hd,hi⟩:=hk;unfold eqIsQuiet;refine ai (v7 hT Eo.lookup ?_);show wpAny _ _ (isInstance (.ref a) (.type "tuple") >>= _) _ _ s;refine ai (qE hT K4 ?_);simp only[v9,kC,ic];refine ai (Ep ho hd ?_);refine ai ?_;show wpAny _ _ (forIn its _ _) _ _ s;rw[←K3];refine sE _ (fun rest r s'=>r.1=none/\s'=s/\∀v∈rest,carriedByValue v=true) _ ?_ ?_ _ _ ⟨rfl,rfl,hi.byValue⟩
 . rintro v rest r s' ⟨hr,rfl,dF⟩;rw[eqIsQuiet_byValue _ (dF v gc)];refine ai (aw ?_);simp only[v9,kC,ic];exact aw ⟨rfl,rfl,fun u My=>dF u (eS _ My)⟩
 . rintro⟨r1,r2⟩ s' ⟨hr,rfl,_⟩;simp only at hr;subst hr;exact aw h
theorem Mz{M:Model}{ks:List NI}{a:Addr}{Q:Bool->Shared->Prop}(hk:gR P w s.heap ks a)(h:Q true s):wpAny M A (eqIsQuiet 8 (.ref a)) Q E s:=by
 have hT:=hk.typeIs;obtain⟨o,its,m,ho,_,hd,hi⟩:=hk;unfold eqIsQuiet;refine ai (v7 hT Eo.lookup ?_);show wpAny _ _ (isInstance (.ref a) (.type "tuple") >>= _) _ _ s;refine ai (qE hT K4 ?_);simp only[v9,kC,ic];refine ai (Ep ho hd ?_);refine ai ?_;show wpAny _ _ (forIn its _ _) _ _ s;rw[←K3];refine sE _ (fun rest r s'=>r.1=none/\s'=s/\∃ls,gQ P w s.heap ls rest) _ ?_ ?_ _ _ ⟨rfl,rfl,ks,hi⟩
 . rintro v rest r s' ⟨hr,rfl,ls,MA⟩;cases MA with
   | @cons i _ Aj _ h1 h2=>
    have fin:∀{R:Bool->Shared->Prop},R true s'->wpAny M A (eqIsQuiet 7 v) R E s':=fun {R} q=>by
     cases i with
     | inl k=>
      rw[eqIsQuiet_byValue _ ((cA P w).byValue k v h1)];exact aw q
     | inr l=>
      obtain⟨b,rfl,hb⟩:=h1;exact Mx hb q
    refine ai (fin ?_);simp only[v9,kC,ic];exact aw ⟨rfl,rfl,Aj,h2⟩
 . rintro⟨r1,r2⟩ s' ⟨hr,rfl,_⟩;simp only at hr;subst hr;exact aw h
end
def lD(P:Program)(w:World):HeapKind P w (List NI) where
 is:=gR P w
 hash:=Ah P w
 draws:=wB
 room:=fun A=>A.units+8<cLine
 inj:=fun a b=>a.inj b
 keeps:=fun x ho hd hs=>x.keeps ho hd hs
 pyHash:=fun hu hk h=>Mj hu hk h
 eqBool:=fun hu hx hy h=>Mw hu hx hy h
 quiet:=fun hk h=>Mz hk h
theorem qL{P:Program}{w:World}{A:Around}(hu:A.units+64<cLine):(lD P w).room A.in1:=show A.units+1+8<cLine by omega
set_option genInjectivity true in
inductive V where
 | non | bl (b:Bool) | int (i:Int) | str (x:Str) | byt (b:Array UInt8) | flt (b:UInt64) | ref (a:Addr) | ty (n:String)
 deriving DecidableEq
abbrev Lv:=List V
def RelV:V->Value->Prop
 | .non,u=>u=Value.none
 | .bl b,u=>u=Value.bool b
 | .int i,u=>∃t,u=Value.int i t
 | .str x,u=>∃t,u=Value.str x t
 | .byt b,u=>∃t,u=Value.bytes b t
 | .flt b,u=>∃t,u=Value.float b t
 | .ref a,u=>u=Value.ref a
 | .ty n,u=>u=Value.type n
abbrev aU:Lv->Lw->Prop:=Paired RelV
theorem aU.length{xs:Lv}{us:Lw}(r:aU xs us):xs.length=us.length:=wb r
theorem aU.get:∀{xs:Lv}{us:Lw}{i:Nat}{x:V},aU xs us->xs[i]?=some x->∃u,us[i]?=some u/\RelV x u
 | _,_,_,_,.nil,e=>by simp at e
 | _,_,0,_,.cons r _,e=>by simp at e;subst e;exact⟨_,rfl,r⟩
 | _,_,i+1,x,.cons _ t,e=>by
  obtain⟨u,h1,h2⟩:=aU.get (i:=i) (x:=x) t (by simpa using e);exact⟨u,by simpa using h1,h2⟩
theorem aU.append:∀{xs ys:Lv}{us ws:Lw},aU xs us->aU ys ws->aU (xs++ys) (us++ws)
 | _,_,_,_,.nil,s=>s
 | _,_,_,_,.cons r t,s=>.cons r (aU.append t s)
theorem aU.take:∀{xs:Lv}{us:Lw} (n:Nat),aU xs us->aU (xs.take n) (us.take n)
 | _,_,0,_=>.nil
 | _,_,_+1,.nil=>.nil
 | _,_,n+1,.cons r t=>.cons r (aU.take n t)
theorem aU.drop:∀{xs:Lv}{us:Lw} (n:Nat),aU xs us->aU (xs.drop n) (us.drop n)
 | _,_,0,r=>r
 | _,_,_+1,.nil=>.nil
 | _,_,n+1,.cons _ t=>aU.drop n t
def fR:Option V->Option Value->Prop
 | some v,some u=>RelV v u
 | none,none=>True
 | _,_=>False
def KV{κ:Type}:List (κ×V)->List (κ×Value)->Prop:=Paired fun(p:κ×V) (q:κ×Value)=>p.1=q.1/\RelV p.2 q.2
def kV:bj->V
 | .inl i=>.int i
 | .inr x=>.str x
inductive HO where
 | lst (xs:Lv)
 | tup (xs:Lv)
 | dK (ab:List (bj×V)) | dT (ab:List (List NI×V))
 | set (S:Int->Bool) (n:Nat)
 | ins (C dx:Addr) (fs:List (Str×V))
 | own (x:Addr)
 | xd (fs:List (Str×V))
 | met (f x:Addr)
 | rng (lo hi:Int)
 | frz (o:Obj) (u:HO)
 | tbl (ps:Av)
 | ext (φ:Heap->Prop)
abbrev Hp:=Addr->Option HO
def al(H:Hp)(a:Addr)(o:HO):Hp:=fun b=>if b=a then some o else H b
theorem bf{H:Hp}{a:Addr}{o:HO}:al H a o a=some o:=by unfold al;rw[aB rfl]
theorem bc{H:Hp}{a b:Addr}{o:HO}(h:b≠a):al H a o b=H b:=by unfold al;rw[ap h]
theorem MB{H:Hp}{a:Addr}{o u:HO}:al (al H a o) a u=al H a u:=by
 funext b;unfold al;split<;>rfl
theorem eF{H:Hp}{a b:Addr}{o u:HO}(h:H a=some o)(h':H b=some u)(d:o≠u):a≠b:=by
 intro e;subst e;rw[h]at h';exact d (gu h')
theorem bF{H:Hp}{a b:Addr}{o:HO}(h:H a=some o)(h':H b=none):a≠b:=by
 intro e;subst e;rw[h]at h';cases h'
def NV(H:Hp):NI->V->Prop
 | .inl k,v=>v=kV k
 | .inr ls,v=>∃b,v=.ref b/\H b=some (.tup (ls.map kV))
abbrev EV (H:Hp):List NI->Lv->Prop:=Paired (NV H)
def fS(H:Hp)(ks:List NI)(a:Addr):Prop:=∃vs,H a=some (.tup vs)/\EV H ks vs
theorem aX{α β:Type}{F G:α->β->Prop}:∀{l₁:List α}{l₂:List β},Paired F l₁ l₂->(∀a b,F a b->G a b)->Paired G l₁ l₂
 | _,_,.nil,_=>.nil
 | _,_,.cons r t,f=>.cons (f _ _ r) (aX t f)
theorem fS.keeps{H H':Hp}{ks:List NI}{a:Addr}(x:fS H ks a)(ht:∀b xs,H b=some (.tup xs)->H' b=some (.tup xs)):fS H' ks a:=by
 obtain⟨vs,e,r⟩:=x;refine⟨vs,ht _ _ e,aX r fun i v z=>?_⟩;cases i with
 | inl k=>exact z
 | inr l=>
  obtain⟨b,e1,e2⟩:=z;exact⟨b,e1,ht _ _ e2⟩
section
variable (P:Program)(w:World)
def bX(H:Hp)(h:Heap)(a:Addr):HO->Prop
 | .lst xs=>xs.length<=sizeLine/\∃(its:Lw) (n:Nat),aU xs its/\h.get? a=some { cls:=.type "list",data:=.seq its.toArray n }
 | .tup xs=>xs.length<=sizeLine/\∃its:Lw,aU xs its/\IsTup h a its.toArray
 | .dK ab=>ab.length<=sizeLine/\(a == sysModules)=false/\∃vs,KV ab vs/\h.DictOf (cA P w) a vs
 | .dT ab=>ab.length<=sizeLine/\(a == sysModules)=false/\∃xs:List (List NI×Addr×Value),
  Paired (fun(p:List NI×V) (q:List NI×Addr×Value)=>p.1=q.1/\fS H p.1 q.2.1/\RelV p.2 q.2.2) ab xs /\
  ∃o es ep,h.get? a=some o/\o.ExactDict/\o.data=.dict es ep/\es.toList=xs.map (entryOfKey (lD P w))/\(xs.map (·.1)).Nodup
 | .set S n=>h.SetOf (intKind P w) a S n
 | .ins C dx fs=>H dx=some (.own a)/\fs.length<=1000/\dx≠a/\h.get? a=some (PySem.W.instObj C dx) /\
  ∃mA,h.Ns1 dx mA/\(∀f,fR (fs.lookup f) (mA f))/\PySem.Within mA (fs.map (·.1))
 | .own _=>∃o,h.get? a=some o
 | .xd fs=>∃mA,h.Ns1 a mA/\∀f,fR (fs.lookup f) (mA f)
 | .rng lo hi=>∃t u v,h.get? a=some { cls:=.type "range",data:=.fields #[.int lo t,.int hi u,.int 1 v] }
 | .frz o u=>h.get? a=some o/\bX H h a u
 | .tbl ps=>h.get? a=some { cls:=.none,data:=.fields ps }
 | .met f x=>h.get? a=some (PySem.W.methodObj (.ref f) (.ref x))
 | .ext φ=>φ h/\(∃o,h.get? a=some o)/\∀h1 h2:Heap,φ h1->(∀o,h1.get? a=some o->h2.get? a=some o)->φ h2
def bY(H:Hp)(h:Heap):Prop:=∀a o,H a=some o->bX P w H h a o
end
section
variable {P:Program}{w:World}{H H':Hp}{h h':Heap}{a:Addr}{o:HO}
theorem bX.lt(x:bX P w H h a o):a<h.objs.size:=by
 cases o with
 | lst xs=>obtain⟨_,_,_,_,e⟩:=x;exact bn e
 | tup xs=>obtain⟨_,_,_,p⟩:=x;exact p.lt
 | dK ab=>obtain⟨_,_,_,_,o,_,_,e,_⟩:=x;exact bn e
 | dT ab=>obtain⟨_,_,_,_,o,_,_,e,_⟩:=x;exact bn e
 | set S n=>obtain⟨o,_,_,_,e,_⟩:=x;exact bn e
 | ins C dx fs=>obtain⟨_,_,_,e,_⟩:=x;exact bn e
 | own y=>obtain⟨_,e⟩:=x;exact bn e
 | xd fs=>obtain⟨_,⟨_,_,_,e,_⟩,_⟩:=x;exact bn e
 | rng lo hi=>obtain⟨_,_,_,e⟩:=x;exact bn e
 | frz ob u=>obtain⟨e,_⟩:=x;exact bn e
 | tbl ps=>exact bn (show h.get? a=some _ from x)
 | met f y=>exact bn (show h.get? a=some _ from x)
 | ext φ=>obtain⟨_,⟨_,e⟩,_⟩:=x;exact bn e
theorem Paired.mapP{α β:Type}{F G:α->β->Prop}:∀{l₁:List α}{l₂:List β},Paired F l₁ l₂->(∀a b,F a b->G a b)->Paired G l₁ l₂
 | _,_,.nil,_=>.nil
 | _,_,.cons r t,f=>.cons (f _ _ r) (Paired.mapP t f)
theorem bX.stay(x:bX P w H h a o)(k:∀b u,(b=a\/H b=some (.own a))->h.get? b=some u->h'.get? b=some u)
 (ho:∀b,H b=some (.own a)->H' b=some (.own a)) (ht:∀b xs,H b=some (.tup xs)->H' b=some (.tup xs)):bX P w H' h' a o:=by
 induction o with
 | lst xs=>obtain⟨z,its,n,r,e⟩:=x;exact⟨z,its,n,r,k _ _ (.inl rfl) e⟩
 | tup xs=>obtain⟨z,its,r,ob,e,c⟩:=x;exact⟨z,its,r,ob,k _ _ (.inl rfl) e,c⟩
 | dK ab=>obtain⟨z,y,vs,r,ob,es,ep,e,c⟩:=x;exact⟨z,y,vs,r,ob,es,ep,k _ _ (.inl rfl) e,c⟩
 | dT ab=>
  obtain⟨z,y,xs,r,ob,es,ep,e,c⟩:=x;exact⟨z,y,xs,Paired.mapP r fun p q z=>⟨z.1,z.2.1.keeps ht,z.2.2⟩,ob,es,ep,k _ _ (.inl rfl) e,c⟩
 | set S n=>obtain⟨ob,es,ep,t,e,c⟩:=x;exact⟨ob,es,ep,t,k _ _ (.inl rfl) e,c⟩
 | ins C dx fs=>
  obtain⟨d,z,ne,e,mA,⟨od,es,ep,e2,c⟩,r⟩:=x;exact⟨ho _ d,z,ne,k _ _ (.inl rfl) e,mA,⟨od,es,ep,k _ _ (.inr d) e2,c⟩,r⟩
 | own y=>obtain⟨ob,e⟩:=x;exact⟨ob,k _ _ (.inl rfl) e⟩
 | xd fs=>obtain⟨mA,⟨od,es,ep,e,c⟩,r⟩:=x;exact⟨mA,⟨od,es,ep,k _ _ (.inl rfl) e,c⟩,r⟩
 | rng lo hi=>obtain⟨t,u,v,e⟩:=x;exact⟨t,u,v,k _ _ (.inl rfl) e⟩
 | frz ob u ih=>obtain⟨e,q⟩:=x;exact⟨k _ _ (.inl rfl) e,ih q⟩
 | tbl ps=>
  have e:h.get? a=some { cls:=.none,data:=.fields ps }:=x;show h'.get? a=some { cls:=.none,data:=.fields ps };exact k a _ (.inl rfl) e
 | met f y=>
  have e:h.get? a=some (PySem.W.methodObj (.ref f) (.ref y)):=x;show h'.get? a=some (PySem.W.methodObj (.ref f) (.ref y));exact k a _ (.inl rfl) e
 | ext φ=>obtain⟨p,⟨o,e⟩,st⟩:=x;exact⟨st _ _ p fun o q=>k _ _ (.inl rfl) q,⟨o,k _ _ (.inl rfl) e⟩,st⟩
theorem bY.lt(x:bY P w H h)(e:H a=some o):a<h.objs.size:=(x a o e).lt
theorem bY.fresh(x:bY P w H h)(e:h.objs.size<=a):H a=none:=by
 cases q:H a with
 | none=>rfl
 | some u=>exact absurd (fO (x.lt q) e) (lm _)
theorem bY.kept(x:bY P w H h)(k:∀b u,h.get? b=some u->h'.get? b=some u):bY P w H h':=fun a o e=>
 (x a o e).stay (fun b u _ q=>k b u q) (fun _ q=>q) fun _ _ q=>q
theorem bY.laid(x:bY P w H h)(k:∀b u,h.get? b=some u->h'.get? b=some u)(hp:h.objs.size<=a)(new:bX P w (al H a o) h' a o):bY P w (al H a o) h':=fun b u e=>by
 have hn:=x.fresh hp
 by_cases hb:b=a
 . subst hb;rw[bf]at e;cases e;exact new
 . rw[bc hb]at e;exact(x b u e).stay (fun c v _ q=>k c v q) (fun c q=>by rw[bc (bF q hn)];exact q) fun c xs q=>by rw[bc (bF q hn)];exact q
end
def Rd(H:Hp)(a:Addr)(u:HO):Prop:=H a=some u\/∃o,H a=some (.frz o u)
theorem Rd.ok{P:Program}{w:World}{H:Hp}{h:Heap}{a:Addr}{u:HO}(r:Rd H a u)(x:bY P w H h):bX P w H h a u:=by
 rcases r with r | ⟨o,r⟩
 . exact x a u r
 . obtain⟨_,q⟩:=x a _ r;exact q
def sO:Option HO->Prop
 | some (.lst _)=>True
 | some (.dK _)=>True
 | some (.dT _)=>True
 | some (.set _ _)=>True
 | some (.ins _ _ _)=>True
 | some (.ext _)=>True
 | _=>False
section
variable {P:Program}{w:World}{H:Hp}{h h':Heap}{x e:Addr}{o':HO}
theorem bY.write(ok:bY P w H h)(mu:sO (H x))(he:e=x\/H e=some (.own x))(k:∀b u,b≠e->h.get? b=some u->h'.get? b=some u)(qM:∃u,h'.get? e=some u)
 (new:bX P w (al H x o') h' x o'):bY P w (al H x o') h':=fun b u q=>by
 have EW:∀c y,H c=some (.own y)->c≠x:=fun c y r z=>by subst z;rw[r]at mu;exact mu
 have MD:∀c xs,H c=some (.tup xs)->c≠x:=fun c xs r z=>by subst z;rw[r]at mu;exact mu
 by_cases hb:b=x
 . subst hb;rw[bf]at q;cases q;exact new
 . rw[bc hb]at q
   by_cases o8:b=e
   . have q':H b=some (.own x):=by
      rcases he with z | z
      . exact absurd (o8.trans z) hb
      . rw[o8];exact z
     rw[q]at q';cases q';obtain⟨v,hv⟩:=qM;exact⟨v,by rw[o8];exact hv⟩
   . refine(ok b u q).stay (fun c v hc r=>k c v ?_ r) (fun c r=>by rw[bc (EW c b r)];exact r) fun c xs r=>by rw[bc (MD c xs r)];exact r
     rcases hc with rfl | hc
     . exact o8
     . rintro rfl
       rcases he with z | z
       . exact EW c b hc z
       . rw[hc]at z;cases z;exact hb rfl
end
structure Un(fs ex:List Addr)(H H':Hp)(h h':Heap):Prop where
 keep:∀b o,h.get? b=some o->H b=none->b∉fs->b∉ex->h'.get? b=some o
 slot:∀b o,h.get? b=some o->H b=none->b∈fs->b∉ex->∃sl,h'.get? b=some { o with slots:=sl }
 free:∀b o,h.get? b=some o->H b=none->b∉ex->H' b=none
 there:∀b o,h.get? b=some o->b∉ex->∃o',h'.get? b=some o'
 tups:∀b xs,H b=some (.tup xs)->H' b=some (.tup xs)
 frzs:∀b o u,H b=some (.frz o u)->H' b=some (.frz o u)
 tbls:∀b ps,H b=some (.tbl ps)->∃more,H' b=some (.tbl (ps++more))
section
variable {fs ME ex ex':List Addr}{H H1 H2:Hp}{h h1 h2 h':Heap}{a x e:Addr}{o:HO}
theorem Un.any(u:Un fs ex H H1 h h1){b:Addr}{ob:Obj}(q:h.get? b=some ob)(n:H b=none)(hx:b∉ex):∃sl,h1.get? b=some { ob with slots:=sl }:=by
 by_cases hb:b∈fs
 . exact u.slot b ob q n hb hx
 . exact⟨ob.slots,u.keep b ob q n hb hx⟩
theorem Un.trans(a:Un fs ex H H1 h h1)(b:Un fs ex H1 H2 h1 h2):Un fs ex H H2 h h2 where
 keep:=fun c ob q n hc hx=>b.keep c ob (a.keep c ob q n hc hx) (a.free c ob q n hx) hc hx
 slot:=fun c ob q n hc hx=>by
  obtain⟨sl,e1⟩:=a.slot c ob q n hc hx;obtain⟨Ak,e2⟩:=b.slot c _ e1 (a.free c ob q n hx) hc hx;exact⟨Ak,e2⟩
 free:=fun c ob q n hx=>by
  obtain⟨o',e1⟩:=a.there c ob q hx;exact b.free c o' e1 (a.free c ob q n hx) hx
 there:=fun c ob q hx=>by
  obtain⟨o',e1⟩:=a.there c ob q hx;exact b.there c o' e1 hx
 tups:=fun c xs q=>b.tups c xs (a.tups c xs q)
 frzs:=fun c ob xs q=>b.frzs c ob xs (a.frzs c ob xs q)
 tbls:=fun c ps q=>by
  obtain⟨m1,e1⟩:=a.tbls c ps q;obtain⟨m2,e2⟩:=b.tbls c _ e1;exact⟨m1++m2,by rw[e2,Array.append_assoc]⟩
theorem Un.kept(k:∀b u,h.get? b=some u->h'.get? b=some u):Un fs ex H H h h':=
 ⟨fun b ob q _ _ _=>k b ob q,fun b ob q _ _ _=>⟨ob.slots,k b ob q⟩,fun _ _ _ n _=>n,fun b ob q _=>⟨ob,k b ob q⟩,fun _ _ q=>q,fun _ _ _ q=>q,fun _ ps q=>⟨#[],by rw[q];simp⟩⟩
theorem Un.refl:Un fs ex H H h h:=Un.kept fun _ _ q=>q
theorem Un.laid(k:∀b u,h.get? b=some u->h'.get? b=some u)(hp:h.objs.size<=a)(hn:H a=none):Un fs ex H (al H a o) h h' where
 keep:=fun b u q _ _ _=>k b u q
 slot:=fun b u q _ _ _=>⟨u.slots,k b u q⟩
 free:=fun b u q n _=>by rw[bc (ck (fO (bn q) hp))];exact n
 there:=fun b u q _=>⟨u,k b u q⟩
 tups:=fun b xs q=>by rw[bc (bF q hn)];exact q
 frzs:=fun b u xs q=>by rw[bc (bF q hn)];exact q
 tbls:=fun b ps q=>⟨#[],by rw[bc (bF q hn),q];simp⟩
theorem Un.write(mu:sO (H x))(he:e=x\/H e=some (.own x))(k:∀b u,b≠e->h.get? b=some u->h'.get? b=some u)(qM:∃u,h'.get? e=some u):Un fs ex H (al H x o) h h':=by
 have hx:∀b,H b=none->b≠x:=fun b n z=>by subst z;rw[n]at mu;exact mu
 have hb:∀b,H b=none->b≠e:=fun b n z=>by
  subst z
  rcases he with r | r
  . exact hx b n r
  . rw[n]at r;cases r
 have hm:∀b u,H b=some u->¬sO (some u)->b≠x:=fun b u q nm z=>by subst z;rw[q]at mu;exact nm mu
 refine⟨fun b u q n _ _=>k b u (hb b n) q,fun b u q n _ _=>⟨u.slots,k b u (hb b n) q⟩,fun b u q n _=>by rw[bc (hx b n)];exact n,fun b u q _=>?_,
  fun b xs q=>by rw[bc (hm b _ q fun z=>z)];exact q,fun b u xs q=>by rw[bc (hm b _ q fun z=>z)];exact q,fun b ps q=>⟨#[],by rw[bc (hm b _ q fun z=>z),q];simp⟩⟩
 by_cases o8:b=e
 . subst o8;exact qM
 . exact⟨u,k b u o8 q⟩
end
def wE(h:Heap)(H:Hp):List Addr:=(List.range h.objs.size).filter fun a=>(H a).isSome
def lE(h:Heap)(H:Hp):Heap:=PySem.W.hideAll h (wE h H)
theorem MF(h:Heap)(H:Hp):(lE h H).objs.size=h.objs.size:=PySem.W.hideAll_size _ _
theorem MG{h:Heap}{H:Hp}{b:Addr}{o:Obj}(e:h.get? b=some o)(n:H b=none):(lE h H).get? b=some o:=
 PySem.W.hideAll_get _ e fun hm=>by
  have q:(H b).isSome=true:=(iQ.mp hm).2;rw[n]at q;simp at q
theorem MH{h:Heap}{H:Hp}{b:Addr}{o:Obj}(e:(lE h H).get? b=some o):h.get? b=some o/\H b=none:=by
 have e':h.get? b=some o:=PySem.W.of_hideAll (wE h H) e;refine⟨e',?_⟩;cases q:H b with
 | none=>rfl
 | some x=>
  have hm:b∈wE h H:=iQ.mpr ⟨lq.mpr (bn e'),by simp[q]⟩;have z:(lE h H).get? b=none:=PySem.W.hideAll_none (wE h H) hm;rw[z]at e;cases e
structure Mod(K:Fg)(mg:Mv)(base:Heap):Prop where
 kin:K.In base
 glob:base.Ns mainGlobals mg
 blt:∃mb,base.Ns builtinsNs mb/\∀x:Str,x≠"__name__"->mb x=bootBuiltins x
 nolimit:base.NoLimit
structure Cx where
 prog:Program
 w:World
 K:Fg
 mg:Mv
 base:Heap
 A:Around
 N:Ls
 s₀:Shared
 H₀:Hp
 env:Env
 outer:List Env
 stack:List Env
 ex:List Addr
 fn:Str->Bool
 calm:Bool
 pn:Po
 xe:VP
def ij(l:List Env):List Addr:=l.filterMap (·.frame)
abbrev Cx.fs (X:Cx):List Addr:=ij X.outer
def wF(sc:Scope)(x:Str):Prop:=sc.names.lookup x=some .local\/sc.names.lookup x=some .cell\/sc.names.lookup x=some .free
def Loc(sc:Scope)(x:Str):Prop:=sc.names.lookup x=some .local\/sc.names.lookup x=some .cell
def Look(env:Env)(h:Heap)(m:Mv)(x:Str)(u:Value):Prop:=
 (env.kindOf x=some .local/\m x=some u)\/((env.kindOf x=some .cell\/env.kindOf x=some .free)/\∃c,env.cells.lookup x=some c/\h.IsCell c (some u))
structure Cx.Ok(X:Cx):Prop where
 mod:Mod X.K X.mg X.base
 kind:X.env.scope.kind=.function
 glob:X.env.globals=mainGlobals
 blt:X.env.builtins=builtinsNs
 above:X.s₀.heap.objs.size<=X.env.locals
 inj:∀x y c,X.env.cells.lookup x=some c->X.env.cells.lookup y=some c->x=y
 has:∀x,(X.env.kindOf x=some .cell\/X.env.kindOf x=some .free)->∃c,X.env.cells.lookup x=some c
 cab:∀x c,X.fn x=true->X.env.cells.lookup x=some c->X.s₀.heap.objs.size<=c
 hd:X.calm=true->X.A.handled=none
 frames:X.A.frames=some X.stack
 stk:X.stack=X.outer\/(X.stack=X.env::X.outer/\X.env.frame=some X.env.locals)
 exf:∀b∈X.ex,b≠X.env.locals/\∀x c,X.env.cells.lookup x=some c->c≠b
 bs:∀b o,X.base.get? b=some o->X.s₀.heap.get? b=some o/\X.H₀ b=none
 bsz:X.base.objs.size<=X.s₀.heap.objs.size
 noex:∀b o,X.base.get? b=some o->b∉X.ex
 exfs:∀b∈X.ex,b∉X.fs
 funs:X.s₀.heap.FunFrames X.base X.outer
 frf:∀b∈X.fs,X.H₀ b=none
structure Inv(X:Cx)(pins:Po)(σ:List (Option V))(H:Hp)(s:Shared):Prop where
 ok:X.Ok
 os:s.os=X.s₀.os
 bare:AllBare s.gens
 base:Un X.fs X.ex X.H₀ H X.s₀.heap s.heap
 loc:∃m,s.heap.Ns X.env.locals m/\∀(i:Nat) (x:Str) (v:V),X.N[i]?=some x->σ[i]?=some (some v)->wF X.env.scope x->∃u,RelV v u/\Look X.env s.heap m x u
 cell:∀x c,X.env.cells.lookup x=some c->∃v,s.heap.IsCell c v
 free:H X.env.locals=none
 freeC:∀x c,X.env.cells.lookup x=some c->H c=none
 pin:∀p∈X.pn++pins,s.heap.get? p.1=some p.2/\H p.1=none/\p.1≠X.env.locals/\p.1∉X.fs/\∀v,p.2.data≠.cell v
 hok:bY X.prog X.w H s.heap
 len:σ.length=X.N.length
section
variable {X:Cx}{pins:Po}{σ:List (Option V)} {H H':Hp}{s:Shared}{h':Heap}
theorem Cx.Ok.nofr(ok:X.Ok){b:Addr}{o:Obj}(e:X.base.get? b=some o):b∉X.fs:=fun hb=>by
 have:=(ok.funs.mem hb).1;rw[e]at this;cases this
theorem Inv.bs(I:Inv X pins σ H s):∀b o,X.base.get? b=some o->s.heap.get? b=some o/\H b=none:=fun b o e=>
 ⟨I.base.keep b o (I.ok.bs b o e).1 (I.ok.bs b o e).2 (I.ok.nofr e) (I.ok.noex b o e),I.base.free b o (I.ok.bs b o e).1 (I.ok.bs b o e).2 (I.ok.noex b o e)⟩
theorem Inv.bk(I:Inv X pins σ H s):∀b o,X.base.get? b=some o->s.heap.get? b=some o:=fun b o e=>(I.bs b o e).1
theorem Inv.mod(I:Inv X pins σ H s):Mod X.K X.mg X.base:=I.ok.mod
theorem Inv.kIn(I:Inv X pins σ H s):X.K.In s.heap:=I.ok.mod.kin.keeps I.bk
theorem Inv.lt(I:Inv X pins σ H s):X.env.locals<s.heap.objs.size:=I.loc.elim fun _ MI=>MI.elim fun hn _=>hn.lt
theorem Inv.sz(I:Inv X pins σ H s):X.s₀.heap.objs.size<=s.heap.objs.size:=eU I.ok.above (iR I.lt)
theorem Inv.nofs(I:Inv X pins σ H s){a:Addr}(h:s.heap.objs.size<=a):a∉X.fs:=fun hb=>by
 obtain⟨_,o,ho,_⟩:=I.ok.funs.mem hb;exact absurd (fO (bn ho) (eU I.sz h)) (lm _)
theorem Inv.cne(I:Inv X pins σ H s):∀x c,X.env.cells.lookup x=some c->c≠X.env.locals:=fun x c e z=>by
 obtain⟨v,o,ho,hd⟩:=I.cell x c e;obtain⟨m,⟨o',es,ep,fo,lF,_⟩,_⟩:=I.loc;rw[z,fo]at ho;cases ho;rw[lF]at hd;cases hd
theorem Inv.funs(I:Inv X pins σ H s):s.heap.FunFrames X.base X.outer:=by
 have all:∀(l:List Env),(∀b∈ij l,b∈X.fs)->X.s₀.heap.FunFrames X.base l->s.heap.FunFrames X.base l:=by
  intro l
  induction l with
  | nil=>intro _ _;trivial
  | cons env r ih=>
   intro hs hl;obtain⟨hk,⟨L,o,hf,hn,ho,hd⟩,hr⟩:=hl;have hL:L∈X.fs:=hs L (by unfold ij;rw[K5,hf];exact gc);obtain⟨sl,e⟩:=I.base.slot L o ho (I.ok.frf L hL) hL fun z=>I.ok.exfs L z hL;exact⟨hk,⟨L,_,hf,hn,e,hd⟩,ih (fun b hb=>hs b (by unfold ij;rw[K5,hf];exact eS _ hb)) hr⟩
 exact all X.outer (fun _ hb=>hb) I.ok.funs
theorem Inv.stack(I:Inv X pins σ H s):s.heap.FunFrames X.base X.stack:=by
 rcases I.ok.stk with e | ⟨e,hf⟩
 . rw[e];exact I.funs
 . rw[e];obtain⟨m,hn,_⟩:=I.loc;refine .cons (by rw[I.ok.kind];decide) hf hn ?_ I.funs;exact Heap.get?_none_of_le (eU I.ok.bsz I.ok.above)
theorem Inv.stkSub(I:Inv X pins σ H s):∀b∈ij X.stack,b∈X.env.locals::X.fs:=fun b hb=>by
 rcases I.ok.stk with e | ⟨e,hf⟩
 . rw[e]at hb;exact eS _ hb
 . rw[e]at hb;unfold ij at hb;rw[K5,hf]at hb;exact hb
theorem Inv.stkFree(I:Inv X pins σ H s):∀b∈ij X.stack,H b=none:=fun b hb=>by
 rcases cE.mp (I.stkSub b hb) with e | hb
 . rw[e];exact I.free
 . obtain⟨_,o,ho,_⟩:=I.ok.funs.mem hb;exact I.base.free b o ho (I.ok.frf b hb) fun z=>I.ok.exfs b z hb
theorem Inv.step{g':Array GenState}{t':Nat}{d':Drawn}{ch:List Addr}(I:Inv X pins σ H s)
 (gx:∀b∈ch,(b∈X.ex\/X.s₀.heap.objs.size<=b)/\b≠X.env.locals/\(∀x c,X.env.cells.lookup x=some c->c≠b)/\∀p∈X.pn++pins,p.1≠b)
 (keep:∀b o,b≠X.env.locals->b∉X.fs->b∉ch->s.heap.get? b=some o->H b=none->h'.get? b=some o)
 (slot:∀b o,b≠X.env.locals->b∈X.fs->b∉ch->s.heap.get? b=some o->H b=none->∃sl,h'.get? b=some { o with slots:=sl }) (free:∀b o,b∉ch->s.heap.get? b=some o->H b=none->H' b=none)
 (there:∀b o,b∉ch->s.heap.get? b=some o->∃o',h'.get? b=some o')
 (tups:∀b xs,H b=some (.tup xs)->H' b=some (.tup xs)) (frzs:∀b o u,H b=some (.frz o u)->H' b=some (.frz o u)) (tbls:∀b ps,H b=some (.tbl ps)->∃more,H' b=some (.tbl (ps++more)))
 (ns:∀m,s.heap.Ns X.env.locals m->h'.Ns X.env.locals m) (hok:bY X.prog X.w H' h') (hg:AllBare g') :
 Inv X pins σ H' { s with heap:=h',gens:=g',drawn:=d',toks:=t' }:=by
 have EX:∀b o,X.s₀.heap.get? b=some o->b≠X.env.locals:=fun b o e=>ck (fO (bn e) I.ok.above);have wG:∀b o,X.s₀.heap.get? b=some o->b∉X.ex->b∉ch:=fun b o e hx hb=>by
  rcases(gx b hb).1 with z | z
  . exact hx z
  . exact absurd (fO (bn e) z) (lm _)
 have cellK:∀x c,X.env.cells.lookup x=some c->∀v,s.heap.IsCell c v->h'.IsCell c v:=fun x c e v MJ=>MJ.elim fun o MK=>MK.elim fun ho hd=>by
  have sP:c∉ch:=fun z=>(gx c z).2.2.1 x c e rfl
  by_cases hc:c∈X.fs
  . obtain⟨sl,q⟩:=slot c o (I.cne x c e) hc sP ho (I.freeC x c e);exact⟨_,q,hd⟩
  . exact⟨o,keep c o (I.cne x c e) hc sP ho (I.freeC x c e),hd⟩
 refine⟨I.ok,I.os,hg,⟨fun b o e n hb hx=>?_,fun b o e n hb hx=>?_,fun b o e n hx=>?_,fun b o e hx=>?_,fun b xs e=>tups b xs (I.base.tups b xs e),fun b o xs e=>frzs b o xs (I.base.frzs b o xs e),fun b ps e=>?_⟩,?_,fun x c e=>?_,?_,fun x c e=>?_,fun p hp=>?_,hok,I.len⟩
 . exact keep b o (EX b o e) hb (wG b o e hx) (I.base.keep b o e n hb hx) (I.base.free b o e n hx)
 . obtain⟨sl,e1⟩:=I.base.slot b o e n hb hx;obtain⟨Ak,e2⟩:=slot b _ (EX b o e) hb (wG b o e hx) e1 (I.base.free b o e n hx);exact⟨Ak,e2⟩
 . obtain⟨o',e1⟩:=I.base.there b o e hx;exact free b o' (wG b o e hx) e1 (I.base.free b o e n hx)
 . obtain⟨o',e1⟩:=I.base.there b o e hx;exact there b o' (wG b o e hx) e1
 . obtain⟨m1,e1⟩:=I.base.tbls b ps e;obtain⟨m2,e2⟩:=tbls b _ e1;exact⟨m1++m2,by rw[e2,Array.append_assoc]⟩
 . obtain⟨m,hn,hl⟩:=I.loc;refine⟨m,ns m hn,fun i x v e1 e2 e3=>?_⟩;obtain⟨u,r,l⟩:=hl i x v e1 e2 e3;refine⟨u,r,?_⟩
   rcases l with l | ⟨k,c,e,z⟩
   . exact .inl l
   . exact .inr ⟨k,c,e,cellK x c e _ z⟩
 . obtain⟨v,z⟩:=I.cell x c e;exact⟨v,cellK x c e v z⟩
 . obtain⟨m,⟨o,_,_,ho,_⟩,_⟩:=I.loc;exact free _ o (fun z=>(gx _ z).2.1 rfl) ho I.free
 . obtain⟨v,o,ho,hd⟩:=I.cell x c e;exact free c o (fun z=>(gx c z).2.2.1 x c e rfl) ho (I.freeC x c e)
 . obtain⟨e,n,ne,nf,d⟩:=I.pin p hp;have sP:p.1∉ch:=fun z=>(gx p.1 z).2.2.2 p hp rfl;exact⟨keep p.1 p.2 ne nf sP e n,free p.1 p.2 sP e n,ne,nf,d⟩
theorem Inv.un{t':Nat}(I:Inv X pins σ H s)(u:Un X.fs [] H H' s.heap h')(hok:bY X.prog X.w H' h'):Inv X pins σ H' { s with heap:=h',toks:=t' }:=by
 obtain⟨m,⟨o,es,ep,ho,r⟩,_⟩:=id I.loc;obtain⟨sl,hL⟩:=u.any ho I.free (by simp);exact I.step (g':=s.gens) (d':=s.drawn) (ch:=[]) (fun _ z=>nomatch z) (fun b o _ hb _ e n=>u.keep b o e n hb (by simp)) (fun b o _ hb _ e n=>u.slot b o e n hb (by simp)) (fun b o _ e n=>u.free b o e n (by simp)) (fun b o _ e=>u.there b o e (by simp)) u.tups u.frzs u.tbls (fun m' hm=>by
  obtain⟨o',es',Al,fo,r'⟩:=hm;rw[ho]at fo;cases fo;exact⟨_,es',Al,hL,r'⟩) hok I.bare
theorem Inv.call{g':Array GenState}{t':Nat}{d':Drawn}{ch:List Addr}(I:Inv X pins σ H s)(u:Un (ij X.stack) ch H H' s.heap h')(hok:bY X.prog X.w H' h')(hg:AllBare g')
 (gx:∀b∈ch,(b∈X.ex\/X.s₀.heap.objs.size<=b)/\b≠X.env.locals/\(∀x c,X.env.cells.lookup x=some c->c≠b)/\∀p∈X.pn++pins,p.1≠b) :
 Inv X pins σ H' { s with heap:=h',gens:=g',drawn:=d',toks:=t' }:=by
 obtain⟨m,⟨o,es,ep,ho,r⟩,_⟩:=id I.loc;obtain⟨sl,hL⟩:=u.any ho I.free fun z=>(gx _ z).2.1 rfl;exact I.step (ch:=ch) gx (fun b o hL hb hc e n=>u.keep b o e n (fun z=>(cE.mp (I.stkSub b z)).elim hL hb) hc) (fun b o _ _ hc e n=>u.any e n hc) (fun b o hc e n=>u.free b o e n hc) (fun b o hc e=>u.there b o e hc) u.tups u.frzs u.tbls (fun m' hm=>by
  obtain⟨o',es',Al,fo,r'⟩:=hm;rw[ho]at fo;cases fo;exact⟨_,es',Al,hL,r'⟩) hok hg
theorem Inv.turned{t':Nat}{it:Addr}(I:Inv X pins σ H s)(k:∀b o,b≠it->s.heap.get? b=some o->h'.get? b=some o)(hn:H it=none)(hL:it≠X.env.locals)
 (h1:it∈X.ex\/X.s₀.heap.objs.size<=it) (h2:∀x c,X.env.cells.lookup x=some c->c≠it) (h3:∀p∈X.pn++pins,p.1≠it):Inv X pins σ H { s with heap:=h',toks:=t' }:=by
 have sQ:∀b u,H b=some u->b≠it:=fun b u e z=>by rw[z,hn]at e;cases e
 refine I.step (g':=s.gens) (d':=s.drawn) (ch:=[it]) (fun b hb=>?_) (fun b o _ _ hc e _=>k b o (fun z=>hc (by simp[z])) e) (fun b o _ _ hc e _=>⟨o.slots,k b o (fun z=>hc (by simp[z])) e⟩) (fun _ _ _ _ n=>n)
  (fun b o hc e=>⟨o,k b o (fun z=>hc (by simp[z])) e⟩) (fun _ _ e=>e) (fun _ _ _ e=>e) (fun b ps e=>⟨#[],by rw[e];simp⟩) (fun m hm=>?_) (fun b u e=>?_) I.bare
 . have e:b=it:=by simpa using hb
   subst e;exact⟨h1,hL,h2,h3⟩
 . obtain⟨o,es,ep,ho,r⟩:=hm;exact⟨o,es,ep,k _ o (gM hL) ho,r⟩
 . refine(I.hok b u e).stay (fun c v hc q=>k c v ?_ q) (fun _ q=>q) fun _ _ q=>q
   rcases hc with z | z
   . rw[z];exact sQ b u e
   . exact sQ c _ z
theorem Inv.tok(I:Inv X pins σ H s)(t:Nat):Inv X pins σ H { s with toks:=t }:=I.un (h':=s.heap) (t':=t) Un.refl I.hok
theorem Inv.kept{t':Nat}(I:Inv X pins σ H s)(k:∀b u,s.heap.get? b=some u->h'.get? b=some u):Inv X pins σ H { s with heap:=h',toks:=t' }:=I.un (Un.kept k) (I.hok.kept k)
theorem Inv.laid{a:Addr}{o:HO}{t':Nat}(I:Inv X pins σ H s)(k:∀b u,s.heap.get? b=some u->h'.get? b=some u)(hp:s.heap.objs.size<=a)(new:bX X.prog X.w (al H a o) h' a o) :
 Inv X pins σ (al H a o) { s with heap:=h',toks:=t' }:=I.un (Un.laid k hp (I.hok.fresh hp)) (I.hok.laid k hp new)
theorem Inv.write{x e:Addr}{o:HO}{t':Nat}(I:Inv X pins σ H s)(mu:sO (H x))(he:e=x\/H e=some (.own x))(k:∀b u,b≠e->s.heap.get? b=some u->h'.get? b=some u)(qM:∃u,h'.get? e=some u)
 (new:bX X.prog X.w (al H x o) h' x o):Inv X pins σ (al H x o) { s with heap:=h',toks:=t' }:=I.un (Un.write mu he k qM) (I.hok.write mu he k qM new)
theorem Inv.pins_of{EY:Po}(I:Inv X pins σ H s)(h:∀p∈EY,s.heap.get? p.1=some p.2/\H p.1=none/\p.1≠X.env.locals/\p.1∉X.fs/\∀v,p.2.data≠.cell v):Inv X EY σ H s:=
 ⟨I.ok,I.os,I.bare,I.base,I.loc,I.cell,I.free,I.freeC,fun p hp=>(gN.mp hp).elim (fun z=>I.pin p (zR _ z)) (h p),I.hok,I.len⟩
theorem EZ{N:Ls}(hN:N.Nodup){i j:Nat}{x:Str}(a:N[i]?=some x)(b:N[j]?=some x):i=j:=by
 obtain⟨h1,e1⟩:=bW.mp a;obtain⟨h2,e2⟩:=bW.mp b;exact(K6 hN).mp (e1.trans e2.symm)
theorem E2{M:Model}{A:Around}{E:VP}{i:Nat}{x:Str}{v:V}{u:Value}{Q:Unit->Shared->Prop}(I:Inv X pins σ H s)(hN:X.N.Nodup)(hi:X.N[i]?=some x)(hx:Loc X.env.scope x)(r:RelV v u)
 (h:∀s',Inv X pins (σ.set i (some v)) H s'->(∃a,Heap.SameBut a s.heap s'.heap/\(a=X.env.locals\/X.env.cells.lookup x=some a))->Q () s') (hf:X.fn x=true\/X.env.scope.names.lookup x=some .local:=by first | exact .inl rfl | exact .inr rfl | assumption):wpAny M A (storeName X.env x u) Q E s:=by
 obtain⟨m,hn,hl⟩:=id I.loc;have MM:(X.env.scope.kind == .class || (X.env.scope.kind == .module && X.env.locals != X.env.globals))=false:=by rw[I.ok.kind];rfl
 have E3:i<σ.length:=by rw[I.len];exact(bW.mp hi).1
 have cne:=I.cne;have tracked:∀{a:Addr}{h':Heap},(∃o,s.heap.get? a=some o/\H a=none)->Heap.SameBut a s.heap h'->bY X.prog X.w H h':=fun {a h'} ha hs b ob e=>by
  obtain⟨_,_,E4⟩:=ha;refine(I.hok b ob e).stay (fun c w' hc q=>(hs.2 c ?_).trans q) (fun _ q=>q) fun _ _ q=>q;rintro rfl
  rcases hc with rfl | hc
  . rw[E4]at e;cases e
  . rw[E4]at hc;cases hc
 rcases hx with hk | hk
 . refine wpAny_storeName_local hk hn (fun h' kF hs=>?_) MM;obtain⟨oL,_,_,lG,_⟩:=id hn;refine h _ ⟨I.ok,I.os,I.bare,⟨fun b o e n hb hx=>?_,fun b o e n hb hx=>?_,I.base.free,fun b o e hx=>?_,I.base.tups,I.base.frzs,I.base.tbls⟩,⟨_,kF,fun j y v' e1 e2 e3=>?_⟩,fun y c e=>?_,I.free,I.freeC,fun p hp=>?_,tracked ⟨oL,lG,I.free⟩ hs,by simpa using I.len⟩ ⟨_,hs,.inl rfl⟩
   . exact(hs.2 b (ck (fO (bn e) I.ok.above))).trans (I.base.keep b o e n hb hx)
   . obtain⟨sl,e1⟩:=I.base.slot b o e n hb hx;exact⟨sl,(hs.2 b (ck (fO (bn e) I.ok.above))).trans e1⟩
   . obtain⟨o',e1⟩:=I.base.there b o e hx;exact⟨o',(hs.2 b (ck (fO (bn e) I.ok.above))).trans e1⟩
   . by_cases hj:j=i
     . subst hj;rw[hi]at e1;cases e1;rw[ago E3]at e2;cases e2;exact⟨u,r,.inl ⟨hk,by simp⟩⟩
     . rw[List.getElem?_set_ne (gM hj)]at e2;obtain⟨u',r',q⟩:=hl j y v' e1 e2 e3;refine⟨u',r',?_⟩
       rcases q with⟨k,e⟩ | ⟨k,c,e,z⟩
       . refine .inl ⟨k,?_⟩;have:y≠x:=fun e=>hj (EZ hN e1 (e▸hi));simp[this,e]
       . exact .inr ⟨k,c,e,z.sameBut hs (cne y c e)⟩
   . obtain⟨w',z⟩:=I.cell y c e;exact⟨w',z.sameBut hs (cne y c e)⟩
   . obtain⟨e,n,ne,nf,d⟩:=I.pin p hp;exact⟨(hs.2 p.1 ne).trans e,n,ne,nf,d⟩
 . have qN:X.fn x=true:=by
    rcases hf with z | z
    . exact z
    . rw[z]at hk;cases hk
   obtain⟨c,hc⟩:=I.ok.has x (.inl hk);obtain⟨w',z⟩:=I.cell x c hc;refine wpAny_storeName_cell I.ok.kind hk hc z (fun h' m7 hs=>?_);obtain⟨oc,E5,MN⟩:=id z;refine h { s with heap:=h' } ⟨I.ok,I.os,I.bare,⟨fun b o e n hb hx=>?_,fun b o e n hb hx=>?_,I.base.free,fun b o e hx=>?_,I.base.tups,I.base.frzs,I.base.tbls⟩,⟨m,hn.sameBut hs (gM (cne x c hc)),fun j y v' e1 e2 e3=>?_⟩,fun y c' e=>?_,I.free,I.freeC,fun p hp=>?_,tracked ⟨oc,E5,I.freeC x c hc⟩ hs,by simpa using I.len⟩ ⟨c,hs,.inr hc⟩
   . exact(hs.2 b (ck (fO (bn e) (I.ok.cab x c qN hc)))).trans (I.base.keep b o e n hb hx)
   . obtain⟨sl,e1⟩:=I.base.slot b o e n hb hx;exact⟨sl,(hs.2 b (ck (fO (bn e) (I.ok.cab x c qN hc)))).trans e1⟩
   . obtain⟨o',e1⟩:=I.base.there b o e hx;exact⟨o',(hs.2 b (ck (fO (bn e) (I.ok.cab x c qN hc)))).trans e1⟩
   . by_cases hj:j=i
     . subst hj;rw[hi]at e1;cases e1;rw[ago E3]at e2;cases e2;exact⟨u,r,.inr ⟨.inl hk,c,hc,m7⟩⟩
     . rw[List.getElem?_set_ne (gM hj)]at e2;obtain⟨u',r',q⟩:=hl j y v' e1 e2 e3;refine⟨u',r',?_⟩
       rcases q with q | ⟨k,c',e,z'⟩
       . exact .inl q
       . refine .inr ⟨k,c',e,z'.sameBut hs ?_⟩;rintro rfl;exact hj (EZ hN e1 (I.ok.inj _ _ _ e hc▸hi))
   . by_cases qO:c'=c
     . subst qO;exact⟨_,m7⟩
     . obtain⟨w2,z2⟩:=I.cell y c' e;exact⟨w2,z2.sameBut hs qO⟩
   . obtain⟨e,n,ne,nf,d⟩:=I.pin p hp;refine⟨(hs.2 p.1 ?_).trans e,n,ne,nf,d⟩;intro q;rw[q,E5]at e;have q':oc=p.2:=gu e;exact d w' (by rw[←q'];exact MN)
theorem E6{M:Model}{A:Around}{E:VP}{i:Nat}{x:Str}{v:V}{u:Value}{Q:Unit->Shared->Prop}(I:Inv X pins σ H s)(hN:X.N.Nodup)(hi:X.N[i]?=some x)(hx:Loc X.env.scope x)(r:RelV v u)
 (h:∀s',Inv X pins (σ.set i (some v)) H s'->Q () s') (hf:X.fn x=true\/X.env.scope.names.lookup x=some .local:=by first | exact .inl rfl | exact .inr rfl | assumption):wpAny M A (storeName X.env x u) Q E s:=
 E2 I hN hi hx r (fun s' I' _=>h s' I') hf
theorem Inv.call'{s':Shared}{ch:List Addr}(I:Inv X pins σ H s)(ho:s'.os=s.os)(u:Un (ij X.stack) ch H H' s.heap s'.heap)(hok:bY X.prog X.w H' s'.heap)(hg:AllBare s'.gens)
 (gx:∀b∈ch,(b∈X.ex\/X.s₀.heap.objs.size<=b)/\b≠X.env.locals/\(∀x c,X.env.cells.lookup x=some c->c≠b)/\∀p∈X.pn++pins,p.1≠b):Inv X pins σ H' s':=by
 obtain⟨h',g',d',t',o'⟩:=s';have e:o'=s.os:=ho;subst e;exact I.call (g':=g') (t':=t') (d':=d') u hok hg gx
end
abbrev XK:=Value->Oa->Hp->Prop
abbrev St:=List (Option V)
abbrev VK:=V->Hp->Prop
abbrev TE:=St->Hp->VK->Prop
abbrev TT:=St->Hp->(Bool->Hp->Prop)->Prop
abbrev TA:=St->Hp->(Lv->Hp->Prop)->Prop
structure Ends where
 nx:St->Hp->Prop
 rt:VK
 bk:St->Hp->Prop:=fun _ _=>False
 ct:St->Hp->Prop:=fun _ _=>False
abbrev TS:=Ends->St->Hp->Prop
def EP(X:Cx)(pins:Po)(σ:St)(Q:VK)(u:Value)(s':Shared):Prop:=∃v H',Inv X pins σ H' s'/\RelV v u/\Q v H'
def TP(X:Cx)(pins:Po)(σ:St)(Q:Bool->Hp->Prop)(b:Bool)(s':Shared):Prop:=∃H',Inv X pins σ H' s'/\Q b H'
def AP(X:Cx)(pins:Po)(σ:St)(Q:Lv->Hp->Prop)(us:Lw)(s':Shared):Prop:=∃vs H',Inv X pins σ H' s'/\aU vs us/\Q vs H'
def SP(X:Cx)(pins:Po)(D:Ends)(f:Flow)(s':Shared):Prop:=
 match f with
 | .next=>∃σ' H',Inv X pins σ' H' s'/\D.nx σ' H'
 | .brk=>∃σ' H',Inv X pins σ' H' s'/\D.bk σ' H'
 | .cont=>∃σ' H',Inv X pins σ' H' s'/\D.ct σ' H'
 | .ret u=>∃v σ' H',Inv X pins σ' H' s'/\RelV v u/\D.rt v H'
def PE(X:Cx)(e:Expr)(t:TE):Prop:=
 ∀(pins:Po) (s:Shared) (σ:St) (H:Hp) (Q:VK),Inv X pins σ H s->t σ H Q->wpAny (model X.prog X.w) X.A (eval e X.env) (EP X pins σ Q) X.xe s
def PT(X:Cx)(e:Expr)(t:TT):Prop:=
 ∀(pins:Po) (s:Shared) (σ:St) (H:Hp) (Q:Bool->Hp->Prop),Inv X pins σ H s->t σ H Q->wpAny (model X.prog X.w) X.A (isTrue e X.env (eval e X.env)) (TP X pins σ Q) X.xe s
def PW(X:Cx)(e:Expr)(t:TT):Prop:=
 ∀(whole:Sem Value) (pins:Po) (s:Shared) (σ:St) (H:Hp) (Q:Bool->Hp->Prop),Inv X pins σ H s->t σ H Q->wpAny (model X.prog X.w) X.A (isTrue e X.env whole) (TP X pins σ Q) X.xe s
theorem PW.pt{X:Cx}{e:Expr}{t:TT}(h:PW X e t):PT X e t:=h _
def PA(X:Cx)(es:List Expr)(t:TA):Prop:=
 ∀(pos:Pos) (pins:Po) (s:Shared) (σ:St) (H:Hp) (Q:Lv->Hp->Prop),Inv X pins σ H s->t σ H Q->wpAny (model X.prog X.w) X.A (spliced (backTo pos (starEach es X.env))) (AP X pins σ Q) X.xe s
def PS(X:Cx)(st:Stmt)(t:TS):Prop:=
 ∀(pins:Po) (s:Shared) (σ:St) (H:Hp) (D:Ends),Inv X pins σ H s->t D σ H->wpAny (model X.prog X.w) X.A (exec st X.env) (SP X pins D) X.xe s
def c7(X:Cx)(st:List Stmt)(t:TS):Prop:=
 ∀(pins:Po) (s:Shared) (σ:St) (H:Hp) (D:Ends),Inv X pins σ H s->t D σ H->wpAny (model X.prog X.w) X.A (execs st X.env) (SP X pins D) X.xe s
theorem thn{α:Type}{t:Sem α}{Q Q':α->Shared->Prop}{M:Model}{A:Around}{E:VP}{s:Shared}(h:wpAny M A t Q E s)(hQ:∀a s,Q a s->Q' a s):wpAny M A t Q' E s:=ej h hQ fun _ _ x=>x
section
variable {X:Cx}
def qP(i:Nat):TE:=fun σ H Q=>∃v,σ[i]?=some (some v)/\Q v H
def tC(v:V):TE:=fun _ H Q=>Q v H
theorem MO{i:Nat}{x:Str}{pos:Pos}(hN:X.N[i]?=some x)(hv:wF X.env.scope x)(hd:(x == ("__debug__":Str))=false:=by decide)(ik:(x == ("__classdict__":Str))=false:=by decide):PE X (.Name x pos) (qP i):=by
 intro pins s σ H Q I h;obtain⟨v,e,h⟩:=h;obtain⟨m,hn,hl⟩:=I.loc;obtain⟨u,r,l⟩:=hl i x v hN e hv;have fin:EP X pins σ Q u s:=⟨v,H,I,r,h⟩
 rcases l with⟨hk,hm⟩ | ⟨hk,c,hc,hcell⟩
 . exact wpAny_Name (wpAny_loadName_local I.ok.kind hk hn hm fin) hd
 . rcases hk with hk | hk
   . exact wpAny_Name (wpAny_loadName_cell I.ok.kind hk hc hcell fin) hd
   . exact wpAny_Name (wpAny_loadName_free I.ok.kind hk hc hcell fin ik) hd
theorem ae{i j pos}:PE X (.Constant (.int i) j pos) (tC (.int i)):=fun _ _ _ H _ I h=>wpAny_Constant_int ⟨.int i,H,I.tok _,⟨_,rfl⟩,h⟩
theorem dr{b j pos}:PE X (.Constant (.bool b) j pos) (tC (.bl b)):=fun _ _ _ H _ I h=>Constant_bool ⟨.bl b,H,I,rfl,h⟩
theorem cI{j pos}:PE X (.Constant .none j pos) (tC .non):=fun _ _ _ H _ I h=>Constant_none ⟨.non,H,I,rfl,h⟩
theorem bh{x j pos}:PE X (.Constant (.str x) j pos) (tC (.str x)):=fun _ _ _ H _ I h=>Calls.Constant_str ⟨.str x,H,I.tok _,⟨_,rfl⟩,h⟩
def Gl(X:Cx)(x:Str):Prop:=X.env.kindOf x=some .globalImplicit
theorem wH{E:VP}{pins:Po}{s:Shared}{σ:St}{H:Hp}{x:Str}{u:Value}{pos:Pos}{Q:VP}(I:Inv X pins σ H s)(hg:Gl X x)(hm:X.mg x=some u)(h:Q u s)
 (hd:(x == ("__debug__":Str))=false:=by decide):wpAny (model X.prog X.w) X.A (eval (.Name x pos) X.env) Q E s:=
 agp I.ok.kind hg (Calls.loadGlobal_global (by rw[I.ok.glob];exact I.mod.glob.keeps I.bk) hm h) hd
theorem sR{E:VP}{pins:Po}{s:Shared}{σ:St}{H:Hp}{x:Str}{u:Value}{pos:Pos}{Q:VP}(I:Inv X pins σ H s)(hg:Gl X x)(hm:X.mg x=none)(hv:bootBuiltins x=some u)(h:Q u s)
 (hn:x≠"__name__":=by decide) (hd:(x == ("__debug__":Str))=false:=by decide):wpAny (model X.prog X.w) X.A (eval (.Name x pos) X.env) Q E s:=by
 obtain⟨mb,h1,h2⟩:=I.mod.blt;exact agp I.ok.kind hg (Calls.loadGlobal_builtin (by rw[I.ok.glob];exact I.mod.glob.keeps I.bk) hm (by rw[I.ok.blt];exact h1.keeps I.bk) ((h2 x hn).trans hv) h) hd
theorem MP{x:Str}{v:V}{u:Value}{pos:Pos}(hg:Gl X x)(hm:X.mg x=some u)(r:RelV v u)(hd:(x == ("__debug__":Str))=false:=by decide):PE X (.Name x pos) (tC v):=
 fun _ _ _ H _ I h=>wH I hg hm ⟨v,H,I,r,h⟩ hd
theorem sT{x:Str}{v:V}{u:Value}{pos:Pos}(hg:Gl X x)(hm:X.mg x=none)(hv:bootBuiltins x=some u)(r:RelV v u)(hn:x≠"__name__":=by decide)(hd:(x == ("__debug__":Str))=false:=by decide):PE X (.Name x pos) (tC v):=
 fun _ _ _ H _ I h=>sR I hg hm hv ⟨v,H,I,r,h⟩ hn hd
variable {a b:Expr}{ta tb:TE}{pos:Pos}
def PC(X:Cx)(op:CmpOp)(a b:Expr)(t:TE):Prop:=
 ∀(pins:Po) (s:Shared) (σ:St) (H:Hp) (Q:VK),Inv X pins σ H s->t σ H Q ->
  wpAny (model X.prog X.w) X.A (eval a X.env) (fun v s₁=>wpAny (model X.prog X.w) X.A (eval b X.env) (fun u s₂=>wpAny (model X.prog X.w) X.A (compareOp op v u) (EP X pins σ Q) X.xe s₂) X.xe s₁) X.xe s
def tB(t:TE):TT:=fun σ H Q=>t σ H fun x H1=>∃c,x=.bl c/\Q c H1
theorem MQ{op:CmpOp}{t:TE}(h:PC X op a b t)(h1:behindInMarks op b=false:=by first | exact nobehind _ (by decide) (by decide) | rfl):PE X (.Compare a [op] [b] pos) t:=fun pins s σ H Q I hw=>wpAny_Compare1 (h pins s σ H Q I hw) h1
theorem Am{op:CmpOp}{t:TE}(h:PC X op a b t)(h1:behindInMarks op b=false:=by first | exact nobehind _ (by decide) (by decide) | rfl):PT X (.Compare a [op] [b] pos) (tB t):=by
 intro pins s σ H Q I hw;refine agq (thn (h pins s σ H _ I hw) fun v s1 h1=>thn h1 fun u s2 h2=>thn h2 fun c s3 MR=>MR.elim fun x MU=>MU.elim fun H1 MV=>MV.elim fun I1 MW=>MW.elim fun r1 q1=>?_) h1;obtain⟨d,rfl,q⟩:=q1;cases r1;exact lj ⟨H1,I1,q⟩
theorem im{e:Expr}{t:TE}(h:PE X e t)(he:∀whole,isTrue e X.env whole=(do let v ←whole;standAt e.pos;holding [v] (truthy v)):=by intro _;rfl):PT X e (tB t):=by
 intro pins s σ H Q I hw;refine isTrue_plain (thn (h pins s σ H _ I hw) fun v s1 MX=>MX.elim fun x MY=>MY.elim fun H1 MZ=>MZ.elim fun I1 M3=>M3.elim fun r1 q1=>?_) (he _);obtain⟨d,rfl,q⟩:=q1;cases r1;exact lj ⟨H1,I1,q⟩
variable {tA wI:TT}{rest:List Expr}
def M4(t u:TT):TT:=fun σ H Q=>t σ H fun c H1=>if c=true then u σ H1 Q else Q false H1
def M5(t u:TT):TT:=fun σ H Q=>t σ H fun c H1=>if c=true then Q true H1 else u σ H1 Q
def E7(t:TT):TT:=fun σ H Q=>t σ H fun c H1=>Q (!c) H1
theorem wJ(ha:PT X a tA):PW X (.BoolOp .And [a] pos) tA:=by
 intro wh pins s σ H Q I h;refine isTrue_and (thn (ha pins s σ H Q I h) fun c s1 e=>?_);cases c with
 | true=>exact isTrue_and_nil e
 | false=>exact e
theorem jJ(ha:PT X a tA):PW X (.BoolOp .Or [a] pos) tA:=by
 intro wh pins s σ H Q I h;refine isTrue_or (thn (ha pins s σ H Q I h) fun c s1 e=>?_);cases c with
 | false=>exact isTrue_or_nil e
 | true=>exact e
theorem sU(ha:PT X a tA)(hb:PW X (.BoolOp .And (b::rest) pos) wI):PW X (.BoolOp .And (a::b::rest) pos) (M4 tA wI):=by
 intro wh pins s σ H Q I h;refine isTrue_and (thn (ha pins s σ H _ I h) fun c s1 M6=>M6.elim fun H1 M7=>M7.elim fun I1 q1=>?_);cases c with
 | true=>exact hb wh pins s1 σ H1 Q I1 q1
 | false=>exact⟨H1,I1,q1⟩
theorem gS(ha:PT X a tA)(hb:PW X (.BoolOp .Or (b::rest) pos) wI):PW X (.BoolOp .Or (a::b::rest) pos) (M5 tA wI):=by
 intro wh pins s σ H Q I h;refine isTrue_or (thn (ha pins s σ H _ I h) fun c s1 M8=>M8.elim fun H1 M9=>M9.elim fun I1 q1=>?_);cases c with
 | true=>exact⟨H1,I1,q1⟩
 | false=>exact hb wh pins s1 σ H1 Q I1 q1
theorem jK(ha:PT X a tA):PT X (.UnaryOp .Not a pos) (E7 tA):=by
 intro pins s σ H Q I h;exact isTrue_not (ha pins s σ H (fun c H1=>Q (!c) H1) I h)
def Na(ta tb:TE):TE:=fun σ H Q=>ta σ H fun x H1=>∃c,x=.bl c/\if c=true then tb σ H1 Q else Q (.bl false) H1
def Nb(ta tb:TE):TE:=fun σ H Q=>ta σ H fun x H1=>∃c,x=.bl c/\if c=true then Q (.bl true) H1 else tb σ H1 Q
def Nc(ta:TE):TE:=fun σ H Q=>ta σ H fun x H1=>∃c,x=.bl c/\Q (.bl (!c)) H1
theorem fq{op}{t:TE}(h:PE X a t):PE X (.BoolOp op [a] pos) t:=fun pins s σ H Q I hw=>BoolOp_one (h pins s σ H Q I hw)
theorem eW(ha:PE X a ta)(hb:PE X (.BoolOp .And (b::rest) pos) tb):PE X (.BoolOp .And (a::b::rest) pos) (Na ta tb):=by
 intro pins s σ H Q I h;refine BoolOp_and (thn (ha pins s σ H _ I h) fun v s1 Nd=>Nd.elim fun x Nf=>Nf.elim fun H1 Ng=>Ng.elim fun I1 Nh=>Nh.elim fun r1 q1=>?_);obtain⟨c,rfl,q1⟩:=q1;cases r1;refine lj ?_;cases c with
 | true=>exact hb pins s1 σ H1 Q I1 q1
 | false=>exact⟨.bl false,H1,I1,rfl,q1⟩
theorem wK(ha:PE X a ta)(hb:PE X (.BoolOp .Or (b::rest) pos) tb):PE X (.BoolOp .Or (a::b::rest) pos) (Nb ta tb):=by
 intro pins s σ H Q I h;refine BoolOp_or (thn (ha pins s σ H _ I h) fun v s1 Ni=>Ni.elim fun x Nj=>Nj.elim fun H1 Nk=>Nk.elim fun I1 Nl=>Nl.elim fun r1 q1=>?_);obtain⟨c,rfl,q1⟩:=q1;cases r1;refine lj ?_;cases c with
 | false=>exact hb pins s1 σ H1 Q I1 q1
 | true=>exact⟨.bl true,H1,I1,rfl,q1⟩
theorem An(ha:PE X a ta):PE X (.UnaryOp .Not a pos) (Nc ta):=by
 intro pins s σ H Q I h;refine UnaryOp_ (thn (ha pins s σ H _ I h) fun v s1 Nm=>Nm.elim fun x Nn=>Nn.elim fun H1 No=>No.elim fun I1 Np=>Np.elim fun r1 q1=>?_);obtain⟨c,rfl,q1⟩:=q1;cases r1;exact not_of (lj ⟨.bl (!c),H1,I1,rfl,q1⟩)
def Nq(t:TT)(ta tb:TE):TE:=fun σ H Q=>t σ H fun c H1=>if c=true then ta σ H1 Q else tb σ H1 Q
theorem Nr{c:Expr}(hc:PT X c tA)(ha:PE X a ta)(hb:PE X b tb):PE X (.IfExp c a b pos) (Nq tA ta tb):=by
 intro pins s σ H Q I h;refine wpAny_IfExp (thn (hc pins s σ H _ I h) fun d s1 Nt=>Nt.elim fun H1 Nu=>Nu.elim fun I1 q1=>?_);cases d with
 | true=>exact ha pins s1 σ H1 Q I1 q1
 | false=>exact hb pins s1 σ H1 Q I1 q1
end
def ah(K:Fg)(H:Hp)(a:Addr)(xs:Lv):Prop:=
 Rd H a (.lst xs) \/
  ∃(o:Obj) (its:Av) (n:Nat),K.lookup a=some o/\o.cls=.type "list"/\o.dict=none/\o.data=.seq its n/\its.size<=sizeLine/\aU xs its.toList
def ak(K:Fg)(H:Hp)(a:Addr)(xs:Lv):Prop:=
 Rd H a (.tup xs) \/
  ∃(o:Obj) (its:Av) (n:Nat),K.lookup a=some o/\o.cls=.type "tuple"/\o.data=.seq its n/\its.size<=sizeLine/\aU xs its.toList
def Nv:Value->Option V
 | .none=>some .non
 | .bool b=>some (.bl b)
 | .int i _=>some (.int i)
 | .str x _=>some (.str x)
 | .bytes b _=>some (.byt b)
 | .float b _=>some (.flt b)
 | .ref a=>some (.ref a)
 | .type n=>some (.ty n)
 | _=>none
theorem RelV.abs{x:V}{u:Value}(r:RelV x u):Nv u=some x:=by
 cases x with
 | non=>cases r;rfl
 | bl _=>cases r;rfl
 | int _=>obtain⟨t,rfl⟩:=r;rfl
 | str _=>obtain⟨t,rfl⟩:=r;rfl
 | byt _=>obtain⟨t,rfl⟩:=r;rfl
 | flt _=>obtain⟨t,rfl⟩:=r;rfl
 | ref _=>cases r;rfl
 | ty _=>cases r;rfl
theorem RelV.inj{x y:V}{u:Value}(r:RelV x u)(q:RelV y u):x=y:=gu (r.abs.symm.trans q.abs)
theorem aU.inj:∀{xs ys:Lv}{us:Lw},aU xs us->aU ys us->xs=ys
 | _,_,_,.nil,.nil=>rfl
 | _,_,_,.cons r t,.cons r' t'=>by rw[r.inj r',aU.inj t t']
section
variable {X:Cx}{pins:Po}{σ:St}{H:Hp}{s:Shared}{a:Addr}{xs ys:Lv}
theorem ah.of{K:Fg}(h:H a=some (.lst xs)):ah K H a xs:=.inl (.inl h)
theorem ak.of{K:Fg}(h:H a=some (.tup xs)):ak K H a xs:=.inl (.inl h)
theorem Inv.list(I:Inv X pins σ H s)(h:ah X.K H a xs):∃its:Lw,aU xs its/\PlainL s.heap a its.toArray/\xs.length<=sizeLine:=by
 rcases h with h | ⟨o,its,n,hk,hc,hd,hs,hz,r⟩
 . obtain⟨z,its,n,r,e⟩:=h.ok I.hok;exact⟨its,r,⟨_,n,e,rfl,rfl,rfl⟩,z⟩
 . refine⟨its.toList,r,⟨o,n,I.kIn a o hk,hc,hd,by simpa using hs⟩,?_⟩;have e:=r.length;simp only[jD]at e;omega
theorem Inv.tuple(I:Inv X pins σ H s)(h:ak X.K H a xs):∃its:Lw,aU xs its/\IsTup s.heap a its.toArray/\xs.length<=sizeLine:=by
 rcases h with h | ⟨o,its,n,hk,hc,hs,hz,r⟩
 . obtain⟨z,its,r,p⟩:=h.ok I.hok;exact⟨its,r,p,z⟩
 . refine⟨its.toList,r,⟨o,I.kIn a o hk,hc,n,by simpa using hs⟩,?_⟩;have e:=r.length;simp only[jD]at e;omega
theorem Inv.list_inj(I:Inv X pins σ H s)(h:ah X.K H a xs)(h':ah X.K H a ys):xs=ys:=by
 obtain⟨its,r,⟨o,n,e,_,_,d⟩,_⟩:=I.list h;obtain⟨its',r',⟨o',n',e',_,_,d'⟩,_⟩:=I.list h';rw[e]at e';cases e';rw[d]at d';injection d' with d1 _
 have:its=its':=by simpa using kD Array.toList d1
 subst this;exact r.inj r'
end
abbrev Cx.wish (X:Cx) (E:VP):Cx:={ X with xe:=E }
abbrev Cx.nox (X:Cx):Cx:=X.wish fun _ _=>False
theorem Cx.Ok.wish{X:Cx}(ok:X.Ok)(E:VP):(X.wish E).Ok:=
 ⟨ok.mod,ok.kind,ok.glob,ok.blt,ok.above,ok.inj,ok.has,ok.cab,ok.hd,ok.frames,ok.stk,ok.exf,ok.bs,ok.bsz,ok.noex,ok.exfs,ok.funs,ok.frf⟩
theorem Cx.Ok.unwish{X:Cx}{E:VP}(ok:(X.wish E).Ok):X.Ok:=
 ⟨ok.mod,ok.kind,ok.glob,ok.blt,ok.above,ok.inj,ok.has,ok.cab,ok.hd,ok.frames,ok.stk,ok.exf,ok.bs,ok.bsz,ok.noex,ok.exfs,ok.funs,ok.frf⟩
section
variable {X:Cx}{pins:Po}{σ:St}{H:Hp}{s:Shared}{E:VP}
theorem Inv.wish(I:Inv X pins σ H s)(E:VP):Inv (X.wish E) pins σ H s:=⟨I.ok.wish E,I.os,I.bare,I.base,I.loc,I.cell,I.free,I.freeC,I.pin,I.hok,I.len⟩
theorem Inv.unwish(I:Inv (X.wish E) pins σ H s):Inv X pins σ H s:=⟨I.ok.unwish,I.os,I.bare,I.base,I.loc,I.cell,I.free,I.freeC,I.pin,I.hok,I.len⟩
theorem SP.unwish{D:Ends}{f:Flow}{s':Shared}(h:SP (X.wish E) pins D f s'):SP X pins D f s':=by
 cases f with
 | next=>obtain⟨σ',H',I,q⟩:=h;exact⟨σ',H',I.unwish,q⟩
 | brk=>obtain⟨σ',H',I,q⟩:=h;exact⟨σ',H',I.unwish,q⟩
 | cont=>obtain⟨σ',H',I,q⟩:=h;exact⟨σ',H',I.unwish,q⟩
 | ret u=>obtain⟨v,σ',H',I,r,q⟩:=h;exact⟨v,σ',H',I.unwish,r,q⟩
theorem c7.nox{st:List Stmt}{t:TS}(h:c7 X.nox st t):c7 X st t:=fun pins s σ H D I hw=>
 ej (h pins s σ H D (I.wish _) hw) (fun _ _ q=>q.unwish) fun _ _ z=>False.elim z
end
section
variable {X:Cx}{st:Stmt}{rest:List Stmt}{t u:TS}{e:Expr}{te:TE}{pos:Pos}
def Nw:TS:=fun D σ H=>D.nx σ H
def aD(t u:TS):TS:=fun D σ H=>t { D with nx:=u D } σ H
theorem bw:c7 X [] Nw:=fun _ _ σ H _ I h=>K7 ⟨σ,H,I,h⟩
theorem ar(h1:PS X st t)(h2:c7 X rest u):c7 X (st::rest) (aD t u):=by
 intro pins s σ H D I h;refine K8 (thn (h1 pins s σ H { D with nx:=u D } I h) fun f s1 q=>?_);cases f with
 | next=>
  obtain⟨σ',H',I',q⟩:=q;exact h2 pins s1 σ' H' D I' q
 | ret v=>exact q
 | brk=>exact q
 | cont=>exact q
theorem aF(h1:PS X st t):c7 X [st] t:=by
 intro pins s σ H D I h;refine K8 (thn (h1 pins s σ H D I h) fun f s1 q=>?_);cases f with
 | next=>exact K7 q
 | ret v=>exact q
 | brk=>exact q
 | cont=>exact q
theorem Inv.quiet{pins:Po}{σ:St}{H:Hp}{s:Shared}(I:Inv X pins σ H s):interactive X.env=false:=by simp[interactive,I.ok.kind]
def Nx(te:TE):TS:=fun D σ H=>te σ H fun _ H1=>D.nx σ H1
theorem qQ(he:PE X e te)(hs:swapsWith e none pos.line X.env=pure false:=by rfl):PS X (.Expr e pos) (Nx te):=by
 intro pins s σ H D I h;exact wpAny_Expr_any (thn (he pins s σ H _ I h) fun v s1 Ny=>Ny.elim fun x Nz=>Nz.elim fun H1 NA=>NA.elim fun I1 NB=>NB.elim fun r1 q1=>⟨σ,H1,I1,q1⟩) I.quiet hs
def NC(te:TE):TS:=fun D σ H=>te σ H D.rt
theorem aN(he:PE X e te):PS X (.Return (some e) pos) (NC te):=by
 intro pins s σ H D I h;exact wpAny_Return_some (thn (he pins s σ H _ I h) fun v s1 ND=>ND.elim fun x NE=>NE.elim fun H1 NF=>NF.elim fun I1 NG=>NG.elim fun r1 q1=>⟨x,σ,H1,I1,r1,q1⟩)
def Ao(c:TT)(t u:TS):TS:=fun D σ H=>c σ H fun b H1=>if b=true then t D σ H1 else u D σ H1
theorem bA{c:Expr}{a b:List Stmt}{tc:TT}(hc:PT X c tc)(ha:c7 X a t)(hb:c7 X b u):PS X (.If c a b pos) (Ao tc t u):=by
 intro pins s σ H D I h;refine wpAny_If (thn (hc pins s σ H _ I h) fun d s1 NH=>NH.elim fun H1 NJ=>NJ.elim fun I1 q1=>?_);cases d with
 | true=>exact ha pins s1 σ H1 D I1 q1
 | false=>exact hb pins s1 σ H1 D I1 q1
def NK:TS:=fun _ _ _=>False
theorem NL:PS X st NK:=fun _ _ _ _ _ _ h=>h.elim
end
abbrev TG:=V->St->Hp->(St->Hp->Prop)->Prop
abbrev m9:=Lv->St->Hp->(St->Hp->Prop)->Prop
def PG(X:Cx)(target:Expr)(t:TG):Prop:=
 ∀(pins:Po) (s:Shared) (σ:St) (H:Hp) (v:V) (u:Value) (Q:St->Hp->Prop),Inv X pins σ H s->RelV v u->t v σ H Q ->
  wpAny (model X.prog X.w) X.A (assign target X.env u) (fun _ s'=>∃σ' H',Inv X pins σ' H' s'/\Q σ' H') X.xe s
def ip(X:Cx)(ts:List Expr)(t:m9):Prop:=
 ∀(pins:Po) (s:Shared) (σ:St) (H:Hp) (vs:Lv) (us:Lw) (Q:St->Hp->Prop),Inv X pins σ H s->aU vs us->t vs σ H Q ->
  wpAny (model X.prog X.w) X.A (assignInOrder ((assignEach ts X.env).map (·.2)) us) (fun _ s'=>∃σ' H',Inv X pins σ' H' s'/\Q σ' H') X.xe s
section
variable {X:Cx}{pos:Pos}
def ng(i:Nat):TG:=fun v σ H Q=>Q (σ.set i (some v)) H
theorem bi{i:Nat}{x:Str}(hN:X.N.Nodup)(hi:X.N[i]?=some x)(hx:Loc X.env.scope x)(hf:X.fn x=true\/X.env.scope.names.lookup x=some .local:=by first | exact .inl rfl | exact .inr rfl | assumption):PG X (.Name x pos) (ng i):=by
 intro pins s σ H v u Q I r h;exact wpAny_assign_Name (E6 I hN hi hx r (fun s' I'=>⟨_,H,I',h⟩) hf)
def Ap:m9:=fun vs σ H Q=>vs=[]/\Q σ H
def sV(t:TG)(u:m9):m9:=fun vs σ H Q=>∃v r,vs=v::r/\t v σ H fun σ' H'=>u r σ' H' Q
theorem lH:ip X [] Ap:=by
 intro pins s σ H vs us Q I r h;obtain⟨e,h⟩:=h;subst e;cases r;exact assignInOrder_nil ⟨σ,H,I,h⟩
theorem ft{e:Expr}{es:List Expr}{t:TG}{u:m9}(h1:PG X e t)(h2:ip X es u)
 (hs:(assignEach (e::es) X.env).map (·.2)=assign e X.env::(assignEach es X.env).map (·.2):=by rfl):ip X (e::es) (sV t u):=by
 intro pins s σ H vs us Q I r h;obtain⟨v,vr,e1,h⟩:=h;subst e1;cases r with
 | cons r rr=>
  rw[hs];refine assignInOrder_cons (thn (h1 pins s σ H _ _ _ I r h) fun _ s1 NM=>NM.elim fun σ1 NN=>NN.elim fun H1 NO=>NO.elim fun I1 q1=>?_);exact h2 pins s1 σ1 H1 _ _ Q I1 rr q1
def wL(K:Fg)(n:Nat)(t:m9):TG:=fun v σ H Q=>∃a xs,v=.ref a/\ak K H a xs/\xs.length=n/\t xs σ H Q
theorem sW{es:List Expr}{k:Nat}{t:m9}{n:Nat}(hc:X.calm=true)(h:ip X es t)
 (hn:(assignEach es X.env).length=n:=by rfl) (jL:(assignEach es X.env).findIdx? (·.1)=none:=by rfl):PG X (.Tuple es k pos) (wL X.K n t):=by
 intro pins s σ H v u Q I r hw;obtain⟨a,xs,e1,hq,hl,hw⟩:=hw;subst e1;cases r;obtain⟨its,rv,ht,hz⟩:=I.tuple hq;refine assign_Tuple_tuple (I.ok.hd hc) ht (by simp[hn,←hl,rv.length]) jL fun h' hx=>?_;have I1:Inv X pins σ H { s with heap:=h' }:=I.kept (t':=s.toks) fun b o e=>hx b o (ck (bn e)) e;exact h pins _ σ H xs _ Q I1 (by simpa using rv) hw
def Aq(te:TE)(g:TG):TS:=fun D σ H=>te σ H fun x H1=>g x σ H1 D.nx
theorem NP{tg e:Expr}{te:TE}{g:TG}(he:PE X e te)(hg:PG X tg g)(hs:swapsWithSole [tg] e pos.line X.env=pure false:=by rfl)(hw:swappedStores [tg] e X.env=pure none:=by rfl)
 (h1:(assignEach [tg] X.env).map (·.2)=[assign tg X.env]:=by rfl):PS X (.Assign [tg] e pos) (Aq te g):=by
 intro pins s σ H D I h;refine wpAny_Assign_stores (thn (he pins s σ H _ I h) fun v s1 NQ=>NQ.elim fun x NR=>NR.elim fun H1 NS=>NS.elim fun I1 NT=>NT.elim fun r1 q1=>?_) hs hw;rw[h1];exact thn (hg pins s1 σ H1 x v _ I1 r1 q1) fun _ s2 q=>q
theorem aY{i:Nat}{x:Str}{e:Expr}{te:TE}{pos':Pos}(hN:X.N.Nodup)(hi:X.N[i]?=some x)(hx:Loc X.env.scope x)(he:PE X e te)(hs:swapsWith e (some (.Name x pos')) pos.line X.env=pure false:=by rfl)(hf:X.fn x=true\/X.env.scope.names.lookup x=some .local:=by first | exact .inl rfl | exact .inr rfl | assumption) :
 PS X (.Assign [.Name x pos'] e pos) (Aq te (ng i)):=by
 intro pins s σ H D I h;refine wpAny_Assign_Name (thn (he pins s σ H _ I h) fun v s1 NU=>NU.elim fun y NW=>NW.elim fun H1 NX=>NX.elim fun I1 NY=>NY.elim fun r1 q1=>?_) hs;exact E6 I1 hN hi hx r1 (fun s2 I2=>⟨_,H1,I2,q1⟩) hf
end
structure It where
 go:Nat->Hp->Prop
 yld:Nat->Hp->V->Hp->Prop
 stop:Nat->Hp->Prop
def jM(X:Cx)(pins:Po)(H:Hp)(b:Addr):Prop:=
 H b=none/\b≠X.env.locals/\b∉X.fs/\(b∈X.ex\/X.s₀.heap.objs.size<=b)/\(∀x c,X.env.cells.lookup x=some c->c≠b)/\∀p∈X.pn++pins,p.1≠b
theorem Inv.fpOk{X:Cx}{pins:Po}{σ:St}{H H':Hp}{s:Shared}{b:Addr}(I:Inv X pins σ H s)(hb:s.heap.objs.size<=b)(hn:H' b=none):jM X pins H' b:=by
 refine⟨hn,oV (fO I.lt hb),I.nofs hb,.inr (eU I.sz hb),fun x c e z=>?_,fun p hp z=>?_⟩
 . obtain⟨v,q⟩:=I.cell x c e;exact absurd (fO q.lt (by rw[z];exact hb)) (lm _)
 . exact absurd (fO (bn (I.pin p hp).1) (by rw[z];exact hb)) (lm _)
structure o9(P:Program)(w:World)(K:Fg)(tg:Expr)(J:It)(fp:List Addr)(it:Addr)(tn:Nat->Heap->Prop):Prop where
 mem:it∈fp
 obj:∀i h,tn i h->∀b∈fp,∃o,h.get? b=some o/\∀v,o.data≠.cell v
 keep:∀i h h',tn i h->(∀b∈fp,∀o,h.get? b=some o->h'.get? b=some o)->tn i h'
 item:∀(X:Cx),X.prog=P->X.w=w->X.K=K->X.calm=true->∀(i:Nat) (pins:Po) (s:Shared) (σ:St) (H:Hp) (E:VP),Inv X pins σ H s->(∀b∈fp,jM X pins H b)->tn i s.heap->J.go i H ->
  wpAny (model P w) X.A (pyNext (.ref it)) (fun r s1=>∃u,r=some u /\
   wpAny (model P w) X.A (letOwnedTupleGo tg (.ref it) u) (fun _ s2=>∃x H',Inv X pins σ H' s2/\RelV x u/\J.yld i H x H'/\tn (i+1) s2.heap/\∀b∈fp,H' b=none) E s1) E s
 done:∀(X:Cx),X.prog=P->X.w=w->X.K=K->X.calm=true->∀(i:Nat) (pins:Po) (s:Shared) (σ:St) (H:Hp) (E:VP),Inv X pins σ H s->(∀b∈fp,jM X pins H b)->tn i s.heap->J.stop i H ->
  wpAny (model P w) X.A (pyNext (.ref it)) (fun r s1=>r=none/\Inv X pins σ H s1) E s
 self:∀(A:Around) (i:Nat) (s:Shared) (Q:VP) (E:VP),tn i s.heap->Q (.ref it) s->wpAny (model P w) A (pyIter (.ref it)) Q E s
abbrev TI:=St->Hp->(It->Hp->Prop)->Prop
def E8(X:Cx)(pins:Po)(σ:St)(tg:Expr)(R:It->Hp->Prop)(wM:Value)(s2:Shared):Prop:=
 ∃(it:Addr) (fp:List Addr) (tn:Nat->Heap->Prop) (J:It) (H':Hp),wM=.ref it/\Inv X pins σ H' s2/\o9 X.prog X.w X.K tg J fp it tn/\tn 0 s2.heap/\(∀b∈fp,jM X pins H' b)/\R J H'
def PI(X:Cx)(tg iter:Expr)(wi:TI):Prop:=
 ∀(pins:Po) (s:Shared) (σ:St) (H:Hp) (R:It->Hp->Prop),Inv X pins σ H s->wi σ H R ->
  wpAny (model X.prog X.w) X.A (eval iter X.env) (fun v s1=>wpAny (model X.prog X.w) X.A (pyIter v) (E8 X pins σ tg R) X.xe s1) X.xe s
theorem Ar{M:Model}{A:Around}{E:VP}{s:Shared}{tg:Expr}{it:Addr}{u:Value}{o:Obj}{n:String}{vs:Av}{Q:Unit->Shared->Prop}(ho:s.heap.get? it=some o)(hc:o.cls=.type n)(hd:o.data=.fields vs)
 (hn:["enumerate","zip","dict_itemiterator","dict_reverseitemiterator","odict_iterator","itertools.zip_longest","itertools.pairwise"].contains n=false) (hQ:Q () s):wpAny M A (letOwnedTupleGo tg (.ref it) u) Q E s:=by
 unfold letOwnedTupleGo;cases tg<;>first
  | exact aw hQ
  | (cases u<;>first
   | exact aw hQ
   | (refine ai (wpAny_load ho ?_)
      rw[hc,hd];show wpAny M A (if (["enumerate","zip","dict_itemiterator","dict_reverseitemiterator","odict_iterator","itertools.zip_longest","itertools.pairwise"].contains n && vs[0]? == some (rawInt _))=true then _ else _) Q E s;rw[ap (by intro h;rw[hn,cU]at h;cases h)];exact aw hQ))
def kG(K:Fg)(a:Addr):It:=
 ⟨fun i H=>∃xs x,ah K H a xs/\xs[i]?=some x,fun i H x H'=>H'=H/\∀xs,ah K H a xs->xs[i]?=some x,fun i H=>∃xs,ah K H a xs/\xs.length<=i⟩
def nh(lo:Int)(n:Nat):It:=⟨fun i _=>i<n,fun i H x H'=>H'=H/\x=.int (lo+i),fun i _=>n<=i⟩
theorem NZ{P:Program}{w:World}{K:Fg}{tg:Expr}(a it:Addr):o9 P w K tg (kG K a) [it] it (fun i h=>h.IsListIter it a i) where
 mem:=by simp
 obj:=fun i h st b hb=>by
  have e:b=it:=by simpa using hb
  subst e;obtain⟨o,e,c,d⟩:=st;exact⟨o,e,fun v z=>by rw[d]at z;cases z⟩
 keep:=fun i h h' st k=>st.at fun o e=>k it (by simp) o e
 item:=by
  intro X hP hw hK hc i pins s σ H E I hf st hg;subst hP hw hK;obtain⟨xs,x,hq,hx⟩:=hg;obtain⟨its,rv,p,hz⟩:=I.list hq;obtain⟨u,hu,ru⟩:=rv.get hx;obtain⟨f0,f1,f2,f3,f4,f5⟩:=hf it (by simp);refine wpAny_pyNext_list_item st p.isList (x:=u) (by simpa using hu) fun h' dO sb=>?_;have I1:Inv X pins σ H { s with heap:=h' }:=I.turned (t':=s.toks) (fun b o hb e=>(sb.2 b hb).trans e) f0 f1 f3 f4 f5;obtain⟨o,e,c,d⟩:=id dO;exact⟨u,rfl,Ar (s:={ s with heap:=h' }) e c d (by decide) ⟨x,H,I1,ru,⟨rfl,fun ys hy=>by rw[I.list_inj hy hq];exact hx⟩,dO,fun b hb=>(hf b hb).1⟩⟩
 done:=by
  intro X hP hw hK hc i pins s σ H E I hf st hg;subst hP hw hK;obtain⟨xs,hq,hx⟩:=hg;obtain⟨its,rv,p,hz⟩:=I.list hq;obtain⟨f0,f1,f2,f3,f4,f5⟩:=hf it (by simp);have hl:=rv.length;exact wpAny_pyNext_list_end (I.ok.hd hc) st p.isList (by simp;omega) fun h' eb=>⟨rfl,I.turned (t':=s.toks) (fun b o hb e=>eb b o hb e) f0 f1 f3 f4 f5⟩
 self:=fun _ _ _ _ _ st h=>wpAny_pyIter_listiter st h
theorem N0{P:Program}{w:World}{K:Fg}{tg:Expr}(it:Addr)(lo:Int)(n:Nat):o9 P w K tg (nh lo n) [it] it (fun i h=>IsRangeIter h it (lo+(i:Nat) * 1) ((n:Int) - (i:Nat)) 1) where
 mem:=by simp
 obj:=fun i h st b hb=>by
  have e:b=it:=by simpa using hb
  subst e;exact⟨_,st,fun v z=>by
   have z':Data.fields _=Data.cell v:=z;cases z'⟩
 keep:=fun i h h' st k=>k it (by simp) _ st
 item:=by
  intro X hP hw hK hc i pins s σ H E I hf st hg;subst hP hw hK;obtain⟨f0,f1,f2,f3,f4,f5⟩:=hf it (by simp);have W:=Walks.range (prog:=X.prog) (w:=X.w) (I.ok.hd hc) it lo 1 n;refine W.item i s _ _ hg st fun v h' tk hv dO kk=>?_;obtain⟨t,rfl⟩:=hv;have I1:Inv X pins σ H { s with heap:=h',toks:=tk }:=I.turned (fun b o hb e=>kk b o (by simpa using hb) e) f0 f1 f3 f4 f5;refine⟨_,rfl,Ar (s:={ s with heap:=h',toks:=tk }) (n:="range_iterator") dO rfl rfl (by decide) ⟨.int (lo+i),H,I1,⟨t,?_⟩,⟨rfl,rfl⟩,dO,fun b hb=>(hf b hb).1⟩⟩;rw[Int.mul_one]
 done:=by
  intro X hP hw hK hc i pins s σ H E I hf st hg;subst hP hw hK;obtain⟨f0,f1,f2,f3,f4,f5⟩:=hf it (by simp);exact wpAny_pyNext_range_end (I.ok.hd hc) st (by have:n<=i:=hg;omega) fun h' eb=>⟨rfl,I.turned (t':=s.toks) (fun b o hb e=>eb b o hb e) f0 f1 f3 f4 f5⟩
 self:=fun _ _ _ _ _ st h=>wpAny_pyIter_rangeiter st h
section
variable {X:Cx}{tg:Expr}
def N1(K:Fg)(tl:TE):TI:=fun σ H R=>tl σ H fun x H1=>∃a,x=.ref a/\(∃xs,ah K H1 a xs)/\R (kG K a) H1
theorem cJ{l:Expr}{tl:TE}(hl:PE X l tl):PI X tg l (N1 X.K tl):=by
 intro pins s σ H R I h;refine thn (hl pins s σ H _ I h) fun v s1 N2=>N2.elim fun x N3=>N3.elim fun H1 N4=>N4.elim fun I1 N5=>N5.elim fun r1 q1=>?_;obtain⟨a,e,⟨xs,hq⟩,q⟩:=q1;subst e;cases r1;obtain⟨its,rv,p,hz⟩:=I1.list hq;refine K9 p.isList ?_;refine⟨s1.heap.objs.size,[s1.heap.objs.size],_,_,H1,rfl,I1.kept (t':=s1.toks) fun b o e=>bS _ e,NZ a _,⟨_,em _ rfl,rfl,rfl⟩,fun b hb=>?_,q⟩;have e:b=s1.heap.objs.size:=by simpa using hb
 subst e;exact I1.fpOk (aS _) (I1.hok.fresh (aS _))
theorem N6{pins:Po}{σ:St}{H:Hp}{s:Shared}{R:It->Hp->Prop}{E:VP}{lo hi:Int}{t u v:Tok}{tk:Nat}(I:Inv X pins σ H s)(h1:-(2 ^ 62)<=lo)(h2:lo<2 ^ 62)(h3:-(2 ^ 62)<=hi)(h4:hi<2 ^ 62)
 (q:R (nh lo (hi - lo).toNat) H):wpAny (model X.prog X.w) X.A (pyIter (.ref s.heap.objs.size)) (E8 X pins σ tg R) E { s with heap:=s.heap.push { cls:=.type "range",data:=.fields #[.int lo t,.int hi u,.int 1 v] },toks:=tk }:=by
 refine wpAny_pyIter_range (IsRange.new ..) (small_one h1 h2 h3 h4) ?_;have I1:Inv X pins σ H { s with heap:=s.heap.push { cls:=.type "range",data:=.fields #[.int lo t,.int hi u,.int 1 v] },toks:=tk }:=I.kept fun b o e=>bS _ e;refine⟨(s.heap.push { cls:=.type "range",data:=.fields #[.int lo t,.int hi u,.int 1 v] }).objs.size,[(s.heap.push { cls:=.type "range",data:=.fields #[.int lo t,.int hi u,.int 1 v] }).objs.size],_,_,H,rfl,
  I1.kept (t':=tk) fun b o e=>bS _ e,N0 _ lo (hi - lo).toNat,?_,fun b hb=>?_,q⟩
 . have e1:lo+((0:Nat):Int) * 1=lo:=by simp
   have e2:(((hi - lo).toNat:Nat):Int) - ((0:Nat):Int)=Builtin.Range.rangeSize lo hi 1:=by rw[rangeSize_one];split<;>omega
   show IsRangeIter _ _ (lo+((0:Nat):Int) * 1) ((((hi - lo).toNat:Nat):Int) - ((0:Nat):Int)) 1;rw[e1,e2];exact em _ rfl
 . have e:b=(s.heap.push { cls:=.type "range",data:=.fields #[.int lo t,.int hi u,.int 1 v] }).objs.size:=by simpa using hb
   subst e;exact I1.fpOk (aS _) (I1.hok.fresh (aS _))
def N7(ta:TA):TI:=fun σ H R=>ta σ H fun vs H1=>∃j:Int,vs=[.int j]/\-(2 ^ 62)<=j/\j<2 ^ 62/\R (nh 0 j.toNat) H1
theorem jN{a:Expr}{ta:TA}{p pos:Pos}(hg:Gl X "range")(hm:X.mg "range"=none)(ha:PA X [a] ta)(hs:starEach [a] X.env=[(false,eval a X.env)]:=by rfl):PI X tg (.Call (.Name "range" p) [a] [] pos) (N7 ta):=by
 intro pins s σ H R I h;refine Call_ (sR I hg hm boot_range (La (thn (ha pos pins s σ H _ I h) fun us s1 N8=>N8.elim fun vs N9=>N9.elim fun H1 Ob=>Ob.elim fun I1 Oc=>Oc.elim fun r1 q1=>?_) hs rfl));obtain⟨j,e,q1,q2,q⟩:=q1;subst e;cases r1 with
 | cons r rr=>
  cases rr;obtain⟨t,rfl⟩:=r;exact call_range_1 (N6 I1 (by omega) (by omega) q1 q2 (by simpa using q))
def Od(wi:TI)(g:TG)(tb:TS):TS:=fun D σ H=>wi σ H fun J H1=>∃W:Nat->Nat->St->Hp->Prop,(∃m,W 0 m σ H1)/\∀i m σ H,W i m σ H ->
 (J.stop i H/\D.nx σ H)\/(J.go i H/\∃N:St->Hp->Prop,(∀σ' H',N σ' H'->∃m',m'<m/\W (i+1) m' σ' H')/\∀x H',J.yld i H x H'->g x σ H' fun σ2 H2=>tb { D with nx:=N,ct:=N,bk:=D.nx } σ2 H2)
def sX(fp:List Addr)(h:Heap):Po:=fp.filterMap fun b=>(h.get? b).map fun o=>(b,o)
theorem wN{fp:List Addr}{h:Heap}{b:Addr}{o:Obj}(hb:b∈fp)(e:h.get? b=some o):(b,o)∈sX fp h:=List.mem_filterMap.mpr ⟨b,hb,by rw[e];rfl⟩
theorem Oe{fp:List Addr}{h:Heap}{p:Addr×Obj}(hp:p∈sX fp h):p.1∈fp/\h.get? p.1=some p.2:=by
 obtain⟨b,hb,e⟩:=List.mem_filterMap.mp hp;cases q:h.get? b with
 | none=>rw[q]at e;cases e
 | some o=>
  rw[q]at e;have e':(b,o)=p:=gu e;subst e';exact⟨hb,q⟩
theorem Inv.pinned{pins:Po}{σ:St}{H:Hp}{s:Shared}{fp:List Addr}(I:Inv X pins σ H s)(hf:∀b∈fp,jM X pins H b)(ho:∀b∈fp,∃o,s.heap.get? b=some o/\∀v,o.data≠.cell v):Inv X (pins++sX fp s.heap) σ H s:=
 I.pins_of fun p hp=>(gN.mp hp).elim (fun z=>I.pin p (ie _ z)) fun z=>by
  obtain⟨hb,e⟩:=Oe z;obtain⟨f0,f1,f2,_⟩:=hf p.1 hb;obtain⟨o,e',d⟩:=ho p.1 hb;rw[e]at e';cases e';exact⟨e,f0,f1,f2,d⟩
theorem Inv.unpinned{pins pl:Po}{σ:St}{H:Hp}{s:Shared}(I:Inv X (pins++pl) σ H s):Inv X pins σ H s:=I.pins_of fun p hp=>I.pin p (ie _ (zR _ hp))
theorem iU{iter:Expr}{body:List Stmt}{wi:TI}{g:TG}{tb:TS}{pos:Pos}(hp:PassesOwn (model X.prog X.w) X.A X.env X.xe)(hc:X.calm=true)(hi:PI X tg iter wi)(hg:PG X tg g)(hb:c7 X body tb)
 (hs:∀x,foldedSetIterable iter X.env x=pure x:=by intro _;rfl):PS X (.For tg iter body [] pos) (Od wi g tb):=by
 intro pins s σ H D I h;refine wpAny_For (thn (hi pins s σ H _ I h) fun v s1 h1=>thn h1 fun wM s2 h2=>?_) hs;obtain⟨it,fp,tn,J,H2,e,I2,T,ni,f2,W,⟨m0,w0⟩,turn⟩:=h2;subst e;have As:∀{H':Hp},(∀b∈fp,H' b=none)->∀b∈fp,jM X pins H' b:=fun hn b hb=>⟨hn b hb,(f2 b hb).2⟩;refine codeAny_forLoop_any (fun n s'=>∃i σ' H',Inv X pins σ' H' s'/\tn i s'.heap/\(∀b∈fp,H' b=none)/\W i n σ' H') ?_ m0 ⟨0,σ,H2,I2,ni,fun b hb=>(f2 b hb).1,w0⟩;rintro n s3 ⟨i,σ3,H3,I3,pb,E9,w3⟩
 rcases turn i n σ3 H3 w3 with⟨stop,qn⟩ | ⟨go,N,hN,step⟩
 . refine zS hp (thn (T.done X rfl rfl rfl hc i pins s3 σ3 H3 X.xe I3 (As E9) pb stop) fun r s4 Of=>Of.elim fun hr I4=>?_);subst hr;exact K7 ⟨σ3,H3,I4,qn⟩
 . refine zS hp (thn (T.item X rfl rfl rfl hc i pins s3 σ3 H3 X.xe I3 (As E9) pb go) fun r s4 Og=>Og.elim fun u Oh=>Oh.elim fun hr h4=>?_);subst hr;refine zS hp (thn h4 fun _ s5 Oj=>Oj.elim fun x Ol=>Ol.elim fun H5 Om=>Om.elim fun I5 Oo=>Oo.elim fun r5 Op=>Op.elim fun y5 Oq=>Oq.elim fun pd Au=>?_);have Ot:=I5.pinned (As Au) (T.obj _ _ pd);refine zS hp (thn (hg _ s5 σ3 H5 x u _ Ot r5 (step x H5 y5)) fun _ s6 Ou=>Ou.elim fun σ6 Ov=>Ov.elim fun H6 Ow=>Ow.elim fun I6 q6=>?_);refine zS hp (thn (hb _ s6 σ6 H6 _ I6 q6) fun f s7 q7=>?_);have again:∀{σ7:St}{H7:Hp},Inv X (pins++sX fp s5.heap) σ7 H7 s7->N σ7 H7->∃m,m<n/\∃i σ' H',Inv X pins σ' H' s7/\tn i s7.heap/\(∀b∈fp,H' b=none)/\W i m σ' H':=fun {σ7 H7} I7 n7=>by
    obtain⟨m',hm,w7⟩:=hN σ7 H7 n7;refine⟨m',hm,i+1,σ7,H7,I7.unpinned,T.keep _ _ _ pd fun b hb o e=>(I7.pin (b,o) (ie _ (ie _ (wN hb e)))).1,fun b hb=>?_,w7⟩;obtain⟨o,e,d⟩:=T.obj _ _ pd b hb;exact(I7.pin (b,o) (ie _ (ie _ (wN hb e)))).2.1
   cases f with
   | next=>obtain⟨σ7,H7,I7,n7⟩:=q7;exact again I7 n7
   | cont=>obtain⟨σ7,H7,I7,n7⟩:=q7;exact again I7 n7
   | brk=>obtain⟨σ7,H7,I7,q7⟩:=q7;exact⟨σ7,H7,I7.unpinned,q7⟩
   | ret v=>obtain⟨x7,σ7,H7,I7,r7,q7⟩:=q7;exact⟨x7,σ7,H7,I7.unpinned,r7,q7⟩
end
theorem lI{K:Fg}{a:Addr}{xs:Lv}{g:TG}{tb:TS}{D:Ends}{σ:St}{H:Hp}(Pv:Nat->St->Hp->Prop)(h0:Pv 0 σ H)(hl:∀i σ H,i<=xs.length->Pv i σ H->ah K H a xs)
 (hs:∀i x σ H,xs[i]?=some x->Pv i σ H->g x σ H fun σ2 H2=>tb { D with nx:=Pv (i+1),ct:=Pv (i+1),bk:=D.nx } σ2 H2) (hd:∀σ H,Pv xs.length σ H->D.nx σ H) :
 ∃W:Nat->Nat->St->Hp->Prop,(∃m,W 0 m σ H)/\∀i m σ H,W i m σ H ->
  ((kG K a).stop i H/\D.nx σ H)\/((kG K a).go i H/\∃N:St->Hp->Prop,(∀σ' H',N σ' H'->∃m',m'<m/\W (i+1) m' σ' H')/\∀x H',(kG K a).yld i H x H'->g x σ H' fun σ2 H2=>tb { D with nx:=N,ct:=N,bk:=D.nx } σ2 H2):=by
 refine⟨fun i m σ H=>m=xs.length - i/\i<=xs.length/\Pv i σ H,⟨xs.length,by simp,fQ _,h0⟩,?_⟩;rintro i m σ H ⟨rfl,hi,p⟩;have q:=hl i σ H hi p
 by_cases aR:i<xs.length
 . refine .inr ⟨⟨xs,xs[i],q,by simp[aR]⟩,Pv (i+1),fun σ' H' p'=>⟨xs.length - (i+1),by omega,rfl,aR,p'⟩,fun x H' y=>?_⟩;obtain⟨e,y⟩:=y;subst e;exact hs i x σ _ (y xs q) p
 . have e:i=xs.length:=by omega
   subst e;exact .inl ⟨⟨xs,q,aS _⟩,hd σ H p⟩
theorem Fa{lo:Int}{n:Nat}{g:TG}{tb:TS}{D:Ends}{σ:St}{H:Hp}(Pv:Nat->St->Hp->Prop)(h0:Pv 0 σ H)
 (hs:∀i σ H,i<n->Pv i σ H->g (.int (lo+i)) σ H fun σ2 H2=>tb { D with nx:=Pv (i+1),ct:=Pv (i+1),bk:=D.nx } σ2 H2) (hd:∀σ H,Pv n σ H->D.nx σ H) :
 ∃W:Nat->Nat->St->Hp->Prop,(∃m,W 0 m σ H)/\∀i m σ H,W i m σ H ->
  ((nh lo n).stop i H/\D.nx σ H)\/((nh lo n).go i H/\∃N:St->Hp->Prop,(∀σ' H',N σ' H'->∃m',m'<m/\W (i+1) m' σ' H')/\∀x H',(nh lo n).yld i H x H'->g x σ H' fun σ2 H2=>tb { D with nx:=N,ct:=N,bk:=D.nx } σ2 H2):=by
 refine⟨fun i m σ H=>m=n - i/\i<=n/\Pv i σ H,⟨n,by simp,fQ _,h0⟩,?_⟩;rintro i m σ H ⟨rfl,hi,p⟩
 by_cases aR:i<n
 . refine .inr ⟨aR,Pv (i+1),fun σ' H' p'=>⟨n - (i+1),by omega,rfl,aR,p'⟩,fun x H' y=>?_⟩;obtain⟨e,y⟩:=y;subst e y;exact hs i σ _ aR p
 . have e:i=n:=by omega
   subst e;exact .inl ⟨aS _,hd σ H p⟩
abbrev R2:=V->V->Hp->VK->Prop
def bI(X:Cx)(f:Value->Value->Sem Value)(r:R2):Prop:=
 ∀(pins:Po) (s:Shared) (σ:St) (H:Hp) (x y:V) (v u:Value) (Q:VK),Inv X pins σ H s->RelV x v->RelV y u->r x y H Q ->
  wpAny (model X.prog X.w) X.A (f v u) (EP X pins σ Q) X.xe s
def Aw(X:Cx)(f:Value->Sem Value)(r:V->Hp->VK->Prop):Prop:=
 ∀(pins:Po) (s:Shared) (σ:St) (H:Hp) (x:V) (v:Value) (Q:VK),Inv X pins σ H s->RelV x v->r x H Q ->
  wpAny (model X.prog X.w) X.A (f v) (EP X pins σ Q) X.xe s
def gy(X:Cx)(f:Value)(r:Lv->Hp->VK->Prop):Prop:=
 ∀(pins:Po) (s:Shared) (σ:St) (H:Hp) (xs:Lv) (us:Lw) (Q:VK),Inv X pins σ H s->aU xs us->r xs H Q ->
  wpAny (model X.prog X.w) X.A (call f us) (EP X pins σ Q) X.xe s
def wO(r:R2)(ta tb:TE):TE:=fun σ H Q=>ta σ H fun x H1=>tb σ H1 fun y H2=>r x y H2 Q
def Ox(r:V->Hp->VK->Prop)(ta:TE):TE:=fun σ H Q=>ta σ H fun x H1=>r x H1 Q
def rI(C:Int->Int->Prop)(g:Int->Int->V):R2:=fun x y H Q=>∃i j,x=.int i/\y=.int j/\C i j/\Q (g i j) H
def pe(g:Int->Int->V):R2:=fun x y H Q=>∃i j,x=.int i/\y=.int j/\Q (g i j) H
def rU(g:Int->V):V->Hp->VK->Prop:=fun x H Q=>∃i,x=.int i/\Q (g i) H
section
variable {X:Cx}{a b c:Expr}{ta tb tc:TE}{pos:Pos}
theorem Ax(ha:PE X a ta)(hb:PE X b tb){pins:Po}{s:Shared}{σ:St}{H:Hp}{R:V->V->Hp->Prop}(I:Inv X pins σ H s)
 (h:ta σ H fun x H1=>tb σ H1 fun y H2=>R x y H2) {Q:VP}{f:Value->Value->Sem Value}
 (hf:∀v u s2 x y H2,Inv X pins σ H2 s2->RelV x v->RelV y u->R x y H2->wpAny (model X.prog X.w) X.A (f v u) Q X.xe s2) :
 wpAny (model X.prog X.w) X.A (eval a X.env) (fun v s₁=>wpAny (model X.prog X.w) X.A (eval b X.env) (fun u s₂=>wpAny (model X.prog X.w) X.A (f v u) Q X.xe s₂) X.xe s₁) X.xe s:=by
 refine thn (ha pins s σ H _ I h) fun v s1 Oy=>Oy.elim fun x Oz=>Oz.elim fun H1 OA=>OA.elim fun I1 OB=>OB.elim fun r1 q1=>?_;refine thn (hb pins s1 σ H1 _ I1 q1) fun u s2 OC=>OC.elim fun y OD=>OD.elim fun H2 OE=>OE.elim fun I2 OF=>OF.elim fun r2 q2=>?_;exact hf v u s2 x y H2 I2 r1 r2 q2
theorem aH{op:Operator}{r:R2}(ho:bI X (binaryOp op) r)(ha:PE X a ta)(hb:PE X b tb):PE X (.BinOp a op b pos) (wO r ta tb):=by
 intro pins s σ H Q I h;exact wpAny_BinOp (Ax ha hb I h fun v u s2 x y H2 I2 rx ry q=>ho pins s2 σ H2 x y v u Q I2 rx ry q)
theorem OG{op:UnaryOp}{r:V->Hp->VK->Prop}(ho:Aw X (unaryOp op) r)(ha:PE X a ta):PE X (.UnaryOp op a pos) (Ox r ta):=by
 intro pins s σ H Q I h;exact UnaryOp_ (thn (ha pins s σ H _ I h) fun v s1 OH=>OH.elim fun x OI=>OI.elim fun H1 OJ=>OJ.elim fun I1 OK=>OK.elim fun r1 q1=>ho pins s1 σ H1 x v Q I1 r1 q1)
theorem wP{f:Value->Value->Sem Value}{C:Int->Int->Prop}{g:Int->Int->Int}
 (rule:∀(i j:Int) (t u:Tok) (s:Shared) (Q:VP) (E:VP),C i j->Q (.int (g i j) s.toks) { s with toks:=s.toks+1 }->wpAny (model X.prog X.w) X.A (f (.int i t) (.int j u)) Q E s) :
 bI X f (rI C fun i j=>.int (g i j)):=by
 intro pins s σ H x y v u Q I rx ry h;obtain⟨i,j,rfl,rfl,hc,q⟩:=h;obtain⟨t,rfl⟩:=rx;obtain⟨t',rfl⟩:=ry;exact rule i j t t' s _ _ hc ⟨.int (g i j),H,I.tok _,⟨_,rfl⟩,q⟩
theorem Fb{f:Value->Value->Sem Value}{g:Int->Int->Int}
 (rule:∀(i j:Int) (t u:Tok) (s:Shared) (Q:VP) (E:VP),Q (.int (g i j) s.toks) { s with toks:=s.toks+1 }->wpAny (model X.prog X.w) X.A (f (.int i t) (.int j u)) Q E s) :
 bI X f (pe fun i j=>.int (g i j)):=by
 intro pins s σ H x y v u Q I rx ry h;obtain⟨i,j,rfl,rfl,q⟩:=h;obtain⟨t,rfl⟩:=rx;obtain⟨t',rfl⟩:=ry;exact rule i j t t' s _ _ ⟨.int (g i j),H,I.tok _,⟨_,rfl⟩,q⟩
theorem Ay{f:Value->Value->Sem Value}{g:Int->Int->Bool}
 (rule:∀(i j:Int) (t u:Tok) (s:Shared) (Q:VP) (E:VP),Q (.bool (g i j)) s->wpAny (model X.prog X.w) X.A (f (.int i t) (.int j u)) Q E s) :
 bI X f (pe fun i j=>.bl (g i j)):=by
 intro pins s σ H x y v u Q I rx ry h;obtain⟨i,j,rfl,rfl,q⟩:=h;obtain⟨t,rfl⟩:=rx;obtain⟨t',rfl⟩:=ry;exact rule i j t t' s _ _ ⟨.bl (g i j),H,I,rfl,q⟩
def OL(i j:Int):Prop:=0<j/\j<1073741824
def OM(i j:Int):Prop:=0<=j/\j<=1000000/\i.natAbs<2 ^ 64
def Az(i j:Int):Prop:=(-(2 ^ 64)<i/\i<2 ^ 64)\/(-(2 ^ 64)<j/\j<2 ^ 64)
theorem Az.ok{i j:Int}(h:Az i j):IntMulOk i j:=by
 rcases h with⟨h1,h2⟩ | ⟨h1,h2⟩
 . exact .of_left (intBits_le_64 h1 h2)
 . exact .of_right (intBits_le_64 h1 h2)
theorem du:bI X (binaryOp .Add) (pe fun i j=>.int (i+j)):=Fb fun _ _ _ _ _ _ _ q=>add_int q
theorem Fc:bI X (binaryOp .Sub) (pe fun i j=>.int (i - j)):=Fb fun _ _ _ _ _ _ _ q=>sub_int q
theorem ph:bI X (binaryOp .Mult) (rI Az fun i j=>.int (i * j)):=wP fun _ _ _ _ _ _ _ hc q=>mul_int q hc.ok
theorem sY:bI X (binaryOp .FloorDiv) (rI OL fun i j=>.int (i / j)):=wP fun i j _ _ _ _ _ hc q=>by
 have h1:(0:Int)<j:=hc.1;have h2:j<1073741824:=hc.2;exact floordiv_int (by omega) (by rw[Int.fdiv_eq_ediv_of_nonneg i (by omega)];exact q) (.inl (PyProof.noPylong_small (by omega)))
theorem bC:bI X (binaryOp .Mod) (rI (fun _ j=>0<j) fun i j=>.int (i % j)):=wP fun i j _ _ _ _ _ hc q=>by
 have h1:(0:Int)<j:=hc;exact mod_int' (by omega) (by rw[Int.fmod_eq_emod_of_nonneg i (by omega)];exact q)
theorem ON:bI X (binaryOp .Pow) (rI OM fun i j=>.int (i ^ j.toNat)):=wP fun _ _ _ _ _ _ _ hc q=>pow_int_small hc.1 hc.2.1 hc.2.2 q
theorem OO{f:Value->Sem Value}{g:Int->Int}
 (rule:∀(i:Int) (t:Tok) (s:Shared) (Q:VP) (E:VP),Q (.int (g i) s.toks) { s with toks:=s.toks+1 }->wpAny (model X.prog X.w) X.A (f (.int i t)) Q E s) :
 Aw X f (rU fun i=>.int (g i)):=by
 intro pins s σ H x v Q I rx h;obtain⟨i,rfl,q⟩:=h;obtain⟨t,rfl⟩:=rx;exact rule i t s _ _ ⟨.int (g i),H,I.tok _,⟨_,rfl⟩,q⟩
theorem OP:Aw X (unaryOp .USub) (rU fun i=>.int (-i)):=OO fun _ _ _ _ _ q=>neg_int q
end
def Fd:V->V->Bool
 | .non,.non=>true | .non,.int _=>true | .int _,.non=>true | .non,.bl _=>true | .bl _,.non=>true | .non,.str _=>true | .str _,.non=>true
 | .int _,.int _=>true | .bl _,.bl _=>true | .str _,.str _=>true | .byt _,.byt _=>true
 | .int _,.str _=>true | .str _,.int _=>true | .bl _,.str _=>true | .str _,.bl _=>true
 | _,_=>false
def OQ:R2:=fun x y H Q=>Fd x y=true/\Q (.bl (decide (x=y))) H
def OR:R2:=fun x y H Q=>Fd x y=true/\Q (.bl (!decide (x=y))) H
theorem Fe{i j:Int}:decide (V.int i=V.int j)=(i == j):=by
 rw[lr];simp
theorem Ff{i j:Bool}:decide (V.bl i=V.bl j)=(i == j):=by
 rw[lr];simp
theorem Fh{i j:Str}:decide (V.str i=V.str j)=(i == j):=by
 rw[lr];simp
theorem Fi{i j:Array UInt8}:decide (V.byt i=V.byt j)=(i.toList == j.toList):=by
 rw[lr];cases i;cases j;simp
section
variable {X:Cx}{a b c:Expr}{ta tb tc:TE}{pos:Pos}
theorem cg{pins:Po}{σ:St}{H:Hp}{s:Shared}{Q:VK}{k k':Bool}(I:Inv X pins σ H s)(q:Q (.bl k) H)(e:k=k'):EP X pins σ Q (.bool k') s:=by
 subst e;exact⟨.bl k,H,I,rfl,q⟩
theorem bZ:bI X (compareOp .Eq) OQ:=by
 intro pins s σ H x y v u Q I rx ry h;obtain⟨hs,q⟩:=h;cases x with
 | non=>
  cases rx;cases y with
  | non=>cases ry;exact PySem.EqNone.eq_none_none (cg I q (by simp))
  | bl j=>cases ry;exact PySem.EqNone.eq_none_bool (cg I q (by simp))
  | int j=>obtain⟨t',rfl⟩:=ry;exact PySem.EqNone.eq_none_int (cg I q (by simp))
  | str j=>obtain⟨t',rfl⟩:=ry;exact PySem.EqNone.eq_none_str (cg I q (by simp))
  | _=>exact absurd (show false=true from hs) cr
 | bl i=>
  cases rx;cases y with
  | non=>cases ry;exact PySem.EqNone.eq_bool_none (cg I q (by simp))
  | bl j=>cases ry;exact eq_bool (cg I q Ff)
  | str j=>obtain⟨t',rfl⟩:=ry;exact PySem.EqMixed.eq_bool_str (cg I q (by simp))
  | _=>exact absurd (show false=true from hs) cr
 | int i=>
  obtain⟨t,rfl⟩:=rx;cases y with
  | non=>cases ry;exact PySem.EqNone.eq_int_none (cg I q (by simp))
  | int j=>obtain⟨t',rfl⟩:=ry;exact eq_int (cg I q Fe)
  | str j=>obtain⟨t',rfl⟩:=ry;exact PySem.EqMixed.eq_int_str (cg I q (by simp))
  | _=>exact absurd (show false=true from hs) cr
 | str i=>
  obtain⟨t,rfl⟩:=rx;cases y with
  | non=>cases ry;exact PySem.EqNone.eq_str_none (cg I q (by simp))
  | bl j=>cases ry;exact PySem.EqMixed.eq_str_bool (cg I q (by simp))
  | int j=>obtain⟨t',rfl⟩:=ry;exact PySem.EqMixed.eq_str_int (cg I q (by simp))
  | str j=>obtain⟨t',rfl⟩:=ry;exact eq_str (cg I q Fh)
  | _=>exact absurd (show false=true from hs) cr
 | byt i=>
  obtain⟨t,rfl⟩:=rx;cases y with
  | byt j=>obtain⟨t',rfl⟩:=ry;exact PySem.W.eq_bytes (cg I q Fi)
  | _=>exact absurd (show false=true from hs) cr
 | _=>cases y<;>exact absurd (show false=true from hs) cr
theorem wQ:bI X (compareOp .NotEq) OR:=by
 intro pins s σ H x y v u Q I rx ry h;obtain⟨hs,q⟩:=h;cases x with
 | non=>
  cases rx;cases y with
  | non=>cases ry;exact PySem.EqNone.ne_none_none (cg I q (by simp))
  | bl j=>cases ry;exact PySem.EqNone.ne_none_bool (cg I q (by simp))
  | int j=>obtain⟨t',rfl⟩:=ry;exact PySem.EqNone.ne_none_int (cg I q (by simp))
  | str j=>obtain⟨t',rfl⟩:=ry;exact PySem.EqNone.ne_none_str (cg I q (by simp))
  | _=>exact absurd (show false=true from hs) cr
 | bl i=>
  cases rx;cases y with
  | non=>cases ry;exact PySem.EqNone.ne_bool_none (cg I q (by simp))
  | bl j=>cases ry;exact ne_bool (cg I q (kD not Ff))
  | str j=>obtain⟨t',rfl⟩:=ry;exact PySem.EqMixed.ne_bool_str (cg I q (by simp))
  | _=>exact absurd (show false=true from hs) cr
 | int i=>
  obtain⟨t,rfl⟩:=rx;cases y with
  | non=>cases ry;exact PySem.EqNone.ne_int_none (cg I q (by simp))
  | int j=>obtain⟨t',rfl⟩:=ry;exact ne_int (cg I q (kD not Fe))
  | str j=>obtain⟨t',rfl⟩:=ry;exact PySem.EqMixed.ne_int_str (cg I q (by simp))
  | _=>exact absurd (show false=true from hs) cr
 | str i=>
  obtain⟨t,rfl⟩:=rx;cases y with
  | non=>cases ry;exact PySem.EqNone.ne_str_none (cg I q (by simp))
  | bl j=>cases ry;exact PySem.EqMixed.ne_str_bool (cg I q (by simp))
  | int j=>obtain⟨t',rfl⟩:=ry;exact PySem.EqMixed.ne_str_int (cg I q (by simp))
  | str j=>obtain⟨t',rfl⟩:=ry;exact ne_str (cg I q (kD not Fh))
  | _=>exact absurd (show false=true from hs) cr
 | byt i=>
  obtain⟨t,rfl⟩:=rx;cases y with
  | byt j=>obtain⟨t',rfl⟩:=ry;exact PySem.W.ne_bytes (cg I q (kD not Fi))
  | _=>exact absurd (show false=true from hs) cr
 | _=>cases y<;>exact absurd (show false=true from hs) cr
theorem qR:bI X (compareOp .Lt) (pe fun i j=>.bl (decide (i<j))):=Ay fun _ _ _ _ _ _ _ q=>lt_int q
theorem wR:bI X (compareOp .LtE) (pe fun i j=>.bl (decide (i<=j))):=Ay fun _ _ _ _ _ _ _ q=>le_int q
theorem Fj:bI X (compareOp .Gt) (pe fun i j=>.bl (decide (j<i))):=Ay fun _ _ _ _ _ _ _ q=>gt_int q
theorem Fk:bI X (compareOp .Lt) (fun x y H Q=>∃i j,x=.str i/\y=.str j/\Q (.bl (decide (i.cps.toList<j.cps.toList))) H):=by
 intro pins s σ H x y v u Q I rx ry h;obtain⟨i,j,rfl,rfl,q⟩:=h;obtain⟨t,rfl⟩:=rx;obtain⟨t',rfl⟩:=ry;exact lt_str (cg I q rfl)
theorem iq:bI X (compareOp .Is) (fun x y H Q=>y=.non/\Q (.bl (decide (x=.non))) H):=by
 intro pins s σ H x y v u Q I rx ry h;obtain⟨rfl,q⟩:=h;cases ry;refine is_none_gen (cg I q ?_);cases x<;>first
  | (cases rx;rfl)
  | (obtain⟨t,rfl⟩:=rx;rfl)
theorem wS:bI X (compareOp .IsNot) (fun x y H Q=>y=.non/\Q (.bl (!decide (x=.non))) H):=by
 intro pins s σ H x y v u Q I rx ry h;obtain⟨rfl,q⟩:=h;cases ry;refine isnot_none_gen (cg I q ?_);cases x<;>first
  | (cases rx;rfl)
  | (obtain⟨t,rfl⟩:=rx;rfl)
theorem aJ(b:Expr){op:CmpOp}(h:op≠.In:=by decide)(h2:op≠.NotIn:=by decide):behindInMarks op b=false:=by
 have e1:(op == CmpOp.In)=false:=by cases op<;>first | rfl | exact absurd rfl h
 have e2:(op == CmpOp.NotIn)=false:=by cases op<;>first | rfl | exact absurd rfl h2
 cases b<;>simp[behindInMarks,e1,e2]
theorem cB{op:CmpOp}{r:R2}(ho:bI X (compareOp op) r)(ha:PE X a ta)(hb:PE X b tb)(hm:behindInMarks op b=false):PE X (.Compare a [op] [b] pos) (wO r ta tb):=by
 intro pins s σ H Q I h;exact wpAny_Compare1 (Ax ha hb I h fun v u s2 x y H2 I2 rx ry q=>ho pins s2 σ H2 x y v u Q I2 rx ry q) hm
def Fl(t:TE):TT:=fun σ H Q=>t σ H fun x H'=>∃k,x=.bl k/\Q k H'
theorem bd{op:CmpOp}{r:R2}(ho:bI X (compareOp op) r)(ha:PE X a ta)(hb:PE X b tb)(hm:behindInMarks op b=false):PT X (.Compare a [op] [b] pos) (Fl (wO r ta tb)):=by
 intro pins s σ H Q I h;refine agq (thn (ha pins s σ H _ I h) fun v s1 OS=>OS.elim fun x OT=>OT.elim fun H1 OU=>OU.elim fun I1 OV=>OV.elim fun r1 q1=>thn (hb pins s1 σ H1 _ I1 q1) fun u s2 OW=>OW.elim fun y OX=>OX.elim fun H2 OY=>OY.elim fun I2 OZ=>OZ.elim fun r2 q2=>
  thn (ho pins s2 σ H2 x y v u _ I2 r1 r2 q2) fun c s3 O0=>O0.elim fun z O1=>O1.elim fun H3 O2=>O2.elim fun I3 O3=>O3.elim fun r3 O4=>O4.elim fun k O5=>O5.elim fun e q3=>?_) hm
 subst e;cases r3;exact lj ⟨H3,I3,q3⟩
def Fm(r r':R2)(ta tb tc:TE):TE:=fun σ H Q=>ta σ H fun x H1=>tb σ H1 fun y H2=>r x y H2 fun z H3=>∃k,z=.bl k /\
 (if k=true then tc σ H3 fun w' H4=>r' y w' H4 Q else Q (.bl false) H3)
theorem AA{op pi:CmpOp}{r r':R2}(ho:bI X (compareOp op) r)(fo:bI X (compareOp pi) r')(ha:PE X a ta)(hb:PE X b tb)(hc:PE X c tc)
 (hm:lastMarks [op,pi] [b,c]=false:=by with_unfolding_all rfl):PE X (.Compare a [op,pi] [b,c] pos) (Fm r r' ta tb tc):=by
 intro pins s σ H Q I h;refine Compare_chain (thn (ha pins s σ H _ I h) fun v s1 O6=>O6.elim fun x O7=>O7.elim fun H1 O8=>O8.elim fun I1 O9=>O9.elim fun r1 q1=>chain_link (thn (hb pins s1 σ H1 _ I1 q1) fun u s2 Pa=>Pa.elim fun y Pb=>Pb.elim fun H2 Pe=>Pe.elim fun I2 Pf=>Pf.elim fun r2 q2=>
  thn (ho pins s2 σ H2 x y v u _ I2 r1 r2 q2) fun d s3 Pg=>Pg.elim fun z Ph=>Ph.elim fun H3 Pj=>Pj.elim fun I3 Pk=>Pk.elim fun r3 Pl=>Pl.elim fun k Pm=>Pm.elim fun e q3=>?_)) hm
 subst e;cases r3;refine lj ?_;cases k with
 | false=>exact ite_ff ⟨.bl false,H3,I3,rfl,q3⟩
 | true=>exact ite_tt (chain_last (thn (hc pins s3 σ H3 _ I3 q3) fun w' s4 Pn=>Pn.elim fun z' Pp=>Pp.elim fun H4 Pq=>Pq.elim fun I4 Pr=>Pr.elim fun r4 q4=>fo pins s4 σ H4 y z' u w' Q I4 r2 r4 q4))
theorem Ps{op pi:CmpOp}{r r':R2}(ho:bI X (compareOp op) r)(fo:bI X (compareOp pi) r')(ha:PE X a ta)(hb:PE X b tb)(hc:PE X c tc)
 (hm:lastMarks [op,pi] [b,c]=false:=by with_unfolding_all rfl):PT X (.Compare a [op,pi] [b,c] pos) (Fl (Fm r r' ta tb tc)):=by
 intro pins s σ H Q I h;refine isTrue_chain (thn (ha pins s σ H _ I h) fun v s1 Pt=>Pt.elim fun x Pu=>Pu.elim fun H1 Pw=>Pw.elim fun I1 Px=>Px.elim fun r1 q1=>test_link (thn (hb pins s1 σ H1 _ I1 q1) fun u s2 Py=>Py.elim fun y Pz=>Pz.elim fun H2 PB=>PB.elim fun I2 PD=>PD.elim fun r2 q2=>
  thn (ho pins s2 σ H2 x y v u _ I2 r1 r2 q2) fun d s3 PF=>PF.elim fun z PH=>PH.elim fun H3 PJ=>PJ.elim fun I3 PK=>PK.elim fun r3 PL=>PL.elim fun k PM=>PM.elim fun e q3=>?_)) hm
 subst e;cases r3;refine lj ?_;cases k with
 | false=>
  obtain⟨k',e',q'⟩:=q3;cases e';exact ite_ff ⟨H3,I3,q'⟩
 | true=>
  refine ite_tt (test_last (thn (hc pins s3 σ H3 _ I3 q3) fun w' s4 PN=>PN.elim fun z' PP=>PP.elim fun H4 PQ=>PQ.elim fun I4 PR=>PR.elim fun r4 q4=>thn (fo pins s4 σ H4 y z' u w' _ I4 r2 r4 q4) fun d' s5 PU=>PU.elim fun z2 PV=>PV.elim fun H5 PX=>PX.elim fun I5 PY=>PY.elim fun r5 PZ=>PZ.elim fun k2 P0=>P0.elim fun e2 q5=>?_));subst e2;cases r5;exact lj ⟨H5,I5,q5⟩
theorem wT:(sizeLine:Nat)<2 ^ 63:=by rw[sH];decide
theorem Fn:bI X (binaryOp .Add) (fun x y H Q=>∃i j,x=.str i/\y=.str j/\i.length+j.length<=sizeLine/\Q (.str (i++j)) H):=by
 intro pins s σ H x y v u Q I rx ry h;obtain⟨i,j,rfl,rfl,hz,q⟩:=h;obtain⟨t,rfl⟩:=rx;obtain⟨t',rfl⟩:=ry;exact add_str (fun t' tk=>⟨.str (i++j),H,I.tok _,⟨_,rfl⟩,q⟩) hz
theorem vals1{x:V}{us:Lw}(r:aU [x] us):∃u,us=[u]/\RelV x u:=by
 cases r with
 | cons r1 r2=>cases r2;exact⟨_,rfl,r1⟩
theorem vals2{x y:V}{us:Lw}(r:aU [x,y] us):∃u w',us=[u,w']/\RelV x u/\RelV y w':=by
 cases r with
 | cons r1 r2=>
  cases r2 with
  | cons r3 r4=>cases r4;exact⟨_,_,rfl,r1,r3⟩
theorem P1:gy X (.type "int") (fun xs H Q=>(∃i,xs=[.int i]/\Q (.int i) H)\/∃k,xs=[.bl k]/\Q (.int (if k then 1 else 0)) H):=by
 intro pins s σ H xs us Q I r h
 rcases h with⟨i,rfl,q⟩ | ⟨k,rfl,q⟩
 . obtain⟨u,rfl,t,rfl⟩:=vals1 r;exact call_int_int ⟨.int i,H,I,⟨_,rfl⟩,q⟩
 . obtain⟨u,rfl,r1⟩:=vals1 r;cases r1;exact call_int_bool ⟨.int (if k then 1 else 0),H,I.tok _,⟨_,rfl⟩,q⟩
end
structure pj(h:Heap)(x dx C:Addr)(mA:Mv):Prop where
 obj:h.get? x=some (PySem.W.instObj C dx)
 ns:h.Ns1 dx mA
 ne:dx≠x
theorem P2{h:Heap}{dx:Addr}{mA:Mv}(n:h.Ns1 dx mA):∃od,h.get? dx=some od/\∀name,PySem.W.lookIn name od=some (mA name):=by
 obtain⟨o,es,ep,ho,hd,hk,_,hm⟩:=n;refine⟨o,ho,fun name=>?_⟩;have e:=hm name;unfold nsFind findBy at e;rw[←Array.find?_toList]at e;unfold PySem.W.lookIn;rw[hd];dsimp only;split
 . rename_i y q;rw[q]at e;exact kD some e
 . rename_i q;rw[q]at e;have a:es.toList.any (·.refKey)=false:=by
    rw[Lb];intro y hy;obtain⟨z,t,AB⟩:=hk y (Array.mem_toList_iff.mp hy);simp[DictEntry.refKey,AB]
   have a':¬es.toList.any (·.refKey)=true:=by rw[a];exact cr
   rw[ap a'];exact kD some e
theorem pj.look{h:Heap}{x dx C:Addr}{mA:Mv}(I:pj h x dx C mA):∃od,PySem.W.InstAt h x (PySem.W.instObj C dx) C (some od)/\∀name,PySem.W.lookIn name od=some (mA name):=
 (P2 I.ns).elim fun od P4=>P4.elim fun ho hl=>⟨od,⟨I.obj,rfl,rfl,ho⟩,hl⟩
section
variable {prog:Program}{w:World}{A:Around}{E:VP}{s:Shared}{K:Fg}{x dx C f:Addr}{mA:Mv}{name:Str}{v:Value}
theorem P5{expr:Bool}{Q:VP}(X:K.In s.heap)(I:pj s.heap x dx C mA)(hg:PySem.W.plainGet K C name=true)(hh:PySem.W.hasDictIn K C=true)
 (ha:PySem.W.findIn K (.ref C) name=some none) (hv:mA name=some v) (sZ:PySem.W.handedIn v=true) (h:Q v { s with toks:=s.toks+1 }) :
 wpAny (model prog w) A (getAttr (.ref x) name expr) Q E s:=by
 obtain⟨od,J,hl⟩:=I.look;exact PySem.W.get_value X J (Le hg).1 (PySem.W.findObj_own hh ha rfl (by rw[hl,hv])) sZ h
theorem P6{pl:Sem Bool}{Q:Value×Lw->Shared->Prop}(X:K.In s.heap)(I:pj s.heap x dx C mA)(hg:PySem.W.plainGet K C name=true)
 (hf:PySem.W.findIn K (.ref C) name=some (some (.ref f))) (ht:PySem.W.isFn K (.ref f)=true) (hv:mA name=none) (h:Q (.ref f,[.ref x]) s) :
 wpAny (model prog w) A (getMethod (.ref x) name pl) Q E s:=by
 obtain⟨od,J,hl⟩:=I.look;exact PySem.W.method_fn X J (Le hg).1 (Le hg).2 hf (kE.mp ht) (by show(PySem.W.lookIn name od).map (·.isSome)=some false;rw[hl,hv];rfl) h
theorem P7{ns:Ls}{Q:Unit->Shared->Prop}(X:K.In s.heap)(I:pj s.heap x dx C mA)
 (hs:PySem.W.findIn K (.ref C) "__setattr__"=some (some (.builtin "object.__setattr__"))) (hp:PySem.W.plainOver K C=true) (ht:PySem.W.takerIn K C name=some none) (hh:PySem.W.hasDictIn K C=true)
 (hw:PySem.Within mA ns) (hsz:ns.length<=sizeLine)
 (h:∀h',pj h' x dx C (fun y=>if y=name then some v else mA y)->Heap.SameBut dx s.heap h'->Q () { s with heap:=h',toks:=s.toks+2 }) :
 wpAny (model prog w) A (setAttr (.ref x) name v) Q E s:=by
 obtain⟨od,J,hl⟩:=I.look;refine PySem.W.set_plain X J hs (PySem.W.osa_open (s:={ s with toks:=s.toks+1 }) (r:=none) X J hp ht fun b=>?_);obtain⟨cd,hc,lF⟩:=PySem.W.any_some hh;have hx:s.heap.get? x=some ⟨.ref C,some dx,.plain,#[]⟩:=I.obj;refine ai (aw (ai (ai (wpAny_loadPart hx (ai (PySem.W.Looks.here (s:={ s with toks:=s.toks+1 }) (PySem.W.looks_clsIn X hc) ?_))))));rw[lF];refine aw (a:=some dx) (ai (aw (ai ?_)));refine wpAny_nsSet1 (s:={ s with toks:=s.toks+1 }) I.ns fun h' tf Fo=>?_;obtain⟨oD,esD,epD,P8,P9,Qa⟩:=tf.count (PySem.Within.cons name v hw);refine ai (wpAny_lookBehind P8 (by rw[P9];exact pastItsLine_dict (eU Qa (by rw[cV];omega))) ?_);exact aw (h _ ⟨(Fo.2 _ (gM I.ne)).trans I.obj,tf,I.ne⟩ Fo)
theorem Qb{R:Result->Shared->Prop}{vs:Lw}{kw:List (Str×Value)}(X:K.In s.heap)(hm:PySem.W.makesIn K C=true)
 (hi:PySem.W.findIn K (.ref C) "__init__"=some (some (.ref f))) (hf:PySem.W.typeIn K (.ref f)=some (.type "function"))
 (h:codeAny (model prog w) (A.under (.builtin "type.__call__" ⟨.ref C::vs,kw⟩)) (.call (.ref f) ⟨.ref (s.heap.objs.size+1)::vs,kw⟩) (PySem.W.InitBack (s.heap.objs.size+1) R)
  { s with heap:=(s.heap.push PySem.W.emptyDict).push (PySem.W.instObj C s.heap.objs.size) }) :
 codeAny (model prog w) A (.call (.ref C) ⟨vs,kw⟩) R s:=by
 obtain⟨hh,g,d,t,os⟩:=s;exact PySem.W.make_core (Lf X hm) (PySem.W.looks_findIn X hi) (fun self=>PySem.W.bind_fn X self hf) (.inl rfl) h
theorem Qc{R:Result->Shared->Prop}(X:K.In s.heap)(hm:PySem.W.makesIn K C=true)
 (hi:PySem.W.findIn K (.ref C) "__init__"=some (some (.builtin "object.__init__")))
 (hb:∀self,PySem.W.Looks (model prog w) s.heap (bindSpecial (.builtin "object.__init__") self) (.builtin "object.__init__",[self]))
 (h:codeAny (model prog w) (A.under (.builtin "type.__call__" ⟨[.ref C],[]⟩)) (.call (.builtin "object.__init__") ⟨[.ref (s.heap.objs.size+1)],[]⟩) (PySem.W.InitBack (s.heap.objs.size+1) R)
  { s with heap:=(s.heap.push PySem.W.emptyDict).push (PySem.W.instObj C s.heap.objs.size) }) :
 codeAny (model prog w) A (.call (.ref C) ⟨[],[]⟩) R s:=by
 obtain⟨hh,g,d,t,os⟩:=s;exact PySem.W.make_core (Lf X hm) (PySem.W.looks_findIn X hi) hb (.inr ⟨rfl,rfl⟩) h
end
def aA(f:Str)(v:V):List (Str×V)->List (Str×V)
 | []=>[(f,v)]
 | (g,x)::r=>if g=f then(g,v)::r else(g,x)::aA f v r
theorem bG(f g:Str)(v:V):∀fs:List (Str×V),(aA f v fs).lookup g=if g=f then some v else fs.lookup g
 | []=>by
  show List.lookup g [(f,v)]=_
  by_cases h:g=f
  . have hb:(g == f)=true:=kE.mpr h;simp only[List.lookup,hb,aB h]
  . have hb:(g == f)=false:=jh.mpr h;simp only[List.lookup,hb,ap h]
 | (k,x)::r=>by
  have ih:=bG f g v r;rw[show aA f v ((k,x)::r)=(if k=f then(k,v)::r else(k,x)::aA f v r) from rfl]
  by_cases hk:k=f
  . rw[aB hk]
    by_cases h:g=k
    . have hb:(g == k)=true:=kE.mpr h;simp only[List.lookup,hb,aB (h.trans hk)]
    . have hb:(g == k)=false:=jh.mpr h;simp only[List.lookup,hb,ap (fun e:g=f=>h (e.trans hk.symm))]
  . rw[ap hk]
    by_cases h:g=k
    . have hb:(g == k)=true:=kE.mpr h;simp only[List.lookup,hb,ap (fun e:g=f=>hk (h.symm.trans e))]
    . have hb:(g == k)=false:=jh.mpr h;simp only[List.lookup,hb];exact ih
theorem AC(f:Str)(v:V):∀fs:List (Str×V),f∈(aA f v fs).map (·.1)/\∀g,g∈fs.map (·.1)->g∈(aA f v fs).map (·.1)
 | []=>⟨by simp[aA],fun g h=>by simp at h⟩
 | (k,x)::r=>by
  obtain⟨i1,i2⟩:=AC f v r;rw[show aA f v ((k,x)::r)=(if k=f then(k,v)::r else(k,x)::aA f v r) from rfl]
  by_cases hk:k=f
  . rw[aB hk];subst hk;exact⟨by simp,fun g h=>by simpa using h⟩
  . rw[ap hk];refine⟨?_,fun g h=>?_⟩
    . rw[dM];exact eS _ i1
    . rw[dM]at h ⊢
      rcases cE.mp h with e | e
      . exact cE.mpr (.inl e)
      . exact eS _ (i2 g e)
theorem AD(f:Str)(v:V):∀fs:List (Str×V),(aA f v fs).length<=fs.length+1
 | []=>by simp[aA]
 | (k,x)::r=>by
  have ih:=AD f v r;rw[show aA f v ((k,x)::r)=(if k=f then(k,v)::r else(k,x)::aA f v r) from rfl]
  by_cases hk:k=f
  . rw[aB hk,cV,cV];omega
  . rw[ap hk,cV,cV];omega
theorem fR.some_of{v:V}{o:Option Value}(r:fR (some v) o):∃u,o=some u/\RelV v u:=by
 cases o with
 | none=>exact(show False from r).elim
 | some u=>exact⟨u,rfl,r⟩
theorem fR.none_of{o:Option Value}(r:fR none o):o=none:=by
 cases o with
 | none=>rfl
 | some u=>exact(show False from r).elim
theorem Qe{v:V}{u:Value}(r:RelV v u):PySem.W.handedIn u=true:=by
 cases v with
 | non=>cases (show u=Value.none from r);rfl
 | bl b=>cases (show u=Value.bool b from r);rfl
 | int i=>obtain⟨t,e⟩:=(show∃t,u=Value.int i t from r);cases e;rfl
 | str x=>obtain⟨t,e⟩:=(show∃t,u=Value.str x t from r);cases e;rfl
 | byt b=>obtain⟨t,e⟩:=(show∃t,u=Value.bytes b t from r);cases e;rfl
 | flt b=>obtain⟨t,e⟩:=(show∃t,u=Value.float b t from r);cases e;rfl
 | ref a=>cases (show u=Value.ref a from r);rfl
 | ty n=>cases (show u=Value.type n from r);rfl
section
variable {P:Program}{w:World}{H H':Hp}{h h':Heap}{a C dx:Addr}{fs ME:List (Str×V)}
theorem wU(hok:bY P w H h)(e:H a=some (.ins C dx fs)):∃mA,pj h a dx C mA/\(∀f,fR (fs.lookup f) (mA f))/\PySem.Within mA (fs.map (·.1))/\fs.length<=1000/\H dx=some (.own a):=by
 obtain⟨d,z,ne,ob,mA,n,r,q⟩:=(show bX P w H h a (.ins C dx fs) from hok a _ e);exact⟨mA,⟨ob,n,ne⟩,r,q,z,d⟩
end
structure gz(K:Fg)(C:Addr):Prop where
 pg:PySem.W.plainGet K C Str.empty=true
 hd:PySem.W.hasDictIn K C=true
 po:PySem.W.plainOver K C=true
 sa:PySem.W.findIn K (.ref C) "__setattr__"=some (some (.builtin "object.__setattr__"))
theorem gz.get{K:Fg}{C:Addr}(c:gz K C)(f:Str):PySem.W.plainGet K C f=true:=c.pg
def ge(K:Fg)(C:Addr)(f:Str):Prop:=PySem.W.findIn K (.ref C) f=some none
theorem ge.taker{K:Fg}{C:Addr}{f:Str}(n:ge K C f):PySem.W.takerIn K C f=some none:=by
 unfold PySem.W.takerIn;rw[show PySem.W.findIn K (.ref C) f=some none from n];rfl
structure jl(K:Fg)(C:Addr)(m:Str)(f:Addr):Prop where
 at_:PySem.W.findIn K (.ref C) m=some (some (.ref f))
 fn:PySem.W.isFn K (.ref f)=true
 kp:PySem.W.keepIn K (.ref f)=true
section
variable {X:Cx}{pins:Po}{σ:St}{H:Hp}{s:Shared}{a C dx:Addr}{fs:List (Str×V)} {f:Str}{v:V}{A:Around}{E:VP}
theorem Qf{b:Bool}{Q:VP}(I:Inv X pins σ H s)(e:H a=some (.ins C dx fs))(c:gz X.K C)(n:ge X.K C f)(l:fs.lookup f=some v)
 (h:∀u s',Inv X pins σ H s'->RelV v u->Q u s'):wpAny (model X.prog X.w) A (getAttr (.ref a) f b) Q E s:=by
 obtain⟨mA,O,r,_,_,_⟩:=wU I.hok e;obtain⟨u,hu,ru⟩:=fR.some_of (v:=v) (o:=mA f) (by rw[←l];exact r f);exact P5 I.kIn O (c.get f) c.hd n hu (Qe ru) (h u _ (I.tok _) ru)
theorem Fp{m:Str}{g:Addr}{pl:Sem Bool}{Q:Value×Lw->Shared->Prop}(I:Inv X pins σ H s)(e:H a=some (.ins C dx fs))(c:gz X.K C)(k:jl X.K C m g)(l:fs.lookup m=none)
 (h:Q (.ref g,[.ref a]) s):wpAny (model X.prog X.w) A (getMethod (.ref a) m pl) Q E s:=by
 obtain⟨mA,O,r,_,_,_⟩:=wU I.hok e;have hn:mA m=none:=fR.none_of (by rw[←l];exact r m);exact P6 I.kIn O (c.get m) k.at_ k.fn hn h
theorem Qg{y:V}{u:Value}{Q:Unit->Shared->Prop}(I:Inv X pins σ H s)(e:H a=some (.ins C dx fs))(c:gz X.K C)(n:ge X.K C f)(hl:fs.length<1000)(ry:RelV y u)
 (h:∀s',Inv X pins σ (al H a (.ins C dx (aA f y fs))) s'->Q () s'):wpAny (model X.prog X.w) A (setAttr (.ref a) f u) Q E s:=by
 obtain⟨mA,O,r,wi,_,ho⟩:=wU I.hok e;have hz:(fs.map (·.1)).length<=sizeLine:=by rw[aK,sH];omega
 refine P7 I.kIn O c.sa c.po n.taker c.hd wi hz fun h' O' sb=>h _ ?_;have hd:∃o,h'.get? dx=some o:=O'.ns.elim fun o Qh=>Qh.elim fun _ Qi=>Qi.elim fun _ Qj=>Qj.elim fun e' _=>⟨o,e'⟩;refine I.write (x:=a) (e:=dx) (by rw[e];exact True.intro) (.inr ho) (fun b q hb z=>(sb.2 b hb).trans z) hd ?_;refine⟨by rw[bc O.ne];exact ho,?_,O.ne,O'.obj,_,O'.ns,fun g=>?_,fun g hg=>?_⟩
 . have:=AD f y fs;omega
 . show fR ((aA f y fs).lookup g) (if g=f then some u else mA g);rw[bG]
   by_cases q:g=f
   . rw[aB q,aB q];exact ry
   . rw[ap q,ap q];exact r g
 . by_cases q:g=f
   . rw[q];exact(AC f y fs).1
   . refine(AC f y fs).2 g (wi g fun z=>hg ?_);show(if g=f then some u else mA g)=none;rw[ap q];exact z
theorem Inv.made(I:Inv X pins σ H s):Inv X pins σ (al (al H s.heap.objs.size (.own (s.heap.objs.size+1))) (s.heap.objs.size+1) (.ins C s.heap.objs.size []))
 { s with heap:=(s.heap.push PySem.W.emptyDict).push (PySem.W.instObj C s.heap.objs.size) }:=by
 have e1:(s.heap.push PySem.W.emptyDict).get? s.heap.objs.size=some PySem.W.emptyDict:=em s.heap rfl;have e2:((s.heap.push PySem.W.emptyDict).push (PySem.W.instObj C s.heap.objs.size)).get? (s.heap.objs.size+1)=some (PySem.W.instObj C s.heap.objs.size):=by
  have:=em (s.heap.push PySem.W.emptyDict) (o:=PySem.W.instObj C s.heap.objs.size) rfl
  rwa [mZ]at this
 have e3:(s.heap.push PySem.W.emptyDict).Ns s.heap.objs.size (fun _=>none):=⟨PySem.W.emptyDict,#[],_,e1,rfl,(fun e he=>absurd he (by simp)),fun _=>rfl⟩;have I1:=I.laid (a:=s.heap.objs.size) (o:=.own (s.heap.objs.size+1)) (h':=s.heap.push PySem.W.emptyDict) (t':=s.toks) (fun b u q=>bS _ q) (aS _) ⟨_,e1⟩;refine I1.laid (a:=s.heap.objs.size+1) (o:=.ins C s.heap.objs.size []) (t':=s.toks) (fun b u q=>bS _ q) (Es (mZ _ _)) ?_;have ne:s.heap.objs.size≠s.heap.objs.size+1:=ck (wc _);refine⟨by rw[bc ne,bf],fQ _,ne,e2,fun _=>none,(Heap.Ns1.of_empty e3).at fun o q=>bS _ q,fun _=>True.intro,fun y hy=>absurd rfl hy⟩
theorem Qk{prog:Program}{w:World}{env:Env}{e:Expr}{f:Str}{pos:Pos}{s:Shared}{Q:VP}(hb:attributeBase e f env (eval e env)=eval e env)
 (h:wpAny (model prog w) A (eval e env) (fun o s₁=>wpAny (model prog w) A (getAttr o f true) Q E s₁) E s):wpAny (model prog w) A (eval (.Attribute e f pos) env) Q E s:=
 Attribute_any_ h (by rw[arm_eval_Attribute,hb])
end
def Fq(K:Fg)(ta:TE)(f:Str):TE:=fun σ H Q=>ta σ H fun x H1=>∃a C dx fs v,x=.ref a/\H1 a=some (.ins C dx fs)/\gz K C/\ge K C f/\fs.lookup f=some v/\Q v H1
def Ql(K:Fg)(ta tv:TE)(f:Str):TS:=fun D σ H=>tv σ H fun y H1=>ta σ H1 fun x H2=>∃a C dx fs,x=.ref a/\H2 a=some (.ins C dx fs)/\gz K C/\ge K C f/\fs.length<1000 /\
 D.nx σ (al H2 a (.ins C dx (aA f y fs)))
section
variable {X:Cx}{o e value:Expr}{f:Str}{pos pos' Qm:Pos}{ta tv:TE}
theorem eG(he:PE X e ta)(hb:attributeBase e f X.env (eval e X.env)=eval e X.env):PE X (.Attribute e f pos) (Fq X.K ta f):=by
 intro pins s σ H Q I h;refine Qk hb (thn (he pins s σ H _ I h) fun u s1 Qn=>Qn.elim fun x Qo=>Qo.elim fun H1 Qp=>Qp.elim fun I1 Qq=>Qq.elim fun rx Qs=>Qs.elim fun a Qt=>Qt.elim fun C Qu=>Qu.elim fun dx Qv=>Qv.elim fun fs Qw=>Qw.elim fun v Qx=>Qx.elim fun ex Qy=>Qy.elim fun ea Qz=>Qz.elim fun c QA=>QA.elim fun n QB=>QB.elim fun l q=>?_);subst ex;obtain rfl:u=Value.ref a:=rx;exact Qf I1 ea c n l fun u' s2 I2 ru=>⟨v,H1,I2,ru,q⟩
theorem jO(ha:PE X o ta)(hv:PE X value tv)(hs:swapsWith value (some (.Attribute o f pos')) pos.line X.env=pure false):PS X (.Assign [.Attribute o f pos'] value pos) (Ql X.K ta tv f):=by
 intro pins s σ H D I h;refine plainObj_wpAny_Assign_Attribute (thn (hv pins s σ H _ I h) fun u s1 QC=>QC.elim fun y QD=>QD.elim fun H1 QE=>QE.elim fun I1 QF=>QF.elim fun ry q=>thn (ha pins s1 σ H1 _ I1 q) fun ov s2 QG=>QG.elim fun x QH=>QH.elim fun H2 QI=>QI.elim fun I2 QJ=>QJ.elim fun rx QK=>QK.elim fun a QL=>QL.elim fun C QM=>QM.elim fun dx QN=>QN.elim fun fs QO=>QO.elim fun ex QP=>QP.elim fun ea QQ=>QQ.elim fun c QR=>QR.elim fun n QS=>QS.elim fun l q2=>?_) hs;subst ex;obtain rfl:ov=Value.ref a:=rx;exact Qg I2 ea c n l ry fun s3 I3=>⟨σ,_,I3,q2⟩
end
section
variable {X:Cx}{pins:Po}{σ:St}{H:Hp}{s:Shared}{A:Around}{E:VP}{Q:VP}{c:Value}{b:Bool}
inductive ir (K:Fg) (H:Hp):V->Value->Prop where
 | non:ir K H .non (.type "NoneType")
 | bl (x:Bool):ir K H (.bl x) (.type "bool")
 | int (i:Int):ir K H (.int i) (.type "int")
 | str (x:Str):ir K H (.str x) (.type "str")
 | flt (x:UInt64):ir K H (.flt x) (.type "float")
 | lst {a:Addr}{xs:Lv} (e:H a=some (.lst xs)):ir K H (.ref a) (.type "list")
 | frz {a:Addr}{o:Obj}{xs:Lv} (e:H a=some (.frz o (.lst xs))):ir K H (.ref a) (.type "list")
 | tup {a:Addr}{xs:Lv} (e:H a=some (.tup xs)):ir K H (.ref a) (.type "tuple")
 | dK {a:Addr}{ab:List (bj×V)} (e:H a=some (.dK ab)):ir K H (.ref a) (.type "dict")
 | dT {a:Addr}{ab:List (List NI×V)} (e:H a=some (.dT ab)):ir K H (.ref a) (.type "dict")
 | ins {a C dx:Addr}{fs:List (Str×V)} (e:H a=some (.ins C dx fs)) (cl:gz K C) (ha:PySem.W.findIn K (.ref C) "__class__"=some (some (.builtin "object.__class__")))
  (hn:PySem.W.specialIn K (.builtin "object.__class__") "__get__"=some (some (.builtin "getset_descriptor.__get__"))) (htk:PySem.W.takesIn K (.builtin "object.__class__")=some true)
  (hm:PySem.W.mroIn K C (.type "object")=some true):ir K H (.ref a) (.ref C)
theorem Ft{x:V}{u t:Value}(I:Inv X pins σ H s)(rx:RelV x u)(ty:ir X.K H x t)(e:PySem.W.kitOne X.K t c=some b)(h:∀tk,Q (.bool b) { s with toks:=tk }) :
 wpAny (model X.prog X.w) A (call (.builtin "isinstance") [u,c]) Q E s:=by
 cases ty with
 | non=>cases (show u=Value.none from rx);exact lu PySem.W.kitx_none I.kIn True.intro e (fun z=>nomatch z) h
 | bl y=>cases (show u=Value.bool y from rx);exact lu PySem.W.kitx_bool I.kIn True.intro e (fun z=>nomatch z) h
 | int i=>obtain⟨t,q⟩:=(show∃t,u=Value.int i t from rx);cases q;exact lu PySem.W.kitx_int I.kIn True.intro e (fun z=>nomatch z) h
 | str y=>obtain⟨t,q⟩:=(show∃t,u=Value.str y t from rx);cases q;exact lu PySem.W.kitx_str I.kIn True.intro e (fun z=>nomatch z) h
 | flt y=>obtain⟨t,q⟩:=(show∃t,u=Value.float y t from rx);cases q;exact lu PySem.W.kitx_float I.kIn True.intro e (fun z=>nomatch z) h
 | @lst a xs ea=>
  cases (show u=Value.ref a from rx);obtain⟨_,_,n,_,h1⟩:=(show bX X.prog X.w H s.heap a (.lst xs) from I.hok a _ ea);exact lu PySem.W.kitx_list I.kIn ⟨_,h1,rfl⟩ e (fun z=>nomatch z) h
 | @frz a ob xs ea=>
  cases (show u=Value.ref a from rx);obtain⟨_,_,_,n,_,h1⟩:=(show bX X.prog X.w H s.heap a (.frz ob (.lst xs)) from I.hok a _ ea);exact lu PySem.W.kitx_list I.kIn ⟨_,h1,rfl⟩ e (fun z=>nomatch z) h
 | @tup a xs ea=>
  cases (show u=Value.ref a from rx);obtain⟨_,_,_,p⟩:=(show bX X.prog X.w H s.heap a (.tup xs) from I.hok a _ ea);obtain⟨o,h1,h2,_⟩:=p;exact lu PySem.W.kitx_tuple I.kIn ⟨o,h1,h2⟩ e (fun z=>nomatch z) h
 | @dK a ab ea=>
  cases (show u=Value.ref a from rx);obtain⟨_,_,vs,_,p⟩:=(show bX X.prog X.w H s.heap a (.dK ab) from I.hok a _ ea);obtain⟨o,es,ep,h1,h2,_⟩:=p;exact lu PySem.W.kitx_dict I.kIn ⟨o,h1,h2.1⟩ e (fun z=>nomatch z) h
 | @dT a ab ea=>
  cases (show u=Value.ref a from rx);obtain⟨_,_,xs,_,o,es,ep,h1,h2,_⟩:=(show bX X.prog X.w H s.heap a (.dT ab) from I.hok a _ ea);exact lu PySem.W.kitx_dict I.kIn ⟨o,h1,h2.1⟩ e (fun z=>nomatch z) h
 | @ins a C dx fs ea cl ha hn htk hm=>
  cases (show u=Value.ref a from rx);obtain⟨mA,O,_⟩:=wU I.hok ea;obtain⟨od,J,_⟩:=O.look;exact lu (PySem.W.kitx_own (cl.get _) cl.hd ha hn htk hm) I.kIn J e (fun z=>nomatch z) h
end
structure cW(k:Nat)(A:Around):Prop where
 hd:A.handled=none
 dp:A.depth+3 * k+5<recursionLimit
 un:A.units+16 * k+200<cLine
 gd:A.guards=some []
theorem cW.mono{j k:Nat}{A:Around}(r:cW k A)(h:j<=k):cW j A:=⟨r.hd,by have:=r.dp;omega,by have:=r.un;omega,r.gd⟩
theorem cW.deeper{k:Nat}{A:Around}(r:cW (k+1) A)(env:Env):cW k (A.deeper env):=
 ⟨r.hd,by have:=r.dp;show A.depth+1+3 * k+5<_;omega,by have:=r.un;show A.units+3+16 * k+200<_;omega,r.gd⟩
theorem QT{A:Around}{C:Addr}{us:Lw}{kw:List (Str×Value)}:(A.under (.builtin "type.__call__" ⟨.ref C::us,kw⟩)).depth=A.depth+1:=by
 first | rfl | simp[Around.under,Code.weight,Code.isCreation,Code.isGuard,Code.isCaller,Code.frames,Code.isFrame,guardIds]
theorem QU{A:Around}{C:Addr}{us:Lw}{kw:List (Str×Value)}:(A.under (.builtin "type.__call__" ⟨.ref C::us,kw⟩)).units=A.units+1:=by
 first | rfl | simp[Around.under,Code.cUnits,Code.frames,Code.isFrame]
theorem QV{A:Around}{C:Addr}{us:Lw}{kw:List (Str×Value)}:(A.under (.builtin "type.__call__" ⟨.ref C::us,kw⟩)).guards=A.guards:=by
 first | rfl | simp[Around.under,pushGuards,Code.guards,Code.isGuard,guardIds]
theorem cW.make{k:Nat}{A:Around}(r:cW (k+1) A)(C:Addr)(us:Lw)(kw:List (Str×Value)):cW k (A.under (.builtin "type.__call__" ⟨.ref C::us,kw⟩)):=
 ⟨r.hd,by have:=r.dp;rw[QT];omega,by have:=r.un;rw[QU];omega,QV.trans r.gd⟩
theorem cW.depth{k:Nat}{A:Around}(r:cW k A):A.depth<recursionLimit:=by have:=r.dp;omega
theorem cW.units{k:Nat}{A:Around}(r:cW k A):A.units+64<cLine:=by have:=r.un;omega
theorem cW.units0{k:Nat}{A:Around}(r:cW k A):A.units<cLine:=by have:=r.un;omega
def lJ:TA:=fun _ H Q=>Q [] H
def pk(ta:TE)(tr:TA):TA:=fun σ H Q=>ta σ H fun x H1=>tr σ H1 fun xs H2=>Q (x::xs) H2
section
variable {X:Cx}{e:Expr}{es:List Expr}{te:TE}{t:TA}{pos:Pos}
theorem ac:PA X [] lJ:=fun _ _ _ _ H Q I h=>Lg ⟨[],H,I,.nil,h⟩
theorem aa(ha:PE X e te)(hr:PA X es t)(hs:starEach (e::es) X.env=(false,eval e X.env)::starEach es X.env:=by rfl):PA X (e::es) (pk te t):=by
 intro pos pins s σ H Q I h;rw[hs];show wpAny _ _ (spliced ((false,eval e X.env)::backTo pos (starEach es X.env))) _ _ s;refine Et (thn (ha pins s σ H _ I h) fun u s1 QW=>QW.elim fun x QX=>QX.elim fun H1 QY=>QY.elim fun I1 QZ=>QZ.elim fun r1 q1=>?_);exact thn (hr pos pins s1 σ H1 _ I1 q1) fun us s2 Q0=>Q0.elim fun xs Q1=>Q1.elim fun H2 Q2=>Q2.elim fun I2 Q3=>Q3.elim fun r2 q2=>⟨x::xs,H2,I2,.cons r1 r2,q2⟩
def AE(t:TA):TE:=fun σ H Q=>t σ H fun xs H1=>xs.length<=sizeLine/\∀p,H1 p=none->Q (.ref p) (al H1 p (.tup xs))
def Q4(t:TA):TE:=fun σ H Q=>t σ H fun xs H1=>xs.length<=sizeLine/\∀p,H1 p=none->Q (.ref p) (al H1 p (.lst xs))
theorem Fu{x1}(h:PA X es t):PE X (.Tuple es x1 pos) (AE t):=by
 intro pins s σ H Q I hq;refine wpAny_Tuple_spliced (thn (h pos pins s σ H _ I hq) fun us s1 Q5=>Q5.elim fun xs Q6=>Q6.elim fun H1 Q7=>Q7.elim fun I1 Q8=>Q8.elim fun r Q9=>Q9.elim fun z q=>⟨by rw[←r.length];exact z,?_⟩);have hf:H1 s1.heap.objs.size=none:=I1.hok.fresh (aS _);refine⟨.ref s1.heap.objs.size,al H1 s1.heap.objs.size (.tup xs),I1.laid (t':=s1.toks) (fun b u e=>bS _ e) (aS _) ?_,rfl,q _ hf⟩;exact⟨z,us,r,⟨_,em _ rfl,rfl,_,rfl⟩⟩
theorem Ra(h:PA X es t):PE X (.List es pos) (Q4 t):=by
 intro pins s σ H Q I hq;refine wpAny_List_spliced (thn (h pos pins s σ H _ I hq) fun us s1 Rc=>Rc.elim fun xs Rf=>Rf.elim fun H1 Rg=>Rg.elim fun I1 Rh=>Rh.elim fun r Ri=>Ri.elim fun z q=>⟨by rw[←r.length];exact z,?_⟩);have hf:H1 s1.heap.objs.size=none:=I1.hok.fresh (aS _);refine⟨.ref s1.heap.objs.size,al H1 s1.heap.objs.size (.lst xs),I1.laid (t':=s1.toks) (fun b u e=>bS _ e) (aS _) ?_,rfl,q _ hf⟩;exact⟨z,us,0,r,em _ rfl⟩
end
abbrev Sp:=Lv->Hp->VK->XK->Prop
abbrev gT:=List Env->Hp->Shared->XK->Value->Shared->Prop
structure pp(P:Program)(w:World)(K:Fg)(mg:Mv)(base:Heap)(A:Around)(outer:List Env)(s:Shared)(H:Hp):Prop where
 frames:A.frames=some outer
 mod:Mod K mg base
 bs:∀b o,base.get? b=some o->s.heap.get? b=some o/\H b=none
 bsz:base.objs.size<=s.heap.objs.size
 funs:s.heap.FunFrames base outer
 frf:∀b∈ij outer,H b=none
 hok:bY P w H s.heap
 bare:AllBare s.gens
def CE(outer:List Env)(P:Program)(w:World)(H:Hp)(s:Shared)(Q:VK)(u:Value)(s':Shared):Prop:=
 ∃v H',s'.os=s.os/\AllBare s'.gens/\Un (ij outer) [] H H' s.heap s'.heap/\bY P w H' s'.heap/\RelV v u/\Q v H'
def CR(CX:gT)(outer:List Env)(P:Program)(w:World)(H:Hp)(s:Shared)(Q:VK)(E:XK)(r:Result)(s':Shared):Prop:=
 match r with
 | .ok (.ret u)=>CE outer P w H s Q u s'
 | .ok _=>False
 | .error e=>CX outer H s E e s'
structure ao(P:Program)(w:World)(K:Fg)(mg:Mv)(base:Heap)(CX:gT)(k:Nat)(f:Addr)(fd:Fy)(ps:Ls)(sp:Sp):Prop where
 len:∀vs H Q E,sp vs H Q E->vs.length=ps.length
 run:∀(A:Around) (outer:List Env) (s:Shared) (H:Hp) (args:Args) (us:Lw) (vs:Lv) (Q:VK) (E:XK),cW k A->pp P w K mg base A outer s H->BindsTo s fd args (ps.zip us)->aU vs us->sp vs H Q E ->
  codeAny (model P w) A (.call (.ref f) args) (CR CX outer P w H s Q E) s
theorem ao.mono{P:Program}{w:World}{K:Fg}{mg:Mv}{base:Heap}{CX:gT}{j k:Nat}{f:Addr}{fd:Fy}{ps:Ls}{sp:Sp}(F:ao P w K mg base CX j f fd ps sp)(h:j<=k) :
 ao P w K mg base CX k f fd ps sp:=⟨F.len,fun A outer s H args us vs Q E hr=>F.run A outer s H args us vs Q E (hr.mono h)⟩
theorem ao.imp{P:Program}{w:World}{K:Fg}{mg:Mv}{base:Heap}{CX:gT}{k:Nat}{f:Addr}{fd:Fy}{ps:Ls}{sp Fv:Sp}(F:ao P w K mg base CX k f fd ps sp)
 (h:∀vs H Q E,Fv vs H Q E->sp vs H Q E):ao P w K mg base CX k f fd ps Fv:=
 ⟨fun vs H Q E q=>F.len vs H Q E (h _ _ _ _ q),fun A outer s H args us vs Q E hr he hb hv hs=>F.run A outer s H args us vs Q E hr he hb hv (h _ _ _ _ hs)⟩
theorem pp.make{P:Program}{w:World}{K:Fg}{mg:Mv}{base:Heap}{A:Around}{outer:List Env}{s:Shared}{H:Hp}(e:pp P w K mg base A outer s H)(C:Addr)(us:Lw)(kw:List (Str×Value)) :
 pp P w K mg base (A.under (.builtin "type.__call__" ⟨.ref C::us,kw⟩)) outer s H:=⟨by first | exact e.frames | (simpa [Around.under,Code.envs,Code.isFrame,pushEnvs]using e.frames),e.mod,e.bs,e.bsz,e.funs,e.frf,e.hok,e.bare⟩
section
variable {X:Cx}{pins:Po}{σ:St}{H:Hp}{s s':Shared}
theorem Inv.env0(I:Inv X pins σ H s):pp X.prog X.w X.K X.mg X.base X.A X.stack s H:=
 ⟨I.ok.frames,I.ok.mod,I.bs,eU I.ok.bsz I.sz,I.stack,I.stkFree,I.hok,I.bare⟩
theorem Inv.after{Q:VK}{u:Value}(I:Inv X pins σ H s)(h:CE X.stack X.prog X.w H s Q u s'):EP X pins σ Q u s':=by
 obtain⟨v,H',os,bare,un,hok,r,q⟩:=h;obtain⟨hh,g,d,t,AF⟩:=s';obtain rfl:AF=s.os:=os;exact⟨v,H',I.call (h':=hh) (g':=g) (d':=d) (t':=t) (ch:=[]) un hok bare (fun b z=>absurd z (by simp)),r,q⟩
end
def Rj(sp:Sp)(dP:Lv)(E:XK)(t:TA):TE:=fun σ H Q=>t σ H fun vs H1=>sp (vs++dP) H1 Q E
def Fw(C:Addr)(m:Str)(sp:Sp)(dP:Lv)(E:XK)(ta:TE)(t:TA):TE:=fun σ H Q=>ta σ H fun x H1=>∃a dx fs,x=.ref a/\H1 a=some (.ins C dx fs)/\fs.lookup m=none /\
 t σ H1 fun vs H2=>sp (x::(vs++dP)) H2 Q E
def Rk(C:Addr)(sp:Sp)(dP:Lv)(E:XK)(t:TA):TE:=fun σ H Q=>t σ H fun vs H1=>∀x dx,H1 x=none->H1 dx=none->dx≠x ->
 sp (.ref x::(vs++dP)) (al (al H1 dx (.own x)) x (.ins C dx [])) (fun v H2=>v=.non/\Q (.ref x) H2) E
def Binds(K:Fg)(fd:Fy)(ps:Ls)(ds:Lw):Prop:=
 ∀(s:Shared) (us:Lw),K.In s.heap->(us++ds).length=ps.length->BindsTo s fd ⟨us,[]⟩ (ps.zip (us++ds))
theorem Binds.all{K:Fg}{fd:Fy}{ps:Ls}(h:∀us:Lw,us.length=ps.length->bindArgs fd ⟨us,[]⟩=pure (ps.zip us)):Binds K fd ps []:=fun s us _ hl=>by
 rw[fL]at hl ⊢;exact .of_eq (h us hl)
def pq(CX:gT)(X:Cx)(E:XK):Prop:=∀(pins:Po) (σ:St) (H:Hp) (s:Shared) (e:Value) (s':Shared),Inv X pins σ H s->CX X.stack H s E e s'->X.xe e s'
section
variable {X:Cx}{CX:gT}{k:Nat}{f C:Addr}{fd:Fy}{ps:Ls}{sp:Sp}{dP:Lv}{ds:Lw}{E:XK}{x m:Str}{p pos apos:Pos}{e o:Expr}{es:List Expr}{ta:TE}{t:TA}
theorem AG{pins:Po}{σ:St}{H:Hp}{s:Shared}{Q:VK}{us:Lw}{vs:Lv}(F:ao X.prog X.w X.K X.mg X.base CX k f fd ps sp)(hr:cW k X.A)(hb:Binds X.K fd ps ds)(hd:aU dP ds)(hx:pq CX X E)
 (I:Inv X pins σ H s) (r:aU vs us) (h:sp (vs++dP) H Q E):wpAny (model X.prog X.w) X.A (call (.ref f) us) (EP X pins σ Q) X.xe s:=by
 have r2:aU (vs++dP) (us++ds):=r.append hd;have hl:(us++ds).length=ps.length:=by rw[←r2.length];exact F.len _ _ _ _ h
 refine Eu (qF (F.run X.A X.stack s H ⟨us,[]⟩ (us++ds) (vs++dP) Q E hr I.env0 (hb s us I.kIn hl) r2 h) fun r s' hq=>?_);cases r with
 | error e=>exact hx pins σ H s e s' I hq
 | ok fl=>
  cases fl with
  | ret u=>exact I.after hq
  | next=>exact False.elim hq
  | brk=>exact False.elim hq
  | cont=>exact False.elim hq
theorem aI(F:ao X.prog X.w X.K X.mg X.base CX k f fd ps sp)(hr:cW k X.A)(hg:Gl X x)(hm:X.mg x=some (.ref f))(hk:PySem.W.keepIn X.K (.ref f)=true)(hb:Binds X.K fd ps ds)(hd:aU dP ds)(hx:pq CX X E)
 (ha:PA X (e::es) t) (iT:(x == ("__debug__":Str))=false:=by decide) (he:starEach (e::es) X.env=(false,eval e X.env)::starEach es X.env:=by rfl) (bH:(backTo pos (starEach es X.env)).any (·.1)=false:=by rfl) :
 PE X (.Call (.Name x p) (e::es) [] pos) (Rj sp dP E t):=by
 intro pins s σ H Q I h;refine zT (wH I hg hm ?_ iT);refine Lh (h₀:=X.base) I.ok.mod.kin hk (thn (ha pos pins s σ H _ I h) fun us s1 Rm=>Rm.elim fun vs Rn=>Rn.elim fun H1 Ro=>Ro.elim fun I1 Rp=>Rp.elim fun r q=>⟨I1.kIn,?_⟩) he bH;exact AG F hr hb hd hx I1 r q
theorem iV{pl:Sem Bool}(he:PE X o ta)(c:gz X.K C)(hm:jl X.K C m f)(F:ao X.prog X.w X.K X.mg X.base CX k f fd ps sp)(hr:cW k X.A)(hb:Binds X.K fd ps ds)(hd:aU dP ds)(hx:pq CX X E)(ha:PA X (e::es) t)
 (jL:starEach (e::es) X.env=(false,eval e X.env)::starEach es X.env:=by rfl) (bH:(backTo pos (starEach es X.env)).any (·.1)=false:=by rfl)
 (ht:eval (.Call (.Attribute o m apos) (e::es) [] pos) X.env=(do
  let ov ←eval o X.env
  standAt apos.atName
  let (f,first) ←holding [ov] (getMethod ov m pl)
  callWith pos f first (backTo pos (starEach (e::es) X.env)) (backToKw pos (keywordEach [] X.env))):=by rfl) :
 PE X (.Call (.Attribute o m apos) (e::es) [] pos) (Fw C m sp dP E ta t):=by
 intro pins s σ H Q I h;refine agr (pl:=pl) (thn (he pins s σ H _ I h) fun u s1 Rq=>Rq.elim fun x Rr=>Rr.elim fun H1 Rs=>Rs.elim fun I1 Rt=>Rt.elim fun rx Ru=>Ru.elim fun a Rv=>Rv.elim fun dx Rw=>Rw.elim fun fs Rx=>Rx.elim fun ex Ry=>Ry.elim fun ea Rz=>Rz.elim fun l q=>?_) ht;subst ex;obtain rfl:u=Value.ref a:=rx;refine Fp I1 ea c hm l ?_;refine Lh (first:=[.ref a]) (h₀:=X.base) I.ok.mod.kin hm.kp (thn (ha pos pins s1 σ H1 _ I1 q) fun us s2 RA=>RA.elim fun vs RB=>RB.elim fun H2 RC=>RC.elim fun I2 RD=>RD.elim fun r q2=>⟨I2.kIn,?_⟩) jL bH;exact AG (us:=.ref a::us) (vs:=.ref a::vs) F hr hb hd hx I2 (.cons rfl r) q2
theorem RE{pl:Sem Bool}(he:PE X o ta)(c:gz X.K C)(hm:jl X.K C m f)(F:ao X.prog X.w X.K X.mg X.base CX k f fd ps sp)(hr:cW k X.A)(hb:Binds X.K fd ps ds)(hd:aU dP ds)(hx:pq CX X E)
 (ht:eval (.Call (.Attribute o m apos) [] [] pos) X.env=(do
  let ov ←eval o X.env
  standAt apos.atName
  let (f,first) ←holding [ov] (getMethod ov m pl)
  callWith pos f first (backTo pos (starEach [] X.env)) (backToKw pos (keywordEach [] X.env))):=by rfl) :
 PE X (.Call (.Attribute o m apos) [] [] pos) (Fw C m sp dP E ta lJ):=by
 intro pins s σ H Q I h;refine agr (pl:=pl) (thn (he pins s σ H _ I h) fun u s1 RF=>RF.elim fun x RG=>RG.elim fun H1 RH=>RH.elim fun I1 RI=>RI.elim fun rx RJ=>RJ.elim fun a RK=>RK.elim fun dx RL=>RL.elim fun fs RM=>RM.elim fun ex RN=>RN.elim fun ea RO=>RO.elim fun l q=>?_) ht;subst ex;obtain rfl:u=Value.ref a:=rx;refine Fp I1 ea c hm l ?_;exact PySem.W.callWith_K0 (first:=[.ref a]) I1.kIn hm.kp (AG (us:=[.ref a]) (vs:=[.ref a]) F hr hb hd hx I1 (.cons rfl .nil) q)
structure Mk(K:Fg)(C f:Addr):Prop where
 makes:PySem.W.makesIn K C=true
 init:PySem.W.findIn K (.ref C) "__init__"=some (some (.ref f))
 fn:PySem.W.isFn K (.ref f)=true
 kp:PySem.W.keepIn K (.ref C)=true
theorem RP{pins:Po}{σ:St}{H:Hp}{s:Shared}{Q:VK}{us:Lw}{vs:Lv}(M:Mk X.K C f)(F:ao X.prog X.w X.K X.mg X.base CX k f fd ps sp)(hr:cW (k+1) X.A)(hb:Binds X.K fd ps ds)(hd:aU dP ds)
 (hx:pq CX X E) (I:Inv X pins σ H s) (r:aU vs us)
 (h:∀x dx,H x=none->H dx=none->dx≠x->sp (.ref x::(vs++dP)) (al (al H dx (.own x)) x (.ins C dx [])) (fun v H2=>v=.non/\Q (.ref x) H2) E) :
 wpAny (model X.prog X.w) X.A (call (.ref C) us) (EP X pins σ Q) X.xe s:=by
 have hq:=h (s.heap.objs.size+1) s.heap.objs.size (I.hok.fresh (Nat.le_succ _)) (I.hok.fresh (aS _)) (ck (wc _));have I2:=Inv.made (C:=C) I;have r2:aU (V.ref (s.heap.objs.size+1)::(vs++dP)) (Value.ref (s.heap.objs.size+1)::(us++ds)):=.cons rfl (r.append hd);have hl:(Value.ref (s.heap.objs.size+1)::us++ds).length=ps.length:=by
  have e:=r2.length;rw[F.len _ _ _ _ hq]at e;exact e.symm
 refine Eu (Qb (f:=f) I.kIn M.makes M.init (kE.mp M.fn) (qF (F.run _ X.stack _ _ ⟨Value.ref (s.heap.objs.size+1)::us,[]⟩ (Value.ref (s.heap.objs.size+1)::(us++ds)) _ _ E (hr.make C us [])
  (I2.env0.make C us []) (hb _ (Value.ref (s.heap.objs.size+1)::us) I2.kIn hl) r2 hq) fun r s' gf=>?_))
 cases r with
 | error e=>exact hx pins σ _ _ e s' I2 gf
 | ok fl=>
  cases fl with
  | ret u=>
   obtain⟨v,H',I3,rv,ev,q3⟩:=I2.after gf;subst ev;exact⟨rv,⟨V.ref (s.heap.objs.size+1),H',I3,rfl,q3⟩⟩
  | next=>exact False.elim gf
  | brk=>exact False.elim gf
  | cont=>exact False.elim gf
theorem wV(M:Mk X.K C f)(F:ao X.prog X.w X.K X.mg X.base CX k f fd ps sp)(hr:cW (k+1) X.A)(hg:Gl X x)(hm:X.mg x=some (.ref C))(hb:Binds X.K fd ps ds)(hd:aU dP ds)(hx:pq CX X E)
 (ha:PA X (e::es) t) (iT:(x == ("__debug__":Str))=false:=by decide) (he:starEach (e::es) X.env=(false,eval e X.env)::starEach es X.env:=by rfl) (bH:(backTo pos (starEach es X.env)).any (·.1)=false:=by rfl) :
 PE X (.Call (.Name x p) (e::es) [] pos) (Rk C sp dP E t):=by
 intro pins s σ H Q I h;refine zT (wH I hg hm ?_ iT);refine Lh (h₀:=X.base) I.ok.mod.kin M.kp (thn (ha pos pins s σ H _ I h) fun us s1 RQ=>RQ.elim fun vs RR=>RR.elim fun H1 RS=>RS.elim fun I1 RT=>RT.elim fun r q=>⟨I1.kIn,?_⟩) he bH;exact RP M F hr hb hd hx I1 r q
end
section
variable {X:Cx}{CX:gT}{k:Nat}{f C:Addr}{fd:Fy}{ps ks:Ls}{sp:Sp}{E:XK}{x m:Str}{p pos apos Fx:Pos}{e o:Expr}{es:List Expr}{kws:List Keyword}{te ta:TE}{t tk:TA}{nm:Option Str}
variable {g:Lw->Lw->Lw}{gV:Lv->Lv->Lv}
end
structure bo(N P:Ls)(sc:Scope):Prop where
 kind:sc.kind=.function
 co:sc.isCoroutine=false
 gen:sc.isGenerator=false
 nd:N.Nodup
 pre:N.take P.length=P
 par:∀x∈P,sc.names.lookup x=some .local\/sc.names.lookup x=some .cell
 nofree:∀y∈sc.names,y.2≠.free
theorem Fz{kindOf:Str->Option NameKind}{x:Str}:∀{binds:List (Str×Value)}{m:Mv},(∀v,(x,v)∉binds)->bindL kindOf binds m x=m x
 | [],_,_=>rfl
 | (n,v)::r,m,h=>by
  unfold bindL;rw[Fz fun w hw=>h w (eS _ hw)];split
  . have:x≠n:=by rintro rfl;exact h v gc
    simp[this]
  . rfl
theorem FA{kindOf:Str->Option NameKind}{x:Str}:∀{binds:List (Str×Value)}{m:Mv},(∀v,(x,v)∉binds)->bindC kindOf binds m x=m x
 | [],_,_=>rfl
 | (n,v)::r,m,h=>by
  unfold bindC;rw[FA fun w hw=>h w (eS _ hw)];split
  . rfl
  . have:x≠n:=by rintro rfl;exact h v gc
    simp[this]
theorem FC{kindOf:Str->Option NameKind}{x:Str}{v:Value}:∀{P:Ls}{vs:Lw}{i:Nat}{m:Mv},P.Nodup->P[i]?=some x->vs[i]?=some v->kindOf x=some .local ->
 bindL kindOf (P.zip vs) m x=some v
 | [],_,_,_,_,h,_,_=>by simp at h
 | _::_,[],_,_,_,_,h,_=>by simp at h
 | p::P,w::vs,0,m,nd,h1,h2,hk=>by
  simp at h1 h2;subst h1;subst h2;show bindL kindOf ((p,w)::P.zip vs) m p=_;unfold bindL;rw[Fz fun v hv=>(m3.mp nd).1 (Li hv).1,aB hk];simp
 | p::P,w::vs,i+1,m,nd,h1,h2,hk=>by
  show bindL kindOf ((p,w)::P.zip vs) m x=_;unfold bindL;exact FC (i:=i) (m3.mp nd).2 (by simpa using h1) (by simpa using h2) hk
theorem FD{kindOf:Str->Option NameKind}{x:Str}{v:Value}:∀{P:Ls}{vs:Lw}{i:Nat}{m:Mv},P.Nodup->P[i]?=some x->vs[i]?=some v->kindOf x≠some .local ->
 bindC kindOf (P.zip vs) m x=some v
 | [],_,_,_,_,h,_,_=>by simp at h
 | _::_,[],_,_,_,_,h,_=>by simp at h
 | p::P,w::vs,0,m,nd,h1,h2,hk=>by
  simp at h1 h2;subst h1;subst h2;show bindC kindOf ((p,w)::P.zip vs) m p=_;unfold bindC;rw[FA fun v hv=>(m3.mp nd).1 (Li hv).1,ap hk];simp
 | p::P,w::vs,i+1,m,nd,h1,h2,hk=>by
  show bindC kindOf ((p,w)::P.zip vs) m x=_;unfold bindC;exact FD (i:=i) (m3.mp nd).2 (by simpa using h1) (by simpa using h2) hk
def start(N:Ls)(vs:Lv):St:=vs.map some++List.replicate (N.length - vs.length) none
def py(CX:gT)(P:Program)(w:World)(K:Fg)(mg:Mv)(base:Heap)(N:Ls)(qual:Str)(scope:Scope)(f:Addr)(cd:Value)(A:Around)(outer:List Env)(s:Shared)(H:Hp)(E:XK):Cx where
 prog:=P
 w:=w
 K:=K
 mg:=mg
 base:=base
 A:=A.deeper (envOfC qual scope s.heap.objs.size f cd)
 N:=N
 s₀:=s
 H₀:=H
 env:=envOfC qual scope s.heap.objs.size f cd
 outer:=outer
 stack:=envOfC qual scope s.heap.objs.size f cd::outer
 ex:=[]
 calm:=true
 fn:=fun _=>true
 pn:=[]
 xe:=fun e s'=>wpAny (model P w) (A.deeper (envOfC qual scope s.heap.objs.size f cd)) (leaving (envOfC qual scope s.heap.objs.size f cd) e) (fun _ wW=>CX outer H s E e wW) (fun e' wW=>CX outer H s E e' wW) s'
theorem FE{sc:Scope}{n:Nat}{x:Str}(h:sc.names.lookup x=some .cell):∃c,(cellsFrom n sc.names []).lookup x=some c:=by
 have q:=ags sc.names n [] (.inl h);exact we.mp q
theorem RU{CX:gT}{P:Program}{w:World}{K:Fg}{mg:Mv}{base:Heap}{N ps:Ls}{qual:Str}{scope:Scope}{f:Addr}{cd:Value}{A:Around}{outer:List Env}{s s1:Shared}{H:Hp}{E:XK}{us:Lw}{vs:Lv}
 (S:bo N ps scope) (hd:A.handled=none) (e0:pp P w K mg base A outer s H) (hl:vs.length=ps.length) (r:aU vs us)
 (x:InCallC s s.heap.objs.size (bindL (envOfC qual scope s.heap.objs.size f cd).kindOf (ps.zip us) fun _=>none) (cellsFrom (s.heap.objs.size+1) scope.names []) (bindC (envOfC qual scope s.heap.objs.size f cd).kindOf (ps.zip us) fun _=>none) s1) :
 Inv (py CX P w K mg base N qual scope f cd A outer s H E) [] (start N vs) H s1:=by
 have bH:ps.length<=N.length:=by have:=kD List.length S.pre;rw[eV]at this;omega
 obtain⟨h1,tk,rfl,hk⟩:=x.done;have tj:∀b:Addr,b∉(py CX P w K mg base N qual scope f cd A outer s H E).ex:=fun b z=>absurd (show b∈([]:List Addr) from z) (by simp);refine⟨⟨e0.mod,S.kind,rfl,rfl,aS _,fun y z c h1 h2=>?_,fun y hy=>?_,fun y c _ h=>?_,fun _=>hd,Around.frames_deeper e0.frames,.inr ⟨rfl,rfl⟩,fun b z=>absurd z (tj b),e0.bs,e0.bsz,fun b _ _=>tj b,fun b z=>absurd z (tj b),e0.funs,e0.frf⟩,
  rfl,e0.bare,Un.kept hk,⟨_,x.toInCall.ns,fun i y v h1 h2 h3=>?_⟩,fun y c h=>⟨_,x.cell y c h⟩,e0.hok.fresh (aS _),fun y c h=>?_,fun p hp=>absurd (show p∈([]:Po) from hp) (by simp),e0.hok.kept hk,?_⟩
 . exact name_of_addr x.apart (wf h1) (wf h2)
 . have hy:scope.names.lookup y=some .cell\/scope.names.lookup y=some .free:=hy
   rcases hy with hy | hy
   . exact FE hy
   . exact absurd rfl (S.nofree _ (wf hy))
 . exact iR (x.above y c (wf h))
 . have hi:i<vs.length:=by
    unfold start at h2
    by_cases hi:i<vs.length
    . exact hi
    . rw[Ev (by simpa using hi)]at h2;rw[agt]at h2;split at h2<;>cases h2
   have ha:vs[i]?=some v:=by
    unfold start at h2;rw[Lj (by simpa using hi),dq]at h2;cases e:vs[i]? with
    | none=>rw[e]at h2;cases h2
    | some a=>rw[e]at h2;cases h2;rfl
   obtain⟨u,hu,rv⟩:=r.get ha;have hp:ps[i]?=some y:=by
    rw[←S.pre,List.getElem?_take_of_lt (by omega)];exact h1
   have FF:ps.Nodup:=by rw[←S.pre];exact S.nd.sublist (List.take_sublist _ _)
   refine⟨u,rv,?_⟩
   rcases S.par y (gO hp) with k | k
   . exact .inl ⟨k,FC FF hp hu k⟩
   . obtain⟨c,e⟩:=FE (n:=s.heap.objs.size+1) k;refine .inr ⟨.inl k,c,e,?_⟩;have q:=x.cell y c e;rw[FD FF hp hu (by show scope.names.lookup y≠_;rw[k];decide)]at q;exact q
 . exact e0.hok.fresh (iR (x.above y c (wf h)))
 . unfold start;show _=N.length;rw[be,aK,Lk];omega
theorem RV{CX:gT}{P:Program}{w:World}{K:Fg}{mg:Mv}{base:Heap}{k:Nat}{f:Addr}{name qual:Str}{params:Arguments}{body:List Stmt}{scope:Scope}{dV kV doc pm aG ct oc:Value}{an od:Oa}
 {lK:Array (Option Value)}{N ps:Ls}{sp:Sp} (lk:K.lookup f=some ⟨oc,od,.func (PySem.W.fnOf name qual params body scope dV kV doc pm an aG ct),lK⟩) (ik:PySem.W.codeIn K aG qual=true) (S:bo N ps scope)
 (len:∀vs H Q E,sp vs H Q E->vs.length=ps.length)
 (AH:∀(A:Around) (outer:List Env) (s:Shared) (H:Hp) (vs:Lv) (Q:VK) (E:XK),cW k (A.deeper (envOfC qual scope s.heap.objs.size f aG))->sp vs H Q E ->
  ∃t,c7 (py CX P w K mg base N qual scope f aG A outer s H E) body t/\t { nx:=fun _ H'=>Q .non H',rt:=Q } (start N vs) H) :
 ao P w K mg base CX (k+1) f (PySem.W.fnOf name qual params body scope dV kV doc pm an aG ct) ps sp:=by
 refine⟨len,fun A outer s H args us vs Q E hr e0 hb r nj=>?_⟩;have hl:=len _ _ _ _ nj;have KX:K.In s.heap:=e0.mod.kin.keeps fun b o e=>(e0.bs b o e).1;have lim:s.heap.NoLimit:=e0.mod.nolimit.keeps fun b o e=>(e0.bs b o e).1;have RW:∀y∈ps.zip us,scope.names.lookup y.1=some .local\/(scope.names.lookup y.1=some .cell/\((cellsFrom (s.heap.objs.size+1) scope.names []).lookup y.1).isSome=true):=fun⟨n,v⟩ hy=>by
  rcases S.par n (Li hy).1 with q | q
  . exact .inl q
  . exact .inr ⟨q,ags _ _ _ (.inl q)⟩
 refine codeAny_call_function hr.depth (KX _ _ lk) rfl S.co S.gen rfl (PySem.W.codeRec_of KX ik) (hb _ _ _ _ ?_);refine wpAny_newFunctionEnv_cells S.kind RW fun env he s1 x=>?_;subst he;refine⟨lim.keeps x.toInCall.keep,codeAny_func ?_⟩;obtain⟨t,ht,hq⟩:=AH A outer s H vs Q E (hr.deeper _) nj;have I:Inv (py CX P w K mg base N qual scope f aG A outer s H E) [] (start N vs) H s1:=RU S hr.hd e0 hl r x;refine ej (ht [] s1 (start N vs) H _ I hq) (fun fl s' hs=>?_) fun e s' hs=>hs;have fin:∀{σ':St}{H':Hp}{v:V}{u:Value},Inv (py CX P w K mg base N qual scope f aG A outer s H E) [] σ' H' s'->RelV v u->Q v H'->CE outer P w H s Q u s':=
  fun {σ' H' v u} J rv q=>⟨v,H',J.os,J.bare,J.base,J.hok,rv,q⟩
 cases fl with
 | ret u=>
  obtain⟨v,σ',H',J,rv,q⟩:=hs;exact fin J rv q
 | next=>
  obtain⟨σ',H',J,q⟩:=hs;exact fin (v:=V.non) (u:=Value.none) J rfl q
 | brk=>
  obtain⟨_,_,_,q⟩:=hs;exact False.elim q
 | cont=>
  obtain⟨_,_,_,q⟩:=hs;exact False.elim q
section
variable {X:Cx}{x:Str}{p pos:Pos}{e:Expr}{es:List Expr}{t:TA}{id T:String}{r:Lv->Hp->VK->Prop}
def wX(r:Lv->Hp->VK->Prop)(t:TA):TE:=fun σ H Q=>t σ H fun vs H1=>r vs H1 Q
theorem b8(hc:gy X (.builtin id) r)(hg:Gl X x)(hm:X.mg x=none)(hv:bootBuiltins x=some (.builtin id))(ha:PA X (e::es) t)(hn:x≠"__name__":=by decide)(iT:(x == ("__debug__":Str))=false:=by decide)
 (he:starEach (e::es) X.env=(false,eval e X.env)::starEach es X.env:=by rfl) (bH:(backTo pos (starEach es X.env)).any (·.1)=false:=by rfl):PE X (.Call (.Name x p) (e::es) [] pos) (wX r t):=by
 intro pins s σ H Q I h;refine zT (sR I hg hm hv ?_ hn iT);exact PyProof.Rows.callWith_builtin1 (thn (ha pos pins s σ H _ I h) fun us s1 RX=>RX.elim fun vs RY=>RY.elim fun H1 RZ=>RZ.elim fun I1 R0=>R0.elim fun r1 q1=>hc pins s1 σ H1 vs us Q I1 r1 q1) he bH
theorem fT(hc:gy X (.type T) r)(hg:Gl X x)(hm:X.mg x=none)(hv:bootBuiltins x=some (.type T))(ha:PA X (e::es) t)(hn:x≠"__name__":=by decide)(iT:(x == ("__debug__":Str))=false:=by decide)
 (he:starEach (e::es) X.env=(false,eval e X.env)::starEach es X.env:=by rfl) (bH:(backTo pos (starEach es X.env)).any (·.1)=false:=by rfl):PE X (.Call (.Name x p) (e::es) [] pos) (wX r t):=by
 intro pins s σ H Q I h;refine zT (sR I hg hm hv ?_ hn iT);exact La (thn (ha pos pins s σ H _ I h) fun us s1 R1=>R1.elim fun vs R3=>R3.elim fun H1 R4=>R4.elim fun I1 R5=>R5.elim fun r1 q1=>hc pins s1 σ H1 vs us Q I1 r1 q1) he bH
end
end L2
namespace HT
open PySem PyProof.Rows
def lexLt:List Int->List Int->Bool
 | [],[]=>false
 | [],_::_=>true
 | _::_,[]=>false
 | x::xs,y::ys=>if x=y then lexLt xs ys else decide (x<y)
theorem pz(x y:Int)(xs ys:List Int):lexLt (x::xs) (y::ys)=if x=y then lexLt xs ys else decide (x<y):=rfl
theorem AI:lexLt [] []=false:=rfl
theorem AJ(y:Int)(ys:List Int):lexLt [] (y::ys)=true:=rfl
theorem AK(x:Int)(xs:List Int):lexLt (x::xs) []=false:=rfl
theorem AL(A:Around)(s:Shared)(a:Int)(t:Tok)(c:Int)(u:Tok):∃e,SeqAt.EqAt A s (.int a t) (.int c u) e/\(e=true↔a=c):=
 ⟨(a == c),SeqAt.EqAt.int_int a t c u,by simp⟩
theorem FG(A:Around)(s:Shared)(a:Int)(t:Tok)(c:Int)(u:Tok)(prog:Program)(w:World)(E:VP)(Q:VP)(h:Q (.bool (decide (a<c))) s) :
 wpAny (model prog w) A (richCompare .Lt (.int a t) (.int c u)) Q E s:=
 (PyProof.Rows.lt_int h:wpAny (model prog w) A (compareOp .Lt (.int a t) (.int c u)) Q E s)
section
open PySem.SeqAt
open PySem.AutoSeq1 (wpAny_loadPart')
open PySem.MeetsSeq PySem.MeetsSeq2 PySem.MeetsSeq3
theorem R6(l b:Addr)(items cu:Av)(n n2:Nat)(dd fU:Oa)(sl dv:Array (Option Value))(ns ms:List Int)(hi:IntsAre items.toList ns)(hj:IntsAre cu.toList ms) :
 Meets (Builtin.«tuple.__lt__» ⟨[.ref l,.ref b],[]⟩)
  (fun _ R s=>s.heap.get? l=some { cls:=.type "tuple",dict:=dd,data:=.seq items n,slots:=sl }/\s.heap.get? b=some { cls:=.type "tuple",dict:=fU,data:=.seq cu n2,slots:=dv } /\
   R (.ok (.ret (.bool (lexLt ns ms)))) s):=
 .of_wp fun prog w A R s h=>by
  obtain⟨hp,g,d,tk,os⟩:=s;obtain⟨hl,hb,h⟩:=h;have f2:=Lm;have z1:items.size=ns.length:=by rw[←hi.length];simp
  have z2:cu.size=ms.length:=by rw[←hj.length];simp
  wp_walk using wpAny_loadPart' hl,wpAny_loadPart' hb,sE _ (fun rest b s'=>b.1=none/\s'=⟨hp,g,d,tk,os⟩/\∃(vs ws:Lw) (eX eY:List Int),rest=vs.zip ws /\
   IntsAre vs eX/\IntsAre ws eY/\eX.length+cu.size=eY.length+items.size/\R (.ok (.ret (.bool (lexLt eX eY)))) ⟨hp,g,d,tk,os⟩) _
  case turn=>
   rintro⟨y,x⟩ rest b s' ⟨jP,rfl,vs,ws,eX,eY,hz,jQ,fw,hlen,hR⟩;cases jQ with
   | nil=>rw[Ln]at hz;cases hz
   | cons a t tq=>
    cases fw with
    | nil=>rw[Lo]at hz;cases hz
    | cons c u tu=>
     rw[sG]at hz;injection hz with gA hrest
     injection gA with hy hx
     subst hy hx;rw[pz]at hR;simp only[cV]at hlen;obtain⟨e,he,nk⟩:=AL A.in1 ⟨hp,g,d,tk,os⟩ a t c u;refine ai (he prog w _ _ ?_);cases e with
     | true=>
      rw[aB (nk.mp rfl)]at hR
      wp_walk
      exact⟨rfl,rfl,_,_,_,_,hrest,tq,tu,by omega,hR⟩
     | false=>
      rw[ap (fun q=>absurd (nk.mpr q) cr)]at hR;have tw:=FG A.in1 ⟨hp,g,d,tk,os⟩ a t c u prog w
      wp_walk using tw
      exact⟨_,rfl,by simpa using hR⟩
  case fin=>
   rintro⟨b1,b2⟩ s' ⟨jP,rfl,vs,ws,eX,eY,hz,jQ,fw,hlen,hR⟩;simp only at jP;subst jP;have hv:lexLt eX eY=decide (items.size<cu.size):=by
    cases jQ with
    | nil=>
     cases fw with
     | nil=>
      simp only[ji]at hlen;rw[AI];exact(ba (by omega)).symm
     | cons c u hw=>
      simp only[ji,cV]at hlen;rw[AJ];exact(aE (by omega)).symm
    | cons a t hv=>
     cases fw with
     | nil=>
      simp only[ji,cV]at hlen;rw[AK];exact(ba (by omega)).symm
     | cons c u hw=>
      rw[sG]at hz;cases hz
   rw[hv]at hR
   wp_walk
   exact⟨_,rfl,by simpa [Builtin.Tuple.tupleCompareSizes]using hR⟩
  case h=>
   exact⟨rfl,rfl,items.toList,cu.toList,ns,ms,rfl,hi,hj,by omega,h⟩
end
section
variable {prog:Program}{w:World}{A:Around}{E:VP}{s:Shared}
theorem R7{l b:Addr}{items cu:Av}{ns ms:List Int}{Q:VP}(hl:IsTup s.heap l items)(hb:IsTup s.heap b cu)(hi:IntsAre items.toList ns)(hj:IntsAre cu.toList ms)
 (hu:A.units<cLine) (h:Q (.bool (lexLt ns ms)) s):wpAny (model prog w) A (compareOp .Lt (.ref l) (.ref b)) Q E s:=by
 obtain⟨⟨cls,dd,data,sl⟩,ho,hc,n,hd⟩:=id hl;obtain⟨⟨AM,fU,data2,dv⟩,jR,fV,n2,hd2⟩:=id hb;simp only at hc hd fV hd2;subst hc hd fV hd2;exact Lq (op:=.Lt) ⟨_,ho,rfl⟩ ⟨_,jR,rfl⟩ PySem.F.slot_tuple_lt PySem.F.entry_tuple_lt (PySem.F.args_tuple_lt_2 _ _) (R6 l b items cu n n2 dd fU sl dv ns ms hi hj)
  ⟨ho,jR,show Value.bool (lexLt ns ms)≠Value.notImplemented/\Q (.bool (lexLt ns ms)) s from ⟨(fun x=>nomatch x),h⟩⟩ hu
def dG(n d:Nat):Option Int->Nat
 | none=>d
 | some v=>if v<0 then(v+(n:Int)).toNat else min v.toNat n
theorem R8(n d:Nat):dG n d none=d:=rfl
theorem AN(n d k:Nat):dG n d (some (k:Int))=min k n:=by
 show(if (k:Int)<0 then((k:Int)+(n:Int)).toNat else min (k:Int).toNat n)=min k n;rw[ap (by omega),Lr]
end
end HT
namespace L2
open PySem PySem.Spec PyProof.Rows
abbrev TO:=St->Hp->(Option Int->Hp->Prop)->Prop
def PO(X:Cx)(e:Option Expr)(t:TO):Prop:=
 ∀(pins:Po) (s:Shared) (σ:St) (H:Hp) (Q:Option Int->Hp->Prop),Inv X pins σ H s->t σ H Q ->
  wpAny (model X.prog X.w) X.A (evalPart e X.env) (fun u s'=>∃o H',Inv X pins σ H' s'/\IsPart u o/\Q o H') X.xe s
def R9:TO:=fun _ H Q=>Q none H
def Sa(t:TE):TO:=fun σ H Q=>t σ H fun x H1=>∃i,x=.int i/\Q (some i) H1
theorem intsAre_of{ns:List Int}:∀{us:Lw},aU (ns.map V.int) us->IntsAre us ns:=by
 induction ns with
 | nil=>intro us r;rw[zU]at r;cases r;exact .nil
 | cons n ns ih=>
  intro us r;rw[dM]at r;cases r with
  | cons r1 r2=>
   obtain⟨t,e⟩:=r1;subst e;exact .cons n t (ih r2)
section
variable {X:Cx}{e:Expr}{te:TE}{lo hi:Option Expr}{tl th:TO}{pos p2:Pos}
theorem qS:PO X none R9:=by
 intro pins s σ H Q I h;rw[evalPart_none];exact aw ⟨none,H,I,.none,h⟩
theorem nn(h:PE X e te):PO X (some e) (Sa te):=by
 intro pins s σ H Q I hw;rw[evalPart_some];refine thn (h pins s σ H _ I hw) fun u s1 Sb=>Sb.elim fun x Sc=>Sc.elim fun H1 Sd=>Sd.elim fun I1 Se=>Se.elim fun r1 q1=>?_;obtain⟨i,rfl,q⟩:=q1;obtain⟨t,rfl⟩:=r1;exact⟨some i,H1,I1,.int i t,q⟩
def qT(X:Cx)(r:V->Option Int->Option Int->Hp->VK->Prop):Prop:=
 ∀(pins:Po) (s:Shared) (σ:St) (H:Hp) (x:V) (v vl vu:Value) (lo hi:Option Int) (sl:Addr) (Q:VK),Inv X pins σ H s->RelV x v->s.heap.IsSliceOf sl vl vu .none->IsPart vl lo->IsPart vu hi->r x lo hi H Q ->
  ∃T id,typeLookup (.type T) "__getitem__"=pure (some (.builtin id))/\s.TypeIs v T/\wpAny (model X.prog X.w) X.A (getItem v (.ref sl)) (EP X pins σ Q) X.xe s
def Sf(r:V->Option Int->Option Int->Hp->VK->Prop)(te:TE)(tl th:TO):TE:=fun σ H Q=>te σ H fun x H1=>tl σ H1 fun l H2=>th σ H2 fun u H3=>r x l u H3 Q
theorem pA{r:V->Option Int->Option Int->Hp->VK->Prop}(hr:qT X r)(he:PE X e te)(hl:PO X lo tl)(hu:PO X hi th):PE X (.Subscript e (.Slice lo hi none p2) pos) (Sf r te tl th):=by
 intro pins s σ H Q I h;refine Subscript_ (thn (he pins s σ H _ I h) fun v s1 Sg=>Sg.elim fun x Sh=>Sh.elim fun H1 Si=>Si.elim fun I1 Sj=>Sj.elim fun r1 q1=>?_);refine wpAny_Slice (thn (hl pins s1 σ H1 _ I1 q1) fun vl s2 Sk=>Sk.elim fun l Sl=>Sl.elim fun H2 Sm=>Sm.elim fun I2 Sn=>Sn.elim fun pl q2=>thn (hu pins s2 σ H2 _ I2 q2) fun vu s3 So=>So.elim fun u Sq=>Sq.elim fun H3 Sr=>Sr.elim fun I3 Ss=>Ss.elim fun pu q3=>?_);rw[evalPart_none];refine aw ?_;have I4:Inv X pins σ H3 { s3 with heap:=s3.heap.push { cls:=.type "slice",data:=.fields #[vl,vu,.none] } }:=I3.kept (t':=s3.toks) fun b ob q=>bS _ q;obtain⟨T,id,hT,ht,hg⟩:=hr pins { s3 with heap:=s3.heap.push { cls:=.type "slice",data:=.fields #[vl,vu,.none] } } σ H3 x v vl vu l u s3.heap.objs.size Q I4 r1 (Heap.IsSliceOf.new ..) pl pu q3;show wpAny (model X.prog X.w) X.A (subscriptTail e (.Slice lo hi none p2) v (.ref s3.heap.objs.size)) (EP X pins σ Q) X.xe { s3 with heap:=s3.heap.push { cls:=.type "slice",data:=.fields #[vl,vu,.none] } };exact tail_any (ops:=[.ref s3.heap.objs.size,v]) ht hT hg (by with_unfolding_all rfl)
def lL(xs:Lv)(lo hi:Option Int):Lv:=(xs.drop (HT.dG xs.length 0 lo)).take (HT.dG xs.length xs.length hi - HT.dG xs.length 0 lo)
theorem Su(xs:Lv)(lo hi:Option Int):(lL xs lo hi).length<=xs.length:=by
 unfold lL;rw[eV,List.length_drop];omega
def Sv(K:Fg):R2:=fun x y H Q=>∃a b ns ms,x=.ref a/\y=.ref b/\ak K H a (ns.map V.int)/\ak K H b (ms.map V.int)/\Q (.bl (HT.lexLt ns ms)) H
theorem AO(hu:X.A.units<cLine):bI X (compareOp .Lt) (Sv X.K):=by
 intro pins s σ H x y v u Q I rx ry h;obtain⟨a,b,ns,ms,rfl,rfl,ha,hb,q⟩:=h;cases rx;cases ry;obtain⟨its,r1,p1,_⟩:=I.tuple ha;obtain⟨jm,r2,p2,_⟩:=I.tuple hb;have i1:IntsAre its.toArray.toList ns:=intsAre_of r1;have i2:IntsAre jm.toArray.toList ms:=intsAre_of r2;exact HT.R7 p1 p2 i1 i2 hu ⟨.bl (HT.lexLt ns ms),H,I,rfl,q⟩
end
def qU(n:Nat)(i:Int):Option Nat:=if 0<=i then(if i<n then some i.toNat else none) else if -(n:Int)<=i then some (i+n).toNat else none
def aM{α:Type}(xs:List α)(i:Int):Option α:=(qU xs.length i).bind fun j=>xs[j]?
theorem Sw{n:Nat}{i:Int}{j:Nat}(h:qU n i=some j):seqIndex? i n=some j/\j<n/\-(n:Int)<=i/\i<n:=by
 unfold qU at h
 by_cases h0:0<=i
 . rw[aB h0]at h
   by_cases h1:i<n
   . rw[aB h1]at h;have e:i.toNat=j:=gu h;exact⟨by rw[seqIndex_of h0 h1,e],by omega,by omega,h1⟩
   . rw[ap h1]at h;cases h
 . rw[ap h0]at h
   by_cases h1:-(n:Int)<=i
   . rw[aB h1]at h;have e:(i+n).toNat=j:=gu h;exact⟨by rw[seqIndex_neg (by omega) h1,e],by omega,h1,by omega⟩
   . rw[ap h1]at h;cases h
theorem AQ{α:Type}{xs:List α}{i:Int}{v:α}(h:aM xs i=some v):∃j,seqIndex? i xs.length=some j/\xs[j]?=some v/\j<xs.length/\-(xs.length:Int)<=i/\i<xs.length:=by
 unfold aM at h;cases e:qU xs.length i with
 | none=>rw[e]at h;cases h
 | some j=>
  rw[e]at h;obtain⟨h1,h2,h3,h4⟩:=Sw e;exact⟨j,h1,h,h2,h3,h4⟩
theorem bT{α:Type}{xs:List α}{j:Nat}{v:α}(h:xs[j]?=some v):aM xs (j:Int)=some v:=by
 have hj:j<xs.length:=(bW.mp h).1;have e:qU xs.length (j:Int)=some j:=by
  unfold qU;rw[aB (by omega),aB (by omega)];simp
 unfold aM;rw[e];exact h
def Sx(b:Expr):Prop:=∀o i,subscripted b false o i=operate [o,i] (getItem o i)
def qV(X:Cx)(r:R2):Prop:=
 ∀(value slice:Expr) (pins:Po) (s:Shared) (σ:St) (H:Hp) (x y:V) (v u:Value) (Q:VK),Inv X pins σ H s->RelV x v->RelV y u->r x y H Q ->
  subscripted slice false v u=operate [v,u] (getItem v u)->wpAny (model X.prog X.w) X.A (subscriptTail value slice v u) (EP X pins σ Q) X.xe s
def FH(X:Cx)(id:String)(r:V->Lv->Hp->VK->Prop):Prop:=
 ∀(pins:Po) (s:Shared) (σ:St) (H:Hp) (x:V) (xs:Lv) (v:Value) (us:Lw) (Q:VK),Inv X pins σ H s->RelV x v->aU xs us->r x xs H Q ->
  wpAny (model X.prog X.w) X.A (call (.builtin id) (v::us)) (EP X pins σ Q) X.xe s
section
variable {X:Cx}{a b:Expr}{ta tb:TE}{pos:Pos}
theorem au{r:R2}(hr:qV X r)(ha:PE X a ta)(hb:PE X b tb)(hs:Sx b):PE X (.Subscript a b pos) (wO r ta tb):=by
 intro pins s σ H Q I h;exact Subscript_ (Ax ha hb I h fun v u s2 x y H2 I2 rx ry q=>hr a b pins s2 σ H2 x y v u Q I2 rx ry q (hs _ _))
def FI(K:Fg):R2:=fun x y H Q=>∃p xs i v,x=.ref p/\y=.int i/\ah K H p xs/\aM xs i=some v/\Q v H
def FJ(K:Fg):R2:=fun x y H Q=>∃p xs i v,x=.ref p/\y=.int i/\ak K H p xs/\aM xs i=some v/\Q v H
def Sy:R2:=fun x y H Q=>∃z i c,x=.str z/\y=.int i/\z.length<=sizeLine/\aM z.cps.toList i=some c/\Q (.str ⟨#[c]⟩) H
theorem dh:qV X (FI X.K):=by
 intro value slice pins s σ H x y v u Q I rx ry h hs;obtain⟨p,xs,i,z,rfl,rfl,hq,he,q⟩:=h;cases rx;obtain⟨t,rfl⟩:=ry;obtain⟨its,r,pl,hz⟩:=I.list hq;obtain⟨j,h1,h2,h3,h4,h5⟩:=AQ he;obtain⟨w,ew,iW⟩:=r.get h2;have hl:=r.length;have hn:=wT;have fin:EP X pins σ Q w s:=⟨z,H,I,iW,q⟩
 by_cases h0:0<=i
 . have hj:i.toNat=j:=by
    rw[seqIndex_of h0 h5]at h1;exact gu h1
   exact item_listR pl.isList h0 (by omega) (by rw[hj];simpa using ew) fin hs
 . have hj:(i+(its.toArray.size:Int)).toNat=j:=by
    rw[seqIndex_neg (by omega) h4]at h1;rw[gv,←hl];exact gu h1
   exact agu (x:=w) pl.isList.typeIs slot_list_getitem.lookup
    (wpAny_getItem_list_neg (Q:=fun r s'=>r=w/\EP X pins σ Q r s') pl.isList (by omega) (by rw[gv]<;>omega) (by omega) (by rw[hj];simpa using ew) ⟨rfl,fin⟩) hs
theorem aQ:qV X (FJ X.K):=by
 intro value slice pins s σ H x y v u Q I rx ry h hs;obtain⟨p,xs,i,z,rfl,rfl,hq,he,q⟩:=h;cases rx;obtain⟨t,rfl⟩:=ry;obtain⟨its,r,pl,hz⟩:=I.tuple hq;obtain⟨j,h1,h2,h3,h4,h5⟩:=AQ he;obtain⟨w,ew,iW⟩:=r.get h2;have hl:=r.length;have hn:=wT;have fin:EP X pins σ Q w s:=⟨z,H,I,iW,q⟩;exact agu (x:=w) pl.typeIs slot_tuple_getitem.lookup
  (getItem_tuple (j:=j) (Q:=fun r s'=>r=w/\EP X pins σ Q r s') pl (by omega) (by omega) (by rw[gv,←hl];exact h1) (by simpa using ew) ⟨rfl,fin⟩) hs
theorem AR:qV X Sy:=by
 intro value slice pins s σ H x y v u Q I rx ry h hs;obtain⟨z,i,c,rfl,rfl,hz,he,q⟩:=h;obtain⟨t,rfl⟩:=rx;obtain⟨t',rfl⟩:=ry;obtain⟨j,h1,h2,h3,h4,h5⟩:=AQ he;have hl:z.cps.toList.length=z.length:=by simp[Str.length]
 rw[hl]at h1 h4 h5;have hn:=wT;exact tail_any (typeIs_str s z t) slot_str_getitem.lookup (getItem_str (c:=c) (by
  have e1:decide (i < -(2 ^ 63:Int))=false:=ba (by omega);have e2:decide (i >= 2 ^ 63)=false:=ba (by omega);rw[e1,e2,Ew]) (by rw[h1];simpa using h2) ⟨.str ⟨#[c]⟩,H,I.tok _,⟨_,rfl⟩,q⟩) hs
theorem Sz(lo hi:Option Int)(n:Nat):(sliceBounds lo hi none n).1=((HT.dG n 0 lo:Nat):Int)/\(sliceBounds lo hi none n).2.1=((HT.dG n n hi:Nat):Int)/\(sliceBounds lo hi none n).2.2=1:=by
 refine⟨?_,?_,rfl⟩
 . cases lo with
   | none=>simp[sliceBounds,HT.dG]
   | some i=>
    simp only[sliceBounds,HT.dG,Option.getD_none,show(1:Int) > 0 by decide,wa]
    by_cases h:i<0
    . simp only[h,wa]<;>omega
    . simp only[h,ic]<;>omega
 . cases hi with
   | none=>simp[sliceBounds,HT.dG]
   | some i=>
    simp only[sliceBounds,HT.dG,Option.getD_none,show(1:Int) > 0 by decide,wa]
    by_cases h:i<0
    . simp only[h,wa]<;>omega
    . simp only[h,ic]<;>omega
theorem SA(its:Lw)(lo hi:Option Int):slicePick its.toArray lo hi none=((its.drop (HT.dG its.length 0 lo)).take (HT.dG its.length its.length hi - HT.dG its.length 0 lo)).toArray:=by
 obtain⟨h1,h2,h3⟩:=Sz lo hi its.toArray.size;unfold slicePick;rw[h1,h2,h3];simp only[sliceRange_one,pick_run,gv]<;>rfl
def SD(K:Fg):V->Option Int->Option Int->Hp->VK->Prop:=fun x lo hi H Q=>∃a xs,x=.ref a/\ah K H a xs/\∀p,H p=none->Q (.ref p) (al H p (.lst (lL xs lo hi)))
theorem SE:qT X (SD X.K):=by
 intro pins s σ H x v vl vu lo hi sl Q I rx hs pl pu h;obtain⟨a,xs,rfl,hx,q⟩:=h;cases rx;obtain⟨its,r,ht,hz⟩:=I.list hx;have hlen:=r.length;refine⟨"list",_,slot_list_getitem.lookup,ht.isList.typeIs,?_⟩;refine wpAny_getItem_list_slice ht.isList hs pl pu .none (by simp) ?_ (by rw[gv]<;>omega);rw[SA,←hlen];refine⟨.ref s.heap.objs.size,_,I.laid (t':=s.toks) (o:=.lst (lL xs lo hi)) (fun b ob q=>bS _ q) (aS _) ?_,rfl,q _ (I.hok.fresh (aS _))⟩;exact⟨eU (Su xs lo hi) hz,_,0,(r.drop (HT.dG xs.length 0 lo)).take (HT.dG xs.length xs.length hi - HT.dG xs.length 0 lo),em _ rfl⟩
def lM:V->Bool
 | .non=>true
 | .bl _=>true
 | .int _=>true
 | .str _=>true
 | _=>false
def kH:V->V->Bool
 | .non,.non=>true
 | .bl a,.bl b=>a == b
 | .bl a,.int b=>(if a then 1 else 0) == b
 | .int a,.bl b=>a == (if b then 1 else 0)
 | .int a,.int b=>a == b
 | .str a,.str b=>a == b
 | _,_=>false
theorem SF{A:Around}{s:Shared}{y x:V}{u v:Value}(ry:RelV y u)(rx:RelV x v)(fy:lM y=true)(fx:lM x=true):SeqAt.EqAt A s u v (kH y x):=by
 cases y with
 | non=>
  cases ry;cases x with
  | non=>cases rx;exact SeqAt.EqAt.same _
  | bl b=>cases rx;exact SeqAt.EqAt.none_bool b
  | int b=>obtain⟨t,rfl⟩:=rx;exact SeqAt.EqAt.none_int b t
  | str b=>obtain⟨t,rfl⟩:=rx;exact SeqAt.EqAt.none_str b t
  | _=>exact absurd (show false=true from fx) cr
 | bl a=>
  cases ry;cases x with
  | non=>cases rx;exact SeqAt.EqAt.bool_none a
  | bl b=>cases rx;exact SeqAt.EqAt.bool_bool a b
  | int b=>obtain⟨t,rfl⟩:=rx;exact SeqAt.EqAt.bool_int a b t
  | str b=>obtain⟨t,rfl⟩:=rx;exact SeqAt.EqAt.bool_str a b t
  | _=>exact absurd (show false=true from fx) cr
 | int a=>
  obtain⟨t',rfl⟩:=ry;cases x with
  | non=>cases rx;exact SeqAt.EqAt.int_none a t'
  | bl b=>cases rx;exact SeqAt.EqAt.int_bool a t' b
  | int b=>obtain⟨t,rfl⟩:=rx;exact SeqAt.EqAt.int_int a t' b t
  | str b=>obtain⟨t,rfl⟩:=rx;exact SeqAt.EqAt.int_str a t' b t
  | _=>exact absurd (show false=true from fx) cr
 | str a=>
  obtain⟨t',rfl⟩:=ry;cases x with
  | non=>cases rx;exact SeqAt.EqAt.str_none a t'
  | bl b=>cases rx;exact SeqAt.EqAt.str_bool a t' b
  | int b=>obtain⟨t,rfl⟩:=rx;exact SeqAt.EqAt.str_int a t' b t
  | str b=>obtain⟨t,rfl⟩:=rx;exact SeqAt.EqAt.str_str a t' b t
  | _=>exact absurd (show false=true from fx) cr
 | _=>exact absurd (show false=true from fy) cr
def lN(x:V)(u:Value):Bool:=match u with
 | .none=>kH .non x
 | .bool b=>kH (.bl b) x
 | .int i _=>kH (.int i) x
 | .str z _=>kH (.str z) x
 | _=>false
theorem FK{x y:V}{u:Value}(r:RelV y u)(f:lM y=true):lN x u=kH y x:=by
 cases y with
 | non=>cases r;rfl
 | bl b=>cases r;rfl
 | int i=>obtain⟨t,rfl⟩:=r;rfl
 | str z=>obtain⟨t,rfl⟩:=r;rfl
 | _=>exact absurd (show false=true from f) cr
theorem AS{x:V}:∀{xs:Lv}{us:Lw},aU xs us->xs.all lM=true->us.any (lN x)=xs.any fun y=>kH y x
 | _,_,.nil,_=>rfl
 | y::xs,u::us,.cons r t,f=>by
  rw[Ex,et]at f;rw[oW,oW,FK r f.1,AS t f.2]
theorem AT{A:Around}{s:Shared}{x:V}{v:Value}(rx:RelV x v)(fx:lM x=true):∀{xs:Lv}{us:Lw},aU xs us->xs.all lM=true->∀u∈us,SeqAt.EqAt A s u v (lN x u)
 | _,_,.nil,_=>fun u hu=>by cases hu
 | y::xs,u::us,.cons r t,f=>fun u' hu=>by
  rw[Ex,et]at f
  rcases cE.mp hu with rfl | hu
  . rw[FK r f.1];exact SF r rx f.1 fx
  . exact AT rx fx t f.2 u' hu
def jS(x:V)(xs:Lv):Bool:=xs.any fun y=>kH y x
def SG(K:Fg)(neg:Bool):R2:=fun x y H Q=>∃p xs,y=.ref p/\(ah K H p xs\/ak K H p xs)/\lM x=true/\xs.all lM=true/\Q (.bl (if neg then !jS x xs else jS x xs)) H
theorem qW:bI X (compareOp .In) (SG X.K false):=by
 intro pins s σ H x y v u Q I rx ry h;obtain⟨p,xs,rfl,hq,fx,fs,q⟩:=h;cases ry
 rcases hq with hq | hq
 . obtain⟨its,r,pl,hz⟩:=I.list hq;refine SeqAt.in_listAt (lN x) pl.isList (fun w hw=>AT rx fx r fs w (by simpa using hw)) ⟨.bl _,H,I,rfl,?_⟩;rw[show its.toArray.any (lN x)=its.any (lN x) by simp,AS r fs];exact q
 . obtain⟨its,r,pl,hz⟩:=I.tuple hq;refine SeqAt.in_tupleAt (lN x) pl (fun w hw=>AT rx fx r fs w (by simpa using hw)) ⟨.bl _,H,I,rfl,?_⟩;rw[show its.toArray.any (lN x)=its.any (lN x) by simp,AS r fs];exact q
theorem dH:gy X (.builtin "len") (fun xs H Q=>∃p ys,xs=[.ref p]/\(ah X.K H p ys\/ak X.K H p ys)/\Q (.int ys.length) H):=by
 intro pins s σ H xs us Q I r h;obtain⟨p,ys,rfl,hq,q⟩:=h;obtain⟨u,rfl,rx⟩:=vals1 r;cases rx;have hn:=wT
 rcases hq with hq | hq
 . obtain⟨its,r',pl,hz⟩:=I.list hq;have hlen:=r'.length;exact Calls.call_len_list pl.isList (by simp only[gv]<;>omega) ⟨.int ys.length,H,I.tok _,⟨s.toks+1,by rw[gv,hlen]⟩,q⟩
 . obtain⟨its,r',pl,hz⟩:=I.tuple hq;have hlen:=r'.length;exact len_tuple pl (by simp only[gv]<;>omega) ⟨.int ys.length,H,I.tok _,⟨s.toks+1,by rw[gv,hlen]⟩,q⟩
theorem tD:gy X (.type "list") (fun xs H Q=>∃p ys,xs=[.ref p]/\(ah X.K H p ys\/ak X.K H p ys)/\∀l,H l=none->Q (.ref l) (al H l (.lst ys))):=by
 intro pins s σ H xs us Q I r h;obtain⟨p,ys,rfl,hq,q⟩:=h;obtain⟨u,rfl,rx⟩:=vals1 r;cases rx;have fin:∀(its:Lw),aU ys its->ys.length<=sizeLine->∀(h':Heap) (c':Nat),(∀b o',s.heap.get? b=some o'->h'.get? b=some o') ->
  h'.get? s.heap.objs.size=some { cls:=.type "list",dict:=none,data:=.seq its.toArray c',slots:=#[] }->EP X pins σ Q (.ref s.heap.objs.size) { s with heap:=h' }:=fun its r' hz h' c' kp e=>
  ⟨.ref s.heap.objs.size,_,I.laid (t':=s.toks) kp (aS _) (show bX X.prog X.w _ h' _ (.lst ys) from ⟨hz,its,c',r',e⟩),rfl,q _ (I.hok.fresh (aS _))⟩
 rcases hq with hq | hq
 . obtain⟨its,r',pl,hz⟩:=I.list hq;have hlen:=r'.length;obtain⟨o,ho,hc,n,hd⟩:=pl.isList;exact call_list_seq p (.inl rfl) ho hc hd (fun h' c' kp e=>fin its r' hz h' c' kp e) (by simp only[gv]<;>omega)
 . obtain⟨its,r',pl,hz⟩:=I.tuple hq;have hlen:=r'.length;obtain⟨o,ho,hc,n,hd⟩:=pl;exact call_list_seq p (.inr rfl) ho hc hd (fun h' c' kp e=>fin its r' hz h' c' kp e) (by simp only[gv]<;>omega)
def AU(K:Fg)(T:String)(x:V)(H:Hp):Prop:=match x with
 | .str _=>T="str"
 | .int _=>T="int"
 | .ref p=>(T="list"/\∃xs,ah K H p xs)\/(T="tuple"/\∃o,K.lookup p=some o/\o.cls=.type "tuple"/\o.dict=none) \/
  (T="dict"/\((∃ab,H p=some (.dK ab))\/∃ab,H p=some (.dT ab)))\/(T="set"/\∃S n,H p=some (.set S n))
 | _=>False
theorem FL{pins:Po}{σ:St}{H:Hp}{s:Shared}{T:String}{x:V}{v:Value}(I:Inv X pins σ H s)(r:RelV x v)(ty:AU X.K T x H) :
 s.TypeIs v T/\∀a,v=.ref a->∃ob,s.heap.get? a=some ob/\ob.dict=none:=by
 cases x with
 | str z=>
  obtain⟨t,rfl⟩:=r;cases (show T="str" from ty);exact⟨typeIs_str s z t,fun _ e=>nomatch e⟩
 | int i=>
  obtain⟨t,rfl⟩:=r;cases (show T="int" from ty);exact⟨typeIs_int s i t,fun _ e=>nomatch e⟩
 | ref p=>
  cases r
  rcases ty with⟨rfl,xs,hq⟩ | ⟨rfl,o,hk,hc,hd⟩ | ⟨rfl,hk⟩ | ⟨rfl,S,n,hk⟩
  . obtain⟨its,_,pl,_⟩:=I.list hq;refine⟨pl.isList.typeIs,fun a e=>?_⟩;cases e;obtain⟨o,n,e,c,hd,_⟩:=pl;exact⟨o,e,hd⟩
  . refine⟨⟨o,I.kIn p o hk,hc⟩,fun a e=>?_⟩;cases e;exact⟨o,I.kIn _ o hk,hd⟩
  . have z:∃o,s.heap.get? p=some o/\o.ExactDict:=by
     rcases hk with⟨ab,hk⟩ | ⟨ab,hk⟩
     . obtain⟨_,_,_,_,o,_,_,e,ex,_⟩:=I.hok p _ hk;exact⟨o,e,ex⟩
     . obtain⟨_,_,_,_,o,_,_,e,ex,_⟩:=I.hok p _ hk;exact⟨o,e,ex⟩
    obtain⟨o,e,ex⟩:=z;refine⟨⟨o,e,ex.1⟩,fun a e2=>?_⟩;cases e2;exact⟨o,e,ex.2.1⟩
  . obtain⟨o,_,_,_,e,ex,_⟩:=I.hok p _ hk;refine⟨⟨o,e,ex.1⟩,fun a e2=>?_⟩;cases e2;exact⟨o,e,ex.2.1⟩
 | _=>exact False.elim ty
def SH(K:Fg)(T:String)(r:V->Lv->Hp->VK->Prop)(to:TE):TE:=fun σ H Q=>to σ H fun x H1=>AU K T x H1/\r x [] H1 Q
def SI(K:Fg)(T:String)(r:V->Lv->Hp->VK->Prop)(to:TE)(t:TA):TE:=fun σ H Q=>to σ H fun x H1=>AU K T x H1/\t σ H1 fun xs H2=>r x xs H2 Q
variable {o e:Expr}{es:List Expr}{to:TE}{t:TA}{name:Str}{apos dw:Pos}{T id:String}{r:V->Lv->Hp->VK->Prop}
theorem FM(pa:PlainAttrs T)(slot:Slot T name id)(AV:typeOf (.builtin id)=pure (.type "method_descriptor"))(hm:FH X id r)(ho:PE X o to)
 (AW:attributeBase o name X.env (eval o X.env)=eval o X.env:=by rfl) (AX:(apos.endLine == dw.line)=true:=by rfl):PE X (.Call (.Attribute o name apos) [] [] dw) (SH X.K T r to):=by
 intro pins s σ H Q I h;refine wpAny_Call_method0_late AW AX (thn (ho pins s σ H _ I h) fun v s1 SJ=>SJ.elim fun x SK=>SK.elim fun H1 SM=>SM.elim fun I1 SN=>SN.elim fun r1 SO=>SO.elim fun ty q1=>?_);obtain⟨h1,h2⟩:=FL I1 r1 ty;exact⟨T,id,pa,slot,AV,h1,h2,Ey rfl (PySem.evalArgs_none (hm pins s1 σ H1 x [] v [] Q I1 r1 .nil q1))⟩
theorem wY(pa:PlainAttrs T)(slot:Slot T name id)(AV:typeOf (.builtin id)=pure (.type "method_descriptor"))(hm:FH X id r)(ho:PE X o to)(ha:PA X (e::es) t)
 (AW:attributeBase o name X.env (eval o X.env)=eval o X.env:=by rfl)
 (SQ:((backTo dw (starEach (e::es) X.env)).all (fun x=>!x.1) && (backToKw dw (keywordEach [] X.env)).all (fun x=>x.1.isSome)
  && decide ((e::es).length+([]:List Keyword).length+(if ([]:List Keyword).isEmpty then 0 else 1)<30))=true:=by rfl)
 (AX:(apos.endLine == dw.line)=true:=by rfl) (hs:starEach (e::es) X.env=(false,eval e X.env)::starEach es X.env:=by rfl) (SR:(backTo dw (starEach es X.env)).any (·.1)=false:=by rfl) :
 PE X (.Call (.Attribute o name apos) (e::es) [] dw) (SI X.K T r to t):=by
 intro pins s σ H Q I h;refine wpAny_Call_method_late AW SQ AX rfl (thn (ho pins s σ H _ I h) fun v s1 SS=>SS.elim fun x SU=>SU.elim fun H1 SV=>SV.elim fun I1 SW=>SW.elim fun r1 SX=>SX.elim fun ty q1=>?_);obtain⟨h1,h2⟩:=FL I1 r1 ty;refine⟨T,id,pa,slot,AV,h1,h2,?_⟩;have hA:=ha dw pins s1 σ H1 _ I1 q1;rw[hs]at hA ⊢;refine Ey (by show(false || (backTo dw (starEach es X.env)).any (·.1))=false;rw[SR]<;>rfl) (Lu ?_);exact thn hA fun us s2 SY=>SY.elim fun vs Ta=>Ta.elim fun H2 Tb=>Tb.elim fun I2 Te=>Te.elim fun r2 q2=>hm pins s2 σ H2 x vs v us Q I2 r1 r2 q2
end
def AY(X:Cx)(id:String)(r:V->Lv->Hp->VK->Prop):Prop:=
 ∀(pins:Po) (s:Shared) (σ:St) (H:Hp) (x:V) (xs:Lv) (v:Value) (us:Lw) (Q:VK),Inv X pins σ H s->RelV x v->aU xs us->r x xs H Q ->
  wpAny (model X.prog X.w) X.A (call (.builtin id) (v::us)) (EP X pins σ Q) X.xe s
theorem aU.one:∀{x:V}{us:Lw},aU [x] us->∃u,us=[u]/\RelV x u
 | _,_,.cons r .nil=>⟨_,rfl,r⟩
theorem aU.zero:∀{us:Lw},aU [] us->us=[]
 | _,.nil=>rfl
theorem aU.dropLast{xs:Lv}{us:Lw}(h:aU xs us):aU xs.dropLast us.dropLast:=by
 induction h with
 | nil=>exact .nil
 | cons r t ih=>
  cases t with
  | nil=>exact .nil
  | cons q t'=>exact .cons r ih
theorem Tf{α:Type}(l:List α):l.eraseIdx (l.length - 1)=l.dropLast:=by
 induction l with
 | nil=>rfl
 | cons a r ih=>
  cases r with
  | nil=>rfl
  | cons b r=>
   have e:(a::b::r).length - 1=((b::r).length - 1)+1:=by
    have h1:(a::b::r).length=r.length+2:=rfl;have h2:(b::r).length=r.length+1:=rfl;omega
   rw[e,List.eraseIdx_cons_succ,ih]
   all_goals rfl
section
variable {X:Cx}{pins:Po}{σ:St}{H:Hp}{s:Shared}{l b:Addr}{xs ys zs:Lv}
theorem Inv.lset{its its':Lw}{n:Nat}{f:Av->Av}{t':Nat}(I:Inv X pins σ H s)(hH:H l=some (.lst xs))
 (e:s.heap.get? l=some { cls:=.type "list",data:=.seq its.toArray n }) (hf:f its.toArray=its'.toArray) (hv:aU ys its') (hz:ys.length<=sizeLine) :
 Inv X pins σ (al H l (.lst ys)) { s with heap:=s.heap.update l (Obj.mapSeq f),toks:=t' }:=by
 have q:=PySem.IsL.update e f;rw[hf]at q;refine I.write (x:=l) (e:=l) (by rw[hH];exact trivial) (.inl rfl) (fun b' u hb hu=>(zV s.heap (Obj.mapSeq f) (gM hb)).trans hu) ⟨_,q⟩ ?_;exact⟨hz,its',_,hv,q⟩
theorem Inv.lnew{its:Lw}{t':Nat}(I:Inv X pins σ H s)(hv:aU ys its)(hz:ys.length<=sizeLine) :
 Inv X pins σ (al H s.heap.objs.size (.lst ys)) { s with heap:=s.heap.push { cls:=.type "list",data:=.seq its.toArray },toks:=t' }:=
 I.laid (fun _ _ q=>bS _ q) (aS _) ⟨hz,its,0,hv,em _ rfl⟩
theorem Inv.fresh(I:Inv X pins σ H s):H s.heap.objs.size=none:=I.hok.fresh (aS _)
theorem Inv.lstM(I:Inv X pins σ H s)(hH:H l=some (.lst xs)):xs.length<=sizeLine/\∃(its:Lw) (n:Nat),aU xs its/\xs.length=its.length/\s.heap.get? l=some { cls:=.type "list",data:=.seq its.toArray n }:=by
 obtain⟨z,its,n,r,e⟩:=I.hok l _ hH;exact⟨z,its,n,r,r.length,e⟩
end
section
variable {X:Cx}
def Tg:V->Lv->Hp->VK->Prop:=fun x vs H Q=>∃l xs y,x=.ref l/\vs=[y]/\H l=some (.lst xs)/\xs.length<sizeLine/\Q .non (al H l (.lst (xs++[y])))
theorem tE:AY X "list.append" Tg:=by
 intro pins s σ H x vs v us Q I rx rv h;obtain⟨l,xs,y,rfl,rfl,hH,hz,q⟩:=h;cases rx;obtain⟨u,rfl,ru⟩:=rv.one;obtain⟨z,its,n,r,hl,e⟩:=I.lstM hH;refine call_meets F.slot_list_append ⟨_,e,rfl⟩ F.entry_list_append (F.args_list_append_2 _ _) (PySem.list_append l its.toArray n u (by rw[gv];omega)) ⟨e,?_⟩;refine⟨.non,_,I.lset (its':=its++[u]) hH e (by simp) (r.append (.cons ru .nil)) ?_,rfl,q⟩;rw[be,jE];omega
def Th:V->Lv->Hp->VK->Prop:=fun x vs H Q=>∃l xs y,x=.ref l/\vs=[]/\H l=some (.lst xs)/\xs[xs.length - 1]?=some y/\Q y (al H l (.lst xs.dropLast))
theorem Ti:AY X "list.pop" Th:=by
 intro pins s σ H x vs v us Q I rx rv h;obtain⟨l,xs,y,rfl,rfl,hH,hy,q⟩:=h;cases rx;have AZ:=rv.zero;subst AZ;obtain⟨z,its,n,r,hl,e⟩:=I.lstM hH;obtain⟨u,hu,ru⟩:=r.get hy;have qK:its.toArray[its.toArray.size - 1]?=some u:=by
  show its.toArray[its.length - 1]?=some u;rw[←sI,←hl];exact hu
 refine call_meets F.slot_list_pop ⟨_,e,rfl⟩ F.entry_list_pop (F.args_list_pop_1 _) (MeetsSeq.list_pop_last l its.toArray n u qK (by rw[gv];omega)) ⟨e,?_⟩;refine⟨y,_,I.lset (its':=its.dropLast) hH e ?_ r.dropLast ?_,ru,q⟩
 . show its.toArray.eraseIdxIfInBounds (its.toArray.size - 1)=its.dropLast.toArray;rw[gv,List.eraseIdxIfInBounds_toArray,Tf]
 . rw[List.length_dropLast];omega
def Tj:V->Lv->Hp->VK->Prop:=fun x vs H Q=>∃l xs,x=.ref l/\vs=[]/\H l=some (.lst xs)/\Q .non (al H l (.lst []))
theorem Tk:AY X "list.clear" Tj:=by
 intro pins s σ H x vs v us Q I rx rv h;obtain⟨l,xs,rfl,rfl,hH,q⟩:=h;cases rx;have AZ:=rv.zero;subst AZ;obtain⟨z,its,n,r,hl,e⟩:=I.lstM hH;refine call_meets F.slot_list_clear ⟨_,e,rfl⟩ F.entry_list_clear (F.args_list_clear_1 _) (AutoSeq1.list_clear_list_0 l its.toArray n (by rw[gv];omega)) ⟨e,?_⟩;exact⟨.non,_,I.lset (its':=[]) (ys:=[]) hH e rfl .nil (fQ _),rfl,q⟩
def Tl:R2:=fun x y H Q=>∃l b xs zs,x=.ref l/\y=.ref b/\H l=some (.lst xs)/\H b=some (.lst zs)/\xs.length+zs.length<=sizeLine/\∀p,H p=none->Q (.ref p) (al H p (.lst (xs++zs)))
theorem Tn:bI X (binaryOp .Add) Tl:=by
 intro pins s σ H x y v u Q I rx ry h;obtain⟨l,b,xs,zs,rfl,rfl,hH,hB,hz,q⟩:=h;cases rx;cases ry;obtain⟨z,its,n,r,hl,e⟩:=I.lstM hH;obtain⟨z2,jm,n2,r2,wZ,e2⟩:=I.lstM hB;refine PySem.P.add_list e e2 ?_ (by rw[gv,gv];omega);have ea:its.toArray++jm.toArray=(its++jm).toArray:=by simp
 rw[ea];exact⟨.ref _,_,I.lnew (t':=s.toks) (r.append r2) (by rw[be];omega),rfl,q _ I.fresh⟩
end
section
variable {prog:Program}{w:World}{A:Around}{E:VP}{s:Shared}
set_option maxRecDepth 100000 in
end
section
variable {X:Cx}
end
section
variable {κ:Type} [DecidableEq κ]
def bJ(ab:List (κ×V))(k:κ):Option V:=(ab.find? fun kv=>decide (kv.1=k)).map (·.2)
def ca(ab:List (κ×V))(k:κ)(v:V):List (κ×V):=
 if (ab.any fun kv=>decide (kv.1=k))=true then ab.map (fun kv=>if kv.1=k then(kv.1,v) else kv) else ab++[(k,v)]
theorem gh{p:κ×V}{r:List (κ×V)}{k:κ}(e:p.1=k):bJ (p::r) k=some p.2:=by simp[bJ,wg,e]
theorem fX{p:κ×V}{r:List (κ×V)}{k:κ}(e:¬p.1=k):bJ (p::r) k=bJ r k:=by simp[bJ,wg,e]
theorem qX(k:κ):∀ab:List (κ×V),(ab.any fun kv=>decide (kv.1=k))=(bJ ab k).isSome
 | []=>rfl
 | p::r=>by
  rw[oW]
  by_cases e:p.1=k
  . simp only[gh e,aE e,Lx,Option.isSome_some]
  . rw[fX e,ba e,zW];exact qX k r
theorem FN(k j:κ)(y:V):∀ab:List (κ×V),bJ (ab.map fun kv=>if kv.1=k then(kv.1,y) else kv) j=(bJ ab j).map fun x=>if j=k then y else x
 | []=>rfl
 | p::r=>by
  have ih:=FN k j y r;rw[dM]
  by_cases h:p.1=k
  . rw[aB h]
    by_cases e:p.1=j
    . rw[gh (p:=(p.1,y)) e,gh e,lw,aB (e.symm.trans h)]
    . rw[fX (p:=(p.1,y)) e,fX e,ih]
  . rw[ap h]
    by_cases e:p.1=j
    . rw[gh (p:=p) e,gh e,lw,ap (fun z=>h (e.trans z))]
    . rw[fX (p:=p) e,fX e,ih]
theorem FO(k j:κ)(y:V):∀ab:List (κ×V),bJ ab k=none->bJ (ab++[(k,y)]) j=if j=k then some y else bJ ab j
 | [],_=>by
  by_cases e:k=j
  . rw[aB e.symm];exact gh (p:=(k,y)) e
  . rw[ap (fun z=>e z.symm)];exact fX (p:=(k,y)) e
 | p::r,hn=>by
  rw[zX];have hk:¬p.1=k:=fun z=>by rw[gh z]at hn;cases hn
  rw[fX hk]at hn;have ih:=FO k j y r hn
  by_cases e:p.1=j
  . rw[gh e,gh e,ap (fun z=>hk (e.trans z))]
  . rw[fX e,fX e,ih]
theorem To(ab:List (κ×V))(k j:κ)(y:V):bJ (ca ab k y) j=if j=k then some y else bJ ab j:=by
 unfold ca
 by_cases a:(ab.any fun kv=>decide (kv.1=k))=true
 . rw[aB a,FN];rw[qX]at a
   by_cases e:j=k
   . obtain⟨x,hx⟩:=we.mp a;rw[aB e,e,hx,lw,aB rfl]
   . rw[ap e];cases bJ ab j with
     | none=>rfl
     | some x=>rw[lw,ap e]
 . rw[ap a];refine FO k j y ab ?_;rw[qX]at a;cases q:bJ ab k with
   | none=>rfl
   | some x=>rw[q]at a;exact(a rfl).elim
theorem w5(ab:List (κ×V))(k:κ)(v:V):(ca ab k v).length<=ab.length+1:=by
 unfold ca;split
 . rw[aK];omega
 . rw[be,cV,ji];omega
theorem FP{ab:List (κ×V)}{k:κ}(v:V)(h:bJ ab k=none):ca ab k v=ab++[(k,v)]:=by
 unfold ca;rw[qX,h];exact ap (by decide)
theorem fR.isSome_eq{o:Option V}{u:Option Value}(r:fR o u):o.isSome=u.isSome:=by
 cases o with
 | none=>cases u with
  | none=>rfl
  | some _=>exact(show False from r).elim
 | some _=>cases u with
  | none=>exact(show False from r).elim
  | some _=>rfl
theorem fR.getD{o:Option V}{u:Option Value}{d:V}{d':Value}(r:fR o u)(rd:RelV d d'):RelV (o.getD d) (u.getD d'):=by
 cases o with
 | none=>cases u with
  | none=>exact rd
  | some _=>exact(show False from r).elim
 | some _=>cases u with
  | none=>exact(show False from r).elim
  | some _=>exact r
theorem KV.val{ab:List (κ×V)}{vs:List (κ×Value)}(r:KV ab vs)(k:κ):fR (bJ ab k) (valueAt vs k):=by
 unfold KV at r
 induction r with
 | nil=>exact True.intro
 | @cons p q ps qs h t ih=>
  obtain⟨h1,h2⟩:=h
  by_cases e:p.1=k
  . have e':q.1=k:=h1.symm.trans e;have b:valueAt (q::qs) k=some q.2:=by simp[valueAt,wg,e']
    rw[gh e,b];exact h2
  . have e':¬q.1=k:=fun z=>e (h1.trans z);have b:valueAt (q::qs) k=valueAt qs k:=by simp[valueAt,wg,e']
    rw[fX e,b];exact ih
theorem KV.any{ab:List (κ×V)}{vs:List (κ×Value)}(r:KV ab vs)(k:κ):(ab.any fun kv=>decide (kv.1=k))=vs.any fun kv=>decide (kv.1=k):=by
 unfold KV at r
 induction r with
 | nil=>rfl
 | cons h t ih=>rw[oW,oW,ih,h.1]
theorem KV.repl{ab:List (κ×V)}{vs:List (κ×Value)}(r:KV ab vs)(k:κ){y:V}{u:Value}(ry:RelV y u) :
 KV (ab.map fun kv=>if kv.1=k then(kv.1,y) else kv) (vs.map fun kv=>if kv.1=k then(kv.1,u) else kv):=by
 unfold KV at r ⊢
 induction r with
 | nil=>exact .nil
 | @cons p q ps qs h t ih=>
  rw[dM,dM];refine .cons ?_ ih;obtain⟨h1,h2⟩:=h
  by_cases e:p.1=k
  . rw[aB e,aB (h1.symm.trans e)];exact⟨h1,ry⟩
  . rw[ap e,ap (fun z=>e (h1.trans z))];exact⟨h1,h2⟩
theorem KV.put{ab:List (κ×V)}{vs:List (κ×Value)}(r:KV ab vs)(k:κ){y:V}{u:Value}(ry:RelV y u):KV (ca ab k y) (stored vs k u):=by
 unfold ca stored;rw[r.any k]
 by_cases e:(vs.any fun kv=>decide (kv.1=k))=true
 . rw[aB e,aB e];exact r.repl k ry
 . rw[ap e,ap e];exact Paired.snoc r ⟨rfl,ry⟩
theorem KV.length{ab:List (κ×V)}{vs:List (κ×Value)}(r:KV ab vs):ab.length=vs.length:=wb r
end
theorem lO{P:Program}{w:World}{k:bj}{u:Value}(r:RelV (kV k) u):(cA P w).is k u=true:=by
 cases k with
 | inl i=>obtain⟨t,e⟩:=(show∃t,u=Value.int i t from r);subst e;exact Me P w i t
 | inr x=>obtain⟨t,e⟩:=(show∃t,u=Value.str x t from r);subst e;exact qJ P w x t
theorem FQ{P:Program}{w:World}:∀{ks:List bj}{us:Lw},aU (ks.map kV) us->ItemsAre (cA P w) ks us
 | [],_,r=>by rw[zU]at r;cases r;exact .nil
 | k::ks,_,r=>by
  rw[dM]at r;cases r with
  | cons h t=>exact .cons (lO h) (FQ t)
abbrev KT (H:Hp):List (List NI×V)->List (List NI×Addr×Value)->Prop:=Paired fun p q=>p.1=q.1/\fS H p.1 q.2.1/\RelV p.2 q.2.2
theorem KT.val{H:Hp}{ab:List (List NI×V)}{xs:List (List NI×Addr×Value)}(r:KT H ab xs)(k:List NI):fR (bJ ab k) ((atKey xs k).map (·.2)):=by
 induction r with
 | nil=>exact True.intro
 | @cons p q ps qs h t ih=>
  obtain⟨h1,_,h2⟩:=h
  by_cases e:p.1=k
  . have e':q.1=k:=h1.symm.trans e;have b:atKey (q::qs) k=some q.2:=by simp[atKey,wg,e']
    rw[gh e,b];exact h2
  . have e':¬q.1=k:=fun z=>e (h1.trans z);have b:atKey (q::qs) k=atKey qs k:=by simp[atKey,wg,e']
    rw[fX e,b];exact ih
theorem KT.repl{H:Hp}{ab:List (List NI×V)}{xs:List (List NI×Addr×Value)}(r:KT H ab xs)(k:List NI){y:V}{u:Value}(ry:RelV y u) :
 KT H (ab.map fun kv=>if kv.1=k then(kv.1,y) else kv) (xs.map (putAt k u)):=by
 induction r with
 | nil=>exact .nil
 | @cons p q ps qs h t ih=>
  rw[dM,dM];refine .cons ?_ ih;obtain⟨h1,h2,h3⟩:=h;unfold putAt
  by_cases e:p.1=k
  . rw[aB e,aB (h1.symm.trans e)];exact⟨h1,h2,ry⟩
  . rw[ap e,ap (fun z=>e (h1.trans z))];exact⟨h1,h2,h3⟩
theorem KT.put{H:Hp}{ab:List (List NI×V)}{xs:List (List NI×Addr×Value)}(r:KT H ab xs)(k:List NI){b:Addr}{y:V}{u:Value}(hb:fS H k b)(ry:RelV y u) :
 KT H (ca ab k y) (storedH xs k b u):=by
 have e:(ab.any fun kv=>decide (kv.1=k))=(atKey xs k).isSome:=by
  rw[qX,(r.val k).isSome_eq,Ly]
 unfold ca storedH;rw[e]
 by_cases q:(atKey xs k).isSome=true
 . rw[aB q,aB q];exact r.repl k ry
 . rw[ap q,ap q];exact Paired.snoc r ⟨rfl,hb,ry⟩
theorem KT.keeps{H H':Hp}{ab:List (List NI×V)}{xs:List (List NI×Addr×Value)}(r:KT H ab xs)(ht:∀b ys,H b=some (.tup ys)->H' b=some (.tup ys)):KT H' ab xs:=
 Paired.mapP r fun _ _ z=>⟨z.1,z.2.1.keeps ht,z.2.2⟩
section
variable {P:Program}{w:World}{H:Hp}{h:Heap}{a:Addr}
theorem FR{u:HO}(ok:bY P w H h)(e:Rd H a u):bX P w H h a u:=e.ok ok
theorem lP{ab:List (bj×V)}(ok:bY P w H h)(e:Rd H a (.dK ab)):ab.length<=sizeLine/\(a == sysModules)=false/\∃vs,KV ab vs/\h.DictOf (cA P w) a vs:=
 show bX P w H h a (.dK ab) from FR ok e
theorem FS{ab:List (bj×V)}(ok:bY P w H h)(e:H a=some (.dK ab)):ab.length<=sizeLine/\(a == sysModules)=false/\∃vs,KV ab vs/\h.DictOf (cA P w) a vs:=lP ok (.inl e)
theorem Tp{ks:List NI}{vs:Lv}{us:Lw}(ok:bY P w H h)(x:EV H ks vs)(r:aU vs us):gQ P w h ks us:=by
 induction x generalizing us with
 | nil=>cases r;exact .nil
 | @cons i v ks vs p _ ih=>
  cases r with
  | cons rv rr=>
   refine .cons ?_ (ih rr);cases i with
   | inl k=>
    have p:v=kV k:=p;subst p;exact lO (P:=P) (w:=w) rv
   | inr l=>
    obtain⟨b,rfl,e⟩:=p;cases rv;obtain⟨_,its,r2,o,h1,h2,n,h3⟩:=(show bX P w H h b (.tup (l.map kV)) from ok b _ e);exact⟨b,rfl,o,its.toArray,n,h1,h2,h3,by simpa using FQ r2⟩
theorem pB{ks:List NI}(ok:bY P w H h)(e:fS H ks a):(lD P w).is h ks a:=by
 obtain⟨vs,e,x⟩:=e;obtain⟨_,its,r,o,h1,h2,n,h3⟩:=(show bX P w H h a (.tup vs) from ok a _ e);exact⟨o,its.toArray,n,h1,h2,h3,by simpa using Tp ok x r⟩
theorem np{ab:List (List NI×V)}(ok:bY P w H h)(e:Rd H a (.dT ab)):ab.length<=sizeLine/\(a == sysModules)=false /\
 ∃xs,KT H ab xs/\h.DictOfH (lD P w) a xs:=by
 obtain⟨z,y,xs,r,o,es,ep,h1,h2,h3,h4,h5⟩:=(show bX P w H h a (.dT ab) from FR ok e);refine⟨z,y,xs,r,o,es,ep,h1,h2,h3,h4,fun x hx=>?_,h5⟩;have all:∀{l:List (List NI×V)}{m:List (List NI×Addr×Value)},KT H l m->∀x∈m,(lD P w).is h x.1 x.2.1:=by
  intro l m q
  induction q with
  | nil=>intro x hx;exact nomatch hx
  | @cons p q ps qs hq t ih=>
   intro x hx
   rcases cE.mp hx with e | hx
   . subst e;exact pB ok (by rw[←hq.1];exact hq.2.1)
   . exact ih x hx
 exact all r x hx
theorem Tq{ab:List (List NI×V)}(ok:bY P w H h)(e:H a=some (.dT ab)):ab.length<=sizeLine/\(a == sysModules)=false /\
 ∃xs,KT H ab xs/\h.DictOfH (lD P w) a xs:=np ok (.inl e)
end
def cw(H:Hp)(a:Addr)(y:V)(r:Option V):Prop:=
 (∃ab k,Rd H a (.dK ab)/\y=kV k/\r=bJ ab k)\/∃ab k b,Rd H a (.dT ab)/\y=.ref b/\fS H k b/\r=bJ ab k
def jn(H:Hp)(a:Addr)(y v:V)(H':Hp):Prop:=
 (∃ab k,H a=some (.dK ab)/\y=kV k/\ab.length<sizeLine/\H'=al H a (.dK (ca ab k v))) \/
 ∃ab k b,H a=some (.dT ab)/\y=.ref b/\fS H k b/\ab.length<sizeLine/\H'=al H a (.dT (ca ab k v))
theorem cw.k{H:Hp}{a:Addr}{ab:List (bj×V)}{k:bj}(e:H a=some (.dK ab)):cw H a (kV k) (bJ ab k):=.inl ⟨ab,k,.inl e,rfl,rfl⟩
theorem cw.t{H:Hp}{a b:Addr}{ab:List (List NI×V)}{k:List NI}(e:H a=some (.dT ab))(eb:fS H k b):cw H a (.ref b) (bJ ab k):=.inr ⟨ab,k,b,.inl e,rfl,eb,rfl⟩
theorem jn.k{H:Hp}{a:Addr}{ab:List (bj×V)}{k:bj}{v:V}(e:H a=some (.dK ab))(hl:ab.length<sizeLine):jn H a (kV k) v (al H a (.dK (ca ab k v))):=.inl ⟨ab,k,e,rfl,hl,rfl⟩
theorem jn.t{H:Hp}{a b:Addr}{ab:List (List NI×V)}{k:List NI}{v:V}(e:H a=some (.dT ab))(eb:fS H k b)(hl:ab.length<sizeLine) :
 jn H a (.ref b) v (al H a (.dT (ca ab k v))):=.inr ⟨ab,k,b,e,rfl,eb,hl,rfl⟩
section
variable {X:Cx}{pins:Po}{σ:St}{H:Hp}{s:Shared}{a:Addr}{y v:V}{u r:Value}{o:Option V}{A:Around}{E:VP}
theorem Inv.big(I:Inv X pins σ H s):sysModules<s.heap.objs.size:=by
 have h:mainGlobals<s.heap.objs.size:=(I.mod.glob.keeps I.bk).lt;exact wj (by decide) h
theorem Tr{Q:VP}(hu:A.units+64<cLine)(I:Inv X pins σ H s)(g:cw H a y (some v))(ry:RelV y u)(h:∀w' s',Inv X pins σ H s'->RelV v w'->Q w' s') :
 wpAny (model X.prog X.w) A (getItem (.ref a) u) Q E s:=by
 rcases g with⟨ab,k,e,ey,l⟩ | ⟨ab,k,b,e,ey,eb,l⟩
 . subst ey;obtain⟨z,hd,vs,rel,dd⟩:=lP I.hok e;obtain⟨w',hw,iW⟩:=fR.some_of (v:=v) (o:=valueAt vs k) (by rw[l];exact rel.val k);exact wpAny_getItem_of (lO ry) dd.mapOf hw (h w' _ (I.tok _) iW)
 . subst ey;cases (show u=Value.ref b from ry);obtain⟨z,hd,xs,rel,dd⟩:=np I.hok e;obtain⟨w',hw,iW⟩:=fR.some_of (v:=v) (o:=(atKey xs k).map (·.2)) (by rw[l];exact rel.val k);obtain⟨p,hp,iX⟩:=Option.map_eq_some_iff.mp hw;refine wpAny_getItem_heap (qL hu) (pB I.hok eb) dd hp ?_;rw[iX];exact h w' _ (I.tok _) iW
theorem Ts{Q:VP}(hu:A.units+64<cLine)(I:Inv X pins σ H s)(g:cw H a y o)(ry:RelV y u)(h:∀s',Inv X pins σ H s'->Q (.bool o.isSome) s') :
 wpAny (model X.prog X.w) A (compareOp .In u (.ref a)) Q E s:=by
 rcases g with⟨ab,k,e,ey,l⟩ | ⟨ab,k,b,e,ey,eb,l⟩
 . subst ey;obtain⟨z,hd,vs,rel,dd⟩:=lP I.hok e;refine wpAny_in_of (lO ry) hd dd.mapOf ?_;rw[←(rel.val k).isSome_eq,←l];exact h _ (I.tok _)
 . subst ey;cases (show u=Value.ref b from ry);obtain⟨z,hd,xs,rel,dd⟩:=np I.hok e;refine wpAny_in_heap (qL hu) (pB I.hok eb) hd dd ?_;have q:=(rel.val k).isSome_eq;rw[Ly]at q;rw[←q,←l];exact h _ (I.tok _)
theorem Tt{Q:VP}(hu:A.units+64<cLine)(I:Inv X pins σ H s)(g:cw H a y o)(ry:RelV y u)(h:∀s',Inv X pins σ H s'->Q (.bool (!o.isSome)) s') :
 wpAny (model X.prog X.w) A (compareOp .NotIn u (.ref a)) Q E s:=by
 rcases g with⟨ab,k,e,ey,l⟩ | ⟨ab,k,b,e,ey,eb,l⟩
 . subst ey;obtain⟨z,hd,vs,rel,dd⟩:=lP I.hok e;refine wpAny_notIn_of (lO ry) hd dd.mapOf ?_;rw[←(rel.val k).isSome_eq,←l];exact h _ (I.tok _)
 . subst ey;cases (show u=Value.ref b from ry);obtain⟨z,hd,xs,rel,dd⟩:=np I.hok e;refine wpAny_notIn_heap (qL hu) (pB I.hok eb) hd dd ?_;have q:=(rel.val k).isSome_eq;rw[Ly]at q;rw[←q,←l];exact h _ (I.tok _)
theorem A0{h':Heap}{t':Nat}{ob:HO}(I:Inv X pins σ H s)(mu:sO (H a))(hs:Heap.SameBut a s.heap h')(he:∃q,h'.get? a=some q)(new:bX X.prog X.w (al H a ob) h' a ob) :
 Inv X pins σ (al H a ob) { s with heap:=h',toks:=t' }:=
 I.write (x:=a) (e:=a) mu (.inl rfl) (fun b q hb z=>(hs.2 b hb).trans z) he new
theorem A1{P:Program}{w:World}{H':Hp}{h':Heap}{ab:List (bj×V)}{vs:List (bj×Value)}(z:ab.length<=sizeLine)(hd:(a == sysModules)=false)(rel:KV ab vs)(dd:h'.DictOf (cA P w) a vs) :
 bX P w H' h' a (.dK ab):=⟨z,hd,vs,rel,dd⟩
theorem Tu{H':Hp}{Q:Unit->Shared->Prop}(hu:A.units+64<cLine)(I:Inv X pins σ H s)(g:jn H a y v H')(ry:RelV y u)(rv:RelV v r)(h:∀s',Inv X pins σ H' s'->Q () s') :
 wpAny (model X.prog X.w) A (setItem (.ref a) u r) Q E s:=by
 rcases g with⟨ab,k,e,ey,l,eH⟩ | ⟨ab,k,b,e,ey,eb,l,eH⟩
 . subst ey eH;obtain⟨z,hd,vs,rel,dd⟩:=FS I.hok e;have hz:vs.length<=sizeLine:=by rw[←rel.length];exact z
   have hl:(ca ab k v).length<=sizeLine:=by have:=w5 ab k v;omega
   refine wpAny_setItem_pairs (hsz:=hz) (lO ry) dd fun h' lQ hs=>h _ ?_;have he:∃q,h'.get? a=some q:=lQ.elim fun q Tv=>Tv.elim fun _ Tw=>Tw.elim fun _ Tx=>Tx.elim fun hq _=>⟨q,hq⟩;exact A0 I (by rw[e];exact True.intro) hs he (A1 hl hd (rel.put k rv) lQ)
 . subst ey eH;cases (show u=Value.ref b from ry);obtain⟨z,hd,xs,rel,dd⟩:=Tq I.hok e;have hz:xs.length<=sizeLine:=by rw[←wb rel];exact z
   have hl:(ca ab k v).length<=sizeLine:=by have:=w5 ab k v;omega
   refine wpAny_setItem_heap (hsz:=hz) (qL hu) (pB I.hok eb) dd fun h' lQ hs=>h _ ?_;obtain⟨q,es,ep,hq,h2,h3,h4,_,h5⟩:=lQ;refine A0 I (by rw[e];exact True.intro) hs ⟨q,hq⟩ ⟨hl,hd,_,(rel.put k eb rv).keeps fun c ys ec=>?_,q,es,ep,hq,h2,h3,h4,h5⟩;rw[bc (eF ec e (fun z=>nomatch z))];exact ec
end
section
variable {X:Cx}{pins:Po}{σ:St}{H:Hp}{s:Shared}{a:Addr}{ab:List (bj×V)} {k:bj}{u:Value}{A:Around}{E:VP}
end
def FT(i:Expr):Prop:=∀ov iv,subscripted i false ov iv=operate [ov,iv] (getItem ov iv)
theorem Tz{prog:Program}{w:World}{A:Around}{E:VP}{s:Shared}{env:Env}{value slice:Expr}{pos:Pos}{T id:String}{Q:VP}
 (hl:typeLookup (.type T) "__getitem__"=pure (some (.builtin id))) (hs:FT slice)
 (h:wpAny (model prog w) A (eval value env) (fun o s₁=>wpAny (model prog w) A (eval slice env) (fun i s₂=>s₂.TypeIs o T/\wpAny (model prog w) A (getItem o i) Q E s₂) E s₁) E s) :
 wpAny (model prog w) A (eval (.Subscript value slice pos) env) Q E s:=by
 refine Subscript_ (ej h (fun o s₁ h₁=>ej h₁ (fun i s₂ h₂=>?_) fun _ _ x=>x) fun _ _ x=>x);obtain⟨hT,h₂⟩:=h₂;unfold subscriptTail;refine ai ?_;rw[getitemInPython_of_ne hT.not_modules];refine ai (v7 hT hl ?_);have fin:wpAny (model prog w) A (subscripted slice false o i) (fun r s₃=>wpAny (model prog w) A (letTemporaryGo value o r >>= fun _=>pure r) Q E s₃) E s₂:=by
  rw[hs o i];exact wpAny_operating (ej h₂ (fun r s₃ h₃=>ai (wpAny_letTemporaryGo (aw h₃))) fun _ _ x=>x)
 first
  | exact aw (ai fin)
  | exact ai (aw (ai fin))
  | exact ai fin
theorem TB{X:Cx}{pins:Po}{σ:St}{H:Hp}{s:Shared}{a:Addr}{y:V}{o:Option V}(I:Inv X pins σ H s)(g:cw H a y o):s.TypeIs (.ref a) "dict":=by
 rcases g with⟨ab,k,e,_,_⟩ | ⟨ab,k,b,e,_,_,_⟩
 . obtain⟨_,_,vs,_,dd⟩:=lP I.hok e;exact dd.typeIs
 . obtain⟨_,_,xs,_,dd⟩:=np I.hok e;exact dd.typeIs
def TD(td ty:TE):TE:=fun σ H Q=>td σ H fun x H1=>ty σ H1 fun y H2=>∃a v,x=.ref a/\cw H2 a y (some v)/\Q v H2
def TF(ty td:TE):TE:=fun σ H Q=>ty σ H fun y H1=>td σ H1 fun x H2=>∃a o,x=.ref a/\cw H2 a y o/\Q (.bl o.isSome) H2
def TH(ty td:TE):TE:=fun σ H Q=>ty σ H fun y H1=>td σ H1 fun x H2=>∃a o,x=.ref a/\cw H2 a y o/\Q (.bl (!o.isSome)) H2
def TJ(td ty tv:TE):TS:=fun D σ H=>tv σ H fun v H1=>td σ H1 fun x H2=>ty σ H2 fun y H3=>∃a H4,x=.ref a/\jn H3 a y v H4/\D.nx σ H4
section
variable {X:Cx}{o i e value:Expr}{pos pos' Qm:Pos}{td ty tv:TE}
theorem xa(hu:X.A.units+64<cLine)(ho:PE X o td)(hi:PE X i ty)(hs:FT i):PE X (.Subscript o i pos) (TD td ty):=by
 intro pins s σ H Q I h;refine Tz PySem.F.slot_dict_getitem.lookup hs (thn (ho pins s σ H _ I h) fun u s1 TK=>TK.elim fun x TL=>TL.elim fun H1 TM=>TM.elim fun I1 TN=>TN.elim fun rx q1=>thn (hi pins s1 σ H1 _ I1 q1) fun iv s2 TQ=>TQ.elim fun y TR=>TR.elim fun H2 TU=>TU.elim fun I2 TV=>TV.elim fun ry TW=>TW.elim fun a TX=>TX.elim fun v TY=>TY.elim fun ex TZ=>TZ.elim fun g q2=>?_);subst ex;obtain rfl:u=Value.ref a:=rx;exact⟨TB I2 g,Tr hu I2 g ry fun w' s3 I3 iW=>⟨v,H2,I3,iW,q2⟩⟩
theorem FU(hu:X.A.units+64<cLine)(hi:PE X i ty)(ho:PE X o td):PC X .In i o (TF ty td):=by
 intro pins s σ H Q I h;refine thn (hi pins s σ H _ I h) fun iv s1 T0=>T0.elim fun y T1=>T1.elim fun H1 T2=>T2.elim fun I1 T3=>T3.elim fun ry q1=>thn (ho pins s1 σ H1 _ I1 q1) fun u s2 T4=>T4.elim fun x T5=>T5.elim fun H2 T6=>T6.elim fun I2 T7=>T7.elim fun rx T8=>T8.elim fun a T9=>T9.elim fun ov Ua=>Ua.elim fun ex Ub=>Ub.elim fun g q2=>?_;subst ex;obtain rfl:u=Value.ref a:=rx;exact Ts hu I2 g ry fun s3 I3=>⟨.bl ov.isSome,H2,I3,rfl,q2⟩
theorem FV(hu:X.A.units+64<cLine)(hi:PE X i ty)(ho:PE X o td):PC X .NotIn i o (TH ty td):=by
 intro pins s σ H Q I h;refine thn (hi pins s σ H _ I h) fun iv s1 Uc=>Uc.elim fun y Ud=>Ud.elim fun H1 Ue=>Ue.elim fun I1 Uf=>Uf.elim fun ry q1=>thn (ho pins s1 σ H1 _ I1 q1) fun u s2 Ug=>Ug.elim fun x Uh=>Uh.elim fun H2 Ui=>Ui.elim fun I2 Uj=>Uj.elim fun rx Uk=>Uk.elim fun a Ul=>Ul.elim fun ov Um=>Um.elim fun ex Uo=>Uo.elim fun g q2=>?_;subst ex;obtain rfl:u=Value.ref a:=rx;exact Tt hu I2 g ry fun s3 I3=>⟨.bl (!ov.isSome),H2,I3,rfl,q2⟩
theorem qY(hu:X.A.units+64<cLine)(ho:PE X o td)(hi:PE X i ty)(hv:PE X value tv)(hs:swapsWith value (some (.Subscript o i pos')) pos.line X.env=pure false) :
 PS X (.Assign [.Subscript o i pos'] value pos) (TJ td ty tv):=by
 intro pins s σ H D I h;refine wpAny_Assign_Subscript (thn (hv pins s σ H _ I h) fun r s1 Up=>Up.elim fun v Uq=>Uq.elim fun H1 Ur=>Ur.elim fun I1 Us=>Us.elim fun rv q1=>thn (ho pins s1 σ H1 _ I1 q1) fun u s2 Ut=>Ut.elim fun x Uu=>Uu.elim fun H2 Uv=>Uv.elim fun I2 Uw=>Uw.elim fun rx q2=>thn (hi pins s2 σ H2 _ I2 q2) fun iv s3 Ux=>Ux.elim fun y Uy=>Uy.elim fun H3 Uz=>Uz.elim fun I3 UA=>UA.elim fun ry UB=>UB.elim fun a UC=>UC.elim fun H4 UD=>UD.elim fun ex UE=>UE.elim fun g q3=>?_) hs;subst ex;obtain rfl:u=Value.ref a:=rx;exact Tu hu I3 g ry rv fun s4 I4=>⟨σ,H4,I4,q3⟩
end
theorem FW{P:Program}{w:World}{H:Hp}(h:Heap)(hb:sysModules<h.objs.size):bX P w H (h.push { cls:=.type "dict",data:=.dict #[] }) h.objs.size (.dK []):=
 ⟨fQ _,jh.mpr (gM (ck hb)),[],.nil,Heap.DictOf.new h⟩
theorem UG{P:Program}{w:World}{H:Hp}(h:Heap)(hb:sysModules<h.objs.size):bX P w H (h.push { cls:=.type "dict",data:=.dict #[] }) h.objs.size (.dT []):=
 ⟨fQ _,jh.mpr (gM (ck hb)),[],.nil,_,#[],0,em _ rfl,⟨rfl,rfl,rfl⟩,rfl,rfl,Lz⟩
def UH:TE:=fun _ H Q=>∀p,H p=none->Q (.ref p) (al H p (.dK []))
def UI:TE:=fun _ H Q=>∀p,H p=none->Q (.ref p) (al H p (.dT []))
section
variable {X:Cx}{pos:Pos}
theorem UJ:PE X (.Dict [] [] pos) UH:=fun pins s σ H Q I h=>
 wpAny_Dict_empty ⟨.ref s.heap.objs.size,_,I.laid (a:=s.heap.objs.size) (o:=.dK []) (t':=s.toks) (fun _ _ q=>bS _ q) (aS _) (FW s.heap I.big),rfl,h _ (I.hok.fresh (aS _))⟩
theorem UK:PE X (.Dict [] [] pos) UI:=fun pins s σ H Q I h=>
 wpAny_Dict_empty ⟨.ref s.heap.objs.size,_,I.laid (a:=s.heap.objs.size) (o:=.dT []) (t':=s.toks) (fun _ _ q=>bS _ q) (aS _) (UG s.heap I.big),rfl,h _ (I.hok.fresh (aS _))⟩
end
def A2:List (TE×TE)->St->Hp->(List (V×V)->Hp->Prop)->Prop
 | [],_,H,Q=>Q [] H
 | (tk,tv)::r,σ,H,Q=>tk σ H fun x H1=>tv σ H1 fun y H2=>A2 r σ H2 fun ps H3=>Q ((x,y)::ps) H3
abbrev VV:List (V×V)->List (Value×Value)->Prop:=Paired fun p q=>RelV p.1 q.1/\RelV p.2 q.2
def xb(X:Cx)(pos:Pos)(keys:List (Option Expr))(values:List Expr)(lR:List (TE×TE)):Prop:=
 ∀(pins:Po) (s:Shared) (σ:St) (H:Hp) (Q:List (V×V)->Hp->Prop),Inv X pins σ H s->A2 lR σ H Q ->
  wpAny (model X.prog X.w) X.A (evalPairs (pairTrees keys values X.env pos)) (fun vs s'=>∃ps H',Inv X pins σ H' s'/\VV ps vs/\Q ps H') X.xe s
theorem UM{X:Cx}{pos:Pos}:xb X pos [] [] []:=fun pins s σ H Q I h=>pairTrees_nil_walk ⟨[],H,I,.nil,h⟩
theorem xc{X:Cx}{pos:Pos}{k v:Expr}{ks:List (Option Expr)}{vs:List Expr}{tk tv:TE}{lR:List (TE×TE)}(hk:PE X k tk)(hv:PE X v tv)(hr:xb X pos ks vs lR) :
 xb X pos (some k::ks) (v::vs) ((tk,tv)::lR):=fun pins s σ H Q I h=>
 pairTrees_cons_walk (thn (hk pins s σ H _ I h) fun u s1 UN=>UN.elim fun x UO=>UO.elim fun H1 UQ=>UQ.elim fun I1 UR=>UR.elim fun rx q1=>thn (hv pins s1 σ H1 _ I1 q1) fun w2 s2 UU=>UU.elim fun y UV=>UV.elim fun H2 UW=>UW.elim fun I2 UX=>UX.elim fun ry q2=>
  thn (hr pins s2 σ H2 _ I2 q2) fun ws s3 UY=>UY.elim fun ps UZ=>UZ.elim fun H3 U0=>U0.elim fun I3 U1=>U1.elim fun rel q3=>⟨(x,y)::ps,H3,I3,.cons ⟨rx,ry⟩ rel,q3⟩)
def jT(ab more:List (bj×V)):List (bj×V):=more.foldl (fun acc kv=>ca acc kv.1 kv.2) ab
theorem KV.merge:∀{more:List (bj×V)}{rs:List (bj×Value)}{ab:List (bj×V)}{vs:List (bj×Value)},KV more rs->KV ab vs->KV (jT ab more) (merged vs rs):=by
 intro more rs ab vs r;unfold KV at r
 induction r generalizing ab vs with
 | nil=>intro q;exact q
 | @cons p q ps qs h t ih=>
  intro r0;have e:KV (ca ab p.1 p.2) (stored vs q.1 q.2):=by
   have:=r0.put p.1 h.2;rw[←h.1];exact this
  exact ih e
theorem FX:∀(more ab:List (bj×V)),(jT ab more).length<=ab.length+more.length
 | [],ab=>by show ab.length<=ab.length+0;omega
 | p::r,ab=>by
  have h1:=FX r (ca ab p.1 p.2);have h2:=w5 ab p.1 p.2;show(jT (ca ab p.1 p.2) r).length<=_;rw[cV];omega
theorem FY{P:Program}{w:World}:∀{ab:List (bj×V)}{ws:List (Value×Value)},VV (ab.map fun kv=>(kV kv.1,kv.2)) ws->∃rs,Carries (cA P w) ws rs/\KV ab rs
 | [],_,r=>by rw[zU]at r;cases r;exact⟨[],True.intro,.nil⟩
 | p::ab,_,r=>by
  rw[dM]at r;cases r with
  | @cons a b as bs h t=>
   obtain⟨rs,c,q⟩:=FY (P:=P) (w:=w) t;obtain⟨b1,b2⟩:=b;exact⟨(p.1,b2)::rs,⟨lO h.1,rfl,c⟩,.cons ⟨rfl,h.2⟩ q⟩
def U2(lR:List (TE×TE)):TE:=fun σ H Q=>∀p,H p=none->A2 lR σ (al H p (.dK [])) fun ps H2=>H2 p=some (.dK [])/\∃ab:List (bj×V),ps=ab.map (fun kv=>(kV kv.1,kv.2))/\ab.length<=15/\Q (.ref p) (al H2 p (.dK (jT [] ab)))
theorem U3{X:Cx}{pos:Pos}{keys:List (Option Expr)}{values:List Expr}{lR:List (TE×TE)}(h:xb X pos keys values lR)(dF:keys.all (·.isSome)=true)(hl:keys.length=values.length)(h0:keys≠[])
 (U4:keys.length<=15):PE X (.Dict keys values pos) (U2 lR):=by
 intro pins s σ H Q I q;have hn:=I.hok.fresh (aS s.heap.objs.size);have I1:=I.laid (a:=s.heap.objs.size) (o:=.dK []) (h':=s.heap.push { cls:=.type "dict",data:=.dict #[] }) (t':=s.toks) (fun _ _ q=>bS _ q) (aS _) (FW s.heap I.big);refine wpAny_Dict_walk (knd:=cA X.prog X.w) dF hl h0 U4 (thn (h pins _ σ _ _ I1 (q _ hn)) fun ws s2 U5=>U5.elim fun ps U6=>U6.elim fun H2 U7=>U7.elim fun I2 U8=>U8.elim fun rel U9=>U9.elim fun e Va=>Va.elim fun ab Vb=>Vb.elim fun ep Vc=>Vc.elim fun lk q2=>?_);subst ep;obtain⟨rs,c,rk⟩:=FY (P:=X.prog) (w:=X.w) rel;obtain⟨z,hd,vs0,r0,dd⟩:=FS I2.hok e;cases r0;refine⟨rs,c,dd,fun h' lQ hs=>⟨.ref s.heap.objs.size,_,?_,rfl,q2⟩⟩;have hz:(jT [] ab).length<=sizeLine:=by
  have h1:=FX ab [];rw[ji]at h1;rw[sH];omega
 have he:∃q,h'.get? s.heap.objs.size=some q:=lQ.elim fun q Vd=>Vd.elim fun _ Ve=>Ve.elim fun _ Vf=>Vf.elim fun hq _=>⟨q,hq⟩;exact A0 I2 (by rw[e];exact True.intro) hs he (A1 hz hd (rk.merge .nil) lQ)
structure M1(X:Cx)(o:Expr)(m:Str)(apos:Pos)(e:Expr)(dw:Pos):Prop where
 base:attributeBase o m X.env (eval o X.env)=eval o X.env
 few:((backTo dw (starEach [e] X.env)).all (fun x=>!x.1) && (backToKw dw (keywordEach [] X.env)).all (fun x=>x.1.isSome)
  && decide (([e]:List Expr).length+([]:List Keyword).length+(if ([]:List Keyword).isEmpty then 0 else 1)<30))=true
 line:(apos.endLine == dw.line)=true
 trees:backTo dw (starEach [e] X.env)=[(false,eval e X.env)]
structure M2(X:Cx)(o:Expr)(m:Str)(apos:Pos)(e f:Expr)(dw:Pos):Prop where
 base:attributeBase o m X.env (eval o X.env)=eval o X.env
 few:((backTo dw (starEach [e,f] X.env)).all (fun x=>!x.1) && (backToKw dw (keywordEach [] X.env)).all (fun x=>x.1.isSome)
  && decide (([e,f]:List Expr).length+([]:List Keyword).length+(if ([]:List Keyword).isEmpty then 0 else 1)<30))=true
 line:(apos.endLine == dw.line)=true
 trees:backTo dw (starEach [e,f] X.env)=[(false,eval e X.env),(false,eval f X.env)]
def A3(H:Hp)(a:Addr):Prop:=(∃ab,Rd H a (.dK ab))\/∃ab,Rd H a (.dT ab)
theorem FZ{X:Cx}{pins:Po}{σ:St}{H:Hp}{s:Shared}{a:Addr}(I:Inv X pins σ H s)(d:A3 H a) :
 s.TypeIs (.ref a) "dict"/\(∀b,Value.ref a=.ref b->∃ob,s.heap.get? b=some ob/\ob.dict=none)/\(a == sysModules)=false:=by
 rcases d with⟨ab,e⟩ | ⟨ab,e⟩
 . obtain⟨_,hd,vs,_,dd⟩:=lP I.hok e;refine⟨dd.typeIs,fun b q=>?_,hd⟩;cases q;obtain⟨ob,_,_,h1,h2,_⟩:=dd;exact⟨ob,h1,h2.2.1⟩
 . obtain⟨_,hd,xs,_,dd⟩:=np I.hok e;refine⟨dd.typeIs,fun b q=>?_,hd⟩;cases q;obtain⟨ob,_,_,h1,h2,_⟩:=dd;exact⟨ob,h1,h2.2.1⟩
section
variable {X:Cx}{pins:Po}{σ:St}{H:Hp}{s:Shared}{a:Addr}{y d:V}{u r:Value}{o:Option V}{A:Around}{E:VP}
theorem Vg{Q:VP}(hu:A.units+64<cLine)(I:Inv X pins σ H s)(g:cw H a y o)(ry:RelV y u)(h:∀w' s',Inv X pins σ H s'->RelV (o.getD .non) w'->Q w' s') :
 wpAny (model X.prog X.w) A (call (.builtin "dict.get") [.ref a,u]) Q E s:=by
 rcases g with⟨ab,k,e,ey,l⟩ | ⟨ab,k,b,e,ey,eb,l⟩
 . subst ey;obtain⟨z,hd,vs,rel,dd⟩:=lP I.hok e;refine zY wk dd.typeIs Ez (agv _ _) (meets_dict_get (cA X.prog X.w) a (lO ry) hd) ⟨_,dd.mapOf,h _ _ (I.tok _) ?_⟩;rw[l];exact(rel.val k).getD rfl
 . subst ey;cases (show u=Value.ref b from ry);obtain⟨z,hd,xs,rel,dd⟩:=np I.hok e;refine zY wk dd.typeIs Ez (agv _ _) (meetsH_dict_get (lD X.prog X.w) a b hd) ⟨qL hu,k,xs,pB I.hok eb,dd,h _ _ (I.tok _) ?_⟩;rw[l];exact(rel.val k).getD rfl
theorem Vh{Q:VP}(hu:A.units+64<cLine)(I:Inv X pins σ H s)(g:cw H a y o)(ry:RelV y u)(rd:RelV d r)(h:∀w' s',Inv X pins σ H s'->RelV (o.getD d) w'->Q w' s') :
 wpAny (model X.prog X.w) A (call (.builtin "dict.get") [.ref a,u,r]) Q E s:=by
 rcases g with⟨ab,k,e,ey,l⟩ | ⟨ab,k,b,e,ey,eb,l⟩
 . subst ey;obtain⟨z,hd,vs,rel,dd⟩:=lP I.hok e;refine zY wk dd.typeIs Ez (agw _ _ _) (meets_dict_get_default (cA X.prog X.w) a (lO ry) hd r) ⟨_,dd.mapOf,h _ _ (I.tok _) ?_⟩;rw[l];exact(rel.val k).getD rd
 . subst ey;cases (show u=Value.ref b from ry);obtain⟨z,hd,xs,rel,dd⟩:=np I.hok e;refine zY wk dd.typeIs Ez (agw _ _ _) (meetsH_dict_get_default (lD X.prog X.w) a b hd r) ⟨qL hu,k,xs,pB I.hok eb,dd,h _ _ (I.tok _) ?_⟩;rw[l];exact(rel.val k).getD rd
end
def Vi(td ty:TE):TE:=fun σ H Q=>td σ H fun x H1=>∃a,x=.ref a/\A3 H1 a/\ty σ H1 fun y H2=>∃o,cw H2 a y o/\Q (o.getD .non) H2
def Vj(td ty tx:TE):TE:=fun σ H Q=>td σ H fun x H1=>∃a,x=.ref a/\A3 H1 a/\ty σ H1 fun y H2=>tx σ H2 fun z H3=>∃o,cw H3 a y o/\Q (o.getD z) H3
section
variable {X:Cx}{o e f:Expr}{apos dw:Pos}{td ty tx:TE}
theorem tF(hu:X.A.units+64<cLine)(ho:PE X o td)(he:PE X e ty)(m:M1 X o "get" apos e dw):PE X (.Call (.Attribute o "get" apos) [e] [] dw) (Vi td ty):=by
 intro pins s σ H Q I h;refine wpAny_Call_method m.base m.few m.line agx wk agy (thn (ho pins s σ H _ I h) fun u s1 Vk=>Vk.elim fun x Vl=>Vl.elim fun H1 Vm=>Vm.elim fun I1 Vn=>Vn.elim fun rx Vo=>Vo.elim fun a Vp=>Vp.elim fun ex Vq=>Vq.elim fun d q1=>?_);subst ex;obtain rfl:u=Value.ref a:=rx;obtain⟨t1,t2,_⟩:=FZ I1 d;refine⟨t1,t2,?_⟩;rw[m.trees];refine Ey rfl (Lu (Et (thn (he pins s1 σ H1 _ I1 q1) fun iv s2 Vr=>Vr.elim fun y Vs=>Vs.elim fun H2 Vt=>Vt.elim fun I2 Vu=>Vu.elim fun ry Vv=>Vv.elim fun ov Vw=>Vw.elim fun g q2=>Lg ?_)));exact Vg hu I2 g ry fun w' s3 I3 iW=>⟨_,H2,I3,iW,q2⟩
theorem F0(hu:X.A.units+64<cLine)(ho:PE X o td)(he:PE X e ty)(hf:PE X f tx)(m:M2 X o "get" apos e f dw):PE X (.Call (.Attribute o "get" apos) [e,f] [] dw) (Vj td ty tx):=by
 intro pins s σ H Q I h;refine wpAny_Call_method m.base m.few m.line agx wk agy (thn (ho pins s σ H _ I h) fun u s1 Vx=>Vx.elim fun x Vy=>Vy.elim fun H1 Vz=>Vz.elim fun I1 VA=>VA.elim fun rx VB=>VB.elim fun a VC=>VC.elim fun ex VD=>VD.elim fun d q1=>?_);subst ex;obtain rfl:u=Value.ref a:=rx;obtain⟨t1,t2,_⟩:=FZ I1 d;refine⟨t1,t2,?_⟩;rw[m.trees];refine Ey rfl (Lu (Et (thn (he pins s1 σ H1 _ I1 q1) fun iv s2 VE=>VE.elim fun y VF=>VF.elim fun H2 VG=>VG.elim fun I2 VH=>VH.elim fun ry q2=>
  Et (thn (hf pins s2 σ H2 _ I2 q2) fun fv s3 VI=>VI.elim fun z VJ=>VJ.elim fun H3 VL=>VL.elim fun I3 VM=>VM.elim fun rz VN=>VN.elim fun ov VO=>VO.elim fun g q3=>Lg ?_))))
 exact Vh hu I3 g ry rz fun w' s4 I4 iW=>⟨_,H3,I4,iW,q3⟩
end
section
variable {X:Cx}{pins:Po}{σ:St}{H:Hp}{s:Shared}{a:Addr}{ab:List (bj×V)} {A:Around}{E:VP}
theorem VQ{Q:VP}(I:Inv X pins σ H s)(e:Rd H a (.dK ab))(h:∀p s',H p=none->Inv X pins σ (al H p (.dK ab)) s'->Q (.ref p) s'):wpAny (model X.prog X.w) A (call (.type "dict") [.ref a]) Q E s:=by
 obtain⟨z,hd,vs,rel,dd⟩:=lP I.hok e;refine kt_call_dict hd dd (by rw[←rel.length];exact z) fun h' lQ hs=>?_;refine h _ _ (I.hok.fresh (aS _)) (I.laid (a:=s.heap.objs.size) (o:=.dK ab) (t':=s.toks) (fun b q hq=>?_) (aS _) (A1 z (jh.mpr (gM (ck I.big))) rel lQ));exact(hs.2 b (ck (bn hq))).trans (bS _ hq)
end
section
variable {X:Cx}{pins:Po}{σ:St}{H:Hp}{s:Shared}{a:Addr}{y:V}{u:Value}{A:Around}{E:VP}
end
end L2
namespace Att
open PySem PySem.W PySem.Calls PyProof.Rows
theorem VR{P:Params}{h:Heap}:∀(ns:List Int) (vs:Lw),WellAll P h vs (ns.map WData.int)->IntsAre vs ns:=by
 intro ns
 induction ns with
 | nil=>
  intro vs w;rw[zU]at w;cases w;exact .nil
 | cons n ns ih=>
  intro vs w;rw[dM]at w;cases w with
  | cons a b=>
   cases a;exact .cons _ _ (ih _ b)
theorem VS{l:OpenLaw}{n:Nat}(hn:l.most=some n){P:Params}{h:Heap}{args:List WData}{vals:Lw}
 (xf:l.row.toRowW.claim.pre args=true) (cm:WellAll P h vals args) :
 ∃a vs ns,vals=[Value.ref a]/\args=[WData.list (ns.map WData.int)]/\h.get? a=some { cls:=.type "list",data:=.seq vs.toArray }/\IntsAre vs ns/\ns.length<=n:=by
 have A4:WShape.hasAll [] args [.list .int]=true:=(pre_splitW xf).1;have hc:l.pre.holds [] { args:=args } = true:=(pre_splitW xf).2;obtain⟨d,r,rfl,h1,h2⟩:=hasAllW_cons A4;obtain rfl:=hasAllW_nil h2;obtain⟨xs,rfl,h3⟩:=hasW_list h1;obtain⟨ns,rfl⟩:=items_int h3;have hlen:ns.length<=n:=by
  unfold OpenLaw.pre at hc;have h4:(WTm.not (.lt (.lit (.int (n:Int))) (.len (.arg 0)))).holds [] { args:=[.list (ns.map .int)] } = true:=by
   have h4:=(holds_andW hc).1;rw[hn]at h4;exact h4
  have h5:=condW_of h4 (w_not (w_lt w_lit (w_len_list (w_arg rfl))));rw[aK]at h5;refine LA fun q=>?_;have q':(n:Int)<((ns.length:Nat):Int):=by omega
  first
   | (rw[aE q']at h5;exact absurd h5 (by decide))
   | (simp at h5;omega)
 cases cm with
 | cons w1 w2=>
  cases w2;cases w1 with
  | list ho dF=>exact⟨_,_,ns,rfl,rfl,ho,VR ns _ dF,hlen⟩
theorem VT(l:OpenLaw)(args:List WData):l.row.toRowW.claim.post args (.bool true) args=true:=
 postW_of (r:=l.row.toRowW) (X:=(true == true))
  (show WShape.has [] (.bool true) .bool=true by first | rfl | decide | simp[WShape.has,WShape.arms,WShape.armsAll])
  (show(WTm.eq .res (.lit (.bool true))).value [] { args:=args,res:=some (.bool true),after:=args } = some (.bool (true == true)) from w_eq_bool (w_res rfl) w_lit) rfl
theorem VU{l:OpenLaw}{n:Nat}{q:Program}{loose:Ls}{XP:(Mv)->Heap->Prop}{YP:World->Heap->Prop}{d:DefRec}
 (hn:l.most=some n) (tG:d.params.defaults=[])
 (call:∀(w:World) (s₀ s₁:Shared) (mg mb:Mv) (fa:Addr) (o:Obj) (pm cd doc:Value) (a:Addr) (vs:Lw) (ns:List Int),
  Ground q loose [] XP w s₀ mg mb s₁.heap->YP w s₁.heap ->
  s₁.heap.get? fa=some o->o.data=.func (docDef d.name d.params d.body d.scope pm cd doc)->s₁.heap.CodeRec cd d.name->mg d.name=some (.ref fa) ->
  s₁.heap.get? a=some { cls:=.type "list",data:=.seq vs.toArray }->IntsAre vs ns->ns.length<=n->s₁.gens = #[] ->
  codeAny (model l.prog w) callerA (.call (.ref fa) ⟨[.ref a],[]⟩) (fun r s'=>r=.ok (.ret (.bool true))/\OldK s₁.heap s'.heap/\s'.os=s₁.os/\AllBare s'.gens) s₁) :
 WalkO q loose XP YP l.row.toRowW d [] (fun f vs=>PySem.call f vs):=by
 intro w s₀ s₁ mg mb G Y fa o pm cd doc dV kV ho hd ik hD tH hg args vals as xf agZ hrd cm hlo;obtain rfl:dV=.none:=Dflts.none hD tG;obtain rfl:kV=.none:=Dflts.noKw hD;obtain⟨a,vs,ns,rfl,rfl,tI,hints,hlen⟩:=VS hn xf cm;refine enter_call (qF (call w s₀ s₁ mg mb fa o pm cd doc a vs ns G Y ho (fd_plain hd) ik tH tI hints hlen hg) fun r s' hq=>?_);obtain⟨rfl,h2,h3,h4⟩:=hq;exact⟨.inl ⟨.bool true,.bool true,[],rfl,fun _=>rfl,.bool true,VT l _,fun _=>⟨List.Pairwise.nil,fun _ hm=>(nomatch hm)⟩⟩,h2,h3,h4⟩
section
variable {prog:Program}{w:World}{A:Around}{E:VP}{s:Shared}{K:Frag}
end
end Att
namespace L2
open PySem PySem.Spec PyProof.Rows
theorem F2:∀{vs:Lw}{ns:List Int},IntsAre vs ns->aU (ns.map V.int) vs
 | _,_,.nil=>.nil
 | _,_,.cons n t h=>.cons ⟨t,rfl⟩ (F2 h)
def A5(H:Hp):Prop:=∀b,H b=none\/∃o xs,H b=some (.frz o (.lst xs))
theorem VW{P:Program}{w:World}{K:Fg}{mg mb:Mv}{CX:gT}{k:Nat}{fa a:Addr}{fd:Fy}{x:Str}{sp:Sp}{s₁:Shared}{vs:Lw}{ns:List Int}
 (KX:K.In s₁.heap) (lS:s₁.heap.Ns mainGlobals mg) (hb:s₁.heap.Ns builtinsNs mb) (xg:∀x:Str,x≠"__name__"->mb x=bootBuiltins x) (VX:s₁.heap.NoLimit) (hg:s₁.gens = #[])
 (ha:s₁.heap.get? a=some { cls:=.type "list",data:=.seq vs.toArray }) (hi:IntsAre vs ns) (hl:ns.length<=sizeLine) (hr:cW k callerA)
 (F:∀base:Heap,K.In base->base.Ns mainGlobals mg->ao P w K mg base CX k fa fd [x] sp) (VY:∀(s:Shared) (u:Value),BindsTo s fd ⟨[u],[]⟩ [(x,u)])
 (nj:∀H:Hp,A5 H->ah K H a (ns.map V.int)->sp [.ref a] H (fun v _=>v=.bl true) fun _ _ _=>False)
 (A6:∀H e s',CX [] H s₁ (fun _ _ _=>False) e s'->False) :
 codeAny (model P w) callerA (.call (.ref fa) ⟨[.ref a],[]⟩) (fun r s'=>r=.ok (.ret (.bool true))/\OldK s₁.heap s'.heap/\s'.os=s₁.os/\AllBare s'.gens) s₁:=by
 have rv:=F2 hi;have VZ:=hi.length;have core:∀H:Hp,A5 H->ah K H a (ns.map V.int)->bY P w H s₁.heap->(∀b,H b≠none->b=a)->(H a≠none->K.lookup a=none) ->
  codeAny (model P w) callerA (.call (.ref fa) ⟨[.ref a],[]⟩) (fun r s'=>r=.ok (.ret (.bool true))/\OldK s₁.heap s'.heap/\s'.os=s₁.os/\AllBare s'.gens) s₁:=by
  intro H hO hS hok hA hK;have F3:∀{b:Addr}{o:Obj},s₁.heap.get? b=some o->H b=none->(lE s₁.heap H).get? b=some o:=fun e n=>MG e n;have tj:∀{b:Addr}{o:Obj}{es:Array DictEntry}{ep:Nat},s₁.heap.get? b=some o->o.data=.dict es ep->H b=none:=fun {b o es ep} e d=>by
   cases q:H b with
   | none=>rfl
   | some u=>
    have e':b=a:=hA b (by rw[q];simp);subst e';rw[ha]at e;cases e;have d':Data.seq vs.toArray _=Data.dict es ep:=d;cases d'
  have xh:∀{b:Addr}{m:Mv},s₁.heap.Ns b m->(lE s₁.heap H).Ns b m:=fun {b m} ⟨o,es,ep,e,d,r⟩=>⟨o,es,ep,F3 e (tj e d),d,r⟩;have F4:K.In (lE s₁.heap H):=fun b o e=>F3 (KX b o e) (by
   cases q:H b with
   | none=>rfl
   | some u=>
    have e':b=a:=hA b (by rw[q];simp);subst e';rw[hK (by rw[q];simp)]at e;cases e)
  have hM:Mod K mg (lE s₁.heap H):=⟨F4,xh lS,⟨mb,xh hb,xg⟩,VX.elim fun mc V0=>V0.elim fun h1 h2=>⟨mc,xh h1,h2⟩⟩;have e0:pp P w K mg (lE s₁.heap H) callerA [] s₁ H:=⟨rfl,hM,fun b o e=>MH e,Es (MF _ _),trivial,fun b hb=>absurd (show b∈([]:List Addr) from hb) (by simp),hok,.of_eq hg⟩;refine qF ((F _ F4 (xh lS)).run callerA [] s₁ H ⟨[.ref a],[]⟩ [.ref a] [.ref a] _ _ hr e0 (VY s₁ (.ref a)) (.cons rfl .nil) (nj H hO hS)) fun r s' h=>?_;cases r with
  | error e=>exact(A6 H e s' h).elim
  | ok fl=>
   cases fl with
   | next=>exact False.elim h
   | brk=>exact False.elim h
   | cont=>exact False.elim h
   | ret u=>
    obtain⟨v,H',os,bare,un,A7,r',q⟩:=h;have q':v=.bl true:=q;subst q';obtain rfl:u=Value.bool true:=r';refine⟨rfl,OldK.of_keep fun b o e=>?_,os,bare⟩;cases q:H b with
    | none=>exact un.keep b o e q (by intro z;exact absurd (show b∈([]:List Addr) from z) (by simp)) (by simp)
    | some u=>
     rcases hO b with z | ⟨ob,xs,z⟩
     . rw[q]at z;cases z
     . have z2:=un.frzs b ob _ z;obtain⟨e1,_⟩:=hok b _ z;obtain⟨e2,_⟩:=A7 b _ z2;rw[e]at e1;cases e1;exact e2
 cases hk:K.lookup a with
 | some o=>
  have e:=KX a o hk;rw[ha]at e;cases e;refine core (fun _=>none) (fun _=>.inl rfl) (.inr ⟨_,vs.toArray,_,hk,rfl,rfl,rfl,by rw[gv,VZ];exact hl,by simpa using rv⟩) (fun b u z=>by have z':(none:Option HO)=some u:=z;cases z') (fun b z=>absurd rfl z) fun z=>absurd rfl z
 | none=>
  refine core (fun b=>if b=a then some (.frz { cls:=.type "list",data:=.seq vs.toArray } (.lst (ns.map V.int))) else none) (fun b=>?_) (.inl (.inr ⟨{ cls:=.type "list",data:=.seq vs.toArray },aB rfl⟩)) (fun b u z=>?_) (fun b z=>?_) fun _=>hk
  . by_cases hb:b=a
    . exact .inr ⟨_,_,aB hb⟩
    . exact .inl (ap hb)
  . by_cases hb:b=a
    . have z':=(aB hb).symm.trans z;cases z';subst hb;exact⟨ha,by rw[aK];exact hl,vs,_,rv,ha⟩
    . have z':=(ap hb).symm.trans z;cases z'
  . by_cases hb:b=a
    . exact hb
    . exact absurd (ap hb) z
theorem V1{l:PySem.W.OpenLaw}{n k:Nat}{q:Program}{loose:Ls}{XP:(Mv)->Heap->Prop}{YP:World->Heap->Prop}{d:DefRec}{K:Params->Fg}{CX:World->gT}{sp:World->Sp}{x:Str}
 (hn:l.most=some n) (tf:n<=sizeLine) (tG:d.params.defaults=[]) (hr:cW k callerA)
 (hY:∀(w:World) (h:Heap),YP w h->(K w.params).In h)
 (F:∀(w:World) (mg:Mv) (fa:Addr) (h:Heap),(K w.params).In h->h.Ns mainGlobals mg->mg d.name=some (.ref fa) ->
  ∃fd:Fy,(∀(s:Shared) (u:Value),BindsTo s fd ⟨[u],[]⟩ [(x,u)]) /\
   ∀base:Heap,(K w.params).In base->base.Ns mainGlobals mg->ao l.prog w (K w.params) mg base (CX w) k fa fd [x] (sp w))
 (nj:∀(w:World) (H:Hp) (a:Addr) (ns:List Int),ns.length<=n->A5 H->ah (K w.params) H a (ns.map V.int)->sp w [.ref a] H (fun v _=>v=.bl true) fun _ _ _=>False)
 (A6:∀(w:World) (H:Hp) (s:Shared) (e:Value) (s':Shared),CX w [] H s (fun _ _ _=>False) e s'->False) :
 PySem.W.WalkO q loose XP YP l.row.toRowW d [] (fun f vs=>PySem.call f vs):=by
 refine Att.VU hn tG fun w s₀ s₁ mg mb fa o pm cd doc a vs ns G Y ho hd ik tH tI hints hlen hg=>?_;have KX:=hY w _ Y;obtain⟨fd,hb,hF⟩:=F w mg fa _ KX G.T.g tH;exact VW KX G.T.g G.T.b G.T.builtins G.T.nolimit hg tI hints (eU hlen tf) hr hF hb (fun H hO hS=>nj w H a ns hlen hO hS) fun H e s'=>A6 w H s₁ e s'
def jU(s:Stmt)(j:Nat):Stmt:=match s with
 | .ClassDef _ _ _ body _ _ _ _ _ _ _=>body.getD j (.Pass ⟨0,0,0,0⟩)
 | _=>.Pass ⟨0,0,0,0⟩
def cX(s:Stmt):Arguments:=match s with
 | .FunctionDef _ a _ _ _ _ _ _ _ _=>a
 | _=>{ posonlyargs:=[],args:=[],vararg:=none,kwonlyargs:=[],kw_defaults:=[],kwarg:=none,defaults:=[] }
def cF(s:Stmt):List Stmt:=match s with
 | .FunctionDef _ _ b _ _ _ _ _ _ _=>b
 | _=>[]
def aO(s:Stmt):Scope:=match s with
 | .FunctionDef _ _ _ _ _ _ sc _ _ _=>sc
 | _=>{ kind:=.function,names:=[],isGenerator:=false,isCoroutine:=false }
abbrev aq:gT:=fun _ _ _ _ _ _=>False
abbrev E0:XK:=fun _ _ _=>False
theorem az{X:Cx}:pq aq X E0:=fun _ _ _ _ _ _ _ h=>h.elim
structure aj(K:Fg)(x qual:Str)(st:Stmt)(f:Addr)(fd:Fy):Prop where
 ex:∃(oc:Value) (od:Oa) (kV doc pm:Value) (an:Oa) (aG ct:Value) (lK:Array (Option Value)),
  fd=PySem.W.fnOf x qual (cX st) (cF st) (aO st) .none kV doc pm an aG ct/\K.lookup f=some ⟨oc,od,.func fd,lK⟩/\PySem.W.codeIn K aG qual=true
 kp:PySem.W.keepIn K (.ref f)=true
section
variable {P:Program}{w:World}{K:Fg}{mg:Mv}{base:Heap}
theorem aj.ok{x qual:Str}{st:Stmt}{f:Addr}{fd:Fy}{N ps:Ls}{k:Nat}{sp:Sp}(F:aj K x qual st f fd)(S:bo N ps (aO st))(len:∀vs H Q E,sp vs H Q E->vs.length=ps.length)
 (AH:∀(aG:Value) (A:Around) (outer:List Env) (s:Shared) (H:Hp) (vs:Lv) (Q:VK) (E:XK),cW k (A.deeper (envOfC qual (aO st) s.heap.objs.size f aG))->sp vs H Q E ->
  ∃t,c7 (py aq P w K mg base N qual (aO st) f aG A outer s H E).nox (cF st) t/\t { nx:=fun _ H'=>Q .non H',rt:=Q } (start N vs) H):ao P w K mg base aq (k+1) f fd ps sp:=by
 obtain⟨oc,od,kV,doc,pm,an,aG,ct,lK,rfl,lk,ik⟩:=F.ex;refine RV lk ik S len fun A outer s H vs Q E hr nj=>?_;obtain⟨t,h,q⟩:=AH aG A outer s H vs Q E hr nj;exact⟨t,h.nox,q⟩
theorem aj.binds{x qual:Str}{st:Stmt}{f:Addr}{fd:Fy}{ps:Ls}(F:aj K x qual st f fd)
 (h:∀(kV doc pm:Value) (an:Oa) (aG ct:Value) (us:Lw),us.length=ps.length->bindArgs (PySem.W.fnOf x qual (cX st) (cF st) (aO st) .none kV doc pm an aG ct) ⟨us,[]⟩=pure (ps.zip us)):Binds K fd ps []:=by
 obtain⟨oc,od,kV,doc,pm,an,aG,ct,lK,rfl,lk,ik⟩:=F.ex;exact .all (h kV doc pm an aG ct)
theorem iY{x qual:Str}{st:Stmt}{f:Addr}{oc:Value}{od an:Oa}{lK:Array (Option Value)}{kV doc pm aG ct:Value}(l:K.lookup f=some ⟨oc,od,.func (PySem.W.fnOf x qual (cX st) (cF st) (aO st) .none kV doc pm an aG ct),lK⟩)
 (c:PySem.W.codeIn K aG qual=true) (k:PySem.W.keepIn K (.ref f)=true):aj K x qual st f (PySem.W.fnOf x qual (cX st) (cF st) (aO st) .none kV doc pm an aG ct):=⟨⟨oc,od,kV,doc,pm,an,aG,ct,lK,rfl,l,c⟩,k⟩
end
theorem bq{n:Nat}(h:n<=1000):n<sizeLine:=LB h (by decide)
section
variable {X:Cx}
theorem pv(i:Nat){x:Str}{pos:Pos}(hN:X.N[i]?=some x:=by rfl)(hv:wF X.env.scope x:=by first | exact Or.inl rfl | exact Or.inr (Or.inl rfl) | exact Or.inr (Or.inr rfl))(hd:(x == ("__debug__":Str))=false:=by decide)
 (ik:(x == ("__classdict__":Str))=false:=by decide):PE X (.Name x pos) (qP i):=MO hN hv hd ik
end
theorem c8{A B:Prop}(h:B):if false=true then A else B:=by
 rw[ap cr];exact h
theorem dA{A B:Prop}(h:A):if true=true then A else B:=by
 rw[aB rfl];exact h
theorem av{c A B:Prop}[Decidable c](h1:c->A)(h2:¬c->B):if c then A else B:=by
 by_cases h:c
 . rw[aB h];exact h1 h
 . rw[ap h];exact h2 h
def af(H H':Hp):Prop:=∀b o,H b=some o->H' b=some o
theorem af.refl(H:Hp):af H H:=fun _ _ h=>h
theorem af.trans{H H1 H2:Hp}(a:af H H1)(b:af H1 H2):af H H2:=fun c o h=>b c o (a c o h)
theorem af.free{H H':Hp}(e:af H H'){l:Addr}(h:H' l=Option.none):H l=Option.none:=by
 cases q:H l with
 | none=>rfl
 | some o=>
  rw[e l o q]at h;cases h
theorem af.seq{K:Fg}{H H':Hp}{a:Addr}{xs:Lv}(e:af H H')(h:ah K H a xs):ah K H' a xs:=by
 rcases h with(h | ⟨o,h⟩) | h
 . exact .inl (.inl (e _ _ h))
 . exact .inl (.inr ⟨o,e _ _ h⟩)
 . exact .inr h
section
variable {κ:Type} [DecidableEq κ]
theorem V2{ab:List (κ×V)}{k:κ}{v:V}(h:bJ ab k=some v):k∈ab.map (·.1):=by
 have q:(ab.any fun kv=>decide (kv.1=k))=true:=by
  rw[qX,h]
  all_goals rfl
 obtain⟨p,hp,e⟩:=lx.mp q;exact cP.mpr ⟨p,hp,aL e⟩
end
section
variable {K:Fg}
theorem ag2 {us : Lw} {n : Nat} (h : us.length = n + 1) : ∃ u r, us = u :: r ∧ r.length = n := by
  cases us with
  | nil=>cases h
  | cons u r=>exact⟨u,r,rfl,Nat.succ.inj h⟩
theorem V3{us:Lw}{l:Ls}(hl:l.length=1)(h:us.length=l.length):∃u0,us=[u0]:=by
 rw[hl]at h
 match us,h with
 | [u0],_=>exact⟨u0,rfl⟩
theorem aj.binds1{x qual:Str}{st:Stmt}{f:Addr}{fd:Fy}{l:Ls}(F:aj K x qual st f fd)
 (h:∀(kV doc pm:Value) (an:Oa) (aG ct u0:Value),bindArgs (PySem.W.fnOf x qual (cX st) (cF st) (aO st) .none kV doc pm an aG ct) ⟨[u0],[]⟩=pure (l.zip [u0])) (hl:l.length=1:=by rfl):Binds K fd l []:=
 F.binds (ps:=l) fun kV doc pm an aG ct us e=>by
  obtain⟨u0,rfl⟩:=V3 hl e;exact h kV doc pm an aG ct u0
theorem V4{us:Lw}{l:Ls}(hl:l.length=2)(h:us.length=l.length):∃u0 u1,us=[u0,u1]:=by
 rw[hl]at h
 match us,h with
 | [u0,u1],_=>exact⟨u0,u1,rfl⟩
theorem aj.binds2{x qual:Str}{st:Stmt}{f:Addr}{fd:Fy}{l:Ls}(F:aj K x qual st f fd)
 (h:∀(kV doc pm:Value) (an:Oa) (aG ct u0 u1:Value),bindArgs (PySem.W.fnOf x qual (cX st) (cF st) (aO st) .none kV doc pm an aG ct) ⟨[u0,u1],[]⟩=pure (l.zip [u0,u1])) (hl:l.length=2:=by rfl):Binds K fd l []:=
 F.binds (ps:=l) fun kV doc pm an aG ct us e=>by
  obtain⟨u0,u1,rfl⟩:=V4 hl e;exact h kV doc pm an aG ct u0 u1
theorem V5{us:Lw}{l:Ls}(hl:l.length=3)(h:us.length=l.length):∃u0 u1 u2,us=[u0,u1,u2]:=by
 rw[hl]at h
 match us,h with
 | [u0,u1,u2],_=>exact⟨u0,u1,u2,rfl⟩
theorem aj.binds3{x qual:Str}{st:Stmt}{f:Addr}{fd:Fy}{l:Ls}(F:aj K x qual st f fd)
 (h:∀(kV doc pm:Value) (an:Oa) (aG ct u0 u1 u2:Value),bindArgs (PySem.W.fnOf x qual (cX st) (cF st) (aO st) .none kV doc pm an aG ct) ⟨[u0,u1,u2],[]⟩=pure (l.zip [u0,u1,u2])) (hl:l.length=3:=by rfl):Binds K fd l []:=
 F.binds (ps:=l) fun kV doc pm an aG ct us e=>by
  obtain⟨u0,u1,u2,rfl⟩:=V5 hl e;exact h kV doc pm an aG ct u0 u1 u2
theorem V6{us:Lw}{l:Ls}(hl:l.length=4)(h:us.length=l.length):∃u0 u1 u2 u3,us=[u0,u1,u2,u3]:=by
 rw[hl]at h
 match us,h with
 | [u0,u1,u2,u3],_=>exact⟨u0,u1,u2,u3,rfl⟩
theorem aj.binds4{x qual:Str}{st:Stmt}{f:Addr}{fd:Fy}{l:Ls}(F:aj K x qual st f fd)
 (h:∀(kV doc pm:Value) (an:Oa) (aG ct u0 u1 u2 u3:Value),bindArgs (PySem.W.fnOf x qual (cX st) (cF st) (aO st) .none kV doc pm an aG ct) ⟨[u0,u1,u2,u3],[]⟩=pure (l.zip [u0,u1,u2,u3])) (hl:l.length=4:=by rfl):Binds K fd l []:=
 F.binds (ps:=l) fun kV doc pm an aG ct us e=>by
  obtain⟨u0,u1,u2,u3,rfl⟩:=V6 hl e;exact h kV doc pm an aG ct u0 u1 u2 u3
theorem V7{us:Lw}{l:Ls}(hl:l.length=5)(h:us.length=l.length):∃u0 u1 u2 u3 u4,us=[u0,u1,u2,u3,u4]:=by
 rw[hl]at h
 match us,h with
 | [u0,u1,u2,u3,u4],_=>exact⟨u0,u1,u2,u3,u4,rfl⟩
theorem aj.binds5{x qual:Str}{st:Stmt}{f:Addr}{fd:Fy}{l:Ls}(F:aj K x qual st f fd)
 (h:∀(kV doc pm:Value) (an:Oa) (aG ct u0 u1 u2 u3 u4:Value),bindArgs (PySem.W.fnOf x qual (cX st) (cF st) (aO st) .none kV doc pm an aG ct) ⟨[u0,u1,u2,u3,u4],[]⟩=pure (l.zip [u0,u1,u2,u3,u4])) (hl:l.length=5:=by rfl):Binds K fd l []:=
 F.binds (ps:=l) fun kV doc pm an aG ct us e=>by
  obtain⟨u0,u1,u2,u3,u4,rfl⟩:=V7 hl e;exact h kV doc pm an aG ct u0 u1 u2 u3 u4
theorem V8{us:Lw}{l:Ls}(hl:l.length=6)(h:us.length=l.length):∃u0 u1 u2 u3 u4 u5,us=[u0,u1,u2,u3,u4,u5]:=by
 rw[hl]at h
 match us,h with
 | [u0,u1,u2,u3,u4,u5],_=>exact⟨u0,u1,u2,u3,u4,u5,rfl⟩
theorem aj.binds6{x qual:Str}{st:Stmt}{f:Addr}{fd:Fy}{l:Ls}(F:aj K x qual st f fd)
 (h:∀(kV doc pm:Value) (an:Oa) (aG ct u0 u1 u2 u3 u4 u5:Value),bindArgs (PySem.W.fnOf x qual (cX st) (cF st) (aO st) .none kV doc pm an aG ct) ⟨[u0,u1,u2,u3,u4,u5],[]⟩=pure (l.zip [u0,u1,u2,u3,u4,u5])) (hl:l.length=6:=by rfl):Binds K fd l []:=
 F.binds (ps:=l) fun kV doc pm an aG ct us e=>by
  obtain⟨u0,u1,u2,u3,u4,u5,rfl⟩:=V8 hl e;exact h kV doc pm an aG ct u0 u1 u2 u3 u4 u5
theorem V9{us:Lw}{l:Ls}(hl:l.length=8)(h:us.length=l.length):∃u0 u1 u2 u3 u4 u5 u6 u7,us=[u0,u1,u2,u3,u4,u5,u6,u7]:=by
 rw[hl]at h
 match us,h with
 | [u0,u1,u2,u3,u4,u5,u6,u7],_=>exact⟨u0,u1,u2,u3,u4,u5,u6,u7,rfl⟩
theorem aj.binds8{x qual:Str}{st:Stmt}{f:Addr}{fd:Fy}{l:Ls}(F:aj K x qual st f fd)
 (h:∀(kV doc pm:Value) (an:Oa) (aG ct u0 u1 u2 u3 u4 u5 u6 u7:Value),bindArgs (PySem.W.fnOf x qual (cX st) (cF st) (aO st) .none kV doc pm an aG ct) ⟨[u0,u1,u2,u3,u4,u5,u6,u7],[]⟩=pure (l.zip [u0,u1,u2,u3,u4,u5,u6,u7])) (hl:l.length=8:=by rfl):Binds K fd l []:=
 F.binds (ps:=l) fun kV doc pm an aG ct us e=>by
  obtain⟨u0,u1,u2,u3,u4,u5,u6,u7,rfl⟩:=V9 hl e;exact h kV doc pm an aG ct u0 u1 u2 u3 u4 u5 u6 u7
end
end L2
set_option maxHeartbeats 4000000
namespace L2
open PySem PySem.Spec PyProof.Rows
theorem jV{H:Hp}{p:Addr}{o:HO}(h:H p=none):af H (al H p o):=fun b u e=>by
 rw[bc (bF e h)];exact e
theorem lT{H0 H:Hp}{p:Addr}{o:HO}(s:af H0 H)(h:H0 p=none):af H0 (al H p o):=fun b u e=>by
 rw[bc (bF e h)];exact s b u e
theorem Wa{K:Fg}{H H':Hp}{a:Addr}{xs:Lv}(e:af H H')(h:ak K H a xs):ak K H' a xs:=by
 rcases h with(h | ⟨o,h⟩) | h
 . exact .inl (.inl (e _ _ h))
 . exact .inl (.inr ⟨o,e _ _ h⟩)
 . exact .inr h
abbrev fY (x:Str):Prop:=PyData.strOk x=true
theorem tJ{x:Str}:fY x↔∀c∈x.cps.toList,c<0x110000:=by
 unfold fY PyData.strOk;rw[Array.all_eq_true'];simp
theorem F5{x y:Str}(hx:fY x)(hy:fY y):fY (x++y):=by
 rw[tJ]at *;intro c hc;have e:(x++y).cps.toList=x.cps.toList++y.cps.toList:=by
  show(x.cps++y.cps).toList=_;simp
 rw[e,gN]at hc;exact hc.elim (hx c) (hy c)
theorem A8{c:Nat}(h:c<0x110000):fY ⟨#[c]⟩:=by
 rw[tJ];intro d hd;have e:d=c:=by simpa using hd
 rw[e];exact h
theorem Wb(x y:Str):(x++y).length=x.length+y.length:=by
 show(x.cps++y.cps).size=_;rw[Array.size_append];rfl
theorem Wc(c:Nat):(⟨#[c]⟩:Str).length=1:=rfl
section
variable {X:Cx}
theorem tK:gy X (.builtin "isinstance") (fun xs H Q=>∃x t c b,xs=[x,.ty c]/\ir X.K H x t/\PySem.W.kitOne X.K t (.type c)=some b/\Q (.bl b) H):=by
 intro pins s σ H xs us Q I r h;obtain⟨x,t,c,b,rfl,ty,e,q⟩:=h;obtain⟨u,u2,rfl,r1,r2⟩:=vals2 r;cases (show u2=Value.type c from r2);exact Ft I r1 ty e fun tk=>⟨.bl b,H,I.tok tk,rfl,q⟩
end
end L2
namespace HT
open PySem PyProof.Rows
theorem Wd(A:Around)(s:Shared)(a:Int)(t:Tok)(c:Int)(u:Tok)(prog:Program)(w:World)(E:VP)(Q:VP)(h:Q (.bool (decide (c<=a))) s) :
 wpAny (model prog w) A (richCompare .GtE (.int a t) (.int c u)) Q E s:=
 (PyProof.Rows.ge_int h:wpAny (model prog w) A (compareOp .GtE (.int a t) (.int c u)) Q E s)
section
open PySem.SeqAt
open PySem.AutoSeq1 (wpAny_loadPart')
open PySem.MeetsSeq PySem.MeetsSeq2 PySem.MeetsSeq3
theorem We(l b:Addr)(items cu:Av)(n n2:Nat)(dd fU:Oa)(sl dv:Array (Option Value))(ns ms:List Int)(hi:IntsAre items.toList ns)(hj:IntsAre cu.toList ms) :
 Meets (Builtin.«tuple.__ge__» ⟨[.ref l,.ref b],[]⟩)
  (fun _ R s=>s.heap.get? l=some { cls:=.type "tuple",dict:=dd,data:=.seq items n,slots:=sl }/\s.heap.get? b=some { cls:=.type "tuple",dict:=fU,data:=.seq cu n2,slots:=dv } /\
   R (.ok (.ret (.bool (!lexLt ns ms)))) s):=
 .of_wp fun prog w A R s h=>by
  obtain⟨hp,g,d,tk,os⟩:=s;obtain⟨hl,hb,h⟩:=h;have f2:=Lm;have z1:items.size=ns.length:=by rw[←hi.length];simp
  have z2:cu.size=ms.length:=by rw[←hj.length];simp
  wp_walk using wpAny_loadPart' hl,wpAny_loadPart' hb,sE _ (fun rest b s'=>b.1=none/\s'=⟨hp,g,d,tk,os⟩/\∃(vs ws:Lw) (eX eY:List Int),rest=vs.zip ws /\
   IntsAre vs eX/\IntsAre ws eY/\eX.length+cu.size=eY.length+items.size/\R (.ok (.ret (.bool (!lexLt eX eY)))) ⟨hp,g,d,tk,os⟩) _
  case turn=>
   rintro⟨y,x⟩ rest b s' ⟨jP,rfl,vs,ws,eX,eY,hz,jQ,fw,hlen,hR⟩;cases jQ with
   | nil=>rw[Ln]at hz;cases hz
   | cons a t tq=>
    cases fw with
    | nil=>rw[Lo]at hz;cases hz
    | cons c u tu=>
     rw[sG]at hz;injection hz with gA hrest
     injection gA with hy hx
     subst hy hx;rw[pz]at hR;simp only[cV]at hlen;obtain⟨e,he,nk⟩:=AL A.in1 ⟨hp,g,d,tk,os⟩ a t c u;refine ai (he prog w _ _ ?_);cases e with
     | true=>
      rw[aB (nk.mp rfl)]at hR
      wp_walk
      exact⟨rfl,rfl,_,_,_,_,hrest,tq,tu,by omega,hR⟩
     | false=>
      have jo:a≠c:=fun q=>absurd (nk.mpr q) cr;rw[ap jo]at hR;have tw:=Wd A.in1 ⟨hp,g,d,tk,os⟩ a t c u prog w;have eb:(!decide (a<c))=decide (c<=a):=by
       by_cases q:a<c
       . rw[aE q,ba (by omega)];rfl
       . rw[ba q,aE (by omega)];rfl
      rw[eb]at hR
      wp_walk using tw
      exact⟨_,rfl,by simpa using hR⟩
  case fin=>
   rintro⟨b1,b2⟩ s' ⟨jP,rfl,vs,ws,eX,eY,hz,jQ,fw,hlen,hR⟩;simp only at jP;subst jP;have hv:(!lexLt eX eY)=decide (cu.size<=items.size):=by
    cases jQ with
    | nil=>
     cases fw with
     | nil=>
      simp only[ji]at hlen;rw[AI];exact(aE (by omega)).symm
     | cons c u hw=>
      simp only[ji,cV]at hlen;rw[AJ];exact(ba (by omega)).symm
    | cons a t hv=>
     cases fw with
     | nil=>
      simp only[ji,cV]at hlen;rw[AK];exact(aE (by omega)).symm
     | cons c u hw=>
      rw[sG]at hz;cases hz
   rw[hv]at hR
   wp_walk
   exact⟨_,rfl,by simpa [Builtin.Tuple.tupleCompareSizes]using hR⟩
  case h=>
   exact⟨rfl,rfl,items.toList,cu.toList,ns,ms,rfl,hi,hj,by omega,h⟩
end
section
variable {prog:Program}{w:World}{A:Around}{E:VP}{s:Shared}
theorem Wf{l b:Addr}{items cu:Av}{ns ms:List Int}{Q:VP}(hl:IsTup s.heap l items)(hb:IsTup s.heap b cu)(hi:IntsAre items.toList ns)(hj:IntsAre cu.toList ms)
 (hu:A.units<cLine) (h:Q (.bool (!lexLt ns ms)) s):wpAny (model prog w) A (compareOp .GtE (.ref l) (.ref b)) Q E s:=by
 obtain⟨⟨cls,dd,data,sl⟩,ho,hc,n,hd⟩:=id hl;obtain⟨⟨AM,fU,data2,dv⟩,jR,fV,n2,hd2⟩:=id hb;simp only at hc hd fV hd2;subst hc hd fV hd2;exact Lq (op:=.GtE) ⟨_,ho,rfl⟩ ⟨_,jR,rfl⟩ PySem.F.slot_tuple_ge PySem.F.entry_tuple_ge (PySem.F.args_tuple_ge_2 _ _) (We l b items cu n n2 dd fU sl dv ns ms hi hj)
  ⟨ho,jR,show Value.bool (!lexLt ns ms)≠Value.notImplemented/\Q (.bool (!lexLt ns ms)) s from ⟨(fun x=>nomatch x),h⟩⟩ hu
end
end HT
namespace L2
open PySem PySem.Spec PyProof.Rows
section
variable {X:Cx}
def Wg(K:Fg):R2:=fun x y H Q=>∃a b ns ms,x=.ref a/\y=.ref b/\ak K H a (ns.map V.int)/\ak K H b (ms.map V.int)/\Q (.bl (!HT.lexLt ns ms)) H
theorem F6(hu:X.A.units<cLine):bI X (compareOp .GtE) (Wg X.K):=by
 intro pins s σ H x y v u Q I rx ry h;obtain⟨a,b,ns,ms,rfl,rfl,ha,hb,q⟩:=h;cases rx;cases ry;obtain⟨its,r,p,_⟩:=I.tuple ha;obtain⟨jm,r2,p2,_⟩:=I.tuple hb;exact HT.Wf p p2 (by simpa using intsAre_of r) (by simpa using intsAre_of r2) hu ⟨.bl _,H,I,rfl,q⟩
end
mutual
inductive DV (K:Fg) (H:Hp):V->PySem.W.Dat->Prop
 | non:DV K H .non .none
 | int (i:Int):DV K H (.int i) (.int i)
 | str (x:Str):DV K H (.str x) (.str x)
 | tup {a:Addr}{xs:Lv}{ds:List PySem.W.Dat}:ak K H a xs->jW K H xs ds->DV K H (.ref a) (.tuple ds)
 | lst {a:Addr}{xs:Lv}{ds:List PySem.W.Dat}:ah K H a xs->jW K H xs ds->DV K H (.ref a) (.list ds)
inductive jW (K:Fg) (H:Hp):Lv->List PySem.W.Dat->Prop
 | nil:jW K H [] []
 | cons {x:V}{d:PySem.W.Dat}{xs:Lv}{ds:List PySem.W.Dat}:DV K H x d->jW K H xs ds->jW K H (x::xs) (d::ds)
end
theorem A9{K:Fg}{H:Hp}:∀ns:List Int,jW K H (ns.map V.int) (ns.map PySem.W.Dat.int)
 | []=>.nil
 | n::ns=>.cons (.int n) (A9 ns)
section
variable {X:Cx}{pins:Po}{σ:St}{H:Hp}{s:Shared}
mutual
theorem DV.reads(I:Inv X pins σ H s):∀{x:V}{d:PySem.W.Dat}{u:Value},DV X.K H x d->RelV x u->∃as,Reads s.heap u (PySem.W.kqdP d) as
 | _,_,_,.non,r=>by cases r;exact⟨_,Reads.none⟩
 | _,_,_,.int i,r=>by obtain⟨t,rfl⟩:=r;exact⟨_,Reads.int i t⟩
 | _,_,_,.str x,r=>by obtain⟨t,rfl⟩:=r;exact⟨_,Reads.str x t⟩
 | _,_,_,.tup h q,r=>by
  cases r;obtain⟨its,rv,⟨o,e,c,n,d⟩,_⟩:=I.tuple h;obtain⟨as,z⟩:=jW.reads I q rv;rw[PySem.W.kqdP];exact⟨as,reads_tuple_at e c d (by simpa using z)⟩
 | _,_,_,.lst h q,r=>by
  cases r;obtain⟨its,rv,⟨o,n,e,c,_,d⟩,_⟩:=I.list h;obtain⟨as,z⟩:=jW.reads I q rv;rw[PySem.W.kqdP];exact⟨_,reads_list_at e c d (by simpa using z)⟩
theorem jW.reads(I:Inv X pins σ H s):∀{xs:Lv}{ds:List PySem.W.Dat}{us:Lw},jW X.K H xs ds->aU xs us->∃as,ReadsAll s.heap us (PySem.W.kqdPs ds) as
 | _,_,_,.nil,.nil=>⟨_,ReadsAll.nil⟩
 | _,_,_,.cons q qs,.cons r rs=>by
  obtain⟨as,z⟩:=DV.reads I q r;obtain⟨bs,y⟩:=jW.reads I qs rs;rw[PySem.W.kqdPs];exact⟨_,ReadsAll.cons z y⟩
end
end
theorem F7{d:PySem.W.Dat}(h:PySem.W.kqdOk 9 d=true):SeqAt.shaped (PySem.W.kqdP d)=true:=by
 have l:=PySem.W.kqd_lay 9 d h;unfold SeqAt.shaped;rw[l.1,eu];exact aE (eU l.2 (by decide))
section
variable {X:Cx}
theorem Ba(hu:X.A.units+64<cLine):bI X (compareOp .Eq) (fun x y H Q=>∃d e,DV X.K H x d/\DV X.K H y e/\PySem.W.kqdOk 9 d=true/\PySem.W.kqdOk 9 e=true/\∀b:Bool,(b=true↔d=e)->Q (.bl b) H):=by
 intro pins s σ H x y v u Q I rx ry h;obtain⟨d,e,hd,he,od,oe,q⟩:=h;obtain⟨as,ra⟩:=hd.reads I rx;obtain⟨bs,rb⟩:=he.reads I ry;exact eq_dataH ra rb (F7 od) (F7 oe) hu ⟨.bl _,H,I,rfl,q _ (PySem.W.kqd_eqv 9 d e 9 od oe)⟩
end
section
variable {X:Cx}{st:Stmt}{rest:List Stmt}{t u:TS}
def Wh(M:St->Hp->Prop)(t u:TS):TS:=fun D σ H=>t { D with nx:=M } σ H/\∀σ' H',M σ' H'->u D σ' H'
theorem Bb(M:St->Hp->Prop)(h1:PS X st t)(h2:c7 X rest u):c7 X (st::rest) (Wh M t u):=by
 intro pins s σ H D I h;refine K8 (thn (h1 pins s σ H { D with nx:=M } I h.1) fun f s1 q=>?_);cases f with
 | next=>
  obtain⟨σ',H',I',q⟩:=q;exact h2 pins s1 σ' H' D I' (h.2 σ' H' q)
 | ret v=>exact q
 | brk=>exact q
 | cont=>exact q
end
theorem xi{H:Hp}{p t:Addr}{o:HO}(h:al H p o t=none):t≠p/\H t=none:=by
 by_cases e:t=p
 . subst e;rw[bf]at h;cases h
 . exact⟨e,by rw[bc e]at h;exact h⟩
theorem fit{a b:Str}(ha:a.length<=100)(hb:b.length<=100):a.length+b.length<=sizeLine:=iR (bq (by omega))
theorem Bc{a:Str}(ha:a.length<=100):a.length<=sizeLine:=iR (bq (by omega))
theorem qZ{α:Type}{xs:List α}{r:Int}(h0:0<=r)(h1:r<xs.length):∃v,aM xs r=some v/\xs[r.toNat]?=some v:=by
 obtain⟨n,rfl⟩:∃n:Nat,r=n:=⟨r.toNat,by omega⟩;have hn:n<xs.length:=by omega
 have e:xs[n]?=some (xs[n]'hn):=by simp
 exact⟨_,bT e,by simpa using e⟩
theorem F8{ns:List Int}{r:Int}(h0:0<=r)(h1:r<ns.length):∃z,aM (ns.map V.int) r=some (V.int z)/\ns[r.toNat]?=some z:=by
 obtain⟨v,e,e2⟩:=qZ (xs:=ns.map V.int) h0 (by rw[aK];exact h1);rw[dq]at e2;cases q:ns[r.toNat]? with
 | none=>rw[q]at e2;cases e2
 | some z=>
  rw[q]at e2;cases e2;exact⟨z,e,rfl⟩
def b9(K:Fg)(mg:Mv)(x:Str)(st:Stmt):Prop:=∃f fd,mg x=some (.ref f)/\aj K x x st f fd/\PySem.W.keepIn K (.ref f)=true
theorem cb{K:Fg}{h:Heap}{mg:Mv}{x:Str}{st:Stmt}{f:Addr}{od an:Oa}{sl:Array (Option Value)}{oc kV dc pm cd ct:Value}(X:K.In h)(G:h.Ns mainGlobals mg)
 (a:PySem.W.nsIn K mainGlobals x=some (some (.ref f))) (l:K.lookup f=some ⟨oc,od,.func (PySem.W.fnOf x x (cX st) (cF st) (aO st) .none kV dc pm an cd ct),sl⟩) (c:PySem.W.codeIn K cd x=true) (k:PySem.W.keepIn K (.ref f)=true) :
 b9 K mg x st:=⟨f,_,oX X G a,iY l c k,k⟩
abbrev F9 (ifs:List Expr) (env:Env):Sem Bool:=
 forIn ifs true fun c r=>if r=true then do let ok ←isTrue c env (eval c env);pure (ForInStep.yield ok) else pure (ForInStep.yield r)
def gB(X:Cx)(ifs:List Expr)(t:TT):Prop:=
 ∀(pins:Po) (s:Shared) (σ:St) (H:Hp) (Q:Bool->Hp->Prop),Inv X pins σ H s->t σ H Q->wpAny (model X.prog X.w) X.A (F9 ifs X.env) (TP X pins σ Q) X.xe s
def pC:TT:=fun _ H Q=>Q true H
theorem fz{X:Cx}:gB X [] pC:=fun _ _ _ H _ I h=>wpAny_tests_nil ⟨H,I,h⟩
theorem jp{X:Cx}{c:Expr}{t:TT}(h:PT X c t):gB X [c] t:=fun pins s σ H Q I q=>wpAny_tests_one (h pins s σ H Q I q)
section
variable {prog:Program}{w:World}{A:Around}{R:Result->Shared->Prop}{s:Shared}
theorem Wi{elt target iter:Expr}{ifs:List Expr}{scope:Scope}{pos:Pos}{it acc:Value}{env:Env}(I:Nat->Shared->Prop)
 (turn:∀n s,I n s->wpAny (model prog w) A (pyNext it) (fun r s₁=>match r with
  | none=>R (.ok .next) s₁
  | some v=>wpAny (model prog w) A (letOwnedTupleGo target it v) (fun _ s₀=>wpAny (model prog w) A (assign target env v) (fun _ s₂=>
   wpAny (model prog w) A (F9 ifs env) (fun ok s₃=>
    if ok=true then wpAny (model prog w) A (eval elt env) (fun x s₄=>
     wpAny (model prog w) A (call (.builtin "list.append") [acc,x]) (fun _ s₅=>∃m,m<n/\I m s₅) (notedBy (model prog w) A env fun e s'=>R (.error e) s') s₄) (notedBy (model prog w) A env fun e s'=>R (.error e) s') s₃
    else∃m,m<n/\I m s₃) (notedBy (model prog w) A env fun e s'=>R (.error e) s') s₂) (notedBy (model prog w) A env fun e s'=>R (.error e) s') s₀) (notedBy (model prog w) A env fun e s'=>R (.error e) s') s₁) (notedBy (model prog w) A env fun e s'=>R (.error e) s') s)
 (n:Nat) (h:I n s):codeAny (model prog w) A (.compLoop (.ListComp elt [⟨target,iter,ifs,0⟩] scope pos) 0 it acc env) R s:=by
 refine codeAny_loop rfl I (fun n s hI=>?_) n h;show wpAny _ A ((compTurn (.ListComp elt [⟨target,iter,ifs,0⟩] scope pos) 0 it acc env).onRaise (fun x=>do noteFrame x env;theTreesLotGoes x)) _ _ s;refine wpAny_noted ?_;rw[compTurn_list];refine ai (wpAny_standAt (ai (ej (turn n s hI) (fun r s₁ h₁=>?_) fun _ _ h'=>h')));cases r with
 | none=>exact aw h₁
 | some v=>
  refine ai (ej h₁ (fun _ s₀ h₀=>?_) fun _ _ h'=>h');refine ai (ej h₀ (fun _ s₂ h₂=>ai (ej h₂ (fun ok s₃ h₃=>?_) fun _ _ h'=>h')) fun _ _ h'=>h');cases ok with
  | false=>exact aw ⟨rfl,h₃⟩
  | true=>
   exact ai (ai (ej h₃ (fun x s₄ h₄=>ai (ej h₄ (fun _ s₅ h₅=>aw (aw ⟨rfl,h₅⟩)) fun _ _ h'=>h')) fun _ _ h'=>h'))
end
theorem Wj{P:Program}{w:World}{H:Hp}{h1 h2:Heap}{C:Addr}(ok:bY P w H h1)(sb:Heap.SameBut C h1 h2)(hn:H C=none):bY P w H h2:=fun b ob e=>by
 refine(ok b ob e).stay (fun c w' hc q=>(sb.2 c ?_).trans q) (fun _ q=>q) fun _ _ q=>q;rintro rfl
 rcases hc with rfl | hc
 . rw[hn]at e;cases e
 . rw[hn]at hc;cases hc
def jX(J:It)(g:TG)(tt:TT)(te:TE)(D:Addr)(Qd:Hp->Prop)(W:Nat->Nat->St->Hp->Prop):Prop:=
 ∀i m σ H,W i m σ H->(J.stop i H/\Qd H)\/(J.go i H/\∀x H2,J.yld i H x H2->g x σ H2 fun σ3 H3=>tt σ3 H3 fun ok H4=>
  if ok=true then te σ3 H4 fun y H5=>∃ys,H5 D=some (.lst ys)/\ys.length<sizeLine/\∃m',m'<m/\W (i+1) m' σ3 (al H5 D (.lst (ys++[y])))
  else∃m',m'<m/\W (i+1) m' σ3 H4)
section
variable {X:Cx}{pins:Po}{σ:St}{H3:Hp}{s3:Shared}
end
def gi(env:Env):List (Str×NameKind)->List (Str×Addr)->List (Str×Addr)
 | [],cs=>cs
 | (n,k)::r,cs=>if k=.free then gi env r ((n,(env.cells.lookup n).getD 0)::cs) else gi env r cs
theorem Wk{scope:Scope}{env:Env}(h:∀y∈scope.names,y.2=.free->∃c,env.cells.lookup y.1=some c):closureFor scope env=pure (gi env scope.names []):=by
 unfold closureFor;generalize scope.names=l at h;have go:∀(l:List (Str×NameKind)) (cs:List (Str×Addr)),(∀y∈l,y.2=.free->∃c,env.cells.lookup y.1=some c) ->
  (forIn l cs fun(x:Str×NameKind) (r:List (Str×Addr))=>(if (x.2 == .free)=true then do let y ←cellOf env x.1;pure (ForInStep.yield ((x.1,y)::r)) else pure (ForInStep.yield r):Sem (ForInStep (List (Str×Addr)))))=pure (gi env l cs):=by
  intro l
  induction l with
  | nil=>intro cs _;rfl
  | cons x l ih=>
   intro cs h;obtain⟨n,k⟩:=x;rw[List.forIn_cons]
   by_cases e:k=.free
   . subst e;obtain⟨c,hc⟩:=h _ gc rfl;have hc:env.cells.lookup n=some c:=hc;have e1:cellOf env n=pure c:=by unfold cellOf;rw[hc]
     simp only[e1,gi,hc,wa,EA,zZ,pure_bind];exact ih _ fun y hy=>h y (eS _ hy)
   . have e':(k == NameKind.free)=false:=by simpa using e
     simp only[e',gi,e,ic,kC,pure_bind];exact ih _ fun y hy=>h y (eS _ hy)
 have:=go l [] h;simpa using this
theorem Bd{env:Env}:∀{l:List (Str×NameKind)}{cs:List (Str×Addr)}{x:Str}{c:Addr},(∀y∈l,y.2=.free->∃c,env.cells.lookup y.1=some c)->(∀x c,cs.lookup x=some c->env.cells.lookup x=some c) ->
 (gi env l cs).lookup x=some c->env.cells.lookup x=some c
 | [],_,_,_,_,hc,e=>hc _ _ e
 | (n,k)::l,cs,x,c,h,hc,e=>by
  unfold gi at e;have h':∀y∈l,y.2=.free->∃c,env.cells.lookup y.1=some c:=fun y hy=>h y (eS _ hy);split at e
  . refine Bd h' (fun z d hz=>?_) e;rename_i hk;rw[jF]at hz;split at hz
    . rename_i q;obtain⟨d',hd⟩:=h (n,k) gc hk;have hd:env.cells.lookup n=some d':=hd;have:z=n:=by simpa using q
      subst this;rw[hd]at hz ⊢;exact hz
    . exact hc _ _ hz
  . exact Bd h' hc e
theorem Be{env:Env}:∀{l:List (Str×NameKind)}{cs:List (Str×Addr)}{x:Str},(cs.lookup x).isSome=true->((gi env l cs).lookup x).isSome=true
 | [],_,_,h=>h
 | (n,k)::l,cs,x,h=>by
  unfold gi;split
  . refine Be ?_;rw[jF];split
    . rfl
    . exact h
  . exact Be h
theorem Bf{env:Env}{x:Str}:∀{l:List (Str×NameKind)}{cs:List (Str×Addr)},(x,NameKind.free)∈l->((gi env l cs).lookup x).isSome=true
 | (n,k)::l,cs,h=>by
  unfold gi
  rcases cE.mp h with e | e
  . cases e;rw[aB rfl];refine Be ?_;rw[jF];simp
  . split
    . exact Bf e
    . exact Bf e
def cp(X:Cx)(N:Ls)(sc:Scope)(s₀:Shared)(H₀:Hp)(C:Addr)(ex:List Addr):Cx where
 prog:=X.prog
 w:=X.w
 K:=X.K
 mg:=X.mg
 base:=X.base
 A:=X.A
 N:=N
 s₀:=s₀
 H₀:=H₀
 env:=compEnvC sc (gi X.env sc.names []) C X.env
 outer:=X.stack
 stack:=X.stack
 ex:=ex
 fn:=fun _=>false
 calm:=X.calm
 pn:=[]
 xe:=fun _ _=>False
structure iZ(X:Cx)(own aW:Ls)(js:List Nat)(sc:Scope):Prop where
 kind:sc.kind=.function
 nocell:∀y∈sc.names,y.2≠.cell
 names:∀y∈sc.names,y.2=.local->sc.names.lookup y.1=some .local
 nd:(own++aW).Nodup
 frees:∀y∈sc.names,y.2=.free->y.1∈aW
 slots:js.map (fun j=>X.N[j]?)=aW.map some
 outer':aW.map X.env.kindOf=aW.map fun _=>some NameKind.cell
 capk':aW.map (fun x=>(relabel sc X.env).names.lookup x)=aW.map fun _=>some NameKind.cell
theorem Bg{α β:Type}{f:α->β}{c:β}:∀{l:List α},l.map f=l.map (fun _=>c)->∀x∈l,f x=c
 | [],_,_,h=>nomatch h
 | y::l,e,x,h=>by
  rw[dM,dM]at e;injection e with e1 e2
  rcases cE.mp h with q | q
  . rw[q];exact e1
  . exact Bg e2 x q
theorem iZ.outer{X:Cx}{own aW:Ls}{js:List Nat}{sc:Scope}(S:iZ X own aW js sc):∀x∈aW,X.env.kindOf x=some .cell:=Bg S.outer'
theorem iZ.capk{X:Cx}{own aW:Ls}{js:List Nat}{sc:Scope}(S:iZ X own aW js sc):∀x∈aW,(relabel sc X.env).names.lookup x≠some .local:=fun x hx h=>by
 rw[Bg S.capk' x hx]at h;cases h
def compStart(n:Nat)(js:List Nat)(σ:St):St:=List.replicate n none++js.map fun j=>(σ[j]?).join
def Bh(wi:TI)(n:Nat)(js:List Nat)(g:TG)(tt:TT)(te:TE):TE:=fun σ H Q=>wi σ H fun J H1=>∀D,H1 D=none ->
 ∃W:Nat->Nat->St->Hp->Prop,(∃m,W 0 m (compStart n js σ) (al H1 D (.lst [])))/\jX J g tt te D (fun H'=>Q (.ref D) H') W
section
variable {X:Cx}{pins:Po}{σ:St}{H3:Hp}{s3:Shared}
theorem Ga{sc:Scope}{env:Env}{x:Str}{k:NameKind}(h:(relabel sc env).names.lookup x=some k):k=.local\/k=.globalImplicit\/(x,k)∈sc.names\/(x,NameKind.free)∈sc.names:=by
 have hm:=wf h;unfold relabel at hm;obtain⟨⟨n,k'⟩,hn,e⟩:=cP.mp hm;dsimp only at e;split at e
 . rename_i c;cases e;simp only[et,kE]at c;obtain⟨⟨c,_⟩,_⟩:=c;subst c;exact .inr (.inr (.inr hn))
 . cases e;exact .inr (.inr (.inl hn))
theorem Wl{elt tg iter:Expr}{ifs:List Expr}{sc:Scope}{pos:Pos}{own aW:Ls}{js:List Nat}{g:TG}{tt:TT}{te:TE}{it C D:Addr}{fp:List Addr}{tn:Nat->Heap->Prop}{J:It}{h4:Heap}{tk:Nat}{m:Mv}
 {W:Nat->Nat->St->Hp->Prop}{Qd:Hp->Prop}{m0:Nat} (S:iZ X own aW js sc) (hc:X.calm=true) (I3:Inv X pins σ H3 s3) (T:o9 X.prog X.w X.K tg J fp it tn) (pb:tn 0 s3.heap) (f3:∀b∈fp,jM X pins H3 b)
 (eC:C=s3.heap.objs.size) (lS:h4.Ns C m) (hk:∀b o,s3.heap.get? b=some o->h4.get? b=some o)
 (hg:PG (cp X (own++aW) sc s3 H3 C fp) tg g) (ht:gB (cp X (own++aW) sc s3 H3 C fp) ifs tt) (he:PE (cp X (own++aW) sc s3 H3 C fp) elt te)
 (w0:W 0 m0 (compStart own.length js σ) H3) (ask:jX J g tt te D Qd W) :
 codeAny (model X.prog X.w) X.A (.compStart (.ListComp elt [⟨tg,iter,ifs,0⟩] sc pos) 0 (.ref it) (.ref D) (compEnvC sc (gi X.env sc.names []) C X.env))
  (fun r s'=>r=.ok .next/\∃m' H',s'.heap.Ns C m'/\s'.os=s3.os/\AllBare s'.gens/\Un (ij X.stack) fp H3 H' s3.heap s'.heap/\bY X.prog X.w H' s'.heap/\H' C=none/\Qd H') { s3 with heap:=h4,toks:=tk }:=by
 have Wm:∀y∈sc.names,y.2=.free->∃c,X.env.cells.lookup y.1=some c:=fun y hy e=>I3.ok.has _ (.inl (S.outer _ (S.frees y hy e)));have nq:∀(x:Str) (c:Addr),(cp X (own++aW) sc s3 H3 C fp).env.cells.lookup x=some c->X.env.cells.lookup x=some c:=fun x c e=>
  Bd Wm (fun x c h=>by cases (show([]:List (Str×Addr)).lookup x=some c from h)) e
 have ltC:∀(x:Str) (c:Addr),X.env.cells.lookup x=some c->c<s3.heap.objs.size:=fun x c e=>by
  obtain⟨v,q⟩:=I3.cell x c e;exact q.lt
 have xj:∀b∈fp,b<s3.heap.objs.size:=fun b hb=>by
  obtain⟨o,e,_⟩:=T.obj 0 _ pb b hb;exact bn e
 have xk:(cp X (own++aW) sc s3 H3 C fp).Ok:=by
  refine⟨I3.ok.mod,S.kind,I3.ok.glob,I3.ok.blt,Es eC.symm,fun x y c e1 e2=>I3.ok.inj x y c (nq x c e1) (nq y c e2),fun x hx=>?_,(fun x c z _=>nomatch (show false=true from z)),I3.ok.hd,I3.ok.frames,.inl rfl,fun b hb=>?_,
   I3.bs,eU I3.ok.bsz I3.sz,fun b o e hb=>?_,fun b hb hs=>?_,I3.stack,I3.stkFree⟩
  . have sN:(relabel sc X.env).names.lookup x=some .cell\/(relabel sc X.env).names.lookup x=some .free:=hx;have hm:(x,NameKind.free)∈sc.names:=by
     rcases sN with z | z
     . rcases Ga z with q | q | q | q
       . cases q
       . cases q
       . exact absurd rfl (S.nocell _ q)
       . exact q
     . rcases Ga z with q | q | q | q
       . cases q
       . cases q
       . exact q
       . exact q
    exact we.mp (Bf hm)
  . refine⟨?_,fun x c e=>(f3 b hb).2.2.2.2.1 x c (nq x c e)⟩;show b≠C;rw[eC];exact ck (xj b hb)
  . rcases(f3 b hb).2.2.2.1 with z | z
    . exact I3.ok.noex b o e z
    . have h1:b<X.base.objs.size:=bn e;exact absurd (fO h1 (eU I3.ok.bsz z)) (lm _)
  . obtain⟨_,f1,f2,_⟩:=f3 b hb
    rcases cE.mp (I3.stkSub b hs) with z | z
    . exact f1 z
    . exact f2 z
 have Wn:H3 C=none:=by rw[eC];exact I3.hok.fresh (aS _)
 have sl:js.length=aW.length:=by have:=kD List.length S.slots;simpa using this
 have I4:Inv (cp X (own++aW) sc s3 H3 C fp) [] (compStart own.length js σ) H3 { s3 with heap:=h4,toks:=tk }:=by
  refine⟨xk,rfl,I3.bare,Un.kept hk,⟨m,lS,fun i x v e1 e2 hv=>?_⟩,fun x c e=>?_,Wn,fun x c e=>I3.freeC x c (nq x c e),fun p hp=>?_,I3.hok.kept hk,?_⟩
  . have e1:(own++aW)[i]?=some x:=e1;unfold compStart at e2
    by_cases hi:i<own.length
    . rw[Lj (by simpa using hi),agt,aB hi]at e2;cases e2
    . rw[Ev (by omega)]at e1;rw[Ev (by simpa using hi),Lk,dq]at e2;obtain⟨j,hj⟩:∃j,js[i - own.length]?=some j:=by
       cases q:js[i - own.length]? with
       | none=>rw[q]at e2;cases e2
       | some j=>exact⟨j,rfl⟩
      rw[hj]at e2;have e2:(σ[j]?).join=some v:=gu e2;have e3:σ[j]?=some (some v):=by
       cases q:σ[j]? with
       | none=>rw[q]at e2;cases e2
       | some z=>rw[q]at e2;rw[show z=some v from e2]
      have hs:=kD (fun l=>l[i - own.length]?) S.slots;simp only[dq,hj,e1,lw]at hs;have hN:X.N[j]?=some x:=gu hs;have hx:x∈aW:=gO e1;obtain⟨m2,tf,wZ⟩:=I3.loc;obtain⟨u,ru,lk⟩:=wZ j x v hN e3 (.inr (.inl (S.outer x hx)));refine⟨u,ru,?_⟩
      rcases lk with⟨k1,_⟩ | ⟨_,c,hc1,fV⟩
      . rw[S.outer x hx]at k1;cases k1
      . have hv:wF (relabel sc X.env) x:=hv;have kd:(cp X (own++aW) sc s3 H3 C fp).env.kindOf x=some .cell\/(cp X (own++aW) sc s3 H3 C fp).env.kindOf x=some .free\/(cp X (own++aW) sc s3 H3 C fp).env.kindOf x=some .local:=by
         rcases hv with z | z | z
         . exact .inr (.inr z)
         . exact .inl z
         . exact .inr (.inl z)
        rcases kd with kd | kd | kd
        . obtain⟨c',m7⟩:=xk.has x (.inl kd);have:=nq x c' m7;rw[hc1]at this;cases this;exact .inr ⟨.inl kd,c,m7,fV.keeps hk⟩
        . obtain⟨c',m7⟩:=xk.has x (.inr kd);have:=nq x c' m7;rw[hc1]at this;cases this;exact .inr ⟨.inr kd,c,m7,fV.keeps hk⟩
        . have kd:(relabel sc X.env).names.lookup x=some .local:=kd;exact absurd kd (S.capk x hx)
  . obtain⟨v,q⟩:=I3.cell x c (nq x c e);exact⟨v,q.keeps hk⟩
  . have cq:p∈([]:Po):=hp;cases cq
  . show(compStart own.length js σ).length=(own++aW).length;unfold compStart;rw[be,Lk,aK,be,sl]
 have Bi:∀{H':Hp},(∀b∈fp,H' b=none)->∀b∈fp,jM (cp X (own++aW) sc s3 H3 C fp) [] H' b:=fun {H'} hn b hb=>by
  refine⟨hn b hb,?_,fun hs=>xk.exfs b hb hs,.inl hb,fun x c e=>(f3 b hb).2.2.2.2.1 x c (nq x c e),fun p hp=>?_⟩
  . show b≠C;rw[eC];exact ck (xj b hb)
  . have cq:p∈([]:Po):=hp;cases cq
 have Gb:tn 0 h4:=T.keep 0 _ _ pb fun b _ o e=>hk b o e;have loop:codeAny (model X.prog X.w) X.A (.compLoop (.ListComp elt [⟨tg,iter,ifs,0⟩] sc pos) 0 (.ref it) (.ref D) (compEnvC sc (gi X.env sc.names []) C X.env))
  (fun r s'=>r=.ok .next/\∃m' H',s'.heap.Ns C m'/\s'.os=s3.os/\AllBare s'.gens/\Un (ij X.stack) fp H3 H' s3.heap s'.heap/\bY X.prog X.w H' s'.heap/\H' C=none/\Qd H') { s3 with heap:=h4,toks:=tk }:=by
  refine Wi (fun n s'=>∃i σ' H',Inv (cp X (own++aW) sc s3 H3 C fp) [] σ' H' s'/\tn i s'.heap/\(∀b∈fp,H' b=none)/\W i n σ' H') ?_ m0 ⟨0,_,H3,I4,Gb,fun b hb=>(f3 b hb).1,w0⟩;rintro n s' ⟨i,σ',H',J',dO,Gc,w'⟩
  rcases ask i n σ' H' w' with⟨stop,qd⟩ | ⟨go,step⟩
  . refine thn (T.done (cp X (own++aW) sc s3 H3 C fp) rfl rfl rfl hc i [] s' σ' H' _ J' (Bi Gc) dO stop) fun r s1 Wo=>Wo.elim fun hr J1=>?_;subst hr;obtain⟨m1,Wp,_⟩:=J1.loc;exact⟨rfl,m1,H',Wp,J1.os,J1.bare,J1.base,J1.hok,J1.free,qd⟩
  . refine thn (T.item (cp X (own++aW) sc s3 H3 C fp) rfl rfl rfl hc i [] s' σ' H' _ J' (Bi Gc) dO go) fun r s1 Wq=>Wq.elim fun u Wr=>Wr.elim fun hr h1=>?_;subst hr;refine thn h1 fun _ s2 Ws=>Ws.elim fun x Wt=>Wt.elim fun H5 Wu=>Wu.elim fun J5 Wv=>Wv.elim fun r5 Ww=>Ww.elim fun y5 Wx=>Wx.elim fun pd Au=>?_;have Wy:=J5.pinned (Bi Au) (T.obj _ _ pd);refine ej (hg _ s2 σ' H5 x u _ Wy r5 (step x H5 y5)) (fun _ s6 Wz=>Wz.elim fun σ6 WA=>WA.elim fun H6 WB=>WB.elim fun J6 q6=>?_) (fun _ _ z=>z.elim);refine ej (ht _ s6 σ6 H6 _ J6 q6) (fun ok s7 WC=>WC.elim fun H7 WD=>WD.elim fun J7 q7=>?_) (fun _ _ z=>z.elim);have again:∀{s9:Shared}{H9:Hp}{m':Nat},Inv (cp X (own++aW) sc s3 H3 C fp) ([]++sX fp s2.heap) σ6 H9 s9->m'<n->W (i+1) m' σ6 H9 ->
     ∃m,m<n/\∃i σ' H',Inv (cp X (own++aW) sc s3 H3 C fp) [] σ' H' s9/\tn i s9.heap/\(∀b∈fp,H' b=none)/\W i m σ' H':=fun {s9 H9 m'} J9 hm w9=>by
     refine⟨m',hm,i+1,σ6,H9,J9.unpinned,T.keep _ _ _ pd fun b hb o e=>(J9.pin (b,o) (ie _ (ie _ (wN hb e)))).1,fun b hb=>?_,w9⟩;obtain⟨o,e,d⟩:=T.obj _ _ pd b hb;exact(J9.pin (b,o) (ie _ (ie _ (wN hb e)))).2.1
    cases ok with
    | false=>
     rw[ap cr]at q7 ⊢;obtain⟨m',hm,w7⟩:=q7;exact again J7 hm w7
    | true=>
     rw[aB rfl]at q7 ⊢;refine ej (he _ s7 σ6 H7 _ J7 q7) (fun y s8 WE=>WE.elim fun yv WF=>WF.elim fun H8 WG=>WG.elim fun J8 WH=>WH.elim fun r8 WI=>WI.elim fun ys WJ=>WJ.elim fun q0 WK=>WK.elim fun hz WL=>WL.elim fun m' WM=>WM.elim fun hm w8=>?_) (fun _ _ z=>z.elim);refine ej (tE (X:=cp X (own++aW) sc s3 H3 C fp) _ s8 σ6 H8 (.ref D) [yv] (.ref D) [y] (fun v H9=>H9=al H8 D (.lst (ys++[yv]))) J8 rfl (.cons r8 .nil) ⟨D,ys,yv,rfl,rfl,q0,hz,rfl⟩) (fun _ s9 WN=>WN.elim fun _ WO=>WO.elim fun H9 WP=>WP.elim fun J9 WQ=>WQ.elim fun _ eH=>?_) (fun _ _ z=>z.elim);subst eH;exact again J9 hm w8
 exact codeAny_compStart_list loop (T.self X.A 0 _ _ _ Gb loop)
theorem Gd{elt tg iter:Expr}{ifs:List Expr}{sc:Scope}{pos:Pos}{own aW:Ls}{js:List Nat}{g:TG}{tt:TT}{te:TE}{it:Addr}{fp:List Addr}{tn:Nat->Heap->Prop}{J:It}{H2:Hp}{s2:Shared}{use:Option (Value->Sem Unit)}{Qr:VP}{Er:VP}
 {Q:V->Hp->Prop} (S:iZ X own aW js sc) (hc:X.calm=true) (I2:Inv X pins σ H2 s2) (T:o9 X.prog X.w X.K tg J fp it tn) (ni:tn 0 s2.heap) (f2:∀b∈fp,jM X pins H2 b)
 (hg:∀s₀ H₀ C ex,PG (cp X (own++aW) sc s₀ H₀ C ex) tg g) (ht:∀s₀ H₀ C ex,gB (cp X (own++aW) sc s₀ H₀ C ex) ifs tt) (he:∀s₀ H₀ C ex,PE (cp X (own++aW) sc s₀ H₀ C ex) elt te)
 (q2:∀D,H2 D=none->∃W:Nat->Nat->St->Hp->Prop,(∃m,W 0 m (compStart own.length js σ) (al H2 D (.lst [])))/\jX J g tt te D (fun H'=>Q (.ref D) H') W)
 (fin:∀(D C:Addr) (H':Hp) (s':Shared) (m':Mv),s2.heap.objs.size<C->s'.heap.Ns C m'->Inv X pins σ H' s'->H' C=none->Q (.ref D) H'->compPost (model X.prog X.w) X.A Er use Qr (.ref D) C (.ok .next) s') :
 wpAny (model X.prog X.w) X.A (newList []) (fun acc s₃=>wpAny (model X.prog X.w) X.A (newFunctionEnv sc X.env.globals (gi X.env sc.names []) [] X.env.qual none .none (some X.env)) (fun Ge s₄=>
  codeAny (model X.prog X.w) X.A (.compStart (.ListComp elt [⟨tg,iter,ifs,0⟩] sc pos) 0 (.ref it) acc { Ge with scope:=relabel sc X.env }) (compPost (model X.prog X.w) X.A Er use Qr acc Ge.locals) s₄) Er s₃) Er s2:=by
 have xm:H2 s2.heap.objs.size=none:=I2.fresh;obtain⟨W,⟨m0,w0⟩,ask⟩:=q2 _ xm;have I3:=I2.lnew (ys:=[]) (its:=[]) (t':=s2.toks) .nil (fQ _);have xj:∀b∈fp,b<s2.heap.objs.size:=fun b hb=>by
  obtain⟨o,e,_⟩:=T.obj 0 _ ni b hb;exact bn e
 have f3:∀b∈fp,jM X pins (al H2 s2.heap.objs.size (.lst [])) b:=fun b hb=>by
  refine⟨?_,(f2 b hb).2⟩;rw[bc (ck (xj b hb))];exact(f2 b hb).1
 refine qG (hd:=by size_fits) (wpAny_newFunctionEnv S.nocell (by intro y hy;simp at hy) (fun h4 lS Gf=>?_) S.kind);dsimp only at lS Gf ⊢;have WR:∀b o,(s2.heap.push { cls:=.type "list",dict:=none,data:=.seq ([]:Lw).toArray }).get? b=some o->h4.get? b=some o:=fun b o e=>
  Gf.extBut b o (ck (bn e)) (bS _ e)
 have pb:tn 0 (s2.heap.push { cls:=.type "list",dict:=none,data:=.seq ([]:Lw).toArray }):=T.keep 0 _ _ ni fun b _ o e=>bS _ e;refine qF (Wl (s3:={ s2 with heap:=s2.heap.push { cls:=.type "list",dict:=none,data:=.seq ([]:Lw).toArray } }) (tk:=s2.toks+([]:List (Str×Value)).length) S hc I3 T pb f3 rfl lS WR (hg _ _ _ _) (ht _ _ _ _) (he _ _ _ _) w0 ask) fun r s' hr=>?_;obtain⟨er,m',H',kF,AF,WS,WT,A7,tL,qd⟩:=hr;subst er;have WU:Un (ij X.stack) fp H2 (al H2 s2.heap.objs.size (.lst [])) s2.heap (s2.heap.push { cls:=.type "list",dict:=none,data:=.seq ([]:Lw).toArray }):=Un.laid (fun b o e=>bS _ e) (aS _) xm;refine fin _ _ H' s' m' ?_ kF (I2.call' (s':=s') (ch:=fp) AF (WU.trans WT) A7 WS (fun b hb=>⟨(f2 b hb).2.2.2.1,(f2 b hb).2.1,(f2 b hb).2.2.2.2.1,(f2 b hb).2.2.2.2.2⟩)) tL qd;show s2.heap.objs.size<(s2.heap.push { cls:=.type "list",dict:=none,data:=.seq ([]:Lw).toArray }).objs.size;rw[mZ];exact wc _
theorem Inv.letGo{H:Hp}{s:Shared}{C:Addr}{h':Heap}(I:Inv X pins σ H s)(sb:Heap.SameBut C s.heap h')(hn:H C=none)(h0:X.s₀.heap.objs.size<=C)(h1:C≠X.env.locals)(h2:∀x c,X.env.cells.lookup x=some c->c≠C)(h3:∀p∈X.pn++pins,p.1≠C) :
 Inv X pins σ H { s with heap:=h' }:=by
 refine I.call' (s':={ s with heap:=h' }) (ch:=[C]) rfl ⟨fun b o e _ _ hb=>?_,fun b o e _ _ hb=>⟨o.slots,?_⟩,fun _ _ _ n _=>n,fun b o e hb=>⟨o,?_⟩,fun _ _ q=>q,fun _ _ _ q=>q,fun _ ps q=>⟨#[],by rw[q];simp⟩⟩ (Wj I.hok sb hn) I.bare (fun b hb=>?_)
 . exact(sb.2 b (by simpa using hb)).trans e
 . exact(sb.2 b (by simpa using hb)).trans e
 . exact(sb.2 b (by simpa using hb)).trans e
 . have:b=C:=by simpa using hb
   subst this;exact⟨.inr h0,h1,h2,h3⟩
theorem Inv.goes{H2 H:Hp}{s2 s:Shared}{σ':St}{C:Addr}{h':Heap}(I2:Inv X pins σ' H2 s2)(hC:s2.heap.objs.size<C)(I:Inv X pins σ H s)(sb:Heap.SameBut C s.heap h')(hn:H C=none):Inv X pins σ H { s with heap:=h' }:=by
 refine I.letGo sb hn (iR (LB I2.sz hC)) (oV (wj I2.lt hC)) (fun x c e z=>?_) (fun p hp z=>?_)
 . obtain⟨v,q⟩:=I2.cell x c e;exact absurd (wj q.lt hC) (by rw[z];exact lm _)
 . exact absurd (wj (bn (I2.pin p hp).1) hC) (by rw[z];exact lm _)
theorem iZ.clos{own aW:Ls}{js:List Nat}{sc:Scope}(S:iZ X own aW js sc)(ok:X.Ok):closureFor sc X.env=pure (gi X.env sc.names []):=
 Wk fun y hy e=>ok.has _ (.inl (S.outer _ (S.frees y hy e)))
theorem fA{elt tg iter:Expr}{ifs:List Expr}{sc:Scope}{pos:Pos}(own aW:Ls)(js:List Nat){wi:TI}{g:TG}{tt:TT}{te:TE}(S:iZ X own aW js sc)(hc:X.calm=true)(hi:PI X tg iter wi)
 (hg:∀s₀ H₀ C ex,PG (cp X (own++aW) sc s₀ H₀ C ex) tg g) (ht:∀s₀ H₀ C ex,gB (cp X (own++aW) sc s₀ H₀ C ex) ifs tt) (he:∀s₀ H₀ C ex,PE (cp X (own++aW) sc s₀ H₀ C ex) elt te)
 (hs:∀x,foldedSetIterable iter X.env x=pure x:=by intro _;rfl):PE X (.ListComp elt [⟨tg,iter,ifs,0⟩] sc pos) (Bh wi own.length js g tt te):=by
 intro pins s σ H Q I h;rw[eval_ListComp];refine agz (use:=none) rfl hs (S.clos I.ok) S.kind S.names (thn (hi pins s σ H _ I h) fun v s1 h1=>thn h1 fun wM s2 h2=>?_);obtain⟨it,fp,tn,J,H2,e,I2,T,ni,f2,q2⟩:=h2;subst e;refine Gd (Q:=Q) S hc I2 T ni f2 hg ht he q2 fun D C H' s' m' hC kF I' tL qd=>?_;exact⟨m',kF,fun h' sb=>⟨.ref D,H',I2.goes hC I' sb tL,rfl,qd⟩⟩
theorem jY{i:Nat}{x:Str}{elt tg iter:Expr}{ifs:List Expr}{sc:Scope}{pos px ps:Pos}(own aW:Ls)(js:List Nat){wi:TI}{g:TG}{tt:TT}{te:TE}(hN:X.N.Nodup)(hx:X.N[i]?=some x)(hl:X.env.scope.names.lookup x=some .local)(S:iZ X own aW js sc)(hc:X.calm=true)
 (hi:PI X tg iter wi) (hg:∀s₀ H₀ C ex,PG (cp X (own++aW) sc s₀ H₀ C ex) tg g) (ht:∀s₀ H₀ C ex,gB (cp X (own++aW) sc s₀ H₀ C ex) ifs tt) (he:∀s₀ H₀ C ex,PE (cp X (own++aW) sc s₀ H₀ C ex) elt te)
 (WV:swapsWith (.ListComp elt [⟨tg,iter,ifs,0⟩] sc pos) (some (.Name x px)) ps.line X.env=pure true:=by rfl)
 (hs:∀x,foldedSetIterable iter X.env x=pure x:=by intro _;rfl):PS X (.Assign [.Name x px] (.ListComp elt [⟨tg,iter,ifs,0⟩] sc pos) ps) (Aq (Bh wi own.length js g tt te) (ng i)):=by
 intro pins s σ H D I h;rw[exec_Assign_Name_used _ _ _ _ WV];refine ai (wpAny_standAt (ai ?_));show wpAny _ X.A (do let _ ←comprehension (.ListComp elt [⟨tg,iter,ifs,0⟩] sc pos) sc X.env _ (newList []) false (eval iter X.env) (some (assign (.Name x px) X.env))) _ _ s;refine ai (ej (agz (use:=some (assign (.Name x px) X.env)) (Q:=fun _ s'=>∃σ' H',Inv X pins σ' H' s'/\D.nx σ' H') rfl hs (S.clos I.ok) S.kind S.names
  (thn (hi pins s σ H _ I h) fun v s1 h1=>thn h1 fun wM s2 h2=>?_)) (fun _ s' hq=>aw (aw hq)) fun _ _ e=>e)
 obtain⟨it,fp,tn,J,H2,e,I2,T,ni,f2,q2⟩:=h2;subst e;refine Gd (Q:=fun v H1=>ng i v σ H1 D.nx) S hc I2 T ni f2 hg ht he q2 fun D' C H' s' m' hC kF I' tL qd=>?_;show wpAny _ X.A (assign (.Name x px) X.env (.ref D')) _ _ s';refine wpAny_assign_Name (E2 (v:=.ref D') I' hN hx (.inl hl) rfl (fun wW WW WX=>WX.elim fun a WY=>WY.elim fun sb ha=>?_) (.inr hl));have ne:C≠a:=by
  rcases ha with z | z
  . rw[z];exact oV (wj I2.lt hC)
  . obtain⟨v,q⟩:=I2.cell x a z;exact oV (wj q.lt hC)
 exact⟨m',kF.sameBut sb ne,fun h' WZ=>⟨_,H',I2.goes hC WW WZ tL,qd⟩⟩
end
section
variable {X:Cx}{e k:Expr}{te tk:TE}{pos p2:Pos}
end
section
variable {X:Cx}{a b c d:Expr}{ta tb tc td:TE}{pos:Pos}
end
abbrev gU (H:Hp) (o:HO) (Q:V->Hp->Prop):Prop:=∀p H',H p=none->af H H'->H' p=some o->Q (.ref p) H'
theorem gU.at{H:Hp}{o:HO}{Q:V->Hp->Prop}(h:gU H o Q):∀p,H p=none->Q (.ref p) (al H p o):=fun p hp=>h p _ hp (jV hp) bf
theorem bI.weak{X:Cx}{f:Value->Value->Sem Value}{r r':R2}(h:bI X f r)(w:∀x y H Q,r' x y H Q->r x y H Q):bI X f r':=fun pins s σ H x y v u Q I rx ry q=>h pins s σ H x y v u Q I rx ry (w _ _ _ _ q)
theorem gy.weak{X:Cx}{f:Value}{r r':Lv->Hp->VK->Prop}(h:gy X f r)(w:∀xs H Q,r' xs H Q->r xs H Q):gy X f r':=fun pins s σ H xs us Q I rx q=>h pins s σ H xs us Q I rx (w _ _ _ q)
theorem qT.weak{X:Cx}{r r':V->Option Int->Option Int->Hp->VK->Prop}(h:qT X r)(w:∀x l u H Q,r' x l u H Q->r x l u H Q):qT X r':=fun pins s σ H x v vl vu lo hi sl Q I rx hs pl pu q=>h pins s σ H x v vl vu lo hi sl Q I rx hs pl pu (w _ _ _ _ _ q)
section
variable {X:Cx}{e k:Expr}{es:List Expr}{te tk:TE}{t:TA}{pos p2:Pos}
def W0:R2:=fun x y H Q=>∃l b xs zs,x=.ref l/\y=.ref b/\H l=some (.lst xs)/\H b=some (.lst zs)/\xs.length+zs.length<=sizeLine/\gU H (.lst (xs++zs)) Q
theorem iu:bI X (binaryOp .Add) W0:=Tn.weak fun x y H Q W1=>W1.elim fun l W2=>W2.elim fun b W3=>W3.elim fun xs W4=>W4.elim fun zs W5=>W5.elim fun a1 W6=>W6.elim fun a2 W7=>W7.elim fun a3 W8=>W8.elim fun a4 W9=>W9.elim fun a5 a6=>⟨l,b,xs,zs,a1,a2,a3,a4,a5,a6.at⟩
def Xa(K:Fg):V->Option Int->Option Int->Hp->VK->Prop:=fun x lo hi H Q=>∃a xs,x=.ref a/\ah K H a xs/\gU H (.lst (lL xs lo hi)) Q
theorem pD:qT X (Xa X.K):=SE.weak fun x l u H Q Xb=>Xb.elim fun a Xc=>Xc.elim fun xs Xd=>Xd.elim fun a1 Xe=>Xe.elim fun a2 a3=>⟨a,xs,a1,a2,a3.at⟩
theorem pE:gy X (.type "list") (fun xs H Q=>∃p ys,xs=[.ref p]/\(ah X.K H p ys\/ak X.K H p ys)/\gU H (.lst ys) Q):=tD.weak fun xs H Q Xf=>Xf.elim fun p Xg=>Xg.elim fun ys Xh=>Xh.elim fun a1 Xi=>Xi.elim fun a2 a3=>⟨p,ys,a1,a2,a3.at⟩
def Xj(t:TA):TE:=fun σ H Q=>t σ H fun xs H1=>xs.length<=sizeLine/\gU H1 (.tup xs) Q
def Xk(t:TA):TE:=fun σ H Q=>t σ H fun xs H1=>xs.length<=sizeLine/\gU H1 (.lst xs) Q
theorem PA.thn{t:TA}(h:PA X es t){A:Hp->Prop}{F:VK->Lv->Hp->Prop}{G:VK->Lv->Hp->Prop}(w:∀Q xs H,F Q xs H->G Q xs H):PA X es (fun σ H R=>∃Q:VK,t σ H (F Q)/\R=G Q):=by
 intro pos pins s σ H R I ⟨Q,q,e⟩;subst e;exact L2.thn (h pos pins s σ H _ I q) fun us s1 Xl=>Xl.elim fun vs Xm=>Xm.elim fun H1 Xn=>Xn.elim fun I1 Xo=>Xo.elim fun r1 q1=>⟨vs,H1,I1,r1,w _ _ _ q1⟩
theorem br{x1}(h:PA X es t):PE X (.Tuple es x1 pos) (Xj t):=by
 intro pins s σ H Q I q;exact Fu (PA.thn (A:=fun _=>True) (F:=fun Q xs H1=>xs.length<=sizeLine/\gU H1 (.tup xs) Q) (G:=fun Q xs H1=>xs.length<=sizeLine/\∀p,H1 p=none->Q (.ref p) (al H1 p (.tup xs))) h (fun Q xs H Xp=>Xp.elim fun a b=>⟨a,b.at⟩)) pins s σ H Q I ⟨Q,q,rfl⟩
theorem cG(h:PA X es t):PE X (.List es pos) (Xk t):=by
 intro pins s σ H Q I q;exact Ra (PA.thn (A:=fun _=>True) (F:=fun Q xs H1=>xs.length<=sizeLine/\gU H1 (.lst xs) Q) (G:=fun Q xs H1=>xs.length<=sizeLine/\∀p,H1 p=none->Q (.ref p) (al H1 p (.lst xs))) h (fun Q xs H Xq=>Xq.elim fun a b=>⟨a,b.at⟩)) pins s σ H Q I ⟨Q,q,rfl⟩
end
section
variable {g:TG}{tt:TT}{te:TE}{H1:Hp}{Q:Addr->Hp->Prop}
theorem Gg{lo:Int}{n:Nat}{σ0:St}(S:St->Prop)(P:Nat->Lv->Hp->Prop)(s0:S σ0)(st:∀D,H1 D=none->P 0 [] (al H1 D (.lst [])))
 (turn:∀D i ys σ H (k:St->V->Hp->Prop) (k':St->Hp->Prop),H1 D=none->i<n->S σ->H D=some (.lst ys)->af H1 H->P i ys H ->
  (∀σ3 y H5,S σ3->af H H5->ys.length<sizeLine->P (i+1) (ys++[y]) (al H5 D (.lst (ys++[y])))->k σ3 y H5)->(∀σ3 H4,S σ3->af H H4->P (i+1) ys H4->k' σ3 H4) ->
  g (.int (lo+i)) σ H fun σ3 H3=>tt σ3 H3 fun ok H4=>if ok=true then te σ3 H4 (k σ3) else k' σ3 H4)
 (done:∀D ys H,H1 D=none->H D=some (.lst ys)->af H1 H->P n ys H->Q D H) :
 ∀D,H1 D=none->∃W:Nat->Nat->St->Hp->Prop,(∃m,W 0 m σ0 (al H1 D (.lst [])))/\jX (nh lo n) g tt te D (fun H'=>Q D H') W:=by
 intro D hD;refine⟨fun i m σ H=>m=n - i/\i<=n/\S σ/\∃ys,H D=some (.lst ys)/\af H1 H/\P i ys H,⟨n,by simp,fQ _,s0,[],bf,jV hD,st D hD⟩,?_⟩;rintro i m σ H ⟨rfl,hi,hS,ys,hd,hs,hp⟩
 by_cases aR:i<n
 . refine .inr ⟨aR,fun x H2 hy=>?_⟩;obtain⟨e1,e2⟩:=hy;subst e1 e2;exact turn D i ys σ _ (fun σ3 y H5=>∃ys,H5 D=some (.lst ys)/\ys.length<sizeLine/\∃m',m'<n - i/\(m'=n - (i+1)/\i+1<=n/\S σ3/\∃zs,al H5 D (.lst (ys++[y])) D=some (.lst zs)/\af H1 (al H5 D (.lst (ys++[y])))/\P (i+1) zs (al H5 D (.lst (ys++[y])))))
    (fun σ3 H4=>∃m',m'<n - i/\(m'=n - (i+1)/\i+1<=n/\S σ3/\∃zs,H4 D=some (.lst zs)/\af H1 H4/\P (i+1) zs H4)) hD aR hS hd hs hp
    (fun σ3 y H5 a1 a2 a3 a4=>⟨ys,a2 _ _ hd,a3,n - (i+1),by omega,rfl,aR,a1,ys++[y],bf,lT (hs.trans a2) hD,a4⟩)
    (fun σ3 H4 a1 a2 a3=>⟨n - (i+1),by omega,rfl,aR,a1,ys,a2 _ _ hd,hs.trans a2,a3⟩)
 . have e:i=n:=by omega
   subst e;exact .inl ⟨aS _,done D ys H hD hd hs hp⟩
theorem Xr{K:Fg}{a:Addr}{xs:Lv}{σ0:St}(hx:ah K H1 a xs)(S:St->Prop)(P:Nat->Lv->Hp->Prop)(s0:S σ0)(st:∀D,H1 D=none->P 0 [] (al H1 D (.lst [])))
 (turn:∀D i x ys σ H (k:St->V->Hp->Prop) (k':St->Hp->Prop),H1 D=none->xs[i]?=some x->S σ->H D=some (.lst ys)->af H1 H->P i ys H ->
  (∀σ3 y H5,S σ3->af H H5->ys.length<sizeLine->P (i+1) (ys++[y]) (al H5 D (.lst (ys++[y])))->k σ3 y H5)->(∀σ3 H4,S σ3->af H H4->P (i+1) ys H4->k' σ3 H4) ->
  g x σ H fun σ3 H3=>tt σ3 H3 fun ok H4=>if ok=true then te σ3 H4 (k σ3) else k' σ3 H4)
 (done:∀D ys H,H1 D=none->H D=some (.lst ys)->af H1 H->P xs.length ys H->Q D H) :
 ∀D,H1 D=none->∃W:Nat->Nat->St->Hp->Prop,(∃m,W 0 m σ0 (al H1 D (.lst [])))/\jX (kG K a) g tt te D (fun H'=>Q D H') W:=by
 intro D hD;refine⟨fun i m σ H=>m=xs.length - i/\i<=xs.length/\S σ/\∃ys,H D=some (.lst ys)/\af H1 H/\P i ys H,⟨xs.length,by simp,fQ _,s0,[],bf,jV hD,st D hD⟩,?_⟩;rintro i m σ H ⟨rfl,hi,hS,ys,hd,hs,hp⟩;have q:ah K H a xs:=af.seq hs hx
 by_cases aR:i<xs.length
 . refine .inr ⟨⟨xs,xs[i],q,by simp[aR]⟩,fun x H2 hy=>?_⟩;obtain⟨e1,e2⟩:=hy;subst e1;exact turn D i x ys σ _ (fun σ3 y H5=>∃ys,H5 D=some (.lst ys)/\ys.length<sizeLine/\∃m',m'<xs.length - i/\(m'=xs.length - (i+1)/\i+1<=xs.length/\S σ3/\∃zs,al H5 D (.lst (ys++[y])) D=some (.lst zs)/\af H1 (al H5 D (.lst (ys++[y])))/\P (i+1) zs (al H5 D (.lst (ys++[y])))))
    (fun σ3 H4=>∃m',m'<xs.length - i/\(m'=xs.length - (i+1)/\i+1<=xs.length/\S σ3/\∃zs,H4 D=some (.lst zs)/\af H1 H4/\P (i+1) zs H4)) hD (e2 xs q) hS hd hs hp
    (fun σ3 y H5 a1 a2 a3 a4=>⟨ys,a2 _ _ hd,a3,xs.length - (i+1),by omega,rfl,aR,a1,ys++[y],bf,lT (hs.trans a2) hD,a4⟩)
    (fun σ3 H4 a1 a2 a3=>⟨xs.length - (i+1),by omega,rfl,aR,a1,ys,a2 _ _ hd,hs.trans a2,a3⟩)
 . have e:i=xs.length:=by omega
   subst e;exact .inl ⟨⟨xs,q,aS _⟩,done D ys H hD hd hs hp⟩
theorem nr{lo:Int}{n:Nat}{σ0:St}(S:St->Prop)(P:Nat->Lv->Hp->Prop)(s0:S σ0)(st:∀D,H1 D=none->P 0 [] (al H1 D (.lst [])))
 (turn:∀D i ys σ H (k:St->V->Hp->Prop),H1 D=none->i<n->S σ->H D=some (.lst ys)->af H1 H->P i ys H ->
  (∀σ3 y H5,S σ3->af H H5->ys.length<sizeLine->P (i+1) (ys++[y]) (al H5 D (.lst (ys++[y])))->k σ3 y H5)->g (.int (lo+i)) σ H fun σ3 H3=>te σ3 H3 (k σ3))
 (done:∀D ys H,H1 D=none->H D=some (.lst ys)->af H1 H->P n ys H->Q D H) :
 ∀D,H1 D=none->∃W:Nat->Nat->St->Hp->Prop,(∃m,W 0 m σ0 (al H1 D (.lst [])))/\jX (nh lo n) g pC te D (fun H'=>Q D H') W:=
 Gg S P s0 st (fun D i ys σ H k k' a1 a2 a3 a4 a5 a6 a7 _=>turn D i ys σ H k a1 a2 a3 a4 a5 a6 a7) done
theorem Xs{K:Fg}{a:Addr}{xs:Lv}{σ0:St}(hx:ah K H1 a xs)(S:St->Prop)(P:Nat->Lv->Hp->Prop)(s0:S σ0)(st:∀D,H1 D=none->P 0 [] (al H1 D (.lst [])))
 (turn:∀D i x ys σ H (k:St->V->Hp->Prop),H1 D=none->xs[i]?=some x->S σ->H D=some (.lst ys)->af H1 H->P i ys H ->
  (∀σ3 y H5,S σ3->af H H5->ys.length<sizeLine->P (i+1) (ys++[y]) (al H5 D (.lst (ys++[y])))->k σ3 y H5)->g x σ H fun σ3 H3=>te σ3 H3 (k σ3))
 (done:∀D ys H,H1 D=none->H D=some (.lst ys)->af H1 H->P xs.length ys H->Q D H) :
 ∀D,H1 D=none->∃W:Nat->Nat->St->Hp->Prop,(∃m,W 0 m σ0 (al H1 D (.lst [])))/\jX (kG K a) g pC te D (fun H'=>Q D H') W:=
 Xr hx S P s0 st (fun D i x ys σ H k k' a1 a2 a3 a4 a5 a6 a7 _=>turn D i x ys σ H k a1 a2 a3 a4 a5 a6 a7) done
end
end L2
namespace Lcp
open PySem
end Lcp
namespace L2
open PySem PySem.Spec PyProof.Rows
def tM(xs:Ls)(lo hi:Option Int):Ls:=(xs.drop (HT.dG xs.length 0 lo)).take (HT.dG xs.length xs.length hi - HT.dG xs.length 0 lo)
theorem q8(xs:Ls)(lo hi:Option Int):lL (xs.map V.str) lo hi=(tM xs lo hi).map V.str:=by
 unfold lL tM;rw[aK,List.map_take,List.map_drop]
theorem tN{xs:Ls}{k:Int}(h:0<=k):tM xs none (some k)=xs.take k.toNat:=by
 obtain⟨n,rfl⟩:∃n:Nat,k=n:=⟨k.toNat,by omega⟩;unfold tM;rw[HT.R8,HT.AN,List.drop_zero,Nat.sub_zero];exact List.take_eq_take_iff.mpr (by simp)
theorem nt{xs:Ls}{r:Int}(h0:0<=r)(h1:r<xs.length):∃z,aM (xs.map V.str) r=some (V.str z)/\xs[r.toNat]?=some z:=by
 obtain⟨v,e,e2⟩:=qZ (xs:=xs.map V.str) h0 (by rw[aK];exact h1);rw[dq]at e2;cases q:xs[r.toNat]? with
 | none=>rw[q]at e2;cases e2
 | some z=>
  rw[q]at e2;cases e2;exact⟨z,e,rfl⟩
theorem Gh(xs:Ls)(y:Str):xs.map V.str++[V.str y]=(xs++[y]).map V.str:=by rw[eA];rfl
theorem iw{n:Nat}(h:n<=1000):n<=sizeLine:=iR (bq h)
end L2
namespace Lcp
open PySem L2
end Lcp
namespace L2
open PySem PySem.Spec PyProof.Rows Lcp
end L2
namespace L2
open PySem PySem.Spec PyProof.Rows
section
variable {X:Cx}
end
section
variable {X:Cx}{K:Fg}
theorem xn(K:Fg)(h:X.K=K:=by rfl):qV X (FI K):=h▸dh
theorem cK(K:Fg)(h:X.K=K:=by rfl):qV X (FJ K):=h▸aQ
end
end L2
namespace Lcp
open PySem L2
end Lcp
namespace L2
open PySem PySem.Spec PyProof.Rows
section
variable {X:Cx}{pins:Po}{σ:St}{H:Hp}{s:Shared}
theorem Inv.rehp{H':Hp}(I:Inv X pins σ H s)(h0:∀b,H b=none->H' b=none)(ht:∀b xs,H b=some (.tup xs)->H' b=some (.tup xs))(hf:∀b o u,X.H₀ b=some (.frz o u)->H' b=some (.frz o u))
 (hb:∀b ps,H b=some (.tbl ps)->H' b=some (.tbl ps)) (hok:bY X.prog X.w H' s.heap):Inv X pins σ H' s:=
 ⟨I.ok,I.os,I.bare,⟨I.base.keep,I.base.slot,fun b o e n hx=>h0 b (I.base.free b o e n hx),I.base.there,fun b xs e=>ht b xs (I.base.tups b xs e),hf,fun b ps e=>(I.base.tbls b ps e).elim fun m q=>⟨m,hb _ _ q⟩⟩,I.loc,I.cell,h0 _ I.free,
  fun x c e=>h0 _ (I.freeC x c e),fun p hp=>⟨(I.pin p hp).1,h0 _ (I.pin p hp).2.1,(I.pin p hp).2.2⟩,hok,I.len⟩
theorem Inv.track{a:Addr}{o:HO}(I:Inv X pins σ H s)(hn:H a=none)(h0:X.s₀.heap.objs.size<=a)(h1:a≠X.env.locals)(h2:∀x c,X.env.cells.lookup x=some c->c≠a)(h3:∀p∈X.pn++pins,p.1≠a)
 (new:bX X.prog X.w (al H a o) s.heap a o):Inv X pins σ (al H a o) s:=by
 have up:∀{c:Addr}{w:HO},H c=some w->al H a o c=some w:=fun {c w} hc=>by rw[bc (bF hc hn)];exact hc
 refine⟨I.ok,I.os,I.bare,⟨I.base.keep,I.base.slot,fun b ob e n hx=>?_,I.base.there,fun b xs e=>up (I.base.tups b xs e),fun b o' u e=>up (I.base.frzs b o' u e),fun b ps e=>(I.base.tbls b ps e).elim fun m q=>⟨m,up q⟩⟩,I.loc,I.cell,?_,fun x c e=>?_,
  fun p hp=>⟨(I.pin p hp).1,?_,(I.pin p hp).2.2⟩,fun b u q=>?_,I.len⟩
 . rw[bc (ck (fO (bn e) h0))];exact I.base.free b ob e n hx
 . rw[bc (gM h1)];exact I.free
 . rw[bc (h2 x c e)];exact I.freeC x c e
 . rw[bc (h3 p hp)];exact(I.pin p hp).2.1
 . by_cases z:b=a
   . subst z;rw[bf]at q;cases q;exact new
   . rw[bc z]at q;exact(I.hok b _ q).stay (fun _ _ _ q=>q) (fun c hc=>up hc) fun c xs hc=>up hc
end
section
variable {X:Cx}
theorem xo:gy X (.type "dict") (fun xs H Q=>∃a ab,xs=[.ref a]/\H a=some (.dK ab)/\gU H (.dK ab) Q):=by
 intro pins s σ H xs us Q I r h;obtain⟨a,ab,rfl,e,q⟩:=h;obtain⟨u,rfl,ru⟩:=vals1 r;cases ru;exact VQ I (.inl e) fun p s' hp I'=>⟨.ref p,_,I',rfl,q.at p hp⟩
end
theorem Gi:∀{us:Lw}{ys:Ls},StrsAre us ys->aU (ys.map V.str) us
 | _,_,.nil=>.nil
 | _,_,.cons x t r=>.cons ⟨t,rfl⟩ (Gi r)
section
variable {prog:Program}{w:World}{A:Around}{E:VP}{s:Shared}
end
section
variable {X:Cx}
theorem Xt{pins:Po}{σ:St}{H:Hp}{s:Shared}{h' h2:Heap}{tk e:Nat}{out:Lw}{bt:Ls}(I:Inv X pins σ H { s with heap:=h',toks:=tk })(k:∀b o,h'.get? b=some o->h2.get? b=some o)
 (he:h2.get? h'.objs.size=some (seqObj "list" out.toArray e)) (hS:StrsAre out bt) (hl:bt.length<=sizeLine):Inv X pins σ (al H h'.objs.size (.lst (bt.map V.str))) { s with heap:=h2,toks:=tk }:=
 I.laid (s:={ s with heap:=h',toks:=tk }) (t':=tk) k (aS _) ⟨by rw[aK];exact hl,out,e,Gi hS,he⟩
end
def Bj(o:Obj):Nat:=match o.data with
 | .dict _ ep=>ep
 | _=>0
section
variable {X:Cx}
theorem PE.weak{e:Expr}{t:TE}(h:PE X e t):PE X e (fun σ H Q=>∃Q':VK,t σ H Q'/\∀v H,Q' v H->Q v H):=by
 intro pins s σ H Q I ⟨Q',q,w⟩;exact L2.thn (h pins s σ H _ I q) fun u s1 Xu=>Xu.elim fun v Xv=>Xv.elim fun H1 Xw=>Xw.elim fun I1 Xx=>Xx.elim fun r1 q1=>⟨v,H1,I1,r1,w _ _ q1⟩
end
theorem xp:Slot "set_iterator" "__next__" "set_iterator.__next__":=
 .of (owner:="set_iterator") (n:="__next__") (by rw[LC,LD];kernel_rfl) (by decide +kernel) (by decide +kernel) (by decide +kernel)
  (by first | exact .inl (by decide +kernel) | exact .inr (by decide +kernel)) (by rw[LF];kernel_rfl)
theorem Gj:Slot "set_iterator" "__iter__" "set_iterator.__iter__":=
 .of (owner:="set_iterator") (n:="__iter__") (by rw[LC,LD];kernel_rfl) (by decide +kernel) (by decide +kernel) (by decide +kernel)
  (by first | exact .inl (by decide +kernel) | exact .inr (by decide +kernel)) (by rw[LF];kernel_rfl)
theorem Xy:entryFor table "set_iterator.__next__"=some Builtin.«set_iterator.__next__»:=entryFor_of_tree (by kernel_rfl)
theorem Xz:entryFor table "set_iterator.__iter__"=some Builtin.«dict_keyiterator.__iter__»:=entryFor_alias (id':="dict_keyiterator.__iter__") (by kernel_rfl) rfl (by decide +kernel) (by kernel_rfl)
theorem XA:entryFor table "set.__iter__"=some Builtin.«frozenset.__iter__»:=entryFor_alias (id':="frozenset.__iter__") (by kernel_rfl) rfl (by decide +kernel) (by kernel_rfl)
theorem Gk:Manifest.owners.lookup (String.ofList ['r','o','t','a','r','e','t','i','_','t','e','s'].reverse)=some Manifest.sig_set_iterator:=by kernel_rfl
theorem XB(a:Value):argsOk "set_iterator.__next__" ⟨[a],[]⟩:=by
 unfold argsOk;rw[signature?_of (id:="set_iterator.__next__") (n:=['_','_','t','x','e','n','_','_']) (o:=['r','o','t','a','r','e','t','i','_','t','e','s']) (by kernel_rfl) Gk];kernel_rfl
theorem XC(a:Value):argsOk "set_iterator.__iter__" ⟨[a],[]⟩:=by
 unfold argsOk;rw[signature?_of (id:="set_iterator.__iter__") (n:=['_','_','r','e','t','i','_','_']) (o:=['r','o','t','a','r','e','t','i','_','t','e','s']) (by kernel_rfl) Gk];kernel_rfl
section
variable {prog:Program}{w:World}{A:Around}{E:VP}{s:Shared}{a it:Addr}{ep:Nat}{t:SetTable}
theorem XD:typeLookup (.type "set") "__len__"=pure (some (.builtin "set.__len__")):=by rw[LC,LD];kernel_rfl
theorem XE{Q:Bool->Shared->Prop}(hT:s.TypeIs (.ref a) "set")(h:Q false s):wpAny (model prog w) A (Builtin.List.listLengthHint (.ref a)) Q E s:=by
 unfold Builtin.List.listLengthHint;refine ai (v7 hT XD ?_);generalize Gm:("set.__len__":String)=id0
 wp_delta
 rw[show splitId id0=some ("set","__len__") from by subst Gm;decide +kernel];subst Gm;refine ai (qE (T:="set") (b:=true) hT (by rw[LF];kernel_rfl) ?_);refine LG (fun lC=>absurd lC (by decide)) (fun _=>?_);refine LG (fun _=>?_) (fun lC=>absurd (by decide +kernel) lC);refine ai (LH hT ?_);exact aw h
end
section
variable {X:Cx}
theorem pF{pos:Pos}:PE X (.Dict [] [] pos) (fun _ H Q=>gU H (.dK []) Q):=fun pins s σ H Q I h=>UJ pins s σ H Q I h.at
theorem XF{pos:Pos}:PE X (.Dict [] [] pos) (fun _ H Q=>gU H (.dT []) Q):=fun pins s σ H Q I h=>UK pins s σ H Q I h.at
theorem XG(K:Fg){e:Expr}{f:Str}{pos:Pos}{ta:TE}(he:PE X e ta)(hb:attributeBase e f X.env (eval e X.env)=eval e X.env)(h:X.K=K:=by rfl):PE X (.Attribute e f pos) (Fq K ta f):=h▸eG he hb
end
section
variable {X:Cx}
variable {e e1 e2:Expr}{te t1 t2:TE}{pos:Pos}
end
end L2
namespace L2
open PySem
theorem XH{X:Cx}{st:Stmt}{Go:List Stmt}{t u:TS}(h1:PS X st t)(h2:c7 X Go u):c7 X (st::Go) (fun D σ H=>∃P:St->Hp->Prop,t { D with nx:=P } σ H/\∀σ' H',P σ' H'->u D σ' H'):=by
 intro pins s σ H D I ⟨P,a,b⟩;exact Bb P h1 h2 pins s σ H D I ⟨a,b⟩
end L2
namespace L2
theorem lU{t1 t2:TS}{D:Ends}{σ:St}{H:Hp}(h:let d:=D;let s:=σ;let u2:=t2;aD t1 u2 d s H):aD t1 (t2) D σ H:=h
theorem nu{t1 t2 t3:TS}{D:Ends}{σ:St}{H:Hp}(h:let d:=D;let s:=σ;let u3:=t3;let u2:=aD t2 u3;aD t1 u2 d s H):aD t1 (aD t2 (t3)) D σ H:=h
theorem pG{t1 t2 t3 t4:TS}{D:Ends}{σ:St}{H:Hp}(h:let d:=D;let s:=σ;let u4:=t4;let u3:=aD t3 u4;let u2:=aD t2 u3;aD t1 u2 d s H):aD t1 (aD t2 (aD t3 (t4))) D σ H:=h
theorem tO{t1 t2 t3 t4 t5:TS}{D:Ends}{σ:St}{H:Hp}(h:let d:=D;let s:=σ;let u5:=t5;let u4:=aD t4 u5;let u3:=aD t3 u4;let u2:=aD t2 u3;aD t1 u2 d s H):aD t1 (aD t2 (aD t3 (aD t4 (t5)))) D σ H:=h
theorem XI{t1 t2 t3 t4 t5 t6:TS}{D:Ends}{σ:St}{H:Hp}(h:let d:=D;let s:=σ;let u6:=t6;let u5:=aD t5 u6;let u4:=aD t4 u5;let u3:=aD t3 u4;let u2:=aD t2 u3;aD t1 u2 d s H):aD t1 (aD t2 (aD t3 (aD t4 (aD t5 (t6))))) D σ H:=h
theorem Gp{t1 t2 t3 t4 t5 t6 t7:TS}{D:Ends}{σ:St}{H:Hp}(h:let d:=D;let s:=σ;let u7:=t7;let u6:=aD t6 u7;let u5:=aD t5 u6;let u4:=aD t4 u5;let u3:=aD t3 u4;let u2:=aD t2 u3;aD t1 u2 d s H):aD t1 (aD t2 (aD t3 (aD t4 (aD t5 (aD t6 (t7)))))) D σ H:=h
theorem XJ{t1 t2 t3 t4 t5 t6 t7 t8 t9:TS}{D:Ends}{σ:St}{H:Hp}(h:let d:=D;let s:=σ;let u9:=t9;let u8:=aD t8 u9;let u7:=aD t7 u8;let u6:=aD t6 u7;let u5:=aD t5 u6;let u4:=aD t4 u5;let u3:=aD t3 u4;let u2:=aD t2 u3;aD t1 u2 d s H):aD t1 (aD t2 (aD t3 (aD t4 (aD t5 (aD t6 (aD t7 (aD t8 (t9)))))))) D σ H:=h
theorem Gq{t1 t2 t3 t4 t5 t6 t7 t8 t9 tP:TS}{D:Ends}{σ:St}{H:Hp}(h:let d:=D;let s:=σ;let rc:=tP;let u9:=aD t9 rc;let u8:=aD t8 u9;let u7:=aD t7 u8;let u6:=aD t6 u7;let u5:=aD t5 u6;let u4:=aD t4 u5;let u3:=aD t3 u4;let u2:=aD t2 u3;aD t1 u2 d s H):aD t1 (aD t2 (aD t3 (aD t4 (aD t5 (aD t6 (aD t7 (aD t8 (aD t9 (tP))))))))) D σ H:=h
section
open PySem PySem.Spec PyProof.Rows
theorem bu{N P:Ls}{sc:Scope}(a:sc.kind=.function:=by rfl)(b:sc.isCoroutine=false:=by rfl)(c:sc.isGenerator=false:=by rfl)(d:N.Nodup:=by decide +kernel)(e:N.take P.length=P:=by rfl)(f:∀x∈P,sc.names.lookup x=some .local\/sc.names.lookup x=some .cell:=by decide +kernel)(g:∀y∈sc.names,y.2≠.free:=by decide +kernel):bo N P sc:=⟨a,b,c,d,e,f,g⟩
theorem cC{X:Cx}{own aW:Ls}{js:List Nat}{sc:Scope}(a:sc.kind=.function:=by rfl)(b:∀y∈sc.names,y.2≠.cell:=by decide +kernel)(c:∀y∈sc.names,y.2=.local->sc.names.lookup y.1=some .local:=by decide +kernel)(d:(own++aW).Nodup:=by decide +kernel)(e:∀y∈sc.names,y.2=.free->y.1∈aW:=by decide +kernel)(f:js.map (fun j=>X.N[j]?)=aW.map some:=by rfl)(g:aW.map X.env.kindOf=aW.map fun _=>some NameKind.cell:=by rfl)(h:aW.map (fun x=>(relabel sc X.env).names.lookup x)=aW.map fun _=>some NameKind.cell:=by rfl):iZ X own aW js sc:=⟨a,b,c,d,e,f,g,h⟩
theorem aj.okL{P:Program}{w:World}{K:Fg}{mg:Mv}{base:Heap}{x qual:Str}{st:Stmt}{f:Addr}{fd:Fy}{N ps:Ls}{k:Nat}{sp:Sp}(F:aj K x qual st f fd)(S:bo N ps (aO st))(hb:∀(aG:Value) (A:Around) (outer:List Env) (s:Shared) (H:Hp) (vs:Lv) (Q:VK) (E:XK),cW k (A.deeper (envOfC qual (aO st) s.heap.objs.size f aG))->sp vs H Q E->let y:=(py aq P w K mg base N qual (aO st) f aG A outer s H E).nox;let d:Ends:={ nx:=fun _ H'=>Q .non H',rt:=Q };∃t,c7 y (cF st) t/\t d (start N vs) H)(len:∀vs H Q E,sp vs H Q E->vs.length=ps.length:=by intro _ _ _ _ h;first | (obtain⟨_,rfl,_⟩:=h;rfl) | (obtain⟨_,_,rfl,_⟩:=h;rfl) | (obtain⟨_,_,_,rfl,_⟩:=h;rfl) | (obtain⟨_,_,_,_,rfl,_⟩:=h;rfl) | (obtain⟨_,_,_,_,_,rfl,_⟩:=h;rfl) | (obtain⟨_,_,_,_,_,_,rfl,_⟩:=h;rfl) | (obtain⟨_,_,_,_,_,_,_,rfl,_⟩:=h;rfl) | (obtain⟨_,_,_,_,_,_,_,_,rfl,_⟩:=h;rfl) | (obtain⟨_,_,_,_,_,_,_,_,_,rfl,_⟩:=h;rfl) | (obtain⟨_,_,_,_,_,_,_,_,_,_,rfl,_⟩:=h;rfl) | (obtain⟨_,_,_,_,_,_,_,_,_,_,_,rfl,_⟩:=h;rfl) | (obtain⟨_,_,_,_,_,_,_,_,_,_,_,_,rfl,_⟩:=h;rfl) | (obtain⟨_,_,_,_,_,_,_,_,_,_,_,_,_,rfl,_⟩:=h;rfl) | (obtain⟨_,_,_,_,_,_,_,_,_,_,_,_,_,_,rfl,_⟩:=h;rfl)):ao P w K mg base aq (k+1) f fd ps sp:=F.ok S len hb
end
theorem cL{p:Prop}(h:let T:=p;T):p:=h
open PySem PySem.Spec PyProof.Rows PySem.W PySem.Builtin PySem.Builtin.ObjectAttr PySem.Builtin.Getset_descriptor
section
variable {K:Fg}{D a:Addr}{M:Model}{h:Heap}
end
section
variable {prog:Program}{w:World}{A:Around}{E:VP}{s:Shared}{K:Fg}{D a:Addr}
end
end L2
namespace L2
open PySem PySem.Spec PyProof.Rows PySem.W
section
variable {l:List Env}{B:Heap}{H H0:Hp}{h0 h h' h'':Heap}{P:Program}{w:World}
end
section
variable {X:Cx}{pins:Po}{σ:St}{H:Hp}{s:Shared}{E:XK}
end
section
variable {P:Program}{w:World}{K:Fg}{mg:Mv}{base:Heap}{N:Ls}{qual:Str}{scope:Scope}{f:Addr}{cd:Value}{A:Around}{outer:List Env}{s0:Shared}{H0:Hp}{E:XK}
end
section
variable {X:Cx}{pins:Po}{σ:St}{H:Hp}{s:Shared}
end
section
variable {X:Cx}{CX:gT}{k:Nat}{f C:Addr}{fd:Fy}{ps:Ls}{sp:Sp}{dP:Lv}{ds:Lw}{E:St->XK}{x m:Str}{p pos apos:Pos}{e o:Expr}{es:List Expr}{ta:TE}{t:TA}
end
section
variable {X:Cx}
theorem Bk:∀{Ds:List Addr}{us:Lw},aU (Ds.map V.ref) us->us=Ds.map Value.ref
 | [],_,.nil=>rfl
 | D::Ds,_,.cons r t=>by
  rw[dM,Bk t]
  congr 1
end
end L2
namespace L2
open PySem PySem.Spec PyProof.Rows
def lV{α:Type}(n:Nat)(f:Nat->Nat->Bool):PySem.W.KasT α->Option α
 | .ret a=>some a
 | .ask i j k=>if (decide (i<n) && decide (j<n) && decide (i≠j))=true then lV n f (k (f i j)) else none
theorem Gr{α:Type}{n:Nat}{f:Nat->Nat->Bool}{cmp:Nat->Nat->(Bool->Shared->Prop)->Shared->Prop}{s:Shared}(hc:∀i j C,i<n->j<n->i≠j->C (f i j) s->cmp i j C s) :
 ∀(t:PySem.W.KasT α) {a:α},lV n f t=some a->∀{Q:α->Shared->Prop},Q a s->t.kasWp cmp Q s
 | .ret b,a,e,Q,q=>by
  cases e;exact q
 | .ask i j k,a,e,Q,q=>by
  unfold lV at e;split at e
  . rename_i h;simp only[et,decide_eq_true_eq]at h;exact hc i j _ h.1.1 h.1.2 h.2 (Gr hc (k (f i j)) e q)
  . cases e
theorem Gs{α:Type}{n:Nat}{f g:Nat->Nat->Bool}(h:∀i j,i<n->j<n->i≠j->f i j=g i j):∀t:PySem.W.KasT α,lV n f t=lV n g t
 | .ret b=>rfl
 | .ask i j k=>by
  unfold lV;split
  . rename_i q;simp only[et,decide_eq_true_eq]at q;rw[h i j q.1.1 q.1.2 q.2];exact Gs h _
  . rfl
def fb(a b c d e g:Bool)(i j:Nat):Bool:=
 match i,j with
 | 0,1=>a
 | 1,0=>!a
 | 0,2=>b
 | 2,0=>!b
 | 0,3=>c
 | 3,0=>!c
 | 1,2=>d
 | 2,1=>!d
 | 1,3=>e
 | 3,1=>!e
 | 2,3=>g
 | 3,2=>!g
 | _,_=>false
def jZ(f:Nat->Nat->Bool):List Nat->Bool
 | []=>true
 | [_]=>true
 | x::y::r=>f x y && jZ f (y::r)
def tQ(n:Nat)(f:Nat->Nat->Bool):Bool:=
 match lV n f (PySem.W.kas_sort n) with
 | none=>false
 | some p=>p.toList.isPerm (List.range n) && jZ f p.toList
def xq(n:Nat)(f:Nat->Nat->Bool):Bool:=
 (List.range n).all fun i=>(List.range n).all fun j=>(List.range n).all fun k=>!(f i j && f j k && decide (i≠k)) || f i k
theorem XM:∀a b c d e g:Bool,tQ 2 (fb a b c d e g)=true:=by decide +kernel
theorem XN:∀a b c d e g:Bool,xq 3 (fb a b c d e g)=true->tQ 3 (fb a b c d e g)=true:=by decide +kernel
theorem XO:∀a b c d e g:Bool,xq 4 (fb a b c d e g)=true->tQ 4 (fb a b c d e g)=true:=by decide +kernel
theorem Gu{a b c d e g:Bool}(i:Nat):fb a b c d e g i i=false:=by
 match i with
 | 0=>rfl
 | 1=>rfl
 | 2=>rfl
 | 3=>rfl
 | n+4=>rfl
theorem Gv{i n:Nat}(h:i<n)(hn:n<=4):i=0\/i=1\/i=2\/i=3:=by omega
theorem Gw{n:Nat}{f g:Nat->Nat->Bool}(h:∀i j,i<n->j<n->i≠j->f i j=g i j):∀l:List Nat,(∀x∈l,x<n)->l.Nodup->jZ g l=true->jZ f l=true
 | [],_,_,_=>rfl
 | [_],_,_,_=>rfl
 | x::y::r,hm,hd,e=>by
  unfold jZ at e ⊢;rw[et]at e ⊢;have lF:=m3.mp hd;refine⟨?_,Gw h (y::r) (fun z hz=>hm z (eS _ hz)) lF.2 e.2⟩;rw[h x y (hm x gc) (hm y (eS _ gc)) fun q=>lF.1 (q▸gc)];exact e.1
theorem XQ{n:Nat}(h2:2<=n)(h4:n<=4){f:Nat->Nat->Bool}(tR:∀i j,i<n->j<n->i≠j->f i j = !f j i)(tr:∀i j k,i<n->j<n->k<n->f i j=true->f j k=true->f i k=true) :
 ∃p:Array Nat,lV n f (PySem.W.kas_sort n)=some p/\p.toList.Perm (List.range n)/\jZ f p.toList=true:=by
 have fg:∀i j,i<n->j<n->i≠j->f i j=fb (f 0 1) (f 0 2) (f 0 3) (f 1 2) (f 1 3) (f 2 3) i j:=by
  intro i j hi hj jo
  rcases Gv hi h4 with rfl | rfl | rfl | rfl<;>rcases Gv hj h4 with rfl | rfl | rfl | rfl<;>first | exact absurd rfl jo | rfl | exact tR _ _ hi hj jo
 have tg:xq n (fb (f 0 1) (f 0 2) (f 0 3) (f 1 2) (f 1 3) (f 2 3))=true:=by
  unfold xq;rw[wm];intro i hi;rw[wm];intro j hj;rw[wm];intro k hk;have hi:=lq.mp hi;have hj:=lq.mp hj;have hk:=lq.mp hk
  by_cases re:i=j
  . subst re;rw[Gu];rfl
  by_cases Gx:j=k
  . subst Gx;rw[Gu,m4,cU];rfl
  by_cases Gy:i=k
  . subst Gy;rw[ba (fun z=>z rfl),m4];rfl
  rw[←fg i j hi hj re,←fg j k hj hk Gx,←fg i k hi hk Gy];cases e1:f i j with
  | false=>rfl
  | true=>
   cases e2:f j k with
   | false=>rfl
   | true=>
    rw[tr i j k hi hj hk e1 e2,LI]
 have ok:tQ n (fb (f 0 1) (f 0 2) (f 0 3) (f 1 2) (f 1 3) (f 2 3))=true:=by
  have h3:n=2\/n=3\/n=4:=by omega
  rcases h3 with rfl | rfl | rfl
  . exact XM _ _ _ _ _ _
  . exact XN _ _ _ _ _ _ tg
  . exact XO _ _ _ _ _ _ tg
 unfold tQ at ok;rw[←Gs fg]at ok;cases e:lV n f (PySem.W.kas_sort n) with
 | none=>rw[e]at ok;cases ok
 | some p=>
  rw[e]at ok;have ok:(p.toList.isPerm (List.range n) && jZ (fb (f 0 1) (f 0 2) (f 0 3) (f 1 2) (f 1 3) (f 2 3)) p.toList)=true:=ok;rw[et]at ok;have hp:=List.isPerm_iff.mp ok.1;exact⟨p,rfl,hp,Gw fg _ (fun x hx=>lq.mp (hp.mem_iff.mp hx)) (hp.nodup_iff.mpr List.nodup_range) ok.2⟩
theorem xr:∀x y:List Int,x≠y->HT.lexLt x y = !HT.lexLt y x
 | [],[],h=>absurd rfl h
 | [],_::_,_=>rfl
 | _::_,[],_=>rfl
 | a::x,b::y,h=>by
  rw[HT.pz,HT.pz]
  by_cases e:a=b
  . subst e;rw[aB rfl,aB rfl];exact xr x y fun q=>h (by rw[q])
  . rw[ap e,ap (fun q=>e q.symm)]
    by_cases l:a<b
    . rw[aE l,ba (by omega)];rfl
    . rw[ba l,aE (by omega)];rfl
theorem xt:∀x y z:List Int,HT.lexLt x y=true->HT.lexLt y z=true->HT.lexLt x z=true
 | [],[],_,h,_=>by cases h
 | [],_::_,[],_,h=>by cases h
 | [],_::_,_::_,_,_=>rfl
 | _::_,[],_,h,_=>by cases h
 | _::_,_::_,[],_,h=>by cases h
 | a::x,b::y,c::z,h1,h2=>by
  rw[HT.pz]at h1 h2 ⊢
  by_cases e1:a=b
  . subst e1;rw[aB rfl]at h1
    by_cases e2:a=c
    . subst e2;rw[aB rfl]at h2 ⊢;exact xt x y z h1 h2
    . rw[ap e2]at h2 ⊢;exact h2
  . rw[ap e1]at h1;have l1:=aL h1
    by_cases e2:b=c
    . subst e2;rw[ap e1];exact h1
    . rw[ap e2]at h2;have l2:=aL h2;rw[ap (by omega)];exact aE (by omega)
section
variable {prog:Program}{w:World}{A:Around}{E:VP}{s:Shared}
theorem XR{b:Bool}{Q:Bool->Shared->Prop}{xs:Lw}{is:List Int}(hx:IntsAre xs is):∀{ys:Lw}{js:List Int} (i:Nat),IntsAre ys js->Q (HT.lexLt is js) s ->
 PySem.W.KatLex prog w A b (decide (is.length<js.length)) Q (xs.zip ys) i s:=by
 induction hx with
 | nil=>
  intro ys js i hy q;cases hy with
  | nil=>exact LJ q
  | cons c u hy=>
   refine LJ (show Q (decide _) s from ?_);rw[aE (by rw[ji,cV];exact Nat.succ_pos _)];exact q
 | cons a t hx ih=>
  intro ys js i hy q;cases hy with
  | nil=>
   refine LJ (show Q (decide _) s from ?_);rw[ba (by rw[ji];exact Aa _)];exact q
  | cons c u hy=>
   rename_i xs is ys js;rw[HT.pz]at q;refine PySem.W.kat_cons (wpAny_eqBool_int (PySem.W.kat_go (fun e=>PySem.W.kat_yes ?_) fun e=>PySem.W.kat_no ?_))
   . have e:=eq_of_beq e;rw[aB e]at q;have z:decide ((a::is).length<(c::js).length)=decide (is.length<js.length):=by
      rw[cV,cV];exact EB.mpr Nat.succ_lt_succ_iff
     rw[z];exact ih (i+1) hy q
   . have e:a≠c:=fun z=>by
      rw[z,zZ]at e;cases e
     rw[ap e]at q;cases hb:(b && i == 0) with
     | true=>exact oneLt_int q
     | false=>exact PySem.W.kat_one _ _ (HT.FG _ _ _ _ _ _ _ _ _ _ q)
def j0(h:Heap)(v:Value)(is:List Int):Prop:=∃a o xs n,v=.ref a/\h.get? a=some o/\o.cls=.type "tuple"/\o.data=.seq xs n/\IntsAre xs.toList is/\is≠[]
theorem XS{b:Bool}{Q:Bool->Shared->Prop}{x y:Value}{is js:List Int}(hx:j0 s.heap x is)(hy:j0 s.heap y js)(q:Q (HT.lexLt is js) s):wpAny (model prog w) A (keyLt' (tuples' b) x y) Q E s:=by
 obtain⟨ax,ox,xs,n,rfl,x1,x2,x3,x4,_⟩:=hx;obtain⟨ay,oy,ys,k,rfl,y1,y2,y3,y4,_⟩:=hy;refine PySem.W.kat_lt x1 x3 y1 y3 ?_;have e1:=x4.length;have e2:=y4.length;have z:decide (xs.size<ys.size)=decide (is.length<js.length):=by
  rw[←e1,←e2,jD,jD]
 rw[z];exact XR x4 0 y4 q
theorem j0.keep{h h':Heap}{v:Value}{is:List Int}(t:j0 h v is)(k:∀b o,h.get? b=some o->o.cls=.type "tuple"->h'.get? b=some o):j0 h' v is:=by
 obtain⟨a,o,xs,n,e,h1,h2,h3,h4⟩:=t;exact⟨a,o,xs,n,e,k a o h1 h2,h2,h3,h4⟩
theorem XT{h:Heap}:∀{vs:Lw}{ks:Ll},Paired (j0 h) vs ks->∃fs:Lw,PySem.W.KatTups h vs fs/\fs.length=vs.length/\∀v∈fs,∃(i:Int) (t:Tok),v=.int i t:=by
 intro vs ks p
 induction p with
 | nil=>exact⟨[],trivial,rfl,fun _ h=>nomatch h⟩
 | cons x p ih=>
  obtain⟨fs,h1,h2,h3⟩:=ih;obtain⟨a,o,xs,n,rfl,x1,x2,x3,x4,x5⟩:=x;cases hl:xs.toList with
  | nil=>
   rw[hl]at x4;cases x4;exact absurd rfl x5
  | cons f r=>
   rw[hl]at x4;cases x4 with
   | cons i t z=>
    refine⟨.int i t::fs,PySem.W.KatTups.cons x1 x2 x3 (by rw[←sI,hl];rfl) h1,by rw[cV,cV,h2],fun v hv=>?_⟩
    rcases cE.mp hv with rfl | hv
    . exact⟨i,t,rfl⟩
    . exact h3 v hv
theorem Bl{α β:Type}{R:α->β->Prop}:∀{xs:List α}{ys:List β},Paired R xs ys->∀i,i<xs.length->∀(d:α) (e:β),R (xs.getD i d) (ys.getD i e):=by
 intro xs ys p
 induction p with
 | nil=>exact fun i h=>absurd h (Aa _)
 | cons x p ih=>
  intro i hi d e;cases i with
  | zero=>exact x
  | succ i=>exact ih i (Nat.lt_of_succ_lt_succ hi) d e
theorem XU{vs:Lw}:(List.range vs.length).map (fun i=>vs.getD i Value.none)=vs:=by
 apply List.ext_getElem
 . rw[aK,jG]
 . intro i h1 h2;rw[List.getElem_map,List.getElem_range,ly,dg h2];rfl
theorem xu{α β:Type}{R:α->β->Prop}{xs:List α}{ys:List β}(p:Paired R xs ys):xs.length=ys.length:=by
 induction p with
 | nil=>rfl
 | cons _ _ ih=>rw[cV,cV,ih]
def fK(ks:Ll)(i j:Nat):Bool:=HT.lexLt (ks.getD i []) (ks.getD j [])
theorem XV{ks:Ll}(nd:ks.Nodup){i j:Nat}(hi:i<ks.length)(hj:j<ks.length)(h:i≠j):ks.getD i []≠ks.getD j []:=by
 rw[ly,ly,dg hi,dg hj];exact fun z=>h ((K6 nd).mp z)
theorem XW{a:Addr}{vs:Lw}{ks:Ll}{n:Nat}{P:PySem.Fin->Shared->Prop}(ho:s.heap.get? a=some (seqObj "list" vs.toArray n))(hk:Paired (j0 s.heap) vs ks)(h4:vs.length<=4)(nd:ks.Nodup)
 (h:∀p:List Nat,p.Perm (List.range vs.length)->jZ (fK ks) p=true->P (.done (.ret .none)) { s with heap:=sortedHeap s.heap a vs (p.map fun i=>vs.getD i Value.none).toArray }) :
 wpAny (model prog w) A (Builtin.«list.sort» ⟨[.ref a],[]⟩) P E s:=by
 have hla:a<s.heap.objs.size:=bn ho;have Gz:vs.length=ks.length:=xu hk;rw[list_sort_plain];obtain⟨ep,GA⟩:∃ep,(s.heap.update a (Obj.mapSeq fun _=>(#[]:Av))).get? a=some (seqObj "list" #[] ep):=⟨_,get?_update_seq ho (fun _=>#[])⟩;refine ai (listItems_at ho rfl ?_);refine ai (LK ho rfl ?_);refine ai (seqEpoch_at GA rfl ?_);refine ai (wpAny_newTuple ?_);refine ai (LL ?_);refine oU ?_;have tS:(((s.heap.update a (Obj.mapSeq fun _=>(#[]:Av))).push (seqObj "tuple" vs.toArray 0)).push (seqObj "list" #[] 0)).get? a=some (seqObj "list" #[] ep):=
  bS _ (bS _ GA)
 have kp:∀b o,s.heap.get? b=some o->o.cls=.type "tuple"->(((s.heap.update a (Obj.mapSeq fun _=>(#[]:Av))).push (seqObj "tuple" vs.toArray 0)).push (seqObj "list" #[] 0)).get? b=some o:=fun b o e c=>by
  have hb:b≠a:=fun z=>by
   rw[z,ho]at e;cases e;exact absurd (show Value.type "list"=Value.type "tuple" from c) (by decide)
  refine bS _ (bS _ ?_);rw[Heap.get?_update_ne _ _ _ _ hb];exact e
 have tU:Paired (j0 (((s.heap.update a (Obj.mapSeq fun _=>(#[]:Av))).push (seqObj "tuple" vs.toArray 0)).push (seqObj "list" #[] 0))) vs ks:=aX hk fun _ _ t=>t.keep kp;have e7:∀out:Av,sortedHeap s.heap a vs out=(((s.heap.update a (Obj.mapSeq fun _=>(#[]:Av))).push (seqObj "tuple" vs.toArray 0)).push (seqObj "list" #[] 0)).update a (Obj.mapSeq fun _=>out):=fun _=>rfl;show wpAny (model prog w) A _ P E { s with heap:=(((s.heap.update a (Obj.mapSeq fun _=>(#[]:Av))).push (seqObj "tuple" vs.toArray 0)).push (seqObj "list" #[] 0)) };simp only[e7]at h;generalize ((s.heap.update a (Obj.mapSeq fun _=>(#[]:Av))).push (seqObj "tuple" vs.toArray 0)).push (seqObj "list" #[] 0)=h6 at tS tU h ⊢;dsimp only
 by_cases h2:vs.toArray.size<2
 . have lW:vs.length<2:=h2;rw[aB h2,aB h2];refine ai (aw ?_);rw[StateT.run_pure];refine ai (aw ?_);dsimp only;have eo:(arrOf (SortSt.mk' general' (vs.toArray.zip vs.toArray) #[] 7 none)).map (·.2)=vs.toArray:=by
    show(vs.toArray.zip vs.toArray).map (·.2)=vs.toArray;apply Array.toList_inj.mp;rw[Array.toList_map,Array.toList_zip];exact List.map_snd_zip (aS _)
   rw[eo];refine ai (seqEpoch_at tS rfl ?_);refine ai (LK tS rfl ?_ (hsz2:=by show vs.length<=_;rw[sH];omega));simp only[bne_self_eq_false,ic,kC];have q:=h (List.range vs.length) (List.Perm.refl _) (by
    have:vs.length=0\/vs.length=1:=by omega
    rcases this with z | z<;>rw[z]<;>rfl)
   rw[XU]at q;exact aw q
 . have lW:2<=vs.length:=LA h2;rw[ap h2,ap h2];obtain⟨fs,t1,t2,t3⟩:=XT tU;refine ai (PySem.W.kat_kind (T:=.type "int") t1 (by omega) (fun v hv=>?_) rfl ?_)
   . obtain⟨i,t,rfl⟩:=t3 v hv;exact .of_pure rfl
   obtain⟨p,hr,hp,XX⟩:=XQ lW h4 (f:=fK ks) (fun i j hi hj jo=>xr _ _ (XV nd (Gz▸hi) (Gz▸hj) jo)) (fun i j k _ _ _=>xt _ _ _);have XY:p.size=vs.length:=by
    have:=hp.length_eq;rw[jG,jD]at this;exact this
   have run:(PySem.W.kas_sort vs.length).kasWp (PySem.W.kas_ask prog w A (tuples' (Value.type "int" != Value.type "tuple")) vs) (fun p' s'=>p'=p/\s'={ s with heap:=h6 }) { s with heap:=h6 }:=
    Gr (n:=vs.length) (f:=fK ks) (fun i j C hi hj _ c=>XS (Bl tU i hi _ _) (Bl tU j hj _ _) c) _ hr ⟨rfl,rfl⟩
   refine ai (ej (PySem.W.kat_run (Q:=fun dO s'=>arrOf dO=p.map (PySem.W.kas_item (vs.toArray.zip vs.toArray))/\failedOf dO=none/\s'={ s with heap:=h6 }) (G:=fun p' s'=>p'=p/\s'={ s with heap:=h6 }) rfl lW (by omega)
    (fun p' dO s' a1 a2 a3 a4=>⟨a4.1▸a2,a3,a4.2⟩) run) ?_ fun _ _ e=>e)
   rintro⟨⟨⟩,dO⟩ s' ⟨XZ,hf,rfl⟩;dsimp only;rw[PySem.W.kat_snds rfl XZ];refine ai (seqEpoch_at tS rfl ?_);refine ai (LK tS rfl ?_ (hsz2:=by show(p.toList.map _).length<=_;rw[aK,jD,XY,sH];omega));rw[hf];simp only[bne_self_eq_false,ic,kC];exact aw (h p.toList hp XX)
theorem X0{r:Addr}{Q:VP}(Bm:wpAny (model prog w) A.in1 (collect (.ref r)) (fun us s'=>∃(ks:Ll) (h':Heap) (tk:Nat),s'={ s with heap:=h',toks:=tk }/\Paired (j0 h') us ks/\us.length<=4/\ks.Nodup /\
 ∀(h2:Heap) (p:List Nat) (e:Nat),(∀b o,h'.get? b=some o->h2.get? b=some o)->h2.get? h'.objs.size=some (seqObj "list" (p.map fun i=>us.getD i Value.none).toArray e)->p.Perm (List.range us.length)->jZ (fK ks) p=true->Q (.ref h'.objs.size) { s with heap:=h2,toks:=tk }) E s) :
 wpAny (model prog w) A (call (.builtin "sorted") [.ref r]) Q E s:=by
 refine agA kind_sorted plain_sorted entry_sorted (args_sorted1 (.ref r)) ?_;unfold Builtin.«sorted»;refine ai (m:=checkCount "sorted" 1 1 _) (aw (ai (ej Bm (fun us s' z=>?_) fun _ _ e=>e)));obtain⟨ks,h',tk,rfl,hT,h4,nd,fin⟩:=z;refine ai (LL ?_ (by rw[sH];omega));have lG:(h'.push (seqObj "list" us.toArray 0)).get? h'.objs.size=some (seqObj "list" us.toArray 0):=em _ rfl;show wpAny _ _ _ _ _ { s with heap:=h'.push (seqObj "list" us.toArray 0),toks:=tk };have X1:Paired (j0 (h'.push (seqObj "list" us.toArray 0))) us ks:=aX hT fun _ _ t=>t.keep fun b o e _=>bS _ e;refine ai (oU (mY slot_list_sort ⟨_,lG,rfl⟩ entry_list_sort (XW lG X1 h4 nd fun p a1 a2=>⟨_,rfl,?_⟩) (args_list_sort _)));obtain⟨e,he⟩:=sortedHeap_at (vs:=us) (out:=(p.map fun i=>us.getD i Value.none).toArray) lG;refine aw ⟨_,rfl,fin _ p e (fun b o q=>?_) he a1 a2⟩;have hb:=bn q;rw[sortedHeap_old (ck hb) (by rw[mZ];exact LM hb)];exact bS _ q
end
def i4:Ll->Bool
 | []=>true
 | [_]=>true
 | x::y::r=>HT.lexLt x y && i4 (y::r)
theorem GB{ks:Ll}:∀p:List Nat,i4 (p.map fun i=>ks.getD i [])=jZ (fK ks) p
 | []=>rfl
 | [_]=>rfl
 | x::y::r=>by
  show(HT.lexLt _ _ && i4 ((y::r).map fun i=>ks.getD i []))=(fK ks x y && jZ (fK ks) (y::r));rw[GB (y::r)];rfl
theorem X2{α:Type}{d:α}{ks:List α}:(List.range ks.length).map (fun i=>ks.getD i d)=ks:=by
 apply List.ext_getElem
 . rw[aK,jG]
 . intro i h1 h2;rw[List.getElem_map,List.getElem_range,ly,dg h2];rfl
theorem X3{α:Type}{d:α}{ks:List α}{p:List Nat}(hp:p.Perm (List.range ks.length)):(p.map fun i=>ks.getD i d).Perm ks:=by
 have h:=hp.map fun i=>ks.getD i d;rw[X2]at h;exact h
theorem Bn{α β:Type}{R:α->β->Prop}{xs:List α}{ys:List β}(h:Paired R xs ys)(d:α)(e:β):∀p:List Nat,(∀i∈p,i<xs.length)->Paired R (p.map fun i=>xs.getD i d) (p.map fun i=>ys.getD i e)
 | [],_=>.nil
 | i::p,hi=>.cons (Bl h i (hi i gc) d e) (Bn h d e p fun j hj=>hi j (eS _ hj))
theorem X4{α β γ:Type}{R:α->β->Prop}{S:α->γ->Prop}{T:β->γ->Prop}(h:∀x y z,R x y->S x z->T y z):∀{xs:List α}{ys:List β}{zs:List γ},Paired R xs ys->Paired S xs zs->Paired T ys zs:=by
 intro xs ys zs p
 induction p generalizing zs with
 | nil=>
  intro q;cases q;exact .nil
 | cons x p ih=>
  intro q;cases q with
  | cons y q=>exact .cons (h _ _ _ x y) (ih q)
def Bo(K:Fg)(H:Hp)(ys:Lv)(ks:Ll):Prop:=Paired (fun(y:V) (k:List Int)=>∃t,y=.ref t/\ak K H t (k.map V.int)/\k≠[]) ys ks
section
variable {X:Cx}
theorem Inv.tups{pins:Po}{σ:St}{H:Hp}{s:Shared}(I:Inv X pins σ H s){ys:Lv}{ks:Ll}{its:Lw}(h:Bo X.K H ys ks)(r:aU ys its):Paired (j0 s.heap) its ks:=
 X4 (R:=RelV) (fun y v k rv z=>by
  obtain⟨t,rfl,hs,hk⟩:=z;cases rv;obtain⟨is,r1,p1,_⟩:=I.tuple hs;obtain⟨o,e1,c1,n,d1⟩:=p1;exact⟨t,o,is.toArray,n,rfl,e1,c1,d1,intsAre_of r1,hk⟩) r h
end
end L2
namespace HT
open PySem PyProof.Rows
section
open PySem.SeqAt
open PySem.AutoSeq1 (wpAny_loadPart')
open PySem.MeetsSeq PySem.MeetsSeq2 PySem.MeetsSeq3
end
section
variable {prog:Program}{w:World}{A:Around}{E:VP}{s:Shared}
end
end HT
namespace L2
open PySem PySem.Spec PyProof.Rows
section
variable {X:Cx}
end
open PySem.W
section
variable {X:Cx}
end
end L2
namespace L2
open PySem
def X5(m:Nat):Prop:=m=7\/m=15\/m=31\/m=63
open PySem.Spec PyProof.Rows
def gj(w:World):Bool:=w.params.followText "set-order"
def j3(e:Int×Value):Str:=match e.2 with
 | .str y _=>y
 | _=>Str.ofString ""
def nv(w:World)(e:Int×Value):Prop:=∃y tk,e=(lB w (.inr y),Value.str y tk)
structure gC(w:World)(o:Obj)(es:Array (Int×Value))(ep:Nat)(t:SetTable)(xs:Ls):Prop where
 ex:o.ExactSet
 dat:o.data=.set es ep t
 good:∀e∈es.toList,nv w e
 perm:(es.toList.map j3).Perm xs
 nd:xs.Nodup
 len:xs.length<=1000
 fit:t.fits es.size=true
 led:t.led = !gj w
 pl:es.size≠0->t.plain=false
 msk:es.size=0->X5 t.mask
def dQ(w:World)(h:Heap)(a:Addr)(xs:Ls):Prop:=∃o es ep t,h.get? a=some o/\gC w o es ep t xs
theorem dQ.at'{w:World}{h h':Heap}{a:Addr}{xs:Ls}(x:dQ w h a xs)(k:∀o,h.get? a=some o->h'.get? a=some o):dQ w h' a xs:=
 x.elim fun o X6=>X6.elim fun es X7=>X7.elim fun ep X8=>X8.elim fun t X9=>X9.elim fun e r=>⟨o,es,ep,t,k o e,r⟩
theorem dQ.typeIs{w:World}{s:Shared}{a:Addr}{xs:Ls}(x:dQ w s.heap a xs):s.TypeIs (.ref a) "set":=x.elim fun o Ya=>Ya.elim fun _ Yb=>Yb.elim fun _ Yc=>Yc.elim fun _ Yd=>Yd.elim fun e r=>⟨o,e,r.ex.1⟩
section
variable {w:World}{P:Program}{o:Obj}{es:Array (Int×Value)} {ep:Nat}{t:SetTable}{xs:Ls}
theorem gC.elems(x:gC w o es ep t xs):ElemsOf (cA P w) es.toList:=fun e he=>by
 obtain⟨y,tk,rfl⟩:=x.good e he;exact⟨⟨.inr y,qJ P w y tk,rfl⟩,rfl⟩
theorem gC.size(x:gC w o es ep t xs):es.size=xs.length:=by
 have:=x.perm.length_eq;rw[aK,jD]at this;exact this
theorem gC.bnd(x:gC w o es ep t xs):es.size<scanBound:=by
 rw[x.size];have:=x.len;show _<4096;omega
theorem GC{y:Str}{e:Int×Value}(g:nv w e):(cA P w).is (.inr y) e.2=true↔j3 e=y:=by
 obtain⟨z,tk,rfl⟩:=g;constructor
 . intro h;have:=(cA P w).inj _ _ _ h (qJ P w z tk);injection this with this
   exact this.symm
 . intro h;rw[←h];exact qJ P w z tk
theorem gC.find_some(x:gC w o es ep t xs){y:Str}{j:Nat}(h:List.findIdx? (fun e=>(cA P w).is (.inr y) e.2) es.toList=some j):y∈xs:=by
 obtain⟨hj,hp,_⟩:=List.findIdx?_eq_some_iff_getElem.mp h;have hm:=Ab hj;exact x.perm.mem_iff.mp (cP.mpr ⟨_,hm,(GC (x.good _ hm)).mp hp⟩)
theorem gC.find_none(x:gC w o es ep t xs){y:Str}(h:List.findIdx? (fun e=>(cA P w).is (.inr y) e.2) es.toList=none):y∉xs:=fun hy=>by
 obtain⟨e,he,hk⟩:=cP.mp (x.perm.mem_iff.mpr hy);have:=List.findIdx?_eq_none_iff.mp h e he;rw[(GC (x.good _ he)).mpr hk]at this;cases this
end
theorem Ye(t:SetTable)(es:Array (Int×Value))(h:Int)(x:Value):(layNew t es h x).2.1.led=t.led:=by
 unfold layNew;split
 . dsimp only;unfold SetTable.orStandIn;split<;>rfl
 . rfl
theorem Yf{mask f m:Nat}{led plain:Bool}{hs:Array Int}{r:SetTable×Array Nat}(e:SetTable.laid mask f m led plain hs=some r):r.1.led=led/\r.1.plain=plain/\r.1.mask=mask/\r.1.dummies = #[]:=by
 unfold SetTable.laid at e;cases hq:SetTable.layClean mask hs with
 | none=>rw[hq]at e;cases e
 | some ow=>
  rw[hq]at e;cases e;exact⟨rfl,rfl,rfl,rfl⟩
theorem Yg(t:SetTable)(es:Array (Int×Value))(n:Nat):(relayAll t es n).2.1.led=t.led/\(t.plain=false->(relayAll t es n).2.1.plain=false):=by
 unfold relayAll;split
 . rename_i t' order e;dsimp only;split
   . obtain⟨h1,h2,_⟩:=Yf e;exact⟨h1,fun z=>h2.trans z⟩
   . exact⟨rfl,fun _=>rfl⟩
 . exact⟨rfl,fun _=>rfl⟩
def ix(xs:Ls)(y:Str):Ls:=if y∈xs then xs else xs++[y]
theorem GD{xs:Ls}{y:Str}(h:xs.Nodup):(ix xs y).Nodup:=by
 unfold ix;split
 . exact h
 . rename_i z;rw[List.nodup_append];exact⟨h,by simp,fun a ha b hb=>by rw[gP.mp hb];exact fun q=>z (q▸ha)⟩
theorem Yh{xs:Ls}{y z:Str}:z∈ix xs y↔z∈xs\/z=y:=by
 unfold ix;split
 . rename_i h;exact⟨.inl,fun q=>q.elim id fun q=>q▸h⟩
 . simp
theorem GF(xs:Ls)(y:Str):(ix xs y).length<=xs.length+1:=by
 unfold ix;split
 . omega
 . simp
section
variable {prog:Program}{w:World}{A:Around}{E:VP}{s:Shared}{a:Addr}
theorem gC.store{h:Heap}{o:Obj}{es es':Array (Int×Value)}{ep:Nat}{t t':SetTable}(ho:h.get? a=some o)(x:o.ExactSet)(d:o.data=.set es ep t):(h.update a (Obj.putSet es' t')).get? a=some { o with data:=.set es' (ep+1) t' }:=by
 have q:=wn (Obj.putSet es' t') ho (by rw[putSet_of es' t' d];rfl)
 rwa [putSet_of es' t' d]at q
theorem GG{g:Bool->Sem Unit}(hg:∀(b:Bool) (s₁:Shared) (Q':Unit->Shared->Prop),Q' () s₁->wpAny (model prog w) A (g b) Q' E s₁){o:Obj}{es cM:Array (Int×Value)}{ep:Nat}{t t2:SetTable}{ys:Ls}{wd:Bool}{R:Option Bool->Shared->Prop}
 (ho:s.heap.get? a=some o) (hx:o.ExactSet) (hd:o.data=.set es ep t) (gd:∀e∈cM.toList,nv w e) (pm:(cM.toList.map j3).Perm ys) (nd:ys.Nodup) (ln:ys.length<=1000) (hf:t2.fits cM.size=true) (ld:t2.led = !gj w) (pl:t2.plain=false) (ne:cM.size≠0)
 (h:∀h',Heap.SameBut a s.heap h'->dQ w h' a ys->R (some true) { s with heap:=h' }) :
 wpAny (model prog w) A (do { storeSet a cM t2;if (!wd && t2.tooFull)=true then do { g (relayAll t2 cM (SetTable.grown cM.size)).2.2;storeSet a (relayAll t2 cM (SetTable.grown cM.size)).1 (relayAll t2 cM (SetTable.grown cM.size)).2.1;pure (some true) } else pure (some true) }) R E s:=by
 have sz:cM.size=ys.length:=by have:=pm.length_eq;rw[aK,jD]at this;exact this
 have b1:cM.size<scanBound:=by rw[sz];show _<4096;omega
 refine ai (wpAny_storeSet_of ho hd ?_ (LN b1));have o1:=gC.store (es':=cM) (t':=t2) ho hx hd;have sb:=sJ s.heap a (Obj.putSet cM t2);split
 . have hp:=relayAll_perm t2 cM (SetTable.grown cM.size);have pH:=relayAll_fits t2 cM (SetTable.grown cM.size);have xv:=Yg t2 cM (SetTable.grown cM.size);generalize hR:relayAll t2 cM (SetTable.grown cM.size)=Rl at hp pH xv ⊢;obtain⟨Bp,t3,g2⟩:=Rl;dsimp only at hp pH xv ⊢;have GH:Bp.size=cM.size:=by rw[←jD,hp.length_eq,jD]
   refine ai (hg _ _ _ (ai (wpAny_storeSet_of o1 rfl ?_ (LN (by rw[GH];exact b1)))));have o2:=gC.store (es':=Bp) (t':=t3) o1 hx rfl;exact aw (h _ (sb.trans (sJ _ a _)) ⟨_,Bp,_,t3,o2,hx,rfl,fun e he=>gd e (hp.mem_iff.mp he),(hp.map j3).trans pm,nd,ln,pH,xv.1.trans ld,fun _=>xv.2 pl,fun z=>absurd (GH.symm.trans z) ne⟩)
 . exact aw (h _ sb ⟨_,cM,_,t2,o1,hx,rfl,gd,pm,nd,ln,hf,ld,fun _=>pl,fun z=>absurd z ne⟩)
theorem Yi{xs:Ls}{y:Str}{tk:Tok}{Q:Bool->Shared->Prop}(hS:dQ w s.heap a xs)(hl:xs.length<1000)(h:∀b h',Heap.SameBut a s.heap h'->dQ w h' a (ix xs y)->Q b { s with heap:=h' }) :
 wpAny (model prog w) A (setAddHashed a (.str y tk) (lB w (.inr y))) Q E s:=by
 obtain⟨o,es,ep,t,ho,x⟩:=hS;have el:ElemsOf (cA prog w) es.toList:=x.elems;unfold setAddHashed setAddHashedIn;refine oU (ai (oY ho x.dat x.fit ?_));dsimp only;rw[byScan_of (x:=.str y tk) rfl x.bnd el];simp only[↓reduceIte];unfold setAddByScan;refine ai (ai (sF (ai (wpAny_setScan_of (knd:=cA prog w) (k:=.inr y) (qJ prog w y tk) ho x.dat x.fit el ?_))));cases hr:List.findIdx? (fun e=>(cA prog w).is (.inr y) e.2) es.toList with
 | some j=>
  dsimp only;refine aw (aw ?_);have hy:=x.find_some hr;exact h false s.heap (Heap.SameBut.refl a s.heap) (by unfold ix;rw[aB hy];exact⟨o,es,ep,t,ho,x⟩)
 | none=>
  dsimp only;have hy:=x.find_none hr;have tV:=layNew_perm t es (lB w (.inr y)) (.str y tk);have xy:=layNew_fits t es (lB w (.inr y)) (.str y tk);have xz:=Ye t es (lB w (.inr y)) (.str y tk);have e0:(cA prog w).hash (.inr y)=lB w (.inr y):=rfl
  try rw[e0]
  generalize hL:layNew t es (lB w (.inr y)) (.str y tk)=L at tV xy xz ⊢;obtain⟨cM,t1,wd,ag6⟩:=L;dsimp only at tV xy xz ⊢;rw[Array.toList_push]at tV;have gd:∀e∈cM.toList,nv w e:=fun e he=>by
   rcases gN.mp (tV.mem_iff.mp he) with z | z
   . exact x.good e z
   . exact⟨y,tk,gP.mp z⟩
  have ea:ix xs y=xs++[y]:=by unfold ix;rw[ap hy]
  have pm:(cM.toList.map j3).Perm (ix xs y):=by
   rw[ea];refine(tV.map j3).trans ?_;rw[eA];exact x.perm.append_right _
  have ne:cM.size≠0:=fun z=>by
   have:=pm.length_eq;rw[ea,aK,jD,z,be]at this;simp at this
  have ln:(ix xs y).length<=1000:=by have:=GF xs y;omega
  have Yj:∀(b:Bool) {s₁:Shared}{Q':Unit->Shared->Prop},Q' () s₁->wpAny (model prog w) A (match b with | true=>rule "set.scan.the-table-gave-way" | false=>pure ()) Q' E s₁:=fun b s₁ Q' hq=>by
   cases b
   . exact aw hq
   . exact sF hq
  refine ai (Yj _ ?_);have fin:∀h',Heap.SameBut a s.heap h'->dQ w h' a (ix xs y)->wpAny (model prog w) A (pure true:Sem Bool) Q E { s with heap:=h' }:=fun h' k z=>aw (h true h' k z);split
  . refine ai ?_;rw[hashByValue_scannable (x:=.str y tk) 8 rfl];refine aw ?_;refine GG ?_ ho x.ex x.dat gd pm (GD x.nd) ln ?_ ?_ ?_ ne (fun h' k z=>fin h' k z)
    . intro b s₁ Q' hq;cases b
      . exact aw hq
      . exact sF hq
    . exact SetTable.fits_plain_off xy
    . exact xz.trans x.led
    . rfl
  . rename_i Yk;refine ai (aw ?_);simp only[↓reduceIte];refine GG ?_ ho x.ex x.dat gd pm (GD x.nd) ln xy (xz.trans x.led) (by simpa using Yk) ne (fun h' k z=>fin h' k z);intro b s₁ Q' hq;cases b
    . exact aw hq
    . exact sF hq
end
theorem Bq{α:Type}:∀{l:List α}{i:Nat} (h:i<l.length),(l[i]::l.eraseIdx i).Perm l
 | [],i,h=>absurd h (Aa _)
 | x::r,0,h=>.refl _
 | x::r,i+1,h=>by
  have h':i<r.length:=by simpa using h
  show(r[i]::x::r.eraseIdx i).Perm _;exact(List.Perm.swap ..).trans ((Bq (l:=r) (i:=i) h').cons x)
theorem GI{α:Type}(next:Nat->Nat):∀(f k:Nat) (left:List α) (out:Array α),f=left.length->(pickOrder.go next f k left out).toList.Perm (out.toList++left)
 | 0,k,left,out,h=>by
  rw[wo.mp h.symm];simp[pickOrder.go]
 | f+1,k,left,out,h=>by
  have hp:next k % left.length<left.length:=Nat.mod_lt _ (by omega);unfold pickOrder.go;rw[dg hp];dsimp only;refine(GI next f (k+1) _ _ (by rw[agB hp];omega)).trans ?_;rw[Array.toList_push,oZ];exact List.Perm.append_left _ (Bq hp)
theorem Yl{α:Type}(next:Nat->Nat)(xs:Array α):(pickOrder next xs).toList.Perm xs.toList:=by
 have:=GI next xs.size 0 xs.toList #[] (by simp);simpa [pickOrder]using this
section
variable {prog:Program}{w:World}{A:Around}{E:VP}{s:Shared}{a:Addr}
theorem Ym{n:Nat}(hn:n≠0){Q:Nat->Shared->Prop}(h:∀i d,i<n->Q i { s with drawn:=d }):wpAny (model prog w) A (choose .order n) Q E s:=fun Γ p hΓ=>by
 unfold choose;rw[Sem.wp_choose];refine⟨hn,?_⟩;simp only[Sem.wp_pure];exact h _ _ (Nat.mod_lt _ (Nat.pos_of_ne_zero hn))
theorem GJ{α:Type}:∀(n:Nat) (l:List α) (s:Shared) (Q:List α->Shared->Prop),n=l.length->(∀out d,out.Perm l->Q out { s with drawn:=d })->wpAny (model prog w) A (drawOrder n l) Q E s
 | 0,l,s,Q,hn,h=>by
  have hl:=wo.mp hn.symm;subst hl;exact aw (h [] s.drawn .nil)
 | n+1,l,s,Q,hn,h=>by
  cases l with
  | nil=>cases hn
  | cons x r=>
   show wpAny _ _ (choose .order (x::r).length >>= _) _ _ _;refine ai (Ym (by simp) fun i d hi=>?_);rw[dg hi];dsimp only;refine ai (GJ n ((x::r).eraseIdx i) _ _ (by rw[agB hi];simp at hn ⊢;omega) fun out d2 hp=>aw ?_);exact h _ d2 ((hp.cons _).trans (Bq hi))
end
def gD(h:Heap)(it a:Addr)(ep n:Nat)(f:Value)(i:Nat):Prop:=∃o,h.get? it=some o/\o.cls=.type "set_iterator"/\o.data=.fields #[f,rawInt i,.ref a,rawInt n,rawInt ep]
theorem gD.at'{h h':Heap}{it a:Addr}{ep n i:Nat}{f:Value}(x:gD h it a ep n f i)(k:∀o,h.get? it=some o->h'.get? it=some o):gD h' it a ep n f i:=x.elim fun o Yn=>Yn.elim fun e r=>⟨o,k _ e,r⟩
theorem gD.typeIs{s:Shared}{it a:Addr}{ep n i:Nat}{f:Value}(x:gD s.heap it a ep n f i):s.TypeIs (.ref it) "set_iterator":=x.elim fun o Yo=>Yo.elim fun e Yp=>Yp.elim fun r _=>⟨o,e,r⟩
inductive Md (w:World) (h:Heap) (I a T:Addr) (es:Array (Int×Value)) (ep:Nat) (t:SetTable) (os:List (Int×Value)) (i:Nat):Prop
 | text (b:gj w=true) (e:os=(pickOrder (w.params.setOrder a ep) es).toList) (x:gD h I a ep es.size (rawInt 0) i)
 | draw (pl:List Nat) (b:gj w=false) (e:os.length=pl.length/\∀(k j:Nat),pl[k]?=some j->os[k]?=es[j]?) (x:gD h I a ep es.size (.ref T) i) (y:∃o n,h.get? T=some o/\o.data=.seq (pl.map fun j=>rawInt (j:Nat)).toArray n) (z:I≠T)
 | tab (sl:Nat) (b:gj w=false) (l:es.size<=1) (e:os=es.toList) (x:gD h I a ep es.size (rawInt sl) i) (y:SetTable.below t.place sl=i)
def rf(w:World)(I a T:Addr)(os:List (Int×Value))(i:Nat)(h:Heap):Prop:=∃o es ep t xs,h.get? a=some o/\gC w o es ep t xs/\os.Perm es.toList/\I≠a/\Md w h I a T es ep t os i
section
variable {prog:Program}{w:World}{A:Around}{E:VP}{s:Shared}{a it:Addr}
theorem Br{ep n i:Nat}{f v:Value}{Q:Unit->Shared->Prop}(x:gD s.heap it a ep n f i)(q:∀h',Heap.SameBut it s.heap h'->gD h' it a ep n v i->Q () { s with heap:=h' }):wpAny (model prog w) A (setField (.ref it) 0 v) Q E s:=by
 obtain⟨o,ho,hc,hd⟩:=x;exact Ac ho hd (by simp) (q _ (sJ ..) ⟨_,wn _ ho (LO (wp hd _)),(LP ..).trans hc,by rw[wp hd];simp⟩)
theorem Bt{ep n i:Nat}{f:Value}{Q:Unit->Shared->Prop}(x:gD s.heap it a ep n f i)(q:∀h',Heap.SameBut it s.heap h'->gD h' it a ep n f (i+1)->Q () { s with heap:=h' }):wpAny (model prog w) A (setField (.ref it) 1 (rawInt ((i:Int)+1))) Q E s:=by
 obtain⟨o,ho,hc,hd⟩:=x;exact Ac ho hd (by simp) (q _ (sJ ..) ⟨_,wn _ ho (LO (wp hd _)),(LP ..).trans hc,by rw[wp hd];simp[rawInt]⟩)
theorem Bu{ep n i:Nat}{f:Value}{R:PySem.Fin->Shared->Prop}{E':VP}(hh:A.handled=none)(x:gD s.heap it a ep n f i)
 (q:∀h' e,Heap.ExtBut it s.heap h'->Shared.TypeIs { s with heap:=h' } e "StopIteration"->E' e { s with heap:=h' }):wpAny (model prog w) A.in1 (do { setField (.ref it) 2 .none;raiseNew (←newExc (.type "StopIteration") []) }) R E' s:=by
 obtain⟨o,ho,hc,hd⟩:=x;refine ai (Ac ho hd (by simp) ?_);show wpAny _ _ (newExc (.type "StopIteration") [] >>= _) _ _ _;refine ai ?_;simp only[newExc,newTuple];refine ai (qG ?_ (by size_fits));refine ai (m:=firstArgMember _ _) (wpAny_of_eq (a:=Value.none) (by first | rfl | (simp only[firstArgMember];rfl)) ?_);refine qG ?_ (by size_fits);simp only[raiseNew];refine ai (wpAny_handled ?_);rw[show A.in1.handled=none from hh];refine ai (aw (wpAny_throw ?_));refine q _ _ (((sJ ..).extBut.push _).push _) ?_;exact⟨_,em _ rfl,rfl⟩
theorem GK(j:Nat):SetTable.below #[j] 0=0/\SetTable.below #[j] (j+1)=1:=by
 constructor
 . simp[SetTable.below,SetTable.below.go]
 . simp[SetTable.below,SetTable.below.go]
theorem GL{o:Obj}{es:Array (Int×Value)}{ep:Nat}{t:SetTable}{i:Nat}{Q:Option (Value×Nat)->Shared->Prop}(b:gj w=true)(ho:s.heap.get? a=some o)(hd:o.data=.set es ep t)(hf:t.fits es.size=true)
 (q:Q (((pickOrder (w.params.setOrder a ep) es)[i]?).map fun e=>(e.2,0)) s):wpAny (model prog w) A (setNext a 0 i ep) Q E s:=by
 have hb:w.params.followText "set-order"=true:=b;unfold setNext;refine ai (oY ho hd hf ?_);refine ai (m:=setsByText) (ai (wq (aw ?_)));show wpAny _ _ (if w.params.followText "set-order"=true then _ else _) _ _ s;rw[aB hb,ap (show ¬((ep != ep)=true) by simp)];refine ai ?_;unfold setWalk;refine ai (oY ho hd hf ?_);refine ai (m:=setsByText) (ai (wq (aw ?_)));show wpAny _ _ (if w.params.followText "set-order"=true then _ else _) _ _ s;rw[aB hb];exact ai (wq (aw (aw q)))
theorem GN{o:Obj}{es:Array (Int×Value)}{ep:Nat}{t:SetTable}{sl i:Nat}{Q:Option (Value×Nat)->Shared->Prop}(b:gj w=false)(ho:s.heap.get? a=some o)(hd:o.data=.set es ep t)(hf:t.fits es.size=true)(hl:t.led = !gj w)(l:es.size<=1)
 (q:Q (match es[SetTable.below t.place sl]?,t.place[SetTable.below t.place sl]? with | some (_,x),some j=>some (x,j+1) | _,_=>none) s):wpAny (model prog w) A (setNext a sl i ep) Q E s:=by
 have hb:w.params.followText "set-order"=false:=b;unfold setNext;refine ai (oY ho hd hf ?_);refine ai (m:=setsByText) (ai (wq (aw ?_)));show wpAny _ _ (if w.params.followText "set-order"=true then _ else _) _ _ s;rw[ap (by rw[hb];exact cr)];show wpAny _ _ (if (!t.plain && decide (es.size > 1))=true then _ else _) _ _ s;rw[ap (by rw[ba (by omega),m4];exact cr)];show wpAny _ _ ((if (!t.led && !es.isEmpty)=true then _ else _) >>= _) _ _ s;rw[ap (by rw[hl,b];exact cr)];exact ai (aw (aw q))
theorem rg{ep n i:Nat}{f:Value}{o:Obj}{es:Array (Int×Value)}{t:SetTable}{Q:Option Value->Shared->Prop}(x:gD s.heap it a ep es.size f i)(ho:s.heap.get? a=some o)(hd:o.data=.set es ep t)(hf:t.fits es.size=true)
 {E1:VP}
 (q:wpAny (model prog w) A.in1 (if let .int slot _:=f then
  (do
   match ←setNext a slot.toNat i ep with
   | some (x,next)=>setField (.ref it) 0 (rawInt next);setField (.ref it) 1 (rawInt ((i:Int)+1));ret x
   | none=>setField (.ref it) 2 .none;raiseNew (←newExc (.type "StopIteration") []))
  else(do
   let some places ←seqItems? f | unsupported "internal:set_iterator"
   match places[i]? with
   | some (.int place _)=>let x ←setNextDrawn a place.toNat ep;setField (.ref it) 1 (rawInt ((i:Int)+1));ret x
   | some _=>unsupported "internal:set_iterator"
   | none=>setField (.ref it) 0 (rawInt 0);setField (.ref it) 2 .none;raiseNew (←newExc (.type "StopIteration") [])))
  (fun fin s'=>∃v,fin=.done (.ret v)/\Q (some v) s') (fun e s'=>Shared.TypeIs s' e "StopIteration"/\Q none s') s) :
 wpAny (model prog w) A (pyNext (.ref it)) Q E s:=by
 obtain⟨oi,Yq,hc,Yr⟩:=id x;unfold pyNext;refine ai (LQ (LR (name:=Str.ofString "__next__") x.typeIs xp (mY xp x.typeIs Xy ?_ (XB _))));unfold Builtin.«set_iterator.__next__»;refine ai (aw ?_);refine ai (LS Yq Yr ?_);show wpAny _ _ (setEntries a >>= _) _ _ s;unfold setEntries;refine ai (ai (oY ho hd hf (aw ?_)));dsimp only;rw[ap (by simp)];refine ej q (fun fin s' z=>?_) (fun e s' z=>?_)
 . obtain⟨v,rfl,z⟩:=z;exact⟨v,rfl,aw z⟩
 . exact ai (qE (T:="StopIteration") (b:=true) z.1 isSubtype_stop (aw z.2))
end
section
variable {prog:Program}{w:World}{A:Around}{E:VP}{s:Shared}{a I T:Addr}
theorem Md.keep{h h':Heap}{es:Array (Int×Value)}{ep:Nat}{t:SetTable}{os:List (Int×Value)}{i:Nat}(x:Md w h I a T es ep t os i)(k:∀b,b=I\/b=T->∀o,h.get? b=some o->h'.get? b=some o):Md w h' I a T es ep t os i:=by
 cases x with
 | text b e x=>exact .text b e (x.at' (k I (.inl rfl)))
 | draw pl b e x y z=>
  obtain⟨o,n,e1,e2⟩:=y;exact .draw pl b e (x.at' (k I (.inl rfl))) ⟨o,n,k T (.inr rfl) o e1,e2⟩ z
 | tab sl b l e x y=>exact .tab sl b l e (x.at' (k I (.inl rfl))) y
theorem Ys{os:List (Int×Value)}{i:Nat}{e:Int×Value}{Q:Option Value->Shared->Prop}(x:rf w I a T os i s.heap)(hi:os[i]?=some e)(q:∀h',Heap.SameBut I s.heap h'->rf w I a T os (i+1) h'->Q (some e.2) { s with heap:=h' }) :
 wpAny (model prog w) A (pyNext (.ref I)) Q E s:=by
 obtain⟨o,es,ep,t,xs,ho,X,pm,rh,m⟩:=x;have done:∀h',Heap.SameBut I s.heap h'->Md w h' I a T es ep t os (i+1)->Q (some e.2) { s with heap:=h' }:=fun h' k m'=>q h' k ⟨o,es,ep,t,xs,by rw[k.2 a (fun z=>rh z.symm)];exact ho,X,pm,rh,m'⟩;cases m with
 | text b eo x=>
  have ri:(pickOrder (w.params.setOrder a ep) es)[i]?=some e:=by rw[eo,sI]at hi;exact hi
  refine rg (E1:=E) (n:=0) x ho X.dat X.fit ?_;show wpAny _ _ (setNext a 0 i ep >>= _) _ _ _;refine ai (GL b ho X.dat X.fit ?_);rw[ri];refine ai (Br x fun h1 k1 x1=>ai (Bt (s:={ s with heap:=h1 }) x1 fun h2 k2 x2=>aw ⟨_,rfl,done h2 (k1.trans k2) (.text b eo x2)⟩))
 | draw pl b eo x y z=>
  obtain⟨oT,nT,hT,xA⟩:=y;have aR:i<pl.length:=by
   rw[←eo.1];exact(bW.mp hi).1
  have bH:pl[i]?=some pl[i]:=dg aR;have he:es[pl[i]]?=some e:=(eo.2 i _ bH).symm.trans hi;refine rg (E1:=E) (n:=0) x ho X.dat X.fit ?_;show wpAny _ _ (seqItems? (.ref T) >>= _) _ _ _;refine ai (Ep hT xA ?_);have Bv:(pl.map fun j=>rawInt (j:Nat)).toArray[i]?=some (rawInt (pl[i]:Nat)):=by simp[aR]
  dsimp only;rw[Bv];show wpAny _ _ (setNextDrawn a pl[i] ep >>= _) _ _ _;refine ai ?_;unfold setNextDrawn;refine ai (oY ho X.dat X.fit ?_);dsimp only;rw[ap (show ¬((ep != ep)=true) by simp),he];refine aw ?_;refine ai (Bt x fun h2 k2 x2=>aw ⟨_,rfl,done h2 k2 (.draw pl b eo x2 ⟨oT,nT,by rw[k2.2 T (fun q=>z q.symm)];exact hT,xA⟩ z)⟩)
 | tab sl b l eo x y=>
  have hz:es.size=1/\i=0:=by
   rw[eo]at hi;have:=(bW.mp hi).1;rw[jD]at this;omega
  have Bw:es[i]?=some e:=by rw[eo,sI]at hi;exact hi
  have a8:t.place.size=1:=by
   have:=X.fit;unfold SetTable.fits at this;simp only[et,kE]at this;omega
  obtain⟨j,hj⟩:∃j,t.place = #[j]:=by
   rcases hp:t.place with⟨l⟩
   rw[hp]at a8
   match l,a8 with
   | [j],_=>exact⟨j,rfl⟩
  refine rg (E1:=E) (n:=0) x ho X.dat X.fit ?_;show wpAny _ _ (setNext a sl i ep >>= _) _ _ _;refine ai (GN b ho X.dat X.fit X.led l ?_);have i5:t.place[i]?=some j:=by rw[hj,hz.2];rfl
  rw[y,Bw,i5];refine ai (Br x fun h1 k1 x1=>ai (Bt (s:={ s with heap:=h1 }) x1 fun h2 k2 x2=>aw ⟨_,rfl,done h2 (k1.trans k2) (.tab (j+1) b l eo x2 (by rw[hj,(GK j).2,hz.2]))⟩))
theorem Yt{os:List (Int×Value)}{Q:Option Value->Shared->Prop}(hh:A.handled=none)(x:rf w I a T os os.length s.heap)(q:∀h',Heap.ExtBut I s.heap h'->Q none { s with heap:=h' }):wpAny (model prog w) A (pyNext (.ref I)) Q E s:=by
 obtain⟨o,es,ep,t,xs,ho,X,pm,rh,m⟩:=x;have hn:os.length=es.size:=by rw[pm.length_eq,jD]
 have hq:∀h' e,Heap.ExtBut I s.heap h'->Shared.TypeIs { s with heap:=h' } e "StopIteration"->Shared.TypeIs { s with heap:=h' } e "StopIteration"/\Q none { s with heap:=h' }:=fun h' e k z=>⟨z,q h' k⟩;cases m with
 | text b eo x=>
  refine rg (E1:=E) (n:=0) x ho X.dat X.fit ?_;show wpAny _ _ (setNext a 0 os.length ep >>= _) _ _ _;refine ai (GL b ho X.dat X.fit ?_);have ri:(pickOrder (w.params.setOrder a ep) es)[os.length]?=none:=by
   have:(pickOrder (w.params.setOrder a ep) es).toList[os.length]?=none:=by rw[←eo];simp
   rwa [sI]at this
  rw[ri];exact Bu hh x hq
 | draw pl b eo x y z=>
  obtain⟨oT,nT,hT,xA⟩:=y;refine rg (E1:=E) (n:=0) x ho X.dat X.fit ?_;show wpAny _ _ (seqItems? (.ref T) >>= _) _ _ _;refine ai (Ep hT xA ?_);have Bv:(pl.map fun j=>rawInt (j:Nat)).toArray[os.length]?=none:=by simp[eo.1]
  dsimp only;rw[Bv];refine ai (Br x fun h1 k1 x1=>?_);refine Bu (s:={ s with heap:=h1 }) hh x1 fun h' e k z=>hq h' e (k1.extBut.trans k) z
 | tab sl b l eo x y=>
  refine rg (E1:=E) (n:=0) x ho X.dat X.fit ?_;show wpAny _ _ (setNext a sl os.length ep >>= _) _ _ _;refine ai (GN b ho X.dat X.fit X.led l ?_);have Bw:es[os.length]?=none:=by rw[hn];simp
  rw[y,Bw];exact Bu hh x hq
theorem Yu(hh:A.handled=none)(I a T:Addr)(os:List (Int×Value)):Walks prog w A I [I,a,T] [I] os.length (fun i v=>∃e,os[i]?=some e/\v=e.2) (fun i h=>rf w I a T os i h) where
 sub:=fun b hb=>by simp at hb;simp[hb]
 frame:=fun i h h' st hk=>by
  obtain⟨o,es,ep,t,xs,ho,X,pm,rh,m⟩:=st;exact⟨o,es,ep,t,xs,hk a (by simp) o ho,X,pm,rh,m.keep fun b hb o e=>hk b (by rcases hb with rfl | rfl<;>simp) o e⟩
 item:=fun i s Q E hi st hQ=>by
  refine Ys st (dg hi) fun h' k dO=>?_;exact hQ _ h' s.toks ⟨_,dg hi,rfl⟩ dO fun b o hb e=>k.extBut b o (fun h=>hb (by simp[h])) e
 done:=fun s Q E st hQ=>Yt hh st fun h' Yv=>hQ h' s.toks fun b o hb e=>Yv b o (fun h=>hb (by simp[h])) e
 self:=fun i s Q E st hQ=>by
  obtain⟨o,es,ep,t,xs,ho,X,pm,rh,m⟩:=st;have hT:s.TypeIs (.ref I) "set_iterator":=by
   cases m with
   | text b e x=>exact x.typeIs
   | draw pl b e x y z=>exact x.typeIs
   | tab sl b l e x y=>exact x.typeIs
  refine LU hT Gj (mY Gj hT Xz ?_ (XC _));show wpAny _ _ (ret (.ref I)) _ _ s;exact aw ⟨_,rfl,"set_iterator",_,hT,xp.lookup,hQ⟩
theorem GO{es:Array (Int×Value)}:∀{pl:List Nat},(∀j∈pl,j<es.size)->(pl.filterMap (es[·]?)).length=pl.length/\∀(k j:Nat),pl[k]?=some j->(pl.filterMap (es[·]?))[k]?=es[j]?
 | [],_=>⟨rfl,fun k j h=>by cases h⟩
 | p::r,h=>by
  have a8:p<es.size:=h p (by simp);have hp:es[p]?=some es[p]:=Ad a8;obtain⟨h1,h2⟩:=GO (pl:=r) fun j hj=>h j (eS _ hj);rw[List.filterMap_cons_some hp];refine⟨by simp[h1],fun k j hk=>?_⟩;cases k with
  | zero=>cases hk;exact hp.symm
  | succ k=>exact h2 k j hk
theorem Yw{xs:Ls}{Q:VP}(x:dQ w s.heap a xs)(hQ:∀I T d h' os,s.heap.objs.size<=I->(∀b o,s.heap.get? b=some o->h'.get? b=some o)->(T=a\/s.heap.objs.size<=T)->rf w I a T os 0 h'->(os.map j3).Perm xs->(∀e∈os,nv w e)->Q (.ref I) { s with heap:=h',drawn:=d }) :
 wpAny (model prog w) A (pyIter (.ref a)) Q E s:=by
 obtain⟨o,es,ep,t,ho,X⟩:=id x;have aR:=bn ho;refine LU x.typeIs agC (mY agC x.typeIs XA ?_ (PySem.F.args_set_iter_1 _));unfold Builtin.«frozenset.__iter__»;refine ai (m:=Builtin.Frozenset.slot0 _ _) (aw ?_);refine ai ?_;unfold Builtin.Frozenset.sizeOf setEntries;refine ai (ai (oY ho X.dat X.fit (aw (aw ?_))));refine ai ?_;unfold setDrawn;refine ai (oY ho X.dat X.fit ?_);refine ai (m:=setsByText) (ai (wq (aw ?_)));show wpAny _ _ (pure (!gj w && (!t.plain && decide (es.size > 1)))) _ _ _;refine aw ?_;have fin:∀(f:Value) (d:_) (h1:Heap),(∀b o,s.heap.get? b=some o->h1.get? b=some o)->s.heap.objs.size<=h1.objs.size ->
  (∀h',(∀b o,h1.get? b=some o->h'.get? b=some o)->gD h' h1.objs.size a ep es.size f 0->h1.objs.size<h'.objs.size->∃T os,(T=a\/s.heap.objs.size<=T)/\os.Perm es.toList/\Md w h' h1.objs.size a T es ep t os 0) ->
  wpAny (model prog w) A.in1 (setEpoch a >>= fun e=>newFields "set_iterator" [f,rawInt 0,.ref a,rawInt es.size,rawInt e] >>= fun v=>ret v) (fun fin s'=>∃v,fin=.done (.ret v)/\∃T r,s'.TypeIs v T/\typeLookup (.type T) "__next__"=pure (some r)/\Q v s') E { s with heap:=h1,drawn:=d }:=by
  intro f d h1 k1 hz hm;refine ai ?_;unfold setEpoch;refine ai (oY (s:={ s with heap:=h1,drawn:=d }) (k1 a o ho) X.dat X.fit (aw ?_));refine ai (qG ?_);have ht:gD (h1.push { cls:=.type "set_iterator",data:=.fields #[f,rawInt 0,.ref a,rawInt es.size,rawInt ep] }) h1.objs.size a ep es.size f 0:=⟨_,em _ rfl,rfl,rfl⟩;obtain⟨T,os,hT,pm,m⟩:=hm _ (fun b o e=>bS _ e) ht (by rw[mZ];exact wc _);refine aw ⟨_,rfl,"set_iterator",_,ht.typeIs (s:={ s with heap:=_,drawn:=d }),xp.lookup,?_⟩;refine hQ h1.objs.size T d _ os hz (fun b o e=>bS _ (k1 b o e)) hT ⟨o,es,ep,t,xs,bS _ (k1 a o ho),X,pm,oV (fO aR hz),m⟩ ((pm.map j3).trans X.perm) fun e he=>X.good e (pm.mem_iff.mp he)
 cases hb:(!gj w && (!t.plain && decide (es.size > 1))) with
 | false=>
  rw[ap cr];refine ai (m:=pure (rawInt 0)) (aw ?_);refine fin (rawInt 0) s.drawn s.heap (fun b o e=>e) (aS _) fun h' k ht hl=>?_;cases hw:gj w with
  | true=>exact⟨a,_,.inl rfl,Yl _ _,.text hw rfl ht⟩
  | false=>
   have hs:es.size<=1:=by
    refine LA fun z=>?_;rw[hw,X.pl (by omega),aE (by omega:es.size > 1)]at hb;cases hb
   refine⟨a,_,.inl rfl,.refl _,.tab 0 hw hs rfl ht ?_⟩;have a8:t.place.size=es.size:=by
    have:=X.fit;unfold SetTable.fits at this;simp only[et,kE]at this;exact this.1
   rcases hp:t.place with⟨l⟩
   rw[hp]at a8
   match l,a8 with
   | [],_=>rfl
   | [j],_=>exact(GK j).1
   | _::_::_,z=>simp at z;omega
 | true=>
  have hw:gj w=false:=by cases hw:gj w with | false=>rfl | true=>rw[hw]at hb;cases hb
  rw[aB rfl];refine ai (GJ es.size (List.range es.size) s _ (by simp) fun pl d hp=>?_);have hsz:es.size<=sizeLine:=LN X.bnd;refine ai (wpAny_newTuple ?_ (by rw[aK,hp.length_eq,jG];exact hsz));have bH:∀j∈pl,j<es.size:=fun j hj=>lq.mp (hp.mem_iff.mp hj);obtain⟨g1,g2⟩:=GO bH;refine fin (.ref s.heap.objs.size) d (s.heap.push { cls:=.type "tuple",data:=.seq (pl.map fun(i:Nat)=>rawInt i).toArray }) (fun b o e=>bS _ e) (by rw[mZ];exact Nat.le_succ _) fun h' k ht hl=>?_;refine⟨s.heap.objs.size,pl.filterMap (es[·]?),.inr (aS _),?_,.draw pl hw ⟨g1,g2⟩ ht ⟨_,0,k _ _ (em _ rfl),rfl⟩ (oV (by rw[mZ];exact wc _))⟩;exact(hp.filterMap _).trans (by rw[filterMap_getElem?_range])
end
theorem Bx{w:World}:∀{os:List (Int×Value)},(∀e∈os,nv w e)->StrsAre (os.map (·.2)) (os.map j3)
 | [],_=>.nil
 | e::r,h=>by
  obtain⟨y,tk,rfl⟩:=h e (by simp);exact .cons y tk (Bx fun e he=>h e (eS _ he))
section
variable {prog:Program}{w:World}{A:Around}{E:VP}{s:Shared}{a:Addr}
theorem Yx{xs:Ls}{R:Result->Shared->Prop}(hh:A.handled=none)(x:dQ w s.heap a xs)(S:Addr)(By:S≠a)(res:Value)(c₀:Nat)(hS:s.heap.get? S=some { cls:=.type "list",data:=.seq #[] c₀ })
 (hR:∀(h':Heap) (tk:Nat) (d:Drawn) (os:List (Int×Value)) (acc:Av) (c':Nat),(∀b o,b≠S->s.heap.get? b=some o->h'.get? b=some o)->h'.get? S=some { cls:=.type "list",dict:=none,data:=.seq acc c',slots:=#[] }->acc.toList=os.map (·.2)->(os.map j3).Perm xs->(∀e∈os,nv w e)->R (.ok (.ret res)) { s with heap:=h',toks:=tk,drawn:=d }) (hn:xs.length<=sizeLine) :
 wpAny (model prog w) A.in1 (Builtin.List.listExtendWith (.ref S) (.ref a) res) (fun fin s'=>match fin with | .done f=>R (.ok f) s' | .again c'=>c'.quiet=true/\codeAny (model prog w) A c' R s') (fun e s'=>R (.error e) s') s:=by
 unfold Builtin.List.listExtendWith;refine ai (LH (T:="set") x.typeIs ?_);have h1:Builtin.List.listSameRef (.ref S) (.ref a)=false:=by simp[Builtin.List.listSameRef,By]
 have h2:(Value.type "set" == Value.type "list")=false:=by decide
 have h3:(Value.type "set" == Value.type "tuple")=false:=by decide
 simp only[h1,h2,h3,Ew,kC,ic];refine ai (Yw x fun I T d hp os hI kp hT st pm gd=>?_);have tW:=bn hS;have ln:os.length=xs.length:=by have:=pm.length_eq;rwa [aK]at this
 have Yy:S≠T:=fun z=>hT.elim (fun q=>By (z.trans q)) fun q=>absurd (fO (z▸tW) q) (lm _);have tX:S∉[I,a,T]:=by
  simp only[cE,o0,o5,not_or];exact⟨ck (fO tW hI),By,Yy⟩
 have W:=Yu (prog:=prog) (w:=w) (A:=A.in1) hh I a T os;have key:∀(h:Heap) (c₁ tk:Nat),rf w I a T os 0 h->(∀b o,b≠S->s.heap.get? b=some o->h.get? b=some o)->h.get? S=some { cls:=.type "list",data:=.seq #[] c₁ } ->
  codeAny (model prog w) A (.builtin "list.extend.loop" ⟨[.ref S,.ref I,res],[]⟩) R { s with heap:=h,toks:=tk,drawn:=d }:=by
  intro h c₁ tk jL hk tY;refine codeAny_extend_loopS W.toS (by omega) S tX res os.length 0 _ #[] c₁ rfl (fQ _) jL tY (ItemsOf.nil _) fun s' GP c' hm jq Bz=>?_;rw[Moved.eq_with hm];refine hR s'.heap s'.toks d os GP c' (fun b o hb e=>hm.heap b o (fun tZ=>?_) (hk b o hb e)) jq ?_ pm gd
  . rcases cE.mp tZ with e' | tZ
    . exact hb e'
    . have aR:=bn e;rw[gP.mp tZ]at aR;exact absurd (fO aR hI) (lm _)
  . refine List.ext_getElem? fun j=>?_;rw[sI,dq]
    by_cases hj:j<os.length
    . have GQ:j<GP.size:=by rw[Bz.1];exact hj
      obtain⟨e,he,hv⟩:=Bz.2 j _ (Ad GQ);rw[he,Ad GQ,hv];rfl
    . rw[agD (by rw[Bz.1];omega),List.getElem?_eq_none (by omega)];rfl
 have tY:=kp _ _ hS;refine ai (oU (XE (dQ.typeIs (s:={ s with heap:=hp,drawn:=d }) (x.at' fun o e=>kp a o e)) ?_));refine LG (fun _=>?_) (fun _=>aw ⟨sK agE _,key _ c₀ _ st (fun b o _ e=>kp b o e) tY⟩);refine ai (sF (ai ?_));show wpAny _ _ (updateSeq S (·.push .none) >>= fun _=>updateSeq S (·.pop)) _ _ _;refine ai (wpAny_updateSeq (s:={ s with heap:=hp,drawn:=d }) tY rfl ?_);have GR:=wn (Obj.mapSeq (·.push Value.none)) tY rfl;refine wpAny_updateSeq (hz:=by seq_fits) GR rfl ?_;have Yz:=wn (Obj.mapSeq (·.pop)) GR rfl;refine aw ⟨sK agE _,key _ _ _ (W.frame 0 _ _ st fun b hb o e=>?_) (fun b o hb e=>?_) Yz⟩
 . have GS:b≠S:=fun h=>tX (h▸hb);exact(zV _ _ (gM GS)).trans ((zV _ _ (gM GS)).trans e)
 . exact(zV _ _ (gM hb)).trans ((zV _ _ (gM hb)).trans (kp b o e))
theorem YA{xs:Ls}{R:Lw->Shared->Prop}(hh:A.handled=none)(x:dQ w s.heap a xs)
 (h:∀(h':Heap) (tk:Nat) (d:Drawn) (us:Lw) (ys:Ls),(∀b o,s.heap.get? b=some o->h'.get? b=some o)->StrsAre us ys->ys.Perm xs->R us { s with heap:=h',toks:=tk,drawn:=d }) (hn:xs.length<=sizeLine):wpAny (model prog w) A (collect (.ref a)) R E s:=by
 obtain⟨o,_,_,_,ho,_⟩:=id x;have aR:=bn ho;unfold collect;refine ai (wpAny_runValue (qH PyProof.Rows.entry_proto_collect' ?_));rw[sL PySem.F.plain_proto_collect _];show wpAny _ A.in1 (newList [] >>= fun l=>again (.builtin "list.__iadd__" ⟨[l,.ref a],[]⟩)) _ _ s;refine ai (qG (aw ⟨sK agF _,qH PyProof.Rows.entry_list_iadd' ?_⟩));rw[sL agF _];show wpAny _ A.in1 (Builtin.List.listExtendWith (.ref s.heap.objs.size) (.ref a) (.ref s.heap.objs.size)) _ _ _;have key:=Yx (prog:=prog) (A:=A) (s:={ s with heap:=s.heap.push { cls:=.type "list",data:=.seq ([]:Lw).toArray } })
  (R:=fun(q:Result) (s':Shared)=>∃(h':Heap) (tk:Nat) (d:Drawn) (os:List (Int×Value)) (acc:Av) (c':Nat),q=.ok (.ret (.ref s.heap.objs.size))/\s'={ s with heap:=h',toks:=tk,drawn:=d }/\(∀b o,s.heap.get? b=some o->h'.get? b=some o) /\
   h'.get? s.heap.objs.size=some { cls:=.type "list",dict:=none,data:=.seq acc c',slots:=#[] }/\acc.toList=os.map (·.2)/\(os.map j3).Perm xs/\∀e∈os,nv w e)
  hh (x.at' fun o e=>bS _ e) s.heap.objs.size (oV aR) (.ref s.heap.objs.size) 0 (em _ rfl)
  (fun h' tk d os acc c' hk jq e1 e2 e3=>⟨h',tk,d,os,acc,c',rfl,rfl,fun b o e=>hk b o (ck (bn e)) (bS _ e),jq,e1,e2,e3⟩) hn
 refine ej key (fun fin s' z=>?_) fun e s' z=>?_
 . cases fin with
   | done f=>
    obtain⟨h',tk,d,os,acc,c',e,rfl,hk,jq,e1,e2,e3⟩:=z;cases e;show wpAny _ A (load s.heap.objs.size >>= _) _ _ _;refine ai (wpAny_load (s:={ s with heap:=h',toks:=tk,drawn:=d }) jq (aw ?_));exact h h' tk d _ _ hk (by rw[e1];exact Bx e3) e2
   | again c₁=>
    refine⟨z.1,qF z.2 fun q s₂ y=>?_⟩;obtain⟨h',tk,d,os,acc,c',rfl,rfl,hk,jq,e1,e2,e3⟩:=y;show wpAny _ A (load s.heap.objs.size >>= _) _ _ _;refine ai (wpAny_load (s:={ s with heap:=h',toks:=tk,drawn:=d }) jq (aw ?_));exact h h' tk d _ _ hk (by rw[e1];exact Bx e3) e2
 . obtain⟨_,_,_,_,_,_,e',_⟩:=z;cases e'
theorem YB{r:Addr}{Q:VP}(Bm:wpAny (model prog w) A.in1 (collect (.ref r)) (fun us s'=>∃(ys:Ls) (h':Heap) (tk:Nat) (d:Drawn),s'={ s with heap:=h',toks:=tk,drawn:=d }/\StrsAre us ys/\us.length<64 /\
 ∀(h2:Heap) (out:Lw) (bt:Ls) (e:Nat),(∀b o,h'.get? b=some o->h2.get? b=some o)->h2.get? h'.objs.size=some (seqObj "list" out.toArray e)->StrsAre out bt->bt.Perm ys->sortedS bt=true->Q (.ref h'.objs.size) { s with heap:=h2,toks:=tk,drawn:=d }) E s) :
 wpAny (model prog w) A (call (.builtin "sorted") [.ref r]) Q E s:=by
 refine agA kind_sorted plain_sorted entry_sorted (args_sorted1 _) ?_;unfold Builtin.«sorted»;refine ai (m:=checkCount "sorted" 1 1 _) (aw ?_);refine ai (ej Bm (fun us s' YC=>YC.elim fun ys YD=>YD.elim fun h' YE=>YE.elim fun tk YF=>YF.elim fun d YG=>YG.elim fun es YH=>YH.elim fun hS YI=>YI.elim fun BA fin=>?_) fun _ _ e=>e);subst es;refine ai (LL ?_ (by rw[sH];omega));have lG:(h'.push (seqObj "list" us.toArray 0)).get? h'.objs.size=some (seqObj "list" us.toArray 0):=em _ rfl;show wpAny _ _ _ _ _ { s with heap:=h'.push (seqObj "list" us.toArray 0),toks:=tk,drawn:=d };refine ai (oU (mY slot_list_sort ⟨_,lG,rfl⟩ entry_list_sort (list_sort_treeK strKind_oneLt lG hS.keysOf (fun v₁ v₂ rest e=>keyKind_strs (by rw[←e];exact hS)) BA fun dO a1 a2=>⟨_,rfl,?_⟩) (args_list_sort _)));obtain⟨bt,h1,h2,h3⟩:=sorted_out_str hS a1 a2;obtain⟨e,he⟩:=sortedHeap_at (vs:=us) (out:=(arrOf dO).map (·.2)) lG;refine aw ⟨_,rfl,fin _ ((arrOf dO).map (·.2)).toList bt e (fun b o q=>?_) (by rw[Array.toArray_toList];exact he) h1 h2 h3⟩;have hb:=bn q;rw[sortedHeap_old (ck hb) (by rw[mZ];exact LM hb)];exact bS _ q
end
def rj(w:World)(a:Addr)(xs:Ls):HO:=.ext fun h=>dQ w h a xs
theorem YJ{P:Program}{w:World}{H:Hp}{h:Heap}{a:Addr}{xs:Ls}(x:dQ w h a xs):bX P w H h a (rj w a xs):=
 ⟨x,x.elim fun o YK=>YK.elim fun _ YL=>YL.elim fun _ YM=>YM.elim fun _ YN=>YN.elim fun e _=>⟨o,e⟩,fun _ _ z k=>z.at' k⟩
theorem YO{P:Program}{w:World}{H:Hp}{h:Heap}{a:Addr}{xs:Ls}(ok:bY P w H h)(e:H a=some (rj w a xs)):dQ w h a xs:=(show bX P w H h a (rj w a xs) from ok a _ e).1
section
variable {X:Cx}{pins:Po}{σ:List (Option V)} {H:Hp}{s:Shared}
theorem Inv.drew{d:Drawn}(I:Inv X pins σ H s):Inv X pins σ H { s with drawn:=d }:=⟨I.ok,I.os,I.bare,I.base,I.loc,I.cell,I.free,I.freeC,I.pin,I.hok,I.len⟩
theorem GU(hc:X.calm=true):gy X (.builtin "sorted") (fun vs H Q=>∃p xs,vs=[.ref p]/\H p=some (rj X.w p xs)/\xs.length<64/\∀ys,ys.Perm xs->sortedS ys=true->gU H (.lst (ys.map V.str)) Q):=by
 intro pins s σ H xs us Q I r h;obtain⟨p,zs,rfl,e,BA,q⟩:=h;obtain⟨u,rfl,ru⟩:=vals1 r;cases ru;refine YB (YA (I.ok.hd hc) (YO I.hok e) (fun h' tk d us ys k hs hp=>?_) (iw (by omega)));have hl:=hp.length_eq;have wZ:=StrsAre.length hs;have I':Inv X pins σ H { s with heap:=h',toks:=tk,drawn:=d }:=(I.kept (t':=tk) k).drew;refine⟨ys,h',tk,d,rfl,hs,by omega,fun h2 out bt e' k2 he jq cq YQ=>?_⟩;have hl3:=cq.length_eq;exact⟨.ref h'.objs.size,_,Xt (s:={ s with drawn:=d }) I' k2 he jq (iw (by omega)),rfl,(q bt (cq.trans hp) YQ).at _ (I'.hok.fresh (aS _))⟩
end
section
variable {prog:Program}{w:World}{A:Around}{E:VP}{s:Shared}{a:Addr}
theorem YR:gC w { cls:=.type "set",dict:=none,data:=.set #[] 0 (.fresh 0 0 (!gj w)) } #[] 0 (.fresh 0 0 (!gj w)) []:=
 ⟨⟨rfl,rfl,rfl⟩,rfl,(fun e he=>by cases he),.nil,.nil,by decide,rfl,rfl,fun h=>absurd rfl h,fun _=>.inl rfl⟩
end
section
variable {prog:Program}{w:World}{A:Around}{E:VP}{s:Shared}{a f:Addr}
end
theorem xB{α:Type}[DecidableEq α]:∀{xs ys:List α},xs.Nodup->(∀z∈xs,z∈ys)->xs.length<=ys.length
 | [],ys,_,_=>fQ _
 | x::xs,ys,hn,h=>by
  have hx:=h x (by simp);have kF:=m3.mp hn;have:=xB (xs:=xs) (ys:=ys.erase x) kF.2 fun z hz=>(List.mem_erase_of_ne (fun e=>kF.1 (by rw[←e];exact hz))).mpr (h z (eS _ hz));rw[List.length_erase_of_mem hx]at this;have hp:0<ys.length:=agG hx;rw[cV];omega
section
variable {prog:Program}{w:World}{A:Around}{E:VP}{s:Shared}{a f:Addr}
def kI(w:World):Obj:={ cls:=.type "set",dict:=none,data:=.set #[] 0 (.fresh 0 0 (!gj w)) }
theorem YS(v:Value){Q₁:VP}(h:Q₁ (.ref s.heap.objs.size) { s with heap:=s.heap.push (kI w) }):codeAny (model prog w) A (.call (.builtin "set.__new__") ⟨[.type "set",v],[]⟩) (wants Q₁ E) s:=by
 refine codeAny_of_tree ?_;show wpAny _ A.in1 (do { checkBuiltinCall "set.__new__" ⟨[.type "set",v],[]⟩;again (.builtin "set.__new__" ⟨[.type "set",v],[]⟩) }) _ _ s;refine ai (wpAny_of_eq (PySem.F.newCall_set_1 v) (aw ⟨sK agH _,qH PySem.F.entry_set_new ?_⟩));rw[sL agH _];unfold Builtin.«set.__new__» Builtin.Frozenset.newClass;have YT:=sub_set_self;obtain⟨hp,g,d,tk,os⟩:=s;dsimp only
 wp_walk
 refine wq (aw ?_);dsimp only;simp only[newObj];exact ai (wpAny_alloc (aw (aw h)))
theorem YU{v:Value}{Q:VP}(hq:∀A':Around,A'.handled=A.handled->wpAny (model prog w) A' (Builtin.Frozenset.updateFrom "set.__init__" s.heap.objs.size v) (fun _ s'=>Q (.ref s.heap.objs.size) s') E { s with heap:=s.heap.push (kI w) }) :
 wpAny (model prog w) A (call (.type "set") [v]) Q E s:=by
 obtain⟨c,tl,ag8⟩:=qI.mro;have ag9:=qI.made;have YT:=qI.sub;refine Eu (codeAny_of_tree ?_);show wpAny _ _ (callAny (.type "set") _) _ _ _;refine aw ⟨Code.quiet_builtin _ (by decide +kernel),qH PySem.F.entry_type_call ?_⟩;rw[Around.under_plain (weight_type_call_type "set" [v] []) rfl];have h1:=qI.notType;have h2:=qI.canCreate;have hct:=PySem.F.typeCall_set_1 v
 repeat (any_goals (first | assumption | wp_step))
 refine qF (YS v (E:=E) (Q₁:=fun obj s₁=>obj=.ref s.heap.objs.size/\s₁={ s with heap:=s.heap.push (kI w) }) ⟨rfl,rfl⟩) fun r s₁ hr=>?_;cases r with
 | error e=>exact hr
 | ok fl=>
  cases fl with
  | ret obj=>
   obtain⟨rfl,rfl⟩:=hr;have hS:(s.heap.push (kI w)).get? s.heap.objs.size=some (kI w):=em _ rfl;have hT:Shared.TypeIs { s with heap:=s.heap.push (kI w) } (.ref s.heap.objs.size) "set":=⟨_,hS,rfl⟩;have hli:=qI.init.lookup;have hbi:=qI.init.bind (.ref s.heap.objs.size)
   repeat (any_goals (first | assumption | wp_step))
   refine qF (codeAny_call_builtin (R:=wants (fun r s₂=>r=.none/\Q (.ref s.heap.objs.size) s₂) E) qI.init.plain PySem.F.entry_set_init (check_set_init_1 hT ?_)) fun r₂ s₂ BB=>?_
   . unfold Builtin.«set.__init__» noKeywords;have gf:=hq;generalize hUF:Builtin.Frozenset.updateFrom=UF at gf ⊢;have jq:(s.heap.push (kI w)).get? s.heap.objs.size=some { cls:=.type "set",dict:=none,data:=.set #[] 0 (.fresh 0 0 (!gj w)) }:=hS
     wp_walk
     exact ej (gf _ rfl) (fun _ s' z=>aw ⟨rfl,z⟩) fun _ _ e=>e
   . cases r₂ with
     | error e=>exact BB
     | ok YV=>
      cases YV with
      | ret r=>
       obtain⟨rfl,z⟩:=BB
       repeat (any_goals (first | assumption | wp_step))
      | _=>exact BB.elim
  | _=>exact hr.elim
theorem YW{v:Value}{Q:Bool->Shared->Prop}(hT:s.TypeIs v "list")(q:Q false s):wpAny (model prog w) A (Builtin.Frozenset.isAnySet v) Q E s:=by
 unfold Builtin.Frozenset.isAnySet;show wpAny _ _ (isInstance v (.type "set") >>= _) _ _ _;refine ai (qE (T:="list") (b:=false) hT PySem.F.sub_list_set ?_);exact qE (T:="list") (b:=false) hT PySem.F.sub_list_frozenset q
theorem YX{R:Result->Shared->Prop}{I S:Addr}{fp wr:List Addr}{n:Nat}{P:Nat->Value->Prop}{St:Nat->Heap->Prop}(W:Walks prog w A.in1 I fp wr n P St)(tX:S∉fp){ys:Ls}(hv:∀i v,P i v->∃y tk,ys[i]?=some y/\v=.str y tk)(hb:n<=500)(hn:ys.length=n) :
 ∀(k i:Nat) (s:Shared) (xs:Ls),n - i=k->i<=n->St i s.heap->dQ w s.heap S xs->xs.length<=i->(∀h' tk zs,(∀b o,b≠S->b∉wr->s.heap.get? b=some o->h'.get? b=some o)->dQ w h' S zs->(∀z,z∈zs↔z∈xs\/z∈ys.drop i)->R (.ok (.ret .none)) { s with heap:=h',toks:=tk }) ->
  codeAny (model prog w) A (.builtin "set.update.loop" ⟨[.ref S,.ref I],[]⟩) R s:=by
 have GV:S∉wr:=fun h=>tX (W.sub _ h);intro k
 induction k with
 | zero=>
  intro i s xs hk hi jL hS hl hR;have j4:i=n:=by omega
  subst j4;refine qH agI ?_;rw[sL LV _];show wpAny _ A.in1 (pyNext (.ref I) >>= _) _ _ s;refine ai (W.done s _ _ jL fun h' tk hm=>?_);show wpAny _ A.in1 (ret Value.none) _ _ _;exact aw (hR h' tk xs (fun b o _ hb e=>hm b o hb e) (hS.at' fun o e=>hm S o GV e) fun z=>by rw[List.drop_eq_nil_of_le (by omega)];simp)
 | succ k ih=>
  intro i s xs hk hi jL hS hl hR;have aR:i<n:=by omega
  refine qH agI ?_;rw[sL LV _];show wpAny _ A.in1 (pyNext (.ref I) >>= _) _ _ s;refine ai (W.item i s _ _ aR jL fun v h1 GW hP YY hm=>?_);obtain⟨y,tk,hy,rfl⟩:=hv i v hP;have jq:dQ w h1 S xs:=hS.at' fun o e=>hm S o GV e;show wpAny _ A.in1 (holding [Value.str y tk] (setAdd S (.str y tk)) >>= _) _ _ _;refine ai (oU ?_);unfold setAdd;refine oU (ai ((cA prog w).pyHash (k:=.inr y) (qJ prog w y tk) ?_));refine Yi (s:={ s with heap:=h1,toks:=GW+1 }) jq (by omega) fun b h2 k2 S2=>?_;have ld:=GF xs y;have hd:ys.drop i=y::ys.drop (i+1):=by
   obtain⟨ri,e⟩:=bW.mp hy;rw[←e];exact List.drop_eq_getElem_cons ri
  refine aw ⟨sK LV _,ih (i+1) { s with heap:=h2,toks:=GW+1 } (ix xs y) (by omega) aR (W.frame _ h1 _ YY fun b hb o e=>?_) S2 (by omega) fun h' YZ zs kk Z mem=>?_⟩
  . rw[k2.2 b (fun h:b=S=>tX (by rw[←h];exact hb))];exact e
  . refine hR h' YZ zs (fun b o hb hw e=>kk b o hb hw ?_) Z fun z=>?_
    . rw[k2.2 b hb];exact hm b o hw e
    . rw[mem z,Yh,hd,cE];constructor
      . rintro((p | p) | p)
        . exact .inl p
        . exact .inr (.inl p)
        . exact .inr (.inr p)
      . rintro(p | p | p)
        . exact .inl (.inl p)
        . exact .inl (.inr p)
        . exact .inr p
theorem Y0{l:Addr}{items:Av}{ys:Ls}{Q:VP}(hh:A.handled=none)(hl:s.heap.IsList l items)(hv:∀(i:Nat) (v:Value),items[i]?=some v->∃y tk,ys[i]?=some y/\v=Value.str y tk)(hb:items.size<=500)(hn:ys.length=items.size)
 (q:∀h' tk zs,(∀b o,s.heap.get? b=some o->h'.get? b=some o)->dQ w h' s.heap.objs.size zs->(∀z,z∈zs↔z∈ys)->Q (.ref s.heap.objs.size) { s with heap:=h',toks:=tk }):wpAny (model prog w) A (call (.type "set") [.ref l]) Q E s:=by
 refine YU fun A' hA=>?_;have xC:(s.heap.push (kI w)).IsList l items:=hl.push _;obtain⟨ol,xD,nw,nl,GX⟩:=id hl;have tW:l<s.heap.objs.size:=bn xD;unfold Builtin.Frozenset.updateFrom;refine ai (YW (s:={ s with heap:=_ }) xC.typeIs ?_);rw[ap cr];refine ai (LH (s:={ s with heap:=_ }) xC.typeIs ?_);rw[ap (by decide)];refine ai (K9 (s:={ s with heap:=_ }) xC ?_);refine ai (wpAny_runValue ?_);have hz:(s.heap.push (kI w)).objs.size=s.heap.objs.size+1:=mZ _ _;have Y1:l≠(s.heap.push (kI w)).objs.size:=by rw[hz];exact ck (LM tW)
 refine YX (Walks.list (A:=A'.in1) (by rw[show A'.in1.handled=A'.handled from rfl,hA,hh]) _ l Y1 items) (S:=s.heap.objs.size) ?_ hv hb hn (items.size - 0) 0 _ [] (by omega) (fQ _) ⟨⟨_,em _ rfl,rfl,rfl⟩,xC.push _⟩
  ⟨_,_,_,_,bS _ (em _ rfl),YR⟩ (fQ _) fun h' tk zs k Z m=>?_
 . simp only[cE,o0,o5,not_or];exact⟨by rw[hz];exact ck (wc _),oV tW⟩
 . show wpAny _ _ _ _ _ _;refine aw (q h' tk zs (fun b o e=>k b o (ck (bn e)) (fun hb=>?_) (bS _ (bS _ e))) Z fun z=>by rw[m z];simp);have:=bn e;rw[gP.mp hb,hz]at this;exact absurd (Nat.lt_of_succ_lt this) (lm _)
end
section
variable {prog:Program}{w:World}{A:Around}{E:VP}{s:Shared}
end
def Y2(w:World)(H:Hp)(ys:Ls)(Q:VK):Prop:=∀r xs H',H r=none->af H H'->H' r=some (rj w r xs)->xs.Nodup->(∀z,z∈xs↔z∈ys)->Q (.ref r) H'
theorem dQ.nd{w:World}{h:Heap}{a:Addr}{xs:Ls}(x:dQ w h a xs):xs.Nodup:=x.elim fun _ Y3=>Y3.elim fun _ Y4=>Y4.elim fun _ Y5=>Y5.elim fun _ Y6=>Y6.elim fun _ X=>X.nd
theorem Y7{us:Lw}{ys:Ls}(h:StrsAre us ys):us.length=ys.length/\∀(i:Nat) (v:Value),us[i]?=some v->∃y tk,ys[i]?=some y/\v=Value.str y tk:=by
 induction h with
 | nil=>exact⟨rfl,fun i v e=>by cases e⟩
 | cons y t _ ih=>
  refine⟨by simp[ih.1],fun i v e=>?_⟩;cases i with
  | zero=>cases e;exact⟨y,t,rfl,rfl⟩
  | succ i=>exact ih.2 i v e
theorem GY:∀{ys:Ls}{us:Lw},aU (ys.map V.str) us->StrsAre us ys
 | [],us,r=>by cases r;exact .nil
 | y::ys,us,r=>by
  cases r with
  | cons a b=>
   obtain⟨t,rfl⟩:=a;exact .cons y t (GY b)
section
variable {X:Cx}
theorem GZ(hc:X.calm=true):gy X (.type "set") (fun vs H Q=>∃p ys,vs=[.ref p]/\ah X.K H p (ys.map V.str)/\ys.length<=500/\Y2 X.w H ys Q):=by
 intro pins s σ H xs us Q I r h;obtain⟨p,ys,rfl,hp,hz,q⟩:=h;obtain⟨u,rfl,ru⟩:=vals1 r;cases ru;obtain⟨its,rv,ht,hz'⟩:=I.list hp;have hs:=Y7 (GY rv);refine Y0 (I.ok.hd hc) ht.isList (ys:=ys) (fun i v e=>hs.2 i v (by simpa using e)) (by simp;omega) (by simp[hs.1]) fun h' tk zs k Z m=>?_;have hn:=I.hok.fresh (aS s.heap.objs.size);exact⟨.ref s.heap.objs.size,_,I.laid (t':=tk) (a:=s.heap.objs.size) (o:=rj X.w s.heap.objs.size zs) k (aS _) (YJ Z),rfl,q _ zs _ hn (jV hn) bf Z.nd m⟩
end
open PySem.W (tabObj)
section
variable {X:Cx}{c P:Addr}{params:Arguments}{body:Expr}{scope:Scope}{pos:Pos}{qual:Str}
end
end L2
namespace L2
open PySem PySem.Spec PyProof.Rows
section
variable {X:Cx}
end
section
variable {X:Cx}{tg:Expr}
end
theorem Inv.turnedL{X:Cx}{pins:Po}{σ:St}{H:Hp}{s:Shared}{h':Heap}{t':Nat}{fp:List Addr}(I:Inv X pins σ H s)(k:∀b o,b∉fp->s.heap.get? b=some o->h'.get? b=some o)(hf:∀b∈fp,jM X pins H b):Inv X pins σ H { s with heap:=h',toks:=t' }:=by
 have sQ:∀b u,H b=some u->b∉fp:=fun b u e z=>by rw[(hf b z).1]at e;cases e
 have hL:X.env.locals∉fp:=fun z=>(hf _ z).2.1 rfl;refine I.step (g':=s.gens) (d':=s.drawn) (ch:=fp) (fun b hb=>?_) (fun b o _ _ hc e _=>k b o hc e) (fun b o _ _ hc e _=>⟨o.slots,k b o hc e⟩) (fun _ _ _ _ n=>n)
  (fun b o hc e=>⟨o,k b o hc e⟩) (fun _ _ e=>e) (fun _ _ _ e=>e) (fun b ps e=>⟨#[],by rw[e];simp⟩) (fun m hm=>?_) (fun b u e=>?_) I.bare
 . obtain⟨f0,f1,f2,f3,f4,f5⟩:=hf b hb;exact⟨f3,f1,f4,f5⟩
 . obtain⟨o,es,ep,ho,r⟩:=hm;exact⟨o,es,ep,k _ o hL ho,r⟩
 . refine(I.hok b u e).stay (fun c v hc q=>k c v ?_ q) (fun _ q=>q) fun _ _ q=>q
   rcases hc with z | z
   . rw[z];exact sQ b u e
   . exact sQ c _ z
section
variable {X:Cx}
end
section
variable {prog:Program}{w:World}{A:Around}{E:VP}{s:Shared}
end
section
variable {X:Cx}
end
theorem take_snoc{α:Type}{ys:List α}{i:Nat}{y:α}(h:ys[i]?=some y):ys.take (i+1)=ys.take i++[y]:=by
 rw[List.take_succ,h];rfl
section
variable {g:TG}{te:TE}{H1:Hp}{Q:Addr->Hp->Prop}
theorem BC{K:Fg}{a:Addr}{xs:Lv}{σ0:St}(hx:ah K H1 a xs)(S:St->Prop)(ys:Lv)(hl:ys.length=xs.length)(big:xs.length<=sizeLine)(s0:S σ0)
 (turn:∀(i:Nat) x y σ H (k:St->V->Hp->Prop),xs[i]?=some x->ys[i]?=some y->S σ->af H1 H->(∀σ3 H5,S σ3->af H H5->k σ3 y H5)->g x σ H fun σ3 H3=>te σ3 H3 (k σ3))
 (done:∀D H,H1 D=none->H D=some (.lst ys)->af H1 H->Q D H) :
 ∀D,H1 D=none->∃W:Nat->Nat->St->Hp->Prop,(∃m,W 0 m σ0 (al H1 D (.lst [])))/\jX (kG K a) g pC te D (fun H'=>Q D H') W:=by
 refine Xs hx S (fun i zs _=>zs=ys.take i) s0 (fun _ _=>rfl) (fun D i x zs σ H k a1 a2 a3 a4 a5 a6 a7=>?_) fun D zs H a1 a2 a3 a4=>?_
 . have hi:i<ys.length:=by rw[hl];exact(bW.mp a2).1
   have hy:=dg hi;refine turn i x ys[i] σ H k a2 hy a3 a5 fun σ3 H5 b1 b2=>a7 σ3 _ H5 b1 b2 ?_ ?_
   . rw[a6,eV];omega
   . rw[a6,take_snoc hy]
 . rw[a4,←hl,eB]at a2;exact done D H a1 a2 a3
end
end L2
namespace HT
open PySem PyProof.Rows
abbrev At:=Int ⊕ Str
section
open PySem.SeqAt
open PySem.AutoSeq1 (wpAny_loadPart')
open PySem.MeetsSeq PySem.MeetsSeq2 PySem.MeetsSeq3
end
section
variable {prog:Program}{w:World}{A:Around}{E:VP}{s:Shared}
end
end HT
namespace L2
open PySem PyProof.Rows
section
variable {n:Nat}{f:Nat->Nat->Bool}(tR:∀i j,i<n->j<n->i≠j->f i j = !f j i)(tr:∀i j k,i<n->j<n->k<n->f i j=true->f j k=true->f i k=true)
include tR tr
omit tR tr in
omit tR tr in
end
open PySem.Spec
open HT (At)
def aV:At->V
 | .inl n=>.int n
 | .inr x=>.str x
section
variable {prog:Program}{w:World}{A:Around}{E:VP}{s:Shared}
end
section
variable {X:Cx}
end
end L2
namespace HT
open PySem PyProof.Rows
theorem Y8(A:Around)(s:Shared)(a:Int)(t:Tok)(c:Int)(u:Tok)(prog:Program)(w:World)(E:VP)(Q:VP)(h:Q (.bool (decide (a<=c))) s) :
 wpAny (model prog w) A (richCompare .LtE (.int a t) (.int c u)) Q E s:=
 (PyProof.Rows.le_int h:wpAny (model prog w) A (compareOp .LtE (.int a t) (.int c u)) Q E s)
section
open PySem.SeqAt
open PySem.AutoSeq1 (wpAny_loadPart')
open PySem.MeetsSeq PySem.MeetsSeq2 PySem.MeetsSeq3
theorem Y9(l b:Addr)(items cu:Av)(n n2:Nat)(dd fU:Oa)(sl dv:Array (Option Value))(ns ms:List Int)(hi:IntsAre items.toList ns)(hj:IntsAre cu.toList ms) :
 Meets (Builtin.«tuple.__le__» ⟨[.ref l,.ref b],[]⟩)
  (fun _ R s=>s.heap.get? l=some { cls:=.type "tuple",dict:=dd,data:=.seq items n,slots:=sl }/\s.heap.get? b=some { cls:=.type "tuple",dict:=fU,data:=.seq cu n2,slots:=dv } /\
   R (.ok (.ret (.bool (!lexLt ms ns)))) s):=
 .of_wp fun prog w A R s h=>by
  obtain⟨hp,g,d,tk,os⟩:=s;obtain⟨hl,hb,h⟩:=h;have f2:=Lm;have z1:items.size=ns.length:=by rw[←hi.length];simp
  have z2:cu.size=ms.length:=by rw[←hj.length];simp
  wp_walk using wpAny_loadPart' hl,wpAny_loadPart' hb,sE _ (fun rest b s'=>b.1=none/\s'=⟨hp,g,d,tk,os⟩/\∃(vs ws:Lw) (eX eY:List Int),rest=vs.zip ws /\
   IntsAre vs eX/\IntsAre ws eY/\eX.length+cu.size=eY.length+items.size/\R (.ok (.ret (.bool (!lexLt eY eX)))) ⟨hp,g,d,tk,os⟩) _
  case turn=>
   rintro⟨y,x⟩ rest b s' ⟨jP,rfl,vs,ws,eX,eY,hz,jQ,fw,hlen,hR⟩;cases jQ with
   | nil=>rw[Ln]at hz;cases hz
   | cons a t tq=>
    cases fw with
    | nil=>rw[Lo]at hz;cases hz
    | cons c u tu=>
     rw[sG]at hz;injection hz with gA hrest
     injection gA with hy hx
     subst hy hx;rw[pz]at hR;simp only[cV]at hlen;obtain⟨e,he,nk⟩:=AL A.in1 ⟨hp,g,d,tk,os⟩ a t c u;refine ai (he prog w _ _ ?_);cases e with
     | true=>
      rw[aB (nk.mp rfl).symm]at hR
      wp_walk
      exact⟨rfl,rfl,_,_,_,_,hrest,tq,tu,by omega,hR⟩
     | false=>
      have jo:a≠c:=fun q=>absurd (nk.mpr q) cr;rw[ap (gM jo)]at hR;have tw:=Y8 A.in1 ⟨hp,g,d,tk,os⟩ a t c u prog w;have eb:(!decide (c<a))=decide (a<=c):=by
       by_cases q:c<a
       . rw[aE q,ba (by omega)];rfl
       . rw[ba q,aE (by omega)];rfl
      rw[eb]at hR
      wp_walk using tw
      exact⟨_,rfl,by simpa using hR⟩
  case fin=>
   rintro⟨b1,b2⟩ s' ⟨jP,rfl,vs,ws,eX,eY,hz,jQ,fw,hlen,hR⟩;simp only at jP;subst jP;have hv:(!lexLt eY eX)=decide (items.size<=cu.size):=by
    cases jQ with
    | nil=>
     cases fw with
     | nil=>
      simp only[ji]at hlen;rw[AI];exact(aE (by omega)).symm
     | cons c u hw=>
      simp only[ji,cV]at hlen;rw[AK];exact(aE (by omega)).symm
    | cons a t hv=>
     cases fw with
     | nil=>
      simp only[ji,cV]at hlen;rw[AJ];exact(ba (by omega)).symm
     | cons c u hw=>
      rw[sG]at hz;cases hz
   rw[hv]at hR
   wp_walk
   exact⟨_,rfl,by simpa [Builtin.Tuple.tupleCompareSizes]using hR⟩
  case h=>
   exact⟨rfl,rfl,items.toList,cu.toList,ns,ms,rfl,hi,hj,by omega,h⟩
end
section
variable {prog:Program}{w:World}{A:Around}{E:VP}{s:Shared}
theorem Za{l b:Addr}{items cu:Av}{ns ms:List Int}{Q:VP}(hl:IsTup s.heap l items)(hb:IsTup s.heap b cu)(hi:IntsAre items.toList ns)(hj:IntsAre cu.toList ms)
 (hu:A.units<cLine) (h:Q (.bool (!lexLt ms ns)) s):wpAny (model prog w) A (compareOp .LtE (.ref l) (.ref b)) Q E s:=by
 obtain⟨⟨cls,dd,data,sl⟩,ho,hc,n,hd⟩:=id hl;obtain⟨⟨AM,fU,data2,dv⟩,jR,fV,n2,hd2⟩:=id hb;simp only at hc hd fV hd2;subst hc hd fV hd2;exact Lq (op:=.LtE) ⟨_,ho,rfl⟩ ⟨_,jR,rfl⟩ PySem.F.slot_tuple_le PySem.F.entry_tuple_le (PySem.F.args_tuple_le_2 _ _) (Y9 l b items cu n n2 dd fU sl dv ns ms hi hj)
  ⟨ho,jR,show Value.bool (!lexLt ms ns)≠Value.notImplemented/\Q (.bool (!lexLt ms ns)) s from ⟨(fun x=>nomatch x),h⟩⟩ hu
end
end HT
namespace L2
open PySem PySem.Spec PyProof.Rows
section
variable {X:Cx}
def Zb(K:Fg):R2:=fun x y H Q=>∃a b ns ms,x=.ref a/\y=.ref b/\ak K H a (ns.map V.int)/\ak K H b (ms.map V.int)/\Q (.bl (!HT.lexLt ms ns)) H
theorem Zc(hu:X.A.units<cLine):bI X (compareOp .LtE) (Zb X.K):=by
 intro pins s σ H x y v u Q I rx ry h;obtain⟨a,b,ns,ms,rfl,rfl,ha,hb,q⟩:=h;cases rx;cases ry;obtain⟨its,r,p,_⟩:=I.tuple ha;obtain⟨jm,r2,p2,_⟩:=I.tuple hb;exact HT.Za p p2 (by simpa using intsAre_of r) (by simpa using intsAre_of r2) hu ⟨.bl _,H,I,rfl,q⟩
theorem G6{a:Str}(h:fY a):∀(k:Nat) (b:Array Nat),(∀c∈b.toList,c<0x110000)->fY ⟨(List.replicate k a.cps).foldl (· ++ ·) b⟩/\Str.length ⟨(List.replicate k a.cps).foldl (· ++ ·) b⟩=b.size+k * a.length
 | 0,b,hb=>⟨tJ.mpr hb,by show b.size=_;omega⟩
 | k+1,b,hb=>by
  rw[List.replicate_succ,List.foldl_cons];obtain⟨e1,e2⟩:=G6 h k (b++a.cps) (fun c hc=>by
   rw[Array.toList_append]at hc
   rcases gN.mp hc with z | z
   . exact hb c z
   . exact tJ.mp h c z)
  refine⟨e1,e2.trans ?_⟩;have:a.length=a.cps.size:=rfl;rw[Array.size_append,Nat.succ_mul];omega
theorem G7:bI X (binaryOp .Mult) (fun x y H Q=>∃(a:Str) (n:Int),x=.str a/\y=.int n/\0<=n/\n<=9/\a.length<=9/\fY a/\∀z:Str,fY z->z.length<=n.toNat * a.length->Q (.str z) H):=by
 intro pins s σ H x y v u Q I rx ry h;obtain⟨a,n,rfl,rfl,h0,h9,hl,ok,q⟩:=h;obtain⟨t,rfl⟩:=rx;obtain⟨t',rfl⟩:=ry;have b1:n.toNat * a.length<=81:=Nat.mul_le_mul (show n.toNat<=9 by omega) hl;refine PySem.P.mul_str (by rw[ba (by omega),ba (by omega)];rfl) (fun h1 h2 h3=>?_) (fun h1 h2=>?_) ?_
 . have:(9:Int)<=(2 ^ 63 - 1) / n:=(Int.le_ediv_iff_mul_le (by omega)).mpr (by omega);omega
 . exact ba (by rw[Nat.mul_comm];exact Nat.not_lt.mpr (eU b1 (by decide)))
 . by_cases h1:n<1
   . rw[aB h1];exact⟨by decide,.str Str.empty,H,I.tok _,⟨_,rfl⟩,q _ (by decide +kernel) (fQ _)⟩
   rw[ap h1]
   by_cases h2:(n == 1 || a.length == 0)=true
   . rw[aB h2];refine⟨.str a,H,I,⟨_,rfl⟩,q _ ok ?_⟩;rw[Bool.or_eq_true]at h2
     rcases h2 with h2 | h2
     . have:=eq_of_beq h2;subst this;exact Es (Nat.one_mul _).symm
     . have:=eq_of_beq h2;omega
   . rw[ap h2];obtain⟨e1,e2⟩:=G6 ok n.toNat #[] (fun c hc=>by simp at hc);refine⟨?_,.str _,H,I.tok _,⟨_,rfl⟩,q _ e1 (by rw[e2];simp)⟩;have sz:(#[]:Array Nat).size=0:=rfl;exact iw (by rw[sz]at e2;omega)
end
def rm(h:Heap)(d:Addr)(es:Array DictEntry)(ep:Nat):Prop:=∃o,h.get? d=some o/\o.cls=.type "dict"/\o.data=.dict es ep
theorem rm.typeIs{s:Shared}{d:Addr}{es:Array DictEntry}{ep:Nat}(x:rm s.heap d es ep):s.TypeIs (.ref d) "dict":=x.elim fun o Zd=>Zd.elim fun e Ze=>Ze.elim fun c _=>⟨o,e,c⟩
section
variable {prog:Program}{w:World}{A:Around}{E:VP}{s:Shared}{d it:Addr}{es:Array DictEntry}{ep i:Nat}
theorem Zf{Q:VP}(hd:(d == sysModules)=false)(hm:rm s.heap d es ep)(hQ:Q (.ref s.heap.objs.size) { s with heap:=s.heap.push { cls:=.type "dict_keyiterator",data:=.fields #[.ref d,.int 0 0,.int es.size 0,.int ep 0] } }) :
 wpAny (model prog w) A (pyIter (.ref d)) Q E s:=by
 obtain⟨o,ho,hc,G8⟩:=id hm;refine LU hm.typeIs agJ (mY agJ hm.typeIs PySem.F.entry_dict_iter ?_ (PySem.F.args_dict_iter_1 _));unfold Builtin.«dict.__iter__»;refine ai ?_;unfold Builtin.Dict.dictSlotNone;refine ai (wpAny_notOrdered_dict hm.typeIs ?_);show wpAny _ _ (pure (Value.ref d)) _ _ s;refine aw ?_;show wpAny _ _ (Builtin.Dict.showsAll d >>= _) _ _ s;unfold Builtin.Dict.showsAll;rw[ap (by rw[hd];exact cr)];refine ai (aw (ai (LW ho G8 (ai (LX ho G8 ?_)))));exact ai (qG (aw ⟨_,rfl,"dict_keyiterator",_,⟨_,em _ rfl,rfl⟩,Ae.lookup,hQ⟩))
theorem Zg{Q:Option Value->Shared->Prop}(hit:s.heap.IsKeyIter it d i es.size ep)(hm:rm s.heap d es ep)(hx:i<es.size)(hQ:∀h',h'.IsKeyIter it d (i+1) es.size ep->Heap.SameBut it s.heap h'->Q (some es[i].key) { s with heap:=h' }) :
 wpAny (model prog w) A (pyNext (.ref it)) Q E s:=by
 obtain⟨o,ho,hc,hd⟩:=id hit;obtain⟨od,jr,ik,j5⟩:=id hm;unfold pyNext;refine ai (LQ (LR (name:=Str.ofString "__next__") hit.typeIs Ae (mY Ae hit.typeIs agK ?_ (agL _))));refine ai (aw (ai (ai ?_)))
 first | refine ai (EC hit.typeIs (aw ?_)) | refine ai (ED hit.typeIs (aw ?_));skip
 refine ai (LS ho hd ?_);have BD:Builtin.Dict_items.ownsTuple "dict_keyiterator"=false:=by decide
 simp only[BD,kC,ic];show wpAny _ _ (if (Value.ref d == Value.none)=true then _ else _) _ _ s;rw[ap (show ¬((Value.ref d == Value.none)=true) from cr)];refine ai (aw (ai (LW jr j5 ?_)));rw[ap (by simp)];refine ai (aw (ai (LX jr j5 ?_)));rw[ap (by simp)];refine aw ?_;simp only[show ¬((i:Int)<0) from by omega,ic,Lr,Ad hx];refine ai ?_
 first | refine ai (EC hit.typeIs (aw ?_)) | refine ai (ED hit.typeIs (aw ?_));skip
 refine ai (agM hit.typeIs ?_);show wpAny _ _ (setField (.ref it) 1 (rawInt ((i:Int)+1)) >>= _) _ _ s;refine ai (Ac ho hd (by simp) ?_);have G9:(s.heap.update it (Obj.mapFields (·.setIfInBounds 1 (rawInt ((i:Int)+1))))).IsKeyIter it d (i+1) es.size ep:=
  ⟨_,wn _ ho (LO (wp hd _)),(LP ..).trans hc,by rw[wp hd];simp[rawInt]⟩
 refine ai (oU (ai (agM (s:={ s with heap:=s.heap.update it (Obj.mapFields (·.setIfInBounds 1 (rawInt ((i:Int)+1)))) }) G9.typeIs ?_)));show wpAny _ _ (pure es[i].key) _ _ _;exact aw (aw ⟨_,rfl,aw (hQ _ G9 (sJ ..))⟩)
theorem Zh{Q:Option Value->Shared->Prop}(hh:A.handled=none)(hit:s.heap.IsKeyIter it d i es.size ep)(hm:rm s.heap d es ep)(Zi:es.size<=i)(hQ:∀h',Heap.ExtBut it s.heap h'->Q none { s with heap:=h' }):wpAny (model prog w) A (pyNext (.ref it)) Q E s:=by
 obtain⟨o,ho,hc,hd⟩:=id hit;obtain⟨od,jr,ik,j5⟩:=id hm;unfold pyNext;refine ai (LQ (LR (name:=Str.ofString "__next__") hit.typeIs Ae (mY Ae hit.typeIs agK ?_ (agL _))));refine ai (aw (ai (ai ?_)))
 first | refine ai (EC hit.typeIs (aw ?_)) | refine ai (ED hit.typeIs (aw ?_));skip
 refine ai (LS ho hd ?_);have BD:Builtin.Dict_items.ownsTuple "dict_keyiterator"=false:=by decide
 simp only[BD,kC,ic];show wpAny _ _ (if (Value.ref d == Value.none)=true then _ else _) _ _ s;rw[ap (show ¬((Value.ref d == Value.none)=true) from cr)];refine ai (aw (ai (LW jr j5 ?_)));rw[ap (by simp)];refine ai (aw (ai (LX jr j5 ?_)));rw[ap (by simp)];refine aw ?_;simp only[show ¬((i:Int)<0) from by omega,ic,Lr,agD Zi];refine ai ?_
 first | refine ai (EC hit.typeIs (aw ?_)) | refine ai (ED hit.typeIs (aw ?_));skip
 show wpAny _ _ (setField (.ref it) 0 .none >>= _) _ _ s;refine ai (Ac ho hd (by simp) ?_);show wpAny _ _ (newExc (.type "StopIteration") [] >>= _) _ _ _;refine ai ?_;simp only[newExc,newTuple];refine ai (qG ?_ (by size_fits));refine ai (m:=firstArgMember _ _) (wpAny_of_eq (a:=Value.none) (by first | rfl | (simp only[firstArgMember];rfl)) ?_);refine qG ?_ (by size_fits);simp only[raiseNew];refine ai (wpAny_handled ?_);rw[show A.in1.handled=none from hh];refine ai (aw (wpAny_throw ?_));refine ai (qE (T:="StopIteration") (b:=true) ⟨_,em _ rfl,rfl⟩ isSubtype_stop (aw (hQ _ (((sJ ..).extBut.push _).push _))))
end
section
variable {X:Cx}{pins:Po}{σ:St}{H:Hp}{s:Shared}
theorem Inv.freezeT{d:Addr}{ab:List (List NI×V)}{o:Obj}(I:Inv X pins σ H s)(e:H d=some (.dT ab))(ho:s.heap.get? d=some o):Inv X pins σ (al H d (.frz o (.dT ab))) s:=by
 have ne:∀b u,H b=some u->(∀ks,u≠.dT ks)->b≠d:=fun b u q hu z=>by rw[z,e]at q;cases q;exact hu _ rfl
 refine I.rehp (fun b q=>?_) (fun b xs q=>?_) (fun b o' u q=>?_) (fun b ps q=>?_) fun b u q=>?_
 . rw[bc (fun z=>by rw[z,e]at q;cases q)];exact q
 . rw[bc (ne b _ q (by intro ks z;cases z))];exact q
 . have q:=I.base.frzs b o' u q;rw[bc (ne b _ q (by intro ks z;cases z))];exact q
 . rw[bc (ne b _ q (by intro ks z;cases z))];exact q
 . have up:∀{c:Addr}{w:HO},H c=some w->(∀ks,w≠.dT ks)->al H d (.frz o (.dT ab)) c=some w:=fun {c w} hc hw=>by rw[bc (ne c _ hc hw)];exact hc
   by_cases z:b=d
   . subst z;rw[bf]at q;cases q;exact⟨ho,(I.hok b _ e).stay (fun _ _ _ q=>q) (fun c hc=>up hc (by intro ks z;cases z)) fun c xs hc=>up hc (by intro ks z;cases z)⟩
   . rw[bc z]at q;exact(I.hok b _ q).stay (fun _ _ _ q=>q) (fun c hc=>up hc (by intro ks z;cases z)) fun c xs hc=>up hc (by intro ks z;cases z)
theorem Inv.thawT{d:Addr}{ab:List (List NI×V)}{o:Obj}(I:Inv X pins σ H s)(e:H d=some (.frz o (.dT ab)))(hz:∀o' u,X.H₀ d≠some (.frz o' u)):Inv X pins σ (al H d (.dT ab)) s:=by
 have ne:∀b u,H b=some u->(∀o' u',u≠.frz o' u')->b≠d:=fun b u q hu z=>by rw[z,e]at q;cases q;exact hu _ _ rfl
 have up:∀{c:Addr}{w:HO},H c=some w->(∀o' u',w≠.frz o' u')->al H d (.dT ab) c=some w:=fun {c w} hc hw=>by rw[bc (ne c _ hc hw)];exact hc
 refine I.rehp (fun b q=>?_) (fun b xs q=>up q (by intro _ _ z;cases z)) (fun b o' u q=>?_) (fun b ps q=>up q (by intro _ _ z;cases z)) fun b u q=>?_
 . rw[bc (fun z=>by rw[z,e]at q;cases q)];exact q
 . have nb:b≠d:=fun z=>hz o' u (z▸q);rw[bc nb];exact I.base.frzs b o' u q
 . by_cases z:b=d
   . subst z;rw[bf]at q;cases q;exact(show bX X.prog X.w H s.heap b (.dT ab) from (show bX X.prog X.w H s.heap b (.frz o (.dT ab)) from I.hok b _ e).2).stay (fun _ _ _ q=>q) (fun c hc=>up hc (by intro _ _ z;cases z)) fun c xs hc=>up hc (by intro _ _ z;cases z)
   . rw[bc z]at q;exact(I.hok b _ q).stay (fun _ _ _ q=>q) (fun c hc=>up hc (by intro _ _ z;cases z)) fun c xs hc=>up hc (by intro _ _ z;cases z)
end
def BE(d:Addr)(ab:List (List NI×V))(o:Obj):It:=
 ⟨fun i H=>H d=some (.frz o (.dT ab))/\i<ab.length,fun i H x H'=>∃k v b,ab[i]?=some (k,v)/\x=.ref b/\fS H k b/\H'=H,fun i H=>H d=some (.frz o (.dT ab))/\ab.length<=i⟩
theorem BF{P:Program}{w:World}{H:Hp}{h:Heap}{d:Addr}{ab:List (List NI×V)}(ok:bX P w H h d (.dT ab)):(d == sysModules)=false/\∃es ep,rm h d es ep/\es.size=ab.length/\(∃o,h.get? d=some o/\Bj o=ep)/\∀(i:Nat) (k:List NI) (v:V),ab[i]?=some (k,v)->∃(e:DictEntry) (b:Addr),es[i]?=some e/\e.key=Value.ref b/\fS H k b:=by
 obtain⟨_,y,xs,r,o,es,ep,h1,h2,h3,h4,_⟩:=ok;have hl:=wb r;have hs:es.size=xs.length:=by have:=kD List.length h4;simpa using this
 refine⟨y,es,ep,⟨o,h1,h2.1,h3⟩,by omega,⟨o,h1,by unfold Bj;rw[h3]⟩,fun i k v hi=>?_⟩;have get:∀{l:List (List NI×V)}{m:List (List NI×Addr×Value)},Paired (fun(p:List NI×V) (q:List NI×Addr×Value)=>p.1=q.1/\fS H p.1 q.2.1/\RelV p.2 q.2.2) l m->∀{i:Nat},l[i]?=some (k,v)->∃q,m[i]?=some q/\fS H k q.2.1:=by
  intro l m q
  induction q with
  | nil=>intro i h;cases h
  | @cons p q ps qs hq t ih=>
   intro i h;cases i with
   | zero=>cases h;exact⟨q,rfl,hq.2.1⟩
   | succ i=>exact ih h
 obtain⟨q,hq,hn⟩:=get r hi;refine⟨entryOfKey (lD P w) q,q.2.1,?_,rfl,hn⟩;rw[←sI,h4,dq,hq];rfl
theorem Zj{P:Program}{w:World}{K:Fg}{tg:Expr}(d it:Addr)(ab:List (List NI×V))(o:Obj):o9 P w K tg (BE d ab o) [it] it (fun i h=>h.IsKeyIter it d i ab.length (Bj o)) where
 mem:=by simp
 obj:=fun i h st b hb=>by
  have e:b=it:=by simpa using hb
  subst e;obtain⟨o,e,c,d⟩:=st;exact⟨o,e,fun v z=>by rw[d]at z;cases z⟩
 keep:=fun i h h' st k=>st.elim fun o Zk=>Zk.elim fun e r=>⟨o,k it (by simp) o e,r⟩
 item:=by
  intro X hP hw hK hc i pins s σ H E I hf st hg;subst hP hw hK;obtain⟨hd,aR⟩:=hg;obtain⟨f0,f1,f2,f3,f4,f5⟩:=hf it (by simp);obtain⟨ho,o7⟩:=(show bX X.prog X.w H s.heap d (.frz o (.dT ab)) from I.hok d _ hd);obtain⟨_,es,ep,hr,hsz,⟨o',fo,rn⟩,hk⟩:=BF o7;rw[ho]at fo;cases fo;obtain⟨kv,Ha⟩:∃kv,ab[i]?=some kv:=⟨_,dg aR⟩;obtain⟨k,v⟩:=kv;obtain⟨e,b,he,hb,hn⟩:=hk i k v Ha;rw[←hsz,rn]at st;have hi:i<es.size:=by omega
  refine Zg st hr hi fun h' dO sb=>?_;have I1:Inv X pins σ H { s with heap:=h' }:=I.turned (t':=s.toks) (fun b o hb e=>(sb.2 b hb).trans e) f0 f1 f3 f4 f5;obtain⟨oi,ei,ci,di⟩:=id dO;have AB:es[i].key=.ref b:=by rw[Ad hi]at he;cases he;exact hb
  rw[hsz,←rn]at dO;exact⟨_,rfl,Ar (s:={ s with heap:=h' }) ei ci di (by decide) ⟨.ref b,H,I1,AB,⟨k,v,b,Ha,rfl,hn,rfl⟩,dO,fun b hb=>(hf b hb).1⟩⟩
 done:=by
  intro X hP hw hK hc i pins s σ H E I hf st hg;subst hP hw hK;obtain⟨hd,hle⟩:=hg;obtain⟨f0,f1,f2,f3,f4,f5⟩:=hf it (by simp);obtain⟨ho,o7⟩:=(show bX X.prog X.w H s.heap d (.frz o (.dT ab)) from I.hok d _ hd);obtain⟨_,es,ep,hr,hsz,⟨o',fo,rn⟩,hk⟩:=BF o7;rw[ho]at fo;cases fo;rw[←hsz,rn]at st;exact Zh (I.ok.hd hc) st hr (by omega) fun h' eb=>⟨rfl,I.turned (t':=s.toks) (fun b o hb e=>eb b o hb e) f0 f1 f3 f4 f5⟩
 self:=fun _ _ _ _ _ st h=>wpAny_pyIter_keyiter st h
theorem Zl{tg e:Expr}{X:Cx}{td:TE}(ho:PE X e td):PI X tg e (fun σ H R=>td σ H fun x H1=>∃d ab,x=.ref d/\H1 d=some (.dT ab)/\∀ob,(∀o' u,X.H₀ d≠some (.frz o' u))->R (BE d ab ob) (al H1 d (.frz ob (.dT ab)))):=by
 intro pins s σ H R I h;refine thn (ho pins s σ H _ I h) fun v s1 Zm=>Zm.elim fun x Zn=>Zn.elim fun H1 Zo=>Zo.elim fun I1 Zp=>Zp.elim fun r1 Zq=>Zq.elim fun d Zr=>Zr.elim fun ab Zs=>Zs.elim fun e Zt=>Zt.elim fun ed q=>?_;subst e;cases r1;obtain⟨lo,es,ep,hr,hsz,⟨o',fo,rn⟩,hk⟩:=BF (show bX X.prog X.w H1 s1.heap d (.dT ab) from I1.hok d _ ed);refine Zf lo hr ?_;have hz:∀o' u,X.H₀ d≠some (.frz o' u):=fun o' u hq=>by
  have:=I1.base.frzs d o' u hq;rw[ed]at this;cases this
 have I2:Inv X pins σ H1 { s1 with heap:=s1.heap.push { cls:=.type "dict_keyiterator",data:=.fields #[.ref d,.int 0 0,.int es.size 0,.int ep 0] } }:=I1.kept (t':=s1.toks) fun b o e=>bS _ e;have hn:=I1.hok.fresh (aS s1.heap.objs.size);refine⟨_,[_],_,_,_,rfl,I2.freezeT ed (bS _ fo),Zj d _ ab o',?_,fun b hb=>?_,q o' hz⟩
 . rw[←hsz,rn];exact⟨_,em _ rfl,rfl,rfl⟩
 . have e:b=s1.heap.objs.size:=by simpa using hb
   subst e;refine I1.fpOk (aS _) ?_;rw[bc (gM (bF ed hn))];exact hn
section
variable {X:Cx}{e e1 e2 e3 e4:Expr}{te t1 t2 t3 t4:TE}{pos:Pos}
end
def Hb(H1:Hp)(d:Addr)(ab:List (List NI×V))(σ0:St)(g:TG)(tt:TT)(te:TE)(Q:VK):Prop:=∀ob D,al H1 d (.frz ob (.dT ab)) D=none ->
 ∃W:Nat->Nat->St->Hp->Prop,(∃m,W 0 m σ0 (al (al H1 d (.frz ob (.dT ab))) D (.lst [])))/\jX (BE d ab ob) g tt te D (fun H'=>H' d=some (.frz ob (.dT ab))/\Q (.ref D) (al H' d (.dT ab))) W
def Zu(td:TE)(n:Nat)(js:List Nat)(g:TG)(tt:TT)(te:TE):TE:=fun σ H Q=>td σ H fun x H1=>∃d ab,x=.ref d/\H1 d=some (.dT ab)/\Hb H1 d ab (compStart n js σ) g tt te Q
section
variable {X:Cx}
theorem Hc{elt tg iter:Expr}{ifs:List Expr}{sc:Scope}{pos:Pos}(own aW:Ls)(js:List Nat){td:TE}{g:TG}{tt:TT}{te:TE}(S:iZ X own aW js sc)(hc:X.calm=true)(hi:PE X iter td)
 (hg:∀s₀ H₀ C ex,PG (cp X (own++aW) sc s₀ H₀ C ex) tg g) (ht:∀s₀ H₀ C ex,gB (cp X (own++aW) sc s₀ H₀ C ex) ifs tt) (he:∀s₀ H₀ C ex,PE (cp X (own++aW) sc s₀ H₀ C ex) elt te)
 (hs:∀x,foldedSetIterable iter X.env x=pure x:=by intro _;rfl):PE X (.ListComp elt [⟨tg,iter,ifs,0⟩] sc pos) (Zu td own.length js g tt te):=by
 intro pins s σ H Q I h;refine thn (fA own aW js S hc (Zl hi.weak) hg ht he hs pins s σ H (fun v H'=>∃d ab ob,H' d=some (.frz ob (.dT ab))/\(∀o' u,X.H₀ d≠some (.frz o' u))/\Q v (al H' d (.dT ab))) I ⟨_,h,fun x H1 Zv=>Zv.elim fun d Zw=>Zw.elim fun ab Zx=>Zx.elim fun e Zy=>Zy.elim fun ed q=>⟨d,ab,e,ed,fun ob hz D hD=>?_⟩⟩) fun u s' Zz=>Zz.elim fun v ZA=>ZA.elim fun H' ZB=>ZB.elim fun I' ZC=>ZC.elim fun r ZD=>ZD.elim fun d ZE=>ZE.elim fun ab ZF=>ZF.elim fun ob ZG=>ZG.elim fun hd ZH=>ZH.elim fun hz q=>⟨v,_,I'.thawT hd hz,r,q⟩;obtain⟨W,w0,ask⟩:=q ob D hD;refine⟨W,w0,fun i m σ H hw=>?_⟩
 rcases ask i m σ H hw with⟨a,b⟩ | z
 . exact .inl ⟨a,d,ab,ob,b.1,hz,b.2⟩
 . exact .inr z
end
open PySem.W
section
variable {M:Model}{A:Around}{E:VP}{s:Shared}{base:Heap}{env:Env}{outer:List Env}{L e:Addr}{cls:Value}{dct:Oa}{Q:Unit->Shared->Prop}
end
open PySem.Builtin PySem.Builtin.ObjectAttr
section
variable {prog:Program}{w:World}{A:Around}{E:VP}{h:Heap}{g:Array GenState}{d:Drawn}{t:Nat}{os:OsState}{K:Fg}{C M fI:Addr}{fld:Str}
end
end L2
namespace L2
open PySem PySem.Spec PyProof.Rows PySem.W
section
variable {X:Cx}{pins:Po}{σ:St}{H:Hp}{s:Shared}
end
section
variable {X:Cx}{pins:Po}{σ:St}{H:Hp}{s:Shared}{E:XK}
end
section
variable {P:Program}{w:World}{K:Fg}{mg:Mv}{base:Heap}{N:Ls}{qual:Str}{scope:Scope}{f:Addr}{cd:Value}{A:Around}{outer:List Env}{s0:Shared}{H0:Hp}{E:XK}
end
section
variable {prog:Program}{w:World}{A:Around}{E:VP}{s:Shared}{env:Env}{K:Fg}{C M fI:Addr}{fld:Str}
end
section
variable {P:Program}{w:World}{K:Fg}{mg:Mv}{base:Heap}{N:Ls}{qual:Str}{scope:Scope}{f:Addr}{cd:Value}{A:Around}{outer:List Env}{s0:Shared}{H0:Hp}{E:XK}
end
open PySem.Builtin PySem.Builtin.ObjectAttr PySem.Builtin.Getset_descriptor
section
variable {X:Cx}
end
section
variable {prog:Program}{w:World}{A:Around}{E:VP}{s:Shared}{K:Fg}{D a:Addr}{fld:Str}{v:Value}
end
section
variable {X:Cx}
end
end L2
namespace L2
open PySem PySem.Spec PyProof.Rows
section
variable {X:Cx}
end
open PySem.Builtin.Str in
open PySem.Builtin PySem.Builtin.Str in
section
variable {X:Cx}
end
open HT (At)
section
variable {X:Cx}{pins:Po}{σ:St}{H0:Hp}{l q I S:Addr}{as:List Addr}{ks:Nat->List At}{R:Result->Shared->Prop}{Q:VP}{E:VP}
end
def xE(P:Addr)(H H':Hp):Prop:=∀b o,H b=some o->b≠P->H' b=some o
section
variable {X:Cx}{c P:Addr}{params:Arguments}{body e:Expr}{scope:Scope}{p pos ZI Fx:Pos}{qual x:Str}{k:Nat}{te tb:TE}
end
end L2
namespace L2
open PySem PySem.Spec PyProof.Rows
section
variable {X:Cx}{pins:Po}{σ:St}{H0:Hp}{l q I S:Addr}{as:List Addr}{kA:Nat->Hp->Addr->Prop}{g:Nat->Nat->Bool}{Rb:Nat->Prop}{R:Result->Shared->Prop}{Q:VP}{E:VP}
end
end L2
namespace HT
open PySem PyProof.Rows
section
open PySem.SeqAt
open PySem.AutoSeq1 (wpAny_loadPart')
open PySem.MeetsSeq PySem.MeetsSeq2 PySem.MeetsSeq3
end
section
variable {prog:Program}{w:World}{A:Around}{E:VP}{s:Shared}
end
end HT
namespace L2
open PySem PySem.Spec PyProof.Rows
section
variable {X:Cx}
end
open PySem.W (tabObj)
section
variable {X:Cx}{c P:Addr}{params:Arguments}{body:Expr}{scope:Scope}{clos:List (Str×Addr)} {pos:Pos}{qual:Str}
end
end L2
namespace L2
open PySem PySem.Spec PyProof.Rows
open PySem.W (envX)
section
variable {X:Cx}{pins:Po}{σ:St}{H:Hp}{s:Shared}{x:Str}{aW:Ls}{js:List Nat}{scope:Scope}{q c':Addr}{qual:Str}{params:Arguments}{body:Expr}{pm ctv:Value}{v:V}{u:Value}{A:Around}{k:Nat}{Q:VK}{E:XK}{t:TE}
end
section
variable {X:Cx}{c P:Addr}{params:Arguments}{body e:Expr}{scope:Scope}{p pos ZI Fx:Pos}{qual x:Str}{aW:Ls}{js:List Nat}{k:Nat}{te tb:TE}
end
end L2
namespace L2
open PySem PySem.Spec PyProof.Rows
section
variable {X:Cx}{e e1 e2 e3:Expr}{te t1 t2 t3:TE}{pos:Pos}
end
open PySem.W (tabObj CodeHd)
end L2
namespace HT
open PySem PyProof.Rows
section
open PySem.SeqAt
open PySem.AutoSeq1 (wpAny_loadPart')
open PySem.MeetsSeq PySem.MeetsSeq2 PySem.MeetsSeq3
variable {P:Program}{w:World}{A:Around}{s:Shared}
def ro(P:Program)(w:World)(A:Around)(s:Shared)(y x:Value):Prop:=∀(E:VP) (Q:Bool->Shared->Prop),Q true s->wpAny (model P w) A (eqBool y x) Q E s
theorem ro.of{y x:Value}(h:EqAt A s y x true):ro P w A s y x:=fun E Q q=>h P w E Q q
theorem ZJ(l b:Addr)(it dR:Av)(n n2:Nat)(dd fU:Oa)(sl dv:Array (Option Value))(hz:it.size=dR.size)(k:Nat) :
 ∀i:Nat,it.size - i=k->MeetsIn P w (Builtin.«list.__eq__.loop» ⟨[.ref l,.ref b,rawInt i,rawInt 3],[]⟩)
  (fun A R s=>s.heap.get? l=some ⟨.type "list",dd,.seq it n,sl⟩/\s.heap.get? b=some ⟨.type "list",fU,.seq dR n2,dv⟩/\(∀j (h1:j<it.size) (h2:j<dR.size),ro P w A.in1 s it[j] dR[j])/\R (.ok (.ret (.bool false))) s):=by
 induction k with
 | zero=>
  intro i hk A R s h;obtain⟨hp,g,d,tk,os⟩:=s;obtain⟨g1,g2,he,h⟩:=h
  wp_walk using wpAny_loadPart' g1,wpAny_loadPart' g2
  have e1:it[((i:Nat):Int).toNat]?=none:=by simp;omega
  have e2:dR[((i:Nat):Int).toNat]?=none:=by simp;omega
  rw[e1,e2]
  wp_walk using wpAny_loadPart' g1,wpAny_loadPart' g2
  show R (.ok (.ret (.bool (it.size != dR.size)))) _;rw[hz];simpa using h
 | succ k ih=>
  intro i hk A R s h;obtain⟨hp,g,d,tk,os⟩:=s;obtain⟨g1,g2,he,h⟩:=h
  wp_walk using wpAny_loadPart' g1,wpAny_loadPart' g2
  have l1:i<it.size:=by omega
  have l2:i<dR.size:=by omega
  have e1:it[((i:Nat):Int).toNat]?=some it[i]:=by simp[l1]
  have e2:dR[((i:Nat):Int).toNat]?=some dR[i]:=by simp[l2]
  have e3:((i:Int)+1)=((i+1:Nat):Int):=by push_cast;rfl
  rw[e1,e2];refine ai (he i l1 l2 _ _ ?_)
  wp_walk
  rw[e3];exact⟨sK EE _,qH entry_eq_loop (by
   rw[sL EE _];exact ih (i+1) (by omega) A R _ ⟨g1,g2,he,h⟩)⟩
theorem ZK(l b:Addr)(it dR:Av)(n n2:Nat)(dd fU:Oa)(sl dv:Array (Option Value))(hz:it.size=dR.size) :
 MeetsIn P w (Builtin.«list.__ne__» ⟨[.ref l,.ref b],[]⟩)
  (fun A R s=>s.heap.get? l=some ⟨.type "list",dd,.seq it n,sl⟩/\s.heap.get? b=some ⟨.type "list",fU,.seq dR n2,dv⟩/\(∀j (h1:j<it.size) (h2:j<dR.size),ro P w A.in1 s it[j] dR[j])/\R (.ok (.ret (.bool false))) s):=by
 intro A R s h;obtain⟨hp,g,d,tk,os⟩:=s;obtain⟨g1,g2,he,h⟩:=h;have f3:=AutoSeq1.sub_list_list;have nz:¬(it.size != dR.size)=true:=by simp[hz]
 wp_walk using wpAny_loadPart' g1,wpAny_loadPart' g2
 exact⟨sK EE _,qH entry_eq_loop (by
  rw[sL EE _];exact ZJ l b it dR n n2 dd fU sl dv hz _ 0 rfl A R _ ⟨g1,g2,he,h⟩)⟩
theorem ZL{l b:Addr}{it dR:Av}{Q E:VP}(h1:s.heap.IsList l it)(h2:s.heap.IsList b dR)(hz:it.size=dR.size)(hu:A.units<cLine)
 (he:∀j (h1:j<it.size) (h2:j<dR.size),ro P w A.in1 s it[j] dR[j]) (q:Q (.bool false) s):wpAny (model P w) A (compareOp .NotEq (.ref l) (.ref b)) Q E s:=by
 obtain⟨⟨cls,dd,data,sl⟩,ho,hc,n,hd⟩:=id h1;obtain⟨⟨AM,fU,data2,dv⟩,jR,fV,n2,hd2⟩:=id h2;simp only at hc hd fV hd2;subst hc hd fV hd2;show wpAny (model P w) A (richCompare .NotEq (.ref l) (.ref b)) Q E s;refine agn (op:=.NotEq) ⟨_,ho,rfl⟩ ⟨_,jR,rfl⟩ PySem.F.slot_list_ne (zY PySem.F.slot_list_ne ⟨_,ho,rfl⟩ PySem.F.entry_list_ne (PySem.F.args_list_ne_2 _ _) (ZK l b it dR n n2 dd fU sl dv hz) ?_) hu;exact⟨ho,jR,he,show Value.bool false≠Value.notImplemented/\Q (.bool false) s from ⟨(fun x=>nomatch x),q⟩⟩
end
end HT
namespace L2
open PySem PySem.Spec PyProof.Rows
open PySem.W (KeqHits)
section
variable {X:Cx}
end
end L2
namespace L2
open PySem PySem.Spec PyProof.Rows
structure ua(K:Fg)(C:Addr):Prop where
 ha:PySem.W.findIn K (.ref C) "__class__"=some (some (.builtin "object.__class__"))
 hn:PySem.W.specialIn K (.builtin "object.__class__") "__get__"=some (some (.builtin "getset_descriptor.__get__"))
 htk:PySem.W.takesIn K (.builtin "object.__class__")=some true
 hm:PySem.W.mroIn K C (.type "object")=some true
section
variable {X:Cx}
theorem ZM:gy X (.builtin "isinstance") (fun xs H Q=>∃a C D dx fs b,xs=[.ref a,.ref D]/\H a=some (.ins C dx fs)/\gz X.K C/\ua X.K C/\PySem.W.kitOne X.K (.ref C) (.ref D)=some b/\Q (.bl b) H):=by
 intro pins s σ H xs us Q I r h;obtain⟨a,C,D,dx,fs,b,rfl,ea,cl,i,e,q⟩:=h;obtain⟨u,u2,rfl,r1,r2⟩:=vals2 r;cases (show u2=Value.ref D from r2);exact Ft I r1 (ir.ins ea cl i.ha i.hn i.htk i.hm) e fun tk=>⟨.bl b,H,I.tok tk,rfl,q⟩
def ZN(K:Fg):R2:=fun x y H Q=>∃a b xs,x=.ref a/\y=.ref b/\ah K H a xs/\ah K H b []/\Q (.bl (decide (xs.length=0))) H
theorem xF(hu:X.A.units<cLine):bI X (compareOp .Eq) (ZN X.K):=by
 intro pins s σ H x y v u Q I rx ry h;obtain⟨a,b,xs,rfl,rfl,ha,hb,q⟩:=h;cases rx;cases ry;obtain⟨its,rv,pl,_⟩:=I.list ha;obtain⟨jm,kJ,nA,_⟩:=I.list hb;cases kJ;have hl:=wb rv
 by_cases h0:xs.length=0
 . rw[aE h0]at q;have hz:its.toArray.size=([]:Lw).toArray.size:=by show its.length=0;omega
   refine SeqAt.eq_listAt (e:=fun _=>true) pl.isList nA.isList hz hu (fun j h1 h2=>absurd h2 (by simp)) ?_;have:(List.range its.toArray.size).all (fun _=>true)=true:=by simp
   rw[this];exact⟨.bl true,H,I,rfl,q⟩
 . rw[ba h0]at q;refine SeqAt.eq_list_lengthsAt pl.isList nA.isList (by show(its.length != 0)=true;exact bne_iff_ne.mpr (by omega)) hu ⟨.bl false,H,I,rfl,q⟩
def ZO(K:Fg):Lv->Hp->VK->Prop:=fun xs H Q=>∃(p:Addr) (bs:List Bool),xs=[.ref p]/\ah K H p (bs.map V.bl)/\Q (.bl (bs.any id)) H
theorem ZP(bs:List Bool):(List.range bs.length).any (fun i=>bs.getD i false)=bs.any id:=by
 rw[lr,lx,lx];constructor
 . rintro⟨i,hi,e⟩;have hi:=lq.mp hi;rw[ly,dg hi,EA]at e;exact⟨bs[i],Ab hi,e⟩
 . rintro⟨b,hb,e⟩;obtain⟨i,hi,rfl⟩:=List.mem_iff_getElem.mp hb;refine⟨i,lq.mpr hi,?_⟩;rw[ly,dg hi,EA];exact e
theorem Hd(K:Fg)(h:X.K=K:=by rfl)(hc:X.calm=true:=by rfl):gy X (.builtin "any") (ZO K):=by
 subst h;intro pins s σ H xs us Q I r h;obtain⟨p,bs,rfl,hq,q⟩:=h;obtain⟨u,rfl,rx⟩:=vals1 r;cases rx;obtain⟨its,rv,pl,hz⟩:=I.list hq;have hlen:=rv.length;rw[aK]at hlen;refine call_any_walk (K9 pl.isList ?_);have jo:p≠s.heap.objs.size:=by
  obtain⟨o,ho,_⟩:=pl.isList;exact ck (bn ho)
 refine⟨_,_,_,_,_,_,fun i=>bs.getD i false,rfl,Walks.list (A:=X.A.in1) (I.ok.hd hc) _ p jo its.toArray,⟨⟨_,em _ rfl,rfl,rfl⟩,pl.isList.push _⟩,?_,fun h' tk kk=>?_⟩
 . intro i v s' Q' E hv gf;have hv:its[i]?=some v:=by simpa using hv
   have hi:i<bs.length:=by
    have:=(bW.mp hv).1;omega
   obtain⟨u,hu,ru⟩:=rv.get (i:=i) (x:=V.bl bs[i]) (by rw[dq,dg hi];rfl);rw[hv]at hu;cases hu;have ru:v=.bool bs[i]:=by cases ru;rfl
   subst ru;have gf:Q' (bs.getD i false) s':=gf;rw[ly,dg hi,EA]at gf;exact lj gf
 . have e:its.toArray.size=bs.length:=by simp;omega
   rw[e,ZP];exact⟨.bl _,H,I.kept fun b o e=>kk b o (by
    have:=bn e;rw[gP];exact ck this) (bS _ e),rfl,q⟩
end
def ub(K:Fg)(a b:Addr):It:=
 ⟨fun i H=>∃xs ys x y,ah K H a xs/\ah K H b ys/\xs[i]?=some x/\ys[i]?=some y,fun i H v H'=>∃p x y,H p=none/\(∀xs,ah K H a xs->xs[i]?=some x)/\(∀ys,ah K H b ys->ys[i]?=some y)/\v=.ref p/\H'=al H p (.tup [x,y]),fun i H=>∃xs ys,ah K H a xs/\ah K H b ys/\(xs.length<=i\/ys.length<=i)⟩
theorem ZQ{P:Program}{w:World}{K:Fg}{elts:List Expr}{x1:Nat}{pos:Pos}(a b z TI TO i1 i2:Addr)(D:ZipApart z TI TO i1 i2 a b):o9 P w K (.Tuple elts x1 pos) (ub K a b) [z,TI,TO,i1,i2] z (fun i h=>IsZip h z TI TO .none/\IsPair h TI (.ref i1) (.ref i2)/\(∃u v,IsPair h TO u v)/\h.IsListIter i1 a i/\h.IsListIter i2 b i) where
 mem:=by simp
 obj:=fun i h st c hc=>by
  obtain⟨hz,j6,⟨u,v,kK⟩,⟨o1,e1,c1,d1⟩,⟨o2,e2,c2,d2⟩⟩:=st;simp only[cE,o0,o5]at hc
  rcases hc with rfl | rfl | rfl | rfl | rfl
  . exact⟨_,hz,fun v z=>by have z':Data.fields _=Data.cell v:=z;cases z'⟩
  . exact⟨_,j6,fun v z=>by have z':Data.seq _ _=Data.cell v:=z;cases z'⟩
  . exact⟨_,kK,fun v z=>by have z':Data.seq _ _=Data.cell v:=z;cases z'⟩
  . exact⟨o1,e1,fun v z=>by rw[d1]at z;cases z⟩
  . exact⟨o2,e2,fun v z=>by rw[d2]at z;cases z⟩
 keep:=fun i h h' ZR k=>ZR.elim fun hz ZS=>ZS.elim fun j6 ZT=>ZT.elim fun ZU ZV=>ZV.elim fun h1 h2=>ZU.elim fun u ZW=>ZW.elim fun v kK=>⟨k z (by simp) _ hz,k TI (by simp) _ j6,⟨u,v,k TO (by simp) _ kK⟩,h1.at fun o e=>k i1 (by simp) o e,h2.at fun o e=>k i2 (by simp) o e⟩
 item:=by
  intro X hP hw hK hc i pins s σ H E I hf st hg;subst hP hw hK;obtain⟨hz,j6,⟨u0,v0,kK⟩,h1,h2⟩:=st;obtain⟨xs,ys,x,y,hq,gE,hx,hy⟩:=hg;obtain⟨its,rv,p,_⟩:=I.list hq;obtain⟨jm,kJ,p2,_⟩:=I.list gE;obtain⟨u,hu,ru⟩:=rv.get hx;obtain⟨u2,ZX,ZY⟩:=kJ.get hy;have lz:z<s.heap.objs.size:=bn hz;have ZZ:TI<s.heap.objs.size:=bn j6;have Z0:TO<s.heap.objs.size:=bn kK;have l1:i1<s.heap.objs.size:=by obtain⟨o,e,_⟩:=h1;exact bn e
  have l2:i2<s.heap.objs.size:=by obtain⟨o,e,_⟩:=h2;exact bn e
  refine wpAny_pyNext_zip_item D hz j6 kK h1 h2 p.isList p2.isList (x:=u) (y:=u2) (by simpa using hu) (by simpa using ZX) fun h' a1 a2 a3 a4 a5 a6 cQ=>⟨.ref s.heap.objs.size,rfl,?_⟩;refine wpAny_letOwnedTupleGo_zip a1 fun lW Z1 sb=>?_;have sb:Heap.SameBut z h' lW:=sb;have I1:Inv X pins σ H { s with heap:=lW,toks:=s.toks }:=I.turnedL (fp:=[z,TI,TO,i1,i2]) (fun c ob hb e'=>by
   simp only[cE,o0,o5,not_or]at hb;exact(sb.2 c hb.1).trans (cQ c ob hb.1 hb.2.2.1 hb.2.2.2.1 hb.2.2.2.2 e')) hf
  have hn:H s.heap.objs.size=none:=I.hok.fresh (aS _);have fp:=I.fpOk (H':=H) (aS _) hn;have tI:lW.get? s.heap.objs.size=some { cls:=.type "tuple",data:=.seq #[u,u2] }:=(sb.2 _ (oV lz)).trans a5;have I2:Inv X pins σ (al H s.heap.objs.size (.tup [x,y])) { s with heap:=lW,toks:=s.toks }:=by
   refine I1.track hn I.sz fp.2.1 fp.2.2.2.2.1 fp.2.2.2.2.2 ?_;exact⟨by show 2<=sizeLine;decide,[u,u2],.cons ru (.cons ZY .nil),_,tI,rfl,0,rfl⟩
  have Z2:IsPair lW TI (.ref i1) (.ref i2):=(sb.2 TI D.TIz).trans (cQ TI _ D.TIz D.TITO D.TIi1 D.TIi2 j6);refine⟨.ref s.heap.objs.size,_,I2,rfl,⟨_,x,y,hn,fun ii h'=>by rw[I.list_inj h' hq];exact hx,fun bt h'=>by rw[I.list_inj h' gE];exact hy,rfl,rfl⟩,⟨Z1,Z2,⟨u,u2,(sb.2 TO D.TOz).trans a2⟩,a3.at fun o e=>(sb.2 i1 D.i1z).trans e,a4.at fun o e=>(sb.2 i2 D.i2z).trans e⟩,fun c hb=>?_⟩;have Z3:=(hf c hb).1;rw[bc,Z3];simp only[cE,o0,o5]at hb
  rcases hb with rfl | rfl | rfl | rfl | rfl
  . exact ck lz
  . exact ck ZZ
  . exact ck Z0
  . exact ck l1
  . exact ck l2
 done:=by
  intro X hP hw hK hc i pins s σ H E I hf st hg;subst hP hw hK;obtain⟨hz,j6,⟨u0,v0,kK⟩,h1,h2⟩:=st;obtain⟨xs,ys,hq,gE,hx⟩:=hg;obtain⟨its,rv,p,_⟩:=I.list hq;obtain⟨jm,kJ,p2,_⟩:=I.list gE;have hl:=rv.length;have wZ:=kJ.length;refine wpAny_pyNext_zip_end (I.ok.hd hc) D hz j6 kK h1 h2 p.isList p2.isList ?_ fun h' eb=>⟨rfl,I.turnedL (t':=s.toks) (fp:=[z,TI,TO,i1,i2]) (fun c o hb e'=>eb c o (fun q=>hb (by simp[q])) (fun q=>hb (by simp[q])) (fun q=>hb (by simp[q])) (fun q=>hb (by simp[q])) e') hf⟩
  rcases hx with hx | hx
  . exact .inl (by simp;omega)
  . exact .inr (by simp;omega)
 self:=fun _ _ _ _ _ st h=>st.elim fun hz _=>wpAny_pyIter_zip hz h
theorem Z4{N a b:Nat}(la:a<N)(lb:b<N):ZipApart (N+4) (N+2) (N+3) N (N+1) a b:=by constructor<;>(show ¬(_:Nat)=_;omega)
section
variable {X:Cx}
theorem PE.or{e:Expr}{t1 t2:TE}(h1:PE X e t1)(h2:PE X e t2):PE X e (fun σ H Q=>t1 σ H Q\/t2 σ H Q):=fun pins s σ H Q I h=>h.elim (h1 pins s σ H Q I) (h2 pins s σ H Q I)
def Z5(K:Fg)(ta:TA):TI:=fun σ H R=>ta σ H fun vs H1=>∃a b,vs=[.ref a,.ref b]/\(∃xs,ah K H1 a xs)/\(∃ys,ah K H1 b ys)/\R (ub K a b) H1
theorem He{l l2:Expr}{ta:TA}{p pos p2:Pos}{elts:List Expr}{x1:Nat}(hg:Gl X "zip")(hm:X.mg "zip"=none)(ha:PA X [l,l2] ta)(he:starEach [l,l2] X.env=(false,eval l X.env)::starEach [l2] X.env:=by rfl)(bH:(backTo pos (starEach [l2] X.env)).any (·.1)=false:=by rfl) :
 PI X (.Tuple elts x1 p2) (.Call (.Name "zip" p) [l,l2] [] pos) (Z5 X.K ta):=by
 intro pins s σ H R I h;refine Call_ (sR I hg hm boot_zip (La (thn (ha pos pins s σ H _ I h) fun us s1 Z6=>Z6.elim fun vs Z7=>Z7.elim fun H1 Z8=>Z8.elim fun I1 Z9=>Z9.elim fun r1 q1=>?_) he bH));obtain⟨a,b,e,⟨xs,hq⟩,⟨ys,gE⟩,q⟩:=q1;subst e;obtain⟨u,u2,rfl,rx,ry⟩:=vals2 r1;cases (show u=Value.ref a from rx);cases (show u2=Value.ref b from ry);obtain⟨its,rv,pl,_⟩:=I1.list hq;obtain⟨jm,kJ,nA,_⟩:=I1.list gE;have la:a<s1.heap.objs.size:=by obtain⟨o,e,_⟩:=pl.isList;exact bn e
 have lb:b<s1.heap.objs.size:=by obtain⟨o,e,_⟩:=nA.isList;exact bn e
 refine call_zip_2 pl.isList nA.isList fun h' hz j6 kK h1 h2 hsz kp=>?_;refine wpAny_pyIter_zip hz ?_;refine⟨s1.heap.objs.size+4,[s1.heap.objs.size+4,s1.heap.objs.size+2,s1.heap.objs.size+3,s1.heap.objs.size,s1.heap.objs.size+1],_,_,H1,rfl,I1.kept (t':=s1.toks) kp,ZQ a b _ _ _ _ _ (Z4 la lb),⟨hz,j6,⟨_,_,kK⟩,h1,h2⟩,fun c hb=>?_,q⟩;have e:s1.heap.objs.size<=c:=by
  simp only[cE,o0,o5]at hb
  rcases hb with rfl | rfl | rfl | rfl | rfl
  . exact EF _ _
  . exact EF _ _
  . exact EF _ _
  . exact aS _
  . exact EF _ _
 exact I1.fpOk e (I1.hok.fresh e)
theorem Hf{K:Fg}{a b:Addr}{xs ys:Lv}{g:TG}{tb:TS}{D:Ends}{σ:St}{H:Hp}(el:xs.length=ys.length)(Pv:Nat->St->Hp->Prop)(h0:Pv 0 σ H)(hl:∀i σ H,i<=xs.length->Pv i σ H->ah K H a xs/\ah K H b ys)
 (hs:∀i x y p σ H,xs[i]?=some x->ys[i]?=some y->Pv i σ H->H p=none->g (.ref p) σ (al H p (.tup [x,y])) fun σ2 H2=>tb { D with nx:=Pv (i+1),ct:=Pv (i+1),bk:=D.nx } σ2 H2) (hd:∀σ H,Pv xs.length σ H->D.nx σ H) :
 ∃W:Nat->Nat->St->Hp->Prop,(∃m,W 0 m σ H)/\∀i m σ H,W i m σ H ->
  ((ub K a b).stop i H/\D.nx σ H)\/((ub K a b).go i H/\∃N:St->Hp->Prop,(∀σ' H',N σ' H'->∃m',m'<m/\W (i+1) m' σ' H')/\∀x H',(ub K a b).yld i H x H'->g x σ H' fun σ2 H2=>tb { D with nx:=N,ct:=N,bk:=D.nx } σ2 H2):=by
 refine⟨fun i m σ H=>m=xs.length - i/\i<=xs.length/\Pv i σ H,⟨xs.length,by simp,fQ _,h0⟩,?_⟩;rintro i m σ H ⟨rfl,hi,p⟩;obtain⟨q1,q2⟩:=hl i σ H hi p
 by_cases aR:i<xs.length
 . have aaa:i<ys.length:=by omega
   refine .inr ⟨⟨xs,ys,xs[i],ys[i],q1,q2,by simp[aR],by simp[aaa]⟩,Pv (i+1),fun σ' H' p'=>⟨xs.length - (i+1),by omega,rfl,aR,p'⟩,fun x H' y=>?_⟩;obtain⟨c,x',y',hb,e1,e2,rfl,rfl⟩:=y;exact hs i x' y' c σ _ (e1 xs q1) (e2 ys q2) p hb
 . have e:i=xs.length:=by omega
   subst e;exact .inl ⟨⟨xs,ys,q1,q2,.inl (aS _)⟩,hd σ H p⟩
end
end L2
namespace HT
open PySem PyProof.Rows
section
open PySem.SeqAt
open PySem.AutoSeq1 (wpAny_loadPart')
open PySem.MeetsSeq PySem.MeetsSeq2 PySem.MeetsSeq3
end
section
variable {A:Around}{s:Shared}
end
end HT
namespace L2
open PySem PySem.Spec PyProof.Rows
section
variable {X:Cx}{pins:Po}{σ:St}{H:Hp}{s:Shared}
end
end L2
abbrev aif:PySem.Str:="_law_parcels_here"
abbrev aig:PySem.Str:="_law_decided"
abbrev aih:PySem.Str:="_law_cell"
abbrev aii:PySem.Str:="_law_names_here"
abbrev aij:PySem.Str:="decided"
abbrev aik:PySem.Str:="name"
abbrev ail:PySem.Str:="shelf"
abbrev aim:PySem.Str:="_law_wishes"
abbrev ain:PySem.Str:="_law_one"
abbrev aio:PySem.Str:="self"
abbrev aip:PySem.Str:="_law_k"
abbrev aiq:PySem.Str:="_law_wish_broken"
abbrev air:PySem.Str:="_law_paper_here"
abbrev ais:PySem.Str:="wishes"
abbrev ait:PySem.Str:="make"
abbrev aiu:PySem.Str:="_law_draw"
abbrev aiv:PySem.Str:="_law_meets"
abbrev aiw:PySem.Str:="_law_broken"
abbrev aix:PySem.Str:="is_within"
abbrev aiy:PySem.Str:="parcel"
abbrev aiz:PySem.Str:="number"
abbrev aiA:PySem.Str:="holds_where"
abbrev aiB:PySem.Str:="_law_in"
abbrev aiC:PySem.Str:="_law_name"
abbrev aiD:PySem.Str:="_law_script"
abbrev aiE:PySem.Str:="_law_other"
abbrev aiF:PySem.Str:="parcel_decided"
abbrev aiG:PySem.Str:="_law_reason"
abbrev aiH:PySem.Str:="files"
abbrev aiI:PySem.Str:="rank"
abbrev aiJ:PySem.Str:="reason"
abbrev aiK:PySem.Str:="_law_odd_reason"
abbrev aiL:PySem.Str:="does_meet"
abbrev aiM:PySem.Str:="_law_sure"
abbrev aiN:PySem.Str:="needs"
abbrev aiO:PySem.Str:="_law_cell_at"
abbrev aiP:PySem.Str:="_law_wish_here"
abbrev aiQ:PySem.Str:="is_place"
abbrev aiR:PySem.Str:="_law_path"
abbrev aiS:PySem.Str:="_law_deep"
abbrev aiT:PySem.Str:="_law_lines"
abbrev aiU:PySem.Str:="_law_paper"
abbrev aiV:PySem.Str:="_law_holds"
abbrev aiW:PySem.Str:="makes_of"
abbrev aiX:PySem.Str:="_law_told"
abbrev aiY:PySem.Str:="claim"
abbrev aiZ:PySem.Str:="_law_names"
abbrev ai0:PySem.Str:="_law_claim"
abbrev ai1:PySem.Str:="shuts"
abbrev ai2:PySem.Str:="_law_chosen"
abbrev ai3:PySem.Str:="path"
abbrev ai4:PySem.Str:="with_case"
abbrev ai5:PySem.Str:="_law_claim_here"
abbrev ai6:PySem.Str:="other"
abbrev ai7:PySem.Str:="cases_of"
abbrev ai8:PySem.Str:="is_wish_broken"
abbrev ai9:PySem.Str:="is_need_broken"
abbrev aja:PySem.Str:="is_shut_broken"
abbrev ajb:PySem.Str:="things"
abbrev ajc:PySem.Str:="papers"
abbrev ajd:PySem.Str:="lines"
abbrev aje:PySem.Str:="holds"
abbrev ajf:PySem.Str:="_law_parcels"
abbrev ajg:PySem.Str:="split"
abbrev ajh:PySem.Str:="_law_parcel"
abbrev aji:PySem.Str:="offers"
abbrev ajj:PySem.Str:="is_done_by"
abbrev ajk:PySem.Str:="is_decided"
abbrev ajl:PySem.Str:="least"
abbrev ajm:PySem.Str:="below"
abbrev ajn:PySem.Str:="is_broken"
abbrev ajo:PySem.Str:="_law_make"
abbrev ajp:PySem.Str:="_law_made"
abbrev ajq:PySem.Str:="_law_some"
abbrev ajr:PySem.Str:="_law_wish"
abbrev ajs:PySem.Str:="_law_sets"
abbrev ajt:PySem.Str:="_law_fits"
abbrev aju:PySem.Str:="leaf"
abbrev ajv:PySem.Str:="paths_of"
abbrev ajw:PySem.Str:="may_meet"
abbrev ajx:PySem.Str:="is_clash"
abbrev ajy:PySem.Str:="_law_found"
abbrev ajz:PySem.Str:="shelved"
abbrev ajA:PySem.Str:="parcels"
abbrev ajB:PySem.Str:="_law_at"
namespace K43
open PySem L2
open HT (At)
structure eI where
 nm:Str
 ls:List Int
 bl:Oi
structure bp where
 nm:Str
 ms:List Int
 rk:Int
 fs:List (Str×Ls)
 ns:List eI
 ss:List eI
 os:Ls
abbrev Lp:=List bp
def nB(ms:List Int):Oi->Bool
 | none=>true
 | some b=>HT.lexLt ms b
def dj(c:eI)(p:bp):Bool:=(decide (c.nm=p.nm) && (!HT.lexLt p.ms c.ls && nB p.ms c.bl)) || (jS (.str c.nm) (p.os.map V.str) && (decide (c.ls=[]) && c.bl.isNone))
theorem i6{α:Type}{l:List α}{i:Nat}{x:α}(h:l[i]?=some x):l.take (i+1)=l.take i++[x]:=by
 rw[List.take_succ,h];rfl
theorem BG{α β:Type}{f:α->List β}{l:List α}{i:Nat}{x:α}(h:l[i]?=some x):(l.take (i+1)).flatMap f=(l.take i).flatMap f++f x:=by
 rw[i6 h,List.flatMap_append];simp
theorem uc{α:Type}{f:α->Bool}{l:List α}{i:Nat}{x:α}(h:l[i]?=some x):(l.take (i+1)).filter f=(l.take i).filter f++(if f x=true then [x] else []):=by
 rw[i6 h,LY]
 by_cases q:f x=true
 . rw[aB q];simp[q]
 . rw[ap q];simp[q]
def iy:Str:="need"
def gF:Str:="shut"
def iz:Str:="clash"
def xG(x y:Str):Bool:=decide (x.cps.toList<y.cps.toList)
def bQ(p:bp):Ls:=p.fs.map (·.1)
structure nC(p:bp):Prop where
 ns:p.ns.length<=2
 ss:p.ss.length<=2
 fs:p.fs.length<=3
 nd:(bQ p).Nodup
end K43
namespace K43
open PySem L2
def top (i : Nat) : Stmt := PySem.Challenge.pw_parcelmend_k43_what_holds.main.body.getD i (.Pass ⟨0, 0, 0, 0⟩)
abbrev nG:Stmt:=jU (top 8) 0
abbrev pI:Stmt:=jU (top 9) 0
abbrev pJ:Stmt:=jU (top 9) 1
abbrev i7:Stmt:=jU (top 9) 2
abbrev j7:Stmt:=jU (top 9) 3
abbrev fZ:Stmt:=jU (top 13) 0
abbrev pK:Stmt:=jU (top 13) 1
abbrev nH:Stmt:=jU (top 14) 0
abbrev lX:Stmt:=jU (top 14) 1
abbrev nI:Stmt:=jU (top 15) 0
abbrev nJ:Stmt:=jU (top 15) 1
abbrev lY:Stmt:=top 4
abbrev rp:Stmt:=top 5
abbrev rq:Stmt:=top 7
abbrev xH:Stmt:=top 11
abbrev ud:Stmt:=top 16
abbrev ue:Stmt:=top 17
abbrev xI:Stmt:=top 18
abbrev xJ:Stmt:=top 19
abbrev xK:Stmt:=top 20
abbrev rA:Stmt:=top 21
abbrev xL:Stmt:=top 22
abbrev xM:Stmt:=top 23
abbrev xN:Stmt:=top 24
abbrev xO:Stmt:=top 25
abbrev xP:Stmt:=top 26
abbrev uf:Stmt:=top 28
abbrev j8:Stmt:=top 29
abbrev ug:Stmt:=top 30
abbrev uh:Stmt:=top 31
abbrev xQ:Stmt:=top 32
abbrev xR:Stmt:=top 33
abbrev xT:Stmt:=top 34
abbrev xU:Stmt:=top 35
abbrev kL:Stmt:=top 36
abbrev kM:Stmt:=top 37
abbrev kN:Stmt:=top 38
abbrev lZ:Stmt:=top 39
abbrev rB:Stmt:=top 40
abbrev ui:Stmt:=top 41
abbrev uj:Stmt:=top 42
abbrev uk:Stmt:=top 43
abbrev ul:Stmt:=top 44
abbrev xV:Stmt:=top 45
abbrev xW:Stmt:=top 46
abbrev rC:Stmt:=top 47
structure cj(mg:Mv):Prop where
 range:mg "range"=none
 len:mg "len"=none
 list:mg "list"=none
 dict:mg "dict"=none
 tuple:mg "tuple"=none
 sorted:mg "sorted"=none
 enumerate:mg "enumerate"=none
 isinstance:mg "isinstance"=none
 bool:mg "bool"=none
 int:mg "int"=none
 str:mg "str"=none
 any:mg "any"=none
 zip:mg "zip"=none
 set:mg "set"=none
 all:mg "all"=none
 max:mg "max"=none
theorem aab{x:Str}(ok:fY x){r:Int}(h0:0<=r)(h1:r<x.length):∃c,aM x.cps.toList r=some c/\c<0x110000:=by
 obtain⟨n,rfl⟩:∃n:Nat,r=n:=⟨r.toNat,by omega⟩;have hn:n<x.cps.toList.length:=by
  have:x.cps.toList.length=x.length:=by simp[Str.length]
  omega
 exact⟨_,bT (dg hn),tJ.mp ok _ (Ab hn)⟩
def nK:Str:="abcdefghijklmnopqrstuvwxyz"
theorem aac:fY nK:=by decide +kernel
theorem xY:nK.length=26:=by decide +kernel
theorem BH(n:Int):∃c,aM nK.cps.toList (n % 26)=some c/\c<0x110000:=aab aac (by omega) (by rw[xY];omega)
theorem Hg{a b c d:V}(n:Int){R:V->Prop}(ha:R a)(hb:R b)(hc:R c)(hd:R d):∃v,aM [a,b,c,d] (n % 4)=some v/\R v:=by
 have h:n % 4=0\/n % 4=1\/n % 4=2\/n % 4=3:=by omega
 rcases h with h | h | h | h<;>rw[h]
 . exact⟨_,rfl,ha⟩
 . exact⟨_,rfl,hb⟩
 . exact⟨_,rfl,hc⟩
 . exact⟨_,rfl,hd⟩
theorem rD{a b c:V}(n:Int){R:V->Prop}(ha:R a)(hb:R b)(hc:R c):∃v,aM [a,b,c] (n % 3)=some v/\R v:=by
 have h:n % 3=0\/n % 3=1\/n % 3=2:=by omega
 rcases h with h | h | h<;>rw[h]
 . exact⟨_,rfl,ha⟩
 . exact⟨_,rfl,hb⟩
 . exact⟨_,rfl,hc⟩
def ce(H:Hp)(b:V):Oi->Prop
 | none=>b=.non
 | some bs=>∃a,b=.ref a/\H a=some (.tup (bs.map V.int))
def dC(H:Hp)(v:V)(c:eI):Prop:=∃t l b,v=.ref t/\H t=some (.tup [.str c.nm,.ref l,b])/\H l=some (.tup (c.ls.map V.int))/\ce H b c.bl
theorem ce.same{H H':Hp}{b:V}{o:Oi}(s:af H H')(h:ce H b o):ce H' b o:=by
 cases o with
 | none=>exact h
 | some bs=>
  obtain⟨a,e1,e2⟩:=h;exact⟨a,e1,s _ _ e2⟩
theorem dC.same{H H':Hp}{v:V}{c:eI}(s:af H H')(h:dC H v c):dC H' v c:=by
 obtain⟨t,l,b,e,h1,h2,h3⟩:=h;exact⟨t,l,b,e,s _ _ h1,s _ _ h2,h3.same s⟩
section
variable {P:Program}{w:World}{K:Fg}{mg:Mv}{base:Heap}
def BI(K:Fg):Sp:=fun vs H Q _=>∃(a:Addr) (k:Int) (ns:List Int),vs=[.ref a,.int k]/\0<=k/\ah K H a (ns.map V.int)/\∀n:Int,Q (.int n) H
theorem aad:bo [aiD,aip] [aiD,aip] (aO uf):=bu
theorem Hh{f:Addr}{fd:Fy}(F:aj K aiO aiO uf f fd)(B:cj mg):ao P w K mg base aq 1 f fd [aiD,aip] (BI K):=by
 refine F.okL aad ?_
 . intro aG A outer s H vs Q E hr h xX dX;obtain⟨a,k,ns,rfl,k0,hA,q⟩:=h;refine⟨_,(ar (bA (bd qR (pv 1) (b8 dH (by rfl) B.len eE (aa (pv 0) ac)) (aJ _))
    (aF (aN (au dh (pv 0) (pv 1) (fun _ _=>rfl)))) bw)
    (aF (aN ae))),?_⟩
   refine lU ?_;intro dD sS eZ;refine⟨_,rfl,_,rfl,a,_,rfl,.inl hA,_,_,rfl,rfl,_,rfl,?_⟩;refine av (fun h=>?_) (fun h=>?_)
   . have h':=aL h;rw[aK]at h';obtain⟨z,hz,_⟩:=F8 (ns:=ns) (r:=k) k0 h';exact⟨_,rfl,_,rfl,a,_,_,_,rfl,rfl,hA,hz,q z⟩
   . exact q 0
def Hi(c k:Int):Int:=(c+7919 * k+1) * 48271 % 2147483647 * ((c+7919 * k+1) * 48271 % 2147483647 / 1009+69621) % 2147483647
def pL:Sp:=fun vs H Q _=>∃c k:Int,vs=[.int c,.int k]/\-1000<=k/\k<=1000/\∀n:Int,n=Hi c k->Q (.int n) H
theorem Hl:bo [aih,aip,"_law_number"] [aih,aip] (aO j8):=bu
theorem rE{f:Addr}{fd:Fy}(F:aj K aiu aiu j8 f fd):ao P w K mg base aq 1 f fd [aih,aip] pL:=by
 refine F.okL Hl ?_
 . intro aG A outer s H vs Q E hr h xX dX;obtain⟨c,k,rfl,k0,k1,q⟩:=h;refine⟨_,(ar (aY (i:=2) Hl.nd rfl (Or.inl rfl) (aH bC (aH ph (aH du (aH du (pv 0) (aH ph ae (pv 1))) ae) ae) ae))
    (aF (aN (aH bC (aH ph (pv 2) (aH du (aH sY (pv 2) ae) ae)) ae)))),?_⟩
   refine lU ?_;intro dD sS eZ;refine⟨_,rfl,_,rfl,_,_,rfl,rfl,.inl ⟨by omega,by omega⟩,_,_,rfl,rfl,_,_,rfl,rfl,_,_,rfl,rfl,.inr ⟨by omega,by omega⟩,_,_,rfl,rfl,(by show(0:Int)<2147483647;decide),?_⟩;refine⟨_,rfl,_,rfl,_,_,rfl,rfl,⟨by omega,by omega⟩,_,_,rfl,rfl,_,_,rfl,rfl,.inl ⟨by omega,by omega⟩,_,_,rfl,rfl,(by show(0:Int)<2147483647;decide),?_⟩;exact q _ rfl
structure rF(xs:Ls):Prop where
 len:xs.length=6
 all:∀x∈xs,fY x
def BJ:Sp:=fun vs H Q _=>∃c:Int,vs=[.int c]/\∀l H' xs,H l=none->af H H'->H' l=some (.lst (xs.map V.str))->rF xs->Q (.ref l) H'
theorem xZ:bo [aih,"_law_small","_law_head","_law_tail"] [aih] (aO ug):=bu
theorem Hm{f cH:Addr}{fd dS:Fy}(F:aj K aiZ aiZ ug f fd)(B:cj mg)(aT:aj K aiu aiu j8 cH dS)(bg:mg aiu=some (.ref cH)):ao P w K mg base aq 2 f fd [aih] BJ:=by
 have bD:ao P w K mg base aq 1 cH dS [aih,aip] pL:=rE aT;have bE:=aT.binds2 (l:=[aih,aip]) (fun _ _ _ _ _ _ _ _=>rfl);refine F.okL xZ ?_
 . intro aG A outer s H vs Q E hr h xX dX;obtain⟨c,rfl,q⟩:=h;refine⟨_,(ar (aY (i:=1) xZ.nd rfl (Or.inr rfl) bh)
    (ar (aY (i:=2) xZ.nd rfl (Or.inr rfl) (aH G7 (au AR (pv 1) (aH bC (aI bD hr rfl bg aT.kp bE .nil az (aa (pv 0) (aa ae ac))) ae) (fun _ _=>rfl)) (aH bC (aI bD hr rfl bg aT.kp bE .nil az (aa (pv 0) (aa ae ac))) ae)))
    (ar (aY (i:=3) xZ.nd rfl (Or.inr rfl) (aH G7 (au AR (pv 1) (aH bC (aI bD hr rfl bg aT.kp bE .nil az (aa (pv 0) (aa ae ac))) ae) (fun _ _=>rfl)) (aH bC (aI bD hr rfl bg aT.kp bE .nil az (aa (pv 0) (aa ae ac))) ae)))
    (aF (aN (fA [aip] ["_law_head","_law_small",aih,"_law_tail"] [2,1,0,3] cC rfl (jN rfl B.range (aa ae ac)) (fun _ _ _ _=>(bi (i:=0) (show List.Nodup ([aip,"_law_head","_law_small",aih,"_law_tail"]:Ls) by decide +kernel) rfl (Or.inl rfl))) (fun _ _ _ _=>fz) (fun _ _ _ _=>(aH Fn (aH Fn (pv 1) (au AR (pv 2) (aH bC (aH du (aI bD hr rfl bg aT.kp bE .nil az (aa (pv 3) (aa ae ac))) (aH ph ae (pv 0))) ae) (fun _ _=>rfl))) (pv 4))))))))),?_⟩
   refine pG ?_;intro dD sS j9 i8 eZ;have l1:∀z,(⟨#[z]⟩:Str).length=1:=fun z=>Wc z;refine⟨_,rfl,_,rfl,_,_,rfl,by decide,by decide,fun d0 _=>?_⟩;obtain⟨z0,hz0,zb0⟩:=BH d0;refine⟨_,_,rfl,rfl,(by show(0:Int)<26;decide),_,_,z0,rfl,rfl,Bc (by show nK.length<=100;rw[xY];decide),hz0,_,rfl,_,_,rfl,by decide,by decide,fun d1 _=>?_⟩;refine⟨_,_,rfl,rfl,(by show(0:Int)<4;decide),_,_,rfl,rfl,by omega,by omega,by rw[l1];decide,A8 zb0,fun hd hdo GX=>?_⟩;rw[l1]at GX;refine⟨_,rfl,_,rfl,_,_,rfl,by decide,by decide,fun d2 _=>?_⟩;obtain⟨z2,x0,zb2⟩:=BH d2;refine⟨_,_,rfl,rfl,(by show(0:Int)<26;decide),_,_,z2,rfl,rfl,Bc (by show nK.length<=100;rw[xY];decide),x0,_,rfl,_,_,rfl,by decide,by decide,fun d3 _=>?_⟩;refine⟨_,_,rfl,rfl,(by show(0:Int)<4;decide),_,_,rfl,rfl,by omega,by omega,by rw[l1];decide,A8 zb2,fun tl tlo tll=>?_⟩;rw[l1]at tll;have ahh:hd.length<=3:=by omega
   have ahi:tl.length<=3:=by omega
   refine⟨6,rfl,by omega,by omega,?_⟩;refine nr (σ0:=[none,some (.str hd),some (.str nK),some (.int c),some (.str tl)]) (fun σ=>∃v,σ=[v,some (.str hd),some (.str nK),some (.int c),some (.str tl)]) (fun i ys _=>∃xs:Ls,ys=xs.map V.str/\xs.length=i/\∀x∈xs,fY x) ⟨_,rfl⟩ (fun _ _=>⟨[],rfl,rfl,fun _ h=>nomatch h⟩) ?_ ?_
   . intro D i ys σ H2 k hD hi um lF hs BK hk;refine cL ?_;intro tT;obtain⟨v,rfl⟩:=um;obtain⟨xs,rfl,hx,hl⟩:=BK;have hi6:i<6:=by simpa using hi
     refine⟨_,rfl,_,rfl,_,rfl,_,_,rfl,by decide,by decide,fun d4 _=>?_⟩;obtain⟨z,hz,zb⟩:=BH (d4+5 * (0+(i:Int)));refine⟨_,rfl,_,_,rfl,rfl,.inl ⟨by omega,by omega⟩,_,_,rfl,rfl,_,_,rfl,rfl,(by show(0:Int)<26;decide),_,_,z,rfl,rfl,Bc (by show nK.length<=100;rw[xY];decide),hz,_,_,rfl,rfl,fit (by omega) (by rw[l1];decide),_,rfl,_,_,rfl,rfl,fit (by rw[Wb,l1];omega) (by omega),?_⟩;refine hk _ _ _ ⟨_,rfl⟩ (af.refl _) (bq (by rw[aK];omega)) ⟨xs++[_],Gh xs _,by rw[be,hx];rfl,fun y hy=>?_⟩
     rcases gN.mp hy with hy | hy
     . exact hl y hy
     . rw[gP.mp hy];exact F5 (F5 hdo (A8 zb)) tlo
   . intro D ys H2 hD lF hs BL;obtain⟨xs,rfl,hx,hl⟩:=BL;exact q D H2 xs hD hs lF ⟨hx,hl⟩
end
theorem aak{κ:Type}[DecidableEq κ]{ab:List (κ×V)}{k:κ}(h:k∉ab.map (·.1)):bJ ab k=none:=by
 cases e:bJ ab k with
 | none=>rfl
 | some v=>exact absurd (V2 e) h
section
variable {κ β:Type} [DecidableEq κ] {F:κ×V->β->Prop}{key:β->κ}
theorem Hn(hk:∀kv p,F kv p->kv.1=key p):∀{ab:List (κ×V)}{ps:List β},Paired F ab ps->ab.map (·.1)=ps.map key
 | _,_,.nil=>rfl
 | _,_,.cons r t=>by rw[dM,dM,hk _ _ r,Hn hk t]
end
structure Txt(K:Fg)(mg:Mv)(C:Addr):Prop where
 cl:gz K C
 nN:ge K C aik
 nM:ge K C ait
 nR:ge K C aiI
 nF:ge K C aiH
 nE:ge K C aiN
 nS:ge K C ai1
 nO:ge K C aji
 mgC:mg "Parcel"=some (.ref C)
structure BM(fl:List (Str×V))(nm mk rk:V)(pf pn ps po:Addr):Prop where
 name:fl.lookup (aik:Str)=some nm
 make:fl.lookup (ait:Str)=some mk
 rank:fl.lookup (aiI:Str)=some rk
 files:fl.lookup (aiH:Str)=some (.ref pf)
 needs:fl.lookup (aiN:Str)=some (.ref pn)
 shuts:fl.lookup (ai1:Str)=some (.ref ps)
 offers:fl.lookup (aji:Str)=some (.ref po)
def pM(nm mk rk:V)(pf pn ps po:Addr):List (Str×V):=aA aji (.ref po) (aA ai1 (.ref ps) (aA aiN (.ref pn) (aA aiH (.ref pf) (aA aiI rk (aA ait mk (aA aik nm []))))))
theorem aal(nm mk rk:V)(pf pn ps po:Addr):BM (pM nm mk rk pf pn ps po) nm mk rk pf pn ps po:=by
 unfold pM;constructor
 . rw[bG,ap (by decide +kernel),bG,ap (by decide +kernel),bG,ap (by decide +kernel),bG,ap (by decide +kernel),bG,ap (by decide +kernel),bG,ap (by decide +kernel),bG,aB rfl]
 . rw[bG,ap (by decide +kernel),bG,ap (by decide +kernel),bG,ap (by decide +kernel),bG,ap (by decide +kernel),bG,ap (by decide +kernel),bG,aB rfl]
 . rw[bG,ap (by decide +kernel),bG,ap (by decide +kernel),bG,ap (by decide +kernel),bG,ap (by decide +kernel),bG,aB rfl]
 . rw[bG,ap (by decide +kernel),bG,ap (by decide +kernel),bG,ap (by decide +kernel),bG,aB rfl]
 . rw[bG,ap (by decide +kernel),bG,ap (by decide +kernel),bG,aB rfl]
 . rw[bG,ap (by decide +kernel),bG,aB rfl]
 . rw[bG,aB rfl]
section
variable {P:Program}{w:World}{K:Fg}{mg:Mv}{base:Heap}
structure Ho(K:Fg)(H:Hp)(xs:Lv)(fs:List (V×Lv)):Prop where
 len:xs.length=fs.length
 item:∀(i:Nat) (p:V) (ls:Lv),fs[i]?=some (p,ls)->∃t l,xs[i]?=some (.ref t)/\ak K H t [p,.ref l]/\ah K H l ls
structure x6(H H':Hp)(D:Addr)(xs:Lv)(fs:List (V×Lv))(k:Nat):Prop where
 len:xs.length=k
 item:∀(i:Nat) (p:V) (ls:Lv),i<k->fs[i]?=some (p,ls)->∃t l,xs[i]?=some (.ref t)/\H t=none/\H l=none/\t≠D/\l≠D/\H' t=some (.tup [p,.ref l])/\H' l=some (.lst ls)
def uo:Expr:=match (cF nG).getD 3 (.Pass ⟨0,0,0,0⟩) with
 | .Assign _ e _=>e
 | _=>.Constant .none 0 ⟨0,0,0,0⟩
def pN:Scope:=match uo with
 | .ListComp _ _ sc _=>sc
 | _=>{ kind:=.function,names:=[],isGenerator:=false,isCoroutine:=false }
def Hq:Expr:=match uo with
 | .ListComp e _ _ _=>e
 | _=>.Constant .none 0 ⟨0,0,0,0⟩
def BN:Expr:=match uo with
 | .ListComp _ [⟨t,_,_,_⟩] _ _=>t
 | _=>.Constant .none 0 ⟨0,0,0,0⟩
def Hr:Expr:=match uo with
 | .ListComp _ [⟨_,t,_,_⟩] _ _=>t
 | _=>.Constant .none 0 ⟨0,0,0,0⟩
theorem BO(X:Cx):iZ X [ai3,ajd] [] [] pN:=cC
def Hs(K:Fg):Lv->Hp->VK->Prop:=fun xs H Q=>∃p ys,xs=[.ref p]/\(ah K H p ys\/ak K H p ys)/\∀l,H l=none->Q (.ref l) (al H l (.lst ys))
theorem aam{X:Cx}(hc:X.calm=true)(s₀:Shared)(H₀:Hp)(C₀:Addr)(ex:List Addr):PG (cp X (([ai3,ajd]:Ls)++([]:Ls)) pN s₀ H₀ C₀ ex) BN (wL X.K 2 (sV (ng 0) (sV (ng 1) Ap))):=
 sW (X:=cp X (([ai3,ajd]:Ls)++([]:Ls)) pN s₀ H₀ C₀ ex) hc (ft (bi (i:=0) (BO X).nd rfl (Or.inl rfl)) (ft (bi (i:=1) (BO X).nd rfl (Or.inl rfl)) lH))
theorem aan{X:Cx}(ti:X.mg "list"=none)(s₀:Shared)(H₀:Hp)(C₀:Addr)(ex:List Addr):PE (cp X (([ai3,ajd]:Ls)++([]:Ls)) pN s₀ H₀ C₀ ex) Hq (AE (pk (qP 0) (pk (wX (Hs X.K) (pk (qP 1) lJ)) lJ))):=
 Fu (X:=cp X (([ai3,ajd]:Ls)++([]:Ls)) pN s₀ H₀ C₀ ex) (aa (pv 0) (aa (fT (tD (X:=cp X (([ai3,ajd]:Ls)++([]:Ls)) pN s₀ H₀ C₀ ex)) (by rfl) ti lA (aa (pv 1) ac)) ac))
theorem aao{X:Cx}{wi:TI}(hc:X.calm=true)(ti:X.mg "list"=none)(hi:PI X BN Hr wi):PE X uo (Bh wi 2 [] (wL X.K 2 (sV (ng 0) (sV (ng 1) Ap))) pC (AE (pk (qP 0) (pk (wX (Hs X.K) (pk (qP 1) lJ)) lJ)))):=
 fA [ai3,ajd] [] [] (elt:=Hq) (tg:=BN) (iter:=Hr) (ifs:=[]) (sc:=pN) (BO X) hc hi (aam hc) (fun _ _ _ _=>fz) (aan ti)
theorem aap:bo [aio,aik,ait,aiI,aiH,aiN,ai1,aji] [aio,aik,ait,aiI,aiH,aiN,ai1,aji] (aO nG):=bu
def BP(K:Fg)(C:Addr):Sp:=fun vs H Q _=>∃(x dx fa na sa oa:Addr) (nm mk rk:V) (xs ns ss os:Lv) (fs:List (V×Lv)),vs=[.ref x,nm,mk,rk,.ref fa,.ref na,.ref sa,.ref oa]/\H x=some (.ins C dx []) /\
 ah K H fa xs/\Ho K H xs fs/\ah K H na ns/\ah K H sa ss/\ah K H oa os/\fs.length<=1000 /\
 ∀(fl:List (Str×V)) (pf pn ps po:Addr) (ii:Lv) (H':Hp),BM fl nm mk rk pf pn ps po->H' x=some (.ins C dx fl)->H pf=none->H pn=none->H ps=none->H po=none ->
  H' pf=some (.lst ii)->x6 H H' pf ii fs fs.length->H' pn=some (.lst ns)->H' ps=some (.lst ss)->H' po=some (.lst os)->(∀b o,H b=some o->b≠x->H' b=some o)->Q .non H'
structure fB(C dx x:Addr)(H Hk:Hp)(fl:List (Str×V)):Prop where
 same:∀b o,H b=some o->b≠x->Hk b=some o
 free:∀b,Hk b=none->H b=none
 ob:Hk x=some (.ins C dx fl)
section
variable {C dx x p a:Addr}{H Hk:Hp}{fl x9:List (Str×V)} {o o':HO}{xs:Lv}
theorem fB.put(S:fB C dx x H Hk fl):fB C dx x H (al Hk x (.ins C dx x9)) x9:=
 ⟨fun b o e hb=>by rw[bc hb];exact S.same b o e hb,fun b e=>S.free b (xi e).2,bf⟩
theorem fB.lay(S:fB C dx x H Hk fl)(hp:Hk p=none):fB C dx x H (al Hk p o) fl:=
 ⟨fun b u e hb=>by rw[bc (bF (S.same b u e hb) hp)];exact S.same b u e hb,fun b e=>S.free b (xi e).2,by rw[bc (bF S.ob hp)];exact S.ob⟩
theorem fB.sqL(S:fB C dx x H Hk fl)(hx:H x=some (.ins C dx x9))(h:ah K H a xs):ah K Hk a xs:=by
 rcases h with(h | ⟨o,h⟩) | h
 . exact .inl (.inl (S.same _ _ h (eF h hx (by intro z;cases z))))
 . exact .inl (.inr ⟨o,S.same _ _ h (eF h hx (by intro z;cases z))⟩)
 . exact .inr h
theorem fB.sqT(S:fB C dx x H Hk fl)(hx:H x=some (.ins C dx x9))(h:ak K H a xs):ak K Hk a xs:=by
 rcases h with(h | ⟨o,h⟩) | h
 . exact .inl (.inl (S.same _ _ h (eF h hx (by intro z;cases z))))
 . exact .inl (.inr ⟨o,S.same _ _ h (eF h hx (by intro z;cases z))⟩)
 . exact .inr h
theorem aZ(h:Hk a=some o)(n:a≠p):al Hk p o' a=some o:=by rw[bc n];exact h
theorem lp{f:Str}{v:V}{n:Nat}(h:fl.length<=n):(aA f v fl).length<=n+1:=eU (AD _ _ _) (by omega)
theorem few{n:Nat}(h:fl.length<=n)(h2:n<1000):fl.length<1000:=by omega
theorem pO:([]:List (Str×V)).length<=0:=aS _
end
theorem aaq{H Hk Hj:Hp}{D:Addr}{xs:Lv}{fs:List (V×Lv)}{k:Nat}(fn:x6 H Hk D xs fs k)(h:∀b o,Hk b=some o->b≠D->H b=none->Hj b=some o):x6 H Hj D xs fs k:=by
 refine⟨fn.len,fun i p ls hi hp=>?_⟩;obtain⟨t,l,e1,e2,e3,e4,e5,e6,e7⟩:=fn.item i p ls hi hp;exact⟨t,l,e1,e2,e3,e4,e5,h t _ e6 e4 e2,h l _ e7 e5 e3⟩
theorem aar{f C:Addr}{fd:Fy}(F:aj K "__init__" "Parcel.__init__" nG f fd)(T:Txt K mg C)(ti:mg "list"=none) :
 ao P w K mg base aq 1 f fd [aio,aik,ait,aiI,aiH,aiN,ai1,aji] (BP K C):=by
 refine F.okL aap ?_
 . intro aG A outer s H vs Q E hr h xX dX;obtain⟨x,dx,fa,na,sa,oa,nm,mk,rk,xs,ns,ss,os,fs,rfl,hx,l5,iA,fc,hsa,Ai,Ht,k⟩:=h;refine⟨_,ar (jO (pv 0) (pv 1) rfl) (ar (jO (pv 0) (pv 2) rfl) (ar (jO (pv 0) (pv 3) rfl)
    (ar (jO (pv 0) (aao rfl ti (cJ (pv 4))) rfl)
    (ar (jO (pv 0) (fT tD (by rfl) ti lA (aa (pv 5) ac)) rfl)
    (ar (jO (pv 0) (fT tD (by rfl) ti lA (aa (pv 6) ac)) rfl)
    (aF (jO (pv 0) (fT tD (by rfl) ti lA (aa (pv 7) ac)) rfl))))))),?_⟩
   refine Gp ?_;intro dD sS uU7 uU6 ya j9 i8 eZ;have S0:fB C dx x H H []:=⟨fun _ _ e _=>e,fun _ e=>e,hx⟩;refine⟨_,rfl,_,rfl,x,C,dx,_,rfl,S0.ob,T.cl,T.nN,few pO (by decide),?_⟩;have S1:fB C dx x H _ (aA aik nm []):=S0.put;refine⟨_,rfl,_,rfl,x,C,dx,_,rfl,S1.ob,T.cl,T.nM,few (lp pO) (by decide),?_⟩;have S2:fB C dx x H _ (aA ait mk (aA aik nm [])):=S1.put;refine⟨_,rfl,_,rfl,x,C,dx,_,rfl,S2.ob,T.cl,T.nR,few (lp (lp pO)) (by decide),?_⟩;have S3:fB C dx x H _ (aA aiI rk (aA ait mk (aA aik nm []))):=S2.put;generalize al (al (al H x (.ins C dx (aA aik nm []))) x (.ins C dx (aA ait mk (aA aik nm [])))) x (.ins C dx (aA aiI rk (aA ait mk (aA aik nm []))))=H1 at S3 ⊢;refine⟨_,rfl,fa,rfl,⟨xs,S3.sqL hx l5⟩,fun D hD=>?_⟩;refine⟨fun i m σ H2=>m=xs.length - i/\i<=xs.length/\∃(u v:Option V) (ys:Lv),σ=[u,v]/\H2 D=some (.lst ys)/\af H1 H2/\x6 H H2 D ys fs i,⟨xs.length,by simp,fQ _,none,none,[],rfl,bf,jV hD,rfl,fun i p ls hi=>absurd hi (Aa _)⟩,?_⟩;intro i m σ H2 um;refine cL ?_;intro tT;obtain⟨rfl,hi,u,v,ys,rfl,uq,s2,fn⟩:=um
   skip
   have gW:ah K H2 fa xs:=s2.seq (S3.sqL hx l5)
   by_cases aR:i<xs.length
   . refine .inr ⟨⟨xs,xs[i],gW,by simp[aR]⟩,fun z H3 y=>?_⟩;obtain⟨e,y⟩:=y;subst e;have ez:=y xs gW;have hif:i<fs.length:=by rw[←iA.len];exact aR
     obtain⟨⟨p,ls⟩,bH⟩:∃q,fs[i]?=some q:=⟨fs[i],by simp[hif]⟩;obtain⟨t,l,e1,e2,e3⟩:=iA.item i p ls bH;rw[ez]at e1;cases e1;have t2:=Wa s2 (S3.sqT hx e2);have l2:=s2.seq (S3.sqL hx e3);refine⟨t,_,rfl,t2,rfl,_,_,rfl,_,_,rfl,rfl,?_⟩;refine⟨_,rfl,_,rfl,l,_,rfl,.inl l2,fun l' m6=>⟨(by show 2<=sizeLine;decide),fun t' BQ=>?_⟩⟩;obtain⟨n1,n2⟩:=xi BQ;have dl:D≠l':=bF uq m6;have dt:D≠t':=bF uq n2;refine⟨ys,aZ (aZ uq dl) dt,bq (by rw[fn.len];omega),xs.length - (i+1),by omega,rfl,aR,_,_,ys++[.ref t'],rfl,bf,?_,⟨by rw[be,fn.len];rfl,fun j p' Aj hj cq=>?_⟩⟩
     . exact lT (lT (lT s2 (s2.free m6)) (s2.free n2)) hD
     . by_cases yb:j=i
       . subst yb;rw[bH]at cq;cases cq;refine⟨t',l',by rw[Ev (by rw[fn.len];omega),fn.len];simp,S3.free _ (s2.free n2),S3.free _ (s2.free m6),dt.symm,dl.symm,aZ bf dt.symm,aZ (aZ bf n1.symm) dl.symm⟩
       . have rG:j<i:=by omega
         obtain⟨t0,l0,g1,g2,g3,g4,g5,g6,g7⟩:=fn.item j p' Aj rG cq;exact⟨t0,l0,by rw[Lj (by rw[fn.len];exact rG)];exact g1,g2,g3,g4,g5,aZ (aZ (aZ g6 (bF g6 m6)) (bF g6 n2)) g4,aZ (aZ (aZ g7 (bF g7 m6)) (bF g7 n2)) g5⟩
   . have ei:i=xs.length:=by omega
     subst ei;refine .inl ⟨⟨xs,gW,aS _⟩,?_⟩;have S4:fB C dx x H H2 (aA aiI rk (aA ait mk (aA aik nm []))):=⟨fun b o e hb=>s2 b o (S3.same b o e hb),fun b e=>S3.free b (s2.free e),s2 _ _ S3.ob⟩;have yd:D≠x:=eF uq S4.ob (by intro z;cases z);have hD0:H D=none:=S3.free _ hD;refine⟨_,rfl,x,C,dx,_,rfl,S4.ob,T.cl,T.nF,few (lp (lp (lp pO))) (by decide),?_⟩;have S5:fB C dx x H _ (aA aiH (.ref D) (aA aiI rk (aA ait mk (aA aik nm [])))):=S4.put;refine⟨_,rfl,na,_,rfl,.inl (S5.sqL hx fc),fun pn nL=>?_⟩;have S6:=S5.lay (o:=.lst ns) nL;have BR:pn≠x:=(bF S5.ob nL).symm;refine⟨_,rfl,x,C,dx,_,rfl,S6.ob,T.cl,T.nE,few (lp (lp (lp (lp pO)))) (by decide),?_⟩;have S7:fB C dx x H _ (aA aiN (.ref pn) (aA aiH (.ref D) (aA aiI rk (aA ait mk (aA aik nm []))))):=S6.put;refine⟨_,rfl,sa,_,rfl,.inl (S7.sqL hx hsa),fun ps a8=>?_⟩;have S8:=S7.lay (o:=.lst ss) a8;have Hu:ps≠x:=(bF S7.ob a8).symm;refine⟨_,rfl,x,C,dx,_,rfl,S8.ob,T.cl,T.nS,few (lp (lp (lp (lp (lp pO))))) (by decide),?_⟩;have S9:fB C dx x H _ (aA ai1 (.ref ps) (aA aiN (.ref pn) (aA aiH (.ref D) (aA aiI rk (aA ait mk (aA aik nm [])))))):=S8.put;refine⟨_,rfl,oa,_,rfl,.inl (S9.sqL hx Ai),fun po nQ=>?_⟩;have Hv:=S9.lay (o:=.lst os) nQ;have xpo:po≠x:=(bF S9.ob nQ).symm;refine⟨_,rfl,x,C,dx,_,rfl,Hv.ob,T.cl,T.nO,few (lp (lp (lp (lp (lp (lp pO)))))) (by decide),?_⟩;have Hw:fB C dx x H _ (pM nm mk rk D pn ps po):=Hv.put;have k5:∀b o,H2 b=some o->b≠x->(al H2 x (.ins C dx (aA aiH (.ref D) (aA aiI rk (aA ait mk (aA aik nm [])))))) b=some o:=fun b o e hb=>aZ e hb;have kp:=fun b o (e:H2 b=some o) (hb:b≠x)=>aZ (p:=x) (o':=.ins C dx (aA aiN (.ref pn) (aA aiH (.ref D) (aA aiI rk (aA ait mk (aA aik nm [])))))) (aZ (p:=pn) (o':=.lst ns) (k5 b o e hb) (bF (k5 b o e hb) nL)) hb;have kq:=fun b o (e:H2 b=some o) (hb:b≠x)=>aZ (p:=x) (o':=.ins C dx (aA ai1 (.ref ps) (aA aiN (.ref pn) (aA aiH (.ref D) (aA aiI rk (aA ait mk (aA aik nm []))))))) (aZ (p:=ps) (o':=.lst ss) (kp b o e hb) (bF (kp b o e hb) a8)) hb;have kr:=fun b o (e:H2 b=some o) (hb:b≠x)=>aZ (p:=x) (o':=.ins C dx (pM nm mk rk D pn ps po)) (aZ (p:=po) (o':=.lst os) (kq b o e hb) (bF (kq b o e hb) nQ)) hb;have Hz:(al (al (al H2 x (.ins C dx (aA aiH (.ref D) (aA aiI rk (aA ait mk (aA aik nm [])))))) pn (.lst ns)) x (.ins C dx (aA aiN (.ref pn) (aA aiH (.ref D) (aA aiI rk (aA ait mk (aA aik nm []))))))) pn=some (.lst ns):=aZ bf BR;have HA:=aZ (p:=x) (o':=.ins C dx (aA ai1 (.ref ps) (aA aiN (.ref pn) (aA aiH (.ref D) (aA aiI rk (aA ait mk (aA aik nm []))))))) (aZ (p:=ps) (o':=.lst ss) Hz (bF Hz a8)) BR;have pn3:=aZ (p:=x) (o':=.ins C dx (pM nm mk rk D pn ps po)) (aZ (p:=po) (o':=.lst os) HA (bF HA nQ)) BR;have HB:=aZ (p:=x) (o':=.ins C dx (aA ai1 (.ref ps) (aA aiN (.ref pn) (aA aiH (.ref D) (aA aiI rk (aA ait mk (aA aik nm []))))))) (bf (H:=al (al (al H2 x (.ins C dx (aA aiH (.ref D) (aA aiI rk (aA ait mk (aA aik nm [])))))) pn (.lst ns)) x (.ins C dx (aA aiN (.ref pn) (aA aiH (.ref D) (aA aiI rk (aA ait mk (aA aik nm []))))))) (a:=ps) (o:=.lst ss)) Hu;have ps2:=aZ (p:=x) (o':=.ins C dx (pM nm mk rk D pn ps po)) (aZ (p:=po) (o':=.lst os) HB (bF HB nQ)) Hu;refine k (pM nm mk rk D pn ps po) D pn ps po ys _ (aal nm mk rk D pn ps po) Hw.ob hD0 (S5.free _ nL) (S7.free _ a8) (S9.free _ nQ) (kr D _ uq yd) ?_ pn3 ps2 (aZ bf xpo) Hw.same;rw[iA.len]at fn;exact aaq fn fun b o e hb hn=>kr b o e fun z=>by rw[z,hx]at hn;cases hn
end
def eJ(H:Hp)(v:V)(f:Str×Ls):Prop:=∃t l,v=.ref t/\H t=some (.tup [.str f.1,.ref l])/\H l=some (.lst (f.2.map V.str))
def iB(H:Hp)(a:Addr)(cs:List eI):Prop:=∃ys,H a=some (.lst ys)/\Paired (dC H) ys cs
def f6(C:Addr)(H:Hp)(v:V)(p:bp):Prop:=∃a dx fl rk m pf pn ps po xs,v=.ref a/\H a=some (.ins C dx fl)/\BM fl (.str p.nm) (.ref m) rk pf pn ps po/\H m=some (.tup (p.ms.map V.int)) /\
 H pf=some (.lst xs)/\Paired (eJ H) xs p.fs/\H po=some (.lst (p.os.map V.str))/\rk=.int p.rk/\iB H pn p.ns/\iB H ps p.ss
theorem iB.same{H H':Hp}{a:Addr}{cs:List eI}(s:af H H')(h:iB H a cs):iB H' a cs:=by
 obtain⟨ys,h1,h2⟩:=h;exact⟨ys,s _ _ h1,aX h2 fun _ _=>dC.same s⟩
theorem eJ.same{H H':Hp}{v:V}{f:Str×Ls}(s:af H H')(h:eJ H v f):eJ H' v f:=by
 obtain⟨t,l,e,a,b⟩:=h;exact⟨t,l,e,s _ _ a,s _ _ b⟩
theorem f6.same{C:Addr}{H H':Hp}{v:V}{p:bp}(s:af H H')(h:f6 C H v p):f6 C H' v p:=by
 obtain⟨a,dx,fl,rk,m,pf,pn,ps,po,xs,e,h1,h2,h3,h4,h5,h6⟩:=h;exact⟨a,dx,fl,rk,m,pf,pn,ps,po,xs,e,s _ _ h1,h2,s _ _ h3,s _ _ h4,aX h5 (fun _ _=>eJ.same s),s _ _ h6.1,h6.2.1,h6.2.2.1.same s,h6.2.2.2.same s⟩
abbrev nU (C:Addr) (H:Hp):Lv->Lp->Prop:=Paired (f6 C H)
theorem nU.same{C:Addr}{H H':Hp}{vs:Lv}{ps:Lp}(s:af H H')(h:nU C H vs ps):nU C H' vs ps:=aX h fun _ _=>f6.same s
def msk(L:List Addr)(H:Hp):Hp:=fun b=>if b∈L then none else H b
theorem rH{L:List Addr}{H:Hp}:af (msk L H) H:=fun b o e=>by
 unfold msk at e;split at e
 . cases e
 . exact e
theorem rJ{L:List Addr}{H H':Hp}(s:af H H'):af (msk L H) (msk L H'):=fun b o e=>by
 unfold msk at e ⊢;split at e
 . cases e
 . rw[ap ‹_›];exact s _ _ e
theorem HC{L:List Addr}{H:Hp}{p:Addr}{o:HO}(h:p∈L):msk L (al H p o)=msk L H:=by
 funext b
 unfold msk;split
 . rfl
 . have hb:¬b∈L:=‹_›;rw[bc (fun z=>hb (by rw[z];exact h))]
theorem f7{L:List Addr}{H:Hp}{b:Addr}{o:HO}(n:b∉L)(h:H b=some o):msk L H b=some o:=by
 unfold msk;rw[ap n];exact h
def gX(H:Hp)(L:List Addr):Prop:=∀b∈L,∃o,H b=some o/\∀vs,o≠.tup vs
theorem gX.free{H:Hp}{L:List Addr}(h:gX H L){b:Addr}(n:H b=none):b∉L:=fun z=>by
 obtain⟨o,e,_⟩:=h b z;rw[n]at e;cases e
theorem gX.tup{H:Hp}{L:List Addr}(h:gX H L){b:Addr}{vs:Lv}(n:H b=some (.tup vs)):b∉L:=fun z=>by
 obtain⟨o,e,q⟩:=h b z;rw[n]at e;cases e;exact q _ rfl
theorem rK{α β:Type}{F:α->β->Prop}:∀{xs:List α}{ys:List β},Paired F xs ys->∀{i:Nat}{y:β},ys[i]?=some y->∃x,xs[i]?=some x/\F x y
 | _,_,.nil,i,y,h=>by cases h
 | _,_,.cons r t,0,y,h=>by cases h;exact⟨_,rfl,r⟩
 | _,_,.cons r t,i+1,y,h=>rK t (i:=i) h
theorem bO{α β:Type}{F:α->β->Prop}:∀{xs:List α}{ys:List β},Paired F xs ys->∀{i:Nat}{x:α},xs[i]?=some x->∃y,ys[i]?=some y/\F x y
 | _,_,.nil,i,y,h=>by cases h
 | _,_,.cons r t,0,y,h=>by cases h;exact⟨_,rfl,r⟩
 | _,_,.cons r t,i+1,y,h=>bO t (i:=i) h
theorem aP{α β:Type}{F:α->β->Prop}:∀{xs:List α}{ys:List β},Paired F xs ys->xs.length=ys.length
 | _,_,.nil=>rfl
 | _,_,.cons _ t=>kD (· + 1) (aP t)
theorem dJ{α β:Type}{F:α->β->Prop}{x:α}{y:β}(h:F x y):∀{xs:List α}{ys:List β},Paired F xs ys->Paired F (xs++[x]) (ys++[y])
 | _,_,.nil=>.cons h .nil
 | _,_,.cons r t=>.cons r (dJ h t)
theorem HD{α β:Type}{F:α->β->Prop}:∀{xs:List α}{ys:List β},xs.length=ys.length->(∀(i:Nat) (y:β),ys[i]?=some y->∃x,xs[i]?=some x/\F x y)->Paired F xs ys
 | [],[],_,_=>.nil
 | [],_::_,h,_=>nomatch h
 | _::_,[],h,_=>nomatch h
 | x::xs,y::ys,h,k=>by
  obtain⟨x',e,r⟩:=k 0 y rfl;cases e;exact .cons r (HD (Nat.succ.inj h) fun i z hz=>k (i+1) z hz)
def pP(fs:List (Str×Ls)):List (V×Lv):=fs.map fun f=>(.str f.1,f.2.map V.str)
section
variable {P:Program}{w:World}{K:Fg}{mg:Mv}{base:Heap}
theorem aaz{H:Hp}{xs:Lv}{fs:List (Str×Ls)}(h:Paired (eJ H) xs fs):Ho K H xs (pP fs):=by
 refine⟨by rw[pP,aK];exact aP h,fun i p ls e=>?_⟩;rw[pP,dq]at e;cases hf:fs[i]? with
 | none=>rw[hf]at e;cases e
 | some f=>
  rw[hf]at e;cases e;obtain⟨x,hx,t,l,rfl,a,b⟩:=rK h hf;exact⟨t,l,hx,ak.of a,ah.of b⟩
theorem ce.msk{H H':Hp}{L:List Addr}(hL:gX H L)(s:af H H'){b:V}{o:Oi}(h:ce H b o):ce (msk L H') b o:=by
 cases o with
 | none=>exact h
 | some bs=>
  obtain⟨a,e1,e2⟩:=h;exact⟨a,e1,f7 (hL.tup e2) (s _ _ e2)⟩
theorem dC.msk{H H':Hp}{L:List Addr}(hL:gX H L)(s:af H H'){v:V}{c:eI}(h:dC H v c):dC (msk L H') v c:=by
 obtain⟨t,l,b,e,h1,h2,h3⟩:=h;exact⟨t,l,b,e,f7 (hL.tup h1) (s _ _ h1),f7 (hL.tup h2) (s _ _ h2),h3.msk hL s⟩
theorem aaA{C:Addr}{H:Hp}{Q:VK}{E:XK}{m fa na sa oa:Addr}{p:bp}{xs ns ss:Lv}(hm:H m=some (.tup (p.ms.map V.int)))(hf:H fa=some (.lst xs))(iA:Paired (eJ H) xs p.fs)
 (hn:H na=some (.lst ns)) (lS:Paired (dC H) ns p.ns) (hs:H sa=some (.lst ss)) (hss:Paired (dC H) ss p.ss) (ho:H oa=some (.lst (p.os.map V.str))) (Ht:p.fs.length<=1000) (q:∀x H',H x=none->af H H'->(∀L,gX H L->f6 C (msk L H') (.ref x) p)->Q (.ref x) H') :
 ∀x dx,H x=none->H dx=none->dx≠x->BP K C (.ref x::([.str p.nm,.ref m,.int p.rk,.ref fa,.ref na,.ref sa,.ref oa]++[])) (al (al H dx (.own x)) x (.ins C dx [])) (fun v H2=>v=.non/\Q (.ref x) H2) E:=by
 intro x dx hx BS nx;have s1:af H (al (al H dx (.own x)) x (.ins C dx [])):=lT (jV BS) hx;have BU:(pP p.fs).length=p.fs.length:=by rw[pP,aK]
 refine⟨x,dx,fa,na,sa,oa,.str p.nm,.ref m,.int p.rk,xs,ns,ss,p.os.map V.str,pP p.fs,rfl,bf,ah.of (s1 _ _ hf),?_,ah.of (s1 _ _ hn),ah.of (s1 _ _ hs),ah.of (s1 _ _ ho),by rw[BU];exact Ht,?_⟩
 . exact aaz (aX iA fun _ _=>eJ.same s1)
 intro fl pf pn ps po ii H' hF o7 n1 n2 n3 n4 ur qN nL a8 nQ keep;have s2:af H H':=fun b o e=>keep b o (s1 _ _ e) (bF e hx);have fr:∀b,(al (al H dx (.own x)) x (.ins C dx [])) b=none->H b=none:=fun b z=>s1.free z;refine⟨rfl,q x H' hx s2 fun L hL=>⟨x,dx,fl,.int p.rk,m,pf,pn,ps,po,ii,rfl,f7 (hL.free hx) o7,hF,f7 (hL.tup hm) (s2 _ _ hm),f7 (hL.free (fr _ n1)) ur,?_,f7 (hL.free (fr _ n4)) nQ,rfl,
  ⟨ns,f7 (hL.free (fr _ n2)) nL,aX lS fun _ _=>dC.msk hL s2⟩,⟨ss,f7 (hL.free (fr _ n3)) a8,aX hss fun _ _=>dC.msk hL s2⟩⟩⟩
 refine HD (by rw[qN.len,BU]) fun i f hi=>?_;obtain⟨t,l,e1,e2,e3,e4,e5,e6,e7⟩:=qN.item i (.str f.1) (f.2.map V.str) (by rw[BU];exact(bW.mp hi).1) (by rw[pP,dq,hi];rfl);exact⟨_,e1,t,l,rfl,f7 (hL.free (fr _ e2)) e6,f7 (hL.free (fr _ e3)) e7⟩
structure gG(K:Fg)(mg:Mv)(S fN fM fP:Addr):Prop where
 cl:gz K S
 nS:ge K S ajz
 mN:jl K S "names" fN
 mM:jl K S aiW fM
 mP:jl K S aiy fP
 mgC:mg "Shelf"=some (.ref S)
def dk(p:bp):List NI:=[.inl (.inr p.nm),.inr (p.ms.map Sum.inl)]
theorem BV{H:Hp}{b m:Addr}{nm:Str}{mk:List Int}(hb:H b=some (.tup [.str nm,.ref m]))(hm:H m=some (.tup (mk.map V.int))):fS H [.inl (.inr nm),.inr (mk.map Sum.inl)] b:=
 ⟨_,hb,.cons rfl (.cons ⟨m,rfl,by rw[hm,EG];rfl⟩ .nil)⟩
def HE(ab:List (List NI×V))(vs:Lv)(ps:Lp)(i:Nat):Prop:=ab.length<=i/\(∀(j:Nat) (p:bp) (v:V),j<i->ps[j]?=some p->vs[j]?=some v->bJ ab (dk p)=some v)/\Paired (fun(kv:List NI×V) (p:bp)=>kv.1=dk p) ab (ps.take i)
def kO(S:Addr)(H:Hp)(v:V)(vs:Lv)(ps:Lp):Prop:=∃a dx fl d ab,v=.ref a/\H a=some (.ins S dx fl)/\fl.lookup (ajz:Str)=some (.ref d)/\fl.lookup (aiy:Str)=none/\fl.lookup ("names":Str)=none/\fl.lookup (aiW:Str)=none/\H d=some (.dT ab)/\HE ab vs ps ps.length
theorem kO.same{S:Addr}{H H':Hp}{v:V}{vs:Lv}{ps:Lp}(s:af H H')(h:kO S H v vs ps):kO S H' v vs ps:=by
 obtain⟨a,dx,fl,d,ab,e,h1,h2,h3,h3a,h3b,h4,h5⟩:=h;exact⟨a,dx,fl,d,ab,e,s _ _ h1,h2,h3,h3a,h3b,s _ _ h4,h5⟩
def BW(K:Fg)(C S:Addr):Sp:=fun vs H Q _=>∃(x dx a:Addr) (xs:Lv) (ps:Lp),vs=[.ref x,.ref a]/\H x=some (.ins S dx [])/\H a=some (.lst xs)/\nU C H xs ps/\ps.length<=100/\(ps.map dk).Nodup /\
 ∀H',(∀b o,H b=some o->b≠x->H' b=some o)->kO S H' (.ref x) xs ps->Q .non H'
theorem HF:bo [aio,ajA,aiy] [aio,ajA] (aO pI):=bu
theorem aaE{f C S fN fM fP:Addr}{fd:Fy}(F:aj K "__init__" "Shelf.__init__" pI f fd)(T:Txt K mg C)(U:gG K mg S fN fM fP):ao P w K mg base aq 1 f fd [aio,ajA] (BW K C S):=by
 refine F.okL HF ?_
 . intro aG A outer s H vs Q E hr h xX dX;obtain⟨x,dx,a,xs,ps,rfl,hx,ha,a8,BX,ye,q⟩:=h;have hu:=hr.units;refine⟨_,(ar (jO (pv 0) XF rfl)
    (aF (iU jH rfl (cJ (pv 1)) (bi (i:=2) HF.nd rfl (Or.inl rfl))
    (aF (qY hu (eG (pv 0) rfl) (br (aa (eG (pv 2) rfl) (aa (eG (pv 2) rfl) ac))) (pv 2) rfl))))),?_⟩
   refine lU ?_;intro dD sS eZ;refine fun d H1 n1 s1 e1=>?_;refine⟨_,rfl,x,S,dx,_,rfl,s1 _ _ hx,U.cl,U.nS,(by decide),?_⟩;have yd:d≠x:=(bF hx n1).symm;have ax:a≠x:=eF ha hx (by intro z;cases z);have nl:=aP a8;refine⟨_,rfl,a,rfl,⟨_,ah.of (by rw[bc ax];exact s1 _ _ ha)⟩,?_⟩;refine lI (xs:=xs) (fun i σ H2=>∃u ab,σ=[some (.ref x),some (.ref a),u]/\(∀b o,H b=some o->b≠x->H2 b=some o)/\H2 x=some (.ins S dx (aA ajz (.ref d) []))/\H2 d=some (.dT ab)/\HE ab xs ps i)
    ⟨none,[],rfl,fun b o e hb=>by rw[bc hb];exact s1 _ _ e,bf,by rw[bc yd];exact e1,aS _,fun j p v hj=>absurd hj (Aa _),.nil⟩ ?_ ?_ ?_
   . intro i σ H2 hi BK;refine cL ?_;intro tT;obtain⟨u,ab,rfl,k2,_⟩:=BK;exact ah.of (k2 _ _ ha ax)
   . intro i v σ H2 hv BL;refine cL ?_;intro tT;obtain⟨u,ab,rfl,k2,rL,hd2,hk⟩:=BL
     skip
     obtain⟨p,hp,b,dy,fl,rk,m,pf,pn,yg,po,ys,rfl,h1,h2,h3,h4,h5,h6⟩:=bO a8 hv;have bx:b≠x:=eF h1 hx (by intro z;injection z with _ _ z;subst z;have:=h2.name;cases this);have b2:=k2 _ _ h1 bx;have m2:=k2 _ _ h3 (eF h3 hx (by intro z;cases z));have pQ:(aA (ajz:Str) (V.ref d) []).lookup (ajz:Str)=some (.ref d):=by rw[bG,aB rfl]
     refine⟨_,rfl,_,rfl,x,S,dx,_,_,rfl,rL,U.cl,U.nS,pQ,_,rfl,b,C,dy,_,_,rfl,b2,T.cl,T.nN,h2.name,_,rfl,b,C,dy,_,_,rfl,b2,T.cl,T.nM,h2.make,(by show 2<=sizeLine;decide),fun t H3 n3 s3 e3=>?_⟩;have aR:=(bW.mp hv).1;refine⟨d,_,rfl,jn.t (s3 _ _ hd2) (BV e3 (s3 _ _ m2)) (bq (by have:=hk.1;omega)),?_⟩;refine⟨_,_,rfl,fun c o e hc=>?_,?_,bf,?_,fun j p' v' hj cq sZ=>?_,?_⟩
     . rw[bc (fun z=>by rw[z,n1]at e;cases e)];exact s3 _ _ (k2 _ _ e hc)
     . rw[bc yd.symm];exact s3 _ _ rL
     . exact eU (w5 _ _ _) (EH hk.1)
     . rw[To]
       by_cases yb:j=i
       . subst yb;rw[hp]at cq;rw[hv]at sZ;cases cq;cases sZ;exact aB rfl
       . have rG:j<i:=by omega
         rw[ap]
         . exact hk.2.1 j p' v' rG cq sZ
         . intro z;have z:dk p'=dk p:=z;refine yb ((EI (l:=ps.map dk) (i:=j) (j:=i) ?_ ye).mp ?_)
           . rw[aK];have:=(bW.mp cq).1;omega
           . rw[dq,dq,hp,cq,lw,lw,z]
     . have aaF:bJ ab (dk p)=none:=by
        refine aak ?_;rw[Hn (key:=dk) (fun _ _ z=>z) hk.2.2];intro hm;obtain⟨p',cq,e'⟩:=cP.mp hm;obtain⟨j,hj⟩:=wt cq;rw[List.getElem?_take]at hj;split at hj
        . have re:j=i:=(EI (l:=ps.map dk) (by rw[aK];exact(bW.mp hj).1) ye).mp (by rw[dq,dq,hj,hp,lw,lw,e']);omega
        . cases hj
       show Paired _ (ca ab (dk p) (.ref b)) (ps.take (i+1));rw[FP _ aaF,LZ,hp];refine dJ ?_ hk.2.2;rfl
   . intro σ H2 hQ4;refine cL ?_;intro tT;obtain⟨u,ab,rfl,k2,rL,hd2,hk⟩:=hQ4
     skip
     rw[nl]at hk;exact q H2 k2 ⟨x,dx,_,d,ab,rfl,rL,by rw[bG,aB rfl],by rw[bG,ap (by decide +kernel)];rfl,by rw[bG,ap (by decide +kernel)];rfl,by rw[bG,ap (by decide +kernel)];rfl,hd2,hk⟩
def BY(K:Fg)(S:Addr):Sp:=fun vs H Q _=>∃(sv v:V) (m:Addr) (xs:Lv) (ps:Lp) (j:Nat) (p:bp),vs=[sv,.str p.nm,.ref m]/\kO S H sv xs ps/\ps[j]?=some p/\xs[j]?=some v/\H m=some (.tup (p.ms.map V.int))/\∀H',af H H'->Q v H'
theorem aaH:bo [aio,aik,ait] [aio,aik,ait] (aO j7):=bu
theorem HG{f S fN fM fP:Addr}{fd:Fy}(F:aj K aiy "Shelf.parcel" j7 f fd)(U:gG K mg S fN fM fP):ao P w K mg base aq 1 f fd [aio,aik,ait] (BY K S):=by
 refine F.okL aaH ?_
 . intro aG A outer s H vs Q E hr h xX dX;obtain⟨sv,v,m,xs,ps,j,p,rfl,⟨a,dx,fl,d,ab,rfl,h1,h2,h3,_,_,h4,h5⟩,hp,hv,hm,q⟩:=h;have hu:=hr.units;have HH:=h5.2.1 j p v (bW.mp hp).1 hp hv;refine⟨_,(ar (bA (Am (FV hu (br (aa (pv 1) (aa (pv 2) ac))) (eG (pv 0) rfl)) (by rfl))
    (aF NL) bw)
    (aF (aN (xa hu (eG (pv 0) rfl) (br (aa (pv 1) (aa (pv 2) ac))) (fun _ _=>rfl))))),?_⟩
   refine lU ?_;intro dD sS eZ;refine⟨_,rfl,_,rfl,(by show 2<=sizeLine;decide),fun t H1 n1 s1 e1=>?_⟩;have g1:cw H1 d (.ref t) (bJ ab (dk p)):=cw.t (s1 _ _ h4) (BV e1 (s1 _ _ hm));refine⟨_,rfl,a,S,dx,_,_,rfl,s1 _ _ h1,U.cl,U.nS,h2,d,_,rfl,g1,_,rfl,?_⟩;rw[HH];refine av (fun h=>absurd h (by show ¬((!true)=true);decide)) (fun h=>?_);refine⟨_,rfl,a,S,dx,_,_,rfl,s1 _ _ h1,U.cl,U.nS,h2,_,rfl,_,rfl,(by show 2<=sizeLine;decide),fun t2 H2 n2 s2 e2=>?_⟩;have bP:=s1.trans s2;have g2:cw H2 d (.ref t2) (bJ ab (dk p)):=cw.t (bP _ _ h4) (BV e2 (bP _ _ hm));rw[HH]at g2;exact⟨d,v,rfl,g2,q H2 bP⟩
end
open PySem.Spec PyProof.Rows
theorem HI:∀(p:Str) (l:Ls),risingS p l=true->(p::l).Pairwise (fun a b=>a.cps.toList<=b.cps.toList)
 | p,[],_=>EJ _ _
 | p,x::r,h=>by
  have h:(!ltCps x.cps.toList p.cps.toList && risingS x r)=true:=h;obtain⟨h1,h2⟩:=gw.mp h;have ih:=HI x r h2;have le:p.cps.toList<=x.cps.toList:=by
   rw[agN]at h1;intro z;rw[aE z]at h1;cases h1
  refine wu.mpr ⟨fun y hy=>?_,ih⟩
  rcases cE.mp hy with e | hy
  . rw[e];exact le
  . exact List.le_trans le (agO ih hy)
theorem HJ:∀{l:Ls},sortedS l=true->l.Pairwise (fun a b=>a.cps.toList<=b.cps.toList)
 | [],_=>.nil
 | x::r,h=>HI x r h
theorem aaI{a b:Ls}(p:a.Perm b)(h1:sortedS a=true)(h2:sortedS b=true):a=b:=by
 refine agP (fun x y _ _ h h'=>?_) (HJ h1) (HJ h2) p;have e:=List.le_antisymm h h';obtain⟨⟨x⟩⟩:=x;obtain⟨⟨y⟩⟩:=y;have e:x=y:=e;rw[e]
section
variable {β:Type}
def cN(tr:List (Str×β))(x:Str)(ls:β):List (Str×β):=if (tr.any fun f=>decide (f.1=x))=true then tr.map (fun f=>if f.1=x then(f.1,ls) else f) else tr++[(x,ls)]
theorem yh(tr:List (Str×β))(x:Str)(ls:β):(cN tr x ls).length<=tr.length+1:=by
 unfold cN;split
 . rw[aK];omega
 . rw[be,jE];omega
theorem yi{F:bj×V->Str×β->Prop}(hk:∀kv f,F kv f->kv.1=Sum.inr f.1){x:Str}{ls:β}{v:V}(hv:F (.inr x,v) (x,ls)){ab:List (bj×V)}{tr:List (Str×β)}(h:Paired F ab tr):Paired F (ca ab (.inr x) v) (cN tr x ls):=by
 have e:(ab.any fun kv=>decide (kv.1=Sum.inr x))=(tr.any fun f=>decide (f.1=x)):=by
  induction h with
  | nil=>rfl
  | cons r t ih=>
   rw[oW,oW,ih,hk _ _ r]
   congr 1
   exact EB.mpr ⟨fun z=>oS z,fun z=>by rw[z]⟩
 unfold ca cN;rw[e];split
 . clear e;rename_i hh;clear hh
   induction h with
   | nil=>exact .nil
   | @cons kv f ab tr r t ih=>
    refine .cons ?_ ih;have hr:=hk _ _ r;dsimp only
    by_cases hx:f.1=x
    . have HK:kv.1=Sum.inr x:=by rw[hr,hx]
      rw[aB HK,aB hx,HK,hx];exact hv
    . rw[ap (fun z=>hx (oS (hr.symm.trans z))),ap hx];exact r
 . exact dJ hv h
end
theorem aaJ{β:Type}{F:bj×V->Str×β->Prop}(hk:∀kv f,F kv f->kv.1=Sum.inr f.1){ab:List (bj×V)}{tr:List (Str×β)}(h:Paired F ab tr){x:Str}(hx:x∉tr.map (·.1)):bJ ab (.inr x)=none:=by
 induction h with
 | nil=>rfl
 | @cons kv f ab tr r t ih=>
  have hr:=hk _ _ r;rw[dM,cE,not_or]at hx;rw[fX (fun q=>hx.1 (oS (hr.symm.trans q)).symm)];exact ih hx.2
abbrev Ch:=List (Str×List Int)
def nV(H:Hp)(kv:bj×V)(e:Str×List Int):Prop:=kv.1=.inr e.1/\∃m,kv.2=.ref m/\H m=some (.tup (e.2.map V.int))
theorem nV.same{H H':Hp}(s:af H H'){kv:bj×V}{e:Str×List Int}(h:nV H kv e):nV H' kv e:=h.elim fun a aaK=>aaK.elim fun m aaL=>aaL.elim fun b c=>⟨a,m,b,s _ _ c⟩
def ut(H:Hp)(c:Addr)(ch:Ch):Prop:=∃ab,H c=some (.dK ab)/\Paired (nV H) ab ch
theorem ut.same{H H':Hp}(s:af H H'){c:Addr}{ch:Ch}(h:ut H c ch):ut H' c ch:=h.elim fun ab aaM=>aaM.elim fun a b=>⟨ab,s _ _ a,aX b fun _ _=>nV.same s⟩
section
variable {P:Program}{w:World}{K:Fg}{mg:Mv}{base:Heap}
end
end K43
namespace K43
open PySem L2 PySem.Spec
section
variable {g:TG}{tt:TT}{te:TE}{H1:Hp}{Q:Hp->Prop}
theorem ka{K:Fg}{a D:Addr}{xs:Lv}{σ0:St}(hD:H1 D=none)(hx:ah K H1 a xs)(S:St->Prop)(P:Nat->Lv->Hp->Prop)(s0:S σ0)(st:P 0 [] (al H1 D (.lst [])))
 (turn:∀i x ys σ H (k:St->V->Hp->Prop) (k':St->Hp->Prop),xs[i]?=some x->S σ->H D=some (.lst ys)->af H1 H->P i ys H ->
  (∀σ3 y H5,S σ3->af H H5->ys.length<sizeLine->P (i+1) (ys++[y]) (al H5 D (.lst (ys++[y])))->k σ3 y H5)->(∀σ3 H4,S σ3->af H H4->P (i+1) ys H4->k' σ3 H4) ->
  g x σ H fun σ3 H3=>tt σ3 H3 fun ok H4=>if ok=true then te σ3 H4 (k σ3) else k' σ3 H4)
 (done:∀ys H,H D=some (.lst ys)->af H1 H->P xs.length ys H->Q H) :
 ∃W:Nat->Nat->St->Hp->Prop,(∃m,W 0 m σ0 (al H1 D (.lst [])))/\jX (kG K a) g tt te D (fun H'=>Q H') W:=by
 refine⟨fun i m σ H=>m=xs.length - i/\i<=xs.length/\S σ/\∃ys,H D=some (.lst ys)/\af H1 H/\P i ys H,⟨xs.length,by simp,fQ _,s0,[],bf,jV hD,st⟩,?_⟩;intro i m σ H um;refine cL ?_;intro tT;obtain⟨rfl,hi,hS,ys,hd,hs,hp⟩:=um
 skip
 have q:ah K H a xs:=af.seq hs hx
 by_cases aR:i<xs.length
 . refine .inr ⟨⟨xs,xs[i],q,by simp[aR]⟩,fun x H2 hy=>?_⟩;obtain⟨e1,e2⟩:=hy;subst e1;exact turn i x ys σ _ (fun σ3 y H5=>∃ys,H5 D=some (.lst ys)/\ys.length<sizeLine/\∃m',m'<xs.length - i/\(m'=xs.length - (i+1)/\i+1<=xs.length/\S σ3/\∃zs,al H5 D (.lst (ys++[y])) D=some (.lst zs)/\af H1 (al H5 D (.lst (ys++[y])))/\P (i+1) zs (al H5 D (.lst (ys++[y])))))
    (fun σ3 H4=>∃m',m'<xs.length - i/\(m'=xs.length - (i+1)/\i+1<=xs.length/\S σ3/\∃zs,H4 D=some (.lst zs)/\af H1 H4/\P (i+1) zs H4)) (e2 xs q) hS hd hs hp
    (fun σ3 y H5 a1 a2 a3 a4=>⟨ys,a2 _ _ hd,a3,xs.length - (i+1),by omega,rfl,aR,a1,ys++[y],bf,lT (hs.trans a2) hD,a4⟩)
    (fun σ3 H4 a1 a2 a3=>⟨xs.length - (i+1),by omega,rfl,aR,a1,ys,a2 _ _ hd,hs.trans a2,a3⟩)
 . have e:i=xs.length:=by omega
   subst e;exact .inl ⟨⟨xs,q,aS _⟩,done ys H hd hs hp⟩
theorem rM{K:Fg}{a D:Addr}{xs:Lv}{σ0:St}(hD:H1 D=none)(hx:ah K H1 a xs)(S:St->Prop)(P:Nat->Lv->Hp->Prop)(s0:S σ0)(st:P 0 [] (al H1 D (.lst [])))
 (turn:∀i x ys σ H (k:St->V->Hp->Prop),xs[i]?=some x->S σ->H D=some (.lst ys)->af H1 H->P i ys H ->
  (∀σ3 y H5,S σ3->af H H5->ys.length<sizeLine->P (i+1) (ys++[y]) (al H5 D (.lst (ys++[y])))->k σ3 y H5)->g x σ H fun σ3 H3=>te σ3 H3 (k σ3))
 (done:∀ys H,H D=some (.lst ys)->af H1 H->P xs.length ys H->Q H) :
 ∃W:Nat->Nat->St->Hp->Prop,(∃m,W 0 m σ0 (al H1 D (.lst [])))/\jX (kG K a) g pC te D (fun H'=>Q H') W:=
 ka hD hx S P s0 st (fun i x ys σ H k k' a1 a2 a3 a4 a5 a6 _=>turn i x ys σ H k a1 a2 a3 a4 a5 a6) done
end
abbrev dI (ms:List Int):PySem.W.Dat:=.tuple (ms.map PySem.W.Dat.int)
theorem HL{a b:List Int}:dI a=dI b↔a=b:=⟨fun h=>(List.map_inj_right fun x y z=>PySem.W.Dat.int.inj z).mp (PySem.W.Dat.tuple.inj h),fun h=>by rw[h]⟩
theorem uu(n:Nat)(ms:List Int):PySem.W.kqdOk (n+1) (dI ms)=true:=by
 simp only[dI,PySem.W.kqdOk,wm,cP];rintro d ⟨i,_,rfl⟩;simp[PySem.W.kqdOk]
theorem yj{K:Fg}{H:Hp}{m:Addr}{ms:List Int}(h:H m=some (.tup (ms.map V.int))):DV K H (.ref m) (dI ms):=.tup (ak.of h) (A9 ms)
theorem uv{X:Cx}(K:Fg){es:List Expr}{k:Nat}{pos:Pos}{t:m9}{n:Nat}(hc:X.calm=true)(h:ip X es t)(hK:X.K=K:=by rfl)
 (hn:(assignEach es X.env).length=n:=by rfl) (jL:(assignEach es X.env).findIdx? (·.1)=none:=by rfl):PG X (.Tuple es k pos) (wL K n t):=hK▸sW hc h hn jL
theorem pR:∀xs:Ls,(xs.map V.str).all lM=true
 | []=>rfl
 | x::xs=>by rw[dM,Ex,pR xs];rfl
theorem yk{b:Bool}{ls:List Int}(h:b=true↔dI ls=PySem.W.Dat.tuple []):b=decide (ls=[]):=by
 rw[show PySem.W.Dat.tuple []=dI [] from rfl,HL]at h
 by_cases q:ls=[]
 . rw[aE q];exact h.mpr q
 . rw[ba q];exact jj.mpr fun z=>q (h.mp z)
section
variable {P:Program}{w:World}{K:Fg}{mg:Mv}{base:Heap}
def BZ:Sp:=fun vs H Q _=>∃(a l:Addr) (b:V) (mk ls:List Int) (bl:Oi),vs=[.ref a,.ref l,b]/\H a=some (.tup (mk.map V.int))/\H l=some (.tup (ls.map V.int))/\ce H b bl/\Q (.bl (!HT.lexLt mk ls && nB mk bl)) H
theorem aaN:bo [ait,ajl,ajm] [ait,ajl,ajm] (aO lY):=bu
theorem HM{f:Addr}{fd:Fy}(F:aj K aix aix lY f fd):ao P w K mg base aq 1 f fd [ait,ajl,ajm] BZ:=by
 refine F.okL aaN ?_
 . intro aG A outer s H vs Q E hr h xX dX;obtain⟨a,l,b,mk,ls,bl,rfl,hA,hL,hB,q⟩:=h;have hu:=hr.units0;refine⟨_,aF (aN (eW (cB (F6 hu) (pv 0) (pv 1) (aJ _)) (fq (wK (cB iq (pv 2) cI (aJ _)) (fq (cB (AO hu) (pv 0) (pv 2) (aJ _))))))),?_⟩;refine⟨_,rfl,_,rfl,a,l,mk,ls,rfl,rfl,ak.of hA,ak.of hL,_,rfl,av (fun h1=>?_) (fun h1=>?_)⟩
   . rw[h1,eu]at q;cases bl with
     | none=>
      have hB:b=.non:=hB;subst hB;exact⟨_,rfl,rfl,_,rfl,dA q⟩
     | some bs=>
      obtain⟨c,rfl,hC⟩:=hB;refine⟨_,rfl,rfl,_,rfl,c8 ?_⟩;exact⟨_,rfl,_,rfl,a,c,mk,bs,rfl,rfl,ak.of hA,ak.of hC,q⟩
   . rw[jj.mpr h1,cU]at q;exact q
def B0(C:Addr):Sp:=fun vs H Q _=>∃(cv pv:V) (c:eI) (p:bp),vs=[cv,pv]/\dC H cv c/\f6 C H pv p/\∀H',af H H'->Q (.bl (dj c p)) H'
theorem ym:bo [aiY,aiy,aik,ajl,ajm] [aiY,aiy] (aO rq):=bu
theorem HN{f fe C:Addr}{fd iC:Fy}(F:aj K aiL aiL rq f fd)(fC:aj K aix aix lY fe iC)(gY:mg aix=some (.ref fe))(T:Txt K mg C) :
 ao P w K mg base aq 2 f fd [aiY,aiy] (B0 C):=by
 have B1:ao P w K mg base aq 1 fe iC [ait,ajl,ajm] BZ:=HM fC;have B2:=fC.binds3 (l:=[ait,ajl,ajm]) (fun _ _ _ _ _ _ _ _ _=>rfl);refine F.okL ym ?_
 . intro aG A outer s H vs Q E hr h xX dX;obtain⟨cv,v,cl,p,rfl,⟨c,l,b,rfl,c1,c2,c3⟩,⟨a,dx,fl,rk,m,pf,pn,ps,po,xs,rfl,hA,hF,hM,_,_,hO,_⟩,q⟩:=h;have hu:=hr.units;refine⟨_,ar (aY (i:=2) ym.nd rfl (Or.inl rfl) (au aQ (pv 0) ae (fun _ _=>rfl)))
    (ar (aY (i:=3) ym.nd rfl (Or.inl rfl) (au aQ (pv 0) ae (fun _ _=>rfl)))
    (ar (aY (i:=4) ym.nd rfl (Or.inl rfl) (au aQ (pv 0) ae (fun _ _=>rfl)))
    (Bb (fun σ H2=>σ=[some (.ref c),some (.ref a),some (.str cl.nm),some (.ref l),some b]/\H2=H/\(decide (cl.nm=p.nm) && (!HT.lexLt p.ms cl.ls && nB p.ms cl.bl))=false)
     (bA (PW.pt (sU (bd bZ (eG (pv 1) rfl) (pv 2) (aJ _)) (wJ (im (aI B1 hr rfl gY fC.kp B2 .nil az (aa (eG (pv 1) rfl) (aa (pv 3) (aa (pv 4) ac))))))))
      (aF (aN dr)) bw)
    (aF (aN (eW (cB qW (pv 2) (eG (pv 1) rfl) (by rfl)) (eW (cB (Ba hu) (pv 3) (br ac) (aJ _)) (fq (cB iq (pv 4) cI (aJ _)))))))))),?_⟩
   refine pG ?_;intro dD sS j9 i8 eZ;have a0:aM [V.str cl.nm,.ref l,b] 0=some (V.str cl.nm):=rfl;have a1:aM [V.str cl.nm,.ref l,b] 1=some (V.ref l):=rfl;have a2:aM [V.str cl.nm,.ref l,b] 2=some b:=rfl;refine⟨_,rfl,c,_,_,_,rfl,rfl,ak.of c1,a0,?_⟩;refine⟨_,rfl,c,_,_,_,rfl,rfl,ak.of c1,a1,?_⟩;refine⟨_,rfl,c,_,_,_,rfl,rfl,ak.of c1,a2,?_⟩;refine⟨?_,?_⟩
   . refine⟨_,rfl,a,C,dx,_,_,rfl,hA,T.cl,T.nN,hF.name,_,rfl,rfl,_,rfl,?_⟩;refine av (fun h1=>?_) (fun h1=>?_)
     . have e1:p.nm=cl.nm:=by
        have:=aL h1;injection this
       refine⟨_,rfl,a,C,dx,_,_,rfl,hA,T.cl,T.nM,hF.make,_,rfl,_,rfl,m,l,b,p.ms,cl.ls,cl.bl,rfl,hM,c2,c3,_,rfl,?_⟩;refine av (fun h2=>?_) (fun h2=>?_)
       . have e:dj cl p=true:=by unfold dj;rw[h2,aE e1.symm];rfl
         rw[e]at q;exact q _ (af.refl H)
       . exact⟨rfl,rfl,by rw[jj.mpr h2,m4]⟩
     . refine⟨rfl,rfl,?_⟩;have:cl.nm≠p.nm:=fun e=>h1 (by rw[e];exact aE rfl);rw[ba this,cU]
   . rintro σ' H' ⟨rfl,rfl,hN⟩;unfold dj at q;rw[hN,zW]at q;refine⟨_,rfl,_,rfl,a,C,dx,_,_,rfl,hA,T.cl,T.nO,hF.offers,po,_,rfl,.inl (ah.of hO),rfl,pR _,_,rfl,av (fun h1=>?_) (fun h1=>?_)⟩
     . have B3:jS (.str cl.nm) (p.os.map V.str)=true:=h1;rw[B3,eu]at q;refine⟨_,rfl,(by show 0<=sizeLine;decide),fun t H1 n1 s1 e1=>?_⟩;refine⟨dI cl.ls,dI [],yj (s1 _ _ c2),yj e1,uu 8 _,uu 8 _,fun b1 uw=>⟨b1,rfl,av (fun h2=>?_) (fun h2=>?_)⟩⟩
       . rw[yk uw]at h2;rw[h2,eu]at q;refine⟨_,rfl,rfl,?_⟩;cases i9:cl.bl with
         | none=>
          rw[i9]at c3 q;have c3:b=.non:=c3;subst c3;exact q _ s1
         | some bs=>
          rw[i9]at c3 q;obtain⟨d,rfl,_⟩:=c3;exact q _ s1
       . have e:=yk uw;rw[jj.mpr h2]at e;rw[←e,cU]at q;exact q _ s1
     . have B3:jS (.str cl.nm) (p.os.map V.str)=false:=jj.mpr h1;rw[B3,cU]at q;exact q _ (af.refl _)
def HP(C:Addr):Sp:=fun vs H Q _=>∃(v:V) (p:bp),vs=[v]/\f6 C H v p/\p.fs.length<=100/\gU H (.lst ((bQ p).map V.str)) Q
theorem aaO:bo [aiy] [aiy] (aO xH):=bu
theorem aaP{f C:Addr}{fd:Fy}(F:aj K ajv ajv xH f fd)(T:Txt K mg C):ao P w K mg base aq 1 f fd [aiy] (HP C):=by
 refine F.okL aaO ?_
 . intro aG A outer s H vs Q E hr h xX dX;obtain⟨v,p,rfl,⟨a,dx,fl,rk,m,pf,pn,ps,po,xs,rfl,hA,hF,hM,l5,iA,_⟩,BX,q⟩:=h;have hl:=aP iA;refine⟨_,(aF (aN (fA [ai3,ajd] [] [] cC rfl (cJ (eG (pv 0) rfl)) (fun _ _ _ _=>(uv (n:=2) K rfl (ft (bi (i:=0) (show List.Nodup ([ai3,ajd]:Ls) by decide +kernel) rfl (Or.inl rfl)) (ft (bi (i:=1) (show List.Nodup ([ai3,ajd]:Ls) by decide +kernel) rfl (Or.inl rfl)) lH)))) (fun _ _ _ _=>fz) (fun _ _ _ _=>(pv 0))))),?_⟩;refine⟨_,rfl,a,C,dx,_,_,rfl,hA,T.cl,T.nF,hF.files,pf,rfl,⟨_,ah.of l5⟩,?_⟩;intro D hD;refine rM (σ0:=[none,none]) hD (ah.of l5) (fun σ=>∃u v,σ=[u,v]) (fun j zs _=>zs=((bQ p).take j).map V.str) ⟨_,_,rfl⟩ rfl ?_ ?_
   . rintro j y zs σ H3 k hy ⟨u,v,rfl⟩ pS h3 rfl cQ;obtain⟨f,hf,t,l,rfl,f1,f2⟩:=bO iA hy;have aR:=(bW.mp hf).1;have i5:(bQ p)[j]?=some f.1:=by unfold bQ;rw[dq,hf];rfl
     refine⟨t,_,rfl,ak.of (h3 _ _ f1),rfl,_,_,rfl,_,_,rfl,rfl,?_⟩;refine⟨_,rfl,cQ _ _ _ ⟨_,_,rfl⟩ (af.refl _) (bq (by rw[aK,eV];omega)) ?_⟩;rw[i6 i5,eA];rfl
   . rintro zs H3 pS h3 rfl;have e:(bQ p).take xs.length=bQ p:=ww (by unfold bQ;rw[aK];omega);rw[e]at pS;exact q D H3 hD h3 pS
end
end K43
namespace L2
open PySem PySem.Spec
end L2
namespace K43
open PySem L2 PySem.Spec
open HT (At)
theorem yo{α β:Type}{F:α->β->Prop}:∀{xs ii:List α}{ys bt:List β},Paired F xs ys->Paired F ii bt->Paired F (xs++ii) (ys++bt)
 | _,_,_,_,.nil,h=>h
 | _,_,_,_,.cons r t,h=>.cons r (yo t h)
theorem nW{H H2:Hp}{p:Addr}{o:HO}(n:H p=none)(s:af H H2):af H (al H2 p o):=fun b u e=>aZ (s _ _ e) (bF e n)
section
variable {P:Program}{w:World}{K:Fg}{mg:Mv}{base:Heap}
end
open PyProof.Rows
theorem rN{z:Str}{xs:Ls}:jS (.str z) (xs.map V.str)=true↔z∈xs:=by
 unfold jS;rw[lx];constructor
 . rintro⟨v,hv,e⟩;obtain⟨y,hy,rfl⟩:=cP.mp hv;have:y=z:=by simpa [kH]using e
   rw[←this];exact hy
 . intro h;exact⟨.str z,List.mem_map_of_mem h,by simp[kH]⟩
section
variable {P:Program}{w:World}{K:Fg}{mg:Mv}{base:Heap}
end
end K43
namespace L2
open PySem PySem.Spec PyProof.Rows
def ja(H:Hp)(ys:Lv)(ks:Ll):Prop:=Paired (fun(y:V) (k:List Int)=>∃t,y=.ref t/\H t=some (.tup (k.map V.int))/\k≠[]) ys ks
theorem ja.at{K:Fg}{H:Hp}{ys:Lv}{ks:Ll}(h:ja H ys ks):Bo K H ys ks:=aX h fun _ _ aaQ=>aaQ.elim fun t aaR=>aaR.elim fun e aaS=>aaS.elim fun a b=>⟨t,e,ak.of a,b⟩
theorem ja.same{H H':Hp}{ys:Lv}{ks:Ll}(s:af H H')(h:ja H ys ks):ja H' ys ks:=aX h fun _ _ aaT=>aaT.elim fun t aaU=>aaU.elim fun e aaV=>aaV.elim fun a b=>⟨t,e,s _ _ a,b⟩
section
variable {X:Cx}
theorem B4:gy X (.builtin "sorted") (fun xs H Q=>∃q ys ks,xs=[.ref q]/\ah X.K H q ys/\ja H ys ks/\ys.length<=4/\ks.Nodup/\∀bt jk,ja H bt jk->jk.Perm ks->i4 jk=true->gU H (.lst bt) Q):=by
 intro pins s σ H xs us Q I r h;obtain⟨q,ys,ks,rfl,hq,HQ,h4,nd,fin⟩:=h;obtain⟨u,rfl,ru⟩:=vals1 r;cases ru;have ht:Bo X.K H ys ks:=HQ.at;obtain⟨its,rv,hl,hz⟩:=I.list hq;have hlen:=xu rv;have pQ:=xu ht;have tp:=I.tups ht rv;have kp:∀b o,s.heap.get? b=some o->((s.heap.push (seqObj "list" #[] 0)).update s.heap.objs.size (Obj.mapSeq (·++its.toArray))).get? b=some o:=fun b o e=>by
  rw[Heap.get?_update_ne _ _ _ _ (ck (bn e))];exact bS _ e
 refine X0 (collect_list hl.isList ?_ (iw (by omega)));generalize (s.heap.push (seqObj "list" #[] 0)).update s.heap.objs.size (Obj.mapSeq (·++its.toArray))=h' at kp ⊢;have I':Inv X pins σ H { s with heap:=h',toks:=s.toks }:=I.kept kp;refine⟨ks,h',s.toks,rfl,aX tp fun _ _ t=>t.keep fun b o e _=>kp b o e,by omega,nd,fun h2 p e k2 he hp ha=>?_⟩;have hm:∀i∈p,i<ys.length:=fun i hi=>by
  have:=lq.mp (hp.mem_iff.mp hi);omega
 have bH:=hp.length_eq;rw[jG]at bH;refine⟨.ref h'.objs.size,_,I'.laid (s:={ s with heap:=h',toks:=s.toks }) (t':=s.toks) (o:=.lst (p.map fun i=>ys.getD i .non)) k2 (aS _) ⟨by rw[aK];exact iw (by omega),_,e,Bn rv _ _ p hm,he⟩,rfl,?_⟩;exact(fin _ (p.map fun i=>ks.getD i []) (Bn HQ _ _ p hm) (X3 (by rw[←pQ,hlen];exact hp)) (by rw[GB];exact ha)).at _ (I'.hok.fresh (aS _))
end
theorem HR{H1:Hp}{d:Addr}{ab:List (List NI×V)}{σ0:St}{g:TG}{tt:TT}{te:TE}{Q:VK}(hd:H1 d=some (.dT ab))(S:St->Prop)(P:Nat->Lv->Prop)(s0:S σ0)(st:P 0 [])
 (turn:∀i k v b ys σ H (kk:St->V->Hp->Prop) (k':St->Hp->Prop),ab[i]?=some (k,v)->fS H k b->(∀c vs,H c=some (.tup vs)->H1 c=some (.tup vs))->S σ->P i ys ->
  (∀σ3 y,S σ3->P (i+1) (ys++[y])->kk σ3 y H)->(∀σ3,S σ3->P (i+1) ys->k' σ3 H) ->
  g (.ref b) σ H fun σ3 H3=>tt σ3 H3 fun ok H4=>if ok=true then te σ3 H4 (kk σ3) else k' σ3 H4)
 (small:ab.length<sizeLine) (long:∀i ys,P i ys->ys.length<=i)
 (done:∀D H' ys,H1 D=none->af H1 H'->H' D=some (.lst ys)->P ab.length ys->Q (.ref D) H') :
 Hb H1 d ab σ0 g tt te Q:=by
 intro ob D hD;obtain⟨HS,B5⟩:=xi hD;refine⟨fun i m σ H=>m=ab.length - i/\i<=ab.length/\S σ/\∃ys,H=al (al H1 d (.frz ob (.dT ab))) D (.lst ys)/\P i ys,⟨ab.length,by simp,fQ _,s0,[],rfl,st⟩,?_⟩;rintro i m σ H ⟨rfl,hi,hS,ys,rfl,hp⟩;have pH:al (al H1 d (.frz ob (.dT ab))) D (.lst ys) d=some (.frz ob (.dT ab)):=by rw[bc HS.symm,bf]
 by_cases aR:i<ab.length
 . refine .inr ⟨⟨pH,aR⟩,fun x H2 hy=>?_⟩;obtain⟨k,v,b,e1,rfl,nb,rfl⟩:=hy;refine turn i k v b ys σ _ _ _ e1 nb (fun c vs hc=>?_) hS hp (fun σ3 y a1 a2=>?_) (fun σ3 a1 a2=>?_)
   . have nc:c≠D:=fun z=>by rw[z,bf]at hc;cases hc
     rw[bc nc]at hc;have nd:c≠d:=fun z=>by rw[z,bf]at hc;cases hc
     rw[bc nd]at hc;exact hc
   . refine⟨ys,bf,LB (eU (long i ys hp) hi) small,ab.length - (i+1),by omega,rfl,aR,a1,ys++[y],MB,a2⟩
   . exact⟨ab.length - (i+1),by omega,rfl,aR,a1,ys,rfl,a2⟩
 . have e:i=ab.length:=by omega
   subst e;refine .inl ⟨⟨pH,aS _⟩,pH,done D _ ys B5 (fun b o e=>?_) ?_ hp⟩
   . by_cases hb:b=d
     . subst hb;rw[bf,←e,hd]
     . rw[bc hb,bc (bF e B5),bc hb];exact e
   . rw[bc HS,bf]
end L2
namespace K43
open PySem L2 PySem.Spec PyProof.Rows
seal PE PS c7 PA PT PW PG ip PI gB
theorem HU{H:Hp}{b:Addr}{nm:Str}{mk:List Int}(h:fS H [.inl (.inr nm),.inr (mk.map Sum.inl)] b):∃m,H b=some (.tup [.str nm,.ref m])/\H m=some (.tup (mk.map V.int)):=by
 obtain⟨vs,e,r⟩:=h;cases r with
 | cons r1 t=>
  cases t with
  | cons r2 t=>
   cases t;have r1:_=V.str nm:=r1;obtain⟨m,e2,h2⟩:=(show∃m,_=V.ref m/\H m=_ from r2);subst r1 e2;refine⟨m,e,?_⟩;rw[h2,EG];rfl
section
variable {P:Program}{w:World}{K:Fg}{mg:Mv}{base:Heap}
def HV(S:Addr):Sp:=fun vs H Q _=>∃(sv:V) (xs:Lv) (ps:Lp),vs=[sv]/\kO S H sv xs ps/\ps.length<64/\∀l (ys:Ls) H',H l=none->af H H'->H' l=some (.lst (ys.map V.str))->sortedS ys=true->ys.Nodup->(∀z,z∈ys↔z∈ps.map bp.nm)->Q (.ref l) H'
theorem aaW:bo [aio] [aio] (aO pJ):=bu
theorem HW:∀{a b:Ls},a.Nodup->(∀z∈a,z∈b)->a.length<=b.length:=fun h k=>xB h k
theorem aaX{f S f2 f3:Addr}{fd:Fy}(F:aj K "names" "Shelf.names" pJ f fd)(B:cj mg)(U:gG K mg S f f2 f3):ao P w K mg base aq 1 f fd [aio] (HV S):=by
 refine F.okL aaW ?_
 . intro aG A outer s H vs Q E hr h xX dX;obtain⟨sv,xs,ps,rfl,⟨a,dx,fl,d,ab,rfl,h1,hf,_,_,_,h2,B6⟩,BA,q⟩:=h;have h3:=B6.2.2;rw[eB]at h3;refine⟨_,(aF (aN (b8 (GU rfl) (by rfl) B.sorted Af (aa (fT (GZ rfl) (by rfl) B.set agQ (aa (Hc [aik,ait] [] [] cC rfl (eG (pv 0) rfl)
    (fun _ _ _ _=>(uv (n:=2) K rfl (ft (bi (i:=0) (show List.Nodup ([aik,ait]:Ls) by decide +kernel) rfl (Or.inl rfl)) (ft (bi (i:=1) (show List.Nodup ([aik,ait]:Ls) by decide +kernel) rfl (Or.inl rfl)) lH)))) (fun _ _ _ _=>fz) (fun _ _ _ _=>(pv 0))) ac)) ac)))),?_⟩
   have lk:=aP h3;refine⟨_,rfl,a,S,dx,_,_,rfl,h1,U.cl,U.nS,hf,d,ab,rfl,h2,?_⟩;refine HR h2 (fun σ=>∃u v,σ=[u,v]) (fun i ys=>ys=((ps.take i).map bp.nm).map V.str) ⟨_,_,rfl⟩ rfl ?_ (bq (by omega)) (fun i ys e=>by rw[e,aK,aK,eV];omega) ?_
   . rintro i k v b ys σ H2 kk k' hk nb up ⟨u,u',rfl⟩ rfl c1 c2;obtain⟨p,hp,hE⟩:=bO h3 hk;rw[show k=dk p from hE]at nb;obtain⟨m,hb,hm⟩:=HU nb;refine⟨b,_,rfl,ak.of hb,rfl,_,_,rfl,_,_,rfl,rfl,?_⟩;dsimp only[pC];rw[aB rfl];refine⟨_,rfl,c1 _ _ ⟨_,_,rfl⟩ ?_⟩;rw[LZ,hp,eA,eA];rfl
   . rintro D H2 ys hD s2 eD rfl;rw[lk,eB]at eD;refine⟨D,ps.map bp.nm,rfl,ah.of eD,by rw[aK];omega,fun r xs H3 n3 s3 e3 nd mem=>?_⟩;have hl:=HW nd fun z hz=>(mem z).mp hz;rw[aK]at hl;refine⟨r,xs,rfl,e3,by omega,fun bt hp hs=>fun l H4 n4 s4 e4=>?_⟩;exact q l bt H4 ((s2.trans s3).free n4) (s2.trans (s3.trans s4)) e4 hs (hp.nodup_iff.mpr nd) fun z=>(hp.mem_iff).trans (mem z)
def a9(ps:Lp)(nm:Str):Ll:=(ps.filter fun p=>decide (p.nm=nm)).map bp.ms
theorem yq{ps:Lp}(nd:(ps.map dk).Nodup)(nm:Str):(a9 ps nm).Nodup:=by
 unfold a9;have h1:((ps.filter fun p=>decide (p.nm=nm)).map dk).Nodup:=(List.filter_sublist.map dk).nodup nd;have h2:∀p∈ps.filter fun p=>decide (p.nm=nm),p.nm=nm:=fun p hp=>aL (iQ.mp hp).2;generalize ps.filter (fun p=>decide (p.nm=nm))=qs at h1 h2;clear nd
 induction qs with
 | nil=>exact Lz
 | cons p qs ih=>
  rw[dM,m3]at h1 ⊢;refine⟨fun hm=>h1.1 ?_,ih h1.2 fun r hr=>h2 r (eS _ hr)⟩;obtain⟨r,hr,e⟩:=cP.mp hm;refine cP.mpr ⟨r,hr,?_⟩;unfold dk;rw[e,h2 p gc,h2 r (eS _ hr)]
structure kP(ps:Lp):Prop where
 nd:(ps.map dk).Nodup
 mm:∀p∈ps,p.ms≠[]
 four:∀nm,(a9 ps nm).length<=4
 len:ps.length<64
def yt(S:Addr):Sp:=fun vs H Q _=>∃(sv:V) (nm:Str) (xs:Lv) (ps:Lp),vs=[sv,.str nm]/\kO S H sv xs ps/\kP ps/\∀l ys ks H',H l=none->af H H'->H' l=some (.lst ys)->ja H' ys ks->ks.Perm (a9 ps nm)->i4 ks=true->Q (.ref l) H'
theorem aaY:bo [aio,aik] [aio,aik] (aO i7):=bu
theorem B7{f S f1 f3:Addr}{fd:Fy}(F:aj K aiW "Shelf.makes_of" i7 f fd)(B:cj mg)(U:gG K mg S f1 f f3):ao P w K mg base aq 1 f fd [aio,aik] (yt S):=by
 refine F.okL aaY ?_
 . intro aG A outer s H vs Q E hr h xX dX;obtain⟨sv,nm,xs,ps,rfl,⟨a,dx,fl,d,ab,rfl,h1,hf,_,_,_,h2,B6⟩,ok,q⟩:=h;have h3:=B6.2.2;rw[eB]at h3;refine⟨_,(aF (aN (b8 B4 (by rfl) B.sorted Af (aa (Hc ["key"] [aik] [1] cC rfl (eG (pv 0) rfl)
    (fun _ _ _ _=>(bi (i:=0) (show List.Nodup (["key",aik]:Ls) by decide +kernel) rfl (Or.inl rfl))) (fun _ _ _ _=>jp (bd bZ (au (cK K) (pv 0) ae (fun _ _=>rfl)) (pv 1) (aJ _))) (fun _ _ _ _=>(au (cK K) (pv 0) ae (fun _ _=>rfl)))) ac)))),?_⟩
   have lk:=aP h3;have l64:=ok.len;refine⟨_,rfl,a,S,dx,_,_,rfl,h1,U.cl,U.nS,hf,d,ab,rfl,h2,?_⟩;refine HR h2 (fun σ=>∃u,σ=[u,some (.str nm)]) (fun i ys=>ys.length<=i/\ja H ys (a9 (ps.take i) nm)) ⟨_,rfl⟩ ⟨aS _,.nil⟩ ?_ (bq (by omega)) (fun i ys e=>e.1) ?_
   . rintro i k v b ys σ H2 kk k' hk nb up ⟨u,rfl⟩ ⟨zl,zt⟩ c1 c2;obtain⟨p,hp,hE⟩:=bO h3 hk;rw[show k=dk p from hE]at nb;obtain⟨m,hb,hm⟩:=HU nb;have tZ:p∈ps:=gO hp;have e1:a9 (ps.take (i+1)) nm=a9 (ps.take i) nm++(if p.nm=nm then [p.ms] else []):=by
      unfold a9;rw[LZ,hp,LY,eA]
      by_cases z:p.nm=nm
      . rw[aB z];simp[z]
      . rw[ap z];simp[z]
     refine⟨_,rfl,b,_,_,_,rfl,rfl,ak.of hb,rfl,_,rfl,rfl,_,rfl,?_⟩;refine av (fun h=>?_) (fun h=>?_)
     . have hz:p.nm=nm:=by
        have:=aL h;injection this
       refine⟨_,rfl,b,_,_,_,rfl,rfl,ak.of hb,rfl,c1 _ _ ⟨_,rfl⟩ ⟨by rw[be];simp;omega,?_⟩⟩;rw[e1,aB hz];refine dJ ⟨m,rfl,up _ _ hm,?_⟩ zt;exact ok.mm p tZ
     . have hz:p.nm≠nm:=fun z=>h (aE (by rw[z]));refine c2 _ ⟨_,rfl⟩ ⟨by omega,?_⟩;rw[e1,ap hz,fL];exact zt
   . rintro D H2 ys hD s2 eD ⟨zl,zt⟩;rw[lk,eB]at zt;have hl:=aP zt;have h4:=ok.four nm;refine⟨D,ys,_,rfl,ah.of eD,zt.same s2,by omega,yq ok.nd nm,fun bt jk t' p' a'=>fun l H3 n3 s3 e3=>?_⟩;exact q l bt jk H3 (s2.free n3) (s2.trans s3) e3 (t'.same s3) p' a'
end
structure cO where
 nm:Str
 io:Option (List Int×Oi)
def l7(w:cO)(mk:Oi):Bool:=match w.io,mk with
 | none,mk=>mk.isNone
 | some _,none=>false
 | some c,some m=>!HT.lexLt m c.1 && nB m c.2
def yu(H:Hp)(t:Addr)(nm:Str):Option (List Int×Oi)->Prop
 | none=>H t=some (.tup [.str "out",.str nm])
 | some c=>∃l b,H t=some (.tup [.str "in",.str nm,.ref l,b])/\H l=some (.tup (c.1.map V.int))/\ce H b c.2
def cR(H:Hp)(v:V)(w:cO):Prop:=∃t,v=.ref t/\yu H t w.nm w.io
theorem yu.same{H H':Hp}(s:af H H'){t:Addr}{nm:Str}{io:Option (List Int×Oi)}(h:yu H t nm io):yu H' t nm io:=by
 cases io with
 | none=>exact s _ _ h
 | some c=>
  obtain⟨l,b,h1,h2,h3⟩:=h;exact⟨l,b,s _ _ h1,s _ _ h2,h3.same s⟩
theorem cR.same{H H':Hp}(s:af H H'){v:V}{w:cO}(h:cR H v w):cR H' v w:=h.elim fun t aaZ=>aaZ.elim fun a b=>⟨t,a,b.same s⟩
theorem cR.nm{H:Hp}{v:V}{w:cO}(h:cR H v w):∃t ws,v=.ref t/\H t=some (.tup ws)/\ws[1]?=some (.str w.nm):=by
 obtain⟨t,rfl,h⟩:=h;obtain⟨nm,io⟩:=w;cases io with
 | none=>exact⟨t,_,rfl,h,rfl⟩
 | some c=>
  obtain⟨l,b,h1,_⟩:=h;exact⟨t,_,rfl,h1,rfl⟩
theorem HX:¬(V.str "in"=V.str "out"):=by
 intro z;injection z with z
 exact absurd z (by decide +kernel)
section
variable {P:Program}{w:World}{K:Fg}{mg:Mv}{base:Heap}
def HY:Sp:=fun vs H Q _=>∃(wv mv:V) (w:cO) (mk:Oi),vs=[wv,mv]/\cR H wv w/\ce H mv mk/\Q (.bl (l7 w mk)) H
theorem aa0:bo ["wish",ait] ["wish",ait] (aO xJ):=bu
theorem aa1{f fe:Addr}{fd iC:Fy}(F:aj K ajj ajj xJ f fd)(fC:aj K aix aix lY fe iC)(gY:mg aix=some (.ref fe)):ao P w K mg base aq 2 f fd ["wish",ait] HY:=by
 have B1:ao P w K mg base aq 1 fe iC [ait,ajl,ajm] BZ:=HM fC;have B2:=fC.binds3 (l:=[ait,ajl,ajm]) (fun _ _ _ _ _ _ _ _ _=>rfl);refine F.okL aa0 ?_
 . intro aG A outer s H vs Q E hr h xX dX;obtain⟨wv,mv,w,mk,rfl,⟨t,rfl,hw⟩,hm,q⟩:=h;refine⟨_,(ar (bA (bd bZ (au aQ (pv 0) ae (fun _ _=>rfl)) bh (aJ _))
    (aF (aN (cB iq (pv 1) cI (aJ _)))) bw)
    (aF (aN (eW (cB wS (pv 1) cI (aJ _)) (fq (aI B1 hr rfl gY fC.kp B2 .nil az (aa (pv 1) (aa (au aQ (pv 0) ae (fun _ _=>rfl)) (aa (au aQ (pv 0) ae (fun _ _=>rfl)) ac))))))))),?_⟩
   refine lU ?_;intro dD sS eZ;obtain⟨nm,io⟩:=w;cases io with
   | none=>
    refine⟨_,rfl,t,_,_,_,rfl,rfl,ak.of hw,rfl,rfl,_,rfl,?_⟩;refine av (fun h=>?_) (fun h=>absurd (aE rfl) h);refine⟨_,rfl,rfl,?_⟩;cases mk with
    | none=>
     have hm:mv=.non:=hm;subst hm;exact q
    | some m=>
     obtain⟨a,rfl,_⟩:=hm;exact q
   | some c=>
    obtain⟨l,b,h1,h2,h3⟩:=hw;refine⟨_,rfl,t,_,_,_,rfl,rfl,ak.of h1,rfl,rfl,_,rfl,?_⟩;refine av (fun h=>absurd (aL h) HX) (fun h=>?_);cases mk with
    | none=>
     have hm:mv=.non:=hm;subst hm;refine⟨_,rfl,rfl,_,rfl,c8 ?_⟩;exact q
    | some m=>
     obtain⟨a,rfl,hA⟩:=hm;refine⟨_,rfl,rfl,_,rfl,dA ?_⟩;refine⟨_,rfl,_,rfl,t,_,_,_,rfl,rfl,ak.of h1,rfl,_,rfl,t,_,_,_,rfl,rfl,ak.of h1,rfl,?_⟩;exact⟨a,l,b,m,c.1,c.2,rfl,hA,h2,h3,q⟩
def HZ(S:Addr):Sp:=fun vs H Q _=>∃(sv:V) (nm:Str) (xs:Lv) (ps:Lp),vs=[sv,.str nm]/\kO S H sv xs ps/\kP ps /\
 ∀l ys ks H',H l=none->af H H'->H' l=some (.lst (.non::ys))->ja H' ys ks->ks.Perm (a9 ps nm)->i4 ks=true->Q (.ref l) H'
theorem aa2:bo [ail,aik] [ail,aik] (aO ud):=bu
theorem aa3{f S f1 cY f3:Addr}{fd fD:Fy}(F:aj K ai7 ai7 ud f fd)(B:cj mg)(U:gG K mg S f1 cY f3)(eK:aj K aiW "Shelf.makes_of" i7 cY fD):ao P w K mg base aq 2 f fd [ail,aik] (HZ S):=by
 have ux:ao P w K mg base aq 1 cY fD [aio,aik] (yt S):=B7 eK B U;have uy:=eK.binds2 (l:=[aio,aik]) (fun _ _ _ _ _ _ _ _=>rfl);refine F.okL aa2 ?_
 . intro aG A outer s H vs Q E hr h xX dX;obtain⟨sv,nm,xs,ps,rfl,hS,ok,q⟩:=h;refine⟨_,(aF (aN (aH iu (cG (aa cI ac)) (iV (pv 0) U.cl U.mM ux hr uy .nil az (aa (pv 1) ac))))),?_⟩;refine⟨(by show 1<=sizeLine;decide),fun p1 H1 n1 s1 e1=>?_⟩;obtain⟨a,dx,fl,d,ab,rfl,b1,b2,b3,b4,b5,b6⟩:=hS.same s1;refine⟨_,rfl,a,dx,fl,rfl,b1,b5,_,rfl,?_⟩;refine⟨_,nm,xs,ps,rfl,⟨a,dx,fl,d,ab,rfl,b1,b2,b3,b4,b5,b6⟩,ok,fun l ys ks H2 n2 s2 e2 tv pm ad=>?_⟩;have hl:=aP tv;have h4:=ok.four nm;rw[←pm.length_eq,←hl]at h4;refine⟨p1,l,_,_,rfl,rfl,s2 _ _ e1,e2,iw (by simp;omega),fun p3 H3 n3 s3 e3=>?_⟩;exact q p3 ys ks H3 ((s1.trans s2).free n3) ((s1.trans s2).trans s3) e3 (tv.same s3) pm ad
structure kQ(ps:Lp)(ys:Ls):Prop where
 srt:sortedS ys=true
 nd:ys.Nodup
 mem:∀z,z∈ys↔z∈ps.map bp.nm
theorem kQ.uniq{ps:Lp}{a b:Ls}(h:kQ ps a)(k:kQ ps b):a=b:=
 aaI ((List.perm_ext_iff_of_nodup h.nd k.nd).mpr fun z=>by rw[h.mem,k.mem]) h.srt k.srt
def l8(ps:Lp)(n:Int)(nm:Str):Int:=n * ((a9 ps nm).length+1:Nat)
end
abbrev Dec:=List (Str×Oi)
def ga(H:Hp)(kv:bj×V)(e:Str×Oi):Prop:=kv.1=.inr e.1/\ce H kv.2 e.2
theorem ga.same{H H':Hp}(s:af H H'){kv:bj×V}{e:Str×Oi}(h:ga H kv e):ga H' kv e:=⟨h.1,h.2.same s⟩
def dm(H:Hp)(c:Addr)(de:Dec):Prop:=∃ab,H c=some (.dK ab)/\Paired (ga H) ab de
theorem dm.same{H H':Hp}(s:af H H'){c:Addr}{de:Dec}(h:dm H c de):dm H' c de:=h.elim fun ab aa4=>aa4.elim fun a b=>⟨ab,s _ _ a,aX b fun _ _=>ga.same s⟩
section
variable {P:Program}{w:World}{K:Fg}{mg:Mv}{base:Heap}
theorem Ia:bo [aij,aik,"case","further"] [aij,aik,"case"] (aO ue):=bu
end
theorem B8:∀{l:Ll},i4 l=true->l.Pairwise (fun a b=>HT.lexLt a b=true)
 | [],_=>.nil
 | [_],_=>EJ _ _
 | x::y::r,h=>by
  obtain⟨h1,h2⟩:=gw.mp h;have ih:=B8 (l:=y::r) h2;refine wu.mpr ⟨fun z hz=>?_,ih⟩
  rcases cE.mp hz with e | hz
  . rw[e];exact h1
  . exact xt _ _ _ h1 (agO ih hz)
theorem aa5{a b:Ll}(p:a.Perm b)(h1:i4 a=true)(h2:i4 b=true):a=b:=by
 refine agP (fun x y _ _ h h'=>?_) (B8 h1) (B8 h2) p;exact L0 fun ne=>by
  have:=xr x y ne;rw[h,h']at this;cases this
structure B9(ps:Lp)(M:Str->Ll):Prop where
 pm:∀nm,(M nm).Perm (a9 ps nm)
 ad:∀nm,i4 (M nm)=true
theorem B9.is{ps:Lp}{M:Str->Ll}(h:B9 ps M){nm:Str}{ks:Ll}(p:ks.Perm (a9 ps nm))(a:i4 ks=true):ks=M nm:=aa5 (p.trans (h.pm nm).symm) a (h.ad nm)
theorem ce.mut{H:Hp}{D:Addr}{zs cZ:Lv}(hD:H D=some (.lst zs)){b:V}{o:Oi}(h:ce H b o):ce (al H D (.lst cZ)) b o:=by
 cases o with
 | none=>exact h
 | some bs=>
  obtain⟨a,e1,e2⟩:=h;exact⟨a,e1,aZ e2 (eF e2 hD (by intro z;cases z))⟩
def jt(H:Hp)(v:V)(ch:Ch):Prop:=∃c,v=.ref c/\ut H c ch
theorem jt.same{H H':Hp}(s:af H H'){v:V}{ch:Ch}(h:jt H v ch):jt H' v ch:=h.elim fun c aa6=>aa6.elim fun a b=>⟨c,a,b.same s⟩
theorem jt.mut{H:Hp}{D:Addr}{zs cZ:Lv}(hD:H D=some (.lst zs)){v:V}{ch:Ch}(h:jt H v ch):jt (al H D (.lst cZ)) v ch:=by
 obtain⟨c,rfl,ab,h1,h2⟩:=h;refine⟨c,rfl,ab,aZ h1 (eF h1 hD (by intro z;cases z)),aX h2 fun _ _ z=>?_⟩;obtain⟨z1,m,z2,z3⟩:=z;exact⟨z1,m,z2,aZ z3 (eF z3 hD (by intro z;cases z))⟩
theorem uz{H:Hp}:∀{ys:Lv}{ks:Ll},ja H ys ks->Paired (ce H) ys (ks.map some)
 | _,_,.nil=>.nil
 | _,_,.cons ⟨t,e,h,_⟩ r=>.cons ⟨t,e,h⟩ (uz r)
section
variable {P:Program}{w:World}{K:Fg}{mg:Mv}{base:Heap}
end
theorem Ib{H:Hp}{x:Str}:∀{ab:List (bj×V)}{ch:Ch},Paired (nV H) ab ch->ce H ((bJ ab (.inr x)).getD .non) (ch.lookup x)
 | _,_,.nil=>rfl
 | kv::ab,e::ch,.cons r t=>by
  obtain⟨r1,m,r2,r3⟩:=r
  by_cases z:e.1=x
  . subst z;rw[gh r1,r2,show(e::ch).lookup e.1=some e.2 by rw[jF,zZ]];exact⟨m,rfl,r3⟩
  . have n1:kv.1≠.inr x:=fun y=>z (by rw[r1]at y;injection y);have n2:(x == e.1)=false:=jh.mpr fun y=>z y.symm;rw[fX n1,show(e::ch).lookup x=ch.lookup x by rw[jF,n2]];exact Ib t
def yx:Oi->PySem.W.Dat
 | none=>.none
 | some m=>dI m
theorem Ca{a b:Oi}(h:yx a=yx b):a=b:=by
 cases a with
 | none=>
  cases b with
  | none=>rfl
  | some y=>cases h
 | some x=>
  cases b with
  | none=>cases h
  | some y=>rw[HL.mp h]
theorem rO{K:Fg}{H:Hp}{v:V}{o:Oi}(h:ce H v o):DV K H v (yx o)/\PySem.W.kqdOk 9 (yx o)=true:=by
 cases o with
 | none=>
  have h:v=.non:=h;subst h;exact⟨.non,rfl⟩
 | some m=>
  obtain⟨a,rfl,h⟩:=h;exact⟨.tup (ak.of h) (A9 _),uu 8 m⟩
section
variable {P:Program}{w:World}{K:Fg}{mg:Mv}{base:Heap}
end
structure gk(C S:Addr)(H:Hp)(sv:V)(ps:Lp):Prop where
 sh:∃xs,kO S H sv xs ps/\nU C H xs ps
 ok:kP ps
 few:∀p∈ps,nC p
theorem gk.same{C S:Addr}{H H':Hp}{sv:V}{ps:Lp}(s:af H H')(h:gk C S H sv ps):gk C S H' sv ps:=by
 obtain⟨⟨xs,h1,h2⟩,h3,h4⟩:=h;exact⟨⟨xs,h1.same s,h2.same s⟩,h3,h4⟩
def bK(de:Dec)(x:Str):Oi:=(de.lookup x).join
def jb(de:Dec)(x:Str):Bool:=(de.lookup x).isSome
theorem rP{H:Hp}{x:Str}:∀{ab:List (bj×V)}{de:Dec},Paired (ga H) ab de->(bJ ab (.inr x)=none/\de.lookup x=none)\/∃v o,bJ ab (.inr x)=some v/\de.lookup x=some o/\ce H v o
 | _,_,.nil=>.inl ⟨rfl,rfl⟩
 | kv::ab,e::de,.cons r t=>by
  obtain⟨r1,r2⟩:=r
  by_cases z:e.1=x
  . subst z;exact .inr ⟨kv.2,e.2,gh r1,by rw[jF,zZ],r2⟩
  . have n1:kv.1≠.inr x:=fun y=>z (by rw[r1]at y;injection y);have n2:(x == e.1)=false:=jh.mpr fun y=>z y.symm;rw[fX n1,show(e::de).lookup x=de.lookup x by rw[jF,n2]];exact rP t
theorem yz{H:Hp}{x:Str}{ab:List (bj×V)}{de:Dec}(h:Paired (ga H) ab de):ce H ((bJ ab (.inr x)).getD .non) (bK de x):=by
 unfold bK
 rcases rP (x:=x) h with⟨a,b⟩ | ⟨v,o,a,b,c⟩
 . rw[a,b];rfl
 . rw[a,b];exact c
theorem aa7{H:Hp}{x:Str}{ab:List (bj×V)}{de:Dec}(h:Paired (ga H) ab de):(bJ ab (.inr x)).isSome=jb de x:=by
 unfold jb
 rcases rP (x:=x) h with⟨a,b⟩ | ⟨v,o,a,b,c⟩
 . rw[a,b];rfl
 . rw[a,b];rfl
def c9(ps:Lp)(de:Dec):Prop:=∀x m,de.lookup x=some (some m)->∃p∈ps,p.nm=x/\p.ms=m
def bM(ps:Lp)(de:Dec)(x:Str):Option bp:=match bK de x with
 | none=>none
 | some m=>ps.find? fun p=>decide (p.nm=x) && decide (p.ms=m)
theorem yA{de:Dec}{x:Str}{m:List Int}(h:bK de x=some m):de.lookup x=some (some m):=by
 unfold bK at h;cases hz:de.lookup x with
 | none=>rw[hz]at h;cases h
 | some o=>rw[hz]at h;rw[show o=some m from h]
theorem aa8{ps:Lp}{de:Dec}(ok:c9 ps de){x:Str}{m:List Int}(h:bK de x=some m):∃p,bM ps de x=some p/\p∈ps/\p.nm=x/\p.ms=m:=by
 obtain⟨p,hp,e1,e2⟩:=ok x m (yA h);unfold bM;rw[h];cases hf:ps.find? fun p=>decide (p.nm=x) && decide (p.ms=m) with
 | none=>
  have:=L1.mp hf p hp;rw[e1,e2,aE rfl,aE rfl]at this;exact absurd rfl this
 | some q=>
  have h1:=L3 hf;rw[et]at h1;exact⟨q,hf,L4 hf,aL h1.1,aL h1.2⟩
theorem Ic{ps:Lp}{de:Dec}{x:Str}(h:bK de x=none):bM ps de x=none:=by
 unfold bM;rw[h]
def yB(C:Addr)(H:Hp)(v:V):Option bp->Prop
 | none=>v=.non
 | some p=>f6 C H v p
theorem yB.same{C:Addr}{H H':Hp}{v:V}{o:Option bp}(s:af H H')(h:yB C H v o):yB C H' v o:=by
 cases o with
 | none=>exact h
 | some p=>exact f6.same s h
def cD(n:Int)(k:Nat):Bool:=decide (0<=n) && decide (n<k)
def gZ(ps:Lp)(de:Dec)(x:Str):Bool:=jb de x || decide ((a9 ps x).length=0)
def kR(ps:Lp)(ws:List cO)(de:Dec)(n:Int):Bool:=cD n ws.length && match ws[n.toNat]? with
 | none=>false
 | some w=>gZ ps de w.nm && !l7 w (bK de w.nm)
section
variable {P:Program}{w:World}{K:Fg}{mg:Mv}{base:Heap}
def yC:Sp:=fun vs H Q _=>∃(n:Int) (a:Addr) (xs:Lv),vs=[.int n,.ref a]/\H a=some (.lst xs)/\Q (.bl (cD n xs.length)) H
theorem aa9:bo [aiz,ajb] [aiz,ajb] (aO rp):=bu
theorem Cb{f:Addr}{fd:Fy}(F:aj K aiQ aiQ rp f fd)(B:cj mg):ao P w K mg base aq 1 f fd [aiz,ajb] yC:=by
 refine F.okL aa9 ?_
 . intro aG A outer s H vs Q E hr h xX dX;obtain⟨n,a,xs,rfl,ha,q⟩:=h;refine⟨_,(aF (aN (eW (b8 tK (by rfl) B.isinstance wx (aa (pv 0) (aa (sT (v:=.ty "int") rfl B.int agR rfl) ac))) (eW (An (b8 tK (by rfl) B.isinstance wx (aa (pv 0) (aa (sT (v:=.ty "bool") rfl B.bool agS rfl) ac)))) (fq (AA wR qR ae (pv 0) (b8 dH (by rfl) B.len eE (aa (pv 1) ac)))))))),?_⟩;refine⟨_,rfl,_,_,_,_,rfl,.int _,rfl,_,rfl,dA ?_⟩;refine⟨_,rfl,_,_,_,_,rfl,.int _,rfl,_,rfl,_,rfl,dA ?_⟩;refine⟨_,rfl,_,_,rfl,rfl,_,rfl,?_⟩;unfold cD at q;refine av (fun h=>?_) (fun h=>?_)
   . refine⟨_,rfl,a,_,rfl,.inl (ah.of ha),_,_,rfl,rfl,?_⟩;have h:decide (0<=n)=true:=h;rw[h,eu]at q;exact q
   . have h:decide (0<=n)=false:=by simpa using h
     rw[h,cU]at q;exact q
def Ie(C S:Addr):Sp:=fun vs H Q _=>∃(sv:V) (d:Addr) (x:Str) (ps:Lp) (de:Dec),vs=[sv,.ref d,.str x]/\gk C S H sv ps/\dm H d de/\∀H',af H H'->Q (.bl (gZ ps de x)) H'
theorem aba:bo [ail,aij,aik] [ail,aij,aik] (aO xI):=bu
theorem abb{f C S f1 cY f3:Addr}{fd fD:Fy}(F:aj K ajk ajk xI f fd)(B:cj mg)(U:gG K mg S f1 cY f3)(eK:aj K aiW "Shelf.makes_of" i7 cY fD):ao P w K mg base aq 2 f fd [ail,aij,aik] (Ie C S):=by
 have ux:ao P w K mg base aq 1 cY fD [aio,aik] (yt S):=B7 eK B U;have uy:=eK.binds2 (l:=[aio,aik]) (fun _ _ _ _ _ _ _ _=>rfl);refine F.okL aba ?_
 . intro aG A outer s H vs Q E hr h xX dX;obtain⟨sv,d,x,ps,de,rfl,⟨⟨xs,hS,hP⟩,ok,few⟩,⟨ab,hd,pr⟩,q⟩:=h;have hu:=hr.units;refine⟨_,(aF (aN (wK (MQ (FU hu (pv 2) (pv 1)) (by rfl)) (fq (cB bZ (b8 dH (by rfl) B.len eE (aa (iV (pv 0) U.cl U.mM ux hr uy .nil az (aa (pv 2) ac)) ac)) ae (aJ _)))))),?_⟩;refine⟨_,rfl,_,rfl,d,_,rfl,cw.k (k:=.inr x) hd,_,rfl,?_⟩;rw[aa7 pr];unfold gZ at q;refine av (fun h=>?_) (fun h=>?_)
   . have q:=q H (af.refl _);rw[h,Lx]at q;exact q
   . rw[Bool.not_eq_true]at h;obtain⟨a,dx,fl,dd,kk,rfl,b1,b2,b3,b4,b5,b6⟩:=id hS;refine⟨_,rfl,a,dx,fl,rfl,b1,b5,_,rfl,?_⟩;refine⟨_,x,xs,ps,rfl,hS,ok,fun l ys ks H1 n1 s1 e1 tv pm ad=>?_⟩;refine⟨l,_,rfl,.inl (ah.of e1),rfl,?_⟩;have q:=q H1 s1;rw[h,zW]at q;have hl:=aP tv;have hp:=pm.length_eq;have e:decide (V.int (ys.length:Int)=V.int 0)=decide ((a9 ps x).length=0):=EB.mpr ⟨fun z=>by injection z with z;omega,fun z=>by rw[hl,hp,z];rfl⟩;rw[←e]at q;exact q
def yD(C S:Addr):Sp:=fun vs H Q _=>∃(sv:V) (d:Addr) (x:Str) (ps:Lp) (de:Dec),vs=[sv,.ref d,.str x]/\gk C S H sv ps/\dm H d de/\c9 ps de/\∀v H',af H H'->yB C H' v (bM ps de x)->Q v H'
theorem abc:bo [ail,aij,aik] [ail,aij,aik] (aO rA):=bu
theorem Cc{f C S f1 f2 dE:Addr}{fd iD:Fy}(F:aj K aiF aiF rA f fd)(B:cj mg)(U:gG K mg S f1 f2 dE)(gH:aj K aiy "Shelf.parcel" j7 dE iD):ao P w K mg base aq 2 f fd [ail,aij,aik] (yD C S):=by
 have Cd:ao P w K mg base aq 1 dE iD [aio,aik,ait] (BY K S):=HG gH U;have Ce:=gH.binds3 (l:=[aio,aik,ait]) (fun _ _ _ _ _ _ _ _ _=>rfl);refine F.okL abc ?_
 . intro aG A outer s H vs Q E hr h xX dX;obtain⟨sv,d,x,ps,de,rfl,⟨⟨xs,hS,hP⟩,ok,few⟩,⟨ab,hd,pr⟩,bU,q⟩:=h;have hu:=hr.units;refine⟨_,(ar (bA (PW.pt (gS (jK (im (b8 tK (by rfl) B.isinstance wx (aa (pv 2) (aa (sT (v:=.ty "str") rfl B.str PyProof.Rows.boot_str rfl) ac))))) (jJ (bd iq (tF hu (pv 1) (pv 2) ⟨rfl,rfl,rfl,rfl⟩) cI (aJ _)))))
    (aF (aN cI)) bw)
    (aF (aN (iV (pv 0) U.cl U.mP Cd hr Ce .nil az (aa (pv 2) (aa (xa hu (pv 1) (pv 2) (fun _ _=>rfl)) ac)))))),?_⟩
   refine lU ?_;intro dD sS eZ;refine⟨_,rfl,_,_,_,_,rfl,.str _,rfl,_,rfl,c8 ?_⟩;refine⟨_,rfl,d,rfl,.inl ⟨_,.inl hd⟩,_,rfl,_,cw.k (k:=.inr x) hd,rfl,_,rfl,?_⟩;have hb:=yz (x:=x) pr;cases hg:bK de x with
   | none=>
    rw[hg]at hb;have hb:(bJ ab (.inr x)).getD .non=.non:=hb;refine av (fun _=>?_) (fun z=>absurd (aE hb) z);exact q _ H (af.refl _) (by rw[Ic hg];rfl)
   | some m=>
    rw[hg]at hb;obtain⟨t,e,ht⟩:=hb;obtain⟨p,hp,hpm,e1,e2⟩:=aa8 bU hg;refine av (fun z=>?_) (fun _=>?_)
    . have z:(bJ ab (.inr x)).getD .non=.non:=aL z;rw[e]at z;cases z
    . have hv:bJ ab (.inr x)=some (.ref t):=by
       cases hz:bJ ab (.inr x) with
       | none=>rw[hz]at e;cases e
       | some v=>rw[hz]at e;rw[show v=.ref t from e]
      obtain⟨j,hj⟩:=wt hpm;have aR:j<xs.length:=by rw[aP hP];exact(bW.mp hj).1
      have uA:xs[j]?=some xs[j]:=dg aR;obtain⟨p',cq,hE⟩:=bO hP uA;rw[hj]at cq;cases cq;obtain⟨sa,dx,fl,dd,kk,rfl,b1,b2,b3,b4,b5⟩:=id hS;subst e1 e2;refine⟨_,rfl,sa,dx,fl,rfl,b1,b3,_,rfl,_,rfl,_,rfl,d,_,rfl,(by rw[←hv];exact cw.k (k:=.inr p.nm) hd),?_⟩;refine⟨_,xs[j],t,xs,ps,j,p,rfl,hS,hj,uA,ht,fun H3 s3=>?_⟩;exact q _ H3 s3 (by rw[hp];exact f6.same s3 hE)
def Ig(C S:Addr):Sp:=fun vs H Q _=>∃(sv:V) (wl d:Addr) (n:Int) (ps:Lp) (xw:Lv) (ws:List cO) (de:Dec),vs=[sv,.ref wl,.ref d,.int n]/\gk C S H sv ps/\H wl=some (.lst xw)/\Paired (cR H) xw ws/\dm H d de/\∀H',af H H'->Q (.bl (kR ps ws de n)) H'
theorem Ih:bo [ail,ais,aij,aiz,aik] [ail,ais,aij,aiz] (aO xL):=bu
theorem abe{f C S f1 cY f3 ju yE yF fe:Addr}{fd fD md Cf Cg iC:Fy}(F:aj K ai8 ai8 xL f fd)(B:cj mg)(U:gG K mg S f1 cY f3)(eK:aj K aiW "Shelf.makes_of" i7 cY fD)
 (g8:aj K aiQ aiQ rp ju md) (me:mg aiQ=some (.ref ju)) (uB:aj K ajk ajk xI yE Cf) (Ci:mg ajk=some (.ref yE)) (uC:aj K ajj ajj xJ yF Cg) (Cj:mg ajj=some (.ref yF)) (fC:aj K aix aix lY fe iC) (gY:mg aix=some (.ref fe)) :
 ao P w K mg base aq 3 f fd [ail,ais,aij,aiz] (Ig C S):=by
 have uD:ao P w K mg base aq 2 ju md [aiz,ajb] yC:=(Cb g8 B).mono (by decide);have abf:ao P w K mg base aq 2 yE Cf [ail,aij,aik] (Ie C S):=abb uB B U eK;have abg:ao P w K mg base aq 2 yF Cg ["wish",ait] HY:=aa1 uC fC gY;have uE:=g8.binds2 (l:=[aiz,ajb]) (fun _ _ _ _ _ _ _ _=>rfl);have abh:=uB.binds3 (l:=[ail,aij,aik]) (fun _ _ _ _ _ _ _ _ _=>rfl);have abi:=uC.binds2 (l:=["wish",ait]) (fun _ _ _ _ _ _ _ _=>rfl);refine F.okL Ih ?_
 . intro aG A outer s H vs Q E hr h xX dX;obtain⟨sv,wl,d,n,ps,xw,ws,de,rfl,hS,cm,cS,bL,q⟩:=h;have hu:=hr.units;have Ck:=aP cS;refine⟨_,(ar (bA (jK (im (aI uD hr rfl me g8.kp uE .nil az (aa (pv 3) (aa (pv 1) ac)))))
    (aF (aN dr)) bw)
    (ar (aY (i:=4) Ih.nd rfl (Or.inl rfl) (au aQ (au dh (pv 1) (pv 3) (fun _ _=>rfl)) ae (fun _ _=>rfl)))
    (aF (aN (eW (aI abf hr rfl Ci uB.kp abh .nil az (aa (pv 0) (aa (pv 2) (aa (pv 4) ac)))) (fq (An (aI abg hr rfl Cj uC.kp abi .nil az (aa (au dh (pv 1) (pv 3) (fun _ _=>rfl)) (aa (tF hu (pv 2) (pv 4) ⟨rfl,rfl,rfl,rfl⟩) ac)))))))))),?_⟩
   refine nu ?_;intro dD sS i8 eZ;refine⟨_,rfl,_,rfl,n,wl,xw,rfl,cm,_,rfl,?_⟩;rw[Ck];unfold kR at q;cases hp:cD n ws.length with
   | false=>
    refine dA ?_;have q:=q H (af.refl _);rw[hp,cU]at q;exact q
   | true=>
    refine c8 ?_;rw[hp]at q;unfold cD at hp;rw[et]at hp;have h0:=aL hp.1;have h1:=aL hp.2;obtain⟨v,hv,hvn⟩:=qZ (xs:=xw) (r:=n) h0 (by rw[Ck];exact h1);obtain⟨wi,fw,hW⟩:=bO cS hvn;rw[fw]at q;obtain⟨t,us,rfl,ht,e1⟩:=hW.nm;refine⟨_,rfl,_,rfl,wl,_,_,_,rfl,rfl,ah.of cm,hv,t,_,_,_,rfl,rfl,ak.of ht,bT (j:=1) e1,?_⟩;refine⟨_,rfl,_,rfl,_,rfl,sv,d,wi.nm,ps,de,rfl,hS,bL,fun H2 s2=>⟨_,rfl,?_⟩⟩;refine av (fun h=>?_) (fun h=>?_)
    . have abk:=bL.same s2;obtain⟨ab,hd2,Cm⟩:=abk;refine⟨_,rfl,_,rfl,wl,_,_,_,rfl,rfl,ah.of (s2 _ _ cm),hv,_,rfl,d,rfl,.inl ⟨_,.inl hd2⟩,_,rfl,_,cw.k (k:=.inr wi.nm) hd2,?_⟩;refine⟨_,_,wi,bK de wi.nm,rfl,hW.same s2,yz Cm,_,rfl,?_⟩;have q:Q (.bl (gZ ps de wi.nm && !l7 wi (bK de wi.nm))) H2:=q H2 s2;rw[h]at q;exact q
    . rw[Bool.not_eq_true]at h;have q:Q (.bl (gZ ps de wi.nm && !l7 wi (bK de wi.nm))) H2:=q H2 s2;rw[h]at q;exact q
end
def yG(ps:Lp)(x:Str)(m:List Int):Option bp:=ps.find? fun p=>decide (p.nm=x) && decide (p.ms=m)
def rQ(ps:Lp)(c:eI)(x:Str):Oi->Bool
 | none=>false
 | some m=>match yG ps x m with
  | none=>false
  | some p=>dj c p
def gm(de:Dec)(p:bp):Bool:=match de.lookup p.nm with
 | none=>true
 | some o=>decide (o=some p.ms)
def nX(ps:Lp)(de:Dec)(c:eI)(x:Str):Bool:=ps.any fun p=>decide (p.nm=x) && (gm de p && dj c p)
theorem Ii{ps:Lp}(h:kP ps){p q:bp}(hp:p∈ps)(hq:q∈ps)(e1:p.nm=q.nm)(e2:p.ms=q.ms):p=q:=by
 obtain⟨i,hi⟩:=wt hp;obtain⟨j,hj⟩:=wt hq;have e:dk p=dk q:=by unfold dk;rw[e1,e2]
 have re:i=j:=(EI (l:=ps.map dk) (by rw[aK];exact(bW.mp hi).1) h.nd).mp (by rw[dq,dq,hi,hj,lw,lw,e]);subst re;rw[hi]at hj;exact gu hj
theorem abl{ps:Lp}(h:kP ps){p:bp}(hp:p∈ps):yG ps p.nm p.ms=some p:=by
 unfold yG;cases hf:ps.find? fun q=>decide (q.nm=p.nm) && decide (q.ms=p.ms) with
 | none=>
  have:=L1.mp hf p hp;rw[aE rfl,aE rfl]at this;exact absurd rfl this
 | some q=>
  have h1:=L3 hf;rw[et]at h1;rw[Ii h (L4 hf) hp (aL h1.1) (aL h1.2)]
theorem yH{ps:Lp}(h:kP ps){c:eI}{p:bp}(hp:p∈ps):rQ ps c p.nm (some p.ms)=dj c p:=by
 show(match yG ps p.nm p.ms with | none=>false | some p=>dj c p)=_;rw[abl h hp]
theorem abm{ps:Lp}(h:kP ps){de:Dec}(bU:c9 ps de){c:eI}{x:Str}{o:Oi}(e:de.lookup x=some o):[o].any (rQ ps c x)=nX ps de c x:=by
 rw[oW,List.any_nil,Ew];unfold nX;rw[lr,lx];cases o with
 | none=>
  refine⟨fun z=>absurd (show false=true from z) cr,fun abn=>abn.elim fun p abo=>abo.elim fun hp hz=>?_⟩;rw[et,et]at hz;have hx:=aL hz.1;have:=hz.2.1;unfold gm at this;rw[hx,e]at this;exact absurd (aL this) (by intro w;cases w)
 | some m=>
  obtain⟨p,hp,e1,e2⟩:=bU x m e;subst e1 e2;rw[yH h hp];constructor
  . intro z;refine⟨p,hp,?_⟩;rw[aE rfl,z];unfold gm;rw[e];show(true && (decide (some p.ms=some p.ms) && true))=true;rw[aE rfl];rfl
  . rintro⟨q,hq,hz⟩;rw[et,et]at hz;have hx:=aL hz.1;have iX:=hz.2.1;unfold gm at iX;rw[hx,e]at iX;have iX:=gu (aL iX);rw[←Ii h hq hp hx iX.symm];exact hz.2.2
theorem abp{ps:Lp}(h:kP ps){de:Dec}{c:eI}{x:Str}{ks:Ll}(e:de.lookup x=none)(pm:ks.Perm (a9 ps x)):(ks.map some).any (rQ ps c x)=nX ps de c x:=by
 unfold nX;rw[lr,lx,lx];constructor
 . rintro⟨o,ho,hz⟩;obtain⟨m,hm,rfl⟩:=cP.mp ho;obtain⟨p,ur,rfl⟩:=cP.mp (pm.mem_iff.mp hm);have hp:=(iQ.mp ur).1;have hx:=aL (iQ.mp ur).2;clear ur;subst hx;rw[yH h hp]at hz;refine⟨p,hp,?_⟩;rw[aE rfl,hz];unfold gm;rw[e];rfl
 . rintro⟨p,hp,hz⟩;rw[et,et]at hz;have hx:=aL hz.1;subst hx;refine⟨some p.ms,cP.mpr ⟨p.ms,pm.mem_iff.mpr (cP.mpr ⟨p,iQ.mpr ⟨hp,aE rfl⟩,rfl⟩),rfl⟩,?_⟩;rw[yH h hp];exact hz.2.2
theorem abq{ps:Lp}{de:Dec}{c:eI}{ys:Ls}(hN:kQ ps ys):ys.any (nX ps de c)=ps.any fun p=>gm de p && dj c p:=by
 rw[lr,lx,lx];constructor
 . rintro⟨y,_,hz⟩;obtain⟨p,hp,hz⟩:=lx.mp hz;rw[et]at hz;exact⟨p,hp,hz.2⟩
 . rintro⟨p,hp,hz⟩;refine⟨p.nm,(hN.mem _).mpr (cP.mpr ⟨p,hp,rfl⟩),lx.mpr ⟨p,hp,?_⟩⟩;rw[aE rfl,hz];rfl
theorem Ij{α:Type}(f:α->Bool)(l:List α):(l.map f).any id=l.any f:=by
 rw[List.any_map];rfl
def kS(ps:Lp)(de:Dec)(x:Str)(n:Int):Bool:=match bM ps de x with
 | none=>false
 | some p=>cD n p.ns.length && match p.ns[n.toNat]? with
  | none=>false
  | some c=>!ps.any fun q=>gm de q && dj c q
section
variable {P:Program}{w:World}{K:Fg}{mg:Mv}{base:Heap}
def Ik(C S:Addr):Sp:=fun vs H Q _=>∃(sv cv:V) (d:Addr) (x:Str) (ps:Lp) (de:Dec) (c:eI),vs=[sv,.ref d,cv,.str x]/\gk C S H sv ps/\dm H d de/\c9 ps de/\dC H cv c/\∀H',af H H'->Q (.bl (nX ps de c x)) H'
theorem Il:bo [ail,aij,aiY,aik,"makes"] [ail,aij,aiY,aik] (aO xN):=bu
theorem abr{f C S f1 cY dE kb fe:Addr}{fd fD iD nY iC:Fy}(F:aj K ajw ajw xN f fd)(B:cj mg)(T:Txt K mg C)(U:gG K mg S f1 cY dE)(eK:aj K aiW "Shelf.makes_of" i7 cY fD)(gH:aj K aiy "Shelf.parcel" j7 dE iD)
 (jv:aj K aiL aiL rq kb nY) (nZ:mg aiL=some (.ref kb)) (fC:aj K aix aix lY fe iC) (gY:mg aix=some (.ref fe)):ao P w K mg base aq 3 f fd [ail,aij,aiY,aik] (Ik C S):=by
 have ux:ao P w K mg base aq 2 cY fD [aio,aik] (yt S):=(B7 eK B U).mono (by decide);have uy:=eK.binds2 (l:=[aio,aik]) (fun _ _ _ _ _ _ _ _=>rfl);have Cd:ao P w K mg base aq 2 dE iD [aio,aik,ait] (BY K S):=(HG gH U).mono (by decide);have Ce:=gH.binds3 (l:=[aio,aik,ait]) (fun _ _ _ _ _ _ _ _ _=>rfl);have Cn:ao P w K mg base aq 2 kb nY [aiY,aiy] (B0 C):=HN jv fC gY T;have Co:=jv.binds2 (l:=[aiY,aiy]) (fun _ _ _ _ _ _ _ _=>rfl);refine F.okL Il ?_
 . intro aG A outer s H vs Q E hr h xX dX;obtain⟨sv,cv,d,x,ps,de,c,rfl,cy,bL,bU,nw,q⟩:=h;have hu:=hr.units;refine⟨_,(XH (aY (i:=4) Il.nd rfl (Or.inl rfl) (Nr (Am (FU hu (pv 3) (pv 1)) (by rfl)) (cG (aa (xa hu (pv 1) (pv 3) (fun _ _=>rfl)) ac)) (iV (pv 0) U.cl U.mM ux hr uy .nil az (aa (pv 3) ac))))
    (aF (aN (b8 (Hd K) (by rfl) B.any agT (aa (fA [ait] [aiY,ail,aik] [2,0,3] cC rfl (cJ (pv 4)) (fun _ _ _ _=>(bi (i:=0) (show List.Nodup ([ait,aiY,ail,aik]:Ls) by decide +kernel) rfl (Or.inl rfl))) (fun _ _ _ _=>fz)
     (fun _ _ _ _=>(eW (cB wS (pv 0) cI (aJ _)) (fq (aI Cn hr rfl nZ jv.kp Co .nil az (aa (pv 1) (aa (iV (pv 2) U.cl U.mP Cd hr Ce .nil az (aa (pv 3) (aa (pv 0) ac))) ac))))))) ac))))),?_⟩
   refine⟨fun σ5 H5=>∃(l:Addr) (ys:Lv) (os:List (Oi)),σ5=[some sv,some (.ref d),some cv,some (.str x),some (.ref l)]/\af H H5/\H5 l=some (.lst ys)/\Paired (ce H5) ys os/\os.length<=5/\(∀m,some m∈os->∃p∈ps,p.nm=x/\p.ms=m)/\os.any (rQ ps c x)=nX ps de c x,?_,?_⟩
   . obtain⟨ab,hd,pr⟩:=id bL;refine⟨_,rfl,_,rfl,d,_,rfl,cw.k (k:=.inr x) hd,_,rfl,?_⟩
     rcases rP (x:=x) pr with⟨a1,a2⟩ | ⟨v,o,a1,a2,a3⟩
     . rw[a1];refine av (fun z=>absurd z (by decide)) (fun _=>?_);obtain⟨⟨xs,hS,hP⟩,ok,few⟩:=id cy;obtain⟨a,dx,fl,dd,kk,rfl,b1,b2,b3,b4,b5,b6⟩:=id hS;refine⟨_,rfl,a,dx,fl,rfl,b1,b5,_,rfl,?_⟩;refine⟨_,x,xs,ps,rfl,hS,ok,fun l ys ks H1 n1 s1 e1 tv pm ad=>?_⟩;refine⟨l,ys,ks.map some,rfl,s1,e1,uz tv,?_,fun m hm=>?_,abp ok a2 pm⟩
       . rw[aK,pm.length_eq];have:=ok.four x;omega
       . obtain⟨m',hm',e'⟩:=cP.mp hm;cases e';obtain⟨p,hp,rfl⟩:=cP.mp (pm.mem_iff.mp hm');obtain⟨hp,hx⟩:=iQ.mp hp;exact⟨p,hp,aL hx,rfl⟩
     . rw[a1];refine av (fun _=>?_) (fun z=>absurd rfl z);refine⟨_,rfl,_,rfl,d,_,rfl,(by rw[←a1];exact cw.k (k:=.inr x) hd),(by show 1<=sizeLine;decide),fun l H1 n1 s1 e1=>?_⟩;refine⟨l,[v],[o],rfl,s1,e1,.cons (a3.same s1) .nil,(by show 1<=5;decide),fun m hm=>?_,abm cy.ok bU a2⟩;rw[←gP.mp hm]at a2;exact bU x m a2
   . intro σ5 H5 hQ5;refine cL ?_;intro tT5;obtain⟨l,ys,os,rfl,s5,e5,po,ol,hm,abv⟩:=hQ5;have yl:=aP po;refine⟨_,rfl,l,rfl,⟨_,ah.of e5⟩,?_⟩;refine BC (σ0:=[none,some cv,some sv,some (.str x)]) (ah.of e5) (fun σ=>∃v,σ=[v,some cv,some sv,some (.str x)]) ((os.map (rQ ps c x)).map V.bl) (by rw[aK,aK,yl]) (iR (bq (by omega))) ⟨_,rfl⟩ ?_ ?_
     . intro i z y σ H2 k hz hy hQ hs hk;obtain⟨v,rfl⟩:=hQ;obtain⟨o,ho,hB⟩:=bO po hz;rw[EG,dq,ho]at hy;cases hy;cases o with
       | none=>
        have hB:z=.non:=hB;subst hB;refine⟨_,rfl,rfl,_,rfl,?_⟩;refine av (fun z=>absurd z (by rw[aE rfl];decide)) (fun _=>?_);exact hk _ _ ⟨_,rfl⟩ (af.refl _)
       | some m=>
        obtain⟨t,rfl,ht⟩:=hB;refine⟨_,rfl,rfl,_,rfl,?_⟩;refine av (fun _=>?_) (fun z=>absurd (by rw[ba (by intro w;cases w)];rfl) z);obtain⟨p,hp,e1,e2⟩:=hm m (gO ho);subst e1 e2;have Im:=s5.trans hs;obtain⟨⟨xs,hS,hP⟩,ok,few⟩:=cy.same Im;obtain⟨j,hj⟩:=wt hp;have aR:j<xs.length:=by rw[aP hP];exact(bW.mp hj).1
        have uA:xs[j]?=some xs[j]:=dg aR;obtain⟨p',cq,hE⟩:=bO hP uA;rw[hj]at cq;cases cq;obtain⟨sa,dx,fl,dd,kk,rfl,b1,b2,b3,b4,b5⟩:=id hS;refine⟨_,rfl,_,rfl,sa,dx,fl,rfl,b1,b3,_,rfl,_,rfl,?_⟩;refine⟨_,xs[j],t,xs,ps,j,p,rfl,hS,hj,uA,hs _ _ ht,fun H3 s3=>?_⟩;refine⟨cv,xs[j],c,p,rfl,nw.same (Im.trans s3),f6.same s3 hE,fun H4 s4=>?_⟩;have e:rQ ps c p.nm (some p.ms)=dj c p:=yH cy.ok hp;rw[←e];exact hk _ H4 ⟨_,rfl⟩ (s3.trans s4)
     . intro D H2 hD hd hs;refine⟨D,_,rfl,ah.of hd,?_⟩;rw[Ij,abv];exact q H2 (s5.trans hs)
def Io(C S:Addr):Sp:=fun vs H Q _=>∃(sv:V) (d:Addr) (x:Str) (n:Int) (ps:Lp) (de:Dec),vs=[sv,.ref d,.str x,.int n]/\gk C S H sv ps/\dm H d de/\c9 ps de/\∀H',af H H'->Q (.bl (kS ps de x n)) H'
theorem Ip:bo [ail,aij,aik,aiz,aiy] [ail,aij,aik,aiz] (aO xM):=bu
theorem abw{f C S ke cY dE kb fe jw ju yI:Addr}{fd uF fD iD nY iC mf md Cp:Fy}(F:aj K ai9 ai9 xM f fd)(B:cj mg)(T:Txt K mg C)(U:gG K mg S ke cY dE)(yJ:aj K "names" "Shelf.names" pJ ke uF)(eK:aj K aiW "Shelf.makes_of" i7 cY fD)(gH:aj K aiy "Shelf.parcel" j7 dE iD)
 (jv:aj K aiL aiL rq kb nY) (nZ:mg aiL=some (.ref kb)) (fC:aj K aix aix lY fe iC) (gY:mg aix=some (.ref fe)) (gn:aj K aiF aiF rA jw mf) (kf:mg aiF=some (.ref jw)) (g8:aj K aiQ aiQ rp ju md) (me:mg aiQ=some (.ref ju)) (uG:aj K ajw ajw xN yI Cp) (Cq:mg ajw=some (.ref yI)) :
 ao P w K mg base aq 4 f fd [ail,aij,aik,aiz] (Io C S):=by
 have abx:ao P w K mg base aq 3 ke uF [aio] (HV S):=(aaX yJ B U).mono (by decide);have aby:=yJ.binds1 (l:=[aio]) (fun _ _ _ _ _ _ _=>rfl);have uD:ao P w K mg base aq 3 ju md [aiz,ajb] yC:=(Cb g8 B).mono (by decide);have uE:=g8.binds2 (l:=[aiz,ajb]) (fun _ _ _ _ _ _ _ _=>rfl);have pT:ao P w K mg base aq 3 jw mf [ail,aij,aik] (yD C S):=(Cc gn B U gH).mono (by decide);have pU:=gn.binds3 (l:=[ail,aij,aik]) (fun _ _ _ _ _ _ _ _ _=>rfl);have abz:ao P w K mg base aq 3 yI Cp [ail,aij,aiY,aik] (Ik C S):=abr uG B T U eK gH jv nZ fC gY;have abA:=uG.binds4 (l:=[ail,aij,aiY,aik]) (fun _ _ _ _ _ _ _ _ _ _=>rfl);refine F.okL Ip ?_
 . intro aG A outer s H vs Q E hr h xX dX;obtain⟨sv,d,x,n,ps,de,rfl,cy,bL,bU,q⟩:=h;have hu:=hr.units;refine⟨_,(ar (aY (i:=4) Ip.nd rfl (Or.inr rfl) (aI pT hr rfl kf gn.kp pU .nil az (aa (pv 0) (aa (pv 1) (aa (pv 2) ac)))))
    (ar (bA (PW.pt (gS (bd iq (pv 4) cI (aJ _)) (jJ (jK (im (aI uD hr rfl me g8.kp uE .nil az (aa (pv 3) (aa (eG (pv 4) rfl) ac))))))))
    (aF (aN dr)) bw)
    (aF (aN (An (b8 (Hd K) (by rfl) B.any agT (aa (fA [ai6] [ail,aij,aiy,aiz] [0,1,4,3] cC rfl (cJ (RE (pv 0) U.cl U.mN abx hr aby .nil az)) (fun _ _ _ _=>(bi (i:=0) (show List.Nodup ([ai6,ail,aij,aiy,aiz]:Ls) by decide +kernel) rfl (Or.inl rfl))) (fun _ _ _ _=>fz)
     (fun _ _ _ _=>(aI abz hr rfl Cq uG.kp abA .nil az (aa (pv 1) (aa (pv 2) (aa (au (xn K) (XG K (pv 3) rfl) (pv 4) (fun _ _=>rfl)) (aa (pv 0) ac))))))) ac))))))),?_⟩
   refine nu ?_;intro dD sS i8 eZ;refine⟨_,rfl,_,rfl,_,rfl,sv,d,x,ps,de,rfl,cy,bL,bU,fun v H1 s1 hv=>?_⟩;unfold kS at q;refine⟨_,rfl,rfl,_,rfl,?_⟩;cases mh:bM ps de x with
   | none=>
    rw[mh]at hv q;have hv:v=.non:=hv;subst hv;refine av (fun _=>?_) (fun z=>absurd (aE rfl) z);exact q H1 s1
   | some p=>
    rw[mh]at hv q;obtain⟨a,dx,fl,rk,m,pf,pn,yg,po,fx,rfl,hA,hF,hM,h5,h6,h7,h8,⟨cs,g9,pV⟩,h10⟩:=id (show f6 C H1 v p from hv);refine av (fun z=>absurd z (by rw[ba (by intro w;cases w)];decide)) (fun _=>?_);have uH:=aP pV;refine⟨_,rfl,_,rfl,a,C,dx,_,_,rfl,hA,T.cl,T.nE,hF.needs,n,pn,cs,rfl,g9,_,rfl,?_⟩;rw[uH];cases hp:cD n p.ns.length with
    | false=>
     refine dA ?_;have q:=q H1 s1;dsimp only at q;rw[hp,cU]at q;exact q
    | true=>
     refine c8 ?_;dsimp only at q;rw[hp]at q;unfold cD at hp;rw[et]at hp;have h0:=aL hp.1;have h1:=aL hp.2;obtain⟨cv,pW,pX⟩:=qZ (xs:=cs) (r:=n) h0 (by rw[uH];exact h1);obtain⟨c,hc,hC⟩:=bO pV pX;rw[hc]at q;obtain⟨⟨xs,hS,hP⟩,ok,few⟩:=cy.same s1;obtain⟨sa,uI,rR,dd,kk,rfl,b1,b2,b3,b4,b5,b6⟩:=id hS;refine⟨_,rfl,sa,uI,rR,rfl,b1,b4,?_⟩;dsimp only[lJ,zX,EK];refine⟨_,xs,ps,rfl,hS,ok.len,fun l ys H2 n2 s2 e2 srt nd mem=>?_⟩;have hN:kQ ps ys:=⟨srt,nd,mem⟩;have yl:ys.length<=ps.length:=by
      have:=xB nd fun z hz=>(mem z).mp hz
      rwa [aK]at this
     have psl:=ok.len;refine⟨l,rfl,⟨_,ah.of e2⟩,?_⟩;refine BC (σ0:=[none,some (.ref sa),some (.ref d),some (.ref a),some (.int n)]) (ah.of e2) (fun σ=>∃v,σ=[v,some (.ref sa),some (.ref d),some (.ref a),some (.int n)]) ((ys.map (nX ps de c)).map V.bl) (by rw[aK,aK,aK]) (iR (bq (by rw[aK];omega))) ⟨_,rfl⟩ ?_ ?_
     . intro i z y σ H3 k hz hy hQ hs hk;obtain⟨v,rfl⟩:=hQ;rw[dq]at hz;cases Cr:ys[i]? with
       | none=>rw[Cr]at hz;cases hz
       | some y'=>
        rw[Cr]at hz;cases hz;rw[EG,dq,Cr]at hy;cases hy;have b7:=s2.trans hs;refine⟨_,rfl,_,rfl,_,rfl,a,C,dx,_,_,rfl,b7 _ _ hA,T.cl,T.nE,hF.needs,_,rfl,pn,_,_,_,rfl,rfl,ah.of (b7 _ _ g9),pW,_,rfl,?_⟩;refine⟨.ref sa,cv,d,y',ps,de,c,rfl,cy.same (s1.trans b7),bL.same (s1.trans b7),bU,hC.same b7,fun H4 s4=>?_⟩;exact hk _ H4 ⟨_,rfl⟩ s4
     . intro D H3 hD hd hs;refine⟨D,_,rfl,ah.of hd,_,rfl,?_⟩;rw[Ij,abq hN];exact q H3 (s1.trans (s2.trans hs))
end
open HT (At)
def kT(ps:Lp)(de:Dec)(x:Str)(n:Int)(y:Str):Bool:=match bM ps de x with
 | none=>false
 | some p=>match bM ps de y with
  | none=>false
  | some o=>!decide (y=x) && (cD n p.ss.length && match p.ss[n.toNat]? with
   | none=>false
   | some c=>dj c o)
def kU(ps:Lp)(de:Dec)(x y z:Str):Bool:=match bM ps de x with
 | none=>false
 | some p=>match bM ps de y with
  | none=>false
  | some o=>xG x y && (decide (z∈bQ p) && decide (z∈bQ o))
def iE:Str:="wish"
def Cs:List At->Bool
 | []=>true
 | .inl _::_=>false
 | .inr h::r=>!(decide (h=iE) && decide (r.length=1)) && (!(decide (h=iy) && decide (r.length=2)) && (!(decide (h=gF) && decide (r.length=3)) && !(decide (h=iz) && decide (r.length=3))))
theorem Iq{h:Str}{r:List At}(hk:Cs (.inr h::r)=true):¬(h=iE/\r.length=1)/\¬(h=iy/\r.length=2)/\¬(h=gF/\r.length=3)/\¬(h=iz/\r.length=3):=by
 simp only[Cs,et,L5,Bool.and_eq_false_iff,decide_eq_false_iff_not]at hk;obtain⟨a,b,c,d⟩:=hk;exact⟨fun z=>a.elim (· z.1) (· z.2),fun z=>b.elim (· z.1) (· z.2),fun z=>c.elim (· z.1) (· z.2),fun z=>d.elim (· z.1) (· z.2)⟩
inductive cf where
 | wish (n:Int)
 | need (x:Str) (n:Int)
 | shut (x:Str) (n:Int) (y:Str)
 | clash (x y z:Str)
 | odd (k:List At) (h:Cs k=true)
def cf.ats:cf->List At
 | .wish n=>[.inr iE,.inl n]
 | .need x n=>[.inr iy,.inr x,.inl n]
 | .shut x n y=>[.inr gF,.inr x,.inl n,.inr y]
 | .clash x y z=>[.inr iz,.inr x,.inr y,.inr z]
 | .odd k _=>k
def gp(ps:Lp)(ws:List cO)(de:Dec):cf->Bool
 | .wish n=>kR ps ws de n
 | .need x n=>kS ps de x n
 | .shut x n y=>kT ps de x n y
 | .clash x y z=>kU ps de x y z
 | .odd _ _=>false
def eM(H:Hp)(v:V)(r:cf):Prop:=∃t,v=.ref t/\H t=some (.tup (r.ats.map aV))
theorem eM.same{H H':Hp}(s:af H H'){v:V}{r:cf}(h:eM H v r):eM H' v r:=h.elim fun t abB=>abB.elim fun a b=>⟨t,a,s _ _ b⟩
theorem jc:iy≠iE/\gF≠iE/\iz≠iE/\gF≠iy/\iz≠iy/\iz≠gF:=by decide +kernel
theorem gI{a b:Str}(h:a≠b):¬(V.str a=V.str b):=fun z=>h (by injection z)
theorem uJ{ps:Lp}{de:Dec}{x:Str}{p:bp}(h:bM ps de x=some p):p∈ps:=by
 unfold bM at h;cases hz:bK de x with
 | none=>rw[hz]at h;cases h
 | some m=>rw[hz]at h;exact L4 h
section
variable {P:Program}{w:World}{K:Fg}{mg:Mv}{base:Heap}
def Ir(C S:Addr):Sp:=fun vs H Q _=>∃(sv:V) (d:Addr) (x:Str) (n:Int) (y:Str) (ps:Lp) (de:Dec),vs=[sv,.ref d,.str x,.int n,.str y]/\gk C S H sv ps/\dm H d de/\c9 ps de/\∀H',af H H'->Q (.bl (kT ps de x n y)) H'
theorem Ct:bo [ail,aij,aik,aiz,ai6,aiy,"behind"] [ail,aij,aik,aiz,ai6] (aO xO):=bu
theorem abC{f C S f1 f2 dE kb fe jw ju:Addr}{fd iD nY iC mf md:Fy}(F:aj K aja aja xO f fd)(B:cj mg)(T:Txt K mg C)(U:gG K mg S f1 f2 dE)(gH:aj K aiy "Shelf.parcel" j7 dE iD)
 (jv:aj K aiL aiL rq kb nY) (nZ:mg aiL=some (.ref kb)) (fC:aj K aix aix lY fe iC) (gY:mg aix=some (.ref fe)) (gn:aj K aiF aiF rA jw mf) (kf:mg aiF=some (.ref jw)) (g8:aj K aiQ aiQ rp ju md) (me:mg aiQ=some (.ref ju)) :
 ao P w K mg base aq 3 f fd [ail,aij,aik,aiz,ai6] (Ir C S):=by
 have uD:ao P w K mg base aq 2 ju md [aiz,ajb] yC:=(Cb g8 B).mono (by decide);have uE:=g8.binds2 (l:=[aiz,ajb]) (fun _ _ _ _ _ _ _ _=>rfl);have pT:ao P w K mg base aq 2 jw mf [ail,aij,aik] (yD C S):=Cc gn B U gH;have pU:=gn.binds3 (l:=[ail,aij,aik]) (fun _ _ _ _ _ _ _ _ _=>rfl);have Cn:ao P w K mg base aq 2 kb nY [aiY,aiy] (B0 C):=HN jv fC gY T;have Co:=jv.binds2 (l:=[aiY,aiy]) (fun _ _ _ _ _ _ _ _=>rfl);refine F.okL Ct ?_
 . intro aG A outer s H vs Q E hr h xX dX;obtain⟨sv,d,x,n,y,ps,de,rfl,cy,bL,bU,q⟩:=h;refine⟨_,(ar (aY (i:=5) Ct.nd rfl (Or.inl rfl) (aI pT hr rfl kf gn.kp pU .nil az (aa (pv 0) (aa (pv 1) (aa (pv 2) ac)))))
    (ar (aY (i:=6) Ct.nd rfl (Or.inl rfl) (aI pT hr rfl kf gn.kp pU .nil az (aa (pv 0) (aa (pv 1) (aa (pv 4) ac)))))
    (ar (bA (PW.pt (gS (bd iq (pv 5) cI (aJ _)) (gS (bd iq (pv 6) cI (aJ _)) (gS (bd bZ (pv 4) (pv 2) (aJ _)) (jJ (jK (im (aI uD hr rfl me g8.kp uE .nil az (aa (pv 3) (aa (eG (pv 5) rfl) ac))))))))))
    (aF (aN dr)) bw)
    (aF (aN (aI Cn hr rfl nZ jv.kp Co .nil az (aa (au dh (eG (pv 5) rfl) (pv 3) (fun _ _=>rfl)) (aa (pv 6) ac)))))))),?_⟩
   refine pG ?_;intro dD sS j9 i8 eZ;refine⟨_,rfl,_,rfl,_,rfl,sv,d,x,ps,de,rfl,cy,bL,bU,fun v H1 s1 hv=>?_⟩;refine⟨_,rfl,_,rfl,_,rfl,sv,d,y,ps,de,rfl,cy.same s1,bL.same s1,bU,fun u H2 s2 hu=>?_⟩;have hv:=hv.same s2;have bR:=s1.trans s2;unfold kT at q;refine⟨_,rfl,rfl,_,rfl,?_⟩;cases mh:bM ps de x with
   | none=>
    rw[mh]at hv q;have hv:v=.non:=hv;subst hv;refine av (fun _=>?_) (fun z=>absurd (aE rfl) z);exact q H2 bR
   | some p=>
    rw[mh]at hv q;obtain⟨a,dx,fl,rk,m,pf,pn,yg,po,fx,rfl,hA,hF,hM,h5,h6,h7,h8,h9,⟨cs,g9,pV⟩⟩:=id (show f6 C H2 v p from hv);refine av (fun z=>absurd z (by rw[ba (by intro w;cases w)];decide)) (fun _=>?_);refine⟨_,rfl,rfl,_,rfl,?_⟩;dsimp only at q;cases jr:bM ps de y with
    | none=>
     rw[jr]at hu q;have hu:u=.non:=hu;subst hu;refine av (fun _=>?_) (fun z=>absurd (aE rfl) z);exact q H2 bR
    | some o=>
     rw[jr]at hu q;obtain⟨b,hb⟩:∃b,u=.ref b:=by
      obtain⟨b,_,_,_,_,_,_,_,_,_,e,_⟩:=(show f6 C H2 u o from hu);exact⟨b,e⟩
     refine av (fun z=>absurd z (by rw[hb,ba (by intro w;cases w)];decide)) (fun _=>?_);refine⟨_,rfl,_,rfl,rfl,_,rfl,?_⟩;dsimp only at q;refine av (fun z=>?_) (fun z=>?_)
     . have z:=aL z;injection z with z
       have q:=q H2 bR;rw[aE z]at q;exact q
     . have z:¬y=x:=fun e=>z (aE (by rw[e]));rw[ba z]at q;have uH:=aP pV;refine⟨_,rfl,_,rfl,a,C,dx,_,_,rfl,hA,T.cl,T.nS,hF.shuts,n,yg,cs,rfl,g9,_,rfl,?_⟩;rw[uH];cases hp:cD n p.ss.length with
       | false=>
        refine dA ?_;have q:=q H2 bR;rw[hp,cU]at q;exact q
       | true=>
        refine c8 ?_;rw[hp]at q;unfold cD at hp;rw[et]at hp;have h0:=aL hp.1;have h1:=aL hp.2;obtain⟨cv,pW,pX⟩:=qZ (xs:=cs) (r:=n) h0 (by rw[uH];exact h1);obtain⟨c,hc,hC⟩:=bO pV pX;rw[hc]at q;refine⟨_,rfl,a,C,dx,_,_,rfl,hA,T.cl,T.nS,hF.shuts,_,rfl,yg,_,_,_,rfl,rfl,ah.of g9,pW,_,rfl,?_⟩;refine⟨cv,u,c,o,rfl,hC,hu,fun H3 s3=>?_⟩;exact q H3 (bR.trans s3)
def Iu(C S:Addr):Sp:=fun vs H Q _=>∃(sv:V) (d:Addr) (x y z:Str) (ps:Lp) (de:Dec),vs=[sv,.ref d,.str x,.str y,.str z]/\gk C S H sv ps/\dm H d de/\c9 ps de/\∀H',af H H'->Q (.bl (kU ps de x y z)) H'
theorem Cu:bo [ail,aij,aik,ai6,ai3,aiy,"behind"] [ail,aij,aik,ai6,ai3] (aO xP):=bu
theorem abD{f C S f1 f2 dE jw yK:Addr}{fd iD mf Cv:Fy}(F:aj K ajx ajx xP f fd)(B:cj mg)(T:Txt K mg C)(U:gG K mg S f1 f2 dE)(gH:aj K aiy "Shelf.parcel" j7 dE iD)
 (gn:aj K aiF aiF rA jw mf) (kf:mg aiF=some (.ref jw)) (rS:aj K ajv ajv xH yK Cv) (yL:mg ajv=some (.ref yK)) :
 ao P w K mg base aq 3 f fd [ail,aij,aik,ai6,ai3] (Iu C S):=by
 have Iv:ao P w K mg base aq 2 yK Cv [aiy] (HP C):=(aaP rS T).mono (by decide);have Iw:=rS.binds1 (l:=[aiy]) (fun _ _ _ _ _ _ _=>rfl);have pT:ao P w K mg base aq 2 jw mf [ail,aij,aik] (yD C S):=Cc gn B U gH;have pU:=gn.binds3 (l:=[ail,aij,aik]) (fun _ _ _ _ _ _ _ _ _=>rfl);refine F.okL Cu ?_
 . intro aG A outer s H vs Q E hr h xX dX;obtain⟨sv,d,x,y,z,ps,de,rfl,cy,bL,bU,q⟩:=h;refine⟨_,(ar (aY (i:=5) Cu.nd rfl (Or.inl rfl) (aI pT hr rfl kf gn.kp pU .nil az (aa (pv 0) (aa (pv 1) (aa (pv 2) ac)))))
    (ar (aY (i:=6) Cu.nd rfl (Or.inl rfl) (aI pT hr rfl kf gn.kp pU .nil az (aa (pv 0) (aa (pv 1) (aa (pv 3) ac)))))
    (ar (bA (PW.pt (gS (bd iq (pv 5) cI (aJ _)) (gS (bd iq (pv 6) cI (aJ _)) (jJ (jK (bd Fk (pv 2) (pv 3) (aJ _)))))))
    (aF (aN dr)) bw)
    (aF (aN (eW (cB qW (pv 4) (aI Iv hr rfl yL rS.kp Iw .nil az (aa (pv 5) ac)) (by rfl)) (fq (cB qW (pv 4) (aI Iv hr rfl yL rS.kp Iw .nil az (aa (pv 6) ac)) (by rfl))))))))),?_⟩
   refine pG ?_;intro dD sS j9 i8 eZ;refine⟨_,rfl,_,rfl,_,rfl,sv,d,x,ps,de,rfl,cy,bL,bU,fun v H1 s1 hv=>?_⟩;refine⟨_,rfl,_,rfl,_,rfl,sv,d,y,ps,de,rfl,cy.same s1,bL.same s1,bU,fun u H2 s2 hu=>?_⟩;have hv:=hv.same s2;have bR:=s1.trans s2;unfold kU at q;refine⟨_,rfl,rfl,_,rfl,?_⟩;cases mh:bM ps de x with
   | none=>
    rw[mh]at hv q;have hv:v=.non:=hv;subst hv;refine av (fun _=>?_) (fun z=>absurd (aE rfl) z);exact q H2 bR
   | some p=>
    rw[mh]at hv q;have hv:f6 C H2 v p:=hv;obtain⟨a,ha⟩:∃b,v=.ref b:=by
     obtain⟨b,_,_,_,_,_,_,_,_,_,e,_⟩:=hv;exact⟨b,e⟩
    refine av (fun z=>absurd z (by rw[ha,ba (by intro w;cases w)];decide)) (fun _=>?_);refine⟨_,rfl,rfl,_,rfl,?_⟩;dsimp only at q;cases jr:bM ps de y with
    | none=>
     rw[jr]at hu q;have hu:u=.non:=hu;subst hu;refine av (fun _=>?_) (fun z=>absurd (aE rfl) z);exact q H2 bR
    | some o=>
     rw[jr]at hu q;have hu:f6 C H2 u o:=hu;obtain⟨b,hb⟩:∃b,u=.ref b:=by
      obtain⟨b,_,_,_,_,_,_,_,_,_,e,_⟩:=hu;exact⟨b,e⟩
     refine av (fun z=>absurd z (by rw[hb,ba (by intro w;cases w)];decide)) (fun _=>?_);refine⟨_,rfl,_,rfl,_,_,rfl,rfl,_,rfl,?_⟩;dsimp only at q;cases aR:xG x y with
     | false=>
      refine av (fun _=>?_) (fun z=>absurd (by rw[show decide (x.cps.toList<y.cps.toList)=false from aR];rfl) z);have q:=q H2 bR;rw[aR]at q;exact q
     | true=>
      refine av (fun z=>absurd z (by rw[show decide (x.cps.toList<y.cps.toList)=true from aR];decide)) (fun _=>?_);rw[aR,eu]at q;have f1:=(cy.few p (uJ mh)).fs;have f2:=(cy.few o (uJ jr)).fs;refine⟨_,rfl,_,rfl,v,p,rfl,hv,by omega,fun l1 H3 n3 s3 e3=>?_⟩;refine⟨l1,_,rfl,.inl (ah.of e3),rfl,pR _,_,rfl,?_⟩;refine av (fun h=>?_) (fun h=>?_)
      . have h1:=rN.mp h;rw[aE h1,eu]at q;refine⟨_,rfl,_,rfl,u,o,rfl,hu.same s3,by omega,fun l2 H4 n4 s4 e4=>?_⟩;refine⟨l2,_,rfl,.inl (ah.of e4),rfl,pR _,?_⟩;have e:jS (.str z) ((bQ o).map V.str)=decide (z∈bQ o):=by
         rw[lr,rN,EL]
        have q:=q H4 (bR.trans (s3.trans s4));rw[←e]at q;exact q
      . have h1:¬z∈bQ p:=fun m=>h (rN.mpr m);have q:=q H3 (bR.trans s3);rw[ba h1,cU]at q;exact q
theorem Ix{r:cf}(h:r.ats=[])(ps:Lp)(ws:List cO)(de:Dec):gp ps ws de r=false:=by
 cases r with
 | odd k hk=>rfl
 | _=>cases h
def Cw(C S:Addr):Sp:=fun vs H Q _=>∃(sv rv:V) (wl d:Addr) (ps:Lp) (xw:Lv) (ws:List cO) (de:Dec) (r:cf),vs=[sv,.ref wl,.ref d,rv]/\gk C S H sv ps/\H wl=some (.lst xw)/\Paired (cR H) xw ws/\dm H d de/\c9 ps de/\eM H rv r/\∀H',af H H'->Q (.bl (gp ps ws de r)) H'
theorem abE:bo [ail,ais,aij,aiJ] [ail,ais,aij,aiJ] (aO xK):=bu
theorem abF{f C S yM yN yO yP:Addr}{fd Cy Cz CB CD:Fy}(F:aj K ajn ajn xK f fd)(B:cj mg)
 (uK:aj K ai8 ai8 xL yM Cy) (CF:mg ai8=some (.ref yM)) (abG:ao P w K mg base aq 4 yM Cy [ail,ais,aij,aiz] (Ig C S))
 (uL:aj K ai9 ai9 xM yN Cz) (CG:mg ai9=some (.ref yN)) (abH:ao P w K mg base aq 4 yN Cz [ail,aij,aik,aiz] (Io C S))
 (uM:aj K aja aja xO yO CB) (CH:mg aja=some (.ref yO)) (abI:ao P w K mg base aq 4 yO CB [ail,aij,aik,aiz,ai6] (Ir C S))
 (uN:aj K ajx ajx xP yP CD) (CJ:mg ajx=some (.ref yP)) (abJ:ao P w K mg base aq 4 yP CD [ail,aij,aik,ai6,ai3] (Iu C S)) :
 ao P w K mg base aq 5 f fd [ail,ais,aij,aiJ] (Cw C S):=by
 have abK:=uK.binds4 (l:=[ail,ais,aij,aiz]) (fun _ _ _ _ _ _ _ _ _ _=>rfl);have abL:=uL.binds4 (l:=[ail,aij,aik,aiz]) (fun _ _ _ _ _ _ _ _ _ _=>rfl);have abM:=uM.binds5 (l:=[ail,aij,aik,aiz,ai6]) (fun _ _ _ _ _ _ _ _ _ _ _=>rfl);have abN:=uN.binds5 (l:=[ail,aij,aik,ai6,ai3]) (fun _ _ _ _ _ _ _ _ _ _ _=>rfl);refine F.okL abE ?_
 . intro aG A outer s H vs Q E hr h xX dX;obtain⟨sv,rv,wl,d,ps,xw,ws,de,r,rfl,cy,cm,cS,bL,bU,⟨t,rfl,ht⟩,q⟩:=h;refine⟨_,(ar (bA (PW.pt (gS (jK (im (b8 tK (by rfl) B.isinstance wx (aa (pv 3) (aa (sT (v:=.ty "tuple") rfl B.tuple PyProof.Rows.boot_tuple rfl) ac))))) (jJ (bd bZ (b8 dH (by rfl) B.len eE (aa (pv 3) ac)) ae (aJ _)))))
    (aF (aN dr)) bw)
    (ar (bA (bd bZ (au aQ (pv 3) ae (fun _ _=>rfl)) bh (aJ _))
    (aF (aN (eW (cB bZ (b8 dH (by rfl) B.len eE (aa (pv 3) ac)) ae (aJ _)) (fq (aI abG hr rfl CF uK.kp abK .nil az (aa (pv 0) (aa (pv 1) (aa (pv 2) (aa (au aQ (pv 3) ae (fun _ _=>rfl)) ac))))))))) bw)
    (ar (bA (bd bZ (au aQ (pv 3) ae (fun _ _=>rfl)) bh (aJ _))
    (aF (aN (eW (cB bZ (b8 dH (by rfl) B.len eE (aa (pv 3) ac)) ae (aJ _)) (fq (aI abH hr rfl CG uL.kp abL .nil az (aa (pv 0) (aa (pv 2) (aa (au aQ (pv 3) ae (fun _ _=>rfl)) (aa (au aQ (pv 3) ae (fun _ _=>rfl)) ac))))))))) bw)
    (ar (bA (bd bZ (au aQ (pv 3) ae (fun _ _=>rfl)) bh (aJ _))
    (aF (aN (eW (cB bZ (b8 dH (by rfl) B.len eE (aa (pv 3) ac)) ae (aJ _)) (fq (aI abI hr rfl CH uM.kp abM .nil az (aa (pv 0) (aa (pv 2) (aa (au aQ (pv 3) ae (fun _ _=>rfl)) (aa (au aQ (pv 3) ae (fun _ _=>rfl)) (aa (au aQ (pv 3) ae (fun _ _=>rfl)) ac)))))))))) bw)
    (ar (bA (bd bZ (au aQ (pv 3) ae (fun _ _=>rfl)) bh (aJ _))
    (aF (aN (eW (cB bZ (b8 dH (by rfl) B.len eE (aa (pv 3) ac)) ae (aJ _)) (fq (aI abJ hr rfl CJ uN.kp abN .nil az (aa (pv 0) (aa (pv 2) (aa (au aQ (pv 3) ae (fun _ _=>rfl)) (aa (au aQ (pv 3) ae (fun _ _=>rfl)) (aa (au aQ (pv 3) ae (fun _ _=>rfl)) ac)))))))))) bw)
    (aF (aN dr))))))),?_⟩
   refine XI ?_;intro dD sS uU6 ya j9 i8 eZ;refine⟨_,rfl,_,_,_,_,rfl,.tup ht,rfl,_,rfl,c8 ?_⟩;refine⟨_,rfl,t,_,rfl,.inr (ak.of ht),rfl,_,rfl,?_⟩;refine av (fun z=>?_) (fun hlen=>?_)
   . have h0:r.ats=[]:=by
      have z:=aL z;injection z with z
      rw[aK]at z;exact wo.mp (by omega)
     rw[Ix h0]at q;exact q H (af.refl _)
   cases r with
   | wish n=>
    refine⟨_,rfl,t,_,_,_,rfl,rfl,ak.of ht,bT (j:=0) rfl,rfl,_,rfl,?_⟩;refine av (fun _=>?_) (fun z=>absurd (aE rfl) z);refine⟨_,rfl,t,_,rfl,.inr (ak.of ht),rfl,_,rfl,?_⟩;refine av (fun _=>?_) (fun z=>absurd (aE rfl) z);refine⟨_,rfl,_,rfl,_,rfl,_,rfl,t,_,_,_,rfl,rfl,ak.of ht,bT (j:=1) rfl,?_⟩;exact⟨sv,wl,d,n,ps,xw,ws,de,rfl,cy,cm,cS,bL,q⟩
   | need x n=>
    refine⟨_,rfl,t,_,_,_,rfl,rfl,ak.of ht,bT (j:=0) rfl,rfl,_,rfl,?_⟩;refine av (fun z=>absurd (aL z) (gI jc.1)) (fun _=>?_);refine⟨_,rfl,t,_,_,_,rfl,rfl,ak.of ht,bT (j:=0) rfl,rfl,_,rfl,?_⟩;refine av (fun _=>?_) (fun z=>absurd (aE rfl) z);refine⟨_,rfl,t,_,rfl,.inr (ak.of ht),rfl,_,rfl,?_⟩;refine av (fun _=>?_) (fun z=>absurd (aE rfl) z);refine⟨_,rfl,_,rfl,_,rfl,t,_,_,_,rfl,rfl,ak.of ht,bT (j:=1) rfl,_,rfl,t,_,_,_,rfl,rfl,ak.of ht,bT (j:=2) rfl,?_⟩;exact⟨sv,d,x,n,ps,de,rfl,cy,bL,bU,q⟩
   | shut x n y=>
    refine⟨_,rfl,t,_,_,_,rfl,rfl,ak.of ht,bT (j:=0) rfl,rfl,_,rfl,?_⟩;refine av (fun z=>absurd (aL z) (gI jc.2.1)) (fun _=>?_);refine⟨_,rfl,t,_,_,_,rfl,rfl,ak.of ht,bT (j:=0) rfl,rfl,_,rfl,?_⟩;refine av (fun z=>absurd (aL z) (gI jc.2.2.2.1)) (fun _=>?_);refine⟨_,rfl,t,_,_,_,rfl,rfl,ak.of ht,bT (j:=0) rfl,rfl,_,rfl,?_⟩;refine av (fun _=>?_) (fun z=>absurd (aE rfl) z);refine⟨_,rfl,t,_,rfl,.inr (ak.of ht),rfl,_,rfl,?_⟩;refine av (fun _=>?_) (fun z=>absurd (aE rfl) z);refine⟨_,rfl,_,rfl,_,rfl,t,_,_,_,rfl,rfl,ak.of ht,bT (j:=1) rfl,_,rfl,t,_,_,_,rfl,rfl,ak.of ht,bT (j:=2) rfl,_,rfl,t,_,_,_,rfl,rfl,ak.of ht,bT (j:=3) rfl,?_⟩;exact⟨sv,d,x,n,y,ps,de,rfl,cy,bL,bU,q⟩
   | clash x y z=>
    refine⟨_,rfl,t,_,_,_,rfl,rfl,ak.of ht,bT (j:=0) rfl,rfl,_,rfl,?_⟩;refine av (fun z=>absurd (aL z) (gI jc.2.2.1)) (fun _=>?_);refine⟨_,rfl,t,_,_,_,rfl,rfl,ak.of ht,bT (j:=0) rfl,rfl,_,rfl,?_⟩;refine av (fun z=>absurd (aL z) (gI jc.2.2.2.2.1)) (fun _=>?_);refine⟨_,rfl,t,_,_,_,rfl,rfl,ak.of ht,bT (j:=0) rfl,rfl,_,rfl,?_⟩;refine av (fun z=>absurd (aL z) (gI jc.2.2.2.2.2)) (fun _=>?_);refine⟨_,rfl,t,_,_,_,rfl,rfl,ak.of ht,bT (j:=0) rfl,rfl,_,rfl,?_⟩;refine av (fun _=>?_) (fun z=>absurd (aE rfl) z);refine⟨_,rfl,t,_,rfl,.inr (ak.of ht),rfl,_,rfl,?_⟩;refine av (fun _=>?_) (fun z=>absurd (aE rfl) z);refine⟨_,rfl,_,rfl,_,rfl,t,_,_,_,rfl,rfl,ak.of ht,bT (j:=1) rfl,_,rfl,t,_,_,_,rfl,rfl,ak.of ht,bT (j:=2) rfl,_,rfl,t,_,_,_,rfl,rfl,ak.of ht,bT (j:=3) rfl,?_⟩;exact⟨sv,d,x,y,z,ps,de,rfl,cy,bL,bU,q⟩
   | odd k hk=>
    cases k with
    | nil=>exact absurd (aE rfl) hlen
    | cons x rr=>
     cases x with
     | inl _=>cases hk
     | inr h=>
      obtain⟨o1,o2,o3,o4⟩:=Iq hk;have q:=q H (af.refl _);have no:∀{s:Str}{n:Nat}{k:Int},k=n+1->¬(h=s/\rr.length=n)->V.str h=V.str s->¬(V.int (((cf.ats (.odd (.inr h::rr) hk)).map aV).length:Int)=V.int k):=fun {s n k} ek o z z2=>o ⟨by injection z,by
       injection z2 with z2
       rw[aK]at z2;have e:(cf.ats (.odd (.inr h::rr) hk)).length=rr.length+1:=rfl;omega⟩
      refine⟨_,rfl,t,_,_,_,rfl,rfl,ak.of ht,bT (j:=0) rfl,rfl,_,rfl,?_⟩;refine av (fun z=>⟨_,rfl,t,_,rfl,.inr (ak.of ht),rfl,_,rfl,av (fun z2=>absurd (aL z2) (no rfl o1 (aL z))) fun _=>q⟩) (fun _=>?_);refine⟨_,rfl,t,_,_,_,rfl,rfl,ak.of ht,bT (j:=0) rfl,rfl,_,rfl,?_⟩;refine av (fun z=>⟨_,rfl,t,_,rfl,.inr (ak.of ht),rfl,_,rfl,av (fun z2=>absurd (aL z2) (no rfl o2 (aL z))) fun _=>q⟩) (fun _=>?_);refine⟨_,rfl,t,_,_,_,rfl,rfl,ak.of ht,bT (j:=0) rfl,rfl,_,rfl,?_⟩;refine av (fun z=>⟨_,rfl,t,_,rfl,.inr (ak.of ht),rfl,_,rfl,av (fun z2=>absurd (aL z2) (no rfl o3 (aL z))) fun _=>q⟩) (fun _=>?_);refine⟨_,rfl,t,_,_,_,rfl,rfl,ak.of ht,bT (j:=0) rfl,rfl,_,rfl,?_⟩;refine av (fun z=>⟨_,rfl,t,_,rfl,.inr (ak.of ht),rfl,_,rfl,av (fun z2=>absurd (aL z2) (no rfl o4 (aL z))) fun _=>q⟩) (fun _=>?_);exact q
end
end K43
namespace K43
open PySem L2 PySem.Spec PyProof.Rows
seal PE PS c7 PA PT PW PG ip PI gB
theorem Iy:∀{l:Ll},l.Pairwise (fun a b=>HT.lexLt a b=true)->i4 l=true
 | [],_=>rfl
 | [_],_=>rfl
 | x::y::r,h=>by
  obtain⟨h1,h2⟩:=wu.mp h;show(HT.lexLt x y && i4 (y::r))=true;rw[h1 y gc,Iy h2];rfl
def rT(x:List Int):Ll->Ll
 | []=>[x]
 | y::r=>if HT.lexLt x y=true then x::y::r else y::rT x r
theorem CK(x:List Int):∀l:Ll,(rT x l).Perm (x::l)
 | []=>.refl _
 | y::r=>by
  unfold rT;split
  . exact .refl _
  . exact((CK x r).cons y).trans (.swap x y r)
theorem Iz(x:List Int):∀l:Ll,x∉l->l.Pairwise (fun a b=>HT.lexLt a b=true)->(rT x l).Pairwise (fun a b=>HT.lexLt a b=true)
 | [],_,_=>EJ _ _
 | y::r,hn,h=>by
  obtain⟨h1,h2⟩:=wu.mp h;have wD:x≠y:=fun z=>hn (by rw[z];exact gc);unfold rT;split
  case isTrue hl=>
   refine wu.mpr ⟨fun z hz=>?_,h⟩
   rcases cE.mp hz with e | hz
   . rw[e];exact hl
   . exact xt _ _ _ hl (h1 z hz)
  case isFalse hl=>
   have gA:HT.lexLt y x=true:=by
    have:=xr y x wD.symm;rw[jj.mpr hl]at this;exact this
   refine wu.mpr ⟨fun z hz=>?_,Iz x r (fun z=>hn (eS _ z)) h2⟩
   rcases cE.mp ((CK x r).mem_iff.mp hz) with e | hz
   . rw[e];exact gA
   . exact h1 z hz
def kW:Ll->Ll
 | []=>[]
 | x::r=>rT x (kW r)
theorem uO:∀l:Ll,(kW l).Perm l
 | []=>.refl _
 | x::r=>(CK x (kW r)).trans ((uO r).cons x)
theorem IA:∀l:Ll,l.Nodup->(kW l).Pairwise (fun a b=>HT.lexLt a b=true)
 | [],_=>.nil
 | x::r,h=>by
  obtain⟨h1,h2⟩:=m3.mp h;exact Iz x (kW r) (fun z=>h1 ((uO r).mem_iff.mp z)) (IA r h2)
theorem CM{ps:Lp}(h:kP ps):B9 ps fun nm=>kW (a9 ps nm):=⟨fun nm=>uO _,fun nm=>Iy (IA _ (yq h.nd nm))⟩
section
variable {P:Program}{w:World}{K:Fg}{mg:Mv}{base:Heap}
def abO(H:Hp)(v:V)(m:List Int):Prop:=∃t,v=.ref t/\H t=some (.tup (m.map V.int))
end
open HT (At)
theorem abP{β:Type}{x y:Str}{ls:β}(tr:List (Str×β)):(tr.map fun f=>if f.1=x then(f.1,ls) else f).lookup y=if y=x then(tr.lookup y).map (fun _=>ls) else tr.lookup y:=by
 induction tr with
 | nil=>simp
 | cons f r ih=>
  rw[dM,jF,jF,ih]
  by_cases h:f.1=x
  . rw[aB h]
    by_cases hy:y=f.1
    . rw[show(y == f.1)=true from kE.mpr hy,aB (hy.trans h),aB (hy.trans h)];rfl
    . rw[show(y == f.1)=false from jh.mpr hy]
  . rw[ap h]
    by_cases hy:y=f.1
    . rw[show(y == f.1)=true from kE.mpr hy,ap (fun z=>h (hy.symm.trans z)),ap (fun z=>h (hy.symm.trans z))]
    . rw[show(y == f.1)=false from jh.mpr hy]
theorem yQ{β:Type}{x y:Str}{ls:β}(tr:List (Str×β)):(cN tr x ls).lookup y=if y=x then some ls else tr.lookup y:=by
 have j4:∀(tr:List (Str×β)),(tr.any fun f=>decide (f.1=x))=(tr.lookup x).isSome:=by
  intro tr
  induction tr with
  | nil=>rfl
  | cons f r ih=>
   rw[oW,jF,ih]
   by_cases h:f.1=x
   . rw[aE h,show(x == f.1)=true from kE.mpr h.symm];rfl
   . rw[ba h,show(x == f.1)=false from jh.mpr (gM h)];rfl
 unfold cN;rw[j4];split
 . rename_i hs;rw[abP]
   by_cases hy:y=x
   . subst hy;rw[aB rfl,aB rfl];obtain⟨v,hv⟩:=we.mp hs;rw[hv];rfl
   . rw[ap hy,ap hy]
 . rename_i hs;rw[List.lookup_append]
   by_cases hy:y=x
   . subst hy;have:tr.lookup y=none:=by
      cases hz:tr.lookup y with
      | none=>rfl
      | some v=>rw[hz]at hs;exact absurd rfl hs
     rw[this,aB rfl,jF,zZ];rfl
   . rw[ap hy,jF,show(y == x)=false from jh.mpr hy];cases tr.lookup y<;>rfl
def dU(ps:Lp)(x:Str):List (Oi):=none::(kW (a9 ps x)).map some
theorem abQ{ps:Lp}{x:Str}{m:List Int}(h:some m∈dU ps x):∃p∈ps,p.nm=x/\p.ms=m:=by
 rcases cE.mp h with z | z
 . cases z
 . obtain⟨m',hm,e⟩:=cP.mp z;cases e;obtain⟨p,hp,rfl⟩:=cP.mp ((uO _).mem_iff.mp hm);obtain⟨hp,hx⟩:=iQ.mp hp;exact⟨p,hp,aL hx,rfl⟩
theorem c9.put{ps:Lp}{de:Dec}{x:Str}{o:Oi}(h:c9 ps de)(ho:o∈dU ps x):c9 ps (cN de x o):=by
 intro y m hy;rw[yQ]at hy
 by_cases e:y=x
 . subst e;rw[aB rfl]at hy;rw[gu hy]at ho;exact abQ ho
 . rw[ap e]at hy;exact h y m hy
abbrev bN:=List cO->Dec->Bool
def rV(ps:Lp)(x:Str)(gs:List bN):bN:=fun ws de=>decide (gs.length=(dU ps x).length) && ((dU ps x).zip gs).all fun e=>e.2 ws (cN de x e.1)
def kg(ps:Lp)(Lc:Addr)(H:Hp)(v:V)(g:bN):Prop:=∃(a dx:Addr) (fl:List (Str×V)) (rv:V) (r:cf),v=.ref a/\H a=some (.ins Lc dx fl)/\fl.lookup (aiJ:Str)=some rv/\fl.lookup (aiA:Str)=none/\fl.lookup (aje:Str)=none/\eM H rv r/\g=fun ws de=>gp ps ws de r
def iF(ps:Lp)(Tc:Addr)(F:Hp->V->bN->Prop)(H:Hp)(v:V)(g:bN):Prop:=∃(a dx:Addr) (fl:List (Str×V)) (x:Str) (l:Addr) (ys:Lv) (gs:List bN),v=.ref a/\H a=some (.ins Tc dx fl)/\fl.lookup (aik:Str)=some (.str x)/\fl.lookup (ajc:Str)=some (.ref l)/\fl.lookup (aiA:Str)=none/\fl.lookup (aje:Str)=none/\H l=some (.lst ys)/\Paired (F H) ys gs/\ys.length<=50/\g=rV ps x gs
def cT(ps:Lp)(Lc Tc:Addr):Nat->Hp->V->bN->Prop
 | 0,_,_,_=>False
 | n+1,H,v,g=>kg ps Lc H v g\/iF ps Tc (cT ps Lc Tc n) H v g
theorem kg.same{ps:Lp}{Lc:Addr}{H H':Hp}{v:V}{g:bN}(s:af H H')(h:kg ps Lc H v g):kg ps Lc H' v g:=by
 obtain⟨a,dx,fl,rv,r,e,h1,h2,h3,h4,h5,h6⟩:=h;exact⟨a,dx,fl,rv,r,e,s _ _ h1,h2,h3,h4,h5.same s,h6⟩
theorem iF.same{ps:Lp}{Tc:Addr}{F:Hp->V->bN->Prop}(hF:∀{H H':Hp}{v:V}{g:bN},af H H'->F H v g->F H' v g){H H':Hp}{v:V}{g:bN}(s:af H H')(h:iF ps Tc F H v g):iF ps Tc F H' v g:=by
 obtain⟨a,dx,fl,x,l,ys,gs,e,h1,h2,h3,h4,h5,h6,h7,h8,h9⟩:=h;exact⟨a,dx,fl,x,l,ys,gs,e,s _ _ h1,h2,h3,h4,h5,s _ _ h6,aX h7 fun _ _=>hF s,h8,h9⟩
theorem cT.same{ps:Lp}{Lc Tc:Addr}{n:Nat}:∀{H H':Hp}{v:V}{g:bN},af H H'->cT ps Lc Tc n H v g->cT ps Lc Tc n H' v g:=by
 induction n with
 | zero=>intro H H' v g s h;exact(show False from h).elim
 | succ n ih=>
  intro H H' v g s h
  rcases(show kg ps Lc H v g\/iF ps Tc (cT ps Lc Tc n) H v g from h) with h | h
  . exact .inl (h.same s)
  . exact .inr (iF.same (F:=cT ps Lc Tc n) (fun s h=>ih s h) s h)
structure mi(K:Fg)(mg:Mv)(Lc fW fH:Addr):Prop where
 cl:gz K Lc
 nR:ge K Lc aiJ
 mW:jl K Lc aiA fW
 mH:jl K Lc aje fH
 mgC:mg "Leaf"=some (.ref Lc)
structure og(K:Fg)(mg:Mv)(Tc fW fH:Addr):Prop where
 cl:gz K Tc
 nN:ge K Tc aik
 nP:ge K Tc ajc
 mW:jl K Tc aiA fW
 mH:jl K Tc aje fH
 mgC:mg "Split"=some (.ref Tc)
section
variable {P:Program}{w:World}{K:Fg}{mg:Mv}{base:Heap}
def IB:Sp:=fun vs H Q _=>∃(d:Addr) (nm:Str) (cv:V) (de:Dec) (o:Oi),vs=[.ref d,.str nm,cv]/\dm H d de/\ce H cv o/\de.length<=100/\∀r H',H r=none->af H H'->dm H' r (cN de nm o)->Q (.ref r) H'
theorem abR{f:Addr}{fd:Fy}(F:aj K ai4 ai4 ue f fd)(B:cj mg):ao P w K mg base aq 1 f fd [aij,aik,"case"] IB:=by
 refine F.okL Ia ?_
 . intro aG A outer s H vs Q E hr h xX dX;obtain⟨d,nm,cv,de,o,rfl,⟨ab,hd,pr⟩,hc,hl,q⟩:=h;have hu:=hr.units;refine⟨_,(ar (aY (i:=3) Ia.nd rfl (Or.inl rfl) (fT xo (by rfl) B.dict EM (aa (pv 0) ac)))
    (ar (qY hu (pv 3) (pv 1) (pv 2) rfl)
    (aF (aN (pv 3))))),?_⟩
   refine nu ?_;intro dD sS i8 eZ;have pl:=aP pr;refine⟨_,rfl,d,_,rfl,hd,fun p1 H1 n1 s1 e1=>?_⟩;refine⟨_,rfl,_,rfl,_,rfl,p1,_,rfl,jn.k (k:=.inr nm) e1 (bq (by omega)),?_⟩;refine⟨_,rfl,?_⟩;have s2:=nW (o:=.dK (ca ab (.inr nm) cv)) n1 s1;refine q p1 _ n1 s2 ⟨_,bf,?_⟩;have hk:∀kv f,ga (al H1 p1 (.dK (ca ab (.inr nm) cv))) kv f->kv.1=Sum.inr f.1:=fun kv f z=>z.1;exact yi hk ⟨rfl,hc.same s2⟩ (aX pr fun _ _=>ga.same s2)
def uP(C S Lc:Addr):Sp:=fun vs H Q _=>∃(v sv:V) (wl d:Addr) (ps:Lp) (xw:Lv) (ws:List cO) (de:Dec) (g:bN),vs=[v,sv,.ref wl,.ref d]/\kg ps Lc H v g/\gk C S H sv ps/\H wl=some (.lst xw)/\Paired (cR H) xw ws/\dm H d de/\c9 ps de/\∀H',af H H'->Q (.bl (g ws de)) H'
theorem abS:bo [aio,ail,ais,aij] [aio,ail,ais,aij] (aO lX):=bu
theorem abT{f C S Lc fW fH uQ:Addr}{fd yR:Fy}(F:aj K aiA "Leaf.holds_where" lX f fd)(U:mi K mg Lc fW fH)(uR:aj K ajn ajn xK uQ yR)(CN:mg ajn=some (.ref uQ))(CO:ao P w K mg base aq 5 uQ yR [ail,ais,aij,aiJ] (Cw C S)) :
 ao P w K mg base aq 6 f fd [aio,ail,ais,aij] (uP C S Lc):=by
 have abU:=uR.binds4 (l:=[ail,ais,aij,aiJ]) (fun _ _ _ _ _ _ _ _ _ _=>rfl);refine F.okL abS ?_
 . intro aG A outer s H vs Q E hr h xX dX;obtain⟨v,sv,wl,d,ps,xw,ws,de,g,rfl,⟨a,dx,fl,rv,r,rfl,h1,h2,h3,h4,h5,rfl⟩,cy,cm,cS,bL,bU,q⟩:=h;refine⟨_,(aF (aN (aI CO hr rfl CN uR.kp abU .nil az (aa (pv 1) (aa (pv 2) (aa (pv 3) (aa (eG (pv 0) rfl) ac))))))),?_⟩;refine⟨_,rfl,_,rfl,_,rfl,_,rfl,a,Lc,dx,_,_,rfl,h1,U.cl,U.nR,h2,?_⟩;exact⟨sv,rv,wl,d,ps,xw,ws,de,r,rfl,cy,cm,cS,bL,bU,h5,q⟩
theorem yS:bo [aio,ail,ais,aij,"cases","case","paper"] [aio,ail,ais,aij] (aO nJ):=bu
end
theorem IC{α:Type}{f:α->Bool}{l:List α}{i:Nat}{x:α}(h:l[i]?=some x):(l.take (i+1)).all f=((l.take i).all f && f x):=by
 rw[i6 h,List.all_append,Ex,List.all_nil,Bool.and_true]
theorem ID{α:Type}{f:α->Bool}{l:List α}{i:Nat}{x:α}(h:l[i]?=some x)(e:f x=false):l.all f=false:=by
 cases hz:l.all f with
 | false=>rfl
 | true=>
  have:=wm.mp hz x (gO h);rw[e]at this;cases this
theorem zip_get{α β:Type}{xs:List α}{ys:List β}{i:Nat}{x:α}{y:β}(h1:xs[i]?=some x)(h2:ys[i]?=some y):(xs.zip ys)[i]?=some (x,y):=by
 rw[List.getElem?_zip_eq_some];exact⟨h1,h2⟩
section
variable {P:Program}{w:World}{K:Fg}{mg:Mv}{base:Heap}
theorem IE{k L:Nat}(hL:L<=99){fd jx uS fD uT:Fy}{f C S Lc Tc gJ kh ke cY dE pY pZ:Addr}{F1:Lp->Hp->V->bN->Prop}{iG:Sp}(tU:6<=k)(F:aj K aiA "Split.holds_where" nJ f fd)(B:cj mg)(U:gG K mg S ke cY dE)(UL:mi K mg Lc gJ kh)(UT:og K mg Tc f kh)
 (kX:aj K aiA "Leaf.holds_where" lX gJ jx) (mj:ao P w K mg base aq k gJ jx [aio,ail,ais,aij] (uP C S Lc)) (G:ao P w K mg base aq k f fd [aio,ail,ais,aij] iG)
 (eK:aj K aiW "Shelf.makes_of" i7 cY fD) (oh:aj K ai7 ai7 ud pY uS) (rW:mg ai7=some (.ref pY)) (mn:aj K ai4 ai4 ue pZ uT) (qa:mg ai4=some (.ref pZ))
 (hG:∀(ps:Lp) (H:Hp) (v:V) (g:bN),F1 ps H v g->kg ps Lc H v g\/((∃a dx fl,v=.ref a/\H a=some (.ins Tc dx fl)/\fl.lookup (aiA:Str)=none)/\∀(H2:Hp),af H H2->∀(sv:V) (wl d:Addr) (xw:Lv) (ws:List cO) (de:Dec) (Q:VK) (E:XK),gk C S H2 sv ps->H2 wl=some (.lst xw)->Paired (cR H2) xw ws->dm H2 d de->c9 ps de->de.length<=L->(∀H',af H2 H'->Q (.bl (g ws de)) H')->iG [v,sv,.ref wl,.ref d] H2 Q E)) :
 ao P w K mg base aq (k+1) f fd [aio,ail,ais,aij] (fun vs H Q E=>∃(v sv:V) (wl d:Addr) (ps:Lp) (xw:Lv) (ws:List cO) (de:Dec) (g:bN),vs=[v,sv,.ref wl,.ref d]/\iF ps Tc (F1 ps) H v g/\gk C S H sv ps/\H wl=some (.lst xw)/\Paired (cR H) xw ws/\dm H d de/\c9 ps de/\de.length<L/\∀H',af H H'->Q (.bl (g ws de)) H'):=by
 have abV:ao P w K mg base aq k pY uS [ail,aik] (HZ S):=(aa3 oh B U eK).mono (by omega);have abW:=oh.binds2 (l:=[ail,aik]) (fun _ _ _ _ _ _ _ _=>rfl);have IF:ao P w K mg base aq k pZ uT [aij,aik,"case"] IB:=(abR mn B).mono (by omega);have IG:=mn.binds3 (l:=[aij,aik,"case"]) (fun _ _ _ _ _ _ _ _ _=>rfl);have CP:=kX.binds4 (l:=[aio,ail,ais,aij]) (fun _ _ _ _ _ _ _ _ _ _=>rfl);have CQ:=F.binds4 (l:=[aio,ail,ais,aij]) (fun _ _ _ _ _ _ _ _ _ _=>rfl);refine F.okL yS ?_
 . intro aG A outer s H vs Q E hr h xX dX;obtain⟨v,sv,wl,d,ps,xw,ws,de,g,rfl,⟨a,dx,fl,x,l,ys,gs,rfl,h1,h2,h3,h4,h5,h6,h7,h8,rfl⟩,cy,cm,cS,bL,bU,dl,q⟩:=h;refine⟨_,(ar (aY (i:=4) yS.nd rfl (Or.inl rfl) (aI abV hr rfl rW oh.kp abW .nil az (aa (pv 1) (aa (eG (pv 0) rfl) ac))))
    (ar (bA (bd wQ (b8 dH (by rfl) B.len eE (aa (eG (pv 0) rfl) ac)) (b8 dH (by rfl) B.len eE (aa (pv 4) ac)) (aJ _)) (aF (aN dr)) bw)
    (ar (iU jH rfl (He (by rfl) B.zip (aa (pv 4) (aa (eG (pv 0) rfl) ac))) (sW rfl (ft (bi (i:=5) yS.nd rfl (Or.inl rfl)) (ft (bi (i:=6) yS.nd rfl (Or.inl rfl)) lH)))
     (aF (bA (jK (im (PE.or (iV (pv 6) UL.cl UL.mW mj hr CP .nil az (aa (pv 1) (aa (pv 2) (aa (aI IF hr rfl qa mn.kp IG .nil az (aa (pv 3) (aa (eG (pv 0) rfl) (aa (pv 5) ac)))) ac))))
      (iV (pv 6) UT.cl UT.mW G hr CQ .nil az (aa (pv 1) (aa (pv 2) (aa (aI IF hr rfl qa mn.kp IG .nil az (aa (pv 3) (aa (eG (pv 0) rfl) (aa (pv 5) ac)))) ac))))))) (aF (aN dr)) bw)))
    (aF (aN dr))))),?_⟩
   refine pG ?_;intro dD sS j9 i8 eZ;obtain⟨xs,hS,hP⟩:=cy.sh;refine⟨_,rfl,_,rfl,a,Tc,dx,_,_,rfl,h1,UT.cl,UT.nN,h2,?_⟩;refine⟨sv,x,xs,ps,rfl,hS,cy.ok,fun cl cs ks H1 n1 s1 e1 tv pm ad=>?_⟩;have ek:ks=kW (a9 ps x):=(CM cy.ok).is pm ad;subst ek;have pc:Paired (ce H1) (.non::cs) (dU ps x):=.cons rfl (uz tv);have rX:=aP pc;have gl:=aP h7;refine⟨_,rfl,a,Tc,dx,_,_,rfl,s1 _ _ h1,UT.cl,UT.nP,h3,l,_,rfl,.inl (ah.of (s1 _ _ h6)),_,rfl,cl,_,rfl,.inl (ah.of e1),rfl,_,rfl,?_⟩;unfold rV at q
   by_cases el:gs.length=(dU ps x).length
   . refine av (fun z=>absurd z (by rw[gl,rX,el,aE rfl];decide)) (fun _=>?_);rw[aE el,eu]at q;have rY:(V.non::cs).length=ys.length:=by rw[rX,←el,gl]
     refine⟨_,rfl,_,rfl,a,Tc,dx,_,_,rfl,s1 _ _ h1,UT.cl,UT.nP,h3,cl,l,rfl,⟨_,ah.of e1⟩,⟨_,ah.of (s1 _ _ h6)⟩,?_⟩;refine Hf (xs:=.non::cs) (ys:=ys) rY (fun i σ H2=>∃u v,σ=[some (.ref a),some sv,some (.ref wl),some (.ref d),some (.ref cl),u,v]/\af H1 H2/\(((dU ps x).zip gs).take i).all (fun e=>e.2 ws (cN de x e.1))=true) ⟨none,none,rfl,af.refl _,rfl⟩ ?_ ?_ ?_
     . rintro i σ H2 hi ⟨u,v,rfl,s2,_⟩;exact⟨ah.of (s2 _ _ e1),ah.of ((s1.trans s2) _ _ h6)⟩
     . intro i y z t σ H2 hy hz hQ ht;refine cL ?_;intro tT;obtain⟨u,v,rfl,s2,dF⟩:=hQ;have st:af H2 (al H2 t (.tup [y,z])):=jV ht;obtain⟨o,ho,hB⟩:=bO pc hy;obtain⟨g,hg,hF⟩:=bO h7 hz;have uU:=zip_get ho hg;have s3:=(s1.trans s2).trans st;have b7:=s2.trans st;refine⟨t,_,rfl,ak.of bf,rfl,_,_,rfl,_,_,rfl,rfl,?_⟩;have om:o∈dU ps x:=gO ho;have IH:=bU.put om;have dl2:(cN de x o).length<=L:=eU (yh de x o) (by omega);have fin:∀H4,af (al H2 t (.tup [y,z])) H4->E7 (fun _ _ Q'=>Q' (g ws (cN de x o)) H4) [] H4 (fun c H5=>if c=true then(dX.rt (.bl false) H5) else((fun i σ H2=>∃u v,σ=[some (.ref a),some sv,some (.ref wl),some (.ref d),some (.ref cl),u,v]/\af H1 H2/\(((dU ps x).zip gs).take i).all (fun e=>e.2 ws (cN de x e.1))=true) (i+1) [some (.ref a),some sv,some (.ref wl),some (.ref d),some (.ref cl),some y,some z] H5)):=by
        intro H4 s4;show if (!g ws (cN de x o))=true then _ else _;cases hv:g ws (cN de x o) with
        | true=>
         refine c8 ⟨some y,some z,rfl,b7.trans s4,?_⟩;rw[IC uU,dF,eu];exact hv
        | false=>
         refine dA ?_;have q:=q H4 (s3.trans s4);rw[ID (f:=fun e:Oi×bN=>e.2 ws (cN de x e.1)) uU hv]at q;exact q
       rcases hG ps H z g hF with hL | ⟨⟨a2,uI,rR,rfl,b1,b2⟩,hT⟩
       . left;obtain⟨a2,uI,rR,rv,r,rfl,b1,b2,b3,b4,b5,b6⟩:=id hL;refine⟨_,rfl,a2,uI,rR,rfl,s3 _ _ b1,b3,_,rfl,_,rfl,_,rfl,_,rfl,a,Tc,dx,_,_,rfl,s3 _ _ h1,UT.cl,UT.nN,h2,_,rfl,?_⟩;refine⟨d,x,y,de,o,rfl,bL.same s3,hB.same b7,by omega,fun rd H4 n4 s4 yT=>?_⟩;refine⟨.ref a2,sv,wl,rd,ps,xw,ws,cN de x o,g,rfl,hL.same (s3.trans s4),cy.same (s3.trans s4),(s3.trans s4) _ _ cm,aX cS fun _ _ z=>z.same (s3.trans s4),yT,IH,fun H5 s5=>⟨_,rfl,?_⟩⟩;exact fin H5 (s4.trans s5)
       . right;refine⟨_,rfl,a2,uI,rR,rfl,s3 _ _ b1,b2,_,rfl,_,rfl,_,rfl,_,rfl,a,Tc,dx,_,_,rfl,s3 _ _ h1,UT.cl,UT.nN,h2,_,rfl,?_⟩;refine⟨d,x,y,de,o,rfl,bL.same s3,hB.same b7,by omega,fun rd H4 n4 s4 yT=>?_⟩;refine hT H4 (s3.trans s4) sv wl rd xw ws (cN de x o) _ _ (cy.same (s3.trans s4)) ((s3.trans s4) _ _ cm) (aX cS fun _ _ z=>z.same (s3.trans s4)) yT IH dl2 fun H5 s5=>⟨_,rfl,?_⟩;exact fin H5 (s4.trans s5)
     . rintro σ H2 ⟨u,v,rfl,s2,dF⟩;rw[rY,gl,←Nat.min_self gs.length]at dF;have e:((dU ps x).zip gs).length=min gs.length gs.length:=by rw[List.length_zip,el]
       rw[←e,eB]at dF;have q:=q H2 (s1.trans s2);rw[dF]at q;exact q
   . refine av (fun _=>?_) (fun z=>absurd (by rw[gl,rX];simp;omega) z);have q:=q H1 s1;rw[ba el,cU]at q;exact q
def CU(C S Lc Tc:Addr)(n:Nat):Sp:=fun vs H Q E=>∃(v sv:V) (wl d:Addr) (ps:Lp) (xw:Lv) (ws:List cO) (de:Dec) (g:bN),vs=[v,sv,.ref wl,.ref d]/\iF ps Tc (cT ps Lc Tc n) H v g/\gk C S H sv ps/\H wl=some (.lst xw)/\Paired (cR H) xw ws/\dm H d de/\c9 ps de/\de.length+n<90/\∀H',af H H'->Q (.bl (g ws de)) H'
theorem abY{fd jx uS fD uT:Fy}{f C S Lc Tc gJ kh ke cY dE pY pZ:Addr}(F:aj K aiA "Split.holds_where" nJ f fd)(B:cj mg)(U:gG K mg S ke cY dE)(UL:mi K mg Lc gJ kh)(UT:og K mg Tc f kh)
 (kX:aj K aiA "Leaf.holds_where" lX gJ jx) (mj:ao P w K mg base aq 6 gJ jx [aio,ail,ais,aij] (uP C S Lc))
 (eK:aj K aiW "Shelf.makes_of" i7 cY fD) (oh:aj K ai7 ai7 ud pY uS) (rW:mg ai7=some (.ref pY)) (mn:aj K ai4 ai4 ue pZ uT) (qa:mg ai4=some (.ref pZ)) (n:Nat) (ahp:n<=80) :
 ao P w K mg base aq (7+n) f fd [aio,ail,ais,aij] (CU C S Lc Tc n):=by
 induction n with
 | zero=>
  have G0:ao P w K mg base aq 6 f fd [aio,ail,ais,aij] (fun _ _ _ _=>False):=⟨fun _ _ _ _ h=>h.elim,fun _ _ _ _ _ _ _ _ _ _ _ _ _ h=>h.elim⟩;refine(IE (L:=90) (k:=6) (F1:=fun ps=>cT ps Lc Tc 0) (by decide) (aS _) F B U UL UT kX mj G0 eK oh rW mn qa fun ps H v g h=>(show False from h).elim).imp fun vs H Q E h=>?_;obtain⟨v,sv,wl,d,ps,xw,ws,de,g,e,h1,h2,h3,h4,h5,h6,h7,h8⟩:=h;exact⟨v,sv,wl,d,ps,xw,ws,de,g,e,h1,h2,h3,h4,h5,h6,by omega,h8⟩
 | succ n ih=>
  refine(IE (L:=89 - n) (k:=7+n) (F1:=fun ps=>cT ps Lc Tc (n+1)) (by omega) (by omega) F B U UL UT kX (mj.mono (by omega)) (ih (by omega)) eK oh rW mn qa fun ps H v g h=>?_).imp fun vs H Q E h=>?_
  . rcases(show kg ps Lc H v g\/iF ps Tc (cT ps Lc Tc n) H v g from h) with h | h
    . exact .inl h
    . refine .inr ⟨?_,fun H2 s2 sv wl d xw ws de Q E a1 a2 a3 a4 a5 a6 a7=>?_⟩
      . obtain⟨a,dx,fl,x,l,ys,gs,e,h1,h2,h3,h4,_⟩:=h;exact⟨a,dx,fl,e,h1,h4⟩
      . exact⟨v,sv,wl,d,ps,xw,ws,de,g,rfl,iF.same (F:=cT ps Lc Tc n) (fun s h=>cT.same s h) s2 h,a1,a2,a3,a4,a5,by omega,a7⟩
  . obtain⟨v,sv,wl,d,ps,xw,ws,de,g,e,h1,h2,h3,h4,h5,h6,h7,h8⟩:=h;exact⟨v,sv,wl,d,ps,xw,ws,de,g,e,h1,h2,h3,h4,h5,h6,by omega,h8⟩
def CV(C S Lc Tc:Addr)(n:Nat):Sp:=fun vs H Q _=>∃(v sv:V) (wl:Addr) (ps:Lp) (xw:Lv) (ws:List cO) (g:bN),vs=[v,sv,.ref wl]/\cT ps Lc Tc (n+1) H v g/\gk C S H sv ps/\H wl=some (.lst xw)/\Paired (cR H) xw ws/\∀H',af H H'->Q (.bl (g ws [])) H'
theorem II:bo [aio,ail,ais] [aio,ail,ais] (aO fZ):=bu
theorem abZ{fd jx rZ:Fy}{f C S Lc Tc gJ oj:Addr}{n:Nat}(hn:n<90)(F:aj K aje "Paper.holds" fZ f fd)(UL:mi K mg Lc gJ f)(UT:og K mg Tc oj f)
 (kX:aj K aiA "Leaf.holds_where" lX gJ jx) (mj:ao P w K mg base aq (7+n) gJ jx [aio,ail,ais,aij] (uP C S Lc)) (yU:aj K aiA "Split.holds_where" nJ oj rZ) (CW:ao P w K mg base aq (7+n) oj rZ [aio,ail,ais,aij] (CU C S Lc Tc n)) :
 ao P w K mg base aq (8+n) f fd [aio,ail,ais] (CV C S Lc Tc n):=by
 have CP:=kX.binds4 (l:=[aio,ail,ais,aij]) (fun _ _ _ _ _ _ _ _ _ _=>rfl);have CQ:=yU.binds4 (l:=[aio,ail,ais,aij]) (fun _ _ _ _ _ _ _ _ _ _=>rfl);have e8:8+n=7+n+1:=by omega
 rw[e8];refine F.okL II ?_
 . intro aG A outer s H vs Q E hr h xX dX;obtain⟨v,sv,wl,ps,xw,ws,g,rfl,hp,cy,cm,cS,q⟩:=h;refine⟨_,(aF (aN (PE.or (iV (pv 0) UL.cl UL.mW mj hr CP .nil az (aa (pv 1) (aa (pv 2) (aa pF ac)))) (iV (pv 0) UT.cl UT.mW CW hr CQ .nil az (aa (pv 1) (aa (pv 2) (aa pF ac))))))),?_⟩;have d0:c9 ps []:=fun x m h=>nomatch h
   rcases(show kg ps Lc H v g\/iF ps Tc (cT ps Lc Tc n) H v g from hp) with h | h
   . left;obtain⟨a,dx,fl,rv,r,rfl,b1,b2,b3,b4,b5,b6⟩:=id h;refine⟨_,rfl,a,dx,fl,rfl,b1,b3,_,rfl,_,rfl,fun p1 H1 n1 s1 e1=>?_⟩;exact⟨.ref a,sv,wl,p1,ps,xw,ws,[],g,rfl,h.same s1,cy.same s1,s1 _ _ cm,aX cS fun _ _ z=>z.same s1,⟨[],e1,.nil⟩,d0,fun H' s'=>q H' (s1.trans s')⟩
   . right;obtain⟨a,dx,fl,x,l,ys,gs,rfl,b1,b2,b3,b4,_⟩:=id h;refine⟨_,rfl,a,dx,fl,rfl,b1,b4,_,rfl,_,rfl,fun p1 H1 n1 s1 e1=>?_⟩;exact⟨.ref a,sv,wl,p1,ps,xw,ws,[],g,rfl,iF.same (F:=cT ps Lc Tc n) (fun s h=>cT.same s h) s1 h,cy.same s1,s1 _ _ cm,aX cS fun _ _ z=>z.same s1,⟨[],e1,.nil⟩,d0,by rw[ji];omega,fun H' s'=>q H' (s1.trans s')⟩
def IJ(Lc:Addr):Sp:=fun vs H Q _=>∃(x dx:Addr) (rv:V),vs=[.ref x,rv]/\H x=some (.ins Lc dx [])/\Q .non (al H x (.ins Lc dx (aA aiJ rv [])))
theorem ab0:bo [aio,aiJ] [aio,aiJ] (aO nH):=bu
theorem ab1{f Lc fW fH:Addr}{fd:Fy}(F:aj K "__init__" "Leaf.__init__" nH f fd)(T:mi K mg Lc fW fH):ao P w K mg base aq 1 f fd [aio,aiJ] (IJ Lc):=by
 refine F.okL ab0 ?_
 . intro aG A outer s H vs Q E hr h xX dX;obtain⟨x,dx,rv,rfl,hx,q⟩:=h;refine⟨_,(aF (jO (pv 0) (pv 1) rfl)),?_⟩;exact⟨_,rfl,_,rfl,x,Lc,dx,_,rfl,hx,T.cl,T.nR,(by decide),q⟩
def IK(Tc:Addr):Sp:=fun vs H Q _=>∃(x dx l:Addr) (nm:Str) (ys:Lv),vs=[.ref x,.str nm,.ref l]/\H x=some (.ins Tc dx [])/\H l=some (.lst ys) /\
 ∀l' H',H l'=none->(∀b o,H b=some o->b≠x->H' b=some o)->H' x=some (.ins Tc dx (aA ajc (.ref l') (aA aik (.str nm) [])))->H' l'=some (.lst ys)->Q .non H'
theorem ab2:bo [aio,aik,ajc] [aio,aik,ajc] (aO nI):=bu
theorem ab3{f Tc fW fH:Addr}{fd:Fy}(F:aj K "__init__" "Split.__init__" nI f fd)(B:cj mg)(T:og K mg Tc fW fH):ao P w K mg base aq 1 f fd [aio,aik,ajc] (IK Tc):=by
 refine F.okL ab2 ?_
 . intro aG A outer s H vs Q E hr h xX dX;obtain⟨x,dx,l,nm,ys,rfl,hx,hl,q⟩:=h;refine⟨_,(ar (jO (pv 0) (pv 1) rfl) (aF (jO (pv 0) (fT pE (by rfl) B.list lA (aa (pv 2) ac)) rfl))),?_⟩;refine lU ?_;intro dD sS eZ;refine⟨_,rfl,_,rfl,x,Tc,dx,_,rfl,hx,T.cl,T.nN,(by decide),?_⟩;have yV:l≠x:=eF hl hx (by intro z;cases z);refine⟨_,rfl,l,_,rfl,.inl (ah.of (aZ hl yV)),fun p1 H1 n1 s1 e1=>?_⟩;have IM:p1≠x:=fun z=>by rw[z,bf]at n1;cases n1
   have n1':H p1=none:=by rw[bc IM]at n1;exact n1
   refine⟨_,rfl,x,Tc,dx,_,rfl,s1 _ _ bf,T.cl,T.nP,(show(1:Nat)<1000 by decide),?_⟩;exact q p1 _ n1' (fun b o e hb=>aZ (s1 _ _ (aZ e hb)) hb) bf (aZ e1 IM)
end
end K43
namespace K43
open PySem L2 PySem.Spec PyProof.Rows
seal PE PS c7 PA PT PW PG ip PI gB
def mo:Str:="strange"
section
variable {P:Program}{w:World}{K:Fg}{mg:Mv}{base:Heap}
def IN:Sp:=fun vs H Q _=>∃(na:Addr) (c k:Int) (xs:Ls),vs=[.ref na,.int c,.int k]/\0<=k/\k<=100/\H na=some (.lst (xs.map V.str))/\rF xs/\∀v H' cl,af H H'->dC H' v cl->Q v H'
theorem yW:bo [aii,aih,aip,aiC,"_law_least","_law_below"] [aii,aih,aip] (aO uh):=bu
theorem ab5{f cH:Addr}{fd dS:Fy}(F:aj K ai0 ai0 uh f fd)(aT:aj K aiu aiu j8 cH dS)(bg:mg aiu=some (.ref cH)):ao P w K mg base aq 2 f fd [aii,aih,aip] IN:=by
 have bD:ao P w K mg base aq 1 cH dS [aih,aip] pL:=rE aT;have bE:=aT.binds2 (l:=[aih,aip]) (fun _ _ _ _ _ _ _ _=>rfl);refine F.okL yW ?_
 . intro aG A outer s H vs Q E hr h xX dX;obtain⟨na,c,k,xs,rfl,k0,k1,fc,hN,q⟩:=h;refine⟨_,(ar (aY (i:=3) yW.nd rfl (Or.inl rfl) (au dh (aH iu (aH iu (pv 0) (pA pD (pv 0) qS (nn ae))) (cG (aa bh ac))) (aH bC (aI bD hr rfl bg aT.kp bE .nil az (aa (pv 1) (aa (pv 2) ac))) ae) (fun _ _=>rfl)))
    (ar (aY (i:=4) yW.nd rfl (Or.inl rfl) (au dh (cG (aa (br ac) (aa (br ac) (aa (br ac) (aa (br (aa (aH bC (aI bD hr rfl bg aT.kp bE .nil az (aa (pv 1) (aa (aH du (pv 2) ae) ac))) ae) ac)) ac))))) (aH bC (aI bD hr rfl bg aT.kp bE .nil az (aa (pv 1) (aa (aH du (pv 2) ae) ac))) ae) (fun _ _=>rfl)))
    (ar (aY (i:=5) yW.nd rfl (Or.inl rfl) (au dh (cG (aa cI (aa cI (aa cI (aa (br (aa (aH du ae (aH bC (aI bD hr rfl bg aT.kp bE .nil az (aa (pv 1) (aa (aH du (pv 2) ae) ac))) ae)) ac)) ac))))) (aH bC (aI bD hr rfl bg aT.kp bE .nil az (aa (pv 1) (aa (aH du (pv 2) ae) ac))) ae) (fun _ _=>rfl)))
    (aF (aN (br (aa (pv 3) (aa (pv 4) (aa (pv 5) ac))))))))),?_⟩
   refine pG ?_;intro dD sS j9 i8 eZ;refine⟨_,rfl,_,rfl,_,rfl,na,_,rfl,ah.of fc,fun p1 H1 n1 s1 e1=>?_⟩;rw[q8,tN (by decide)]at e1;have t5:(xs.take (5:Int).toNat).length=5:=by rw[eV,hN.len];rfl
   refine⟨na,p1,_,_,rfl,rfl,s1 _ _ fc,e1,iw (by rw[aK,aK,t5,hN.len];decide),fun p2 H2 n2 s2 e2=>?_⟩;refine⟨(by show 1<=sizeLine;decide),fun p3 H3 n3 s3 e3=>?_⟩;refine⟨p2,p3,_,_,rfl,rfl,s3 _ _ e2,e3,iw (by rw[be,aK,aK,t5,hN.len];decide),fun p4 H4 n4 s4 e4=>?_⟩;have e4':H4 p4=some (.lst ((xs++xs.take (5:Int).toNat++[mo]).map V.str)):=by rw[e4,eA,eA];rfl
   refine⟨_,rfl,_,rfl,c,k,rfl,by omega,by omega,fun d0 _=>?_⟩;obtain⟨z,hz,_⟩:=nt (xs:=xs++xs.take (5:Int).toNat++[mo]) (r:=d0 % 12) (by omega) (by rw[be,be,t5,hN.len];show _<((12:Nat):Int);omega);refine⟨_,_,rfl,rfl,(by show(0:Int)<12;decide),p4,_,_,_,rfl,rfl,ah.of e4',hz,?_⟩;refine⟨(by show 0<=sizeLine;decide),fun p5 H5 n5 s5 e5=>?_⟩;refine⟨(by show 0<=sizeLine;decide),fun p6 H6 n6 s6 e6=>?_⟩;refine⟨(by show 0<=sizeLine;decide),fun p7 H7 n7 s7 e7=>?_⟩;refine⟨_,rfl,_,rfl,_,_,rfl,rfl,_,_,rfl,by omega,by omega,fun d2 _=>?_⟩;refine⟨_,_,rfl,rfl,(by show(0:Int)<3;decide),(by show 1<=sizeLine;decide),fun p8 H8 n8 s8 e8=>?_⟩;refine⟨(by show 4<=sizeLine;decide),fun p9 H9 n9 s9 e9=>?_⟩;refine⟨_,rfl,_,rfl,_,_,rfl,rfl,_,_,rfl,by omega,by omega,fun d3 _=>?_⟩;have s69:=((s6.trans s7).trans s8).trans s9;obtain⟨lv,CY,l,ls,rfl,hl⟩:=Hg (a:=.ref p5) (b:=.ref p6) (c:=.ref p7) (d:=.ref p8) d3 (R:=fun v=>∃l ls,v=.ref l/\H9 l=some (.tup (ls.map V.int))) ⟨_,[],rfl,s69 _ _ e5⟩ ⟨_,[],rfl,((s7.trans s8).trans s9) _ _ e6⟩ ⟨_,[],rfl,(s8.trans s9) _ _ e7⟩ ⟨_,[_],rfl,s9 _ _ e8⟩;refine⟨_,_,rfl,rfl,(by show(0:Int)<4;decide),p9,_,_,_,rfl,rfl,ah.of e9,CY,?_⟩;refine⟨_,rfl,_,rfl,_,_,rfl,rfl,_,_,rfl,by omega,by omega,fun d4 _=>?_⟩;refine⟨_,_,rfl,rfl,(by show(0:Int)<3;decide),_,_,rfl,rfl,(by show 1<=sizeLine;decide),fun jd gq on cz fE=>?_⟩;refine⟨(by show 4<=sizeLine;decide),fun qb r6 CZ bP jy=>?_⟩;refine⟨_,rfl,_,rfl,_,_,rfl,rfl,_,_,rfl,by omega,by omega,fun d5 _=>?_⟩;obtain⟨bv,C0,bl,hb⟩:=Hg (a:=.non) (b:=.non) (c:=.non) (d:=.ref jd) d5 (R:=fun v=>∃bl,ce r6 v bl) ⟨none,rfl⟩ ⟨none,rfl⟩ ⟨none,rfl⟩ ⟨some [_],_,rfl,bP _ _ fE⟩;refine⟨_,_,rfl,rfl,(by show(0:Int)<4;decide),qb,_,_,_,rfl,rfl,ah.of jy,C0,?_⟩;refine⟨_,rfl,_,rfl,_,rfl,(by show 3<=sizeLine;decide),fun oo oq C1 b7 ot=>?_⟩;have ab8:=(cz.trans bP).trans b7;refine q _ _ ⟨z,ls,bl⟩ (((((((((((s1.trans s2).trans s3).trans s4).trans s5).trans s6).trans s7).trans s8).trans s9).trans cz).trans bP).trans b7) ⟨oo,l,bv,rfl,ot,ab8 _ _ hl,hb.same b7⟩
end
def kY(H:Hp)(v:V)(p:bp):Prop:=∃t m fa na sa oa fx,v=.ref t/\H t=some (.tup [.str p.nm,.ref m,.int p.rk,.ref fa,.ref na,.ref sa,.ref oa])/\H m=some (.tup (p.ms.map V.int)) /\
 H fa=some (.lst fx)/\Paired (eJ H) fx p.fs/\iB H na p.ns/\iB H sa p.ss/\H oa=some (.lst (p.os.map V.str))
theorem kY.same{H H':Hp}(s:af H H'){v:V}{p:bp}(h:kY H v p):kY H' v p:=by
 obtain⟨t,m,fa,na,sa,oa,fx,e,h1,h2,h3,h4,h5,h6,h7⟩:=h;exact⟨t,m,fa,na,sa,oa,fx,e,s _ _ h1,s _ _ h2,s _ _ h3,aX h4 (fun _ _=>eJ.same s),h5.same s,h6.same s,s _ _ h7⟩
theorem gX.over{H H':Hp}{L:List Addr}(h:gX H L)(s:af H H'):gX H' L:=fun b hb=>(h b hb).elim fun o ab9=>ab9.elim fun e q=>⟨o,s _ _ e,q⟩
theorem iB.msk{H:Hp}{L:List Addr}(hL:gX H L){a:Addr}{cs:List eI}(n:a∉L)(h:iB H a cs):iB (msk L H) a cs:=h.elim fun ys aca=>aca.elim fun e p=>⟨ys,f7 n e,aX p fun _ _=>dC.msk hL (af.refl _)⟩
abbrev gK (H:Hp):Lv->Lp->Prop:=Paired (kY H)
theorem gK.same{H H':Hp}(s:af H H'){vs:Lv}{ps:Lp}(h:gK H vs ps):gK H' vs ps:=aX h fun _ _=>kY.same s
def kZ:List Int->Int
 | []=>-1
 | [a]=>a
 | _::a::_=>a
structure Good(p:bp):Prop where
 few:nC p
 nm:fY p.nm
 pt:∀x∈bQ p,fY x
theorem dC.mut{H:Hp}{p:Addr}{ys:Lv}{o:HO}(hp:H p=some (.lst ys)){v:V}{c:eI}(h:dC H v c):dC (al H p o) v c:=by
 obtain⟨t,l,b,e,h1,h2,h3⟩:=h;refine⟨t,l,b,e,aZ h1 (eF h1 hp (by intro z;cases z)),aZ h2 (eF h2 hp (by intro z;cases z)),?_⟩;cases hb:c.bl with
 | none=>rw[hb]at h3;exact h3
 | some bs=>
  rw[hb]at h3;obtain⟨a,e1,e2⟩:=h3;exact⟨a,e1,aZ e2 (eF e2 hp (by intro z;cases z))⟩
def mq:Ls:=["a","a/b","zz"]
theorem acb:mq.Nodup:=by decide +kernel
theorem acd:∀x∈mq,fY x:=by decide +kernel
def ki(d:Int)(i:Nat):Str:=mq.getD ((d+i) % 3).toNat Str.empty
theorem ace(d:Int)(i:Nat):ki d i∈mq:=by
 have h:((d+i) % 3).toNat<mq.length:=by show _<3;omega
 unfold ki;rw[ly,dg h];exact Ab h
theorem acf{d:Int}{i j:Nat}(re:i<j)(hj:j<3):ki d i≠ki d j:=by
 have h1:((d+i) % 3).toNat<mq.length:=by show _<3;omega
 have h2:((d+j) % 3).toNat<mq.length:=by show _<3;omega
 unfold ki;rw[ly,ly,dg h1,dg h2];intro z;have:=(K6 acb).mp z;omega
theorem acg(d:Int)(i:Nat):aM (mq.map V.str) ((d+i) % 3)=some (.str (ki d i)):=by
 obtain⟨z,h1,h2⟩:=nt (xs:=mq) (r:=(d+i) % 3) (by omega) (by show _<((3:Nat):Int);omega);rw[h1];unfold ki;rw[ly,h2];rfl
structure uV(d:Int)(fs:List (Str×Ls))(i:Nat):Prop where
 len:fs.length=i
 at_:fs.map (·.1)=(List.range i).map (ki d)
theorem ach{d:Int}{fs:List (Str×Ls)}{i:Nat}(h:uV d fs i)(hi:i<=3):(fs.map (·.1)).Nodup:=by
 rw[h.at_];refine List.pairwise_map.mpr ((List.pairwise_lt_range (n:=i)).imp_of_mem fun {a b} ha hb lC=>acf lC ?_);have:=lq.mp hb;omega
theorem aci{d:Int}{fs:List (Str×Ls)}{i:Nat}(h:uV d fs i):∀x∈fs.map (·.1),fY x:=by
 rw[h.at_];intro x hx;obtain⟨j,_,rfl⟩:=cP.mp hx;exact acd _ (ace d j)
theorem acj{d:Int}{fs:List (Str×Ls)}{i:Nat}(h:uV d fs i)(ls:Ls):uV d (fs++[(ki d i,ls)]) (i+1):=
 ⟨by rw[be,h.len];rfl,by rw[eA,h.at_,EN,eA];rfl⟩
def xS:Str:="x"
theorem IP{H:Hp}:∀{ys:Lv}{fs:List (Str×Ls)},Paired (eJ H) ys fs->∀v∈ys,∃a,v=V.ref a
 | _,_,.nil,v,hv=>by cases hv
 | _,_,.cons h r,v,hv=>by
  rcases cE.mp hv with e | e
  . obtain⟨t,l,e',_⟩:=h;exact⟨t,e.trans e'⟩
  . exact IP r v e
theorem IQ{L:List Addr}{H:Hp}{D b:Addr}{x o:HO}(h:msk L H b=some o)(n:b≠D):msk L (al H D x) b=some o:=by
 unfold msk at h ⊢;split at h
 . cases h
 . rename_i hn;rw[ap hn];exact aZ h n
theorem IR{L:List Addr}{H:Hp}{D:Addr}{ys zs:Lv}(hD:H D=some (.lst ys))(hy:∀v∈ys,∃a,v=V.ref a):∀{xs:Lv}{fs:List (Str×Ls)},Paired (eJ (msk L H)) xs fs->(∀f∈fs,f.2=[xS])->Paired (eJ (msk L (al H D (.lst zs)))) xs fs
 | _,_,.nil,_=>.nil
 | _,_,.cons h r,hf=>by
  refine .cons ?_ (IR hD hy r fun f hf'=>hf f (eS _ hf'));obtain⟨t,l,e,h1,h2⟩:=h;refine⟨t,l,e,IQ h1 fun z=>?_,IQ h2 fun z=>?_⟩
  . have:=rH _ _ h1;rw[z,hD]at this;cases this
  . have:=rH _ _ h2;rw[z,hD,hf _ gc]at this;injection this with this
    injection this with this
    obtain⟨a,ea⟩:=hy (.str xS) (by rw[this];exact gc);cases ea
section
variable {P:Program}{w:World}{K:Fg}{mg:Mv}{base:Heap}
def IS:Sp:=fun vs H Q _=>∃(na:Addr) (c at_:Int) (xs:Ls),vs=[.ref na,.int c,.int at_]/\H na=some (.lst (xs.map V.str))/\rF xs/\∀v H' p,af H H'->(∀L,gX H L->kY (msk L H') v p)->Good p->kZ p.ms=at_->p.nm∈xs.take 4->Q v H'
theorem qc:bo [aii,aih,ajB,ajo,"_law_files","_law_needs","_law_shuts","_law_offers",aiC] [aii,aih,ajB] (aO xQ):=bu
theorem acl{f cH qe:Addr}{fd dS uW:Fy}(F:aj K ajh ajh xQ f fd)(B:cj mg)(aT:aj K aiu aiu j8 cH dS)(bg:mg aiu=some (.ref cH))(ou:aj K ai0 ai0 uh qe uW)(r9:mg ai0=some (.ref qe)) :
 ao P w K mg base aq 3 f fd [aii,aih,ajB] IS:=by
 have bD:ao P w K mg base aq 1 cH dS [aih,aip] pL:=rE aT;have bE:=aT.binds2 (l:=[aih,aip]) (fun _ _ _ _ _ _ _ _=>rfl);have IU:ao P w K mg base aq 2 qe uW [aii,aih,aip] IN:=ab5 ou aT bg;have IV:=ou.binds3 (l:=[aii,aih,aip]) (fun _ _ _ _ _ _ _ _ _=>rfl);refine F.okL qc ?_
 . intro aG A outer s H vs Q E hr h xX dX;obtain⟨na,c,at_,xs,rfl,fc,hN,q⟩:=h;have da:=hr.mono (j:=1) (by decide);refine⟨_,(ar (aY (i:=3) qc.nd rfl (Or.inl rfl) (cG (aa (br (aa (pv 2) ac)) (aa (br (aa (aH bC (aI bD da rfl bg aT.kp bE .nil az (aa (pv 1) (aa ae ac))) ae) (aa (pv 2) ac))) (aa (br (aa (aH bC (aI bD da rfl bg aT.kp bE .nil az (aa (pv 1) (aa ae ac))) ae) (aa (pv 2) (aa (aH bC (aI bD da rfl bg aT.kp bE .nil az (aa (pv 1) (aa ae ac))) (aH ON ae ae)) ac)))) ac)))))
    (ar (jY (i:=4) [aip] [aih] [1] qc.nd rfl rfl cC rfl (jN rfl B.range (aa (aH sY (aH bC (aI bD da rfl bg aT.kp bE .nil az (aa (pv 1) (aa ae ac))) ae) ae) ac)) (fun _ _ _ _=>(bi (i:=0) (show List.Nodup ([aip,aih]:Ls) by decide +kernel) rfl (Or.inl rfl))) (fun _ _ _ _=>fz) (fun _ _ _ _=>(br (aa (au (xn K) (cG (aa bh (aa bh (aa bh ac)))) (aH bC (aH du (aI bD da rfl bg aT.kp bE .nil az (aa (pv 1) (aa ae ac))) (pv 0)) ae) (fun _ _=>rfl)) (aa (cG (aa bh ac)) ac)))))
    (ar (jY (i:=5) [aip] [aii,aih] [0,1] qc.nd rfl rfl cC rfl (jN rfl B.range (aa (aH du ae (aH bC (aI bD da rfl bg aT.kp bE .nil az (aa (pv 1) (aa ae ac))) ae)) ac)) (fun _ _ _ _=>(bi (i:=0) (show List.Nodup ([aip,aii,aih]:Ls) by decide +kernel) rfl (Or.inl rfl))) (fun _ _ _ _=>fz) (fun _ _ _ _=>(aI IU hr rfl r9 ou.kp IV .nil az (aa (pv 1) (aa (pv 2) (aa (aH du ae (aH ph ae (pv 0))) ac))))))
    (ar (jY (i:=6) [aip] [aii,aih] [0,1] qc.nd rfl rfl cC rfl (jN rfl B.range (aa (aH bC (aI bD da rfl bg aT.kp bE .nil az (aa (pv 1) (aa ae ac))) ae) ac)) (fun _ _ _ _=>(bi (i:=0) (show List.Nodup ([aip,aii,aih]:Ls) by decide +kernel) rfl (Or.inl rfl))) (fun _ _ _ _=>fz) (fun _ _ _ _=>(aI IU hr rfl r9 ou.kp IV .nil az (aa (pv 1) (aa (pv 2) (aa (aH du ae (aH ph ae (pv 0))) ac))))))
    (ar (aY (i:=7) qc.nd rfl (Or.inl rfl) (pA pD (fA [aip] [aii,aih] [0,1] cC rfl (jN rfl B.range (aa ae ac)) (fun _ _ _ _=>(bi (i:=0) (show List.Nodup ([aip,aii,aih]:Ls) by decide +kernel) rfl (Or.inl rfl))) (fun _ _ _ _=>jp (bd bZ (aH bC (aI bD da rfl bg aT.kp bE .nil az (aa (pv 2) (aa (aH du ae (pv 0)) ac))) ae) ae (aJ _))) (fun _ _ _ _=>(au (xn K) (pv 1) (aH du ae (pv 0)) (fun _ _=>rfl)))) qS (nn ae)))
    (ar (aY (i:=8) qc.nd rfl (Or.inl rfl) (au dh (pv 0) (aH bC (aI bD da rfl bg aT.kp bE .nil az (aa (pv 1) (aa ae ac))) ae) (fun _ _=>rfl)))
    (aF (aN (br (aa (pv 8) (aa (au dh (pv 3) (aH bC (aI bD da rfl bg aT.kp bE .nil az (aa (pv 1) (aa ae ac))) ae) (fun _ _=>rfl)) (aa ae (aa (pv 4) (aa (pv 5) (aa (pv 6) (aa (pv 7) ac)))))))))))))))),?_⟩
   refine Gp ?_
   intros
   refine⟨_,rfl,(by show 1<=sizeLine;decide),fun p1 H1 n1 s1 e1=>?_⟩;refine⟨_,rfl,_,_,rfl,by decide,by decide,fun d1 _=>?_⟩;refine⟨_,_,rfl,rfl,(by show(0:Int)<3;decide),_,rfl,(by show 2<=sizeLine;decide),fun p2 H2 n2 s2 e2=>?_⟩;refine⟨_,rfl,_,_,rfl,by decide,by decide,fun d2 _=>?_⟩;refine⟨_,_,rfl,rfl,(by show(0:Int)<3;decide),_,rfl,_,rfl,_,_,rfl,by decide,by decide,fun d3 _=>?_⟩;refine⟨_,_,rfl,rfl,⟨by decide,by decide,by decide⟩,_,_,rfl,rfl,(by show(0:Int)<10 ^ (9:Int).toNat;decide),(by show 3<=sizeLine;decide),fun p3 H3 n3 s3 e3=>?_⟩;refine⟨(by show 3<=sizeLine;decide),fun p4 H4 n4 s4 e4=>?_⟩;have fF:=((s1.trans s2).trans s3).trans s4;have C2:∀m,m=V.ref p1\/m=V.ref p2\/m=V.ref p3->∃a ms,m=.ref a/\H4 a=some (.tup (ms.map V.int))/\kZ ms=at_:=fun m hm=>by
    rcases hm with rfl | rfl | rfl
    . exact⟨p1,[at_],rfl,((s2.trans s3).trans s4) _ _ e1,rfl⟩
    . exact⟨p2,[_,at_],rfl,(s3.trans s4) _ _ e2,rfl⟩
    . exact⟨p3,[_,at_,_],rfl,s4 _ _ e3,rfl⟩
   refine⟨_,rfl,_,_,rfl,by decide,by decide,fun d4 _=>?_⟩;refine⟨_,_,rfl,rfl,(by show(0:Int)<5;decide),_,_,rfl,rfl,⟨by omega,by omega⟩,d4 % 5 / 2,rfl,by omega,by omega,?_⟩;refine nr (σ0:=[none,some (.int c)]) (fun σ=>∃v,σ=[v,some (.int c)]) (fun i ys H8=>∃fs:List (Str×Ls),(∀L,gX H L->Paired (eJ (msk L H8)) ys fs)/\uV (Hi c 5) fs i/\∀f∈fs,f.2=[xS]) ⟨_,rfl⟩ (fun _ _=>⟨[],fun _ _=>.nil,⟨rfl,rfl⟩,fun f h=>(by cases h)⟩) ?_ ?_
   . intro D i ys σ H8 k hD hi hS hd hs hP hk;refine cL ?_;intro tT;obtain⟨v,rfl⟩:=hS;obtain⟨fs,pf,IW,fx⟩:=hP;have p0:=pf [] fun b hb=>(by cases hb);have IX:=aP p0;have fl:=IW.len;have yr:=IP p0;refine⟨(by show 3<=sizeLine;decide),fun p7 H9 n9 s9 e9=>?_⟩;refine⟨_,rfl,_,_,rfl,by decide,by decide,fun d5 uX=>?_⟩;have hpa:=acg d5 i;refine⟨_,rfl,_,_,rfl,rfl,_,_,rfl,rfl,(by show(0:Int)<3;decide),p7,_,_,_,rfl,rfl,ah.of e9,(by rw[show(0:Int)+(i:Int)=(i:Int) by omega];exact hpa),?_⟩;refine⟨(by show 1<=sizeLine;decide),fun p8 gq on cz fE=>?_⟩;refine⟨(by show 2<=sizeLine;decide),fun p9 qf uY hJ qg=>?_⟩;have C3:=(s9.trans cz).trans hJ;have acn:=C3 _ _ hd;have f8:H p8=none:=fF.free (hs.free (s9.free on));have f9:H p9=none:=fF.free (hs.free ((s9.trans cz).free uY));refine hk _ _ _ ⟨_,rfl⟩ C3 (bq (by omega)) ⟨fs++[(ki d5 i,[xS])],fun L hL=>?_,by rw[uX];exact acj IW _,fun f hf=>?_⟩
     . have nx:Paired (eJ (msk L qf)) (ys++[.ref p9]) (fs++[(ki d5 i,[xS])]):=dJ ⟨p9,p8,rfl,f7 (hL.free f9) qg,f7 (hL.free f8) (hJ _ _ fE)⟩ (aX (pf L hL) fun _ _=>eJ.same (rJ C3));refine IR acn yr nx fun f hf=>?_
       rcases gN.mp hf with z | z
       . exact fx f z
       . rw[gP.mp z]
     . rcases gN.mp hf with z | z
       . exact fx f z
       . rw[gP.mp z]
   . intro fa fx H5 fn l5 s5 hP;obtain⟨fs,iA,hok,_⟩:=hP;have gL:=fF.trans s5;refine⟨_,rfl,_,_,rfl,by decide,by decide,fun d7 _=>?_⟩;refine⟨_,_,rfl,rfl,(by show(0:Int)<2;decide),_,_,rfl,rfl,1+d7 % 2,rfl,by omega,by omega,?_⟩;refine nr (σ0:=[none,some (.ref na),some (.int c)]) (fun σ=>∃v,σ=[v,some (.ref na),some (.int c)]) (fun i ys H8=>∃cs:List eI,Paired (dC H8) ys cs/\cs.length=i) ⟨_,rfl⟩ (fun _ _=>⟨[],.nil,rfl⟩) ?_ ?_
     . intro D i ys σ H8 k hD hi hS hd hs hP hk;refine cL ?_;intro tT;obtain⟨v,rfl⟩:=hS;obtain⟨cs,g9,nw⟩:=hP;have IX:=aP g9;refine⟨_,rfl,_,rfl,_,rfl,_,_,rfl,rfl,.inl ⟨by omega,by omega⟩,_,_,rfl,rfl,na,c,_,xs,rfl,by omega,by omega,(gL.trans hs) _ _ fc,hN,fun v' H9 cl s9 C4=>?_⟩;have uZ:=s9 _ _ hd;exact hk _ _ _ ⟨_,rfl⟩ s9 (bq (by omega)) ⟨cs++[cl],dJ (C4.mut uZ) (aX g9 fun _ _ z=>(z.same s9).mut uZ),by rw[be,nw];rfl⟩
     . intro pn yn H6 pnn nL s6 hP;obtain⟨cn,pX,nw⟩:=hP;have pX:iB H6 pn cn:=⟨yn,nL,pX⟩;have acp:cn.length<=2:=by omega
       have mr:=gL.trans s6;refine⟨_,rfl,_,_,rfl,by decide,by decide,fun d8 _=>?_⟩;refine⟨_,_,rfl,rfl,(by show(0:Int)<3;decide),d8 % 3,rfl,by omega,by omega,?_⟩;refine nr (σ0:=[none,some (.ref na),some (.int c)]) (fun σ=>∃v,σ=[v,some (.ref na),some (.int c)]) (fun i ys H8=>∃cs:List eI,Paired (dC H8) ys cs/\cs.length=i) ⟨_,rfl⟩ (fun _ _=>⟨[],.nil,rfl⟩) ?_ ?_
       . intro D i ys σ H8 k hD hi hS hd hs hP hk;refine cL ?_;intro tT;obtain⟨v,rfl⟩:=hS;obtain⟨cs,g9,nw⟩:=hP;have IX:=aP g9;refine⟨_,rfl,_,rfl,_,rfl,_,_,rfl,rfl,.inl ⟨by omega,by omega⟩,_,_,rfl,rfl,na,c,_,xs,rfl,by omega,by omega,(mr.trans hs) _ _ fc,hN,fun v' H9 cl s9 C4=>?_⟩;have uZ:=s9 _ _ hd;exact hk _ _ _ ⟨_,rfl⟩ s9 (bq (by omega)) ⟨cs++[cl],dJ (C4.mut uZ) (aX g9 fun _ _ z=>(z.same s9).mut uZ),by rw[be,nw];rfl⟩
       . intro ps yp H8 psn a8 s8 hP;obtain⟨cs,g9,ahq⟩:=hP;have g9:iB H8 ps cs:=⟨yp,a8,g9⟩;have acr:cs.length<=2:=by omega
         have IY:=s6.trans s8;have s48:=s5.trans IY;have jz:=mr.trans s8;refine⟨3,rfl,by omega,by omega,?_⟩;refine Gg (σ0:=[none,some (.ref na),some (.int c)]) (fun σ=>∃v,σ=[v,some (.ref na),some (.int c)]) (fun i ys _=>∃os:Ls,ys=os.map V.str/\os.length<=i) ⟨_,rfl⟩ (fun _ _=>⟨[],rfl,aS _⟩) ?_ ?_
         . intro D i ys σ H9 k k' hD hi hS hd hs hP hk hk';refine cL ?_;intro tT;obtain⟨v,rfl⟩:=hS;obtain⟨os,rfl,xD⟩:=hP;have hi3:i<3:=by simpa using hi
           refine⟨_,rfl,_,rfl,_,_,rfl,rfl,_,_,rfl,by omega,by omega,fun d9 _=>?_⟩;refine⟨_,_,rfl,rfl,(by show(0:Int)<3;decide),rfl,_,rfl,?_⟩;refine av (fun h=>?_) (fun h=>?_)
           . obtain⟨z,hz,_⟩:=nt (xs:=xs) (r:=3+(0+(i:Int))) (by omega) (by rw[hN.len];show _<((6:Nat):Int);omega);refine⟨_,rfl,_,rfl,_,_,rfl,rfl,na,_,_,_,rfl,rfl,ah.of ((jz.trans hs) _ _ fc),hz,?_⟩;exact hk _ _ _ ⟨_,rfl⟩ (af.refl _) (bq (by rw[aK];omega)) ⟨os++[z],Gh os z,by rw[be];exact EH xD⟩
           . exact hk' _ _ ⟨_,rfl⟩ (af.refl _) ⟨os,rfl,by omega⟩
         . intro D ys H9 hD hd hs hP;obtain⟨os,rfl,xD⟩:=hP;refine⟨_,rfl,D,_,rfl,ah.of hd,fun jd gq on cz fE=>?_⟩;rw[q8]at fE;have t9:=hs.trans cz;have t4:=s48.trans t9;refine⟨_,rfl,_,rfl,_,_,rfl,by decide,by decide,fun sd _=>?_⟩;obtain⟨z,hz,x0⟩:=nt (xs:=xs) (r:=sd % 4) (by omega) (by rw[hN.len];show _<((6:Nat):Int);omega);refine⟨_,_,rfl,rfl,(by show(0:Int)<4;decide),na,_,_,_,rfl,rfl,ah.of ((jz.trans t9) _ _ fc),hz,?_⟩;refine⟨_,rfl,_,rfl,_,rfl,_,_,rfl,by decide,by decide,fun d11 _=>?_⟩;obtain⟨mv,va,ma,ms,rfl,IZ,acv⟩:=rD (a:=.ref p1) (b:=.ref p2) (c:=.ref p3) d11 (R:=fun m=>∃a ms,m=.ref a/\gq a=some (.tup (ms.map V.int))/\kZ ms=at_) (let ⟨a,ms,e1,e2,e3⟩:=C2 _ (.inl rfl);⟨a,ms,e1,t4 _ _ e2,e3⟩) (let ⟨a,ms,e1,e2,e3⟩:=C2 _ (.inr (.inl rfl));⟨a,ms,e1,t4 _ _ e2,e3⟩) (let ⟨a,ms,e1,e2,e3⟩:=C2 _ (.inr (.inr rfl));⟨a,ms,e1,t4 _ _ e2,e3⟩);refine⟨_,_,rfl,rfl,(by show(0:Int)<3;decide),p4,_,_,_,rfl,rfl,ah.of (t4 _ _ e4),va,_,rfl,_,rfl,_,rfl,_,rfl,(by show 7<=sizeLine;decide),fun oo oq C1 b7 ot=>?_⟩;have se:=t9.trans b7;have vb:=IY.trans se;refine q _ _ ⟨z,ms,0,fs,cn,cs,tM os none (some 2)⟩ ((jz.trans t9).trans b7) (fun L hL=>(have yX:=hL.over ((jz.trans t9).trans b7);⟨oo,ma,fa,pn,ps,jd,fx,rfl,f7 (yX.tup ot) ot,f7 (yX.tup (b7 _ _ IZ)) (b7 _ _ IZ),f7 (hL.free (fF.free fn)) (vb _ _ l5),aX (iA L hL) (fun _ _=>eJ.same (rJ vb)),iB.msk yX (hL.free (gL.free pnn)) (pX.same (s8.trans se)),iB.msk yX (hL.free (mr.free psn)) (g9.same se),f7 (hL.free ((jz.trans hs).free on)) (b7 _ _ fE)⟩)) ⟨⟨acp,acr,?_,ach hok (by omega)⟩,?_,aci hok⟩ acv ?_
           . show fs.length<=3;rw[hok.len];omega
           . exact hN.all z (gO x0)
           . exact gO (i:=(sd % 4).toNat) (by rw[List.getElem?_take,aB (by omega)];exact x0)
end
structure kj(ps:Lp):Prop where
 len:ps.length<=6
 good:∀p∈ps,Good p
 rise:ps.Pairwise fun p q=>kZ p.ms<kZ q.ms
 four:∃ns:Ls,ns.length<=4/\∀p∈ps,p.nm∈ns
 mk0:∀p∈ps,0<=kZ p.ms
 cnt:∀nm,(a9 ps nm).length<=4
def vc(xs:List Int)(lo hi:Option Int):List Int:=(xs.drop (HT.dG xs.length 0 lo)).take (HT.dG xs.length xs.length hi - HT.dG xs.length 0 lo)
theorem acw(xs:List Int)(lo hi:Option Int):lL (xs.map V.int) lo hi=(vc xs lo hi).map V.int:=by
 unfold lL vc;rw[aK,List.map_take,List.map_drop]
theorem acx(xs:List Int):(vc xs (some 4) (some 10)).length<=6:=by
 unfold vc;rw[show(4:Int)=((4:Nat):Int) from rfl,show(10:Int)=((10:Nat):Int) from rfl,HT.AN,HT.AN,eV];omega
theorem I0(ps:Lp)(p:bp)(nm:Str):a9 (ps++[p]) nm=a9 ps nm++(if p.nm=nm then [p.ms] else []):=by
 unfold a9;rw[LY,eA,List.filter_cons,List.filter_nil]
 by_cases e:p.nm=nm
 . rw[aE e,aB e];rfl
 . rw[ba e,ap e];rfl
theorem k4{ps:Lp}{j:Nat}{o:bp}(h:ps[j]?=some o){nm:Str}:a9 (ps.take (j+1)) nm=a9 (ps.take j) nm++(if o.nm=nm then [o.ms] else []):=by
 rw[i6 h,I0]
theorem kj.ok{ps:Lp}(h:kj ps):kP ps:=by
 refine⟨?_,fun p hp e=>?_,h.cnt,by have:=h.len;omega⟩
 . refine List.pairwise_map.mpr (h.rise.imp fun {p q} lt e=>?_);unfold dk at e;injection e with _ e
   injection e with e _
   injection e with e
   have:p.ms=q.ms:=(List.map_inj_right fun a b z=>Sum.inl.inj z).mp e;rw[this]at lt;omega
 . have:=h.mk0 p hp;rw[e]at this;exact absurd this (by decide)
theorem kj.few{ps:Lp}(h:kj ps):∀p∈ps,nC p:=fun p hp=>(h.good p hp).few
theorem acy{ps:Lp}:∀{ys:Ls},ys.Nodup->(ys.map fun y=>(a9 ps y).length).sum<=ps.length:=by
 induction ps with
 | nil=>
  intro ys _;have e:∀ys:Ls,(ys.map fun y=>(a9 [] y).length).sum=0:=fun ys=>by
   induction ys with
   | nil=>rfl
   | cons y ys ih=>rw[dM,EO,ih];rfl
  rw[e ys];exact aS _
 | cons p ps ih=>
  intro ys nd;have e:∀y,(a9 (p::ps) y).length=(a9 ps y).length+if p.nm=y then 1 else 0:=fun y=>by
   unfold a9;rw[List.filter_cons]
   by_cases z:p.nm=y
   . rw[aB (aE z),aB z];rfl
   . rw[ap (by simpa using z),ap z];rfl
  have k:∀{ys:Ls},ys.Nodup->(ys.map fun y=>(a9 (p::ps) y).length).sum<=(ys.map fun y=>(a9 ps y).length).sum+(if p.nm∈ys then 1 else 0):=by
   intro ys
   induction ys with
   | nil=>intro _;exact fQ _
   | cons y ys ih2=>
    intro nd;obtain⟨n1,n2⟩:=m3.mp nd;have:=ih2 n2;rw[dM,dM,EO,EO,e]
    by_cases z:p.nm=y
    . have n3:p.nm∉ys:=z▸n1;rw[ap n3]at this;rw[aB z,aB (by rw[z];exact gc)];omega
    . rw[ap z]
      by_cases m:p.nm∈ys
      . rw[aB m]at this;rw[aB (eS _ m)];omega
      . rw[ap m]at this;rw[ap fun w=>m ((cE.mp w).resolve_left z)];omega
  have a:=k nd;have b:=ih nd;rw[cV];split at a<;>omega
theorem I8{ps:Lp}:∀(ys:Ls) (n:Int),0<=n->ys.foldl (l8 ps) n<=n * 2 ^ (ys.map fun y=>(a9 ps y).length).sum
 | [],n,_=>by simp
 | y::ys,n,hn=>by
  have c:((a9 ps y).length+1:Nat)<=2 ^ (a9 ps y).length:=Nat.lt_two_pow_self;have c':(((a9 ps y).length+1:Nat):Int)<=2 ^ (a9 ps y).length:=by exact_mod_cast c
  have e:l8 ps n y<=n * 2 ^ (a9 ps y).length:=Int.mul_le_mul_of_nonneg_left c' hn;have e0:0<=l8 ps n y:=Int.mul_nonneg hn (Int.natCast_nonneg _);have ih:=I8 (ps:=ps) ys (l8 ps n y) e0;rw[List.foldl_cons,dM,EO,Int.pow_add,←Int.mul_assoc];exact Int.le_trans ih (Int.mul_le_mul_of_nonneg_right e (Int.pow_nonneg (by decide)))
theorem kj.width{ps:Lp}(h:kj ps){ys:Ls}(hN:kQ ps ys):ys.foldl (l8 ps) 1<=400:=by
 have a:=I8 (ps:=ps) ys 1 (by decide);have b:=acy (ps:=ps) hN.nd;have c:=h.len;have d:(2:Int) ^ (ys.map fun y=>(a9 ps y).length).sum<=2 ^ 6:=by
  have:=Nat.pow_le_pow_right (n:=2) (by decide) (show(ys.map fun y=>(a9 ps y).length).sum<=6 by omega);exact_mod_cast this
 have e:(2:Int) ^ 6=64:=rfl;omega
section
variable {P:Program}{w:World}{K:Fg}{mg:Mv}{base:Heap}
def I9(K:Fg):Sp:=fun vs H Q _=>∃(a:Addr) (ns:List Int),vs=[.ref a]/\ah K H a (ns.map V.int)/\∀l H' vs ps,H l=none->af H H'->H' l=some (.lst vs)->gK H' vs ps->kj ps->Q (.ref l) H'
theorem sf:bo [aiD,aii,"_law_cells",ajy,aip,ain] [aiD] (aO xR):=bu
theorem acA{f oz cH oA qe yY:Addr}{fd si dS sj uW C5:Fy}(F:aj K ajf ajf xR f fd)(B:cj mg)(hU:aj K aiO aiO uf oz si)(km:mg aiO=some (.ref oz))(aT:aj K aiu aiu j8 cH dS)(bg:mg aiu=some (.ref cH))
 (k6:aj K aiZ aiZ ug oA sj) (sk:mg aiZ=some (.ref oA)) (ou:aj K ai0 ai0 uh qe uW) (r9:mg ai0=some (.ref qe)) (vd:aj K ajh ajh xQ yY C5) (C6:mg ajh=some (.ref yY)) :
 ao P w K mg base aq 4 f fd [aiD] (I9 K):=by
 have oB:ao P w K mg base aq 1 oz si [aiD,aip] (BI K):=Hh hU B;have oC:=hU.binds2 (l:=[aiD,aip]) (fun _ _ _ _ _ _ _ _=>rfl);have C7:ao P w K mg base aq 2 oA sj [aih] BJ:=Hm k6 B aT bg;have C8:=k6.binds1 (l:=[aih]) (fun _ _ _ _ _ _ _=>rfl);have acB:ao P w K mg base aq 3 yY C5 [aii,aih,ajB] IS:=acl vd B aT bg ou r9;have acC:=vd.binds3 (l:=[aii,aih,ajB]) (fun _ _ _ _ _ _ _ _ _=>rfl);refine F.okL sf ?_
 . intro aG A outer s H vs Q E hr h xX dX;obtain⟨a,ns,rfl,hA,q⟩:=h;have da:=hr.mono (j:=1) (by decide);have k7:=hr.mono (j:=2) (by decide);refine⟨_,(ar (aY (i:=1) sf.nd rfl (Or.inl rfl) (aI C7 k7 rfl sk k6.kp C8 .nil az (aa (aI oB da rfl km hU.kp oC .nil az (aa (pv 0) (aa ae ac))) ac)))
    (ar (aY (i:=2) sf.nd rfl (Or.inl rfl) (pA pD (pv 0) (nn ae) (nn ae)))
    (ar (aY (i:=3) sf.nd rfl (Or.inl rfl) (cG ac))
    (ar (iU jH rfl (jN rfl B.range (aa (b8 dH (by rfl) B.len eE (aa (pv 2) ac)) ac)) (bi (i:=4) sf.nd rfl (Or.inl rfl))
    (ar (aY (i:=5) sf.nd rfl (Or.inr rfl) (aI acB hr rfl C6 vd.kp acC .nil az (aa (pv 1) (aa (au dh (pv 2) (pv 4) (fun _ _=>rfl)) (aa (pv 4) ac)))))
     (aF (bA (bd qR (b8 dH (by rfl) B.len eE (aa (fA [aiE] [ain] [5] cC rfl (cJ (pv 3)) (fun _ _ _ _=>(bi (i:=0) (show List.Nodup ([aiE,ain]:Ls) by decide +kernel) rfl (Or.inl rfl))) (fun _ _ _ _=>jp (bd bZ (au (cK K) (pv 0) ae (fun _ _=>rfl)) (au (cK K) (pv 1) ae (fun _ _=>rfl)) (aJ _))) (fun _ _ _ _=>(pv 0))) ac)) ae (aJ _))
     (aF (qQ (wY wy EQ ER tE (pv 3) (aa (pv 5) ac)))) bw))))
    (aF (aN (pv 3))))))),?_⟩
   refine tO ?_;intro dD sS ya j9 i8 eZ;refine⟨_,rfl,a,_,ns,rfl,by decide,hA,fun c0=>⟨_,rfl,fun l1 H1 xs n1 s1 e1 hN=>?_⟩⟩;refine⟨_,rfl,_,rfl,_,rfl,a,_,rfl,s1.seq hA,fun p2 H2 n2 s2 e2=>?_⟩;rw[acw]at e2;have c6:=acx ns;generalize vc ns (some 4) (some 10)=cs at e2 c6;refine⟨(by show 0<=sizeLine;decide),fun p3 H3 n3 s3 e3=>?_⟩;have b7:=(s1.trans s2).trans s3;have bP:=s1.trans s2;refine⟨_,rfl,p2,_,rfl,.inl (ah.of (s3 _ _ e2)),((cs.map V.int).length:Int),rfl,by omega,by rw[aK];omega,?_⟩;refine Fa (fun i σ H4=>∃(u v:Option V) (vs:Lv) (ps:Lp),σ=[some (.ref a),some (.ref l1),some (.ref p2),some (.ref p3),u,v]/\af H2 H4/\H4 p3=some (.lst vs)/\gK (msk [p3] H4) vs ps/\ps.length<=i/\(∀p∈ps,Good p/\kZ p.ms<i/\p.nm∈xs.take 4/\0<=kZ p.ms)/\(∀nm,(a9 ps nm).length<=4)/\ps.Pairwise fun p q=>kZ p.ms<kZ q.ms) ⟨none,none,[],[],rfl,s3,e3,.nil,aS _,(fun _ h=>nomatch h),(fun _=>fQ _),.nil⟩ ?_ ?_
   . intro i σ H4 hi hQ;refine cL ?_;intro tT;obtain⟨u,v,vs,ps,rfl,s4,e4,h4,pl,pg,pc,pm⟩:=hQ;have ri:i<cs.length:=by
      rw[aK]at hi;omega
     obtain⟨z,hz,_⟩:=F8 (ns:=cs) (r:=0+(i:Int)) (by omega) (by omega);refine⟨_,rfl,_,rfl,_,rfl,p2,_,_,_,rfl,rfl,ah.of (s4 _ _ e2),hz,_,rfl,l1,z,_,xs,rfl,(s2.trans s4) _ _ e1,hN,fun v5 H5 p s5 h5 g5 m5 n5=>?_⟩;have b3:gX H4 [p3]:=fun b hb=>by
      rw[gP.mp hb];exact⟨_,e4,by intro vs z;cases z⟩
     have sn:=h5 [p3] b3;obtain⟨t,m,fa,na,sa,oa,fx,rfl,ht,_⟩:=sn.same rH;refine⟨_,rfl,p3,rfl,⟨_,ah.of (s5 _ _ e4)⟩,?_⟩;intro D hD;have vl:=aP h4;refine ka (σ0:=[none,some (.ref t)]) hD (ah.of (s5 _ _ e4)) (fun σ=>∃v,σ=[v,some (.ref t)]) (fun j zs _=>zs.length<=j/\zs.length=(a9 (ps.take j) p.nm).length) ⟨_,rfl⟩ ⟨aS _,rfl⟩ ?_ ?_
     . rintro j y zs σ H6 k k' hy ⟨v,rfl⟩ C9 h6 ⟨zl,zc⟩ cQ ff;obtain⟨o,ho,hE⟩:=bO h4 hy;have aR:=(bW.mp ho).1;obtain⟨t',m',fa',oE,sa',oa',fx',rfl,BQ,_⟩:=hE.same rH;refine⟨_,rfl,t',_,_,_,rfl,rfl,ak.of (h6 _ _ (s5 _ _ BQ)),rfl,_,rfl,t,_,_,_,rfl,rfl,ak.of (h6 _ _ ht),rfl,rfl,_,rfl,?_⟩;refine av (fun h=>?_) (fun h=>?_)
       . exact⟨_,rfl,cQ _ _ _ ⟨_,rfl⟩ (af.refl _) (bq (by omega)) ⟨by rw[be,jE];omega,by rw[k4 ho,aB (by have z:=aL h;injection z),be,be,zc];rfl⟩⟩
       . exact ff _ _ ⟨_,rfl⟩ (af.refl _) ⟨by omega,by rw[k4 ho,ap (fun z=>h (by rw[z];exact aE rfl)),fL,zc]⟩
     . rintro zs H6 C9 h6 ⟨zl,zc⟩;rw[ww (by omega)]at zc;refine⟨D,_,rfl,.inl (ah.of C9),_,_,rfl,rfl,_,rfl,?_⟩;have ve:=s5.trans h6;have e6:=ve _ _ e4;refine av (fun h=>?_) (fun h=>?_)
       . refine⟨_,rfl,.inl ⟨rfl,_,ah.of e6⟩,_,rfl,p3,_,_,rfl,rfl,e6,bq (by omega),?_⟩;refine⟨_,_,_,ps++[p],rfl,nW n3 (s4.trans ve),bf,?_,by rw[be];exact EH pl,fun p' cq=>?_,fun nm=>?_,?_⟩
         . rw[HC gc];exact dJ (sn.same (rJ h6)) (h4.same (rJ ve))
         . rcases gN.mp cq with z | z
           . obtain⟨a1,a2,a3⟩:=pg p' z;exact⟨a1,by omega,a3⟩
           . rw[gP.mp z];exact⟨g5,by rw[m5];omega,n5,by rw[m5];omega⟩
         . rw[I0]
           by_cases e:p.nm=nm
           . have h':((zs.length:Nat):Int)<4:=aL h;rw[aB e,be,←e,←zc];show zs.length+1<=4;omega
           . rw[ap e,fL];exact pc nm
         . refine List.pairwise_append.mpr ⟨pm,EJ _ _,fun p' cq q hq=>?_⟩;rw[gP.mp hq,m5];have:=(pg p' cq).2.1;omega
       . refine⟨_,_,vs,ps,rfl,s4.trans ve,e6,h4.same (rJ ve),by omega,fun p' cq=>?_,pc,pm⟩;obtain⟨a1,a2,a3⟩:=pg p' cq;exact⟨a1,by omega,a3⟩
   . intro σ H4 hQ;obtain⟨u,v,vs,ps,rfl,s4,e4,h4,pl,pg,pc,pm⟩:=hQ;refine⟨_,rfl,q p3 H4 vs ps (bP.free n3) (bP.trans s4) e4 (h4.same rH) ⟨?_,fun p hp=>(pg p hp).1,pm,⟨xs.take 4,by rw[eV];omega,fun p hp=>(pg p hp).2.2.1⟩,fun p hp=>(pg p hp).2.2.2,pc⟩⟩;have:ps.length<=cs.length:=by
      refine eU pl ?_;rw[aK];omega
     omega
def Ja(C:Addr):Sp:=fun vs H Q _=>∃(v:V) (p:bp),vs=[v]/\kY H v p/\p.fs.length<=9/\∀x H',H x=none->af H H'->(∀L,gX H L->f6 C (msk L H') (.ref x) p)->Q (.ref x) H'
theorem acD:bo [ain] [ain] (aO xT):=bu
theorem acE{f qh C:Addr}{fd vf:Fy}(F:aj K ajp ajp xT f fd)(B:cj mg)(T:Txt K mg C)(M:Mk K C qh)(yZ:aj K "__init__" "Parcel.__init__" nG qh vf):ao P w K mg base aq 3 f fd [ain] (Ja C):=by
 have acF:ao P w K mg base aq 1 qh vf [aio,aik,ait,aiI,aiH,aiN,ai1,aji] (BP K C):=aar yZ T B.list;have acG:=yZ.binds8 (l:=[aio,aik,ait,aiI,aiH,aiN,ai1,aji]) (fun _ _ _ _ _ _ _ _ _ _ _ _ _ _=>rfl);refine F.okL acD ?_
 . intro aG A outer s H vs Q E hr h xX dX;obtain⟨v,p,rfl,⟨t,m,fa,na,sa,oa,fx,rfl,h1,h2,h3,h4,⟨nx,h5,sn⟩,⟨sx,h6,Db⟩,h7⟩,h9,q⟩:=h;refine⟨_,(aF (aN (wV M acF hr rfl T.mgC acG .nil az (aa (au aQ (pv 0) ae (fun _ _=>rfl)) (aa (au aQ (pv 0) ae (fun _ _=>rfl)) (aa (au aQ (pv 0) ae (fun _ _=>rfl)) (aa (fT pE (by rfl) B.list lA (aa (au aQ (pv 0) ae (fun _ _=>rfl)) ac)) (aa (fT pE (by rfl) B.list lA (aa (au aQ (pv 0) ae (fun _ _=>rfl)) ac)) (aa (fT pE (by rfl) B.list lA (aa (au aQ (pv 0) ae (fun _ _=>rfl)) ac)) (aa (fT pE (by rfl) B.list lA (aa (au aQ (pv 0) ae (fun _ _=>rfl)) ac)) ac)))))))))),?_⟩;have a0:aM [V.str p.nm,.ref m,.int p.rk,.ref fa,.ref na,.ref sa,.ref oa] 0=some (V.str p.nm):=rfl;have a1:aM [V.str p.nm,.ref m,.int p.rk,.ref fa,.ref na,.ref sa,.ref oa] 1=some (V.ref m):=rfl;have a2:aM [V.str p.nm,.ref m,.int p.rk,.ref fa,.ref na,.ref sa,.ref oa] 2=some (V.int p.rk):=rfl;have a3:aM [V.str p.nm,.ref m,.int p.rk,.ref fa,.ref na,.ref sa,.ref oa] 3=some (V.ref fa):=rfl;have a4:aM [V.str p.nm,.ref m,.int p.rk,.ref fa,.ref na,.ref sa,.ref oa] 4=some (V.ref na):=rfl;have a5:aM [V.str p.nm,.ref m,.int p.rk,.ref fa,.ref na,.ref sa,.ref oa] 5=some (V.ref sa):=rfl;have a6:aM [V.str p.nm,.ref m,.int p.rk,.ref fa,.ref na,.ref sa,.ref oa] 6=some (V.ref oa):=rfl;refine⟨_,rfl,t,_,_,_,rfl,rfl,ak.of h1,a0,_,rfl,t,_,_,_,rfl,rfl,ak.of h1,a1,_,rfl,t,_,_,_,rfl,rfl,ak.of h1,a2,_,rfl,t,_,_,_,rfl,rfl,ak.of h1,a3,fa,_,rfl,.inl (ah.of h3),fun p1 H1 n1 s1 e1=>?_⟩;refine⟨_,rfl,t,_,_,_,rfl,rfl,ak.of (s1 _ _ h1),a4,na,_,rfl,.inl (ah.of (s1 _ _ h5)),fun p2 H2 n2 s2 e2=>?_⟩;have bP:=s1.trans s2;refine⟨_,rfl,t,_,_,_,rfl,rfl,ak.of (bP _ _ h1),a5,sa,_,rfl,.inl (ah.of (bP _ _ h6)),fun p3 H3 n3 s3 e3=>?_⟩;have b7:=bP.trans s3;refine⟨_,rfl,t,_,_,_,rfl,rfl,ak.of (b7 _ _ h1),a6,oa,_,rfl,.inl (ah.of (b7 _ _ h7)),fun p4 H4 n4 s4 e4=>?_⟩;have fF:=b7.trans s4;have dW:=(s2.trans s3).trans s4;refine aaA (p:=p) (fF _ _ h2) (dW _ _ e1) (aX h4 fun _ _=>eJ.same fF) ((s3.trans s4) _ _ e2) (aX sn fun _ _=>dC.same fF) (s4 _ _ e3) (aX Db fun _ _=>dC.same fF) e4 (by omega) fun x H5 n5 s5 hp=>?_;exact q x H5 (fF.free n5) (fF.trans s5) fun L hL=>hp L (hL.over fF)
end
end K43
namespace L2
open PySem PySem.Spec
section
variable {X:Cx}
def acH(K:Fg):R2:=fun x y H Q=>∃d e,DV K H x d/\DV K H y e/\PySem.W.kqdOk 9 d=true/\PySem.W.kqdOk 9 e=true/\∀b:Bool,(b=true↔d=e)->Q (.bl b) H
theorem Dd(K:Fg)(hu:X.A.units+64<cLine)(h:X.K=K:=by rfl):bI X (compareOp .Eq) (acH K):=h▸Ba hu
end
end L2
namespace K43
open PySem L2 PySem.Spec PyProof.Rows
open HT (At)
seal PE PS c7 PA PT PW PG ip PI gB
section
variable {P:Program}{w:World}{K:Fg}{mg:Mv}{base:Heap}
def Jb:Sp:=fun vs H Q _=>∃(cv ov:V) (c:eI) (p:bp),vs=[cv,ov]/\dC H cv c/\kY H ov p/\∀H',af H H'->Q (.bl (dj c p)) H'
theorem y0:bo [ai5,ain,aiC,"_law_least","_law_below"] [ai5,ain] (aO kL):=bu
theorem acI{f:Addr}{fd:Fy}(F:aj K aiv aiv kL f fd):ao P w K mg base aq 1 f fd [ai5,ain] Jb:=by
 refine F.okL y0 ?_
 . intro aG A outer s H vs Q E hr h xX dX;obtain⟨cv,ov,cl,p,rfl,⟨c,l,b,rfl,c1,c2,c3⟩,⟨t,m,fa,na,sa,oa,fx,rfl,h1,h2,h3,h4,h5,h6,h7⟩,q⟩:=h;have hu:=hr.units;have dN:=hr.units0;refine⟨_,(ar (NP (pv 0) (sW rfl (ft (bi (i:=2) y0.nd rfl (Or.inl rfl)) (ft (bi (i:=3) y0.nd rfl (Or.inl rfl)) (ft (bi (i:=4) y0.nd rfl (Or.inl rfl)) lH)))))
    (Bb (fun σ H2=>σ=[some (.ref c),some (.ref t),some (.str cl.nm),some (.ref l),some b]/\H2=H/\(decide (cl.nm=p.nm) && (!HT.lexLt p.ms cl.ls && nB p.ms cl.bl))=false)
    (bA (PW.pt (sU (bd bZ (au aQ (pv 1) ae (fun _ _=>rfl)) (pv 2) (aJ _)) (sU (bd (Zc dN) (pv 3) (au aQ (pv 1) ae (fun _ _=>rfl)) (aJ _)) (wJ (PW.pt (gS (bd iq (pv 4) cI (aJ _)) (jJ (bd (AO dN) (au aQ (pv 1) ae (fun _ _=>rfl)) (pv 4) (aJ _)))))))))
    (aF (aN dr)) bw)
    (aF (aN (eW (cB qW (pv 2) (au aQ (pv 1) ae (fun _ _=>rfl)) (by rfl)) (eW (cB (Ba hu) (pv 3) (br ac) (aJ _)) (fq (cB iq (pv 4) cI (aJ _))))))))),?_⟩
   have a0:aM [V.str p.nm,.ref m,.int p.rk,.ref fa,.ref na,.ref sa,.ref oa] 0=some (V.str p.nm):=rfl;have a1:aM [V.str p.nm,.ref m,.int p.rk,.ref fa,.ref na,.ref sa,.ref oa] 1=some (V.ref m):=rfl;have a6:aM [V.str p.nm,.ref m,.int p.rk,.ref fa,.ref na,.ref sa,.ref oa] 6=some (V.ref oa):=rfl;refine⟨_,rfl,c,_,rfl,ak.of c1,rfl,_,_,rfl,_,_,rfl,_,_,rfl,rfl,?_⟩;refine⟨?_,?_⟩
   . refine⟨_,rfl,t,_,_,_,rfl,rfl,ak.of h1,a0,_,rfl,rfl,_,rfl,?_⟩;refine av (fun hq=>?_) (fun hq=>?_)
     . have e1:p.nm=cl.nm:=by
        have:=aL hq;injection this
       refine⟨_,rfl,_,rfl,t,_,_,_,rfl,rfl,ak.of h1,a1,l,m,cl.ls,p.ms,rfl,rfl,ak.of c2,ak.of h2,_,rfl,?_⟩;refine av (fun gE=>?_) (fun gE=>?_)
       . refine⟨_,rfl,rfl,_,rfl,?_⟩;cases i9:cl.bl with
         | none=>
          rw[i9]at c3;have c3:b=.non:=c3;subst c3;refine dA (dA ?_);have e:dj cl p=true:=by unfold dj;rw[gE,aE e1.symm,i9];rfl
          rw[e]at q;exact q _ (af.refl H)
         | some bs=>
          rw[i9]at c3;obtain⟨d,rfl,hd⟩:=c3;refine c8 ?_;refine⟨_,rfl,t,_,_,_,rfl,rfl,ak.of h1,a1,_,rfl,m,d,p.ms,bs,rfl,rfl,ak.of h2,ak.of hd,_,rfl,?_⟩;refine av (fun Dg=>?_) (fun Dg=>?_)
          . have e:dj cl p=true:=by unfold dj;rw[gE,aE e1.symm,i9,show nB p.ms (some bs)=HT.lexLt p.ms bs from rfl,Dg];rfl
            rw[e]at q;exact q _ (af.refl H)
          . exact⟨rfl,rfl,by rw[show nB p.ms (some bs)=HT.lexLt p.ms bs from rfl,jj.mpr Dg,m4,m4]⟩
       . exact⟨rfl,rfl,by rw[jj.mpr gE,cU,m4]⟩
     . refine⟨rfl,rfl,?_⟩;have:cl.nm≠p.nm:=fun e=>hq (by rw[e];exact aE rfl);rw[ba this,cU]
   . rintro σ' H' ⟨rfl,rfl,hN⟩;unfold dj at q;rw[hN,zW]at q;refine⟨_,rfl,_,rfl,t,_,_,_,rfl,rfl,ak.of h1,a6,oa,_,rfl,.inl (ah.of h7),rfl,pR _,_,rfl,av (fun hq=>?_) (fun hq=>?_)⟩
     . have gf:jS (.str cl.nm) (p.os.map V.str)=true:=hq;rw[gf,eu]at q;refine⟨_,rfl,(by show 0<=sizeLine;decide),fun t1 H1 n1 s1 e1=>?_⟩;refine⟨dI cl.ls,dI [],yj (s1 _ _ c2),yj e1,uu 8 _,uu 8 _,fun b1 uw=>⟨b1,rfl,av (fun gE=>?_) (fun gE=>?_)⟩⟩
       . rw[yk uw]at gE;rw[gE,eu]at q;refine⟨_,rfl,rfl,?_⟩;cases i9:cl.bl with
         | none=>
          rw[i9]at c3 q;have c3:b=.non:=c3;subst c3;exact q _ s1
         | some bs=>
          rw[i9]at c3 q;obtain⟨d,rfl,_⟩:=c3;exact q _ s1
       . have e:=yk uw;rw[jj.mpr gE]at e;rw[←e,cU]at q;exact q _ s1
     . have gf:jS (.str cl.nm) (p.os.map V.str)=false:=jj.mpr hq;rw[gf,cU]at q;exact q _ (af.refl _)
end
end K43
namespace L2
open PySem PySem.Spec PyProof.Rows
section
variable {X:Cx}
def acJ(K:Fg):R2:=fun x y H Q=>∃a b xs,x=.ref a/\y=.ref b/\ah K H a xs/\ah K H b []/\Q (.bl (decide (xs.length≠0))) H
theorem Jc(hu:X.A.units<cLine):bI X (compareOp .NotEq) (acJ X.K):=by
 intro pins s σ H x y v u Q I rx ry h;obtain⟨a,b,xs,rfl,rfl,ha,hb,q⟩:=h;cases rx;cases ry;obtain⟨its,rv,pl,_⟩:=I.list ha;obtain⟨jm,kJ,nA,_⟩:=I.list hb;cases kJ;have hl:=xu rv
 by_cases h0:xs.length=0
 . rw[ba (fun z=>z h0)]at q;have hz:its.toArray.size=([]:Lw).toArray.size:=by show its.length=0;omega
   refine SeqAt.RcNeAt.lists (e:=fun _=>true) pl.isList nA.isList hz hu (fun j h1 h2=>absurd h2 (by simp)) _ _ _ _ ?_;have:(!(List.range its.toArray.size).all (fun _=>true))=false:=by simp
   rw[this];exact⟨.bl false,H,I,rfl,q⟩
 . rw[aE h0]at q;exact SeqAt.RcNeAt.lists_lengths pl.isList nA.isList (by show(its.length != 0)=true;exact bne_iff_ne.mpr (by omega)) hu _ _ _ _ ⟨.bl true,H,I,rfl,q⟩
end
end L2
namespace K43
open PySem L2 PySem.Spec PyProof.Rows
open HT (At)
seal PE PS c7 PA PT PW PG ip PI gB
section
variable {P:Program}{w:World}{K:Fg}{mg:Mv}{base:Heap}
def acK(H:Hp)(v:V):Option bp->Prop
 | none=>v=.non
 | some p=>kY H v p
theorem acL{ps:Lp}{de:Dec}{x:Str}:(ps.filter fun p=>decide (p.nm=x) && decide (bK de x=some p.ms)).head?=bM ps de x:=by
 rw[List.head?_filter];unfold bM;cases hz:bK de x with
 | none=>
  rw[L1];intro p _;simp
 | some m=>
  dsimp only
  congr 1
  funext p
  congr 1
  exact EB.mpr ⟨fun z=>(gu z).symm,fun z=>by rw[z]⟩
def Jd:Sp:=fun vs H Q _=>∃(a d:Addr) (x:Str) (xs:Lv) (ps:Lp) (de:Dec),vs=[.ref a,.ref d,.str x]/\H a=some (.lst xs)/\gK H xs ps/\ps.length<=9/\dm H d de/\∀v H',af H H'->acK H' v (bM ps de x)->Q v H'
theorem Je:bo [aif,aig,aiC,ajq] [aif,aig,aiC] (aO kM):=bu
theorem acM{f:Addr}{fd:Fy}(F:aj K aiB aiB kM f fd):ao P w K mg base aq 1 f fd [aif,aig,aiC] Jd:=by
 refine F.okL Je ?_
 . intro aG A outer s H vs Q E hr h xX dX;obtain⟨a,d,x,xs,ps,de,rfl,ha,a8,l9,⟨ab,hd,pr⟩,q⟩:=h;have hu:=hr.units;have dN:=hr.units0;have xl:=aP a8;refine⟨_,(ar (jY (i:=3) [ain] [aiC,aig] [2,1] Je.nd rfl rfl cC rfl (cJ (pv 0)) (fun _ _ _ _=>(bi (i:=0) (show List.Nodup ([ain,aiC,aig]:Ls) by decide +kernel) rfl (Or.inl rfl))) (fun _ _ _ _=>jp (PW.pt (sU (bd bZ (au (cK K) (pv 0) ae (fun _ _=>rfl)) (pv 1) (aJ _)) (wJ (bd (Dd K hu) (tF hu (pv 2) (pv 1) ⟨rfl,rfl,rfl,rfl⟩) (au (cK K) (pv 0) ae (fun _ _=>rfl)) (aJ _)))))) (fun _ _ _ _=>(pv 0)))
    (ar (bA (bd (xF dN) (pv 3) (cG ac) (aJ _))
    (aF (aN cI)) bw)
    (aF (aN (au dh (pv 3) ae (fun _ _=>rfl)))))),?_⟩
   refine nu ?_
   intros
   refine⟨_,rfl,a,rfl,⟨_,ah.of ha⟩,?_⟩;intro D hD;refine ka (σ0:=[none,some (.str x),some (.ref d)]) hD (ah.of ha) (fun σ=>∃v,σ=[v,some (.str x),some (.ref d)]) (fun j zs _=>zs.length<=j/\gK H zs ((ps.take j).filter fun p=>decide (p.nm=x) && decide (bK de x=some p.ms))) ⟨_,rfl⟩ ⟨aS _,.nil⟩ ?_ ?_
   . rintro j y zs σ H3 k k' hy ⟨v,rfl⟩ pS h3 ⟨zl,zp⟩ cQ ff;obtain⟨p,hp,hE⟩:=bO a8 hy;obtain⟨t,m,fa,na,sa,oa,fx,rfl,h1,h2,_⟩:=id hE;have aR:=(bW.mp hp).1;have a0:aM [V.str p.nm,.ref m,.int p.rk,.ref fa,.ref na,.ref sa,.ref oa] 0=some (V.str p.nm):=rfl;have a1:aM [V.str p.nm,.ref m,.int p.rk,.ref fa,.ref na,.ref sa,.ref oa] 1=some (V.ref m):=rfl;have fs:=uc (f:=fun p:bp=>decide (p.nm=x) && decide (bK de x=some p.ms)) hp;refine⟨_,rfl,t,_,_,_,rfl,rfl,ak.of (h3 _ _ h1),a0,_,rfl,rfl,_,rfl,?_⟩;refine av (fun h=>?_) (fun h=>?_)
     . have en:p.nm=x:=by have z:=aL h;injection z
       obtain⟨d1,o1⟩:=rO (K:=K) ((yz (x:=x) pr).same h3);obtain⟨d2,o2⟩:=rO (K:=K) (show ce H3 (.ref m) (some p.ms) from ⟨m,rfl,h3 _ _ h2⟩);refine⟨_,rfl,d,rfl,.inl ⟨_,.inl (h3 _ _ hd)⟩,_,rfl,_,cw.k (k:=.inr x) (h3 _ _ hd),_,rfl,t,_,_,_,rfl,rfl,ak.of (h3 _ _ h1),a1,_,_,d1,d2,o1,o2,fun bb hb=>⟨_,rfl,?_⟩⟩;refine av (fun h=>?_) (fun h=>?_)
       . have mw:(decide (p.nm=x) && decide (bK de x=some p.ms))=true:=by rw[aE en,aE (Ca (hb.mp h))];rfl
         refine⟨_,rfl,cQ _ _ _ ⟨_,rfl⟩ (af.refl _) (bq (by omega)) ⟨by rw[be,jE];omega,?_⟩⟩;rw[fs,aB mw];exact dJ hE zp
       . have mw:¬(decide (p.nm=x) && decide (bK de x=some p.ms))=true:=fun z=>h (hb.mpr (by rw[aL (gw.mp z).2]));refine ff _ _ ⟨_,rfl⟩ (af.refl _) ⟨by omega,?_⟩;rw[fs,ap mw,fL];exact zp
     . have mw:¬(decide (p.nm=x) && decide (bK de x=some p.ms))=true:=fun z=>h (aE (by rw[aL (gw.mp z).1]));refine c8 (ff _ _ ⟨_,rfl⟩ (af.refl _) ⟨by omega,?_⟩);rw[fs,ap mw,fL];exact zp
   rintro zs H0 d0 s0 ⟨zl,iH⟩;rw[xl,eB]at iH;have pf:=acL (ps:=ps) (de:=de) (x:=x);generalize (ps.filter fun p=>decide (p.nm=x) && decide (bK de x=some p.ms))=qs at iH pf;refine⟨_,rfl,(by show 0<=sizeLine;decide),fun p1 H1 n1 s1 e1=>?_⟩;refine⟨D,p1,_,rfl,rfl,ah.of (s1 _ _ d0),ah.of e1,_,rfl,?_⟩;have kn:=s0.trans s1;cases iH with
   | nil=>
    refine av (fun _=>?_) (fun h=>absurd (aE rfl) h);exact q _ H1 kn (by rw[←pf];exact rfl)
   | @cons y p cZ qs' r t=>
    refine av (fun h=>absurd (aL h) (by simp)) (fun _=>?_);exact⟨_,rfl,D,_,_,_,rfl,rfl,ah.of (s1 _ _ d0),bT (j:=0) rfl,q _ H1 kn (by rw[←pf];exact kY.same kn r)⟩
theorem Jf{ps:Lp}{de:Dec}(ok:c9 ps de){x:Str}(h:(a9 ps x).length=0):bK de x=none:=by
 cases hz:bK de x with
 | none=>rfl
 | some m=>
  obtain⟨p,hp,e1,e2⟩:=ok x m (yA hz);have:m∈a9 ps x:=cP.mpr ⟨p,iQ.mpr ⟨hp,aE e1⟩,e2⟩;rw[wo.mp h]at this;cases this
def Jg:Sp:=fun vs H Q _=>∃(a d:Addr) (wv:V) (xs:Lv) (ps:Lp) (w:cO) (de:Dec),vs=[.ref a,wv,.ref d]/\H a=some (.lst xs)/\gK H xs ps/\ps.length<=9/\cR H wv w/\dm H d de/\c9 ps de/\∀H',af H H'->Q (.bl (gZ ps de w.nm && !l7 w (bK de w.nm))) H'
theorem y6:bo [aif,aiP,aig,"_law_known",ajo] [aif,aiP,aig] (aO kN):=bu
theorem acN{f:Addr}{fd:Fy}(F:aj K aiq aiq kN f fd):ao P w K mg base aq 1 f fd [aif,aiP,aig] Jg:=by
 refine F.okL y6 ?_
 . intro aG A outer s H vs Q E hr h xX dX;obtain⟨a,d,wv,xs,ps,wi,de,rfl,ha,a8,l9,hW,⟨ab,hd,pr⟩,bU,q⟩:=h;have hu:=hr.units;have dN:=hr.units0;have xl:=aP a8;obtain⟨t,us,e,ht,h1⟩:=hW.nm;subst e;have eN:aM us 1=some (.str wi.nm):=bT (j:=1) h1;refine⟨_,(ar (jY (i:=3) [ain] [aiP] [1] y6.nd rfl rfl cC rfl (cJ (pv 0)) (fun _ _ _ _=>(bi (i:=0) (show List.Nodup ([ain,aiP]:Ls) by decide +kernel) rfl (Or.inl rfl))) (fun _ _ _ _=>jp (bd bZ (au (cK K) (pv 0) ae (fun _ _=>rfl)) (au (cK K) (pv 1) ae (fun _ _=>rfl)) (aJ _))) (fun _ _ _ _=>(au (cK K) (pv 0) ae (fun _ _=>rfl))))
    (ar (aY (i:=4) y6.nd rfl (Or.inl rfl) cI)
    (ar (bA (bd (Jc dN) (pv 3) (cG ac) (aJ _))
    (ar (bA (Am (FV hu (au aQ (pv 1) ae (fun _ _=>rfl)) (pv 2)) (by rfl))
     (aF (aN dr)) bw)
     (aF (aY (i:=4) y6.nd rfl (Or.inl rfl) (xa hu (pv 2) (au aQ (pv 1) ae (fun _ _=>rfl)) (fun _ _=>rfl))))) bw)
    (ar (bA (bd bZ (au aQ (pv 1) ae (fun _ _=>rfl)) bh (aJ _))
    (aF (aN (cB wS (pv 4) cI (aJ _)))) bw)
    (aF (aN (wK (cB iq (pv 4) cI (aJ _)) (wK (cB (AO dN) (pv 4) (au aQ (pv 1) ae (fun _ _=>rfl)) (aJ _)) (fq (eW (cB wS (au aQ (pv 1) ae (fun _ _=>rfl)) cI (aJ _)) (fq (cB (F6 dN) (pv 4) (au aQ (pv 1) ae (fun _ _=>rfl)) (aJ _))))))))))))),?_⟩
   refine tO ?_;intro dD sS ya j9 i8 eZ;refine⟨_,rfl,a,rfl,⟨_,ah.of ha⟩,?_⟩;intro D hD;refine ka (σ0:=[none,some (.ref t)]) hD (ah.of ha) (fun σ=>∃v,σ=[v,some (.ref t)]) (fun j zs _=>zs.length=(a9 (ps.take j) wi.nm).length) ⟨_,rfl⟩ rfl ?_ ?_
   . rintro j y zs σ H3 k k' hy ⟨v,rfl⟩ pS h3 zl cQ ff;obtain⟨p,hp,hE⟩:=bO a8 hy;obtain⟨tp,m,fa,na,sa,oa,fx,rfl,g1,g2,_⟩:=id hE;have aR:=(bW.mp hp).1;have a0:aM [V.str p.nm,.ref m,.int p.rk,.ref fa,.ref na,.ref sa,.ref oa] 0=some (V.str p.nm):=rfl;have a1:aM [V.str p.nm,.ref m,.int p.rk,.ref fa,.ref na,.ref sa,.ref oa] 1=some (V.ref m):=rfl;have ml:(a9 (ps.take j) wi.nm).length<=9:=by
      unfold a9;rw[aK];exact eU (L6 _ _) (by rw[eV];omega)
     refine⟨_,rfl,tp,_,_,_,rfl,rfl,ak.of (h3 _ _ g1),a0,_,rfl,t,_,_,_,rfl,rfl,ak.of (h3 _ _ ht),eN,rfl,_,rfl,?_⟩;refine av (fun h=>?_) (fun h=>?_)
     . have en:p.nm=wi.nm:=by have z:=aL h;injection z
       exact⟨_,rfl,tp,_,_,_,rfl,rfl,ak.of (h3 _ _ g1),a1,cQ _ _ _ ⟨_,rfl⟩ (af.refl _) (bq (by omega)) (by rw[be,zl,k4 hp,aB en,be];rfl)⟩
     . have en:p.nm≠wi.nm:=fun z=>h (by rw[z];exact aE rfl);exact ff _ _ ⟨_,rfl⟩ (af.refl _) (by rw[zl,k4 hp,ap en,fL])
   rintro zs H0 d0 s0 zl;rw[xl,eB]at zl;have fin:∀(mv:V) (mk:Oi) (Hx:Hp),af H Hx->ce Hx mv mk->(gZ ps de wi.nm && !l7 wi (bK de wi.nm)) = !l7 wi mk->j9 dD [some (.ref a),some (.ref t),some (.ref d),some (.ref D),some mv] Hx:=by
    intro mv mk Hx sx hB ev;rw[ev]at q;have q:=fun H' s'=>q H' (sx.trans s');obtain⟨t',e',j4⟩:=hW.same sx;cases e';obtain⟨nm,io⟩:=wi;cases io with
    | none=>
     have j4:Hx t=some (.tup [.str "out",.str nm]):=j4;refine⟨_,rfl,t,_,_,_,rfl,rfl,ak.of j4,rfl,rfl,_,rfl,?_⟩;refine av (fun h=>?_) (fun h=>absurd (aE rfl) h);refine⟨_,rfl,rfl,?_⟩;cases mk with
     | none=>
      have hB:mv=.non:=hB;subst hB;exact q Hx (af.refl _)
     | some m=>
      obtain⟨am,rfl,_⟩:=hB;exact q Hx (af.refl _)
    | some cc=>
     obtain⟨l,b,i1,i2,i3⟩:=j4;refine⟨_,rfl,t,_,_,_,rfl,rfl,ak.of i1,rfl,rfl,_,rfl,?_⟩;refine av (fun h=>absurd (aL h) HX) (fun h=>?_);cases mk with
     | none=>
      have hB:mv=.non:=hB;subst hB;exact⟨_,rfl,rfl,_,rfl,dA (q Hx (af.refl _))⟩
     | some m=>
      obtain⟨am,rfl,hm⟩:=hB;have a2:aM [V.str "in",.str nm,.ref l,b] 2=some (V.ref l):=rfl;have a3:aM [V.str "in",.str nm,.ref l,b] 3=some b:=rfl;have q:Q (.bl (!(!HT.lexLt m cc.1 && nB m cc.2))) Hx:=q Hx (af.refl _);refine⟨_,rfl,rfl,_,rfl,c8 ?_⟩;refine⟨_,rfl,_,rfl,t,_,_,_,rfl,rfl,ak.of i1,a2,am,l,m,cc.1,rfl,rfl,ak.of hm,ak.of i2,_,rfl,?_⟩;refine av (fun h2=>?_) (fun h2=>?_)
      . rw[h2]at q;exact q
      . rw[jj.mpr h2,Bool.not_false,eu]at q;refine⟨_,rfl,t,_,_,_,rfl,rfl,ak.of i1,a3,rfl,_,rfl,?_⟩;cases i9:cc.2 with
        | none=>
         rw[i9]at i3 q;have i3:b=.non:=i3;subst i3;exact c8 q
        | some bs=>
         rw[i9]at i3 q;obtain⟨db,rfl,iT⟩:=i3;refine dA ?_;exact⟨_,rfl,_,rfl,t,_,_,_,rfl,rfl,ak.of i1,a3,am,db,m,bs,rfl,rfl,ak.of hm,ak.of iT,q⟩
   refine⟨_,rfl,(by show 0<=sizeLine;decide),fun p1 H1 n1 s1 e1=>?_⟩;refine⟨D,p1,_,rfl,rfl,ah.of (s1 _ _ d0),ah.of e1,_,rfl,?_⟩;have kn:=s0.trans s1;have Jh:=kn _ _ hd;refine av (fun h=>?_) (fun h=>?_)
   . have mne:¬(a9 ps wi.nm).length=0:=fun z=>aL h (by rw[zl,z]);have ed:gZ ps de wi.nm=jb de wi.nm:=by unfold gZ;rw[ba mne,Ew]
     refine lU ?_
     intros
     refine⟨_,rfl,t,_,_,_,rfl,rfl,ak.of (kn _ _ ht),eN,_,rfl,d,_,rfl,cw.k (k:=.inr wi.nm) Jh,_,rfl,?_⟩
     rcases rP (x:=wi.nm) pr with⟨z1,z2⟩ | ⟨v,o,z1,z2,z3⟩
     . refine av (fun _=>?_) (fun h=>absurd (by rw[z1];rfl) h);have:jb de wi.nm=false:=by unfold jb;rw[z2];rfl
       rw[ed,this,cU]at q;exact q H1 kn
     . refine av (fun h=>by rw[z1]at h;cases h) (fun _=>?_);refine⟨_,rfl,_,rfl,t,_,_,_,rfl,rfl,ak.of (kn _ _ ht),eN,d,v,rfl,by rw[←z1];exact cw.k (k:=.inr wi.nm) Jh,?_⟩;refine fin v o H1 kn (z3.same kn) ?_;have h1:jb de wi.nm=true:=by unfold jb;rw[z2];rfl
       have h2:bK de wi.nm=o:=by unfold bK;rw[z2];rfl
       rw[ed,h1,h2,eu]
   . have m0:(a9 ps wi.nm).length=0:=by rw[←zl];exact L0 fun z=>h (aE z)
     refine fin .non none H1 kn rfl ?_;rw[Jf bU m0];unfold gZ;rw[aE m0,LI,eu]
end
end K43
namespace L2
open PySem PySem.Spec PyProof.Rows
section
variable {X:Cx}
theorem acP(hu:X.A.units<cLine):bI X (compareOp .Eq) (fun x y H Q=>∃a b xs,x=.ref a/\y=.ref b/\ak X.K H a xs/\ak X.K H b []/\Q (.bl (decide (xs.length=0))) H):=by
 intro pins s σ H x y v u Q I rx ry h;obtain⟨a,b,xs,rfl,rfl,ha,hb,q⟩:=h;cases rx;cases ry;obtain⟨its,rv,⟨o,e,c,n,d⟩,_⟩:=I.tuple ha;obtain⟨jm,kJ,⟨o2,e2,c2,n2,d2⟩,_⟩:=I.tuple hb;cases kJ;have hl:=wb rv;refine SeqAt.eq_tupleAt (e:=fun _=>true) ⟨o,e,c,n,d⟩ ⟨o2,e2,c2,n2,d2⟩ hu (fun j h1 h2=>absurd h2 (by simp)) ?_;have:((List.range (min its.toArray.size ([]:Lw).toArray.size)).all (fun _=>true) && its.toArray.size == ([]:Lw).toArray.size)=decide (xs.length=0):=by
  rw[hl]
  by_cases z:its.length=0
  . rw[aE z];simp[z]
  . rw[ba z];simp;simpa using z
 rw[this];exact⟨.bl _,H,I,rfl,q⟩
end
end L2
namespace K43
open PySem L2 PySem.Spec PyProof.Rows
open HT (At)
seal PE PS c7 PA PT PW PG ip PI gB
section
variable {P:Program}{w:World}{K:Fg}{mg:Mv}{base:Heap}
def my:List (bj×V):=[(.inr iE,.int 2),(.inr iy,.int 3),(.inr gF,.int 4),(.inr iz,.int 4)]
theorem acQ(h:Str):(bJ (jT [] my) (.inr h)).getD (.int 0)=V.int (if h=iE then 2 else if h=iy then 3 else if h=gF then 4 else if h=iz then 4 else 0):=by
 have e:jT [] my=my:=by decide +kernel
 rw[e];unfold my
 by_cases h1:h=iE
 . rw[aB h1,gh (by rw[h1])];rfl
 rw[ap h1,fX (fun z=>h1 (oS z).symm)]
 by_cases h2:h=iy
 . rw[aB h2,gh (by rw[h2])];rfl
 rw[ap h2,fX (fun z=>h2 (oS z).symm)]
 by_cases h3:h=gF
 . rw[aB h3,gh (by rw[h3])];rfl
 rw[ap h3,fX (fun z=>h3 (oS z).symm)]
 by_cases h4:h=iz
 . rw[aB h4,gh (by rw[h4])];rfl
 rw[ap h4,fX (fun z=>h4 (oS z).symm)];rfl
theorem vg{ps:Lp}{de:Dec}{x:Str}{p:bp}(h:bM ps de x=some p):p∈ps/\p.nm=x/\bK de x=some p.ms:=by
 have hm:=uJ h;unfold bM at h;cases hz:bK de x with
 | none=>rw[hz]at h;cases h
 | some m=>
  rw[hz]at h;have h1:=L3 h;rw[et]at h1;exact⟨hm,aL h1.1,by rw[aL h1.2]⟩
theorem Dh{n:Int}{k:Nat}{α:Type}{l:List α}(hl:l.length=k)(h:cD n k=true):∃c,l[n.toNat]?=some c/\0<=n:=by
 obtain⟨h1,h2⟩:=gw.mp h;have h1:=aL h1;have h2:=aL h2;exact⟨_,dg (by omega),h1⟩
theorem y7{xs:Lv}{n:Int}{v:V}(h0:0<=n)(h:xs[n.toNat]?=some v):aM xs n=some v:=by
 obtain⟨k,rfl⟩:∃k:Nat,n=k:=⟨n.toNat,by omega⟩;exact bT (by simpa using h)
theorem acR{H:Hp}{x:Str}{ab:List (bj×V)}{de:Dec}{v:V}{o:Oi}(h:Paired (ga H) ab de)(hv:ce H v o):ce H ((bJ ab (.inr x)).getD v) ((de.lookup x).getD o):=by
 rcases rP (x:=x) h with⟨a,b⟩ | ⟨u,o,a,b,c⟩
 . rw[a,b];exact hv
 . rw[a,b];exact c
theorem acS{de:Dec}{p:bp}:(de.lookup p.nm).getD (some p.ms)=some p.ms↔gm de p=true:=by
 unfold gm;cases de.lookup p.nm with
 | none=>exact⟨fun _=>rfl,fun _=>rfl⟩
 | some o=>exact(EL (p:=o=some p.ms)).symm
theorem acT{α:Type}{f:α->Bool}{l:List α}:(!l.any f)=decide ((l.filter f).length=0):=by
 rw[lr,EL,L5,Lb,wo,List.filter_eq_nil_iff]
def Di:Sp:=fun vs H Q _=>∃(a wl d:Addr) (rv:V) (xs:Lv) (ps:Lp) (xw:Lv) (ws:List cO) (de:Dec) (r:cf),vs=[.ref a,.ref wl,.ref d,rv]/\H a=some (.lst xs)/\gK H xs ps/\ps.length<=9/\(∀p∈ps,nC p)/\H wl=some (.lst xw)/\Paired (cR H) xw ws/\dm H d de/\c9 ps de/\eM H rv r/\∀H',af H H'->Q (.bl (gp ps ws de r)) H'
theorem vh:bo [aif,aim,aig,aiG,ain,ajq,"_law_two","_law_paths"] [aif,aim,aig,aiG] (aO lZ):=bu
theorem Ji{f dY dZ ee:Addr}{fd hV hX hZ:Fy}(F:aj K aiw aiw lZ f fd)(B:cj mg)(ef:aj K aiB aiB kM dY hV)(fh:mg aiB=some (.ref dY))(eO:aj K aiq aiq kN dZ hX)(fG:mg aiq=some (.ref dZ))
 (eh:aj K aiv aiv kL ee hZ) (fi:mg aiv=some (.ref ee)):ao P w K mg base aq 2 f fd [aif,aim,aig,aiG] Di:=by
 have Jj:ao P w K mg base aq 1 dY hV [aif,aig,aiC] Jd:=acM ef;have Jk:=ef.binds3 (l:=[aif,aig,aiC]) (fun _ _ _ _ _ _ _ _ _=>rfl);have acU:ao P w K mg base aq 1 dZ hX [aif,aiP,aig] Jg:=acN eO;have acV:=eO.binds3 (l:=[aif,aiP,aig]) (fun _ _ _ _ _ _ _ _ _=>rfl);have Jl:ao P w K mg base aq 1 ee hZ [ai5,ain] Jb:=acI eh;have Jm:=eh.binds2 (l:=[ai5,ain]) (fun _ _ _ _ _ _ _ _=>rfl);refine F.okL vh ?_
 . intro aG A outer s H vs Q E hr h xX dX;obtain⟨a,wl,d,rv,xs,ps,xw,ws,de,r,rfl,ha,a8,l9,few,cm,cS,bL,bU,⟨t,rfl,ht⟩,q⟩:=h;have hu:=hr.units;have dN:=hr.units0;have da:=hr.mono (j:=1) (by decide);have xl:=aP a8;have wll:=aP cS;refine⟨_,(ar (bA (PW.pt (gS (bd (acP dN) (pv 3) (br ac) (aJ _)) (jJ (bd wQ (F0 hu (U3 (xc bh ae (xc bh ae (xc bh ae (xc bh ae UM)))) rfl rfl (by decide) (by decide)) (au aQ (pv 3) ae (fun _ _=>rfl)) ae ⟨rfl,rfl,rfl,rfl⟩) (b8 dH (by rfl) B.len eE (aa (pv 3) ac)) (aJ _)))))
    (aF (aN dr)) bw)
    (ar (bA (bd bZ (au aQ (pv 3) ae (fun _ _=>rfl)) bh (aJ _))
    (aF (aN (eW (AA wR qR ae (au aQ (pv 3) ae (fun _ _=>rfl)) (b8 dH (by rfl) B.len eE (aa (pv 1) ac))) (fq (aI acU da rfl fG eO.kp acV .nil az (aa (pv 0) (aa (au dh (pv 1) (au aQ (pv 3) ae (fun _ _=>rfl)) (fun _ _=>rfl)) (aa (pv 2) ac)))))))) bw)
    (ar (aY (i:=4) vh.nd rfl (Or.inr rfl) (aI Jj da rfl fh ef.kp Jk .nil az (aa (pv 0) (aa (pv 2) (aa (au aQ (pv 3) ae (fun _ _=>rfl)) ac)))))
    (ar (bA (bd iq (pv 4) cI (aJ _))
    (aF (aN dr)) bw)
    (ar (bA (bd bZ (au aQ (pv 3) ae (fun _ _=>rfl)) bh (aJ _))
    (ar (bA (jK (Ps wR qR ae (au aQ (pv 3) ae (fun _ _=>rfl)) (b8 dH (by rfl) B.len eE (aa (au aQ (pv 4) ae (fun _ _=>rfl)) ac))))
     (aF (aN dr)) bw)
     (ar (jY (i:=5) [aiE] [ain,aiG] [4,3] vh.nd rfl rfl cC rfl (cJ (pv 0)) (fun _ _ _ _=>(bi (i:=0) (show List.Nodup ([aiE,ain,aiG]:Ls) by decide +kernel) rfl (Or.inl rfl))) (fun _ _ _ _=>jp (im (aI Jl da rfl fi eh.kp Jm .nil az (aa (au (xn K) (au (cK K) (pv 1) ae (fun _ _=>rfl)) (au (cK K) (pv 2) ae (fun _ _=>rfl)) (fun _ _=>rfl)) (aa (pv 0) ac))))) (fun _ _ _ _=>(pv 0)))
     (aF (aN (cB (xF dN) (fA [aiE] [aig] [2] cC rfl (cJ (pv 5)) (fun _ _ _ _=>(bi (i:=0) (show List.Nodup ([aiE,aig]:Ls) by decide +kernel) rfl (Or.inl rfl))) (fun _ _ _ _=>jp (bd (Dd K hu) (F0 hu (pv 1) (au (cK K) (pv 0) ae (fun _ _=>rfl)) (au (cK K) (pv 0) ae (fun _ _=>rfl)) ⟨rfl,rfl,rfl,rfl⟩) (au (cK K) (pv 0) ae (fun _ _=>rfl)) (aJ _))) (fun _ _ _ _=>(pv 0))) (cG ac) (aJ _)))))) bw)
    (ar (aY (i:=6) vh.nd rfl (Or.inl rfl) (aI Jj da rfl fh ef.kp Jk .nil az (aa (pv 0) (aa (pv 2) (aa (au aQ (pv 3) (aH du (OG OP ae) (fT P1 (by rfl) B.int agR (aa (cB bZ (au aQ (pv 3) ae (fun _ _=>rfl)) bh (aJ _)) ac))) (fun _ _=>rfl)) ac)))))
    (ar (bA (PW.pt (gS (bd iq (pv 6) cI (aJ _)) (jJ (bd bZ (au aQ (pv 6) ae (fun _ _=>rfl)) (au aQ (pv 4) ae (fun _ _=>rfl)) (aJ _)))))
    (aF (aN dr)) bw)
    (ar (bA (bd bZ (au aQ (pv 3) ae (fun _ _=>rfl)) bh (aJ _))
    (aF (aN (eW (AA wR qR ae (au aQ (pv 3) ae (fun _ _=>rfl)) (b8 dH (by rfl) B.len eE (aa (au aQ (pv 4) ae (fun _ _=>rfl)) ac))) (fq (aI Jl da rfl fi eh.kp Jm .nil az (aa (au dh (au aQ (pv 4) ae (fun _ _=>rfl)) (au aQ (pv 3) ae (fun _ _=>rfl)) (fun _ _=>rfl)) (aa (pv 6) ac))))))) bw)
    (ar (jY (i:=7) [aiR,aiT] [] [] vh.nd rfl rfl cC rfl (cJ (au aQ (pv 4) ae (fun _ _=>rfl))) (fun _ _ _ _=>(uv (n:=2) K rfl (ft (bi (i:=0) (show List.Nodup ([aiR,aiT]:Ls) by decide +kernel) rfl (Or.inl rfl)) (ft (bi (i:=1) (show List.Nodup ([aiR,aiT]:Ls) by decide +kernel) rfl (Or.inl rfl)) lH)))) (fun _ _ _ _=>fz) (fun _ _ _ _=>(pv 0)))
    (aF (aN (eW (cB Fk (au aQ (pv 4) ae (fun _ _=>rfl)) (au aQ (pv 6) ae (fun _ _=>rfl)) (aJ _)) (eW (cB qW (au aQ (pv 3) ae (fun _ _=>rfl)) (pv 7) (by rfl)) (fq (cB qW (au aQ (pv 3) ae (fun _ _=>rfl)) (fA [aiR,aiT] [] [] cC rfl (cJ (au aQ (pv 6) ae (fun _ _=>rfl))) (fun _ _ _ _=>(uv (n:=2) K rfl (ft (bi (i:=0) (show List.Nodup ([aiR,aiT]:Ls) by decide +kernel) rfl (Or.inl rfl)) (ft (bi (i:=1) (show List.Nodup ([aiR,aiT]:Ls) by decide +kernel) rfl (Or.inl rfl)) lH)))) (fun _ _ _ _=>fz) (fun _ _ _ _=>(pv 0))) (by rfl)))))))))))))))),?_⟩
   refine Gq ?_;intro dD sS rc u9 u8 u7 u6 u5 u4 u3 u2;refine⟨_,rfl,(by show 0<=sizeLine;decide),fun p1 H1 n1 s1 e1=>?_⟩;have Dj:=s1 _ _ ht;refine⟨t,p1,_,rfl,rfl,ak.of Dj,ak.of e1,_,rfl,?_⟩;refine av (fun h=>?_) (fun h0=>?_)
   . have e0:r.ats=[]:=wo.mp (by have z:=aL h;rwa [aK]at z);have q:=q H1 s1;rw[Ix e0]at q;exact dA q
   obtain⟨h,rr,hk⟩:∃h rr,r.ats=.inr h::rr:=by
    cases r with
    | odd k hk=>
     cases k with
     | nil=>exact absurd (aE rfl) h0
     | cons x rr=>
      cases x with
      | inl _=>cases hk
      | inr h=>exact⟨h,rr,rfl⟩
    | _=>exact⟨_,_,rfl⟩
   refine fun p2 n2=>?_;refine⟨bf,my,rfl,by decide,p2,rfl,.inl ⟨_,.inl bf⟩,?_⟩;have Dk:H1 p2=none:=n2;have bP:af H1 (al (al H1 p2 (.dK [])) p2 (.dK (jT [] my))):=fun b o e=>aZ (aZ e (bF e Dk)) (bF e Dk);have hd2:al (al H1 p2 (.dK [])) p2 (.dK (jT [] my)) p2=some (.dK (jT [] my)):=bf;generalize al (al H1 p2 (.dK [])) p2 (.dK (jT [] my))=H2 at bP hd2;have bR:=s1.trans bP;have iI:=bP _ _ Dj;have fj:aM (r.ats.map aV) 0=some (.str h):=by rw[hk];exact bT (j:=0) rfl
   refine⟨_,rfl,t,_,_,_,rfl,rfl,ak.of iI,fj,_,cw.k (k:=.inr h) hd2,?_⟩;rw[acQ];refine⟨_,rfl,t,_,rfl,.inr (ak.of iI),rfl,_,rfl,?_⟩;have q:=fun H' s'=>q H' (bR.trans s');have ha:=bR _ _ ha;have a8:=a8.same bR;have cm:=bR _ _ cm;have cS:Paired (cR H2) xw ws:=aX cS fun _ _ z=>z.same bR;have bL:=bL.same bR;clear hd2 n2 Dk bP bR Dj e1 n1 ht s1;refine av (fun hL=>?_) (fun hL=>?_)
   . have hL:¬V.int (if h=iE then 2 else if h=iy then 3 else if h=gF then 4 else if h=iz then 4 else 0)=V.int ((r.ats.map aV).length:Int):=by
      intro z;rw[z,aE rfl]at hL;cases hL
     have e0:gp ps ws de r=false:=by
      cases r with
      | odd k hk=>rfl
      | wish n=>cases hk;exact absurd rfl hL
      | need x n=>cases hk;exact absurd rfl hL
      | shut x n y=>cases hk;exact absurd rfl hL
      | clash x y z=>cases hk;exact absurd rfl hL
     rw[e0]at q;exact q H2 (af.refl _)
   have hL:V.int (if h=iE then 2 else if h=iy then 3 else if h=gF then 4 else if h=iz then 4 else 0)=V.int ((r.ats.map aV).length:Int):=L0 fun z=>hL (by rw[ba z];rfl);cases r with
   | odd k Jn=>
    exfalso;have hk:k=.inr h::rr:=hk;subst hk;obtain⟨o1,o2,o3,o4⟩:=Iq Jn;injection hL with hL
    rw[aK]at hL;have e:(cf.ats (.odd (.inr h::rr) Jn)).length=rr.length+1:=rfl;rw[e]at hL
    by_cases z1:h=iE
    . rw[aB z1]at hL;exact o1 ⟨z1,by omega⟩
    rw[ap z1]at hL
    by_cases z2:h=iy
    . rw[aB z2]at hL;exact o2 ⟨z2,by omega⟩
    rw[ap z2]at hL
    by_cases z3:h=gF
    . rw[aB z3]at hL;exact o3 ⟨z3,by omega⟩
    rw[ap z3]at hL
    by_cases z4:h=iz
    . rw[aB z4]at hL;exact o4 ⟨z4,by omega⟩
    rw[ap z4]at hL;omega
   | wish n=>
    cases hk;have eN:aM ((cf.wish n).ats.map aV) 1=some (.int n):=bT (j:=1) rfl;refine⟨_,rfl,t,_,_,_,rfl,rfl,ak.of iI,fj,rfl,_,rfl,?_⟩;refine av (fun _=>?_) (fun z=>absurd (aE rfl) z);have q:∀H',af H2 H'->Q (.bl (kR ps ws de n)) H':=q;unfold kR at q;refine⟨_,rfl,t,_,_,_,rfl,rfl,ak.of iI,eN,_,_,rfl,rfl,_,rfl,?_⟩;refine av (fun z1=>?_) (fun z1=>?_)
    . refine⟨_,rfl,wl,_,rfl,.inl (ah.of cm),_,_,rfl,rfl,_,rfl,?_⟩;have z1:(0:Int)<=n:=aL z1;refine av (fun z2=>?_) (fun z2=>?_)
      . have z2:n<(xw.length:Int):=aL z2;have pl:cD n ws.length=true:=by unfold cD;rw[aE z1,aE (by omega)];rfl
        obtain⟨wi,fw,_⟩:=Dh rfl pl;obtain⟨wv,hwv,hW⟩:=rK cS fw;rw[pl,fw,eu]at q;exact⟨_,rfl,_,rfl,_,rfl,t,_,_,_,rfl,rfl,ak.of iI,eN,wl,_,_,_,rfl,rfl,ah.of cm,y7 z1 hwv,_,rfl,a,d,wv,xs,ps,wi,de,rfl,ha,a8,l9,hW,bL,bU,q⟩
      . have pl:cD n ws.length=false:=by unfold cD;rw[show decide (n<(ws.length:Int))=false from ba fun y=>z2 (aE (by show n<(xw.length:Int);omega)),m4]
        rw[pl,cU]at q;exact q H2 (af.refl _)
    . have pl:cD n ws.length=false:=by unfold cD;rw[ba (fun y=>z1 (aE y)),cU]
      rw[pl,cU]at q;exact⟨_,rfl,c8 (q H2 (af.refl _))⟩
   | need x n=>
    cases hk;have eN:aM ((cf.need x n).ats.map aV) 1=some (.str x):=bT (j:=1) rfl;have at2:aM ((cf.need x n).ats.map aV) 2=some (.int n):=bT (j:=2) rfl;refine⟨_,rfl,t,_,_,_,rfl,rfl,ak.of iI,fj,rfl,_,rfl,?_⟩;refine av (fun z=>absurd (aL z) (gI jc.1)) (fun _=>?_);refine⟨_,rfl,_,rfl,_,rfl,t,_,_,_,rfl,rfl,ak.of iI,eN,a,d,x,xs,ps,de,rfl,ha,a8,l9,bL,fun v H3 s3 ho=>?_⟩;have q:∀H',af H3 H'->Q (.bl (kS ps de x n)) H':=fun H' s'=>q H' (s3.trans s');unfold kS at q;have je:=s3 _ _ iI;have vi:=a8.same s3;have so:=s3 _ _ ha;have vj:=bL.same s3;cases ko:bM ps de x with
    | none=>
     rw[ko]at ho q;have ho:v=.non:=ho;subst ho;exact⟨_,rfl,rfl,_,rfl,dA (q H3 (af.refl _))⟩
    | some p=>
     rw[ko]at ho q;dsimp only at q;obtain⟨tp,m,fa,na,sa,oa,fx,rfl,h1,h2,h3,h4,⟨ny,hn,nP⟩,h6,h7⟩:=ho;have nl:=aP nP;have a4:aM [V.str p.nm,.ref m,.int p.rk,.ref fa,.ref na,.ref sa,.ref oa] 4=some (V.ref na):=rfl;refine⟨_,rfl,rfl,_,rfl,c8 ?_⟩;refine⟨_,rfl,t,_,_,_,rfl,rfl,ak.of je,fj,rfl,_,rfl,?_⟩;refine av (fun _=>?_) (fun z=>absurd (aE rfl) z);refine⟨_,rfl,t,_,_,_,rfl,rfl,ak.of je,at2,_,_,rfl,rfl,_,rfl,?_⟩;refine av (fun z1=>?_) (fun z1=>?_)
     . have z1:(0:Int)<=n:=aL z1;refine⟨_,rfl,tp,_,_,_,rfl,rfl,ak.of h1,a4,na,_,rfl,.inl (ah.of hn),_,_,rfl,rfl,_,rfl,?_⟩
       by_cases z2:n<(ny.length:Int)
       . have pl:cD n p.ns.length=true:=by unfold cD;rw[aE z1,aE (by omega)];rfl
         obtain⟨c,hc,_⟩:=Dh rfl pl;obtain⟨cv,pW,hC⟩:=rK nP hc;rw[pl,hc,eu]at q;dsimp only at q;refine av (fun z=>absurd z (by rw[aE z2];decide)) (fun _=>?_);refine⟨_,rfl,a,rfl,⟨_,ah.of so⟩,?_⟩;intro D hD;refine ka (σ0:=[none,some (.ref tp),some (.ref t)]) hD (ah.of so) (fun σ=>∃v,σ=[v,some (.ref tp),some (.ref t)]) (fun j zs _=>zs.length<=j/\gK H3 zs ((ps.take j).filter fun p=>dj c p)) ⟨_,rfl⟩ ⟨aS _,.nil⟩ ?_ ?_
         . rintro j y zs σ H4 k k' hy ⟨v,rfl⟩ yT s4 ⟨zl,zp⟩ cQ ff;obtain⟨p2,iX,hE⟩:=bO vi hy;have aR:=(bW.mp iX).1;have fs:=uc (f:=fun p:bp=>dj c p) iX;refine⟨_,rfl,tp,_,_,_,rfl,rfl,ak.of (s4 _ _ h1),a4,_,rfl,t,_,_,_,rfl,rfl,ak.of (s4 _ _ je),at2,na,_,_,_,rfl,rfl,ah.of (s4 _ _ hn),y7 z1 pW,_,rfl,cv,y,c,p2,rfl,hC.same s4,hE.same s4,fun H5 s5=>⟨_,rfl,?_⟩⟩;refine av (fun h=>?_) (fun h=>?_)
           . refine⟨_,rfl,cQ _ _ _ ⟨_,rfl⟩ s5 (bq (by omega)) ⟨by rw[be,jE];omega,?_⟩⟩;rw[fs,aB h];exact dJ hE zp
           . refine ff _ _ ⟨_,rfl⟩ s5 ⟨by omega,?_⟩;rw[fs,ap h,fL];exact zp
         rintro zs H4 d4 s4 ⟨zl,iH⟩;rw[xl,eB]at iH;have zl9:zs.length<=9:=by omega
         have Dl:=iH.same s4;have ea:(ps.any fun q=>gm de q && dj c q)=(ps.filter fun p=>dj c p).any (gm de):=by
          rw[List.any_filter]
          congr 1
          funext p
          rw[Bool.and_comm]
         rw[ea]at q;generalize (ps.filter fun p=>dj c p)=qs at Dl q;have hql:=aP Dl;obtain⟨ab,j5,pr⟩:=vj.same s4;refine⟨_,rfl,D,rfl,⟨_,ah.of d4⟩,?_⟩;intro D2 Dm;refine ka (σ0:=[none,some (.ref d)]) Dm (ah.of d4) (fun σ=>∃v,σ=[v,some (.ref d)]) (fun j zs _=>zs.length<=j/\zs.length=((qs.take j).filter (gm de)).length) ⟨_,rfl⟩ ⟨aS _,rfl⟩ ?_ ?_
         . rintro j y zs2 σ H5 k k' hy ⟨v,rfl⟩ uX s5 ⟨Do,zp⟩ cQ ff;obtain⟨p2,iX,hE⟩:=bO Dl hy;obtain⟨t2,m2,gW,mz,mB,mC,y8,rfl,g1,g2,_⟩:=id hE;have aR:=(bW.mp iX).1;have b0:aM [V.str p2.nm,.ref m2,.int p2.rk,.ref gW,.ref mz,.ref mB,.ref mC] 0=some (V.str p2.nm):=rfl;have b1:aM [V.str p2.nm,.ref m2,.int p2.rk,.ref gW,.ref mz,.ref mB,.ref mC] 1=some (V.ref m2):=rfl;have fs:=uc (f:=gm de) iX;have Jo:ce H5 (.ref m2) (some p2.ms):=⟨m2,rfl,s5 _ _ g2⟩;obtain⟨d1,o1⟩:=rO (K:=K) (acR (x:=p2.nm) (aX pr fun _ _ z=>ga.same s5 z) Jo);obtain⟨d2,o2⟩:=rO (K:=K) Jo;refine⟨_,rfl,d,rfl,.inl ⟨_,.inl (s5 _ _ j5)⟩,_,rfl,t2,_,_,_,rfl,rfl,ak.of (s5 _ _ g1),b0,_,rfl,t2,_,_,_,rfl,rfl,ak.of (s5 _ _ g1),b1,_,cw.k (k:=.inr p2.nm) (s5 _ _ j5),_,rfl,t2,_,_,_,rfl,rfl,ak.of (s5 _ _ g1),b1,_,_,d1,d2,o1,o2,fun bb hb=>⟨_,rfl,?_⟩⟩;have xg:bb=true↔gm de p2=true:=hb.trans (Iff.trans ⟨Ca,fun z=>by rw[z]⟩ acS);refine av (fun h=>?_) (fun h=>?_)
           . refine⟨_,rfl,cQ _ _ _ ⟨_,rfl⟩ (af.refl _) (bq (by omega)) ⟨by rw[be,jE];omega,?_⟩⟩;rw[fs,aB (xg.mp h),be,be,zp];rfl
           . refine ff _ _ ⟨_,rfl⟩ (af.refl _) ⟨by omega,?_⟩;rw[fs,ap (fun z=>h (xg.mpr z)),fL];exact zp
         rintro zs2 H5 d5 s5 ⟨_,Do⟩;rw[hql,eB]at Do;refine⟨(by show 0<=sizeLine;decide),fun p1 H6 n6 s6 e6=>?_⟩;refine⟨D2,p1,_,rfl,rfl,ah.of (s6 _ _ d5),ah.of e6,?_⟩;have q:=q H6 (s4.trans (s5.trans s6));rw[acT,←Do]at q;exact q
       . have pl:cD n p.ns.length=false:=by unfold cD;rw[show decide (n<(p.ns.length:Int))=false from ba fun y=>z2 (by omega),m4]
         rw[pl,cU]at q;exact av (fun _=>q H3 (af.refl _)) (fun z=>absurd (by rw[ba z2];rfl) z)
     . have pl:cD n p.ns.length=false:=by unfold cD;rw[ba (fun y=>z1 (aE y)),cU]
       rw[pl,cU]at q;exact⟨_,rfl,dA (q H3 (af.refl _))⟩
   | shut x n y=>
    cases hk;have eN:aM ((cf.shut x n y).ats.map aV) 1=some (.str x):=bT (j:=1) rfl;have at2:aM ((cf.shut x n y).ats.map aV) 2=some (.int n):=bT (j:=2) rfl;have Dp:aM ((cf.shut x n y).ats.map aV) (-2+if decide (V.str gF=V.str gF)=true then 1 else 0)=some (.str y):=by rw[aE rfl,aB rfl];rfl
    refine⟨_,rfl,t,_,_,_,rfl,rfl,ak.of iI,fj,rfl,_,rfl,?_⟩;refine av (fun z=>absurd (aL z) (gI jc.2.1)) (fun _=>?_);refine⟨_,rfl,_,rfl,_,rfl,t,_,_,_,rfl,rfl,ak.of iI,eN,a,d,x,xs,ps,de,rfl,ha,a8,l9,bL,fun v H3 s3 ho=>?_⟩;have q:∀H',af H3 H'->Q (.bl (kT ps de x n y)) H':=fun H' s'=>q H' (s3.trans s');unfold kT at q;have je:=s3 _ _ iI;have vi:=a8.same s3;have so:=s3 _ _ ha;have vj:=bL.same s3;cases ko:bM ps de x with
    | none=>
     rw[ko]at ho q;have ho:v=.non:=ho;subst ho;exact⟨_,rfl,rfl,_,rfl,dA (q H3 (af.refl _))⟩
    | some p=>
     have y9:=(vg ko).2.1;rw[ko]at ho q;dsimp only at q;obtain⟨tp,m,fa,na,sa,oa,fx,rfl,h1,h2,h3,h4,h5,⟨ny,hn,nP⟩,h7⟩:=ho;have nl:=aP nP;have a0:aM [V.str p.nm,.ref m,.int p.rk,.ref fa,.ref na,.ref sa,.ref oa] 0=some (V.str p.nm):=rfl;have a5:aM [V.str p.nm,.ref m,.int p.rk,.ref fa,.ref na,.ref sa,.ref oa] 5=some (V.ref sa):=rfl;refine⟨_,rfl,rfl,_,rfl,c8 ?_⟩;refine⟨_,rfl,t,_,_,_,rfl,rfl,ak.of je,fj,rfl,_,rfl,?_⟩;refine av (fun z=>absurd (aL z) (gI jc.2.2.2.1)) (fun _=>?_);refine⟨_,rfl,_,rfl,_,rfl,?_⟩;refine⟨_,rfl,_,rfl,t,_,_,_,rfl,rfl,ak.of je,fj,rfl,.inr ⟨_,rfl,?_⟩⟩;refine⟨_,_,rfl,rfl,t,_,_,_,rfl,rfl,ak.of je,Dp,a,d,y,xs,ps,de,rfl,so,vi,l9,vj,fun u H4 s4 ho=>?_⟩;have q:=fun H' s'=>q H' (s4.trans s');have sq:=s4 _ _ je;cases oF:bM ps de y with
     | none=>
      rw[oF]at ho q;have ho:u=.non:=ho;subst ho;exact⟨_,rfl,rfl,_,rfl,dA (dA (q H4 (af.refl _)))⟩
     | some o=>
      have za:=(vg oF).2.1;rw[oF]at ho q;dsimp only at q;obtain⟨to,m2,gW,mz,mB,mC,y8,rfl,g1,_⟩:=id ho;have b0:aM [V.str o.nm,.ref m2,.int o.rk,.ref gW,.ref mz,.ref mB,.ref mC] 0=some (V.str o.nm):=rfl;refine⟨_,rfl,rfl,_,rfl,c8 ?_⟩;refine⟨_,rfl,to,_,_,_,rfl,rfl,ak.of g1,b0,_,rfl,tp,_,_,_,rfl,rfl,ak.of (s4 _ _ h1),a0,rfl,_,rfl,?_⟩;rw[y9,za]
      by_cases gA:y=x
      . rw[aE gA]at q;refine av (fun _=>?_) (fun z=>absurd (aE (by rw[gA])) z);exact q H4 (af.refl _)
      rw[ba gA]at q;refine av (fun z=>absurd (aL z) (gI gA)) (fun _=>?_);refine⟨_,rfl,t,_,_,_,rfl,rfl,ak.of sq,fj,rfl,_,rfl,?_⟩;refine av (fun _=>?_) (fun z=>absurd (aE rfl) z);refine⟨_,rfl,t,_,_,_,rfl,rfl,ak.of sq,at2,_,_,rfl,rfl,_,rfl,?_⟩;refine av (fun z1=>?_) (fun z1=>?_)
      . have z1:(0:Int)<=n:=aL z1;refine⟨_,rfl,tp,_,_,_,rfl,rfl,ak.of (s4 _ _ h1),a5,sa,_,rfl,.inl (ah.of (s4 _ _ hn)),_,_,rfl,rfl,_,rfl,?_⟩;refine av (fun z2=>?_) (fun z2=>?_)
        . have z2:n<(ny.length:Int):=aL z2;have pl:cD n p.ss.length=true:=by unfold cD;rw[aE z1,aE (by omega)];rfl
          obtain⟨c,hc,_⟩:=Dh rfl pl;obtain⟨cv,pW,hC⟩:=rK nP hc;rw[pl,hc,eu]at q;exact⟨_,rfl,tp,_,_,_,rfl,rfl,ak.of (s4 _ _ h1),a5,_,rfl,t,_,_,_,rfl,rfl,ak.of sq,at2,sa,_,_,_,rfl,rfl,ah.of (s4 _ _ hn),y7 z1 pW,_,rfl,cv,_,c,o,rfl,hC.same s4,ho,q⟩
        . have pl:cD n p.ss.length=false:=by unfold cD;rw[show decide (n<(p.ss.length:Int))=false from ba fun y=>z2 (aE (by show n<(ny.length:Int);omega)),m4]
          rw[pl,cU]at q;exact q H4 (af.refl _)
      . have pl:cD n p.ss.length=false:=by unfold cD;rw[ba (fun y=>z1 (aE y)),cU]
        rw[pl,cU]at q;exact⟨_,rfl,c8 (q H4 (af.refl _))⟩
   | clash x y z=>
    cases hk;have eN:aM ((cf.clash x y z).ats.map aV) 1=some (.str x):=bT (j:=1) rfl;have rD:aM ((cf.clash x y z).ats.map aV) 3=some (.str z):=bT (j:=3) rfl;have Dp:aM ((cf.clash x y z).ats.map aV) (-2+if decide (V.str iz=V.str gF)=true then 1 else 0)=some (.str y):=by rw[ba (gI jc.2.2.2.2.2),ap (by decide)];rfl
    refine⟨_,rfl,t,_,_,_,rfl,rfl,ak.of iI,fj,rfl,_,rfl,?_⟩;refine av (fun z=>absurd (aL z) (gI jc.2.2.1)) (fun _=>?_);refine⟨_,rfl,_,rfl,_,rfl,t,_,_,_,rfl,rfl,ak.of iI,eN,a,d,x,xs,ps,de,rfl,ha,a8,l9,bL,fun v H3 s3 ho=>?_⟩;have q:∀H',af H3 H'->Q (.bl (kU ps de x y z)) H':=fun H' s'=>q H' (s3.trans s');unfold kU at q;have je:=s3 _ _ iI;have vi:=a8.same s3;have so:=s3 _ _ ha;have vj:=bL.same s3;cases ko:bM ps de x with
    | none=>
     rw[ko]at ho q;have ho:v=.non:=ho;subst ho;exact⟨_,rfl,rfl,_,rfl,dA (q H3 (af.refl _))⟩
    | some p=>
     have y9:=(vg ko).2.1;rw[ko]at ho q;dsimp only at q;obtain⟨tp,m,fa,na,sa,oa,fx,rfl,h1,h2,h3,h4,_⟩:=id ho;have a0:aM [V.str p.nm,.ref m,.int p.rk,.ref fa,.ref na,.ref sa,.ref oa] 0=some (V.str p.nm):=rfl;have a5:aM [V.str p.nm,.ref m,.int p.rk,.ref fa,.ref na,.ref sa,.ref oa] 3=some (V.ref fa):=rfl;refine⟨_,rfl,rfl,_,rfl,c8 ?_⟩;refine⟨_,rfl,t,_,_,_,rfl,rfl,ak.of je,fj,rfl,_,rfl,?_⟩;refine av (fun z=>absurd (aL z) (gI jc.2.2.2.2.1)) (fun _=>?_);refine⟨_,rfl,_,rfl,_,rfl,?_⟩;refine⟨_,rfl,_,rfl,t,_,_,_,rfl,rfl,ak.of je,fj,rfl,.inr ⟨_,rfl,?_⟩⟩;refine⟨_,_,rfl,rfl,t,_,_,_,rfl,rfl,ak.of je,Dp,a,d,y,xs,ps,de,rfl,so,vi,l9,vj,fun u H4 s4 ho=>?_⟩;have q:=fun H' s'=>q H' (s4.trans s');have sq:=s4 _ _ je;cases oF:bM ps de y with
     | none=>
      rw[oF]at ho q;have ho:u=.non:=ho;subst ho;exact⟨_,rfl,rfl,_,rfl,dA (dA (q H4 (af.refl _)))⟩
     | some o=>
      have za:=(vg oF).2.1;rw[oF]at ho q;dsimp only at q;obtain⟨to,m2,gW,mz,mB,mC,y8,rfl,g1,g2,g3,g4,_⟩:=id ho;have b0:aM [V.str o.nm,.ref m2,.int o.rk,.ref gW,.ref mz,.ref mB,.ref mC] 0=some (V.str o.nm):=rfl;refine⟨_,rfl,rfl,_,rfl,c8 ?_⟩;refine⟨_,rfl,to,_,_,_,rfl,rfl,ak.of g1,b0,_,rfl,tp,_,_,_,rfl,rfl,ak.of (s4 _ _ h1),a0,rfl,_,rfl,?_⟩;rw[y9,za]
      by_cases gA:y=x
      . rw[gA,show xG x x=false from ba (List.lt_irrefl _),cU]at q;refine av (fun _=>?_) (fun z=>absurd (aE (by rw[gA])) z);exact q H4 (af.refl _)
      refine av (fun z=>absurd (aL z) (gI gA)) (fun _=>?_);refine⟨_,rfl,t,_,_,_,rfl,rfl,ak.of sq,fj,rfl,_,rfl,?_⟩;refine av (fun z=>absurd (aL z) (gI jc.2.2.2.2.2)) (fun _=>?_);have b3:aM [V.str o.nm,.ref m2,.int o.rk,.ref gW,.ref mz,.ref mB,.ref mC] 3=some (V.ref gW):=rfl;refine⟨_,rfl,tp,_,_,_,rfl,rfl,ak.of (s4 _ _ h1),a5,fa,rfl,⟨_,ah.of (s4 _ _ h3)⟩,?_⟩;intro D hD;have iA:=aX h4 fun _ _ z=>eJ.same s4 z;have f8:=(few p (uJ ko)).fs;have fl1:=aP iA;refine rM (σ0:=[none,none]) hD (ah.of (s4 _ _ h3)) (fun σ=>∃u v,σ=[u,v]) (fun j zs _=>zs=((bQ p).take j).map V.str) ⟨_,_,rfl⟩ rfl ?_ ?_
      . rintro j y zs σ H5 k hy ⟨u,v,rfl⟩ uX s5 rfl cQ;obtain⟨f,hf,t3,l3,rfl,f1,f2⟩:=bO iA hy;have i5:(bQ p)[j]?=some f.1:=by unfold bQ;rw[dq,hf];rfl
        have aR:=(bW.mp hf).1;refine⟨t3,_,rfl,ak.of (s5 _ _ f1),rfl,_,_,rfl,_,_,rfl,rfl,?_⟩;refine⟨_,rfl,cQ _ _ _ ⟨_,_,rfl⟩ (af.refl _) (bq (by rw[aK,eV];omega)) ?_⟩;rw[i6 i5,eA];rfl
      rintro zs H5 d5 s5 rfl;have e5:(bQ p).take fx.length=bQ p:=ww (by unfold bQ;rw[aK,aP iA];exact aS _);rw[e5]at d5;have Jp:=s5 _ _ sq;refine⟨_,rfl,tp,_,_,_,rfl,rfl,ak.of (s5 _ _ (s4 _ _ h1)),a0,_,rfl,to,_,_,_,rfl,rfl,ak.of (s5 _ _ g1),b0,_,_,rfl,rfl,_,rfl,?_⟩;rw[y9,za];cases aR:xG x y with
      | false=>
       refine av (fun z=>absurd z (by rw[show decide (x.cps.toList<y.cps.toList)=false from aR];decide)) (fun _=>?_);have q:=q H5 s5;rw[aR]at q;exact q
      | true=>
       refine av (fun _=>?_) (fun z=>absurd aR z);rw[aR,eu]at q;refine⟨_,rfl,t,_,_,_,rfl,rfl,ak.of Jp,rD,_,rfl,D,_,rfl,.inl (ah.of d5),rfl,pR _,_,rfl,?_⟩;refine av (fun h=>?_) (fun h=>?_)
       . have h1:=rN.mp h;rw[aE h1,eu]at q;refine⟨_,rfl,t,_,_,_,rfl,rfl,ak.of Jp,rD,?_⟩;refine⟨_,rfl,to,_,_,_,rfl,rfl,ak.of (s5 _ _ g1),b3,gW,rfl,⟨_,ah.of (s5 _ _ g3)⟩,?_⟩;intro D2 Dm;have f9:=(few o (uJ oF)).fs;have Jq:=aX g4 fun _ _ z=>eJ.same s5 z;have rR:=aP Jq;refine rM (σ0:=[none,none]) Dm (ah.of (s5 _ _ g3)) (fun σ=>∃u v,σ=[u,v]) (fun j zs _=>zs=((bQ o).take j).map V.str) ⟨_,_,rfl⟩ rfl ?_ ?_
         . rintro j y zs σ H6 k hy ⟨u,v,rfl⟩ C9 s6 rfl cQ;obtain⟨f,hf,t3,l3,rfl,f1,f2⟩:=bO Jq hy;have i5:(bQ o)[j]?=some f.1:=by unfold bQ;rw[dq,hf];rfl
           have aR:=(bW.mp hf).1;refine⟨t3,_,rfl,ak.of (s6 _ _ f1),rfl,_,_,rfl,_,_,rfl,rfl,?_⟩;refine⟨_,rfl,cQ _ _ _ ⟨_,_,rfl⟩ (af.refl _) (bq (by rw[aK,eV];omega)) ?_⟩;rw[i6 i5,eA];rfl
         rintro zs H6 d6 s6 rfl;have e6:(bQ o).take y8.length=bQ o:=ww (by unfold bQ;rw[aK];omega);rw[e6]at d6;refine⟨D2,_,rfl,.inl (ah.of d6),rfl,pR _,?_⟩;have e:jS (.str z) ((bQ o).map V.str)=decide (z∈bQ o):=by
          rw[lr,rN,EL]
         have q:=q H6 (s5.trans s6);rw[←e]at q;exact q
       . have h1:¬z∈bQ p:=fun m=>h (rN.mpr m);have q:=q H5 s5;rw[ba h1,cU]at q;exact q
end
def iJ(ws:List cO)(n:Nat):List cf:=(List.range n).map fun(k:Nat)=>.wish (0+(k:Int))
def jf(p:bp)(n:Nat):List cf:=(List.range n).map fun(k:Nat)=>.need p.nm (0+(k:Int))
def kt(p o:bp)(n:Nat):List cf:=(List.range n).map fun(k:Nat)=>.shut p.nm (0+(k:Int)) o.nm
def sr(p o:bp):List cf:=(bQ p).map fun z=>.clash p.nm o.nm z
def qi(p:bp)(qs:Lp):List cf:=qs.flatMap fun o=>kt p o p.ss.length++sr p o
def k8(qs rs:Lp):List cf:=rs.flatMap fun p=>jf p p.ns.length++qi p qs
abbrev jA (de:Dec) (p:bp):Bool:=decide (bK de p.nm=some p.ms)
theorem vk{ps:Lp}{de:Dec}{x:Str}{p:bp}(h:bM ps de x=some p):p∈ps.filter (jA de)/\p.nm=x:=by
 obtain⟨h1,h2,h3⟩:=vg h;exact⟨iQ.mpr ⟨h1,aE (by rw[h2];exact h3)⟩,h2⟩
theorem Dq{n:Int}{k:Nat}(h:cD n k=true):∃j∈List.range k,(0+(j:Int))=n:=by
 obtain⟨h1,h2⟩:=gw.mp h;have h1:=aL h1;have h2:=aL h2;exact⟨n.toNat,lq.mpr (by omega),by omega⟩
theorem ac0{ps:Lp}{ws:List cO}{de:Dec}{r:cf}(h:gp ps ws de r=true):r∈iJ ws ws.length++k8 (ps.filter (jA de)) (ps.filter (jA de)):=by
 cases r with
 | odd k hk=>cases h
 | wish n=>
  have h:kR ps ws de n=true:=h;unfold kR at h;obtain⟨j,hj,e⟩:=Dq (gw.mp h).1;exact zR _ (cP.mpr ⟨j,hj,by rw[e]⟩)
 | need x n=>
  have h:kS ps de x n=true:=h;unfold kS at h;cases hp:bM ps de x with
  | none=>rw[hp]at h;cases h
  | some p=>
   rw[hp]at h;obtain⟨p1,p2⟩:=vk hp;obtain⟨j,hj,e⟩:=Dq (gw.mp h).1;refine ie _ (sM.mpr ⟨p,p1,zR _ (cP.mpr ⟨j,hj,by rw[e,p2]⟩)⟩)
 | shut x n y=>
  have h:kT ps de x n y=true:=h;unfold kT at h;cases hp:bM ps de x with
  | none=>rw[hp]at h;cases h
  | some p=>
   rw[hp]at h;dsimp only at h;cases ho:bM ps de y with
   | none=>rw[ho]at h;cases h
   | some o=>
    rw[ho]at h;obtain⟨p1,p2⟩:=vk hp;obtain⟨o1,o2⟩:=vk ho;obtain⟨j,hj,e⟩:=Dq (gw.mp (gw.mp h).2).1;refine ie _ (sM.mpr ⟨p,p1,ie _ (sM.mpr ⟨o,o1,zR _ (cP.mpr ⟨j,hj,by rw[e,p2,o2]⟩)⟩)⟩)
 | clash x y z=>
  have h:kU ps de x y z=true:=h;unfold kU at h;cases hp:bM ps de x with
  | none=>rw[hp]at h;cases h
  | some p=>
   rw[hp]at h;dsimp only at h;cases ho:bM ps de y with
   | none=>rw[ho]at h;cases h
   | some o=>
    rw[ho]at h;obtain⟨p1,p2⟩:=vk hp;obtain⟨o1,o2⟩:=vk ho;have hz:=aL (gw.mp (gw.mp h).2).1;refine ie _ (sM.mpr ⟨p,p1,ie _ (sM.mpr ⟨o,o1,ie _ (cP.mpr ⟨z,hz,by rw[p2,o2]⟩)⟩)⟩)
theorem Dr{α β:Type}{f:α->List β}{m:Nat}:∀l:List α,(∀x∈l,(f x).length<=m)->(l.flatMap f).length<=l.length * m
 | [],_=>by simp
 | x::r,h=>by
  rw[List.flatMap_cons,be,cV,Nat.succ_mul];have:=h x (.head _);have:=Dr r fun y hy=>h y (.tail _ hy);omega
theorem Jr{p:bp}(hf:nC p)(qs:Lp):(qi p qs).length<=qs.length * 5:=Dr _ fun o _=>by
 have:=hf.ss;have:=hf.fs;unfold kt sr bQ;rw[be,aK,aK,aK,jG];omega
theorem Js{qs rs:Lp}(hf:∀p∈rs,nC p)(hq:qs.length<=9):(k8 qs rs).length<=rs.length * 47:=Dr _ fun p hp=>by
 have:=(hf p hp).ns;have:=Jr (hf p hp) qs;unfold jf;rw[be,aK,jG];omega
theorem zd{H H5:Hp}{D p:Addr}{ys:Lv}{rs:List cf}{r:cf}(hd:H D=some (.lst ys))(s:af H H5)(e:H5 p=some (.tup (r.ats.map aV)))(h:Paired (eM H) ys rs):Paired (eM (al H5 D (.lst (ys++[.ref p])))) (ys++[.ref p]) (rs++[r]):=by
 have uX:=s _ _ hd;refine dJ ⟨p,rfl,aZ e fun z=>?_⟩ (aX h fun v r ac1=>ac1.elim fun t ac2=>ac2.elim fun e1 e2=>⟨t,e1,aZ (s _ _ e2) fun z=>?_⟩)
 . rw[z,hd]at e2;cases e2
 . rw[z,uX]at e;cases e
section
variable {P:Program}{w:World}{K:Fg}{mg:Mv}{base:Heap}
def Dt:Sp:=fun vs H Q _=>∃(a wl d:Addr) (xs:Lv) (ps:Lp) (xw:Lv) (ws:List cO) (de:Dec),vs=[.ref a,.ref wl,.ref d]/\H a=some (.lst xs)/\gK H xs ps/\ps.length<=9/\(∀p∈ps,nC p)/\H wl=some (.lst xw)/\Paired (cR H) xw ws/\ws.length<=9/\dm H d de/\c9 ps de /\
 ∀D zs rs H',H D=none->af H H'->H' D=some (.lst zs)->Paired (eM H') zs rs->rs.length<=500->(∀r,gp ps ws de r=true->r∈rs)->Q (.ref D) H'
theorem oG:bo [aif,aim,aig,ajy,ajq,ain,aiE] [aif,aim,aig] (aO rB):=bu
theorem Jt{f fk dY dZ ee:Addr}{fd iK hV hX hZ:Fy}(F:aj K aiM aiM rB f fd)(B:cj mg)(eQ:aj K aiw aiw lZ fk iK)(gr:mg aiw=some (.ref fk))(ef:aj K aiB aiB kM dY hV)(fh:mg aiB=some (.ref dY))(eO:aj K aiq aiq kN dZ hX)(fG:mg aiq=some (.ref dZ))
 (eh:aj K aiv aiv kL ee hZ) (fi:mg aiv=some (.ref ee)):ao P w K mg base aq 3 f fd [aif,aim,aig] Dt:=by
 have Du:ao P w K mg base aq 2 fk iK [aif,aim,aig,aiG] Di:=Ji eQ B ef fh eO fG eh fi;have Dv:=eQ.binds4 (l:=[aif,aim,aig,aiG]) (fun _ _ _ _ _ _ _ _ _ _=>rfl);refine F.okL oG ?_
 . intro aG A outer s H vs Q E hr h xX dX;obtain⟨a,wl,d,xs,ps,xw,ws,de,rfl,ha,a8,l9,few,cm,cS,w9,bL,bU,q⟩:=h;have hu:=hr.units;have dN:=hr.units0;have xl:=aP a8;have wll:=aP cS;refine⟨_,(ar (jY (i:=3) [aip] [] [] oG.nd rfl rfl cC rfl (jN rfl B.range (aa (b8 dH (by rfl) B.len eE (aa (pv 1) ac)) ac)) (fun _ _ _ _=>(bi (i:=0) (show List.Nodup ([aip]:Ls) by decide +kernel) rfl (Or.inl rfl))) (fun _ _ _ _=>fz) (fun _ _ _ _=>(br (aa bh (aa (pv 0) ac)))))
    (ar (jY (i:=4) [ain] [aig] [2] oG.nd rfl rfl cC rfl (cJ (pv 0)) (fun _ _ _ _=>(bi (i:=0) (show List.Nodup ([ain,aig]:Ls) by decide +kernel) rfl (Or.inl rfl))) (fun _ _ _ _=>jp (bd (Dd K hu) (tF hu (pv 1) (au (cK K) (pv 0) ae (fun _ _=>rfl)) ⟨rfl,rfl,rfl,rfl⟩) (au (cK K) (pv 0) ae (fun _ _=>rfl)) (aJ _))) (fun _ _ _ _=>(pv 0)))
    (ar (iU jH rfl (cJ (pv 4)) (bi (i:=5) oG.nd rfl (Or.inr rfl))
    (ar (aY (i:=3) oG.nd rfl (Or.inl rfl) (aH iu (pv 3) (fA [aip] [ain] [5] cC rfl (jN rfl B.range (aa (b8 dH (by rfl) B.len eE (aa (au aQ (pv 5) ae (fun _ _=>rfl)) ac)) ac)) (fun _ _ _ _=>(bi (i:=0) (show List.Nodup ([aip,ain]:Ls) by decide +kernel) rfl (Or.inl rfl))) (fun _ _ _ _=>fz) (fun _ _ _ _=>(br (aa bh (aa (au (cK K) (pv 1) ae (fun _ _=>rfl)) (aa (pv 0) ac))))))))
     (aF (iU jH rfl (cJ (pv 4)) (bi (i:=6) oG.nd rfl (Or.inr rfl))
     (ar (aY (i:=3) oG.nd rfl (Or.inl rfl) (aH iu (pv 3) (fA [aip] [ain,aiE] [5,6] cC rfl (jN rfl B.range (aa (b8 dH (by rfl) B.len eE (aa (au aQ (pv 5) ae (fun _ _=>rfl)) ac)) ac)) (fun _ _ _ _=>(bi (i:=0) (show List.Nodup ([aip,ain,aiE]:Ls) by decide +kernel) rfl (Or.inl rfl))) (fun _ _ _ _=>fz) (fun _ _ _ _=>(br (aa bh (aa (au (cK K) (pv 1) ae (fun _ _=>rfl)) (aa (pv 0) (aa (au (cK K) (pv 2) ae (fun _ _=>rfl)) ac)))))))))
      (aF (aY (i:=3) oG.nd rfl (Or.inl rfl) (aH iu (pv 3) (fA [aiR,aiT] [ain,aiE] [5,6] cC rfl (cJ (au aQ (pv 5) ae (fun _ _=>rfl))) (fun _ _ _ _=>(uv (n:=2) K rfl (ft (bi (i:=0) (show List.Nodup ([aiR,aiT,ain,aiE]:Ls) by decide +kernel) rfl (Or.inl rfl)) (ft (bi (i:=1) (show List.Nodup ([aiR,aiT,ain,aiE]:Ls) by decide +kernel) rfl (Or.inl rfl)) lH)))) (fun _ _ _ _=>fz) (fun _ _ _ _=>(br (aa bh (aa (au (cK K) (pv 2) ae (fun _ _=>rfl)) (aa (au (cK K) (pv 3) ae (fun _ _=>rfl)) (aa (pv 0) ac)))))))))))))))
    (aF (aN (fA [aiG] [aif,aim,aig] [0,1,2] cC rfl (cJ (pv 3)) (fun _ _ _ _=>(bi (i:=0) (show List.Nodup ([aiG,aif,aim,aig]:Ls) by decide +kernel) rfl (Or.inl rfl))) (fun _ _ _ _=>jp (im (aI Du hr rfl gr eQ.kp Dv .nil az (aa (pv 1) (aa (pv 2) (aa (pv 3) (aa (pv 0) ac))))))) (fun _ _ _ _=>(pv 0)))))))),?_⟩
   refine pG ?_;intro dD sS u4 u3 u2;refine⟨_,rfl,wl,_,rfl,.inl (ah.of cm),(xw.length:Int),rfl,by omega,by omega,?_⟩;refine nr (σ0:=[none]) (fun σ=>∃v,σ=[v]) (fun i ys H8=>Paired (eM H8) ys (iJ ws i)) ⟨_,rfl⟩ (fun _ _=>.nil) ?_ ?_
   . rintro D i ys σ H8 k hD hi ⟨v,rfl⟩ hd hs hP hk;have yl:=aP hP;have Ju:(iJ ws i).length=i:=by unfold iJ;rw[aK,jG]
     refine⟨_,rfl,(by show 2<=sizeLine;decide),fun p1 H9 n9 s9 e9=>?_⟩;refine hk _ _ _ ⟨_,rfl⟩ s9 (bq (by omega)) ?_;rw[show iJ ws (i+1)=iJ ws i++[.wish (0+(i:Int))] by unfold iJ;rw[EN,eA];rfl];exact zd (r:=.wish (0+(i:Int))) hd s9 e9 hP
   rintro D1 y1 H1 B5 d1 s1 Jv;rw[show((xw.length:Int)).toNat=ws.length by omega]at Jv;refine⟨_,rfl,a,rfl,⟨_,ah.of (s1 _ _ ha)⟩,?_⟩;intro D hD;have ac3:=a8.same s1;obtain⟨ab,j5,pr⟩:=bL.same s1;refine ka (σ0:=[none,some (.ref d)]) hD (ah.of (s1 _ _ ha)) (fun σ=>∃v,σ=[v,some (.ref d)]) (fun j zs _=>zs.length<=j/\gK H1 zs ((ps.take j).filter (jA de))) ⟨_,rfl⟩ ⟨aS _,.nil⟩ ?_ ?_
   . rintro j y zs σ H3 k k' hy ⟨v,rfl⟩ pS h3 ⟨zl,zp⟩ cQ ff;obtain⟨p,hp,hE⟩:=bO ac3 hy;obtain⟨t,m,fa,na,sa,oa,fx,rfl,h1,h2,_⟩:=id hE;have aR:=(bW.mp hp).1;have a0:aM [V.str p.nm,.ref m,.int p.rk,.ref fa,.ref na,.ref sa,.ref oa] 0=some (V.str p.nm):=rfl;have a1:aM [V.str p.nm,.ref m,.int p.rk,.ref fa,.ref na,.ref sa,.ref oa] 1=some (V.ref m):=rfl;have fs:=uc (f:=jA de) hp;obtain⟨d1,o1⟩:=rO (K:=K) ((yz (x:=p.nm) pr).same h3);obtain⟨d2,o2⟩:=rO (K:=K) (show ce H3 (.ref m) (some p.ms) from ⟨m,rfl,h3 _ _ h2⟩);refine⟨_,rfl,d,rfl,.inl ⟨_,.inl (h3 _ _ j5)⟩,_,rfl,t,_,_,_,rfl,rfl,ak.of (h3 _ _ h1),a0,_,cw.k (k:=.inr p.nm) (h3 _ _ j5),_,rfl,t,_,_,_,rfl,rfl,ak.of (h3 _ _ h1),a1,_,_,d1,d2,o1,o2,fun bb hb=>⟨_,rfl,?_⟩⟩;refine av (fun h=>?_) (fun h=>?_)
     . have mw:jA de p=true:=aE (Ca (hb.mp h));refine⟨_,rfl,cQ _ _ _ ⟨_,rfl⟩ (af.refl _) (bq (by omega)) ⟨by rw[be,jE];omega,?_⟩⟩;rw[fs,aB mw];exact dJ hE zp
     . have mw:¬jA de p=true:=fun z=>h (hb.mpr (by rw[aL z]));refine ff _ _ ⟨_,rfl⟩ (af.refl _) ⟨by omega,?_⟩;rw[fs,ap mw,fL];exact zp
   rintro zs H0 d0 s0 ⟨zl,iH⟩;rw[xl,eB]at iH;have iH:=iH.same s0;have Jw:∀p,p∈ps.filter (jA de)->p∈ps:=fun p h=>(iQ.mp h).1;have q9:(ps.filter (jA de)).length<=9:=eU (L6 _ _) l9;have Dw:∀r,gp ps ws de r=true->r∈iJ ws ws.length++k8 (ps.filter (jA de)) (ps.filter (jA de)):=fun r h=>ac0 h;generalize ps.filter (jA de)=qs at iH Jw q9 Dw;have vl:=aP iH;have cwl:(iJ ws ws.length).length<=9:=by unfold iJ;rw[aK,jG];exact w9
   have Dx:∀p∈qs,nC p:=fun p h=>few p (Jw p h);have cz:=s1.trans s0;refine⟨_,rfl,D,rfl,⟨_,ah.of d0⟩,?_⟩;refine lI (xs:=zs) (fun i σ H2=>∃l u5 u6 ys,σ=[some (.ref a),some (.ref wl),some (.ref d),some (.ref l),some (.ref D),u5,u6]/\af H0 H2/\H2 l=some (.lst ys)/\Paired (eM H2) ys (iJ ws ws.length++k8 qs (qs.take i))) ⟨D1,none,none,y1,rfl,af.refl _,s0 _ _ d1,by rw[wz];exact(by rw[show k8 qs []=[] from rfl,fL];exact aX Jv fun _ _ z=>z.same s0)⟩ ?_ ?_ ?_
   . rintro i σ H2 hi ⟨l,u5,u6,ys,rfl,s2,_⟩;exact ah.of (s2 _ _ d0)
   . intro i z σ H2 hz hQ;refine cL ?_;intro tT;obtain⟨l,u5,u6,ys,rfl,s2,hl,hP⟩:=hQ;obtain⟨p,hp,hE⟩:=bO iH hz;have pm:=gO hp;have Dy:=(bW.mp hp).1;have pf:=Dx p pm;have n2:=pf.ns;have m2:=pf.ss;have f3:=pf.fs;obtain⟨t,m,fa,na,sa,oa,fx,rfl,h1,h2,h3,h4,⟨nx,h5,sn⟩,⟨sx,h6,Db⟩,h7⟩:=id hE;have nl:=aP sn;have sl:=aP Db;have fl:=aP h4;have a0:aM [V.str p.nm,.ref m,.int p.rk,.ref fa,.ref na,.ref sa,.ref oa] 0=some (V.str p.nm):=rfl;have a3:aM [V.str p.nm,.ref m,.int p.rk,.ref fa,.ref na,.ref sa,.ref oa] 3=some (V.ref fa):=rfl;have a4:aM [V.str p.nm,.ref m,.int p.rk,.ref fa,.ref na,.ref sa,.ref oa] 4=some (V.ref na):=rfl;have a5:aM [V.str p.nm,.ref m,.int p.rk,.ref fa,.ref na,.ref sa,.ref oa] 5=some (V.ref sa):=rfl;have yl:=aP hP;have rX:=Js (qs:=qs) (rs:=qs.take i) (fun p h=>Dx p (List.mem_of_mem_take h)) q9;rw[be]at yl;rw[eV]at rX;refine lU ?_
     intros
     refine⟨_,rfl,_,rfl,t,_,_,_,rfl,rfl,ak.of (s2 _ _ h1),a4,na,_,rfl,.inl (ah.of (s2 _ _ h5)),(nx.length:Int),rfl,by omega,by omega,?_⟩;refine nr (σ0:=[none,some (.ref t)]) (fun σ=>∃v,σ=[v,some (.ref t)]) (fun i ys H8=>Paired (eM H8) ys (jf p i)) ⟨_,rfl⟩ (fun _ _=>.nil) ?_ ?_
     . rintro Dc j yc σ H8 k q0 hj ⟨v,rfl⟩ hd hs oH hk;have yl:=aP oH;have Ju:(jf p j).length=j:=by unfold jf;rw[aK,jG]
       refine⟨_,rfl,t,_,_,_,rfl,rfl,ak.of (hs _ _ (s2 _ _ h1)),a0,_,rfl,(by show 3<=sizeLine;decide),fun p1 H9 n9 s9 e9=>?_⟩;refine hk _ _ _ ⟨_,rfl⟩ s9 (bq (by omega)) ?_;rw[show jf p (j+1)=jf p j++[.need p.nm (0+(j:Int))] by unfold jf;rw[EN,eA];rfl];exact zd (r:=.need p.nm (0+(j:Int))) hd s9 e9 oH
     rintro Dn yn H3 xm dn s3 qj;rw[show((nx.length:Int)).toNat=p.ns.length by omega]at qj;have ynl:=aP qj;have cnl:(jf p p.ns.length).length<=2:=by unfold jf;rw[aK,jG];exact n2
     refine⟨l,Dn,_,_,rfl,rfl,s3 _ _ hl,dn,iR (bq (by omega)),fun l2 H4 n4 s4 e4=>?_⟩;have Jx:=s3.trans s4;have dW:=s2.trans Jx;refine⟨_,rfl,D,rfl,⟨_,ah.of (dW _ _ d0)⟩,?_⟩;refine lI (xs:=zs) (fun j σ H5=>∃l u6 ys,σ=[some (.ref a),some (.ref wl),some (.ref d),some (.ref l),some (.ref D),some (.ref t),u6]/\af H0 H5/\H5 l=some (.lst ys)/\Paired (eM H5) ys ((iJ ws ws.length++k8 qs (qs.take i))++(jf p p.ns.length++qi p (qs.take j)))) ⟨l2,u6,_,rfl,dW,e4,by rw[wz,show qi p []=[] from rfl,fL];exact yo (aX hP fun _ _ z=>z.same Jx) (aX qj fun _ _ z=>z.same s4)⟩ ?_ ?_ ?_
     . rintro j σ H5 hj ⟨l,u6,ys,rfl,s5,_⟩;exact ah.of (s5 _ _ d0)
     . intro j y σ H5 hy hQ;refine cL ?_;intro tT;obtain⟨l,u6,ys,rfl,s5,hl,hP⟩:=hQ;obtain⟨o,ho,hEo⟩:=bO iH hy;have ze:=(bW.mp ho).1;obtain⟨to,m2',gW,mz,mB,mC,y8,rfl,g1,_⟩:=id hEo;have b0:aM [V.str o.nm,.ref m2',.int o.rk,.ref gW,.ref mz,.ref mB,.ref mC] 0=some (V.str o.nm):=rfl;have yl:=aP hP;have col:=Jr pf (qs.take j);rw[eV]at col;rw[be,be,be]at yl;refine⟨_,rfl,_,rfl,t,_,_,_,rfl,rfl,ak.of (s5 _ _ h1),a5,sa,_,rfl,.inl (ah.of (s5 _ _ h6)),(sx.length:Int),rfl,by omega,by omega,?_⟩;refine nr (σ0:=[none,some (.ref t),some (.ref to)]) (fun σ=>∃v,σ=[v,some (.ref t),some (.ref to)]) (fun i ys H8=>Paired (eM H8) ys (kt p o i)) ⟨_,rfl⟩ (fun _ _=>.nil) ?_ ?_
       . rintro Dc j yc σ H8 k q0 hj ⟨v,rfl⟩ hd hs oH hk;have yl:=aP oH;have Ju:(kt p o j).length=j:=by unfold kt;rw[aK,jG]
         refine⟨_,rfl,t,_,_,_,rfl,rfl,ak.of (hs _ _ (s5 _ _ h1)),a0,_,rfl,_,rfl,to,_,_,_,rfl,rfl,ak.of (hs _ _ (s5 _ _ g1)),b0,(by show 4<=sizeLine;decide),fun p1 H9 n9 s9 e9=>?_⟩;refine hk _ _ _ ⟨_,rfl⟩ s9 (bq (by omega)) ?_;rw[show kt p o (j+1)=kt p o j++[.shut p.nm (0+(j:Int)) o.nm] by unfold kt;rw[EN,eA];rfl];exact zd (r:=.shut p.nm (0+(j:Int)) o.nm) hd s9 e9 oH
       rintro Dn yn H6 xm dn s6 qj;rw[show((sx.length:Int)).toNat=p.ss.length by omega]at qj;have ynl:=aP qj;have ahB:(kt p o p.ss.length).length<=2:=by unfold kt;rw[aK,jG];exact m2
       refine⟨l,Dn,_,_,rfl,rfl,s6 _ _ hl,dn,iR (bq (by omega)),fun l3 H7 n7 s7 e7=>?_⟩;have ku:=s5.trans (s6.trans s7);have h4':=aX h4 fun _ _ z=>eJ.same ku z;refine⟨_,rfl,_,rfl,t,_,_,_,rfl,rfl,ak.of (ku _ _ h1),a3,fa,rfl,⟨_,ah.of (ku _ _ h3)⟩,?_⟩;intro Df hDf;refine rM (σ0:=[none,none,some (.ref t),some (.ref to)]) hDf (ah.of (ku _ _ h3)) (fun σ=>∃u v,σ=[u,v,some (.ref t),some (.ref to)]) (fun j ys H8=>Paired (eM H8) ys (((bQ p).take j).map fun z=>.clash p.nm o.nm z)) ⟨_,_,rfl⟩ .nil ?_ ?_
       . rintro j y yc σ H8 k hy ⟨u,v,rfl⟩ hd hs oH hk;obtain⟨f,hf,t3,l3,rfl,f1,f2⟩:=bO h4' hy;have i5:(bQ p)[j]?=some f.1:=by unfold bQ;rw[dq,hf];rfl
         have aR:=(bW.mp hf).1;have yl:=aP oH;rw[aK,eV]at yl;refine⟨t3,_,rfl,ak.of (hs _ _ f1),rfl,_,_,rfl,_,_,rfl,rfl,?_⟩;refine⟨_,rfl,t,_,_,_,rfl,rfl,ak.of (hs _ _ (ku _ _ h1)),a0,_,rfl,to,_,_,_,rfl,rfl,ak.of (hs _ _ (ku _ _ g1)),b0,_,rfl,(by show 4<=sizeLine;decide),fun p1 H9 n9 s9 e9=>?_⟩;refine hk _ _ _ ⟨_,_,rfl⟩ s9 (bq (by omega)) ?_;rw[i6 i5,eA];exact zd (r:=.clash p.nm o.nm f.1) hd s9 e9 oH
       rintro yf H8 df s8 zf;have e8:(bQ p).take fx.length=bQ p:=ww (by unfold bQ;rw[aK,fl];exact aS _);rw[e8]at zf;have yfl:=aP zf;have cfl:(sr p o).length<=3:=by unfold sr bQ;rw[aK,aK];exact f3
       rw[show((bQ p).map fun z=>cf.clash p.nm o.nm z)=sr p o from rfl]at zf yfl;refine⟨l3,Df,_,_,rfl,rfl,s8 _ _ e7,df,iR (bq (by rw[be];omega)),fun l4 H9 n9 s9 e9=>?_⟩;have Jy:=s8.trans s9;have vm:=s7.trans Jy;refine⟨l4,_,_,rfl,ku.trans Jy,e9,?_⟩;rw[show qi p (qs.take (j+1))=qi p (qs.take j)++(kt p o p.ss.length++sr p o) from BG ho,←oZ,←oZ,←oZ];refine yo (yo ?_ (aX qj fun _ _ z=>z.same vm)) (aX zf fun _ _ z=>z.same s9);rw[oZ _ (jf p p.ns.length)];exact aX hP fun _ _ z=>z.same (s6.trans vm)
     . intro σ H5 hQ;refine cL ?_;intro tT;obtain⟨l,u6,ys,rfl,s5,hl,hP⟩:=hQ;rw[vl,eB]at hP;refine⟨l,_,_,ys,rfl,s5,hl,?_⟩;rw[show k8 qs (qs.take (i+1))=k8 qs (qs.take i)++(jf p p.ns.length++qi p qs) from BG hp,←oZ];exact hP
   . intro σ H2 hQ;refine cL ?_;intro tT;obtain⟨l,u5,u6,ys,rfl,s2,hl,hP⟩:=hQ;rw[vl,eB]at hP;have rX:=Js (qs:=qs) (rs:=qs) Dx q9;have yl:=aP hP;have Jz:(iJ ws ws.length++k8 qs qs).length<=500:=by rw[be];omega
     generalize iJ ws ws.length++k8 qs qs=rs at hP Dw yl Jz;have bR:=cz.trans s2;refine⟨_,rfl,l,rfl,⟨_,ah.of hl⟩,?_⟩;intro De JA;refine ka (σ0:=[none,some (.ref a),some (.ref wl),some (.ref d)]) JA (ah.of hl) (fun σ=>∃v,σ=[v,some (.ref a),some (.ref wl),some (.ref d)]) (fun j zs _=>zs.length<=j/\Paired (eM H2) zs ((rs.take j).filter (gp ps ws de))) ⟨_,rfl⟩ ⟨aS _,.nil⟩ ?_ ?_
     . rintro j y zs σ H3 k k' hy ⟨v,rfl⟩ pS h3 ⟨zl,zp⟩ cQ ff;obtain⟨r,zg,hE⟩:=bO hP hy;have aR:=(bW.mp zg).1;have dL:=bR.trans h3;have fs:=uc (f:=gp ps ws de) zg;refine⟨_,rfl,_,rfl,_,rfl,_,rfl,a,wl,d,y,xs,ps,xw,ws,de,r,rfl,dL _ _ ha,a8.same dL,l9,few,dL _ _ cm,aX cS (fun _ _ z=>z.same dL),bL.same dL,bU,hE.same h3,fun H5 s5=>⟨_,rfl,?_⟩⟩;refine av (fun h=>?_) (fun h=>?_)
       . refine⟨_,rfl,cQ _ _ _ ⟨_,rfl⟩ s5 (bq (by omega)) ⟨by rw[be,jE];omega,?_⟩⟩;rw[fs,aB h];exact dJ hE zp
       . refine ff _ _ ⟨_,rfl⟩ s5 ⟨by omega,?_⟩;rw[fs,ap h,fL];exact zp
     rintro cZ H3 d3 s3 ⟨_,hz⟩;rw[yl,eB]at hz;exact q De cZ _ H3 (bR.free JA) (bR.trans s3) d3 (aX hz fun _ _ z=>z.same s3) (eU (L6 _ _) Jz) fun r h=>iQ.mpr ⟨Dw r h,h⟩
end
theorem Dz{l:Lv}{R:V->Prop}{n:Int}(hn:(l.length:Int)=n)(h0:0<n)(d:Int)(h:∀v∈l,R v):∃v,aM l (d % n)=some v/\R v:=by
 have a:=Int.emod_nonneg d (by omega:n≠0);have b:=Int.emod_lt_of_pos d h0;have aR:(d % n).toNat<l.length:=by omega
 exact⟨_,y7 a (dg aR),h _ (Ab aR)⟩
section
variable {P:Program}{w:World}{K:Fg}{mg:Mv}{base:Heap}
def JB:Sp:=fun vs H Q _=>∃(na:Addr) (c k:Int) (xs:Ls),vs=[.ref na,.int c,.int k]/\0<=k/\k<=100/\H na=some (.lst (xs.map V.str))/\rF xs/\∀v H' w,af H H'->cR H' v w->Q v H'
theorem zh:bo [aii,aih,aip,aiC,"_law_least","_law_below"] [aii,aih,aip] (aO xU):=bu
theorem ada{f cH:Addr}{fd dS:Fy}(F:aj K ajr ajr xU f fd)(aT:aj K aiu aiu j8 cH dS)(bg:mg aiu=some (.ref cH)):ao P w K mg base aq 2 f fd [aii,aih,aip] JB:=by
 have bD:ao P w K mg base aq 1 cH dS [aih,aip] pL:=rE aT;have bE:=aT.binds2 (l:=[aih,aip]) (fun _ _ _ _ _ _ _ _=>rfl);refine F.okL zh ?_
 . intro aG A outer s H vs Q E hr h xX dX;obtain⟨na,c,k,xs,rfl,k0,k1,fc,hN,q⟩:=h;refine⟨_,(ar (aY (i:=3) zh.nd rfl (Or.inl rfl) (au dh (aH iu (aH iu (pA pD (pv 0) qS (nn ae)) (pA pD (pv 0) qS (nn ae))) (cG (aa bh ac))) (aH bC (aI bD hr rfl bg aT.kp bE .nil az (aa (pv 1) (aa (pv 2) ac))) ae) (fun _ _=>rfl)))
    (ar (bA (bd bZ (aH bC (aI bD hr rfl bg aT.kp bE .nil az (aa (pv 1) (aa (aH du (pv 2) ae) ac))) ae) ae (aJ _))
    (aF (aN (br (aa bh (aa (pv 3) ac))))) bw)
    (ar (aY (i:=4) zh.nd rfl (Or.inl rfl) (au dh (cG (aa (br ac) (aa (br ac) (aa (br (aa (aH bC (aI bD hr rfl bg aT.kp bE .nil az (aa (pv 1) (aa (aH du (pv 2) ae) ac))) ae) ac)) ac)))) (aH bC (aI bD hr rfl bg aT.kp bE .nil az (aa (pv 1) (aa (aH du (pv 2) ae) ac))) ae) (fun _ _=>rfl)))
    (ar (aY (i:=5) zh.nd rfl (Or.inl rfl) (au dh (cG (aa cI (aa cI (aa (br (aa (aH du ae (aH bC (aI bD hr rfl bg aT.kp bE .nil az (aa (pv 1) (aa (aH du (pv 2) ae) ac))) ae)) ac)) ac)))) (aH bC (aI bD hr rfl bg aT.kp bE .nil az (aa (pv 1) (aa (aH du (pv 2) ae) ac))) ae) (fun _ _=>rfl)))
    (aF (aN (br (aa bh (aa (pv 3) (aa (pv 4) (aa (pv 5) ac))))))))))),?_⟩
   refine tO ?_;intro dD sS ya j9 i8 eZ;have t4:(xs.take (4:Int).toNat).length=4:=by rw[eV,hN.len];rfl
   refine⟨_,rfl,_,rfl,na,_,rfl,ah.of fc,fun p1 H1 n1 s1 e1=>?_⟩;rw[q8,tN (by decide)]at e1;refine⟨_,rfl,_,rfl,na,_,rfl,ah.of (s1 _ _ fc),fun p2 H2 n2 s2 e2=>?_⟩;rw[q8,tN (by decide)]at e2;refine⟨p1,p2,_,_,rfl,rfl,s2 _ _ e1,e2,iw (by rw[aK,t4];decide),fun p3 H3 n3 s3 e3=>?_⟩;refine⟨(by show 1<=sizeLine;decide),fun p4 H4 n4 s4 e4=>?_⟩;refine⟨p3,p4,_,_,rfl,rfl,s4 _ _ e3,e4,iw (by rw[be,aK,t4];decide),fun p5 H5 n5 s5 e5=>?_⟩;have e5':H5 p5=some (.lst ((xs.take (4:Int).toNat++xs.take (4:Int).toNat++[mo]).map V.str)):=by rw[e5,eA,eA];rfl
   refine⟨_,rfl,_,rfl,c,k,rfl,by omega,by omega,fun d0 _=>?_⟩;obtain⟨z,hz,_⟩:=nt (xs:=xs.take (4:Int).toNat++xs.take (4:Int).toNat++[mo]) (r:=d0 % 9) (by omega) (by rw[be,be,t4];show _<((9:Nat):Int);omega);refine⟨_,_,rfl,rfl,(by show(0:Int)<9;decide),p5,_,_,_,rfl,rfl,ah.of e5',hz,?_⟩;refine⟨_,rfl,_,rfl,_,_,rfl,rfl,_,_,rfl,by omega,by omega,fun d1 _=>?_⟩;refine⟨_,_,rfl,rfl,(by show(0:Int)<3;decide),rfl,_,rfl,?_⟩;have gL:=(((s1.trans s2).trans s3).trans s4).trans s5;refine av (fun h=>?_) (fun h=>?_)
   . refine⟨_,rfl,(by show 2<=sizeLine;decide),fun p6 H6 n6 s6 e6=>?_⟩;exact q _ _ ⟨z,none⟩ (gL.trans s6) ⟨p6,rfl,e6⟩
   . refine⟨(by show 0<=sizeLine;decide),fun p7 H7 n7 s7 e7=>?_⟩;refine⟨(by show 0<=sizeLine;decide),fun p8 H8 n8 s8 e8=>?_⟩;refine⟨_,rfl,_,rfl,_,_,rfl,rfl,_,_,rfl,by omega,by omega,fun d2 _=>?_⟩;refine⟨_,_,rfl,rfl,(by show(0:Int)<3;decide),(by show 1<=sizeLine;decide),fun p9 H9 n9 s9 e9=>?_⟩;refine⟨(by show 3<=sizeLine;decide),fun jd gq on cz fE=>?_⟩;refine⟨_,rfl,_,rfl,_,_,rfl,rfl,_,_,rfl,by omega,by omega,fun d3 _=>?_⟩;obtain⟨lv,CY,l,ls,rfl,hl⟩:=rD (a:=.ref p7) (b:=.ref p8) (c:=.ref p9) d3 (R:=fun v=>∃l ls,v=.ref l/\gq l=some (.tup (ls.map V.int))) ⟨_,[],rfl,((s8.trans s9).trans cz) _ _ e7⟩ ⟨_,[],rfl,(s9.trans cz) _ _ e8⟩ ⟨_,[_],rfl,cz _ _ e9⟩;refine⟨_,_,rfl,rfl,(by show(0:Int)<3;decide),jd,_,_,_,rfl,rfl,ah.of fE,CY,?_⟩;refine⟨_,rfl,_,rfl,_,_,rfl,rfl,_,_,rfl,by omega,by omega,fun d5 _=>?_⟩;refine⟨_,_,rfl,rfl,(by show(0:Int)<3;decide),_,_,rfl,rfl,(by show 1<=sizeLine;decide),fun qk qf uY hJ qg=>?_⟩;refine⟨(by show 3<=sizeLine;decide),fun qb r6 CZ bP jy=>?_⟩;refine⟨_,rfl,_,rfl,_,_,rfl,rfl,_,_,rfl,by omega,by omega,fun d6 _=>?_⟩;obtain⟨bv,C0,bl,hb⟩:=rD (a:=.non) (b:=.non) (c:=.ref qk) d6 (R:=fun v=>∃bl,ce r6 v bl) ⟨none,rfl⟩ ⟨none,rfl⟩ ⟨some [_],_,rfl,bP _ _ qg⟩;refine⟨_,_,rfl,rfl,(by show(0:Int)<3;decide),qb,_,_,_,rfl,rfl,ah.of jy,C0,?_⟩;refine⟨_,rfl,_,rfl,_,rfl,(by show 4<=sizeLine;decide),fun oo oq C1 b7 ot=>?_⟩;have su:=(hJ.trans bP).trans b7;exact q _ _ ⟨z,some (ls,bl)⟩ (((((gL.trans s7).trans s8).trans s9).trans cz).trans su) ⟨oo,rfl,l,bv,ot,su _ _ hl,hb.same b7⟩
def JC:Sp:=fun vs H Q _=>∃(na:Addr) (c:Int) (xs:Ls),vs=[.ref na,.int c]/\H na=some (.lst (xs.map V.str))/\rF xs/\∀v H' r,af H H'->eM H' v r->Q v H'
theorem mD:bo [aii,aih,aiC,aiE,"_law_number",aiR,ajq] [aii,aih] (aO ui):=bu
theorem adc{f cH:Addr}{fd dS:Fy}(F:aj K aiK aiK ui f fd)(aT:aj K aiu aiu j8 cH dS)(bg:mg aiu=some (.ref cH)):ao P w K mg base aq 2 f fd [aii,aih] JC:=by
 have bD:ao P w K mg base aq 1 cH dS [aih,aip] pL:=rE aT;have bE:=aT.binds2 (l:=[aih,aip]) (fun _ _ _ _ _ _ _ _=>rfl);refine F.okL mD ?_
 . intro aG A outer s H vs Q E hr h xX dX;obtain⟨na,c,xs,rfl,fc,hN,q⟩:=h;refine⟨_,(ar (aY (i:=2) mD.nd rfl (Or.inl rfl) (au dh (aH iu (pA pD (pv 0) qS (nn ae)) (cG (aa bh ac))) (aH bC (aI bD hr rfl bg aT.kp bE .nil az (aa (pv 1) (aa ae ac))) ae) (fun _ _=>rfl)))
    (ar (aY (i:=3) mD.nd rfl (Or.inl rfl) (au dh (aH iu (pA pD (pv 0) qS (nn ae)) (cG (aa bh ac))) (aH bC (aI bD hr rfl bg aT.kp bE .nil az (aa (pv 1) (aa ae ac))) ae) (fun _ _=>rfl)))
    (ar (aY (i:=4) mD.nd rfl (Or.inl rfl) (aH Fc (aH bC (aI bD hr rfl bg aT.kp bE .nil az (aa (pv 1) (aa ae ac))) ae) ae))
    (ar (aY (i:=5) mD.nd rfl (Or.inl rfl) (au dh (cG (aa bh (aa bh (aa bh ac)))) (aH bC (aI bD hr rfl bg aT.kp bE .nil az (aa (pv 1) (aa ae ac))) ae) (fun _ _=>rfl)))
    (ar (aY (i:=6) mD.nd rfl (Or.inl rfl) (cG (aa (br (aa bh (aa (pv 4) ac))) (aa (br (aa bh (aa (pv 2) (aa (pv 4) ac)))) (aa (br (aa bh (aa (pv 2) (aa (pv 4) (aa (pv 3) ac))))) (aa (br (aa bh (aa (pv 2) (aa (pv 3) (aa (pv 5) ac))))) ac))))))
    (ar (bA (bd Fj (aH bC (aI bD hr rfl bg aT.kp bE .nil az (aa (pv 1) (aa ae ac))) ae) ae (aJ _))
    (aF (aN (au dh (pv 6) (aH bC (aI bD hr rfl bg aT.kp bE .nil az (aa (pv 1) (aa ae ac))) ae) (fun _ _=>rfl)))) bw)
    (ar (aY (i:=6) mD.nd rfl (Or.inl rfl) (cG (aa (br ac) (aa (br (aa bh ac)) (aa (br (aa bh (aa (pv 2) ac))) (aa (br (aa bh (aa ae (aa ae ac)))) (aa (br (aa bh (aa (pv 2) (aa ae (aa ae ac))))) (aa (br (aa bh (aa (pv 2) (aa ae ac)))) ac))))))))
    (ar (aY (i:=6) mD.nd rfl (Or.inl rfl) (aH iu (pv 6) (cG (aa (br (aa bh (aa (pv 2) (aa (pv 3) (aa (pv 5) (aa (pv 5) ac)))))) (aa (br (aa bh (aa ae ac))) (aa (br (aa bh (aa ae ac))) (aa (br (aa bh (aa (pv 2) (aa ae ac)))) ac)))))))
    (ar (aY (i:=6) mD.nd rfl (Or.inl rfl) (aH iu (pv 6) (cG (aa (br (aa bh (aa (pv 2) (aa ae (aa (pv 3) ac))))) (aa (br (aa bh (aa (pv 2) (aa (pv 3) (aa (pv 5) ac))))) (aa (br (aa bh ac)) ac))))))
    (aF (aN (au dh (pv 6) (aH bC (aI bD hr rfl bg aT.kp bE .nil az (aa (pv 1) (aa ae ac))) ae) (fun _ _=>rfl))))))))))))),?_⟩
   refine Gq ?_;intro dD sS rc u9 u8 u7 u6 u5 u4 u3 u2;have t4:(xs.take (4:Int).toNat).length=4:=by rw[eV,hN.len];rfl
   refine⟨_,rfl,_,rfl,na,_,rfl,ah.of (fc),fun p1 H1 n1 s1 e1=>?_⟩;rw[q8,tN (by decide)]at e1;refine⟨(by show 1<=sizeLine;decide),fun p2 H2 n2 s2 e2=>?_⟩;refine⟨p1,p2,_,_,rfl,rfl,s2 _ _ e1,e2,iw (by rw[aK,t4];decide),fun p3 H3 n3 s3 e3=>?_⟩;have e3':H3 p3=some (.lst ((xs.take (4:Int).toNat++[mo]).map V.str)):=by rw[e3,eA];rfl
   refine⟨_,rfl,_,_,rfl,by omega,by omega,fun d1 _=>?_⟩;obtain⟨x1,hx1,_⟩:=nt (xs:=xs.take (4:Int).toNat++[mo]) (r:=d1 % 5) (by omega) (by rw[be,t4];show _<((5:Nat):Int);omega);refine⟨_,_,rfl,rfl,(by show(0:Int)<5;decide),p3,_,_,_,rfl,rfl,ah.of e3',hx1,?_⟩;refine⟨_,rfl,_,rfl,na,_,rfl,ah.of (((s1.trans s2).trans s3) _ _ fc),fun p4 H4 n4 s4 e4=>?_⟩;rw[q8,tN (by decide)]at e4;refine⟨(by show 1<=sizeLine;decide),fun p5 H5 n5 s5 e5=>?_⟩;refine⟨p4,p5,_,_,rfl,rfl,s5 _ _ e4,e5,iw (by rw[aK,t4];decide),fun p6 H6 n6 s6 e6=>?_⟩;have e6':H6 p6=some (.lst ((xs.take (4:Int).toNat++[mo]).map V.str)):=by rw[e6,eA];rfl
   refine⟨_,rfl,_,_,rfl,by omega,by omega,fun d2 _=>?_⟩;obtain⟨x2,rL,_⟩:=nt (xs:=xs.take (4:Int).toNat++[mo]) (r:=d2 % 5) (by omega) (by rw[be,t4];show _<((5:Nat):Int);omega);refine⟨_,_,rfl,rfl,(by show(0:Int)<5;decide),p6,_,_,_,rfl,rfl,ah.of e6',rL,?_⟩;refine⟨_,rfl,_,_,rfl,by decide,by decide,fun d3 _=>?_⟩;refine⟨_,_,rfl,rfl,(by show(0:Int)<4;decide),_,_,rfl,rfl,?_⟩;refine⟨(by show 3<=sizeLine;decide),fun p7 H7 n7 s7 e7=>?_⟩;refine⟨_,rfl,_,_,rfl,by decide,by decide,fun d4 _=>?_⟩;obtain⟨z,hz,x3,rfl⟩:=Dz (R:=fun v=>∃x3,v=V.str x3) (show(([V.str "a",.str "a/b",.str "no"].length:Nat):Int)=3 by rfl) (by decide) d4 (by intro v hv;simp only[cE,o0,o5]at hv;rcases hv with rfl | rfl | rfl<;>exact⟨_,rfl⟩);refine⟨_,_,rfl,rfl,(by show(0:Int)<3;decide),p7,_,_,_,rfl,rfl,ah.of e7,hz,?_⟩;refine⟨_,rfl,(by show 2<=sizeLine;decide),fun p8 H8 n8 s8 e8=>?_⟩;refine⟨_,rfl,_,rfl,(by show 3<=sizeLine;decide),fun p9 H9 n9 s9 e9=>?_⟩;refine⟨_,rfl,_,rfl,_,rfl,(by show 4<=sizeLine;decide),fun jd gq on cz fE=>?_⟩;refine⟨_,rfl,_,rfl,_,rfl,(by show 4<=sizeLine;decide),fun qk qf uY hJ qg=>?_⟩;refine⟨(by show 4<=sizeLine;decide),fun qb r6 CZ bP jy=>?_⟩;have JD:=(((((((((((s1.trans s2).trans s3).trans s4).trans s5).trans s6).trans s7).trans s8).trans s9).trans cz).trans hJ).trans bP);refine⟨_,rfl,_,_,rfl,by decide,by decide,fun d5 _=>?_⟩;refine⟨_,_,rfl,rfl,(by show(0:Int)<3;decide),_,_,rfl,rfl,_,rfl,?_⟩;refine av (fun _=>?_) (fun _=>?_)
   . refine⟨_,rfl,_,rfl,_,_,rfl,by decide,by decide,fun d6 _=>?_⟩;obtain⟨v,hv,r,hr⟩:=Dz (R:=fun v=>∃r,eM r6 v r) (l:=[.ref p8,.ref p9,.ref jd,.ref qk]) (n:=4) rfl (by decide) d6 (by
      intro v hv;simp only[cE,o0,o5]at hv
      rcases hv with rfl | rfl | rfl | rfl
      . exact⟨.wish _,p8,rfl,(((s9.trans cz).trans hJ).trans bP) _ _ e8⟩
      . exact⟨.need _ _,p9,rfl,((cz.trans hJ).trans bP) _ _ e9⟩
      . exact⟨.shut _ _ _,jd,rfl,(hJ.trans bP) _ _ fE⟩
      . exact⟨.clash _ _ _,qk,rfl,bP _ _ qg⟩)
     exact⟨_,_,rfl,rfl,(by show(0:Int)<4;decide),qb,_,_,_,rfl,rfl,ah.of jy,hv,q _ _ r JD hr⟩
   refine⟨(by show 0<=sizeLine;decide),fun oo oq C1 b7 ot=>?_⟩;refine⟨(by show 1<=sizeLine;decide),fun JE DA n14 fF zi=>?_⟩;refine⟨_,rfl,(by show 2<=sizeLine;decide),fun JF JG n15 gL zj=>?_⟩;refine⟨(by show 3<=sizeLine;decide),fun JH JI n16 mr e16=>?_⟩;refine⟨_,rfl,(by show 4<=sizeLine;decide),fun JJ H17 n17 vn e17=>?_⟩;refine⟨_,rfl,(by show 3<=sizeLine;decide),fun JK H18 n18 jz e18=>?_⟩;refine⟨(by show 6<=sizeLine;decide),fun p19 H19 n19 ql e19=>?_⟩;refine⟨_,rfl,?_⟩;refine⟨_,rfl,_,rfl,_,rfl,_,rfl,(by show 5<=sizeLine;decide),fun JL H20 n20 oI e20=>?_⟩;refine⟨(by show 2<=sizeLine;decide),fun JM H21 n21 mE e21=>?_⟩;refine⟨(by show 2<=sizeLine;decide),fun JN H22 n22 k9 e22=>?_⟩;refine⟨_,rfl,(by show 3<=sizeLine;decide),fun JO H23 n23 kx e23=>?_⟩;refine⟨(by show 4<=sizeLine;decide),fun p24 H24 n24 dW e24=>?_⟩;refine⟨p19,p24,_,_,rfl,rfl,((((oI.trans mE).trans k9).trans kx).trans dW) _ _ e19,e24,iR (bq (by show 10<=1000;decide)),fun p25 H25 n25 fm e25=>?_⟩;refine⟨_,rfl,?_⟩;refine⟨_,rfl,_,rfl,(by show 4<=sizeLine;decide),fun JP H26 n26 jB e26=>?_⟩;refine⟨_,rfl,_,rfl,_,rfl,(by show 4<=sizeLine;decide),fun JQ H27 n27 gt vo=>?_⟩;refine⟨(by show 1<=sizeLine;decide),fun JR H28 n28 iL e28=>?_⟩;refine⟨(by show 3<=sizeLine;decide),fun p29 H29 n29 ia e29=>?_⟩;refine⟨p25,p29,_,_,rfl,rfl,(((jB.trans gt).trans iL).trans ia) _ _ e25,e29,iR (bq (by show 13<=1000;decide)),fun p30 H30 n30 iM e30=>?_⟩;refine⟨_,rfl,_,rfl,_,_,rfl,by decide,by decide,fun d7 _=>?_⟩;obtain⟨v,hv,r,hr⟩:=Dz (R:=fun v=>∃r,eM H30 v r) (l:=([.ref oo,.ref JE,.ref JF,.ref JH,.ref JJ,.ref JK]++[.ref JL,.ref JM,.ref JN,.ref JO])++[.ref JP,.ref JQ,.ref JR]) (n:=13) rfl (by decide) d7 (by
    intro v hv;simp only[zX,EK,cE,o0,o5]at hv
    rcases hv with rfl | rfl | rfl | rfl | rfl | rfl | rfl | rfl | rfl | rfl | rfl | rfl | rfl
    . exact⟨.odd [] rfl,oo,rfl,((((((((((((((((fF.trans gL).trans mr).trans vn).trans jz).trans ql).trans oI).trans mE).trans k9).trans kx).trans dW).trans fm).trans jB).trans gt).trans iL).trans ia).trans iM) _ _ ot⟩
    . exact⟨.odd [.inr iE] rfl,JE,rfl,(((((((((((((((gL.trans mr).trans vn).trans jz).trans ql).trans oI).trans mE).trans k9).trans kx).trans dW).trans fm).trans jB).trans gt).trans iL).trans ia).trans iM) _ _ zi⟩
    . exact⟨.odd [.inr iy,.inr x1] rfl,JF,rfl,((((((((((((((mr.trans vn).trans jz).trans ql).trans oI).trans mE).trans k9).trans kx).trans dW).trans fm).trans jB).trans gt).trans iL).trans ia).trans iM) _ _ zj⟩
    . exact⟨.odd [.inr iE,.inl 0,.inl 1] rfl,JH,rfl,(((((((((((((vn.trans jz).trans ql).trans oI).trans mE).trans k9).trans kx).trans dW).trans fm).trans jB).trans gt).trans iL).trans ia).trans iM) _ _ e16⟩
    . exact⟨.odd [.inr iy,.inr x1,.inl 0,.inl 0] rfl,JJ,rfl,((((((((((((jz.trans ql).trans oI).trans mE).trans k9).trans kx).trans dW).trans fm).trans jB).trans gt).trans iL).trans ia).trans iM) _ _ e17⟩
    . exact⟨.odd [.inr gF,.inr x1,.inl 0] rfl,JK,rfl,(((((((((((ql.trans oI).trans mE).trans k9).trans kx).trans dW).trans fm).trans jB).trans gt).trans iL).trans ia).trans iM) _ _ e18⟩
    . exact⟨.odd [.inr iz,.inr x1,.inr x2,.inr x3,.inr x3] rfl,JL,rfl,(((((((((mE.trans k9).trans kx).trans dW).trans fm).trans jB).trans gt).trans iL).trans ia).trans iM) _ _ e20⟩
    . exact⟨.odd [.inr "Wish",.inl 0] rfl,JM,rfl,((((((((k9.trans kx).trans dW).trans fm).trans jB).trans gt).trans iL).trans ia).trans iM) _ _ e21⟩
    . exact⟨.odd [.inr "",.inl 0] rfl,JN,rfl,(((((((kx.trans dW).trans fm).trans jB).trans gt).trans iL).trans ia).trans iM) _ _ e22⟩
    . exact⟨.odd [.inr aiN,.inr x1,.inl 0] rfl,JO,rfl,((((((dW.trans fm).trans jB).trans gt).trans iL).trans ia).trans iM) _ _ e23⟩
    . exact⟨.odd [.inr ai1,.inr x1,.inl 0,.inr x2] rfl,JP,rfl,(((gt.trans iL).trans ia).trans iM) _ _ e26⟩
    . exact⟨.odd [.inr "x",.inr x1,.inr x2,.inr x3] rfl,JQ,rfl,((iL.trans ia).trans iM) _ _ vo⟩
    . exact⟨.odd [.inr "x"] rfl,JR,rfl,(ia.trans iM) _ _ e28⟩
    )
   exact⟨_,_,rfl,rfl,(by show(0:Int)<13;decide),p30,_,_,_,rfl,rfl,ah.of e30,hv,q _ _ r (JD.trans (((((((((((((((((b7.trans fF).trans gL).trans mr).trans vn).trans jz).trans ql).trans oI).trans mE).trans k9).trans kx).trans dW).trans fm).trans jB).trans gt).trans iL).trans ia).trans iM)) hr⟩
end
end K43
namespace L2
theorem adD{c:TT}{t u t2:TS}{D:Ends}{σ:St}{H:Hp}(h:let b:=t;aD (Ao c b u) t2 D σ H):aD (Ao c t u) t2 D σ H:=h
end L2
namespace K43
open PySem L2 PySem.Spec PyProof.Rows
open HT (At)
seal PE PS c7 PA PT PW PG ip PI gB
def eR(H H':Hp):Hp:=fun b=>match H b with
 | some (.lst _)=>none
 | _=>H' b
theorem zk{H H':Hp}{b:Addr}(h:H b=none):eR H H' b=H' b:=by unfold eR;rw[h]
theorem zm{H H':Hp}(s:af H H'){b:Addr}{o:HO}(h:H' b=some o)(n:∀zs,o≠.lst zs):eR H H' b=some o:=by
 unfold eR;split
 . rename_i zs e;have:=s _ _ e;rw[h]at this;exact absurd (gu this) (n zs)
 . exact h
theorem DB{H H':Hp}{b:Addr}{o:HO}(h:eR H H' b=some o):H' b=some o/\∀zs,H b≠some (.lst zs):=by
 unfold eR at h;split at h
 . cases h
 . rename_i hn;exact⟨h,fun zs e=>hn zs e⟩
theorem adE{H H':Hp}{b:Addr}(n:∀zs,H b≠some (.lst zs)):eR H H' b=H' b:=by
 unfold eR;split
 . rename_i zs e;exact absurd e (n zs)
 . rfl
theorem sw{H1 JS H2 JT:Hp}(a:∀b zs,H2 b=some (.lst zs)->∃cZ,H1 b=some (.lst cZ))(s:∀b o,JS b=some o->(∀zs,H1 b≠some (.lst zs))->JT b=some o):af (eR H1 JS) (eR H2 JT):=by
 intro b o h;obtain⟨h1,h2⟩:=DB h;rw[adE fun zs e=>?_]
 . exact s b o h1 h2
 . obtain⟨cZ,e'⟩:=a b zs e;exact h2 cZ e'
def oJ(ps:Lp)(H:Hp)(v:V)(g:bN):Prop:=∃(t:Addr) (rv:V) (r:cf),v=.ref t/\H t=some (.tup [.str aju,rv])/\eM H rv r/\g=fun ws de=>gp ps ws de r
def mG(ps:Lp)(F:Hp->V->bN->Prop)(H:Hp)(v:V)(g:bN):Prop:=∃(t:Addr) (x:Str) (l:Addr) (ys:Lv) (gs:List bN),v=.ref t/\H t=some (.tup [.str ajg,.str x,.ref l])/\H l=some (.lst ys)/\Paired (F H) ys gs/\ys.length<=50/\g=rV ps x gs
def bV(ps:Lp):Nat->Hp->V->bN->Prop
 | 0,_,_,_=>False
 | n+1,H,v,g=>oJ ps H v g\/mG ps (bV ps n) H v g
theorem oJ.same{ps:Lp}{H H':Hp}{v:V}{g:bN}(s:af H H')(h:oJ ps H v g):oJ ps H' v g:=by
 obtain⟨t,rv,r,e,h1,h2,h3⟩:=h;exact⟨t,rv,r,e,s _ _ h1,h2.same s,h3⟩
theorem mG.same{ps:Lp}{F:Hp->V->bN->Prop}(hF:∀{H H':Hp}{v:V}{g:bN},af H H'->F H v g->F H' v g){H H':Hp}{v:V}{g:bN}(s:af H H')(h:mG ps F H v g):mG ps F H' v g:=by
 obtain⟨t,x,l,ys,gs,e,h1,h2,h3,h4,h5⟩:=h;exact⟨t,x,l,ys,gs,e,s _ _ h1,s _ _ h2,aX h3 fun _ _=>hF s,h4,h5⟩
theorem bV.same{ps:Lp}{n:Nat}:∀{H H':Hp}{v:V}{g:bN},af H H'->bV ps n H v g->bV ps n H' v g:=by
 induction n with
 | zero=>intro H H' v g s h;exact(show False from h).elim
 | succ n ih=>
  intro H H' v g s h
  rcases(show oJ ps H v g\/mG ps (bV ps n) H v g from h) with h | h
  . exact .inl (h.same s)
  . exact .inr (mG.same (F:=bV ps n) (fun s h=>ih s h) s h)
theorem DC{ps:Lp}{n:Nat}{H H':Hp}{t:Addr}{rv:V}{r:cf}(s:af H H')(e:H' t=some (.tup [.str aju,rv]))(hr:eM H' rv r):bV ps (n+1) (eR H H') (.ref t) fun ws de=>gp ps ws de r:=by
 obtain⟨u,e1,e2⟩:=hr;exact .inl ⟨t,rv,r,rfl,zm s e (by intro zs z;cases z),⟨u,e1,zm s e2 (by intro zs z;cases z)⟩,rfl⟩
theorem JU{α β:Type}{F:α->β->Prop}:∀{xs:List α}{ys:List β},Paired F xs ys->Paired F xs.dropLast ys.dropLast
 | _,_,.nil=>.nil
 | [_],[_],.cons _ .nil=>.nil
 | _::_::_,_::_::_,.cons a (.cons b r)=>.cons a (JU (.cons b r))
section
variable {P:Program}{w:World}{K:Fg}{mg:Mv}{base:Heap}
def vp(n:Nat):Sp:=fun vs H Q _=>∃(a wl na d:Addr) (deep cell:Int) (xs:Lv) (ps:Lp) (xw:Lv) (ws:List cO) (ns:Ls) (de:Dec),vs=[.ref a,.ref wl,.ref na,.ref d,.int deep,.int cell]/\deep=n/\H a=some (.lst xs)/\gK H xs ps/\kj ps/\H wl=some (.lst xw)/\Paired (cR H) xw ws/\ws.length<=9/\H na=some (.lst (ns.map V.str))/\rF ns/\dm H d de/\c9 ps de/\de.length+n<=50 /\
 ∀v g H',af H H'->bV ps (n+1) (eR H H') v g->Q v H'
theorem qm:bo [aif,aim,aii,aig,aiS,aih,ajq,aiC,"_law_papers",ajo,aiE] [aif,aim,aii,aig,aiS,aih] (aO uj):=bu
theorem JV{k n:Nat}{iG:Sp}{f cH qo ky fk dY dZ ee:Addr}{fd dS vq oK iK hV hX hZ:Fy}(hk:3<=k)(F:aj K aiU aiU uj f fd)(mF:mg aiU=some (.ref f))(B:cj mg)(aT:aj K aiu aiu j8 cH dS)(bg:mg aiu=some (.ref cH))
 (oM:aj K aiK aiK ui qo vq) (sA:mg aiK=some (.ref qo)) (jg:aj K aiM aiM rB ky oK) (mI:mg aiM=some (.ref ky)) (eQ:aj K aiw aiw lZ fk iK) (gr:mg aiw=some (.ref fk)) (ef:aj K aiB aiB kM dY hV) (fh:mg aiB=some (.ref dY)) (eO:aj K aiq aiq kN dZ hX) (fG:mg aiq=some (.ref dZ))
 (eh:aj K aiv aiv kL ee hZ) (fi:mg aiv=some (.ref ee))
 (G:ao P w K mg base aq k f fd [aif,aim,aii,aig,aiS,aih] iG) (hG:∀vs H Q E,n≠0->vp (n - 1) vs H Q E->iG vs H Q E):ao P w K mg base aq (k+1) f fd [aif,aim,aii,aig,aiS,aih] (vp n):=by
 have bD:ao P w K mg base aq 1 cH dS [aih,aip] pL:=rE aT;have bE:=aT.binds2 (l:=[aih,aip]) (fun _ _ _ _ _ _ _ _=>rfl);have adF:ao P w K mg base aq 2 qo vq [aii,aih] JC:=adc oM aT bg;have adG:=oM.binds2 (l:=[aii,aih]) (fun _ _ _ _ _ _ _ _=>rfl);have DD:ao P w K mg base aq 3 ky oK [aif,aim,aig] Dt:=Jt jg B eQ gr ef fh eO fG eh fi;have DE:=jg.binds3 (l:=[aif,aim,aig]) (fun _ _ _ _ _ _ _ _ _=>rfl);have DF:=F.binds6 (l:=[aif,aim,aii,aig,aiS,aih]) (fun _ _ _ _ _ _ _ _ _ _ _ _=>rfl);refine F.okL qm ?_
 . intro aG A outer s H vs Q E hr h xX dX;obtain⟨a,wl,na,d,deep,cell,xs,ps,xw,ws,ns,de,rfl,adH,ha,a8,bH,cm,cS,w9,fc,hN,bL,bU,c50,q⟩:=h;have hu:=hr.units;have dN:=hr.units0;have da:=hr.mono (j:=1) (by omega);have k7:=hr.mono (j:=2) (by omega);have hr3:=hr.mono (j:=3) (by omega);have l6:=bH.len;have xl:=aP a8;have ok:=bH.ok;refine⟨_,(ar (aY (i:=6) qm.nd rfl (Or.inl rfl) (aI DD hr3 rfl mI jg.kp DE .nil az (aa (pv 0) (aa (pv 1) (aa (pv 3) ac)))))
    (ar (bA (PW.pt (gS (bd bZ (pv 4) ae (aJ _)) (jJ (PW.pt (sU (bd (Jc dN) (pv 6) (cG ac) (aJ _)) (wJ (bd Fj (aH bC (aI bD da rfl bg aT.kp bE .nil az (aa (pv 5) (aa ae ac))) ae) ae (aJ _))))))))
    (ar (bA (PW.pt (gS (bd (xF dN) (pv 6) (cG ac) (aJ _)) (jJ (bd bZ (aH bC (aI bD da rfl bg aT.kp bE .nil az (aa (pv 5) (aa ae ac))) ae) ae (aJ _)))))
     (aF (aN (br (aa bh (aa (aI adF k7 rfl sA oM.kp adG .nil az (aa (pv 2) (aa (pv 5) ac))) ac))))) bw)
     (aF (aN (br (aa bh (aa (au dh (pv 6) (aH bC (aI bD da rfl bg aT.kp bE .nil az (aa (pv 5) (aa ae ac))) (b8 dH (by rfl) B.len eE (aa (pv 6) ac))) (fun _ _=>rfl)) ac)))))) bw)
    (ar (aY (i:=7) qm.nd rfl (Or.inr rfl) (au dh (pv 2) (aH bC (aH du (aI bD da rfl bg aT.kp bE .nil az (aa (pv 5) (aa ae ac))) (pv 4)) ae) (fun _ _=>rfl)))
    (ar (bA (bd bZ (aH bC (aI bD da rfl bg aT.kp bE .nil az (aa (pv 5) (aa ae ac))) ae) ae (aJ _))
    (aF (aY (i:=7) qm.nd rfl (Or.inr rfl) bh)) bw)
    (ar (aY (i:=8) qm.nd rfl (Or.inl rfl) (cG ac))
    (ar (iU jH rfl (cJ (aH iu (cG (aa cI ac)) (b8 B4 (by rfl) B.sorted Af (aa (fA [ain] [aiC] [7] cC rfl (cJ (pv 0)) (fun _ _ _ _=>(bi (i:=0) (show List.Nodup ([ain,aiC]:Ls) by decide +kernel) rfl (Or.inl rfl))) (fun _ _ _ _=>jp (bd bZ (au (cK K) (pv 0) ae (fun _ _=>rfl)) (pv 1) (aJ _))) (fun _ _ _ _=>(au (cK K) (pv 0) ae (fun _ _=>rfl)))) ac)))) (bi (i:=9) qm.nd rfl (Or.inl rfl))
    (ar (aY (i:=10) qm.nd rfl (Or.inl rfl) (fT xo (by rfl) B.dict EM (aa (pv 3) ac)))
     (ar (qY hu (pv 10) (pv 7) (pv 9) rfl)
     (aF (qQ (wY wy EQ ER tE (pv 8) (aa (aI G hr rfl mF F.kp DF .nil az (aa (pv 0) (aa (pv 1) (aa (pv 2) (aa (pv 10) (aa (aH Fc (pv 4) ae) (aa (aH du (aH sY (pv 5) ae) (b8 dH (by rfl) B.len eE (aa (pv 8) ac))) ac))))))) ac)))))))
    (ar (bA (bd bZ (aH bC (aI bD da rfl bg aT.kp bE .nil az (aa (pv 5) (aa ae ac))) ae) ae (aJ _))
    (aF (qQ (wY wy EQ ER tE (pv 8) (aa (au dh (pv 8) ae (fun _ _=>rfl)) ac)))) bw)
    (ar (bA (bd bZ (aH bC (aI bD da rfl bg aT.kp bE .nil az (aa (pv 5) (aa ae ac))) ae) ae (aJ _))
    (aF (qQ (FM wy PySem.F.slot_list_pop PySem.F.type_list_pop Ti (pv 8)))) bw)
    (aF (aN (br (aa bh (aa (pv 7) (aa (pv 8) ac)))))))))))))),?_⟩
   refine XJ ?_;intro dD sS u9 u8 u7 u6 u5 u4 u3 u2;refine⟨_,rfl,_,rfl,_,rfl,a,wl,d,xs,ps,xw,ws,de,rfl,ha,a8,by omega,bH.few,cm,cS,w9,bL,bU,fun D zs rs H1 nD s1 DG pr rl _=>?_⟩;show u2 dD [some (.ref a),some (.ref wl),some (.ref na),some (.ref d),some (.int deep),some (.int cell),some (.ref D),none,none,none,none] H1;refine adD (t2:=u3) ?_;intro bB;have rzl:=aP pr;have leaf:∀(E:Ends) (H2:Hp),E.rt=Q->af H1 H2->bB E [some (.ref a),some (.ref wl),some (.ref na),some (.ref d),some (.int deep),some (.int cell),some (.ref D),none,none,none,none] H2:=by
    intro E H2 hE s2;rw[←hE]at q;have bR:=s1.trans s2;refine⟨_,rfl,(by show 0<=sizeLine;decide),fun p3 H3 n3 s3 e3=>?_⟩;refine⟨D,p3,_,rfl,rfl,ah.of ((s2.trans s3) _ _ DG),ah.of e3,_,rfl,?_⟩;have dL:=bR.trans s3;refine av (fun _=>dA ?_) (fun jo=>?_)
    . refine⟨_,rfl,_,rfl,na,cell,ns,rfl,dL _ _ fc,hN,fun v H4 r s4 hv=>⟨(by show 2<=sizeLine;decide),fun p5 H5 n5 s5 e5=>?_⟩⟩;exact q _ _ H5 (dL.trans (s4.trans s5)) (DC (dL.trans (s4.trans s5)) e5 (hv.same s5))
    have zne:zs.length≠0:=fun z=>jo (aE z);refine⟨_,rfl,_,_,rfl,by decide,by decide,fun d1 _=>?_⟩;refine⟨_,_,rfl,rfl,(by show(0:Int)<16;decide),rfl,_,rfl,?_⟩;refine av (fun _=>?_) (fun _=>?_)
    . refine⟨_,rfl,_,rfl,na,cell,ns,rfl,dL _ _ fc,hN,fun v H4 r s4 hv=>⟨(by show 2<=sizeLine;decide),fun p5 H5 n5 s5 e5=>?_⟩⟩;exact q _ _ H5 (dL.trans (s4.trans s5)) (DC (dL.trans (s4.trans s5)) e5 (hv.same s5))
    refine⟨_,rfl,_,rfl,_,_,rfl,by decide,by decide,fun d2 _=>?_⟩;obtain⟨y,hy,hym⟩:=qZ (xs:=zs) (r:=d2 % (zs.length:Int)) (Int.emod_nonneg _ (by omega)) (Int.emod_lt_of_pos _ (by omega));obtain⟨r,hrm,hrr⟩:=bO pr hym;have dz:=(s2.trans s3) _ _ DG;refine⟨_,rfl,D,_,rfl,.inl (ah.of dz),_,_,rfl,rfl,(by show(0:Int)<(zs.length:Int);omega),D,_,_,_,rfl,rfl,ah.of dz,hy,(by show 2<=sizeLine;decide),fun p5 H5 n5 s5 e5=>?_⟩;exact q _ _ H5 (dL.trans s5) (DC (dL.trans s5) e5 (hrr.same ((s2.trans s3).trans s5)))
   have split:∀(H2:Hp),n≠0->af H1 H2->u3 dD [some (.ref a),some (.ref wl),some (.ref na),some (.ref d),some (.int deep),some (.int cell),some (.ref D),none,none,none,none] H2:=by
    intro H2 oN s2;have bR:=s1.trans s2;have go:∀x:Str,u5 dD [some (.ref a),some (.ref wl),some (.ref na),some (.ref d),some (.int deep),some (.int cell),some (.ref D),some (.str x),none,none,none] H2:=by
     intro x;refine⟨(by show 0<=sizeLine;decide),fun p5 H5 n5 s5 e5=>?_⟩;refine⟨(by show 1<=sizeLine;decide),fun p6 H6 n6 s6 e6=>?_⟩;have zn:=bR.trans s5;have lc:=zn.trans s6;refine⟨_,rfl,a,rfl,⟨_,ah.of (lc _ _ ha)⟩,?_⟩;intro Dc DH;refine ka (σ0:=[none,some (.str x)]) DH (ah.of (lc _ _ ha)) (fun σ=>∃v,σ=[v,some (.str x)]) (fun j zs _=>zs.length<=j/\ja H zs (a9 (ps.take j) x)) ⟨_,rfl⟩ ⟨aS _,.nil⟩ ?_ ?_
     . rintro j y zs σ H7 kq kq' hy ⟨v,rfl⟩ vt s7 ⟨zl,tv⟩ cQ ff;obtain⟨p,hp,t,m,fa,oE,sa,oa,fx,rfl,h1,h2,_⟩:=bO a8 hy;have iN:=lc.trans s7;have ze:=(bW.mp hp).1;have a0:aM [V.str p.nm,.ref m,.int p.rk,.ref fa,.ref oE,.ref sa,.ref oa] 0=some (V.str p.nm):=rfl;have a1:aM [V.str p.nm,.ref m,.int p.rk,.ref fa,.ref oE,.ref sa,.ref oa] 1=some (V.ref m):=rfl;refine⟨_,rfl,t,_,_,_,rfl,rfl,ak.of (iN _ _ h1),a0,_,rfl,rfl,_,rfl,?_⟩;refine av (fun h=>?_) (fun h=>?_)
       . have en:p.nm=x:=by have z:=aL h;injection z
         refine⟨_,rfl,t,_,_,_,rfl,rfl,ak.of (iN _ _ h1),a1,cQ _ _ _ ⟨_,rfl⟩ (af.refl _) (bq (by omega)) ⟨by rw[be,jE];omega,?_⟩⟩;rw[k4 hp,aB en];exact dJ ⟨m,rfl,h2,ok.mm p (gO hp)⟩ tv
       . have en:p.nm≠x:=fun z=>h (by rw[z];exact aE rfl);refine ff _ _ ⟨_,rfl⟩ (af.refl _) ⟨by omega,?_⟩;rw[k4 hp,ap en,fL];exact tv
     rintro DI H7 vt s7 ⟨zl,tv⟩;refine cL ?_;intro tT;rw[xl,eB]at tv;have iN:=lc.trans s7;have h4:=ok.four x;have zll:=aP tv;refine⟨Dc,DI,a9 ps x,rfl,ah.of vt,tv.same iN,by omega,yq ok.nd x,fun bt jk vv pm ad p8 H8 n8 s8 e8=>?_⟩;have ek:jk=kW (a9 ps x):=(CM ok).is pm ad;subst ek;have ysl:=aP vv;have kl:=pm.length_eq;refine⟨p6,p8,_,_,rfl,rfl,(s7.trans s8) _ _ e6,e8,iw (by simp;omega),fun p9 H9 n9 s9 e9=>?_⟩;have jC:=iN.trans (s8.trans s9);have s59:=s6.trans (s7.trans (s8.trans s9));have DJ:=s59 _ _ e5;have pc:Paired (ce H9) (.non::bt) (dU ps x):=.cons rfl (uz (vv.same (s8.trans s9)));have vw:=aP pc;have DK:=bR.free n5;have n95:p9≠p5:=fun z=>by
      have:=s6.trans (s7.trans s8);rw[z]at n9;rw[this _ _ e5]at n9;cases n9
     have c5:(dU ps x).length<=5:=by
      rw[←vw,cV];omega
     have DL:∀{G G':Hp},(∀b o,G b=some o->b≠p5->G' b=some o)->∀{zs:Lv}{gs:List bN},Paired (bV ps n (eR H9 G)) zs gs->Paired (bV ps n (eR H9 G')) zs gs:=fun hG zs gs h=>aX h fun _ _ z=>bV.same (sw (fun b cZ e=>⟨cZ,e⟩) fun b o' e mJ=>hG b o' e fun hb=>mJ [] (by rw[hb];exact DJ)) z;have fin:∀(G1:Hp) (w1 w2:Option V) (zs:Lv) (gs:List bN),xE p5 H9 G1->G1 p5=some (.lst zs)->Paired (bV ps n (eR H9 G1)) zs gs->zs.length<=7->u9 dD [some (.ref a),some (.ref wl),some (.ref na),some (.ref d),some (.int deep),some (.int cell),some (.ref D),some (.str x),some (.ref p5),w1,w2] G1:=by
      intro G1 w1 w2 zs gs kp eg pg zl;have vx:af H G1:=fun b o e=>kp b o (jC b o e) (bF e DK);refine⟨_,rfl,_,rfl,(by show 3<=sizeLine;decide),fun jd G2 m2 t2 f2=>?_⟩;refine q (.ref jd) (rV ps x gs) G2 (vx.trans t2) (.inr ⟨jd,x,p5,zs,gs,rfl,zm (vx.trans t2) f2 (by intro zs z;cases z),?_,?_,by omega,rfl⟩)
      . rw[zk DK];exact t2 _ _ eg
      . exact aX pg fun _ _ z=>bV.same (sw (fun b cZ e=>⟨cZ,jC _ _ e⟩) fun b o e _=>t2 _ _ e) z
     have JW:∀(G1:Hp) (w1 w2:Option V) (zs:Lv) (gs:List bN),xE p5 H9 G1->G1 p5=some (.lst zs)->Paired (bV ps n (eR H9 G1)) zs gs->zs.length<=7->1<=zs.length->u8 dD [some (.ref a),some (.ref wl),some (.ref na),some (.ref d),some (.int deep),some (.int cell),some (.ref D),some (.str x),some (.ref p5),w1,w2] G1:=by
      intro G1 w1 w2 zs gs kp eg pg zl JX;refine⟨_,rfl,_,_,rfl,by decide,by decide,fun d1 _=>?_⟩;refine⟨_,_,rfl,rfl,(by show(0:Int)<12;decide),rfl,_,rfl,?_⟩;refine av (fun _=>?_) (fun _=>fin G1 w1 w2 zs gs kp eg pg zl);have hy:=dg (l:=zs) (i:=zs.length - 1) (by omega);refine⟨_,rfl,.inl ⟨rfl,_,ah.of eg⟩,p5,zs,_,rfl,rfl,eg,hy,?_⟩;exact fin _ w1 w2 zs.dropLast gs.dropLast (fun b o e nb=>aZ (kp b o e nb) nb) bf (DL (fun b o e nb=>aZ e nb) (JU pg)) (by rw[List.length_dropLast];omega)
     have adR:∀(G1:Hp) (w1 w2:Option V) (zs:Lv) (gs:List bN),xE p5 H9 G1->G1 p5=some (.lst zs)->Paired (bV ps n (eR H9 G1)) zs gs->zs.length<=6->1<=zs.length->u7 dD [some (.ref a),some (.ref wl),some (.ref na),some (.ref d),some (.int deep),some (.int cell),some (.ref D),some (.str x),some (.ref p5),w1,w2] G1:=by
      intro G1 w1 w2 zs gs kp eg pg zl JX;refine⟨_,rfl,_,_,rfl,by decide,by decide,fun d1 _=>?_⟩;refine⟨_,_,rfl,rfl,(by show(0:Int)<12;decide),rfl,_,rfl,?_⟩;refine av (fun _=>?_) (fun _=>JW G1 w1 w2 zs gs kp eg pg (by omega) JX);have hy:=dg (l:=zs) (i:=0) (by omega);generalize zs[0]=y at hy;obtain⟨g,hg,hyg⟩:=bO pg hy;refine⟨_,rfl,.inl ⟨rfl,_,ah.of eg⟩,_,rfl,p5,_,_,_,rfl,rfl,ah.of eg,bT (j:=0) hy,p5,_,_,rfl,rfl,eg,bq (by omega),?_⟩;exact JW _ w1 w2 (zs++[y]) (gs++[g]) (fun b o e nb=>aZ (kp b o e nb) nb) bf (DL (fun b o e nb=>aZ e nb) (dJ hyg pg)) (by rw[be,jE];omega) (by rw[be,jE];omega)
     refine⟨p9,rfl,⟨_,ah.of e9⟩,?_⟩;refine lI (xs:=.non::bt) (fun i σ G1=>∃w1 w2 zs gs,σ=[some (.ref a),some (.ref wl),some (.ref na),some (.ref d),some (.int deep),some (.int cell),some (.ref D),some (.str x),some (.ref p5),w1,w2]/\xE p5 H9 G1/\G1 p5=some (.lst zs)/\Paired (bV ps n (eR H9 G1)) zs gs/\gs.length=i) ⟨none,none,[],[],rfl,fun b o e _=>e,DJ,.nil,rfl⟩ ?_ ?_ ?_
     . rintro i σ G1 hi ⟨w1,w2,zs,gs,rfl,kp,_⟩;exact ah.of (kp _ _ e9 n95)
     . intro i z σ G1 hz hQ;refine cL ?_;intro tT;obtain⟨w1,w2,zs,gs,rfl,kp,eg,pg,gl⟩:=hQ;obtain⟨o,ho,hB⟩:=bO pc hz;have om:o∈dU ps x:=gO ho;have Dy:=(bW.mp ho).1;have vx:af H G1:=fun b o e=>kp b o (jC b o e) (bF e DK);have hBg:ce G1 z o:=by
        cases o with
        | none=>exact hB
        | some m=>
         obtain⟨b,rfl,hb⟩:=hB;exact⟨b,rfl,kp _ _ hb (eF hb DJ (by intro z;cases z))⟩
       obtain⟨kc,qp,oO⟩:=bL.same vx;have kcl:=aP oO;have JY:=aP pg;refine nu ?_;intro dB sB vB3 vB2;refine⟨_,rfl,d,_,rfl,qp,fun r8 G2 m8 t8 f8=>?_⟩;refine⟨_,rfl,_,rfl,_,rfl,r8,_,rfl,jn.k (k:=.inr x) f8 (bq (by omega)),?_⟩;have mm:=nW (o:=.dK (ca kc (.inr x) z)) m8 t8;have vy:dm (al G2 r8 (.dK (ca kc (.inr x) z))) r8 (cN de x o):=⟨_,bf,yi (fun kv f (z:ga _ kv f)=>z.1) ⟨rfl,hBg.same mm⟩ (aX oO fun _ _=>ga.same mm)⟩;generalize al G2 r8 (.dK (ca kc (.inr x) z))=G3 at mm vy;have vz:=mm _ _ eg;have dL:=vx.trans mm;have pl1:=yh de x o;refine⟨_,rfl,.inl ⟨rfl,_,ah.of vz⟩,_,rfl,_,rfl,_,rfl,_,rfl,_,rfl,_,_,rfl,rfl,_,rfl,_,_,rfl,rfl,⟨by decide,by decide⟩,_,rfl,p5,_,rfl,.inl (ah.of vz),_,_,rfl,rfl,?_⟩;refine hG _ _ _ _ oN ⟨a,wl,na,r8,_,_,xs,ps,xw,ws,ns,cN de x o,rfl,by omega,dL _ _ ha,a8.same dL,bH,dL _ _ cm,aX cS (fun _ _ z=>z.same dL),w9,dL _ _ fc,hN,vy,bU.put om,by omega,fun v g G5 t5 hp=>?_⟩;rw[show n - 1+1=n by omega]at hp;have eg5:=t5 _ _ vz;refine⟨p5,_,_,rfl,rfl,eg5,bq (by omega),?_⟩;have gL:af G1 G5:=mm.trans t5;refine⟨_,_,_,gs++[g],rfl,fun b o e nb=>aZ (gL _ _ (kp b o e nb)) nb,bf,?_,by rw[be,gl];rfl⟩;refine dJ (bV.same (sw (fun b cZ e=>?_) fun b o' e mJ=>?_) hp) (DL (fun b o e nb=>aZ (gL _ _ e) nb) pg)
       . by_cases hb:b=p5
         . rw[hb];exact⟨_,vz⟩
         . exact⟨cZ,mm _ _ (kp b _ e hb)⟩
       . exact aZ e fun hb=>mJ _ (hb▸vz)
     . rintro σ G1 ⟨w1,w2,zs,gs,rfl,kp,eg,pg,gl⟩;have JY:=aP pg;rw[vw]at gl;exact adR G1 w1 w2 zs gs kp eg pg (by omega) (by rw[JY,gl];show 1<=(none::_:List (Oi)).length;rw[cV];omega)
    refine⟨_,rfl,_,rfl,_,_,rfl,by decide,by decide,fun d1 _=>?_⟩;obtain⟨z,hz,_⟩:=nt (xs:=ns) (r:=(d1+deep) % 4) (by omega) (by rw[hN.len];show _<((6:Nat):Int);omega);refine⟨_,rfl,_,_,rfl,rfl,_,_,rfl,rfl,(by show(0:Int)<4;decide),na,_,_,_,rfl,rfl,ah.of (bR _ _ fc),hz,?_⟩;refine⟨_,rfl,_,_,rfl,by decide,by decide,fun d2 _=>?_⟩;refine⟨_,_,rfl,rfl,(by show(0:Int)<16;decide),rfl,_,rfl,?_⟩;exact av (fun _=>go mo) (fun _=>go z)
   refine⟨_,rfl,rfl,_,rfl,?_⟩;refine av (fun _=>dA (leaf _ H1 rfl (af.refl _))) (fun hd0=>?_);have oN:n≠0:=fun z=>hd0 (aE (by rw[adH,z];rfl));refine⟨_,rfl,(by show 0<=sizeLine;decide),fun p2 H2 n2 s2 e2=>?_⟩;refine⟨D,p2,_,rfl,rfl,ah.of (s2 _ _ DG),ah.of e2,_,rfl,?_⟩;refine av (fun _=>?_) (fun _=>?_)
   . refine⟨_,rfl,_,_,rfl,by decide,by decide,fun d1 _=>?_⟩;refine⟨_,_,rfl,rfl,(by show(0:Int)<4;decide),_,_,rfl,rfl,_,rfl,?_⟩;exact av (fun _=>leaf _ H2 rfl s2) (fun _=>split H2 oN s2)
   . exact c8 (split H2 oN s2)
theorem ad0{f cH qo ky fk dY dZ ee:Addr}{fd dS vq oK iK hV hX hZ:Fy}(F:aj K aiU aiU uj f fd)(mF:mg aiU=some (.ref f))(B:cj mg)(aT:aj K aiu aiu j8 cH dS)(bg:mg aiu=some (.ref cH))
 (oM:aj K aiK aiK ui qo vq) (sA:mg aiK=some (.ref qo)) (jg:aj K aiM aiM rB ky oK) (mI:mg aiM=some (.ref ky)) (eQ:aj K aiw aiw lZ fk iK) (gr:mg aiw=some (.ref fk)) (ef:aj K aiB aiB kM dY hV) (fh:mg aiB=some (.ref dY)) (eO:aj K aiq aiq kN dZ hX) (fG:mg aiq=some (.ref dZ))
 (eh:aj K aiv aiv kL ee hZ) (fi:mg aiv=some (.ref ee)) (n:Nat):ao P w K mg base aq (4+n) f fd [aif,aim,aii,aig,aiS,aih] (vp n):=by
 induction n with
 | zero=>
  have G0:ao P w K mg base aq 3 f fd [aif,aim,aii,aig,aiS,aih] (fun _ _ _ _=>False):=⟨fun _ _ _ _ h=>h.elim,fun _ _ _ _ _ _ _ _ _ _ _ _ _ h=>h.elim⟩;exact JV (k:=3) (aS _) F mF B aT bg oM sA jg mI eQ gr ef fh eO fG eh fi G0 fun _ _ _ _ h=>absurd rfl h
 | succ n ih=>exact JV (k:=4+n) (by omega) F mF B aT bg oM sA jg mI eQ gr ef fh eO fG eh fi ih fun _ _ _ _ _ h=>h
theorem JZ:¬(V.str (ajg:Str)=V.str (aju:Str)):=gI (by decide +kernel)
def zo(n:Nat):Sp:=fun vs H Q _=>∃(a wl d:Addr) (pv:V) (xs:Lv) (ps:Lp) (xw:Lv) (ws:List cO) (de:Dec) (g:bN),vs=[.ref a,.ref wl,.ref d,pv]/\H a=some (.lst xs)/\gK H xs ps/\kj ps/\H wl=some (.lst xw)/\Paired (cR H) xw ws/\dm H d de/\c9 ps de/\de.length+n<=50/\bV ps (n+1) H pv g /\
 ∀H',af H H'->Q (.bl (g ws de)) H'
theorem vA:bo [aif,aim,aig,air,"_law_makes",ajo,ain,aiE] [aif,aim,aig,air] (aO uk):=bu
theorem J0 {k n : Nat}{iG : Sp}{f fk dY dZ ee : Addr}{fd iK hV hX hZ : Fy} (hk : 2 <= k) (F : aj K aiV aiV uk f fd) (mF : mg aiV=some (.ref f)) (B : cj mg) (eQ : aj K aiw aiw lZ fk iK) (gr : mg aiw=some (.ref fk)) (ef : aj K aiB aiB kM dY hV) (fh : mg aiB=some (.ref dY)) (eO : aj K aiq aiq kN dZ hX) (fG : mg aiq=some (.ref dZ))
 (eh:aj K aiv aiv kL ee hZ) (fi:mg aiv=some (.ref ee))
 (G:ao P w K mg base aq k f fd [aif,aim,aig,air] iG) (hG:∀vs H Q E,n≠0->zo (n - 1) vs H Q E->iG vs H Q E):ao P w K mg base aq (k+1) f fd [aif,aim,aig,air] (zo n):=by
 have Du:ao P w K mg base aq 2 fk iK [aif,aim,aig,aiG] Di:=Ji eQ B ef fh eO fG eh fi;have Dv:=eQ.binds4 (l:=[aif,aim,aig,aiG]) (fun _ _ _ _ _ _ _ _ _ _=>rfl);have DM:=F.binds4 (l:=[aif,aim,aig,air]) (fun _ _ _ _ _ _ _ _ _ _=>rfl);refine F.okL vA ?_
 . intro aG A outer s H vs Q E hr h xX dX;obtain⟨a,wl,d,vB,xs,ps,xw,ws,de,g,rfl,ha,a8,bH,cm,cS,bL,bU,c50,hT,q⟩:=h;have hu:=hr.units;have dN:=hr.units0;have k7:=hr.mono (j:=2) (by omega);have l6:=bH.len;have xl:=aP a8;have ok:=bH.ok;refine⟨_,(ar (bA (bd bZ (au aQ (pv 3) ae (fun _ _=>rfl)) bh (aJ _))
    (aF (aN (aI Du k7 rfl gr eQ.kp Dv .nil az (aa (pv 0) (aa (pv 1) (aa (pv 2) (aa (au aQ (pv 3) ae (fun _ _=>rfl)) ac))))))) bw)
    (ar (aY (i:=4) vA.nd rfl (Or.inl rfl) (aH iu (cG (aa cI ac)) (b8 B4 (by rfl) B.sorted Af (aa (fA [ain] [air] [3] cC rfl (cJ (pv 0)) (fun _ _ _ _=>(bi (i:=0) (show List.Nodup ([ain,air]:Ls) by decide +kernel) rfl (Or.inl rfl))) (fun _ _ _ _=>jp (bd bZ (au (cK K) (pv 0) ae (fun _ _=>rfl)) (au (cK K) (pv 1) ae (fun _ _=>rfl)) (aJ _))) (fun _ _ _ _=>(au (cK K) (pv 0) ae (fun _ _=>rfl)))) ac))))
    (ar (bA (bd wQ (b8 dH (by rfl) B.len eE (aa (pv 4) ac)) (b8 dH (by rfl) B.len eE (aa (au aQ (pv 3) ae (fun _ _=>rfl)) ac)) (aJ _))
    (aF (aN dr)) bw)
    (ar (iU jH rfl (He (by rfl) B.zip (aa (pv 4) (aa (au aQ (pv 3) ae (fun _ _=>rfl)) ac))) (sW rfl (ft (bi (i:=5) vA.nd rfl (Or.inl rfl)) (ft (bi (i:=6) vA.nd rfl (Or.inl rfl)) lH)))
    (ar (aY (i:=7) vA.nd rfl (Or.inl rfl) (fT xo (by rfl) B.dict EM (aa (pv 2) ac)))
     (ar (qY hu (pv 7) (au aQ (pv 3) ae (fun _ _=>rfl)) (pv 5) rfl)
     (aF (bA (jK (im (aI G hr rfl mF F.kp DM .nil az (aa (pv 0) (aa (pv 1) (aa (pv 7) (aa (pv 6) ac)))))))
     (aF (aN dr)) bw)))))
    (aF (aN dr)))))),?_⟩
   refine tO ?_;intro dD sS u5 u4 u3 u2
   rcases(show oJ ps H vB g\/mG ps (bV ps n) H vB g from hT) with hT | hT
   . obtain⟨t,rv,r,rfl,h1,h2,rfl⟩:=hT;have fj:aM [V.str aju,rv] 0=some (V.str aju):=rfl;have eN:aM [V.str aju,rv] 1=some rv:=rfl;refine⟨_,rfl,t,_,_,_,rfl,rfl,ak.of h1,fj,rfl,_,rfl,?_⟩;refine av (fun _=>?_) (fun z=>absurd (aE rfl) z);exact⟨_,rfl,_,rfl,_,rfl,_,rfl,t,_,_,_,rfl,rfl,ak.of h1,eN,a,wl,d,rv,xs,ps,xw,ws,de,r,rfl,ha,a8,by omega,bH.few,cm,cS,bL,bU,h2,q⟩
   . obtain⟨t,x,l,ys,gs,rfl,h1,h2,h3,h4,rfl⟩:=hT;have fj:aM [V.str ajg,.str x,.ref l] 0=some (V.str ajg):=rfl;have eN:aM [V.str ajg,.str x,.ref l] 1=some (V.str x):=rfl;have at2:aM [V.str ajg,.str x,.ref l] 2=some (V.ref l):=rfl;refine⟨_,rfl,t,_,_,_,rfl,rfl,ak.of h1,fj,rfl,_,rfl,?_⟩;refine av (fun z=>absurd (aL z) JZ) (fun _=>?_);refine⟨(by show 1<=sizeLine;decide),fun p6 H6 n6 s6 e6=>?_⟩;refine⟨_,rfl,a,rfl,⟨_,ah.of (s6 _ _ ha)⟩,?_⟩;intro Dc DH;refine ka (σ0:=[none,some (.ref t)]) DH (ah.of (s6 _ _ ha)) (fun σ=>∃v,σ=[v,some (.ref t)]) (fun j zs _=>zs.length<=j/\ja H zs (a9 (ps.take j) x)) ⟨_,rfl⟩ ⟨aS _,.nil⟩ ?_ ?_
     . rintro j y zs σ H7 kq kq' hy ⟨v,rfl⟩ vt s7 ⟨zl,tv⟩ cQ ff;obtain⟨p,hp,tp,m,fa,oE,sa,oa,fx,rfl,g1,g2,_⟩:=bO a8 hy;have iN:=s6.trans s7;have ze:=(bW.mp hp).1;have a0:aM [V.str p.nm,.ref m,.int p.rk,.ref fa,.ref oE,.ref sa,.ref oa] 0=some (V.str p.nm):=rfl;have a1:aM [V.str p.nm,.ref m,.int p.rk,.ref fa,.ref oE,.ref sa,.ref oa] 1=some (V.ref m):=rfl;refine⟨_,rfl,tp,_,_,_,rfl,rfl,ak.of (iN _ _ g1),a0,_,rfl,t,_,_,_,rfl,rfl,ak.of (iN _ _ h1),eN,rfl,_,rfl,?_⟩;refine av (fun h=>?_) (fun h=>?_)
       . have en:p.nm=x:=by have z:=aL h;injection z
         refine⟨_,rfl,tp,_,_,_,rfl,rfl,ak.of (iN _ _ g1),a1,cQ _ _ _ ⟨_,rfl⟩ (af.refl _) (bq (by omega)) ⟨by rw[be,jE];omega,?_⟩⟩;rw[k4 hp,aB en];exact dJ ⟨m,rfl,g2,ok.mm p (gO hp)⟩ tv
       . have en:p.nm≠x:=fun z=>h (by rw[z];exact aE rfl);refine ff _ _ ⟨_,rfl⟩ (af.refl _) ⟨by omega,?_⟩;rw[k4 hp,ap en,fL];exact tv
     rintro DI H7 vt s7 ⟨zl,tv⟩;refine cL ?_;intro tT;rw[xl,eB]at tv;have iN:=s6.trans s7;have hf4:=ok.four x;have zll:=aP tv;refine⟨Dc,DI,a9 ps x,rfl,ah.of vt,tv.same iN,by omega,yq ok.nd x,fun bt jk vv pm ad p8 H8 n8 s8 e8=>?_⟩;have ek:jk=kW (a9 ps x):=(CM ok).is pm ad;subst ek;have ysl:=aP vv;have kl:=pm.length_eq;refine⟨p6,p8,_,_,rfl,rfl,(s7.trans s8) _ _ e6,e8,iw (by simp;omega),fun p9 H9 n9 s9 e9=>?_⟩;have jC:=iN.trans (s8.trans s9);have pc:Paired (ce H9) (.non::bt) (dU ps x):=.cons rfl (uz (vv.same (s8.trans s9)));have vw:=aP pc;have gl:=aP h3;refine⟨_,rfl,p9,_,rfl,.inl (ah.of e9),_,rfl,t,_,_,_,rfl,rfl,ak.of (jC _ _ h1),at2,l,_,rfl,.inl (ah.of (jC _ _ h2)),rfl,_,rfl,?_⟩;unfold rV at q
     by_cases el:gs.length=(dU ps x).length
     . have rY:(V.non::bt).length=ys.length:=by rw[vw,←el,gl]
       refine av (fun z=>absurd z (by rw[show([V.non]++bt).length=ys.length from rY,aE rfl];decide)) (fun _=>?_);rw[aE el,eu]at q;refine⟨_,rfl,_,rfl,t,_,_,_,rfl,rfl,ak.of (jC _ _ h1),at2,p9,l,rfl,⟨_,ah.of e9⟩,⟨_,ah.of (jC _ _ h2)⟩,?_⟩;refine Hf (xs:=.non::bt) (ys:=ys) rY (fun i σ H2=>∃w1 w2 w3,σ=[some (.ref a),some (.ref wl),some (.ref d),some (.ref t),some (.ref p9),w1,w2,w3]/\af H9 H2/\(((dU ps x).zip gs).take i).all (fun e=>e.2 ws (cN de x e.1))=true) ⟨none,none,none,rfl,af.refl _,rfl⟩ ?_ ?_ ?_
       . rintro i σ H2 hi ⟨w1,w2,w3,rfl,s2,_⟩;exact⟨ah.of (s2 _ _ e9),ah.of ((jC.trans s2) _ _ h2)⟩
       . intro i y z tz σ H2 hy hz hQ htz;refine cL ?_;intro tT;obtain⟨w1,w2,w3,rfl,s2,dF⟩:=hQ;have st:af H2 (al H2 tz (.tup [y,z])):=jV htz;obtain⟨o,ho,hB⟩:=bO pc hy;obtain⟨g,hg,hF⟩:=bO h3 hz;have oN:n≠0:=fun e=>by subst e;exact hF
         have uU:=zip_get ho hg;have b7:=s2.trans st;have s3:=jC.trans b7;refine⟨tz,_,rfl,ak.of bf,rfl,_,_,rfl,_,_,rfl,rfl,?_⟩;have om:o∈dU ps x:=gO ho;obtain⟨kc,qp,oO⟩:=bL.same s3;have kcl:=aP oO;have J2:=hB.same b7;generalize al H2 tz (.tup [y,z])=H3 at st b7 s3 qp oO J2;refine nu ?_;intro dB sB vB3 vB2;refine⟨_,rfl,d,_,rfl,qp,fun r8 G2 m8 t8 f8=>?_⟩;refine⟨_,rfl,_,rfl,_,rfl,t,_,_,_,rfl,rfl,ak.of ((s3.trans t8) _ _ h1),eN,r8,_,rfl,jn.k (k:=.inr x) f8 (bq (by omega)),?_⟩;have mm:=nW (o:=.dK (ca kc (.inr x) y)) m8 t8;have vy:dm (al G2 r8 (.dK (ca kc (.inr x) y))) r8 (cN de x o):=⟨_,bf,yi (fun kv f (z:ga _ kv f)=>z.1) ⟨rfl,J2.same mm⟩ (aX oO fun _ _=>ga.same mm)⟩;generalize al G2 r8 (.dK (ca kc (.inr x) y))=G3 at mm vy;have oP:=s3.trans mm;have pl1:=yh de x o;refine⟨_,rfl,_,rfl,_,rfl,_,rfl,hG _ _ _ _ oN ⟨a,wl,r8,z,xs,ps,xw,ws,cN de x o,g,rfl,oP _ _ ha,a8.same oP,bH,oP _ _ cm,aX cS (fun _ _ z=>z.same oP),vy,bU.put om,by omega,by rw[show n - 1+1=n by omega];exact bV.same oP hF,fun G4 t4=>⟨_,rfl,?_⟩⟩⟩;show if (!g ws (cN de x o))=true then _ else _;cases hv:g ws (cN de x o) with
         | true=>
          refine c8 ⟨_,_,_,rfl,b7.trans (mm.trans t4),?_⟩;rw[IC uU,dF,eu];exact hv
         | false=>
          refine dA ?_;have q:=q G4 (oP.trans t4);rw[ID (f:=fun e:Oi×bN=>e.2 ws (cN de x e.1)) uU hv]at q;exact q
       . rintro σ H2 ⟨w1,w2,w3,rfl,s2,dF⟩;rw[rY,gl,←Nat.min_self gs.length]at dF;have e:((dU ps x).zip gs).length=min gs.length gs.length:=by rw[List.length_zip,el]
         rw[←e,eB]at dF;have q:=q H2 (jC.trans s2);rw[dF]at q;exact q
     . refine av (fun _=>?_) (fun z=>absurd (by rw[show([V.non]++bt).length=(dU ps x).length from vw,gl];simp;omega) z);have q:=q H9 jC;rw[ba el,cU]at q;exact q
theorem ad2 {f fk dY dZ ee : Addr}{fd iK hV hX hZ : Fy} (F : aj K aiV aiV uk f fd) (mF : mg aiV=some (.ref f)) (B : cj mg) (eQ : aj K aiw aiw lZ fk iK) (gr : mg aiw=some (.ref fk)) (ef : aj K aiB aiB kM dY hV) (fh : mg aiB=some (.ref dY)) (eO : aj K aiq aiq kN dZ hX) (fG : mg aiq=some (.ref dZ))
 (eh:aj K aiv aiv kL ee hZ) (fi:mg aiv=some (.ref ee)) (n:Nat):ao P w K mg base aq (3+n) f fd [aif,aim,aig,air] (zo n):=by
 induction n with
 | zero=>
  have G0:ao P w K mg base aq 2 f fd [aif,aim,aig,air] (fun _ _ _ _=>False):=⟨fun _ _ _ _ h=>h.elim,fun _ _ _ _ _ _ _ _ _ _ _ _ _ h=>h.elim⟩;exact J0 (k:=2) (aS _) F mF B eQ gr ef fh eO fG eh fi G0 fun _ _ _ _ h=>absurd rfl h
 | succ n ih=>exact J0 (k:=3+n) (by omega) F mF B eQ gr ef fh eO fG eh fi ih fun _ _ _ _ _ h=>h
end
theorem ad3{ps:Lp}{Lc Tc t x dx:Addr}{n:Nat}{r:cf}{H H1:Hp}(s1:af H H1)(ht:H1 t=some (.tup (r.ats.map aV)))(nx:H1 x=none)(sC:H1 dx=none) :
 af H (al (al (al H1 dx (.own x)) x (.ins Lc dx [])) x (.ins Lc dx (aA aiJ (.ref t) [])))/\cT ps Lc Tc (n+1) (eR H (al (al (al H1 dx (.own x)) x (.ins Lc dx [])) x (.ins Lc dx (aA aiJ (.ref t) [])))) (.ref x) fun ws de=>gp ps ws de r:=by
 have sx:af H1 (al (al (al H1 dx (.own x)) x (.ins Lc dx [])) x (.ins Lc dx (aA aiJ (.ref t) []))):=fun b o e=>aZ (aZ (aZ e (bF e sC)) (bF e nx)) (bF e nx);refine⟨s1.trans sx,.inl ⟨x,dx,aA aiJ (.ref t) [],.ref t,r,rfl,?_,rfl,by rw[bG,ap (by decide +kernel)];rfl,by rw[bG,ap (by decide +kernel)];rfl,⟨t,rfl,?_⟩,rfl⟩⟩
 . rw[zk (s1.free nx)];exact bf
 . exact zm (s1.trans sx) (sx _ _ ht) (by intro zs z;cases z)
section
variable {P:Program}{w:World}{K:Fg}{mg:Mv}{base:Heap}
def zq(Lc Tc:Addr)(n:Nat):Sp:=fun vs H Q _=>∃(pv:V) (ps:Lp) (g:bN),vs=[pv]/\bV ps (n+1) H pv g/\∀v H',af H H'->cT ps Lc Tc (n+1) (eR H H') v g->Q v H'
theorem DN:bo [air,"_law_papers","_law_told_here"] [air] (aO ul):=bu
theorem J3{k n:Nat}{iG:Sp}{f Lc Tc vC vD kh lg lh:Addr}{fd qq qr:Fy}(hk:2<=k)(F:aj K aiX aiX ul f fd)(mF:mg aiX=some (.ref f))(B:cj mg)(UL:mi K mg Lc vC kh)(UT:og K mg Tc vD kh)(ML:Mk K Lc lg)(MT:Mk K Tc lh)
 (qt:aj K "__init__" "Leaf.__init__" nH lg qq) (qu:aj K "__init__" "Split.__init__" nI lh qr)
 (G:ao P w K mg base aq k f fd [air] iG) (hG:∀vs H Q E,n≠0->zq Lc Tc (n - 1) vs H Q E->iG vs H Q E):ao P w K mg base aq (k+1) f fd [air] (zq Lc Tc n):=by
 have ad4:ao P w K mg base aq 1 lg qq [aio,aiJ] (IJ Lc):=ab1 qt UL;have ad5:=qt.binds2 (l:=[aio,aiJ]) (fun _ _ _ _ _ _ _ _=>rfl);have ad6:ao P w K mg base aq 1 lh qr [aio,aik,ajc] (IK Tc):=ab3 qu B UT;have ad7:=qu.binds3 (l:=[aio,aik,ajc]) (fun _ _ _ _ _ _ _ _ _=>rfl);have DO:=F.binds1 (l:=[air]) (fun _ _ _ _ _ _ _=>rfl);refine F.okL DN ?_
 . intro aG A outer s H vs Q E hr h xX dX;obtain⟨vB,ps,g,rfl,hT,q⟩:=h;have k7:=hr.mono (j:=2) (by omega);refine⟨_,(ar (bA (bd bZ (au aQ (pv 0) ae (fun _ _=>rfl)) bh (aJ _))
    (aF (aN (wV ML ad4 k7 rfl UL.mgC ad5 .nil az (aa (au aQ (pv 0) ae (fun _ _=>rfl)) ac)))) bw)
    (ar (jY (i:=1) [ain] [] [] DN.nd rfl rfl cC rfl (cJ (au aQ (pv 0) ae (fun _ _=>rfl))) (fun _ _ _ _=>(bi (i:=0) (show List.Nodup ([ain]:Ls) by decide +kernel) rfl (Or.inl rfl))) (fun _ _ _ _=>fz) (fun _ _ _ _=>(aI G hr rfl mF F.kp DO .nil az (aa (pv 0) ac))))
    (ar (aY (i:=2) DN.nd rfl (Or.inl rfl) (wV MT ad6 k7 rfl UT.mgC ad7 .nil az (aa (au aQ (pv 0) ae (fun _ _=>rfl)) (aa (pv 1) ac))))
    (ar (qQ (FM wy PySem.F.slot_list_clear PySem.F.type_list_clear Tk (pv 1)))
    (aF (aN (pv 2))))))),?_⟩
   refine tO ?_;intro dD sS u5 u4 u3 u2
   rcases(show oJ ps H vB g\/mG ps (bV ps n) H vB g from hT) with hT | hT
   . obtain⟨t,rv,r,rfl,h1,⟨t2,rfl,h2⟩,rfl⟩:=hT;have fj:aM [V.str aju,.ref t2] 0=some (V.str aju):=rfl;have eN:aM [V.str aju,.ref t2] 1=some (V.ref t2):=rfl;refine⟨_,rfl,t,_,_,_,rfl,rfl,ak.of h1,fj,rfl,_,rfl,?_⟩;refine av (fun _=>?_) (fun z=>absurd (aE rfl) z);refine⟨_,rfl,t,_,_,_,rfl,rfl,ak.of h1,eN,?_⟩;dsimp only[lJ,zX,EK];intro x dx nx sC dxx;obtain⟨z1,z2⟩:=ad3 (ps:=ps) (Lc:=Lc) (Tc:=Tc) (n:=n) (r:=r) (af.refl H) h2 nx sC;exact⟨x,dx,.ref t2,rfl,bf,rfl,q _ _ z1 z2⟩
   . obtain⟨t,x,l,ys,gs,rfl,h1,h2,h3,h4,rfl⟩:=hT;have fj:aM [V.str ajg,.str x,.ref l] 0=some (V.str ajg):=rfl;have eN:aM [V.str ajg,.str x,.ref l] 1=some (V.str x):=rfl;have at2:aM [V.str ajg,.str x,.ref l] 2=some (V.ref l):=rfl;refine⟨_,rfl,t,_,_,_,rfl,rfl,ak.of h1,fj,rfl,_,rfl,?_⟩;refine av (fun z=>absurd (aL z) JZ) (fun _=>?_);refine⟨_,rfl,t,_,_,_,rfl,rfl,ak.of h1,at2,l,rfl,⟨_,ah.of h2⟩,?_⟩;intro D hD;have gl:=aP h3;have eD:al H D (.lst []) D=some (.lst []):=bf;refine rM (σ0:=[none]) hD (ah.of h2) (fun σ=>∃v,σ=[v]) (fun j zs G=>Paired (cT ps Lc Tc n (eR (al H D (.lst [])) G)) zs (gs.take j)) ⟨_,rfl⟩ (by rw[wz];exact .nil) ?_ ?_
     . rintro i y zs σ G k hy ⟨v,rfl⟩ hd hs hP hk;obtain⟨g,hg,hF⟩:=bO h3 hy;have oN:n≠0:=fun e=>by subst e;exact hF
       have zl:=aP hP;rw[eV]at zl;refine⟨_,rfl,hG _ _ _ _ oN ⟨y,ps,g,rfl,by rw[show n - 1+1=n by omega];exact bV.same hs hF,fun v G' t hp=>?_⟩⟩;rw[show n - 1+1=n by omega]at hp;refine hk _ _ _ ⟨_,rfl⟩ t (bq (by omega)) ?_;rw[i6 hg];refine dJ (cT.same (sw (fun b cZ e=>?_) fun b o' e mJ=>?_) hp) (aX hP fun _ _ z=>cT.same (sw (fun b cZ e=>⟨cZ,e⟩) fun b o' e mJ=>?_) z)
       . by_cases hb:b=D
         . rw[hb];exact⟨_,hd⟩
         . rw[bc hb]at e;exact⟨cZ,hs _ _ e⟩
       . exact aZ e fun hb=>mJ _ (hb▸hd)
       . exact aZ (t _ _ e) fun hb=>mJ [] (by rw[hb];exact eD)
     rintro zs G1 d1 s1 hP;rw[gl,eB]at hP;have zl:=aP hP;refine⟨_,rfl,t,_,_,_,rfl,rfl,ak.of (s1 _ _ h1),eN,_,rfl,?_⟩;dsimp only[lJ,zX,EK];intro x' dx nx sC dxx;refine⟨x',dx,D,x,zs,rfl,bf,aZ (aZ d1 (bF d1 sC)) (bF d1 nx),fun l' G2 sD kp2 ex el=>⟨rfl,?_⟩⟩;have bP:af G1 G2:=fun b o e=>kp2 _ _ (aZ (aZ e (bF e sC)) (bF e nx)) (bF e nx);have yV:l'≠x':=fun z=>by rw[z,bf]at sD;cases sD
     have nld:l'≠dx:=fun z=>by rw[bc yV,z,bf]at sD;cases sD
     have DP:G1 l'=none:=by rw[bc yV,bc nld]at sD;exact sD
     have d2:=bP _ _ d1;refine⟨_,rfl,.inl ⟨rfl,_,ah.of d2⟩,D,zs,rfl,rfl,d2,?_⟩;have s3:af H (al G2 D (.lst [])):=nW hD (s1.trans bP);refine⟨_,rfl,q (.ref x') _ s3 (.inr ⟨x',dx,aA ajc (.ref l') (aA aik (.str x) []),x,l',zs,gs,rfl,?_,?_,?_,?_,?_,?_,?_,by omega,rfl⟩)⟩
     . rw[zk (s1.free nx)];exact aZ ex (fun e=>by rw[e,d1]at nx;cases nx)
     . rw[bG,ap (by decide +kernel),bG,aB rfl]
     . rw[bG,aB rfl]
     . rw[bG,ap (by decide +kernel),bG,ap (by decide +kernel)];rfl
     . rw[bG,ap (by decide +kernel),bG,ap (by decide +kernel)];rfl
     . rw[zk (s1.free DP)];exact aZ el (fun e=>by rw[e,d1]at DP;cases DP)
     . refine aX hP fun _ _ z=>cT.same (sw (fun b cZ e=>⟨cZ,aZ e fun hb=>by rw[hb,hD]at e;cases e⟩) fun b o e mJ=>?_) z;exact aZ (bP _ _ e) fun hb=>mJ [] (by rw[hb];exact eD)
theorem aeb{f Lc Tc vC vD kh lg lh:Addr}{fd qq qr:Fy}(F:aj K aiX aiX ul f fd)(mF:mg aiX=some (.ref f))(B:cj mg)(UL:mi K mg Lc vC kh)(UT:og K mg Tc vD kh)(ML:Mk K Lc lg)(MT:Mk K Tc lh)
 (qt:aj K "__init__" "Leaf.__init__" nH lg qq) (qu:aj K "__init__" "Split.__init__" nI lh qr) (n:Nat):ao P w K mg base aq (3+n) f fd [air] (zq Lc Tc n):=by
 induction n with
 | zero=>
  have G0:ao P w K mg base aq 2 f fd [air] (fun _ _ _ _=>False):=⟨fun _ _ _ _ h=>h.elim,fun _ _ _ _ _ _ _ _ _ _ _ _ _ h=>h.elim⟩;exact J3 (k:=2) (aS _) F mF B UL UT ML MT qt qu G0 fun _ _ _ _ h=>absurd rfl h
 | succ n ih=>exact J3 (k:=3+n) (by omega) F mF B UL UT ML MT qt qu ih fun _ _ _ _ _ h=>h
end
end K43
namespace K43
open PySem L2 PySem.Spec PyProof.Rows
seal PE PS c7 PA PT PW PG ip PI gB
def iO(ps:Lp)(fs:List Ch)(y:Str):List Ch:=fs++(a9 ps y).flatMap fun m=>fs.map fun c=>c++[(y,m)]
def gb(ps:Lp)(ys:Ls):List Ch:=ys.foldl (iO ps) [[]]
theorem DQ{fs:List Ch}{y:Str}:∀ms:Ll,(ms.flatMap fun m=>fs.map fun c=>c++[(y,m)]).length=fs.length * ms.length
 | []=>rfl
 | m::ms=>by
  rw[List.flatMap_cons,be,aK,DQ ms,cV,ES];omega
theorem DR(ps:Lp)(fs:List Ch)(y:Str):(iO ps fs y).length=fs.length * ((a9 ps y).length+1):=by
 unfold iO;rw[be,DQ,ES];omega
theorem J4(ps:Lp):∀(ys:Ls) (fs:List Ch),fs.length<=(ys.foldl (iO ps) fs).length
 | [],_=>aS _
 | y::ys,fs=>by
  refine eU ?_ (J4 ps ys (iO ps fs y));rw[DR];exact Nat.le_mul_of_pos_right _ (Nat.succ_pos _)
theorem aec(ps:Lp)(ys:Ls)(i:Nat):(gb ps (ys.take i)).length<=(gb ps ys).length:=by
 have e:gb ps ys=(ys.drop i).foldl (iO ps) (gb ps (ys.take i)):=by
  unfold gb;rw[←List.foldl_append,List.take_append_drop]
 rw[e];exact J4 ps _ _
theorem Ka{ps:Lp}{ys:Ls}{i:Nat}{y:Str}(h:ys[i]?=some y):gb ps (ys.take (i+1))=iO ps (gb ps (ys.take i)) y:=by
 unfold gb;rw[i6 h,List.foldl_append];rfl
theorem Kb{ps:Lp}:∀(ys:Ls) (fs:List Ch) (n:Int),(fs.length:Int)=n->((ys.foldl (iO ps) fs).length:Int)=ys.foldl (l8 ps) n
 | [],_,_,h=>h
 | y::ys,fs,n,h=>by
  refine Kb ys (iO ps fs y) (l8 ps n y) ?_;rw[DR];unfold l8;rw[Int.natCast_mul,h]
theorem Kc{ps:Lp}:∀(ys pre:Ls) (fs:List Ch),(∀ch∈fs,ch.length<=pre.length/\∀x∈ch.map (·.1),x∈pre)->∀ch∈ys.foldl (iO ps) fs,ch.length<=(pre++ys).length/\∀x∈ch.map (·.1),x∈pre++ys
 | [],pre,fs,h=>by rw[fL];exact h
 | y::ys,pre,fs,h=>by
  have z:=Kc (ps:=ps) ys (pre++[y]) (iO ps fs y) fun ch hc=>by
   rcases gN.mp hc with hc | hc
   . obtain⟨a,b⟩:=h ch hc;exact⟨by rw[be];omega,fun x hx=>gN.mpr (.inl (b x hx))⟩
   . obtain⟨m,_,hc⟩:=sM.mp hc;obtain⟨c,fV,rfl⟩:=cP.mp hc;obtain⟨a,b⟩:=h c fV;refine⟨by rw[be,be];exact EH a,fun x hx=>?_⟩;rw[eA]at hx
     rcases gN.mp hx with hx | hx
     . exact gN.mpr (.inl (b x hx))
     . exact gN.mpr (.inr hx)
  rw[oZ]at z;exact z
theorem aed{ps:Lp}{ys:Ls}{ch:Ch}(h:ch∈gb ps ys):ch.length<=ys.length/\∀x∈ch.map (·.1),x∈ys:=Kc ys [] [[]] (fun c hc=>by rw[gP.mp hc];exact⟨aS _,fun x hx=>by cases hx⟩) ch h
theorem Kd{ps:Lp}:∀(ys:Ls) (fs:List Ch),(∀ch∈fs,∀e∈ch,∃p∈ps,p.nm=e.1/\p.ms=e.2)->∀ch∈ys.foldl (iO ps) fs,∀e∈ch,∃p∈ps,p.nm=e.1/\p.ms=e.2
 | [],fs,h=>h
 | y::ys,fs,h=>by
  refine Kd ys (iO ps fs y) fun ch hc=>?_
  rcases gN.mp hc with hc | hc
  . exact h ch hc
  . obtain⟨m,hm,hc⟩:=sM.mp hc;obtain⟨c,fV,rfl⟩:=cP.mp hc;intro e he
    rcases gN.mp he with he | he
    . exact h c fV e he
    . rw[gP.mp he];obtain⟨p,hp,rfl⟩:=cP.mp hm;obtain⟨hp,hx⟩:=iQ.mp hp;exact⟨p,hp,aL hx,rfl⟩
theorem Ke{β:Type}{x:Str}{v:β}:∀{l:List (Str×β)},l.lookup x=some v->(x,v)∈l
 | e::l,h=>by
  rw[jF]at h
  by_cases z:x=e.1
  . rw[show(x == e.1)=true from kE.mpr z]at h;rw[z,←gu h];exact .head _
  . rw[show(x == e.1)=false from jh.mpr z]at h;exact .tail _ (Ke h)
theorem aee{ps:Lp}{ys:Ls}{ch:Ch}(h:ch∈gb ps ys){x:Str}{m:List Int}(hx:ch.lookup x=some m):∃p∈ps,p.nm=x/\p.ms=m:=Kd ys [[]] (fun c hc=>by rw[gP.mp hc];intro e he;cases he) ch h _ (Ke hx)
section
variable {P:Program}{w:World}{K:Fg}{mg:Mv}{base:Heap}
def Kf:Sp:=fun vs H Q _=>∃(a:Addr) (xs:Lv) (ps:Lp) (ys:Ls),vs=[.ref a]/\H a=some (.lst xs)/\gK H xs ps/\ps.length<=9/\kQ ps ys/\(gb ps ys).length<=400 /\
 ∀l zs H',H l=none->af H H'->H' l=some (.lst zs)->Paired (jt H') zs (gb ps ys)->Q (.ref l) H'
theorem oQ:bo [aif,ajy,aiC,"_law_longer",ajo,ai2,aiE] [aif] (aO xV):=bu
theorem aef{f:Addr}{fd:Fy}(F:aj K ajs ajs xV f fd)(B:cj mg):ao P w K mg base aq 1 f fd [aif] Kf:=by
 refine F.okL oQ ?_
 . intro aG A outer s H vs Q E hr h xX dX;obtain⟨a,xs,ps,ys,rfl,ha,a8,l9,hN,Kg,q⟩:=h;have hu:=hr.units;have xl:=aP a8;have hkC:∀{Hx:Hp} (kv:bj×V) (f:Str×List Int),nV Hx kv f->kv.1=Sum.inr f.1:=fun kv f z=>z.1;refine⟨_,(ar (aY (i:=1) oQ.nd rfl (Or.inl rfl) (cG (aa pF ac)))
    (ar (iU jH rfl (cJ (b8 (GU rfl) (by rfl) B.sorted Af (aa (fT (GZ rfl) (by rfl) B.set agQ (aa (fA [ain] [] [] cC rfl (cJ (pv 0)) (fun _ _ _ _=>(bi (i:=0) (show List.Nodup ([ain]:Ls) by decide +kernel) rfl (Or.inl rfl))) (fun _ _ _ _=>fz) (fun _ _ _ _=>(au (cK K) (pv 0) ae (fun _ _=>rfl)))) ac)) ac))) (bi (i:=2) oQ.nd rfl (Or.inr rfl))
    (ar (aY (i:=3) oQ.nd rfl (Or.inl rfl) (fT pE (by rfl) B.list lA (aa (pv 1) ac)))
     (ar (iU jH rfl (cJ (fA [ain] [aiC] [2] cC rfl (cJ (pv 0)) (fun _ _ _ _=>(bi (i:=0) (show List.Nodup ([ain,aiC]:Ls) by decide +kernel) rfl (Or.inl rfl))) (fun _ _ _ _=>jp (bd bZ (au (cK K) (pv 0) ae (fun _ _=>rfl)) (pv 1) (aJ _))) (fun _ _ _ _=>(au (cK K) (pv 0) ae (fun _ _=>rfl))))) (bi (i:=4) oQ.nd rfl (Or.inl rfl))
     (aF (iU jH rfl (cJ (pv 1)) (bi (i:=5) oQ.nd rfl (Or.inl rfl))
      (ar (aY (i:=6) oQ.nd rfl (Or.inl rfl) (fT xo (by rfl) B.dict EM (aa (pv 5) ac)))
       (ar (qY hu (pv 6) (pv 2) (pv 4) rfl)
       (aF (qQ (wY wy EQ ER tE (pv 3) (aa (pv 6) ac)))))))))
     (aF (aY (i:=1) oQ.nd rfl (Or.inl rfl) (pv 3))))))
    (aF (aN (pv 1))))),?_⟩
   refine nu ?_
   intros
   refine fun p1 H1 n1 s1 e1=>?_;refine⟨(by show 1<=sizeLine;decide),fun p2 H2 n2 s2 e2=>?_⟩;have bR:=s1.trans s2;refine⟨_,rfl,a,rfl,⟨_,ah.of (bR _ _ ha)⟩,?_⟩;refine BC (σ0:=[none]) (ah.of (bR _ _ ha)) (fun σ=>∃u,σ=[u]) ((ps.map bp.nm).map V.str) (by rw[aK,aK,xl]) (iR (bq (by omega))) ⟨_,rfl⟩ ?_ ?_
   . intro i z y σ H3 k hz hy hQ hs hk;obtain⟨u,rfl⟩:=hQ;obtain⟨p,hp,t,m,fa,na,sa,oa,fx,rfl,h1,_⟩:=bO a8 hz;rw[dq,dq,hp]at hy;cases hy;have a0:aM [V.str p.nm,.ref m,.int p.rk,.ref fa,.ref na,.ref sa,.ref oa] 0=some (V.str p.nm):=rfl;exact⟨_,rfl,t,_,_,_,rfl,rfl,ak.of ((bR.trans hs) _ _ h1),a0,hk _ _ ⟨_,rfl⟩ (af.refl _)⟩
   . intro D H3 hD eD s3;refine⟨D,ps.map bp.nm,rfl,ah.of eD,by rw[aK];omega,fun r xs4 H4 n4 s4 e4 nd mem=>?_⟩;have hl:=HW nd fun z hz=>(mem z).mp hz;rw[aK]at hl;refine⟨r,xs4,rfl,e4,by omega,fun bt hp hs=>fun l H5 n5 s5 e5=>?_⟩;have ey:=kQ.uniq ⟨hs,hp.nodup_iff.mpr nd,fun z=>by rw[hp.mem_iff,mem]⟩ hN;subst ey;have fm:=s3.trans (s4.trans s5);have zn:=bR.trans fm;refine⟨l,rfl,⟨_,ah.of e5⟩,?_⟩;refine lI (xs:=bt.map V.str) (fun i σ H6=>∃lf u2 u3 u4 u5 u6 zs,σ=[some (.ref a),some (.ref lf),u2,u3,u4,u5,u6]/\af H5 H6/\H lf=none/\H6 lf=some (.lst zs)/\Paired (jt H6) zs (gb ps (bt.take i)))
      ⟨p2,none,none,none,none,none,[.ref p1],rfl,af.refl _,s1.free n2,fm _ _ e2,.cons ⟨p1,rfl,[],(s2.trans fm) _ _ e1,.nil⟩ .nil⟩ ?_ ?_ ?_
     . rintro i σ H6 hi ⟨lf,u2,u3,u4,u5,u6,zs,rfl,s6,_⟩;exact ah.of (s6 _ _ e5)
     . intro i x σ H6 hx hQ;refine cL ?_;intro tT;obtain⟨lf,u2,u3,u4,u5,u6,zs,rfl,s6,Kh,vE,qv⟩:=hQ;rw[dq]at hx;cases hy:bt[i]? with
       | none=>rw[hy]at hx;cases hx
       | some y=>
        rw[hy]at hx;cases hx;have lc:=zn.trans s6;have Dy:=(bW.mp hy).1;have wi:=aec ps bt (i+1);rw[Ka hy]at wi;have wl:=DR ps (gb ps (bt.take i)) y;have zl:=aP qv;have j4:∀ch∈gb ps (bt.take i),y∉ch.map (·.1)/\ch.length<=100:=fun ch hc=>by
         obtain⟨a1,a2⟩:=aed hc;rw[eV]at a1;have yl:=xB hN.nd fun z hz=>(hN.mem z).mp hz;rw[aK]at yl;refine⟨fun z=>?_,by omega⟩;obtain⟨j',rG,Ki⟩:=List.mem_iff_getElem.mp (a2 y z);rw[eV]at rG;rw[List.getElem_take]at Ki;have:=(EI (l:=bt) (i:=j') (j:=i) (by omega) hN.nd).mp (by rw[hy,dg (by omega),Ki]);omega
        have DS:=Ka (ps:=ps) hy;unfold iO at DS;generalize gb ps (bt.take i)=Fs at qv wi wl zl j4 DS;refine⟨_,rfl,lf,_,rfl,.inl (ah.of vE),fun p7 H7 n7 s7 e7=>?_⟩;refine⟨_,rfl,a,rfl,⟨_,ah.of ((lc.trans s7) _ _ ha)⟩,?_⟩;intro D8 q0;refine ka (σ0:=[none,some (.str y)]) q0 (ah.of ((lc.trans s7) _ _ ha)) (fun σ=>∃v,σ=[v,some (.str y)]) (fun j cZ _=>cZ.length<=j/\Paired (abO H) cZ (a9 (ps.take j) y)) ⟨_,rfl⟩ ⟨aS _,.nil⟩ ?_ ?_
        . rintro j x8 zs8 σ8 H8 kk kk' hx8 ⟨v8,rfl⟩ DT h8 ⟨zl8,Kj⟩ cQ ff;obtain⟨p,i5,t,m,fa,na,sa,oa,fx,rfl,h1,h2,_⟩:=bO a8 hx8;have Kk:=(lc.trans s7).trans h8;have ze:=(bW.mp i5).1;have a0:aM [V.str p.nm,.ref m,.int p.rk,.ref fa,.ref na,.ref sa,.ref oa] 0=some (V.str p.nm):=rfl;have a1:aM [V.str p.nm,.ref m,.int p.rk,.ref fa,.ref na,.ref sa,.ref oa] 1=some (V.ref m):=rfl;refine⟨_,rfl,t,_,_,_,rfl,rfl,ak.of (Kk _ _ h1),a0,_,rfl,rfl,_,rfl,?_⟩;refine av (fun h=>?_) (fun h=>?_)
          . have en:p.nm=y:=by have z:=aL h;injection z
            refine⟨_,rfl,t,_,_,_,rfl,rfl,ak.of (Kk _ _ h1),a1,cQ _ _ _ ⟨_,rfl⟩ (af.refl _) (bq (by omega)) ⟨by rw[be,jE];omega,?_⟩⟩;rw[k4 i5,aB en];exact dJ ⟨m,rfl,h2⟩ Kj
          . have en:p.nm≠y:=fun z=>h (by rw[z];exact aE rfl);refine ff _ _ ⟨_,rfl⟩ (af.refl _) ⟨by omega,?_⟩;rw[k4 i5,ap en,fL];exact Kj
        . rintro mv H8 DT h8 ⟨zl8,va⟩;rw[ww (by omega)]at va;have ml:=aP va;have Kl:=s7.trans h8;have n78:p7≠D8:=bF e7 q0;refine⟨D8,rfl,⟨_,ah.of DT⟩,?_⟩;refine lI (xs:=mv) (fun k σ H9=>∃u4 u5 u6 zz,σ=[some (.ref a),some (.ref lf),some (.str y),some (.ref p7),u4,u5,u6]/\af H6 H9/\H9 D8=some (.lst mv)/\H9 p7=some (.lst zz)/\Paired (jt H9) zz (Fs++((a9 ps y).take k).flatMap fun m=>Fs.map fun c=>c++[(y,m)]))
           ⟨u4,u5,u6,zs,rfl,Kl,DT,h8 _ _ e7,by rw[wz,List.flatMap_nil,fL];exact aX qv fun _ _ z=>z.same Kl⟩ ?_ ?_ ?_
          . rintro k σ H9 hk ⟨u4,u5,u6,zz,rfl,s9,d9,_⟩;exact ah.of d9
          . intro k mx σ H9 hmx hQ;refine cL ?_;intro tT;obtain⟨u4,u5,u6,zz,rfl,s9,d9,e9,z9⟩:=hQ;obtain⟨mm,Km,tm,rfl,htm⟩:=bO va hmx;have klt:=(bW.mp Km).1;have bl:Fs.length * (k+1)+Fs.length<=400:=by
             have:Fs.length * (k+1+1)<=Fs.length * ((a9 ps y).length+1):=Nat.mul_le_mul_left _ (by omega);rw[ES]at this;omega
            have bz:(Fs++((a9 ps y).take k).flatMap fun m=>Fs.map fun c=>c++[(y,m)]).length=Fs.length * (k+1):=by
             rw[be,DQ,eV,Nat.min_eq_left (by omega),ES];omega
            have Kn:(Fs++((a9 ps y).take (k+1)).flatMap fun m=>Fs.map fun c=>c++[(y,m)])=(Fs++((a9 ps y).take k).flatMap fun m=>Fs.map fun c=>c++[(y,m)])++Fs.map fun c=>c++[(y,mm)]:=by
             rw[BG Km,oZ]
            generalize (Fs++((a9 ps y).take k).flatMap fun m=>Fs.map fun c=>c++[(y,m)])=Bs at z9 bz Kn;refine⟨_,rfl,lf,rfl,⟨_,ah.of (s9 _ _ vE)⟩,?_⟩;refine lI (xs:=zs) (fun j σ gq=>∃u5 u6 zz,σ=[some (.ref a),some (.ref lf),some (.str y),some (.ref p7),some (.ref tm),u5,u6]/\af H6 gq/\gq D8=some (.lst mv)/\gq p7=some (.lst zz)/\Paired (jt gq) zz (Bs++(Fs.take j).map fun c=>c++[(y,mm)]))
             ⟨u5,u6,zz,rfl,s9,d9,e9,by rw[wz,zU,fL];exact z9⟩ ?_ ?_ ?_
            . rintro j σ gq hj ⟨u5,u6,zz,rfl,cz,_⟩;exact ah.of (cz _ _ vE)
            . intro j cx σ gq hcx hQ;refine cL ?_;intro tT;obtain⟨u5,u6,zz,rfl,cz,sd,fE,qw⟩:=hQ;obtain⟨ch,gx,cc,rfl,ab,qO,pr⟩:=bO qv hcx;have ze:=(bW.mp gx).1;have aeo:=aP qw;rw[be,aK,eV]at aeo;obtain⟨hny,nw⟩:=j4 ch (gO gx);have prl:=aP pr;refine⟨_,rfl,cc,_,rfl,cz _ _ qO,fun qk qf uY hJ qg=>?_⟩;refine⟨_,rfl,_,rfl,_,rfl,qk,_,rfl,jn.k (k:=.inr y) qg (bq (by omega)),?_⟩;have bP:=nW (o:=.dK (ca ab (.inr y) (.ref tm))) uY hJ;have jy:=bP _ _ fE;refine⟨_,rfl,.inl ⟨rfl,_,ah.of jy⟩,_,rfl,p7,_,_,rfl,rfl,jy,bq (by omega),?_⟩;have ek:ca ab (.inr y) (.ref tm)=ab++[(.inr y,.ref tm)]:=FP _ (aaJ hkC pr hny);have zr:=cz.trans bP;refine⟨_,_,_,rfl,nW n7 zr,aZ (bP _ _ sd) n78.symm,bf,?_⟩;rw[i6 gx,eA,←oZ];refine dJ (jt.mut jy ⟨qk,rfl,_,bf,?_⟩) (aX qw fun _ _ z=>jt.mut jy (z.same bP));refine ek▸?_;rw[ek]at bP zr;exact dJ ⟨rfl,tm,rfl,(lc.trans zr) _ _ htm⟩ (aX pr fun _ _=>nV.same zr)
            . rintro σ gq ⟨u5,u6,zz,rfl,cz,sd,fE,qw⟩;rw[zl,eB,←Kn]at qw;exact⟨_,_,_,_,rfl,cz,sd,fE,qw⟩
          . rintro σ H9 ⟨u4,u5,u6,zz,rfl,s9,d9,e9,z9⟩;rw[ml,eB,←DS]at z9;exact⟨_,rfl,p7,_,_,_,_,_,zz,rfl,s6.trans s9,lc.free n7,e9,z9⟩
     . rintro σ H6 ⟨lf,u2,u3,u4,u5,u6,zs,rfl,s6,Kh,vE,qv⟩;rw[aK,eB]at qv;exact⟨_,rfl,q lf zs H6 Kh (zn.trans s6) vE qv⟩
end
open HT (At)
structure zu(ps:Lp)(de fu:Dec):Prop where
 ext:∀x o,de.lookup x=some o->bK fu x=o
 all:∀p∈ps,jb fu p.nm=true
 ok:c9 ps fu
theorem vF{ps:Lp}{de fu:Dec}(h:zu ps de fu){x:Str}{p:bp}(hp:bM ps de x=some p):bM ps fu x=some p:=by
 cases hz:bK de x with
 | none=>rw[Ic hz]at hp;cases hp
 | some m=>
  have e:=h.ext x _ (yA hz);unfold bM at hp ⊢;rw[hz]at hp;rw[e];exact hp
theorem aeq{ps:Lp}{ws:List cO}{de fu:Dec}{r:cf}(h:zu ps de fu)(hb:gp ps ws de r=true):gp ps ws fu r=true:=by
 cases r with
 | odd k hk=>cases hb
 | wish n=>
  have hb:kR ps ws de n=true:=hb;show kR ps ws fu n=true;unfold kR at hb ⊢;obtain⟨h1,h2⟩:=gw.mp hb;rw[h1,eu];cases hw:ws[n.toNat]? with
  | none=>rw[hw]at h2;cases h2
  | some w=>
   rw[hw]at h2;have h2:(gZ ps de w.nm && !l7 w (bK de w.nm))=true:=h2;show(gZ ps fu w.nm && !l7 w (bK fu w.nm))=true;obtain⟨h3,h4⟩:=gw.mp h2;have e1:bK fu w.nm=bK de w.nm:=by
    unfold gZ at h3
    by_cases hh:jb de w.nm=true
    . obtain⟨o,ho⟩:=we.mp hh;rw[h.ext _ _ ho];unfold bK;rw[ho];rfl
    . rw[jj.mpr hh,zW]at h3;have e0:=aL h3;rw[Jf h.ok e0];unfold bK;unfold jb at hh;cases hz:de.lookup w.nm with
      | none=>rfl
      | some o=>rw[hz]at hh;exact absurd rfl hh
   have e2:gZ ps fu w.nm=true:=by
    unfold gZ
    by_cases e:(a9 ps w.nm).length=0
    . rw[aE e,LI]
    . obtain⟨m,hm⟩:=List.exists_mem_of_length_pos (Nat.pos_of_ne_zero e);obtain⟨p,hp,_⟩:=cP.mp hm;obtain⟨p1,p2⟩:=iQ.mp hp;rw[←aL p2,h.all p p1,Lx]
   rw[e1,e2,h4];rfl
 | need x n=>
  have hb:kS ps de x n=true:=hb;show kS ps fu x n=true;unfold kS at hb ⊢;cases hp:bM ps de x with
  | none=>rw[hp]at hb;cases hb
  | some p=>
   rw[hp]at hb;rw[vF h hp];dsimp only at hb ⊢;obtain⟨h1,h2⟩:=gw.mp hb;rw[h1,eu];cases hc:p.ns[n.toNat]? with
   | none=>rw[hc]at h2;cases h2
   | some c=>
    rw[hc]at h2;have h2:(!ps.any fun q=>gm de q && dj c q)=true:=h2;show(!ps.any fun q=>gm fu q && dj c q)=true;rw[L5,Lb]at h2 ⊢;intro q hq hz;obtain⟨z1,z2⟩:=gw.mp hz;refine h2 q hq ?_;rw[z2,Bool.and_true];obtain⟨o,ho⟩:=we.mp (h.all q hq);unfold gm at z1 ⊢;rw[ho]at z1;have z1:=aL z1;cases hd:de.lookup q.nm with
    | none=>rfl
    | some o'=>
     have e:=h.ext _ _ hd;unfold bK at e;rw[ho,z1]at e;exact aE e.symm
 | shut x n y=>
  have hb:kT ps de x n y=true:=hb;show kT ps fu x n y=true;unfold kT at hb ⊢;cases hp:bM ps de x with
  | none=>rw[hp]at hb;cases hb
  | some p=>
   rw[hp]at hb;rw[vF h hp];dsimp only at hb ⊢;cases ho:bM ps de y with
   | none=>rw[ho]at hb;cases hb
   | some o=>
    rw[ho]at hb;rw[vF h ho];exact hb
 | clash x y z=>
  have hb:kU ps de x y z=true:=hb;show kU ps fu x y z=true;unfold kU at hb ⊢;cases hp:bM ps de x with
  | none=>rw[hp]at hb;cases hb
  | some p=>
   rw[hp]at hb;rw[vF h hp];dsimp only at hb ⊢;cases ho:bM ps de y with
   | none=>rw[ho]at hb;cases hb
   | some o=>
    rw[ho]at hb;rw[vF h ho];exact hb
theorem aer{ps:Lp}{fu:Dec}(h:c9 ps fu)(x:Str):bK fu x∈dU ps x:=by
 cases hz:bK fu x with
 | none=>exact gc
 | some m=>
  obtain⟨p,hp,e1,e2⟩:=h x m (yA hz);exact eS _ (cP.mpr ⟨m,(uO _).mem_iff.mpr (cP.mpr ⟨p,iQ.mpr ⟨hp,aE e1⟩,e2⟩),rfl⟩)
theorem Ko{ps:Lp}{Lc Tc:Addr}:∀{n:Nat}{H:Hp}{v:V}{g:bN},cT ps Lc Tc n H v g->∀{ws:List cO}{de fu:Dec},zu ps de fu->g ws de=true->∃r,gp ps ws fu r=true
 | 0,_,_,_,h,_,_,_,_,_=>(show False from h).elim
 | n+1,H,v,g,h,ws,de,fu,ag,hg=>by
  rcases(show kg ps Lc H v g\/iF ps Tc (cT ps Lc Tc n) H v g from h) with h | h
  . obtain⟨a,dx,fl,rv,r,_,_,_,_,_,_,rfl⟩:=h;exact⟨r,aeq ag hg⟩
  . obtain⟨a,dx,fl,x,l,ys,gs,_,_,_,_,_,_,_,hp,_,rfl⟩:=h;have hg:(decide (gs.length=(dU ps x).length) && ((dU ps x).zip gs).all fun e=>e.2 ws (cN de x e.1))=true:=hg;obtain⟨h1,h2⟩:=gw.mp hg;have h1:=aL h1;obtain⟨i,hi⟩:=wt (aer ag.ok x);have il:=(bW.mp hi).1;have Kp:=dg (l:=gs) (i:=i) (by omega);obtain⟨y,_,hy⟩:=rK hp Kp;have:=wm.mp h2 _ (gO (zip_get hi Kp));refine Ko hy (de:=cN de x (bK fu x)) ⟨fun z o hz=>?_,ag.all,ag.ok⟩ this;rw[yQ]at hz
    by_cases e:z=x
    . rw[aB e]at hz;rw[e];exact gu hz
    . rw[ap e]at hz;exact ag.ext z o hz
section
variable {P:Program}{w:World}{K:Fg}{mg:Mv}{base:Heap}
def Kq:Sp:=fun vs H Q _=>∃(a wl c:Addr) (xs:Lv) (ps:Lp) (xw:Lv) (ws:List cO) (ch:Ch),vs=[.ref a,.ref wl,.ref c]/\H a=some (.lst xs)/\gK H xs ps/\kj ps/\H wl=some (.lst xw)/\Paired (cR H) xw ws/\ws.length<=9/\ut H c ch/\(∀x m,ch.lookup x=some m->∃p∈ps,p.nm=x/\p.ms=m)/\(∀fu,zu ps [] fu->∃r,gp ps ws fu r=true) /\
 ∀H',af H H'->Q (.bl false) H'
theorem DU:bo [aif,aim,ai2,aig,ain] [aif,aim,ai2] (aO xW):=bu
theorem aes{f ky fk dY dZ ee:Addr}{fd oK iK hV hX hZ:Fy}(F:aj K ajt ajt xW f fd)(B:cj mg)(jg:aj K aiM aiM rB ky oK)(mI:mg aiM=some (.ref ky))(eQ:aj K aiw aiw lZ fk iK)(gr:mg aiw=some (.ref fk))(ef:aj K aiB aiB kM dY hV)(fh:mg aiB=some (.ref dY))(eO:aj K aiq aiq kN dZ hX)(fG:mg aiq=some (.ref dZ))
 (eh:aj K aiv aiv kL ee hZ) (fi:mg aiv=some (.ref ee)):ao P w K mg base aq 4 f fd [aif,aim,ai2] Kq:=by
 have DD:ao P w K mg base aq 3 ky oK [aif,aim,aig] Dt:=Jt jg B eQ gr ef fh eO fG eh fi;have DE:=jg.binds3 (l:=[aif,aim,aig]) (fun _ _ _ _ _ _ _ _ _=>rfl);refine F.okL DU ?_
 . intro aG A outer s H vs Q E hr h xX dX;obtain⟨a,wl,c,xs,ps,xw,ws,ch,rfl,ha,a8,bH,cm,cS,w9,hc,val,hbr,q⟩:=h;have hu:=hr.units;have dN:=hr.units0;have l6:=bH.len;have xl:=aP a8;refine⟨_,(ar (aY (i:=3) DU.nd rfl (Or.inl rfl) pF)
    (ar (iU jH rfl (cJ (pv 0)) (bi (i:=4) DU.nd rfl (Or.inl rfl))
    (aF (qY hu (pv 3) (au aQ (pv 4) ae (fun _ _=>rfl)) (tF hu (pv 2) (au aQ (pv 4) ae (fun _ _=>rfl)) ⟨rfl,rfl,rfl,rfl⟩) rfl)))
    (aF (aN (cB (xF dN) (aI DD hr rfl mI jg.kp DE .nil az (aa (pv 0) (aa (pv 1) (aa (pv 3) ac)))) (cG ac) (aJ _)))))),?_⟩
   refine nu ?_;intro dD sS u3 u2;refine fun p1 H1 n1 s1 e1=>?_;refine⟨_,rfl,a,rfl,⟨_,ah.of (s1 _ _ ha)⟩,?_⟩;refine lI (xs:=xs) (fun i σ G=>∃w1 ab de,σ=[some (.ref a),some (.ref wl),some (.ref c),some (.ref p1),w1]/\af H G/\G p1=some (.dK ab)/\Paired (ga G) ab de/\de.length<=i/\(∀p∈ps.take i,jb de p.nm=true)/\∀x o,de.lookup x=some o->o=ch.lookup x) ⟨none,[],[],rfl,s1,e1,.nil,aS _,(fun p hp=>by rw[wz]at hp;cases hp),fun x o h=>by cases h⟩ ?_ ?_ ?_
   . rintro i σ G hi ⟨w1,ab,de,rfl,sg,_⟩;exact ah.of (sg _ _ ha)
   . intro i z σ G hz hQ;refine cL ?_;intro tT;obtain⟨w1,ab,de,rfl,sg,eg,pr,dl,dF,pQ⟩:=hQ;obtain⟨p,hp,tp,m,fa,oE,sa,oa,fx,rfl,g1,g2,_⟩:=bO a8 hz;have Dy:=(bW.mp hp).1;have a0:aM [V.str p.nm,.ref m,.int p.rk,.ref fa,.ref oE,.ref sa,.ref oa] 0=some (V.str p.nm):=rfl;obtain⟨kc,qp,oO⟩:=hc.same sg;have kl:=aP pr;refine⟨_,rfl,c,rfl,.inl ⟨_,.inl qp⟩,_,rfl,tp,_,_,_,rfl,rfl,ak.of (sg _ _ g1),a0,_,cw.k (k:=.inr p.nm) qp,_,rfl,_,rfl,tp,_,_,_,rfl,rfl,ak.of (sg _ _ g1),a0,p1,_,rfl,jn.k (k:=.inr p.nm) eg (bq (by omega)),?_⟩;have hB:=Ib (x:=p.nm) oO;generalize (bJ kc (.inr p.nm)).getD .non=bv at hB;have sm:af H (al G p1 (.dK (ca ab (.inr p.nm) bv))):=nW n1 sg;have bm:∀{v o},ce G v o->ce (al G p1 (.dK (ca ab (.inr p.nm) bv))) v o:=by
      intro v o h;cases o with
      | none=>exact h
      | some m=>
       obtain⟨b,e,hb⟩:=h;exact⟨b,e,aZ hb (eF hb eg (by intro z;cases z))⟩
     refine⟨_,_,cN de p.nm (ch.lookup p.nm),rfl,sm,bf,yi (fun kv f (z:ga _ kv f)=>z.1) ⟨rfl,bm hB⟩ (aX pr fun _ _ z=>⟨z.1,bm z.2⟩),eU (yh _ _ _) (by omega),fun p' cq=>?_,fun x o hx=>?_⟩
     . unfold jb;rw[yQ]
       by_cases e:p'.nm=p.nm
       . rw[aB e];rfl
       . rw[ap e];rw[i6 hp]at cq
         rcases gN.mp cq with h | h
         . exact dF p' h
         . rw[gP.mp h]at e;exact absurd rfl e
     . rw[yQ]at hx
       by_cases e:x=p.nm
       . rw[aB e]at hx;rw[e];exact(gu hx).symm
       . rw[ap e]at hx;exact pQ x o hx
   . intro σ G hQ;refine cL ?_;intro tT;obtain⟨w1,ab,de,rfl,sg,eg,pr,dl,dF,pQ⟩:=hQ;rw[xl,eB]at dF;have bU:c9 ps de:=fun x m hx=>val x m (pQ x _ hx).symm;obtain⟨r,zg⟩:=hbr de ⟨(fun x o h=>by cases h),dF,bU⟩;refine⟨_,rfl,_,rfl,_,rfl,a,wl,p1,xs,ps,xw,ws,de,rfl,sg _ _ ha,a8.same sg,by omega,bH.few,sg _ _ cm,aX cS (fun _ _ z=>z.same sg),w9,⟨ab,eg,pr⟩,bU,fun D zs rs H2 nD s2 dD2 Cm rl hb=>?_⟩;refine⟨(by show 0<=sizeLine;decide),fun p3 H3 n3 s3 e3=>?_⟩;refine⟨D,p3,_,rfl,rfl,ah.of (s3 _ _ dD2),ah.of e3,?_⟩;have zl:=aP Cm;have hm:=agG (hb r zg);have e0:decide (zs.length=0)=false:=ba (by omega);rw[e0];exact q H3 (sg.trans (s2.trans s3))
end
end K43
namespace L2
open PySem PySem.Spec PyProof.Rows
section
variable {X:Cx}
theorem aev:bI X (compareOp .Is) (fun x y H Q=>∃b c:Bool,x=.bl b/\y=.bl c/\Q (.bl (b == c)) H):=by
 intro pins s σ H x y v u Q I rx ry h;obtain⟨b,c,rfl,rfl,q⟩:=h;cases rx;cases ry;exact is_bool (cg I q rfl)
theorem aew{t1 t2 t3 t4 t5 t6 t7 t8 t9 tP Kr Ks se Kt Ku Kv:TS}{D:Ends}{σ:St}{H:Hp}(h:let d:=D;let s:=σ;let DW:=Kv;let DX:=aD Ku DW;let Kw:=aD Kt DX;let vb:=aD se Kw;let DY:=aD Ks vb;let Kx:=aD Kr DY;let rc:=aD tP Kx;let u9:=aD t9 rc;let u8:=aD t8 u9;let u7:=aD t7 u8;let u6:=aD t6 u7;let u5:=aD t5 u6;let u4:=aD t4 u5;let u3:=aD t3 u4;let u2:=aD t2 u3;aD t1 u2 d s H):aD t1 (aD t2 (aD t3 (aD t4 (aD t5 (aD t6 (aD t7 (aD t8 (aD t9 (aD tP (aD Kr (aD Ks (aD se (aD Kt (aD Ku (Kv))))))))))))))) D σ H:=h
theorem ao.ex{P:Program}{w:World}{K:Fg}{mg:Mv}{base:Heap}{CX:gT}{k:Nat}{f:Addr}{fd:Fy}{ps:Ls}{m:Nat}{sp:Nat->Sp}(h:∀n,n<=m->ao P w K mg base CX k f fd ps (sp n)):ao P w K mg base CX k f fd ps (fun vs H Q E=>∃n,n<=m/\sp n vs H Q E):=
 ⟨fun vs H Q E z=>z.elim fun n aex=>aex.elim fun hn z=>(h n hn).len vs H Q E z,fun A outer s H args us vs Q E hr he hb hv z=>z.elim fun n aey=>aey.elim fun hn z=>(h n hn).run A outer s H args us vs Q E hr he hb hv z⟩
structure DZ(K:Fg)(C:Addr):Prop where
 makes:PySem.W.makesIn K C=true
 init:PySem.W.findIn K (.ref C) "__init__"=some (some (.builtin "object.__init__"))
 kp:PySem.W.keepIn K (.ref C)=true
def aez(C:Addr):TE:=fun _ H Q=>∀x dx H',H x=none->af H H'->H' x=some (.ins C dx [])->Q (.ref x) H'
theorem aeA{C:Addr}{x:Str}{p pos:Pos}(M:DZ X.K C)(hg:Gl X x)(hm:X.mg x=some (.ref C))(iT:(x == ("__debug__":Str))=false:=by decide):PE X (.Call (.Name x p) [] [] pos) (aez C):=by
 intro pins s σ H Q I h;refine zT (wH I hg hm ?_ iT);refine PySem.W.callWith_K0 I.kIn M.kp (Eu ?_);have I2:=Inv.made (C:=C) I;have hx:=I.hok.fresh (Nat.le_succ s.heap.objs.size);have hd:=I.hok.fresh (aS s.heap.objs.size);have z:=h (s.heap.objs.size+1) s.heap.objs.size (al (al H s.heap.objs.size (.own (s.heap.objs.size+1))) (s.heap.objs.size+1) (.ins C s.heap.objs.size [])) hx (lT (jV hd) hx) bf;refine Qc I.kIn M.makes M.init (fun self=>PySem.W.Looks.of_pure (PySem.W.oi_bind self)) ?_;have Y:=Lf (M:=model X.prog X.w) I.kIn M.makes;have hg:((s.heap.push PySem.W.emptyDict).push (PySem.W.instObj C s.heap.objs.size)).get? (s.heap.objs.size+1)=some (PySem.W.instObj C s.heap.objs.size):=by
  have:=em (s.heap.push PySem.W.emptyDict) (o:=PySem.W.instObj C s.heap.objs.size) rfl
  rwa [mZ]at this
 have t1:PySem.W.Looks (model X.prog X.w) ((s.heap.push PySem.W.emptyDict).push (PySem.W.instObj C s.heap.objs.size)) (typeOf (.ref (s.heap.objs.size+1))) (.ref C):=(PySem.W.Looks.ld hg).andThen .now;have t2:PySem.W.Looks (model X.prog X.w) ((s.heap.push PySem.W.emptyDict).push (PySem.W.instObj C s.heap.objs.size)) (isInstance (.ref (s.heap.objs.size+1)) (.type "object")) true:=t1.andThen (Y.top.keeps fun b o e=>bS _ (bS _ e));refine codeAny_call_builtin PySem.W.oi_plain PySem.W.entry_oi (@PySem.W.check_slot (model X.prog X.w) _ _ _ "object.__init__" "object" "__init__" (.ref (s.heap.objs.size+1)) [] [] _ PySem.W.oi_kind PySem.W.oi_split t2 (PySem.W.oi_args (.ref (s.heap.objs.size+1))) ?_);rw[PySem.W.oi_run];exact aw (And.intro rfl ⟨V.ref (s.heap.objs.size+1),_,I2,rfl,z⟩)
theorem aeB(hu:X.A.units<cLine):bI X (compareOp .NotEq) (fun x y H Q=>∃(p q:Addr) (ts:List Addr),x=.ref p/\y=.ref q/\H p=some (.lst (ts.map V.ref))/\H q=some (.lst (ts.map V.ref))/\Q (.bl false) H):=by
 intro pins s σ H x y v u Q I rx ry h;obtain⟨p,q,ts,rfl,rfl,hp,hq,q'⟩:=h;cases rx;cases ry;obtain⟨j1,w1,m1,_⟩:=I.list (ah.of (K:=X.K) hp);obtain⟨j2,w2,m2,_⟩:=I.list (ah.of (K:=X.K) hq);have e3:=Bk w1;have e4:=Bk w2;subst e3 e4;have Ky:∀{a:Addr}{it:Av},PlainL s.heap a it->s.heap.IsList a it:=fun aeC=>aeC.elim fun o aeD=>aeD.elim fun n aeE=>aeE.elim fun e aeF=>aeF.elim fun c aeG=>aeG.elim fun _ d=>⟨o,e,c,n,d⟩;exact HT.ZL (Ky m1) (Ky m2) rfl hu (fun j h1 h2=>HT.ro.of (SeqAt.EqAt.same _)) ⟨.bl false,H,I,rfl,q'⟩
end
end L2
namespace K43
open PySem L2 PySem.Spec PyProof.Rows
open HT (At)
seal PE PS c7 PA PT PW PG ip PI gB
def mK(x:Str):Ls->Ls
 | []=>[x]
 | y::r=>if ltCps y.cps.toList x.cps.toList=true then y::mK x r else x::y::r
theorem D0(x:Str):∀l:Ls,(mK x l).Perm (x::l)
 | []=>.refl _
 | y::r=>by
  unfold mK;split
  . exact((D0 x r).cons y).trans (.swap x y r)
  . exact .refl _
theorem Kz{a b:Str}(h:ltCps a.cps.toList b.cps.toList=true):ltCps b.cps.toList a.cps.toList=false:=by
 rw[agN]at h ⊢;exact ba (List.lt_asymm (aL h))
theorem KA(x:Str):∀(l:Ls) (p:Str),risingS p l=true->ltCps x.cps.toList p.cps.toList=false->risingS p (mK x l)=true
 | [],p,_,h=>by
  show(!ltCps x.cps.toList p.cps.toList && true)=true;rw[h];rfl
 | y::r,p,h,hx=>by
  have h:(!ltCps y.cps.toList p.cps.toList && risingS y r)=true:=h;obtain⟨h1,h2⟩:=gw.mp h;unfold mK;split
  . rename_i lt;show(!ltCps y.cps.toList p.cps.toList && risingS y (mK x r))=true;rw[h1,KA x r y h2 (Kz lt)];rfl
  . rename_i lt;show(!ltCps x.cps.toList p.cps.toList && (!ltCps y.cps.toList x.cps.toList && risingS y r))=true;rw[hx,jj.mpr lt,h2];rfl
theorem aeH(x:Str):∀l:Ls,sortedS l=true->sortedS (mK x l)=true
 | [],_=>rfl
 | y::r,h=>by
  have h:risingS y r=true:=h;unfold mK;split
  . rename_i lt;exact KA x r y h (Kz lt)
  . rename_i lt;show(!ltCps y.cps.toList x.cps.toList && risingS y r)=true;rw[jj.mpr lt,h];rfl
theorem KC:∀l:Ls,∃ys,sortedS ys=true/\ys.Nodup/\∀z,z∈ys↔z∈l
 | []=>⟨[],rfl,Lz,fun _=>Iff.rfl⟩
 | x::l=>by
  obtain⟨ys,h1,h2,h3⟩:=KC l
  by_cases hx:x∈ys
  . refine⟨ys,h1,h2,fun z=>?_⟩;rw[h3,cE];refine⟨.inr,fun h=>?_⟩
    rcases h with e | h
    . rw[e];exact(h3 x).mp hx
    . exact h
  . refine⟨mK x ys,aeH x ys h1,(D0 x ys).nodup_iff.mpr (m3.mpr ⟨hx,h2⟩),fun z=>?_⟩;rw[(D0 x ys).mem_iff,cE,cE,h3]
theorem aeI(ps:Lp):∃ys,kQ ps ys:=by
 obtain⟨ys,h1,h2,h3⟩:=KC (ps.map bp.nm);exact⟨ys,h1,h2,h3⟩
theorem cR.mut{H:Hp}{D:Addr}{zs cZ:Lv}(hD:H D=some (.lst zs)){v:V}{w:cO}(h:cR H v w):cR (al H D (.lst cZ)) v w:=by
 obtain⟨t,e,h⟩:=h;refine⟨t,e,?_⟩;obtain⟨nm,io⟩:=w;cases io with
 | none=>
  have h:H t=_:=h;exact aZ h (eF h hD (by intro z;cases z))
 | some c=>
  obtain⟨l,b,h1,h2,h3⟩:=h;exact⟨l,b,aZ h1 (eF h1 hD (by intro z;cases z)),aZ h2 (eF h2 hD (by intro z;cases z)),h3.mut hD⟩
theorem aeJ{ps:Lp}(h:kj ps){ys:Ls}(hN:kQ ps ys):(gb ps ys).length<=400:=by
 have a:=Kb (ps:=ps) ys [[]] 1 rfl;have b:=h.width hN;have c:((gb ps ys).length:Int)=ys.foldl (l8 ps) 1:=a;omega
theorem bV.up{ps:Lp}:∀{n m:Nat}{H:Hp}{v:V}{g:bN},n<=m->bV ps n H v g->bV ps m H v g
 | 0,_,_,_,_,_,h=>(show False from h).elim
 | n+1,0,_,_,_,le,_=>absurd le (Nat.not_succ_le_zero _)
 | n+1,m+1,H,v,g,le,h=>by
  rcases(show oJ ps H v g\/mG ps (bV ps n) H v g from h) with h | h
  . exact .inl h
  . obtain⟨t,x,l,ys,gs,e,h1,h2,h3,h4,h5⟩:=h;exact .inr ⟨t,x,l,ys,gs,e,h1,h2,aX h3 fun _ _ z=>bV.up (Nat.le_of_succ_le_succ le) z,h4,h5⟩
theorem KD{H:Hp}:∀{xw:Lv}{ws:List cO},Paired (cR H) xw ws->∃ts:List Addr,xw=ts.map V.ref
 | _,_,.nil=>⟨[],rfl⟩
 | _,_,.cons a r=>by
  obtain⟨ts,rfl⟩:=KD r;obtain⟨t,rfl,_⟩:=a;exact⟨t::ts,rfl⟩
section
variable {P:Program}{w:World}{K:Fg}{mg:Mv}{base:Heap}
theorem aeK{C S:Addr}{H:Hp}{Q:Addr->Hp->Prop}{E:XK}{a:Addr}{xs:Lv}{ps:Lp}(ha:H a=some (.lst xs))(a8:nU C H xs ps)(BX:ps.length<=100)(ye:(ps.map dk).Nodup)(q:∀x H',H x=none->af H H'->kO S H' (.ref x) xs ps->Q x H') :
 ∀x dx,H x=none->H dx=none->dx≠x->BW K C S (.ref x::([.ref a]++[])) (al (al H dx (.own x)) x (.ins S dx [])) (fun v H2=>v=.non/\Q x H2) E:=by
 intro x dx hx BS nx;have s1:af H (al (al H dx (.own x)) x (.ins S dx [])):=lT (jV BS) hx;refine⟨x,dx,a,xs,ps,rfl,bf,s1 _ _ ha,a8.same s1,BX,ye,fun H' keep hS=>⟨rfl,q x H' hx (fun b o e=>keep b o (s1 _ _ e) (bF e hx)) hS⟩⟩
theorem KG{ps:Lp}{Lc Tc:Addr}{n:Nat}{H:Hp}{v:V}{g:bN}(h:cT ps Lc Tc (n+1) H v g):(∃y dy fl,v=.ref y/\H y=some (.ins Lc dy fl)/\fl.lookup (aje:Str)=none)\/∃y dy fl,v=.ref y/\H y=some (.ins Tc dy fl)/\fl.lookup (aje:Str)=none:=by
 rcases(show kg ps Lc H v g\/iF ps Tc (cT ps Lc Tc n) H v g from h) with hh | hh
 . obtain⟨y,dy,mL,rv,rr,e,b1,b2,b3,b4,_⟩:=hh;exact .inl ⟨y,dy,mL,e,b1,b4⟩
 . obtain⟨y,dy,mL,xx,ll,yy,gg,e,b1,b2,b3,b4,b5,_⟩:=hh;exact .inr ⟨y,dy,mL,e,b1,b5⟩
structure D3(K:Fg)(mg:Mv)(Pc fW fH:Addr):Prop where
 cl:gz K Pc
 mW:jl K Pc aiA fW
 mH:jl K Pc aje fH
 mgC:mg "Paper"=some (.ref Pc)
def KH:Sp:=fun vs H Q _=>∃a b c d,vs=[a,b,c,d]/\Q (.bl false) H
theorem aeL:bo [aio,ail,ais,aij] [aio,ail,ais,aij] (aO pK):=bu
theorem aeM{f:Addr}{fd:Fy}(F:aj K aiA "Paper.holds_where" pK f fd):ao P w K mg base aq 1 f fd [aio,ail,ais,aij] KH:=by
 refine F.ok aeL (fun vs H Q E h=>?_) (fun aG A outer s H vs Q E hr h=>?_)
 . obtain⟨a,b,c,d,rfl,_⟩:=h;rfl
 . obtain⟨a,b,c,d,rfl,q⟩:=h;exact⟨_,aF (aN dr),q⟩
def KI(Pc:Addr):Sp:=fun vs H Q _=>∃x dx fl sv wv,vs=[.ref x,sv,wv]/\H x=some (.ins Pc dx fl)/\fl.lookup (aiA:Str)=none/\∀H',af H H'->Q (.bl false) H'
theorem aeN{f qx Pc:Addr}{fd vG:Fy}(F:aj K aje "Paper.holds" fZ f fd)(UP:D3 K mg Pc qx f)(zv:aj K aiA "Paper.holds_where" pK qx vG):ao P w K mg base aq 2 f fd [aio,ail,ais] (KI Pc):=by
 have aeO:ao P w K mg base aq 1 qx vG [aio,ail,ais,aij] KH:=aeM zv;have aeP:=zv.binds4 (l:=[aio,ail,ais,aij]) (fun _ _ _ _ _ _ _ _ _ _=>rfl);refine F.ok II (fun vs H Q E h=>?_) (fun aG A outer s H vs Q E hr h=>?_)
 . obtain⟨x,dx,fl,sv,wv,rfl,_⟩:=h;rfl
 . obtain⟨x,dx,fl,sv,wv,rfl,hx,hl,q⟩:=h;refine⟨_,aF (aN (iV (pv 0) UP.cl UP.mW aeO hr aeP .nil az (aa (pv 1) (aa (pv 2) (aa pF ac))))),?_⟩;exact⟨_,rfl,x,dx,fl,rfl,hx,hl,_,rfl,_,rfl,fun p1 H1 n1 s1 e1=>⟨_,_,_,_,rfl,q H1 s1⟩⟩
theorem aeQ(z:Int):∃n:Nat,n<=3/\z % 4=(n:Int):=⟨(z % 4).toNat,by omega,by omega⟩
def zw(K:Fg):Sp:=fun vs H Q _=>∃(a:Addr) (ns:List Int),vs=[.ref a]/\ah K H a (ns.map V.int)/\ns.length<=63/\∀H',Q (.bl true) H'
theorem ib:bo [aiD,aii,aif,aih,aim,aiS,air,"_law_shelf",aip,"_law_told_here","_law_handed",ajy,"_law_due",ai2] [aiD] (aO rC):=bu
theorem aeR{f C S Lc Tc Pc fN fM fP vC vD fPW fJ qy oz oA zx zy zA zB zC zD zE zF:Addr}{fd kz vH si sj D4 D5 D6 D7 D9 Ea Eb Ec:Fy}(F:aj K "law" "law" rC f fd)(B:cj mg)(US:gG K mg S fN fM fP)(MS:Mk K S qy)(UL:mi K mg Lc vC fJ)(UT:og K mg Tc vD fJ)(UP:D3 K mg Pc fPW fJ)(M0:DZ K Pc)
 (IL:ua K Lc) (IT:ua K Tc) (vI:PySem.W.kitOne K (.ref Lc) (.ref Pc)=some true) (vJ:PySem.W.kitOne K (.ref Tc) (.ref Pc)=some true) (kB:PySem.W.kitOne K (.type "bool") (.type "bool")=some true)
 (zG:aj K "__init__" "Shelf.__init__" pI qy vH) (aeT:ao P w K mg base aq 1 qy vH [aio,ajA] (BW K C S))
 (vK:aj K aje "Paper.holds" fZ fJ kz) (zH:ao P w K mg base aq 24 fJ kz [aio,ail,ais] (CV C S Lc Tc 16)) (aeU:ao P w K mg base aq 24 fJ kz [aio,ail,ais] (KI Pc))
 (hU:aj K aiO aiO uf oz si) (km:mg aiO=some (.ref oz)) (oB:ao P w K mg base aq 24 oz si [aiD,aip] (BI K))
 (k6:aj K aiZ aiZ ug oA sj) (sk:mg aiZ=some (.ref oA)) (C7:ao P w K mg base aq 24 oA sj [aih] BJ)
 (vL:aj K ajf ajf xR zx D4) (Ed:mg ajf=some (.ref zx)) (aeV:ao P w K mg base aq 24 zx D4 [aiD] (I9 K))
 (vM:aj K ajp ajp xT zy D5) (Ee:mg ajp=some (.ref zy)) (aeW:ao P w K mg base aq 24 zy D5 [ain] (Ja C))
 (vN:aj K ajr ajr xU zA D6) (Ef:mg ajr=some (.ref zA)) (aeX:ao P w K mg base aq 24 zA D6 [aii,aih,aip] JB)
 (vO:aj K aiU aiU uj zB D7) (zI:mg aiU=some (.ref zB)) (aeY:ao P w K mg base aq 24 zB D7 [aif,aim,aii,aig,aiS,aih] (fun vs H Q E=>∃n,n<=3/\vp n vs H Q E))
 (vP : aj K aiV aiV uk zC D9) (zJ : mg aiV=some (.ref zC)) (aeZ : ao P w K mg base aq 24 zC D9 [aif, aim, aig, air] (zo 16))
 (vQ:aj K aiX aiX ul zD Ea) (zK:mg aiX=some (.ref zD)) (ae0:ao P w K mg base aq 24 zD Ea [air] (zq Lc Tc 16))
 (vR:aj K ajs ajs xV zE Eb) (Eg:mg ajs=some (.ref zE)) (ae1:ao P w K mg base aq 24 zE Eb [aif] Kf)
 (vS:aj K ajt ajt xW zF Ec) (Eh:mg ajt=some (.ref zF)) (ae2:ao P w K mg base aq 24 zF Ec [aif,aim,ai2] Kq) :
 ao P w K mg base aq 25 f fd [aiD] (zw K):=by
 have ae3:=zG.binds2 (l:=[aio,ajA]) (fun _ _ _ _ _ _ _ _=>rfl);have Ei:=vK.binds3 (l:=[aio,ail,ais]) (fun _ _ _ _ _ _ _ _ _=>rfl);have oC:=hU.binds2 (l:=[aiD,aip]) (fun _ _ _ _ _ _ _ _=>rfl);have C8:=k6.binds1 (l:=[aih]) (fun _ _ _ _ _ _ _=>rfl);have ae4:=vL.binds1 (l:=[aiD]) (fun _ _ _ _ _ _ _=>rfl);have ae5:=vM.binds1 (l:=[ain]) (fun _ _ _ _ _ _ _=>rfl);have ae6:=vN.binds3 (l:=[aii,aih,aip]) (fun _ _ _ _ _ _ _ _ _=>rfl);have DF:=vO.binds6 (l:=[aif,aim,aii,aig,aiS,aih]) (fun _ _ _ _ _ _ _ _ _ _ _ _=>rfl);have DM:=vP.binds4 (l:=[aif,aim,aig,air]) (fun _ _ _ _ _ _ _ _ _ _=>rfl);have DO:=vQ.binds1 (l:=[air]) (fun _ _ _ _ _ _ _=>rfl);have ae7:=vR.binds1 (l:=[aif]) (fun _ _ _ _ _ _ _=>rfl);have ae8:=vS.binds3 (l:=[aif,aim,ai2]) (fun _ _ _ _ _ _ _ _ _=>rfl);refine F.okL ib ?_
 . intro aG A outer s H vs Q E hr h xX dX;obtain⟨a,is,rfl,hA,h63,q⟩:=h;have hu:=hr.units;have dN:=hr.units0;have k7:=hr.mono (j:=2) (by decide);refine⟨_,(ar (aY (i:=1) ib.nd rfl (Or.inr rfl) (aI C7 hr rfl sk k6.kp C8 .nil az (aa (aI oB hr rfl km hU.kp oC .nil az (aa (pv 0) (aa ae ac))) ac)))
    (ar (aY (i:=2) ib.nd rfl (Or.inl rfl) (aI aeV hr rfl Ed vL.kp ae4 .nil az (aa (pv 0) ac)))
    (ar (aY (i:=3) ib.nd rfl (Or.inr rfl) (aI oB hr rfl km hU.kp oC .nil az (aa (pv 0) (aa ae ac))))
    (ar (jY (i:=4) [aip] [aii,aih] [1,3] ib.nd rfl rfl cC rfl (jN rfl B.range (aa (aH bC (aI oB hr rfl km hU.kp oC .nil az (aa (pv 0) (aa ae ac))) ae) ac)) (fun _ _ _ _=>(bi (i:=0) (show List.Nodup ([aip,aii,aih]:Ls) by decide +kernel) rfl (Or.inl rfl))) (fun _ _ _ _=>fz) (fun _ _ _ _=>(aI aeX hr rfl Ef vN.kp ae6 .nil az (aa (pv 1) (aa (pv 2) (aa (aH ph ae (pv 0)) ac))))))
    (ar (aY (i:=5) ib.nd rfl (Or.inl rfl) (aH bC (aH sY (aI oB hr rfl km hU.kp oC .nil az (aa (pv 0) (aa ae ac))) ae) ae))
    (ar (aY (i:=6) ib.nd rfl (Or.inl rfl) (aI aeY hr rfl zI vO.kp DF .nil az (aa (pv 2) (aa (pv 4) (aa (pv 1) (aa pF (aa (pv 5) (aa (aI oB hr rfl km hU.kp oC .nil az (aa (pv 0) (aa ae ac))) ac))))))))
    (ar (aY (i:=7) ib.nd rfl (Or.inl rfl) (wV MS aeT k7 rfl US.mgC ae3 .nil az (aa (fA [ain] [] [] cC rfl (cJ (pv 2)) (fun _ _ _ _=>(bi (i:=0) (show List.Nodup ([ain]:Ls) by decide +kernel) rfl (Or.inl rfl))) (fun _ _ _ _=>fz) (fun _ _ _ _=>(aI aeW hr rfl Ee vM.kp ae5 .nil az (aa (pv 0) ac)))) ac)))
    (ar (bA (bd bZ (aH bC (aH sY (aI oB hr rfl km hU.kp oC .nil az (aa (pv 0) (aa ae ac))) ae) ae) ae (aJ _))
    (aF (iU jH rfl (jN rfl B.range (aa ae ac)) (bi (i:=8) ib.nd rfl (Or.inl rfl))
     (aF (aY (i:=6) ib.nd rfl (Or.inl rfl) (br (aa bh (aa bh (aa (cG (aa (pv 6) ac)) ac)))))))) bw)
    (ar (aY (i:=9) ib.nd rfl (Or.inl rfl) (aI ae0 hr rfl zK vQ.kp DO .nil az (aa (pv 6) ac)))
    (ar (aY (i:=10) ib.nd rfl (Or.inl rfl) (fT pE (by rfl) B.list lA (aa (pv 4) ac)))
    (ar (aY (i:=11) ib.nd rfl (Or.inl rfl) (PE.or (iV (pv 9) UL.cl UL.mH zH hr Ei .nil az (aa (pv 7) (aa (pv 10) ac))) (iV (pv 9) UT.cl UT.mH zH hr Ei .nil az (aa (pv 7) (aa (pv 10) ac)))))
    (ar (aY (i:=12) ib.nd rfl (Or.inl rfl) (aI aeZ hr rfl zJ vP.kp DM .nil az (aa (pv 2) (aa (pv 4) (aa pF (aa (pv 6) ac))))))
    (ar (bA (PW.pt (gS (jK (im (b8 tK (by rfl) B.isinstance wx (aa (pv 11) (aa (sT (v:=.ty "bool") rfl B.bool agS rfl) ac))))) (gS (bd wQ (pv 11) (pv 12) (aJ _)) (jJ (bd (aeB dN) (pv 10) (pv 4) (aJ _))))))
    (aF (aN dr)) bw)
    (ar (bA (jK (im (b8 ZM (by rfl) B.isinstance wx (aa (pv 9) (aa (MP (v:=.ref Pc) rfl UP.mgC rfl) ac)))))
    (aF (aN dr)) bw)
    (ar (bA (im (pv 12))
    (aF (iU jH rfl (cJ (aI ae1 hr rfl Eg vR.kp ae7 .nil az (aa (pv 2) ac))) (bi (i:=13) ib.nd rfl (Or.inl rfl))
     (aF (bA (im (aI ae2 hr rfl Eh vS.kp ae8 .nil az (aa (pv 2) (aa (pv 4) (aa (pv 13) ac)))))
      (aF (aN dr)) bw)))) bw)
    (aF (aN (cB aev (iV (aeA M0 rfl UP.mgC) UP.cl UP.mH aeU hr Ei .nil az (aa (pv 7) (aa (pv 4) ac))) dr (aJ _))))))))))))))))))),?_⟩
   refine aew ?_;intro dD sS DW DX Kw vb DY Kx rc u9 u8 u7 u6 u5 u4 u3 u2;refine⟨_,rfl,a,_,is,rfl,by decide,hA,fun c0=>⟨_,rfl,fun nl H1 xs n1 s1 e1 KJ=>?_⟩⟩;refine⟨_,rfl,a,is,rfl,s1.seq hA,fun pl H2 vs ps n2 s2 e2 a8 bH=>?_⟩;have bR:=s1.trans s2;have hok:=bH.ok;obtain⟨ys,hN⟩:=aeI ps;have Kg:=aeJ bH hN;have vl:=aP a8;have l6:=bH.len;have d0:c9 ps []:=fun x m h=>nomatch h
   refine⟨_,rfl,a,_,is,rfl,by decide,bR.seq hA,fun c2=>?_⟩;refine⟨_,rfl,a,_,is,rfl,by decide,bR.seq hA,fun c1=>?_⟩;refine⟨_,_,rfl,rfl,(by show(0:Int)<4;decide),c1 % 4,rfl,by omega,by omega,?_⟩;refine nr (σ0:=[none,some (.ref nl),some (.int c2)]) (fun σ=>∃v,σ=[v,some (.ref nl),some (.int c2)]) (fun i ys H5=>∃ws:List cO,Paired (cR H5) ys ws/\ws.length=i) ⟨_,rfl⟩ (fun _ _=>⟨[],.nil,rfl⟩) ?_ ?_
   . intro D i yw σ H5 k hD hi hS hd hs hP hk;refine cL ?_;intro tT;obtain⟨v,rfl⟩:=hS;obtain⟨ws,pw,wl⟩:=hP;have yl:=aP pw;refine⟨_,rfl,_,rfl,_,rfl,_,_,rfl,rfl,.inl ⟨by omega,by omega⟩,nl,c2,_,xs,rfl,by omega,by omega,(s2.trans hs) _ _ e1,KJ,fun v6 H6 w6 s6 hw=>?_⟩;have d6:=s6 _ _ hd;exact hk _ _ _ ⟨_,rfl⟩ s6 (bq (by omega)) ⟨ws++[w6],dJ (hw.mut d6) (aX pw fun _ _ z=>(z.same s6).mut d6),by rw[be,wl];rfl⟩
   intro wl yw H3 n3 e3 s3 hP;refine cL ?_;intro tT;obtain⟨ws,pw,Ck⟩:=hP;have yl:=aP pw;have w4:ws.length<=9:=by omega
   have dL:=bR.trans s3;refine⟨_,rfl,a,_,is,rfl,by decide,dL.seq hA,fun c4=>?_⟩;refine⟨_,_,rfl,rfl,⟨by decide,by decide⟩,_,_,rfl,rfl,(by show(0:Int)<4;decide),?_⟩;refine⟨_,rfl,_,rfl,_,rfl,fun p4 H4 n4 s4 e4=>?_⟩;have oP:=dL.trans s4;have dW:=s3.trans s4;refine⟨_,rfl,_,rfl,a,_,is,rfl,by decide,oP.seq hA,fun c3=>?_⟩;obtain⟨n,hn,hd⟩:=aeQ (c4 / 4);refine⟨n,hn,pl,wl,nl,p4,_,_,vs,ps,yw,ws,xs,[],rfl,hd,dW _ _ e2,a8.same dW,bH,s4 _ _ e3,aX pw (fun _ _ z=>z.same s4),w4,(s2.trans dW) _ _ e1,KJ,⟨[],e4,.nil⟩,d0,by show 0+n<=50;omega,fun Ej g0 H5 s5 hp0=>?_⟩;have hp5:bV ps 4 H5 Ej g0:=bV.up (by omega) (bV.same (fun b o e=>(DB e).1) hp0);have fm:=dW.trans s5;refine⟨_,rfl,pl,rfl,⟨_,ah.of (fm _ _ e2)⟩,?_⟩;intro D hD;refine rM (σ0:=[none]) hD (ah.of (fm _ _ e2)) (fun σ=>∃v,σ=[v]) (fun i zs Hx=>nU C (msk [D] Hx) zs (ps.take i)) ⟨_,rfl⟩ .nil ?_ ?_
   . rintro i x zs σ Hx k hx ⟨v,rfl⟩ hd h2 pr hk;obtain⟨p,hp,hE⟩:=bO a8 hx;have zl:=aP pr;rw[eV]at zl;have pf:=(bH.few p (gO hp)).fs;refine⟨_,rfl,x,p,rfl,hE.same (fm.trans h2),by omega,fun y Hy n4 sy pV=>?_⟩;refine hk _ _ _ ⟨_,rfl⟩ sy (bq (by omega)) ?_;rw[HC gc,i6 hp];refine dJ (pV [D] fun b hb=>?_) (pr.same (rJ sy));rw[gP.mp hb];exact⟨_,hd,by intro vs z;cases z⟩
   rintro zs H6 d6 s6 pr;refine cL ?_;intro tT;rw[vl,eB]at pr;have hz:nU C H6 zs ps:=pr.same rH;refine aeK (K:=K) (C:=C) (ps:=ps) d6 hz (by omega) hok.nd fun sx H7 n7 s7 A4=>?_;have ku:=s6.trans s7;have gt:=fm.trans ku;have iN:=bR.trans gt;have KL:=(s4.trans s5).trans ku;have vo:=gt _ _ e2;have Ek:=a8.same gt;have zL:=KL _ _ e3;have zM:Paired (cR H7) yw ws:=aX pw fun _ _ z=>z.same KL;have sh7:gk C S H7 (.ref sx) ps:=⟨⟨zs,A4,hz.same s7⟩,hok,bH.few⟩;have rest:∀(pv:V) (g:bN) (Hx:Hp) (u:Option V),af H7 Hx->bV ps 17 Hx pv g->u9 dD [some (.ref a),some (.ref nl),some (.ref pl),some (.int c2),some (.ref wl),some (.int (c4 / 4 % 4)),some pv,some (.ref sx),u,none,none,none,none,none] Hx:=by
    intro pv g H8 u s8 hp;refine⟨_,rfl,pv,ps,g,rfl,hp,fun tv H9 s9 hP=>?_⟩;have hP9:cT ps Lc Tc 17 H9 tv g:=cT.same (fun b o e=>(DB e).1) hP;have vm:=s8.trans s9;refine⟨_,rfl,wl,_,rfl,.inl (ah.of (vm _ _ zL)),fun hl gq on cz fE=>?_⟩;have zN:=vm.trans cz;have zO:=hP9.same cz;have afd:∀Hx,af gq Hx->DY dD [some (.ref a),some (.ref nl),some (.ref pl),some (.int c2),some (.ref wl),some (.int (c4 / 4 % 4)),some pv,some (.ref sx),u,some tv,some (.ref hl),some (.bl (g ws [])),none,none] Hx:=by
     intro qf hJ;refine⟨_,rfl,_,rfl,fun qb r6 CZ bP jy=>?_⟩;have El:=hJ.trans bP;have zP:=zN.trans El;refine⟨_,rfl,pl,wl,qb,pv,vs,ps,yw,ws,[],g,rfl,zP _ _ vo,Ek.same zP,bH,zP _ _ zL,aX zM (fun _ _ z=>z.same zP),⟨[],jy,.nil⟩,d0,(by decide),bV.same ((s9.trans cz).trans El) hp,fun oq b7=>?_⟩;have su:=El.trans b7;have vT:=zN.trans su;have afe:Paired (cR oq) yw ws:=aX zM fun _ _ z=>z.same vT;refine⟨_,rfl,_,_,_,_,rfl,.bl _,kB,_,rfl,c8 ?_⟩;refine⟨_,rfl,_,rfl,rfl,_,rfl,?_⟩;refine av (fun h=>absurd h (by simp)) (fun _=>?_);obtain⟨ts,KN⟩:=KD afe;refine⟨_,rfl,_,rfl,hl,wl,ts,rfl,rfl,KN▸su _ _ fE,KN▸vT _ _ zL,_,rfl,c8 ?_⟩;have last:∀(Hx:Hp) (v:Option V),af oq Hx->DW dD [some (.ref a),some (.ref nl),some (.ref pl),some (.int c2),some (.ref wl),some (.int (c4 / 4 % 4)),some pv,some (.ref sx),u,some tv,some (.ref hl),some (.bl (g ws [])),some (.bl (g ws [])),v] Hx:=by
      intro DA v fF x dx JG n15 gL zj;exact⟨x,dx,[],rfl,zj,rfl,_,rfl,_,rfl,x,dx,[],_,_,rfl,zj,rfl,fun JI mr=>⟨_,_,rfl,rfl,q JI⟩⟩
     have next:DX dD [some (.ref a),some (.ref nl),some (.ref pl),some (.int c2),some (.ref wl),some (.int (c4 / 4 % 4)),some pv,some (.ref sx),u,some tv,some (.ref hl),some (.bl (g ws [])),some (.bl (g ws [])),none] oq:=by
      refine⟨_,rfl,_,rfl,?_⟩;refine av (fun h=>?_) (fun h=>last oq none (af.refl _));refine⟨_,rfl,pl,vs,ps,ys,rfl,vT _ _ vo,Ek.same vT,by omega,hN,Kg,fun l zl DA n14 fF zi hzl=>?_⟩;refine⟨l,rfl,⟨_,ah.of zi⟩,?_⟩;refine lI (xs:=zl) (fun i σ G=>∃w1,σ=[some (.ref a),some (.ref nl),some (.ref pl),some (.int c2),some (.ref wl),some (.int (c4 / 4 % 4)),some pv,some (.ref sx),u,some tv,some (.ref hl),some (.bl (g ws [])),some (.bl (g ws [])),w1]/\af DA G) ⟨none,rfl,af.refl _⟩ ?_ ?_ ?_
      . rintro i σ G hi ⟨w1,rfl,sg⟩;exact ah.of (sg _ _ zi)
      . intro i z σ G hz hQ;obtain⟨w1,rfl,sg⟩:=hQ;obtain⟨ch,gx,cc,rfl,qO⟩:=bO hzl hz;have zQ:=vT.trans (fF.trans sg);refine⟨_,rfl,_,rfl,_,rfl,pl,wl,cc,vs,ps,yw,ws,ch,rfl,zQ _ _ vo,Ek.same zQ,bH,zQ _ _ zL,aX zM (fun _ _ z=>z.same zQ),w4,qO.same sg,(fun x m hx=>aee (gO gx) hx),(fun fu ag=>Ko zO ag h),fun JG gL=>⟨_,rfl,c8 ?_⟩⟩;exact⟨_,rfl,sg.trans gL⟩
      . rintro σ G ⟨w1,rfl,sg⟩;exact last G w1 (fF.trans sg)
     have afg:=zO.same su
     rcases KG afg with⟨y,dy,mL,rfl,b1,_⟩ | ⟨y,dy,mL,rfl,b1,_⟩
     . exact⟨_,rfl,y,Lc,Pc,dy,mL,true,rfl,b1,UL.cl,IL,vI,_,rfl,c8 next⟩
     . exact⟨_,rfl,y,Tc,Pc,dy,mL,true,rfl,b1,UT.cl,IT,vJ,_,rfl,c8 next⟩
    refine(KG zO).elim (fun z=>Or.inl ?_) fun z=>Or.inr ?_
    all_goals
     obtain⟨y,dy,mL,rfl,b1,b4⟩:=z;refine⟨_,rfl,y,dy,mL,rfl,b1,b4,_,rfl,_,rfl,?_⟩;exact⟨_,.ref sx,hl,ps,yw,ws,g,rfl,zO,sh7.same zN,fE,aX zM (fun _ _ z=>z.same zN),fun qf hJ=>afd qf hJ⟩
   refine⟨_,rfl,a,_,is,rfl,by decide,iN.seq hA,fun c5=>?_⟩;refine⟨_,_,rfl,rfl,⟨by decide,by decide⟩,_,_,rfl,rfl,(by show(0:Int)<4;decide),rfl,_,rfl,?_⟩;have KO:=bV.same ku hp5;refine av (fun h=>?_) (fun h=>rest Ej g0 H7 none (af.refl _) (bV.up (by decide) KO));refine⟨13,rfl,by decide,by decide,?_⟩;refine Fa (fun i σ H8=>∃(u:Option V) (pv:V) (g:bN),σ=[some (.ref a),some (.ref nl),some (.ref pl),some (.int c2),some (.ref wl),some (.int (c4 / 4 % 4)),some pv,some (.ref sx),u,none,none,none,none,none]/\af H7 H8/\bV ps (4+i) H8 pv g) ⟨none,Ej,g0,rfl,af.refl _,KO⟩ ?_ ?_
   . intro i σ H8 hi hQ;obtain⟨u,pv,g,rfl,s8,hp⟩:=hQ;refine⟨_,rfl,(by show 1<=sizeLine;decide),fun p9 H9 n9 s9 e9=>?_⟩;refine⟨(by show 3<=sizeLine;decide),fun jd gq on cz fE=>?_⟩;have KP:=s9.trans cz;exact⟨_,_,rV ps _ [g],rfl,s8.trans KP,.inr ⟨jd,_,p9,[pv],[g],rfl,fE,cz _ _ e9,.cons (bV.same KP hp) .nil,(show 1<=50 by decide),rfl⟩⟩
   . intro σ H8 hQ;obtain⟨u,pv,g,rfl,s8,hp⟩:=hQ;exact rest pv g H8 u s8 (bV.up (by decide) hp)
end
end K43
set_option maxHeartbeats 8000000
namespace K43
open PySem L2
def KQ(K:Fg)(mg:Mv) :Prop:=∃C qh vf,Txt K mg C/\Mk K C qh/\aj K "__init__" "Parcel.__init__" nG qh vf
theorem afh{K:Fg}{h:Heap}{mg:Mv}{C f0:Addr}{mO mQ:Oa}{mR:Array (Option Value)}{mS mT mU mV iP mX:Value}(X:K.In h)(Gn:h.Ns mainGlobals mg)
 (aC:PySem.W.nsIn K mainGlobals "Parcel"=some (some (.ref C))) (a0:PySem.W.findIn K (.ref C) "__init__"=some (some (.ref f0))) (i0:PySem.W.isFn K (.ref f0)=true)
 (l0:K.lookup f0=some ⟨mS,mO,.func (PySem.W.fnOf "__init__" "Parcel.__init__" (cX nG) (cF nG) (aO nG) .none mT mU mV mQ iP mX),mR⟩) (c0:PySem.W.codeIn K iP "Parcel.__init__"=true) (k0:PySem.W.keepIn K (.ref f0)=true)
 (pg:PySem.W.plainGet K C Str.empty=true) (hd:PySem.W.hasDictIn K C=true) (po:PySem.W.plainOver K C=true) (sa:PySem.W.findIn K (.ref C) "__setattr__"=some (some (.builtin "object.__setattr__"))) (mk:PySem.W.makesIn K C=true) (kc:PySem.W.keepIn K (.ref C)=true) (n0:PySem.W.findIn K (.ref C) "name"=some none) (n1:PySem.W.findIn K (.ref C) "make"=some none) (n2:PySem.W.findIn K (.ref C) "rank"=some none) (n3:PySem.W.findIn K (.ref C) "files"=some none) (n4:PySem.W.findIn K (.ref C) "needs"=some none) (n5:PySem.W.findIn K (.ref C) "shuts"=some none) (n6:PySem.W.findIn K (.ref C) "offers"=some none):KQ K mg :=
 ⟨C,f0,_,⟨⟨pg,hd,po,sa⟩,n0,n1,n2,n3,n4,n5,n6,oX X Gn aC⟩,⟨mk,a0,i0,kc⟩,iY l0 c0 k0⟩
def KR(K:Fg)(mg:Mv) :Prop:=∃S qy vH ke uF cY fD dE iD,gG K mg S ke cY dE/\Mk K S qy/\aj K "__init__" "Shelf.__init__" pI qy vH/\aj K "names" "Shelf.names" pJ ke uF/\aj K "makes_of" "Shelf.makes_of" i7 cY fD/\aj K "parcel" "Shelf.parcel" j7 dE iD
theorem afi{K:Fg}{h:Heap}{mg:Mv}{S f0 f1 f2 f3:Addr}{mO mQ:Oa}{mR:Array (Option Value)}{mS mT mU mV iP mX:Value}{vU vV:Oa}{vW:Array (Option Value)}{vX vY vZ v1 oR v2:Value}{v3 qz:Oa}{dv:Array (Option Value)}{v4 qA qB qC li qD:Value}{od3 an3:Oa}{sl3:Array (Option Value)}{oc3 kV3 dc3 pm3 KS ct3:Value}(X:K.In h)(Gn:h.Ns mainGlobals mg)
 (aC:PySem.W.nsIn K mainGlobals "Shelf"=some (some (.ref S))) (a0:PySem.W.findIn K (.ref S) "__init__"=some (some (.ref f0))) (i0:PySem.W.isFn K (.ref f0)=true)
 (l0:K.lookup f0=some ⟨mS,mO,.func (PySem.W.fnOf "__init__" "Shelf.__init__" (cX pI) (cF pI) (aO pI) .none mT mU mV mQ iP mX),mR⟩) (c0:PySem.W.codeIn K iP "Shelf.__init__"=true) (k0:PySem.W.keepIn K (.ref f0)=true) (a1:PySem.W.findIn K (.ref S) "names"=some (some (.ref f1))) (i1:PySem.W.isFn K (.ref f1)=true)
 (l1:K.lookup f1=some ⟨vX,vU,.func (PySem.W.fnOf "names" "Shelf.names" (cX pJ) (cF pJ) (aO pJ) .none vY vZ v1 vV oR v2),vW⟩) (c1:PySem.W.codeIn K oR "Shelf.names"=true) (k1:PySem.W.keepIn K (.ref f1)=true) (a2:PySem.W.findIn K (.ref S) "makes_of"=some (some (.ref f2))) (i2:PySem.W.isFn K (.ref f2)=true)
 (l2:K.lookup f2=some ⟨v4,v3,.func (PySem.W.fnOf "makes_of" "Shelf.makes_of" (cX i7) (cF i7) (aO i7) .none qA qB qC qz li qD),dv⟩) (c2:PySem.W.codeIn K li "Shelf.makes_of"=true) (k2:PySem.W.keepIn K (.ref f2)=true) (a3:PySem.W.findIn K (.ref S) "parcel"=some (some (.ref f3))) (i3:PySem.W.isFn K (.ref f3)=true)
 (l3:K.lookup f3=some ⟨oc3,od3,.func (PySem.W.fnOf "parcel" "Shelf.parcel" (cX j7) (cF j7) (aO j7) .none kV3 dc3 pm3 an3 KS ct3),sl3⟩) (c3:PySem.W.codeIn K KS "Shelf.parcel"=true) (k3:PySem.W.keepIn K (.ref f3)=true)
 (pg:PySem.W.plainGet K S Str.empty=true) (hd:PySem.W.hasDictIn K S=true) (po:PySem.W.plainOver K S=true) (sa:PySem.W.findIn K (.ref S) "__setattr__"=some (some (.builtin "object.__setattr__"))) (mk:PySem.W.makesIn K S=true) (kc:PySem.W.keepIn K (.ref S)=true) (n0:PySem.W.findIn K (.ref S) "shelved"=some none):KR K mg :=
 ⟨S,f0,_,f1,_,f2,_,f3,_,⟨⟨pg,hd,po,sa⟩,n0,⟨a1,i1,k1⟩,⟨a2,i2,k2⟩,⟨a3,i3,k3⟩,oX X Gn aC⟩,⟨mk,a0,i0,kc⟩,iY l0 c0 k0,iY l1 c1 k1,iY l2 c2 k2,iY l3 c3 k3⟩
def KU(K:Fg)(mg:Mv)(fJ:Addr)(kz:Fy):Prop:=∃L lg qq gJ jx,mi K mg L gJ fJ/\Mk K L lg/\aj K "__init__" "Leaf.__init__" nH lg qq/\aj K "holds_where" "Leaf.holds_where" lX gJ jx/\aj K "holds" "Paper.holds" fZ fJ kz
theorem afr{K:Fg}{h:Heap}{mg:Mv}{L f0 f1 f2:Addr}{mO mQ:Oa}{mR:Array (Option Value)}{mS mT mU mV iP mX:Value}{vU vV:Oa}{vW:Array (Option Value)}{vX vY vZ v1 oR v2:Value}{v3 qz:Oa}{dv:Array (Option Value)}{v4 qA qB qC li qD:Value}(X:K.In h)(Gn:h.Ns mainGlobals mg)
 (aC:PySem.W.nsIn K mainGlobals "Leaf"=some (some (.ref L))) (a0:PySem.W.findIn K (.ref L) "__init__"=some (some (.ref f0))) (i0:PySem.W.isFn K (.ref f0)=true)
 (l0:K.lookup f0=some ⟨mS,mO,.func (PySem.W.fnOf "__init__" "Leaf.__init__" (cX nH) (cF nH) (aO nH) .none mT mU mV mQ iP mX),mR⟩) (c0:PySem.W.codeIn K iP "Leaf.__init__"=true) (k0:PySem.W.keepIn K (.ref f0)=true) (a1:PySem.W.findIn K (.ref L) "holds_where"=some (some (.ref f1))) (i1:PySem.W.isFn K (.ref f1)=true)
 (l1:K.lookup f1=some ⟨vX,vU,.func (PySem.W.fnOf "holds_where" "Leaf.holds_where" (cX lX) (cF lX) (aO lX) .none vY vZ v1 vV oR v2),vW⟩) (c1:PySem.W.codeIn K oR "Leaf.holds_where"=true) (k1:PySem.W.keepIn K (.ref f1)=true) (a2:PySem.W.findIn K (.ref L) "holds"=some (some (.ref f2))) (i2:PySem.W.isFn K (.ref f2)=true)
 (l2:K.lookup f2=some ⟨v4,v3,.func (PySem.W.fnOf "holds" "Paper.holds" (cX fZ) (cF fZ) (aO fZ) .none qA qB qC qz li qD),dv⟩) (c2:PySem.W.codeIn K li "Paper.holds"=true) (k2:PySem.W.keepIn K (.ref f2)=true)
 (pg:PySem.W.plainGet K L Str.empty=true) (hd:PySem.W.hasDictIn K L=true) (po:PySem.W.plainOver K L=true) (sa:PySem.W.findIn K (.ref L) "__setattr__"=some (some (.builtin "object.__setattr__"))) (mk:PySem.W.makesIn K L=true) (kc:PySem.W.keepIn K (.ref L)=true) (n0:PySem.W.findIn K (.ref L) "reason"=some none):KU K mg f2 (PySem.W.fnOf "holds" "Paper.holds" (cX fZ) (cF fZ) (aO fZ) .none qA qB qC qz li qD):=
 ⟨L,f0,_,f1,_,⟨⟨pg,hd,po,sa⟩,n0,⟨a1,i1,k1⟩,⟨a2,i2,k2⟩,oX X Gn aC⟩,⟨mk,a0,i0,kc⟩,iY l0 c0 k0,iY l1 c1 k1,iY l2 c2 k2⟩
def KW(K:Fg)(mg:Mv)(fJ:Addr)(kz:Fy):Prop:=∃T lh qr oj rZ,og K mg T oj fJ/\Mk K T lh/\aj K "__init__" "Split.__init__" nI lh qr/\aj K "holds_where" "Split.holds_where" nJ oj rZ/\aj K "holds" "Paper.holds" fZ fJ kz
theorem afs{K:Fg}{h:Heap}{mg:Mv}{T f0 f1 f2:Addr}{mO mQ:Oa}{mR:Array (Option Value)}{mS mT mU mV iP mX:Value}{vU vV:Oa}{vW:Array (Option Value)}{vX vY vZ v1 oR v2:Value}{v3 qz:Oa}{dv:Array (Option Value)}{v4 qA qB qC li qD:Value}(X:K.In h)(Gn:h.Ns mainGlobals mg)
 (aC:PySem.W.nsIn K mainGlobals "Split"=some (some (.ref T))) (a0:PySem.W.findIn K (.ref T) "__init__"=some (some (.ref f0))) (i0:PySem.W.isFn K (.ref f0)=true)
 (l0:K.lookup f0=some ⟨mS,mO,.func (PySem.W.fnOf "__init__" "Split.__init__" (cX nI) (cF nI) (aO nI) .none mT mU mV mQ iP mX),mR⟩) (c0:PySem.W.codeIn K iP "Split.__init__"=true) (k0:PySem.W.keepIn K (.ref f0)=true) (a1:PySem.W.findIn K (.ref T) "holds_where"=some (some (.ref f1))) (i1:PySem.W.isFn K (.ref f1)=true)
 (l1:K.lookup f1=some ⟨vX,vU,.func (PySem.W.fnOf "holds_where" "Split.holds_where" (cX nJ) (cF nJ) (aO nJ) .none vY vZ v1 vV oR v2),vW⟩) (c1:PySem.W.codeIn K oR "Split.holds_where"=true) (k1:PySem.W.keepIn K (.ref f1)=true) (a2:PySem.W.findIn K (.ref T) "holds"=some (some (.ref f2))) (i2:PySem.W.isFn K (.ref f2)=true)
 (l2:K.lookup f2=some ⟨v4,v3,.func (PySem.W.fnOf "holds" "Paper.holds" (cX fZ) (cF fZ) (aO fZ) .none qA qB qC qz li qD),dv⟩) (c2:PySem.W.codeIn K li "Paper.holds"=true) (k2:PySem.W.keepIn K (.ref f2)=true)
 (pg:PySem.W.plainGet K T Str.empty=true) (hd:PySem.W.hasDictIn K T=true) (po:PySem.W.plainOver K T=true) (sa:PySem.W.findIn K (.ref T) "__setattr__"=some (some (.builtin "object.__setattr__"))) (mk:PySem.W.makesIn K T=true) (kc:PySem.W.keepIn K (.ref T)=true) (n0:PySem.W.findIn K (.ref T) "name"=some none) (n1:PySem.W.findIn K (.ref T) "papers"=some none):KW K mg f2 (PySem.W.fnOf "holds" "Paper.holds" (cX fZ) (cF fZ) (aO fZ) .none qA qB qC qz li qD):=
 ⟨T,f0,_,f1,_,⟨⟨pg,hd,po,sa⟩,n0,n1,⟨a1,i1,k1⟩,⟨a2,i2,k2⟩,oX X Gn aC⟩,⟨mk,a0,i0,kc⟩,iY l0 c0 k0,iY l1 c1 k1,iY l2 c2 k2⟩
def KY(K:Fg)(mg:Mv)(fJ:Addr):Prop:=∃A qx vG,D3 K mg A qx fJ/\DZ K A/\aj K "holds_where" "Paper.holds_where" pK qx vG
theorem aft{K:Fg}{h:Heap}{mg:Mv}{A f0 f1:Addr}{mO mQ:Oa}{mR:Array (Option Value)}{mS mT mU mV iP mX:Value}(X:K.In h)(Gn:h.Ns mainGlobals mg)(aC:PySem.W.nsIn K mainGlobals "Paper"=some (some (.ref A)))
 (a0:PySem.W.findIn K (.ref A) "holds_where"=some (some (.ref f0))) (i0:PySem.W.isFn K (.ref f0)=true) (l0:K.lookup f0=some ⟨mS,mO,.func (PySem.W.fnOf "holds_where" "Paper.holds_where" (cX pK) (cF pK) (aO pK) .none mT mU mV mQ iP mX),mR⟩) (c0:PySem.W.codeIn K iP "Paper.holds_where"=true) (k0:PySem.W.keepIn K (.ref f0)=true)
 (a1:PySem.W.findIn K (.ref A) "holds"=some (some (.ref f1))) (i1:PySem.W.isFn K (.ref f1)=true) (k1:PySem.W.keepIn K (.ref f1)=true) (pg:PySem.W.plainGet K A Str.empty=true) (hd:PySem.W.hasDictIn K A=true) (po:PySem.W.plainOver K A=true) (sa:PySem.W.findIn K (.ref A) "__setattr__"=some (some (.builtin "object.__setattr__"))) (mk:PySem.W.makesIn K A=true) (kc:PySem.W.keepIn K (.ref A)=true) (oi:PySem.W.findIn K (.ref A) "__init__"=some (some (.builtin "object.__init__"))):KY K mg f1:=
 ⟨A,f0,_,⟨⟨pg,hd,po,sa⟩,⟨a0,i0,k0⟩,⟨a1,i1,k1⟩,oX X Gn aC⟩,⟨mk,oi,kc⟩,iY l0 c0 k0⟩
def KZ(K:Fg)(mg:Mv):Prop:=∃Lc Tc Pc,mg "Leaf"=some (.ref Lc)/\mg "Split"=some (.ref Tc)/\mg "Paper"=some (.ref Pc)/\ua K Lc/\ua K Tc/\PySem.W.kitOne K (.ref Lc) (.ref Pc)=some true/\PySem.W.kitOne K (.ref Tc) (.ref Pc)=some true
theorem afu{K:Fg}{h:Heap}{mg:Mv}{Lc Tc Pc:Addr}(X:K.In h)(G:h.Ns mainGlobals mg)(nLc:PySem.W.nsIn K mainGlobals "Leaf"=some (some (.ref Lc)))(nTc:PySem.W.nsIn K mainGlobals "Split"=some (some (.ref Tc)))(nPc:PySem.W.nsIn K mainGlobals "Paper"=some (some (.ref Pc)))(afy:PySem.W.findIn K (.ref Lc) "__class__"=some (some (.builtin "object.__class__")))(afz:PySem.W.mroIn K Lc (.type "object")=some true)(afA:PySem.W.findIn K (.ref Tc) "__class__"=some (some (.builtin "object.__class__")))(afB:PySem.W.mroIn K Tc (.type "object")=some true)(iG:PySem.W.specialIn K (.builtin "object.__class__") "__get__"=some (some (.builtin "getset_descriptor.__get__")))(K0:PySem.W.takesIn K (.builtin "object.__class__")=some true)(vI:PySem.W.kitOne K (.ref Lc) (.ref Pc)=some true)(vJ:PySem.W.kitOne K (.ref Tc) (.ref Pc)=some true):KZ K mg:=
 ⟨Lc,Tc,Pc,oX X G nLc,oX X G nTc,oX X G nPc,⟨afy,iG,K0,afz⟩,⟨afA,iG,K0,afB⟩,vI,vJ⟩
theorem afC{K:Fg}{h:Heap}{mg:Mv}(X:K.In h)(G:h.Ns mainGlobals mg)(z0:PySem.W.nsIn K mainGlobals "range"=some none)(z1:PySem.W.nsIn K mainGlobals "len"=some none)(z2:PySem.W.nsIn K mainGlobals "list"=some none)(z3:PySem.W.nsIn K mainGlobals "dict"=some none)(z4:PySem.W.nsIn K mainGlobals "tuple"=some none)(z5:PySem.W.nsIn K mainGlobals "sorted"=some none)(z6:PySem.W.nsIn K mainGlobals "enumerate"=some none)(z7:PySem.W.nsIn K mainGlobals "isinstance"=some none)(z8:PySem.W.nsIn K mainGlobals "bool"=some none)(z9:PySem.W.nsIn K mainGlobals "int"=some none)(qw:PySem.W.nsIn K mainGlobals "str"=some none)(z11:PySem.W.nsIn K mainGlobals "any"=some none)(z12:PySem.W.nsIn K mainGlobals "zip"=some none)(z13:PySem.W.nsIn K mainGlobals "set"=some none)(z14:PySem.W.nsIn K mainGlobals "all"=some none)(z15:PySem.W.nsIn K mainGlobals "max"=some none):cj mg:=
 ⟨ig X G z0,ig X G z1,ig X G z2,ig X G z3,ig X G z4,ig X G z5,ig X G z6,ig X G z7,ig X G z8,ig X G z9,ig X G qw,ig X G z11,ig X G z12,ig X G z13,ig X G z14,ig X G z15⟩
theorem afI {P : Program} {w : World} {K : Fg} {mg : Str -> Option Value} {fa fJ : Addr} {kz : Fy} (l5 : mg "law" = some (.ref fa)) (B : cj mg) (CC : KQ K mg) (CS : KR K mg) (CL : KU K mg fJ kz) (CT : KW K mg fJ kz) (CA : KY K mg fJ) (CI : KZ K mg) (afJ : b9 K mg "is_within" lY) (afK : b9 K mg "is_place" rp) (afL : b9 K mg "does_meet" rq) (afM : b9 K mg "paths_of" xH) (afN : b9 K mg "cases_of" ud) (afO : b9 K mg "with_case" ue) (afP : b9 K mg "is_decided" xI) (afQ : b9 K mg "is_done_by" xJ) (afR : b9 K mg "is_broken" xK) (afS : b9 K mg "parcel_decided" rA) (afT : b9 K mg "is_wish_broken" xL) (afU : b9 K mg "is_need_broken" xM) (afV : b9 K mg "may_meet" xN) (afW : b9 K mg "is_shut_broken" xO) (afX : b9 K mg "is_clash" xP) (afY : b9 K mg "_law_cell_at" uf) (afZ : b9 K mg "_law_draw" j8) (af0 : b9 K mg "_law_names" ug) (af1 : b9 K mg "_law_claim" uh) (af2 : b9 K mg "_law_parcel" xQ) (af3 : b9 K mg "_law_parcels" xR) (af4 : b9 K mg "_law_made" xT) (af5 : b9 K mg "_law_wish" xU) (af6 : b9 K mg "_law_meets" kL) (af7 : b9 K mg "_law_in" kM) (af8 : b9 K mg "_law_wish_broken" kN) (af9 : b9 K mg "_law_broken" lZ) (aga : b9 K mg "_law_sure" rB) (agb : b9 K mg "_law_odd_reason" ui) (agc : b9 K mg "_law_paper" uj) (agd : b9 K mg "_law_holds" uk) (age : b9 K mg "_law_told" ul) (agf : b9 K mg "_law_sets" xV) (agg : b9 K mg "_law_fits" xW) (agh : b9 K mg "law" rC) :
 ∃fd:Fy,(∀(s:Shared) (v:Value),BindsTo s fd ⟨[v],[]⟩ [("_law_script",v)])/\∀base:Heap,K.In base->base.Ns mainGlobals mg->ao P w K mg base aq 25 fa fd ["_law_script"] (zw K):=by
 obtain⟨C,qh,vf,TC,MC,yZ⟩:=CC;obtain⟨S,qy,vH,ke,uF,cY,fD,dE,iD,U,MS,zG,yJ,eK,gH⟩:=CS;obtain⟨Lc,lg,qq,gJ,jx,UL,ML,qt,kX,vK⟩:=CL;obtain⟨Tc,lh,qr,oj,rZ,UT,MT,qu,yU,_⟩:=CT;obtain⟨Pc,qx,vG,UP,M0,zv⟩:=CA;obtain⟨Ld,Td,Pd,mLd,mTd,mPd,IL,IT,vI,vJ⟩:=CI;have eL:=UL.mgC.symm.trans mLd;cases eL;have eT:=UT.mgC.symm.trans mTd;cases eT;have eP:=UP.mgC.symm.trans mPd;cases eP;obtain⟨fe,iC,gY,fC,_⟩:=afJ;obtain⟨ju,md,me,g8,_⟩:=afK;obtain⟨kb,nY,nZ,jv,_⟩:=afL;obtain⟨yK,Cv,yL,rS,_⟩:=afM;obtain⟨pY,uS,rW,oh,_⟩:=afN;obtain⟨pZ,uT,qa,mn,_⟩:=afO;obtain⟨yE,Cf,Ci,uB,_⟩:=afP;obtain⟨yF,Cg,Cj,uC,_⟩:=afQ;obtain⟨uQ,yR,CN,uR,_⟩:=afR;obtain⟨jw,mf,kf,gn,_⟩:=afS;obtain⟨yM,Cy,CF,uK,_⟩:=afT;obtain⟨yN,Cz,CG,uL,_⟩:=afU;obtain⟨yI,Cp,Cq,uG,_⟩:=afV;obtain⟨yO,CB,CH,uM,_⟩:=afW;obtain⟨yP,CD,CJ,uN,_⟩:=afX;obtain⟨oz,si,km,hU,_⟩:=afY;obtain⟨cH,dS,bg,aT,_⟩:=afZ;obtain⟨oA,sj,sk,k6,_⟩:=af0;obtain⟨qe,uW,r9,ou,_⟩:=af1;obtain⟨yY,C5,C6,vd,_⟩:=af2;obtain⟨zx,D4,Ed,vL,_⟩:=af3;obtain⟨zy,D5,Ee,vM,_⟩:=af4;obtain⟨zA,D6,Ef,vN,_⟩:=af5;obtain⟨ee,hZ,fi,eh,_⟩:=af6;obtain⟨dY,hV,fh,ef,_⟩:=af7;obtain⟨dZ,hX,fG,eO,_⟩:=af8;obtain⟨fk,iK,gr,eQ,_⟩:=af9;obtain⟨ky,oK,mI,jg,_⟩:=aga;obtain⟨qo,vq,sA,oM,_⟩:=agb;obtain⟨zB,D7,zI,vO,_⟩:=agc;obtain⟨zC,D9,zJ,vP,_⟩:=agd;obtain⟨zD,Ea,zK,vQ,_⟩:=age;obtain⟨zE,Eb,Eg,vR,_⟩:=agf;obtain⟨zF,Ec,Eh,vS,_⟩:=agg;obtain⟨aid,aie,agl,K1,_⟩:=agh;have e:=l5.symm.trans agl;cases e;obtain⟨oc,od,kV,doc,pm,an,aG,ct,lK,rfl,lk,ik⟩:=id K1.ex;refine⟨PySem.W.fnOf "law" "law" (cX rC) (cF rC) (aO rC) .none kV doc pm an aG ct,fun s v=>.of_eq rfl,fun base _ _=>?_⟩;have CO:ao P w K mg base aq 5 uQ yR ["shelf","wishes","decided","reason"] (Cw C S):=abF uR B uK CF ((abe uK B U eK g8 me uB Ci uC Cj fC gY).mono (by decide)) uL CG (abw uL B TC U yJ eK gH jv nZ fC gY gn kf g8 me uG Cq) uM CH ((abC uM B TC U gH jv nZ fC gY gn kf g8 me).mono (by decide)) uN CJ ((abD uN B TC U gH gn kf rS yL).mono (by decide));have mj:ao P w K mg base aq 6 gJ jx ["self","shelf","wishes","decided"] (uP C S Lc):=abT kX UL uR CN CO;have CW:ao P w K mg base aq (7+16) oj rZ ["self","shelf","wishes","decided"] (CU C S Lc Tc 16):=abY yU B U UL UT kX mj eK oh rW mn qa 16 (by decide);have zH:ao P w K mg base aq (8+16) fJ kz ["self","shelf","wishes"] (CV C S Lc Tc 16):=abZ (by decide) vK UL UT kX (mj.mono (by decide)) yU CW;exact aeR K1 B U MS UL UT UP M0 IL IT vI vJ rfl zG (aaE zG TC U) vK zH ((aeN vK UP zv).mono (by decide)) hU km ((Hh hU B).mono (by decide)) k6 sk ((Hm k6 B aT bg).mono (by decide)) vL Ed ((acA vL B hU km aT bg k6 sk ou r9 vd C6).mono (by decide)) vM Ee ((acE vM B TC MC yZ).mono (by decide)) vN Ef ((ada vN aT bg).mono (by decide)) vO zI (ao.ex (m:=3) (sp:=vp) fun n hn=>(ad0 vO zI B aT bg oM sA jg mI eQ gr ef fh eO fG eh fi n).mono (by omega)) vP zJ ((ad2 vP zJ B eQ gr ef fh eO fG eh fi 16).mono (by decide)) vQ zK ((aeb vQ zK B UL UT ML MT qt qu 16).mono (by decide)) vR Eg ((aef vR B).mono (by decide)) vS Eh ((aes vS B jg mI eQ gr ef fh eO fG eh fi).mono (by decide))
theorem agm{l:PySem.W.OpenLaw}{q:Program}{loose:Ls}{XP:(Mv)->Heap->Prop}{YP:World->Heap->Prop}{d:DefRec}{K:Params->Fg}(hn:l.most=some 63)(tG:d.params.defaults=[])
 (hY:∀(w:World) (h:Heap),YP w h->(K w.params).In h)
 (F:∀(w:World) (mg:Mv) (fa:Addr) (h:Heap),(K w.params).In h->h.Ns mainGlobals mg->mg d.name=some (.ref fa) ->
  ∃fd:Fy,(∀(s:Shared) (u:Value),BindsTo s fd ⟨[u],[]⟩ [("_law_script",u)])/\∀base:Heap,(K w.params).In base->base.Ns mainGlobals mg->ao l.prog w (K w.params) mg base aq 25 fa fd ["_law_script"] (zw (K w.params))) :
 PySem.W.WalkO q loose XP YP l.row.toRowW d [] (fun f vs=>PySem.call f vs):=
 L2.V1 (n:=63) (k:=25) (x:="_law_script") (CX:=fun _=>aq) (sp:=fun w=>zw (K w.params)) hn (by decide) tG ⟨rfl,by decide,by decide,rfl⟩ hY F (fun _ _ a ns hl _ hS=>⟨a,ns,rfl,hS,hl,fun _=>rfl⟩) fun _ _ _ _ _ z=>z
end K43
open PySem PySem.W PyProof.Rows
namespace PySem.W.Fast
def tw14238363163648967721:=0
def tw17607579558656426049:=0
def tw8181954461381990402:=0
def tw17581205651292525814:=0
def tw1304014750337285686:=0
def tw5485732150935862716:=0
def tw11423764802086403978:=0
def tw12234702238591751626:=0
def tw17720705778896615491:=0
def tw10360343373231605502:=0
def tw6277426926217531679:=0
def tw5785144759961189612:=0
def tw4401454077373734450:=0
def tw11122328586383087364:=0
def tw17570997050713476903:=0
def tw3337692411981326961:=0
def tw10381873142555407331:=0
def tw16156704844382005309:=0
def tw2537731412578015525:=0
def tw8292481493006563235:=0
def tw10529908584649340709:=0
def tw6912409166922845492:=0
def tw4579092402469852417:=0
def tw8102769407617766197:=0
def tw12971363195173538913:=0
def tw17327439523472056743:=0
def tw3573521622592982904:=0
def tw18404105807779113096:=0
def tw14360530945868042050:=0
def tw15956733017696465119:=0
def tw2158328064713126788:=0
def tw16475654509549646772:=0
def tw16887161279964631014:=0
def tw12417117004595974556:=0
def tw3899105334737359540:=0
def tw10343811993031867885:=0
def tw8614628290787354001:=0
def tw10669728712966220675:=0
def tw14986354487506682443:=0
def tw6067112764262328194:=0
def tw15989640127685634476:=0
def tw13899951338194471267:=0
def tw14979228818829701101:=0
def tw6092127775665559520:=0
def tw4929372795104036780:=0
def tw5414248797045964345:=0
def tw4426842971752889317:=0
def tw4826928343067404501:=0
def tw13328584473966404087:=0
def tw16940403379640345152:=0
def tw9250912122366542028:=0
def tw2307939207215670205:=0
def tw14123066797625628386:=0
def tw13527670786593805636:=0
def tw567236235046139757:=0
def tw18077908913686262346:=0
def tw12803232956465259260:=0
def tw17365314134898556923:=0
def tw3955868357223338581:=0
def tw1815243382446223256:=0
def tw7289994190687073103:=0
def tw15444234886842017140:=0
def tw16938316217087135244:=0
def tw4322999170579360837:=0
def tw11943538971499121684:=0
def tw11349863714247409198:=0
def tw12473491583016500288:=0
def tw8935025611744292687:=0
def tw14123331759494164728:=0
def tw11318239619633335090:=0
def tw1329196287124979089:=0
def tw12922244894996430744:=0
def tw15083526460453992306:=0
def tw17197307151005784558:=0
def tw3597522758273784849:=0
def tw16032590595305417708:=0
def tw6368808568379628688:=0
def tw11141097782111253382:=0
def tw12778966680343798731:=0
def tw15969219232908345239:=0
def tw2258054124497071730:=0
def tw11381849123762452924:=0
def tw11530530092506951395:=0
def tw327051643823107347:=0
def tw7484359677309536895:=0
def tw6094568997977918713:=0
def tw16201144033381825046:=0
def tw3007461235228550604:=0
def tw6167478626593965118:=0
def tw17450398060561988694:=0
def tw16065733860621843966:=0
def tw5325242382856302594:=0
def tw8268040764870175159:=0
def tw16010743195992436509:=0
def tw17189627390061339780:=0
def tw16866895401341341884:=0
def tw2791830999988871365:=0
def tw3967820133436696794:=0
def tw4641482961213599518:=0
def tw2382820611662228859:=0
def tw2452974317147531685:=0
def tw10460534688736316203:=0
def tw15884877245754391303:=0
def tw5769722819192884222:=0
def tw7981504305987595989:=0
def tw5227060048690444335:=0
def tw9460670183789943090:=0
def tw2336740993086485033:=0
def tw17038581946447745189:=0
def tw172185156810753740:=0
def tw4860158782877446948:=0
def tw4523501411137973944:=0
def tw3060527545830011350:=0
def tw16097493537329336433:=0
def tw8844364331472055560:=0
def tw11925404685628661201:=0
def tw1863600831740613676:=0
def tw13371263416754375294:=0
def tw17487412610048202923:=0
def tw16601399107581186072:=0
def tw10019618597197846677:=0
def tw11312232466845175132:=0
def tw2758875412033892563:=0
def tw6831888938369462737:=0
def tw2720930107593321652:=0
def tw4063636563199398956:=0
def tw710070034207973847:=0
def tw163532551029309543:=0
def tw14272944266633175132:=0
def tw474429234027080114:=0
def tw2813441624540269197:=0
def tw2790109080753220576:=0
def tw11486145157237675213:=0
def tw2798261605874241531:=0
def tw5899204057570402687:=0
def tw7242604514103971283:=0
def tw9392797377451958427:=0
def tw2632320865512043517:=0
def tw5187264522130918153:=0
def tw9509540586650842379:=0
end PySem.W.Fast
def PySem.W.Fast.tw7018393294106460716 : PySem.Program := PySem.Challenge.pw_parcelmend_k43_what_holds
set_option maxRecDepth 100000 in
set_option maxHeartbeats 0 in
theorem PySem.Challenge.cw_parcelmend_k43_what_holds_holds : PySem.Challenge.rw_parcelmend_k43_what_holds.Holds := by
 w_on;o_law;k_head;(case hw=>w_witness2)
 k_fill
 refine K43.agm (l := PySem.Challenge.rw_parcelmend_k43_what_holds) rfl rfl (fun w h Y => by first | exact PySem.W.kIn_of Y | exact PySem.W.km_in_of Y) ?F
 case F=>
  intro w mg fa h KX G tH
  refine' K43.afI tH (K43.afC KX G ?_ ?_ ?_ ?_ ?_ ?_ ?_ ?_ ?_ ?_ ?_ ?_ ?_ ?_ ?_ ?_) (K43.afh KX G ?_ ?_ ?_ ?_ ?_ ?_ ?_ ?_ ?_ ?_ ?_ ?_ ?_ ?_ ?_ ?_ ?_ ?_ ?_) (K43.afi KX G ?_ ?_ ?_ ?_ ?_ ?_ ?_ ?_ ?_ ?_ ?_ ?_ ?_ ?_ ?_ ?_ ?_ ?_ ?_ ?_ ?_ ?_ ?_ ?_ ?_ ?_ ?_ ?_) (K43.afr KX G ?_ ?_ ?_ ?_ ?_ ?_ ?_ ?_ ?_ ?_ ?_ ?_ ?_ ?_ ?_ ?_ ?_ ?_ ?_ ?_ ?_ ?_ ?_) (K43.afs KX G ?_ ?_ ?_ ?_ ?_ ?_ ?_ ?_ ?_ ?_ ?_ ?_ ?_ ?_ ?_ ?_ ?_ ?_ ?_ ?_ ?_ ?_ ?_ ?_) (K43.aft KX G ?_ ?_ ?_ ?_ ?_ ?_ ?_ ?_ ?_ ?_ ?_ ?_ ?_ ?_ ?_ ?_) (K43.afu KX G ?_ ?_ ?_ ?_ ?_ ?_ ?_ ?_ ?_ ?_ ?_)
   (L2.cb KX G ?_ ?_ ?_ ?_)
   (L2.cb KX G ?_ ?_ ?_ ?_)
   (L2.cb KX G ?_ ?_ ?_ ?_)
   (L2.cb KX G ?_ ?_ ?_ ?_)
   (L2.cb KX G ?_ ?_ ?_ ?_)
   (L2.cb KX G ?_ ?_ ?_ ?_)
   (L2.cb KX G ?_ ?_ ?_ ?_)
   (L2.cb KX G ?_ ?_ ?_ ?_)
   (L2.cb KX G ?_ ?_ ?_ ?_)
   (L2.cb KX G ?_ ?_ ?_ ?_)
   (L2.cb KX G ?_ ?_ ?_ ?_)
   (L2.cb KX G ?_ ?_ ?_ ?_)
   (L2.cb KX G ?_ ?_ ?_ ?_)
   (L2.cb KX G ?_ ?_ ?_ ?_)
   (L2.cb KX G ?_ ?_ ?_ ?_)
   (L2.cb KX G ?_ ?_ ?_ ?_)
   (L2.cb KX G ?_ ?_ ?_ ?_)
   (L2.cb KX G ?_ ?_ ?_ ?_)
   (L2.cb KX G ?_ ?_ ?_ ?_)
   (L2.cb KX G ?_ ?_ ?_ ?_)
   (L2.cb KX G ?_ ?_ ?_ ?_)
   (L2.cb KX G ?_ ?_ ?_ ?_)
   (L2.cb KX G ?_ ?_ ?_ ?_)
   (L2.cb KX G ?_ ?_ ?_ ?_)
   (L2.cb KX G ?_ ?_ ?_ ?_)
   (L2.cb KX G ?_ ?_ ?_ ?_)
   (L2.cb KX G ?_ ?_ ?_ ?_)
   (L2.cb KX G ?_ ?_ ?_ ?_)
   (L2.cb KX G ?_ ?_ ?_ ?_)
   (L2.cb KX G ?_ ?_ ?_ ?_)
   (L2.cb KX G ?_ ?_ ?_ ?_)
   (L2.cb KX G ?_ ?_ ?_ ?_)
   (L2.cb KX G ?_ ?_ ?_ ?_)
   (L2.cb KX G ?_ ?_ ?_ ?_)
   (L2.cb KX G ?_ ?_ ?_ ?_)
  all_goals try first | k_is | kit_is | kernel_rfl
