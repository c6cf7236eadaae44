import PyProof.Rows.All
import Wide.All
import OpenK.AllK
import Wide.FinOn
import Lean
import PyProof.EqAt
import PyProof.EqKinds
import PyProof.TupleCall
import KE.KRevSl
import KE.KDictSum
import KE.KEqDict
import PyProof.P3Eq
import KE.KTryMore
import KE.KSortTup
import PyProof.NeKinds
import KE.KLam
import PyProof.SetRoads
import KE.KIntText
import PyProof.DictValues
import PyProof.DictWalks
import KE.KItemsList
import PyProof.Toks
import PyProof.StrReplace2
import PyProof.StrLawsFirst
import KE.KMinKey
import PyProof.StrLawsTight
import PyProof.StrLawsIdx
import PyProof.Rows.StrSplitJoin
import PySem.Challenge.RW_parcelmend_k74_not_up
import KE.RegKIsAll
import KE.RegKTryMore
noncomputable section
set_option Elab.async false
set_option linter.all false
set_option genInjectivity false
set_option genSizeOf false
set_option genSizeOfSpec false
set_option maxRecDepth 100000
section
open PyProof PyProof.Rows PySem PySem.AutoSeq1 PySem.Builtin PySem.Builtin.Getset_descriptor PySem.Builtin.ObjectAttr PySem.Builtin.Str PySem.Calls PySem.MeetsSeq PySem.MeetsSeq2 PySem.MeetsSeq3 PySem.SeqAt PySem.Spec PySem.W
def ae:=@wpAny_bind
def ag:=@if_neg
def aj:=@if_pos
def al:=@List.length_map
def aq:=@wpAny_pure
def aG:=@Nat.le_refl
def be:=@List.mem_cons
def bF:=@List.mem_singleton
def bG:=@Heap.lt_size
def bH:=@List.length_append
def bL:=@decide_eq_true
def bQ:=@List.mem_cons_self
def bS:=@List.map_cons
def bU:=@List.mem_cons_of_mem
def bX:=@Nat.le_trans
def b9:=@List.mem_append
def cb:=@Heap.get?_push_of_some
def cq:=@decide_eq_false
def cr:=@List.length_cons
def cC:=@List.mem_map
def cN:=@List.getElem?_eq_some_iff
def cR:=@Nat.ne_of_lt
def cV:=@Bool.false_ne_true
def cW:=@of_decide_eq_true
def dz:=@Nat.zero_le
def dA:=@List.getElem?_map
def dG:=@Heap.get?_push_size
def dH:=@List.mem_of_getElem?
def dJ:=@List.map_append
def d6:=@wpAny_mono
def eP:=@List.length_take
def eR:=@PassesOwn.never
def fc:=@congrArg
def fe:=@List.mem_append_right
def fm:=@Array.length_toList
def fo:=@List.take_length
def fY:=@List.size_toArray
def fZ:=@List.not_mem_nil
def f7:=@or_false
def gt:=@Nat.lt_of_lt_of_le
def gu:=@Ne.symm
def gw:=@List.mem_map_of_mem
def gy:=@PySem.boot_len
def gU:=@Option.some.inj
def gW:=@List.all_eq_true
def gX:=@List.getElem?_eq_getElem
def ie:=@List.take_add_one
def iH:=@Bool.and_eq_true
def iI:=@wpAny_setState_of
def iV:=@PySem.W.mg_of
def iW:=@PySem.F.plainAttrs_list
def jo:=@wpAny_holding
def jp:=@List.length_singleton
def jP:=@beq_iff_eq
def jQ:=@List.length_nil
def jR:=@List.append_assoc
def jS:=@PyProof.Rows.boot_list
def kz:=@Nat.ne_of_gt
def kB:=@List.nodup_nil
def lH:=@List.append_nil
def lI:=@Int.toNat_natCast
def lJ:=@Heap.SameBut.update
def lK:=@List.foldl_cons
def lL:=@List.map_map
def lN:=@PySem.F.plainAttrs_str
def mL:=@Sum.inr.inj
def mO:=@if_false
def mP:=@List.length_drop
def oF:=@wpAny_rule
def oG:=@wpAny_isInstance
def oH:=@wpAny_truthy_bool
def oI:=@Nat.lt_irrefl
def oJ:=@PySem.W.kia_one
def oK:=@Bool.eq_false_iff
def qj:=@Bool.false_eq_true
def qk:=@List.mem_filter
def ql:=@codeAny_mono
def qm:=@Nat.le_succ
def qo:=@List.nodup_cons
def qp:=@List.filter_cons
def qr:=@Array.getElem?_eq_getElem
def qt:=@codeAny_builtin
def qv:=@wpAny_askSetting
def qw:=@not_or
def qx:=@List.foldl_append
def qy:=@PySem.F.slot_list_extend
def qz:=@PySem.F.type_list_extend
def se:=@wpAny_call_entry
def sf:=@Heap.size_push
def si:=@Bool.or_false
def sj:=@List.any_cons
def sk:=@List.find?_cons
def sq:=@Option.map_some
def su:=@List.cons_append
def sw:=@List.length_filter_le
def sy:=@call_meetsIn
def sV:=@List.nodup_append
def sY:=@Array.getElem?_toList
def sZ:=@plainId_quiet
def tm:=@List.cons.inj
def vk:=@wpAny_forIn_list
def vm:=@if_true
def vn:=@List.mem_range
def vo:=@Nat.le_of_lt
def vp:=@Nat.le_of_eq
def vq:=@Bool.and_false
def vt:=@List.any_eq_true
def vv:=@Around.under_plainId
def vw:=@PySem.F.called_set
def vx:=@List.mem_flatMap
def wM:=@beq_eq_false_iff_ne
def wN:=@wpAny_seqItems
def wO:=@List.mem_append_left
def wP:=@wpAny_passesOwn
def wQ:=@Bool.eq_iff_iff
def wR:=@sizeLine_eq
def wS:=@Nat.lt_succ_self
def wT:=@wpAny_Call_Name_kw
def wU:=@Nat.lt_trans
def wV:=@Bool.true_and
def wW:=@PySem.W.kqd_eqv
def wX:=@Bool.and_eq_true_iff
def wY:=@Int.emod_nonneg
def wZ:=@fits_of_scanBound
def xa:=@PySem.F.plain_min_loop
def xb:=@decide_eq_decide
def xf:=@List.cons_ne_nil
def xg:=@PySem.F.slot_str_join
def xh:=@PySem.F.type_str_join
def xi:=@PyProof.Rows.boot_sorted
def xj:=@PySem.F.slot_list_append
def xk:=@PySem.F.type_list_append
def xn:=@List.nil_append
def xp:=@PyProof.Rows.boot_isinstance
def zQ:=@wpAny_specialOf
def zR:=@Bool.not_true
def zT:=@wpAny_execs_nil
def zU:=@PySem.mem_of_lookup
def zV:=@typeIs_str
def zW:=@List.map_nil
def zX:=@PySem.F.slot_dict_get
def zY:=@PySem.F.plainAttrs_dict
def Aa:=@wpAny_newObj_type
def Ab:=@List.drop_eq_nil_iff
def Ac:=@StrLaws.glued_eq_join
def Ad:=@Heap.get?_update_self
def Ae:=@List.length_eq_zero_iff
def Af:=@Int.emod_lt_of_pos
def Ag:=@wpAny_storeSet_of
def Ah:=@wpAny_tryCatch
def Ai:=@decide_eq_true_eq
def Dq:=@List.filterMap_cons
def Dr:=@Bool.false_and
def Dt:=@Calls.spliced_cons
def Du:=@wpAny_call
def Dv:=@List.getElem?_append_right
def Dw:=@Calls.callWith_builtin
def Dx:=@Calls.evalArgs_plain
def Dy:=@Heap.get?_update_other
def Dz:=@call_meets
def DA:=@List.drop_eq_getElem_cons
def DB:=@Nat.zero_add
def DE:=@Nat.mod_lt
def DF:=@List.getElem_mem
def DI:=@Heap.SameBut.refl
def DJ:=@wpAny_updateSeq
def DK:=@Walks.list
def DL:=@List.flatMap_cons
def DM:=@PyProof.Rows.boot_dict
def DN:=@List.flatMap_append
def DO:=@List.eq_nil_of_length_eq_zero
def JE:=@F.slot_tuple_hash
def JF:=@Nat.add_assoc
def JG:=@F.slot_tuple_eq
def JH:=@wpAny_pyIter_list
def JI:=@PyProof.Rows.callWith_type1
def JJ:=@List.mem_filterMap
def JK:=@Calls.spliced_nil
def JL:=@PySem.W.callWith_K
def JM:=@List.of_mem_zip
def JN:=@Option.isSome_iff_exists
def JO:=@Subscript_
def JP:=@List.all_cons
def JQ:=@PySem.F.entry_dict_get
def JR:=@Option.getD_some
def JS:=@List.mem_of_mem_drop
def JT:=@List.mem_of_mem_take
def JU:=@wpAny_dictEntries
def JV:=@entryFor_alias
def JW:=@wpAny_ite_split
def JX:=@wpAny_typeOf
def JY:=@Nat.add_zero
def JZ:=@Nat.not_lt_zero
def J2:=@List.length_range
def J3:=@List.mem_iff_getElem
def J4:=@Array.getD_eq_getD_getElem?
def Ka:=@Obj.data_mapFields
def Kb:=@Nat.not_lt
def Kc:=@List.getD_eq_getElem?_getD
def Kd:=@wpAny_letGo
def Ke:=@List.map_congr_left
def Kf:=@PySem.F.slot_str_split
def Kg:=@PySem.F.type_str_split
def Kh:=@Nat.mul_le_mul_right
def Ki:=@Nat.succ_le_succ
def Kj:=@List.filter_append
def Kk:=@List.filter_sublist
def Kl:=@of_decide_eq_false
def Vr:=@wpAny_tupleItemsOf
def Vs:=@Array.forIn_toList
def Vt:=@isSubtype_tuple_tuple
def Vu:=@List.zip_cons_cons
def Vv:=@Paired.length
def Vw:=@List.getElem?_set_self
def Vx:=@List.getElem?_set_ne
def Vy:=@wpAny_execs_cons
def Vz:=@PySem.W.plainGet_of
def VA:=@wpAny_standAt
def VB:=@PySem.W.cellsFrom_some
def VC:=@List.getElem?_append_left
def VD:=@List.length_replicate
def VE:=@evalPart_none
def VF:=@slot_list_getitem
def VG:=@Bool.true_or
def VH:=@Option.isSome_map
def VI:=@wpAny_Call_method
def VJ:=@Nat.lt_of_le_of_lt
def VL:=@List.lookup_cons
def VM:=@List.length_reverse
def VN:=@List.map_take
def VO:=@List.take_of_length_le
def VQ:=@Nat.succ_mul
def VR:=@List.find?_eq_none
def VS:=@wpAny_newList
def VT:=@Array.toArray_toList
def VU:=@Nat.lt_succ_of_lt
def VW:=@StrsAre.length
def VX:=@wpAny_pyIter_slot
def VY:=@typeLookup_type
def VZ:=@builtinLookup_eq_fast
def V0:=@isSubtype_type
def V1:=@codeAny_call_builtin
def V2:=@looks_findIn
def V3:=@Array.getElem?_eq_none
def V4:=@wpAny_setField
def V5:=@Bool.and_self
def V6:=@sub_set_self
def V7:=@PyProof.Rows.F.plain_set_update_loop
def V8:=@F.slot_str_split
def V9:=@F.entry_str_split
def Wa:=@F.args_str_split_2
def Wb:=@ne_true_of_eq_false
def Wc:=@PySem.F.entry_min_loop
def Wd:=@List.le_antisymm
def We:=@List.getElem?_inj
def Wf:=@Nat.le_succ_of_le
def Wg:=@List.lt_irrefl
def Wh:=@decide_eq_true_iff
def Wi:=@PyProof.Rows.boot_set
def Wj:=@Classical.byContradiction
def Wk:=@List.getLast?_append
def aqR:=@wpAny_richCompare_same_room
def aqS:=@Calls.Name_function_global
def aqT:=@wpAny_isTrue_Compare1
def aqU:=@PySem.W.methodCall_KW
def aqV:=@List.getElem?_replicate
def aqW:=@wpAny_newFunctionEnv_cells
def aqX:=@subscriptTail_builtinR
def aqY:=@wpAny_getItem_list_slice
def aqZ:=@Option.map_eq_some_iff
def aq0:=@PySem.F.slot_dict_pop
def aq1:=@PySem.F.args_dict_get_2
def aq2:=@PySem.F.args_dict_get_3
def aq3:=@PySem.F.type_dict_get
def aq4:=@wpAny_comprehension_free
def aq5:=@List.take_eq_take_iff
def aq6:=@PySem.F.slot_dict_setdefault
def aq7:=@Option.map_eq_none_iff
def aq8:=@Calls.call_function_entry
def aq9:=@PySem.F.slot_dict_itemiterator_iter
def ara:=@PySem.F.slot_dict_items
def arb:=@PySem.F.slot_dict_update
def arc:=@PySem.F.excBase_ValueError
def ard:=@codeAny_handlers_test
def are:=@List.getElem?_eq_none
def arf:=@List.length_eraseIdx_of_lt
def arh:=@Obj.isFreed_of_fields
def ari:=@PySem.F.slot_set_iter
def arj:=@filterMap_getElem?_range
def ark:=@PySem.F.plain_extend_loop
def arl:=@PySem.F.plain_list_iadd
def arm:=@List.length_pos_of_mem
def arn:=@PySem.F.plain_set_new
def aro:=@PyProof.Rows.F.entry_set_update_loop
def arp:=@Array.mem_of_getElem?
def arq:=@AutoSeq1.sub_tuple_tuple
def ars:=@List.Perm.eq_of_pairwise
def art:=@PySem.toDigits_len_ge
def aru:=@PyProof.Rows.boot_str
def arv:=@PyProof.Rows.boot_int
def arw:=@PySem.F.slot_str_startswith
def arx:=@PySem.F.type_str_startswith
def ary:=@List.take_append_drop
def arz:=@List.getLast?_singleton
def arA:=@List.getLast?_eq_getLast
def arB:=@PyProof.Rows.boot_all
def arC:=@PySem.F.slot_tuple_ne
end
abbrev Fg:=PySem.W.Frag
abbrev VP:=PySem.Value->PySem.Shared->Prop
abbrev Po:=List (PySem.Addr×PySem.Obj)
abbrev Mv:=PySem.Str->Option PySem.Value
abbrev Oi:=Option (List Int)
abbrev Ll:=List (List Int)
abbrev Ls:=List PySem.Str
abbrev Lw:=List PySem.Value
abbrev Av:=Array PySem.Value
abbrev Oa:=Option PySem.Addr
abbrev Fy:=PySem.FuncData
open PySem PySem.Spec PyProof.Rows
namespace L2
variable {α β:Type}{p:Pos}{C a f dx:Addr}{P:Program}{w:World}{vs us:Lw}{s s':Shared}{h' base:Heap}{es:List Expr}{A:Around}{E:VP}{u:Value}{M:Model}{n t':Nat}{e c tg:Expr}{ad:Po}{ch fp:List Addr}{N ps:Ls}{K:Fg}{body:List Stmt}{pl:Sem Bool}{mA mg:Mv}{kw:List (Str×Value)}{fd:Fy}{kindOf:Str->Option NameKind}
theorem aW{p q r:α->β->Prop}{C:Prop}(h:∃a b,p a b/\q a b/\r a b)(k:∀a b,p a b->q a b->r a b->C):C:=h.elim λa h=>h.elim λb h=>h.elim λx h=>h.elim λy z=>k a b x y z
abbrev ao:=Sum Int Str
def oM:ao->Value->Bool
 | .inl k,v=>Value.isInt k v
 | .inr x,v=>Value.isStrOf x v
def lO(w:World):ao->Int
 | .inl k=>hashInt k
 | .inr x=>hashStr w x
theorem iX:∀{k:ao}{v:Value},oM k v=true->(∃i t,k=Sum.inl i/\v=Value.int i t)\/(∃x t,k=Sum.inr x/\v=Value.str x t)
 | .inl i,v,h=>by
  obtain⟨t,e⟩:=Value.isInt_shape (k:=i) (v:=v) h;exact .inl ⟨i,t,rfl,e⟩
 | .inr x,v,h=>by
  obtain⟨t,e⟩:=Value.isStrOf_shape (x:=x) (v:=v) h;exact .inr ⟨x,t,rfl,e⟩
theorem Wl(i:Int)(t:Tok):oM (.inl i) (.int i t)=true:=by simp[oM,Value.isInt]
theorem Wm(x:Str)(t:Tok):oM (.inr x) (.str x t)=true:=by simp[oM,Value.isStrOf]
theorem Wn(a b:Int):decide ((Sum.inl a:ao)=Sum.inl b)=(a == b):=by
 by_cases e:a=b
 . subst e;simp
 have h:¬(Sum.inl a:ao)=Sum.inl b:=λq=>e (Sum.inl.inj q);rw[cq h];exact(wM.mpr e).symm
theorem Wo(a b:Str):decide ((Sum.inr a:ao)=Sum.inr b)=decide (a=b):=by
 by_cases e:a=b
 . subst e;simp
 have h:¬(Sum.inr a:ao)=Sum.inr b:=λq=>e (mL q);rw[cq h,cq e]
theorem Wp(a:Int)(b:Str):decide ((Sum.inl a:ao)=Sum.inr b)=false:=cq (λq=>nomatch q)
theorem Wq(a:Str)(b:Int):decide ((Sum.inr a:ao)=Sum.inl b)=false:=cq (λq=>nomatch q)
def cx(prog:Program)(w:World):PySem.KeyKind prog w ao where
 is:=oM
 hash:=lO w
 inj:=λv a b J G=>by
  rcases iX J with⟨i,t,rfl,rfl⟩ | ⟨x,t,rfl,rfl⟩
  . rcases iX G with⟨j,u,rfl,e⟩ | ⟨y,u,rfl,e⟩
    . injection e with e1 _;rw[e1]
    exact nomatch e
  rcases iX G with⟨j,u,rfl,e⟩ | ⟨y,u,rfl,e⟩
  . exact nomatch e
  injection e with e1 _;rw[e1]
 byValue:=λk v h=>by
  rcases iX h with⟨i,t,rfl,rfl⟩ | ⟨x,t,rfl,rfl⟩<;>rfl
 pyHash:=λz h=>by
  rcases iX z with⟨i,t,rfl,rfl⟩ | ⟨x,t,rfl,rfl⟩
  . exact wpAny_pyHash_int h
  exact wpAny_pyHash_str h
 eqBool:=λO z h=>by
  rcases iX O with⟨i,t,rfl,rfl⟩ | ⟨x,t,rfl,rfl⟩
  . rcases iX z with⟨j,u,rfl,rfl⟩ | ⟨y,u,rfl,rfl⟩
    . rw[Wn]at h;exact wpAny_eqBool_int h
    rw[Wp]at h;exact SeqAt.EqAt.int_str i t y u _ _ _ _ h
  rcases iX z with⟨j,u,rfl,rfl⟩ | ⟨y,u,rfl,rfl⟩
  . rw[Wq]at h;exact SeqAt.EqAt.str_int x t j u _ _ _ _ h
  rw[Wo]at h;exact wpAny_eqBool_str h
 «strs»:=λk x t v h=>by
  rcases iX h with⟨i,u,rfl,e⟩ | ⟨y,u,rfl,e⟩
  . exact nomatch e
  injection e with e1 _
  subst e1;cases v<;>rfl
theorem Wr(prog:Program)(w:World)(i:Int)(t:Tok):(cx prog w).is (.inl i) (.int i t)=true:=Wl i t
theorem tq(prog:Program)(w:World)(x:Str)(t:Tok):(cx prog w).is (.inr x) (.str x t)=true:=Wm x t
abbrev NI:=Sum ao (List ao)
def lQ(P:Program)(w:World)(h:Heap):NI->Value->Prop
 | .inl k,v=>oM k v=true
 | .inr ls,v=>∃b,v=.ref b/\IsTupleKey (cx P w) h ls b
inductive iY (P:Program) (w:World) (h:Heap):List NI->Lw->Prop
 | nil:iY P w h [] []
 | cons {i:NI}{v:Value}{ks:List NI}{vs:Lw}:lQ P w h i v->iY P w h ks vs->iY P w h (i::ks) (v::vs)
def iZ(P:Program)(w:World)(h:Heap)(ks:List NI)(a:Addr):Prop:=∃o j n,h.get? a=some o/\o.cls=.type "tuple"/\o.data=.seq j n/\iY P w h ks j.toList
def Aj(P:Program)(w:World):NI->Int
 | .inl k=>lO w k
 | .inr ls=>tupleKeyHash (cx P w) ls
def DP:NI->Nat
 | .inl _=>1
 | .inr ls=>ls.length+1
def DS(P:Program)(w:World)(ks:List NI):Int:=reduceHash (Builtin.Tuple.tupleHashOf (ks.map (Aj P w)))
def Ak(ks:List NI):Nat:=(ks.map DP).sum+1
theorem lQ.inj{h:Heap}{i j:NI}{v:Value}(a:lQ P w h i v)(b:lQ P w h j v):i=j:=by
 cases i with
 | inl k=>
  cases j with
  | inl l=>rw[(cx P w).inj v k l a b]
  | inr l=>
   obtain⟨c,rfl,_⟩:=b
   rcases iX a with⟨_,_,_,e⟩ | ⟨_,_,_,e⟩<;>cases e
 | inr k=>
  obtain⟨c,rfl,z⟩:=a;cases j with
  | inl l=>rcases iX b with⟨_,_,_,e⟩ | ⟨_,_,_,e⟩<;>cases e
  | inr l=>
   obtain⟨d,e,hd⟩:=b;cases e;rw[z.inj hd]
theorem iY.inj{h:Heap}{x y:List NI}(a:iY P w h x vs)(b:iY P w h y vs):x=y:=by
 induction a generalizing y with
 | nil=>cases b;rfl
 | cons p _ j=>
  cases b with
  | cons q r=>rw[p.inj q,j r]
theorem iZ.typeIs{ks:List NI}(x:iZ P w s.heap ks a):s.TypeIs (.ref a) "tuple":=x.elim λo j=>j.elim λ_ z=>z.elim λ_ G=>G.elim λU J=>J.elim λO _=>⟨o,U,O⟩
theorem iZ.inj{h:Heap}{x y:List NI}(p:iZ P w h x a)(q:iZ P w h y a):x=y:=by
 obtain⟨o,b_,n,e,_,d,i⟩:=p;obtain⟨o',its',G,j,_,d',z⟩:=q;rw[e]at j;cases j;rw[d]at d';injection d' with d1 _
 subst d1;exact i.inj z
theorem iY.keeps{h:Heap}{ks:List NI}(k:∀ls b,IsTupleKey (cx P w) h ls b->IsTupleKey (cx P w) h' ls b)(x:iY P w h ks vs):iY P w h' ks vs:=by
 induction x with
 | nil=>exact .nil
 | @cons i v ks vs p _ z=>
  refine .cons ?_ z;cases i with
  | inl l=>exact p
  | inr l=>
   obtain⟨b,e,j⟩:=p;exact⟨b,e,k _ _ j⟩
theorem iZ.keeps{h:Heap}{ks:List NI}{d:Addr}{o:Obj}{es:Array DictEntry}{ep:Nat}(x:iZ P w h ks a)(j:h.get? d=some o)(hd:o.data=.dict es ep)(hs:Heap.SameBut d h h'):iZ P w h' ks a:=by
 obtain⟨J,b_,n,e,c,e2,i⟩:=x;have ne:a≠d:=by
  intro z;rw[z,j]at e;cases e;rw[hd]at e2;cases e2
 exact⟨J,b_,n,(hs.2 a ne).trans e,c,e2,i.keeps λls b G=>G.keeps j hd hs⟩
theorem lQ.hash{i:NI}{v:Value}{Q:Int->Shared->Prop}(z:A.units<cLine)(x:lQ P w s.heap i v)(h:Q (Aj P w i) { s with toks:=s.toks+DP i }):wpAny (model P w) A (pyHash v) Q E s:=by
 cases i with
 | inl k=>exact(cx P w).pyHash (k:=k) x h
 | inr ls=>
  obtain⟨b,rfl,j⟩:=x;exact wpAny_pyHash_tuple z j h
theorem lQ.eq{i j:NI}{v:Value}{Q:Bool->Shared->Prop}(G:A.units<cLine)(x:lQ P w s.heap i u)(y:lQ P w s.heap j v)(h:Q (decide (i=j)) s):wpAny (model P w) A (eqBool u v) Q E s:=by
 cases i with
 | inl k=>
  cases j with
  | inl l=>
   have e:decide ((Sum.inl k:NI)=Sum.inl l)=decide (k=l):=by
    by_cases q:k=l
    . rw[q];simp
    rw[cq q,cq (λz=>q (Sum.inl.inj z))]
   rw[e]at h;exact(cx P w).eqBool (a:=k) (b:=l) x y h
  | inr l=>
   rw[cq (λz=>nomatch z)]at h;obtain⟨b,rfl,o,b_,n,e,c,d,_⟩:=y
   rcases iX x with⟨a,t,_,rfl⟩ | ⟨a,t,_,rfl⟩
   . exact SeqAt.EqAt.int_tuple a t ⟨o,e,c,n,d⟩ G _ _ _ _ h
   exact SeqAt.EqAt.str_tuple a t ⟨o,e,c,n,d⟩ G _ _ _ _ h
 | inr k=>
  obtain⟨a,rfl,J⟩:=x;cases j with
  | inl l=>
   rw[cq (λz=>nomatch z)]at h;obtain⟨o,b_,n,e,c,d,_⟩:=J
   rcases iX y with⟨b,t,_,rfl⟩ | ⟨b,t,_,rfl⟩
   . exact SeqAt.EqAt.tuple_int b t ⟨o,e,c,n,d⟩ G _ _ _ _ h
   exact SeqAt.EqAt.tuple_str b t ⟨o,e,c,n,d⟩ G _ _ _ _ h
  | inr l=>
   obtain⟨b,rfl,O⟩:=y;have e:decide ((Sum.inr k:NI)=Sum.inr l)=decide (k=l):=by
    by_cases q:k=l
    . rw[q];simp
    rw[cq q,cq (λz=>q (mL z))]
   rw[e]at h;exact wpAny_eqBool_tuple G J O h
theorem Ww{ks:List NI}{Q:Int->Shared->Prop}(hu:A.units+8<cLine)(U:iZ P w s.heap ks a)(h:Q (DS P w ks) { s with toks:=s.toks+Ak ks }):wpAny (model P w) A (pyHash (.ref a)) Q E s:=by
 have j:=U.typeIs;obtain⟨o,b_,n,ho,_,hd,hi⟩:=U;have Wx:A.units<cLine:=by omega
 unfold pyHash
 first | unfold pyHashByItsType | skip
 first | refine ae (wpAny_cRoomFor_or (.inr Wx) ?_) | skip
 refine ae (zQ j JE.lookup ?_);show wpAny _ _ (if (some (Value.builtin "tuple.__hash__") == some Value.none)=true then _ else _) Q E s;rw[ag (by rw[beq_builtin_none];exact cV)];refine ae (zQ j JE.lookup ?_);show wpAny _ _ (callSpecialIfBoundUnlessNone? (.ref a) "__hash__" _ >>= _) Q E s;refine ae (wpAny_callSpecialIfBoundUnlessNone?_slot j JE (se JE j F.entry_tuple_hash ?_ (F.args_tuple_hash_1 _)));show wpAny _ _ (Builtin.Tuple.tupleItemsOf (.ref a) >>= _) _ _ s;refine ae (Vr ho hd ?_);refine ae ?_;rw[<-Vs];refine vk _
  (λrest (b:Array Int) s'=>∃done left,ks=done++left/\iY P w s.heap left rest/\b.toList=done.map (Aj P w)/\s'={ s with toks:=s.toks+(done.map DP).sum })
  _ ?_ ?_ _ _ ⟨[],ks,rfl,hi,rfl,rfl⟩
 . rintro x rest b s' ⟨done,left,rfl,O,G,rfl⟩;cases O with
   | @cons k _ Y _ h1 qA=>
    refine ae (lQ.hash (i:=k) (show A.units+1<cLine by omega) h1 ?_)
    first
     | exact aq ⟨done++[k],Y,by simp,qA,by simp[G],by simp[JF]⟩
     | exact ae (aq (aq ⟨done++[k],Y,by simp,qA,by simp[G],by simp[JF]⟩))
 rintro b s' ⟨done,left,rfl,O,G,rfl⟩;cases O;rw[lH]at h;show wpAny _ _ (retInt (Builtin.Tuple.tupleHashOf b.toList)) _ _ _;rw[G];refine wpAny_ret_mkInt ?_;generalize hz:Builtin.Tuple.tupleHashOf (done.map (Aj P w))=z at h ⊢;show wpAny _ _ (if (decide (-(2:Int) ^ 63<=z) && decide (z<2 ^ 63))=true then _ else _) Q E _;unfold DS reduceHash at h;rw[hz]at h
 by_cases J:(decide (-(2:Int) ^ 63<=z) && decide (z<2 ^ 63))=true
 . rw[aj J];rw[aj J]at h;exact aq (by simpa [JF,Ak]using h)
 rw[ag J];rw[ag J]at h;exact ae (oF (aq (by simpa [JF,Ak]using h)))
theorem Wy{x y:List NI}{b:Addr}{R:PySem.Fin->Shared->Prop}(hu:A.units<cLine)(hx:iZ P w s.heap x a)(hy:iZ P w s.heap y b)(h:R (.done (.ret (.bool (decide (x=y))))) s) :
 wpAny (model P w) A (Builtin.«tuple.__eq__» ⟨[.ref a,.ref b],[]⟩) R E s:=by
 have Wz:=hy.typeIs;obtain⟨oa,xs,na,DT,_,WA,WB⟩:=hx;obtain⟨ob,ys,nb,qB,_,f8,WC⟩:=hy;show wpAny _ _ (isInstance (.ref b) (.type "tuple") >>= _) _ _ s;refine ae (oG Wz Vt ?_);simp only[zR,qj,mO];refine ae (Vr DT WA ?_);refine ae (Vr qB f8 ?_);refine ae ?_;refine vk _
  (λrest r s'=>r.1=none/\s'=s/\∃J O G z,rest=List.zip G z/\iY P w s.heap J G/\iY P w s.heap O z/\decide (J=O)=decide (x=y)/\(G.length == z.length)=(xs.size == ys.size))
  _ ?_ ?_ _ _ ⟨rfl,rfl,x,y,xs.toList,ys.toList,rfl,WB,WC,rfl,by simp⟩
 . rintro⟨u,v⟩ rest r s' ⟨hr,rfl,J,O,G,z,hz,ig,kC,Al,hlen⟩;cases ig with
   | nil=>simp at hz
   | @cons k1 u' Y WD h1 WE=>
    cases kC with
    | nil=>simp at hz
    | @cons k2 v' Kn WF h2 WG=>
     simp only[Vu,List.cons.injEq,Prod.mk.injEq]at hz;obtain⟨⟨rfl,rfl⟩,rfl⟩:=hz;refine ae (lQ.eq (i:=k1) (j:=k2) hu h1 h2 ?_)
     by_cases U:k1=k2
     . subst U;rw[bL rfl];simp only[zR,qj,mO];refine aq ⟨rfl,rfl,Y,Kn,WD,WF,rfl,WE,WG,?_,by simpa using hlen⟩;rw[<-Al]
       by_cases Ko:Y=Kn
       . simp[Ko]
       simp[Ko]
     rw[cq U];simp only[Bool.not_false,vm];have hf:decide (x=y)=false:=by rw[<-Al];simp[U]
     rw[hf]at h;exact ae (aq (aq (aq h)))
 rintro⟨r1,r2⟩ s' ⟨hr,rfl,J,O,G,z,hz,ig,kC,Al,hlen⟩;simp only at hr;subst hr;refine aq ?_;have WH:(xs.size == ys.size)=decide (x=y):=by
  rw[<-Al,<-hlen];cases ig with
  | nil=>
   cases kC with
   | nil=>simp
   | cons _ _=>simp
  | cons _ _=>
   cases kC with
   | nil=>simp
   | cons _ _=>simp at hz
 show R (.done (.ret (.bool (xs.size == ys.size)))) s';rw[WH];exact h
theorem WI{x y:List NI}{b:Addr}{Q:Bool->Shared->Prop}(J:A.units+8<cLine)(j:iZ P w s.heap x a)(z:iZ P w s.heap y b)(h:Q (decide (x=y)) s) :
 wpAny (model P w) A (eqBool (.ref a) (.ref b)) Q E s:=by
 unfold eqBool
 try with_reducible refine jo ?_
 show wpAny _ _ (if (Value.ref a == Value.ref b)=true then _ else _) Q E s
 by_cases G:(Value.ref a == Value.ref b)=true
 . rw[aj G];have e:a=b:=by have:=eq_of_beq G;injection this
   subst e;obtain rfl:=j.inj z;exact ae (oF (aq (by simpa using h)))
 rw[ag G];exact ae (aqR (op:=.Eq) j.typeIs z.typeIs JG
  (se JG j.typeIs F.entry_tuple_eq (Wy (show A.units+1<cLine by omega) j z ⟨_,rfl,(λe=>nomatch e),oH h⟩) (F.args_tuple_eq_2 _ _)) (by omega))
theorem WJ{ls:List ao}{Q:Bool->Shared->Prop}(G:IsTupleKey (cx P w) s.heap ls a)(h:Q true s):wpAny M A (eqIsQuiet (n+1) (.ref a)) Q E s:=by
 have z:=G.typeIs;obtain⟨o,b_,m,U,_,hd,hi⟩:=G;unfold eqIsQuiet;refine ae (zQ z JG.lookup ?_);show wpAny _ _ (isInstance (.ref a) (.type "tuple") >>= _) _ _ s;refine ae (oG z Vt ?_);simp only[zR,qj,mO];refine ae (wN U hd ?_);refine ae ?_;show wpAny _ _ (forIn b_ _ _) _ _ s;rw[<-Vs];refine vk _ (λrest r s'=>r.1=none/\s'=s/\∀v∈rest,carriedByValue v=true) _ ?_ ?_ _ _ ⟨rfl,rfl,hi.byValue⟩
 . rintro v rest r s' ⟨j,rfl,J⟩;rw[eqIsQuiet_byValue _ (J v bQ)];refine ae (aq ?_);simp only[zR,qj,mO];exact aq ⟨rfl,rfl,λu O=>J u (bU _ O)⟩
 rintro⟨r1,r2⟩ s' ⟨j,rfl,_⟩;simp only at j;subst j;exact aq h
theorem WL{ks:List NI}{Q:Bool->Shared->Prop}(G:iZ P w s.heap ks a)(h:Q true s):wpAny M A (eqIsQuiet 8 (.ref a)) Q E s:=by
 have z:=G.typeIs;obtain⟨o,b_,m,Y,_,hd,hi⟩:=G;unfold eqIsQuiet;refine ae (zQ z JG.lookup ?_);show wpAny _ _ (isInstance (.ref a) (.type "tuple") >>= _) _ _ s;refine ae (oG z Vt ?_);simp only[zR,qj,mO];refine ae (wN Y hd ?_);refine ae ?_;show wpAny _ _ (forIn b_ _ _) _ _ s;rw[<-Vs];refine vk _ (λrest r s'=>r.1=none/\s'=s/\∃ls,iY P w s.heap ls rest) _ ?_ ?_ _ _ ⟨rfl,rfl,ks,hi⟩
 . rintro v rest r s' ⟨j,rfl,ls,J⟩;cases J with
   | @cons i _ xq _ h1 h2=>
    have O:∀{R:Bool->Shared->Prop},R true s'->wpAny M A (eqIsQuiet 7 v) R E s':=λ{R} q=>by
     cases i with
     | inl k=>
      rw[eqIsQuiet_byValue _ ((cx P w).byValue k v h1)];exact aq q
     | inr l=>
      obtain⟨b,rfl,U⟩:=h1;exact WJ U q
    refine ae (O ?_);simp only[zR,qj,mO];exact aq ⟨rfl,rfl,xq,h2⟩
 rintro⟨r1,r2⟩ s' ⟨j,rfl,_⟩;simp only at j;subst j;exact aq h
def qD(P:Program)(w:World):HeapKind P w (List NI) where
 is:=iZ P w
 hash:=DS P w
 draws:=Ak
 room:=λA=>A.units+8<cLine
 inj:=λa b=>a.inj b
 keeps:=λx G hd hs=>x.keeps G hd hs
 pyHash:=λz j h=>Ww z j h
 eqBool:=λz J O h=>WI z J O h
 quiet:=λj h=>WL j h
theorem vy(j:A.units+64<cLine):(qD P w).room A.in1:=show A.units+1+8<cLine by omega
set_option genInjectivity true in
inductive V where
 | non | bl (b:Bool) | int (i:Int) | str (x:Str) | byt (b:Array UInt8) | flt (b:UInt64) | ref (a:Addr) | ty (n:String)
 deriving DecidableEq
abbrev Lv:=List V
def RelV:V->Value->Prop
 | .non,u=>u=Value.none
 | .bl b,u=>u=Value.bool b
 | .int i,u=>∃t,u=Value.int i t
 | .str x,u=>∃t,u=Value.str x t
 | .byt b,u=>∃t,u=Value.bytes b t
 | .flt b,u=>∃t,u=Value.float b t
 | .ref a,u=>u=Value.ref a
 | .ty n,u=>u=Value.type n
abbrev aY:Lv->Lw->Prop:=Paired RelV
theorem aY.length{xs:Lv}(r:aY xs us):xs.length=us.length:=Vv r
theorem aY.get:∀{xs:Lv}{us:Lw}{i:Nat}{x:V},aY xs us->xs[i]?=some x->∃u,us[i]?=some u/\RelV x u
 | _,_,_,_,.nil,e=>by simp at e
 | _,_,0,_,.cons r _,e=>by simp at e;subst e;exact⟨_,rfl,r⟩
 | _,_,i+1,x,.cons _ t,e=>by
  obtain⟨u,h1,h2⟩:=aY.get (i:=i) (x:=x) t (by simpa using e);exact⟨u,by simpa using h1,h2⟩
theorem aY.append:∀{xs ys:Lv}{us j:Lw},aY xs us->aY ys j->aY (xs++ys) (us++j)
 | _,_,_,_,.nil,s=>s
 | _,_,_,_,.cons r t,s=>.cons r (aY.append t s)
theorem aY.take:∀{xs:Lv}{us:Lw} (n:Nat),aY xs us->aY (xs.take n) (us.take n)
 | _,_,0,_=>.nil
 | _,_,_+1,.nil=>.nil
 | _,_,n+1,.cons r t=>.cons r (aY.take n t)
theorem aY.drop:∀{xs:Lv}{us:Lw} (n:Nat),aY xs us->aY (xs.drop n) (us.drop n)
 | _,_,0,r=>r
 | _,_,_+1,.nil=>.nil
 | _,_,n+1,.cons _ t=>aY.drop n t
def gJ:Option V->Option Value->Prop
 | some v,some u=>RelV v u
 | none,none=>True
 | _,_=>False
def KV{κ:Type}:List (κ×V)->List (κ×Value)->Prop:=Paired fun(p:κ×V) (q:κ×Value)=>p.1=q.1/\RelV p.2 q.2
def kV:ao->V
 | .inl i=>.int i
 | .inr x=>.str x
inductive HO where
 | lst (xs:Lv)
 | tup (xs:Lv)
 | dK (kvs:List (ao×V)) | dT (kvs:List (List NI×V))
 | set (S:Int->Bool) (n:Nat)
 | ins (C dx:Addr) (fs:List (Str×V))
 | own (x:Addr)
 | xd (fs:List (Str×V))
 | met (f x:Addr)
 | rng (lo hi:Int)
 | frz (o:Obj) (u:HO)
 | tbl (ps:Av)
 | ext (φ:Heap->Prop)
abbrev Hp:=Addr->Option HO
def af(H:Hp)(a:Addr)(o:HO):Hp:=λb=>if b=a then some o else H b
theorem aD{H:Hp}{o:HO}:af H a o a=some o:=by unfold af;rw[aj rfl]
theorem aX{H:Hp}{b:Addr}{o:HO}(h:b≠a):af H a o b=H b:=by unfold af;rw[ag h]
theorem aU{H:Hp}{b:Addr}{o u:HO}(h:H a=some o)(h':H b=some u)(d:o≠u):a≠b:=by
 intro e;subst e;rw[h]at h';exact d (gU h')
theorem aI{H:Hp}{b:Addr}{o:HO}(h:H a=some o)(h':H b=none):a≠b:=by
 intro e;subst e;rw[h]at h';cases h'
def NV(H:Hp):NI->V->Prop
 | .inl k,v=>v=kV k
 | .inr ls,v=>∃b,v=.ref b/\H b=some (.tup (ls.map kV))
abbrev Kp (H:Hp):List NI->Lv->Prop:=Paired (NV H)
def kD(H:Hp)(ks:List NI)(a:Addr):Prop:=∃vs,H a=some (.tup vs)/\Kp H ks vs
theorem aB{F G:α->β->Prop}:∀{j:List α}{z:List β},Paired F j z->(∀a b,F a b->G a b)->Paired G j z
 | _,_,.nil,_=>.nil
 | _,_,.cons r t,f=>.cons (f _ _ r) (aB t f)
theorem kD.keeps{H H':Hp}{ks:List NI}(x:kD H ks a)(j:∀b xs,H b=some (.tup xs)->H' b=some (.tup xs)):kD H' ks a:=by
 obtain⟨vs,e,r⟩:=x;refine⟨vs,j _ _ e,aB r λi v z=>?_⟩;cases i with
 | inl k=>exact z
 | inr l=>
  obtain⟨b,e1,e2⟩:=z;exact⟨b,e1,j _ _ e2⟩
section
variable (P:Program)(w:World)
def bY(H:Hp)(h:Heap)(a:Addr):HO->Prop
 | .lst xs=>xs.length<=sizeLine/\∃(b_:Lw) (n:Nat),aY xs b_/\h.get? a=some { cls:=.type "list",data:=.seq b_.toArray n }
 | .tup xs=>xs.length<=sizeLine/\∃b_:Lw,aY xs b_/\IsTup h a b_.toArray
 | .dK kvs=>kvs.length<=sizeLine/\(a == sysModules)=false/\∃vs,KV kvs vs/\h.DictOf (cx P w) a vs
 | .dT kvs=>kvs.length<=sizeLine/\(a == sysModules)=false/\∃xs:List (List NI×Addr×Value),
  Paired (fun(p:List NI×V) (q:List NI×Addr×Value)=>p.1=q.1/\kD H p.1 q.2.1/\RelV p.2 q.2.2) kvs xs /\
  ∃o es ep,h.get? a=some o/\o.ExactDict/\o.data=.dict es ep/\es.toList=xs.map (entryOfKey (qD P w))/\(xs.map (·.1)).Nodup
 | .set S n=>h.SetOf (intKind P w) a S n
 | .ins C dx fs=>H dx=some (.own a)/\fs.length<=1000/\dx≠a/\h.get? a=some (W.instObj C dx) /\
  ∃mA,h.Ns1 dx mA/\(∀f,gJ (fs.lookup f) (mA f))/\PySem.Within mA (fs.map (·.1))
 | .own _=>∃o,h.get? a=some o
 | .xd fs=>∃mA,h.Ns1 a mA/\∀f,gJ (fs.lookup f) (mA f)
 | .rng lo hi=>∃t u v,h.get? a=some { cls:=.type "range",data:=.fields #[.int lo t,.int hi u,.int 1 v] }
 | .frz o u=>h.get? a=some o/\bY H h a u
 | .tbl ps=>h.get? a=some { cls:=.none,data:=.fields ps }
 | .met f x=>h.get? a=some (W.methodObj (.ref f) (.ref x))
 | .ext φ=>φ h/\(∃o,h.get? a=some o)/\∀h1 h2:Heap,φ h1->(∀o,h1.get? a=some o->h2.get? a=some o)->φ h2
def cf(H:Hp)(h:Heap):Prop:=∀a o,H a=some o->bY P w H h a o
end
section
variable {H H':Hp}{h:Heap}{o:HO}
theorem bY.lt(x:bY P w H h a o):a<h.objs.size:=by
 cases o with
 | lst xs=>obtain⟨_,_,_,_,e⟩:=x;exact bG e
 | tup xs=>obtain⟨_,_,_,p⟩:=x;exact p.lt
 | dK kvs=>obtain⟨_,_,_,_,o,_,_,e,_⟩:=x;exact bG e
 | dT kvs=>obtain⟨_,_,_,_,o,_,_,e,_⟩:=x;exact bG e
 | set S n=>obtain⟨o,_,_,_,e,_⟩:=x;exact bG e
 | ins C dx fs=>obtain⟨_,_,_,e,_⟩:=x;exact bG e
 | own y=>obtain⟨_,e⟩:=x;exact bG e
 | xd fs=>obtain⟨_,⟨_,_,_,e,_⟩,_⟩:=x;exact bG e
 | rng lo hi=>obtain⟨_,_,_,e⟩:=x;exact bG e
 | frz ob u=>obtain⟨e,_⟩:=x;exact bG e
 | tbl ps=>exact bG (show h.get? a=some _ from x)
 | met f y=>exact bG (show h.get? a=some _ from x)
 | ext φ=>obtain⟨_,⟨_,e⟩,_⟩:=x;exact bG e
theorem Paired.mapP{F G:α->β->Prop}:∀{j:List α}{z:List β},Paired F j z->(∀a b,F a b->G a b)->Paired G j z
 | _,_,.nil,_=>.nil
 | _,_,.cons r t,f=>.cons (f _ _ r) (Paired.mapP t f)
theorem bY.stay(x:bY P w H h a o)(k:∀b u,(b=a\/H b=some (.own a))->h.get? b=some u->h'.get? b=some u)
 (j:∀b,H b=some (.own a)->H' b=some (.own a)) (G:∀b xs,H b=some (.tup xs)->H' b=some (.tup xs)):bY P w H' h' a o:=by
 induction o with
 | lst xs=>obtain⟨z,b_,n,r,e⟩:=x;exact⟨z,b_,n,r,k _ _ (.inl rfl) e⟩
 | tup xs=>obtain⟨z,b_,r,ob,e,c⟩:=x;exact⟨z,b_,r,ob,k _ _ (.inl rfl) e,c⟩
 | dK kvs=>obtain⟨z,y,vs,r,ob,es,ep,e,c⟩:=x;exact⟨z,y,vs,r,ob,es,ep,k _ _ (.inl rfl) e,c⟩
 | dT kvs=>
  obtain⟨z,y,xs,r,ob,es,ep,e,c⟩:=x;exact⟨z,y,xs,Paired.mapP r λp q z=>⟨z.1,z.2.1.keeps G,z.2.2⟩,ob,es,ep,k _ _ (.inl rfl) e,c⟩
 | set S n=>obtain⟨ob,es,ep,t,e,c⟩:=x;exact⟨ob,es,ep,t,k _ _ (.inl rfl) e,c⟩
 | ins C dx fs=>
  obtain⟨d,z,ne,e,mA,⟨od,es,ep,e2,c⟩,r⟩:=x;exact⟨j _ d,z,ne,k _ _ (.inl rfl) e,mA,⟨od,es,ep,k _ _ (.inr d) e2,c⟩,r⟩
 | own y=>obtain⟨ob,e⟩:=x;exact⟨ob,k _ _ (.inl rfl) e⟩
 | xd fs=>obtain⟨mA,⟨od,es,ep,e,c⟩,r⟩:=x;exact⟨mA,⟨od,es,ep,k _ _ (.inl rfl) e,c⟩,r⟩
 | rng lo hi=>obtain⟨t,u,v,e⟩:=x;exact⟨t,u,v,k _ _ (.inl rfl) e⟩
 | frz ob u J=>obtain⟨e,q⟩:=x;exact⟨k _ _ (.inl rfl) e,J q⟩
 | tbl ps=>
  have e:h.get? a=some { cls:=.none,data:=.fields ps }:=x;show h'.get? a=some { cls:=.none,data:=.fields ps };exact k a _ (.inl rfl) e
 | met f y=>
  have e:h.get? a=some (W.methodObj (.ref f) (.ref y)):=x;show h'.get? a=some (W.methodObj (.ref f) (.ref y));exact k a _ (.inl rfl) e
 | ext φ=>obtain⟨p,⟨o,e⟩,st⟩:=x;exact⟨st _ _ p λo q=>k _ _ (.inl rfl) q,⟨o,k _ _ (.inl rfl) e⟩,st⟩
theorem cf.lt(x:cf P w H h)(e:H a=some o):a<h.objs.size:=(x a o e).lt
theorem cf.fresh(x:cf P w H h)(e:h.objs.size<=a):H a=none:=by
 cases q:H a with
 | none=>rfl
 | some u=>exact absurd (gt (x.lt q) e) (oI _)
theorem cf.kept(x:cf P w H h)(k:∀b u,h.get? b=some u->h'.get? b=some u):cf P w H h':=λa o e=>
 (x a o e).stay (λb u _ q=>k b u q) (λ_ q=>q) λ_ _ q=>q
theorem cf.laid(x:cf P w H h)(k:∀b u,h.get? b=some u->h'.get? b=some u)(G:h.objs.size<=a)(new:bY P w (af H a o) h' a o):cf P w (af H a o) h':=λb u e=>by
 have z:=x.fresh G
 by_cases j:b=a
 . subst j;rw[aD]at e;cases e;exact new
 rw[aX j]at e;exact(x b u e).stay (λc v _ q=>k c v q) (λc q=>by rw[aX (aI q z)];exact q) λc xs q=>by rw[aX (aI q z)];exact q
end
def Rd(H:Hp)(a:Addr)(u:HO):Prop:=H a=some u\/∃o,H a=some (.frz o u)
theorem Rd.ok{H:Hp}{h:Heap}{u:HO}(r:Rd H a u)(x:cf P w H h):bY P w H h a u:=by
 rcases r with r | ⟨o,r⟩
 . exact x a u r
 obtain⟨_,q⟩:=x a _ r;exact q
def xr:Option HO->Prop
 | some (.lst _)=>True
 | some (.dK _)=>True
 | some (.dT _)=>True
 | some (.set _ _)=>True
 | some (.ins _ _ _)=>True
 | some (.ext _)=>True
 | _=>False
section
variable {H:Hp}{h:Heap}{x e:Addr}{o':HO}
theorem cf.write(ok:cf P w H h)(G:xr (H x))(U:e=x\/H e=some (.own x))(k:∀b u,b≠e->h.get? b=some u->h'.get? b=some u)(vz:∃u,h'.get? e=some u)
 (new:bY P w (af H x o') h' x o'):cf P w (af H x o') h':=λb u q=>by
 have O:∀c y,H c=some (.own y)->c≠x:=λc y r z=>by subst z;rw[r]at G;exact G
 have WM:∀c xs,H c=some (.tup xs)->c≠x:=λc xs r z=>by subst z;rw[r]at G;exact G
 by_cases j:b=x
 . subst j;rw[aD]at q;cases q;exact new
 rw[aX j]at q
 by_cases J:b=e
 . have Y:H b=some (.own x):=by
    rcases U with z | z
    . exact absurd (J.trans z) j
    rw[J];exact z
   rw[q]at Y;cases Y;obtain⟨v,hv⟩:=vz;exact⟨v,by rw[J];exact hv⟩
 refine(ok b u q).stay (λc v hc r=>k c v ?_ r) (λc r=>by rw[aX (O c b r)];exact r) λc xs r=>by rw[aX (WM c xs r)];exact r
 rcases hc with rfl | hc
 . exact J
 rintro rfl
 rcases U with z | z
 . exact O c b hc z
 rw[hc]at z;cases z;exact j rfl
end
structure Un(fs ex:List Addr)(H H':Hp)(h h':Heap):Prop where
 keep:∀b o,h.get? b=some o->H b=none->b∉fs->b∉ex->h'.get? b=some o
 slot:∀b o,h.get? b=some o->H b=none->b∈fs->b∉ex->∃sl,h'.get? b=some { o with slots:=sl }
 free:∀b o,h.get? b=some o->H b=none->b∉ex->H' b=none
 there:∀b o,h.get? b=some o->b∉ex->∃o',h'.get? b=some o'
 tups:∀b xs,H b=some (.tup xs)->H' b=some (.tup xs)
 frzs:∀b o u,H b=some (.frz o u)->H' b=some (.frz o u)
 tbls:∀b ps,H b=some (.tbl ps)->∃more,H' b=some (.tbl (ps++more))
section
variable {fs bE ex ex':List Addr}{H H1 H2:Hp}{h h1 h2:Heap}{x e:Addr}{o:HO}
theorem Un.any(u:Un fs ex H H1 h h1){b:Addr}{ob:Obj}(q:h.get? b=some ob)(n:H b=none)(z:b∉ex):∃sl,h1.get? b=some { ob with slots:=sl }:=by
 by_cases j:b∈fs
 . exact u.slot b ob q n j z
 exact⟨ob.slots,u.keep b ob q n j z⟩
theorem Un.trans(a:Un fs ex H H1 h h1)(b:Un fs ex H1 H2 h1 h2):Un fs ex H H2 h h2 where
 keep:=λc ob q n z j=>b.keep c ob (a.keep c ob q n z j) (a.free c ob q n j) z j
 slot:=λc ob q n z j=>by
  obtain⟨sl,e1⟩:=a.slot c ob q n z j;obtain⟨O,e2⟩:=b.slot c _ e1 (a.free c ob q n j) z j;exact⟨O,e2⟩
 free:=λc ob q n j=>by
  obtain⟨o',e1⟩:=a.there c ob q j;exact b.free c o' e1 (a.free c ob q n j) j
 there:=λc ob q j=>by
  obtain⟨o',e1⟩:=a.there c ob q j;exact b.there c o' e1 j
 tups:=λc xs q=>b.tups c xs (a.tups c xs q)
 frzs:=λc ob xs q=>b.frzs c ob xs (a.frzs c ob xs q)
 tbls:=λc ps q=>by
  obtain⟨G,e1⟩:=a.tbls c ps q;obtain⟨J,e2⟩:=b.tbls c _ e1;exact⟨G++J,by rw[e2,Array.append_assoc]⟩
theorem Un.kept(k:∀b u,h.get? b=some u->h'.get? b=some u):Un fs ex H H h h':=
 ⟨λb ob q _ _ _=>k b ob q,λb ob q _ _ _=>⟨ob.slots,k b ob q⟩,λ_ _ _ n _=>n,λb ob q _=>⟨ob,k b ob q⟩,λ_ _ q=>q,λ_ _ _ q=>q,λ_ ps q=>⟨#[],by rw[q];simp⟩⟩
theorem Un.refl:Un fs ex H H h h:=Un.kept λ_ _ q=>q
theorem Un.laid(k:∀b u,h.get? b=some u->h'.get? b=some u)(z:h.objs.size<=a)(j:H a=none):Un fs ex H (af H a o) h h' where
 keep:=λb u q _ _ _=>k b u q
 slot:=λb u q _ _ _=>⟨u.slots,k b u q⟩
 free:=λb u q n _=>by rw[aX (cR (gt (bG q) z))];exact n
 there:=λb u q _=>⟨u,k b u q⟩
 tups:=λb xs q=>by rw[aX (aI q j)];exact q
 frzs:=λb u xs q=>by rw[aX (aI q j)];exact q
 tbls:=λb ps q=>⟨#[],by rw[aX (aI q j),q];simp⟩
theorem Un.write(j:xr (H x))(Y:e=x\/H e=some (.own x))(k:∀b u,b≠e->h.get? b=some u->h'.get? b=some u)(vz:∃u,h'.get? e=some u):Un fs ex H (af H x o) h h':=by
 have O:∀b,H b=none->b≠x:=λb n z=>by subst z;rw[n]at j;exact j
 have J:∀b,H b=none->b≠e:=λb n z=>by
  subst z
  rcases Y with r | r
  . exact O b n r
  rw[n]at r;cases r
 have G:∀b u,H b=some u->¬xr (some u)->b≠x:=λb u q nm z=>by subst z;rw[q]at j;exact nm j
 refine⟨λb u q n _ _=>k b u (J b n) q,λb u q n _ _=>⟨u.slots,k b u (J b n) q⟩,λb u q n _=>by rw[aX (O b n)];exact n,λb u q _=>?_,
  λb xs q=>by rw[aX (G b _ q λz=>z)];exact q,λb u xs q=>by rw[aX (G b _ q λz=>z)];exact q,λb ps q=>⟨#[],by rw[aX (G b _ q λz=>z),q];simp⟩⟩
 by_cases U:b=e
 . subst U;exact vz
 exact⟨u,k b u U q⟩
end
def An(h:Heap)(H:Hp):List Addr:=(List.range h.objs.size).filter λa=>(H a).isSome
def mR(h:Heap)(H:Hp):Heap:=W.hideAll h (An h H)
theorem WN(h:Heap)(H:Hp):(mR h H).objs.size=h.objs.size:=W.hideAll_size _ _
theorem WO{h:Heap}{H:Hp}{b:Addr}{o:Obj}(e:h.get? b=some o)(n:H b=none):(mR h H).get? b=some o:=
 W.hideAll_get _ e λj=>by
  have q:(H b).isSome=true:=(qk.mp j).2;rw[n]at q;simp at q
theorem WP{h:Heap}{H:Hp}{b:Addr}{o:Obj}(e:(mR h H).get? b=some o):h.get? b=some o/\H b=none:=by
 have j:h.get? b=some o:=W.of_hideAll (An h H) e;refine⟨j,?_⟩;cases q:H b with
 | none=>rfl
 | some x=>
  have G:b∈An h H:=qk.mpr ⟨vn.mpr (bG j),by simp[q]⟩;have z:(mR h H).get? b=none:=W.hideAll_none (An h H) G;rw[z]at e;cases e
structure Mod(K:Fg)(mg:Mv)(base:Heap):Prop where
 kin:K.In base
 glob:base.Ns mainGlobals mg
 blt:∃mb,base.Ns builtinsNs mb/\∀x:Str,x≠"__name__"->mb x=bootBuiltins x
 nolimit:base.NoLimit
structure Cx where
 prog:Program
 w:World
 K:Fg
 mg:Mv
 base:Heap
 A:Around
 N:Ls
 s₀:Shared
 H₀:Hp
 env:Env
 outer:List Env
 stack:List Env
 ex:List Addr
 fn:Str->Bool
 calm:Bool
 pn:Po
 xe:VP
variable {X:Cx}
def cg(l:List Env):List Addr:=l.filterMap (·.frame)
abbrev Cx.fs (X:Cx):List Addr:=cg X.outer
def Ao(sc:Scope)(x:Str):Prop:=sc.names.lookup x=some .local\/sc.names.lookup x=some .cell\/sc.names.lookup x=some .free
def Loc(sc:Scope)(x:Str):Prop:=sc.names.lookup x=some .local\/sc.names.lookup x=some .cell
def AI:0<=sizeLine:=by decide
def Ap:1<=sizeLine:=by decide
def Aw:2<=sizeLine:=by decide
def Ax:3<=sizeLine:=by decide
def Look(env:Env)(h:Heap)(m:Mv)(x:Str)(u:Value):Prop:=
 (env.kindOf x=some .local/\m x=some u)\/((env.kindOf x=some .cell\/env.kindOf x=some .free)/\∃c,env.cells.lookup x=some c/\h.IsCell c (some u))
structure Cx.Ok(X:Cx):Prop where
 mod:Mod X.K X.mg X.base
 kind:X.env.scope.kind=.function
 glob:X.env.globals=mainGlobals
 blt:X.env.builtins=builtinsNs
 above:X.s₀.heap.objs.size<=X.env.locals
 inj:∀x y c,X.env.cells.lookup x=some c->X.env.cells.lookup y=some c->x=y
 has:∀x,(X.env.kindOf x=some .cell\/X.env.kindOf x=some .free)->∃c,X.env.cells.lookup x=some c
 cab:∀x c,X.fn x=true->X.env.cells.lookup x=some c->X.s₀.heap.objs.size<=c
 hd:X.calm=true->X.A.handled=none
 frames:X.A.frames=some X.stack
 stk:X.stack=X.outer\/(X.stack=X.env::X.outer/\X.env.frame=some X.env.locals)
 exf:∀b∈X.ex,b≠X.env.locals/\∀x c,X.env.cells.lookup x=some c->c≠b
 bs:∀b o,X.base.get? b=some o->X.s₀.heap.get? b=some o/\X.H₀ b=none
 bsz:X.base.objs.size<=X.s₀.heap.objs.size
 noex:∀b o,X.base.get? b=some o->b∉X.ex
 exfs:∀b∈X.ex,b∉X.fs
 funs:X.s₀.heap.FunFrames X.base X.outer
 frf:∀b∈X.fs,X.H₀ b=none
structure Inv(X:Cx)(ad:Po)(Z:List (Option V))(H:Hp)(s:Shared):Prop where
 ok:X.Ok
 os:s.os=X.s₀.os
 bare:AllBare s.gens
 base:Un X.fs X.ex X.H₀ H X.s₀.heap s.heap
 loc:∃m,s.heap.Ns X.env.locals m/\∀(i:Nat) (x:Str) (v:V),X.N[i]?=some x->Z[i]?=some (some v)->Ao X.env.scope x->∃u,RelV v u/\Look X.env s.heap m x u
 cell:∀x c,X.env.cells.lookup x=some c->∃v,s.heap.IsCell c v
 free:H X.env.locals=none
 freeC:∀x c,X.env.cells.lookup x=some c->H c=none
 pin:∀p∈X.pn++ad,s.heap.get? p.1=some p.2/\H p.1=none/\p.1≠X.env.locals/\p.1∉X.fs/\∀v,p.2.data≠.cell v
 hok:cf X.prog X.w H s.heap
 len:Z.length=X.N.length
section
variable {Z:List (Option V)} {H H':Hp}
theorem Cx.Ok.nofr(ok:X.Ok){b:Addr}{o:Obj}(e:X.base.get? b=some o):b∉X.fs:=λj=>by
 have:=(ok.funs.mem j).1;rw[e]at this;cases this
theorem Inv.bs(I:Inv X ad Z H s):∀b o,X.base.get? b=some o->s.heap.get? b=some o/\H b=none:=λb o e=>
 ⟨I.base.keep b o (I.ok.bs b o e).1 (I.ok.bs b o e).2 (I.ok.nofr e) (I.ok.noex b o e),I.base.free b o (I.ok.bs b o e).1 (I.ok.bs b o e).2 (I.ok.noex b o e)⟩
theorem Inv.bk(I:Inv X ad Z H s):∀b o,X.base.get? b=some o->s.heap.get? b=some o:=λb o e=>(I.bs b o e).1
theorem Inv.mod(I:Inv X ad Z H s):Mod X.K X.mg X.base:=I.ok.mod
theorem Inv.kIn(I:Inv X ad Z H s):X.K.In s.heap:=I.ok.mod.kin.keeps I.bk
theorem Inv.lt(I:Inv X ad Z H s):X.env.locals<s.heap.objs.size:=I.loc.elim λ_ j=>j.elim λz _=>z.lt
theorem Inv.sz(I:Inv X ad Z H s):X.s₀.heap.objs.size<=s.heap.objs.size:=bX I.ok.above (vo I.lt)
theorem Inv.nofs(I:Inv X ad Z H s)(h:s.heap.objs.size<=a):a∉X.fs:=λj=>by
 obtain⟨_,o,z,_⟩:=I.ok.funs.mem j;exact absurd (gt (bG z) (bX I.sz h)) (oI _)
theorem Inv.cne(I:Inv X ad Z H s):∀x c,X.env.cells.lookup x=some c->c≠X.env.locals:=λx c e z=>by
 obtain⟨v,o,j,hd⟩:=I.cell x c e;obtain⟨m,⟨o',es,ep,G,J,_⟩,_⟩:=I.loc;rw[z,G]at j;cases j;rw[J]at hd;cases hd
theorem Inv.funs(I:Inv X ad Z H s):s.heap.FunFrames X.base X.outer:=by
 have all:∀(l:List Env),(∀b∈cg l,b∈X.fs)->X.s₀.heap.FunFrames X.base l->s.heap.FunFrames X.base l:=by
  intro l
  induction l with
  | nil=>intro _ _;trivial
  | cons env r ih=>
   intro hs U;obtain⟨O,⟨L,o,J,Y,ho,hd⟩,hr⟩:=U;have j:L∈X.fs:=hs L (by unfold cg;rw[Dq,J];exact bQ);obtain⟨sl,e⟩:=I.base.slot L o ho (I.ok.frf L j) j λz=>I.ok.exfs L z j;exact⟨O,⟨L,_,J,Y,e,hd⟩,ih (λb G=>hs b (by unfold cg;rw[Dq,J];exact bU _ G)) hr⟩
 exact all X.outer (λ_ G=>G) I.ok.funs
theorem Inv.stack(I:Inv X ad Z H s):s.heap.FunFrames X.base X.stack:=by
 rcases I.ok.stk with e | ⟨e,j⟩
 . rw[e];exact I.funs
 rw[e];obtain⟨m,z,_⟩:=I.loc;refine .cons (by rw[I.ok.kind];decide) j z ?_ I.funs;exact Heap.get?_none_of_le (bX I.ok.bsz I.ok.above)
theorem Inv.stkSub(I:Inv X ad Z H s):∀b∈cg X.stack,b∈X.env.locals::X.fs:=λb j=>by
 rcases I.ok.stk with e | ⟨e,z⟩
 . rw[e]at j;exact bU _ j
 rw[e]at j;unfold cg at j;rw[Dq,z]at j;exact j
theorem Inv.stkFree(I:Inv X ad Z H s):∀b∈cg X.stack,H b=none:=λb hb=>by
 rcases be.mp (I.stkSub b hb) with e | hb
 . rw[e];exact I.free
 obtain⟨_,o,j,_⟩:=I.ok.funs.mem hb;exact I.base.free b o j (I.ok.frf b hb) λz=>I.ok.exfs b z hb
theorem Inv.step{g':Array GenState}{d':Drawn}(I:Inv X ad Z H s)
 (O:∀b∈ch,(b∈X.ex\/X.s₀.heap.objs.size<=b)/\b≠X.env.locals/\(∀x c,X.env.cells.lookup x=some c->c≠b)/\∀p∈X.pn++ad,p.1≠b)
 (keep:∀b o,b≠X.env.locals->b∉X.fs->b∉ch->s.heap.get? b=some o->H b=none->h'.get? b=some o)
 (slot:∀b o,b≠X.env.locals->b∈X.fs->b∉ch->s.heap.get? b=some o->H b=none->∃sl,h'.get? b=some { o with slots:=sl }) (free:∀b o,b∉ch->s.heap.get? b=some o->H b=none->H' b=none)
 (there:∀b o,b∉ch->s.heap.get? b=some o->∃o',h'.get? b=some o')
 (tups:∀b xs,H b=some (.tup xs)->H' b=some (.tup xs)) (frzs:∀b o u,H b=some (.frz o u)->H' b=some (.frz o u)) (tbls:∀b ps,H b=some (.tbl ps)->∃a1,H' b=some (.tbl (ps++a1)))
 (ns:∀m,s.heap.Ns X.env.locals m->h'.Ns X.env.locals m) (hok:cf X.prog X.w H' h') (hg:AllBare g') :
 Inv X ad Z H' { s with heap:=h',gens:=g',drawn:=d',toks:=t' }:=by
 have Y:∀b o,X.s₀.heap.get? b=some o->b≠X.env.locals:=λb o e=>cR (gt (bG e) I.ok.above);have U:∀b o,X.s₀.heap.get? b=some o->b∉X.ex->b∉ch:=λb o e j G=>by
  rcases(O b G).1 with z | z
  . exact j z
  exact absurd (gt (bG e) z) (oI _)
 have a0:∀x c,X.env.cells.lookup x=some c->∀v,s.heap.IsCell c v->h'.IsCell c v:=λx c e v WR=>WR.elim λo WS=>WS.elim λJ hd=>by
  have nch:c∉ch:=λz=>(O c z).2.2.1 x c e rfl
  by_cases hc:c∈X.fs
  . obtain⟨sl,q⟩:=slot c o (I.cne x c e) hc nch J (I.freeC x c e);exact⟨_,q,hd⟩
  exact⟨o,keep c o (I.cne x c e) hc nch J (I.freeC x c e),hd⟩
 refine⟨I.ok,I.os,hg,⟨λb o e n G j=>?_,λb o e n G j=>?_,λb o e n j=>?_,λb o e j=>?_,λb xs e=>tups b xs (I.base.tups b xs e),λb o xs e=>frzs b o xs (I.base.frzs b o xs e),λb ps e=>?_⟩,?_,λx c e=>?_,?_,λx c e=>?_,λp hp=>?_,hok,I.len⟩
 . exact keep b o (Y b o e) G (U b o e j) (I.base.keep b o e n G j) (I.base.free b o e n j)
 . obtain⟨sl,e1⟩:=I.base.slot b o e n G j;obtain⟨qE,e2⟩:=slot b _ (Y b o e) G (U b o e j) e1 (I.base.free b o e n j);exact⟨qE,e2⟩
 . obtain⟨o',e1⟩:=I.base.there b o e j;exact free b o' (U b o e j) e1 (I.base.free b o e n j)
 . obtain⟨o',e1⟩:=I.base.there b o e j;exact there b o' (U b o e j) e1
 . obtain⟨m1,e1⟩:=I.base.tbls b ps e;obtain⟨m2,e2⟩:=tbls b _ e1;exact⟨m1++m2,by rw[e2,Array.append_assoc]⟩
 . obtain⟨m,hn,hl⟩:=I.loc;refine⟨m,ns m hn,λi x v e1 e2 e3=>?_⟩;obtain⟨u,r,l⟩:=hl i x v e1 e2 e3;refine⟨u,r,?_⟩
   rcases l with l | ⟨k,c,e,z⟩
   . exact .inl l
   exact .inr ⟨k,c,e,a0 x c e _ z⟩
 . obtain⟨v,z⟩:=I.cell x c e;exact⟨v,a0 x c e v z⟩
 . obtain⟨m,⟨o,_,_,J,_⟩,_⟩:=I.loc;exact free _ o (λz=>(O _ z).2.1 rfl) J I.free
 . obtain⟨v,o,J,hd⟩:=I.cell x c e;exact free c o (λz=>(O c z).2.2.1 x c e rfl) J (I.freeC x c e)
 obtain⟨e,n,ne,nf,d⟩:=I.pin p hp;have nch:p.1∉ch:=λz=>(O p.1 z).2.2.2 p hp rfl;exact⟨keep p.1 p.2 ne nf nch e n,free p.1 p.2 nch e n,ne,nf,d⟩
theorem Inv.un(I:Inv X ad Z H s)(u:Un X.fs [] H H' s.heap h')(hok:cf X.prog X.w H' h'):Inv X ad Z H' { s with heap:=h',toks:=t' }:=by
 obtain⟨m,⟨o,es,ep,G,r⟩,_⟩:=id I.loc;obtain⟨sl,O⟩:=u.any G I.free (by simp);exact I.step (g':=s.gens) (d':=s.drawn) (ch:=[]) (λ_ z=>nomatch z) (λb o _ j _ e n=>u.keep b o e n j (by simp)) (λb o _ j _ e n=>u.slot b o e n j (by simp)) (λb o _ e n=>u.free b o e n (by simp)) (λb o _ e=>u.there b o e (by simp)) u.tups u.frzs u.tbls (λm' U=>by
  obtain⟨o',es',vA,J,Y⟩:=U;rw[G]at J;cases J;exact⟨_,es',vA,O,Y⟩) hok I.bare
theorem Inv.call{g':Array GenState}{d':Drawn}(I:Inv X ad Z H s)(u:Un (cg X.stack) ch H H' s.heap h')(hok:cf X.prog X.w H' h')(hg:AllBare g')
 (U:∀b∈ch,(b∈X.ex\/X.s₀.heap.objs.size<=b)/\b≠X.env.locals/\(∀x c,X.env.cells.lookup x=some c->c≠b)/\∀p∈X.pn++ad,p.1≠b) :
 Inv X ad Z H' { s with heap:=h',gens:=g',drawn:=d',toks:=t' }:=by
 obtain⟨m,⟨o,es,ep,J,r⟩,_⟩:=id I.loc;obtain⟨sl,G⟩:=u.any J I.free λz=>(U _ z).2.1 rfl;exact I.step (ch:=ch) U (λb o G Y j e n=>u.keep b o e n (λz=>(be.mp (I.stkSub b z)).elim G Y) j) (λb o _ _ j e n=>u.any e n j) (λb o j e n=>u.free b o e n j) (λb o j e=>u.there b o e j) u.tups u.frzs u.tbls (λm' hm=>by
  obtain⟨o',es',vA,O,r'⟩:=hm;rw[J]at O;cases O;exact⟨_,es',vA,G,r'⟩) hok hg
theorem Inv.turned{it:Addr}(I:Inv X ad Z H s)(k:∀b o,b≠it->s.heap.get? b=some o->h'.get? b=some o)(hn:H it=none)(G:it≠X.env.locals)
 (h1:it∈X.ex\/X.s₀.heap.objs.size<=it) (h2:∀x c,X.env.cells.lookup x=some c->c≠it) (O:∀p∈X.pn++ad,p.1≠it):Inv X ad Z H { s with heap:=h',toks:=t' }:=by
 have J:∀b u,H b=some u->b≠it:=λb u e z=>by rw[z,hn]at e;cases e
 refine I.step (g':=s.gens) (d':=s.drawn) (ch:=[it]) (λb U=>?_) (λb o _ _ j e _=>k b o (λz=>j (by simp[z])) e) (λb o _ _ j e _=>⟨o.slots,k b o (λz=>j (by simp[z])) e⟩) (λ_ _ _ _ n=>n)
  (λb o j e=>⟨o,k b o (λz=>j (by simp[z])) e⟩) (λ_ _ e=>e) (λ_ _ _ e=>e) (λb ps e=>⟨#[],by rw[e];simp⟩) (λm Y=>?_) (λb u e=>?_) I.bare
 . have e:b=it:=by simpa using U
   subst e;exact⟨h1,G,h2,O⟩
 . obtain⟨o,es,ep,ho,r⟩:=Y;exact⟨o,es,ep,k _ o (gu G) ho,r⟩
 refine(I.hok b u e).stay (λc v j q=>k c v ?_ q) (λ_ q=>q) λ_ _ q=>q
 rcases j with z | z
 . rw[z];exact J b u e
 exact J c _ z
theorem Inv.tok(I:Inv X ad Z H s)(t:Nat):Inv X ad Z H { s with toks:=t }:=I.un (h':=s.heap) (t':=t) Un.refl I.hok
theorem Inv.kept(I:Inv X ad Z H s)(k:∀b u,s.heap.get? b=some u->h'.get? b=some u):Inv X ad Z H { s with heap:=h',toks:=t' }:=I.un (Un.kept k) (I.hok.kept k)
theorem Inv.laid{o:HO}(I:Inv X ad Z H s)(k:∀b u,s.heap.get? b=some u->h'.get? b=some u)(j:s.heap.objs.size<=a)(new:bY X.prog X.w (af H a o) h' a o) :
 Inv X ad Z (af H a o) { s with heap:=h',toks:=t' }:=I.un (Un.laid k j (I.hok.fresh j)) (I.hok.laid k j new)
theorem Inv.write{x e:Addr}{o:HO}(I:Inv X ad Z H s)(z:xr (H x))(j:e=x\/H e=some (.own x))(k:∀b u,b≠e->s.heap.get? b=some u->h'.get? b=some u)(G:∃u,h'.get? e=some u)
 (new:bY X.prog X.w (af H x o) h' x o):Inv X ad Z (af H x o) { s with heap:=h',toks:=t' }:=I.un (Un.write z j k G) (I.hok.write z j k G new)
theorem Inv.pins_of{j:Po}(I:Inv X ad Z H s)(h:∀p∈j,s.heap.get? p.1=some p.2/\H p.1=none/\p.1≠X.env.locals/\p.1∉X.fs/\∀v,p.2.data≠.cell v):Inv X j Z H s:=
 ⟨I.ok,I.os,I.bare,I.base,I.loc,I.cell,I.free,I.freeC,λp G=>(b9.mp G).elim (λz=>I.pin p (wO _ z)) (h p),I.hok,I.len⟩
theorem DX(z:N.Nodup){i j:Nat}{x:Str}(a:N[i]?=some x)(b:N[j]?=some x):i=j:=by
 obtain⟨h1,e1⟩:=cN.mp a;obtain⟨h2,e2⟩:=cN.mp b;exact(List.getElem_inj z).mp (e1.trans e2.symm)
theorem Ks{i:Nat}{x:Str}{v:V}{Q:Unit->Shared->Prop}(I:Inv X ad Z H s)(hN:X.N.Nodup)(hi:X.N[i]?=some x)(G:Loc X.env.scope x)(r:RelV v u)
 (h:∀s',Inv X ad (Z.set i (some v)) H s'->(∃a,Heap.SameBut a s.heap s'.heap/\(a=X.env.locals\/X.env.cells.lookup x=some a))->Q () s') (hf:X.fn x=true\/X.env.scope.names.lookup x=some .local:=by first | exact .inl rfl | exact .inr rfl | assumption):wpAny M A (storeName X.env x u) Q E s:=by
 obtain⟨m,Y,hl⟩:=id I.loc;have DY:(X.env.scope.kind == .class || (X.env.scope.kind == .module && X.env.locals != X.env.globals))=false:=by rw[I.ok.kind];rfl
 have Aq:i<Z.length:=by rw[I.len];exact(cN.mp hi).1
 have cne:=I.cne;have a0:∀{a:Addr}{h':Heap},(∃o,s.heap.get? a=some o/\H a=none)->Heap.SameBut a s.heap h'->cf X.prog X.w H h':=λ{a h'} ha hs b ob e=>by
  obtain⟨_,_,Kt⟩:=ha;refine(I.hok b ob e).stay (λc U hc q=>(hs.2 c ?_).trans q) (λ_ q=>q) λ_ _ q=>q;rintro rfl
  rcases hc with rfl | hc
  . rw[Kt]at e;cases e
  rw[Kt]at hc;cases hc
 rcases G with hk | hk
 . refine wpAny_storeName_local hk Y (λh' i3 hs=>?_) DY;obtain⟨oL,_,_,mT,_⟩:=id Y;refine h _ ⟨I.ok,I.os,I.bare,⟨λb o e n J G=>?_,λb o e n J G=>?_,I.base.free,λb o e G=>?_,I.base.tups,I.base.frzs,I.base.tbls⟩,⟨_,i3,λj y v' e1 e2 e3=>?_⟩,λy c e=>?_,I.free,I.freeC,λp hp=>?_,a0 ⟨oL,mT,I.free⟩ hs,by simpa using I.len⟩ ⟨_,hs,.inl rfl⟩
   . exact(hs.2 b (cR (gt (bG e) I.ok.above))).trans (I.base.keep b o e n J G)
   . obtain⟨sl,e1⟩:=I.base.slot b o e n J G;exact⟨sl,(hs.2 b (cR (gt (bG e) I.ok.above))).trans e1⟩
   . obtain⟨o',e1⟩:=I.base.there b o e G;exact⟨o',(hs.2 b (cR (gt (bG e) I.ok.above))).trans e1⟩
   . by_cases O:j=i
     . subst O;rw[hi]at e1;cases e1;rw[Vw Aq]at e2;cases e2;exact⟨u,r,.inl ⟨hk,by simp⟩⟩
     rw[Vx (gu O)]at e2;obtain⟨u',r',q⟩:=hl j y v' e1 e2 e3;refine⟨u',r',?_⟩
     rcases q with⟨k,e⟩ | ⟨k,c,e,z⟩
     . refine .inl ⟨k,?_⟩;have:y≠x:=λe=>O (DX hN e1 (e▸hi));simp[this,e]
     exact .inr ⟨k,c,e,z.sameBut hs (cne y c e)⟩
   . obtain⟨U,z⟩:=I.cell y c e;exact⟨U,z.sameBut hs (cne y c e)⟩
   obtain⟨e,n,ne,nf,d⟩:=I.pin p hp;exact⟨(hs.2 p.1 ne).trans e,n,ne,nf,d⟩
 have vB:X.fn x=true:=by
  rcases hf with z | z
  . exact z
  rw[z]at hk;cases hk
 obtain⟨c,hc⟩:=I.ok.has x (.inl hk);obtain⟨U,z⟩:=I.cell x c hc;refine wpAny_storeName_cell I.ok.kind hk hc z (λh' gY hs=>?_);obtain⟨oc,oN,WT⟩:=id z;refine h { s with heap:=h' } ⟨I.ok,I.os,I.bare,⟨λb o e n J G=>?_,λb o e n J G=>?_,I.base.free,λb o e G=>?_,I.base.tups,I.base.frzs,I.base.tbls⟩,⟨m,Y.sameBut hs (gu (cne x c hc)),λj y v' e1 e2 e3=>?_⟩,λy c' e=>?_,I.free,I.freeC,λp hp=>?_,a0 ⟨oc,oN,I.freeC x c hc⟩ hs,by simpa using I.len⟩ ⟨c,hs,.inr hc⟩
 . exact(hs.2 b (cR (gt (bG e) (I.ok.cab x c vB hc)))).trans (I.base.keep b o e n J G)
 . obtain⟨sl,e1⟩:=I.base.slot b o e n J G;exact⟨sl,(hs.2 b (cR (gt (bG e) (I.ok.cab x c vB hc)))).trans e1⟩
 . obtain⟨o',e1⟩:=I.base.there b o e G;exact⟨o',(hs.2 b (cR (gt (bG e) (I.ok.cab x c vB hc)))).trans e1⟩
 . by_cases O:j=i
   . subst O;rw[hi]at e1;cases e1;rw[Vw Aq]at e2;cases e2;exact⟨u,r,.inr ⟨.inl hk,c,hc,gY⟩⟩
   rw[Vx (gu O)]at e2;obtain⟨u',r',q⟩:=hl j y v' e1 e2 e3;refine⟨u',r',?_⟩
   rcases q with q | ⟨k,c',e,z'⟩
   . exact .inl q
   refine .inr ⟨k,c',e,z'.sameBut hs ?_⟩;rintro rfl;exact O (DX hN e1 (I.ok.inj _ _ _ e hc▸hi))
 . by_cases Ku:c'=c
   . subst Ku;exact⟨_,gY⟩
   obtain⟨w2,z2⟩:=I.cell y c' e;exact⟨w2,z2.sameBut hs Ku⟩
 obtain⟨e,n,ne,nf,d⟩:=I.pin p hp;refine⟨(hs.2 p.1 ?_).trans e,n,ne,nf,d⟩;intro q;rw[q,oN]at e;have q':oc=p.2:=gU e;exact d U (by rw[<-q'];exact WT)
theorem DZ{i:Nat}{x:Str}{v:V}{Q:Unit->Shared->Prop}(I:Inv X ad Z H s)(z:X.N.Nodup)(hi:X.N[i]?=some x)(J:Loc X.env.scope x)(r:RelV v u)
 (h:∀s',Inv X ad (Z.set i (some v)) H s'->Q () s') (G:X.fn x=true\/X.env.scope.names.lookup x=some .local:=by first | exact .inl rfl | exact .inr rfl | assumption):wpAny M A (storeName X.env x u) Q E s:=
 Ks I z hi J r (λs' j _=>h s' j) G
theorem Inv.call'(I:Inv X ad Z H s)(z:s'.os=s.os)(u:Un (cg X.stack) ch H H' s.heap s'.heap)(hok:cf X.prog X.w H' s'.heap)(j:AllBare s'.gens)
 (G:∀b∈ch,(b∈X.ex\/X.s₀.heap.objs.size<=b)/\b≠X.env.locals/\(∀x c,X.env.cells.lookup x=some c->c≠b)/\∀p∈X.pn++ad,p.1≠b):Inv X ad Z H' s':=by
 obtain⟨h',g',d',t',o'⟩:=s';have e:o'=s.os:=z;subst e;exact I.call (g':=g') (t':=t') (d':=d') u hok j G
end
abbrev XK:=Value->Oa->Hp->Prop
abbrev St:=List (Option V)
variable {Z:St}
abbrev VK:=V->Hp->Prop
abbrev TE:=St->Hp->VK->Prop
abbrev TT:=St->Hp->(Bool->Hp->Prop)->Prop
abbrev TA:=St->Hp->(Lv->Hp->Prop)->Prop
structure Ends where
 nx:St->Hp->Prop
 rt:VK
 bk:St->Hp->Prop:=λ_ _=>False
 ct:St->Hp->Prop:=λ_ _=>False
variable {D:Ends}
abbrev TS:=Ends->St->Hp->Prop
variable {tb:TS}
def EP(X:Cx)(ad:Po)(Z:St)(Q:VK)(u:Value)(s':Shared):Prop:=∃v H',Inv X ad Z H' s'/\RelV v u/\Q v H'
def TP(X:Cx)(ad:Po)(Z:St)(Q:Bool->Hp->Prop)(b:Bool)(s':Shared):Prop:=∃H',Inv X ad Z H' s'/\Q b H'
def AP(X:Cx)(ad:Po)(Z:St)(Q:Lv->Hp->Prop)(us:Lw)(s':Shared):Prop:=∃vs H',Inv X ad Z H' s'/\aY vs us/\Q vs H'
def SP(X:Cx)(ad:Po)(D:Ends)(f:Flow)(s':Shared):Prop:=
 match f with
 | .next=>∃σ' H',Inv X ad σ' H' s'/\D.nx σ' H'
 | .brk=>∃σ' H',Inv X ad σ' H' s'/\D.bk σ' H'
 | .cont=>∃σ' H',Inv X ad σ' H' s'/\D.ct σ' H'
 | .ret u=>∃v σ' H',Inv X ad σ' H' s'/\RelV v u/\D.rt v H'
def PE(X:Cx)(e:Expr)(t:TE):Prop:=
 ∀(ad:Po) (s:Shared) (Z:St) (H:Hp) (Q:VK),Inv X ad Z H s->t Z H Q->wpAny (model X.prog X.w) X.A (eval e X.env) (EP X ad Z Q) X.xe s
def PT(X:Cx)(e:Expr)(t:TT):Prop:=
 ∀(ad:Po) (s:Shared) (Z:St) (H:Hp) (Q:Bool->Hp->Prop),Inv X ad Z H s->t Z H Q->wpAny (model X.prog X.w) X.A (isTrue e X.env (eval e X.env)) (TP X ad Z Q) X.xe s
def PW(X:Cx)(e:Expr)(t:TT):Prop:=
 ∀(j:Sem Value) (ad:Po) (s:Shared) (Z:St) (H:Hp) (Q:Bool->Hp->Prop),Inv X ad Z H s->t Z H Q->wpAny (model X.prog X.w) X.A (isTrue e X.env j) (TP X ad Z Q) X.xe s
theorem PW.pt{t:TT}(h:PW X e t):PT X e t:=h _
def PA(X:Cx)(es:List Expr)(t:TA):Prop:=
 ∀(pos:Pos) (ad:Po) (s:Shared) (Z:St) (H:Hp) (Q:Lv->Hp->Prop),Inv X ad Z H s->t Z H Q->wpAny (model X.prog X.w) X.A (spliced (backTo pos (starEach es X.env))) (AP X ad Z Q) X.xe s
def PS(X:Cx)(st:Stmt)(t:TS):Prop:=
 ∀(ad:Po) (s:Shared) (Z:St) (H:Hp) (D:Ends),Inv X ad Z H s->t D Z H->wpAny (model X.prog X.w) X.A (exec st X.env) (SP X ad D) X.xe s
def bW(X:Cx)(st:List Stmt)(t:TS):Prop:=
 ∀(ad:Po) (s:Shared) (Z:St) (H:Hp) (D:Ends),Inv X ad Z H s->t D Z H->wpAny (model X.prog X.w) X.A (execs st X.env) (SP X ad D) X.xe s
theorem thn{t:Sem α}{Q j:α->Shared->Prop}(h:wpAny M A t Q E s)(z:∀a s,Q a s->j a s):wpAny M A t j E s:=d6 h z λ_ _ x=>x
section
inductive xw (H:Hp) (Q:VK):Option (Option V)->Prop where
 | mk {v:V} (_:Q v H):xw H Q (some (some v))
theorem xw.ex{H:Hp}{Q:VK}{o:Option (Option V)}(z:xw H Q o):∃(v:V),o=some (some v)/\Q v H:=by
 cases z with
 | @mk v j=>exact⟨v,rfl,j⟩
def qF(i:Nat):TE:=λZ H Q=>xw H Q (Z[i]?)
def tC(v:V):TE:=λ_ H Q=>Q v H
theorem WU{i:Nat}{x:Str}{pos:Pos}(J:X.N[i]?=some x)(hv:Ao X.env.scope x)(hd:(x == ("__debug__":Str))=false:=by decide)(i4:(x == ("__classdict__":Str))=false:=by decide):PE X (.Name x pos) (qF i):=by
 intro ad s Z H Q I h;obtain⟨v,e,h⟩:=xw.ex h;obtain⟨m,Y,O⟩:=I.loc;obtain⟨u,r,l⟩:=O i x v J e hv;have j:EP X ad Z Q u s:=⟨v,H,I,r,h⟩
 rcases l with⟨hk,U⟩ | ⟨hk,c,z,G⟩
 . exact wpAny_Name (wpAny_loadName_local I.ok.kind hk Y U j) hd
 rcases hk with hk | hk
 . exact wpAny_Name (wpAny_loadName_cell I.ok.kind hk z G j) hd
 exact wpAny_Name (wpAny_loadName_free I.ok.kind hk z G j i4) hd
theorem ak{i j pos}:PE X (.Constant (.int i) j pos) (tC (.int i)):=λ_ _ _ H _ I h=>wpAny_Constant_int ⟨.int i,H,I.tok _,⟨_,rfl⟩,h⟩
theorem iJ{b j pos}:PE X (.Constant (.bool b) j pos) (tC (.bl b)):=λ_ _ _ H _ I h=>Constant_bool ⟨.bl b,H,I,rfl,h⟩
theorem jq{j pos}:PE X (.Constant .none j pos) (tC .non):=λ_ _ _ H _ I h=>Constant_none ⟨.non,H,I,rfl,h⟩
theorem bB{x j pos}:PE X (.Constant (.str x) j pos) (tC (.str x)):=λ_ _ _ H _ I h=>Calls.Constant_str ⟨.str x,H,I.tok _,⟨_,rfl⟩,h⟩
def Gl(X:Cx)(x:Str):Prop:=X.env.kindOf x=some .globalImplicit
theorem qG{H:Hp}{x:Str}{pos:Pos}{Q:VP}(I:Inv X ad Z H s)(j:Gl X x)(z:X.mg x=some u)(h:Q u s)
 (hd:(x == ("__debug__":Str))=false:=by decide):wpAny (model X.prog X.w) X.A (eval (.Name x pos) X.env) Q E s:=
 aqS I.ok.kind j (Calls.loadGlobal_global (by rw[I.ok.glob];exact I.mod.glob.keeps I.bk) z h) hd
theorem tw{H:Hp}{x:Str}{pos:Pos}{Q:VP}(I:Inv X ad Z H s)(j:Gl X x)(z:X.mg x=none)(J:bootBuiltins x=some u)(h:Q u s)
 (G:x≠"__name__":=by decide) (hd:(x == ("__debug__":Str))=false:=by decide):wpAny (model X.prog X.w) X.A (eval (.Name x pos) X.env) Q E s:=by
 obtain⟨O,h1,h2⟩:=I.mod.blt;exact aqS I.ok.kind j (Calls.loadGlobal_builtin (by rw[I.ok.glob];exact I.mod.glob.keeps I.bk) z (by rw[I.ok.blt];exact h1.keeps I.bk) ((h2 x G).trans J) h) hd
theorem jV{x:Str}{v:V}{pos:Pos}(j:Gl X x)(z:X.mg x=some u)(r:RelV v u)(hd:(x == ("__debug__":Str))=false:=by decide):PE X (.Name x pos) (tC v):=
 λ_ _ _ H _ I h=>qG I j z ⟨v,H,I,r,h⟩ hd
theorem As{x:Str}{v:V}{pos:Pos}(j:Gl X x)(z:X.mg x=none)(J:bootBuiltins x=some u)(r:RelV v u)(G:x≠"__name__":=by decide)(hd:(x == ("__debug__":Str))=false:=by decide):PE X (.Name x pos) (tC v):=
 λ_ _ _ H _ I h=>tw I j z J ⟨v,H,I,r,h⟩ G hd
variable {a b:Expr}{ta tb:TE}{pos:Pos}
def PC(X:Cx)(op:CmpOp)(a b:Expr)(t:TE):Prop:=
 ∀(ad:Po) (s:Shared) (Z:St) (H:Hp) (Q:VK),Inv X ad Z H s->t Z H Q ->
  wpAny (model X.prog X.w) X.A (eval a X.env) (λv j=>wpAny (model X.prog X.w) X.A (eval b X.env) (λu z=>wpAny (model X.prog X.w) X.A (compareOp op v u) (EP X ad Z Q) X.xe z) X.xe j) X.xe s
inductive Kv (Q:Bool->Hp->Prop) (H1:Hp):V->Prop where
 | mk {c:Bool} (_:Q c H1):Kv Q H1 (.bl c)
def tB(t:TE):TT:=λZ H Q=>t Z H λx H1=>Kv Q H1 x
theorem oO{op:CmpOp}{t:TE}(h:PC X op a b t)(h1:behindInMarks op b=false:=by first | exact nobehind _ (by decide) (by decide) | rfl):PT X (.Compare a [op] [b] pos) (tB t):=by
 intro ad s Z H Q I G;refine aqT (thn (h ad s Z H _ I G) λv U h1=>thn h1 λu Y h2=>thn h2 λc s3 z=>aW z λx H1 j O J=>?_) h1;obtain @⟨d,q⟩:=J;cases O;exact oH ⟨H1,j,q⟩
theorem ij{t:TE}(h:PE X e t)(J:∀j,isTrue e X.env j=(do let v <-j;standAt e.pos;holding [v] (truthy v)):=by intro _;rfl):PT X e (tB t):=by
 intro ad s Z H Q I O;refine isTrue_plain (thn (h ad s Z H _ I O) λv s1 G=>aW G λx H1 z Y U=>?_) (J _);obtain @⟨d,q⟩:=U;cases Y;exact oH ⟨H1,z,q⟩
variable {tA Au:TT}{rest:List Expr}
def WX(t u:TT):TT:=λZ H Q=>t Z H λc H1=>if c=true then u Z H1 Q else Q false H1
def WY(t u:TT):TT:=λZ H Q=>t Z H λc H1=>if c=true then Q true H1 else u Z H1 Q
def WZ(t:TT):TT:=λZ H Q=>t Z H λc H1=>Q (!c) H1
theorem xx(j:PT X a tA):PW X (.BoolOp .And [a] pos) tA:=by
 intro G ad s Z H Q I h;refine isTrue_and (thn (j ad s Z H Q I h) λc z e=>?_);cases c with
 | true=>exact isTrue_and_nil e
 | false=>exact e
theorem vC(j:PT X a tA):PW X (.BoolOp .Or [a] pos) tA:=by
 intro G ad s Z H Q I h;refine isTrue_or (thn (j ad s Z H Q I h) λc z e=>?_);cases c with
 | false=>exact isTrue_or_nil e
 | true=>exact e
theorem tD(O:PT X a tA)(U:PW X (.BoolOp .And (b::rest) pos) Au):PW X (.BoolOp .And (a::b::rest) pos) (WX tA Au):=by
 intro wh ad s Z H Q I h;refine isTrue_and (thn (O ad s Z H _ I h) λc Y G=>G.elim λH1 J=>J.elim λj z=>?_);cases c with
 | true=>exact U wh ad Y Z H1 Q j z
 | false=>exact⟨H1,j,z⟩
theorem tE(O:PT X a tA)(U:PW X (.BoolOp .Or (b::rest) pos) Au):PW X (.BoolOp .Or (a::b::rest) pos) (WY tA Au):=by
 intro wh ad s Z H Q I h;refine isTrue_or (thn (O ad s Z H _ I h) λc Y G=>G.elim λH1 J=>J.elim λj z=>?_);cases c with
 | true=>exact⟨H1,j,z⟩
 | false=>exact U wh ad Y Z H1 Q j z
theorem tF(j:PT X a tA):PT X (.UnaryOp .Not a pos) (WZ tA):=by
 intro ad s Z H Q I h;exact isTrue_not (j ad s Z H (λc H1=>Q (!c) H1) I h)
inductive Kw (tb:TE) (Z:St) (Q:VK) (H1:Hp):V->Prop where
 | mk {c:Bool} (_:if c=true then tb Z H1 Q else Q (.bl false) H1):Kw tb Z Q H1 (.bl c)
def Xa(ta tb:TE):TE:=λZ H Q=>ta Z H λx H1=>Kw tb Z Q H1 x
inductive Kx (tb:TE) (Z:St) (Q:VK) (H1:Hp):V->Prop where
 | mk {c:Bool} (_:if c=true then Q (.bl true) H1 else tb Z H1 Q):Kx tb Z Q H1 (.bl c)
def Xb(ta tb:TE):TE:=λZ H Q=>ta Z H λx H1=>Kx tb Z Q H1 x
inductive Ky (Q:VK) (H1:Hp):V->Prop where
 | mk {c:Bool} (_:Q (.bl (!c)) H1):Ky Q H1 (.bl c)
def Xc(ta:TE):TE:=λZ H Q=>ta Z H λx H1=>Ky Q H1 x
theorem vD{op}{t:TE}(h:PE X a t):PE X (.BoolOp op [a] pos) t:=λad s Z H Q I j=>BoolOp_one (h ad s Z H Q I j)
theorem xy(J:PE X a ta)(O:PE X (.BoolOp .And (b::rest) pos) tb):PE X (.BoolOp .And (a::b::rest) pos) (Xa ta tb):=by
 intro ad s Z H Q I h;refine BoolOp_and (thn (J ad s Z H _ I h) λv Y G=>aW G λx H1 z U j=>?_);obtain @⟨c,j⟩:=j;cases U;refine oH ?_;cases c with
 | true=>exact O ad Y Z H1 Q z j
 | false=>exact⟨.bl false,H1,z,rfl,j⟩
theorem Kz(J:PE X a ta)(O:PE X (.BoolOp .Or (b::rest) pos) tb):PE X (.BoolOp .Or (a::b::rest) pos) (Xb ta tb):=by
 intro ad s Z H Q I h;refine BoolOp_or (thn (J ad s Z H _ I h) λv Y G=>aW G λx H1 z U j=>?_);obtain @⟨c,j⟩:=j;cases U;refine oH ?_;cases c with
 | false=>exact O ad Y Z H1 Q z j
 | true=>exact⟨.bl true,H1,z,rfl,j⟩
theorem Xf(J:PE X a ta):PE X (.UnaryOp .Not a pos) (Xc ta):=by
 intro ad s Z H Q I h;refine UnaryOp_ (thn (J ad s Z H _ I h) λv U G=>aW G λx H1 z O j=>?_);obtain @⟨c,j⟩:=j;cases O;exact not_of (oH ⟨.bl (!c),H1,z,rfl,j⟩)
def Xh(t:TT)(ta tb:TE):TE:=λZ H Q=>t Z H λc H1=>if c=true then ta Z H1 Q else tb Z H1 Q
theorem D9(hc:PT X c tA)(U:PE X a ta)(Y:PE X b tb):PE X (.IfExp c a b pos) (Xh tA ta tb):=by
 intro ad s Z H Q I h;refine wpAny_IfExp (thn (hc ad s Z H _ I h) λd G J=>J.elim λH1 O=>O.elim λj z=>?_);cases d with
 | true=>exact U ad G Z H1 Q j z
 | false=>exact Y ad G Z H1 Q j z
end
def aa(K:Fg)(H:Hp)(a:Addr)(xs:Lv):Prop:=
 Rd H a (.lst xs) \/
  ∃(o:Obj) (b_:Av) (n:Nat),K.lookup a=some o/\o.cls=.type "list"/\o.dict=none/\o.data=.seq b_ n/\b_.size<=sizeLine/\aY xs b_.toList
def ba(K:Fg)(H:Hp)(a:Addr)(xs:Lv):Prop:=
 Rd H a (.tup xs) \/
  ∃(o:Obj) (b_:Av) (n:Nat),K.lookup a=some o/\o.cls=.type "tuple"/\o.data=.seq b_ n/\b_.size<=sizeLine/\aY xs b_.toList
def Xk:Value->Option V
 | .none=>some .non
 | .bool b=>some (.bl b)
 | .int i _=>some (.int i)
 | .str x _=>some (.str x)
 | .bytes b _=>some (.byt b)
 | .float b _=>some (.flt b)
 | .ref a=>some (.ref a)
 | .type n=>some (.ty n)
 | _=>none
theorem RelV.abs{x:V}(r:RelV x u):Xk u=some x:=by
 cases x with
 | non=>cases r;rfl
 | bl _=>cases r;rfl
 | int _=>obtain⟨t,rfl⟩:=r;rfl
 | str _=>obtain⟨t,rfl⟩:=r;rfl
 | byt _=>obtain⟨t,rfl⟩:=r;rfl
 | flt _=>obtain⟨t,rfl⟩:=r;rfl
 | ref _=>cases r;rfl
 | ty _=>cases r;rfl
theorem RelV.inj{x y:V}(r:RelV x u)(q:RelV y u):x=y:=gU (r.abs.symm.trans q.abs)
theorem aY.inj:∀{xs ys:Lv}{us:Lw},aY xs us->aY ys us->xs=ys
 | _,_,_,.nil,.nil=>rfl
 | _,_,_,.cons r t,.cons r' t'=>by rw[r.inj r',aY.inj t t']
section
variable {H:Hp}{xs ys:Lv}
theorem aa.of(h:H a=some (.lst xs)):aa K H a xs:=.inl (.inl h)
theorem ba.of(h:H a=some (.tup xs)):ba K H a xs:=.inl (.inl h)
theorem Inv.list(I:Inv X ad Z H s)(h:aa X.K H a xs):∃b_:Lw,aY xs b_/\PlainL s.heap a b_.toArray/\xs.length<=sizeLine:=by
 rcases h with h | ⟨o,b_,n,G,j,hd,hs,hz,r⟩
 . obtain⟨z,b_,n,r,e⟩:=h.ok I.hok;exact⟨b_,r,⟨_,n,e,rfl,rfl,rfl⟩,z⟩
 refine⟨b_.toList,r,⟨o,n,I.kIn a o G,j,hd,by simpa using hs⟩,?_⟩;have e:=r.length;simp only[fm]at e;omega
theorem Inv.tuple(I:Inv X ad Z H s)(h:ba X.K H a xs):∃b_:Lw,aY xs b_/\IsTup s.heap a b_.toArray/\xs.length<=sizeLine:=by
 rcases h with h | ⟨o,b_,n,G,j,hs,hz,r⟩
 . obtain⟨z,b_,r,p⟩:=h.ok I.hok;exact⟨b_,r,p,z⟩
 refine⟨b_.toList,r,⟨o,I.kIn a o G,j,n,by simpa using hs⟩,?_⟩;have e:=r.length;simp only[fm]at e;omega
theorem Inv.list_inj(I:Inv X ad Z H s)(h:aa X.K H a xs)(h':aa X.K H a ys):xs=ys:=by
 obtain⟨b_,r,⟨o,n,e,_,_,d⟩,_⟩:=I.list h;obtain⟨its',z,⟨o',G,j,_,_,d'⟩,_⟩:=I.list h';rw[e]at j;cases j;rw[d]at d';injection d' with d1 _
 have:b_=its':=by simpa using fc Array.toList d1
 subst this;exact r.inj z
theorem Inv.tuple_inj(I:Inv X ad Z H s)(h:ba X.K H a xs)(h':ba X.K H a ys):xs=ys:=by
 obtain⟨b_,r,⟨o,e,_,n,d⟩,_⟩:=I.tuple h;obtain⟨its',z,⟨o',j,_,G,d'⟩,_⟩:=I.tuple h';rw[e]at j;cases j;rw[d]at d';injection d' with d1 _
 have:b_=its':=by simpa using fc Array.toList d1
 subst this;exact r.inj z
end
abbrev Cx.wish (X:Cx) (E:VP):Cx:={ X with xe:=E }
abbrev Cx.nox (X:Cx):Cx:=X.wish λ_ _=>False
theorem Cx.Ok.wish(ok:X.Ok)(E:VP):(X.wish E).Ok:=
 ⟨ok.mod,ok.kind,ok.glob,ok.blt,ok.above,ok.inj,ok.has,ok.cab,ok.hd,ok.frames,ok.stk,ok.exf,ok.bs,ok.bsz,ok.noex,ok.exfs,ok.funs,ok.frf⟩
theorem Cx.Ok.unwish(ok:(X.wish E).Ok):X.Ok:=
 ⟨ok.mod,ok.kind,ok.glob,ok.blt,ok.above,ok.inj,ok.has,ok.cab,ok.hd,ok.frames,ok.stk,ok.exf,ok.bs,ok.bsz,ok.noex,ok.exfs,ok.funs,ok.frf⟩
section
variable {H:Hp}
theorem Inv.wish(I:Inv X ad Z H s)(E:VP):Inv (X.wish E) ad Z H s:=⟨I.ok.wish E,I.os,I.bare,I.base,I.loc,I.cell,I.free,I.freeC,I.pin,I.hok,I.len⟩
theorem Inv.unwish(I:Inv (X.wish E) ad Z H s):Inv X ad Z H s:=⟨I.ok.unwish,I.os,I.bare,I.base,I.loc,I.cell,I.free,I.freeC,I.pin,I.hok,I.len⟩
theorem SP.unwish{f:Flow}(h:SP (X.wish E) ad D f s'):SP X ad D f s':=by
 cases f with
 | next=>obtain⟨σ',H',I,q⟩:=h;exact⟨σ',H',I.unwish,q⟩
 | brk=>obtain⟨σ',H',I,q⟩:=h;exact⟨σ',H',I.unwish,q⟩
 | cont=>obtain⟨σ',H',I,q⟩:=h;exact⟨σ',H',I.unwish,q⟩
 | ret u=>obtain⟨v,σ',H',I,r,q⟩:=h;exact⟨v,σ',H',I.unwish,r,q⟩
theorem bW.nox{st:List Stmt}{t:TS}(h:bW X.nox st t):bW X st t:=λad s Z H D I j=>
 d6 (h ad s Z H D (I.wish _) j) (λ_ _ q=>q.unwish) λ_ _ z=>False.elim z
end
section
variable {st:Stmt}{rest:List Stmt}{t u:TS}{te:TE}{pos:Pos}
def Xl:TS:=λD Z H=>D.nx Z H
def aH(t u:TS):TS:=λD Z H=>t { D with nx:=u D } Z H
theorem bI:bW X [] Xl:=λ_ _ Z H _ I h=>zT ⟨Z,H,I,h⟩
theorem ah(h1:PS X st t)(h2:bW X rest u):bW X (st::rest) (aH t u):=by
 intro ad s Z H D I h;refine Vy (thn (h1 ad s Z H { D with nx:=u D } I h) λf z q=>?_);cases f with
 | next=>
  obtain⟨σ',H',j,q⟩:=q;exact h2 ad z σ' H' D j q
 | ret v=>exact q
 | brk=>exact q
 | cont=>exact q
theorem ai(h1:PS X st t):bW X [st] t:=by
 intro ad s Z H D I h;refine Vy (thn (h1 ad s Z H D I h) λf j q=>?_);cases f with
 | next=>exact zT q
 | ret v=>exact q
 | brk=>exact q
 | cont=>exact q
theorem Inv.quiet{H:Hp}(I:Inv X ad Z H s):interactive X.env=false:=by simp[interactive,I.ok.kind]
def Xm(te:TE):TS:=λD Z H=>te Z H λ_ H1=>D.nx Z H1
theorem bC(G:PE X e te)(hs:swapsWith e none pos.line X.env=pure false:=by rfl):PS X (.Expr e pos) (Xm te):=by
 intro ad s Z H D I h;exact wpAny_Expr_any (thn (G ad s Z H _ I h) λv U z=>aW z λx H1 j O J=>⟨Z,H1,j,J⟩) I.quiet hs
def Xo(te:TE):TS:=λD Z H=>te Z H D.rt
theorem aN(G:PE X e te):PS X (.Return (some e) pos) (Xo te):=by
 intro ad s Z H D I h;exact wpAny_Return_some (thn (G ad s Z H _ I h) λv U z=>aW z λx H1 j O J=>⟨x,Z,H1,j,O,J⟩)
def Xq:TS:=λD _ H=>D.rt .non H
theorem KA:PS X (.Return none pos) Xq:=λ_ _ Z H _ I h=>wpAny_Return_none ⟨.non,Z,H,I,rfl,h⟩
def Xr(c:TT)(t u:TS):TS:=λD Z H=>c Z H λb H1=>if b=true then t D Z H1 else u D Z H1
theorem bu{a b:List Stmt}{tc:TT}(hc:PT X c tc)(U:bW X a t)(Y:bW X b u):PS X (.If c a b pos) (Xr tc t u):=by
 intro ad s Z H D I h;refine wpAny_If (thn (hc ad s Z H _ I h) λd G J=>J.elim λH1 O=>O.elim λj z=>?_);cases d with
 | true=>exact U ad G Z H1 D j z
 | false=>exact Y ad G Z H1 D j z
def KC:TS:=λ_ _ _=>False
theorem qH:PS X st KC:=λ_ _ _ _ _ _ h=>h.elim
theorem mV{j:List Stmt}:bW X j KC:=λ_ _ _ _ _ _ h=>h.elim
end
abbrev TG:=V->St->Hp->(St->Hp->Prop)->Prop
variable {g:TG}
abbrev mW:=Lv->St->Hp->(St->Hp->Prop)->Prop
def PG(X:Cx)(j:Expr)(t:TG):Prop:=
 ∀(ad:Po) (s:Shared) (Z:St) (H:Hp) (v:V) (u:Value) (Q:St->Hp->Prop),Inv X ad Z H s->RelV v u->t v Z H Q ->
  wpAny (model X.prog X.w) X.A (assign j X.env u) (λ_ s'=>∃σ' H',Inv X ad σ' H' s'/\Q σ' H') X.xe s
def fM(X:Cx)(j:List Expr)(t:mW):Prop:=
 ∀(ad:Po) (s:Shared) (Z:St) (H:Hp) (vs:Lv) (us:Lw) (Q:St->Hp->Prop),Inv X ad Z H s->aY vs us->t vs Z H Q ->
  wpAny (model X.prog X.w) X.A (assignInOrder ((assignEach j X.env).map (·.2)) us) (λ_ s'=>∃σ' H',Inv X ad σ' H' s'/\Q σ' H') X.xe s
section
variable {pos:Pos}
def lR(i:Nat):TG:=λv Z H Q=>Q (Z.set i (some v)) H
theorem bf{i:Nat}{x:Str}(z:X.N.Nodup)(hi:X.N[i]?=some x)(J:Loc X.env.scope x)(G:X.fn x=true\/X.env.scope.names.lookup x=some .local:=by first | exact .inl rfl | exact .inr rfl | assumption):PG X (.Name x pos) (lR i):=by
 intro ad s Z H v u Q I r h;exact wpAny_assign_Name (DZ I z hi J r (λs' j=>⟨_,H,j,h⟩) G)
def Ea:mW:=λvs Z H Q=>vs=[]/\Q Z H
inductive KD (t:TG) (u:mW) (Z:St) (H:Hp) (Q:St->Hp->Prop):Lv->Prop where
 | mk {v:V}{r:Lv} (_:t v Z H λσ' H'=>u r σ' H' Q):KD t u Z H Q (v::r)
def xz(t:TG)(u:mW):mW:=λvs Z H Q=>KD t u Z H Q vs
theorem mX:fM X [] Ea:=by
 intro ad s Z H vs us Q I r h;obtain⟨e,h⟩:=h;subst e;cases r;exact assignInOrder_nil ⟨Z,H,I,h⟩
theorem gz{t:TG}{u:mW}(h1:PG X e t)(h2:fM X es u)
 (hs:(assignEach (e::es) X.env).map (·.2)=assign e X.env::(assignEach es X.env).map (·.2):=by rfl):fM X (e::es) (xz t u):=by
 intro ad s Z H vs us Q I r h;obtain @⟨v,vr,h⟩:=h;cases r with
 | cons r U=>
  rw[hs];refine assignInOrder_cons (thn (h1 ad s Z H _ _ _ I r h) λ_ Y z=>z.elim λσ1 G=>G.elim λH1 J=>J.elim λj O=>?_);exact h2 ad Y σ1 H1 _ _ Q j U O
inductive KG (K:Fg) (n:Nat) (t:mW) (Z:St) (H:Hp) (Q:St->Hp->Prop):V->Prop where
 | mk {a:Addr}{xs:Lv} (_:ba K H a xs) (_:xs.length=n) (_:t xs Z H Q):KG K n t Z H Q (.ref a)
def tG(K:Fg)(n:Nat)(t:mW):TG:=λv Z H Q=>KG K n t Z H Q v
theorem oP{k:Nat}{t:mW}(O:X.calm=true)(h:fM X es t)
 (Y:(assignEach es X.env).length=n:=by rfl) (J:(assignEach es X.env).findIdx? (·.1)=none:=by rfl):PG X (.Tuple es k pos) (tG X.K n t):=by
 intro ad s Z H v u Q I r j;obtain @⟨a,xs,hq,U,j⟩:=j;cases r;obtain⟨b_,z,ht,hz⟩:=I.tuple hq;refine assign_Tuple_tuple (I.ok.hd O) ht (by simp[Y,<-U,z.length]) J λh' hx=>?_;have G:Inv X ad Z H { s with heap:=h' }:=I.kept (t':=s.toks) λb o e=>hx b o (cR (bG e)) e;exact h ad _ Z H xs _ Q G (by simpa using z) j
def KH(te:TE)(g:TG):TS:=λD Z H=>te Z H λx H1=>g x Z H1 D.nx
theorem aF{i:Nat}{x:Str}{te:TE}{pos':Pos}(J:X.N.Nodup)(hi:X.N[i]?=some x)(Y:Loc X.env.scope x)(O:PE X e te)(hs:swapsWith e (some (.Name x pos')) pos.line X.env=pure false:=by rfl)(U:X.fn x=true\/X.env.scope.names.lookup x=some .local:=by first | exact .inl rfl | exact .inr rfl | assumption) :
 PS X (.Assign [.Name x pos'] e pos) (KH te (lR i)):=by
 intro ad s Z H D I h;refine wpAny_Assign_Name (thn (O ad s Z H _ I h) λv s1 G=>aW G λy H1 j r1 q1=>?_) hs;exact DZ j J hi Y r1 (λs2 z=>⟨_,H1,z,q1⟩) U
def Xy(c:TT)(tb:TS):TS:=λD Z H=>∃W:Nat->St->Hp->Prop,(∃m,W m Z H)/\∀m Z H,W m Z H ->
 c Z H λb H1=>if b=true then∃N:St->Hp->Prop,(∀σ' H',N σ' H'->∃m',m'<m/\W m' σ' H')/\tb { D with nx:=N,ct:=N,bk:=D.nx } Z H1 else D.nx Z H1
theorem KI{tc:TT}(hp:PassesOwn (model X.prog X.w) X.A X.env X.xe)(hc:PT X c tc)(hb:bW X body tb):PS X (.While c body [] pos) (Xy tc tb):=by
 intro ad s Z H D I h;obtain⟨W,⟨m0,w0⟩,a0⟩:=h;refine wpAny_While (codeAny_whileLoop (λn s'=>∃σ' H',Inv X ad σ' H' s'/\W n σ' H') ?_ m0 ⟨Z,H,I,w0⟩);rintro n s1 ⟨σ1,H1,I1,w1⟩;refine wP hp (thn (hc ad s1 σ1 H1 _ I1 (a0 n σ1 H1 w1)) λb s2 Xz=>Xz.elim λH2 XA=>XA.elim λU j=>?_);cases b with
 | true=>
  obtain⟨N,Y,j⟩:=j;rw[aj rfl];refine wP hp (thn (hb ad s2 σ1 H2 _ U j) λf s3 z=>?_);cases f with
  | next=>
   obtain⟨σ3,H3,G,n3⟩:=z;obtain⟨m',J,O⟩:=Y σ3 H3 n3;exact⟨m',J,σ3,H3,G,O⟩
  | cont=>
   obtain⟨σ3,H3,G,n3⟩:=z;obtain⟨m',J,O⟩:=Y σ3 H3 n3;exact⟨m',J,σ3,H3,G,O⟩
  | brk=>exact z
  | ret v=>exact z
 | false=>
  rw[ag cV];exact zT ⟨σ1,H2,U,j⟩
end
structure It where
 go:Nat->Hp->Prop
 yld:Nat->Hp->V->Hp->Prop
 stop:Nat->Hp->Prop
def fD(X:Cx)(ad:Po)(H:Hp)(b:Addr):Prop:=
 H b=none/\b≠X.env.locals/\b∉X.fs/\(b∈X.ex\/X.s₀.heap.objs.size<=b)/\(∀x c,X.env.cells.lookup x=some c->c≠b)/\∀p∈X.pn++ad,p.1≠b
theorem Inv.fpOk{H H':Hp}{b:Addr}(I:Inv X ad Z H s)(j:s.heap.objs.size<=b)(G:H' b=none):fD X ad H' b:=by
 refine⟨G,kz (gt I.lt j),I.nofs j,.inr (bX I.sz j),λx c e z=>?_,λp J z=>?_⟩
 . obtain⟨v,q⟩:=I.cell x c e;exact absurd (gt q.lt (by rw[z];exact j)) (oI _)
 exact absurd (gt (bG (I.pin p J).1) (by rw[z];exact j)) (oI _)
structure oQ(P:Program)(w:World)(K:Fg)(tg:Expr)(J:It)(fp:List Addr)(it:Addr)(tn:Nat->Heap->Prop):Prop where
 mem:it∈fp
 obj:∀i h,tn i h->∀b∈fp,∃o,h.get? b=some o/\∀v,o.data≠.cell v
 keep:∀i h h',tn i h->(∀b∈fp,∀o,h.get? b=some o->h'.get? b=some o)->tn i h'
 item:∀(X:Cx),X.prog=P->X.w=w->X.K=K->X.calm=true->∀(i:Nat) (ad:Po) (s:Shared) (Z:St) (H:Hp) (E:VP),Inv X ad Z H s->(∀b∈fp,fD X ad H b)->tn i s.heap->J.go i H ->
  wpAny (model P w) X.A (pyNext (.ref it)) (λr s1=>∃u,r=some u /\
   wpAny (model P w) X.A (letOwnedTupleGo tg (.ref it) u) (λ_ s2=>∃x H',Inv X ad Z H' s2/\RelV x u/\J.yld i H x H'/\tn (i+1) s2.heap/\∀b∈fp,H' b=none) E s1) E s
 done:∀(X:Cx),X.prog=P->X.w=w->X.K=K->X.calm=true->∀(i:Nat) (ad:Po) (s:Shared) (Z:St) (H:Hp) (E:VP),Inv X ad Z H s->(∀b∈fp,fD X ad H b)->tn i s.heap->J.stop i H ->
  wpAny (model P w) X.A (pyNext (.ref it)) (λr s1=>r=none/\Inv X ad Z H s1) E s
 self:∀(A:Around) (i:Nat) (s:Shared) (Q:VP) (E:VP),tn i s.heap->Q (.ref it) s->wpAny (model P w) A (pyIter (.ref it)) Q E s
abbrev TI:=St->Hp->(It->Hp->Prop)->Prop
def Eb(X:Cx)(ad:Po)(Z:St)(tg:Expr)(R:It->Hp->Prop)(G:Value)(j:Shared):Prop:=
 ∃(it:Addr) (fp:List Addr) (z:Nat->Heap->Prop) (J:It) (H':Hp),G=.ref it/\Inv X ad Z H' j/\oQ X.prog X.w X.K tg J fp it z/\z 0 j.heap/\(∀b∈fp,fD X ad H' b)/\R J H'
def PI(X:Cx)(tg iter:Expr)(z:TI):Prop:=
 ∀(ad:Po) (s:Shared) (Z:St) (H:Hp) (R:It->Hp->Prop),Inv X ad Z H s->z Z H R ->
  wpAny (model X.prog X.w) X.A (eval iter X.env) (λv j=>wpAny (model X.prog X.w) X.A (pyIter v) (Eb X ad Z tg R) X.xe j) X.xe s
theorem Ay{it:Addr}{o:Obj}{n:String}{vs:Av}{Q:Unit->Shared->Prop}(J:s.heap.get? it=some o)(z:o.cls=.type n)(hd:o.data=.fields vs)
 (G:["enumerate","zip","dict_itemiterator","dict_reverseitemiterator","odict_iterator","itertools.zip_longest","itertools.pairwise"].contains n=false) (j:Q () s):wpAny M A (letOwnedTupleGo tg (.ref it) u) Q E s:=by
 unfold letOwnedTupleGo;cases tg<;>first
  | exact aq j
  | (cases u<;>first
   | exact aq j
   | (refine ae (wpAny_load J ?_)
      rw[z,hd];show wpAny M A (if (["enumerate","zip","dict_itemiterator","dict_reverseitemiterator","odict_iterator","itertools.zip_longest","itertools.pairwise"].contains n && vs[0]? == some (rawInt _))=true then _ else _) Q E s;rw[ag (by intro h;rw[G,Dr]at h;cases h)];exact aq j))
def mY(K:Fg)(a:Addr):It:=
 ⟨λi H=>∃xs x,aa K H a xs/\xs[i]?=some x,λi H x H'=>H'=H/\∀xs,aa K H a xs->xs[i]?=some x,λi H=>∃xs,aa K H a xs/\xs.length<=i⟩
def Ec(K:Fg)(a:Addr):It:=
 ⟨λi H=>∃xs x,ba K H a xs/\xs[i]?=some x,λi H x H'=>H'=H/\∀xs,ba K H a xs->xs[i]?=some x,λi H=>∃xs,ba K H a xs/\xs.length<=i⟩
def oR(lo:Int)(n:Nat):It:=⟨λi _=>i<n,λi H x H'=>H'=H/\x=.int (lo+i),λi _=>n<=i⟩
theorem XB(a it:Addr):oQ P w K tg (mY K a) [it] it (λi h=>h.IsListIter it a i) where
 mem:=by simp
 obj:=λi h st b j=>by
  have e:b=it:=by simpa using j
  subst e;obtain⟨o,e,c,d⟩:=st;exact⟨o,e,λv z=>by rw[d]at z;cases z⟩
 keep:=λi h h' st k=>st.at λo e=>k it (by simp) o e
 item:=by
  intro X hP hw hK hc i ad s Z H E I G st hg;subst hP hw hK;obtain⟨xs,x,J,hx⟩:=hg;obtain⟨b_,rv,p,hz⟩:=I.list J;obtain⟨u,hu,ru⟩:=rv.get hx;obtain⟨O,U,f2,Y,f4,f5⟩:=G it (by simp);refine wpAny_pyNext_list_item st p.isList (x:=u) (by simpa using hu) λh' fN sb=>?_;have I1:Inv X ad Z H { s with heap:=h' }:=I.turned (t':=s.toks) (λb o j e=>(sb.2 b j).trans e) O U Y f4 f5;obtain⟨o,e,c,d⟩:=id fN;exact⟨u,rfl,Ay (s:={ s with heap:=h' }) e c d (by decide) ⟨x,H,I1,ru,⟨rfl,λys hy=>by rw[I.list_inj hy J];exact hx⟩,fN,λb j=>(G b j).1⟩⟩
 done:=by
  intro X hP hw hK hc i ad s Z H E I G st hg;subst hP hw hK;obtain⟨xs,J,hx⟩:=hg;obtain⟨b_,rv,p,hz⟩:=I.list J;obtain⟨O,U,f2,Y,f4,f5⟩:=G it (by simp);have hl:=rv.length;exact wpAny_pyNext_list_end (I.ok.hd hc) st p.isList (by simp;omega) λh' eb=>⟨rfl,I.turned (t':=s.toks) (λb o j e=>eb b o j e) O U Y f4 f5⟩
 self:=λ_ _ _ _ _ st h=>wpAny_pyIter_listiter st h
theorem XC(a it:Addr):oQ P w K tg (Ec K a) [it] it (λi h=>h.IsTupleIter it a i) where
 mem:=by simp
 obj:=λi h st b j=>by
  have e:b=it:=by simpa using j
  subst e;obtain⟨o,e,c,d⟩:=st;exact⟨o,e,λv z=>by rw[d]at z;cases z⟩
 keep:=λi h h' st k=>st.at λo e=>k it (by simp) o e
 item:=by
  intro X hP hw hK hc i ad s Z H E I G st hg;subst hP hw hK;obtain⟨xs,x,J,hx⟩:=hg;obtain⟨b_,rv,p,hz⟩:=I.tuple J;obtain⟨u,hu,ru⟩:=rv.get hx;obtain⟨O,U,f2,Y,f4,f5⟩:=G it (by simp);refine wpAny_pyNext_tuple_item st (show s.heap.IsTuple a b_.toArray from p) (x:=u) (by simpa using hu) λh' fN sb=>?_;have I1:Inv X ad Z H { s with heap:=h' }:=I.turned (t':=s.toks) (λb o j e=>(sb.2 b j).trans e) O U Y f4 f5;obtain⟨o,e,c,d⟩:=id fN;exact⟨u,rfl,Ay (s:={ s with heap:=h' }) e c d (by decide) ⟨x,H,I1,ru,⟨rfl,λys hy=>by rw[I.tuple_inj hy J];exact hx⟩,fN,λb j=>(G b j).1⟩⟩
 done:=by
  intro X hP hw hK hc i ad s Z H E I G st hg;subst hP hw hK;obtain⟨xs,J,hx⟩:=hg;obtain⟨b_,rv,p,hz⟩:=I.tuple J;obtain⟨O,U,f2,Y,f4,f5⟩:=G it (by simp);have hl:=rv.length;exact wpAny_pyNext_tuple_end (I.ok.hd hc) st (show s.heap.IsTuple a b_.toArray from p) (by simp;omega) λh' eb=>⟨rfl,I.turned (t':=s.toks) (λb o j e=>eb b o j e) O U Y f4 f5⟩
 self:=λ_ _ _ _ _ st h=>wpAny_pyIter_tupleiter st h
theorem XD(it:Addr)(lo:Int)(n:Nat):oQ P w K tg (oR lo n) [it] it (λi h=>IsRangeIter h it (lo+(i:Nat) * 1) ((n:Int) - (i:Nat)) 1) where
 mem:=by simp
 obj:=λi h st b j=>by
  have e:b=it:=by simpa using j
  subst e;exact⟨_,st,λv z=>by
   have z':Data.fields _=Data.cell v:=z;cases z'⟩
 keep:=λi h h' st k=>k it (by simp) _ st
 item:=by
  intro X hP hw hK hc i ad s Z H E I G st hg;subst hP hw hK;obtain⟨J,O,f2,U,Y,f5⟩:=G it (by simp);have W:=Walks.range (prog:=X.prog) (w:=X.w) (I.ok.hd hc) it lo 1 n;refine W.item i s _ _ hg st λv h' tk hv fN kk=>?_;obtain⟨t,rfl⟩:=hv;have I1:Inv X ad Z H { s with heap:=h',toks:=tk }:=I.turned (λb o j e=>kk b o (by simpa using j) e) J O U Y f5;refine⟨_,rfl,Ay (s:={ s with heap:=h',toks:=tk }) (n:="range_iterator") fN rfl rfl (by decide) ⟨.int (lo+i),H,I1,⟨t,?_⟩,⟨rfl,rfl⟩,fN,λb j=>(G b j).1⟩⟩;rw[Int.mul_one]
 done:=by
  intro X hP hw hK hc i ad s Z H E I G st hg;subst hP hw hK;obtain⟨J,O,f2,U,Y,f5⟩:=G it (by simp);exact wpAny_pyNext_range_end (I.ok.hd hc) st (by have:n<=i:=hg;omega) λh' eb=>⟨rfl,I.turned (t':=s.toks) (λb o j e=>eb b o j e) J O U Y f5⟩
 self:=λ_ _ _ _ _ st h=>wpAny_pyIter_rangeiter st h
inductive KJ (K:Fg) (R:It->Hp->Prop) (H1:Hp):V->Prop where
 | mk {a:Addr} (_:(∃xs,aa K H1 a xs)) (_:R (mY K a) H1):KJ K R H1 (.ref a)
def XF(K:Fg)(tl:TE):TI:=λZ H R=>tl Z H λx H1=>KJ K R H1 x
inductive KL (K:Fg) (R:It->Hp->Prop) (H1:Hp):V->Prop where
 | mk {a:Addr} (_:(∃xs,ba K H1 a xs)) (_:R (Ec K a) H1):KL K R H1 (.ref a)
def XG(K:Fg)(tl:TE):TI:=λZ H R=>tl Z H λx H1=>KL K R H1 x
theorem cH{l:Expr}{tl:TE}(O:PE X l tl):PI X tg l (XF X.K tl):=by
 intro ad s Z H R I h;refine thn (O ad s Z H _ I h) λv z G=>aW G λx H1 j r1 Y=>?_;obtain @⟨a,⟨xs,U⟩,q⟩:=Y;cases r1;obtain⟨b_,rv,p,hz⟩:=j.list U;refine JH p.isList ?_;refine⟨z.heap.objs.size,[z.heap.objs.size],_,_,H1,rfl,j.kept (t':=z.toks) λb o e=>cb _ e,XB a _,⟨_,dG _ rfl,rfl,rfl⟩,λb J=>?_,q⟩;have e:b=z.heap.objs.size:=by simpa using J
 subst e;exact j.fpOk (aG _) (j.hok.fresh (aG _))
theorem XI{l:Expr}{tl:TE}(O:PE X l tl):PI X tg l (XG X.K tl):=by
 intro ad s Z H R I h;refine thn (O ad s Z H _ I h) λv j G=>aW G λx H1 z r1 Y=>?_;obtain @⟨a,⟨xs,U⟩,q⟩:=Y;cases r1;obtain⟨b_,rv,p,hz⟩:=z.tuple U;refine wpAny_pyIter_tuple (show j.heap.IsTuple a b_.toArray from p) ?_;refine⟨j.heap.objs.size,[j.heap.objs.size],_,_,H1,rfl,z.kept (t':=j.toks) λb o e=>cb _ e,XC a _,⟨_,dG _ rfl,rfl,rfl⟩,λb J=>?_,q⟩;have e:b=j.heap.objs.size:=by simpa using J
 subst e;exact z.fpOk (aG _) (z.hok.fresh (aG _))
theorem KN{H:Hp}{R:It->Hp->Prop}{lo hi:Int}{t u v:Tok}{tk:Nat}(I:Inv X ad Z H s)(h1:-(2 ^ 62)<=lo)(h2:lo<2 ^ 62)(z:-(2 ^ 62)<=hi)(G:hi<2 ^ 62)
 (q:R (oR lo (hi - lo).toNat) H):wpAny (model X.prog X.w) X.A (pyIter (.ref s.heap.objs.size)) (Eb X ad Z tg R) E { s with heap:=s.heap.push { cls:=.type "range",data:=.fields #[.int lo t,.int hi u,.int 1 v] },toks:=tk }:=by
 refine wpAny_pyIter_range (IsRange.new ..) (small_one h1 h2 z G) ?_;have j:Inv X ad Z H { s with heap:=s.heap.push { cls:=.type "range",data:=.fields #[.int lo t,.int hi u,.int 1 v] },toks:=tk }:=I.kept λb o e=>cb _ e;refine⟨(s.heap.push { cls:=.type "range",data:=.fields #[.int lo t,.int hi u,.int 1 v] }).objs.size,[(s.heap.push { cls:=.type "range",data:=.fields #[.int lo t,.int hi u,.int 1 v] }).objs.size],_,_,H,rfl,
  j.kept (t':=tk) λb o e=>cb _ e,XD _ lo (hi - lo).toNat,?_,λb J=>?_,q⟩
 . have e1:lo+((0:Nat):Int) * 1=lo:=by simp
   have e2:(((hi - lo).toNat:Nat):Int) - ((0:Nat):Int)=Builtin.Range.rangeSize lo hi 1:=by rw[rangeSize_one];split<;>omega
   show IsRangeIter _ _ (lo+((0:Nat):Int) * 1) ((((hi - lo).toNat:Nat):Int) - ((0:Nat):Int)) 1;rw[e1,e2];exact dG _ rfl
 have e:b=(s.heap.push { cls:=.type "range",data:=.fields #[.int lo t,.int hi u,.int 1 v] }).objs.size:=by simpa using J
 subst e;exact j.fpOk (aG _) (j.hok.fresh (aG _))
inductive KO (R:It->Hp->Prop) (H1:Hp):Lv->Prop where
 | mk {j:Int} (_:-(2 ^ 62)<=j) (_:j<2 ^ 62) (_:R (oR 0 j.toNat) H1):KO R H1 [.int j]
def XM(ta:TA):TI:=λZ H R=>ta Z H λvs H1=>KO R H1 vs
inductive KP (R:It->Hp->Prop) (H1:Hp):Lv->Prop where
 | mk {i:Int}{j:Int} (_:(-(2 ^ 62)<=i/\i<2 ^ 62/\-(2 ^ 62)<=j/\j<2 ^ 62)) (_:R (oR i (j - i).toNat) H1):KP R H1 [.int i,.int j]
def XN(ta:TA):TI:=λZ H R=>ta Z H λvs H1=>KP R H1 vs
theorem mZ{a:Expr}{ta:TA}{pos:Pos}(U:Gl X "range")(Y:X.mg "range"=none)(O:PA X [a] ta)(hs:starEach [a] X.env=[(false,eval a X.env)]:=by rfl):PI X tg (.Call (.Name "range" p) [a] [] pos) (XM ta):=by
 intro ad s Z H R I h;refine Call_ (tw I U Y boot_range (JI (thn (O pos ad s Z H _ I h) λus s1 J=>aW J λvs H1 G r1 z=>?_) hs rfl));obtain @⟨j,z,q2,q⟩:=z;cases r1 with
 | cons r rr=>
  cases rr;obtain⟨t,rfl⟩:=r;exact call_range_1 (KN G (by omega) (by omega) z q2 (by simpa using q))
theorem KQ{a b:Expr}{ta:TA}{pos:Pos}(hg:Gl X "range")(hm:X.mg "range"=none)(Y:PA X [a,b] ta)(hs:starEach [a,b] X.env=[(false,eval a X.env),(false,eval b X.env)]:=by rfl)(J:starEach [b] X.env=[(false,eval b X.env)]:=by rfl) :
 PI X tg (.Call (.Name "range" p) [a,b] [] pos) (XN ta):=by
 intro ad s Z H R I h;refine Call_ (tw I hg hm boot_range (JI (thn (Y pos ad s Z H _ I h) λus s1 U=>aW U λvs H1 O r1 z=>?_) (by rw[hs,J]) (by rw[J];rfl)));obtain @⟨i,j,⟨z,q2,q3,q4⟩,q⟩:=z;cases r1 with
 | cons r G=>
  cases G with
  | cons r' G=>
   cases G;obtain⟨t,rfl⟩:=r;obtain⟨t',rfl⟩:=r';exact call_range_2 (KN O z q2 q3 q4 q)
def XR(j:TI)(g:TG)(tb:TS):TS:=λD Z H=>j Z H λJ H1=>∃W:Nat->Nat->St->Hp->Prop,(∃m,W 0 m Z H1)/\∀i m Z H,W i m Z H ->
 (J.stop i H/\D.nx Z H)\/(J.go i H/\∃N:St->Hp->Prop,(∀σ' H',N σ' H'->∃m',m'<m/\W (i+1) m' σ' H')/\∀x H',J.yld i H x H'->g x Z H' λσ2 H2=>tb { D with nx:=N,ct:=N,bk:=D.nx } σ2 H2)
def tI(fp:List Addr)(h:Heap):Po:=fp.filterMap λb=>(h.get? b).map λo=>(b,o)
theorem qI{h:Heap}{b:Addr}{o:Obj}(j:b∈fp)(e:h.get? b=some o):(b,o)∈tI fp h:=JJ.mpr ⟨b,j,by rw[e];rfl⟩
theorem XS{h:Heap}{p:Addr×Obj}(G:p∈tI fp h):p.1∈fp/\h.get? p.1=some p.2:=by
 obtain⟨b,z,e⟩:=JJ.mp G;cases q:h.get? b with
 | none=>rw[q]at e;cases e
 | some o=>
  rw[q]at e;have j:(b,o)=p:=gU e;subst j;exact⟨z,q⟩
theorem Inv.pinned{H:Hp}(I:Inv X ad Z H s)(Y:∀b∈fp,fD X ad H b)(ho:∀b∈fp,∃o,s.heap.get? b=some o/\∀v,o.data≠.cell v):Inv X (ad++tI fp s.heap) Z H s:=
 I.pins_of λp hp=>(b9.mp hp).elim (λz=>I.pin p (fe _ z)) λz=>by
  obtain⟨G,e⟩:=XS z;obtain⟨J,O,U,_⟩:=Y p.1 G;obtain⟨o,j,d⟩:=ho p.1 G;rw[e]at j;cases j;exact⟨e,J,O,U,d⟩
theorem Inv.unpinned{pl:Po}{H:Hp}(I:Inv X (ad++pl) Z H s):Inv X ad Z H s:=I.pins_of λp j=>I.pin p (fe _ (wO _ j))
theorem eS{iter:Expr}{wi:TI}{pos:Pos}(O:PassesOwn (model X.prog X.w) X.A X.env X.xe)(hc:X.calm=true)(hi:PI X tg iter wi)(hg:PG X tg g)(z:bW X body tb)
 (hs:∀x,foldedSetIterable iter X.env x=pure x:=by intro _;rfl):PS X (.For tg iter body [] pos) (XR wi g tb):=by
 intro ad s Z H D I h;refine wpAny_For (thn (hi ad s Z H _ I h) λv s1 h1=>thn h1 λAx s2 h2=>?_) hs;obtain⟨it,fp,tn,J,H2,e,I2,T,f9,f2,W,⟨m0,w0⟩,a0⟩:=h2;subst e;have Y:∀{H':Hp},(∀b∈fp,H' b=none)->∀b∈fp,fD X ad H' b:=λhn b z=>⟨hn b z,(f2 b z).2⟩;refine codeAny_forLoop_any (λn s'=>∃i σ' H',Inv X ad σ' H' s'/\tn i s'.heap/\(∀b∈fp,H' b=none)/\W i n σ' H') ?_ m0 ⟨0,Z,H2,I2,f9,λb z=>(f2 b z).1,w0⟩;rintro n s3 ⟨i,σ3,H3,I3,tJ,KR,w3⟩
 rcases a0 i n σ3 H3 w3 with⟨stop,qn⟩ | ⟨go,N,hN,step⟩
 . refine wP O (thn (T.done X rfl rfl rfl hc i ad s3 σ3 H3 X.xe I3 (Y KR) tJ stop) λr s4 XT=>XT.elim λhr I4=>?_);subst hr;exact zT ⟨σ3,H3,I4,qn⟩
 refine wP O (thn (T.item X rfl rfl rfl hc i ad s3 σ3 H3 X.xe I3 (Y KR) tJ go) λr s4 XU=>XU.elim λu XV=>XV.elim λhr h4=>?_);subst hr;refine wP O (thn h4 λ_ s5 XW=>aW XW λx H5 I5 r5 XX=>XX.elim λy5 XY=>XY.elim λtK Ee=>?_);have XZ:=I5.pinned (Y Ee) (T.obj _ _ tK);refine wP O (thn (hg _ s5 σ3 H5 x u _ XZ r5 (step x H5 y5)) λ_ s6 X2=>X2.elim λσ6 X3=>X3.elim λH6 X4=>X4.elim λI6 q6=>?_);refine wP O (thn (z _ s6 σ6 H6 _ I6 q6) λf s7 G=>?_);have again:∀{σ7:St}{H7:Hp},Inv X (ad++tI fp s5.heap) σ7 H7 s7->N σ7 H7->∃m,m<n/\∃i σ' H',Inv X ad σ' H' s7/\tn i s7.heap/\(∀b∈fp,H' b=none)/\W i m σ' H':=λ{σ7 H7} j U=>by
  obtain⟨m',hm,w7⟩:=hN σ7 H7 U;refine⟨m',hm,i+1,σ7,H7,j.unpinned,T.keep _ _ _ tK λb z o e=>(j.pin (b,o) (fe _ (fe _ (qI z e)))).1,λb z=>?_,w7⟩;obtain⟨o,e,d⟩:=T.obj _ _ tK b z;exact(j.pin (b,o) (fe _ (fe _ (qI z e)))).2.1
 cases f with
 | next=>obtain⟨σ7,H7,j,U⟩:=G;exact again j U
 | cont=>obtain⟨σ7,H7,j,U⟩:=G;exact again j U
 | brk=>obtain⟨σ7,H7,j,G⟩:=G;exact⟨σ7,H7,j.unpinned,G⟩
 | ret v=>obtain⟨x7,σ7,H7,j,r7,G⟩:=G;exact⟨x7,σ7,H7,j.unpinned,r7,G⟩
theorem iK{xs:Lv}{H:Hp}(Pv:Nat->St->Hp->Prop)(h0:Pv 0 Z H)(z:∀i Z H,i<=xs.length->Pv i Z H->aa K H a xs)
 (hs:∀i x Z H,xs[i]?=some x->Pv i Z H->g x Z H λσ2 H2=>tb { D with nx:=Pv (i+1),ct:=Pv (i+1),bk:=D.nx } σ2 H2) (hd:∀Z H,Pv xs.length Z H->D.nx Z H) :
 ∃W:Nat->Nat->St->Hp->Prop,(∃m,W 0 m Z H)/\∀i m Z H,W i m Z H ->
  ((mY K a).stop i H/\D.nx Z H)\/((mY K a).go i H/\∃N:St->Hp->Prop,(∀σ' H',N σ' H'->∃m',m'<m/\W (i+1) m' σ' H')/\∀x H',(mY K a).yld i H x H'->g x Z H' λσ2 H2=>tb { D with nx:=N,ct:=N,bk:=D.nx } σ2 H2):=by
 refine⟨λi m Z H=>m=xs.length - i/\i<=xs.length/\Pv i Z H,⟨xs.length,by simp,dz _,h0⟩,?_⟩;rintro i m Z H ⟨rfl,hi,p⟩;have q:=z i Z H hi p
 by_cases j:i<xs.length
 . refine .inr ⟨⟨xs,xs[i],q,by simp[j]⟩,Pv (i+1),λσ' H' G=>⟨xs.length - (i+1),by omega,rfl,j,G⟩,λx H' y=>?_⟩;obtain⟨e,y⟩:=y;subst e;exact hs i x Z _ (y xs q) p
 have e:i=xs.length:=by omega
 subst e;exact .inl ⟨⟨xs,q,aG _⟩,hd Z H p⟩
theorem tL{lo:Int}{H:Hp}(Pv:Nat->St->Hp->Prop)(h0:Pv 0 Z H)
 (hs:∀i Z H,i<n->Pv i Z H->g (.int (lo+i)) Z H λσ2 H2=>tb { D with nx:=Pv (i+1),ct:=Pv (i+1),bk:=D.nx } σ2 H2) (hd:∀Z H,Pv n Z H->D.nx Z H) :
 ∃W:Nat->Nat->St->Hp->Prop,(∃m,W 0 m Z H)/\∀i m Z H,W i m Z H ->
  ((oR lo n).stop i H/\D.nx Z H)\/((oR lo n).go i H/\∃N:St->Hp->Prop,(∀σ' H',N σ' H'->∃m',m'<m/\W (i+1) m' σ' H')/\∀x H',(oR lo n).yld i H x H'->g x Z H' λσ2 H2=>tb { D with nx:=N,ct:=N,bk:=D.nx } σ2 H2):=by
 refine⟨λi m Z H=>m=n - i/\i<=n/\Pv i Z H,⟨n,by simp,dz _,h0⟩,?_⟩;rintro i m Z H ⟨rfl,hi,p⟩
 by_cases j:i<n
 . refine .inr ⟨j,Pv (i+1),λσ' H' z=>⟨n - (i+1),by omega,rfl,j,z⟩,λx H' y=>?_⟩;obtain⟨e,y⟩:=y;subst e y;exact hs i Z _ j p
 have e:i=n:=by omega
 subst e;exact .inl ⟨aG _,hd Z H p⟩
abbrev R2:=V->V->Hp->VK->Prop
variable {r:R2}
def cD(X:Cx)(f:Value->Value->Sem Value)(r:R2):Prop:=
 ∀(ad:Po) (s:Shared) (Z:St) (H:Hp) (x y:V) (v u:Value) (Q:VK),Inv X ad Z H s->RelV x v->RelV y u->r x y H Q ->
  wpAny (model X.prog X.w) X.A (f v u) (EP X ad Z Q) X.xe s
def Ef(X:Cx)(f:Value->Sem Value)(r:V->Hp->VK->Prop):Prop:=
 ∀(ad:Po) (s:Shared) (Z:St) (H:Hp) (x:V) (v:Value) (Q:VK),Inv X ad Z H s->RelV x v->r x H Q ->
  wpAny (model X.prog X.w) X.A (f v) (EP X ad Z Q) X.xe s
def ff(X:Cx)(f:Value)(r:Lv->Hp->VK->Prop):Prop:=
 ∀(ad:Po) (s:Shared) (Z:St) (H:Hp) (xs:Lv) (us:Lw) (Q:VK),Inv X ad Z H s->aY xs us->r xs H Q ->
  wpAny (model X.prog X.w) X.A (call f us) (EP X ad Z Q) X.xe s
def Az(r:R2)(ta tb:TE):TE:=λZ H Q=>ta Z H λx H1=>tb Z H1 λy H2=>r x y H2 Q
def X5(r:V->Hp->VK->Prop)(ta:TE):TE:=λZ H Q=>ta Z H λx H1=>r x H1 Q
inductive KS (C:Int->Int->Prop) (g:Int->Int->V) (H:Hp) (Q:VK):V->V->Prop where
 | mk {i:Int}{j:Int} (_:C i j) (_:Q (g i j) H):KS C g H Q (.int i) (.int j)
def rI(C:Int->Int->Prop)(g:Int->Int->V):R2:=λx y H Q=>KS C g H Q x y
inductive KU (g:Int->Int->V) (H:Hp) (Q:VK):V->V->Prop where
 | mk {i:Int}{j:Int} (_:Q (g i j) H):KU g H Q (.int i) (.int j)
def tM(g:Int->Int->V):R2:=λx y H Q=>KU g H Q x y
def rU(g:Int->V):V->Hp->VK->Prop:=λx H Q=>∃i,x=.int i/\Q (g i) H
section
variable {a b:Expr}{ta tb tc:TE}{pos:Pos}
theorem Eg(U:PE X a ta)(Y:PE X b tb){H:Hp}{R:V->V->Hp->Prop}(I:Inv X ad Z H s)
 (h:ta Z H λx H1=>tb Z H1 λy H2=>R x y H2) {Q:VP}{f:Value->Value->Sem Value}
 (hf:∀v u j x y H2,Inv X ad Z H2 j->RelV x v->RelV y u->R x y H2->wpAny (model X.prog X.w) X.A (f v u) Q X.xe j) :
 wpAny (model X.prog X.w) X.A (eval a X.env) (λv s₁=>wpAny (model X.prog X.w) X.A (eval b X.env) (λu s₂=>wpAny (model X.prog X.w) X.A (f v u) Q X.xe s₂) X.xe s₁) X.xe s:=by
 refine thn (U ad s Z H _ I h) λv s1 J=>aW J λx H1 z r1 q1=>?_;refine thn (Y ad s1 Z H1 _ z q1) λu j O=>aW O λy H2 G r2 q2=>?_;exact hf v u j x y H2 G r1 r2 q2
theorem aJ{op:Operator}(J:cD X (binaryOp op) r)(z:PE X a ta)(G:PE X b tb):PE X (.BinOp a op b pos) (Az r ta tb):=by
 intro ad s Z H Q I h;exact wpAny_BinOp (Eg z G I h λv u Y x y H2 j O U q=>J ad Y Z H2 x y v u Q j O U q)
theorem tN{op:UnaryOp}{r:V->Hp->VK->Prop}(J:Ef X (unaryOp op) r)(G:PE X a ta):PE X (.UnaryOp op a pos) (X5 r ta):=by
 intro ad s Z H Q I h;exact UnaryOp_ (thn (G ad s Z H _ I h) λv Y z=>aW z λx H1 j U O=>J ad Y Z H1 x v Q j U O)
theorem AA{f:Value->Value->Sem Value}{C:Int->Int->Prop}{g:Int->Int->Int}
 (rule:∀(i j:Int) (t u:Tok) (s:Shared) (Q:VP) (E:VP),C i j->Q (.int (g i j) s.toks) { s with toks:=s.toks+1 }->wpAny (model X.prog X.w) X.A (f (.int i t) (.int j u)) Q E s) :
 cD X f (rI C λi j=>.int (g i j)):=by
 intro ad s Z H x y v u Q I G J h;obtain @⟨i,j,z,q⟩:=h;obtain⟨t,rfl⟩:=G;obtain⟨t',rfl⟩:=J;exact rule i j t t' s _ _ z ⟨.int (g i j),H,I.tok _,⟨_,rfl⟩,q⟩
theorem KW{f:Value->Value->Sem Value}{g:Int->Int->Int}
 (rule:∀(i j:Int) (t u:Tok) (s:Shared) (Q:VP) (E:VP),Q (.int (g i j) s.toks) { s with toks:=s.toks+1 }->wpAny (model X.prog X.w) X.A (f (.int i t) (.int j u)) Q E s) :
 cD X f (tM λi j=>.int (g i j)):=by
 intro ad s Z H x y v u Q I z G h;obtain @⟨i,j,q⟩:=h;obtain⟨t,rfl⟩:=z;obtain⟨t',rfl⟩:=G;exact rule i j t t' s _ _ ⟨.int (g i j),H,I.tok _,⟨_,rfl⟩,q⟩
theorem Eh{f:Value->Value->Sem Value}{g:Int->Int->Bool}
 (rule:∀(i j:Int) (t u:Tok) (s:Shared) (Q:VP) (E:VP),Q (.bool (g i j)) s->wpAny (model X.prog X.w) X.A (f (.int i t) (.int j u)) Q E s) :
 cD X f (tM λi j=>.bl (g i j)):=by
 intro ad s Z H x y v u Q I z G h;obtain @⟨i,j,q⟩:=h;obtain⟨t,rfl⟩:=z;obtain⟨t',rfl⟩:=G;exact rule i j t t' s _ _ ⟨.bl (g i j),H,I,rfl,q⟩
def X9(i j:Int):Prop:=0<j/\j<1073741824
def Ya(i j:Int):Prop:=0<=j/\j<=1000000/\i.natAbs<2 ^ 64
def Ei(i j:Int):Prop:=(-(2 ^ 64)<i/\i<2 ^ 64)\/(-(2 ^ 64)<j/\j<2 ^ 64)
theorem Ei.ok{i j:Int}(h:Ei i j):IntMulOk i j:=by
 rcases h with⟨h1,h2⟩ | ⟨h1,h2⟩
 . exact .of_left (intBits_le_64 h1 h2)
 exact .of_right (intBits_le_64 h1 h2)
theorem fO:cD X (binaryOp .Add) (tM λi j=>.int (i+j)):=KW λ_ _ _ _ _ _ _ q=>add_int q
theorem AB:cD X (binaryOp .Sub) (tM λi j=>.int (i - j)):=KW λ_ _ _ _ _ _ _ q=>sub_int q
theorem vE:cD X (binaryOp .Mult) (rI Ei λi j=>.int (i * j)):=AA λ_ _ _ _ _ _ _ z q=>mul_int q z.ok
theorem jr:cD X (binaryOp .FloorDiv) (rI X9 λi j=>.int (i / j)):=AA λi j _ _ _ _ _ z q=>by
 have h1:(0:Int)<j:=z.1;have h2:j<1073741824:=z.2;exact floordiv_int (by omega) (by rw[Int.fdiv_eq_ediv_of_nonneg i (by omega)];exact q) (.inl (PyProof.noPylong_small (by omega)))
theorem cS:cD X (binaryOp .Mod) (rI (λ_ j=>0<j) λi j=>.int (i % j)):=AA λi j _ _ _ _ _ z q=>by
 have h1:(0:Int)<j:=z;exact mod_int' (by omega) (by rw[Int.fmod_eq_emod_of_nonneg i (by omega)];exact q)
theorem Ej:cD X (binaryOp .Pow) (rI Ya λi j=>.int (i ^ j.toNat)):=AA λ_ _ _ _ _ _ _ z q=>pow_int_small z.1 z.2.1 z.2.2 q
theorem Yb{f:Value->Sem Value}{g:Int->Int}
 (rule:∀(i:Int) (t:Tok) (s:Shared) (Q:VP) (E:VP),Q (.int (g i) s.toks) { s with toks:=s.toks+1 }->wpAny (model X.prog X.w) X.A (f (.int i t)) Q E s) :
 Ef X f (rU λi=>.int (g i)):=by
 intro ad s Z H x v Q I j h;obtain⟨i,rfl,q⟩:=h;obtain⟨t,rfl⟩:=j;exact rule i t s _ _ ⟨.int (g i),H,I.tok _,⟨_,rfl⟩,q⟩
theorem tO:Ef X (unaryOp .USub) (rU λi=>.int (-i)):=Yb λ_ _ _ _ _ q=>neg_int q
end
def KY:V->V->Bool
 | .non,.non=>true | .non,.int _=>true | .int _,.non=>true | .non,.bl _=>true | .bl _,.non=>true | .non,.str _=>true | .str _,.non=>true
 | .int _,.int _=>true | .bl _,.bl _=>true | .str _,.str _=>true | .byt _,.byt _=>true
 | .int _,.str _=>true | .str _,.int _=>true | .bl _,.str _=>true | .str _,.bl _=>true
 | _,_=>false
def Yc:R2:=λx y H Q=>KY x y=true/\Q (.bl (decide (x=y))) H
def Yd:R2:=λx y H Q=>KY x y=true/\Q (.bl (!decide (x=y))) H
theorem KZ{i j:Int}:decide (V.int i=V.int j)=(i == j):=by
 rw[wQ];simp
theorem K1{i j:Bool}:decide (V.bl i=V.bl j)=(i == j):=by
 rw[wQ];simp
theorem K2{i j:Str}:decide (V.str i=V.str j)=(i == j):=by
 rw[wQ];simp
theorem K3{i j:Array UInt8}:decide (V.byt i=V.byt j)=(i.toList == j.toList):=by
 rw[wQ];cases i;cases j;simp
section
variable {a b:Expr}{ta tb tc:TE}{pos:Pos}
theorem cZ{H:Hp}{Q:VK}{k k':Bool}(I:Inv X ad Z H s)(q:Q (.bl k) H)(e:k=k'):EP X ad Z Q (.bool k') s:=by
 subst e;exact⟨.bl k,H,I,rfl,q⟩
theorem cT:cD X (compareOp .Eq) Yc:=by
 intro ad s Z H x y v u Q I G z h;obtain⟨hs,q⟩:=h;cases x with
 | non=>
  cases G;cases y with
  | non=>cases z;exact PySem.EqNone.eq_none_none (cZ I q (by simp))
  | bl j=>cases z;exact PySem.EqNone.eq_none_bool (cZ I q (by simp))
  | int j=>obtain⟨t',rfl⟩:=z;exact PySem.EqNone.eq_none_int (cZ I q (by simp))
  | str j=>obtain⟨t',rfl⟩:=z;exact PySem.EqNone.eq_none_str (cZ I q (by simp))
  | _=>exact absurd (show false=true from hs) cV
 | bl i=>
  cases G;cases y with
  | non=>cases z;exact PySem.EqNone.eq_bool_none (cZ I q (by simp))
  | bl j=>cases z;exact eq_bool (cZ I q K1)
  | str j=>obtain⟨t',rfl⟩:=z;exact PySem.EqMixed.eq_bool_str (cZ I q (by simp))
  | _=>exact absurd (show false=true from hs) cV
 | int i=>
  obtain⟨t,rfl⟩:=G;cases y with
  | non=>cases z;exact PySem.EqNone.eq_int_none (cZ I q (by simp))
  | int j=>obtain⟨t',rfl⟩:=z;exact eq_int (cZ I q KZ)
  | str j=>obtain⟨t',rfl⟩:=z;exact PySem.EqMixed.eq_int_str (cZ I q (by simp))
  | _=>exact absurd (show false=true from hs) cV
 | str i=>
  obtain⟨t,rfl⟩:=G;cases y with
  | non=>cases z;exact PySem.EqNone.eq_str_none (cZ I q (by simp))
  | bl j=>cases z;exact PySem.EqMixed.eq_str_bool (cZ I q (by simp))
  | int j=>obtain⟨t',rfl⟩:=z;exact PySem.EqMixed.eq_str_int (cZ I q (by simp))
  | str j=>obtain⟨t',rfl⟩:=z;exact eq_str (cZ I q K2)
  | _=>exact absurd (show false=true from hs) cV
 | byt i=>
  obtain⟨t,rfl⟩:=G;cases y with
  | byt j=>obtain⟨t',rfl⟩:=z;exact W.eq_bytes (cZ I q K3)
  | _=>exact absurd (show false=true from hs) cV
 | _=>cases y<;>exact absurd (show false=true from hs) cV
theorem AC:cD X (compareOp .NotEq) Yd:=by
 intro ad s Z H x y v u Q I G z h;obtain⟨hs,q⟩:=h;cases x with
 | non=>
  cases G;cases y with
  | non=>cases z;exact PySem.EqNone.ne_none_none (cZ I q (by simp))
  | bl j=>cases z;exact PySem.EqNone.ne_none_bool (cZ I q (by simp))
  | int j=>obtain⟨t',rfl⟩:=z;exact PySem.EqNone.ne_none_int (cZ I q (by simp))
  | str j=>obtain⟨t',rfl⟩:=z;exact PySem.EqNone.ne_none_str (cZ I q (by simp))
  | _=>exact absurd (show false=true from hs) cV
 | bl i=>
  cases G;cases y with
  | non=>cases z;exact PySem.EqNone.ne_bool_none (cZ I q (by simp))
  | bl j=>cases z;exact ne_bool (cZ I q (fc not K1))
  | str j=>obtain⟨t',rfl⟩:=z;exact PySem.EqMixed.ne_bool_str (cZ I q (by simp))
  | _=>exact absurd (show false=true from hs) cV
 | int i=>
  obtain⟨t,rfl⟩:=G;cases y with
  | non=>cases z;exact PySem.EqNone.ne_int_none (cZ I q (by simp))
  | int j=>obtain⟨t',rfl⟩:=z;exact ne_int (cZ I q (fc not KZ))
  | str j=>obtain⟨t',rfl⟩:=z;exact PySem.EqMixed.ne_int_str (cZ I q (by simp))
  | _=>exact absurd (show false=true from hs) cV
 | str i=>
  obtain⟨t,rfl⟩:=G;cases y with
  | non=>cases z;exact PySem.EqNone.ne_str_none (cZ I q (by simp))
  | bl j=>cases z;exact PySem.EqMixed.ne_str_bool (cZ I q (by simp))
  | int j=>obtain⟨t',rfl⟩:=z;exact PySem.EqMixed.ne_str_int (cZ I q (by simp))
  | str j=>obtain⟨t',rfl⟩:=z;exact ne_str (cZ I q (fc not K2))
  | _=>exact absurd (show false=true from hs) cV
 | byt i=>
  obtain⟨t,rfl⟩:=G;cases y with
  | byt j=>obtain⟨t',rfl⟩:=z;exact W.ne_bytes (cZ I q (fc not K3))
  | _=>exact absurd (show false=true from hs) cV
 | _=>cases y<;>exact absurd (show false=true from hs) cV
theorem tP:cD X (compareOp .Lt) (tM λi j=>.bl (decide (i<j))):=Eh λ_ _ _ _ _ _ _ q=>lt_int q
theorem AD:cD X (compareOp .LtE) (tM λi j=>.bl (decide (i<=j))):=Eh λ_ _ _ _ _ _ _ q=>le_int q
theorem K4:cD X (compareOp .Gt) (tM λi j=>.bl (decide (j<i))):=Eh λ_ _ _ _ _ _ _ q=>gt_int q
theorem Ye:cD X (compareOp .Is) (λx y H Q=>y=.non/\Q (.bl (decide (x=.non))) H):=by
 intro ad s Z H x y v u Q I j z h;obtain⟨rfl,q⟩:=h;cases z;refine is_none_gen (cZ I q ?_);cases x<;>first
  | (cases j;rfl)
  | (obtain⟨t,rfl⟩:=j;rfl)
theorem K6:cD X (compareOp .IsNot) (λx y H Q=>y=.non/\Q (.bl (!decide (x=.non))) H):=by
 intro ad s Z H x y v u Q I j z h;obtain⟨rfl,q⟩:=h;cases z;refine isnot_none_gen (cZ I q ?_);cases x<;>first
  | (cases j;rfl)
  | (obtain⟨t,rfl⟩:=j;rfl)
theorem bh(b:Expr){op:CmpOp}(h:op≠.In:=by decide)(h2:op≠.NotIn:=by decide):behindInMarks op b=false:=by
 have e1:(op == CmpOp.In)=false:=by cases op<;>first | rfl | exact absurd rfl h
 have e2:(op == CmpOp.NotIn)=false:=by cases op<;>first | rfl | exact absurd rfl h2
 cases b<;>simp[behindInMarks,e1,e2]
theorem qJ{op:CmpOp}(O:cD X (compareOp op) r)(z:PE X a ta)(G:PE X b tb)(J:behindInMarks op b=false):PE X (.Compare a [op] [b] pos) (Az r ta tb):=by
 intro ad s Z H Q I h;exact wpAny_Compare1 (Eg z G I h λv u s2 x y H2 j U Y q=>O ad s2 Z H2 x y v u Q j U Y q) J
inductive K7 (Q:Bool->Hp->Prop) (H':Hp):V->Prop where
 | mk {k:Bool} (_:Q k H'):K7 Q H' (.bl k)
def Yf(t:TE):TT:=λZ H Q=>t Z H λx H'=>K7 Q H' x
theorem bq{op:CmpOp}(ho:cD X (compareOp op) r)(ha:PE X a ta)(hb:PE X b tb)(hm:behindInMarks op b=false):PT X (.Compare a [op] [b] pos) (Yf (Az r ta tb)):=by
 intro ad s Z H Q I h;refine aqT (thn (ha ad s Z H _ I h) λv s1 U=>aW U λx H1 G r1 q1=>thn (hb ad s1 Z H1 _ G q1) λu s2 Y=>aW Y λy H2 J r2 q2=>
  thn (ho ad s2 Z H2 x y v u _ J r1 r2 q2) λc s3 Yi=>aW Yi λz H3 O r3 j=>?_) hm
 obtain @⟨k,q3⟩:=j;cases r3;exact oH ⟨H3,O,q3⟩
inductive K8 (j:R2) (tc:TE) (Z:St) (Q:VK) (y:V) (H3:Hp):V->Prop where
 | mk {k:Bool} (_:(if k=true then tc Z H3 λG z=>j y G z Q else Q (.bl false) H3)):K8 j tc Z Q y H3 (.bl k)
def Yj(r j:R2)(ta tb tc:TE):TE:=λZ H Q=>ta Z H λx H1=>tb Z H1 λy H2=>r x y H2 λz H3=>K8 j tc Z Q y H3 z
theorem El{op j:CmpOp}{O:R2}(ho:cD X (compareOp op) r)(ii:cD X (compareOp j) O)(ha:PE X a ta)(hb:PE X b tb)(hc:PE X c tc)
 (hm:lastMarks [op,j] [b,c]=false:=by with_unfolding_all rfl):PE X (.Compare a [op,j] [b,c] pos) (Yj r O ta tb tc):=by
 intro ad s Z H Q I h;refine Compare_chain (thn (ha ad s Z H _ I h) λv s1 Yk=>aW Yk λx H1 I1 r1 q1=>chain_link (thn (hb ad s1 Z H1 _ I1 q1) λu s2 Yl=>aW Yl λy H2 I2 U q2=>
  thn (ho ad s2 Z H2 x y v u _ I2 r1 U q2) λd s3 Ym=>aW Ym λz H3 G r3 Y=>?_)) hm
 obtain @⟨k,J⟩:=Y;cases r3;refine oH ?_;cases k with
 | false=>exact ite_ff ⟨.bl false,H3,G,rfl,J⟩
 | true=>exact ite_tt (chain_last (thn (hc ad s3 Z H3 _ G J) λw' s4 Yn=>aW Yn λz' H4 I4 r4 q4=>ii ad s4 Z H4 y z' u w' Q I4 U r4 q4))
theorem xA:(sizeLine:Nat)<2 ^ 63:=by rw[wR];decide
theorem xB:cD X (binaryOp .Add) (λx y H Q=>∃i j,x=.str i/\y=.str j/\i.length+j.length<=sizeLine/\Q (.str (i++j)) H):=by
 intro ad s Z H x y v u Q I z G h;obtain⟨i,j,rfl,rfl,hz,q⟩:=h;obtain⟨t,rfl⟩:=z;obtain⟨t',rfl⟩:=G;exact add_str (λt' tk=>⟨.str (i++j),H,I.tok _,⟨_,rfl⟩,q⟩) hz
theorem vals1{x:V}(r:aY [x] us):∃u,us=[u]/\RelV x u:=by
 cases r with
 | cons j z=>cases z;exact⟨_,rfl,j⟩
theorem vals2{x y:V}(r:aY [x,y] us):∃u j,us=[u,j]/\RelV x u/\RelV y j:=by
 cases r with
 | cons z G=>
  cases G with
  | cons J O=>cases O;exact⟨_,_,rfl,z,J⟩
theorem Yo(G:X.calm=true):ff X (.builtin "min") (λxs H Q=>∃i j,xs=[.int i,.int j]/\Q (.int (if j<i then j else i)) H):=by
 intro ad s Z H xs us Q I r h;obtain⟨i,j,rfl,q⟩:=h;obtain⟨u,J,rfl,⟨t,rfl⟩,⟨t',rfl⟩⟩:=vals2 r;refine min_two_ints (I.ok.hd G) λh' tk k=>⟨_,H,I.kept k,?_,q⟩
 by_cases z:j<i
 . rw[aj z,aj z];exact⟨_,rfl⟩
 rw[ag z,ag z];exact⟨_,rfl⟩
theorem Yp:ff X (.type "str") (λxs H Q=>∃i,xs=[.int i]/\i.natAbs.log2<1920/\Q (.str (toString i)) H):=by
 intro ad s Z H xs us Q I r h;obtain⟨i,rfl,hz,q⟩:=h;obtain⟨u,rfl,t,rfl⟩:=vals1 r;exact PySem.P.str_of_int hz ⟨.str _,H,I.tok _,⟨_,rfl⟩,q⟩
end
structure tQ(h:Heap)(x dx C:Addr)(mA:Mv):Prop where
 obj:h.get? x=some (W.instObj C dx)
 ns:h.Ns1 dx mA
 ne:dx≠x
theorem Yq{h:Heap}(n:h.Ns1 dx mA):∃od,h.get? dx=some od/\∀name,W.lookIn name od=some (mA name):=by
 obtain⟨o,es,ep,O,hd,G,_,J⟩:=n;refine⟨o,O,λname=>?_⟩;have e:=J name;unfold nsFind findBy at e;rw[<-Array.find?_toList]at e;unfold W.lookIn;rw[hd];dsimp only;split
 . rename_i y q;rw[q]at e;exact fc some e
 rename_i q;rw[q]at e;have a:es.toList.any (·.refKey)=false:=by
  rw[List.any_eq_false];intro y U;obtain⟨z,t,Y⟩:=G y (Array.mem_toList_iff.mp U);simp[DictEntry.refKey,Y]
 have j:¬es.toList.any (·.refKey)=true:=by rw[a];exact cV
 rw[ag j];exact fc some e
theorem tQ.look{h:Heap}{x:Addr}(I:tQ h x dx C mA):∃od,W.InstAt h x (W.instObj C dx) C (some od)/\∀name,W.lookIn name od=some (mA name):=
 (Yq I.ns).elim λod j=>j.elim λG z=>⟨od,⟨I.obj,rfl,rfl,G⟩,z⟩
section
variable {prog:Program}{x:Addr}{name:Str}{v:Value}
theorem Ys{j:Bool}{Q:VP}(X:K.In s.heap)(I:tQ s.heap x dx C mA)(G:W.plainGet K C name=true)(O:W.hasDictIn K C=true)
 (z:W.findIn K (.ref C) name=some none) (Y:mA name=some v) (xC:W.handedIn v=true) (h:Q v { s with toks:=s.toks+1 }) :
 wpAny (model prog w) A (getAttr (.ref x) name j) Q E s:=by
 obtain⟨od,J,U⟩:=I.look;exact W.get_value X J (Vz G).1 (W.findObj_own O z rfl (by rw[U,Y])) xC h
theorem Yt{Q:Value×Lw->Shared->Prop}(X:K.In s.heap)(I:tQ s.heap x dx C mA)(j:W.plainGet K C name=true)
 (z:W.findIn K (.ref C) name=some (some (.ref f))) (O:W.isFn K (.ref f)=true) (U:mA name=none) (h:Q (.ref f,[.ref x]) s) :
 wpAny (model prog w) A (getMethod (.ref x) name pl) Q E s:=by
 obtain⟨od,J,G⟩:=I.look;exact W.method_fn X J (Vz j).1 (Vz j).2 z (jP.mp O) (by show(W.lookIn name od).map (·.isSome)=some false;rw[G,U];rfl) h
theorem Yu{ns:Ls}{Q:Unit->Shared->Prop}(X:K.In s.heap)(I:tQ s.heap x dx C mA)
 (hs:W.findIn K (.ref C) "__setattr__"=some (some (.builtin "object.__setattr__"))) (hp:W.plainOver K C=true) (ht:W.takerIn K C name=some none) (hh:W.hasDictIn K C=true)
 (hw:PySem.Within mA ns) (hsz:ns.length<=sizeLine)
 (h:∀h',tQ h' x dx C (λy=>if y=name then some v else mA y)->Heap.SameBut dx s.heap h'->Q () { s with heap:=h',toks:=s.toks+2 }) :
 wpAny (model prog w) A (setAttr (.ref x) name v) Q E s:=by
 obtain⟨od,J,hl⟩:=I.look;refine W.set_plain X J hs (W.osa_open (s:={ s with toks:=s.toks+1 }) (r:=none) X J hp ht λb=>?_);obtain⟨cd,Y,mS⟩:=W.any_some hh;have hx:s.heap.get? x=some ⟨.ref C,some dx,.plain,#[]⟩:=I.obj;refine ae (aq (ae (ae (wpAny_loadPart hx (ae (W.Looks.here (s:={ s with toks:=s.toks+1 }) (W.looks_clsIn X Y) ?_))))));rw[mS];refine aq (a:=some dx) (ae (aq (ae ?_)));refine wpAny_nsSet1 (s:={ s with toks:=s.toks+1 }) I.ns λh' z j=>?_;obtain⟨oD,a1,a0,G,O,U⟩:=z.count (PySem.Within.cons name v hw);refine ae (wpAny_lookBehind G (by rw[O];exact pastItsLine_dict (bX U (by rw[cr];omega))) ?_);exact aq (h _ ⟨(j.2 _ (gu I.ne)).trans I.obj,z,I.ne⟩ j)
theorem Yy{R:Result->Shared->Prop}(X:K.In s.heap)(z:W.makesIn K C=true)
 (hi:W.findIn K (.ref C) "__init__"=some (some (.ref f))) (j:W.typeIn K (.ref f)=some (.type "function"))
 (h:codeAny (model prog w) (A.under (.builtin "type.__call__" ⟨.ref C::vs,kw⟩)) (.call (.ref f) ⟨.ref (s.heap.objs.size+1)::vs,kw⟩) (W.InitBack (s.heap.objs.size+1) R)
  { s with heap:=(s.heap.push W.emptyDict).push (W.instObj C s.heap.objs.size) }) :
 codeAny (model prog w) A (.call (.ref C) ⟨vs,kw⟩) R s:=by
 obtain⟨G,g,d,t,os⟩:=s;exact W.make_core (W.makes_of X z) (W.looks_findIn X hi) (λself=>W.bind_fn X self j) (.inl rfl) h
end
def aw(f:Str)(v:V):List (Str×V)->List (Str×V)
 | []=>[(f,v)]
 | (g,x)::r=>if g=f then(g,v)::r else(g,x)::aw f v r
theorem cI(f g:Str)(v:V):∀fs:List (Str×V),(aw f v fs).lookup g=if g=f then some v else fs.lookup g
 | []=>by
  show List.lookup g [(f,v)]=_
  by_cases h:g=f
  . have j:(g == f)=true:=jP.mpr h;simp only[List.lookup,j,aj h]
  have j:(g == f)=false:=wM.mpr h;simp only[List.lookup,j,ag h]
 | (k,x)::r=>by
  have G:=cI f g v r;rw[show aw f v ((k,x)::r)=(if k=f then(k,v)::r else(k,x)::aw f v r) from rfl]
  by_cases z:k=f
  . rw[aj z]
    by_cases h:g=k
    . have j:(g == k)=true:=jP.mpr h;simp only[List.lookup,j,aj (h.trans z)]
    have j:(g == k)=false:=wM.mpr h;simp only[List.lookup,j,ag (λe:g=f=>h (e.trans z.symm))]
  rw[ag z]
  by_cases h:g=k
  . have j:(g == k)=true:=jP.mpr h;simp only[List.lookup,j,ag (λe:g=f=>z (h.symm.trans e))]
  have j:(g == k)=false:=wM.mpr h;simp only[List.lookup,j];exact G
theorem Eo(f:Str)(v:V):∀fs:List (Str×V),f∈(aw f v fs).map (·.1)/\∀g,g∈fs.map (·.1)->g∈(aw f v fs).map (·.1)
 | []=>⟨by simp[aw],λg h=>by simp at h⟩
 | (k,x)::r=>by
  obtain⟨z,G⟩:=Eo f v r;rw[show aw f v ((k,x)::r)=(if k=f then(k,v)::r else(k,x)::aw f v r) from rfl]
  by_cases j:k=f
  . rw[aj j];subst j;exact⟨by simp,λg h=>by simpa using h⟩
  rw[ag j];refine⟨?_,λg h=>?_⟩
  . rw[bS];exact bU _ z
  rw[bS]at h ⊢
  rcases be.mp h with e | e
  . exact be.mpr (.inl e)
  exact bU _ (G g e)
theorem Ep(f:Str)(v:V):∀fs:List (Str×V),(aw f v fs).length<=fs.length+1
 | []=>by simp[aw]
 | (k,x)::r=>by
  have z:=Ep f v r;rw[show aw f v ((k,x)::r)=(if k=f then(k,v)::r else(k,x)::aw f v r) from rfl]
  by_cases j:k=f
  . rw[aj j,cr,cr];omega
  rw[ag j,cr,cr];omega
theorem gJ.some_of{v:V}{o:Option Value}(r:gJ (some v) o):∃u,o=some u/\RelV v u:=by
 cases o with
 | none=>exact(show False from r).elim
 | some u=>exact⟨u,rfl,r⟩
theorem gJ.none_of{o:Option Value}(r:gJ none o):o=none:=by
 cases o with
 | none=>rfl
 | some u=>exact(show False from r).elim
theorem Yz{v:V}(r:RelV v u):W.handedIn u=true:=by
 cases v with
 | non=>cases (show u=Value.none from r);rfl
 | bl b=>cases (show u=Value.bool b from r);rfl
 | int i=>obtain⟨t,e⟩:=(show∃t,u=Value.int i t from r);cases e;rfl
 | str x=>obtain⟨t,e⟩:=(show∃t,u=Value.str x t from r);cases e;rfl
 | byt b=>obtain⟨t,e⟩:=(show∃t,u=Value.bytes b t from r);cases e;rfl
 | flt b=>obtain⟨t,e⟩:=(show∃t,u=Value.float b t from r);cases e;rfl
 | ref a=>cases (show u=Value.ref a from r);rfl
 | ty n=>cases (show u=Value.type n from r);rfl
section
variable {H H':Hp}{h:Heap}{fs bE:List (Str×V)}
theorem AE(hok:cf P w H h)(e:H a=some (.ins C dx fs)):∃mA,tQ h a dx C mA/\(∀f,gJ (fs.lookup f) (mA f))/\PySem.Within mA (fs.map (·.1))/\fs.length<=1000/\H dx=some (.own a):=by
 obtain⟨d,z,ne,ob,mA,n,r,q⟩:=(show bY P w H h a (.ins C dx fs) from hok a _ e);exact⟨mA,⟨ob,n,ne⟩,r,q,z,d⟩
end
structure i5(K:Fg)(C:Addr):Prop where
 pg:W.plainGet K C Str.empty=true
 hd:W.hasDictIn K C=true
 po:W.plainOver K C=true
 sa:W.findIn K (.ref C) "__setattr__"=some (some (.builtin "object.__setattr__"))
theorem i5.get(c:i5 K C)(f:Str):W.plainGet K C f=true:=c.pg
def fE(K:Fg)(C:Addr)(f:Str):Prop:=W.findIn K (.ref C) f=some none
theorem fE.taker{f:Str}(n:fE K C f):W.takerIn K C f=some none:=by
 unfold W.takerIn;rw[show W.findIn K (.ref C) f=some none from n];rfl
structure AF(K:Fg)(C:Addr)(m:Str)(f:Addr):Prop where
 at_:W.findIn K (.ref C) m=some (some (.ref f))
 fn:W.isFn K (.ref f)=true
 kp:W.keepIn K (.ref f)=true
section
variable {H:Hp}{fs:List (Str×V)} {f:Str}{v:V}
theorem YA{b:Bool}{Q:VP}(I:Inv X ad Z H s)(e:H a=some (.ins C dx fs))(c:i5 X.K C)(n:fE X.K C f)(l:fs.lookup f=some v)
 (h:∀u s',Inv X ad Z H s'->RelV v u->Q u s'):wpAny (model X.prog X.w) A (getAttr (.ref a) f b) Q E s:=by
 obtain⟨mA,O,r,_,_,_⟩:=AE I.hok e;obtain⟨u,z,j⟩:=gJ.some_of (v:=v) (o:=mA f) (by rw[<-l];exact r f);exact Ys I.kIn O (c.get f) c.hd n z (Yz j) (h u _ (I.tok _) j)
theorem K9{m:Str}{g:Addr}{Q:Value×Lw->Shared->Prop}(I:Inv X ad Z H s)(e:H a=some (.ins C dx fs))(c:i5 X.K C)(k:AF X.K C m g)(l:fs.lookup m=none)
 (h:Q (.ref g,[.ref a]) s):wpAny (model X.prog X.w) A (getMethod (.ref a) m pl) Q E s:=by
 obtain⟨mA,O,r,_,_,_⟩:=AE I.hok e;have j:mA m=none:=gJ.none_of (by rw[<-l];exact r m);exact Yt I.kIn O (c.get m) k.at_ k.fn j h
theorem YB{y:V}{Q:Unit->Shared->Prop}(I:Inv X ad Z H s)(e:H a=some (.ins C dx fs))(c:i5 X.K C)(n:fE X.K C f)(hl:fs.length<1000)(ry:RelV y u)
 (h:∀s',Inv X ad Z (af H a (.ins C dx (aw f y fs))) s'->Q () s'):wpAny (model X.prog X.w) A (setAttr (.ref a) f u) Q E s:=by
 obtain⟨mA,O,r,J,_,G⟩:=AE I.hok e;have hz:(fs.map (·.1)).length<=sizeLine:=by rw[al,wR];omega
 refine Yu I.kIn O c.sa c.po n.taker c.hd J hz λh' j sb=>h _ ?_;have hd:∃o,h'.get? dx=some o:=j.ns.elim λo U=>U.elim λ_ Y=>Y.elim λ_ YE=>YE.elim λe' _=>⟨o,e'⟩;refine I.write (x:=a) (e:=dx) (by rw[e];exact True.intro) (.inr G) (λb q hb z=>(sb.2 b hb).trans z) hd ?_;refine⟨by rw[aX O.ne];exact G,?_,O.ne,j.obj,_,j.ns,λg=>?_,λg hg=>?_⟩
 . have:=Ep f y fs;omega
 . show gJ ((aw f y fs).lookup g) (if g=f then some u else mA g);rw[cI]
   by_cases q:g=f
   . rw[aj q,aj q];exact ry
   rw[ag q,ag q];exact r g
 by_cases q:g=f
 . rw[q];exact(Eo f y fs).1
 refine(Eo f y fs).2 g (J g λz=>hg ?_);show(if g=f then some u else mA g)=none;rw[ag q];exact z
theorem Inv.made(I:Inv X ad Z H s):Inv X ad Z (af (af H s.heap.objs.size (.own (s.heap.objs.size+1))) (s.heap.objs.size+1) (.ins C s.heap.objs.size []))
 { s with heap:=(s.heap.push W.emptyDict).push (W.instObj C s.heap.objs.size) }:=by
 have e1:(s.heap.push W.emptyDict).get? s.heap.objs.size=some W.emptyDict:=dG s.heap rfl;have e2:((s.heap.push W.emptyDict).push (W.instObj C s.heap.objs.size)).get? (s.heap.objs.size+1)=some (W.instObj C s.heap.objs.size):=by
  have:=dG (s.heap.push W.emptyDict) (o:=W.instObj C s.heap.objs.size) rfl
  rwa [sf]at this
 have e3:(s.heap.push W.emptyDict).Ns s.heap.objs.size (λ_=>none):=⟨W.emptyDict,#[],_,e1,rfl,(λe z=>absurd z (by simp)),λ_=>rfl⟩;have j:=I.laid (a:=s.heap.objs.size) (o:=.own (s.heap.objs.size+1)) (h':=s.heap.push W.emptyDict) (t':=s.toks) (λb u q=>cb _ q) (aG _) ⟨_,e1⟩;refine j.laid (a:=s.heap.objs.size+1) (o:=.ins C s.heap.objs.size []) (t':=s.toks) (λb u q=>cb _ q) (vp (sf _ _)) ?_;have ne:s.heap.objs.size≠s.heap.objs.size+1:=cR (wS _);refine⟨by rw[aX ne,aD],dz _,ne,e2,λ_=>none,(Heap.Ns1.of_empty e3).at λo q=>cb _ q,λ_=>True.intro,λy G=>absurd rfl G⟩
theorem YF{prog:Program}{env:Env}{f:Str}{pos:Pos}{Q:VP}(j:attributeBase e f env (eval e env)=eval e env)
 (h:wpAny (model prog w) A (eval e env) (λo z=>wpAny (model prog w) A (getAttr o f true) Q E z) E s):wpAny (model prog w) A (eval (.Attribute e f pos) env) Q E s:=
 Attribute_any_ h (by rw[arm_eval_Attribute,j])
end
inductive La (K:Fg) (f:Str) (Q:VK) (H1:Hp):V->Prop where
 | mk {a:Addr}{C:Addr}{dx:Addr}{fs:List (Str×V)}{v:V} (_:H1 a=some (.ins C dx fs)) (_:i5 K C) (_:fE K C f) (_:fs.lookup f=some v) (_:Q v H1):La K f Q H1 (.ref a)
def Lc(K:Fg)(ta:TE)(f:Str):TE:=λZ H Q=>ta Z H λx H1=>La K f Q H1 x
inductive Ld (K:Fg) (f:Str) (D:Ends) (Z:St) (y:V) (H2:Hp):V->Prop where
 | mk {a:Addr}{C:Addr}{dx:Addr}{fs:List (Str×V)} (_:H2 a=some (.ins C dx fs)) (_:i5 K C) (_:fE K C f) (_:fs.length<1000) (_:D.nx Z (af H2 a (.ins C dx (aw f y fs)))):Ld K f D Z y H2 (.ref a)
def YG(K:Fg)(ta tv:TE)(f:Str):TS:=λD Z H=>tv Z H λy H1=>ta Z H1 λx H2=>Ld K f D Z y H2 x
section
variable {o value:Expr}{f:Str}{pos pos' vF:Pos}{ta tv:TE}
theorem bJ(Y:PE X e ta)(U:attributeBase e f X.env (eval e X.env)=eval e X.env):PE X (.Attribute e f pos) (Lc X.K ta f):=by
 intro ad s Z H Q I h;refine YF U (thn (Y ad s Z H _ I h) λu s1 G=>aW G λx H1 j rx J=>?_);obtain @⟨a,C,dx,fs,v,O,c,n,l,q⟩:=J;obtain rfl:u=Value.ref a:=rx;exact YA j O c n l λu' s2 z ru=>⟨v,H1,z,ru,q⟩
theorem gZ(ha:PE X o ta)(hv:PE X value tv)(hs:swapsWith value (some (.Attribute o f pos')) pos.line X.env=pure false):PS X (.Assign [.Attribute o f pos'] value pos) (YG X.K ta tv f):=by
 intro ad s Z H D I h;refine plainObj_wpAny_Assign_Attribute (thn (hv ad s Z H _ I h) λu s1 J=>aW J λy H1 j ry q=>thn (ha ad s1 Z H1 _ j q) λov s2 O=>aW O λx H2 z rx U=>?_) hs;obtain @⟨a,C,dx,fs,Y,c,n,l,q2⟩:=U;obtain rfl:ov=Value.ref a:=rx;exact YB z Y c n l ry λs3 G=>⟨Z,_,G,q2⟩
end
section
variable {H:Hp}{Q:VP}{c:Value}{b:Bool}
inductive jW (K:Fg) (H:Hp):V->Value->Prop where
 | non:jW K H .non (.type "NoneType")
 | bl (x:Bool):jW K H (.bl x) (.type "bool")
 | int (i:Int):jW K H (.int i) (.type "int")
 | str (x:Str):jW K H (.str x) (.type "str")
 | flt (x:UInt64):jW K H (.flt x) (.type "float")
 | lst {a:Addr}{xs:Lv} (e:H a=some (.lst xs)):jW K H (.ref a) (.type "list")
 | frz {a:Addr}{o:Obj}{xs:Lv} (e:H a=some (.frz o (.lst xs))):jW K H (.ref a) (.type "list")
 | tup {a:Addr}{xs:Lv} (e:H a=some (.tup xs)):jW K H (.ref a) (.type "tuple")
 | dK {a:Addr}{kvs:List (ao×V)} (e:H a=some (.dK kvs)):jW K H (.ref a) (.type "dict")
 | dT {a:Addr}{kvs:List (List NI×V)} (e:H a=some (.dT kvs)):jW K H (.ref a) (.type "dict")
 | ins {a C dx:Addr}{fs:List (Str×V)} (e:H a=some (.ins C dx fs)) (z:i5 K C) (G:W.findIn K (.ref C) "__class__"=some (some (.builtin "object.__class__")))
  (O:W.specialIn K (.builtin "object.__class__") "__get__"=some (some (.builtin "getset_descriptor.__get__"))) (j:W.takesIn K (.builtin "object.__class__")=some true)
  (J:W.mroIn K C (.type "object")=some true):jW K H (.ref a) (.ref C)
theorem YM{x:V}{t:Value}(I:Inv X ad Z H s)(G:RelV x u)(ty:jW X.K H x t)(e:W.kitOne X.K t c=some b)(h:∀tk,Q (.bool b) { s with toks:=tk }) :
 wpAny (model X.prog X.w) A (call (.builtin "isinstance") [u,c]) Q E s:=by
 cases ty with
 | non=>cases (show u=Value.none from G);exact oJ W.kitx_none I.kIn True.intro e (λz=>nomatch z) h
 | bl y=>cases (show u=Value.bool y from G);exact oJ W.kitx_bool I.kIn True.intro e (λz=>nomatch z) h
 | int i=>obtain⟨t,q⟩:=(show∃t,u=Value.int i t from G);cases q;exact oJ W.kitx_int I.kIn True.intro e (λz=>nomatch z) h
 | str y=>obtain⟨t,q⟩:=(show∃t,u=Value.str y t from G);cases q;exact oJ W.kitx_str I.kIn True.intro e (λz=>nomatch z) h
 | flt y=>obtain⟨t,q⟩:=(show∃t,u=Value.float y t from G);cases q;exact oJ W.kitx_float I.kIn True.intro e (λz=>nomatch z) h
 | @lst a xs j=>
  cases (show u=Value.ref a from G);obtain⟨_,_,n,_,h1⟩:=(show bY X.prog X.w H s.heap a (.lst xs) from I.hok a _ j);exact oJ W.kitx_list I.kIn ⟨_,h1,rfl⟩ e (λz=>nomatch z) h
 | @frz a ob xs j=>
  cases (show u=Value.ref a from G);obtain⟨_,_,_,n,_,h1⟩:=(show bY X.prog X.w H s.heap a (.frz ob (.lst xs)) from I.hok a _ j);exact oJ W.kitx_list I.kIn ⟨_,h1,rfl⟩ e (λz=>nomatch z) h
 | @tup a xs j=>
  cases (show u=Value.ref a from G);obtain⟨_,_,_,p⟩:=(show bY X.prog X.w H s.heap a (.tup xs) from I.hok a _ j);obtain⟨o,h1,h2,_⟩:=p;exact oJ W.kitx_tuple I.kIn ⟨o,h1,h2⟩ e (λz=>nomatch z) h
 | @dK a kvs j=>
  cases (show u=Value.ref a from G);obtain⟨_,_,vs,_,p⟩:=(show bY X.prog X.w H s.heap a (.dK kvs) from I.hok a _ j);obtain⟨o,es,ep,h1,h2,_⟩:=p;exact oJ W.kitx_dict I.kIn ⟨o,h1,h2.1⟩ e (λz=>nomatch z) h
 | @dT a kvs j=>
  cases (show u=Value.ref a from G);obtain⟨_,_,xs,_,o,es,ep,h1,h2,_⟩:=(show bY X.prog X.w H s.heap a (.dT kvs) from I.hok a _ j);exact oJ W.kitx_dict I.kIn ⟨o,h1,h2.1⟩ e (λz=>nomatch z) h
 | @ins a C dx fs j U ha hn Y hm=>
  cases (show u=Value.ref a from G);obtain⟨mA,O,_⟩:=AE I.hok j;obtain⟨od,J,_⟩:=O.look;exact oJ (W.kitx_own (U.get _) U.hd ha hn Y hm) I.kIn J e (λz=>nomatch z) h
end
structure ci(k:Nat)(A:Around):Prop where
 hd:A.handled=none
 dp:A.depth+3 * k+5<recursionLimit
 un:A.units+16 * k+200<cLine
 gd:A.guards=some []
theorem ci.mono{j k:Nat}(r:ci k A)(h:j<=k):ci j A:=⟨r.hd,by have:=r.dp;omega,by have:=r.un;omega,r.gd⟩
theorem ci.deeper{k:Nat}(r:ci (k+1) A)(env:Env):ci k (A.deeper env):=
 ⟨r.hd,by have:=r.dp;show A.depth+1+3 * k+5<_;omega,by have:=r.un;show A.units+3+16 * k+200<_;omega,r.gd⟩
theorem ci.in1{k:Nat}(r:ci (k+1) A):ci k A.in1:=
 ⟨r.hd,by have:=r.dp;show A.depth+3 * k+5<_;omega,by have:=r.un;show A.units+1+16 * k+200<_;omega,r.gd⟩
theorem YN:(A.under (.builtin "type.__call__" ⟨.ref C::us,kw⟩)).depth=A.depth+1:=by
 first | rfl | simp[Around.under,Code.weight,Code.isCreation,Code.isGuard,Code.isCaller,Code.frames,Code.isFrame,guardIds]
theorem YO:(A.under (.builtin "type.__call__" ⟨.ref C::us,kw⟩)).units=A.units+1:=by
 first | rfl | simp[Around.under,Code.cUnits,Code.frames,Code.isFrame]
theorem YQ:(A.under (.builtin "type.__call__" ⟨.ref C::us,kw⟩)).guards=A.guards:=by
 first | rfl | simp[Around.under,pushGuards,Code.guards,Code.isGuard,guardIds]
theorem ci.make{k:Nat}(r:ci (k+1) A)(C:Addr)(us:Lw)(kw:List (Str×Value)):ci k (A.under (.builtin "type.__call__" ⟨.ref C::us,kw⟩)):=
 ⟨r.hd,by have:=r.dp;rw[YN];omega,by have:=r.un;rw[YO];omega,YQ.trans r.gd⟩
theorem ci.depth{k:Nat}(r:ci k A):A.depth<recursionLimit:=by have:=r.dp;omega
theorem ci.units{k:Nat}(r:ci k A):A.units+64<cLine:=by have:=r.un;omega
def fg:TA:=λ_ H Q=>Q [] H
def fP(ta:TE)(tr:TA):TA:=λZ H Q=>ta Z H λx H1=>tr Z H1 λxs H2=>Q (x::xs) H2
section
variable {te:TE}{t:TA}{pos:Pos}
theorem d8:PA X [] fg:=λ_ _ _ _ H Q I h=>JK ⟨[],H,I,.nil,h⟩
theorem gK(O:PE X e te)(U:PA X es t)(hs:starEach (e::es) X.env=(false,eval e X.env)::starEach es X.env:=by rfl):PA X (e::es) (fP te t):=by
 intro pos ad s Z H Q I h;rw[hs];show wpAny _ _ (spliced ((false,eval e X.env)::backTo pos (starEach es X.env))) _ _ s;refine Dt (thn (O ad s Z H _ I h) λu s1 G=>aW G λx H1 j r1 Y=>?_);exact thn (U pos ad s1 Z H1 _ j Y) λus s2 J=>aW J λxs H2 z r2 q2=>⟨x::xs,H2,z,.cons r1 r2,q2⟩
def Es(t:TA):TE:=λZ H Q=>t Z H λxs H1=>xs.length<=sizeLine/\∀p,H1 p=none->Q (.ref p) (af H1 p (.tup xs))
def YT(t:TA):TE:=λZ H Q=>t Z H λxs H1=>xs.length<=sizeLine/\∀p,H1 p=none->Q (.ref p) (af H1 p (.lst xs))
theorem Lf{x1}(h:PA X es t):PE X (.Tuple es x1 pos) (Es t):=by
 intro ad s Z H Q I Y;refine wpAny_Tuple_spliced (thn (h pos ad s Z H _ I Y) λus j J=>aW J λxs H1 G r O=>O.elim λz q=>⟨by rw[<-r.length];exact z,?_⟩);have U:H1 j.heap.objs.size=none:=G.hok.fresh (aG _);refine⟨.ref j.heap.objs.size,af H1 j.heap.objs.size (.tup xs),G.laid (t':=j.toks) (λb u e=>cb _ e) (aG _) ?_,rfl,q _ U⟩;exact⟨z,us,r,⟨_,dG _ rfl,rfl,_,rfl⟩⟩
theorem YW(h:PA X es t):PE X (.List es pos) (YT t):=by
 intro ad s Z H Q I Y;refine wpAny_List_spliced (thn (h pos ad s Z H _ I Y) λus j J=>aW J λxs H1 G r O=>O.elim λz q=>⟨by rw[<-r.length];exact z,?_⟩);have U:H1 j.heap.objs.size=none:=G.hok.fresh (aG _);refine⟨.ref j.heap.objs.size,af H1 j.heap.objs.size (.lst xs),G.laid (t':=j.toks) (λb u e=>cb _ e) (aG _) ?_,rfl,q _ U⟩;exact⟨z,us,0,r,dG _ rfl⟩
end
abbrev Sp:=Lv->Hp->VK->XK->Prop
variable {sp:Sp}
abbrev g0:=List Env->Hp->Shared->XK->Value->Shared->Prop
variable {CX:g0}
structure lU(P:Program)(w:World)(K:Fg)(mg:Mv)(base:Heap)(A:Around)(outer:List Env)(s:Shared)(H:Hp):Prop where
 frames:A.frames=some outer
 mod:Mod K mg base
 bs:∀b o,base.get? b=some o->s.heap.get? b=some o/\H b=none
 bsz:base.objs.size<=s.heap.objs.size
 funs:s.heap.FunFrames base outer
 frf:∀b∈cg outer,H b=none
 hok:cf P w H s.heap
 bare:AllBare s.gens
def CE(outer:List Env)(P:Program)(w:World)(H:Hp)(s:Shared)(Q:VK)(u:Value)(s':Shared):Prop:=
 ∃v H',s'.os=s.os/\AllBare s'.gens/\Un (cg outer) [] H H' s.heap s'.heap/\cf P w H' s'.heap/\RelV v u/\Q v H'
def CR(CX:g0)(outer:List Env)(P:Program)(w:World)(H:Hp)(s:Shared)(Q:VK)(E:XK)(r:Result)(s':Shared):Prop:=
 match r with
 | .ok (.ret u)=>CE outer P w H s Q u s'
 | .ok _=>False
 | .error e=>CX outer H s E e s'
structure au(P:Program)(w:World)(K:Fg)(mg:Mv)(base:Heap)(CX:g0)(k:Nat)(f:Addr)(fd:Fy)(ps:Ls)(sp:Sp):Prop where
 len:∀vs H Q E,sp vs H Q E->vs.length=ps.length
 run:∀(A:Around) (outer:List Env) (s:Shared) (H:Hp) (args:Args) (us:Lw) (vs:Lv) (Q:VK) (E:XK),ci k A->lU P w K mg base A outer s H->BindsTo s fd args (ps.zip us)->aY vs us->sp vs H Q E ->
  codeAny (model P w) A (.call (.ref f) args) (CR CX outer P w H s Q E) s
theorem au.mono{j k:Nat}(F:au P w K mg base CX j f fd ps sp)(h:j<=k) :
 au P w K mg base CX k f fd ps sp:=⟨F.len,λA outer s H args us vs Q E z=>F.run A outer s H args us vs Q E (z.mono h)⟩
theorem au.imp{k:Nat}{j:Sp}(F:au P w K mg base CX k f fd ps sp)
 (h:∀vs H Q E,j vs H Q E->sp vs H Q E):au P w K mg base CX k f fd ps j:=
 ⟨λvs H Q E q=>F.len vs H Q E (h _ _ _ _ q),λA outer s H args us vs Q E J G z O hs=>F.run A outer s H args us vs Q E J G z O (h _ _ _ _ hs)⟩
theorem lU.make{outer:List Env}{H:Hp}(e:lU P w K mg base A outer s H)(C:Addr)(us:Lw)(kw:List (Str×Value)) :
 lU P w K mg base (A.under (.builtin "type.__call__" ⟨.ref C::us,kw⟩)) outer s H:=⟨by first | exact e.frames | (simpa [Around.under,Code.envs,Code.isFrame,pushEnvs]using e.frames),e.mod,e.bs,e.bsz,e.funs,e.frf,e.hok,e.bare⟩
theorem lU.in1{outer:List Env}{H:Hp}(e:lU P w K mg base A outer s H) :
 lU P w K mg base A.in1 outer s H:=⟨e.frames,e.mod,e.bs,e.bsz,e.funs,e.frf,e.hok,e.bare⟩
section
variable {H:Hp}
theorem Inv.env0(I:Inv X ad Z H s):lU X.prog X.w X.K X.mg X.base X.A X.stack s H:=
 ⟨I.ok.frames,I.ok.mod,I.bs,bX I.ok.bsz I.sz,I.stack,I.stkFree,I.hok,I.bare⟩
theorem Inv.after{Q:VK}(I:Inv X ad Z H s)(h:CE X.stack X.prog X.w H s Q u s'):EP X ad Z Q u s':=by
 obtain⟨v,H',os,G,un,hok,r,q⟩:=h;obtain⟨J,g,d,t,j⟩:=s';obtain rfl:j=s.os:=os;exact⟨v,H',I.call (h':=J) (g':=g) (d':=d) (t':=t) (ch:=[]) un hok G (λb z=>absurd z (by simp)),r,q⟩
end
def AH(sp:Sp)(c5:Lv)(E:XK)(t:TA):TE:=λZ H Q=>t Z H λvs H1=>sp (vs++c5) H1 Q E
inductive Lh (C:Addr) (m:Str) (sp:Sp) (c5:Lv) (E:XK) (t:TA) (Z:St) (Q:VK) (H1:Hp):V->Prop where
 | mk {a:Addr}{dx:Addr}{fs:List (Str×V)} (_:H1 a=some (.ins C dx fs)) (_:fs.lookup m=none) (_:t Z H1 λvs H2=>sp ((.ref a)::(vs++c5)) H2 Q E):Lh C m sp c5 E t Z Q H1 (.ref a)
def Li(C:Addr)(m:Str)(sp:Sp)(c5:Lv)(E:XK)(ta:TE)(t:TA):TE:=λZ H Q=>ta Z H λx H1=>Lh C m sp c5 E t Z Q H1 x
def Lj(C:Addr)(sp:Sp)(c5:Lv)(E:XK)(t:TA):TE:=λZ H Q=>t Z H λvs H1=>∀x dx,H1 x=none->H1 dx=none->dx≠x ->
 sp (.ref x::(vs++c5)) (af (af H1 dx (.own x)) x (.ins C dx [])) (λv H2=>v=.non/\Q (.ref x) H2) E
def Binds(K:Fg)(fd:Fy)(ps:Ls)(ds:Lw):Prop:=
 ∀(s:Shared) (us:Lw),K.In s.heap->(us++ds).length=ps.length->BindsTo s fd ⟨us,[]⟩ (ps.zip (us++ds))
theorem Binds.all(h:∀us:Lw,us.length=ps.length->bindArgs fd ⟨us,[]⟩=pure (ps.zip us)):Binds K fd ps []:=λs us _ j=>by
 rw[lH]at j ⊢;exact .of_eq (h us j)
def lV(CX:g0)(X:Cx)(E:XK):Prop:=∀(ad:Po) (Z:St) (H:Hp) (s:Shared) (e:Value) (s':Shared),Inv X ad Z H s->CX X.stack H s E e s'->X.xe e s'
section
variable {k:Nat}{c5:Lv}{ds:Lw}{E:XK}{x m:Str}{pos apos:Pos}{o:Expr}{ta:TE}{t:TA}
theorem Et{H:Hp}{Q:VK}{vs:Lv}(F:au X.prog X.w X.K X.mg X.base CX k f fd ps sp)(O:ci k X.A)(G:Binds X.K fd ps ds)(hd:aY c5 ds)(U:lV CX X E)
 (I:Inv X ad Z H s) (r:aY vs us) (h:sp (vs++c5) H Q E):wpAny (model X.prog X.w) X.A (call (.ref f) us) (EP X ad Z Q) X.xe s:=by
 have z:aY (vs++c5) (us++ds):=r.append hd;have J:(us++ds).length=ps.length:=by rw[<-z.length];exact F.len _ _ _ _ h
 refine Du (ql (F.run X.A X.stack s H ⟨us,[]⟩ (us++ds) (vs++c5) Q E O I.env0 (G s us I.kIn J) z h) λr s' j=>?_);cases r with
 | error e=>exact U ad Z H s e s' I j
 | ok fl=>
  cases fl with
  | ret u=>exact I.after j
  | next=>exact False.elim j
  | brk=>exact False.elim j
  | cont=>exact False.elim j
theorem Eu(F:au X.prog X.w X.K X.mg X.base CX k f fd ps sp)(hr:ci k X.A)(hg:Gl X x)(hm:X.mg x=some (.ref f))(hk:W.keepIn X.K (.ref f)=true)(U:Binds X.K fd ps ds)(hd:aY c5 ds)(hx:lV CX X E)
 (O:PA X (e::es) t) (J:(x == ("__debug__":Str))=false:=by decide) (Y:starEach (e::es) X.env=(false,eval e X.env)::starEach es X.env:=by rfl) (G:(backTo pos (starEach es X.env)).any (·.1)=false:=by rfl) :
 PE X (.Call (.Name x p) (e::es) [] pos) (AH sp c5 E t):=by
 intro ad s Z H Q I h;refine wT (qG I hg hm ?_ J);refine JL (h₀:=X.base) I.ok.mod.kin hk (thn (O pos ad s Z H _ I h) λus s1 z=>aW z λvs H1 j r q=>⟨j.kIn,?_⟩) Y G;exact Et F hr U hd hx j r q
theorem gA(he:PE X o ta)(c:i5 X.K C)(G:AF X.K C m f)(F:au X.prog X.w X.K X.mg X.base CX k f fd ps sp)(hr:ci k X.A)(hb:Binds X.K fd ps ds)(hd:aY c5 ds)(hx:lV CX X E)(ha:PA X (e::es) t)
 (dR:starEach (e::es) X.env=(false,eval e X.env)::starEach es X.env:=by rfl) (dL:(backTo pos (starEach es X.env)).any (·.1)=false:=by rfl)
 (ht:eval (.Call (.Attribute o m apos) (e::es) [] pos) X.env=(do
  let J <-eval o X.env
  standAt apos.atName
  let (f,first) <-holding [J] (getMethod J m pl)
  callWith pos f first (backTo pos (starEach (e::es) X.env)) (backToKw pos (keywordEach [] X.env))):=by rfl) :
 PE X (.Call (.Attribute o m apos) (e::es) [] pos) (Li C m sp c5 E ta t):=by
 intro ad s Z H Q I h;refine aqU (pl:=pl) (thn (he ad s Z H _ I h) λu s1 O=>aW O λx H1 j rx U=>?_) ht;obtain @⟨a,dx,fs,ea,l,q⟩:=U;obtain rfl:u=Value.ref a:=rx;refine K9 j ea c G l ?_;refine JL (first:=[.ref a]) (h₀:=X.base) I.ok.mod.kin G.kp (thn (ha pos ad s1 Z H1 _ j q) λus s2 Y=>aW Y λvs H2 z r q2=>⟨z.kIn,?_⟩) dR dL;exact Et (us:=.ref a::us) (vs:=.ref a::vs) F hr hb hd hx z (.cons rfl r) q2
theorem cj(he:PE X o ta)(c:i5 X.K C)(z:AF X.K C m f)(F:au X.prog X.w X.K X.mg X.base CX k f fd ps sp)(hr:ci k X.A)(Y:Binds X.K fd ps ds)(hd:aY c5 ds)(hx:lV CX X E)
 (ht:eval (.Call (.Attribute o m apos) [] [] pos) X.env=(do
  let G <-eval o X.env
  standAt apos.atName
  let (f,first) <-holding [G] (getMethod G m pl)
  callWith pos f first (backTo pos (starEach [] X.env)) (backToKw pos (keywordEach [] X.env))):=by rfl) :
 PE X (.Call (.Attribute o m apos) [] [] pos) (Li C m sp c5 E ta fg):=by
 intro ad s Z H Q I h;refine aqU (pl:=pl) (thn (he ad s Z H _ I h) λu s1 J=>aW J λx H1 j rx O=>?_) ht;obtain @⟨a,dx,fs,U,l,q⟩:=O;obtain rfl:u=Value.ref a:=rx;refine K9 j U c z l ?_;exact W.callWith_K0 (first:=[.ref a]) j.kIn z.kp (Et (us:=[.ref a]) (vs:=[.ref a]) F hr Y hd hx j (.cons rfl .nil) q)
structure Mk(K:Fg)(C f:Addr):Prop where
 makes:W.makesIn K C=true
 init:W.findIn K (.ref C) "__init__"=some (some (.ref f))
 fn:W.isFn K (.ref f)=true
 kp:W.keepIn K (.ref C)=true
theorem Lk{H:Hp}{Q:VK}{vs:Lv}(M:Mk X.K C f)(F:au X.prog X.w X.K X.mg X.base CX k f fd ps sp)(hr:ci (k+1) X.A)(Y:Binds X.K fd ps ds)(hd:aY c5 ds)
 (hx:lV CX X E) (I:Inv X ad Z H s) (r:aY vs us)
 (h:∀x dx,H x=none->H dx=none->dx≠x->sp (.ref x::(vs++c5)) (af (af H dx (.own x)) x (.ins C dx [])) (λv H2=>v=.non/\Q (.ref x) H2) E) :
 wpAny (model X.prog X.w) X.A (call (.ref C) us) (EP X ad Z Q) X.xe s:=by
 have G:=h (s.heap.objs.size+1) s.heap.objs.size (I.hok.fresh (qm _)) (I.hok.fresh (aG _)) (cR (wS _));have z:=Inv.made (C:=C) I;have J:aY (V.ref (s.heap.objs.size+1)::(vs++c5)) (Value.ref (s.heap.objs.size+1)::(us++ds)):=.cons rfl (r.append hd);have hl:(Value.ref (s.heap.objs.size+1)::us++ds).length=ps.length:=by
  have e:=J.length;rw[F.len _ _ _ _ G]at e;exact e.symm
 refine Du (Yy (f:=f) I.kIn M.makes M.init (jP.mp M.fn) (ql (F.run _ X.stack _ _ ⟨Value.ref (s.heap.objs.size+1)::us,[]⟩ (Value.ref (s.heap.objs.size+1)::(us++ds)) _ _ E (hr.make C us [])
  (z.env0.make C us []) (Y _ (Value.ref (s.heap.objs.size+1)::us) z.kIn hl) J G) λr s' j=>?_))
 cases r with
 | error e=>exact hx ad Z _ _ e s' z j
 | ok fl=>
  cases fl with
  | ret u=>
   obtain⟨v,H',O,rv,U,q3⟩:=z.after j;subst U;exact⟨rv,⟨V.ref (s.heap.objs.size+1),H',O,rfl,q3⟩⟩
  | next=>exact False.elim j
  | brk=>exact False.elim j
  | cont=>exact False.elim j
theorem qK(M:Mk X.K C f)(F:au X.prog X.w X.K X.mg X.base CX k f fd ps sp)(hr:ci (k+1) X.A)(hg:Gl X x)(hm:X.mg x=some (.ref C))(U:Binds X.K fd ps ds)(hd:aY c5 ds)(hx:lV CX X E)
 (O:PA X (e::es) t) (J:(x == ("__debug__":Str))=false:=by decide) (Y:starEach (e::es) X.env=(false,eval e X.env)::starEach es X.env:=by rfl) (G:(backTo pos (starEach es X.env)).any (·.1)=false:=by rfl) :
 PE X (.Call (.Name x p) (e::es) [] pos) (Lj C sp c5 E t):=by
 intro ad s Z H Q I h;refine wT (qG I hg hm ?_ J);refine JL (h₀:=X.base) I.ok.mod.kin M.kp (thn (O pos ad s Z H _ I h) λus s1 z=>aW z λvs H1 j r q=>⟨j.kIn,?_⟩) Y G;exact Lk M F hr U hd hx j r q
theorem Y6(M:Mk X.K C f)(F:au X.prog X.w X.K X.mg X.base CX k f fd ps sp)(O:ci (k+1) X.A)(G:Gl X x)(J:X.mg x=some (.ref C))(z:Binds X.K fd ps ds)(hd:aY c5 ds)(U:lV CX X E)
 (j:(x == ("__debug__":Str))=false:=by decide):PE X (.Call (.Name x p) [] [] pos) (Lj C sp c5 E fg):=by
 intro ad s Z H Q I h;refine wT (qG I G J ?_ j);exact W.callWith_K0 I.kIn M.kp (Lk (us:=[]) M F O z hd U I .nil h)
end
def PK(X:Cx)(g9:List Keyword)(t:TA):Prop:=
 ∀(pos:Pos) (ad:Po) (s:Shared) (Z:St) (H:Hp) (Q:Lv->Hp->Prop),Inv X ad Z H s->t Z H Q->wpAny (model X.prog X.w) X.A (evalAll ((backToKw pos (keywordEach g9 X.env)).map (·.2))) (AP X ad Z Q) X.xe s
section
variable {k:Nat}{ks:Ls}{E:XK}{x m:Str}{pos apos xE:Pos}{o:Expr}{g9:List Keyword}{te ta:TE}{t tk:TA}{nm:Option Str}
theorem Y7:PK X [] fg:=λ_ _ _ _ H Q I h=>wpAny_evalAll_nil ⟨[],H,I,.nil,h⟩
theorem Y8(O:PE X e te)(U:PK X g9 t):PK X (⟨nm,e,xE⟩::g9) (fP te t):=by
 intro pos ad s Z H Q I h;show wpAny _ _ (evalAll ((do let v <-eval e X.env;standAt pos;pure v)::(backToKw pos (keywordEach g9 X.env)).map (·.2))) _ _ s;refine wpAny_evalAll_cons (ae (thn (O ad s Z H _ I h) λu s1 G=>aW G λx H1 j r1 Y=>ae (VA (aq ?_))));exact thn (U pos ad s1 Z H1 _ j Y) λus s2 J=>aW J λxs H2 z r2 q2=>⟨x::xs,H2,z,.cons r1 r2,q2⟩
variable {g:Lw->Lw->Lw}{gV:Lv->Lv->Lv}
end
structure aK(N P:Ls)(sc:Scope):Prop where
 kind:sc.kind=.function
 co:sc.isCoroutine=false
 gen:sc.isGenerator=false
 nd:N.Nodup
 pre:N.take P.length=P
 par:∀x∈P,sc.names.lookup x=some .local\/sc.names.lookup x=some .cell
 nofree:∀y∈sc.names,y.2≠.free
theorem Lq{x:Str}:∀{binds:List (Str×Value)}{m:Mv},(∀v,(x,v)∉binds)->bindL kindOf binds m x=m x
 | [],_,_=>rfl
 | (n,v)::r,m,h=>by
  unfold bindL;rw[Lq λw j=>h w (bU _ j)];split
  . have:x≠n:=by rintro rfl;exact h v bQ
    simp[this]
  rfl
theorem Lr{x:Str}:∀{binds:List (Str×Value)}{m:Mv},(∀v,(x,v)∉binds)->bindC kindOf binds m x=m x
 | [],_,_=>rfl
 | (n,v)::r,m,h=>by
  unfold bindC;rw[Lr λw j=>h w (bU _ j)];split
  . rfl
  have:x≠n:=by rintro rfl;exact h v bQ
  simp[this]
theorem Lu{x:Str}{v:Value}:∀{P:Ls}{vs:Lw}{i:Nat}{m:Mv},P.Nodup->P[i]?=some x->vs[i]?=some v->kindOf x=some .local ->
 bindL kindOf (P.zip vs) m x=some v
 | [],_,_,_,_,h,_,_=>by simp at h
 | _::_,[],_,_,_,_,h,_=>by simp at h
 | p::P,w::vs,0,m,nd,h1,h2,hk=>by
  simp at h1 h2;subst h1;subst h2;show bindL kindOf ((p,w)::P.zip vs) m p=_;unfold bindL;rw[Lq λv j=>(qo.mp nd).1 (JM j).1,aj hk];simp
 | p::P,w::vs,i+1,m,nd,h1,h2,hk=>by
  show bindL kindOf ((p,w)::P.zip vs) m x=_;unfold bindL;exact Lu (i:=i) (qo.mp nd).2 (by simpa using h1) (by simpa using h2) hk
theorem Lx{x:Str}{v:Value}:∀{P:Ls}{vs:Lw}{i:Nat}{m:Mv},P.Nodup->P[i]?=some x->vs[i]?=some v->kindOf x≠some .local ->
 bindC kindOf (P.zip vs) m x=some v
 | [],_,_,_,_,h,_,_=>by simp at h
 | _::_,[],_,_,_,_,h,_=>by simp at h
 | p::P,w::vs,0,m,nd,h1,h2,hk=>by
  simp at h1 h2;subst h1;subst h2;show bindC kindOf ((p,w)::P.zip vs) m p=_;unfold bindC;rw[Lr λv j=>(qo.mp nd).1 (JM j).1,ag hk];simp
 | p::P,w::vs,i+1,m,nd,h1,h2,hk=>by
  show bindC kindOf ((p,w)::P.zip vs) m x=_;unfold bindC;exact Lx (i:=i) (qo.mp nd).2 (by simpa using h1) (by simpa using h2) hk
def start(N:Ls)(vs:Lv):St:=vs.map some++List.replicate (N.length - vs.length) none
def kG(CX:g0)(P:Program)(w:World)(K:Fg)(mg:Mv)(base:Heap)(N:Ls)(a_:Str)(scope:Scope)(f:Addr)(cd:Value)(A:Around)(outer:List Env)(s:Shared)(H:Hp)(E:XK):Cx where
 prog:=P
 w:=w
 K:=K
 mg:=mg
 base:=base
 A:=A.deeper (envOfC a_ scope s.heap.objs.size f cd)
 N:=N
 s₀:=s
 H₀:=H
 env:=envOfC a_ scope s.heap.objs.size f cd
 outer:=outer
 stack:=envOfC a_ scope s.heap.objs.size f cd::outer
 ex:=[]
 calm:=true
 fn:=λ_=>true
 pn:=[]
 xe:=λe s'=>wpAny (model P w) (A.deeper (envOfC a_ scope s.heap.objs.size f cd)) (leaving (envOfC a_ scope s.heap.objs.size f cd) e) (λ_ j=>CX outer H s E e j) (λz j=>CX outer H s E z j) s'
theorem Ly{sc:Scope}{x:Str}(h:sc.names.lookup x=some .cell):∃c,(cellsFrom n sc.names []).lookup x=some c:=by
 have q:=VB sc.names n [] (.inl h);exact JN.mp q
theorem Lz{a_:Str}{scope:Scope}{cd:Value}{outer:List Env}{s1:Shared}{H:Hp}{E:XK}{vs:Lv}
 (S:aK N ps scope) (hd:A.handled=none) (j:lU P w K mg base A outer s H) (hl:vs.length=ps.length) (r:aY vs us)
 (x:InCallC s s.heap.objs.size (bindL (envOfC a_ scope s.heap.objs.size f cd).kindOf (ps.zip us) λ_=>none) (cellsFrom (s.heap.objs.size+1) scope.names []) (bindC (envOfC a_ scope s.heap.objs.size f cd).kindOf (ps.zip us) λ_=>none) s1) :
 Inv (kG CX P w K mg base N a_ scope f cd A outer s H E) [] (start N vs) H s1:=by
 have dL:ps.length<=N.length:=by have:=fc List.length S.pre;rw[eP]at this;omega
 obtain⟨h1,tk,rfl,U⟩:=x.done;have J:∀b:Addr,b∉(kG CX P w K mg base N a_ scope f cd A outer s H E).ex:=λb z=>absurd (show b∈([]:List Addr) from z) (by simp);refine⟨⟨j.mod,S.kind,rfl,rfl,aG _,λy z c h1 h2=>?_,λy hy=>?_,λy c _ h=>?_,λ_=>hd,Around.frames_deeper j.frames,.inr ⟨rfl,rfl⟩,λb z=>absurd z (J b),j.bs,j.bsz,λb _ _=>J b,λb z=>absurd z (J b),j.funs,j.frf⟩,
  rfl,j.bare,Un.kept U,⟨_,x.toInCall.ns,λi y v h1 h2 h3=>?_⟩,λy c h=>⟨_,x.cell y c h⟩,j.hok.fresh (aG _),λy c h=>?_,λp G=>absurd (show p∈([]:Po) from G) (by simp),j.hok.kept U,?_⟩
 . exact name_of_addr x.apart (zU h1) (zU h2)
 . have hy:scope.names.lookup y=some .cell\/scope.names.lookup y=some .free:=hy
   rcases hy with hy | hy
   . exact Ly hy
   exact absurd rfl (S.nofree _ (zU hy))
 . exact vo (x.above y c (zU h))
 . have hi:i<vs.length:=by
    unfold start at h2
    by_cases hi:i<vs.length
    . exact hi
    rw[Dv (by simpa using hi)]at h2;rw[aqV]at h2;split at h2<;>cases h2
   have ha:vs[i]?=some v:=by
    unfold start at h2;rw[VC (by simpa using hi),dA]at h2;cases e:vs[i]? with
    | none=>rw[e]at h2;cases h2
    | some a=>rw[e]at h2;cases h2;rfl
   obtain⟨u,Y,rv⟩:=r.get ha;have G:ps[i]?=some y:=by
    rw[<-S.pre,List.getElem?_take_of_lt (by omega)];exact h1
   have O:ps.Nodup:=by rw[<-S.pre];exact S.nd.sublist (List.take_sublist _ _)
   refine⟨u,rv,?_⟩
   rcases S.par y (dH G) with k | k
   . exact .inl ⟨k,Lu O G Y k⟩
   obtain⟨c,e⟩:=Ly (n:=s.heap.objs.size+1) k;refine .inr ⟨.inl k,c,e,?_⟩;have q:=x.cell y c e;rw[Lx O G Y (by show scope.names.lookup y≠_;rw[k];decide)]at q;exact q
 . exact j.hok.fresh (vo (x.above y c (zU h)))
 unfold start;show _=N.length;rw[bH,al,VD];omega
theorem Ew{k:Nat}{name a_:Str}{params:Arguments}{scope:Scope}{Y kV a0 pm j ct oc:Value}{an od:Oa}
 {jt:Array (Option Value)} (lk:K.lookup f=some ⟨oc,od,.func (W.fnOf name a_ params body scope Y kV a0 pm an j ct),jt⟩) (i4:W.codeIn K j a_=true) (S:aK N ps scope)
 (len:∀vs H Q E,sp vs H Q E->vs.length=ps.length)
 (oS:∀(A:Around) (outer:List Env) (s:Shared) (H:Hp) (vs:Lv) (Q:VK) (E:XK),ci k (A.deeper (envOfC a_ scope s.heap.objs.size f j))->sp vs H Q E ->
  ∃t,bW (kG CX P w K mg base N a_ scope f j A outer s H E) body t/\t { nx:=λ_ H'=>Q .non H',rt:=Q } (start N vs) H) :
 au P w K mg base CX (k+1) f (W.fnOf name a_ params body scope Y kV a0 pm an j ct) ps sp:=by
 refine⟨len,λA outer s H args us vs Q E G z hb r ju=>?_⟩;have hl:=len _ _ _ _ ju;have U:K.In s.heap:=z.mod.kin.keeps λb o e=>(z.bs b o e).1;have a2:s.heap.NoLimit:=z.mod.nolimit.keeps λb o e=>(z.bs b o e).1;have Ex:∀y∈ps.zip us,scope.names.lookup y.1=some .local\/(scope.names.lookup y.1=some .cell/\((cellsFrom (s.heap.objs.size+1) scope.names []).lookup y.1).isSome=true):=λ⟨n,v⟩ hy=>by
  rcases S.par n (JM hy).1 with q | q
  . exact .inl q
  exact .inr ⟨q,VB _ _ _ (.inl q)⟩
 refine codeAny_call_function G.depth (U _ _ lk) rfl S.co S.gen rfl (W.codeRec_of U i4) (hb _ _ _ _ ?_);refine aqW S.kind Ex λenv he s1 x=>?_;subst he;refine⟨a2.keeps x.toInCall.keep,codeAny_func ?_⟩;obtain⟨t,ht,hq⟩:=oS A outer s H vs Q E (G.deeper _) ju;have I:Inv (kG CX P w K mg base N a_ scope f j A outer s H E) [] (start N vs) H s1:=Lz S G.hd z hl r x;refine d6 (ht [] s1 (start N vs) H _ I hq) (λfl s' hs=>?_) λe s' hs=>hs;have a1:∀{σ':St}{H':Hp}{v:V}{u:Value},Inv (kG CX P w K mg base N a_ scope f j A outer s H E) [] σ' H' s'->RelV v u->Q v H'->CE outer P w H s Q u s':=
  λ{σ' H' v u} J O q=>⟨v,H',J.os,J.bare,J.base,J.hok,O,q⟩
 cases fl with
 | ret u=>
  obtain⟨v,σ',H',J,O,q⟩:=hs;exact a1 J O q
 | next=>
  obtain⟨σ',H',J,q⟩:=hs;exact a1 (v:=V.non) (u:=Value.none) J rfl q
 | brk=>
  obtain⟨_,_,_,q⟩:=hs;exact False.elim q
 | cont=>
  obtain⟨_,_,_,q⟩:=hs;exact False.elim q
section
variable {x:Str}{pos:Pos}{t:TA}{id T:String}{r:Lv->Hp->VK->Prop}
def AJ(r:Lv->Hp->VK->Prop)(t:TA):TE:=λZ H Q=>t Z H λvs H1=>r vs H1 Q
theorem cJ(U:ff X (.builtin id) r)(hg:Gl X x)(hm:X.mg x=none)(hv:bootBuiltins x=some (.builtin id))(O:PA X (e::es) t)(hn:x≠"__name__":=by decide)(J:(x == ("__debug__":Str))=false:=by decide)
 (Y:starEach (e::es) X.env=(false,eval e X.env)::starEach es X.env:=by rfl) (G:(backTo pos (starEach es X.env)).any (·.1)=false:=by rfl):PE X (.Call (.Name x p) (e::es) [] pos) (AJ r t):=by
 intro ad s Z H Q I h;refine wT (tw I hg hm hv ?_ hn J);exact PyProof.Rows.callWith_builtin1 (thn (O pos ad s Z H _ I h) λus s1 z=>aW z λvs H1 j r1 q1=>U ad s1 Z H1 vs us Q j r1 q1) Y G
theorem eT(U:ff X (.type T) r)(hg:Gl X x)(hm:X.mg x=none)(hv:bootBuiltins x=some (.type T))(O:PA X (e::es) t)(hn:x≠"__name__":=by decide)(J:(x == ("__debug__":Str))=false:=by decide)
 (Y:starEach (e::es) X.env=(false,eval e X.env)::starEach es X.env:=by rfl) (G:(backTo pos (starEach es X.env)).any (·.1)=false:=by rfl):PE X (.Call (.Name x p) (e::es) [] pos) (AJ r t):=by
 intro ad s Z H Q I h;refine wT (tw I hg hm hv ?_ hn J);exact JI (thn (O pos ad s Z H _ I h) λus s1 z=>aW z λvs H1 j r1 q1=>U ad s1 Z H1 vs us Q j r1 q1) Y G
end
end L2
namespace HT
theorem Zd(A:Around)(s:Shared)(a:Int)(t:Tok)(c:Int)(u:Tok):∃e,SeqAt.EqAt A s (.int a t) (.int c u) e/\(e=true↔a=c):=
 ⟨(a == c),SeqAt.EqAt.int_int a t c u,by simp⟩
theorem Ze(A:Around)(s:Shared)(a:Int)(t:Tok)(c:Int)(u:Tok)(prog:Program)(w:World)(E:VP)(Q:VP)(h:Q (.bool (decide (a<c))) s) :
 wpAny (model prog w) A (richCompare .Lt (.int a t) (.int c u)) Q E s:=
 (PyProof.Rows.lt_int h:wpAny (model prog w) A (compareOp .Lt (.int a t) (.int c u)) Q E s)
section
variable {prog:Program}{w:World}{A:Around}{E:VP}{s:Shared}
def gB(n d:Nat):Option Int->Nat
 | none=>d
 | some v=>if v<0 then(v+(n:Int)).toNat else min v.toNat n
theorem LB(n d:Nat):gB n d none=d:=rfl
theorem AK(n d k:Nat):gB n d (some (k:Int))=min k n:=by
 show(if (k:Int)<0 then((k:Int)+(n:Int)).toNat else min (k:Int).toNat n)=min k n;rw[ag (by omega),lI]
end
end HT
namespace L2
variable {X:Cx}{pos:Pos}{α:Type}{n t':Nat}{v:V}{a b:Addr}{A:Around}{s:Shared}{u:Value}{ad:Po}{Z:St}{T:String}{w:World}{kvs:List (List NI×V)}{P:Program}{H':Hp}
abbrev TO:=St->Hp->(Option Int->Hp->Prop)->Prop
def PO(X:Cx)(e:Option Expr)(t:TO):Prop:=
 ∀(ad:Po) (s:Shared) (Z:St) (H:Hp) (Q:Option Int->Hp->Prop),Inv X ad Z H s->t Z H Q ->
  wpAny (model X.prog X.w) X.A (evalPart e X.env) (λu s'=>∃o H',Inv X ad Z H' s'/\IsPart u o/\Q o H') X.xe s
def Zf:TO:=λ_ H Q=>Q none H
inductive LC (Q:Option Int->Hp->Prop) (H1:Hp):V->Prop where
 | mk {i:Int} (_:Q (some i) H1):LC Q H1 (.int i)
def Zg(t:TE):TO:=λZ H Q=>t Z H λx H1=>LC Q H1 x
section
variable {e:Expr}{te:TE}{lo hi:Option Expr}{tl th:TO}{p2:Pos}
theorem qL:PO X none Zf:=by
 intro ad s Z H Q I h;rw[VE];exact aq ⟨none,H,I,.none,h⟩
theorem kH(h:PE X e te):PO X (some e) (Zg te):=by
 intro ad s Z H Q I G;rw[evalPart_some];refine thn (h ad s Z H _ I G) λu U z=>aW z λx H1 j O J=>?_;obtain @⟨i,q⟩:=J;obtain⟨t,rfl⟩:=O;exact⟨some i,H1,j,.int i t,q⟩
def tR(X:Cx)(r:V->Option Int->Option Int->Hp->VK->Prop):Prop:=
 ∀(ad:Po) (s:Shared) (Z:St) (H:Hp) (x:V) (v j z:Value) (lo hi:Option Int) (sl:Addr) (Q:VK),Inv X ad Z H s->RelV x v->s.heap.IsSliceOf sl j z .none->IsPart j lo->IsPart z hi->r x lo hi H Q ->
  ∃T id,typeLookup (.type T) "__getitem__"=pure (some (.builtin id))/\s.TypeIs v T/\wpAny (model X.prog X.w) X.A (getItem v (.ref sl)) (EP X ad Z Q) X.xe s
def Zi(r:V->Option Int->Option Int->Hp->VK->Prop)(te:TE)(tl th:TO):TE:=λZ H Q=>te Z H λx H1=>tl Z H1 λl H2=>th Z H2 λu H3=>r x l u H3 Q
theorem m9{r:V->Option Int->Option Int->Hp->VK->Prop}(hr:tR X r)(he:PE X e te)(hl:PO X lo tl)(hu:PO X hi th):PE X (.Subscript e (.Slice lo hi none p2) pos) (Zi r te tl th):=by
 intro ad s Z H Q I h;refine JO (thn (he ad s Z H _ I h) λv s1 Y=>aW Y λx H1 G r1 q1=>?_);refine wpAny_Slice (thn (hl ad s1 Z H1 _ G q1) λj s2 Zk=>aW Zk λl H2 J pl q2=>thn (hu ad s2 Z H2 _ J q2) λz s3 Zl=>aW Zl λu H3 O pu q3=>?_);rw[VE];refine aq ?_;have U:Inv X ad Z H3 { s3 with heap:=s3.heap.push { cls:=.type "slice",data:=.fields #[j,z,.none] } }:=O.kept (t':=s3.toks) λb ob q=>cb _ q;obtain⟨T,id,hT,ht,hg⟩:=hr ad { s3 with heap:=s3.heap.push { cls:=.type "slice",data:=.fields #[j,z,.none] } } Z H3 x v j z l u s3.heap.objs.size Q U r1 (Heap.IsSliceOf.new ..) pl pu q3;show wpAny (model X.prog X.w) X.A (subscriptTail e (.Slice lo hi none p2) v (.ref s3.heap.objs.size)) (EP X ad Z Q) X.xe { s3 with heap:=s3.heap.push { cls:=.type "slice",data:=.fields #[j,z,.none] } };exact tail_any (ops:=[.ref s3.heap.objs.size,v]) ht hT hg (by with_unfolding_all rfl)
def tS(xs:Lv)(lo hi:Option Int):Lv:=(xs.drop (HT.gB xs.length 0 lo)).take (HT.gB xs.length xs.length hi - HT.gB xs.length 0 lo)
theorem Zm(xs:Lv)(lo hi:Option Int):(tS xs lo hi).length<=xs.length:=by
 unfold tS;rw[eP,mP];omega
end
def oU(n:Nat)(i:Int):Option Nat:=if 0<=i then(if i<n then some i.toNat else none) else if -(n:Int)<=i then some (i+n).toNat else none
def cE(xs:List α)(i:Int):Option α:=(oU xs.length i).bind λj=>xs[j]?
theorem Zn{i:Int}{j:Nat}(h:oU n i=some j):seqIndex? i n=some j/\j<n/\-(n:Int)<=i/\i<n:=by
 unfold oU at h
 by_cases h0:0<=i
 . rw[aj h0]at h
   by_cases h1:i<n
   . rw[aj h1]at h;have e:i.toNat=j:=gU h;exact⟨by rw[seqIndex_of h0 h1,e],by omega,by omega,h1⟩
   rw[ag h1]at h;cases h
 rw[ag h0]at h
 by_cases h1:-(n:Int)<=i
 . rw[aj h1]at h;have e:(i+n).toNat=j:=gU h;exact⟨by rw[seqIndex_neg (by omega) h1,e],by omega,h1,by omega⟩
 rw[ag h1]at h;cases h
theorem AL{xs:List α}{i:Int}{v:α}(h:cE xs i=some v):∃j,seqIndex? i xs.length=some j/\xs[j]?=some v/\j<xs.length/\-(xs.length:Int)<=i/\i<xs.length:=by
 unfold cE at h;cases e:oU xs.length i with
 | none=>rw[e]at h;cases h
 | some j=>
  rw[e]at h;obtain⟨h1,h2,z,G⟩:=Zn e;exact⟨j,h1,h,h2,z,G⟩
theorem AM{xs:List α}{j:Nat}{v:α}(h:xs[j]?=some v):cE xs (j:Int)=some v:=by
 have z:j<xs.length:=(cN.mp h).1;have e:oU xs.length (j:Int)=some j:=by
  unfold oU;rw[aj (by omega),aj (by omega)];simp
 unfold cE;rw[e];exact h
def Zo(b:Expr):Prop:=∀o i,subscripted b false o i=operate [o,i] (getItem o i)
def vG(X:Cx)(r:R2):Prop:=
 ∀(value j:Expr) (ad:Po) (s:Shared) (Z:St) (H:Hp) (x y:V) (v u:Value) (Q:VK),Inv X ad Z H s->RelV x v->RelV y u->r x y H Q ->
  subscripted j false v u=operate [v,u] (getItem v u)->wpAny (model X.prog X.w) X.A (subscriptTail value j v u) (EP X ad Z Q) X.xe s
def LD(X:Cx)(id:String)(r:V->Lv->Hp->VK->Prop):Prop:=
 ∀(ad:Po) (s:Shared) (Z:St) (H:Hp) (x:V) (xs:Lv) (v:Value) (us:Lw) (Q:VK),Inv X ad Z H s->RelV x v->aY xs us->r x xs H Q ->
  wpAny (model X.prog X.w) X.A (call (.builtin id) (v::us)) (EP X ad Z Q) X.xe s
section
variable {a b:Expr}{ta tb:TE}
theorem bP{r:R2}(J:vG X r)(z:PE X a ta)(G:PE X b tb)(hs:Zo b):PE X (.Subscript a b pos) (Az r ta tb):=by
 intro ad s Z H Q I h;exact JO (Eg z G I h λv u Y x y H2 j O U q=>J a b ad Y Z H2 x y v u Q j O U q (hs _ _))
inductive LI (K:Fg) (H:Hp) (Q:VK):V->V->Prop where
 | mk {p:Addr}{xs:Lv}{i:Int}{v:V} (_:aa K H p xs) (_:cE xs i=some v) (_:Q v H):LI K H Q (.ref p) (.int i)
def LJ(K:Fg):R2:=λx y H Q=>LI K H Q x y
inductive LK (K:Fg) (H:Hp) (Q:VK):V->V->Prop where
 | mk {p:Addr}{xs:Lv}{i:Int}{v:V} (_:ba K H p xs) (_:cE xs i=some v) (_:Q v H):LK K H Q (.ref p) (.int i)
def LL(K:Fg):R2:=λx y H Q=>LK K H Q x y
inductive LN (H:Hp) (Q:VK):V->V->Prop where
 | mk {z:Str}{i:Int}{c:Nat} (_:z.length<=sizeLine) (_:cE z.cps.toList i=some c) (_:Q (.str ⟨#[c]⟩) H):LN H Q (.str z) (.int i)
def Zp:R2:=λx y H Q=>LN H Q x y
theorem fQ:vG X (LJ X.K):=by
 intro value a0 ad s Z H x y v u Q I rx ry h hs;obtain @⟨p,xs,i,z,hq,he,q⟩:=h;cases rx;obtain⟨t,rfl⟩:=ry;obtain⟨b_,r,pl,hz⟩:=I.list hq;obtain⟨j,h1,h2,h3,Y,h5⟩:=AL he;obtain⟨w,J,U⟩:=r.get h2;have hl:=r.length;have hn:=xA;have O:EP X ad Z Q w s:=⟨z,H,I,U,q⟩
 by_cases h0:0<=i
 . have G:i.toNat=j:=by
    rw[seqIndex_of h0 h5]at h1;exact gU h1
   exact item_listR pl.isList h0 (by omega) (by rw[G];simpa using J) O hs
 have G:(i+(b_.toArray.size:Int)).toNat=j:=by
  rw[seqIndex_neg (by omega) Y]at h1;rw[fY,<-hl];exact gU h1
 exact aqX (x:=w) pl.isList.typeIs VF.lookup
  (wpAny_getItem_list_neg (Q:=λr s'=>r=w/\EP X ad Z Q r s') pl.isList (by omega) (by rw[fY]<;>omega) (by omega) (by rw[G];simpa using J) ⟨rfl,O⟩) hs
theorem fq:vG X (LL X.K):=by
 intro value a0 ad s Z H x y v u Q I rx ry h hs;obtain @⟨p,xs,i,z,hq,U,q⟩:=h;cases rx;obtain⟨t,rfl⟩:=ry;obtain⟨b_,r,pl,hz⟩:=I.tuple hq;obtain⟨j,h1,h2,h3,h4,h5⟩:=AL U;obtain⟨w,G,O⟩:=r.get h2;have Y:=r.length;have hn:=xA;have J:EP X ad Z Q w s:=⟨z,H,I,O,q⟩;exact aqX (x:=w) pl.typeIs slot_tuple_getitem.lookup
  (getItem_tuple (j:=j) (Q:=λr s'=>r=w/\EP X ad Z Q r s') pl (by omega) (by omega) (by rw[fY,<-Y];exact h1) (by simpa using G) ⟨rfl,J⟩) hs
theorem xF:vG X Zp:=by
 intro value a0 ad s Z H x y v u Q I Y ry h hs;obtain @⟨z,i,c,hz,O,q⟩:=h;obtain⟨t,rfl⟩:=Y;obtain⟨t',rfl⟩:=ry;obtain⟨j,h1,h2,h3,G,J⟩:=AL O;have U:z.cps.toList.length=z.length:=by simp[Str.length]
 rw[U]at h1 G J;have hn:=xA;exact tail_any (zV s z t) slot_str_getitem.lookup (getItem_str (c:=c) (by
  have e1:decide (i < -(2 ^ 63:Int))=false:=cq (by omega);have e2:decide (i >= 2 ^ 63)=false:=cq (by omega);rw[e1,e2,si]) (by rw[h1];simpa using h2) ⟨.str ⟨#[c]⟩,H,I.tok _,⟨_,rfl⟩,q⟩) hs
theorem Zq(lo hi:Option Int)(n:Nat):(sliceBounds lo hi none n).1=((HT.gB n 0 lo:Nat):Int)/\(sliceBounds lo hi none n).2.1=((HT.gB n n hi:Nat):Int)/\(sliceBounds lo hi none n).2.2=1:=by
 refine⟨?_,?_,rfl⟩
 . cases lo with
   | none=>simp[sliceBounds,HT.gB]
   | some i=>
    simp only[sliceBounds,HT.gB,Option.getD_none,show(1:Int) > 0 by decide,vm]
    by_cases h:i<0
    . simp only[h,vm]<;>omega
    simp only[h,mO]<;>omega
 cases hi with
 | none=>simp[sliceBounds,HT.gB]
 | some i=>
  simp only[sliceBounds,HT.gB,Option.getD_none,show(1:Int) > 0 by decide,vm]
  by_cases h:i<0
  . simp only[h,vm]<;>omega
  simp only[h,mO]<;>omega
theorem Zr(b_:Lw)(lo hi:Option Int):slicePick b_.toArray lo hi none=((b_.drop (HT.gB b_.length 0 lo)).take (HT.gB b_.length b_.length hi - HT.gB b_.length 0 lo)).toArray:=by
 obtain⟨h1,h2,j⟩:=Zq lo hi b_.toArray.size;unfold slicePick;rw[h1,h2,j];simp only[sliceRange_one,pick_run,fY]<;>rfl
def Zs(K:Fg):V->Option Int->Option Int->Hp->VK->Prop:=λx lo hi H Q=>∃a xs,x=.ref a/\aa K H a xs/\∀p,H p=none->Q (.ref p) (af H p (.lst (tS xs lo hi)))
theorem Zt:tR X (Zs X.K):=by
 intro ad s Z H x v U Y lo hi sl Q I O hs pl J h;obtain⟨a,xs,rfl,G,q⟩:=h;cases O;obtain⟨b_,r,j,hz⟩:=I.list G;have z:=r.length;refine⟨"list",_,VF.lookup,j.isList.typeIs,?_⟩;refine aqY j.isList hs pl J .none (by simp) ?_ (by rw[fY]<;>omega);rw[Zr,<-z];refine⟨.ref s.heap.objs.size,_,I.laid (t':=s.toks) (o:=.lst (tS xs lo hi)) (λb ob q=>cb _ q) (aG _) ?_,rfl,q _ (I.hok.fresh (aG _))⟩;exact⟨bX (Zm xs lo hi) hz,_,0,(r.drop (HT.gB xs.length 0 lo)).take (HT.gB xs.length xs.length hi - HT.gB xs.length 0 lo),dG _ rfl⟩
def oV:V->Bool
 | .non=>true
 | .bl _=>true
 | .int _=>true
 | .str _=>true
 | _=>false
def kI:V->V->Bool
 | .non,.non=>true
 | .bl a,.bl b=>a == b
 | .bl a,.int b=>(if a then 1 else 0) == b
 | .int a,.bl b=>a == (if b then 1 else 0)
 | .int a,.int b=>a == b
 | .str a,.str b=>a == b
 | _,_=>false
theorem Zu{y x:V}{v:Value}(G:RelV y u)(j:RelV x v)(J:oV y=true)(z:oV x=true):SeqAt.EqAt A s u v (kI y x):=by
 cases y with
 | non=>
  cases G;cases x with
  | non=>cases j;exact SeqAt.EqAt.same _
  | bl b=>cases j;exact SeqAt.EqAt.none_bool b
  | int b=>obtain⟨t,rfl⟩:=j;exact SeqAt.EqAt.none_int b t
  | str b=>obtain⟨t,rfl⟩:=j;exact SeqAt.EqAt.none_str b t
  | _=>exact absurd (show false=true from z) cV
 | bl a=>
  cases G;cases x with
  | non=>cases j;exact SeqAt.EqAt.bool_none a
  | bl b=>cases j;exact SeqAt.EqAt.bool_bool a b
  | int b=>obtain⟨t,rfl⟩:=j;exact SeqAt.EqAt.bool_int a b t
  | str b=>obtain⟨t,rfl⟩:=j;exact SeqAt.EqAt.bool_str a b t
  | _=>exact absurd (show false=true from z) cV
 | int a=>
  obtain⟨t',rfl⟩:=G;cases x with
  | non=>cases j;exact SeqAt.EqAt.int_none a t'
  | bl b=>cases j;exact SeqAt.EqAt.int_bool a t' b
  | int b=>obtain⟨t,rfl⟩:=j;exact SeqAt.EqAt.int_int a t' b t
  | str b=>obtain⟨t,rfl⟩:=j;exact SeqAt.EqAt.int_str a t' b t
  | _=>exact absurd (show false=true from z) cV
 | str a=>
  obtain⟨t',rfl⟩:=G;cases x with
  | non=>cases j;exact SeqAt.EqAt.str_none a t'
  | bl b=>cases j;exact SeqAt.EqAt.str_bool a t' b
  | int b=>obtain⟨t,rfl⟩:=j;exact SeqAt.EqAt.str_int a t' b t
  | str b=>obtain⟨t,rfl⟩:=j;exact SeqAt.EqAt.str_str a t' b t
  | _=>exact absurd (show false=true from z) cV
 | _=>exact absurd (show false=true from J) cV
def i6(x:V)(u:Value):Bool:=match u with
 | .none=>kI .non x
 | .bool b=>kI (.bl b) x
 | .int i _=>kI (.int i) x
 | .str z _=>kI (.str z) x
 | _=>false
theorem LO{x y:V}(r:RelV y u)(f:oV y=true):i6 x u=kI y x:=by
 cases y with
 | non=>cases r;rfl
 | bl b=>cases r;rfl
 | int i=>obtain⟨t,rfl⟩:=r;rfl
 | str z=>obtain⟨t,rfl⟩:=r;rfl
 | _=>exact absurd (show false=true from f) cV
theorem xG{x:V}:∀{xs:Lv}{us:Lw},aY xs us->xs.all oV=true->us.any (i6 x)=xs.any λy=>kI y x
 | _,_,.nil,_=>rfl
 | y::xs,u::us,.cons r t,f=>by
  rw[JP,iH]at f;rw[sj,sj,LO r f.1,xG t f.2]
theorem xH{x:V}{v:Value}(z:RelV x v)(j:oV x=true):∀{xs:Lv}{us:Lw},aY xs us->xs.all oV=true->∀u∈us,SeqAt.EqAt A s u v (i6 x u)
 | _,_,.nil,_=>λu hu=>by cases hu
 | y::xs,u::us,.cons r t,f=>λG hu=>by
  rw[JP,iH]at f
  rcases be.mp hu with rfl | hu
  . rw[LO r f.1];exact Zu r z f.1 j
  exact xH z j t f.2 G hu
def ni(x:V)(xs:Lv):Bool:=xs.any λy=>kI y x
inductive LP (K:Fg) (j:Bool) (x:V) (H:Hp) (Q:VK):V->Prop where
 | mk {p:Addr}{xs:Lv} (_:(aa K H p xs\/ba K H p xs)) (_:oV x=true) (_:xs.all oV=true) (_:Q (.bl (if j then !ni x xs else ni x xs)) H):LP K j x H Q (.ref p)
def Ey(K:Fg)(j:Bool):R2:=λx y H Q=>LP K j x H Q y
theorem LQ:cD X (compareOp .In) (Ey X.K false):=by
 intro ad s Z H x y v u Q I G J h;obtain @⟨p,xs,hq,z,fs,q⟩:=h;cases J
 rcases hq with hq | hq
 . obtain⟨b_,r,pl,hz⟩:=I.list hq;refine SeqAt.in_listAt (i6 x) pl.isList (λw j=>xH G z r fs w (by simpa using j)) ⟨.bl _,H,I,rfl,?_⟩;rw[show b_.toArray.any (i6 x)=b_.any (i6 x) by simp,xG r fs];exact q
 obtain⟨b_,r,pl,hz⟩:=I.tuple hq;refine SeqAt.in_tupleAt (i6 x) pl (λw j=>xH G z r fs w (by simpa using j)) ⟨.bl _,H,I,rfl,?_⟩;rw[show b_.toArray.any (i6 x)=b_.any (i6 x) by simp,xG r fs];exact q
theorem Zv:cD X (compareOp .NotIn) (Ey X.K true):=by
 intro ad s Z H x y v u Q I G J h;obtain @⟨p,xs,hq,z,fs,q⟩:=h;cases J
 rcases hq with hq | hq
 . obtain⟨b_,r,pl,hz⟩:=I.list hq;refine SeqAt.notIn_listAt (i6 x) pl.isList (λw j=>xH G z r fs w (by simpa using j)) ⟨.bl _,H,I,rfl,?_⟩;rw[show b_.toArray.any (i6 x)=b_.any (i6 x) by simp,xG r fs];exact q
 obtain⟨b_,r,pl,hz⟩:=I.tuple hq;refine SeqAt.notIn_tupleAt (i6 x) pl (λw j=>xH G z r fs w (by simpa using j)) ⟨.bl _,H,I,rfl,?_⟩;rw[show b_.toArray.any (i6 x)=b_.any (i6 x) by simp,xG r fs];exact q
theorem gL:ff X (.builtin "len") (λxs H Q=>∃p ys,xs=[.ref p]/\(aa X.K H p ys\/ba X.K H p ys)/\Q (.int ys.length) H):=by
 intro ad s Z H xs us Q I r h;obtain⟨p,ys,rfl,hq,q⟩:=h;obtain⟨u,rfl,G⟩:=vals1 r;cases G;have J:=xA
 rcases hq with hq | hq
 . obtain⟨b_,z,pl,hz⟩:=I.list hq;have j:=z.length;exact Calls.call_len_list pl.isList (by simp only[fY]<;>omega) ⟨.int ys.length,H,I.tok _,⟨s.toks+1,by rw[fY,j]⟩,q⟩
 obtain⟨b_,z,pl,hz⟩:=I.tuple hq;have j:=z.length;exact len_tuple pl (by simp only[fY]<;>omega) ⟨.int ys.length,H,I.tok _,⟨s.toks+1,by rw[fY,j]⟩,q⟩
theorem Ez:ff X (.builtin "len") (λxs H Q=>∃z,xs=[.str z]/\z.length<=sizeLine/\Q (.int z.length) H):=by
 intro ad s Z H xs us Q I r h;obtain⟨z,rfl,hz,q⟩:=h;obtain⟨u,rfl,t,rfl⟩:=vals1 r;have j:=xA;exact len_str (by omega) ⟨.int z.length,H,I.tok _,⟨_,rfl⟩,q⟩
theorem xI:ff X (.type "list") (λxs H Q=>∃p ys,xs=[.ref p]/\(aa X.K H p ys\/ba X.K H p ys)/\∀l,H l=none->Q (.ref l) (af H l (.lst ys))):=by
 intro ad s Z H xs us Q I r h;obtain⟨p,ys,rfl,hq,q⟩:=h;obtain⟨u,rfl,U⟩:=vals1 r;cases U;have J:∀(b_:Lw),aY ys b_->ys.length<=sizeLine->∀(h':Heap) (c':Nat),(∀b o',s.heap.get? b=some o'->h'.get? b=some o') ->
  h'.get? s.heap.objs.size=some { cls:=.type "list",dict:=none,data:=.seq b_.toArray c',slots:=#[] }->EP X ad Z Q (.ref s.heap.objs.size) { s with heap:=h' }:=λb_ j hz h' c' kp e=>
  ⟨.ref s.heap.objs.size,_,I.laid (t':=s.toks) kp (aG _) (show bY X.prog X.w _ h' _ (.lst ys) from ⟨hz,b_,c',j,e⟩),rfl,q _ (I.hok.fresh (aG _))⟩
 rcases hq with hq | hq
 . obtain⟨b_,j,pl,hz⟩:=I.list hq;have O:=j.length;obtain⟨o,G,z,n,hd⟩:=pl.isList;exact call_list_seq p (.inl rfl) G z hd (λh' c' kp e=>J b_ j hz h' c' kp e) (by simp only[fY]<;>omega)
 obtain⟨b_,j,pl,hz⟩:=I.tuple hq;have O:=j.length;obtain⟨o,G,z,n,hd⟩:=pl;exact call_list_seq p (.inr rfl) G z hd (λh' c' kp e=>J b_ j hz h' c' kp e) (by simp only[fY]<;>omega)
theorem Zw:ff X (.type "tuple") (λxs H Q=>∃p ys,xs=[.ref p]/\((aa X.K H p ys/\∀l,H l=none->Q (.ref l) (af H l (.tup ys)))\/(ba X.K H p ys/\Q (.ref p) H))):=by
 intro ad s Z H xs us Q I r h;obtain⟨p,ys,rfl,h⟩:=h;obtain⟨u,rfl,O⟩:=vals1 r;cases O
 rcases h with⟨j,q⟩ | ⟨j,q⟩
 . obtain⟨b_,z,pl,hz⟩:=I.list j;have U:=z.length;refine call_tuple_list pl.isList (λh' kp=>?_) (by simp only[fY]<;>omega);have G:Inv X ad Z H { s with heap:=h' }:=I.kept (t':=s.toks) kp;have J:Inv X ad Z (af H h'.objs.size (.tup ys)) { s with heap:=h'.push { cls:=.type "tuple",data:=.seq b_.toArray } }:=
    G.laid (t':=s.toks) (λb o e=>cb _ e) (aG _) (show bY X.prog X.w _ _ _ (.tup ys) from ⟨hz,b_,z,IsTup.new _ _⟩)
   exact⟨.ref h'.objs.size,_,J,rfl,q _ (G.hok.fresh (aG _))⟩
 obtain⟨b_,z,pl,hz⟩:=I.tuple j;exact call_tuple_same pl ⟨.ref p,H,I,rfl,q⟩
def LR(K:Fg)(T:String)(x:V)(H:Hp):Prop:=match x with
 | .str _=>T="str"
 | .int _=>T="int"
 | .ref p=>(T="list"/\∃xs,aa K H p xs)\/(T="tuple"/\∃o,K.lookup p=some o/\o.cls=.type "tuple"/\o.dict=none) \/
  (T="dict"/\((∃kvs,H p=some (.dK kvs))\/∃kvs,H p=some (.dT kvs)))\/(T="set"/\∃S n,H p=some (.set S n))
 | _=>False
theorem LS{H:Hp}{x:V}{v:Value}(I:Inv X ad Z H s)(r:RelV x v)(ty:LR X.K T x H) :
 s.TypeIs v T/\∀a,v=.ref a->∃ob,s.heap.get? a=some ob/\ob.dict=none:=by
 cases x with
 | str z=>
  obtain⟨t,rfl⟩:=r;cases (show T="str" from ty);exact⟨zV s z t,λ_ e=>nomatch e⟩
 | int i=>
  obtain⟨t,rfl⟩:=r;cases (show T="int" from ty);exact⟨typeIs_int s i t,λ_ e=>nomatch e⟩
 | ref p=>
  cases r
  rcases ty with⟨rfl,xs,J⟩ | ⟨rfl,o,j,G,hd⟩ | ⟨rfl,j⟩ | ⟨rfl,S,n,j⟩
  . obtain⟨b_,_,pl,_⟩:=I.list J;refine⟨pl.isList.typeIs,λa e=>?_⟩;cases e;obtain⟨o,n,e,c,hd,_⟩:=pl;exact⟨o,e,hd⟩
  . refine⟨⟨o,I.kIn p o j,G⟩,λa e=>?_⟩;cases e;exact⟨o,I.kIn _ o j,hd⟩
  . have z:∃o,s.heap.get? p=some o/\o.ExactDict:=by
     rcases j with⟨kvs,j⟩ | ⟨kvs,j⟩
     . obtain⟨_,_,_,_,o,_,_,e,ex,_⟩:=I.hok p _ j;exact⟨o,e,ex⟩
     obtain⟨_,_,_,_,o,_,_,e,ex,_⟩:=I.hok p _ j;exact⟨o,e,ex⟩
    obtain⟨o,e,ex⟩:=z;refine⟨⟨o,e,ex.1⟩,λa e2=>?_⟩;cases e2;exact⟨o,e,ex.2.1⟩
  obtain⟨o,_,_,_,e,ex,_⟩:=I.hok p _ j;refine⟨⟨o,e,ex.1⟩,λa e2=>?_⟩;cases e2;exact⟨o,e,ex.2.1⟩
 | _=>exact False.elim ty
def LU(K:Fg)(T:String)(r:V->Lv->Hp->VK->Prop)(to:TE)(t:TA):TE:=λZ H Q=>to Z H λx H1=>LR K T x H1/\t Z H1 λxs H2=>r x xs H2 Q
variable {o e:Expr}{es:List Expr}{to:TE}{t:TA}{name:Str}{apos cn:Pos}{id:String}{r:V->Lv->Hp->VK->Prop}
theorem dC(pa:PlainAttrs T)(slot:Slot T name id)(J:typeOf (.builtin id)=pure (.type "method_descriptor"))(hm:LD X id r)(ho:PE X o to)(ha:PA X (e::es) t)
 (tU:attributeBase o name X.env (eval o X.env)=eval o X.env:=by rfl)
 (O:((backTo cn (starEach (e::es) X.env)).all (λx=>!x.1) && (backToKw cn (keywordEach [] X.env)).all (λx=>x.1.isSome)
  && decide ((e::es).length+([]:List Keyword).length+(if ([]:List Keyword).isEmpty then 0 else 1)<30))=true:=by rfl)
 (tV:(apos.endLine == cn.line)=true:=by rfl) (hs:starEach (e::es) X.env=(false,eval e X.env)::starEach es X.env:=by rfl) (U:(backTo cn (starEach es X.env)).any (·.1)=false:=by rfl) :
 PE X (.Call (.Attribute o name apos) (e::es) [] cn) (LU X.K T r to t):=by
 intro ad s Z H Q I h;refine wpAny_Call_method_late tU O tV rfl (thn (ho ad s Z H _ I h) λv s1 Zx=>aW Zx λx H1 j G Zy=>Zy.elim λty q1=>?_);obtain⟨h1,h2⟩:=LS j G ty;refine⟨T,id,pa,slot,J,h1,h2,?_⟩;have z:=ha cn ad s1 Z H1 _ j q1;rw[hs]at z ⊢;refine Dw (by show(false || (backTo cn (starEach es X.env)).any (·.1))=false;rw[U]<;>rfl) (Dx ?_);exact thn z λus s2 Zz=>aW Zz λvs H2 Y r2 q2=>hm ad s2 Z H2 x vs v us Q Y G r2 q2
end
def oW(X:Cx)(id:String)(r:V->Lv->Hp->VK->Prop):Prop:=
 ∀(ad:Po) (s:Shared) (Z:St) (H:Hp) (x:V) (xs:Lv) (v:Value) (us:Lw) (Q:VK),Inv X ad Z H s->RelV x v->aY xs us->r x xs H Q ->
  wpAny (model X.prog X.w) X.A (call (.builtin id) (v::us)) (EP X ad Z Q) X.xe s
theorem aY.one:∀{x:V}{us:Lw},aY [x] us->∃u,us=[u]/\RelV x u
 | _,_,.cons r .nil=>⟨_,rfl,r⟩
section
variable {H:Hp}{l:Addr}{xs ys zs:Lv}
theorem Inv.lset{b_ its':Lw}{f:Av->Av}(I:Inv X ad Z H s)(j:H l=some (.lst xs))
 (e:s.heap.get? l=some { cls:=.type "list",data:=.seq b_.toArray n }) (G:f b_.toArray=its'.toArray) (O:aY ys its') (hz:ys.length<=sizeLine) :
 Inv X ad Z (af H l (.lst ys)) { s with heap:=s.heap.update l (Obj.mapSeq f),toks:=t' }:=by
 have q:=PySem.IsL.update e f;rw[G]at q;refine I.write (x:=l) (e:=l) (by rw[j];exact trivial) (.inl rfl) (λb' u z J=>(Dy s.heap (Obj.mapSeq f) (gu z)).trans J) ⟨_,q⟩ ?_;exact⟨hz,its',_,O,q⟩
theorem Inv.lnew{b_:Lw}(I:Inv X ad Z H s)(j:aY ys b_)(hz:ys.length<=sizeLine) :
 Inv X ad Z (af H s.heap.objs.size (.lst ys)) { s with heap:=s.heap.push { cls:=.type "list",data:=.seq b_.toArray },toks:=t' }:=
 I.laid (λ_ _ q=>cb _ q) (aG _) ⟨hz,b_,0,j,dG _ rfl⟩
theorem Inv.fresh(I:Inv X ad Z H s):H s.heap.objs.size=none:=I.hok.fresh (aG _)
theorem Inv.lstM(I:Inv X ad Z H s)(j:H l=some (.lst xs)):xs.length<=sizeLine/\∃(b_:Lw) (n:Nat),aY xs b_/\xs.length=b_.length/\s.heap.get? l=some { cls:=.type "list",data:=.seq b_.toArray n }:=by
 obtain⟨z,b_,n,r,e⟩:=I.hok l _ j;exact⟨z,b_,n,r,r.length,e⟩
theorem ZA(h:n<=sizeLine):Builtin.List.listTooLong n=false:=by
 unfold Builtin.List.listTooLong;exact cq (by omega)
end
inductive LV (H:Hp) (Q:VK):V->Lv->Prop where
 | mk {l:Addr}{xs:Lv}{y:V} (_:H l=some (.lst xs)) (_:xs.length<sizeLine) (_:Q .non (af H l (.lst (xs++[y])))):LV H Q (.ref l) [y]
def ZB:V->Lv->Hp->VK->Prop:=λx vs H Q=>LV H Q x vs
theorem qM:oW X "list.append" ZB:=by
 intro ad s Z H x vs v us Q I O J h;obtain @⟨l,xs,y,j,hz,q⟩:=h;cases O;obtain⟨u,rfl,G⟩:=J.one;obtain⟨z,b_,n,r,U,e⟩:=I.lstM j;refine Dz F.slot_list_append ⟨_,e,rfl⟩ F.entry_list_append (F.args_list_append_2 _ _) (PySem.list_append l b_.toArray n u (by rw[fY];omega)) ⟨e,?_⟩;refine⟨.non,_,I.lset (its':=b_++[u]) j e (by simp) (r.append (.cons G .nil)) ?_,rfl,q⟩;rw[bH,jp];omega
inductive LW (H:Hp) (Q:VK):V->Lv->Prop where
 | mk {l:Addr}{b:Addr}{xs:Lv}{zs:Lv} (_:H l=some (.lst xs)) (_:H b=some (.lst zs)) (_:xs.length+zs.length<=sizeLine) (_:Q .non (af H l (.lst (xs++zs)))):LW H Q (.ref l) [.ref b]
def ZC:V->Lv->Hp->VK->Prop:=λx vs H Q=>LW H Q x vs
theorem nj:oW X "list.extend" ZC:=by
 intro ad s Z H x vs v us Q I rx rv h;obtain @⟨l,b,xs,zs,G,O,hz,q⟩:=h;cases rx;obtain⟨u,rfl,Y⟩:=rv.one;cases Y;obtain⟨z,b_,n,r,hl,e⟩:=I.lstM G;obtain⟨z2,j,n2,U,xJ,e2⟩:=I.lstM O;have hsz:b_.toArray.size+j.toArray.size<=sizeLine:=by rw[fY,fY];omega
 have J:¬(!b_.toArray.isEmpty && Builtin.List.listTooLong (b_.toArray.size+j.toArray.size))=true:=by
  rw[ZA hsz,vq];exact cV
 refine Dz F.slot_list_extend ⟨_,e,rfl⟩ F.entry_list_extend (F.args_list_extend_2 _ _)
  (AutoSeq1.list_extend_list_list_0 l b_.toArray n b j.toArray n2 J (by rw[fY];omega) (by omega)) ⟨e,e2,?_⟩
 refine⟨.non,_,I.lset (its':=b_++j) G e (by simp) (r.append U) ?_,rfl,q⟩;rw[bH];omega
def ZE:R2:=λx y H Q=>∃l b xs zs,x=.ref l/\y=.ref b/\H l=some (.lst xs)/\H b=some (.lst zs)/\xs.length+zs.length<=sizeLine/\∀p,H p=none->Q (.ref p) (af H p (.lst (xs++zs)))
theorem ZF:cD X (binaryOp .Add) ZE:=by
 intro ad s Z H x y v u Q I Y ry h;obtain⟨l,b,xs,zs,rfl,rfl,O,J,hz,q⟩:=h;cases Y;cases ry;obtain⟨z,b_,n,r,hl,e⟩:=I.lstM O;obtain⟨z2,j,n2,U,xJ,e2⟩:=I.lstM J;refine PySem.P.add_list e e2 ?_ (by rw[fY,fY];omega);have G:b_.toArray++j.toArray=(b_++j).toArray:=by simp
 rw[G];exact⟨.ref _,_,I.lnew (t':=s.toks) (r.append U) (by rw[bH];omega),rfl,q _ I.fresh⟩
section
variable {κ:Type} [DecidableEq κ]
def bc(kvs:List (κ×V))(k:κ):Option V:=(kvs.find? λkv=>decide (kv.1=k)).map (·.2)
def cK(kvs:List (κ×V))(k:κ)(v:V):List (κ×V):=
 if (kvs.any λkv=>decide (kv.1=k))=true then kvs.map (λkv=>if kv.1=k then(kv.1,v) else kv) else kvs++[(k,v)]
def nn(kvs:List (κ×V))(k:κ):List (κ×V):=kvs.filter λkv=>decide (kv.1≠k)
theorem jX{p:κ×V}{r:List (κ×V)}{k:κ}(e:p.1=k):bc (p::r) k=some p.2:=by simp[bc,sk,e]
theorem i7{p:κ×V}{r:List (κ×V)}{k:κ}(e:¬p.1=k):bc (p::r) k=bc r k:=by simp[bc,sk,e]
theorem xK(k:κ):∀kvs:List (κ×V),(kvs.any λkv=>decide (kv.1=k))=(bc kvs k).isSome
 | []=>rfl
 | p::r=>by
  rw[sj]
  by_cases e:p.1=k
  . simp only[jX e,bL e,VG,Option.isSome_some]
  rw[i7 e,cq e,Bool.false_or];exact xK k r
theorem LX(k j:κ)(y:V):∀kvs:List (κ×V),bc (kvs.map λkv=>if kv.1=k then(kv.1,y) else kv) j=(bc kvs j).map λx=>if j=k then y else x
 | []=>rfl
 | p::r=>by
  have G:=LX k j y r;rw[bS]
  by_cases h:p.1=k
  . rw[aj h]
    by_cases e:p.1=j
    . rw[jX (p:=(p.1,y)) e,jX e,sq,aj (e.symm.trans h)]
    rw[i7 (p:=(p.1,y)) e,i7 e,G]
  rw[ag h]
  by_cases e:p.1=j
  . rw[jX (p:=p) e,jX e,sq,ag (λz=>h (e.trans z))]
  rw[i7 (p:=p) e,i7 e,G]
theorem LY(k j:κ)(y:V):∀kvs:List (κ×V),bc kvs k=none->bc (kvs++[(k,y)]) j=if j=k then some y else bc kvs j
 | [],_=>by
  by_cases e:k=j
  . rw[aj e.symm];exact jX (p:=(k,y)) e
  rw[ag (λz=>e z.symm)];exact i7 (p:=(k,y)) e
 | p::r,hn=>by
  rw[su];have G:¬p.1=k:=λz=>by rw[jX z]at hn;cases hn
  rw[i7 G]at hn;have J:=LY k j y r hn
  by_cases e:p.1=j
  . rw[jX e,jX e,ag (λz=>G (e.trans z))]
  rw[i7 e,i7 e,J]
theorem AN(kvs:List (κ×V))(k j:κ)(y:V):bc (cK kvs k y) j=if j=k then some y else bc kvs j:=by
 unfold cK
 by_cases a:(kvs.any λkv=>decide (kv.1=k))=true
 . rw[aj a,LX];rw[xK]at a
   by_cases e:j=k
   . obtain⟨x,z⟩:=JN.mp a;rw[aj e,e,z,sq,aj rfl]
   rw[ag e];cases bc kvs j with
   | none=>rfl
   | some x=>rw[sq,ag e]
 rw[ag a];refine LY k j y kvs ?_;rw[xK]at a;cases q:bc kvs k with
 | none=>rfl
 | some x=>rw[q]at a;exact(a rfl).elim
theorem xL(kvs:List (κ×V))(k:κ)(v:V):(cK kvs k v).length<=kvs.length+1:=by
 unfold cK;split
 . rw[al];omega
 rw[bH,cr,jQ];omega
theorem ED{kvs:List (κ×V)}{k:κ}(v:V)(h:bc kvs k=none):cK kvs k v=kvs++[(k,v)]:=by
 unfold cK;rw[xK,h];exact ag (by decide)
theorem gJ.isSome_eq{o:Option V}{u:Option Value}(r:gJ o u):o.isSome=u.isSome:=by
 cases o with
 | none=>cases u with
  | none=>rfl
  | some _=>exact(show False from r).elim
 | some _=>cases u with
  | none=>exact(show False from r).elim
  | some _=>rfl
theorem gJ.getD{o:Option V}{u:Option Value}{d:V}{d':Value}(r:gJ o u)(j:RelV d d'):RelV (o.getD d) (u.getD d'):=by
 cases o with
 | none=>cases u with
  | none=>exact j
  | some _=>exact(show False from r).elim
 | some _=>cases u with
  | none=>exact(show False from r).elim
  | some _=>exact r
theorem KV.val{kvs:List (κ×V)}{vs:List (κ×Value)}(r:KV kvs vs)(k:κ):gJ (bc kvs k) (valueAt vs k):=by
 unfold KV at r
 induction r with
 | nil=>exact True.intro
 | @cons p q ps G h t J=>
  obtain⟨h1,h2⟩:=h
  by_cases e:p.1=k
  . have j:q.1=k:=h1.symm.trans e;have b:valueAt (q::G) k=some q.2:=by simp[valueAt,sk,j]
    rw[jX e,b];exact h2
  have j:¬q.1=k:=λz=>e (h1.trans z);have b:valueAt (q::G) k=valueAt G k:=by simp[valueAt,sk,j]
  rw[i7 e,b];exact J
theorem KV.any{kvs:List (κ×V)}{vs:List (κ×Value)}(r:KV kvs vs)(k:κ):(kvs.any λkv=>decide (kv.1=k))=vs.any λkv=>decide (kv.1=k):=by
 unfold KV at r
 induction r with
 | nil=>rfl
 | cons h t j=>rw[sj,sj,j,h.1]
theorem KV.repl{kvs:List (κ×V)}{vs:List (κ×Value)}(r:KV kvs vs)(k:κ){y:V}(G:RelV y u) :
 KV (kvs.map λkv=>if kv.1=k then(kv.1,y) else kv) (vs.map λkv=>if kv.1=k then(kv.1,u) else kv):=by
 unfold KV at r ⊢
 induction r with
 | nil=>exact .nil
 | @cons p q ps J h t j=>
  rw[bS,bS];refine .cons ?_ j;obtain⟨h1,h2⟩:=h
  by_cases e:p.1=k
  . rw[aj e,aj (h1.symm.trans e)];exact⟨h1,G⟩
  rw[ag e,ag (λz=>e (h1.trans z))];exact⟨h1,h2⟩
theorem KV.put{kvs:List (κ×V)}{vs:List (κ×Value)}(r:KV kvs vs)(k:κ){y:V}(j:RelV y u):KV (cK kvs k y) (stored vs k u):=by
 unfold cK stored;rw[r.any k]
 by_cases e:(vs.any λkv=>decide (kv.1=k))=true
 . rw[aj e,aj e];exact r.repl k j
 rw[ag e,ag e];exact Paired.snoc r ⟨rfl,j⟩
theorem KV.drop{kvs:List (κ×V)}{vs:List (κ×Value)}(r:KV kvs vs)(k:κ):KV (nn kvs k) (without vs k):=by
 unfold KV at r ⊢;unfold nn without
 induction r with
 | nil=>exact .nil
 | @cons p q ps J h t j=>
  obtain⟨h1,h2⟩:=h;rw[qp,qp]
  by_cases e:p.1=k
  . have a:¬decide (p.1≠k)=true:=by simp[e]
    have b:¬decide (q.1≠k)=true:=by simp[h1.symm.trans e]
    rw[ag a,ag b];exact j
  have G:¬q.1=k:=λz=>e (h1.trans z);have a:decide (p.1≠k)=true:=by simp[e]
  have b:decide (q.1≠k)=true:=by simp[G]
  rw[aj a,aj b];exact .cons ⟨h1,h2⟩ j
theorem KV.length{kvs:List (κ×V)}{vs:List (κ×Value)}(r:KV kvs vs):kvs.length=vs.length:=Vv r
theorem ZG(kvs:List (κ×V))(k:κ):(nn kvs k).length<=kvs.length:=sw _ _
end
theorem lW{k:ao}(r:RelV (kV k) u):(cx P w).is k u=true:=by
 cases k with
 | inl i=>obtain⟨t,e⟩:=(show∃t,u=Value.int i t from r);subst e;exact Wr P w i t
 | inr x=>obtain⟨t,e⟩:=(show∃t,u=Value.str x t from r);subst e;exact tq P w x t
theorem LZ:∀{ks:List ao}{us:Lw},aY (ks.map kV) us->ItemsAre (cx P w) ks us
 | [],_,r=>by rw[zW]at r;cases r;exact .nil
 | k::ks,_,r=>by
  rw[bS]at r;cases r with
  | cons h t=>exact .cons (lW h) (LZ t)
abbrev KT (H:Hp):List (List NI×V)->List (List NI×Addr×Value)->Prop:=Paired λp q=>p.1=q.1/\kD H p.1 q.2.1/\RelV p.2 q.2.2
theorem KT.val{H:Hp}{xs:List (List NI×Addr×Value)}(r:KT H kvs xs)(k:List NI):gJ (bc kvs k) ((atKey xs k).map (·.2)):=by
 induction r with
 | nil=>exact True.intro
 | @cons p q ps G h t J=>
  obtain⟨h1,_,h2⟩:=h
  by_cases e:p.1=k
  . have j:q.1=k:=h1.symm.trans e;have b:atKey (q::G) k=some q.2:=by simp[atKey,sk,j]
    rw[jX e,b];exact h2
  have j:¬q.1=k:=λz=>e (h1.trans z);have b:atKey (q::G) k=atKey G k:=by simp[atKey,sk,j]
  rw[i7 e,b];exact J
theorem KT.repl{H:Hp}{xs:List (List NI×Addr×Value)}(r:KT H kvs xs)(k:List NI){y:V}(J:RelV y u) :
 KT H (kvs.map λkv=>if kv.1=k then(kv.1,y) else kv) (xs.map (putAt k u)):=by
 induction r with
 | nil=>exact .nil
 | @cons p q ps O h t G=>
  rw[bS,bS];refine .cons ?_ G;obtain⟨h1,h2,j⟩:=h;unfold putAt
  by_cases e:p.1=k
  . rw[aj e,aj (h1.symm.trans e)];exact⟨h1,h2,J⟩
  rw[ag e,ag (λz=>e (h1.trans z))];exact⟨h1,h2,j⟩
theorem KT.put{H:Hp}{xs:List (List NI×Addr×Value)}(r:KT H kvs xs)(k:List NI){y:V}(z:kD H k b)(j:RelV y u) :
 KT H (cK kvs k y) (storedH xs k b u):=by
 have e:(kvs.any λkv=>decide (kv.1=k))=(atKey xs k).isSome:=by
  rw[xK,(r.val k).isSome_eq,VH]
 unfold cK storedH;rw[e]
 by_cases q:(atKey xs k).isSome=true
 . rw[aj q,aj q];exact r.repl k j
 rw[ag q,ag q];exact Paired.snoc r ⟨rfl,z,j⟩
theorem KT.keeps{H:Hp}{xs:List (List NI×Addr×Value)}(r:KT H kvs xs)(j:∀b ys,H b=some (.tup ys)->H' b=some (.tup ys)):KT H' kvs xs:=
 Paired.mapP r λ_ _ z=>⟨z.1,z.2.1.keeps j,z.2.2⟩
section
variable {H:Hp}{h:Heap}
theorem L0{u:HO}(ok:cf P w H h)(e:Rd H a u):bY P w H h a u:=e.ok ok
theorem oZ{kvs:List (ao×V)}(ok:cf P w H h)(e:Rd H a (.dK kvs)):kvs.length<=sizeLine/\(a == sysModules)=false/\∃vs,KV kvs vs/\h.DictOf (cx P w) a vs:=
 show bY P w H h a (.dK kvs) from L0 ok e
theorem lX{kvs:List (ao×V)}(ok:cf P w H h)(e:H a=some (.dK kvs)):kvs.length<=sizeLine/\(a == sysModules)=false/\∃vs,KV kvs vs/\h.DictOf (cx P w) a vs:=oZ ok (.inl e)
theorem ZH{ks:List NI}{vs:Lv}{us:Lw}(ok:cf P w H h)(x:Kp H ks vs)(r:aY vs us):iY P w h ks us:=by
 induction x generalizing us with
 | nil=>cases r;exact .nil
 | @cons i v ks vs p _ G=>
  cases r with
  | cons j O=>
   refine .cons ?_ (G O);cases i with
   | inl k=>
    have p:v=kV k:=p;subst p;exact lW (P:=P) (w:=w) j
   | inr l=>
    obtain⟨b,rfl,e⟩:=p;cases j;obtain⟨_,b_,J,o,h1,h2,n,z⟩:=(show bY P w H h b (.tup (l.map kV)) from ok b _ e);exact⟨b,rfl,o,b_.toArray,n,h1,h2,z,by simpa using LZ J⟩
theorem tX{ks:List NI}(ok:cf P w H h)(e:kD H ks a):(qD P w).is h ks a:=by
 obtain⟨vs,e,x⟩:=e;obtain⟨_,b_,r,o,h1,h2,n,j⟩:=(show bY P w H h a (.tup vs) from ok a _ e);exact⟨o,b_.toArray,n,h1,h2,j,by simpa using ZH ok x r⟩
theorem qN(ok:cf P w H h)(e:Rd H a (.dT kvs)):kvs.length<=sizeLine/\(a == sysModules)=false /\
 ∃xs,KT H kvs xs/\h.DictOfH (qD P w) a xs:=by
 obtain⟨z,y,xs,r,o,es,ep,h1,h2,G,J,O⟩:=(show bY P w H h a (.dT kvs) from L0 ok e);refine⟨z,y,xs,r,o,es,ep,h1,h2,G,J,λx hx=>?_,O⟩;have all:∀{l:List (List NI×V)}{m:List (List NI×Addr×Value)},KT H l m->∀x∈m,(qD P w).is h x.1 x.2.1:=by
  intro l m q
  induction q with
  | nil=>intro x hx;exact nomatch hx
  | @cons p q ps Y j t U=>
   intro x hx
   rcases be.mp hx with e | hx
   . subst e;exact tX ok (by rw[<-j.1];exact j.2.1)
   exact U x hx
 exact all r x hx
theorem ZI(ok:cf P w H h)(e:H a=some (.dT kvs)):kvs.length<=sizeLine/\(a == sysModules)=false /\
 ∃xs,KT H kvs xs/\h.DictOfH (qD P w) a xs:=qN ok (.inl e)
end
def cO(H:Hp)(a:Addr)(y:V)(r:Option V):Prop:=
 (∃kvs k,Rd H a (.dK kvs)/\y=kV k/\r=bc kvs k)\/∃kvs k b,Rd H a (.dT kvs)/\y=.ref b/\kD H k b/\r=bc kvs k
def gb(H:Hp)(a:Addr)(y v:V)(H':Hp):Prop:=
 (∃kvs k,H a=some (.dK kvs)/\y=kV k/\kvs.length<sizeLine/\H'=af H a (.dK (cK kvs k v))) \/
 ∃kvs k b,H a=some (.dT kvs)/\y=.ref b/\kD H k b/\kvs.length<sizeLine/\H'=af H a (.dT (cK kvs k v))
theorem cO.k{H:Hp}{kvs:List (ao×V)}{k:ao}(e:H a=some (.dK kvs)):cO H a (kV k) (bc kvs k):=.inl ⟨kvs,k,.inl e,rfl,rfl⟩
theorem cO.t{H:Hp}{k:List NI}(e:H a=some (.dT kvs))(j:kD H k b):cO H a (.ref b) (bc kvs k):=.inr ⟨kvs,k,b,.inl e,rfl,j,rfl⟩
theorem gb.k{H:Hp}{kvs:List (ao×V)}{k:ao}(e:H a=some (.dK kvs))(j:kvs.length<sizeLine):gb H a (kV k) v (af H a (.dK (cK kvs k v))):=.inl ⟨kvs,k,e,rfl,j,rfl⟩
theorem gb.t{H:Hp}{k:List NI}(e:H a=some (.dT kvs))(j:kD H k b)(z:kvs.length<sizeLine) :
 gb H a (.ref b) v (af H a (.dT (cK kvs k v))):=.inr ⟨kvs,k,b,e,rfl,j,z,rfl⟩
section
variable {H:Hp}{y:V}{r:Value}{o:Option V}{E:VP}
theorem Inv.big(I:Inv X ad Z H s):sysModules<s.heap.objs.size:=by
 have h:mainGlobals<s.heap.objs.size:=(I.mod.glob.keeps I.bk).lt;exact wU (by decide) h
theorem ZJ{Q:VP}(hu:A.units+64<cLine)(I:Inv X ad Z H s)(g:cO H a y (some v))(Y:RelV y u)(h:∀j s',Inv X ad Z H s'->RelV v j->Q j s') :
 wpAny (model X.prog X.w) A (getItem (.ref a) u) Q E s:=by
 rcases g with⟨kvs,k,e,G,l⟩ | ⟨kvs,k,b,e,G,eb,l⟩
 . subst G;obtain⟨z,hd,vs,U,dd⟩:=oZ I.hok e;obtain⟨j,O,J⟩:=gJ.some_of (v:=v) (o:=valueAt vs k) (by rw[l];exact U.val k);exact wpAny_getItem_of (lW Y) dd.mapOf O (h j _ (I.tok _) J)
 subst G;cases (show u=Value.ref b from Y);obtain⟨z,hd,xs,U,dd⟩:=qN I.hok e;obtain⟨j,O,J⟩:=gJ.some_of (v:=v) (o:=(atKey xs k).map (·.2)) (by rw[l];exact U.val k);obtain⟨p,hp,EE⟩:=aqZ.mp O;refine wpAny_getItem_heap (vy hu) (tX I.hok eb) dd hp ?_;rw[EE];exact h j _ (I.tok _) J
theorem ZK{Q:VP}(U:A.units+64<cLine)(I:Inv X ad Z H s)(g:cO H a y o)(J:RelV y u)(h:∀s',Inv X ad Z H s'->Q (.bool o.isSome) s') :
 wpAny (model X.prog X.w) A (compareOp .In u (.ref a)) Q E s:=by
 rcases g with⟨kvs,k,e,j,l⟩ | ⟨kvs,k,b,e,j,O,l⟩
 . subst j;obtain⟨z,hd,vs,G,dd⟩:=oZ I.hok e;refine wpAny_in_of (lW J) hd dd.mapOf ?_;rw[<-(G.val k).isSome_eq,<-l];exact h _ (I.tok _)
 subst j;cases (show u=Value.ref b from J);obtain⟨z,hd,xs,G,dd⟩:=qN I.hok e;refine wpAny_in_heap (vy U) (tX I.hok O) hd dd ?_;have q:=(G.val k).isSome_eq;rw[VH]at q;rw[<-q,<-l];exact h _ (I.tok _)
theorem ZL{Q:VP}(U:A.units+64<cLine)(I:Inv X ad Z H s)(g:cO H a y o)(J:RelV y u)(h:∀s',Inv X ad Z H s'->Q (.bool (!o.isSome)) s') :
 wpAny (model X.prog X.w) A (compareOp .NotIn u (.ref a)) Q E s:=by
 rcases g with⟨kvs,k,e,j,l⟩ | ⟨kvs,k,b,e,j,O,l⟩
 . subst j;obtain⟨z,hd,vs,G,dd⟩:=oZ I.hok e;refine wpAny_notIn_of (lW J) hd dd.mapOf ?_;rw[<-(G.val k).isSome_eq,<-l];exact h _ (I.tok _)
 subst j;cases (show u=Value.ref b from J);obtain⟨z,hd,xs,G,dd⟩:=qN I.hok e;refine wpAny_notIn_heap (vy U) (tX I.hok O) hd dd ?_;have q:=(G.val k).isSome_eq;rw[VH]at q;rw[<-q,<-l];exact h _ (I.tok _)
theorem vH{h':Heap}{ob:HO}(I:Inv X ad Z H s)(J:xr (H a))(hs:Heap.SameBut a s.heap h')(G:∃q,h'.get? a=some q)(new:bY X.prog X.w (af H a ob) h' a ob) :
 Inv X ad Z (af H a ob) { s with heap:=h',toks:=t' }:=
 I.write (x:=a) (e:=a) J (.inl rfl) (λb q j z=>(hs.2 b j).trans z) G new
theorem vI{h':Heap}{kvs:List (ao×V)}{vs:List (ao×Value)}(z:kvs.length<=sizeLine)(hd:(a == sysModules)=false)(j:KV kvs vs)(dd:h'.DictOf (cx P w) a vs) :
 bY P w H' h' a (.dK kvs):=⟨z,hd,vs,j,dd⟩
theorem ZM{Q:Unit->Shared->Prop}(hu:A.units+64<cLine)(I:Inv X ad Z H s)(g:gb H a y v H')(ry:RelV y u)(rv:RelV v r)(h:∀s',Inv X ad Z H' s'->Q () s') :
 wpAny (model X.prog X.w) A (setItem (.ref a) u r) Q E s:=by
 rcases g with⟨kvs,k,e,U,l,O⟩ | ⟨kvs,k,b,e,U,eb,l,O⟩
 . subst U O;obtain⟨z,hd,vs,j,dd⟩:=lX I.hok e;have hz:vs.length<=sizeLine:=by rw[<-j.length];exact z
   have Y:(cK kvs k v).length<=sizeLine:=by have:=xL kvs k v;omega
   refine wpAny_setItem_pairs (hsz:=hz) (lW ry) dd λh' G hs=>h _ ?_;have he:∃q,h'.get? a=some q:=G.elim λq ZN=>ZN.elim λ_ ZO=>ZO.elim λ_ ZP=>ZP.elim λJ _=>⟨q,J⟩;exact vH I (by rw[e];exact True.intro) hs he (vI Y hd (j.put k rv) G)
 subst U O;cases (show u=Value.ref b from ry);obtain⟨z,hd,xs,j,dd⟩:=ZI I.hok e;have hz:xs.length<=sizeLine:=by rw[<-Vv j];exact z
 have Y:(cK kvs k v).length<=sizeLine:=by have:=xL kvs k v;omega
 refine wpAny_setItem_heap (hsz:=hz) (vy hu) (tX I.hok eb) dd λh' G hs=>h _ ?_;obtain⟨q,es,ep,J,h2,h3,h4,_,h5⟩:=G;refine vH I (by rw[e];exact True.intro) hs ⟨q,J⟩ ⟨Y,hd,_,(j.put k eb rv).keeps λc ys ec=>?_,q,es,ep,J,h2,h3,h4,h5⟩;rw[aX (aU ec e (λz=>nomatch z))];exact ec
end
section
variable {H:Hp}{kvs:List (ao×V)} {k:ao}{E:VP}
theorem ZQ{j:Lw}{Q:VP}(I:Inv X ad Z H s)(e:H a=some (.dK kvs))(O:RelV (kV k) u)(l:bc kvs k=some v)(Y:j=[]\/∃x,j=[x])
 (h:∀G s',Inv X ad Z (af H a (.dK (nn kvs k))) s'->RelV v G->Q G s'):wpAny (model X.prog X.w) A (call (.builtin "dict.pop") (.ref a::u::j)) Q E s:=by
 obtain⟨z,hd,vs,J,dd⟩:=lX I.hok e;obtain⟨G,hw,gC⟩:=gJ.some_of (v:=v) (o:=valueAt vs k) (by rw[<-l];exact J.val k);have hp:(keyPart u).isSome=true:=by
  cases k with
  | inl i=>obtain⟨t,q⟩:=(show∃t,u=Value.int i t from O);subst q;rfl
  | inr x=>obtain⟨t,q⟩:=(show∃t,u=Value.str x t from O);subst q;rfl
 have ha:argsOk "dict.pop" ⟨.ref a::u::j,[]⟩:=by
  rcases Y with q | ⟨x,q⟩
  . subst q;exact PySem.F.args_dict_pop_2 _ _
  subst q;exact PySem.F.args_dict_pop_3 _ _ _
 refine sy aq0 dd.typeIs PySem.F.entry_dict_pop ha (meets_dict_pop_there (cx X.prog X.w) a (lW O) j Y hp)
  ⟨vs,G,dd,by rw[<-J.length];exact z,hw,λh' U hs=>h G _ ?_ gC⟩
 have he:∃q,h'.get? a=some q:=U.elim λq ZR=>ZR.elim λ_ ZS=>ZS.elim λ_ ZT=>ZT.elim λhq _=>⟨q,hq⟩;exact vH I (by rw[e];exact True.intro) hs he (vI (bX (ZG kvs k) z) hd (J.drop k) U)
end
def L1(i:Expr):Prop:=∀z j,subscripted i false z j=operate [z,j] (getItem z j)
theorem ZU{prog:Program}{E:VP}{env:Env}{value j:Expr}{id:String}{Q:VP}
 (hl:typeLookup (.type T) "__getitem__"=pure (some (.builtin id))) (hs:L1 j)
 (h:wpAny (model prog w) A (eval value env) (λo U=>wpAny (model prog w) A (eval j env) (λi z=>z.TypeIs o T/\wpAny (model prog w) A (getItem o i) Q E z) E U) E s) :
 wpAny (model prog w) A (eval (.Subscript value j pos) env) Q E s:=by
 refine JO (d6 h (λo U h₁=>d6 h₁ (λi z J=>?_) λ_ _ x=>x) λ_ _ x=>x);obtain⟨O,J⟩:=J;unfold subscriptTail;refine ae ?_;rw[getitemInPython_of_ne O.not_modules];refine ae (zQ O hl ?_);have G:wpAny (model prog w) A (subscripted j false o i) (λr Y=>wpAny (model prog w) A (letTemporaryGo value o r >>= λ_=>pure r) Q E Y) E z:=by
  rw[hs o i];exact wpAny_operating (d6 J (λr Y h₃=>ae (wpAny_letTemporaryGo (aq h₃))) λ_ _ x=>x)
 first
  | exact aq (ae G)
  | exact ae (aq (ae G))
  | exact ae G
theorem ZV{H:Hp}{y:V}{o:Option V}(I:Inv X ad Z H s)(g:cO H a y o):s.TypeIs (.ref a) "dict":=by
 rcases g with⟨kvs,k,e,_,_⟩ | ⟨kvs,k,b,e,_,_,_⟩
 . obtain⟨_,_,vs,_,dd⟩:=oZ I.hok e;exact dd.typeIs
 obtain⟨_,_,xs,_,dd⟩:=qN I.hok e;exact dd.typeIs
inductive L3 (Q:VK) (y:V) (H2:Hp):V->Prop where
 | mk {a:Addr}{v:V} (_:cO H2 a y (some v)) (_:Q v H2):L3 Q y H2 (.ref a)
def ZW(td ty:TE):TE:=λZ H Q=>td Z H λx H1=>ty Z H1 λy H2=>L3 Q y H2 x
inductive L4 (Q:VK) (y:V) (H2:Hp):V->Prop where
 | mk {a:Addr} (o:Option V) (_:cO H2 a y o) (_:Q (.bl o.isSome) H2):L4 Q y H2 (.ref a)
def ZX(ty td:TE):TE:=λZ H Q=>ty Z H λy H1=>td Z H1 λx H2=>L4 Q y H2 x
inductive L6 (Q:VK) (y:V) (H2:Hp):V->Prop where
 | mk {a:Addr} (o:Option V) (_:cO H2 a y o) (_:Q (.bl (!o.isSome)) H2):L6 Q y H2 (.ref a)
def ZY(ty td:TE):TE:=λZ H Q=>ty Z H λy H1=>td Z H1 λx H2=>L6 Q y H2 x
inductive L7 (D:Ends) (Z:St) (v:V) (y:V) (H3:Hp):V->Prop where
 | mk {a:Addr}{j:Hp} (_:gb H3 a y v j) (_:D.nx Z j):L7 D Z v y H3 (.ref a)
def ZZ(td ty tv:TE):TS:=λD Z H=>tv Z H λv H1=>td Z H1 λx H2=>ty Z H2 λy H3=>L7 D Z v y H3 x
section
variable {o i e value:Expr}{pos' vF:Pos}{td ty tv:TE}
theorem qO(hu:X.A.units+64<cLine)(ho:PE X o td)(hi:PE X i ty)(hs:L1 i):PE X (.Subscript o i pos) (ZW td ty):=by
 intro ad s Z H Q I h;refine ZU PySem.F.slot_dict_getitem.lookup hs (thn (ho ad s Z H _ I h) λu s1 J=>aW J λx H1 z rx q1=>thn (hi ad s1 Z H1 _ z q1) λiv s2 O=>aW O λy H2 j ry U=>?_);obtain @⟨a,v,g,q2⟩:=U;obtain rfl:u=Value.ref a:=rx;exact⟨ZV j g,ZJ hu j g ry λw' s3 G Y=>⟨v,H2,G,Y,q2⟩⟩
theorem vJ(hu:X.A.units+64<cLine)(hi:PE X i ty)(Y:PE X o td):PC X .In i o (ZX ty td):=by
 intro ad s Z H Q I h;refine thn (hi ad s Z H _ I h) λiv s1 J=>aW J λy H1 j ry q1=>thn (Y ad s1 Z H1 _ j q1) λu s2 O=>aW O λx H2 z rx U=>?_;obtain @⟨a,ov,g,q2⟩:=U;obtain rfl:u=Value.ref a:=rx;exact ZK hu z g ry λs3 G=>⟨.bl ov.isSome,H2,G,rfl,q2⟩
theorem EF(hu:X.A.units+64<cLine)(hi:PE X i ty)(Y:PE X o td):PC X .NotIn i o (ZY ty td):=by
 intro ad s Z H Q I h;refine thn (hi ad s Z H _ I h) λiv s1 J=>aW J λy H1 j ry q1=>thn (Y ad s1 Z H1 _ j q1) λu s2 O=>aW O λx H2 z rx U=>?_;obtain @⟨a,ov,g,q2⟩:=U;obtain rfl:u=Value.ref a:=rx;exact ZL hu z g ry λs3 G=>⟨.bl (!ov.isSome),H2,G,rfl,q2⟩
theorem i8(hu:X.A.units+64<cLine)(ho:PE X o td)(hi:PE X i ty)(hv:PE X value tv)(hs:swapsWith value (some (.Subscript o i pos')) pos.line X.env=pure false) :
 PS X (.Assign [.Subscript o i pos'] value pos) (ZZ td ty tv):=by
 intro ad s Z H D I h;refine wpAny_Assign_Subscript (thn (hv ad s Z H _ I h) λr s1 U=>aW U λv H1 z rv q1=>thn (ho ad s1 Z H1 _ z q1) λu s2 Y=>aW Y λx H2 G rx q2=>thn (hi ad s2 Z H2 _ G q2) λiv s3 a0=>aW a0 λy H3 J ry a1=>?_) hs;obtain @⟨a,j,g,q3⟩:=a1;obtain rfl:u=Value.ref a:=rx;exact ZM hu J g ry rv λs4 O=>⟨Z,j,O,q3⟩
end
theorem L8{H:Hp}(h:Heap)(j:sysModules<h.objs.size):bY P w H (h.push { cls:=.type "dict",data:=.dict #[] }) h.objs.size (.dK []):=
 ⟨dz _,wM.mpr (gu (cR j)),[],.nil,Heap.DictOf.new h⟩
theorem aae{H:Hp}(h:Heap)(j:sysModules<h.objs.size):bY P w H (h.push { cls:=.type "dict",data:=.dict #[] }) h.objs.size (.dT []):=
 ⟨dz _,wM.mpr (gu (cR j)),[],.nil,_,#[],0,dG _ rfl,⟨rfl,rfl,rfl⟩,rfl,rfl,kB⟩
def aaf:TE:=λ_ H Q=>∀p,H p=none->Q (.ref p) (af H p (.dK []))
def aag:TE:=λ_ H Q=>∀p,H p=none->Q (.ref p) (af H p (.dT []))
theorem aah:PE X (.Dict [] [] pos) aaf:=λad s Z H Q I h=>
 wpAny_Dict_empty ⟨.ref s.heap.objs.size,_,I.laid (a:=s.heap.objs.size) (o:=.dK []) (t':=s.toks) (λ_ _ q=>cb _ q) (aG _) (L8 s.heap I.big),rfl,h _ (I.hok.fresh (aG _))⟩
theorem aai:PE X (.Dict [] [] pos) aag:=λad s Z H Q I h=>
 wpAny_Dict_empty ⟨.ref s.heap.objs.size,_,I.laid (a:=s.heap.objs.size) (o:=.dT []) (t':=s.toks) (λ_ _ q=>cb _ q) (aG _) (aae s.heap I.big),rfl,h _ (I.hok.fresh (aG _))⟩
def EG:List (TE×TE)->St->Hp->(List (V×V)->Hp->Prop)->Prop
 | [],_,H,Q=>Q [] H
 | (tk,tv)::r,Z,H,Q=>tk Z H λx H1=>tv Z H1 λy H2=>EG r Z H2 λps H3=>Q ((x,y)::ps) H3
abbrev VV:List (V×V)->List (Value×Value)->Prop:=Paired λp q=>RelV p.1 q.1/\RelV p.2 q.2
def AO(X:Cx)(pos:Pos)(j:List (Option Expr))(G:List Expr)(z:List (TE×TE)):Prop:=
 ∀(ad:Po) (s:Shared) (Z:St) (H:Hp) (Q:List (V×V)->Hp->Prop),Inv X ad Z H s->EG z Z H Q ->
  wpAny (model X.prog X.w) X.A (evalPairs (pairTrees j G X.env pos)) (λvs s'=>∃ps H',Inv X ad Z H' s'/\VV ps vs/\Q ps H') X.xe s
theorem L9:AO X pos [] [] []:=λad s Z H Q I h=>pairTrees_nil_walk ⟨[],H,I,.nil,h⟩
theorem Ma{k v:Expr}{ks:List (Option Expr)}{vs:List Expr}{tk tv:TE}{j:List (TE×TE)}(hk:PE X k tk)(hv:PE X v tv)(hr:AO X pos ks vs j) :
 AO X pos (some k::ks) (v::vs) ((tk,tv)::j):=λad s Z H Q I h=>
 pairTrees_cons_walk (thn (hk ad s Z H _ I h) λu s1 O=>aW O λx H1 z rx q1=>thn (hv ad s1 Z H1 _ z q1) λw2 s2 U=>aW U λy H2 G ry q2=>
  thn (hr ad s2 Z H2 _ G q2) λws s3 Y=>aW Y λps H3 J a0 q3=>⟨(x,y)::ps,H3,J,.cons ⟨rx,ry⟩ a0,q3⟩)
def lY(kvs z:List (ao×V)):List (ao×V):=z.foldl (λj kv=>cK j kv.1 kv.2) kvs
theorem KV.merge:∀{j:List (ao×V)}{z:List (ao×Value)}{kvs:List (ao×V)}{vs:List (ao×Value)},KV j z->KV kvs vs->KV (lY kvs j) (merged vs z):=by
 intro j z kvs vs r;unfold KV at r
 induction r generalizing kvs vs with
 | nil=>intro q;exact q
 | @cons p q ps O h t G=>
  intro J;have e:KV (cK kvs p.1 p.2) (stored vs q.1 q.2):=by
   have:=J.put p.1 h.2;rw[<-h.1];exact this
  exact G e
theorem EH:∀(j kvs:List (ao×V)),(lY kvs j).length<=kvs.length+j.length
 | [],kvs=>by show kvs.length<=kvs.length+0;omega
 | p::r,kvs=>by
  have h1:=EH r (cK kvs p.1 p.2);have h2:=xL kvs p.1 p.2;show(lY (cK kvs p.1 p.2) r).length<=_;rw[cr];omega
theorem Mb{P:Program}{w:World}:∀{kvs:List (ao×V)}{z:List (Value×Value)},VV (kvs.map λkv=>(kV kv.1,kv.2)) z->∃j,Carries (cx P w) z j/\KV kvs j
 | [],_,r=>by rw[zW]at r;cases r;exact⟨[],True.intro,.nil⟩
 | p::kvs,_,r=>by
  rw[bS]at r;cases r with
  | @cons a b as bs h t=>
   obtain⟨j,c,q⟩:=Mb (P:=P) (w:=w) t;obtain⟨J,G⟩:=b;exact⟨(p.1,G)::j,⟨lW h.1,rfl,c⟩,.cons ⟨rfl,h.2⟩ q⟩
def aam(j:List (TE×TE)):TE:=λZ H Q=>∀p,H p=none->EG j Z (af H p (.dK [])) λps H2=>H2 p=some (.dK [])/\∃kvs:List (ao×V),ps=kvs.map (λkv=>(kV kv.1,kv.2))/\kvs.length<=15/\Q (.ref p) (af H2 p (.dK (lY [] kvs)))
theorem Mc{j:List (Option Expr)}{G:List Expr}{U:List (TE×TE)}(h:AO X pos j G U)(qC:j.all (·.isSome)=true)(hl:j.length=G.length)(h0:j≠[])
 (a8:j.length<=15):PE X (.Dict j G pos) (aam U):=by
 intro ad s Z H Q I q;have hn:=I.hok.fresh (aG s.heap.objs.size);have Y:=I.laid (a:=s.heap.objs.size) (o:=.dK []) (h':=s.heap.push { cls:=.type "dict",data:=.dict #[] }) (t':=s.toks) (λ_ _ q=>cb _ q) (aG _) (L8 s.heap I.big);refine wpAny_Dict_walk (knd:=cx X.prog X.w) qC hl h0 a8 (thn (h ad _ Z _ _ Y (q _ hn)) λws s2 a0=>aW a0 λps H2 J a9 a1=>a1.elim λe a2=>a2.elim λkvs a3=>a3.elim λep a4=>a4.elim λlk q2=>?_);subst ep;obtain⟨rs,c,rk⟩:=Mb (P:=X.prog) (w:=X.w) a9;obtain⟨z,hd,ab,r0,dd⟩:=lX J.hok e;cases r0;refine⟨rs,c,dd,λh' O hs=>⟨.ref s.heap.objs.size,_,?_,rfl,q2⟩⟩;have hz:(lY [] kvs).length<=sizeLine:=by
  have h1:=EH kvs [];rw[jQ]at h1;rw[wR];omega
 have he:∃q,h'.get? s.heap.objs.size=some q:=O.elim λq a5=>a5.elim λ_ a6=>a6.elim λ_ a7=>a7.elim λhq _=>⟨q,hq⟩;exact vH J (by rw[e];exact True.intro) hs he (vI hz hd (rk.merge .nil) O)
structure M1(X:Cx)(o:Expr)(m:Str)(apos:Pos)(e:Expr)(cn:Pos):Prop where
 base:attributeBase o m X.env (eval o X.env)=eval o X.env
 few:((backTo cn (starEach [e] X.env)).all (λx=>!x.1) && (backToKw cn (keywordEach [] X.env)).all (λx=>x.1.isSome)
  && decide (([e]:List Expr).length+([]:List Keyword).length+(if ([]:List Keyword).isEmpty then 0 else 1)<30))=true
 line:(apos.endLine == cn.line)=true
 trees:backTo cn (starEach [e] X.env)=[(false,eval e X.env)]
structure M2(X:Cx)(o:Expr)(m:Str)(apos:Pos)(e f:Expr)(cn:Pos):Prop where
 base:attributeBase o m X.env (eval o X.env)=eval o X.env
 few:((backTo cn (starEach [e,f] X.env)).all (λx=>!x.1) && (backToKw cn (keywordEach [] X.env)).all (λx=>x.1.isSome)
  && decide (([e,f]:List Expr).length+([]:List Keyword).length+(if ([]:List Keyword).isEmpty then 0 else 1)<30))=true
 line:(apos.endLine == cn.line)=true
 trees:backTo cn (starEach [e,f] X.env)=[(false,eval e X.env),(false,eval f X.env)]
def AQ(H:Hp)(a:Addr):Prop:=(∃kvs,Rd H a (.dK kvs))\/∃kvs,Rd H a (.dT kvs)
theorem EI{H:Hp}(I:Inv X ad Z H s)(d:AQ H a) :
 s.TypeIs (.ref a) "dict"/\(∀b,Value.ref a=.ref b->∃ob,s.heap.get? b=some ob/\ob.dict=none)/\(a == sysModules)=false:=by
 rcases d with⟨kvs,e⟩ | ⟨kvs,e⟩
 . obtain⟨_,hd,vs,_,dd⟩:=oZ I.hok e;refine⟨dd.typeIs,λb q=>?_,hd⟩;cases q;obtain⟨ob,_,_,h1,h2,_⟩:=dd;exact⟨ob,h1,h2.2.1⟩
 obtain⟨_,hd,xs,_,dd⟩:=qN I.hok e;refine⟨dd.typeIs,λb q=>?_,hd⟩;cases q;obtain⟨ob,_,_,h1,h2,_⟩:=dd;exact⟨ob,h1,h2.2.1⟩
section
variable {H:Hp}{y d:V}{r:Value}{o:Option V}{E:VP}
theorem aaw{Q:VP}(Y:A.units+64<cLine)(I:Inv X ad Z H s)(g:cO H a y o)(J:RelV y u)(h:∀O s',Inv X ad Z H s'->RelV (o.getD .non) O->Q O s') :
 wpAny (model X.prog X.w) A (call (.builtin "dict.get") [.ref a,u]) Q E s:=by
 rcases g with⟨kvs,k,e,j,l⟩ | ⟨kvs,k,b,e,j,U,l⟩
 . subst j;obtain⟨z,hd,vs,G,dd⟩:=oZ I.hok e;refine sy zX dd.typeIs JQ (aq1 _ _) (meets_dict_get (cx X.prog X.w) a (lW J) hd) ⟨_,dd.mapOf,h _ _ (I.tok _) ?_⟩;rw[l];exact(G.val k).getD rfl
 subst j;cases (show u=Value.ref b from J);obtain⟨z,hd,xs,G,dd⟩:=qN I.hok e;refine sy zX dd.typeIs JQ (aq1 _ _) (meetsH_dict_get (qD X.prog X.w) a b hd) ⟨vy Y,k,xs,tX I.hok U,dd,h _ _ (I.tok _) ?_⟩;rw[l];exact(G.val k).getD rfl
theorem aax{Q:VP}(hu:A.units+64<cLine)(I:Inv X ad Z H s)(g:cO H a y o)(O:RelV y u)(J:RelV d r)(h:∀U s',Inv X ad Z H s'->RelV (o.getD d) U->Q U s') :
 wpAny (model X.prog X.w) A (call (.builtin "dict.get") [.ref a,u,r]) Q E s:=by
 rcases g with⟨kvs,k,e,j,l⟩ | ⟨kvs,k,b,e,j,Y,l⟩
 . subst j;obtain⟨z,hd,vs,G,dd⟩:=oZ I.hok e;refine sy zX dd.typeIs JQ (aq2 _ _ _) (meets_dict_get_default (cx X.prog X.w) a (lW O) hd r) ⟨_,dd.mapOf,h _ _ (I.tok _) ?_⟩;rw[l];exact(G.val k).getD J
 subst j;cases (show u=Value.ref b from O);obtain⟨z,hd,xs,G,dd⟩:=qN I.hok e;refine sy zX dd.typeIs JQ (aq2 _ _ _) (meetsH_dict_get_default (qD X.prog X.w) a b hd r) ⟨vy hu,k,xs,tX I.hok Y,dd,h _ _ (I.tok _) ?_⟩;rw[l];exact(G.val k).getD J
end
inductive Me (ty:TE) (Z:St) (Q:VK) (H1:Hp):V->Prop where
 | mk {a:Addr} (_:AQ H1 a) (_:ty Z H1 λy H2=>∃o,cO H2 a y o/\Q (o.getD .non) H2):Me ty Z Q H1 (.ref a)
def aay(td ty:TE):TE:=λZ H Q=>td Z H λx H1=>Me ty Z Q H1 x
inductive Mf (ty:TE) (tx:TE) (Z:St) (Q:VK) (H1:Hp):V->Prop where
 | mk {a:Addr} (_:AQ H1 a) (_:ty Z H1 λy H2=>tx Z H2 λz H3=>∃o,cO H3 a y o/\Q (o.getD z) H3):Mf ty tx Z Q H1 (.ref a)
def aaz(td ty tx:TE):TE:=λZ H Q=>td Z H λx H1=>Mf ty tx Z Q H1 x
inductive Mg (ty:TE) (Z:St) (Q:VK) (H1:Hp):V->Prop where
 | mk {a:Addr} (_:AQ H1 a) (_:ty Z H1 λy H2=>∃kvs k v,H2 a=some (.dK kvs)/\y=kV k/\bc kvs k=some v/\Q v (af H2 a (.dK (nn kvs k)))):Mg ty Z Q H1 (.ref a)
def aaA(td ty:TE):TE:=λZ H Q=>td Z H λx H1=>Mg ty Z Q H1 x
section
variable {o e f:Expr}{apos cn:Pos}{td ty tx:TE}
theorem EJ(hu:X.A.units+64<cLine)(ho:PE X o td)(he:PE X e ty)(m:M1 X o "get" apos e cn):PE X (.Call (.Attribute o "get" apos) [e] [] cn) (aay td ty):=by
 intro ad s Z H Q I h;refine VI m.base m.few m.line zY zX aq3 (thn (ho ad s Z H _ I h) λu s1 J=>aW J λx H1 j rx O=>?_);obtain @⟨a,d,q1⟩:=O;obtain rfl:u=Value.ref a:=rx;obtain⟨t1,t2,_⟩:=EI j d;refine⟨t1,t2,?_⟩;rw[m.trees];refine Dw rfl (Dx (Dt (thn (he ad s1 Z H1 _ j q1) λiv s2 U=>aW U λy H2 z ry Y=>Y.elim λov a0=>a0.elim λg q2=>JK ?_)));exact aaw hu z g ry λw' s3 G gC=>⟨_,H2,G,gC,q2⟩
theorem aaG(hu:X.A.units+64<cLine)(ho:PE X o td)(he:PE X e ty)(hf:PE X f tx)(m:M2 X o "get" apos e f cn):PE X (.Call (.Attribute o "get" apos) [e,f] [] cn) (aaz td ty tx):=by
 intro ad s Z H Q I h;refine VI m.base m.few m.line zY zX aq3 (thn (ho ad s Z H _ I h) λu s1 U=>aW U λx H1 j rx Y=>?_);obtain @⟨a,d,q1⟩:=Y;obtain rfl:u=Value.ref a:=rx;obtain⟨t1,t2,_⟩:=EI j d;refine⟨t1,t2,?_⟩;rw[m.trees];refine Dw rfl (Dx (Dt (thn (he ad s1 Z H1 _ j q1) λiv s2 a0=>aW a0 λy H2 G ry q2=>
  Dt (thn (hf ad s2 Z H2 _ G q2) λfv s3 a1=>aW a1 λz H3 J rz a2=>a2.elim λov a3=>a3.elim λg q3=>JK ?_))))
 exact aax hu J g ry rz λw' s4 O gC=>⟨_,H3,O,gC,q3⟩
theorem EK(ho:PE X o td)(he:PE X e ty)(m:M1 X o "pop" apos e cn):PE X (.Call (.Attribute o "pop" apos) [e] [] cn) (aaA td ty):=by
 intro ad s Z H Q I h;refine VI m.base m.few m.line zY aq0 PySem.F.type_dict_pop (thn (ho ad s Z H _ I h) λu s1 J=>aW J λx H1 j rx O=>?_);obtain @⟨a,d,q1⟩:=O;obtain rfl:u=Value.ref a:=rx;obtain⟨t1,t2,_⟩:=EI j d;refine⟨t1,t2,?_⟩;rw[m.trees];refine Dw rfl (Dx (Dt (thn (he ad s1 Z H1 _ j q1) λiv s2 U=>aW U λy H2 z ry Y=>Y.elim λkvs a0=>a0.elim λk a1=>a1.elim λv a2=>a2.elim λea a3=>a3.elim λey a4=>a4.elim λl q2=>JK ?_)));subst ey;exact ZQ z ea ry l (.inl rfl) λw' s3 G gC=>⟨v,_,G,gC,q2⟩
end
section
variable {H:Hp}{kvs:List (ao×V)} {E:VP}
theorem aaW{Q:VP}(I:Inv X ad Z H s)(e:Rd H a (.dK kvs))(h:∀p s',H p=none->Inv X ad Z (af H p (.dK kvs)) s'->Q (.ref p) s'):wpAny (model X.prog X.w) A (call (.type "dict") [.ref a]) Q E s:=by
 obtain⟨z,hd,vs,G,dd⟩:=oZ I.hok e;refine kt_call_dict hd dd (by rw[<-G.length];exact z) λh' J hs=>?_;refine h _ _ (I.hok.fresh (aG _)) (I.laid (a:=s.heap.objs.size) (o:=.dK kvs) (t':=s.toks) (λb q j=>?_) (aG _) (vI z (wM.mpr (gu (cR I.big))) G J));exact(hs.2 b (cR (bG j))).trans (cb _ j)
end
end L2
namespace Att
open PySem.W PySem.Calls
theorem aaX{P:Params}{h:Heap}:∀(ns:List Int) (vs:Lw),WellAll P h vs (ns.map WData.int)->IntsAre vs ns:=by
 intro ns
 induction ns with
 | nil=>
  intro vs w;rw[zW]at w;cases w;exact .nil
 | cons n ns j=>
  intro vs w;rw[bS]at w;cases w with
  | cons a b=>
   cases a;exact .cons _ _ (j _ b)
theorem aaY{l:OpenLaw}{n:Nat}(hn:l.most=some n){P:Params}{h:Heap}{args:List WData}{O:Lw}
 (G:l.row.toRowW.claim.pre args=true) (U:WellAll P h O args) :
 ∃a vs ns,O=[Value.ref a]/\args=[WData.list (ns.map WData.int)]/\h.get? a=some { cls:=.type "list",data:=.seq vs.toArray }/\IntsAre vs ns/\ns.length<=n:=by
 have a1:WShape.hasAll [] args [.list .int]=true:=(pre_splitW G).1;have J:l.pre.holds [] { args:=args } = true:=(pre_splitW G).2;obtain⟨d,r,rfl,h1,h2⟩:=hasAllW_cons a1;obtain rfl:=hasAllW_nil h2;obtain⟨xs,rfl,Y⟩:=hasW_list h1;obtain⟨ns,rfl⟩:=items_int Y;have a0:ns.length<=n:=by
  unfold OpenLaw.pre at J;have j:(WTm.not (.lt (.lit (.int (n:Int))) (.len (.arg 0)))).holds [] { args:=[.list (ns.map .int)] } = true:=by
   have j:=(holds_andW J).1;rw[hn]at j;exact j
  have z:=condW_of j (w_not (w_lt w_lit (w_len_list (w_arg rfl))));rw[al]at z;refine Nat.le_of_not_lt λq=>?_;have q':(n:Int)<((ns.length:Nat):Int):=by omega
  first
   | (rw[bL q']at z;exact absurd z (by decide))
   | (simp at z;omega)
 cases U with
 | cons w1 w2=>
  cases w2;cases w1 with
  | list ho qC=>exact⟨_,_,ns,rfl,rfl,ho,aaX ns _ qC,a0⟩
theorem aa0(l:OpenLaw)(args:List WData):l.row.toRowW.claim.post args (.bool true) args=true:=
 postW_of (r:=l.row.toRowW) (X:=(true == true))
  (show WShape.has [] (.bool true) .bool=true by first | rfl | decide | simp[WShape.has,WShape.arms,WShape.armsAll])
  (show(WTm.eq .res (.lit (.bool true))).value [] { args:=args,res:=some (.bool true),after:=args } = some (.bool (true == true)) from w_eq_bool (w_res rfl) w_lit) rfl
theorem aa1{l:OpenLaw}{n:Nat}{q:Program}{a0:Ls}{U:(Mv)->Heap->Prop}{YP:World->Heap->Prop}{d:DefRec}
 (hn:l.most=some n) (xM:d.params.defaults=[])
 (call:∀(w:World) (s₀ j:Shared) (mg O:Mv) (z:Addr) (o:Obj) (pm cd J:Value) (a:Addr) (vs:Lw) (ns:List Int),
  Ground q a0 [] U w s₀ mg O j.heap->YP w j.heap ->
  j.heap.get? z=some o->o.data=.func (docDef d.name d.params d.body d.scope pm cd J)->j.heap.CodeRec cd d.name->mg d.name=some (.ref z) ->
  j.heap.get? a=some { cls:=.type "list",data:=.seq vs.toArray }->IntsAre vs ns->ns.length<=n->j.gens = #[] ->
  codeAny (model l.prog w) callerA (.call (.ref z) ⟨[.ref a],[]⟩) (λr s'=>r=.ok (.ret (.bool true))/\OldK j.heap s'.heap/\s'.os=j.os/\AllBare s'.gens) j) :
 WalkO q a0 U YP l.row.toRowW d [] (λf vs=>PySem.call f vs):=by
 intro w s₀ j mg O G Y z o pm cd J dV kV ho hd i4 hD xN hg args a6 as AR a3 a5 EL a4;obtain rfl:dV=.none:=Dflts.none hD xM;obtain rfl:kV=.none:=Dflts.noKw hD;obtain⟨a,vs,ns,rfl,rfl,tY,a1,a2⟩:=aaY hn AR EL;refine enter_call (ql (call w s₀ j mg O z o pm cd J a vs ns G Y ho (fd_plain hd) i4 xN tY a1 a2 hg) λr s' hq=>?_);obtain⟨rfl,h2,h3,h4⟩:=hq;exact⟨.inl ⟨.bool true,.bool true,[],rfl,λ_=>rfl,.bool true,aa0 l _,λ_=>⟨List.Pairwise.nil,λ_ hm=>(nomatch hm)⟩⟩,h2,h3,h4⟩
end Att
namespace L2
variable {x a_:Str}{st:Stmt}{f:Addr}{A B:Prop}{H:Hp}
theorem Mh:∀{vs:Lw}{ns:List Int},IntsAre vs ns->aY (ns.map V.int) vs
 | _,_,.nil=>.nil
 | _,_,.cons n t h=>.cons ⟨t,rfl⟩ (Mh h)
def eV(s:Stmt)(j:Nat):Stmt:=match s with
 | .ClassDef _ _ _ body _ _ _ _ _ _ _=>body.getD j (.Pass ⟨0,0,0,0⟩)
 | _=>.Pass ⟨0,0,0,0⟩
def jv(s:Stmt):Arguments:=match s with
 | .FunctionDef _ a _ _ _ _ _ _ _ _=>a
 | _=>{ posonlyargs:=[],args:=[],vararg:=none,kwonlyargs:=[],kw_defaults:=[],kwarg:=none,defaults:=[] }
def gD(s:Stmt):List Stmt:=match s with
 | .FunctionDef _ _ b _ _ _ _ _ _ _=>b
 | _=>[]
def av(s:Stmt):Scope:=match s with
 | .FunctionDef _ _ _ _ _ _ sc _ _ _=>sc
 | _=>{ kind:=.function,names:=[],isGenerator:=false,isCoroutine:=false }
abbrev aL:g0:=λ_ _ _ _ _ _=>False
abbrev E0:XK:=λ_ _ _=>False
theorem bT{X:Cx}:lV aL X E0:=λ_ _ _ _ _ _ _ h=>h.elim
structure lZ(K:Fg)(x a_:Str)(st:Stmt)(f:Addr)(fd:Fy):Prop where
 ex:∃(oc:Value) (od:Oa) (kV doc pm:Value) (an:Oa) (ar ct:Value) (jt:Array (Option Value)),
  fd=W.fnOf x a_ (jv st) (gD st) (av st) .none kV doc pm an ar ct/\K.lookup f=some ⟨oc,od,.func fd,jt⟩/\W.codeIn K ar a_=true
 kp:W.keepIn K (.ref f)=true
section
variable {P:Program}{w:World}{K:Fg}{mg:Mv}{base:Heap}
theorem lZ.ok{fd:Fy}{N ps:Ls}{k:Nat}{sp:Sp}(F:lZ K x a_ st f fd)(S:aK N ps (av st))(len:∀vs H Q E,sp vs H Q E->vs.length=ps.length)
 (U:∀(j:Value) (A:Around) (outer:List Env) (s:Shared) (H:Hp) (vs:Lv) (Q:VK) (E:XK),ci k (A.deeper (envOfC a_ (av st) s.heap.objs.size f j))->sp vs H Q E ->
  ∃t,bW (kG aL P w K mg base N a_ (av st) f j A outer s H E).nox (gD st) t/\t { nx:=λ_ H'=>Q .non H',rt:=Q } (start N vs) H):au P w K mg base aL (k+1) f fd ps sp:=by
 obtain⟨oc,od,kV,Y,pm,an,j,ct,jt,rfl,O,G⟩:=F.ex;refine Ew O G S len λA outer s H vs Q E z J=>?_;obtain⟨t,h,q⟩:=U j A outer s H vs Q E z J;exact⟨t,h.nox,q⟩
theorem lZ.binds{fd:Fy}{ps:Ls}(F:lZ K x a_ st f fd)
 (h:∀(kV z pm:Value) (an:Oa) (j ct:Value) (us:Lw),us.length=ps.length->bindArgs (W.fnOf x a_ (jv st) (gD st) (av st) .none kV z pm an j ct) ⟨us,[]⟩=pure (ps.zip us)):Binds K fd ps []:=by
 obtain⟨oc,od,kV,z,pm,an,j,ct,J,rfl,O,G⟩:=F.ex;exact .all (h kV z pm an j ct)
theorem Mi{oc:Value}{od an:Oa}{G:Array (Option Value)}{kV z pm j ct:Value}(l:K.lookup f=some ⟨oc,od,.func (W.fnOf x a_ (jv st) (gD st) (av st) .none kV z pm an j ct),G⟩)
 (c:W.codeIn K j a_=true) (k:W.keepIn K (.ref f)=true):lZ K x a_ st f (W.fnOf x a_ (jv st) (gD st) (av st) .none kV z pm an j ct):=⟨⟨oc,od,kV,z,pm,an,j,ct,G,rfl,l,c⟩,k⟩
end
theorem bZ{n:Nat}(h:n<=1000):n<sizeLine:=VJ h (by decide)
section
variable {X:Cx}
theorem pv(i:Nat){pos:Pos}(j:X.N[i]?=some x:=by rfl)(z:Ao X.env.scope x:=by first | exact Or.inl rfl | exact Or.inr (Or.inl rfl) | exact Or.inr (Or.inr rfl))(hd:(x == ("__debug__":Str))=false:=by decide)
 (G:(x == ("__classdict__":Str))=false:=by decide):PE X (.Name x pos) (qF i):=WU j z hd G
end
theorem di(h:B):if false=true then A else B:=by
 rw[ag cV];exact h
theorem gc(h:A):if true=true then A else B:=by
 rw[aj rfl];exact h
theorem bv{c:Prop}[Decidable c](h1:c->A)(h2:¬c->B):if c then A else B:=by
 by_cases h:c
 . rw[aj h];exact h1 h
 rw[ag h];exact h2 h
theorem aa2{c:Prop}[Decidable c](j:c)(h:B):if (!decide c)=true then A else B:=by
 rw[bL j];exact di h
def ac(H H':Hp):Prop:=∀b o,H b=some o->H' b=some o
theorem ac.refl(H:Hp):ac H H:=λ_ _ h=>h
theorem ac.trans{H1 H2:Hp}(a:ac H H1)(b:ac H1 H2):ac H H2:=λc o h=>b c o (a c o h)
theorem ac.free{H':Hp}(e:ac H H'){l:Addr}(h:H' l=Option.none):H l=Option.none:=by
 cases q:H l with
 | none=>rfl
 | some o=>
  rw[e l o q]at h;cases h
theorem ac.seq{K:Fg}{H':Hp}{a:Addr}{xs:Lv}(e:ac H H')(h:aa K H a xs):aa K H' a xs:=by
 rcases h with(h | ⟨o,h⟩) | h
 . exact .inl (.inl (e _ _ h))
 . exact .inl (.inr ⟨o,e _ _ h⟩)
 exact .inr h
end L2
set_option maxHeartbeats 4000000
namespace L2
theorem fR{H:Hp}{p:Addr}{o:HO}(h:H p=none):ac H (af H p o):=λb u e=>by
 rw[aX (aI e h)];exact e
theorem fh{H0 H:Hp}{p:Addr}{o:HO}(s:ac H0 H)(h:H0 p=none):ac H0 (af H p o):=λb u e=>by
 rw[aX (aI e h)];exact s b u e
theorem aa3{K:Fg}{H H':Hp}{a:Addr}{xs:Lv}(e:ac H H')(h:ba K H a xs):ba K H' a xs:=by
 rcases h with(h | ⟨o,h⟩) | h
 . exact .inl (.inl (e _ _ h))
 . exact .inl (.inr ⟨o,e _ _ h⟩)
 exact .inr h
abbrev gE (x:Str):Prop:=PyData.strOk x=true
theorem vK{x:Str}:gE x↔∀c∈x.cps.toList,c<0x110000:=by
 unfold gE PyData.strOk;rw[Array.all_eq_true'];simp
theorem AS{x y:Str}(z:gE x)(G:gE y):gE (x++y):=by
 rw[vK]at *;intro c j;have e:(x++y).cps.toList=x.cps.toList++y.cps.toList:=by
  show(x.cps++y.cps).toList=_;simp
 rw[e,b9]at j;exact j.elim (z c) (G c)
theorem i9(x y:Str):(x++y).length=x.length+y.length:=by
 show(x.cps++y.cps).size=_;rw[Array.size_append];rfl
theorem o5(c:Nat):(⟨#[c]⟩:Str).length=1:=rfl
section
variable {X:Cx}
inductive Mj (lo:Option Int) (hi:Option Int) (H:Hp) (Q:VK):V->Prop where
 | mk {z:Str} (_:z.length<=sizeLine) (_:Q (.str (Txt.slice z lo hi)) H):Mj lo hi H Q (.str z)
def aa4:V->Option Int->Option Int->Hp->VK->Prop:=λx lo hi H Q=>Mj lo hi H Q x
theorem AT:tR X aa4:=by
 intro ad s Z H x v vl vu lo hi sl Q I rx hs pl O h;obtain @⟨z,hz,q⟩:=h;obtain⟨t,rfl⟩:=rx;refine⟨"str",_,PyProof.Rows.slot_str_getitem.lookup,zV _ _ _,?_⟩;obtain⟨o,ho,Y,hd⟩:=hs;have G:∀(l u:Option (Int×Tok)),vl=partValue l->vu=partValue u->lo=l.map (·.1)->hi=u.map (·.1)->wpAny (model X.prog X.w) X.A (getItem (.str z t) (.ref sl)) (EP X ad Z Q) X.xe s:=by
  intro l u e1 e2 e3 e4;subst e1 e2 e3 e4;refine wpAny_getItem_str_slice (l:=l) (u:=u) (st:=none) ⟨o,ho,Y,hd⟩ rfl ?_;exact post_val_or_str ⟨bX (Txt.slice_le z _ _) hz,λt' k=>⟨.str (Txt.slice z (l.map (·.1)) (u.map (·.1))),H,I.tok _,⟨_,rfl⟩,q⟩⟩
 cases pl with
 | none=>
  cases O with
  | none=>exact G none none rfl rfl rfl rfl
  | int j J=>exact G none (some (j,J)) rfl rfl rfl rfl
 | int i U=>
  cases O with
  | none=>exact G (some (i,U)) none rfl rfl rfl rfl
  | int j J=>exact G (some (i,U)) (some (j,J)) rfl rfl rfl rfl
theorem EM:ff X (.builtin "isinstance") (λxs H Q=>∃x t c b,xs=[x,.ty c]/\jW X.K H x t/\W.kitOne X.K t (.type c)=some b/\Q (.bl b) H):=by
 intro ad s Z H xs us Q I r h;obtain⟨x,t,c,b,rfl,ty,e,q⟩:=h;obtain⟨u,G,rfl,j,z⟩:=vals2 r;cases (show G=Value.type c from z);exact YM I j ty e λtk=>⟨.bl b,H,I.tok tk,rfl,q⟩
end
variable {X:Cx}{K:Fg}{s:Shared}{α:Type}{elt iter tg:Expr}{ifs:List Expr}{pos:Pos}{env:Env}{C:Addr}{bw:Ls}{js:List Nat}{sc:Scope}{g:TG}{tt:TT}{te:TE}{σ0:St}
mutual
inductive DV (K:Fg) (H:Hp):V->W.Dat->Prop
 | non:DV K H .non .none
 | int (i:Int):DV K H (.int i) (.int i)
 | str (x:Str):DV K H (.str x) (.str x)
 | tup {a:Addr}{xs:Lv}{ds:List W.Dat}:ba K H a xs->im K H xs ds->DV K H (.ref a) (.tuple ds)
 | lst {a:Addr}{xs:Lv}{ds:List W.Dat}:aa K H a xs->im K H xs ds->DV K H (.ref a) (.list ds)
inductive im (K:Fg) (H:Hp):Lv->List W.Dat->Prop
 | nil:im K H [] []
 | cons {x:V}{d:W.Dat}{xs:Lv}{ds:List W.Dat}:DV K H x d->im K H xs ds->im K H (x::xs) (d::ds)
end
theorem Ml{H:Hp}:∀ns:List Int,im K H (ns.map V.int) (ns.map W.Dat.int)
 | []=>.nil
 | n::ns=>.cons (.int n) (Ml ns)
theorem Mm{H:Hp}:∀xs:Ls,im K H (xs.map V.str) (xs.map W.Dat.str)
 | []=>.nil
 | n::ns=>.cons (.str n) (Mm ns)
section
variable {ad:Po}{Z:St}{H:Hp}
mutual
theorem DV.reads(I:Inv X ad Z H s):∀{x:V}{d:W.Dat}{u:Value},DV X.K H x d->RelV x u->∃as,Reads s.heap u (W.kqdP d) as
 | _,_,_,.non,r=>by cases r;exact⟨_,Reads.none⟩
 | _,_,_,.int i,r=>by obtain⟨t,rfl⟩:=r;exact⟨_,Reads.int i t⟩
 | _,_,_,.str x,r=>by obtain⟨t,rfl⟩:=r;exact⟨_,Reads.str x t⟩
 | _,_,_,.tup h q,r=>by
  cases r;obtain⟨b_,j,⟨o,e,c,n,d⟩,_⟩:=I.tuple h;obtain⟨as,z⟩:=im.reads I q j;rw[W.kqdP];exact⟨as,reads_tuple_at e c d (by simpa using z)⟩
 | _,_,_,.lst h q,r=>by
  cases r;obtain⟨b_,j,⟨o,n,e,c,_,d⟩,_⟩:=I.list h;obtain⟨as,z⟩:=im.reads I q j;rw[W.kqdP];exact⟨_,reads_list_at e c d (by simpa using z)⟩
theorem im.reads(I:Inv X ad Z H s):∀{xs:Lv}{ds:List W.Dat}{us:Lw},im X.K H xs ds->aY xs us->∃as,ReadsAll s.heap us (W.kqdPs ds) as
 | _,_,_,.nil,.nil=>⟨_,ReadsAll.nil⟩
 | _,_,_,.cons q qs,.cons r rs=>by
  obtain⟨as,z⟩:=DV.reads I q r;obtain⟨bs,y⟩:=im.reads I qs rs;rw[W.kqdPs];exact⟨_,ReadsAll.cons z y⟩
end
end
theorem qQ{d:W.Dat}(h:W.kqdOk 9 d=true):SeqAt.shaped (W.kqdP d)=true:=by
 have l:=W.kqd_lay 9 d h;unfold SeqAt.shaped;rw[l.1,wV];exact bL (bX l.2 (by decide))
theorem AU(G:X.A.units+64<cLine):cD X (compareOp .Eq) (λx y H Q=>∃d e,DV X.K H x d/\DV X.K H y e/\W.kqdOk 9 d=true/\W.kqdOk 9 e=true/\∀b:Bool,(b=true↔d=e)->Q (.bl b) H):=by
 intro ad s Z H x y v u Q I U Y h;obtain⟨d,e,hd,z,od,j,q⟩:=h;obtain⟨as,J⟩:=hd.reads I U;obtain⟨bs,O⟩:=z.reads I Y;exact eq_dataH J O (qQ od) (qQ j) G ⟨.bl _,H,I,rfl,q _ (wW 9 d e 9 od j)⟩
theorem AV(G:X.A.units+64<cLine):cD X (compareOp .NotEq) (λx y H Q=>∃d e,DV X.K H x d/\DV X.K H y e/\W.kqdOk 9 d=true/\W.kqdOk 9 e=true/\∀b:Bool,(b=true↔d=e)->Q (.bl (!b)) H):=by
 intro ad s Z H x y v u Q I U Y h;obtain⟨d,e,hd,z,od,j,q⟩:=h;obtain⟨as,J⟩:=hd.reads I U;obtain⟨bs,O⟩:=z.reads I Y;exact ne_dataH J O (qQ od) (qQ j) G ⟨.bl _,H,I,rfl,q _ (wW 9 d e 9 od j)⟩
section
variable {st:Stmt}{rest:List Stmt}{t u:TS}
def aa5(M:St->Hp->Prop)(t u:TS):TS:=λD Z H=>t { D with nx:=M } Z H/\∀σ' H',M σ' H'->u D σ' H'
theorem AW(M:St->Hp->Prop)(h1:PS X st t)(h2:bW X rest u):bW X (st::rest) (aa5 M t u):=by
 intro ad s Z H D I h;refine Vy (thn (h1 ad s Z H { D with nx:=M } I h.1) λf z q=>?_);cases f with
 | next=>
  obtain⟨σ',H',j,q⟩:=q;exact h2 ad z σ' H' D j (h.2 σ' H' q)
 | ret v=>exact q
 | brk=>exact q
 | cont=>exact q
end
theorem jY{H:Hp}{p t:Addr}{o:HO}(h:af H p o t=none):t≠p/\H t=none:=by
 by_cases e:t=p
 . subst e;rw[aD]at h;cases h
 exact⟨e,by rw[aX e]at h;exact h⟩
theorem fit{a b:Str}(j:a.length<=100)(z:b.length<=100):a.length+b.length<=sizeLine:=vo (bZ (by omega))
theorem jZ{a:Str}(j:a.length<=100):a.length<=sizeLine:=vo (bZ (by omega))
theorem EN{xs:List α}{r:Int}(h0:0<=r)(h1:r<xs.length):∃v,cE xs r=some v/\xs[r.toNat]?=some v:=by
 obtain⟨n,rfl⟩:∃n:Nat,r=n:=⟨r.toNat,by omega⟩;have j:n<xs.length:=by omega
 have e:xs[n]?=some (xs[n]'j):=by simp
 exact⟨_,AM e,by simpa using e⟩
theorem Mn{ns:List Int}{r:Int}(h0:0<=r)(h1:r<ns.length):∃z,cE (ns.map V.int) r=some (V.int z)/\ns[r.toNat]?=some z:=by
 obtain⟨v,e,e2⟩:=EN (xs:=ns.map V.int) h0 (by rw[al];exact h1);rw[dA]at e2;cases q:ns[r.toNat]? with
 | none=>rw[q]at e2;cases e2
 | some z=>
  rw[q]at e2;cases e2;exact⟨z,e,rfl⟩
abbrev Mo (ifs:List Expr) (env:Env):Sem Bool:=
 forIn ifs true λc r=>if r=true then do let ok <-isTrue c env (eval c env);pure (ForInStep.yield ok) else pure (ForInStep.yield r)
def fF(X:Cx)(ifs:List Expr)(t:TT):Prop:=
 ∀(ad:Po) (s:Shared) (Z:St) (H:Hp) (Q:Bool->Hp->Prop),Inv X ad Z H s->t Z H Q->wpAny (model X.prog X.w) X.A (Mo ifs X.env) (TP X ad Z Q) X.xe s
def qR:TT:=λ_ H Q=>Q true H
theorem ge:fF X [] qR:=λ_ _ _ H _ I h=>wpAny_tests_nil ⟨H,I,h⟩
theorem o9{c:Expr}{t:TT}(h:PT X c t):fF X [c] t:=λad s Z H Q I q=>wpAny_tests_one (h ad s Z H Q I q)
section
variable {prog:Program}{w:World}{A:Around}{R:Result->Shared->Prop}
theorem aa6{j:Expr}{scope:Scope}{it z:Value}(I:Nat->Shared->Prop)
 (a0:∀n s,I n s->wpAny (model prog w) A (pyNext it) (λr G=>match r with
  | none=>R (.ok .next) G
  | some v=>wpAny (model prog w) A (letOwnedTupleGo j it v) (λ_ s₀=>wpAny (model prog w) A (assign j env v) (λ_ Y=>
   wpAny (model prog w) A (Mo ifs env) (λok J=>
    if ok=true then wpAny (model prog w) A (eval elt env) (λx s₄=>
     wpAny (model prog w) A (call (.builtin "list.append") [z,x]) (λ_ s₅=>∃m,m<n/\I m s₅) (notedBy (model prog w) A env λe s'=>R (.error e) s') s₄) (notedBy (model prog w) A env λe s'=>R (.error e) s') J
    else∃m,m<n/\I m J) (notedBy (model prog w) A env λe s'=>R (.error e) s') Y) (notedBy (model prog w) A env λe s'=>R (.error e) s') s₀) (notedBy (model prog w) A env λe s'=>R (.error e) s') G) (notedBy (model prog w) A env λe s'=>R (.error e) s') s)
 (n:Nat) (h:I n s):codeAny (model prog w) A (.compLoop (.ListComp elt [⟨j,iter,ifs,0⟩] scope pos) 0 it z env) R s:=by
 refine codeAny_loop rfl I (λn s hI=>?_) n h;show wpAny _ A ((compTurn (.ListComp elt [⟨j,iter,ifs,0⟩] scope pos) 0 it z env).onRaise (λx=>do noteFrame x env;theTreesLotGoes x)) _ _ s;refine wpAny_noted ?_;rw[compTurn_list];refine ae (VA (ae (d6 (a0 n s hI) (λr G O=>?_) λ_ _ h'=>h')));cases r with
 | none=>exact aq O
 | some v=>
  refine ae (d6 O (λ_ s₀ h₀=>?_) λ_ _ h'=>h');refine ae (d6 h₀ (λ_ Y h₂=>ae (d6 h₂ (λok J U=>?_) λ_ _ h'=>h')) λ_ _ h'=>h');cases ok with
  | false=>exact aq ⟨rfl,U⟩
  | true=>
   exact ae (ae (d6 U (λx s₄ h₄=>ae (d6 h₄ (λ_ s₅ h₅=>aq (aq ⟨rfl,h₅⟩)) λ_ _ h'=>h')) λ_ _ h'=>h'))
end
theorem aa7{P:Program}{w:World}{H:Hp}{h1 h2:Heap}(ok:cf P w H h1)(z:Heap.SameBut C h1 h2)(j:H C=none):cf P w H h2:=λb ob e=>by
 refine(ok b ob e).stay (λc G hc q=>(z.2 c ?_).trans q) (λ_ q=>q) λ_ _ q=>q;rintro rfl
 rcases hc with rfl | hc
 . rw[j]at e;cases e
 rw[j]at hc;cases hc
def kJ(J:It)(g:TG)(tt:TT)(te:TE)(D:Addr)(G:Hp->Prop)(W:Nat->Nat->St->Hp->Prop):Prop:=
 ∀i m Z H,W i m Z H->(J.stop i H/\G H)\/(J.go i H/\∀x H2,J.yld i H x H2->g x Z H2 λσ3 H3=>tt σ3 H3 λok j=>
  if ok=true then te σ3 j λy z=>∃ys,z D=some (.lst ys)/\ys.length<sizeLine/\∃m',m'<m/\W (i+1) m' σ3 (af z D (.lst (ys++[y])))
  else∃m',m'<m/\W (i+1) m' σ3 j)
def io(env:Env):List (Str×NameKind)->List (Str×Addr)->List (Str×Addr)
 | [],cs=>cs
 | (n,k)::r,cs=>if k=.free then io env r ((n,(env.cells.lookup n).getD 0)::cs) else io env r cs
theorem aa8{scope:Scope}(h:∀y∈scope.names,y.2=.free->∃c,env.cells.lookup y.1=some c):closureFor scope env=pure (io env scope.names []):=by
 unfold closureFor;generalize scope.names=l at h;have O:∀(l:List (Str×NameKind)) (cs:List (Str×Addr)),(∀y∈l,y.2=.free->∃c,env.cells.lookup y.1=some c) ->
  (forIn l cs fun(x:Str×NameKind) (r:List (Str×Addr))=>(if (x.2 == .free)=true then do let y <-cellOf env x.1;pure (ForInStep.yield ((x.1,y)::r)) else pure (ForInStep.yield r):Sem (ForInStep (List (Str×Addr)))))=pure (io env l cs):=by
  intro l
  induction l with
  | nil=>intro cs _;rfl
  | cons x l G=>
   intro cs h;obtain⟨n,k⟩:=x;rw[List.forIn_cons]
   by_cases e:k=.free
   . subst e;obtain⟨c,j⟩:=h _ bQ rfl;have j:env.cells.lookup n=some c:=j;have e1:cellOf env n=pure c:=by unfold cellOf;rw[j]
     simp only[e1,io,j,vm,JR,beq_self_eq_true,pure_bind];exact G _ λy z=>h y (bU _ z)
   have J:(k == NameKind.free)=false:=by simpa using e
   simp only[J,io,e,mO,qj,pure_bind];exact G _ λy z=>h y (bU _ z)
 have:=O l [] h;simpa using this
theorem EO:∀{l:List (Str×NameKind)}{cs:List (Str×Addr)}{x:Str}{c:Addr},(∀y∈l,y.2=.free->∃c,env.cells.lookup y.1=some c)->(∀x c,cs.lookup x=some c->env.cells.lookup x=some c) ->
 (io env l cs).lookup x=some c->env.cells.lookup x=some c
 | [],_,_,_,_,hc,e=>hc _ _ e
 | (n,k)::l,cs,x,c,h,hc,e=>by
  unfold io at e;have h':∀y∈l,y.2=.free->∃c,env.cells.lookup y.1=some c:=λy G=>h y (bU _ G);split at e
  . refine EO h' (λz d hz=>?_) e;rename_i j;rw[VL]at hz;split at hz
    . rename_i q;obtain⟨d',hd⟩:=h (n,k) bQ j;have hd:env.cells.lookup n=some d':=hd;have:z=n:=by simpa using q
      subst this;rw[hd]at hz ⊢;exact hz
    exact hc _ _ hz
  exact EO h' hc e
theorem EQ:∀{l:List (Str×NameKind)}{cs:List (Str×Addr)}{x:Str},(cs.lookup x).isSome=true->((io env l cs).lookup x).isSome=true
 | [],_,_,h=>h
 | (n,k)::l,cs,x,h=>by
  unfold io;split
  . refine EQ ?_;rw[VL];split
    . rfl
    exact h
  exact EQ h
theorem ER{x:Str}:∀{l:List (Str×NameKind)}{cs:List (Str×Addr)},(x,NameKind.free)∈l->((io env l cs).lookup x).isSome=true
 | (n,k)::l,cs,h=>by
  unfold io
  rcases be.mp h with e | e
  . cases e;rw[aj rfl];refine EQ ?_;rw[VL];simp
  split
  . exact ER e
  exact ER e
def dM(X:Cx)(N:Ls)(sc:Scope)(s₀:Shared)(H₀:Hp)(C:Addr)(ex:List Addr):Cx where
 prog:=X.prog
 w:=X.w
 K:=X.K
 mg:=X.mg
 base:=X.base
 A:=X.A
 N:=N
 s₀:=s₀
 H₀:=H₀
 env:=compEnvC sc (io X.env sc.names []) C X.env
 outer:=X.stack
 stack:=X.stack
 ex:=ex
 fn:=λ_=>false
 calm:=X.calm
 pn:=[]
 xe:=λ_ _=>False
structure kK(X:Cx)(own bw:Ls)(js:List Nat)(sc:Scope):Prop where
 kind:sc.kind=.function
 nocell:∀y∈sc.names,y.2≠.cell
 names:∀y∈sc.names,y.2=.local->sc.names.lookup y.1=some .local
 nd:(own++bw).Nodup
 frees:∀y∈sc.names,y.2=.free->y.1∈bw
 slots:js.map (λj=>X.N[j]?)=bw.map some
 outer':bw.map X.env.kindOf=bw.map λ_=>some NameKind.cell
 capk':bw.map (λx=>(relabel sc X.env).names.lookup x)=bw.map λ_=>some NameKind.cell
theorem ES{β:Type}{f:α->β}{c:β}:∀{l:List α},l.map f=l.map (λ_=>c)->∀x∈l,f x=c
 | [],_,_,h=>nomatch h
 | y::l,e,x,h=>by
  rw[bS,bS]at e;injection e with e1 e2
  rcases be.mp h with q | q
  . rw[q];exact e1
  exact ES e2 x q
theorem kK.outer{own:Ls}(S:kK X own bw js sc):∀x∈bw,X.env.kindOf x=some .cell:=ES S.outer'
theorem kK.capk{own:Ls}(S:kK X own bw js sc):∀x∈bw,(relabel sc X.env).names.lookup x≠some .local:=λx j h=>by
 rw[ES S.capk' x j]at h;cases h
def compStart(n:Nat)(js:List Nat)(Z:St):St:=List.replicate n none++js.map λj=>(Z[j]?).join
def ET(j:TI)(n:Nat)(js:List Nat)(g:TG)(tt:TT)(te:TE):TE:=λZ H Q=>j Z H λJ H1=>∀D,H1 D=none ->
 ∃W:Nat->Nat->St->Hp->Prop,(∃m,W 0 m (compStart n js Z) (af H1 D (.lst [])))/\kJ J g tt te D (λH'=>Q (.ref D) H') W
section
variable {ad:Po}{Z:St}{H3:Hp}{s3:Shared}
theorem Mp{x:Str}{k:NameKind}(h:(relabel sc env).names.lookup x=some k):k=.local\/k=.globalImplicit\/(x,k)∈sc.names\/(x,NameKind.free)∈sc.names:=by
 have j:=zU h;unfold relabel at j;obtain⟨⟨n,k'⟩,z,e⟩:=cC.mp j;dsimp only at e;split at e
 . rename_i c;cases e;simp only[iH,jP]at c;obtain⟨⟨c,_⟩,_⟩:=c;subst c;exact .inr (.inr (.inr z))
 cases e;exact .inr (.inr (.inl z))
theorem aa9{own:Ls}{it D:Addr}{fp:List Addr}{tn:Nat->Heap->Prop}{J:It}{h4:Heap}{tk:Nat}{m:Mv}
 {W:Nat->Nat->St->Hp->Prop}{Qd:Hp->Prop}{m0:Nat} (S:kK X own bw js sc) (hc:X.calm=true) (G:Inv X ad Z H3 s3) (T:oQ X.prog X.w X.K tg J fp it tn) (tJ:tn 0 s3.heap) (f3:∀b∈fp,fD X ad H3 b)
 (eC:C=s3.heap.objs.size) (kL:h4.Ns C m) (hk:∀b o,s3.heap.get? b=some o->h4.get? b=some o)
 (hg:PG (dM X (own++bw) sc s3 H3 C fp) tg g) (ht:fF (dM X (own++bw) sc s3 H3 C fp) ifs tt) (he:PE (dM X (own++bw) sc s3 H3 C fp) elt te)
 (w0:W 0 m0 (compStart own.length js Z) H3) (ask:kJ J g tt te D Qd W) :
 codeAny (model X.prog X.w) X.A (.compStart (.ListComp elt [⟨tg,iter,ifs,0⟩] sc pos) 0 (.ref it) (.ref D) (compEnvC sc (io X.env sc.names []) C X.env))
  (λr s'=>r=.ok .next/\∃m' H',s'.heap.Ns C m'/\s'.os=s3.os/\AllBare s'.gens/\Un (cg X.stack) fp H3 H' s3.heap s'.heap/\cf X.prog X.w H' s'.heap/\H' C=none/\Qd H') { s3 with heap:=h4,toks:=tk }:=by
 have a9:∀y∈sc.names,y.2=.free->∃c,X.env.cells.lookup y.1=some c:=λy hy e=>G.ok.has _ (.inl (S.outer _ (S.frees y hy e)));have U:∀(x:Str) (c:Addr),(dM X (own++bw) sc s3 H3 C fp).env.cells.lookup x=some c->X.env.cells.lookup x=some c:=λx c e=>
  EO a9 (λx c h=>by cases (show([]:List (Str×Addr)).lookup x=some c from h)) e
 have bo:∀(x:Str) (c:Addr),X.env.cells.lookup x=some c->c<s3.heap.objs.size:=λx c e=>by
  obtain⟨v,q⟩:=G.cell x c e;exact q.lt
 have AX:∀b∈fp,b<s3.heap.objs.size:=λb O=>by
  obtain⟨o,e,_⟩:=T.obj 0 _ tJ b O;exact bG e
 have AY:(dM X (own++bw) sc s3 H3 C fp).Ok:=by
  refine⟨G.ok.mod,S.kind,G.ok.glob,G.ok.blt,vp eC.symm,λx y c e1 e2=>G.ok.inj x y c (U x c e1) (U y c e2),λx hx=>?_,(λx c z _=>nomatch (show false=true from z)),G.ok.hd,G.ok.frames,.inl rfl,λb O=>?_,
   G.bs,bX G.ok.bsz G.sz,λb o e O=>?_,λb O hs=>?_,G.stack,G.stkFree⟩
  . have ig:(relabel sc X.env).names.lookup x=some .cell\/(relabel sc X.env).names.lookup x=some .free:=hx;have hm:(x,NameKind.free)∈sc.names:=by
     rcases ig with z | z
     . rcases Mp z with q | q | q | q
       . cases q
       . cases q
       . exact absurd rfl (S.nocell _ q)
       exact q
     rcases Mp z with q | q | q | q
     . cases q
     . cases q
     . exact q
     exact q
    exact JN.mp (ER hm)
  . refine⟨?_,λx c e=>(f3 b O).2.2.2.2.1 x c (U x c e)⟩;show b≠C;rw[eC];exact cR (AX b O)
  . rcases(f3 b O).2.2.2.1 with z | z
    . exact G.ok.noex b o e z
    have h1:b<X.base.objs.size:=bG e;exact absurd (gt h1 (bX G.ok.bsz z)) (oI _)
  obtain⟨_,f1,f2,_⟩:=f3 b O
  rcases be.mp (G.stkSub b hs) with z | z
  . exact f1 z
  exact f2 z
 have bm:H3 C=none:=by rw[eC];exact G.hok.fresh (aG _)
 have sl:js.length=bw.length:=by have:=fc List.length S.slots;simpa using this
 have I4:Inv (dM X (own++bw) sc s3 H3 C fp) [] (compStart own.length js Z) H3 { s3 with heap:=h4,toks:=tk }:=by
  refine⟨AY,rfl,G.bare,Un.kept hk,⟨m,kL,λi x v e1 e2 hv=>?_⟩,λx c e=>?_,bm,λx c e=>G.freeC x c (U x c e),λp hp=>?_,G.hok.kept hk,?_⟩
  . have e1:(own++bw)[i]?=some x:=e1;unfold compStart at e2
    by_cases hi:i<own.length
    . rw[VC (by simpa using hi),aqV,aj hi]at e2;cases e2
    rw[Dv (by omega)]at e1;rw[Dv (by simpa using hi),VD,dA]at e2;obtain⟨j,hj⟩:∃j,js[i - own.length]?=some j:=by
     cases q:js[i - own.length]? with
     | none=>rw[q]at e2;cases e2
     | some j=>exact⟨j,rfl⟩
    rw[hj]at e2;have e2:(Z[j]?).join=some v:=gU e2;have e3:Z[j]?=some (some v):=by
     cases q:Z[j]? with
     | none=>rw[q]at e2;cases e2
     | some z=>rw[q]at e2;rw[show z=some v from e2]
    have hs:=fc (λl=>l[i - own.length]?) S.slots;simp only[dA,hj,e1,sq]at hs;have hN:X.N[j]?=some x:=gU hs;have hx:x∈bw:=dH e1;obtain⟨m2,xD,xJ⟩:=G.loc;obtain⟨u,ru,lk⟩:=xJ j x v hN e3 (.inr (.inl (S.outer x hx)));refine⟨u,ru,?_⟩
    rcases lk with⟨k1,_⟩ | ⟨_,c,a0,jw⟩
    . rw[S.outer x hx]at k1;cases k1
    have hv:Ao (relabel sc X.env) x:=hv;have kd:(dM X (own++bw) sc s3 H3 C fp).env.kindOf x=some .cell\/(dM X (own++bw) sc s3 H3 C fp).env.kindOf x=some .free\/(dM X (own++bw) sc s3 H3 C fp).env.kindOf x=some .local:=by
     rcases hv with z | z | z
     . exact .inr (.inr z)
     . exact .inl z
     exact .inr (.inl z)
    rcases kd with kd | kd | kd
    . obtain⟨c',gY⟩:=AY.has x (.inl kd);have:=U x c' gY;rw[a0]at this;cases this;exact .inr ⟨.inl kd,c,gY,jw.keeps hk⟩
    . obtain⟨c',gY⟩:=AY.has x (.inr kd);have:=U x c' gY;rw[a0]at this;cases this;exact .inr ⟨.inr kd,c,gY,jw.keeps hk⟩
    have kd:(relabel sc X.env).names.lookup x=some .local:=kd;exact absurd kd (S.capk x hx)
  . obtain⟨v,q⟩:=G.cell x c (U x c e);exact⟨v,q.keeps hk⟩
  . have b8:p∈([]:Po):=hp;cases b8
  show(compStart own.length js Z).length=(own++bw).length;unfold compStart;rw[bH,VD,al,bH,sl]
 have EU:∀{H':Hp},(∀b∈fp,H' b=none)->∀b∈fp,fD (dM X (own++bw) sc s3 H3 C fp) [] H' b:=λ{H'} hn b O=>by
  refine⟨hn b O,?_,λhs=>AY.exfs b O hs,.inl O,λx c e=>(f3 b O).2.2.2.2.1 x c (U x c e),λp hp=>?_⟩
  . show b≠C;rw[eC];exact cR (AX b O)
  have b8:p∈([]:Po):=hp;cases b8
 have Mq:tn 0 h4:=T.keep 0 _ _ tJ λb _ o e=>hk b o e;have a1:codeAny (model X.prog X.w) X.A (.compLoop (.ListComp elt [⟨tg,iter,ifs,0⟩] sc pos) 0 (.ref it) (.ref D) (compEnvC sc (io X.env sc.names []) C X.env))
  (λr s'=>r=.ok .next/\∃m' H',s'.heap.Ns C m'/\s'.os=s3.os/\AllBare s'.gens/\Un (cg X.stack) fp H3 H' s3.heap s'.heap/\cf X.prog X.w H' s'.heap/\H' C=none/\Qd H') { s3 with heap:=h4,toks:=tk }:=by
  refine aa6 (λn s'=>∃i σ' H',Inv (dM X (own++bw) sc s3 H3 C fp) [] σ' H' s'/\tn i s'.heap/\(∀b∈fp,H' b=none)/\W i n σ' H') ?_ m0 ⟨0,_,H3,I4,Mq,λb O=>(f3 b O).1,w0⟩;rintro n s' ⟨i,σ',H',J',fN,Mr,w'⟩
  rcases ask i n σ' H' w' with⟨stop,qd⟩ | ⟨go,step⟩
  . refine thn (T.done (dM X (own++bw) sc s3 H3 C fp) rfl rfl rfl hc i [] s' σ' H' _ J' (EU Mr) fN stop) λr s1 ab=>ab.elim λhr J1=>?_;subst hr;obtain⟨m1,bn,_⟩:=J1.loc;exact⟨rfl,m1,H',bn,J1.os,J1.bare,J1.base,J1.hok,J1.free,qd⟩
  refine thn (T.item (dM X (own++bw) sc s3 H3 C fp) rfl rfl rfl hc i [] s' σ' H' _ J' (EU Mr) fN go) λr s1 ap=>ap.elim λu ar=>ar.elim λhr h1=>?_;subst hr;refine thn h1 λ_ s2 ax=>ax.elim λx az=>az.elim λH5 a'=>a'.elim λJ5 aO=>aO.elim λr5 aR=>aR.elim λy5 aZ=>aZ.elim λtK Ee=>?_;have a2:=J5.pinned (EU Ee) (T.obj _ _ tK);refine d6 (hg _ s2 σ' H5 x u _ a2 r5 (step x H5 y5)) (λ_ s6 b0=>b0.elim λσ6 b1=>b1.elim λH6 b2=>b2.elim λJ6 q6=>?_) (λ_ _ z=>z.elim);refine d6 (ht _ s6 σ6 H6 _ J6 q6) (λok s7 b3=>b3.elim λH7 b4=>b4.elim λJ7 q7=>?_) (λ_ _ z=>z.elim);have again:∀{s9:Shared}{Y:Hp}{m':Nat},Inv (dM X (own++bw) sc s3 H3 C fp) ([]++tI fp s2.heap) σ6 Y s9->m'<n->W (i+1) m' σ6 Y ->
   ∃m,m<n/\∃i σ' H',Inv (dM X (own++bw) sc s3 H3 C fp) [] σ' H' s9/\tn i s9.heap/\(∀b∈fp,H' b=none)/\W i m σ' H':=λ{s9 Y m'} J9 hm w9=>by
   refine⟨m',hm,i+1,σ6,Y,J9.unpinned,T.keep _ _ _ tK λb O o e=>(J9.pin (b,o) (fe _ (fe _ (qI O e)))).1,λb O=>?_,w9⟩;obtain⟨o,e,d⟩:=T.obj _ _ tK b O;exact(J9.pin (b,o) (fe _ (fe _ (qI O e)))).2.1
  cases ok with
  | false=>
   rw[ag cV]at q7 ⊢;obtain⟨m',hm,w7⟩:=q7;exact again J7 hm w7
  | true=>
   rw[aj rfl]at q7 ⊢;refine d6 (he _ s7 σ6 H7 _ J7 q7) (λy s8 b5=>b5.elim λyv b6=>b6.elim λH8 b7=>b7.elim λJ8 bb=>bb.elim λr8 bd=>bd.elim λys bg=>bg.elim λja bl=>bl.elim λhz a3=>a3.elim λm' a4=>a4.elim λhm w8=>?_) (λ_ _ z=>z.elim);refine d6 (qM (X:=dM X (own++bw) sc s3 H3 C fp) _ s8 σ6 H8 (.ref D) [yv] (.ref D) [y] (λv Y=>Y=af H8 D (.lst (ys++[yv]))) J8 rfl (.cons r8 .nil) ⟨ja,hz,rfl⟩) (λ_ s9 a5=>a5.elim λ_ a6=>a6.elim λY a7=>a7.elim λJ9 a8=>a8.elim λ_ eH=>?_) (λ_ _ z=>z.elim);subst eH;exact again J9 hm w8
 exact codeAny_compStart_list a1 (T.self X.A 0 _ _ _ Mq a1)
theorem Ms{own:Ls}{it:Addr}{fp:List Addr}{Y:Nat->Heap->Prop}{J:It}{H2:Hp}{j:Shared}{use:Option (Value->Sem Unit)}{Qr:VP}{O:VP}
 {Q:V->Hp->Prop} (S:kK X own bw js sc) (hc:X.calm=true) (U:Inv X ad Z H2 j) (T:oQ X.prog X.w X.K tg J fp it Y) (f9:Y 0 j.heap) (G:∀b∈fp,fD X ad H2 b)
 (hg:∀s₀ H₀ C ex,PG (dM X (own++bw) sc s₀ H₀ C ex) tg g) (ht:∀s₀ H₀ C ex,fF (dM X (own++bw) sc s₀ H₀ C ex) ifs tt) (he:∀s₀ H₀ C ex,PE (dM X (own++bw) sc s₀ H₀ C ex) elt te)
 (q2:∀D,H2 D=none->∃W:Nat->Nat->St->Hp->Prop,(∃m,W 0 m (compStart own.length js Z) (af H2 D (.lst [])))/\kJ J g tt te D (λH'=>Q (.ref D) H') W)
 (a2:∀(D C:Addr) (H':Hp) (s':Shared) (m':Mv),j.heap.objs.size<C->s'.heap.Ns C m'->Inv X ad Z H' s'->H' C=none->Q (.ref D) H'->compPost (model X.prog X.w) X.A O use Qr (.ref D) C (.ok .next) s') :
 wpAny (model X.prog X.w) X.A (newList []) (λa0 s₃=>wpAny (model X.prog X.w) X.A (newFunctionEnv sc X.env.globals (io X.env sc.names []) [] X.env.qual none .none (some X.env)) (λMt s₄=>
  codeAny (model X.prog X.w) X.A (.compStart (.ListComp elt [⟨tg,iter,ifs,0⟩] sc pos) 0 (.ref it) a0 { Mt with scope:=relabel sc X.env }) (compPost (model X.prog X.w) X.A O use Qr a0 Mt.locals) s₄) O s₃) O j:=by
 have Mu:H2 j.heap.objs.size=none:=U.fresh;obtain⟨W,⟨m0,w0⟩,ask⟩:=q2 _ Mu;have I3:=U.lnew (ys:=[]) (b_:=[]) (t':=j.toks) .nil (dz _);have AX:∀b∈fp,b<j.heap.objs.size:=λb z=>by
  obtain⟨o,e,_⟩:=T.obj 0 _ f9 b z;exact bG e
 have f3:∀b∈fp,fD X ad (af H2 j.heap.objs.size (.lst [])) b:=λb z=>by
  refine⟨?_,(G b z).2⟩;rw[aX (cR (AX b z))];exact(G b z).1
 refine Aa (hd:=by size_fits) (wpAny_newFunctionEnv S.nocell (by intro y hy;simp at hy) (λh4 kL Mw=>?_) S.kind);dsimp only at kL Mw ⊢;have a3:∀b o,(j.heap.push { cls:=.type "list",dict:=none,data:=.seq ([]:Lw).toArray }).get? b=some o->h4.get? b=some o:=λb o e=>
  Mw.extBut b o (cR (bG e)) (cb _ e)
 have tJ:Y 0 (j.heap.push { cls:=.type "list",dict:=none,data:=.seq ([]:Lw).toArray }):=T.keep 0 _ _ f9 λb _ o e=>cb _ e;refine ql (aa9 (s3:={ j with heap:=j.heap.push { cls:=.type "list",dict:=none,data:=.seq ([]:Lw).toArray } }) (tk:=j.toks+([]:List (Str×Value)).length) S hc I3 T tJ f3 rfl kL a3 (hg _ _ _ _) (ht _ _ _ _) (he _ _ _ _) w0 ask) λr s' hr=>?_;obtain⟨er,m',H',i3,AG,a1,a4,tZ,xO,qd⟩:=hr;subst er;have a5:Un (cg X.stack) fp H2 (af H2 j.heap.objs.size (.lst [])) j.heap (j.heap.push { cls:=.type "list",dict:=none,data:=.seq ([]:Lw).toArray }):=Un.laid (λb o e=>cb _ e) (aG _) Mu;refine a2 _ _ H' s' m' ?_ i3 (U.call' (s':=s') (ch:=fp) AG (a5.trans a4) tZ a1 (λb z=>⟨(G b z).2.2.2.1,(G b z).2.1,(G b z).2.2.2.2.1,(G b z).2.2.2.2.2⟩)) xO qd;show j.heap.objs.size<(j.heap.push { cls:=.type "list",dict:=none,data:=.seq ([]:Lw).toArray }).objs.size;rw[sf];exact wS _
theorem Inv.letGo{H:Hp}{h':Heap}(I:Inv X ad Z H s)(z:Heap.SameBut C s.heap h')(J:H C=none)(h0:X.s₀.heap.objs.size<=C)(h1:C≠X.env.locals)(h2:∀x c,X.env.cells.lookup x=some c->c≠C)(G:∀p∈X.pn++ad,p.1≠C) :
 Inv X ad Z H { s with heap:=h' }:=by
 refine I.call' (s':={ s with heap:=h' }) (ch:=[C]) rfl ⟨λb o e _ _ j=>?_,λb o e _ _ j=>⟨o.slots,?_⟩,λ_ _ _ n _=>n,λb o e j=>⟨o,?_⟩,λ_ _ q=>q,λ_ _ _ q=>q,λ_ ps q=>⟨#[],by rw[q];simp⟩⟩ (aa7 I.hok z J) I.bare (λb j=>?_)
 . exact(z.2 b (by simpa using j)).trans e
 . exact(z.2 b (by simpa using j)).trans e
 . exact(z.2 b (by simpa using j)).trans e
 have:b=C:=by simpa using j
 subst this;exact⟨.inr h0,h1,h2,G⟩
theorem Inv.goes{H2 H:Hp}{J:Shared}{σ':St}{h':Heap}(j:Inv X ad σ' H2 J)(G:J.heap.objs.size<C)(I:Inv X ad Z H s)(Y:Heap.SameBut C s.heap h')(O:H C=none):Inv X ad Z H { s with heap:=h' }:=by
 refine I.letGo Y O (vo (VJ j.sz G)) (kz (wU j.lt G)) (λx c e z=>?_) (λp U z=>?_)
 . obtain⟨v,q⟩:=j.cell x c e;exact absurd (wU q.lt G) (by rw[z];exact oI _)
 exact absurd (wU (bG (j.pin p U).1) G) (by rw[z];exact oI _)
theorem kK.clos{own:Ls}(S:kK X own bw js sc)(ok:X.Ok):closureFor sc X.env=pure (io X.env sc.names []):=
 aa8 λy j e=>ok.has _ (.inl (S.outer _ (S.frees y j e)))
theorem fT(own bw:Ls)(js:List Nat){z:TI}(S:kK X own bw js sc)(hc:X.calm=true)(hi:PI X tg iter z)
 (hg:∀s₀ H₀ C ex,PG (dM X (own++bw) sc s₀ H₀ C ex) tg g) (ht:∀s₀ H₀ C ex,fF (dM X (own++bw) sc s₀ H₀ C ex) ifs tt) (he:∀s₀ H₀ C ex,PE (dM X (own++bw) sc s₀ H₀ C ex) elt te)
 (hs:∀x,foldedSetIterable iter X.env x=pure x:=by intro _;rfl):PE X (.ListComp elt [⟨tg,iter,ifs,0⟩] sc pos) (ET z own.length js g tt te):=by
 intro ad s Z H Q I h;rw[eval_ListComp];refine aq4 (use:=none) rfl hs (S.clos I.ok) S.kind S.names (thn (hi ad s Z H _ I h) λv s1 h1=>thn h1 λAx s2 h2=>?_);obtain⟨it,fp,tn,J,H2,e,j,T,U,O,q2⟩:=h2;subst e;refine Ms (Q:=Q) S hc j T U O hg ht he q2 λD C H' s' m' Y i3 G xO qd=>?_;exact⟨m',i3,λh' sb=>⟨.ref D,H',j.goes Y G sb xO,rfl,qd⟩⟩
theorem qT{i:Nat}{x:Str}{px ps:Pos}(own bw:Ls)(js:List Nat){Y:TI}(hN:X.N.Nodup)(hx:X.N[i]?=some x)(U:X.env.scope.names.lookup x=some .local)(S:kK X own bw js sc)(hc:X.calm=true)
 (hi:PI X tg iter Y) (hg:∀s₀ H₀ C ex,PG (dM X (own++bw) sc s₀ H₀ C ex) tg g) (ht:∀s₀ H₀ C ex,fF (dM X (own++bw) sc s₀ H₀ C ex) ifs tt) (he:∀s₀ H₀ C ex,PE (dM X (own++bw) sc s₀ H₀ C ex) elt te)
 (a3:swapsWith (.ListComp elt [⟨tg,iter,ifs,0⟩] sc pos) (some (.Name x px)) ps.line X.env=pure true:=by rfl)
 (hs:∀x,foldedSetIterable iter X.env x=pure x:=by intro _;rfl):PS X (.Assign [.Name x px] (.ListComp elt [⟨tg,iter,ifs,0⟩] sc pos) ps) (KH (ET Y own.length js g tt te) (lR i)):=by
 intro ad s Z H D I h;rw[exec_Assign_Name_used _ _ _ _ a3];refine ae (VA (ae ?_));show wpAny _ X.A (do let _ <-comprehension (.ListComp elt [⟨tg,iter,ifs,0⟩] sc pos) sc X.env _ (newList []) false (eval iter X.env) (some (assign (.Name x px) X.env))) _ _ s;refine ae (d6 (aq4 (use:=some (assign (.Name x px) X.env)) (Q:=λ_ s'=>∃σ' H',Inv X ad σ' H' s'/\D.nx σ' H') rfl hs (S.clos I.ok) S.kind S.names
  (thn (hi ad s Z H _ I h) λv s1 h1=>thn h1 λAx s2 h2=>?_)) (λ_ s' hq=>aq (aq hq)) λ_ _ e=>e)
 obtain⟨it,fp,tn,J,H2,e,j,T,f9,f2,q2⟩:=h2;subst e;refine Ms (Q:=λv H1=>lR i v Z H1 D.nx) S hc j T f9 f2 hg ht he q2 λO C H' s' m' G i3 I' xO qd=>?_;show wpAny _ X.A (assign (.Name x px) X.env (.ref O)) _ _ s';refine wpAny_assign_Name (Ks (v:=.ref O) I' hN hx (.inl U) rfl (λAI a0 a1=>a1.elim λa a2=>a2.elim λsb ha=>?_) (.inr U));have ne:C≠a:=by
  rcases ha with z | z
  . rw[z];exact kz (wU j.lt G)
  obtain⟨v,q⟩:=j.cell x a z;exact kz (wU q.lt G)
 exact⟨m',i3.sameBut sb ne,λh' a4=>⟨_,H',j.goes G a0 a4 xO,qd⟩⟩
end
section
variable {e k:Expr}{tk:TE}{p2:Pos}
def abP(K:Fg)(te tk:TE):TE:=λZ H Q=>te Z H λx H1=>tk Z H1 λz H2=>z=.int (-1)/\∃a xs,x=.ref a/\aa K H2 a xs/\∀p,H2 p=none->Q (.ref p) (af H2 p (.lst xs.reverse))
theorem Paired.rev{β:Type}{R:α->β->Prop}:∀{xs:List α}{ys:List β},Paired R xs ys->∀{z:List α}{j:List β},Paired R z j->Paired R (xs.reverseAux z) (ys.reverseAux j)
 | _,_,.nil,_,_,h=>h
 | _,_,.cons r rs,_,_,h=>Paired.rev rs (.cons r h)
theorem abQ(he:PE X e te)(hk:PE X k tk):PE X (.Subscript e (.Slice none none (some k) p2) pos) (abP X.K te tk):=by
 intro ad s Z H Q I h;refine JO (thn (he ad s Z H _ I h) λv s1 U=>aW U λx H1 J r1 q1=>?_);refine wpAny_Slice ?_;rw[VE];refine aq (aq ?_);rw[evalPart_some];refine thn (hk ad s1 Z H1 _ J q1) λu s3 Y=>aW Y λz H3 O r3 q3=>?_;obtain⟨ez,a,xs,ex,hx,q⟩:=q3;subst ez ex;obtain⟨t,rfl⟩:=r3;cases r1;have j:Inv X ad Z H3 { s3 with heap:=s3.heap.push { cls:=.type "slice",data:=.fields #[.none,.none,.int (-1) t] } }:=O.kept (t':=s3.toks) λb ob q=>cb _ q;obtain⟨b_,r,G,hz⟩:=j.list hx;have a0:=r.length;show wpAny (model X.prog X.w) X.A (subscriptTail e (.Slice none none (some k) p2) (.ref a) (.ref s3.heap.objs.size)) (EP X ad Z Q) X.xe { s3 with heap:=s3.heap.push { cls:=.type "slice",data:=.fields #[.none,.none,.int (-1) t] } };refine tail_any (ops:=[.ref a,.ref s3.heap.objs.size]) (T:="list") G.isList.typeIs VF.lookup ?_ (by with_unfolding_all rfl);refine aqY G.isList (Heap.IsSliceOf.new ..) .none .none (.int (-1) t) (by decide) ?_ (by rw[fY];omega);rw[W.krv_pick];refine⟨.ref _,_,j.laid (t':=s3.toks) (o:=.lst xs.reverse) (λb ob q=>cb _ q) (aG _) ?_,rfl,q _ (j.hok.fresh (aG _))⟩;exact⟨by rw[VM];exact hz,_,0,Paired.rev r .nil,dG _ rfl⟩
end
abbrev eg (H:Hp) (o:HO) (Q:V->Hp->Prop):Prop:=∀p H',H p=none->ac H H'->H' p=some o->Q (.ref p) H'
theorem eg.at{H:Hp}{o:HO}{Q:V->Hp->Prop}(h:eg H o Q):∀p,H p=none->Q (.ref p) (af H p o):=λp j=>h p _ j (fR j) aD
theorem cD.weak{f:Value->Value->Sem Value}{r j:R2}(h:cD X f r)(w:∀x y H Q,j x y H Q->r x y H Q):cD X f j:=λad s Z H x y v u Q I z G q=>h ad s Z H x y v u Q I z G (w _ _ _ _ q)
theorem ff.weak{f:Value}{r j:Lv->Hp->VK->Prop}(h:ff X f r)(w:∀xs H Q,j xs H Q->r xs H Q):ff X f j:=λad s Z H xs us Q I z q=>h ad s Z H xs us Q I z (w _ _ _ q)
theorem tR.weak{r j:V->Option Int->Option Int->Hp->VK->Prop}(h:tR X r)(w:∀x l u H Q,j x l u H Q->r x l u H Q):tR X j:=λad s Z H x v J O lo hi sl Q I G hs pl z q=>h ad s Z H x v J O lo hi sl Q I G hs pl z (w _ _ _ _ _ q)
section
variable {e k:Expr}{es:List Expr}{tk:TE}{t:TA}{p2:Pos}
inductive Mx (H:Hp) (Q:VK):V->V->Prop where
 | mk {l:Addr}{b:Addr}{xs:Lv}{zs:Lv} (_:H l=some (.lst xs)) (_:H b=some (.lst zs)) (_:xs.length+zs.length<=sizeLine) (_:eg H (.lst (xs++zs)) Q):Mx H Q (.ref l) (.ref b)
def abT:R2:=λx y H Q=>Mx H Q x y
theorem vL:cD X (binaryOp .Add) abT:=ZF.weak λx y H Q h=>by obtain @⟨l,b,xs,zs,j,z,G,J⟩:=h;exact⟨l,b,xs,zs,rfl,rfl,j,z,G,J.at⟩
inductive My (K:Fg) (lo:Option Int) (hi:Option Int) (H:Hp) (Q:VK):V->Prop where
 | mk {a:Addr}{xs:Lv} (_:aa K H a xs) (_:eg H (.lst (tS xs lo hi)) Q):My K lo hi H Q (.ref a)
def abU(K:Fg):V->Option Int->Option Int->Hp->VK->Prop:=λx lo hi H Q=>My K lo hi H Q x
theorem vM:tR X (abU X.K):=Zt.weak λx l u H Q h=>by obtain @⟨a,xs,j,z⟩:=h;exact⟨a,xs,rfl,j,z.at⟩
theorem ma:ff X (.type "list") (λxs H Q=>∃p ys,xs=[.ref p]/\(aa X.K H p ys\/ba X.K H p ys)/\eg H (.lst ys) Q):=xI.weak λxs H Q J=>J.elim λp O=>O.elim λys U=>U.elim λj Y=>Y.elim λz G=>⟨p,ys,j,z,G.at⟩
def abZ(t:TA):TE:=λZ H Q=>t Z H λxs H1=>xs.length<=sizeLine/\eg H1 (.tup xs) Q
def ab0(t:TA):TE:=λZ H Q=>t Z H λxs H1=>xs.length<=sizeLine/\eg H1 (.lst xs) Q
theorem PA.thn{t:TA}(h:PA X es t){A:Hp->Prop}{F:VK->Lv->Hp->Prop}{G:VK->Lv->Hp->Prop}(w:∀Q xs H,F Q xs H->G Q xs H):PA X es (λZ H R=>∃Q:VK,t Z H (F Q)/\R=G Q):=by
 intro pos ad s Z H R I ⟨Q,q,e⟩;subst e;exact L2.thn (h pos ad s Z H _ I q) λus U z=>aW z λvs H1 j O J=>⟨vs,H1,j,O,w _ _ _ J⟩
theorem dE{x1}(h:PA X es t):PE X (.Tuple es x1 pos) (abZ t):=by
 intro ad s Z H Q I q;exact Lf (PA.thn (A:=λ_=>True) (F:=λQ xs H1=>xs.length<=sizeLine/\eg H1 (.tup xs) Q) (G:=λQ xs H1=>xs.length<=sizeLine/\∀p,H1 p=none->Q (.ref p) (af H1 p (.tup xs))) h (λQ xs H j=>j.elim λa b=>⟨a,b.at⟩)) ad s Z H Q I ⟨Q,q,rfl⟩
theorem cU(h:PA X es t):PE X (.List es pos) (ab0 t):=by
 intro ad s Z H Q I q;exact YW (PA.thn (A:=λ_=>True) (F:=λQ xs H1=>xs.length<=sizeLine/\eg H1 (.lst xs) Q) (G:=λQ xs H1=>xs.length<=sizeLine/\∀p,H1 p=none->Q (.ref p) (af H1 p (.lst xs))) h (λQ xs H j=>j.elim λa b=>⟨a,b.at⟩)) ad s Z H Q I ⟨Q,q,rfl⟩
def ab4(K:Fg)(te:TE):TE:=λZ H Q=>te Z H λx H2=>∃a xs,x=.ref a/\aa K H2 a xs/\eg H2 (.lst xs.reverse) Q
theorem PE.thn{t:TE}{F G:VK->VK}(h:PE X e t)(w:∀Q v H,F Q v H->G Q v H):PE X e (λZ H R=>∃Q:VK,t Z H (F Q)/\R=G Q):=by
 intro ad s Z H R I ⟨Q,q,e⟩;subst e;exact L2.thn (h ad s Z H _ I q) λu U z=>aW z λv H1 j O J=>⟨v,H1,j,O,w _ _ _ J⟩
theorem Mz{j p3 p4}(he:PE X e te):PE X (.Subscript e (.Slice none none (some (.UnaryOp .USub (.Constant (.int 1) j p3) p4)) p2) pos) (ab4 X.K te):=by
 intro ad s Z H Q I q;refine abQ (k:=.UnaryOp .USub (.Constant (.int 1) j p3) p4) (PE.thn (F:=λQ x H2=>∃a xs,x=.ref a/\aa X.K H2 a xs/\eg H2 (.lst xs.reverse) Q)
  (G:=λQ x H1=>∃i,V.int 1=.int i/\(V.int (-i)=.int (-1)/\∃a xs,x=.ref a/\aa X.K H1 a xs/\∀p,H1 p=none->Q (.ref p) (af H1 p (.lst xs.reverse)))) he
  λQ v H U=>U.elim λa Y=>Y.elim λxs a0=>a0.elim λz a4=>a4.elim λJ O=>⟨1,rfl,rfl,a,xs,z,J,O.at⟩) (tN tO ak) ad s Z H Q I ⟨Q,q,rfl⟩
end
section
variable {H1:Hp}{Q:Addr->Hp->Prop}
theorem aca{lo:Int}{n:Nat}(S:St->Prop)(P:Nat->Lv->Hp->Prop)(s0:S σ0)(st:∀D,H1 D=none->P 0 [] (af H1 D (.lst [])))
 (a0:∀D i ys Z H (k:St->V->Hp->Prop) (k':St->Hp->Prop),H1 D=none->i<n->S Z->H D=some (.lst ys)->ac H1 H->P i ys H ->
  (∀σ3 y z,S σ3->ac H z->ys.length<sizeLine->P (i+1) (ys++[y]) (af z D (.lst (ys++[y])))->k σ3 y z)->(∀σ3 j,S σ3->ac H j->P (i+1) ys j->k' σ3 j) ->
  g (.int (lo+i)) Z H λσ3 H3=>tt σ3 H3 λok j=>if ok=true then te σ3 j (k σ3) else k' σ3 j)
 (done:∀D ys H,H1 D=none->H D=some (.lst ys)->ac H1 H->P n ys H->Q D H) :
 ∀D,H1 D=none->∃W:Nat->Nat->St->Hp->Prop,(∃m,W 0 m σ0 (af H1 D (.lst [])))/\kJ (oR lo n) g tt te D (λH'=>Q D H') W:=by
 intro D J;refine⟨λi m Z H=>m=n - i/\i<=n/\S Z/\∃ys,H D=some (.lst ys)/\ac H1 H/\P i ys H,⟨n,by simp,dz _,s0,[],aD,fR J,st D J⟩,?_⟩;rintro i m Z H ⟨rfl,hi,hS,ys,hd,hs,hp⟩
 by_cases O:i<n
 . refine .inr ⟨O,λx H2 hy=>?_⟩;obtain⟨e1,e2⟩:=hy;subst e1 e2;exact a0 D i ys Z _ (λσ3 y z=>∃ys,z D=some (.lst ys)/\ys.length<sizeLine/\∃m',m'<n - i/\(m'=n - (i+1)/\i+1<=n/\S σ3/\∃zs,af z D (.lst (ys++[y])) D=some (.lst zs)/\ac H1 (af z D (.lst (ys++[y])))/\P (i+1) zs (af z D (.lst (ys++[y])))))
    (λσ3 j=>∃m',m'<n - i/\(m'=n - (i+1)/\i+1<=n/\S σ3/\∃zs,j D=some (.lst zs)/\ac H1 j/\P (i+1) zs j)) J O hS hd hs hp
    (λσ3 y z U G Y a4=>⟨ys,G _ _ hd,Y,n - (i+1),by omega,rfl,O,U,ys++[y],aD,fh (hs.trans G) J,a4⟩)
    (λσ3 j U G Y=>⟨n - (i+1),by omega,rfl,O,U,ys,G _ _ hd,hs.trans G,Y⟩)
 have e:i=n:=by omega
 subst e;exact .inl ⟨aG _,done D ys H J hd hs hp⟩
theorem EV{a:Addr}{xs:Lv}(hx:aa K H1 a xs)(S:St->Prop)(P:Nat->Lv->Hp->Prop)(s0:S σ0)(st:∀D,H1 D=none->P 0 [] (af H1 D (.lst [])))
 (a0:∀D i x ys Z H (k:St->V->Hp->Prop) (k':St->Hp->Prop),H1 D=none->xs[i]?=some x->S Z->H D=some (.lst ys)->ac H1 H->P i ys H ->
  (∀σ3 y z,S σ3->ac H z->ys.length<sizeLine->P (i+1) (ys++[y]) (af z D (.lst (ys++[y])))->k σ3 y z)->(∀σ3 j,S σ3->ac H j->P (i+1) ys j->k' σ3 j) ->
  g x Z H λσ3 H3=>tt σ3 H3 λok j=>if ok=true then te σ3 j (k σ3) else k' σ3 j)
 (done:∀D ys H,H1 D=none->H D=some (.lst ys)->ac H1 H->P xs.length ys H->Q D H) :
 ∀D,H1 D=none->∃W:Nat->Nat->St->Hp->Prop,(∃m,W 0 m σ0 (af H1 D (.lst [])))/\kJ (mY K a) g tt te D (λH'=>Q D H') W:=by
 intro D J;refine⟨λi m Z H=>m=xs.length - i/\i<=xs.length/\S Z/\∃ys,H D=some (.lst ys)/\ac H1 H/\P i ys H,⟨xs.length,by simp,dz _,s0,[],aD,fR J,st D J⟩,?_⟩;rintro i m Z H ⟨rfl,hi,hS,ys,hd,hs,hp⟩;have q:aa K H a xs:=ac.seq hs hx
 by_cases Y:i<xs.length
 . refine .inr ⟨⟨xs,xs[i],q,by simp[Y]⟩,λx H2 hy=>?_⟩;obtain⟨e1,e2⟩:=hy;subst e1;exact a0 D i x ys Z _ (λσ3 y z=>∃ys,z D=some (.lst ys)/\ys.length<sizeLine/\∃m',m'<xs.length - i/\(m'=xs.length - (i+1)/\i+1<=xs.length/\S σ3/\∃zs,af z D (.lst (ys++[y])) D=some (.lst zs)/\ac H1 (af z D (.lst (ys++[y])))/\P (i+1) zs (af z D (.lst (ys++[y])))))
    (λσ3 j=>∃m',m'<xs.length - i/\(m'=xs.length - (i+1)/\i+1<=xs.length/\S σ3/\∃zs,j D=some (.lst zs)/\ac H1 j/\P (i+1) zs j)) J (e2 xs q) hS hd hs hp
    (λσ3 y z O G U a4=>⟨ys,G _ _ hd,U,xs.length - (i+1),by omega,rfl,Y,O,ys++[y],aD,fh (hs.trans G) J,a4⟩)
    (λσ3 j O G U=>⟨xs.length - (i+1),by omega,rfl,Y,O,ys,G _ _ hd,hs.trans G,U⟩)
 have e:i=xs.length:=by omega
 subst e;exact .inl ⟨⟨xs,q,aG _⟩,done D ys H J hd hs hp⟩
theorem xP{lo:Int}{n:Nat}(S:St->Prop)(P:Nat->Lv->Hp->Prop)(s0:S σ0)(st:∀D,H1 D=none->P 0 [] (af H1 D (.lst [])))
 (a0:∀D i ys Z H (k:St->V->Hp->Prop),H1 D=none->i<n->S Z->H D=some (.lst ys)->ac H1 H->P i ys H ->
  (∀σ3 y j,S σ3->ac H j->ys.length<sizeLine->P (i+1) (ys++[y]) (af j D (.lst (ys++[y])))->k σ3 y j)->g (.int (lo+i)) Z H λσ3 H3=>te σ3 H3 (k σ3))
 (done:∀D ys H,H1 D=none->H D=some (.lst ys)->ac H1 H->P n ys H->Q D H) :
 ∀D,H1 D=none->∃W:Nat->Nat->St->Hp->Prop,(∃m,W 0 m σ0 (af H1 D (.lst [])))/\kJ (oR lo n) g qR te D (λH'=>Q D H') W:=
 aca S P s0 st (λD i ys Z H k k' z G J O U Y a7 _=>a0 D i ys Z H k z G J O U Y a7) done
theorem xQ{a:Addr}{xs:Lv}(hx:aa K H1 a xs)(S:St->Prop)(P:Nat->Lv->Hp->Prop)(s0:S σ0)(st:∀D,H1 D=none->P 0 [] (af H1 D (.lst [])))
 (a0:∀D i x ys Z H (k:St->V->Hp->Prop),H1 D=none->xs[i]?=some x->S Z->H D=some (.lst ys)->ac H1 H->P i ys H ->
  (∀σ3 y j,S σ3->ac H j->ys.length<sizeLine->P (i+1) (ys++[y]) (af j D (.lst (ys++[y])))->k σ3 y j)->g x Z H λσ3 H3=>te σ3 H3 (k σ3))
 (done:∀D ys H,H1 D=none->H D=some (.lst ys)->ac H1 H->P xs.length ys H->Q D H) :
 ∀D,H1 D=none->∃W:Nat->Nat->St->Hp->Prop,(∃m,W 0 m σ0 (af H1 D (.lst [])))/\kJ (mY K a) g qR te D (λH'=>Q D H') W:=
 EV hx S P s0 st (λD i x ys Z H k k' z G J O U Y a7 _=>a0 D i x ys Z H k z G J O U Y a7) done
end
end L2
namespace Lcp
variable {xs ys:Ls}
def gf:Ls->Ls->Nat
 | x::xs,y::ys=>if x=y then gf xs ys+1 else 0
 | _,_=>0
theorem EW:∀(xs ys:Ls),gf xs ys<=xs.length/\gf xs ys<=ys.length
 | [],_=>by simp[gf]
 | _::_,[]=>by simp[gf]
 | x::xs,y::ys=>by
  unfold gf;have:=EW xs ys;split<;>simp only[cr]<;>omega
theorem acb{i:Nat}{x y:Str}(j:xs[i]?=some x)(z:ys[i]?=some y):gf (xs.drop i) (ys.drop i)=if x=y then gf (xs.drop (i+1)) (ys.drop (i+1))+1 else 0:=by
 obtain⟨h1,e1⟩:=cN.mp j;obtain⟨h2,e2⟩:=cN.mp z;rw[DA h1,DA h2,e1,e2];rfl
theorem MA{i:Nat}(h:xs.length<=i\/ys.length<=i):gf (xs.drop i) (ys.drop i)=0:=by
 rcases h with h | h
 . rw[Ab.mpr h];rfl
 rw[Ab.mpr h];cases xs.drop i<;>rfl
def fst(xs ys:Ls):Nat:=gf xs ys
def ph(xs ys:Ls):Nat:=gf (xs.drop (fst xs ys)).reverse (ys.drop (fst xs ys)).reverse
def jx(xs ys:Ls):Nat:=xs.length - ph xs ys
def ub(xs ys:Ls):Ls:=(ys.drop (fst xs ys)).take (ys.length - ph xs ys - fst xs ys)
theorem MB(xs ys:Ls):fst xs ys+ph xs ys<=xs.length/\fst xs ys+ph xs ys<=ys.length:=by
 have h1:=EW xs ys;have h2:=EW (xs.drop (fst xs ys)).reverse (ys.drop (fst xs ys)).reverse;rw[VM,mP,VM,mP]at h2;unfold ph;unfold fst at *;omega
theorem MC(xs ys:Ls):(ub xs ys).length=ys.length - ph xs ys - fst xs ys:=by
 obtain⟨j,z⟩:=MB xs ys;unfold ub;rw[eP,mP];omega
theorem MD{x:Str}(h:x∈ub xs ys):x∈ys:=JS (JT h)
end Lcp
namespace L2
variable {xs ys:Ls}
structure Ln(x:Str):Prop where
 ok:gE x
 len:x.length<=60
structure md(xs:Ls):Prop where
 len:xs.length<=20
 all:∀x∈xs,Ln x
def qU(xs:Ls)(lo hi:Option Int):Ls:=(xs.drop (HT.gB xs.length 0 lo)).take (HT.gB xs.length xs.length hi - HT.gB xs.length 0 lo)
theorem vN(xs:Ls)(lo hi:Option Int):tS (xs.map V.str) lo hi=(qU xs lo hi).map V.str:=by
 unfold tS qU;rw[al,VN,List.map_drop]
theorem acd{k:Int}(h:0<=k):qU xs none (some k)=xs.take k.toNat:=by
 obtain⟨n,rfl⟩:∃n:Nat,k=n:=⟨k.toNat,by omega⟩;unfold qU;rw[HT.LB,HT.AK,List.drop_zero,Nat.sub_zero];exact aq5.mpr (by simp)
theorem EX{k:Int}(h:0<=k):qU xs (some k) none=xs.drop k.toNat:=by
 obtain⟨n,rfl⟩:∃n:Nat,k=n:=⟨k.toNat,by omega⟩;unfold qU;rw[HT.LB,HT.AK,lI];rw[VO (by rw[mP];omega)]
 by_cases q:n<=xs.length
 . rw[Nat.min_eq_left q]
 rw[Nat.min_eq_right (by omega),Ab.mpr (aG _),Ab.mpr (by omega)]
theorem ME{i j:Int}(h:0<=i)(h':0<=j):qU xs (some i) (some j)=(xs.drop i.toNat).take (j.toNat - i.toNat):=by
 obtain⟨n,rfl⟩:∃n:Nat,i=n:=⟨i.toNat,by omega⟩;obtain⟨m,rfl⟩:∃n:Nat,j=n:=⟨j.toNat,by omega⟩;unfold qU;rw[HT.AK,HT.AK,lI,lI]
 by_cases q:n<=xs.length
 . rw[Nat.min_eq_left q];exact aq5.mpr (by rw[mP];omega)
 rw[Ab.mpr (show xs.length<=n by omega),Ab.mpr (show xs.length<=min n xs.length by omega)];simp
theorem xR{r:Int}(h0:0<=r)(h1:r<xs.length):∃z,cE (xs.map V.str) r=some (V.str z)/\xs[r.toNat]?=some z:=by
 obtain⟨v,e,e2⟩:=EN (xs:=xs.map V.str) h0 (by rw[al];exact h1);rw[dA]at e2;cases q:xs[r.toNat]? with
 | none=>rw[q]at e2;cases e2
 | some z=>
  rw[q]at e2;cases e2;exact⟨z,e,rfl⟩
theorem AZ(xs ys:Ls):xs.map V.str++ys.map V.str=(xs++ys).map V.str:=(dJ ..).symm
theorem MF(xs:Ls):(xs.map V.str).reverse=xs.reverse.map V.str:=List.map_reverse.symm
theorem uc(xs:Ls)(y:Str):xs.map V.str++[V.str y]=(xs++[y]).map V.str:=by rw[dJ];rfl
theorem kM{n:Nat}(h:n<=1000):n<=sizeLine:=vo (bZ h)
abbrev dS (xs:Ls):W.Dat:=.list (xs.map W.Dat.str)
theorem kN{K:Fg}{H:Hp}{a:Addr}(h:aa K H a (xs.map V.str)):DV K H (.ref a) (dS xs):=.lst h (Mm xs)
theorem xS(n:Nat)(h:∀x∈xs,Ln x):W.kqdOk (n+1) (dS xs)=true:=by
 simp only[dS,W.kqdOk,gW,cC];rintro d ⟨x,j,rfl⟩;cases n with
 | zero=>exact(h x j).ok
 | succ n=>exact(h x j).ok
theorem ace(h:xs.map W.Dat.str=ys.map W.Dat.str):xs=ys:=by
 induction xs generalizing ys with
 | nil=>cases ys with
  | nil=>rfl
  | cons y ys=>cases h
 | cons x xs j=>cases ys with
  | nil=>cases h
  | cons y ys=>
   rw[bS,bS]at h;injection h with h1 h2
   injection h1 with h1
   rw[h1,j h2]
theorem MG:dS xs=dS ys↔xs=ys:=⟨λh=>ace (W.Dat.list.inj h),λh=>by rw[h]⟩
theorem EY{b:Bool}(h:b=true↔dS xs=dS ys):b=decide (xs=ys):=by
 rw[MG]at h
 by_cases q:xs=ys
 . rw[bL q];exact h.mpr q
 rw[cq q];exact oK.mpr λz=>q (h.mp z)
theorem acf{c A B:Prop}[Decidable c](j:¬c)(h:A):if (!decide c)=true then A else B:=by rw[cq j];exact gc h
end L2
namespace Lcp
open L2
variable {b o n:Ls}
def ud(b x y:Ls):Ls:=(((b.take (fst b x)++ub b x)++(b.drop (jx b x)).take (fst b y - jx b x))++ub b y)++b.drop (jx b y)
def A0(j G z J:Int):Bool:=if (j=G/\z=J)/\j=z then false else(decide (G<=z) || decide (J<=j))
def apart(b o n:Ls):Bool:=A0 (fst b o) (jx b o) (fst b n) (jx b n)
def merge(b o n:Ls):Ls×Option (Ls):=
 if o=b then(n,none) else if n=b\/o=n then(o,none) else if apart b o n=false then(n,some o) else if jx b o<=fst b n then(ud b o n,none) else(ud b n o,none)
theorem acg(h:o=b):merge b o n=(n,none):=by unfold merge;rw[aj h]
theorem ach(h:o≠b)(h':n=b\/o=n):merge b o n=(o,none):=by unfold merge;rw[ag h,aj h']
theorem aci(h:o≠b)(h':¬(n=b\/o=n))(h2:apart b o n=false):merge b o n=(n,some o):=by unfold merge;rw[ag h,ag h',aj h2]
theorem acj(h:o≠b)(h':¬(n=b\/o=n))(h2:apart b o n=true)(j:jx b o<=fst b n):merge b o n=(ud b o n,none):=by unfold merge;rw[ag h,ag h',ag (by rw[h2];decide),aj j]
theorem ack(h:o≠b)(h':¬(n=b\/o=n))(h2:apart b o n=true)(j:¬jx b o<=fst b n):merge b o n=(ud b n o,none):=by unfold merge;rw[ag h,ag h',ag (by rw[h2];decide),ag j]
theorem MH{x y:Ls}{z:Str}(h:z∈ud b x y):z∈b\/z∈x\/z∈y:=by
 unfold ud at h
 rcases b9.mp h with h | h
 . rcases b9.mp h with h | h
   . rcases b9.mp h with h | h
     . rcases b9.mp h with h | h
       . exact .inl (JT h)
       exact .inr (.inl (MD h))
     exact .inl (JS (JT h))
   exact .inr (.inr (MD h))
 exact .inl (JS h)
theorem acl{z:Str}(h:z∈(merge b o n).1):z∈b\/z∈o\/z∈n:=by
 unfold merge at h;split at h
 . exact .inr (.inr h)
 split at h
 . exact .inr (.inl h)
 split at h
 . exact .inr (.inr h)
 split at h
 . exact MH h
 rcases MH h with h | h | h
 . exact .inl h
 . exact .inr (.inr h)
 exact .inr (.inl h)
theorem acm(b o n:Ls):(merge b o n).2=none\/(merge b o n).2=some o:=by
 unfold merge;split
 . exact .inl rfl
 split
 . exact .inl rfl
 split
 . exact .inr rfl
 split<;>exact .inl rfl
theorem acn(h1:∀x∈b,Ln x)(h2:∀x∈o,Ln x)(j:∀x∈n,Ln x):∀x∈(merge b o n).1,Ln x:=λx z=>by
 rcases acl z with h | h | h
 . exact h1 x h
 . exact h2 x h
 exact j x h
end Lcp
namespace L2
section
open Lcp
def aco(H:Hp)(r:V):Option (Ls)->Prop
 | none=>r=.non
 | some z=>∃j,r=.ref j/\H j=some (.lst (z.map V.str))
structure acp(H:Hp)(t l:Addr)(r:V)(m:Ls×Option (Ls)):Prop where
 tup:H t=some (.tup [.ref l,r])
 lst:H l=some (.lst (m.1.map V.str))
 bes:aco H r m.2
end
section
variable {ys:Ls}
section
variable {X:Cx}
theorem MI:∀{us:Lw},aY (ys.map V.str) us->StrsAre us ys:=by
 induction ys with
 | nil=>intro us r;rw[zW]at r;cases r;exact .nil
 | cons n ns j=>
  intro us r;rw[bS]at r;cases r with
  | cons z G=>
   obtain⟨t,e⟩:=z;subst e;exact .cons n t (j G)
inductive MJ (K:Fg) (H:Hp) (Q:VK):V->Lv->Prop where
 | mk {sep:Str}{p:Addr} (ys:Ls) (_:aa K H p (ys.map V.str)) (_:(ys.map (·.length)).sum+ys.length * sep.length<=16777216) (_:Q (.str (Txt.join sep ys)) H):MJ K H Q (.str sep) [.ref p]
def MK(K:Fg):V->Lv->Hp->VK->Prop:=λx vs H Q=>MJ K H Q x vs
theorem vO:oW X "str.join" (MK X.K):=by
 intro ad s Z H x xs v us Q I U O h;obtain @⟨sep,p,ys,j,hz,q⟩:=h;obtain⟨t,rfl⟩:=U;cases O with
 | cons G J=>
  cases G;cases J;obtain⟨b_,r,z,_⟩:=I.list j;exact join_list z.isList (by simpa using MI r) hz λt' k=>⟨.str _,H,I.tok k,⟨_,rfl⟩,q⟩
end
section
variable {X:Cx}{K:Fg}
theorem EZ(K:Fg)(h:X.K=K:=by rfl):vG X (LJ K):=h▸fQ
theorem acq(K:Fg)(h:X.K=K:=by rfl):vG X (LL K):=h▸fq
theorem ML(K:Fg)(h:X.K=K:=by rfl):cD X (compareOp .In) (Ey K false):=h▸LQ
def acr(K:Fg):Lv->Hp->VK->Prop:=λxs H Q=>∃p ys,xs=[.ref p]/\(aa K H p ys\/ba K H p ys)/\Q (.int ys.length) H
theorem acs(K:Fg)(h:X.K=K:=by rfl):ff X (.builtin "len") (acr K):=by subst h;exact gL
end
theorem xT{b:Nat}(h:∀y∈ys,y.length<=b):(ys.map (·.length)).sum<=ys.length * b:=by
 induction ys with
 | nil=>simp
 | cons y ys j=>
  have h1:=h y bQ;have h2:=j λz hz=>h z (bU _ hz);simp only[bS,List.sum_cons,cr,VQ];omega
theorem A1{sep:Str}:(Txt.join sep ys).length<=(ys.map (·.length)).sum+ys.length * sep.length:=by
 have e:Txt.join sep ys=Str.join sep ys:=Ac sep ys;rw[e];cases ys with
 | nil=>exact dz _
 | cons a l=>
  rw[len_join_cons];simp only[cr,VQ];omega
theorem act:gE Str.empty:=by decide +kernel
theorem Fb{sep:Str}(hs:gE sep):∀{ys:Ls},(∀y∈ys,gE y)->gE (Txt.join sep ys):=by
 intro ys h;have e:Txt.join sep ys=Str.join sep ys:=Ac sep ys;rw[e];clear e
 induction ys with
 | nil=>exact act
 | cons a l z=>
  cases l with
  | nil=>exact h a bQ
  | cons b r=>
   show gE (a++sep++Str.join sep (b::r));exact AS (AS (h a bQ) hs) (z λy j=>h y (bU _ j))
end
section
variable {X:Cx}{ad:Po}{d:Addr}{kvs:List (ao×V)}{o:Obj}{prog:Program}{w:World}{A:Around}{E:VP}{e:Expr}{elts:List Expr}{x1:Nat}{pos:Pos}
section
variable {Z:St}{H:Hp}{s:Shared}
theorem Inv.rehp{H':Hp}(I:Inv X ad Z H s)(h0:∀b,H b=none->H' b=none)(J:∀b xs,H b=some (.tup xs)->H' b=some (.tup xs))(G:∀b o u,X.H₀ b=some (.frz o u)->H' b=some (.frz o u))
 (z:∀b ps,H b=some (.tbl ps)->H' b=some (.tbl ps)) (hok:cf X.prog X.w H' s.heap):Inv X ad Z H' s:=
 ⟨I.ok,I.os,I.bare,⟨I.base.keep,I.base.slot,λb o e n O=>h0 b (I.base.free b o e n O),I.base.there,λb xs e=>J b xs (I.base.tups b xs e),G,λb ps e=>(I.base.tbls b ps e).elim λm q=>⟨m,z _ _ q⟩⟩,I.loc,I.cell,h0 _ I.free,
  λx c e=>h0 _ (I.freeC x c e),λp j=>⟨(I.pin p j).1,h0 _ (I.pin p j).2.1,(I.pin p j).2.2⟩,hok,I.len⟩
theorem Inv.freeze(I:Inv X ad Z H s)(e:H d=some (.dK kvs))(G:s.heap.get? d=some o):Inv X ad Z (af H d (.frz o (.dK kvs))) s:=by
 have ne:∀b u,H b=some u->(∀ks,u≠.dK ks)->b≠d:=λb u q J z=>by rw[z,e]at q;cases q;exact J _ rfl
 refine I.rehp (λb q=>?_) (λb xs q=>?_) (λb o' u q=>?_) (λb ps q=>?_) λb u q=>?_
 . rw[aX (λz=>by rw[z,e]at q;cases q)];exact q
 . rw[aX (ne b _ q (by intro ks z;cases z))];exact q
 . have q:=I.base.frzs b o' u q;rw[aX (ne b _ q (by intro ks z;cases z))];exact q
 . rw[aX (ne b _ q (by intro ks z;cases z))];exact q
 have up:∀{c:Addr}{w:HO},H c=some w->(∀ks,w≠.dK ks)->af H d (.frz o (.dK kvs)) c=some w:=λ{c w} j O=>by rw[aX (ne c _ j O)];exact j
 by_cases z:b=d
 . subst z;rw[aD]at q;cases q;exact⟨G,(I.hok b _ e).stay (λ_ _ _ q=>q) (λc j=>up j (by intro ks z;cases z)) λc xs j=>up j (by intro ks z;cases z)⟩
 rw[aX z]at q;exact(I.hok b _ q).stay (λ_ _ _ q=>q) (λc j=>up j (by intro ks z;cases z)) λc xs j=>up j (by intro ks z;cases z)
theorem Inv.thaw(I:Inv X ad Z H s)(e:H d=some (.frz o (.dK kvs)))(hz:∀o' u,X.H₀ d≠some (.frz o' u)):Inv X ad Z (af H d (.dK kvs)) s:=by
 have ne:∀b u,H b=some u->(∀o' G,u≠.frz o' G)->b≠d:=λb u q J z=>by rw[z,e]at q;cases q;exact J _ _ rfl
 have up:∀{c:Addr}{w:HO},H c=some w->(∀o' G,w≠.frz o' G)->af H d (.dK kvs) c=some w:=λ{c w} j O=>by rw[aX (ne c _ j O)];exact j
 refine I.rehp (λb q=>?_) (λb xs q=>up q (by intro _ _ z;cases z)) (λb o' u q=>?_) (λb ps q=>up q (by intro _ _ z;cases z)) λb u q=>?_
 . rw[aX (λz=>by rw[z,e]at q;cases q)];exact q
 . have U:b≠d:=λz=>hz o' u (z▸q);rw[aX U];exact I.base.frzs b o' u q
 by_cases z:b=d
 . subst z;rw[aD]at q;cases q;exact(show bY X.prog X.w H s.heap b (.dK kvs) from (show bY X.prog X.w H s.heap b (.frz o (.dK kvs)) from I.hok b _ e).2).stay (λ_ _ _ q=>q) (λc j=>up j (by intro _ _ z;cases z)) λc xs j=>up j (by intro _ _ z;cases z)
 rw[aX z]at q;exact(I.hok b _ q).stay (λ_ _ _ q=>q) (λc j=>up j (by intro _ _ z;cases z)) λc xs j=>up j (by intro _ _ z;cases z)
theorem Inv.track{a:Addr}{o:HO}(I:Inv X ad Z H s)(O:H a=none)(h0:X.s₀.heap.objs.size<=a)(h1:a≠X.env.locals)(h2:∀x c,X.env.cells.lookup x=some c->c≠a)(J:∀p∈X.pn++ad,p.1≠a)
 (new:bY X.prog X.w (af H a o) s.heap a o):Inv X ad Z (af H a o) s:=by
 have up:∀{c:Addr}{w:HO},H c=some w->af H a o c=some w:=λ{c w} j=>by rw[aX (aI j O)];exact j
 refine⟨I.ok,I.os,I.bare,⟨I.base.keep,I.base.slot,λb ob e n U=>?_,I.base.there,λb xs e=>up (I.base.tups b xs e),λb o' u e=>up (I.base.frzs b o' u e),λb ps e=>(I.base.tbls b ps e).elim λm q=>⟨m,up q⟩⟩,I.loc,I.cell,?_,λx c e=>?_,
  λp G=>⟨(I.pin p G).1,?_,(I.pin p G).2.2⟩,λb u q=>?_,I.len⟩
 . rw[aX (cR (gt (bG e) h0))];exact I.base.free b ob e n U
 . rw[aX (gu h1)];exact I.free
 . rw[aX (h2 x c e)];exact I.freeC x c e
 . rw[aX (J p G)];exact(I.pin p G).2.1
 by_cases z:b=a
 . subst z;rw[aD]at q;cases q;exact new
 rw[aX z]at q;exact(I.hok b _ q).stay (λ_ _ _ q=>q) (λc j=>up j) λc xs j=>up j
end
theorem xU:ff X (.type "dict") (λxs H Q=>∃a kvs,xs=[.ref a]/\H a=some (.dK kvs)/\eg H (.dK kvs) Q):=by
 intro ad s Z H xs us Q I r h;obtain⟨a,kvs,rfl,e,q⟩:=h;obtain⟨u,rfl,G⟩:=vals1 r;cases G;exact aaW I (.inl e) λp s' z j=>⟨.ref p,_,j,rfl,q.at p z⟩
theorem acu{K:Type}[DecidableEq K]{knd:KeyKind prog w K}{s:Shared}{kvs:List (K×Value)}{k:K}{a0 dflt:Value}{Q:VP}(G:knd.is k a0=true)(hm:s.heap.DictOf knd d kvs)
 (a1:∀v,valueAt kvs k=some v->Q v { s with toks:=s.toks+1 })
 (a2:valueAt kvs k=none->∀h',h'.DictOf knd d (kvs++[(k,dflt)])->Heap.SameBut d s.heap h'->Q dflt { s with heap:=h',toks:=s.toks+1 }) (hsz:kvs.length<=sizeLine) :
 wpAny (model prog w) A (dictSetDefault d a0 dflt) Q E s:=by
 have a3:=hm.mapOf;obtain⟨o,es,ep,j,hc,hd,hk,O,hn⟩:=hm;obtain⟨o',es',vA,ii,gY,mS,eW,Y⟩:=a3;rw[j]at ii;cases ii;rw[hd]at mS;cases mS;have Fc:es.size<=sizeLine:=by
  have e1:=O.length;have e2:es.toList.length=es.size:=by simp
  omega
 unfold dictSetDefault
 try with_reducible refine jo ?_
 refine ae (knd.pyHash G ?_);refine ae (wpAny_dictFind_of (s:={ s with toks:=s.toks+1 }) G j hd hk ?_);have a4:(es.findIdx? λe=>knd.is k e.key)=kvs.findIdx? λkv=>decide (kv.1=k):=by
  rw[<-O.findIdx k];obtain⟨l⟩:=es;simp
 cases hi:es.findIdx? λe=>knd.is k e.key with
 | some i=>
  have z:valueAt kvs k=(es[i]?).map (·.val):=by rw[<-Y k,findBy_of_findIdx?,hi]
  refine ae (JU (s:={ s with toks:=s.toks+1 }) j hd ?_);cases J:es[i]? with
  | none=>
   exfalso;have:=Array.findIdx?_eq_some_iff_findIdx_eq.mp hi;have aO:i<es.size:=this.1;rw[qr aO]at J;exact nomatch J
  | some e=>
   rw[J]at z;exact ae (oF (aq (a1 e.val z)))
 | none=>
  have z:valueAt kvs k=none:=by rw[<-Y k,findBy_of_findIdx?,hi]
  have a5:k∉kvs.map (·.1):=not_mem_of_findIdx_none (a4▸hi);refine ae (oF (ae (wpAny_updateDictKeys (hz:=Fc) (s:={ s with toks:=s.toks+1 }) j hd (aq (a2 z _ ⟨_,_,ep+1,Ad _ j (Obj.isFreed_of_dict (Obj.data_mapDictKeys hd _)),
   hc.mapDictKeys _,Obj.data_mapDictKeys hd _,hk.push G _,?_,?_⟩ (lJ ..))))))
  . have:=O.append G (knd.hash k) dflt;obtain⟨l⟩:=es;simpa using this
  rw[dJ,sV];refine⟨hn,by simp,?_⟩;intro a ha b U;simp only[bS,zW,bF]at U;subst U;exact λe=>a5 (e▸ha)
theorem acA{K:Type}[DecidableEq K]{knd:KeyKind prog w K}{k:K}{j:Value}(kF:knd.is k j=true)(hd:(d == sysModules)=false)(dflt:Value) :
 MeetsIn prog w (Builtin.«dict.setdefault» ⟨[.ref d,j,dflt],[]⟩) (λ_ R s=>∃kvs,s.heap.DictOf knd d kvs/\kvs.length<=sizeLine /\
  (∀v,valueAt kvs k=some v->R (.ok (.ret v)) { s with toks:=s.toks+1 }) /\
  (valueAt kvs k=none->∀h',h'.DictOf knd d (kvs++[(k,dflt)])->Heap.SameBut d s.heap h'->R (.ok (.ret dflt)) { s with heap:=h',toks:=s.toks+1 })):=
 .of_wp λA R s J=>J.elim λkvs O=>O.elim λz U=>U.elim λhz Y=>Y.elim λh1 h2=>by
  unfold Builtin.«dict.setdefault»;refine ae ?_;unfold Builtin.Dict.keyAndDefault;refine ae (wpAny_notOrdered_dict z.typeIs ?_);show wpAny _ _ (pure (d,j,some dflt)) _ _ s;refine aq ?_;show wpAny _ _ (if (d == sysModules)=true then _ else(dictSetDefault d j dflt >>= _)) _ _ s;rw[ag (by rw[hd];exact cV)];exact ae (acu kF z (λv hv=>aq ⟨v,rfl,h1 v hv⟩) (λhn h' G xV=>aq ⟨dflt,rfl,h2 hn h' G xV⟩) hz)
def acF:V->Lv->Hp->VK->Prop:=λx vs H Q=>∃a kvs k y,x=.ref a/\vs=[kV k,y]/\H a=some (.dK kvs)/\kvs.length<sizeLine/\(∀z,bc kvs k=some z->Q z H)/\(bc kvs k=none->Q y (af H a (.dK (cK kvs k y))))
theorem acG:oW X "dict.setdefault" acF:=by
 intro ad s Z H x xs v us Q I rx rs h;obtain⟨a,kvs,k,y,rfl,rfl,e,hl,q1,q2⟩:=h;cases rx;cases rs with
 | cons r1 r2=>
  cases r2 with
  | cons r3 r4=>
   cases r4;obtain⟨z,hd,vs,G,dd⟩:=lX I.hok e;refine sy aq6 dd.typeIs PySem.F.entry_dict_setdefault (PySem.F.args_dict_setdefault_3 _ _ _) (acA (knd:=cx X.prog X.w) (lW r1) hd _) ⟨vs,dd,by rw[<-G.length];exact z,λu hu=>?_,λhn h' Y hs=>?_⟩
   . obtain⟨j,MM,rz⟩:∃j,bc kvs k=some j/\RelV j u:=by
      have:=G.val k;rw[hu]at this;cases q:bc kvs k with
      | none=>rw[q]at this;cases this
      | some j=>rw[q]at this;exact⟨j,rfl,this⟩
     exact⟨j,H,I.tok _,rz,q1 j MM⟩
   have J:bc kvs k=none:=by
    have:=G.val k;rw[hn]at this;cases q:bc kvs k with
    | none=>rfl
    | some j=>rw[q]at this;cases this
   have U:∃q,h'.get? a=some q:=Y.elim λq a0=>a0.elim λ_ a1=>a1.elim λ_ a2=>a2.elim λhq _=>⟨q,hq⟩;have O:=G.put k r3;rw[ED _ J]at O;refine⟨y,_,vH I (ob:=.dK (cK kvs k y)) (by rw[e];exact True.intro) hs U ?_,r3,q2 J⟩;rw[ED _ J];refine vI (by rw[bH];simp;omega) hd ?_ Y;have e2:∀b,stored vs k b=vs++[(k,b)]:=by
    intro b;unfold stored;rw[ag];rw[vt];rintro⟨kv,ue,U⟩;have:valueAt vs k≠none:=by
     unfold valueAt;rw[Ne,aq7,VR];exact λz=>z kv ue U
    exact this hn
   rw[e2]at O;exact O
theorem acK{k:ao}{v:Value}(h:oM k v=true):RelV (kV k) v:=by
 rcases iX h with⟨i,t,rfl,rfl⟩ | ⟨x,t,rfl,rfl⟩
 . exact⟨t,rfl⟩
 exact⟨t,rfl⟩
theorem Fi:∀{us:Lw}{ys:Ls},StrsAre us ys->aY (ys.map V.str) us
 | _,_,.nil=>.nil
 | _,_,.cons x t r=>.cons ⟨t,rfl⟩ (Fi r)
section
variable {s:Shared}
theorem acL{r:Addr}{Q:VP}(U:wpAny (model prog w) A.in1 (collect (.ref r)) (λus s'=>∃(ys:Ls) (h':Heap) (tk:Nat),s'={ s with heap:=h',toks:=tk }/\StrsAre us ys/\us.length<64 /\
 ∀(h2:Heap) (out:Lw) (j:Ls) (e:Nat),(∀b o,h'.get? b=some o->h2.get? b=some o)->h2.get? h'.objs.size=some (seqObj "list" out.toArray e)->StrsAre out j->j.Perm ys->sortedS j=true->Q (.ref h'.objs.size) { s with heap:=h2,toks:=tk }) E s) :
 wpAny (model prog w) A (call (.builtin "sorted") [.ref r]) Q E s:=by
 refine aq8 kind_sorted plain_sorted entry_sorted (args_sorted1 _) ?_;unfold Builtin.«sorted»;refine ae (m:=checkCount "sorted" 1 1 _) (aq ?_);refine ae (d6 U (λus s' a0=>a0.elim λys a3=>a3.elim λh' a4=>a4.elim λtk a5=>a5.elim λes a6=>a6.elim λz a7=>a7.elim λuf a8=>?_) λ_ _ e=>e);subst es;refine ae (VS ?_ (by rw[wR];omega));have G:(h'.push (seqObj "list" us.toArray 0)).get? h'.objs.size=some (seqObj "list" us.toArray 0):=dG _ rfl;show wpAny _ _ _ _ _ { s with heap:=h'.push (seqObj "list" us.toArray 0),toks:=tk };refine ae (jo (se slot_list_sort ⟨_,G,rfl⟩ entry_list_sort (list_sort_treeK strKind_oneLt G z.keysOf (λv₁ v₂ rest e=>keyKind_strs (by rw[<-e];exact z)) uf λJ Y a2=>⟨_,rfl,?_⟩) (args_list_sort _)));obtain⟨j,h1,h2,h3⟩:=sorted_out_str z Y a2;obtain⟨e,he⟩:=sortedHeap_at (vs:=us) (out:=(arrOf J).map (·.2)) G;refine aq ⟨_,rfl,a8 _ ((arrOf J).map (·.2)).toList j e (λb o q=>?_) (by rw[VT];exact he) h1 h2 h3⟩;have O:=bG q;rw[sortedHeap_old (cR O) (by rw[sf];exact VU O)];exact cb _ q
end
theorem MN{Z:St}{H:Hp}{s:Shared}{h' h2:Heap}{tk e:Nat}{out:Lw}{j:Ls}(I:Inv X ad Z H { s with heap:=h',toks:=tk })(k:∀b o,h'.get? b=some o->h2.get? b=some o)
 (G:h2.get? h'.objs.size=some (seqObj "list" out.toArray e)) (z:StrsAre out j) (J:j.length<=sizeLine):Inv X ad Z (af H h'.objs.size (.lst (j.map V.str))) { s with heap:=h2,toks:=tk }:=
 I.laid (s:={ s with heap:=h',toks:=tk }) (t':=tk) k (aG _) ⟨by rw[al];exact J,out,e,Fi z,G⟩
theorem acS:ff X (.builtin "sorted") (λxs H Q=>∃p ys,xs=[.ref p]/\aa X.K H p (ys.map V.str)/\ys.length<64/\∀j,j.Perm ys->sortedS j=true->eg H (.lst (j.map V.str)) Q):=by
 intro ad s Z H xs us Q I r h;obtain⟨p,ys,rfl,Y,uf,q⟩:=h;obtain⟨u,rfl,ru⟩:=vals1 r;cases ru;obtain⟨b_,rv,ht,hz⟩:=I.list Y;have G:StrsAre b_ ys:=MI rv;have a0:=VW G;refine sorted_strs ht.isList G (by omega) λout j J z O=>?_;obtain⟨e,U⟩:=sortedAll_at s.heap b_ out;have hl:=z.length_eq;refine⟨.ref (s.heap.objs.size+1),_,I.laid (t':=s.toks) (a:=s.heap.objs.size+1) (o:=.lst (j.map V.str)) (λb o q=>sortedAll_old q) (qm _) ⟨by rw[al];exact kM (by omega),out.toList,e,Fi J,by rw[VT];exact U⟩,rfl,?_⟩;exact(q j z O).at _ (I.hok.fresh (qm _))
def ug(kvs:List (ao×V))(ks:Ls):Prop:=kvs.map (·.1)=ks.map Sum.inr
theorem MO{ks:Ls}(h:ug kvs ks){vs:List (ao×Value)}(O:KV kvs vs){us:Lw}(G:us.length=vs.length)(J:∀(j:Nat) (v:Value),us[j]?=some v->∃k x,vs[j]?=some (k,x)/\(cx X.prog X.w).is k v=true):StrsAre us ks:=by
 induction us generalizing kvs vs ks with
 | nil=>
  have:vs=[]:=Ae.mp G.symm;subst this;cases O;unfold ug at h;cases ks with
  | nil=>exact .nil
  | cons a b=>cases h
 | cons u us ih=>
  cases O with
  | nil=>cases G
  | @cons p q ps qs r rr=>
   cases ks with
   | nil=>cases h
   | cons a ks=>
    unfold ug at h;rw[bS,bS]at h;injection h with h1 h2
    obtain⟨k,x,e,z⟩:=J 0 u rfl;have e:q=(k,x):=gU e;have Y:p.1=k:=by rw[r.1,e]
    have z:oM k u=true:=z;rw[<-Y,h1]at z
    rcases iX z with⟨i,t,e1,e2⟩ | ⟨x',t,e1,e2⟩
    . cases e1
    cases e1;subst e2;exact .cons _ _ (ih h2 rr (by simpa using G) λj v U=>J (j+1) v (by simpa using U))
theorem A3(hc:X.calm=true):ff X (.builtin "sorted") (λxs H Q=>∃d kvs ks,xs=[.ref d]/\H d=some (.dK kvs)/\ug kvs ks/\kvs.length<64/\∀G,G.Perm ks->sortedS G=true->eg H (.lst (G.map V.str)) Q):=by
 intro ad s Z H xs us Q I r h;obtain⟨d,kvs,ks,rfl,e,A4,uf,q⟩:=h;obtain⟨u,rfl,ru⟩:=vals1 r;cases ru;obtain⟨z,hd,vs,a0,dd⟩:=lX I.hok e;obtain⟨ep,nu⟩:=dd.dictAt;have a2:=a0.length;refine acL (W.kdu_collect (W.kdl_dict (knd:=cx X.prog X.w) (kvs:=vs) (ep:=ep) hd) (I.ok.hd hc) nu (by omega) λh' tk U hk J=>?_);have hS:StrsAre U.toList ks:=MO (X:=X) A4 a0 (by rw[fm];exact J.1) λj v hj=>J.2 j v (by rw[<-sY];exact hj);have xJ:U.toList.length=vs.length:=by rw[fm];exact J.1
 have O:Inv X ad Z H { s with heap:=h',toks:=tk }:=I.kept hk;refine⟨ks,h',tk,rfl,hS,by omega,λh2 out G e' k2 he iL Y xV=>?_⟩;have hl:=Y.length_eq;have a1:=VW hS;exact⟨.ref h'.objs.size,_,MN O k2 he iL (kM (by omega)),rfl,(q G Y xV).at _ (O.hok.fresh (aG _))⟩
theorem acU{Z:St}{H:Hp}{s:Shared}(hu:X.A.units+65<cLine)(I:Inv X ad Z H s){x:V}{v:Value}{xs:Lv}{us:Lw}{d:W.Dat}{ds:List W.Dat}(rx:RelV x v)(O:aY xs us)(hd:DV X.K H x d)(J:im X.K H xs ds)(od:W.kqdOk 9 d=true)(Y:∀e∈ds,W.kqdOk 9 e=true) :
 ∃e:Value->Bool,(∀y∈us.toArray,SeqAt.EqAt X.A.in1 s y v (e y))/\(us.toArray.any e=true↔d∈ds):=by
 obtain⟨as,ra⟩:=hd.reads I rx
 classical
 have a0:∀{xs:Lv}{us:Lw}{ds:List W.Dat},aY xs us->im X.K H xs ds->∀y∈us,∃e∈ds,∃bs,Reads s.heap y (W.kqdP e) bs:=by
  intro xs us ds O
  induction O generalizing ds with
  | nil=>intro _ y j;cases j
  | cons r rr ih=>
   intro J y j;cases J with
   | cons q qs=>
    rcases be.mp j with e | e
    . subst e;obtain⟨bs,z⟩:=q.reads I r;exact⟨_,bQ,bs,z⟩
    obtain⟨e',me,z⟩:=ih qs y e;exact⟨e',bU _ me,z⟩
 have a1:∀{xs:Lv}{us:Lw}{ds:List W.Dat},aY xs us->im X.K H xs ds->∀e∈ds,∃y∈us,∃bs,Reads s.heap y (W.kqdP e) bs:=by
  intro xs us ds O
  induction O generalizing ds with
  | nil=>intro h e G;cases h;cases G
  | cons r rr ih=>
   intro J e G;cases J with
   | cons q qs=>
    rcases be.mp G with z | z
    . subst z;obtain⟨bs,w⟩:=q.reads I r;exact⟨_,bQ,bs,w⟩
    obtain⟨y,j,w⟩:=ih qs e z;exact⟨y,bU _ j,w⟩
 refine⟨λy=>decide (∃bs,Reads s.heap y (W.kqdP d) bs),λy j=>?_,?_⟩
 . obtain⟨e,G,bs,U⟩:=a0 O J y (by simpa using j);have x1:=W.keq_at (A:=X.A) U ra (qQ (Y e G)) (qQ od) (by show X.A.units+1+64<cLine;omega);have hb:(PyData.eqv (W.kqdP e) (W.kqdP d)=true)↔e=d:=wW 9 e d 9 (Y e G) od;have jy:PyData.eqv (W.kqdP e) (W.kqdP d)=decide (∃bs,Reads s.heap y (W.kqdP d) bs):=by
    by_cases z:e=d
    . rw[hb.mpr z];subst z;exact(bL ⟨bs,U⟩).symm
    rw[oK.mpr λw=>z (hb.mp w)];refine(cq ?_).symm;rintro⟨vQ,Fk⟩;have l:=W.kqd_lay 9 e (Y e G);have eq:=(U.unique _ _ Fk).1;have:PyData.eqv (W.kqdP e) (W.kqdP d)=true:=by
     rw[eq];exact(wW 9 d d 9 od od).mpr rfl
    exact z (hb.mp this)
   rw[jy]at x1;exact x1
 constructor
 . intro h;rw[List.any_toArray,vt]at h;obtain⟨y,j,hz⟩:=h;obtain⟨vQ,Fk⟩:=cW hz;obtain⟨e,G,bs,U⟩:=a0 O J y j;have eq:=(U.unique _ _ Fk).1;have:PyData.eqv (W.kqdP e) (W.kqdP d)=true:=by
    rw[eq];exact(wW 9 d d 9 od od).mpr rfl
   rw[<-(wW 9 e d 9 (Y e G) od).mp this];exact G
 intro h;obtain⟨y,j,z⟩:=a1 O J d h;rw[List.any_toArray,vt];exact⟨y,j,bL z⟩
def acW(K:Fg)(j:Bool):R2:=λx y H Q=>∃p xs d ds,y=.ref p/\aa K H p xs/\DV K H x d/\im K H xs ds/\W.kqdOk 9 d=true/\(∀e∈ds,W.kqdOk 9 e=true)/\∀b:Bool,(b=true↔d∈ds)->Q (.bl (if j then !b else b)) H
theorem acX(J:X.A.units+65<cLine):cD X (compareOp .NotIn) (acW X.K true):=by
 intro ad s Z H x y v u Q I U Y h;obtain⟨p,xs,d,ds,rfl,G,hd,O,od,vP,q⟩:=h;cases Y;obtain⟨b_,r,pl,hz⟩:=I.list G;obtain⟨e,z,j⟩:=acU J I U r hd O od vP;exact SeqAt.notIn_listAt e pl.isList z ⟨.bl _,H,I,rfl,q _ j⟩
def xW(o:Obj):Nat:=match o.data with
 | .dict _ ep=>ep
 | _=>0
def MP(d:Addr)(kvs:List (ao×V))(o:Obj):It:=
 ⟨λi H=>H d=some (.frz o (.dK kvs))/\i<kvs.length,λi H x H'=>∃k v p,kvs[i]?=some (k,v)/\H p=none/\x=.ref p/\H'=af H p (.tup [kV k,v]),λi H=>H d=some (.frz o (.dK kvs))/\kvs.length<=i⟩
theorem MQ{P:Program}{H:Hp}{h:Heap}(ok:cf P w H h)(e:H d=some (.frz o (.dK kvs))):∃vs,KV kvs vs/\h.DictAt (cx P w) d vs (xW o)/\(d == sysModules)=false:=by
 obtain⟨j,_,hd,vs,O,o',es,ep,z,J,G,r⟩:=(show bY P w H h d (.frz o (.dK kvs)) from ok d _ e);rw[j]at z;cases z;refine⟨vs,O,⟨o,es,j,J,?_,r⟩,hd⟩;unfold xW;rw[G]
theorem acY{vs:List (ao×Value)}(r:KV kvs vs){i:Nat}{k:ao}{v:V}(h:kvs[i]?=some (k,v)):∃u,vs[i]?=some (k,u)/\RelV v u:=by
 unfold KV at r
 induction r generalizing i with
 | nil=>simp at h
 | @cons p q ps G j J z=>
  cases i with
  | zero=>
   simp at h;subst h;obtain⟨a,b⟩:=q;exact⟨b,by simp;exact j.1.symm,j.2⟩
  | succ i=>exact z (by simpa using h)
theorem acZ:entryFor table "dict_itemiterator.__iter__"=some Builtin.«dict_keyiterator.__iter__»:=
 JV (id':="dict_keyiterator.__iter__") (by kernel_rfl) rfl (by decide +kernel) (by kernel_rfl)
theorem ac0{s:Shared}{it:Addr}{i n ep:Nat}{ok G:Value}{Q:VP}(z:IsItemIter s.heap it d i n ep ok G)(h:Q (.ref it) s):wpAny (model prog w) A (pyIter (.ref it)) Q E s:=by
 have j:s.TypeIs (.ref it) "dict_itemiterator":=⟨_,z,rfl⟩;refine VX j aq9 (se aq9 j acZ ?_ (PySem.F.args_dict_itemiterator_iter_1 _));show wpAny _ _ (ret (.ref it)) _ _ s;exact aq ⟨_,rfl,"dict_itemiterator",_,j,PySem.F.slot_dict_itemiterator_next.lookup,h⟩
theorem ac1{P:Program}{K:Fg}(d it:Addr)(kvs:List (ao×V))(o:Obj):oQ P w K (.Tuple elts x1 pos) (MP d kvs o) [it] it (λi h=>∃ok G,IsItemIter h it d i kvs.length (xW o) ok G) where
 mem:=by simp
 obj:=λi h st b j=>by
  have e:b=it:=by simpa using j
  subst e;obtain⟨ok,G,st⟩:=st;exact⟨_,st,λv z=>by
   have z':Data.fields _=Data.cell v:=z;cases z'⟩
 keep:=λi h h' a1 k=>a1.elim λok a2=>a2.elim λG st=>⟨ok,G,k it (by simp) _ st⟩
 item:=by
  intro X hP hw hK hc i ad s Z H E I hf st hg;subst hP hw hK;obtain⟨ok,G,st⟩:=st;obtain⟨hd,aO⟩:=hg;obtain⟨J,f1,f2,f3,f4,f5⟩:=hf it (by simp);obtain⟨vs,U,nu,hS⟩:=MQ I.hok hd;have O:=U.length;obtain⟨kv,ue⟩:∃kv,kvs[i]?=some kv:=⟨_,gX aO⟩;obtain⟨k,v⟩:=kv;obtain⟨u,hu,ru⟩:=acY U ue;rw[O]at st;refine wpAny_pyNext_items_item st nu hu λa0 h1 kF a3 Fl hsz fG=>⟨.ref s.heap.objs.size,rfl,?_⟩;refine wpAny_letOwnedTupleGo_items a3 λh2 f9 Y=>?_;have A6:it<s.heap.objs.size:=bG st;have Y:Heap.SameBut it h1 h2:=Y;have I1:Inv X ad Z H { s with heap:=h2 }:=I.turned (t':=s.toks) (λb ob j e=>(Y.2 b j).trans (fG b ob j e)) J f1 f3 f4 f5;have hn:H s.heap.objs.size=none:=I.hok.fresh (aG _);have fp:=I.fpOk (H':=H) (aG _) hn;have tY:h2.get? s.heap.objs.size=some { cls:=.type "tuple",data:=.seq #[a0,u] }:=(Y.2 _ (kz A6)).trans Fl;have I2:Inv X ad Z (af H s.heap.objs.size (.tup [kV k,v])) { s with heap:=h2 }:=by
   refine I1.track hn I.sz fp.2.1 fp.2.2.2.2.1 fp.2.2.2.2.2 ?_;exact⟨by show 2<=sizeLine;decide,[a0,u],.cons (acK kF) (.cons ru .nil),_,tY,rfl,0,rfl⟩
  refine⟨.ref s.heap.objs.size,_,I2,rfl,⟨k,v,_,ue,hn,rfl,rfl⟩,⟨a0,u,by rw[O];exact f9⟩,λb j=>?_⟩;have e:b=it:=by simpa using j
  subst e;rw[aX (cR A6)];exact J
 done:=by
  intro X hP hw hK hc i ad s Z H E I hf st hg;subst hP hw hK;obtain⟨ok,G,st⟩:=st;obtain⟨hd,a6⟩:=hg;obtain⟨J,f1,f2,f3,f4,f5⟩:=hf it (by simp);obtain⟨vs,U,nu,hS⟩:=MQ I.hok hd;have O:=U.length;rw[O]at st;exact wpAny_pyNext_items_end (I.ok.hd hc) st nu (by rw[List.getElem?_eq_none_iff];omega) λh' eb=>⟨rfl,I.turned (t':=s.toks) (λb o j e=>eb b o j e) J f1 f3 f4 f5⟩
 self:=λ_ _ _ _ _ a4 h=>a4.elim λok a5=>a5.elim λG st=>ac0 st h
theorem PE.weak{t:TE}(h:PE X e t):PE X e (λZ H Q=>∃j:VK,t Z H j/\∀v H,j v H->Q v H):=by
 intro ad s Z H Q I ⟨j,q,w⟩;exact L2.thn (h ad s Z H _ I q) λu U G=>aW G λv H1 z O J=>⟨v,H1,z,O,w _ _ J⟩
theorem PG.weak{g:TG}(h:PG X e g):PG X e (λx Z H Q=>∃j:St->Hp->Prop,g x Z H j/\∀Z H,j Z H->Q Z H):=by
 intro ad s Z H v u Q I r ⟨j,q,w⟩;exact L2.thn (h ad s Z H v u _ I r q) λ_ Y G=>G.elim λσ1 J=>J.elim λH1 O=>O.elim λz U=>⟨σ1,H1,z,w _ _ U⟩
theorem bW.weak{b:List Stmt}{t:TS}(h:bW X b t):bW X b (λD Z H=>∃z:Ends,t z Z H/\(∀Z H,z.nx Z H->D.nx Z H)/\(∀v H,z.rt v H->D.rt v H)/\(∀Z H,z.bk Z H->D.bk Z H)/\∀Z H,z.ct Z H->D.ct Z H):=by
 intro ad s Z H D I ⟨z,q,J,O,U,Y⟩;refine L2.thn (h ad s Z H z I q) λf s1 j=>?_;cases f with
 | next=>obtain⟨σ1,H1,G,j⟩:=j;exact⟨σ1,H1,G,J _ _ j⟩
 | ret v=>obtain⟨x,σ1,H1,G,r,j⟩:=j;exact⟨x,σ1,H1,G,r,O _ _ j⟩
 | brk=>obtain⟨σ1,H1,G,j⟩:=j;exact⟨σ1,H1,G,U _ _ j⟩
 | cont=>obtain⟨σ1,H1,G,j⟩:=j;exact⟨σ1,H1,G,Y _ _ j⟩
theorem adb{o:Expr}{vF apos cn:Pos}{td:TE}(ho:PE X o td)(tU:attributeBase o "items" X.env (eval o X.env)=eval o X.env:=by rfl)(tV:(apos.endLine == cn.line)=true:=by rfl) :
 PI X (.Tuple elts x1 vF) (.Call (.Attribute o "items" apos) [] [] cn) (λZ H R=>td Z H λx H1=>∃d kvs,x=.ref d/\H1 d=some (.dK kvs)/\∀ob,(∀o' u,X.H₀ d≠some (.frz o' u))->R (MP d kvs ob) (af H1 d (.frz ob (.dK kvs)))):=by
 intro ad s Z H R I h;refine wpAny_Call_method0_late tU tV (thn (ho ad s Z H _ I h) λv j a0=>aW a0 λx H1 J r1 a1=>a1.elim λd a2=>a2.elim λkvs a3=>a3.elim λe a4=>a4.elim λG q=>?_);subst e;cases r1;obtain⟨z,hd,vs,a7,dd⟩:=lX J.hok G;obtain⟨h1,h2⟩:=LS J (x:=.ref d) rfl (T:="dict") (.inr (.inr (.inl ⟨rfl,.inl ⟨kvs,G⟩⟩)));refine⟨"dict","dict.items",zY,ara,PySem.F.type_dict_items,h1,h2,Dw rfl (PySem.evalArgs_none ?_)⟩;refine sy ara dd.typeIs PySem.F.entry_dict_items (PySem.F.args_dict_items_1 _) (meets_dict_items (cx X.prog X.w) d hd) ⟨⟨vs,dd⟩,?_⟩;have pj:=dd.push { cls:=.type "dict_items",data:=.fields #[.ref d] };obtain⟨ob,es,ep,qB,hc,U,rest⟩:=id pj;have nu:(j.heap.push { cls:=.type "dict_items",data:=.fields #[.ref d] }).DictAt (cx X.prog X.w) d vs ep:=⟨ob,es,qB,hc,U,rest⟩;have O:Inv X ad Z H1 { j with heap:=j.heap.push { cls:=.type "dict_items",data:=.fields #[.ref d] } }:=J.kept (t':=j.toks) λb o e=>cb _ e;refine wpAny_pyIter_items (s:={ j with heap:=j.heap.push { cls:=.type "dict_items",data:=.fields #[.ref d] } }) ⟨_,dG _ rfl,rfl,rfl⟩ nu ?_;have a5:xW ob=ep:=by unfold xW;rw[U]
 have a6:=a7.length;have I3:Inv X ad Z H1 { j with heap:=(j.heap.push { cls:=.type "dict_items",data:=.fields #[.ref d] }).push { cls:=.type "dict_itemiterator",data:=.fields #[.none,.bool false,.ref d,.int 0 0,.int vs.length 0,.int ep 0,.none,.none] } }:=
  O.kept (t':=j.toks) λb o e=>cb _ e
 have Y:=O.hok.fresh (aG (j.heap.push { cls:=.type "dict_items",data:=.fields #[.ref d] }).objs.size);have hz:∀o' u,X.H₀ d≠some (.frz o' u):=λo' u hq=>by
  have:=J.base.frzs d o' u hq;rw[G]at this;cases this
 refine⟨_,[_],_,_,_,rfl,I3.freeze G (cb _ qB),ac1 d _ kvs ob,⟨.none,.none,?_⟩,λb hb=>?_,q ob hz⟩
 . show Heap.get? _ _=_;rw[a5,a6];exact dG _ rfl
 have e:b=(j.heap.push { cls:=.type "dict_items",data:=.fields #[.ref d] }).objs.size:=by simpa using hb
 subst e;refine O.fpOk (aG _) ?_;rw[aX (gu (aI G Y))];exact Y
def adi(td:TE)(g:TG)(tb:TS):TS:=λD Z H=>td Z H λx H1=>∃d kvs,x=.ref d/\H1 d=some (.dK kvs)/\∀ob,∃W:Nat->Nat->St->Hp->Prop,(∃m,W 0 m Z (af H1 d (.frz ob (.dK kvs))))/\∀i m Z H,W i m Z H ->
 H d=some (.frz ob (.dK kvs))/\((kvs.length<=i/\D.nx Z (af H d (.dK kvs)))\/(i<kvs.length/\∃N:St->Hp->Prop,(∀σ' H',N σ' H'->∃m',m'<m/\W (i+1) m' σ' H') /\
  ∀k v p,kvs[i]?=some (k,v)->H p=none->g (.ref p) Z (af H p (.tup [kV k,v])) λσ2 H2=>
   tb { nx:=N,ct:=N,bk:=λσ' H'=>H' d=some (.frz ob (.dK kvs))/\D.nx σ' (af H' d (.dK kvs)),rt:=λj H'=>H' d=some (.frz ob (.dK kvs))/\D.rt j (af H' d (.dK kvs)) } σ2 H2))
theorem Fm{o:Expr}{vF apos cn:Pos}{td:TE}{g:TG}{tb:TS}{body:List Stmt}(G:PassesOwn (model X.prog X.w) X.A X.env X.xe)(hc:X.calm=true)(ho:PE X o td)(hg:PG X (.Tuple elts x1 vF) g)(hb:bW X body tb)
 (tU:attributeBase o "items" X.env (eval o X.env)=eval o X.env:=by rfl) (tV:(apos.endLine == cn.line)=true:=by rfl) (hs:∀x,foldedSetIterable (.Call (.Attribute o "items" apos) [] [] cn) X.env x=pure x:=by intro _;rfl) :
 PS X (.For (.Tuple elts x1 vF) (.Call (.Attribute o "items" apos) [] [] cn) body [] pos) (adi td g tb):=by
 intro ad s Z H D I h;refine thn (eS (X:=X) G hc (adb ho.weak tU tV) hg.weak hb.weak hs ad s Z H
  { nx:=λσ' H'=>∃d kvs ob,H' d=some (.frz ob (.dK kvs))/\(∀o' u,X.H₀ d≠some (.frz o' u))/\D.nx σ' (af H' d (.dK kvs)),rt:=λJ H'=>∃d kvs ob,H' d=some (.frz ob (.dK kvs))/\(∀o' u,X.H₀ d≠some (.frz o' u))/\D.rt J (af H' d (.dK kvs)) } I ?_) λf s' q=>?_
 . refine⟨_,h,λx H1 U=>U.elim λd Y=>Y.elim λkvs a0=>a0.elim λe a1=>a1.elim λed q=>⟨d,kvs,e,ed,λob hz=>?_⟩⟩;obtain⟨W,w0,ab⟩:=q ob;refine⟨W,w0,λi m Z H hw=>?_⟩;obtain⟨hd,c | ⟨O,N,hN,step⟩⟩:=ab i m Z H hw
   . exact .inl ⟨⟨hd,c.1⟩,d,kvs,ob,hd,hz,c.2⟩
   refine .inr ⟨⟨hd,O⟩,N,hN,λx H' a2=>a2.elim λk a3=>a3.elim λv a4=>a4.elim λp a5=>a5.elim λhk a6=>a6.elim λG a7=>a7.elim λe eH=>?_⟩;subst e eH;exact⟨_,step k v p hk G,λσ2 H2 q2=>⟨_,q2,λ_ _ z=>z,λJ H' a8=>a8.elim λa b=>⟨d,kvs,ob,a,hz,b⟩,λσ' H' a9=>a9.elim λa b=>⟨d,kvs,ob,a,hz,b⟩,λ_ _ z=>z⟩⟩
 cases f with
 | next=>
  obtain⟨σ',H',j,d,kvs,ob,hd,hz,q⟩:=q;exact⟨σ',_,j.thaw hd hz,q⟩
 | ret v=>
  obtain⟨x,σ',H',j,r,d,kvs,ob,hd,hz,q⟩:=q;exact⟨x,σ',_,j.thaw hd hz,r,q⟩
 | brk=>obtain⟨_,_,_,q⟩:=q;exact q.elim
 | cont=>obtain⟨_,_,_,q⟩:=q;exact q.elim
theorem A7:Slot "set_iterator" "__next__" "set_iterator.__next__":=
 .of (owner:="set_iterator") (n:="__next__") (by rw[VY,VZ];kernel_rfl) (by decide +kernel) (by decide +kernel) (by decide +kernel)
  (by first | exact .inl (by decide +kernel) | exact .inr (by decide +kernel)) (by rw[V0];kernel_rfl)
theorem MR:Slot "set_iterator" "__iter__" "set_iterator.__iter__":=
 .of (owner:="set_iterator") (n:="__iter__") (by rw[VY,VZ];kernel_rfl) (by decide +kernel) (by decide +kernel) (by decide +kernel)
  (by first | exact .inl (by decide +kernel) | exact .inr (by decide +kernel)) (by rw[V0];kernel_rfl)
theorem adv:entryFor table "set_iterator.__next__"=some Builtin.«set_iterator.__next__»:=entryFor_of_tree (by kernel_rfl)
theorem adw:entryFor table "set_iterator.__iter__"=some Builtin.«dict_keyiterator.__iter__»:=JV (id':="dict_keyiterator.__iter__") (by kernel_rfl) rfl (by decide +kernel) (by kernel_rfl)
theorem adx:entryFor table "set.__iter__"=some Builtin.«frozenset.__iter__»:=JV (id':="frozenset.__iter__") (by kernel_rfl) rfl (by decide +kernel) (by kernel_rfl)
theorem MS:Manifest.owners.lookup (String.ofList ['r','o','t','a','r','e','t','i','_','t','e','s'].reverse)=some Manifest.sig_set_iterator:=by kernel_rfl
theorem ady(a:Value):argsOk "set_iterator.__next__" ⟨[a],[]⟩:=by
 unfold argsOk;rw[signature?_of (id:="set_iterator.__next__") (n:=['_','_','t','x','e','n','_','_']) (o:=['r','o','t','a','r','e','t','i','_','t','e','s']) (by kernel_rfl) MS];kernel_rfl
theorem adz(a:Value):argsOk "set_iterator.__iter__" ⟨[a],[]⟩:=by
 unfold argsOk;rw[signature?_of (id:="set_iterator.__iter__") (n:=['_','_','r','e','t','i','_','_']) (o:=['r','o','t','a','r','e','t','i','_','t','e','s']) (by kernel_rfl) MS];kernel_rfl
section
variable {s:Shared}{a it:Addr}{ep:Nat}{t:SetTable}
theorem adA:typeLookup (.type "set") "__len__"=pure (some (.builtin "set.__len__")):=by rw[VY,VZ];kernel_rfl
theorem adB{Q:Bool->Shared->Prop}(j:s.TypeIs (.ref a) "set")(h:Q false s):wpAny (model prog w) A (Builtin.List.listLengthHint (.ref a)) Q E s:=by
 unfold Builtin.List.listLengthHint;refine ae (zQ j adA ?_);generalize G:("set.__len__":String)=J
 wp_delta
 rw[show splitId J=some ("set","__len__") from by subst G;decide +kernel];subst G;refine ae (oG (T:="set") (b:=true) j (by rw[V0];kernel_rfl) ?_);refine JW (λz=>absurd z (by decide)) (λ_=>?_);refine JW (λ_=>?_) (λz=>absurd (by decide +kernel) z);refine ae (JX j ?_);exact aq h
end
section
theorem mf:PE X (.Dict [] [] pos) (λ_ H Q=>eg H (.dK []) Q):=λad s Z H Q I h=>aah ad s Z H Q I h.at
theorem adC:PE X (.Dict [] [] pos) (λ_ H Q=>eg H (.dT []) Q):=λad s Z H Q I h=>aai ad s Z H Q I h.at
theorem iM(K:Fg){f:Str}{ta:TE}(z:PE X e ta)(j:attributeBase e f X.env (eval e X.env)=eval e X.env)(h:X.K=K:=by rfl):PE X (.Attribute e f pos) (Lc K ta f):=h▸bJ z j
def adD:V->Lv->Hp->VK->Prop:=λx vs H Q=>∃a b kvs j,x=.ref a/\vs=[.ref b]/\a≠b/\H a=some (.dK kvs)/\H b=some (.dK j)/\kvs.length+j.length<=sizeLine/\Q .non (af H a (.dK (lY kvs j)))
theorem adE:oW X "dict.update" adD:=by
 intro ad s Z H x xs v us Q I rx rs h;obtain⟨a,b,kvs,a2,rfl,rfl,jU,G,eb,J,q⟩:=h;cases rx;cases rs with
 | cons r1 r2=>
  cases r2;cases r1;obtain⟨z,hd,vs,O,dd⟩:=lX I.hok G;obtain⟨z',mS,ws,U,gM⟩:=lX I.hok eb;refine sy arb dd.typeIs PySem.F.entry_dict_update (PySem.F.args_dict_update_2 _ _) (meets_dict_update (cx X.prog X.w) a b jU mS) ⟨vs,ws,dd,gM,by rw[<-O.length,<-U.length];exact J,λh' j _ hs=>?_⟩;have he:∃q,h'.get? a=some q:=j.elim λq Y=>Y.elim λ_ a0=>a0.elim λ_ a1=>a1.elim λhq _=>⟨q,hq⟩;exact⟨.non,_,vH I (ob:=.dK (lY kvs a2)) (by rw[G];exact True.intro) hs he (vI (bX (EH _ _) J) hd (U.merge O) j),rfl,q⟩
theorem adI(x:Str):Str.empty++x=x:=by
 obtain⟨c⟩:=x;show(⟨#[]++c⟩:Str)=⟨c⟩;rw[Array.empty_append]
variable {e1 e2:Expr}{te t1 t2:TE}
inductive MU (Q:VK) (H1:Hp):V->Prop where
 | mk {y:Str} (_:y.length<=sizeLine) (_:Q (.str y) H1):MU Q H1 (.str y)
def adJ(te:TE):TE:=λZ H Q=>te Z H λx H1=>MU Q H1 x
theorem xZ(J:PE X e te):PE X (.FormattedValue e (-1) none pos) (adJ te):=by
 intro ad s Z H Q I h;refine FormattedValue_plain (thn (J ad s Z H _ I h) λv Y G=>aW G λx H1 z U j=>?_);obtain @⟨y,O,q⟩:=j;obtain⟨t,rfl⟩:=U;exact formatField_str (λt' tk=>⟨.str y,H1,z.tok _,⟨_,rfl⟩,q⟩) O
inductive MV (t2:TE) (Z:St) (Q:VK) (H1:Hp):V->Prop where
 | mk {x:Str} (_:x.length<=sizeLine) (_:t2 Z H1 λb H2=>∃y,b=.str y/\x.length+y.length<=sizeLine/\Q (.str (x++y)) H2):MV t2 Z Q H1 (.str x)
def adL(t1 t2:TE):TE:=λZ H Q=>t1 Z H λa H1=>MV t2 Z Q H1 a
theorem x5(h1:PE X e1 t1)(h2:PE X e2 t2):PE X (.JoinedStr [e1,e2] pos) (adL t1 t2):=by
 intro ad s Z H Q I h;refine JoinedStr_many (joinParts_cons (thn (h1 ad s Z H _ I h) λv j O=>aW O λa H1 G r1 z=>?_));obtain @⟨x,hx,q1⟩:=z;obtain⟨t,rfl⟩:=r1;show(Str.empty++x).length<=sizeLine/\wpAny _ _ (joinParts (Str.empty++x) (eval e2 X.env::evalEach [] X.env)) _ _ j;rw[adI];refine⟨hx,joinParts_cons (thn (h2 ad j Z H1 _ G q1) λv s2 U=>aW U λb H2 J r2 a0=>?_)⟩;obtain⟨y,Y,hl,q2⟩:=a0;subst Y;obtain⟨t',rfl⟩:=r2;have hz:(x++y).length<=sizeLine:=by rw[i9];exact hl
 exact⟨hz,joinParts_nil ⟨.str (x++y),H2,J.tok _,⟨_,rfl⟩,q2⟩ hz⟩
end
end
section
theorem Fn{X:Cx}{st:Stmt}{j:List Stmt}{t u:TS}(h1:PS X st t)(h2:bW X j u):bW X (st::j) (λD Z H=>∃P:St->Hp->Prop,t { D with nx:=P } Z H/\∀σ' H',P σ' H'->u D σ' H'):=by
 intro ad s Z H D I ⟨P,a,b⟩;exact AW P h1 h2 ad s Z H D I ⟨a,b⟩
variable {t1 t2 t3 t4 t5 t6 t7 t8:TS}{D:Ends}{Z:St}{H:Hp}{X:Cx}{w:World}{K:Fg}{tk:Tok}
theorem mh(h:let d:=D;let s:=Z;let j:=t2;aH t1 j d s H):aH t1 (t2) D Z H:=h
theorem jb(h:let d:=D;let s:=Z;let z:=t3;let j:=aH t2 z;aH t1 j d s H):aH t1 (aH t2 (t3)) D Z H:=h
theorem kO(h:let d:=D;let s:=Z;let G:=t4;let z:=aH t3 G;let j:=aH t2 z;aH t1 j d s H):aH t1 (aH t2 (aH t3 (t4))) D Z H:=h
theorem Fo(h:let d:=D;let s:=Z;let J:=t5;let G:=aH t4 J;let z:=aH t3 G;let j:=aH t2 z;aH t1 j d s H):aH t1 (aH t2 (aH t3 (aH t4 (t5)))) D Z H:=h
theorem x6(h:let d:=D;let s:=Z;let O:=t6;let J:=aH t5 O;let G:=aH t4 J;let z:=aH t3 G;let j:=aH t2 z;aH t1 j d s H):aH t1 (aH t2 (aH t3 (aH t4 (aH t5 (t6))))) D Z H:=h
theorem adP(h:let d:=D;let s:=Z;let U:=t7;let O:=aH t6 U;let J:=aH t5 O;let G:=aH t4 J;let z:=aH t3 G;let j:=aH t2 z;aH t1 j d s H):aH t1 (aH t2 (aH t3 (aH t4 (aH t5 (aH t6 (t7)))))) D Z H:=h
theorem adQ(h:let d:=D;let s:=Z;let Y:=t8;let U:=aH t7 Y;let O:=aH t6 U;let J:=aH t5 O;let G:=aH t4 J;let z:=aH t3 G;let j:=aH t2 z;aH t1 j d s H):aH t1 (aH t2 (aH t3 (aH t4 (aH t5 (aH t6 (aH t7 (t8))))))) D Z H:=h
theorem adR{j:TS}(h:let d:=D;let s:=Z;let u9:=j;let u8:=aH t8 u9;let Y:=aH t7 u8;let U:=aH t6 Y;let O:=aH t5 U;let J:=aH t4 O;let G:=aH t3 J;let z:=aH t2 G;aH t1 z d s H):aH t1 (aH t2 (aH t3 (aH t4 (aH t5 (aH t6 (aH t7 (aH t8 (j)))))))) D Z H:=h
theorem adS{U j z G J O:TS}(h:let d:=D;let s:=Z;let MW:=O;let MX:=aH J MW;let MY:=aH G MX;let MZ:=aH z MY;let Y:=aH j MZ;let u9:=aH U Y;let u8:=aH t8 u9;let u7:=aH t7 u8;let u6:=aH t6 u7;let u5:=aH t5 u6;let u4:=aH t4 u5;let u3:=aH t3 u4;let u2:=aH t2 u3;aH t1 u2 d s H):aH t1 (aH t2 (aH t3 (aH t4 (aH t5 (aH t6 (aH t7 (aH t8 (aH U (aH j (aH z (aH G (aH J (O))))))))))))) D Z H:=h
theorem ya{b:List PySem.Stmt}(h:let x:=X;let d:=D;∃t,bW x b t/\t d Z H):∃t,bW X b t/\t D Z H:=h
section
theorem aQ{N P:Ls}{sc:Scope}(a:sc.kind=.function:=by rfl)(b:sc.isCoroutine=false:=by rfl)(c:sc.isGenerator=false:=by rfl)(d:N.Nodup:=by decide +kernel)(e:N.take P.length=P:=by rfl)(f:∀x∈P,sc.names.lookup x=some .local\/sc.names.lookup x=some .cell:=by decide +kernel)(g:∀y∈sc.names,y.2≠.free:=by decide +kernel):aK N P sc:=⟨a,b,c,d,e,f,g⟩
theorem dN{own bw:Ls}{js:List Nat}{sc:Scope}(a:sc.kind=.function:=by rfl)(b:∀y∈sc.names,y.2≠.cell:=by decide +kernel)(c:∀y∈sc.names,y.2=.local->sc.names.lookup y.1=some .local:=by decide +kernel)(d:(own++bw).Nodup:=by decide +kernel)(e:∀y∈sc.names,y.2=.free->y.1∈bw:=by decide +kernel)(f:js.map (λj=>X.N[j]?)=bw.map some:=by rfl)(g:bw.map X.env.kindOf=bw.map λ_=>some NameKind.cell:=by rfl)(h:bw.map (λx=>(relabel sc X.env).names.lookup x)=bw.map λ_=>some NameKind.cell:=by rfl):kK X own bw js sc:=⟨a,b,c,d,e,f,g,h⟩
theorem lZ.okL{P:Program}{mg:Mv}{base:Heap}{x a_:Str}{st:Stmt}{f:Addr}{fd:Fy}{N ps:Ls}{k:Nat}{sp:Sp}(F:lZ K x a_ st f fd)(S:aK N ps (av st))(z:∀(j:Value) (A:Around) (outer:List Env) (s:Shared) (H:Hp) (vs:Lv) (Q:VK) (E:XK),ci k (A.deeper (envOfC a_ (av st) s.heap.objs.size f j))->sp vs H Q E->let y:=(kG aL P w K mg base N a_ (av st) f j A outer s H E).nox;let d:Ends:={ nx:=λ_ H'=>Q .non H',rt:=Q };∃t,bW y (gD st) t/\t d (start N vs) H)(len:∀vs H Q E,sp vs H Q E->vs.length=ps.length:=by intro _ _ _ _ h;(cases h;rfl)):au P w K mg base aL (k+1) f fd ps sp:=F.ok S len z
end
section
variable {a b c d:Expr}{ta tb tc td:TE}
theorem am(j:PE X a ta)(z:starEach [a] X.env=(false,eval a X.env)::starEach [] X.env:=by rfl):PA X [a] (fP ta (fg)):=gK j d8 z
theorem aC(j:PE X a ta)(z:PE X b tb)(G:starEach [a,b] X.env=(false,eval a X.env)::starEach [b] X.env:=by rfl)(J:starEach [b] X.env=(false,eval b X.env)::starEach [] X.env:=by rfl):PA X [a,b] (fP ta (fP tb (fg))):=gK j (gK z d8 J) G
theorem dP(j:PE X a ta)(z:PE X b tb)(G:PE X c tc)(J:starEach [a,b,c] X.env=(false,eval a X.env)::starEach [b,c] X.env:=by rfl)(O:starEach [b,c] X.env=(false,eval b X.env)::starEach [c] X.env:=by rfl)(sc:starEach [c] X.env=(false,eval c X.env)::starEach [] X.env:=by rfl):PA X [a,b,c] (fP ta (fP tb (fP tc (fg)))):=gK j (gK z (gK G d8 sc) O) J
theorem qV(j:PE X a ta)(z:PE X b tb)(G:PE X c tc)(hd:PE X d td)(J:starEach [a,b,c,d] X.env=(false,eval a X.env)::starEach [b,c,d] X.env:=by rfl)(O:starEach [b,c,d] X.env=(false,eval b X.env)::starEach [c,d] X.env:=by rfl)(sc:starEach [c,d] X.env=(false,eval c X.env)::starEach [d] X.env:=by rfl)(U:starEach [d] X.env=(false,eval d X.env)::starEach [] X.env:=by rfl):PA X [a,b,c,d] (fP ta (fP tb (fP tc (fP td fg)))):=gK j (gK z (gK G (gK hd d8 U) sc) O) J
end
theorem bA{p:Prop}(h:let T:=p;T):p:=h
theorem vR{g:TG}{tb:TS}{E:Ends}{x:V}(h:let e:=E;let s:=Z;g x s H λσ2 H2=>tb e σ2 H2):g x Z H λσ2 H2=>tb E σ2 H2:=h
open PySem.W PySem.Builtin PySem.Builtin.ObjectAttr PySem.Builtin.Getset_descriptor
abbrev nv (a:Addr) (c:Value):HO:=.ext λh=>∃o,h.get? a=some o/\o.cls=c
theorem adT{P:Program}{h:Heap}{a:Addr}{c:Value}(e:∃o,h.get? a=some o/\o.cls=c):bY P w H h a (nv a c):=by
 obtain⟨o,e1,e2⟩:=e;exact⟨⟨o,e1,e2⟩,⟨o,e1⟩,λh1 h2 z k=>by
  obtain⟨o',x,y⟩:=z;exact⟨o',k _ x,y⟩⟩
abbrev M3:Lw:=[.type "ValueError",.type "Exception",.type "BaseException",.type "object"]
structure py(K:Fg)(C:Addr):Prop where
 exc:W.excIn K C M3 "ValueError.__new__"=true
 ga:W.findIn K (.ref C) "__getattribute__"=some (some (.builtin "BaseException.__getattribute__"))
 gh:W.findIn K (.ref C) "__getattr__"=some none
 cls:W.findIn K (.ref C) "__class__"=some (some (.builtin "object.__class__"))
 spc:W.specialIn K (.builtin "object.__class__") "__get__"=some (some (.builtin "getset_descriptor.__get__"))
 tak:W.takesIn K (.builtin "object.__class__")=some true
 mro:W.mroIn K C (.type "object")=some true
 mrb:W.mroIn K C (.type "BaseException")=some true
structure kP(K:Fg)(C:Addr):Prop where
 ga:W.findIn K (.ref C) "__getattribute__"=some (some (.builtin "BaseException.__getattribute__"))
 gh:W.findIn K (.ref C) "__getattr__"=some none
 cls:W.findIn K (.ref C) "__class__"=some (some (.builtin "object.__class__"))
 spc:W.specialIn K (.builtin "object.__class__") "__get__"=some (some (.builtin "getset_descriptor.__get__"))
 tak:W.takesIn K (.builtin "object.__class__")=some true
 mro:W.mroIn K C (.type "object")=some true
 mrb:W.mroIn K C (.type "BaseException")=some true
theorem py.c0{C:Addr}(x:py K C):kP K C:=⟨x.ga,x.gh,x.cls,x.spc,x.tak,x.mro,x.mrb⟩
section
variable {D a:Addr}{M:Model}{h:Heap}
theorem kP.there(x:kP K D):∃cd,W.clsIn K D=some cd:=by
 have e:=x.mro;unfold W.mroIn at e;obtain⟨cd,q,_⟩:=Option.bind_eq_some_iff.mp e;exact⟨cd,q⟩
theorem kP.obj(x:kP K D):∃c d cd sl,K.lookup D=some ⟨c,d,.cls cd,sl⟩:=by
 obtain⟨cd,e⟩:=x.there;unfold W.clsIn at e;split at e
 . exact⟨_,_,_,_,‹_›⟩
 cases e
theorem A8(e:∃o,h.get? a=some o/\o.cls=.ref D):Looks M h (typeOf (.ref a)) (.ref D):=by
 obtain⟨o,e1,e2⟩:=e;exact e2▸(Looks.ld e1).andThen .now
end
section
variable {prog:Program}{A:Around}{E:VP}{s:Shared}{D a:Addr}
theorem adU{R:Result->Shared->Prop}{j:Value}(x:kP K D)(X:K.In s.heap)(p:∃o,s.heap.get? a=some o/\o.cls=.ref D)(q:R (.ok (.ret (.ref D))) s) :
 codeAny (model prog w) A (.call (.builtin "getset_descriptor.__get__") ⟨[.builtin "object.__class__",.ref a,j],[]⟩) R s:=by
 obtain⟨O,J,G,tk,os⟩:=s;have LT:=A8 (M:=model prog w) p;have z:=looks_mroIn (M:=model prog w) X x.mro;refine V1 KF.slot_gs.plain KF.entry_gs
  (KF.slot_gs.check _ _ _ _ _ _ _ _ KF.type_class (KF.args_gs _ _ _) ?_)
 unfold Builtin.«getset_descriptor.__get__»;unfold descrGet;rw[dga_obj];refine ae (aq ?_);unfold descrGetter descrCheckInstance;unfold descrNameAndClass isInstance;simp only[KF.owner_class]
 repeat lk
 refine⟨Code.quiet_builtin _ (by decide +kernel),
  qt KF.entry_class ?_⟩
 unfold Builtin.«object.__class__»;unfold shownTypeOf
 repeat lk
 exact q
theorem adV(x:kP K D){Q:PySem.Fin->Shared->Prop}(X:K.In s.heap)(p:∃o,s.heap.get? a=some o/\o.cls=.ref D)(q:Q (.done (.ret (.ref D))) s) :
 wpAny (model prog w) A (Builtin.«object.__getattribute__» ⟨[.ref a,.str "__class__" tk],[]⟩) Q E s:=by
 obtain⟨j,J,G,tt,os⟩:=s;have LT:=A8 (M:=model prog w) p;have z:Looks (model prog w) j (find (.ref a) (.ref D) "__class__") (.bind (.builtin "getset_descriptor.__get__") (.builtin "object.__class__")):=
  (V2 X x.cls).andThen ((looks_specialIn X x.spc).andThen ((show Looks (model prog w) j (dataDescriptor? (some (.builtin "object.__class__")) (some (.builtin "getset_descriptor.__get__"))) (some (.builtin "getset_descriptor.__get__",.builtin "object.__class__")) from (looks_takesIn X x.tak).andThen .now).andThen (Looks.tag .now)))
 unfold Builtin.«object.__getattribute__»
 repeat (any_goals (first | assumption | with_reducible refine LT.at ?_ | with_reducible refine z.at ?_ | wp_step))
 refine adU x X p ?_
 repeat (any_goals (first | assumption | wp_step))
theorem adW(x:kP K D){j:Value}{Q:Unit->Shared->Prop}(X:K.In s.heap)(p:∃o,s.heap.get? a=some o/\o.cls=.ref D)(q:Q () s) :
 wpAny (model prog w) A (checkBuiltinCall "BaseException.__getattribute__" ⟨[.ref a,j],[]⟩) Q E s:=by
 obtain⟨hh,gg,Y,tt,os⟩:=s;have J:builtinKind "BaseException.__getattribute__"=some .slot:=by decide +kernel
 have U:splitId "BaseException.__getattribute__"=some ("BaseException","__getattribute__"):=by decide +kernel
 have z:=looks_mroIn (M:=model prog w) X x.mrb;obtain⟨o,O,G⟩:=id p;have ha:=F.args_bexc_ga (.ref a) j;simp only[checkBuiltinCall,J,U];refine ae ?_;unfold isInstance
 repeat (first | (with_reducible refine wpAny_loadPart_at O ?_;rw[G]) | with_reducible refine z.at ?_ | wp_step)
 exact q
theorem adX(x:kP K D){R:Result->Shared->Prop}(X:K.In s.heap)(p:∃o,s.heap.get? a=some o/\o.cls=.ref D)(q:R (.ok (.ret (.ref D))) s) :
 codeAny (model prog w) A (.call (.builtin "BaseException.__getattribute__") ⟨[.ref a,.str "__class__" tk],[]⟩) R s:=
 V1 F.excAttr_ValueError.ga.plain F.entry_bexc_ga (adW x X p (adV x X p q))
theorem adY(x:kP K D){Q:VP}(X:K.In s.heap)(p:∃o,s.heap.get? a=some o/\o.cls=.ref D)(q:Q (.ref D) s) :
 wpAny (model prog w) A (getAttrBy (.ref a) (.str "__class__" tk) false) Q E s:=by
 obtain⟨hh,gg,U,tt,os⟩:=s;have LT:=A8 (M:=model prog w) p;have j:=V2 (M:=model prog w) X x.ga;have z:=V2 (M:=model prog w) X x.gh;have Y:=F.excAttr_ValueError.ga.bind (.ref a);have O:(false && onTheHeap (Value.builtin "BaseException.__getattribute__"))=false:=rfl;have G:(Value.builtin "BaseException.__getattribute__" == Value.builtin "object.__getattribute__")=false:=by decide +kernel
 have J:(onTheHeap (Value.ref D) && Value.builtin "BaseException.__getattribute__" == Value.builtin "object.__getattribute__")=false:=by rw[G];rfl
 repeat (any_goals (first | assumption | with_reducible refine LT.at ?_ | with_reducible refine j.at ?_ | with_reducible refine z.at ?_ | wp_step))
 refine adX x X p ?_
 repeat (any_goals (first | assumption | wp_step))
theorem adZ(x:kP K D){Q:Option Value->Shared->Prop}(X:K.In s.heap)(p:∃o,s.heap.get? a=some o/\o.cls=.ref D)(q:Q (some (.ref D)) { s with toks:=s.toks+1 }) :
 wpAny (model prog w) A (getAttr? (.ref a) "__class__") Q E s:=by
 obtain⟨G,z,j,tt,os⟩:=s;unfold getAttr?;refine ae (wpAny_mkText ?_);unfold getAttrBy?;refine ae (wpAny_attempt (adY x X p ?_));exact aq q
theorem Fp(x:kP K D):W.KitX K (.ref a) (.ref D) (λh=>∃o,h.get? a=some o/\o.cls=.ref D) where
 ty:=λ_ _ _ p=>A8 p
 it:=λM h X _=>by
  obtain⟨c,d,cd,sl,e⟩:=x.obj;intro G O J s' k q;unfold isType loadHead;exact ae (wpAny_loadPart (k _ _ (X _ _ e)) (aq q))
 ne:=λh z dd b_ n sl X e=>by
  obtain⟨c,d,cd,U,j⟩:=x.obj;refine oK.mpr λq=>?_;obtain rfl:D=z:=Value.ref.inj (jP.mp q);cases (X _ _ j).symm.trans e
 ca:=λX p q=>adZ x X p q
end
end
section
open PySem.W
variable {P:Program}{w:World}{h:Heap}{a C:Addr}{x:Str}{pos:Pos}
theorem bY.obj{H:Hp}{o:HO}(x:bY P w H h a o):∃u,h.get? a=some u:=by
 cases o with
 | lst xs=>obtain⟨_,_,_,_,e⟩:=x;exact⟨_,e⟩
 | tup xs=>obtain⟨_,_,_,ob,e,_⟩:=x;exact⟨_,e⟩
 | dK kvs=>obtain⟨_,_,_,_,o,_,_,e,_⟩:=x;exact⟨_,e⟩
 | dT kvs=>obtain⟨_,_,_,_,o,_,_,e,_⟩:=x;exact⟨_,e⟩
 | set S n=>obtain⟨o,_,_,_,e,_⟩:=x;exact⟨_,e⟩
 | ins C dx fs=>obtain⟨_,_,_,e,_⟩:=x;exact⟨_,e⟩
 | own y=>obtain⟨_,e⟩:=x;exact⟨_,e⟩
 | xd fs=>obtain⟨_,⟨_,_,_,e,_⟩,_⟩:=x;exact⟨_,e⟩
 | rng lo hi=>obtain⟨_,_,_,e⟩:=x;exact⟨_,e⟩
 | frz ob u=>obtain⟨e,_⟩:=x;exact⟨_,e⟩
 | tbl ps=>exact⟨_,(show h.get? a=some _ from x)⟩
 | met f y=>exact⟨_,(show h.get? a=some _ from x)⟩
 | ext φ=>obtain⟨_,⟨_,e⟩,_⟩:=x;exact⟨_,e⟩
structure kS(l:List Env)(B:Heap)(H:Hp)(h0 h h':Heap):Prop where
 big:∀b o,h.get? b=some o->((H b).isSome=true\/∃o',h0.get? b=some o')->b∉cg l->B.get? b=some o
 stay:B.StaysIn h'
 slots:∀b o,h.get? b=some o->b∈cg l->∃sl,h'.get? b=some { o with slots:=sl }
section
variable {l:List Env}{B:Heap}{H H0:Hp}{h0 h' Fq:Heap}
theorem kS.at(f:kS l B H h0 h h'){b:Addr}{o:Obj}(e:h.get? b=some o)(t:(H b).isSome=true\/∃o',h0.get? b=some o')(n:b∉cg l):h'.get? b=some o:=f.stay _ _ (f.big b o e t n)
theorem kS.hok(f:kS l B H h0 h h')(ok:cf P w H h)(G:∀b∈cg l,H b=none):cf P w H h':=λb o e=>by
 have j:∀c u,H c=some u->c∉cg l:=λc u q z=>by rw[G c z]at q;cases q
 refine(ok b o e).stay (λc u hc q=>?_) (λ_ q=>q) λ_ _ q=>q
 rcases hc with rfl | hc
 . exact f.at q (.inl (by rw[e];rfl)) (j _ _ e)
 exact f.at q (.inl (by rw[hc];rfl)) (j _ _ hc)
theorem kS.un{fs:List Addr}(f:kS l B H h0 h h')(u:Un fs [] H0 H h0 h)(hs:∀b∈cg l,b∈fs\/h0.get? b=none)(O:∀b∈fs,b∈cg l):Un fs [] H0 H h0 h' where
 keep:=λb o q n j G=>f.at (u.keep b o q n j G) (.inr ⟨o,q⟩) λz=>by
  rcases hs b z with y | y
  . exact j y
  rw[y]at q;cases q
 slot:=λb o q n j G=>by
  obtain⟨sl,e⟩:=u.slot b o q n j G;obtain⟨U,J⟩:=f.slots b _ e (O b j);exact⟨U,J⟩
 free:=u.free
 there:=λb o q G=>by
  obtain⟨o',e⟩:=u.there b o q G
  by_cases j:b∈cg l
  . obtain⟨sl,J⟩:=f.slots b _ e j;exact⟨_,J⟩
  exact⟨o',f.at e (.inr ⟨o,q⟩) j⟩
 tups:=u.tups
 frzs:=u.frzs
 tbls:=u.tbls
theorem kS.on(f:kS l B H h0 h h')(st:B.StaysIn Fq)(O:h'.UpToSlots Fq)(z:∀b o,h.get? b=some o->b∈cg l->∀vs,o.data≠.fields vs):kS l B H h0 h Fq:=⟨f.big,st,λb o e j=>by
 obtain⟨sl,q⟩:=f.slots b o e j;obtain⟨J,G⟩:=O b _ q (z b o e j);exact⟨J,G⟩⟩
end
def dU(P:Program)(w:World):g0:=λouter H s E e s'=>∃(a:Addr) (c:Value) (H':Hp) (B:Heap) (j:Value),e=.ref a/\s'.os=s.os/\AllBare s'.gens/\Un (cg outer) [] H H' s.heap s'.heap/\cf P w H' s'.heap/\s.heap.get? a=none /\
 Heap.FlyingW B outer a c j s'.heap/\(∀b o,s'.heap.get? b=some o->((H' b).isSome=true\/∃o',s.heap.get? b=some o')->b∉cg outer->B.get? b=some o)/\E c none H'
section
variable {X:Cx}{ad:Po}{Z:St}{H:Hp}{s:Shared}{E:XK}
theorem Inv.nofld(I:Inv X ad Z H s){b:Addr}(j:b∈cg X.stack):∃o,s.heap.get? b=some o/\∀vs,o.data≠.fields vs:=(I.stack.mem j).2
theorem M7{B h':Heap}{c U:Value}{g':Array GenState}{d':Drawn}{t':Nat}(I:Inv X ad Z H s)(hex:X.ex=[])(dR:X.stack=X.env::X.outer)(pA:X.env.frame=some X.env.locals)(f:kS X.stack B H X.s₀.heap s.heap h')(na:X.s₀.heap.get? a=none)
 (fl:Heap.FlyingW B X.outer a c U h') (hg:AllBare g') (e:E c none H):dU X.prog X.w X.outer X.H₀ X.s₀ E (.ref a) { s with heap:=h',gens:=g',drawn:=d',toks:=t' }:=by
 have sub:∀b∈cg X.outer,b∈cg X.stack:=λb G=>by
  rw[dR];unfold cg at G ⊢;rw[Dq,pA];exact bU _ G
 have a1:∀b∈cg X.stack,b∈cg X.outer\/X.s₀.heap.get? b=none:=λb G=>by
  rcases be.mp (I.stkSub b G) with z | z
  . rw[z];exact .inr (Heap.get?_none_of_le I.ok.above)
  exact .inl z
 have O:=I.base;rw[hex]at O;refine⟨a,c,H,B,U,rfl,I.os,hg,f.un O a1 sub,f.hok I.hok I.stkFree,na,fl,λb o q t nb=>?_,e⟩;have q:h'.get? b=some o:=q;have Fs:b∉cg X.stack\/X.s₀.heap.get? b=none:=by
  by_cases z:b∈cg X.stack
  . rcases a1 b z with y | y
    . exact absurd y nb
    exact .inr y
  exact .inl z
 have tr:∀j,s.heap.get? b=some j->b∉cg X.stack->B.get? b=some o:=λj e2 z=>by
  have:=f.big b j e2 t z;have Y:=f.stay _ _ this;rw[q]at Y;cases Y;exact this
 rcases t with t | ⟨o',t⟩
 . obtain⟨u,J⟩:=JN.mp t;obtain⟨j,e2⟩:=(I.hok b u J).obj;exact tr j e2 λz=>by rw[I.stkFree b z]at J;cases J
 obtain⟨j,e2⟩:=O.there b o' t (by simp);refine tr j e2 λz=>?_
 rcases Fs with y | y
 . exact y z
 rw[y]at t;cases t
abbrev qW (P:Program) (w:World) (K:Fg) (mg:Mv) (base:Heap) (N:Ls) (a_:Str) (scope:Scope) (f:Addr) (cd:Value) (A:Around) (outer:List Env) (s:Shared) (H:Hp) (E:XK):Cx:=kG (dU P w) P w K mg base N a_ scope f cd A outer s H E
end
section
variable {K:Fg}{mg:Mv}{base:Heap}{N:Ls}{a_:Str}{scope:Scope}{f:Addr}{cd:Value}{A:Around}{outer:List Env}{s0:Shared}{H0:Hp}{E:XK}
theorem eK:lV (dU P w) (qW P w K mg base N a_ scope f cd A outer s0 H0 E) E:=by
 intro ad Z H s e s' I h;obtain⟨a,c,H',B,a0,rfl,os,j,un,hok,Y,fl,big,q⟩:=h;have J:=I.call' (ch:=[]) os un hok j (λb z=>nomatch z);refine wpAny_leaves_onW (L:=(envOfC a_ scope s0.heap.objs.size f cd).locals) I.ok.frames rfl fl λh' x1 x2=>?_;obtain⟨hh,g,d,t,AG⟩:=s';have G:s0.heap.get? a=none:=by
  cases z:s0.heap.get? a with
  | none=>rfl
  | some o=>
   obtain⟨o',y⟩:=I.base.there a o z (λz=>nomatch z);rw[Y]at y;cases y
 exact M7 (g':=g) (d':=d) (t':=t) J rfl rfl rfl ⟨λb o e t nb=>big b o e (t.imp id λO=>O.elim λo' z=>I.base.there b o' z (λz=>nomatch z)) nb,x1.1,λb o e U=>by
  obtain⟨o1,e1,n1⟩:=J.nofld U;rw[e]at e1;cases e1;exact x2 b o e n1⟩ G x1 j q
theorem ad1(X:K.In h)(x:py K C):∃bm U nm q bs hdct sn sub ab col dd k0 k1 k2 k3 k5 mN,h.get? C=some (excClassObj nm q C U bs bm hdct sn sub ab col dd k0 k1 k2 k3 k5 "ValueError.__new__")/\h.Ns U mN/\mN "__init__"=none/\OwnTail h M3 bm:=by
 have q:=x.exc;unfold excIn at q;split at q
 case h_2=>cases q
 rename_i dd O sl ho;split at q
 case h_2=>cases q
 rename_i C' bm k0 k1 k2 k3 n k5 z hs;rw[iH,iH,iH,iH,iH]at q;obtain⟨⟨⟨⟨⟨G,J⟩,j⟩,z4⟩,Y⟩,z6⟩:=q;have G:=jP.mp G;have J:=jP.mp J;have j:O.hasDel=false:=by simpa using j
 subst G J;obtain⟨nm,bs,a1,ns,qn,hd,sn,sub,ab,col,a0⟩:=O;have z:a1=.ref C'::bm:=z;have j:a0=false:=j;subst z j;obtain⟨a2⟩:=sl;have hs:a2=[k0,k1,k2,k3,some (.builtin "ValueError.__new__"),k5]:=hs;subst hs;exact⟨bm,ns,nm,qn,bs,hd,sn,sub,ab,col,dd,k0,k1,k2,k3,k5,_,X _ _ ho,.of_isNs (isNs_of_in X Y),nsMap_none_of_in X Y (jP.mp z6),tail_of_in X z4⟩
theorem M9{np cn:Pos}{e:Expr}{te:TE}(xc:py K C)(hm:mg x=some (.ref C))(he:PE (qW P w K mg base N a_ scope f cd A outer s0 H0 E) e te)(hg:Gl (qW P w K mg base N a_ scope f cd A outer s0 H0 E) x:=by rfl)
 (hs:starEach [e] (envOfC a_ scope s0.heap.objs.size f cd)=[(false,eval e (envOfC a_ scope s0.heap.objs.size f cd))]:=by rfl) (hd:(x == ("__debug__":Str))=false:=by decide) :
 PS (qW P w K mg base N a_ scope f cd A outer s0 H0 E) (.Raise (some (.Call (.Name x np) [e] [] cn)) none pos) (λ_ Z H=>te Z H λv H1=>[v].length<=1/\E (.ref C) none H1):=by
 intro ad s Z H D I h;obtain⟨bm,Nn,nm,q,bs,hdct,sn,sub,ab,col,dd,k0,k1,k2,k3,k5,mN,hC,hN,Y,T⟩:=ad1 I.mod.kin xc;have hh:(A.deeper (envOfC a_ scope s0.heap.objs.size f cd)).handled=none:=I.ok.hd rfl;refine wpAny_Raise_call_subT (C:=C) (nm:=nm) (q:=q) (N:=Nn) (bs:=bs) (bm:=bm) (hdct:=hdct) (sn:=sn) (sub:=sub) (ab:=ab) (col:=col) (dd:=dd) (k0:=k0) (k1:=k1) (k2:=k2) (k3:=k3) (k5:=k5)
  arc (mN:=mN) (T.hasType arc.hasBase) hh (by show(backTo cn (starEach [e] (envOfC a_ scope s0.heap.objs.size f cd))).any (·.1)=false;rw[hs];rfl) Y (qG I hg hm ⟨rfl,?_⟩ hd)
 have ha:PA (qW P w K mg base N a_ scope f cd A outer s0 H0 E) [e] (fP te fg):=gK he d8 hs;have J:=ha cn ad s Z H (λvs H1=>vs.length<=1/\E (.ref C) none H1) I h;have J:wpAny (model P w) (A.deeper (envOfC a_ scope s0.heap.objs.size f cd)) (spliced (backTo cn (starEach [e] (envOfC a_ scope s0.heap.objs.size f cd)))) (AP (qW P w K mg base N a_ scope f cd A outer s0 H0 E) ad Z (λvs H1=>vs.length<=1/\E (.ref C) none H1)) (qW P w K mg base N a_ scope f cd A outer s0 H0 E).xe s:=J;show wpAny (model P w) (A.deeper (envOfC a_ scope s0.heap.objs.size f cd)) (evalArgs (.ref C) true (backTo cn (starEach [e] (envOfC a_ scope s0.heap.objs.size f cd))) []) _ _ s;rw[hs]at J ⊢;refine Dx (d6 J (λus G z=>?_) λ_ _ y=>y);obtain⟨vs,H1,j,rv,l1,q1⟩:=z;have hl:us.length<=sizeLine:=by
  rw[<-rv.length];exact bX l1 (by decide)
 refine⟨rfl,hl,j.bk _ _ hC,hN.keeps j.bk,T.keeps j.bk,λh' a U=>?_⟩;have Ft:s0.heap.get? a=none:=by
  cases z:s0.heap.get? a with
  | none=>rfl
  | some o=>
   obtain⟨o',y⟩:=j.base.there a o z (λz=>nomatch z);rw[U.new]at y;cases y
 refine wpAny_leaves_madeW (base:=hideAll G.heap (cg (envOfC a_ scope s0.heap.objs.size f cd::outer))) (L:=(envOfC a_ scope s0.heap.objs.size f cd).locals) (h:=G.heap) j.ok.frames rfl (λb o z=>of_hideAll _ z)
  (funFrames_hide j.stack λenv a0 b O=>JJ.mpr ⟨env,a0,O⟩) U λh2 t x1 x2 x3 x4=>?_
 refine M7 (g':=G.gens) (d':=G.drawn) (t':=G.toks) j rfl rfl rfl ⟨λb o z _ nb=>hideAll_get _ z nb,x1.1,λb o z O=>?_⟩ Ft x1 j.bare q1;obtain⟨o1,e1,n1⟩:=j.nofld O;rw[z]at e1;cases e1;exact x4 b o (U.keeps _ _ z) n1
end
section
variable {X:Cx}{ad:Po}{Z:St}{H:Hp}{s:Shared}
theorem Bb{M:Model}{A:Around}{E:VP}{i:Nat}{Q:Unit->Shared->Prop}(I:Inv X ad Z H s)(hN:X.N.Nodup)(hi:X.N[i]?=some x)(hk:X.env.kindOf x=some .local)
 (h:∀s',Inv X ad (Z.set i none) H s'->Q () s'):wpAny M A (do bindName X.env x .none;unbindBehindTheSuite X.env x pos) Q E s:=by
 obtain⟨m,U,hl⟩:=id I.loc;have DY:(X.env.scope.kind == .class || (X.env.scope.kind == .module && X.env.locals != X.env.globals))=false:=by rw[I.ok.kind];rfl
 have cne:=I.cne;refine wpAny_nameGoes_keeps hk U DY λh' v i3 hs=>?_;obtain⟨oL,_,_,mT,_⟩:=id U;have old:∀{b:Addr}{o:Obj},X.s₀.heap.get? b=some o->b≠X.env.locals:=λe=>cR (gt (bG e) I.ok.above);refine h _ ⟨I.ok,I.os,I.bare,⟨λb o e n J G=>(hs.2 b (old e)).trans (I.base.keep b o e n J G),λb o e n J G=>?_,I.base.free,λb o e G=>?_,I.base.tups,I.base.frzs,I.base.tbls⟩,⟨_,i3,λj y v' e1 e2 e3=>?_⟩,λy c e=>?_,I.free,I.freeC,λp hp=>?_,λb ob e=>?_,by simpa using I.len⟩
 . obtain⟨sl,e1⟩:=I.base.slot b o e n J G;exact⟨sl,(hs.2 b (old e)).trans e1⟩
 . obtain⟨o',e1⟩:=I.base.there b o e G;exact⟨o',(hs.2 b (old e)).trans e1⟩
 . by_cases O:j=i
   . subst O;have Aq:j<Z.length:=by rw[I.len];exact(cN.mp hi).1
     rw[Vw Aq]at e2;cases e2
   rw[Vx (gu O)]at e2;obtain⟨u',r',q⟩:=hl j y v' e1 e2 e3;refine⟨u',r',?_⟩
   rcases q with⟨k,e⟩ | ⟨k,c,e,z⟩
   . have ne:y≠x:=λe=>O (DX hN e1 (e▸hi));exact .inl ⟨k,by simp[ne,e]⟩
   exact .inr ⟨k,c,e,z.sameBut hs (cne y c e)⟩
 . obtain⟨Y,z⟩:=I.cell y c e;exact⟨Y,z.sameBut hs (cne y c e)⟩
 . obtain⟨e,n,ne,nf,d⟩:=I.pin p hp;exact⟨(hs.2 p.1 ne).trans e,n,ne,nf,d⟩
 refine(I.hok b ob e).stay (λc Y hc q=>(hs.2 c ?_).trans q) (λ_ q=>q) λ_ _ q=>q;rintro rfl
 rcases hc with rfl | hc
 . rw[I.free]at e;cases e
 rw[I.free]at hc;cases hc
abbrev Cx.tr (X:Cx) (XE:VP) (pn:Po):Cx:={ X with xe:=XE,pn:=X.pn++pn }
abbrev Cx.exs (X:Cx) (a:Addr):Cx:={ X with A:=X.A.mark (some (.ref a)),calm:=false,xe:=λ_ _=>False }
theorem Inv.tr(I:Inv X ad Z H s)(j:VP):Inv (X.tr j ad) [] Z H s:=
 ⟨⟨I.ok.mod,I.ok.kind,I.ok.glob,I.ok.blt,I.ok.above,I.ok.inj,I.ok.has,I.ok.cab,I.ok.hd,I.ok.frames,I.ok.stk,I.ok.exf,I.ok.bs,I.ok.bsz,I.ok.noex,I.ok.exfs,I.ok.funs,I.ok.frf⟩,I.os,I.bare,I.base,I.loc,I.cell,I.free,I.freeC,λp z=>I.pin p (by simpa using z),I.hok,I.len⟩
theorem Inv.untr{j:VP}{ps:Po}(I:Inv (X.tr j ad) ps Z H s):Inv X ad Z H s:=
 ⟨⟨I.ok.mod,I.ok.kind,I.ok.glob,I.ok.blt,I.ok.above,I.ok.inj,I.ok.has,I.ok.cab,I.ok.hd,I.ok.frames,I.ok.stk,I.ok.exf,I.ok.bs,I.ok.bsz,I.ok.noex,I.ok.exfs,I.ok.funs,I.ok.frf⟩,I.os,I.bare,I.base,I.loc,I.cell,I.free,I.freeC,λp z=>I.pin p (wO _ z),I.hok,I.len⟩
theorem Inv.exs(I:Inv X ad Z H s)(a:Addr):Inv (X.exs a) ad Z H s:=
 ⟨⟨I.ok.mod,I.ok.kind,I.ok.glob,I.ok.blt,I.ok.above,I.ok.inj,I.ok.has,I.ok.cab,λz=>(nomatch z),I.ok.frames,I.ok.stk,I.ok.exf,I.ok.bs,I.ok.bsz,I.ok.noex,I.ok.exfs,I.ok.funs,I.ok.frf⟩,I.os,I.bare,I.base,I.loc,I.cell,I.free,I.freeC,I.pin,I.hok,I.len⟩
theorem Inv.unexs(ok:X.Ok)(I:Inv (X.exs a) ad Z H s):Inv X ad Z H s:=⟨ok,I.os,I.bare,I.base,I.loc,I.cell,I.free,I.freeC,I.pin,I.hok,I.len⟩
theorem SP.untr{j:VP}{ps:Po}{D:Ends}{f:Flow}{s':Shared}(h:SP (X.tr j ad) ps D f s'):SP X ad D f s':=by
 cases f with
 | next=>obtain⟨σ',H',I,q⟩:=h;exact⟨σ',H',I.untr,q⟩
 | brk=>obtain⟨σ',H',I,q⟩:=h;exact⟨σ',H',I.untr,q⟩
 | cont=>obtain⟨σ',H',I,q⟩:=h;exact⟨σ',H',I.untr,q⟩
 | ret u=>obtain⟨v,σ',H',I,r,q⟩:=h;exact⟨v,σ',H',I.untr,r,q⟩
end
def Bc(CX:g0)(X:Cx)(E:St->XK):Prop:=∀(ad:Po) (Z:St) (H:Hp) (s:Shared) (e:Value) (s':Shared),Inv X ad Z H s->CX X.stack H s (E Z) e s'->X.xe e s'
section
variable {X:Cx}{CX:g0}{k:Nat}{f:Addr}{fd:Fy}{ps:Ls}{sp:Sp}{c5:Lv}{ds:Lw}{E:St->XK}{m:Str}{p apos:Pos}{e o:Expr}{es:List Expr}{ta:TE}{t:TA}
theorem ad4{ad:Po}{Z:St}{H:Hp}{s:Shared}{Q:VK}{us:Lw}{vs:Lv}(F:au X.prog X.w X.K X.mg X.base CX k f fd ps sp)(O:ci k X.A)(G:Binds X.K fd ps ds)(hd:aY c5 ds)(U:Bc CX X E)
 (I:Inv X ad Z H s) (r:aY vs us) (h:sp (vs++c5) H Q (E Z)):wpAny (model X.prog X.w) X.A (call (.ref f) us) (EP X ad Z Q) X.xe s:=by
 have z:aY (vs++c5) (us++ds):=r.append hd;have J:(us++ds).length=ps.length:=by rw[<-z.length];exact F.len _ _ _ _ h
 refine Du (ql (F.run X.A X.stack s H ⟨us,[]⟩ (us++ds) (vs++c5) Q (E Z) O I.env0 (G s us I.kIn J) z h) λr s' j=>?_);cases r with
 | error e=>exact U ad Z H s e s' I j
 | ok fl=>
  cases fl with
  | ret u=>exact I.after j
  | next=>exact False.elim j
  | brk=>exact False.elim j
  | cont=>exact False.elim j
def ad5(sp:Sp)(c5:Lv)(E:St->XK)(t:TA):TE:=λZ H Q=>AH sp c5 (E Z) t Z H Q
theorem Nb(F:au X.prog X.w X.K X.mg X.base CX k f fd ps sp)(hr:ci k X.A)(hg:Gl X x)(hm:X.mg x=some (.ref f))(hk:W.keepIn X.K (.ref f)=true)(U:Binds X.K fd ps ds)(hd:aY c5 ds)(hx:Bc CX X E)
 (O:PA X (e::es) t) (J:(x == ("__debug__":Str))=false:=by decide) (Y:starEach (e::es) X.env=(false,eval e X.env)::starEach es X.env:=by rfl) (G:(backTo pos (starEach es X.env)).any (·.1)=false:=by rfl) :
 PE X (.Call (.Name x p) (e::es) [] pos) (ad5 sp c5 E t):=by
 intro ad s Z H Q I h;refine wT (qG I hg hm ?_ J);refine JL (h₀:=X.base) I.ok.mod.kin hk (thn (O pos ad s Z H _ I h) λus s1 z=>aW z λvs H1 j r q=>⟨j.kIn,?_⟩) Y G;exact ad4 F hr U hd hx j r q
end
section
variable {X:Cx}
def Nc(K:Fg)(M:Addr)(i:Nat)(j:TS)(D:Ends):St->XK:=λZ c _ H=>exmOne K c (.ref M)=some true/\∀a,H a=none ->
 j { nx:=λσ2 H2=>D.nx (σ2.set i none) H2,rt:=D.rt,bk:=λσ2 H2=>D.bk (σ2.set i none) H2,ct:=λσ2 H2=>D.ct (σ2.set i none) H2 } (Z.set i (some (.ref a))) (af H a (nv a c))
theorem ad7{i:Nat}{M:Addr}{n:Str}{body:List Stmt}{b0:Stmt}{ui:List Stmt}{np mq:Pos}{tb:(St->XK)->TS}{ts:TS}(nd:X.N.Nodup)(hi:X.N[i]?=some n)(hl:X.env.kindOf n=some .local)
 (dR:X.stack=X.env::X.outer) (pA:X.env.frame=some X.env.locals) (hm:X.mg x=some (.ref M)) (hg:Gl X x)
 (G:∀XE pn E,Bc (dU X.prog X.w) (X.tr XE pn) E->bW (X.tr XE pn) body (tb E)) (hs:∀a,bW (X.exs a) (b0::ui) ts) (f8:(x == ("__debug__":Str))=false:=by decide) :
 PS X (.Try body [.ExceptHandler (some (.Name x np)) (some n) (b0::ui) mq] [] [] pos) (λD Z H=>tb (Nc X.K M i ts D) D Z H):=by
 intro ad s Z H D I h;refine wpAny_Try_except ?_;refine d6 (G (λe s₁=>wpAny (model X.prog X.w) X.A (noteFrame e X.env) (λ_ s₂=>wpAny (model X.prog X.w) X.A (setFlight e none) (λ_ s₃=>wpAny (model X.prog X.w) X.A (handleBy e X.env [.ExceptHandler (some (.Name x np)) (some n) (b0::ui) mq]) (SP X ad D) X.xe s₃) X.xe s₂) X.xe s₁)
  ad (Nc X.K M i ts D) ?_ [] s Z H D (I.tr _) h) (λf s1 z=>?_) λ_ _ z=>z
 . intro ps σ1 H1 s1 e s' J hx;have J:=J.untr;obtain⟨a,c,H',B,a0,rfl,os,a1,un,hok,na,fl,big,A9,j0⟩:=hx;have fl:Heap.FlyingW B (X.env::X.outer) a c a0 s'.heap:=dR▸fl;have Fu:X.A.frames=some (X.env::X.outer):=dR▸J.ok.frames;have un:Un (cg X.stack) [] H1 H' s1.heap s'.heap:=un;have big:∀b o,s'.heap.get? b=some o->((H' b).isSome=true\/∃o',s1.heap.get? b=some o')->b∉cg X.stack->B.get? b=some o:=big;have J0:=J.call' (ch:=[]) os un hok a1 (λb z=>nomatch z);have nf:∀b o,s'.heap.get? b=some o->b∈cg X.stack->∀vs,o.data≠.fields vs:=λb o e G=>by
    obtain⟨o1,e1,n1⟩:=J0.nofld G;rw[e]at e1;cases e1;exact n1
   refine wpAny_looks_onW Fu pA fl λh4 a4 Fw=>?_;refine wpAny_landsW a4 λh5 uj Fx=>?_;have f5:kS X.stack B H' s1.heap s'.heap h5:=⟨big,uj.1,λb o e G=>(Fw.trans Fx) b o e (nf b o e G)⟩;have J5:Inv X ad σ1 H' { s' with heap:=h5 }:=J.call' (ch:=[]) os (f5.un un (λ_ z=>.inl z) λ_ z=>z) (f5.hok hok J0.stkFree) a1 (λb z=>nomatch z);refine wpAny_handleBy_cons (ard ?_) (by intro q;cases q);refine qG (J5.exs a) hg hm ?_ f8;have LT:Looks (model X.prog X.w) h5 (typeOf (.ref a)) c:=by
    obtain⟨ob,o1,o2⟩:=uj.there;exact o2▸(Looks.ld o1).andThen .now
   refine(exm_one J5.kIn LT A9).here ?_;refine codeAny_handlers_suite_as ?_;refine lands_againW uj λh6 Bd um=>?_;have f6:=f5.on Bd.1 um nf;have j:=f6.un un (λ_ z=>.inl z) λ_ z=>z;have a2:=f6.hok hok J0.stkFree;obtain⟨oe,a6,a7⟩:=Bd.there;have Fs:a∉cg X.stack:=λz=>by
    obtain⟨o1,e1,n1⟩:=J.nofld z;rw[na]at e1;cases e1
   have vS:H' a=none:=by
    cases z:H' a with
    | none=>rfl
    | some u=>
     obtain⟨o1,e1⟩:=(hok a u z).obj;have:=big a o1 e1 (.inl (by rw[z];rfl)) Fs;rw[fl.2.1]at this;cases this
   have a8:Un (cg X.stack) [] H1 (af H' a (nv a c)) s1.heap h6:=⟨j.keep,j.slot,λb o q n hx=>by rw[aX (λz=>by rw[z,na]at q;cases q)];exact j.free b o q n hx,j.there,
    λb xs q=>by rw[aX (aI (j.tups b xs q) vS)];exact j.tups b xs q,λb o u q=>by rw[aX (aI (j.frzs b o u q) vS)];exact j.frzs b o u q,λb ps q=>by
     obtain⟨a5,z⟩:=j.tbls b ps q;exact⟨a5,by rw[aX (aI z vS)];exact z⟩⟩
   have a3:cf X.prog X.w (af H' a (nv a c)) h6:=λb u q=>by
    by_cases G:b=a
    . subst G;rw[aD]at q;cases q;exact adT ⟨oe,a6,a7⟩
    rw[aX G]at q;exact(a2 b u q).stay (λ_ _ _ z=>z) (λd z=>by rw[aX (aI z vS)];exact z) λd xs z=>by rw[aX (aI z vS)];exact z
   have J6:Inv X ad σ1 (af H' a (nv a c)) { s' with heap:=h6 }:=J.call' (ch:=[]) os a8 a3 a1 (λb z=>nomatch z);refine DZ J6 nd hi (Or.inl hl) (v:=.ref a) rfl (λs7 J7=>?_) (.inr hl);refine d6 (hs a ad s7 _ _ _ (J7.exs a) (j0 a vS)) (λf s8 z=>?_) λ_ _ z=>z.elim;cases f with
   | next=>
    obtain⟨σ8,H8,O,Y⟩:=z;exact Bb (O.unexs J7.ok) nd hi hl λs9 U=>⟨_,H8,U,Y⟩
   | brk=>
    obtain⟨σ8,H8,O,Y⟩:=z;exact Bb (O.unexs J7.ok) nd hi hl λs9 U=>⟨_,H8,U,Y⟩
   | cont=>
    obtain⟨σ8,H8,O,Y⟩:=z;exact Bb (O.unexs J7.ok) nd hi hl λs9 U=>⟨_,H8,U,Y⟩
   | ret u=>
    obtain⟨v,σ8,H8,O,r8,Y⟩:=z;exact Bb (O.unexs J7.ok) nd hi hl λs9 U=>⟨v,_,H8,U,r8,Y⟩
 have z:=z.untr;cases f with
 | next=>exact zT z
 | brk=>exact z
 | cont=>exact z
 | ret u=>exact z
end
theorem lZ.okR{K:Fg}{mg:Mv}{base:Heap}{a_:Str}{st:Stmt}{f:Addr}{fd:Fy}{N ps:Ls}{k:Nat}{sp:Sp}(F:lZ K x a_ st f fd)(S:aK N ps (av st))(len:∀vs H Q E,sp vs H Q E->vs.length=ps.length)
 (U:∀(j:Value) (A:Around) (outer:List Env) (s:Shared) (H:Hp) (vs:Lv) (Q:VK) (E:XK),ci k (A.deeper (envOfC a_ (av st) s.heap.objs.size f j))->sp vs H Q E ->
  ∃t,bW (qW P w K mg base N a_ (av st) f j A outer s H E) (gD st) t/\t { nx:=λ_ H'=>Q .non H',rt:=Q } (start N vs) H):au P w K mg base (dU P w) (k+1) f fd ps sp:=by
 obtain⟨oc,od,kV,Y,pm,an,j,ct,jt,rfl,O,G⟩:=F.ex;exact Ew O G S len λA outer s H vs Q E z J=>U j A outer s H vs Q E z J
section
variable {X:Cx}
theorem Fz{H:Hp}{c:Value}(ok:cf P w H h)(e:H a=some (nv a c)):∃o,h.get? a=some o/\o.cls=c:=(ok a _ e).1
theorem aed:ff X (.builtin "isinstance") (λxs H Q=>∃a C D b,xs=[.ref a,.ref D]/\H a=some (nv a (.ref C))/\py X.K C/\kitOne X.K (.ref C) (.ref D)=some b/\Q (.bl b) H):=by
 intro ad s Z H xs us Q I r h;obtain⟨a,C,D,b,rfl,e,O,k,q⟩:=h;obtain⟨u,J,rfl,j,G⟩:=vals2 r;cases (show u=Value.ref a from j);cases (show J=Value.ref D from G);exact kia_one (Fp O.c0) I.kIn (Fz I.hok e) k (by intro z;cases z) λtk=>⟨.bl b,H,I.tok tk,rfl,q⟩
theorem aee:ff X (.builtin "isinstance") (λxs H Q=>∃a C T b,xs=[.ref a,.ty T]/\H a=some (nv a (.ref C))/\py X.K C/\kitOne X.K (.ref C) (.type T)=some b/\Q (.bl b) H):=by
 intro ad s Z H xs us Q I r h;obtain⟨a,C,T,b,rfl,e,O,k,q⟩:=h;obtain⟨u,J,rfl,j,G⟩:=vals2 r;cases (show u=Value.ref a from j);cases (show J=Value.type T from G);exact kia_one (Fp O.c0) I.kIn (Fz I.hok e) k (by intro z;cases z) λtk=>⟨.bl b,H,I.tok tk,rfl,q⟩
theorem uo:∀{Ds:List Addr}{us:Lw},aY (Ds.map V.ref) us->us=Ds.map Value.ref
 | [],_,.nil=>rfl
 | D::Ds,_,.cons r t=>by
  rw[bS,uo t]
  congr 1
theorem Nd:ff X (.builtin "isinstance") (λxs H Q=>∃(a C j:Addr) (Ds:List Addr) (b:Bool),xs=[.ref a,.ref j]/\H a=some (nv a (.ref C))/\H j=some (.tup (Ds.map V.ref))/\py X.K C/\kitAny X.K (.ref C) (Ds.map Value.ref)=some b/\Q (.bl b) H):=by
 intro ad s Z H xs us Q I r h;obtain⟨a,C,j,Ds,b,rfl,e,J,xc,k,q⟩:=h;obtain⟨u,u2,rfl,O,U⟩:=vals2 r;cases (show u=Value.ref a from O);cases (show u2=Value.ref j from U);obtain⟨_,b_,Y,ob,e1,c1,n1,d1⟩:=I.hok j _ J;obtain⟨oc,od,G,jt⟩:=ob;have c1:oc=.type "tuple":=c1;have d1:G=.seq b_.toArray n1:=d1;subst c1 d1;rw[uo Y]at e1;exact kia_tup (Fp xc.c0) I.kIn (Fz I.hok e) e1 k (by intro z;cases z) λtk=>⟨.bl b,H,I.tok tk,rfl,q⟩
def FA(K:Fg)(H:Hp)(p q:ao×V):Prop:=p.1=q.1/\∃d,DV K H p.2 d/\DV K H q.2 d/\W.kqdOk 9 d=true
theorem aef{kvs:List (ao×V)}(nd:(kvs.map (·.1)).Nodup){k:ao}{v:V}(h:(k,v)∈kvs):bc kvs k=some v:=by
 induction kvs with
 | nil=>cases h
 | cons p r j=>
  rw[bS,qo]at nd
  rcases be.mp h with e | h
  . subst e;exact jX rfl
  rw[i7 λe=>nd.1 (by rw[e];exact gw (f:=(·.1)) h)];exact j nd.2 h
end
end
section
open PySem.W
section
variable {X:Cx}
theorem Be{P:Program}{w:World}:lV (dU P w) X (λ_ _ _=>False):=λ_ _ _ _ _ _ _ h=>by
 obtain⟨_,_,_,_,_,_,_,_,_,_,_,_,_,q⟩:=h;exact q.elim
def Nf(K:Fg)(M:Addr)(j:TS)(D:Ends):St->XK:=λZ c _ H=>exmOne K c (.ref M)=some true/\j D Z H
theorem aeg{M:Addr}{x:Str}{body:List Stmt}{b0:Stmt}{ui:List Stmt}{np mq pos:Pos}{tb:(St->XK)->TS}{ts:TS}
 (dR:X.stack=X.env::X.outer) (pA:X.env.frame=some X.env.locals) (hm:X.mg x=some (.ref M)) (hg:Gl X x)
 (U:∀XE pn E,Bc (dU X.prog X.w) (X.tr XE pn) E->bW (X.tr XE pn) body (tb E)) (hs:∀a,bW (X.exs a) (b0::ui) ts) (f8:(x == ("__debug__":Str))=false:=by decide) :
 PS X (.Try body [.ExceptHandler (some (.Name x np)) none (b0::ui) mq] [] [] pos) (λD Z H=>tb (Nf X.K M ts D) D Z H):=by
 intro ad s Z H D I h;refine wpAny_Try_except ?_;refine d6 (U (λe s₁=>wpAny (model X.prog X.w) X.A (noteFrame e X.env) (λ_ s₂=>wpAny (model X.prog X.w) X.A (setFlight e none) (λ_ s₃=>wpAny (model X.prog X.w) X.A (handleBy e X.env [.ExceptHandler (some (.Name x np)) none (b0::ui) mq]) (SP X ad D) X.xe s₃) X.xe s₂) X.xe s₁)
  ad (Nf X.K M ts D) ?_ [] s Z H D (I.tr _) h) (λf Y z=>?_) λ_ _ z=>z
 . intro ps σ1 H1 Y e s' J hx;have J:=J.untr;obtain⟨a,c,H',B,a0,rfl,os,a1,un,hok,na,fl,big,A9,j0⟩:=hx;have fl:Heap.FlyingW B (X.env::X.outer) a c a0 s'.heap:=dR▸fl;have Fu:X.A.frames=some (X.env::X.outer):=dR▸J.ok.frames;have un:Un (cg X.stack) [] H1 H' Y.heap s'.heap:=un;have big:∀b o,s'.heap.get? b=some o->((H' b).isSome=true\/∃o',Y.heap.get? b=some o')->b∉cg X.stack->B.get? b=some o:=big;have J0:=J.call' (ch:=[]) os un hok a1 (λb z=>nomatch z);have nf:∀b o,s'.heap.get? b=some o->b∈cg X.stack->∀vs,o.data≠.fields vs:=λb o e U=>by
    obtain⟨o1,e1,n1⟩:=J0.nofld U;rw[e]at e1;cases e1;exact n1
   refine wpAny_looks_onW Fu pA fl λh4 a2 Fw=>?_;refine wpAny_landsW a2 λh5 uj Fx=>?_;have f5:kS X.stack B H' Y.heap s'.heap h5:=⟨big,uj.1,λb o e U=>(Fw.trans Fx) b o e (nf b o e U)⟩;have J5:Inv X ad σ1 H' { s' with heap:=h5 }:=J.call' (ch:=[]) os (f5.un un (λ_ z=>.inl z) λ_ z=>z) (f5.hok hok J0.stkFree) a1 (λb z=>nomatch z);refine wpAny_handleBy_cons (ard ?_) (by intro q;cases q);refine qG (J5.exs a) hg hm ?_ f8;have LT:Looks (model X.prog X.w) h5 (typeOf (.ref a)) c:=by
    obtain⟨ob,o1,o2⟩:=uj.there;exact o2▸(Looks.ld o1).andThen .now
   refine(exm_one J5.kIn LT A9).here ?_;refine codeAny_handlers_suite ?_;refine lands_againW uj λh6 Bd um=>?_;have f6:=f5.on Bd.1 um nf;have O:Inv X ad σ1 H' { s' with heap:=h6 }:=J.call' (ch:=[]) os (f6.un un (λ_ z=>.inl z) λ_ z=>z) (f6.hok hok J0.stkFree) a1 (λb z=>nomatch z);refine d6 (hs a ad _ _ _ _ (O.exs a) j0) (λf s8 z=>?_) λ_ _ z=>z.elim;cases f with
   | next=>
    obtain⟨σ8,H8,j,G⟩:=z;exact⟨_,H8,j.unexs O.ok,G⟩
   | brk=>
    obtain⟨σ8,H8,j,G⟩:=z;exact⟨_,H8,j.unexs O.ok,G⟩
   | cont=>
    obtain⟨σ8,H8,j,G⟩:=z;exact⟨_,H8,j.unexs O.ok,G⟩
   | ret u=>
    obtain⟨v,σ8,H8,j,r8,G⟩:=z;exact⟨v,_,H8,j.unexs O.ok,r8,G⟩
 have z:=z.untr;cases f with
 | next=>exact zT z
 | brk=>exact z
 | cont=>exact z
 | ret u=>exact z
def aeh(K:Fg):V->V->Hp->VK->Prop:=λx y H Q=>∃d e,DV K H x d/\DV K H y e/\W.kqdOk 9 d=true/\W.kqdOk 9 e=true/\∀b:Bool,(b=true↔d=e)->Q (.bl (!b)) H
theorem aei(K:Fg)(j:X.A.units+64<cLine)(h:X.K=K:=by rfl):cD X (compareOp .NotEq) (aeh K):=h▸AV j
end
end
section
variable {mask ep n:Nat}{α:Type}{w:World}{h':Heap}{a it:Addr}{xs ys:Ls}{s:Shared}{P:Program}{o:Obj}{es:Array (Int×Value)}{os:List (Int×Value)}{a_:Str}
def pC(m:Nat):Prop:=m=7\/m=15\/m=31\/m=63\/m=127\/m=255
def pD(mask:Nat):Nat->Nat->Nat
 | 0,i=>i
 | m+1,i=>pD mask m ((i * 5+1) % (mask+1))
theorem Bf(mask:Nat):∀(m k i:Nat),pD mask (m+k) i=pD mask k (pD mask m i)
 | 0,k,i=>by rw[DB];rfl
 | m+1,k,i=>by
  rw[Nat.succ_add];exact Bf mask m k _
def aej(mask:Nat):Bool:=pD mask (mask+1) 0 == 0 && (List.range (mask+1)).all λj=>(List.range (mask+1)).any λm=>pD mask m 0 == j
theorem aek(h:pC mask):aej mask=true:=by
 rcases h with rfl | rfl | rfl | rfl | rfl | rfl
 . decide +kernel
 . decide +kernel
 . decide +kernel
 . decide +kernel
 . decide +kernel
 decide +kernel
theorem ael{i j:Nat}(h:pC mask)(hi:i<=mask)(U:j<=mask):∃m,m<=mask/\pD mask m i=j:=by
 obtain⟨h0,h1⟩:=wX.mp (aek h);have h0:=eq_of_beq h0;have G:∀z,z<=mask->∃m,m<=mask/\pD mask m 0=z:=λz hz=>by
  obtain⟨m,Y,e⟩:=vt.mp (gW.mp h1 z (vn.mpr (by omega)));exact⟨m,by have:=vn.mp Y;omega,eq_of_beq e⟩
 obtain⟨a,ha,J⟩:=G i hi;obtain⟨b,hb,O⟩:=G j U
 by_cases le:a<=b
 . refine⟨b - a,by omega,?_⟩;rw[<-J,<-Bf,show a+(b - a)=b by omega];exact O
 refine⟨b+(mask+1) - a,by omega,?_⟩;rw[<-J,<-Bf,show a+(b+(mask+1) - a)=(mask+1)+b by omega,Bf,h0];exact O
def jA(mask:Nat):Nat->Nat->Nat->Nat×Nat
 | 0,i,p=>(i,p)
 | m+1,i,p=>jA mask m ((i * 5+1+p / 32) % (mask+1)) (p / 32)
theorem Nh(mask:Nat):∀(m i:Nat),jA mask m i 0=(pD mask m i,0)
 | 0,i=>rfl
 | m+1,i=>by
  show jA mask m ((i * 5+1+0 / 32) % (mask+1)) (0 / 32)=_;rw[Nat.zero_div,JY,Nh mask m];rfl
theorem Ni(mask:Nat):∀(m k i p:Nat),jA mask (m+k) i p=jA mask k (jA mask m i p).1 (jA mask m i p).2
 | 0,k,i,p=>by rw[DB];rfl
 | m+1,k,i,p=>by
  rw[Nat.succ_add];exact Ni mask m k _ _
theorem Nj(mask:Nat):∀(m i p:Nat),(jA mask m i p).2=p / 32 ^ m
 | 0,i,p=>by simp[jA]
 | m+1,i,p=>by
  show(jA mask m _ (p / 32)).2=_;rw[Nj mask m,Nat.div_div_eq_div_mul,Nat.pow_succ,Nat.mul_comm]
theorem Nk(mask:Nat):∀(m i p:Nat),i<=mask->(jA mask m i p).1<=mask
 | 0,i,p,h=>h
 | m+1,i,p,h=>Nk mask m _ _ (Nat.le_of_lt_succ (DE (i * 5+1+p / 32) (Nat.succ_pos mask)))
theorem aem{i p j:Nat}(h:pC mask)(hi:i<=mask)(G:p<2 ^ 64)(z:j<=mask):∃m,m<SetTable.turns mask/\(jA mask m i p).1=j:=by
 have h2:(jA mask 13 i p).2=0:=by
  rw[Nj];exact Nat.div_eq_of_lt (wU G (by decide))
 obtain⟨m,J,e⟩:=ael h (Nk mask 13 i p hi) z;refine⟨13+m,by unfold SetTable.turns;omega,?_⟩;rw[Ni,h2,Nh];exact e
theorem Nl(mask:Nat)(ow:Array (Option Nat)):∀(f i p:Nat),SetTable.layClean.free mask ow f i p=none->∀m,m<f->(ow.getD (jA mask m i p).1 (some 0)).isNone=false
 | 0,i,p,_,m,h=>absurd h (JZ _)
 | f+1,i,p,e,m,h=>by
  unfold SetTable.layClean.free at e;cases j:(List.range (SetTable.runEnd mask i+1 - i)).find? λk=>(ow.getD (i+k) (some 0)).isNone with
  | some k=>rw[j]at e;cases e
  | none=>
   rw[j]at e;cases m with
   | zero=>
    have:=VR.mp j 0 (vn.mpr (by unfold SetTable.runEnd;split<;>omega));rw[JY]at this;cases hz:(ow.getD i (some 0)).isNone with
    | true=>exact absurd hz this
    | false=>exact hz
   | succ m=>exact Nl mask ow f _ _ e m (by omega)
theorem Nm(mask:Nat)(ow:Array (Option Nat)):∀(f i p j:Nat),SetTable.layClean.free mask ow f i p=some j->(ow.getD j (some 0)).isNone=true
 | 0,i,p,j,e=>by cases e
 | f+1,i,p,j,e=>by
  unfold SetTable.layClean.free at e;cases z:(List.range (SetTable.runEnd mask i+1 - i)).find? λk=>(ow.getD (i+k) (some 0)).isNone with
  | some k=>
   rw[z]at e;cases e;exact List.find?_some (p:=λk=>(ow.getD (i+k) (some 0)).isNone) z
  | none=>
   rw[z]at e;exact Nm mask ow f _ _ j e
theorem No:∀{l:List (Option α)}{j:Nat}{x:α},l[j]?=some none->((l.set j (some x)).filterMap id).Perm (x::l.filterMap id)
 | [],j,x,h=>by cases h
 | o::l,0,x,h=>by
  cases h;simp
 | o::l,j+1,x,h=>by
  have z:=No (l:=l) (j:=j) (x:=x) h;rw[List.set_cons_succ];cases o with
  | none=>simpa using z
  | some y=>
   simp only[Dq,id];exact(z.cons y).trans (.swap ..)
structure Lay(mask:Nat)(r:Array (Option Nat)×Nat):Prop where
 size:r.1.size=mask+1
 perm:(r.1.toList.filterMap id).Perm (List.range r.2)
theorem Lay.step(Y:pC mask){r:Array (Option Nat)×Nat}(x:Lay mask r)(hk:r.2<=mask)(h:Int):∃j,SetTable.layClean.free mask r.1 (SetTable.turns mask) (SetTable.bits h % (mask+1)) (SetTable.bits h)=some j/\Lay mask (r.1.setIfInBounds j (some r.2),r.2+1):=by
 obtain⟨ow,k⟩:=r;dsimp only at *;have hz:ow.size=mask+1:=x.size;have U:=x.perm.length_eq;dsimp only at U;rw[J2]at U;cases O:SetTable.layClean.free mask ow (SetTable.turns mask) (SetTable.bits h % (mask+1)) (SetTable.bits h) with
 | none=>
  exfalso;have qC:∀j,j<=mask->(ow.getD j (some 0)).isNone=false:=λj G=>by
   obtain⟨m,h1,h2⟩:=aem Y (i:=SetTable.bits h % (mask+1)) (p:=SetTable.bits h) (Nat.le_of_lt_succ (DE (SetTable.bits h) (Nat.succ_pos mask))) (by
    unfold SetTable.bits;have h1:=Af h (show(0:Int)<2 ^ 64 by decide);have h0:=wY h (show(2 ^ 64:Int)≠0 by decide);omega) G
   have:=Nl mask ow _ _ _ O m h1
   rwa [h2]at this
  have:(ow.toList.filterMap id).length=ow.toList.length:=by
   rw[List.length_filterMap_eq_countP,List.countP_eq_length];intro o ho;obtain⟨j,G,e⟩:=J3.mp ho;rw[fm]at G;have:=qC j (by omega);rw[J4,qr G]at this;rw[<-e,Array.getElem_toList];cases J:ow[j]with
   | none=>rw[J]at this;cases this
   | some y=>rfl
  have e9:ow.toList.length=ow.size:=fm;omega
 | some j=>
  have hs:=Nm mask ow _ _ _ _ O;have G:j<ow.size:=by
   refine Nat.lt_of_not_le λz=>?_;rw[J4,V3 z]at hs;cases hs
  have hn:ow.toList[j]?=some none:=by
   rw[J4,qr G]at hs;rw[sY,qr G];cases J:ow[j]with
   | none=>rfl
   | some y=>rw[J]at hs;cases hs
  refine⟨j,rfl,⟨by simp[hz],?_⟩⟩;dsimp only;rw[Array.toList_setIfInBounds,List.range_succ];exact(No hn).trans ((x.perm.cons k).trans (List.perm_append_singleton k _).symm)
theorem Np(G:pC mask):∀(hs:List Int) (r:Array (Option Nat)×Nat),Lay mask r->r.2+hs.length<=mask+1->∃z,hs.foldl (fun(J:Option (Array (Option Nat)×Nat)) h=>do
 let (owner,k) <-J
 let j <-SetTable.layClean.free mask owner (SetTable.turns mask) (SetTable.bits h % (mask+1)) (SetTable.bits h)
 pure (owner.setIfInBounds j (some k),k+1)) (some r)=some z/\Lay mask z/\z.2=r.2+hs.length
 | [],r,x,_=>⟨r,rfl,x,rfl⟩
 | h::hs,r,x,hl=>by
  rw[cr]at hl;obtain⟨j,e,O⟩:=x.step G (by omega) h;obtain⟨z,e1,x1,e2⟩:=Np G hs _ O (by dsimp only;omega);refine⟨z,?_,x1,by rw[e2,cr];dsimp only;omega⟩;rw[lK,<-e1]
  congr 1
  show(SetTable.layClean.free mask r.1 (SetTable.turns mask) (SetTable.bits h % (mask+1)) (SetTable.bits h)).bind _=_;rw[e];rfl
theorem Nq{f m:Nat}{led plain:Bool}{hs:Array Int}(hm:pC mask)(hl:hs.size<=mask):∃t O,SetTable.laid mask f m led plain hs=some (t,O)/\O.toList.Perm (List.range hs.size)/\t.fits hs.size=true/\t.led=led/\t.plain=plain/\t.mask=mask:=by
 have x0:Lay mask (Array.replicate (mask+1) none,0):=⟨by simp,by simp⟩;obtain⟨r,e,x,e2⟩:=Np hm hs.toList _ x0 (by dsimp only;rw[fm];omega);have Y:SetTable.layClean mask hs=some r.1:=by
  unfold SetTable.layClean;rw[<-Array.foldl_toList,e];rfl
 dsimp only at e2;rw[DB,fm]at e2;have G:((List.range (mask+1)).filterMap λj=>(r.1.getD j none).map (j,·)).map (·.2)=r.1.toList.filterMap id:=by
  have e3:r.1.toList=(List.range (mask+1)).map λj=>r.1.getD j none:=by
   refine List.ext_getElem? λj=>?_;rw[dA,sY]
   by_cases z:j<mask+1
   . rw[List.getElem?_range z,qr (by rw[x.size];exact z),sq,J4,qr (by rw[x.size];exact z)];rfl
   rw[V3 (by rw[x.size];omega),are (by rw[J2];omega)];rfl
  rw[e3,List.filterMap_map,List.map_filterMap]
  congr 1
  funext j
  show Option.map _ (Option.map _ (r.1.getD j none))=r.1.getD j none;cases r.1.getD j none<;>rfl
 have a0:((List.range (mask+1)).filterMap λj=>(r.1.getD j none).map (j,·)).length=hs.size:=by
  have:=fc List.length G;rw[al,x.perm.length_eq,J2,e2]at this;exact this
 unfold SetTable.laid;rw[Y];refine⟨_,_,rfl,?_,?_,rfl,rfl,rfl⟩
 . show(((List.range (mask+1)).filterMap λj=>(r.1.getD j none).map (j,·)).map (·.2)).Perm _;rw[G,<-e2];exact x.perm
 unfold SetTable.fits SetTable.fill;have J:((((List.range (mask+1)).filterMap λj=>(r.1.getD j none).map (j,·)).map (·.1)).toArray).size=hs.size:=by
  rw[fY,al];exact a0
 have U:(#[]:Array Nat).size=0:=rfl;rw[iH];refine⟨jP.mpr J,bL ?_⟩;show _+(#[]:Array Nat).size<=mask;rw[U,JY];exact bX (vp J) hl
def fH(w:World):Bool:=w.params.followText "set-order"
def ip(e:Int×Value):Str:=match e.2 with
 | .str y _=>y
 | _=>Str.ofString ""
def nw(w:World)(e:Int×Value):Prop:=∃y tk,e=(lO w (.inr y),Value.str y tk)
structure eX(w:World)(o:Obj)(es:Array (Int×Value))(ep:Nat)(t:SetTable)(xs:Ls):Prop where
 ex:o.ExactSet
 dat:o.data=.set es ep t
 good:∀e∈es.toList,nw w e
 perm:(es.toList.map ip).Perm xs
 nd:xs.Nodup
 len:xs.length<=1000
 fit:t.fits es.size=true
 led:t.led = !fH w
 pl:es.size≠0->t.plain=false
 msk:es.size=0->pC t.mask
def cQ(w:World)(h:Heap)(a:Addr)(xs:Ls):Prop:=∃o es ep t,h.get? a=some o/\eX w o es ep t xs
theorem cQ.at'{h:Heap}(x:cQ w h a xs)(k:∀o,h.get? a=some o->h'.get? a=some o):cQ w h' a xs:=
 x.elim λo j=>j.elim λes z=>z.elim λep G=>G.elim λt J=>J.elim λe r=>⟨o,es,ep,t,k o e,r⟩
theorem cQ.typeIs(x:cQ w s.heap a xs):s.TypeIs (.ref a) "set":=x.elim λo j=>j.elim λ_ z=>z.elim λ_ G=>G.elim λ_ J=>J.elim λe r=>⟨o,e,r.ex.1⟩
section
variable {t:SetTable}
theorem eX.elems(x:eX w o es ep t xs):ElemsOf (cx P w) es.toList:=λe j=>by
 obtain⟨y,tk,rfl⟩:=x.good e j;exact⟨⟨.inr y,tq P w y tk,rfl⟩,rfl⟩
theorem eX.size(x:eX w o es ep t xs):es.size=xs.length:=by
 have:=x.perm.length_eq;rw[al,fm]at this;exact this
theorem eX.bnd(x:eX w o es ep t xs):es.size<scanBound:=by
 rw[x.size];have:=x.len;show _<4096;omega
theorem Nr{y:Str}{e:Int×Value}(g:nw w e):(cx P w).is (.inr y) e.2=true↔ip e=y:=by
 obtain⟨z,tk,rfl⟩:=g;constructor
 . intro h;have:=(cx P w).inj _ _ _ h (tq P w z tk);injection this with this
   exact this.symm
 intro h;rw[<-h];exact tq P w z tk
theorem eX.find_some(x:eX w o es ep t xs){y:Str}{j:Nat}(h:List.findIdx? (λe=>(cx P w).is (.inr y) e.2) es.toList=some j):y∈xs:=by
 obtain⟨G,J,_⟩:=List.findIdx?_eq_some_iff_getElem.mp h;have z:=DF G;exact x.perm.mem_iff.mp (cC.mpr ⟨_,z,(Nr (x.good _ z)).mp J⟩)
theorem eX.find_none(x:eX w o es ep t xs){y:Str}(h:List.findIdx? (λe=>(cx P w).is (.inr y) e.2) es.toList=none):y∉xs:=λG=>by
 obtain⟨e,j,z⟩:=cC.mp (x.perm.mem_iff.mpr G);have:=List.findIdx?_eq_none_iff.mp h e j;rw[(Nr (x.good _ j)).mpr z]at this;cases this
end
theorem aev(t:SetTable)(es:Array (Int×Value))(h:Int)(x:Value):(layNew t es h x).2.1.led=t.led:=by
 unfold layNew;split
 . dsimp only;unfold SetTable.orStandIn;split<;>rfl
 rfl
theorem aew{f m:Nat}{led plain:Bool}{hs:Array Int}{r:SetTable×Array Nat}(e:SetTable.laid mask f m led plain hs=some r):r.1.led=led/\r.1.plain=plain/\r.1.mask=mask/\r.1.dummies = #[]:=by
 unfold SetTable.laid at e;cases j:SetTable.layClean mask hs with
 | none=>rw[j]at e;cases e
 | some ow=>
  rw[j]at e;cases e;exact⟨rfl,rfl,rfl,rfl⟩
theorem aex(t:SetTable)(es:Array (Int×Value))(n:Nat):(relayAll t es n).2.1.led=t.led/\(t.plain=false->(relayAll t es n).2.1.plain=false):=by
 unfold relayAll;split
 . rename_i t' j e;dsimp only;split
   . obtain⟨h1,h2,_⟩:=aew e;exact⟨h1,λz=>h2.trans z⟩
   exact⟨rfl,λ_=>rfl⟩
 exact⟨rfl,λ_=>rfl⟩
def iN(xs:Ls)(y:Str):Ls:=if y∈xs then xs else xs++[y]
theorem Nu{y:Str}(h:xs.Nodup):(iN xs y).Nodup:=by
 unfold iN;split
 . exact h
 rename_i z;rw[sV];exact⟨h,by simp,λa j b G=>by rw[bF.mp G];exact λq=>z (q▸j)⟩
theorem FC{y z:Str}:z∈iN xs y↔z∈xs\/z=y:=by
 unfold iN;split
 . rename_i h;exact⟨.inl,λq=>q.elim id λq=>q▸h⟩
 simp
theorem Bg(xs:Ls)(y:Str):(iN xs y).length<=xs.length+1:=by
 unfold iN;split
 . omega
 simp
section
variable {prog:Program}{A:Around}{E:VP}
theorem eX.store{h:Heap}{es':Array (Int×Value)}{t t':SetTable}(j:h.get? a=some o)(x:o.ExactSet)(d:o.data=.set es ep t):(h.update a (Obj.putSet es' t')).get? a=some { o with data:=.set es' (ep+1) t' }:=by
 have q:=Ad (Obj.putSet es' t') j (by rw[putSet_of es' t' d];rfl)
 rwa [putSet_of es' t' d]at q
theorem Nv{g:Bool->Sem Unit}(hg:∀(b:Bool) (s₁:Shared) (Q':Unit->Shared->Prop),Q' () s₁->wpAny (model prog w) A (g b) Q' E s₁){j:Array (Int×Value)}{t t2:SetTable}{wd:Bool}{R:Option Bool->Shared->Prop}
 (ho:s.heap.get? a=some o) (O:o.ExactSet) (hd:o.data=.set es ep t) (gd:∀e∈j.toList,nw w e) (pm:(j.toList.map ip).Perm ys) (nd:ys.Nodup) (ln:ys.length<=1000) (hf:t2.fits j.size=true) (ld:t2.led = !fH w) (pl:t2.plain=false) (ne:j.size≠0)
 (h:∀h',Heap.SameBut a s.heap h'->cQ w h' a ys->R (some true) { s with heap:=h' }) :
 wpAny (model prog w) A (do { storeSet a j t2;if (!wd && t2.tooFull)=true then do { g (relayAll t2 j (SetTable.grown j.size)).2.2;storeSet a (relayAll t2 j (SetTable.grown j.size)).1 (relayAll t2 j (SetTable.grown j.size)).2.1;pure (some true) } else pure (some true) }) R E s:=by
 have sz:j.size=ys.length:=by have:=pm.length_eq;rw[al,fm]at this;exact this
 have b1:j.size<scanBound:=by rw[sz];show _<4096;omega
 refine ae (Ag ho hd ?_ (wZ b1));have Y:=eX.store (es':=j) (t':=t2) ho O hd;have sb:=lJ s.heap a (Obj.putSet j t2);split
 . have G:=relayAll_perm t2 j (SetTable.grown j.size);have pA:=relayAll_fits t2 j (SetTable.grown j.size);have J:=aex t2 j (SetTable.grown j.size);generalize hR:relayAll t2 j (SetTable.grown j.size)=Rl at G pA J ⊢;obtain⟨U,t3,g2⟩:=Rl;dsimp only at G pA J ⊢;have Nw:U.size=j.size:=by rw[<-fm,G.length_eq,fm]
   refine ae (hg _ _ _ (ae (Ag Y rfl ?_ (wZ (by rw[Nw];exact b1)))));have o2:=eX.store (es':=U) (t':=t3) Y O rfl;exact aq (h _ (sb.trans (lJ _ a _)) ⟨_,U,_,t3,o2,O,rfl,λe he=>gd e (G.mem_iff.mp he),(G.map ip).trans pm,nd,ln,pA,J.1.trans ld,λ_=>J.2 pl,λz=>absurd (Nw.symm.trans z) ne⟩)
 exact aq (h _ sb ⟨_,j,_,t2,Y,O,rfl,gd,pm,nd,ln,hf,ld,λ_=>pl,λz=>absurd z ne⟩)
theorem FE{y:Str}{tk:Tok}{Q:Bool->Shared->Prop}(hS:cQ w s.heap a xs)(hl:xs.length<1000)(h:∀b h',Heap.SameBut a s.heap h'->cQ w h' a (iN xs y)->Q b { s with heap:=h' }) :
 wpAny (model prog w) A (setAddHashed a (.str y tk) (lO w (.inr y))) Q E s:=by
 obtain⟨o,es,ep,t,O,x⟩:=hS;have el:ElemsOf (cx prog w) es.toList:=x.elems;unfold setAddHashed setAddHashedIn;refine jo (ae (iI O x.dat x.fit ?_));dsimp only;rw[byScan_of (x:=.str y tk) rfl x.bnd el];simp only[↓reduceIte];unfold setAddByScan;refine ae (ae (oF (ae (wpAny_setScan_of (knd:=cx prog w) (k:=.inr y) (tq prog w y tk) O x.dat x.fit el ?_))));cases hr:List.findIdx? (λe=>(cx prog w).is (.inr y) e.2) es.toList with
 | some j=>
  dsimp only;refine aq (aq ?_);have hy:=x.find_some hr;exact h false s.heap (DI a s.heap) (by unfold iN;rw[aj hy];exact⟨o,es,ep,t,O,x⟩)
 | none=>
  dsimp only;have hy:=x.find_none hr;have Y:=layNew_perm t es (lO w (.inr y)) (.str y tk);have Bi:=layNew_fits t es (lO w (.inr y)) (.str y tk);have Bj:=aev t es (lO w (.inr y)) (.str y tk);have e0:(cx prog w).hash (.inr y)=lO w (.inr y):=rfl
  try rw[e0]
  generalize hL:layNew t es (lO w (.inr y)) (.str y tk)=L at Y Bi Bj ⊢;obtain⟨dj,t1,wd,a3⟩:=L;dsimp only at Y Bi Bj ⊢;rw[Array.toList_push]at Y;have gd:∀e∈dj.toList,nw w e:=λe he=>by
   rcases b9.mp (Y.mem_iff.mp he) with z | z
   . exact x.good e z
   exact⟨y,tk,bF.mp z⟩
  have ea:iN xs y=xs++[y]:=by unfold iN;rw[ag hy]
  have pm:(dj.toList.map ip).Perm (iN xs y):=by
   rw[ea];refine(Y.map ip).trans ?_;rw[dJ];exact x.perm.append_right _
  have ne:dj.size≠0:=λz=>by
   have:=pm.length_eq;rw[ea,al,fm,z,bH]at this;simp at this
  have ln:(iN xs y).length<=1000:=by have:=Bg xs y;omega
  have a1:∀(b:Bool) {U:Shared}{J:Unit->Shared->Prop},J () U->wpAny (model prog w) A (match b with | true=>rule "set.scan.the-table-gave-way" | false=>pure ()) J E U:=λb U J G=>by
   cases b
   . exact aq G
   exact oF G
  refine ae (a1 _ ?_);have a0:∀h',Heap.SameBut a s.heap h'->cQ w h' a (iN xs y)->wpAny (model prog w) A (pure true:Sem Bool) Q E { s with heap:=h' }:=λh' k z=>aq (h true h' k z);split
  . refine ae ?_;rw[hashByValue_scannable (x:=.str y tk) 8 rfl];refine aq ?_;refine Nv ?_ O x.ex x.dat gd pm (Nu x.nd) ln ?_ ?_ ?_ ne (λh' k z=>a0 h' k z)
    . intro b U J G;cases b
      . exact aq G
      exact oF G
    . exact SetTable.fits_plain_off Bi
    . exact Bj.trans x.led
    rfl
  rename_i a2;refine ae (aq ?_);simp only[↓reduceIte];refine Nv ?_ O x.ex x.dat gd pm (Nu x.nd) ln Bi (Bj.trans x.led) (by simpa using a2) ne (λh' k z=>a0 h' k z);intro b U J G;cases b
  . exact aq G
  exact oF G
end
theorem FF:∀{l:List α}{i:Nat} (h:i<l.length),(l[i]::l.eraseIdx i).Perm l
 | [],i,h=>absurd h (JZ _)
 | x::r,0,h=>.refl _
 | x::r,i+1,h=>by
  have h':i<r.length:=by simpa using h
  show(r[i]::x::r.eraseIdx i).Perm _;exact(List.Perm.swap ..).trans ((FF (l:=r) (i:=i) h').cons x)
theorem Nx(next:Nat->Nat):∀(f k:Nat) (left:List α) (out:Array α),f=left.length->(pickOrder.go next f k left out).toList.Perm (out.toList++left)
 | 0,k,left,out,h=>by
  rw[Ae.mp h.symm];simp[pickOrder.go]
 | f+1,k,left,out,h=>by
  have j:next k % left.length<left.length:=DE _ (by omega);unfold pickOrder.go;rw[gX j];dsimp only;refine(Nx next f (k+1) _ _ (by rw[arf j];omega)).trans ?_;rw[Array.toList_push,jR];exact List.Perm.append_left _ (FF j)
theorem Ny(next:Nat->Nat)(xs:Array α):(pickOrder next xs).toList.Perm xs.toList:=by
 have:=Nx next xs.size 0 xs.toList #[] (by simp);simpa [pickOrder]using this
section
variable {prog:Program}{A:Around}{E:VP}
theorem aeA(j:n≠0){Q:Nat->Shared->Prop}(h:∀i d,i<n->Q i { s with drawn:=d }):wpAny (model prog w) A (choose .order n) Q E s:=λΓ p hΓ=>by
 unfold choose;rw[Sem.wp_choose];refine⟨j,?_⟩;simp only[Sem.wp_pure];exact h _ _ (DE _ (Nat.pos_of_ne_zero j))
theorem Nz:∀(n:Nat) (l:List α) (s:Shared) (Q:List α->Shared->Prop),n=l.length->(∀out d,out.Perm l->Q out { s with drawn:=d })->wpAny (model prog w) A (drawOrder n l) Q E s
 | 0,l,s,Q,hn,h=>by
  have j:=Ae.mp hn.symm;subst j;exact aq (h [] s.drawn .nil)
 | n+1,l,s,Q,hn,h=>by
  cases l with
  | nil=>cases hn
  | cons x r=>
   show wpAny _ _ (choose .order (x::r).length >>= _) _ _ _;refine ae (aeA (by simp) λi d hi=>?_);rw[gX hi];dsimp only;refine ae (Nz n ((x::r).eraseIdx i) _ _ (by rw[arf hi];simp at hn ⊢;omega) λout d2 z=>aq ?_);exact h _ d2 ((z.cons _).trans (FF hi))
end
def iO(h:Heap)(it a:Addr)(ep n:Nat)(f:Value)(i:Nat):Prop:=∃o,h.get? it=some o/\o.cls=.type "set_iterator"/\o.data=.fields #[f,rawInt i,.ref a,rawInt n,rawInt ep]
theorem iO.at'{h:Heap}{i:Nat}{f:Value}(x:iO h it a ep n f i)(k:∀o,h.get? it=some o->h'.get? it=some o):iO h' it a ep n f i:=x.elim λo j=>j.elim λe r=>⟨o,k _ e,r⟩
theorem iO.typeIs{i:Nat}{f:Value}(x:iO s.heap it a ep n f i):s.TypeIs (.ref it) "set_iterator":=x.elim λo j=>j.elim λe z=>z.elim λr _=>⟨o,e,r⟩
inductive Md (w:World) (h:Heap) (I a T:Addr) (es:Array (Int×Value)) (ep:Nat) (t:SetTable) (os:List (Int×Value)) (i:Nat):Prop
 | text (b:fH w=true) (e:os=(pickOrder (w.params.setOrder a ep) es).toList) (x:iO h I a ep es.size (rawInt 0) i)
 | draw (pl:List Nat) (b:fH w=false) (e:os.length=pl.length/\∀(k j:Nat),pl[k]?=some j->os[k]?=es[j]?) (x:iO h I a ep es.size (.ref T) i) (y:∃o n,h.get? T=some o/\o.data=.seq (pl.map λj=>rawInt (j:Nat)).toArray n) (z:I≠T)
 | tab (sl:Nat) (b:fH w=false) (l:es.size<=1) (e:os=es.toList) (x:iO h I a ep es.size (rawInt sl) i) (y:SetTable.below t.place sl=i)
def vT(w:World)(I a T:Addr)(os:List (Int×Value))(i:Nat)(h:Heap):Prop:=∃o es ep t xs,h.get? a=some o/\eX w o es ep t xs/\os.Perm es.toList/\I≠a/\Md w h I a T es ep t os i
section
variable {prog:Program}{A:Around}{E:VP}
theorem FG{i:Nat}{f v:Value}{Q:Unit->Shared->Prop}(x:iO s.heap it a ep n f i)(q:∀h',Heap.SameBut it s.heap h'->iO h' it a ep n v i->Q () { s with heap:=h' }):wpAny (model prog w) A (setField (.ref it) 0 v) Q E s:=by
 obtain⟨o,j,z,hd⟩:=x;exact V4 j hd (by simp) (q _ (lJ ..) ⟨_,Ad _ j (arh (Ka hd _)),(Obj.cls_mapFields ..).trans z,by rw[Ka hd];simp⟩)
theorem FH{i:Nat}{f:Value}{Q:Unit->Shared->Prop}(x:iO s.heap it a ep n f i)(q:∀h',Heap.SameBut it s.heap h'->iO h' it a ep n f (i+1)->Q () { s with heap:=h' }):wpAny (model prog w) A (setField (.ref it) 1 (rawInt ((i:Int)+1))) Q E s:=by
 obtain⟨o,j,z,hd⟩:=x;exact V4 j hd (by simp) (q _ (lJ ..) ⟨_,Ad _ j (arh (Ka hd _)),(Obj.cls_mapFields ..).trans z,by rw[Ka hd];simp[rawInt]⟩)
theorem FI{i:Nat}{f:Value}{R:PySem.Fin->Shared->Prop}{j:VP}(z:A.handled=none)(x:iO s.heap it a ep n f i)
 (q:∀h' e,Heap.ExtBut it s.heap h'->Shared.TypeIs { s with heap:=h' } e "StopIteration"->j e { s with heap:=h' }):wpAny (model prog w) A.in1 (do { setField (.ref it) 2 .none;raiseNew (<-newExc (.type "StopIteration") []) }) R j s:=by
 obtain⟨o,G,J,hd⟩:=x;refine ae (V4 G hd (by simp) ?_);show wpAny _ _ (newExc (.type "StopIteration") [] >>= _) _ _ _;refine ae ?_;simp only[newExc,newTuple];refine ae (Aa ?_ (by size_fits));refine ae (m:=firstArgMember _ _) (wpAny_of_eq (a:=Value.none) (by first | rfl | (simp only[firstArgMember];rfl)) ?_);refine Aa ?_ (by size_fits);simp only[raiseNew];refine ae (wpAny_handled ?_);rw[show A.in1.handled=none from z];refine ae (aq (wpAny_throw ?_));refine q _ _ (((lJ ..).extBut.push _).push _) ?_;exact⟨_,dG _ rfl,rfl⟩
theorem NA(j:Nat):SetTable.below #[j] 0=0/\SetTable.below #[j] (j+1)=1:=by
 constructor
 . simp[SetTable.below,SetTable.below.go]
 simp[SetTable.below,SetTable.below.go]
theorem NC{t:SetTable}{i:Nat}{Q:Option (Value×Nat)->Shared->Prop}(b:fH w=true)(G:s.heap.get? a=some o)(hd:o.data=.set es ep t)(z:t.fits es.size=true)
 (q:Q (((pickOrder (w.params.setOrder a ep) es)[i]?).map λe=>(e.2,0)) s):wpAny (model prog w) A (setNext a 0 i ep) Q E s:=by
 have j:w.params.followText "set-order"=true:=b;unfold setNext;refine ae (iI G hd z ?_);refine ae (m:=setsByText) (ae (qv (aq ?_)));show wpAny _ _ (if w.params.followText "set-order"=true then _ else _) _ _ s;rw[aj j,ag (show ¬((ep != ep)=true) by simp)];refine ae ?_;unfold setWalk;refine ae (iI G hd z ?_);refine ae (m:=setsByText) (ae (qv (aq ?_)));show wpAny _ _ (if w.params.followText "set-order"=true then _ else _) _ _ s;rw[aj j];exact ae (qv (aq (aq q)))
theorem ND{t:SetTable}{sl i:Nat}{Q:Option (Value×Nat)->Shared->Prop}(b:fH w=false)(O:s.heap.get? a=some o)(hd:o.data=.set es ep t)(G:t.fits es.size=true)(J:t.led = !fH w)(l:es.size<=1)
 (q:Q (match es[SetTable.below t.place sl]?,t.place[SetTable.below t.place sl]? with | some (_,x),some j=>some (x,j+1) | _,_=>none) s):wpAny (model prog w) A (setNext a sl i ep) Q E s:=by
 have z:w.params.followText "set-order"=false:=b;unfold setNext;refine ae (iI O hd G ?_);refine ae (m:=setsByText) (ae (qv (aq ?_)));show wpAny _ _ (if w.params.followText "set-order"=true then _ else _) _ _ s;rw[ag (by rw[z];exact cV)];show wpAny _ _ (if (!t.plain && decide (es.size > 1))=true then _ else _) _ _ s;rw[ag (by rw[cq (by omega),vq];exact cV)];show wpAny _ _ ((if (!t.led && !es.isEmpty)=true then _ else _) >>= _) _ _ s;rw[ag (by rw[J,b];exact cV)];exact ae (aq (aq q))
theorem vU{n i:Nat}{f:Value}{t:SetTable}{Q:Option Value->Shared->Prop}(x:iO s.heap it a ep es.size f i)(O:s.heap.get? a=some o)(hd:o.data=.set es ep t)(J:t.fits es.size=true)
 {E1:VP}
 (q:wpAny (model prog w) A.in1 (if let .int slot _:=f then
  (do
   match <-setNext a slot.toNat i ep with
   | some (x,next)=>setField (.ref it) 0 (rawInt next);setField (.ref it) 1 (rawInt ((i:Int)+1));ret x
   | none=>setField (.ref it) 2 .none;raiseNew (<-newExc (.type "StopIteration") []))
  else(do
   let some places <-seqItems? f | unsupported "internal:set_iterator"
   match places[i]? with
   | some (.int place _)=>let x <-setNextDrawn a place.toNat ep;setField (.ref it) 1 (rawInt ((i:Int)+1));ret x
   | some _=>unsupported "internal:set_iterator"
   | none=>setField (.ref it) 0 (rawInt 0);setField (.ref it) 2 .none;raiseNew (<-newExc (.type "StopIteration") [])))
  (λj s'=>∃v,j=.done (.ret v)/\Q (some v) s') (λe s'=>Shared.TypeIs s' e "StopIteration"/\Q none s') s) :
 wpAny (model prog w) A (pyNext (.ref it)) Q E s:=by
 obtain⟨oi,U,Y,G⟩:=id x;unfold pyNext;refine ae (wpAny_attempt (wpAny_callSpecial?_slot (name:=Str.ofString "__next__") x.typeIs A7 (se A7 x.typeIs adv ?_ (ady _))));unfold Builtin.«set_iterator.__next__»;refine ae (aq ?_);refine ae (wpAny_fieldsOf U G ?_);show wpAny _ _ (setEntries a >>= _) _ _ s;unfold setEntries;refine ae (ae (iI O hd J (aq ?_)));dsimp only;rw[ag (by simp)];refine d6 q (λj s' z=>?_) (λe s' z=>?_)
 . obtain⟨v,rfl,z⟩:=z;exact⟨v,rfl,aq z⟩
 exact ae (oG (T:="StopIteration") (b:=true) z.1 isSubtype_stop (aq z.2))
end
section
variable {prog:Program}{A:Around}{E:VP}{I T:Addr}
theorem Md.keep{h:Heap}{t:SetTable}{i:Nat}(x:Md w h I a T es ep t os i)(k:∀b,b=I\/b=T->∀o,h.get? b=some o->h'.get? b=some o):Md w h' I a T es ep t os i:=by
 cases x with
 | text b e x=>exact .text b e (x.at' (k I (.inl rfl)))
 | draw pl b e x y z=>
  obtain⟨o,n,e1,e2⟩:=y;exact .draw pl b e (x.at' (k I (.inl rfl))) ⟨o,n,k T (.inr rfl) o e1,e2⟩ z
 | tab sl b l e x y=>exact .tab sl b l e (x.at' (k I (.inl rfl))) y
theorem aeG{i:Nat}{e:Int×Value}{Q:Option Value->Shared->Prop}(x:vT w I a T os i s.heap)(hi:os[i]?=some e)(q:∀h',Heap.SameBut I s.heap h'->vT w I a T os (i+1) h'->Q (some e.2) { s with heap:=h' }) :
 wpAny (model prog w) A (pyNext (.ref I)) Q E s:=by
 obtain⟨o,es,ep,t,xs,J,X,pm,vV,m⟩:=x;have done:∀h',Heap.SameBut I s.heap h'->Md w h' I a T es ep t os (i+1)->Q (some e.2) { s with heap:=h' }:=λh' k m'=>q h' k ⟨o,es,ep,t,xs,by rw[k.2 a (λz=>vV z.symm)];exact J,X,pm,vV,m'⟩;cases m with
 | text b G x=>
  have vW:(pickOrder (w.params.setOrder a ep) es)[i]?=some e:=by rw[G,sY]at hi;exact hi
  refine vU (E1:=E) (n:=0) x J X.dat X.fit ?_;show wpAny _ _ (setNext a 0 i ep >>= _) _ _ _;refine ae (NC b J X.dat X.fit ?_);rw[vW];refine ae (FG x λh1 k1 x1=>ae (FH (s:={ s with heap:=h1 }) x1 λh2 k2 O=>aq ⟨_,rfl,done h2 (k1.trans k2) (.text b G O)⟩))
 | draw pl b G x y z=>
  obtain⟨oT,nT,hT,U⟩:=y;have Y:i<pl.length:=by
   rw[<-G.1];exact(cN.mp hi).1
  have dL:pl[i]?=some pl[i]:=gX Y;have he:es[pl[i]]?=some e:=(G.2 i _ dL).symm.trans hi;refine vU (E1:=E) (n:=0) x J X.dat X.fit ?_;show wpAny _ _ (seqItems? (.ref T) >>= _) _ _ _;refine ae (wN hT U ?_);have FJ:(pl.map λj=>rawInt (j:Nat)).toArray[i]?=some (rawInt (pl[i]:Nat)):=by simp[Y]
  dsimp only;rw[FJ];show wpAny _ _ (setNextDrawn a pl[i] ep >>= _) _ _ _;refine ae ?_;unfold setNextDrawn;refine ae (iI J X.dat X.fit ?_);dsimp only;rw[ag (show ¬((ep != ep)=true) by simp),he];refine aq ?_;refine ae (FH x λh2 k2 O=>aq ⟨_,rfl,done h2 k2 (.draw pl b G O ⟨oT,nT,by rw[k2.2 T (λq=>z q.symm)];exact hT,U⟩ z)⟩)
 | tab sl b l G x y=>
  have hz:es.size=1/\i=0:=by
   rw[G]at hi;have:=(cN.mp hi).1;rw[fm]at this;omega
  have FK:es[i]?=some e:=by rw[G,sY]at hi;exact hi
  have bM:t.place.size=1:=by
   have:=X.fit;unfold SetTable.fits at this;simp only[iH,jP]at this;omega
  obtain⟨j,hj⟩:∃j,t.place = #[j]:=by
   rcases hp:t.place with⟨l⟩
   rw[hp]at bM
   match l,bM with
   | [j],_=>exact⟨j,rfl⟩
  refine vU (E1:=E) (n:=0) x J X.dat X.fit ?_;show wpAny _ _ (setNext a sl i ep >>= _) _ _ _;refine ae (ND b J X.dat X.fit X.led l ?_);have FL:t.place[i]?=some j:=by rw[hj,hz.2];rfl
  rw[y,FK,FL];refine ae (FG x λh1 k1 x1=>ae (FH (s:={ s with heap:=h1 }) x1 λh2 k2 O=>aq ⟨_,rfl,done h2 (k1.trans k2) (.tab (j+1) b l G O (by rw[hj,(NA j).2,hz.2]))⟩))
theorem aeH{Q:Option Value->Shared->Prop}(O:A.handled=none)(x:vT w I a T os os.length s.heap)(q:∀h',Heap.ExtBut I s.heap h'->Q none { s with heap:=h' }):wpAny (model prog w) A (pyNext (.ref I)) Q E s:=by
 obtain⟨o,es,ep,t,xs,G,X,pm,vV,m⟩:=x;have hn:os.length=es.size:=by rw[pm.length_eq,fm]
 have U:∀h' e,Heap.ExtBut I s.heap h'->Shared.TypeIs { s with heap:=h' } e "StopIteration"->Shared.TypeIs { s with heap:=h' } e "StopIteration"/\Q none { s with heap:=h' }:=λh' e k z=>⟨z,q h' k⟩;cases m with
 | text b J x=>
  refine vU (E1:=E) (n:=0) x G X.dat X.fit ?_;show wpAny _ _ (setNext a 0 os.length ep >>= _) _ _ _;refine ae (NC b G X.dat X.fit ?_);have vW:(pickOrder (w.params.setOrder a ep) es)[os.length]?=none:=by
   have:(pickOrder (w.params.setOrder a ep) es).toList[os.length]?=none:=by rw[<-J];simp
   rwa [sY]at this
  rw[vW];exact FI O x U
 | draw pl b J x y z=>
  obtain⟨oT,nT,hT,Y⟩:=y;refine vU (E1:=E) (n:=0) x G X.dat X.fit ?_;show wpAny _ _ (seqItems? (.ref T) >>= _) _ _ _;refine ae (wN hT Y ?_);have FJ:(pl.map λj=>rawInt (j:Nat)).toArray[os.length]?=none:=by simp[J.1]
  dsimp only;rw[FJ];refine ae (FG x λh1 k1 x1=>?_);refine FI (s:={ s with heap:=h1 }) O x1 λh' e k z=>U h' e (k1.extBut.trans k) z
 | tab sl b l J x y=>
  refine vU (E1:=E) (n:=0) x G X.dat X.fit ?_;show wpAny _ _ (setNext a sl os.length ep >>= _) _ _ _;refine ae (ND b G X.dat X.fit X.led l ?_);have FK:es[os.length]?=none:=by rw[hn];simp
  rw[y,FK];exact FI O x U
theorem aeI(hh:A.handled=none)(I a T:Addr)(os:List (Int×Value)):Walks prog w A I [I,a,T] [I] os.length (λi v=>∃e,os[i]?=some e/\v=e.2) (λi h=>vT w I a T os i h) where
 sub:=λb j=>by simp at j;simp[j]
 frame:=λi h h' st O=>by
  obtain⟨o,es,ep,t,xs,U,X,pm,Y,m⟩:=st;exact⟨o,es,ep,t,xs,O a (by simp) o U,X,pm,Y,m.keep λb j o e=>O b (by rcases j with rfl | rfl<;>simp) o e⟩
 item:=λi s Q E hi st G=>by
  refine aeG st (gX hi) λh' k fN=>?_;exact G _ h' s.toks ⟨_,gX hi,rfl⟩ fN λb o j e=>k.extBut b o (λh=>j (by simp[h])) e
 done:=λs Q E st G=>aeH hh st λh' me=>G h' s.toks λb o j e=>me b o (λh=>j (by simp[h])) e
 self:=λi s Q E st G=>by
  obtain⟨o,es,ep,t,xs,U,X,pm,Y,m⟩:=st;have J:s.TypeIs (.ref I) "set_iterator":=by
   cases m with
   | text b e x=>exact x.typeIs
   | draw pl b e x y z=>exact x.typeIs
   | tab sl b l e x y=>exact x.typeIs
  refine VX J MR (se MR J adw ?_ (adz _));show wpAny _ _ (ret (.ref I)) _ _ s;exact aq ⟨_,rfl,"set_iterator",_,J,A7.lookup,G⟩
theorem NE:∀{pl:List Nat},(∀j∈pl,j<es.size)->(pl.filterMap (es[·]?)).length=pl.length/\∀(k j:Nat),pl[k]?=some j->(pl.filterMap (es[·]?))[k]?=es[j]?
 | [],_=>⟨rfl,λk j h=>by cases h⟩
 | p::r,h=>by
  have J:p<es.size:=h p (by simp);have G:es[p]?=some es[p]:=qr J;obtain⟨h1,h2⟩:=NE (pl:=r) λj O=>h j (bU _ O);rw[List.filterMap_cons_some G];refine⟨by simp[h1],λk j z=>?_⟩;cases k with
  | zero=>cases z;exact G.symm
  | succ k=>exact h2 k j z
theorem aeJ{Q:VP}(x:cQ w s.heap a xs)(hQ:∀I T d h' os,s.heap.objs.size<=I->(∀b o,s.heap.get? b=some o->h'.get? b=some o)->(T=a\/s.heap.objs.size<=T)->vT w I a T os 0 h'->(os.map ip).Perm xs->(∀e∈os,nw w e)->Q (.ref I) { s with heap:=h',drawn:=d }) :
 wpAny (model prog w) A (pyIter (.ref a)) Q E s:=by
 obtain⟨o,es,ep,t,O,X⟩:=id x;have aO:=bG O;refine VX x.typeIs ari (se ari x.typeIs adx ?_ (PySem.F.args_set_iter_1 _));unfold Builtin.«frozenset.__iter__»;refine ae (m:=Builtin.Frozenset.slot0 _ _) (aq ?_);refine ae ?_;unfold Builtin.Frozenset.sizeOf setEntries;refine ae (ae (iI O X.dat X.fit (aq (aq ?_))));refine ae ?_;unfold setDrawn;refine ae (iI O X.dat X.fit ?_);refine ae (m:=setsByText) (ae (qv (aq ?_)));show wpAny _ _ (pure (!fH w && (!t.plain && decide (es.size > 1)))) _ _ _;refine aq ?_;have Y:∀(f:Value) (d:_) (h1:Heap),(∀b o,s.heap.get? b=some o->h1.get? b=some o)->s.heap.objs.size<=h1.objs.size ->
  (∀h',(∀b o,h1.get? b=some o->h'.get? b=some o)->iO h' h1.objs.size a ep es.size f 0->h1.objs.size<h'.objs.size->∃T os,(T=a\/s.heap.objs.size<=T)/\os.Perm es.toList/\Md w h' h1.objs.size a T es ep t os 0) ->
  wpAny (model prog w) A.in1 (setEpoch a >>= λe=>newFields "set_iterator" [f,rawInt 0,.ref a,rawInt es.size,rawInt e] >>= λv=>ret v) (λY s'=>∃v,Y=.done (.ret v)/\∃T r,s'.TypeIs v T/\typeLookup (.type T) "__next__"=pure (some r)/\Q v s') E { s with heap:=h1,drawn:=d }:=by
  intro f d h1 k1 hz hm;refine ae ?_;unfold setEpoch;refine ae (iI (s:={ s with heap:=h1,drawn:=d }) (k1 a o O) X.dat X.fit (aq ?_));refine ae (Aa ?_);have G:iO (h1.push { cls:=.type "set_iterator",data:=.fields #[f,rawInt 0,.ref a,rawInt es.size,rawInt ep] }) h1.objs.size a ep es.size f 0:=⟨_,dG _ rfl,rfl,rfl⟩;obtain⟨T,os,hT,pm,m⟩:=hm _ (λb o e=>cb _ e) G (by rw[sf];exact wS _);refine aq ⟨_,rfl,"set_iterator",_,G.typeIs (s:={ s with heap:=_,drawn:=d }),A7.lookup,?_⟩;refine hQ h1.objs.size T d _ os hz (λb o e=>cb _ (k1 b o e)) hT ⟨o,es,ep,t,xs,cb _ (k1 a o O),X,pm,kz (gt aO hz),m⟩ ((pm.map ip).trans X.perm) λe he=>X.good e (pm.mem_iff.mp he)
 cases hb:(!fH w && (!t.plain && decide (es.size > 1))) with
 | false=>
  rw[ag cV];refine ae (m:=pure (rawInt 0)) (aq ?_);refine Y (rawInt 0) s.drawn s.heap (λb o e=>e) (aG _) λh' k G hl=>?_;cases J:fH w with
  | true=>exact⟨a,_,.inl rfl,Ny _ _,.text J rfl G⟩
  | false=>
   have hs:es.size<=1:=by
    refine Nat.le_of_not_lt λz=>?_;rw[J,X.pl (by omega),bL (by omega:es.size > 1)]at hb;cases hb
   refine⟨a,_,.inl rfl,.refl _,.tab 0 J hs rfl G ?_⟩;have bM:t.place.size=es.size:=by
    have:=X.fit;unfold SetTable.fits at this;simp only[iH,jP]at this;exact this.1
   rcases U:t.place with⟨l⟩
   rw[U]at bM
   match l,bM with
   | [],_=>rfl
   | [j],_=>exact(NA j).1
   | _::_::_,z=>simp at z;omega
 | true=>
  have J:fH w=false:=by cases J:fH w with | false=>rfl | true=>rw[J]at hb;cases hb
  rw[aj rfl];refine ae (Nz es.size (List.range es.size) s _ (by simp) λpl d U=>?_);have hsz:es.size<=sizeLine:=wZ X.bnd;refine ae (wpAny_newTuple ?_ (by rw[al,U.length_eq,J2];exact hsz));have dL:∀j∈pl,j<es.size:=λj hj=>vn.mp (U.mem_iff.mp hj);obtain⟨g1,g2⟩:=NE dL;refine Y (.ref s.heap.objs.size) d (s.heap.push { cls:=.type "tuple",data:=.seq (pl.map fun(i:Nat)=>rawInt i).toArray }) (λb o e=>cb _ e) (by rw[sf];exact qm _) λh' k G hl=>?_;refine⟨s.heap.objs.size,pl.filterMap (es[·]?),.inr (aG _),?_,.draw pl J ⟨g1,g2⟩ G ⟨_,0,k _ _ (dG _ rfl),rfl⟩ (kz (by rw[sf];exact wS _))⟩;exact(U.filterMap _).trans (by rw[arj])
end
theorem FM:∀{os:List (Int×Value)},(∀e∈os,nw w e)->StrsAre (os.map (·.2)) (os.map ip)
 | [],_=>.nil
 | e::r,h=>by
  obtain⟨y,tk,rfl⟩:=h e (by simp);exact .cons y tk (FM λe j=>h e (bU _ j))
section
variable {prog:Program}{A:Around}{E:VP}
theorem aeK{R:Result->Shared->Prop}(hh:A.handled=none)(x:cQ w s.heap a xs)(S:Addr)(O:S≠a)(res:Value)(c₀:Nat)(hS:s.heap.get? S=some { cls:=.type "list",data:=.seq #[] c₀ })
 (hR:∀(h':Heap) (tk:Nat) (d:Drawn) (os:List (Int×Value)) (a0:Av) (c':Nat),(∀b o,b≠S->s.heap.get? b=some o->h'.get? b=some o)->h'.get? S=some { cls:=.type "list",dict:=none,data:=.seq a0 c',slots:=#[] }->a0.toList=os.map (·.2)->(os.map ip).Perm xs->(∀e∈os,nw w e)->R (.ok (.ret res)) { s with heap:=h',toks:=tk,drawn:=d }) (hn:xs.length<=sizeLine) :
 wpAny (model prog w) A.in1 (Builtin.List.listExtendWith (.ref S) (.ref a) res) (λa2 s'=>match a2 with | .done f=>R (.ok f) s' | .again c'=>c'.quiet=true/\codeAny (model prog w) A c' R s') (λe s'=>R (.error e) s') s:=by
 unfold Builtin.List.listExtendWith;refine ae (JX (T:="set") x.typeIs ?_);have h1:Builtin.List.listSameRef (.ref S) (.ref a)=false:=by simp[Builtin.List.listSameRef,O]
 have h2:(Value.type "set" == Value.type "list")=false:=by decide
 have h3:(Value.type "set" == Value.type "tuple")=false:=by decide
 simp only[h1,h2,h3,si,qj,mO];refine ae (aeJ x λI T d hp os hI kp hT st pm gd=>?_);have yd:=bG hS;have ln:os.length=xs.length:=by have:=pm.length_eq;rwa [al]at this
 have a3:S≠T:=λz=>hT.elim (λq=>O (z.trans q)) λq=>absurd (gt (z▸yd) q) (oI _);have ye:S∉[I,a,T]:=by
  simp only[be,fZ,f7,qw];exact⟨cR (gt yd hI),O,a3⟩
 have W:=aeI (prog:=prog) (w:=w) (A:=A.in1) hh I a T os;have a1:∀(h:Heap) (U tk:Nat),vT w I a T os 0 h->(∀b o,b≠S->s.heap.get? b=some o->h.get? b=some o)->h.get? S=some { cls:=.type "list",data:=.seq #[] U } ->
  codeAny (model prog w) A (.builtin "list.extend.loop" ⟨[.ref S,.ref I,res],[]⟩) R { s with heap:=h,toks:=tk,drawn:=d }:=by
  intro h U tk dR hk J;refine codeAny_extend_loopS W.toS (by omega) S ye res os.length 0 _ #[] U rfl (dz _) dR J (ItemsOf.nil _) λs' NF c' hm iL Y=>?_;rw[Moved.eq_with hm];refine hR s'.heap s'.toks d os NF c' (λb o G e=>hm.heap b o (λuq=>?_) (hk b o G e)) iL ?_ pm gd
  . rcases be.mp uq with e' | uq
    . exact G e'
    have aO:=bG e;rw[bF.mp uq]at aO;exact absurd (gt aO hI) (oI _)
  refine List.ext_getElem? λj=>?_;rw[sY,dA]
  by_cases hj:j<os.length
  . have NG:j<NF.size:=by rw[Y.1];exact hj
    obtain⟨e,he,hv⟩:=Y.2 j _ (qr NG);rw[he,qr NG,hv];rfl
  rw[V3 (by rw[Y.1];omega),are (by omega)];rfl
 have J:=kp _ _ hS;refine ae (jo (adB (cQ.typeIs (s:={ s with heap:=hp,drawn:=d }) (x.at' λo e=>kp a o e)) ?_));refine JW (λ_=>?_) (λ_=>aq ⟨sZ ark _,a1 _ c₀ _ st (λb o _ e=>kp b o e) J⟩);refine ae (oF (ae ?_));show wpAny _ _ (updateSeq S (·.push .none) >>= λ_=>updateSeq S (·.pop)) _ _ _;refine ae (DJ (s:={ s with heap:=hp,drawn:=d }) J rfl ?_);have NH:=Ad (Obj.mapSeq (·.push Value.none)) J rfl;refine DJ (hz:=by seq_fits) NH rfl ?_;have a4:=Ad (Obj.mapSeq (·.pop)) NH rfl;refine aq ⟨sZ ark _,a1 _ _ _ (W.frame 0 _ _ st λb G o e=>?_) (λb o G e=>?_) a4⟩
 . have NJ:b≠S:=λh=>ye (h▸G);exact(Dy _ _ (gu NJ)).trans ((Dy _ _ (gu NJ)).trans e)
 exact(Dy _ _ (gu G)).trans ((Dy _ _ (gu G)).trans (kp b o e))
theorem aeN{R:Lw->Shared->Prop}(hh:A.handled=none)(x:cQ w s.heap a xs)
 (h:∀(h':Heap) (tk:Nat) (d:Drawn) (us:Lw) (ys:Ls),(∀b o,s.heap.get? b=some o->h'.get? b=some o)->StrsAre us ys->ys.Perm xs->R us { s with heap:=h',toks:=tk,drawn:=d }) (hn:xs.length<=sizeLine):wpAny (model prog w) A (collect (.ref a)) R E s:=by
 obtain⟨o,_,_,_,ho,_⟩:=id x;have O:=bG ho;unfold collect;refine ae (wpAny_runValue (qt PyProof.Rows.entry_proto_collect' ?_));rw[vv PySem.F.plain_proto_collect _];show wpAny _ A.in1 (newList [] >>= λl=>again (.builtin "list.__iadd__" ⟨[l,.ref a],[]⟩)) _ _ s;refine ae (Aa (aq ⟨sZ arl _,qt PyProof.Rows.entry_list_iadd' ?_⟩));rw[vv arl _];show wpAny _ A.in1 (Builtin.List.listExtendWith (.ref s.heap.objs.size) (.ref a) (.ref s.heap.objs.size)) _ _ _;have a0:=aeK (prog:=prog) (A:=A) (s:={ s with heap:=s.heap.push { cls:=.type "list",data:=.seq ([]:Lw).toArray } })
  (R:=fun(q:Result) (s':Shared)=>∃(h':Heap) (tk:Nat) (d:Drawn) (os:List (Int×Value)) (j:Av) (c':Nat),q=.ok (.ret (.ref s.heap.objs.size))/\s'={ s with heap:=h',toks:=tk,drawn:=d }/\(∀b o,s.heap.get? b=some o->h'.get? b=some o) /\
   h'.get? s.heap.objs.size=some { cls:=.type "list",dict:=none,data:=.seq j c',slots:=#[] }/\j.toList=os.map (·.2)/\(os.map ip).Perm xs/\∀e∈os,nw w e)
  hh (x.at' λo e=>cb _ e) s.heap.objs.size (kz O) (.ref s.heap.objs.size) 0 (dG _ rfl)
  (λh' tk d os j c' G J e1 e2 e3=>⟨h',tk,d,os,j,c',rfl,rfl,λb o e=>G b o (cR (bG e)) (cb _ e),J,e1,e2,e3⟩) hn
 refine d6 a0 (λY s' z=>?_) λe s' z=>?_
 . cases Y with
   | done f=>
    obtain⟨h',tk,d,os,j,c',e,rfl,G,J,e1,e2,e3⟩:=z;cases e;show wpAny _ A (load s.heap.objs.size >>= _) _ _ _;refine ae (wpAny_load (s:={ s with heap:=h',toks:=tk,drawn:=d }) J (aq ?_));exact h h' tk d _ _ G (by rw[e1];exact FM e3) e2
   | again c₁=>
    refine⟨z.1,ql z.2 λq s₂ y=>?_⟩;obtain⟨h',tk,d,os,j,c',rfl,rfl,G,J,e1,e2,e3⟩:=y;show wpAny _ A (load s.heap.objs.size >>= _) _ _ _;refine ae (wpAny_load (s:={ s with heap:=h',toks:=tk,drawn:=d }) J (aq ?_));exact h h' tk d _ _ G (by rw[e1];exact FM e3) e2
 obtain⟨_,_,_,_,_,_,U,_⟩:=z;cases U
theorem aeO{r:Addr}{Q:VP}(U:wpAny (model prog w) A.in1 (collect (.ref r)) (λus s'=>∃(ys:Ls) (h':Heap) (tk:Nat) (d:Drawn),s'={ s with heap:=h',toks:=tk,drawn:=d }/\StrsAre us ys/\us.length<64 /\
 ∀(h2:Heap) (out:Lw) (j:Ls) (e:Nat),(∀b o,h'.get? b=some o->h2.get? b=some o)->h2.get? h'.objs.size=some (seqObj "list" out.toArray e)->StrsAre out j->j.Perm ys->sortedS j=true->Q (.ref h'.objs.size) { s with heap:=h2,toks:=tk,drawn:=d }) E s) :
 wpAny (model prog w) A (call (.builtin "sorted") [.ref r]) Q E s:=by
 refine aq8 kind_sorted plain_sorted entry_sorted (args_sorted1 _) ?_;unfold Builtin.«sorted»;refine ae (m:=checkCount "sorted" 1 1 _) (aq ?_);refine ae (d6 U (λus s' a0=>a0.elim λys a3=>a3.elim λh' a4=>a4.elim λtk a5=>a5.elim λd a6=>a6.elim λes a7=>a7.elim λz a8=>a8.elim λuf a9=>?_) λ_ _ e=>e);subst es;refine ae (VS ?_ (by rw[wR];omega));have G:(h'.push (seqObj "list" us.toArray 0)).get? h'.objs.size=some (seqObj "list" us.toArray 0):=dG _ rfl;show wpAny _ _ _ _ _ { s with heap:=h'.push (seqObj "list" us.toArray 0),toks:=tk,drawn:=d };refine ae (jo (se slot_list_sort ⟨_,G,rfl⟩ entry_list_sort (list_sort_treeK strKind_oneLt G z.keysOf (λv₁ v₂ rest e=>keyKind_strs (by rw[<-e];exact z)) uf λJ Y a2=>⟨_,rfl,?_⟩) (args_list_sort _)));obtain⟨j,h1,h2,h3⟩:=sorted_out_str z Y a2;obtain⟨e,he⟩:=sortedHeap_at (vs:=us) (out:=(arrOf J).map (·.2)) G;refine aq ⟨_,rfl,a9 _ ((arrOf J).map (·.2)).toList j e (λb o q=>?_) (by rw[VT];exact he) h1 h2 h3⟩;have O:=bG q;rw[sortedHeap_old (cR O) (by rw[sf];exact VU O)];exact cb _ q
end
def ny(w:World)(a:Addr)(xs:Ls):HO:=.ext λh=>cQ w h a xs
theorem FP{H:Hp}{h:Heap}(x:cQ w h a xs):bY P w H h a (ny w a xs):=
 ⟨x,x.elim λo j=>j.elim λ_ G=>G.elim λ_ J=>J.elim λ_ O=>O.elim λe _=>⟨o,e⟩,λ_ _ z k=>z.at' k⟩
theorem FQ{H:Hp}{h:Heap}(ok:cf P w H h)(e:H a=some (ny w a xs)):cQ w h a xs:=(show bY P w H h a (ny w a xs) from ok a _ e).1
section
variable {X:Cx}{ad:Po}{Z:List (Option V)} {H:Hp}
theorem Inv.drew{d:Drawn}(I:Inv X ad Z H s):Inv X ad Z H { s with drawn:=d }:=⟨I.ok,I.os,I.bare,I.base,I.loc,I.cell,I.free,I.freeC,I.pin,I.hok,I.len⟩
theorem NK(O:X.calm=true):ff X (.builtin "sorted") (λvs H Q=>∃p xs,vs=[.ref p]/\H p=some (ny X.w p xs)/\xs.length<64/\∀ys,ys.Perm xs->sortedS ys=true->eg H (.lst (ys.map V.str)) Q):=by
 intro ad s Z H xs us Q I r h;obtain⟨p,zs,rfl,e,uf,q⟩:=h;obtain⟨u,rfl,ru⟩:=vals1 r;cases ru;refine aeO (aeN (I.ok.hd O) (FQ I.hok e) (λh' tk d us ys k hs G=>?_) (kM (by omega)));have hl:=G.length_eq;have xJ:=VW hs;have j:Inv X ad Z H { s with heap:=h',toks:=tk,drawn:=d }:=(I.kept (t':=tk) k).drew;refine⟨ys,h',tk,d,rfl,hs,by omega,λh2 out J e' k2 U Y z xV=>?_⟩;have a0:=z.length_eq;exact⟨.ref h'.objs.size,_,MN (s:={ s with drawn:=d }) j k2 U Y (kM (by omega)),rfl,(q J (z.trans G) xV).at _ (j.hok.fresh (aG _))⟩
end
theorem NL{j:Array Nat}(z:j.toList.Perm (List.range es.size)):(j.filterMap (es[·]?)).toList.Perm es.toList:=by
 rw[Array.toList_filterMap];exact(z.filterMap _).trans (by rw[arj])
theorem ae0(h:n<=252):pC (SetTable.sizeAbove n - 1)/\n<=SetTable.sizeAbove n - 1/\SetTable.sizeAbove n<=256:=by
 have hd:(List.range 253).all (λn=>decide ((SetTable.sizeAbove n - 1=7\/SetTable.sizeAbove n - 1=15\/SetTable.sizeAbove n - 1=31\/SetTable.sizeAbove n - 1=63\/SetTable.sizeAbove n - 1=127\/SetTable.sizeAbove n - 1=255)/\n<=SetTable.sizeAbove n - 1/\SetTable.sizeAbove n<=256))=true:=by decide +kernel
 unfold pC;exact cW (gW.mp hd n (vn.mpr (by omega)))
section
variable {prog:Program}{A:Around}{E:VP}
theorem FR:eX w { cls:=.type "set",dict:=none,data:=.set #[] 0 (.fresh 0 0 (!fH w)) } #[] 0 (.fresh 0 0 (!fH w)) []:=
 ⟨⟨rfl,rfl,rfl⟩,rfl,(λe j=>by cases j),.nil,.nil,by decide,rfl,rfl,λh=>absurd rfl h,λ_=>.inl rfl⟩
theorem ae1{t:SetTable}{Q:Unit->Shared->Prop}(G:s.heap.get? a=some o)(X:eX w o es ep t xs)(hn:n<=252)(hx:xs.length<=n)
 (q:∀h' o' es' t',Heap.SameBut a s.heap h'->h'.get? a=some o'->eX w o' es' (ep+1) t' xs->n<=t'.mask->Q () { s with heap:=h' }):wpAny (model prog w) A (setRelay a n) Q E s:=by
 obtain⟨m1,m2,m3⟩:=ae0 hn;unfold setRelay;refine ae (iI G X.dat X.fit ?_);dsimp only;have sl:¬(SetTable.sizeAbove n > sizeLine):=by rw[wR];omega
 rw[ag sl];have hz:=X.size;have hsz:(es.map (·.1)).size=es.size:=Array.size_map;obtain⟨t',J,e,Y,O,hl,dL,U⟩:=Nq (mask:=SetTable.sizeAbove n - 1) (f:=t.finger) (m:=t.movedTo (SetTable.sizeAbove n - 1)) (led:=t.led) (plain:=t.plain) (hs:=es.map (·.1)) m1 (by rw[hsz];omega);rw[hsz]at Y O;have e':t.relaid (es.map (·.1)) n=some (t',J):=e;rw[e'];have pm:=NL Y;have j:(J.filterMap (es[·]?)).size=es.size:=by rw[<-fm,pm.length_eq,fm]
 refine ae ?_;show wpAny _ _ (if ((J.filterMap (es[·]?)).size != es.size)=true then _ else _) _ _ _;rw[ag (by rw[j];simp)];refine aq ?_;dsimp only;refine Ag G X.dat ?_ (by rw[j];exact wZ X.bnd);refine q _ _ _ t' (lJ ..) (eX.store G X.ex X.dat) ⟨X.ex,rfl,λe he=>X.good e (pm.mem_iff.mp he),(pm.map ip).trans X.perm,X.nd,X.len,by rw[j];exact O,hl.trans X.led,λz=>dL.trans (X.pl (by rw[<-j];exact z)),λ_=>by rw[U];exact m1⟩ (by rw[U];exact m2)
theorem NM{Q:Unit->Shared->Prop}(x:cQ w s.heap a xs)(hn:xs.length+n<=126)
 (q:∀h' o' es' U t',Heap.SameBut a s.heap h'->h'.get? a=some o'->eX w o' es' U t' xs->(t'.fill=0->n<=t'.mask)->Q () { s with heap:=h' }):wpAny (model prog w) A (setRoomFor a n) Q E s:=by
 obtain⟨o,es,ep,t,G,X⟩:=x;have j:t.place.size=xs.length:=by
  have:=X.fit;unfold SetTable.fits at this;simp only[iH,jP]at this;rw[this.1,X.size]
 unfold setRoomFor;refine ae (iI G X.dat X.fit ?_);show wpAny _ _ (match t.roomFor n with | some Y=>setRelay a Y | x=>pure PUnit.unit) _ _ _;unfold SetTable.roomFor
 by_cases J:(t.fill+n) * 5 >= t.mask * 3
 . rw[aj J];refine ae1 G X (by rw[j];omega) (by rw[j];omega) λh' o' es' t' k h1 h2 O=>q h' o' es' _ t' k h1 h2 λ_=>by rw[j]at O;omega
 rw[ag J];exact aq (q s.heap o es ep t (DI _ _) G X λz=>by rw[z]at J;omega)
end
section
variable {prog:Program}{A:Around}{E:VP}{f:Addr}
theorem ae2{t:SetTable}{Q:Array (Int×Value)->Shared->Prop}(G:s.heap.get? a=some o)(X:eX w o es ep t xs)(c:fH w=true\/es.size<=1)(q:∀z:Array (Int×Value),z.toList.Perm es.toList->Q z s) :
 wpAny (model prog w) A (setWalk a) Q E s:=by
 unfold setWalk;refine ae (iI G X.dat X.fit ?_);refine ae (m:=setsByText) (ae (qv (aq ?_)));cases j:fH w with
 | true=>
  have j:w.params.followText "set-order"=true:=j;show wpAny _ _ (if w.params.followText "set-order"=true then _ else _) _ _ s;rw[aj j];exact ae (qv (aq (q _ (Ny _ _))))
 | false=>
  have hs:es.size<=1:=by
   rcases c with c | c
   . rw[c]at j;cases j
   exact c
  have j:w.params.followText "set-order"=false:=j;show wpAny _ _ (if w.params.followText "set-order"=true then _ else _) _ _ s;rw[ag (by rw[j];exact cV)];show wpAny _ _ (if (!t.plain && decide (es.size > 1))=true then _ else _) _ _ s;rw[ag (by rw[cq (by omega),vq];exact cV)];show wpAny _ _ ((if (!t.led && decide (es.size > 1))=true then _ else _) >>= _) _ _ s;rw[ag (by rw[cq (by omega),vq];exact cV)];exact ae (aq (aq (q _ (.refl _))))
theorem ae3{G:List Addr}{Q:Bool->Shared->Prop}(h:∀b∈G,∃xs,cQ w s.heap b xs)(q:Q true s):wpAny (model prog w) A (setsQuiet G) Q E s:=by
 unfold setsQuiet;refine ae (vk _ (λrest r s'=>r.1=none/\s'=s/\∀b∈rest,∃xs,cQ w s.heap b xs) _ ?_ ?_ _ _ ⟨rfl,rfl,h⟩)
 . rintro b rest r s' ⟨e1,rfl,U⟩;obtain⟨xs,o,es,ep,t,ho,X⟩:=U b (by simp);unfold setEntries;refine ae (ae (iI ho X.dat X.fit (aq ?_)));refine ae (wpAny_forIn_array' _ (λJ j z=>j.1=none/\z=s'/\∀e∈J,nw w e) _ ?_ ?_ _ _ ⟨rfl,rfl,X.good⟩)
   . rintro e J j z ⟨e3,rfl,O⟩;obtain⟨y,tk,rfl⟩:=O e (by simp);exact aq ⟨rfl,rfl,λe he=>O e (bU _ he)⟩
   rintro⟨j,u2⟩ z ⟨e3,rfl,_⟩;dsimp only at e3;subst e3;exact aq ⟨rfl,rfl,λb Y=>U b (bU _ Y)⟩
 rintro⟨r,u⟩ s' ⟨e1,rfl,_⟩;dsimp only at e1;subst e1;exact aq q
theorem ae4{t:SetTable}{U:Ls}{Q:Array (Int×Value)->Shared->Prop}(J:s.heap.get? a=some o)(X:eX w o es ep t U)(y:cQ w s.heap f xs)(c8:f≠a)
 (q:∀h' (j:Array (Int×Value)),Heap.SameBut f s.heap h'->cQ w h' f xs->j.toList.Perm es.toList->Q j { s with heap:=h' }):wpAny (model prog w) A (setWalkUnseen a [f] (some f)) Q E s:=by
 unfold setWalkUnseen;refine ae (iI J X.dat X.fit ?_);refine ae (m:=setsByText) (ae (qv (aq ?_)));show wpAny _ _ (if (fH w || (t.led && t.plain) || decide (es.size<=1))=true then _ else _) _ _ _
 by_cases c:(fH w || (t.led && t.plain) || decide (es.size<=1))=true
 . rw[aj c];refine ae2 J X ?_ λj pm=>q s.heap j (DI _ _) y pm
   by_cases hz:es.size<=1
   . exact .inr hz
   rw[X.pl (by omega),cq hz,vq,si,si]at c;exact .inl c
 rw[ag c];refine ae (ae3 (λb hb=>?_) ?_)
 . rcases be.mp hb with rfl | hb
   . exact⟨U,o,es,ep,t,J,X⟩
   rw[bF.mp hb];exact⟨xs,y⟩
 show wpAny _ _ (if (!true)=true then _ else _) _ _ _;rw[ag (by decide)];refine ae (oF ?_);obtain⟨of,Y,a0,O,G,F⟩:=id y;show wpAny _ _ (setState f >>= _) _ _ _;refine ae (iI G F.dat F.fit ?_);dsimp only;split
 . refine ae (Ag G F.dat ?_ (wZ F.bnd));refine aq (q _ es (lJ ..) ⟨_,Y,_,_,eX.store G F.ex F.dat,F.ex,rfl,F.good,F.perm,F.nd,F.len,?_,?_,?_,?_⟩ (.refl _))
   . have:=F.fit;cases O;exact this
   . show(O.led && t.led)=_;rw[F.led,X.led,V5]
   . intro z;show(O.plain && t.plain)=false;rw[F.pl z,Dr]
   exact F.msk
 exact aq (q s.heap es (DI _ _) y (.refl _))
theorem NP{a0:Sem Unit}{j:Array (Int×Value)}{t:SetTable}{O:Ls}{Q:Unit->Shared->Prop}(ho:s.heap.get? a=some o)(X:eX w o j ep t O)(y:cQ w s.heap f xs)(U:f≠a)(hz:xs.length+O.length<=126)
 (hE:∀(s':Shared) (Q:Unit->Shared->Prop),s'.heap.get? a=some o->Q () s'->wpAny (model prog w) A a0 Q E s')
 (q:∀h' ys,Heap.SameBut f s.heap h'->cQ w h' f ys->(∀z,z∈ys↔z∈xs\/z∈O)->Q () { s with heap:=h' }):wpAny (model prog w) A (setMerge f a a0) Q E s:=by
 have ze:=X.size;unfold setMerge;rw[ag (by simpa using U)];refine ae (iI ho X.dat X.fit ?_);dsimp only
 by_cases G:j.isEmpty=true
 . rw[aj G];have h0:O=[]:=Ae.mp (by rw[<-ze];simpa using G);exact aq (q s.heap xs (DI _ _) y λz=>by rw[h0];simp)
 rw[ag G];refine ae (NM (n:=j.size) y (by rw[ze];exact hz) λh1 of dj qX t1 k1 e1 F hm=>?_);have nG:h1.get? a=some o:=by rw[k1.2 a (gu U)];exact ho
 refine ae (iI (s:={ s with heap:=h1 }) e1 F.dat F.fit ?_);dsimp only;have bM:t1.place.size=xs.length:=by
  have:=F.fit;unfold SetTable.fits at this;simp only[iH,jP]at this;rw[this.1,F.size]
 have NQ:j.size≠0:=λz=>G (by simpa using z);have M6:t1.fill=0->xs=[]/\dj.size=0:=λz=>by
  unfold SetTable.fill at z;have:xs.length=0:=by omega
  exact⟨Ae.mp this,by rw[F.size,this]⟩
 by_cases Bm:t1.fill=0
 . obtain⟨hx,Fc⟩:=M6 Bm;unfold SetTable.road;rw[ag (by rw[Bm];simp)]
   by_cases hr:(t1.mask == t.mask && t.dummies.isEmpty)=true
   . rw[aj hr];dsimp only;refine Ag e1 F.dat ?_ (wZ X.bnd);refine q _ O (k1.trans (lJ ..)) ⟨_,j,_,_,eX.store e1 F.ex F.dat,F.ex,rfl,X.good,X.perm,X.nd,X.len,?_,?_,?_,λz=>absurd z NQ⟩ λz=>by rw[hx];simp
     . have:=X.fit;cases t;exact this
     . show(t1.led && t.led)=_;rw[F.led,X.led,V5]
     intro z;show(t1.plain && t.plain)=false;rw[X.pl z,vq]
   rw[ag hr];dsimp only;have hsz:(j.map (·.1)).size=j.size:=Array.size_map;obtain⟨t',a1,e,hp,hf,hl,dL,Bn⟩:=Nq (mask:=t1.mask) (f:=t1.finger) (m:=t1.moves) (led:=t1.led && t.led) (plain:=t1.plain && t.plain) (hs:=j.map (·.1)) (F.msk Fc) (by rw[hsz];exact hm Bm);rw[hsz]at hp hf;rw[e];have pm:=NL hp;have Y:(a1.filterMap (j[·]?)).size=j.size:=by rw[<-fm,pm.length_eq,fm]
   refine ae ?_;show wpAny _ _ (if ((a1.filterMap (j[·]?)).size != j.size)=true then _ else _) _ _ _;rw[ag (by rw[Y];simp)];refine aq ?_;dsimp only;refine Ag e1 F.dat ?_ (by rw[Y];exact wZ X.bnd);refine q _ O (k1.trans (lJ ..)) ⟨_,_,_,t',eX.store e1 F.ex F.dat,F.ex,rfl,λe G=>X.good e (pm.mem_iff.mp G),(pm.map ip).trans X.perm,X.nd,X.len,by rw[Y];exact hf,?_,?_,λz=>absurd (Y.symm.trans z) NQ⟩ λz=>by rw[hx];simp
   . rw[hl,F.led,X.led,V5]
   intro z;rw[dL,X.pl (by rw[<-Y];exact z),vq]
 unfold SetTable.road;rw[aj (by simpa using Bm)];dsimp only;refine ae (ae4 (s:={ s with heap:=h1 }) nG X ⟨of,dj,qX,t1,e1,F⟩ U λh2 a2 k2 y2 pm=>?_);have qY:h2.get? a=some o:=by rw[k2.2 a (gu U)];exact nG
 refine ae (wpAny_forIn_array' _ (λrest _ s'=>∃J ys,s'={ s with heap:=J }/\Heap.SameBut f s.heap J/\cQ w J f ys/\(∀e∈rest,nw w e)/\ys.length+rest.length<=252/\∀z,(z∈ys\/z∈rest.map ip)↔(z∈xs\/z∈O)) _ ?_ ?_ _ _ ⟨h2,xs,rfl,k1.trans k2,y2,λe G=>X.good e (pm.mem_iff.mp G),?_,λz=>?_⟩)
 . rintro e rest r s' ⟨J,ys,rfl,k3,y3,hg,hl,uq⟩;obtain⟨z,tk,rfl⟩:=hg e (by simp);have Bo:J.get? a=some o:=by rw[k3.2 a (gu U)];exact ho
   rw[cr]at hl;refine ae (jo (FE (s:={ s with heap:=J }) y3 (by omega) λb h4 k4 y4=>?_));have Bp:h4.get? a=some o:=by rw[k4.2 a (gu U)];exact Bo
   refine ae (hE _ _ Bp ?_);refine ae (iI (s:={ s with heap:=h4 }) Bp X.dat X.fit ?_);dsimp only;rw[ag (by simp)];refine aq ⟨h4,iN ys z,rfl,k3.trans k4,y4,λe G=>hg e (bU _ G),by have:=Bg ys z;omega,λu=>?_⟩;rw[<-uq u,FC,bS,be];have ek:ip (lO w (.inr z),Value.str z tk)=z:=rfl;rw[ek];constructor
   . rintro((p | p) | p)
     . exact .inl p
     . exact .inr (.inl p)
     exact .inr (.inr p)
   rintro(p | p | p)
   . exact .inl (.inl p)
   . exact .inl (.inr p)
   exact .inr p
 . rintro r s' ⟨J,ys,rfl,k3,y3,_,_,uq⟩;exact aq (q J ys k3 y3 λz=>by rw[<-uq z];simp)
 . have e9:j.toList.length=j.size:=fm;have e8:=pm.length_eq;omega
 have:z∈a2.toList.map ip↔z∈O:=((pm.map ip).trans X.perm).mem_iff;rw[this]
end
theorem j6[DecidableEq α]:∀{xs ys:List α},xs.Nodup->(∀z∈xs,z∈ys)->xs.length<=ys.length
 | [],ys,_,_=>dz _
 | x::xs,ys,hn,h=>by
  have j:=h x (by simp);have G:=qo.mp hn;have:=j6 (xs:=xs) (ys:=ys.erase x) G.2 λz hz=>(List.mem_erase_of_ne (λe=>G.1 (by rw[<-e];exact hz))).mpr (h z (bU _ hz));rw[List.length_erase_of_mem j]at this;have J:0<ys.length:=arm j;rw[cr];omega
section
variable {prog:Program}{A:Around}{E:VP}{f:Addr}
theorem FT{v:Value}{Q:Bool->Shared->Prop}(j:s.TypeIs v "set")(q:Q true s):wpAny (model prog w) A (Builtin.Frozenset.isAnySet v) Q E s:=by
 unfold Builtin.Frozenset.isAnySet;show wpAny _ _ (isInstance v (.type "set") >>= _) _ _ _;exact ae (oG (T:="set") (b:=true) j V6 (aq q))
theorem ae5{v:Value}{Q:Bool->Shared->Prop}(j:s.TypeIs v "dict")(q:Q false s):wpAny (model prog w) A (Builtin.Frozenset.isAnySet v) Q E s:=by
 unfold Builtin.Frozenset.isAnySet;show wpAny _ _ (isInstance v (.type "set") >>= _) _ _ _;refine ae (oG (T:="dict") (b:=false) j PySem.F.sub_dict_set ?_);exact oG (T:="dict") (b:=false) j PySem.F.sub_dict_frozenset q
theorem ae6{Q:VP}(h:Q (.ref s.heap.objs.size) { s with heap:=s.heap.push { cls:=.type "set",dict:=none,data:=.set #[] 0 (.fresh 0 0 (!fH w)) } }):wpAny (model prog w) A (newSet (.type "set")) Q E s:=by
 unfold newSet;refine ae (m:=setsByText) (ae (qv (aq ?_)));exact Aa h
theorem ae7{Q:VP}(x:cQ w s.heap a xs)(hz:xs.length<=126)(q:∀h' ys,(∀b o,s.heap.get? b=some o->h'.get? b=some o)->s.heap.objs.size<h'.objs.size->cQ w h' s.heap.objs.size ys->(∀z,z∈ys↔z∈xs)->Q (.ref s.heap.objs.size) { s with heap:=h' }) :
 wpAny (model prog w) A (Builtin.Frozenset.copyOf a) Q E s:=by
 obtain⟨o,es,ep,t,j,X⟩:=id x;have G:=bG j;unfold Builtin.Frozenset.copyOf;refine ae ?_;unfold Builtin.Frozenset.baseOf;refine ae (oG (T:="set") (b:=true) x.typeIs V6 (aq ?_));rw[aj rfl];refine ae (ae6 ?_);refine ae (m:=Builtin.Frozenset.addrOf _) (aq ?_);have U:=cb { cls:=.type "set",dict:=none,data:=.set #[] 0 (.fresh 0 0 (!fH w)) } j;refine ae (NP (s:={ s with heap:=_ }) U X ⟨_,_,_,_,dG _ rfl,FR⟩ (kz G) (by simpa using hz) (λs' Q _ h=>aq h) λh' ys k y O=>aq ?_);refine q h' ys (λb o e=>?_) ?_ y λz=>by rw[O z];simp
 . rw[k.2 b (cR (bG e))];exact cb _ e
 obtain⟨o',_,_,_,J,_⟩:=y;exact bG J
theorem ae8:entryFor table "set.__or__"=some Builtin.«frozenset.__or__»:=JV (id':="frozenset.__or__") (by kernel_rfl) rfl (by decide +kernel) (by kernel_rfl)
theorem ae9{l r:Addr}{Q:VP}(x:cQ w s.heap l xs)(y:cQ w s.heap r ys)(U:l≠r)(hz:xs.length+ys.length<=126)
 (q:∀h' zs,(∀b o,s.heap.get? b=some o->h'.get? b=some o)->cQ w h' s.heap.objs.size zs->(∀z,z∈zs↔z∈xs\/z∈ys)->Q (.ref s.heap.objs.size) { s with heap:=h' }) :
 wpAny (model prog w) A (call (.builtin "set.__or__") [.ref l,.ref r]) (λv s'=>v≠.notImplemented/\Q v s') E s:=by
 refine se PySem.F.slot_set_or x.typeIs ae8 ?_ (PySem.F.args_set_or_2 _ _);unfold Builtin.«frozenset.__or__»;show wpAny _ _ (Builtin.Frozenset.slot1 "__or__" ⟨[.ref l,.ref r],[]⟩ >>= _) _ _ _;refine ae (m:=Builtin.Frozenset.slot1 _ _) (aq ?_);dsimp only;rw[ag cV];dsimp only;refine ae ?_;show wpAny _ _ (Builtin.Frozenset.isAnySet (.ref l) >>= _) _ _ _;refine ae (FT x.typeIs ?_);refine FT y.typeIs ?_;show wpAny _ _ (if (!true)=true then _ else _) _ _ _;rw[ag (by decide)];refine ae (m:=Builtin.Frozenset.addrOf _) (aq ?_);refine ae ?_;show wpAny _ _ (Builtin.Frozenset.copyOf l >>= _) _ _ _;obtain⟨ox,_,_,_,a0,_⟩:=id x;have a2:=bG a0;refine ae (ae7 x (by omega) λh1 zs k1 yg O G=>?_);show wpAny _ _ (if (Value.ref r != Value.ref l)=true then _ else _) _ _ _;rw[aj (by simp[bne];exact λz=>U z.symm)];have J:=y.at' (h':=h1) λo e=>k1 _ o e;obtain⟨o,es,ep,t,j,X⟩:=id J;obtain⟨oy,_,_,_,a1,_⟩:=id y;have Y:=bG a1;have lz:zs.length<=xs.length:=by
  obtain⟨_,_,_,_,_,σ⟩:=O;obtain⟨_,_,_,_,_,X0⟩:=x;exact j6 σ.nd λz hz=>(G z).mp hz
 refine ae (m:=Builtin.Frozenset.addrOf _) (aq (ae (jo ?_)));unfold Builtin.Frozenset.updateFrom;refine ae (FT (s:={ s with heap:=h1 }) J.typeIs ?_);rw[aj rfl];refine ae (m:=Builtin.Frozenset.addrOf _) (aq ?_);refine ae (m:=setEpoch r) (wpAny_setEpoch_of (s:={ s with heap:=h1 }) j X.dat X.fit ?_);refine NP (s:={ s with heap:=h1 }) j X O (kz Y) (by omega) (λs' Q' e q'=>?_) λh2 us k2 u2 m2=>?_
 . unfold Builtin.Frozenset.unchanged;refine ae (wpAny_setEpoch_of e X.dat X.fit ?_);rw[ag (by simp)];exact aq q'
 refine aq (aq ⟨_,rfl,(by intro z;cases z),q h2 us (λb o e=>?_) u2 λz=>by rw[m2 z,G z]⟩);rw[k2.2 b (cR (bG e))];exact k1 b o e
def iq(w:World):Obj:={ cls:=.type "set",dict:=none,data:=.set #[] 0 (.fresh 0 0 (!fH w)) }
theorem afd(v:Value){Q₁:VP}(h:Q₁ (.ref s.heap.objs.size) { s with heap:=s.heap.push (iq w) }):codeAny (model prog w) A (.call (.builtin "set.__new__") ⟨[.type "set",v],[]⟩) (wants Q₁ E) s:=by
 refine codeAny_of_tree ?_;show wpAny _ A.in1 (do { checkBuiltinCall "set.__new__" ⟨[.type "set",v],[]⟩;again (.builtin "set.__new__" ⟨[.type "set",v],[]⟩) }) _ _ s;refine ae (wpAny_of_eq (PySem.F.newCall_set_1 v) (aq ⟨sZ arn _,qt PySem.F.entry_set_new ?_⟩));rw[vv arn _];unfold Builtin.«set.__new__» Builtin.Frozenset.newClass;have j:=V6;obtain⟨z,g,d,tk,os⟩:=s;dsimp only
 wp_walk
 refine qv (aq ?_);dsimp only;simp only[newObj];exact ae (wpAny_alloc (aq (aq h)))
theorem NR{v:Value}{Q:VP}(hq:∀J:Around,J.handled=A.handled->wpAny (model prog w) J (Builtin.Frozenset.updateFrom "set.__init__" s.heap.objs.size v) (λ_ s'=>Q (.ref s.heap.objs.size) s') E { s with heap:=s.heap.push (iq w) }) :
 wpAny (model prog w) A (call (.type "set") [v]) Q E s:=by
 obtain⟨c,tl,a2⟩:=vw.mro;have a3:=vw.made;have a1:=vw.sub;refine Du (codeAny_of_tree ?_);show wpAny _ _ (callAny (.type "set") _) _ _ _;refine aq ⟨Code.quiet_builtin _ (by decide +kernel),qt PySem.F.entry_type_call ?_⟩;rw[Around.under_plain (weight_type_call_type "set" [v] []) rfl];have h1:=vw.notType;have h2:=vw.canCreate;have hct:=PySem.F.typeCall_set_1 v
 repeat (any_goals (first | assumption | wp_step))
 refine ql (afd v (E:=E) (Q₁:=λobj Y=>obj=.ref s.heap.objs.size/\Y={ s with heap:=s.heap.push (iq w) }) ⟨rfl,rfl⟩) λr Y G=>?_;cases r with
 | error e=>exact G
 | ok fl=>
  cases fl with
  | ret obj=>
   obtain⟨rfl,rfl⟩:=G;have O:(s.heap.push (iq w)).get? s.heap.objs.size=some (iq w):=dG _ rfl;have hT:Shared.TypeIs { s with heap:=s.heap.push (iq w) } (.ref s.heap.objs.size) "set":=⟨_,O,rfl⟩;have a6:=vw.init.lookup;have a5:=vw.init.bind (.ref s.heap.objs.size)
   repeat (any_goals (first | assumption | wp_step))
   refine ql (V1 (R:=wants (λr s₂=>r=.none/\Q (.ref s.heap.objs.size) s₂) E) vw.init.plain PySem.F.entry_set_init (check_set_init_1 hT ?_)) λr₂ s₂ j=>?_
   . unfold Builtin.«set.__init__» noKeywords;have U:=hq;generalize a4:Builtin.Frozenset.updateFrom=UF at U ⊢;have iL:(s.heap.push (iq w)).get? s.heap.objs.size=some { cls:=.type "set",dict:=none,data:=.set #[] 0 (.fresh 0 0 (!fH w)) }:=O
     wp_walk
     exact d6 (U _ rfl) (λ_ s' z=>aq ⟨rfl,z⟩) λ_ _ e=>e
   cases r₂ with
   | error e=>exact j
   | ok a0=>
    cases a0 with
    | ret r=>
     obtain⟨rfl,z⟩:=j
     repeat (any_goals (first | assumption | wp_step))
    | _=>exact j.elim
  | _=>exact G.elim
theorem afg{v:Value}{Q:Bool->Shared->Prop}(j:s.TypeIs v "list")(q:Q false s):wpAny (model prog w) A (Builtin.Frozenset.isAnySet v) Q E s:=by
 unfold Builtin.Frozenset.isAnySet;show wpAny _ _ (isInstance v (.type "set") >>= _) _ _ _;refine ae (oG (T:="list") (b:=false) j PySem.F.sub_list_set ?_);exact oG (T:="list") (b:=false) j PySem.F.sub_list_frozenset q
theorem afh{R:Result->Shared->Prop}{I S:Addr}{fp Y:List Addr}{P:Nat->Value->Prop}{St:Nat->Heap->Prop}(W:Walks prog w A.in1 I fp Y n P St)(ye:S∉fp)(hv:∀i v,P i v->∃y tk,ys[i]?=some y/\v=.str y tk)(j:n<=500)(hn:ys.length=n) :
 ∀(k i:Nat) (s:Shared) (xs:Ls),n - i=k->i<=n->St i s.heap->cQ w s.heap S xs->xs.length<=i->(∀h' tk zs,(∀b o,b≠S->b∉Y->s.heap.get? b=some o->h'.get? b=some o)->cQ w h' S zs->(∀z,z∈zs↔z∈xs\/z∈ys.drop i)->R (.ok (.ret .none)) { s with heap:=h',toks:=tk }) ->
  codeAny (model prog w) A (.builtin "set.update.loop" ⟨[.ref S,.ref I],[]⟩) R s:=by
 have NS:S∉Y:=λh=>ye (W.sub _ h);intro k
 induction k with
 | zero=>
  intro i s xs hk hi J U hl O;have jB:i=n:=by omega
  subst jB;refine qt aro ?_;rw[vv V7 _];show wpAny _ A.in1 (pyNext (.ref I) >>= _) _ _ s;refine ae (W.done s _ _ J λh' tk G=>?_);show wpAny _ A.in1 (ret Value.none) _ _ _;exact aq (O h' tk xs (λb o _ j e=>G b o j e) (U.at' λo e=>G S o NS e) λz=>by rw[List.drop_eq_nil_of_le (by omega)];simp)
 | succ k ih=>
  intro i s xs hk hi J U hl O;have aO:i<n:=by omega
  refine qt aro ?_;rw[vv V7 _];show wpAny _ A.in1 (pyNext (.ref I) >>= _) _ _ s;refine ae (W.item i s _ _ aO J λv h1 NT hP yh G=>?_);obtain⟨y,tk,hy,rfl⟩:=hv i v hP;have iL:cQ w h1 S xs:=U.at' λo e=>G S o NS e;show wpAny _ A.in1 (holding [Value.str y tk] (setAdd S (.str y tk)) >>= _) _ _ _;refine ae (jo ?_);unfold setAdd;refine jo (ae ((cx prog w).pyHash (k:=.inr y) (tq prog w y tk) ?_));refine FE (s:={ s with heap:=h1,toks:=NT+1 }) iL (by omega) λb h2 k2 S2=>?_;have ld:=Bg xs y;have hd:ys.drop i=y::ys.drop (i+1):=by
   obtain⟨vW,e⟩:=cN.mp hy;rw[<-e];exact DA vW
  refine aq ⟨sZ V7 _,ih (i+1) { s with heap:=h2,toks:=NT+1 } (iN xs y) (by omega) aO (W.frame _ h1 _ yh λb j o e=>?_) S2 (by omega) λh' nI zs kk σ mem=>?_⟩
  . rw[k2.2 b (λh:b=S=>ye (by rw[<-h];exact j))];exact e
  refine O h' nI zs (λb o j hw e=>kk b o j hw ?_) σ λz=>?_
  . rw[k2.2 b j];exact G b o hw e
  rw[mem z,FC,hd,be];constructor
  . rintro((p | p) | p)
    . exact .inl p
    . exact .inr (.inl p)
    exact .inr (.inr p)
  rintro(p | p | p)
  . exact .inl (.inl p)
  . exact .inl (.inr p)
  exact .inr p
theorem afi{l:Addr}{j:Av}{Q:VP}(hh:A.handled=none)(U:s.heap.IsList l j)(hv:∀(i:Nat) (v:Value),j[i]?=some v->∃y tk,ys[i]?=some y/\v=Value.str y tk)(O:j.size<=500)(hn:ys.length=j.size)
 (q:∀h' tk zs,(∀b o,s.heap.get? b=some o->h'.get? b=some o)->cQ w h' s.heap.objs.size zs->(∀z,z∈zs↔z∈ys)->Q (.ref s.heap.objs.size) { s with heap:=h',toks:=tk }):wpAny (model prog w) A (call (.type "set") [.ref l]) Q E s:=by
 refine NR λJ hA=>?_;have G:(s.heap.push (iq w)).IsList l j:=U.push _;obtain⟨ol,Bq,qZ,nl,a1⟩:=id U;have Y:l<s.heap.objs.size:=bG Bq;unfold Builtin.Frozenset.updateFrom;refine ae (afg (s:={ s with heap:=_ }) G.typeIs ?_);rw[ag cV];refine ae (JX (s:={ s with heap:=_ }) G.typeIs ?_);rw[ag (by decide)];refine ae (JH (s:={ s with heap:=_ }) G ?_);refine ae (wpAny_runValue ?_);have hz:(s.heap.push (iq w)).objs.size=s.heap.objs.size+1:=sf _ _;have a0:l≠(s.heap.push (iq w)).objs.size:=by rw[hz];exact cR (VU Y)
 refine afh (DK (A:=J.in1) (by rw[show J.in1.handled=J.handled from rfl,hA,hh]) _ l a0 j) (S:=s.heap.objs.size) ?_ hv O hn (j.size - 0) 0 _ [] (by omega) (dz _) ⟨⟨_,dG _ rfl,rfl,rfl⟩,G.push _⟩
  ⟨_,_,_,_,cb _ (dG _ rfl),FR⟩ (dz _) λh' tk zs k σ m=>?_
 . simp only[be,fZ,f7,qw];exact⟨by rw[hz];exact cR (wS _),kz Y⟩
 show wpAny _ _ _ _ _ _;refine aq (q h' tk zs (λb o e=>k b o (cR (bG e)) (λO=>?_) (cb _ (cb _ e))) σ λz=>by rw[m z];simp);have:=bG e;rw[bF.mp O,hz]at this;exact absurd (Nat.lt_of_succ_lt this) (oI _)
end
section
variable {prog:Program}{A:Around}{E:VP}
theorem afk{d:Addr}{es:Array DictEntry}{ks:Ls}{Q:VP}(ho:s.heap.get? d=some o)(hc:o.cls=.type "dict")(hd:o.data=.dict es ep)(hm:(d == sysModules)=false)(hn:ks.length=es.size)(hb:ks.length<=63)
 (hk:∀(i:Nat) (e:DictEntry),es[i]?=some e->∃y tk,ks[i]?=some y/\e.key=Value.str y tk/\e.hash=lO w (.inr y))
 (q:∀h' zs,(∀b o,s.heap.get? b=some o->h'.get? b=some o)->cQ w h' s.heap.objs.size zs->(∀z,z∈zs↔z∈ks)->Q (.ref s.heap.objs.size) { s with heap:=h' }):wpAny (model prog w) A (call (.type "set") [.ref d]) Q E s:=by
 refine NR λA' hA=>?_;have aO:=bG ho;have G:=cb (iq w) ho;have Y:Shared.TypeIs { s with heap:=s.heap.push (iq w) } (.ref d) "dict":=⟨_,G,hc⟩;unfold Builtin.Frozenset.updateFrom;refine ae (ae5 Y ?_);rw[ag cV];refine ae (JX Y ?_);rw[aj (by decide)];refine ae (oF ?_);refine ae (m:=Builtin.Frozenset.addrOf _) (aq ?_);rw[hm,ag cV];refine ae (wpAny_dictEpoch (s:={ s with heap:=s.heap.push (iq w) }) G hd ?_);refine ae (JU (s:={ s with heap:=s.heap.push (iq w) }) G hd ?_);have a0:cQ w (s.heap.push (iq w)) s.heap.objs.size []:=⟨_,_,_,_,dG _ rfl,FR⟩;refine ae (NM (s:={ s with heap:=s.heap.push (iq w) }) (n:=es.size) a0 (by rw[<-hn];simpa using bX hb (by decide)) λh1 o1 dj qX t1 k1 e1 X1 _=>?_);have J:d≠s.heap.objs.size:=cR aO;have qY:h1.get? d=some o:=by rw[k1.2 d J];exact G
 refine ae (JU (s:={ s with heap:=h1 }) qY hd ?_);refine ae ?_;rw[Std.Legacy.Range.forIn_eq_forIn_range'];simp only[Std.Legacy.Range.size,Nat.sub_zero,Nat.add_sub_cancel,Nat.div_one];refine vk _ (λrest _ s'=>∃h' i zs,s'={ s with heap:=h' }/\rest=List.range' i (es.size - i)/\i<=es.size/\Heap.SameBut s.heap.objs.size (s.heap.push (iq w)) h'/\cQ w h' s.heap.objs.size zs/\zs.length<=i/\∀z,z∈zs↔z∈ks.take i) _ ?_ ?_ _ _ ⟨h1,0,[],rfl,by simp,dz _,k1,⟨_,_,_,_,e1,X1⟩,aG _,λz=>by simp⟩
 . rintro x rest b s' ⟨h',i,zs,rfl,j,hi,kk,σ,hl,mem⟩;have U:i<es.size:=by
    rcases Nat.lt_or_ge i es.size with h | h
    . exact h
    rw[Nat.sub_eq_zero_of_le h]at j;simp at j
   obtain⟨rfl,FV⟩:x=i/\rest=List.range' (i+1) (es.size - (i+1)):=by
    have e:es.size - i=(es.size - (i+1))+1:=by omega
    rw[e,List.range'_succ]at j;injection j with h1 h2;exact⟨h1,h2⟩
   have O:h'.get? d=some o:=by rw[kk.2 d J];exact G
   refine ae (JU (s:={ s with heap:=h' }) O hd ?_);have hg:es[x]?=some es[x]:=qr U;obtain⟨y,tk,hy,kF,FW⟩:=hk x _ hg;rw[hg];dsimp only;rw[kF,FW];refine ae (jo (FE (s:={ s with heap:=h' }) σ (by omega) λb h2 k2 Z2=>?_));have Bp:h2.get? d=some o:=by rw[k2.2 d J];exact O
   refine ae (wpAny_dictEpoch (s:={ s with heap:=h2 }) Bp hd ?_);rw[ag (by simp)];refine aq ⟨h2,x+1,iN zs y,rfl,FV,U,kk.trans k2,Z2,by have:=Bg zs y;omega,λz=>?_⟩;rw[FC,mem z,ie,hy];simp
 rintro b s' ⟨h',i,zs,rfl,j,hi,kk,σ,hl,mem⟩;have jB:i=es.size:=by
  rcases Nat.lt_or_ge i es.size with h | h
  . have e:es.size - i=(es.size - (i+1))+1:=by omega
    rw[e,List.range'_succ]at j;exact nomatch j
  exact Nat.le_antisymm hi h
 refine aq (q h' zs (λb o e=>?_) σ λz=>by rw[mem z,jB,<-hn,fo]);rw[kk.2 b (cR (bG e))];exact cb _ e
end
def FX(w:World)(H:Hp)(ys:Ls)(Q:VK):Prop:=∀r xs H',H r=none->ac H H'->H' r=some (ny w r xs)->xs.Nodup->(∀z,z∈xs↔z∈ys)->Q (.ref r) H'
theorem cQ.nd{h:Heap}(x:cQ w h a xs):xs.Nodup:=x.elim λ_ j=>j.elim λ_ z=>z.elim λ_ G=>G.elim λ_ J=>J.elim λ_ X=>X.nd
theorem NX{us:Lw}(h:StrsAre us ys):us.length=ys.length/\∀(i:Nat) (v:Value),us[i]?=some v->∃y tk,ys[i]?=some y/\v=Value.str y tk:=by
 induction h with
 | nil=>exact⟨rfl,λi v e=>by cases e⟩
 | cons y t _ j=>
  refine⟨by simp[j.1],λi v e=>?_⟩;cases i with
  | zero=>cases e;exact⟨y,t,rfl,rfl⟩
  | succ i=>exact j.2 i v e
theorem NY:∀{ys:Ls}{us:Lw},aY (ys.map V.str) us->StrsAre us ys
 | [],us,r=>by cases r;exact .nil
 | y::ys,us,r=>by
  cases r with
  | cons a b=>
   obtain⟨t,rfl⟩:=a;exact .cons y t (NY b)
section
variable {X:Cx}
theorem afq(z:X.calm=true):ff X (.type "set") (λvs H Q=>∃p ys,vs=[.ref p]/\aa X.K H p (ys.map V.str)/\ys.length<=500/\FX X.w H ys Q):=by
 intro ad s Z H xs us Q I r h;obtain⟨p,ys,rfl,G,hz,q⟩:=h;obtain⟨u,rfl,O⟩:=vals1 r;cases O;obtain⟨b_,U,J,Y⟩:=I.list G;have hs:=NX (NY U);refine afi (I.ok.hd z) J.isList (ys:=ys) (λi v e=>hs.2 i v (by simpa using e)) (by simp;omega) (by simp[hs.1]) λh' tk zs k σ m=>?_;have j:=I.hok.fresh (aG s.heap.objs.size);exact⟨.ref s.heap.objs.size,_,I.laid (t':=tk) (a:=s.heap.objs.size) (o:=ny X.w s.heap.objs.size zs) k (aG _) (FP σ),rfl,q _ zs _ j (fR j) aD σ.nd m⟩
theorem NZ:ff X (.type "set") (λvs H Q=>∃p kvs ks,vs=[.ref p]/\H p=some (.dK kvs)/\ug kvs ks/\ks.length<=63/\FX X.w H ks Q):=by
 intro ad s Z H xs us Q I r h;obtain⟨p,kvs,ks,rfl,e,U,hz,q⟩:=h;obtain⟨u,rfl,ru⟩:=vals1 r;cases ru;obtain⟨z,hd,vs,a0,dd⟩:=lX I.hok e;obtain⟨o,es,ep,ho,hx,a1,Br,mr,N1⟩:=id dd;have a3:=a0.length;have l1:kvs.length=ks.length:=by have:=fc List.length U;simpa using this
 have l2:es.size=vs.length:=by have:=mr.length;simpa using this
 have hS:StrsAre (es.toList.map (·.key)) ks:=MO (X:=X) U a0 (by rw[al,fm];exact l2) λj v G=>by
  rw[dA]at G;cases J:es.toList[j]? with
  | none=>rw[J]at G;cases G
  | some O=>
   rw[J]at G;cases G;have a2:=(cN.mp J).1;rw[fm]at a2;obtain⟨kv,ue⟩:∃kv,vs[j]?=some kv:=⟨vs[j]'(by omega),gX _⟩;exact⟨kv.1,kv.2,ue,(mr.get? J ue).1⟩
 refine afk (ks:=ks) ho hx.1 a1 hd (by omega) hz (λi O hi=>?_) λh' zs k σ m=>?_
 . obtain⟨y,tk,hy,hk⟩:=(NX hS).2 i O.key (by rw[dA,sY,hi];rfl);obtain⟨k',Y,FW⟩:=Br O (arp hi);refine⟨y,tk,hy,hk,?_⟩;rw[hk]at Y;rw[FW,(cx X.prog X.w).inj _ _ _ Y (tq X.prog X.w y tk)];rfl
 have hn:=I.hok.fresh (aG s.heap.objs.size);exact⟨.ref s.heap.objs.size,_,I.laid (t':=s.toks) (a:=s.heap.objs.size) (o:=ny X.w s.heap.objs.size zs) k (aG _) (FP σ),rfl,q _ zs _ hn (fR hn) aD σ.nd m⟩
theorem aft:cD X (binaryOp .BitOr) (λx y H Q=>∃p q xs ys,x=.ref p/\y=.ref q/\p≠q/\H p=some (ny X.w p xs)/\H q=some (ny X.w q ys)/\xs.length+ys.length<=126/\FX X.w H (xs++ys) Q):=by
 intro ad s Z H x y v u Q I U Y h;obtain⟨p,q,xs,ys,rfl,rfl,J,e1,e2,hz,O⟩:=h;cases U;cases Y;have x1:=FQ I.hok e1;have G:=FQ I.hok e2;refine wpAny_binaryOp_same (op:=.BitOr) (T:="set") x1.typeIs G.typeIs PySem.F.fills_set_or PySem.F.slot_set_or (ae9 x1 G J hz λh' zs k σ m=>?_);have j:=I.hok.fresh (aG s.heap.objs.size);exact⟨.ref s.heap.objs.size,_,I.laid (t':=s.toks) (a:=s.heap.objs.size) (o:=ny X.w s.heap.objs.size zs) k (aG _) (FP σ),rfl,O _ zs _ j (fR j) aD σ.nd λz=>by rw[m z];simp⟩
end
theorem afu{K:Fg}{mg:Mv}{base:Heap}{k:Nat}{q c':Addr}{params:Arguments}{body:Expr}{scope:Scope}{pm ir:Value}{N ps:Ls}{A:Around}{outer:List Env}{H:Hp}{us:Lw}{vs:Lv}{Q:VK}{E:XK}{t:TE}
 (S:aK N ps scope) (z:ci (k+1) A) (j:lU P w K mg base A outer s H) (ho:s.heap.get? q=some (W.kla_obj "<lambda>" a_ params body scope [] pm c' ir)) (U:s.heap.CodeRec (.ref c') a_)
 (Y:bindArgs (W.kla_fn "<lambda>" a_ params body scope [] pm (.ref c') ir) ⟨us,[]⟩=pure (ps.zip us)) (hl:vs.length=ps.length) (r:aY vs us)
 (ht:PE (kG aL P w K mg base N a_ scope q (.ref c') A outer s H E) body t) (hq:t (start N vs) H Q) :
 codeAny (model P w) A (.call (.ref q) ⟨us,[]⟩) (CR aL outer P w H s Q E) s:=by
 have a0:s.heap.NoLimit:=j.mod.nolimit.keeps λb o e=>(j.bs b o e).1;have O:∀y∈ps.zip us,scope.names.lookup y.1=some .local\/(scope.names.lookup y.1=some .cell/\((cellsFrom (s.heap.objs.size+1) scope.names []).lookup y.1).isSome=true):=λ⟨n,v⟩ hy=>by
  rcases S.par n (JM hy).1 with q | q
  . exact .inl q
  exact .inr ⟨q,VB _ _ _ (.inl q)⟩
 refine W.kla_callFunE z.depth ho rfl S.co S.gen rfl U ?_;rw[Y];refine aq ?_;refine aqW S.kind O λenv he G x=>?_;subst he;refine⟨a0.keeps x.toInCall.keep,W.kla_codeExpr ?_⟩;have I:Inv (kG aL P w K mg base N a_ scope q (.ref c') A outer s H E) [] (start N vs) H G:=Lz S z.hd j hl r x;refine d6 (ht [] G (start N vs) H _ I hq) (λu s' hs=>?_) λe s' hs=>hs;obtain⟨v,H',J,rv,q⟩:=hs;exact⟨v,H',J.os,J.bare,J.base,J.hok,rv,q⟩
open PySem.W (tabObj)
def iu(P:Addr)(ps:Av):HO:=.ext λh=>h.get? P=some (tabObj ps)
def yi(c':Addr)(a_:Str):HO:=.ext λh=>h.CodeRec (.ref c') a_
def yj(q c':Addr)(a_:Str)(params:Arguments)(body:Expr)(scope:Scope):HO:=.ext λh=>∃pm ir,h.get? q=some (W.kla_obj "<lambda>" a_ params body scope [] pm c' ir)
def aE(H:Hp)(P:Addr)(pos:Pos)(a_:Str):Prop:=H P=some (iu P #[])\/∃c',H P=some (iu P #[rawInt pos.line,rawInt pos.col,.ref c'])/\H c'=some (yi c' a_)
def N3(P:Addr)(a_:Str)(params:Arguments)(body:Expr)(scope:Scope)(pos:Pos):TE:=λZ H Q=>aE H P pos a_/\∀q c' H',H q=none->H' P≠none->(∀b o,H b=some o->b≠P->H' b=some o)->aE H' P pos a_->H' c'=some (yi c' a_)->H' q=some (yj q c' a_ params body scope)->Q (.ref q) H'
theorem yk{j:Program}{H:Hp}{h:Heap}{p:Heap->Prop}(e:h.get? a=some o)(G:p h)(z:∀h1 h2:Heap,p h1->(∀o,h1.get? a=some o->h2.get? a=some o)->p h2):bY j w H h a (.ext p):=⟨G,⟨_,e⟩,z⟩
theorem afv{c':Addr}{h1 h2:Heap}(h:h1.CodeRec (.ref c') a_)(k:∀o,h1.get? c'=some o->h2.get? c'=some o):h2.CodeRec (.ref c') a_:=by
 obtain⟨c,oc,vs,t,e,G,j,z⟩:=h;cases e;exact⟨c',oc,vs,t,rfl,k _ G,j,z⟩
section
variable {X:Cx}{c P:Addr}{params:Arguments}{body:Expr}{scope:Scope}{pos:Pos}
theorem afw(Bs:X.env.code=.ref c)(hd:W.codeHdIn X.K c P=true)(hb:X.base.BuiltinsAt X.mg P)(hq:X.env.qual ++ "<lambda>"=a_:=by rfl)(Bt:X.env.globals=mainGlobals:=by rfl)(qZ:closureFor scope X.env=pure []:=by rfl)(FZ:defaultsOf params X.env=([],[]):=by rfl) :
 PE X (.Lambda params body scope pos) (N3 P a_ params body scope pos):=by
 intro ad s Z H Q I h;obtain⟨tb,q⟩:=h;subst hq;refine W.kla_eval FZ ?_;have hg:s.heap.Ns mainGlobals X.mg:=I.mod.glob.keeps I.bk;obtain⟨bm,ob,b1,b2,b3,b4,b5,b6⟩:=hb;have kW:s.heap.BuiltinsAt X.mg P:=⟨bm,ob,b1,b2,b3,b4,I.bk _ _ b5,b6⟩;have C:=W.codeHd_of_K I.kIn hd;have a5:∀ps,s.heap.get? P=some (tabObj ps)->mainGlobals≠P:=λps e z=>by
  obtain⟨o,es,ep,e',d',_⟩:=hg;rw[z,e]at e';cases e';cases d'
 have Y:∀b o,s.heap.get? b=some o->b<s.heap.objs.size:=λb o e=>bG e
 rcases tb with e | ⟨c',e1,e2⟩
 . have O:s.heap.get? P=some (tabObj #[]):=(show bY X.prog X.w H s.heap P (iu P #[]) from I.hok P _ e).1;refine W.kla_makeFunction qZ Bt hg Bs C O trivial rfl (a5 _ O) kW λc' ir h' tk hx G hl N5 F0=>?_;have I1:Inv X ad Z (af H P (iu P (#[] ++ #[rawInt pos.line,rawInt pos.col,.ref c']))) { s with heap:=h',toks:=tk }:=
    I.write (x:=P) (e:=P) (by rw[e];exact True.intro) (.inl rfl) (λb u hb e=>hx b u hb e) ⟨_,F0⟩ (yk F0 F0 λh1 h2 a k=>k _ a)
   have nc:H c'=none:=I.hok.fresh G;have cP:c'≠P:=λz=>absurd (Y _ _ O) (Kb.mpr (z▸G));have a6:af H P (iu P (#[] ++ #[rawInt pos.line,rawInt pos.col,.ref c'])) c'=none:=by rw[aX cP];exact nc
   have a4:=N5;obtain⟨c2,oc,vs,t,ec,oN,ut,a7⟩:=a4;cases ec;have I2:=I1.track (o:=yi c' (X.env.qual ++ "<lambda>")) a6 (bX I.sz G) (kz (gt I.lt G)) (λx cc ex z=>by
    obtain⟨v,oo,hv,_⟩:=I.cell x cc ex;exact absurd (Y _ _ hv) (Kb.mpr (z▸G))) (λp hp z=>absurd (Y _ _ (I.pin p hp).1) (Kb.mpr (z▸G))) (yk oN N5 λh1 h2 a k=>afv a k)
   have U:(h'.push (W.kla_obj "<lambda>" (X.env.qual ++ "<lambda>") params body scope [] ((X.mg "__name__").getD .none) c' ir)).get? h'.objs.size=some (W.kla_obj "<lambda>" (X.env.qual ++ "<lambda>") params body scope [] ((X.mg "__name__").getD .none) c' ir):=dG _ rfl;have I3:=I2.laid (t':=tk) (h':=h'.push (W.kla_obj "<lambda>" (X.env.qual ++ "<lambda>") params body scope [] ((X.mg "__name__").getD .none) c' ir)) (a:=h'.objs.size) (o:=yj h'.objs.size c' (X.env.qual ++ "<lambda>") params body scope)
    (λb u e=>cb _ e) (aG _) (yk U ⟨_,_,U⟩ λh1 h2 a0 k=>a0.elim λpm a1=>a1.elim λcv a=>⟨pm,cv,k _ a⟩)
   have hsz:s.heap.objs.size<=h'.objs.size:=bX G (vo hl);have j:H h'.objs.size=none:=I.hok.fresh hsz;have qP:h'.objs.size≠P:=λz=>absurd (Y _ _ O) (Kb.mpr (z▸hsz));have qc:h'.objs.size≠c':=(cR hl).symm;refine⟨.ref h'.objs.size,_,I3,rfl,q _ c' _ j ?_ (λb o J nb=>?_) (.inr ⟨c',?_,?_⟩) ?_ aD⟩
   . rw[aX qP.symm,aX cP.symm,aD];exact λz=>nomatch z
   . rw[aX (aI J j),aX (aI J nc),aX nb];exact J
   . rw[aX qP.symm,aX cP.symm,aD];rfl
   . rw[aX qc.symm,aD]
   rw[aX qc.symm,aD]
 have O:s.heap.get? P=some (tabObj #[rawInt pos.line,rawInt pos.col,.ref c']):=(show bY X.prog X.w H s.heap P (iu P _) from I.hok P _ e1).1;have hf:codeAmong pos (#[rawInt pos.line,rawInt pos.col,.ref c']:Av).toList=some (.ref c'):=by
  show(if ((pos.line:Int) == pos.line && (pos.col:Int) == pos.col)=true then _ else _)=_;rw[aj (by simp)]
 refine W.kla_makeFunctionHit qZ Bt hg Bs C O trivial hf kW λir h' tk hk hsz=>?_;have U:(h'.push (W.kla_obj "<lambda>" (X.env.qual ++ "<lambda>") params body scope [] ((X.mg "__name__").getD .none) c' ir)).get? h'.objs.size=some (W.kla_obj "<lambda>" (X.env.qual ++ "<lambda>") params body scope [] ((X.mg "__name__").getD .none) c' ir):=dG _ rfl;have I3:=I.laid (t':=tk) (h':=h'.push (W.kla_obj "<lambda>" (X.env.qual ++ "<lambda>") params body scope [] ((X.mg "__name__").getD .none) c' ir)) (a:=h'.objs.size) (o:=yj h'.objs.size c' (X.env.qual ++ "<lambda>") params body scope)
  (λb u e=>cb _ (hk b u e)) hsz (yk U ⟨_,_,U⟩ λh1 h2 a2 k=>a2.elim λpm a3=>a3.elim λcv a=>⟨pm,cv,k _ a⟩)
 have j:H h'.objs.size=none:=I.hok.fresh hsz;refine⟨.ref h'.objs.size,_,I3,rfl,q _ c' _ j ?_ (λb o J nb=>?_) (.inr ⟨c',?_,?_⟩) ?_ aD⟩
 . rw[aX (aI e1 j),e1];exact λz=>nomatch z
 . rw[aX (aI J j)];exact J
 . rw[aX (aI e1 j)];exact e1
 . rw[aX (aI e2 j)];exact e2
 rw[aX (aI e2 j)];exact e2
end
end
section
variable {w:World}{K:Fg}{a:Addr}{σ0:St}
section
variable {X:Cx}
theorem N6:cD X (compareOp .LtE) (λx y H Q=>∃i j,x=.str i/\y=.str j/\Q (.bl (!decide (j.cps.toList<i.cps.toList))) H):=by
 intro ad s Z H x y v u Q I z G h;obtain⟨i,j,rfl,rfl,q⟩:=h;obtain⟨t,rfl⟩:=z;obtain⟨t',rfl⟩:=G;exact PySem.P.le_str (cZ I q rfl)
def afE:V->Lv->Hp->VK->Prop:=λx vs H Q=>∃a b,x=.str a/\vs=[.str b]/\Q (.bl (Txt.startswith a b)) H
theorem N7:oW X "str.startswith" afE:=by
 intro ad s Z H x xs v us Q I z j h;obtain⟨a,b,rfl,rfl,q⟩:=h;obtain⟨t,rfl⟩:=z;obtain⟨u,rfl,t',rfl⟩:=vals1 j;exact SC.startswith (cZ I q rfl)
theorem N8:∀l:List (Str×Tok),aY ((l.map (·.1)).map V.str) (strValues l)
 | []=>.nil
 | p::r=>.cons ⟨p.2,rfl⟩ (N8 r)
def afF:V->Lv->Hp->VK->Prop:=λx vs H Q=>∃a b,x=.str a/\vs=[.str b]/\b.length≠0/\a.length+2<=sizeLine/\eg H (.lst ((Txt.split a b).map V.str)) Q
theorem Bu:oW X "str.split" afF:=by
 intro ad s Z H x xs v us Q I rx Y h;obtain⟨a,b,rfl,rfl,J,hz,q⟩:=h;obtain⟨t,rfl⟩:=rx;obtain⟨u,rfl,t',rfl⟩:=vals1 Y;have G:(b.length == 0)=false:=by simpa using J
 have z:∀(l:List (Str×Tok)) (k:Nat),l.map (·.1)=Txt.split a b->EP X ad Z Q (.ref s.heap.objs.size) { s with heap:=s.heap.push { cls:=.type "list",data:=.seq (strValues l).toArray },toks:=k }:=λl k e=>by
  have r:=N8 l;rw[e]at r;have O:((Txt.split a b).map V.str).length<=sizeLine:=by
   rw[al];exact bX (split_le a b) hz
  exact⟨.ref s.heap.objs.size,_,I.laid (t':=k) (λb o e=>cb _ e) (aG _) (show bY X.prog X.w _ _ _ (.lst ((Txt.split a b).map V.str)) from ⟨O,_,_,r,dG _ rfl⟩),rfl,q.at _ (I.hok.fresh (aG _))⟩
 have U:(Builtin.Str.partsBetween a (Builtin.Str.occurrences a b 0 a.length (a.length+1)) b.length).length<=sizeLine:=by
  have e1:=StrLaws.occ_length_le a b 0 a.length (a.length+1);rw[length_partsBetween];omega
 cases h1:(decide (a.length<b.length) || decide (Builtin.Str.strKind a<Builtin.Str.strKind b))
 . cases j:(Builtin.Str.occurrences a b 0 a.length (a.length+1)).isEmpty
   . refine Dz V8 (zV _ _ _) V9 (Wa _ _) (meets_str_split_sep a b t t' h1 G j (by omega) U) ?_;show wants _ _ _ { s with toks:=_,heap:=s.heap.push { cls:=.type "list",data:=.seq (strsFrom s.toks (Builtin.Str.partsBetween a (Builtin.Str.occurrences a b 0 a.length (a.length+1)) b.length)).toArray } };rw[strsFrom_eq];exact z (numbered s.toks _) _ ((numbered_texts _ _).trans ((ag (Wb h1)).trans (ag (Wb j))).symm)
   exact Dz V8 (zV _ _ _) V9 (Wa _ _) (meets_str_split_not_found a b t t' h1 G j)
    (z [(a,t)] s.toks ((ag (Wb h1)).trans (aj j)).symm)
 exact Dz V8 (zV _ _ _) V9 (Wa _ _) (meets_str_split_cannot_occur a b t t' h1)
  (z [(a,t)] s.toks (aj h1).symm)
theorem afG:ff X (.type "int") (λxs H Q=>∃x n,xs=[.str x]/\PySem.intText? x=some n/\x.length<=640/\Q (.int n) H):=by
 intro ad s Z H xs us Q I r h;obtain⟨x,n,rfl,z,j,q⟩:=h;obtain⟨u,rfl,t,rfl⟩:=vals1 r;exact W.KIN.call_text z j ⟨.int n,H,I.tok _,⟨_,rfl⟩,q⟩
end
def q5(c:Nat):Str:=⟨#[c]⟩
def Bv(x:Str):It:=⟨λi _=>i<x.cps.size,λi H v H'=>H'=H/\∃c,x.cps[i]?=some c/\v=.str (q5 c),λi _=>x.cps.size<=i⟩
theorem afH{P:Program}{tg:Expr}(it:Addr)(x:Str)(t:Tok)(n:String)(Y:n="str_ascii_iterator"\/n="str_iterator"):oQ P w K tg (Bv x) [it] it (λi h=>h.IsStrIter it n x t i/\i<=x.cps.size) where
 mem:=by simp
 obj:=λi h st b j=>by
  have e:b=it:=by simpa using j
  subst e;obtain⟨o,e,c,d⟩:=st.1;exact⟨o,e,λv z=>by rw[d]at z;cases z⟩
 keep:=λi h h' st k=>⟨st.1.elim λo a0=>a0.elim λho r=>⟨o,k it (by simp) o ho,r⟩,st.2⟩
 item:=by
  intro X hP hw hK J i ad s Z H E I O st U;subst hP hw hK;obtain⟨f0,f1,f2,f3,f4,f5⟩:=O it (by simp);have G:∀(W:Walks X.prog X.w X.A it [it] [it] x.cps.size (SignAt x) (λi h=>h.IsStrIter it n x t i)),wpAny (model X.prog X.w) X.A (pyNext (.ref it)) (λr s1=>∃u,r=some u /\
   wpAny (model X.prog X.w) X.A (letOwnedTupleGo tg (.ref it) u) (λ_ s2=>∃v H',Inv X ad Z H' s2/\RelV v u/\(Bv x).yld i H v H'/\(s2.heap.IsStrIter it n x t (i+1)/\i+1<=x.cps.size)/\∀b∈[it],H' b=none) E s1) E s:=λW=>by
   refine W.item i s _ _ U st.1 λv h' tk hv fN kk=>?_;obtain⟨c,u,gY,rfl⟩:=hv;have I1:Inv X ad Z H { s with heap:=h',toks:=tk }:=I.turned (λb o j e=>kk b o (by simpa using j) e) f0 f1 f3 f4 f5;obtain⟨o,e,c',d⟩:=id fN;have Ob:i<x.cps.size:=U;exact⟨_,rfl,Ay (s:={ s with heap:=h',toks:=tk }) e c' d (by rcases Y with rfl | rfl<;>decide) ⟨.str (q5 c),H,I1,⟨u,rfl⟩,⟨rfl,c,gY,rfl⟩,⟨fN,by omega⟩,λb j=>(O b j).1⟩⟩
  rcases Y with rfl | rfl
  . exact G (Walks.strAscii (I.ok.hd J) it x t)
  exact G (Walks.strWide (I.ok.hd J) it x t)
 done:=by
  intro X hP hw hK J i ad s Z H E I O st U;subst hP hw hK;obtain⟨f0,f1,f2,f3,f4,f5⟩:=O it (by simp);have Ob:x.cps.size<=i:=U;have e:i=x.cps.size:=Nat.le_antisymm st.2 Ob;subst e;have G:∀(W:Walks X.prog X.w X.A it [it] [it] x.cps.size (SignAt x) (λi h=>h.IsStrIter it n x t i)),wpAny (model X.prog X.w) X.A (pyNext (.ref it)) (λr s1=>r=none/\Inv X ad Z H s1) E s:=λW=>
   W.done s _ _ st.1 λh' tk kk=>⟨rfl,I.turned (λb o j e=>kk b o (by simpa using j) e) f0 f1 f3 f4 f5⟩
  rcases Y with rfl | rfl
  . exact G (Walks.strAscii (I.ok.hd J) it x t)
  exact G (Walks.strWide (I.ok.hd J) it x t)
 self:=λ_ _ _ _ _ st h=>by
  rcases Y with rfl | rfl
  . exact wpAny_pyIter_striter_ascii st.1 h
  exact wpAny_pyIter_striter_wide st.1 h
section
variable {X:Cx}{tg:Expr}
def afJ(tl:TE):TI:=λZ H R=>tl Z H λx H1=>∃a,x=.str a/\R (Bv a) H1
theorem afK{l:Expr}{tl:TE}(Y:PE X l tl):PI X tg l (afJ tl):=by
 intro ad s Z H R I h;refine thn (Y ad s Z H _ I h) λv j O=>aW O λx H1 z r1 q1=>?_;obtain⟨a,e,q⟩:=q1;subst e;obtain⟨t,rfl⟩:=r1;have G:∀(o:Obj) (n:String),(n="str_ascii_iterator"\/n="str_iterator")->(j.heap.push o).IsStrIter j.heap.objs.size n a t 0->Eb X ad Z tg R (.ref j.heap.objs.size) { j with heap:=j.heap.push o }:=λo n hn st=>by
  refine⟨j.heap.objs.size,[j.heap.objs.size],_,_,H1,rfl,z.kept (t':=j.toks) λb o e=>cb _ e,afH _ a t n hn,⟨st,dz _⟩,λb U=>?_,q⟩;have e:b=j.heap.objs.size:=by simpa using U
  subst e;exact z.fpOk (aG _) (z.hok.fresh (aG _))
 cases J:a.cps.all (· < 128)
 . exact wpAny_pyIter_wide J (G _ _ (.inr rfl) ⟨_,dG _ rfl,rfl,rfl⟩)
 exact wpAny_pyIter_ascii J (G _ _ (.inl rfl) ⟨_,dG _ rfl,rfl,rfl⟩)
def afM(K:Fg):Lv->Hp->VK->Prop:=λxs H Q=>∃(p:Addr) (bs:List Bool),xs=[.ref p]/\aa K H p (bs.map V.bl)/\Q (.bl (bs.all id)) H
theorem afN(bs:List Bool):(List.range bs.length).all (λi=>bs.getD i false)=bs.all id:=by
 rw[wQ,gW,gW];constructor
 . intro h b j;obtain⟨i,hi,e⟩:=J3.mp j;have:=h i (vn.mpr hi);rw[Kc,gX hi,JR,e]at this;exact this
 intro h i hi;have hi:=vn.mp hi;rw[Kc,gX hi,JR];exact h _ (DF hi)
theorem Oc(K:Fg)(h:X.K=K:=by rfl)(hc:X.calm=true:=by rfl):ff X (.builtin "all") (afM K):=by
 subst h;intro ad s Z H xs us Q I r h;obtain⟨p,bs,rfl,hq,q⟩:=h;obtain⟨u,rfl,rx⟩:=vals1 r;cases rx;obtain⟨b_,O,pl,hz⟩:=I.list hq;have a0:=O.length;rw[al]at a0;refine call_all_walk (JH pl.isList ?_);have Y:p≠s.heap.objs.size:=by
  obtain⟨o,ho,_⟩:=pl.isList;exact cR (bG ho)
 refine⟨_,_,_,_,_,_,λi=>bs.getD i false,rfl,DK (A:=X.A.in1) (I.ok.hd hc) _ p Y b_.toArray,⟨⟨_,dG _ rfl,rfl,rfl⟩,pl.isList.push _⟩,?_,λh' tk kk=>?_⟩
 . intro i v s' U E j z;have j:b_[i]?=some v:=by simpa using j
   have hi:i<bs.length:=by
    have:=(cN.mp j).1;omega
   obtain⟨u,J,G⟩:=O.get (i:=i) (x:=V.bl bs[i]) (by rw[dA,gX hi];rfl);rw[j]at J;cases J;have G:v=.bool bs[i]:=by cases G;rfl
   subst G;have z:U (bs.getD i false) s':=z;rw[Kc,gX hi,JR]at z;exact oH z
 have e:b_.toArray.size=bs.length:=by simp;omega
 rw[e,afN];exact⟨.bl _,H,I.kept λb o e=>kk b o (by
  have:=bG e;rw[bF];exact cR this) (cb _ e),rfl,q⟩
end
theorem Inv.turnedL{X:Cx}{ad:Po}{Z:St}{H:Hp}{s:Shared}{h':Heap}{t':Nat}{fp:List Addr}(I:Inv X ad Z H s)(k:∀b o,b∉fp->s.heap.get? b=some o->h'.get? b=some o)(G:∀b∈fp,fD X ad H b):Inv X ad Z H { s with heap:=h',toks:=t' }:=by
 have J:∀b u,H b=some u->b∉fp:=λb u e z=>by rw[(G b z).1]at e;cases e
 have hL:X.env.locals∉fp:=λz=>(G _ z).2.1 rfl;refine I.step (g':=s.gens) (d':=s.drawn) (ch:=fp) (λb hb=>?_) (λb o _ _ j e _=>k b o j e) (λb o _ _ j e _=>⟨o.slots,k b o j e⟩) (λ_ _ _ _ n=>n)
  (λb o j e=>⟨o,k b o j e⟩) (λ_ _ e=>e) (λ_ _ _ e=>e) (λb ps e=>⟨#[],by rw[e];simp⟩) (λm hm=>?_) (λb u e=>?_) I.bare
 . obtain⟨f0,O,f2,U,Y,f5⟩:=G b hb;exact⟨U,O,Y,f5⟩
 . obtain⟨o,es,ep,ho,r⟩:=hm;exact⟨o,es,ep,k _ o hL ho,r⟩
 refine(I.hok b u e).stay (λc v j q=>k c v ?_ q) (λ_ q=>q) λ_ _ q=>q
 rcases j with z | z
 . rw[z];exact J b u e
 exact J c _ z
def yn(K:Fg)(a:Addr):It:=
 ⟨λi H=>∃xs x,aa K H a xs/\xs[i]?=some x,λi H v H'=>∃p x,H p=none/\(∀xs,aa K H a xs->xs[i]?=some x)/\v=.ref p/\H'=af H p (.tup [.int i,x]),λi H=>∃xs,aa K H a xs/\xs.length<=i⟩
theorem afO{P:Program}{elts:List Expr}{x1:Nat}{pos:Pos}(a e it:Addr)(c8:e≠it):oQ P w K (.Tuple elts x1 pos) (yn K a) [e,it] e (λi h=>(∃old,IsEnum h e it i old)/\h.IsListIter it a i) where
 mem:=by simp
 obj:=λi h st b hb=>by
  obtain⟨⟨old,st⟩,o,j,c,d⟩:=st
  rcases be.mp hb with rfl | hb
  . exact⟨_,st,λv z=>by
     have z':Data.fields _=Data.cell v:=z;cases z'⟩
  have hb:=bF.mp hb;subst hb;exact⟨o,j,λv z=>by rw[d]at z;cases z⟩
 keep:=λi h h' a0 k=>a0.elim λa1 G=>a1.elim λold st=>⟨⟨old,k e (by simp) _ st⟩,G.at λo j=>k it (by simp) o j⟩
 item:=by
  intro X hP hw Y hc i ad s Z H E I O st hg;subst hP hw Y;obtain⟨⟨old,st⟩,G⟩:=st;obtain⟨xs,x,U,hx⟩:=hg;obtain⟨b_,rv,p,hz⟩:=I.list U;obtain⟨u,hu,ru⟩:=rv.get hx;refine wpAny_pyNext_enum_item st G p.isList (x:=u) (by simpa using hu) c8 λh1 ho Od Fl hsz fG=>⟨.ref s.heap.objs.size,rfl,?_⟩;refine wpAny_letOwnedTupleGo_enum ho λh2 a3 J=>?_;have J:Heap.SameBut e h1 h2:=J;have Oe:e<s.heap.objs.size:=bG st;have A6:it<s.heap.objs.size:=by
   obtain⟨o,j,_⟩:=G;exact bG j
  have I1:Inv X ad Z H { s with heap:=h2,toks:=s.toks+1 }:=I.turnedL (fp:=[e,it]) (λb ob hb j=>by
   simp only[be,fZ,f7,qw]at hb;exact(J.2 b hb.1).trans (fG b ob hb.1 hb.2 j)) O
  have hn:H s.heap.objs.size=none:=I.hok.fresh (aG _);have fp:=I.fpOk (H':=H) (aG _) hn;have tY:h2.get? s.heap.objs.size=some { cls:=.type "tuple",data:=.seq #[.int i s.toks,u] }:=(J.2 _ (kz Oe)).trans Fl;have I2:Inv X ad Z (af H s.heap.objs.size (.tup [.int i,x])) { s with heap:=h2,toks:=s.toks+1 }:=by
   refine I1.track hn I.sz fp.2.1 fp.2.2.2.2.1 fp.2.2.2.2.2 ?_;exact⟨by show 2<=sizeLine;decide,[.int i s.toks,u],.cons ⟨_,rfl⟩ (.cons ru .nil),_,tY,rfl,0,rfl⟩
  refine⟨.ref s.heap.objs.size,_,I2,rfl,⟨_,x,hn,λys hy=>by rw[I.list_inj hy U];exact hx,rfl,rfl⟩,⟨⟨u,by simpa using a3⟩,Od.at λo j=>(J.2 it (gu c8)).trans j⟩,λb hb=>?_⟩;have a4:=(O b hb).1;rw[aX,a4];simp only[be,fZ,f7]at hb
  rcases hb with rfl | rfl
  . exact cR Oe
  exact cR A6
 done:=by
  intro X hP hw Y hc i ad s Z H E I O st hg;subst hP hw Y;obtain⟨⟨old,st⟩,G⟩:=st;obtain⟨xs,U,hx⟩:=hg;obtain⟨b_,rv,p,hz⟩:=I.list U;have hl:=rv.length;exact wpAny_pyNext_enum_end (I.ok.hd hc) st G p.isList (by simp;omega) λh' eb=>⟨rfl,I.turnedL (t':=s.toks) (fp:=[e,it]) (λb o hb j=>eb b o (λz=>hb (by simp[z])) j) O⟩
 self:=λ_ _ _ _ _ st h=>st.elim λa2 _=>a2.elim λ_ st=>wpAny_pyIter_enum st h
section
variable {X:Cx}
def afU(K:Fg)(ta:TA):TI:=λZ H R=>ta Z H λvs H1=>∃a,vs=[.ref a]/\(∃xs,aa K H1 a xs)/\R (yn K a) H1
theorem Of{l:Expr}{ta:TA}{p pos p2:Pos}{elts:List Expr}{x1:Nat}(Y:Gl X "enumerate")(hm:X.mg "enumerate"=none)(U:PA X [l] ta)(hs:starEach [l] X.env=[(false,eval l X.env)]:=by rfl) :
 PI X (.Tuple elts x1 p2) (.Call (.Name "enumerate" p) [l] [] pos) (afU X.K ta):=by
 intro ad s Z H R I h;refine Call_ (tw I Y hm boot_enumerate (JI (thn (U pos ad s Z H _ I h) λus j O=>aW O λvs H1 z r1 q1=>?_) hs rfl));obtain⟨a,e,⟨xs,hq⟩,q⟩:=q1;subst e;obtain⟨u,rfl,rx⟩:=vals1 r1;cases rx;obtain⟨b_,rv,pl,hz⟩:=z.list hq;refine call_enumerate_list pl.isList λh' G it hsz kp=>?_;refine wpAny_pyIter_enum G ?_;refine⟨j.heap.objs.size+1,[j.heap.objs.size+1,j.heap.objs.size],_,_,H1,rfl,z.kept (t':=j.toks) kp,afO a _ _ (Nat.succ_ne_self _),⟨⟨_,G⟩,it⟩,λb J=>?_,q⟩;have e:j.heap.objs.size<=b:=by
  simp only[be,fZ,f7]at J
  rcases J with rfl | rfl
  . exact qm _
  exact aG _
 exact z.fpOk e (z.hok.fresh e)
end
theorem ac.seqT{H H':Hp}{xs:Lv}(e:ac H H')(h:ba K H a xs):ba K H' a xs:=by
 rcases h with(h | ⟨o,h⟩) | h
 . exact .inl (.inl (e _ _ h))
 . exact .inl (.inr ⟨o,e _ _ h⟩)
 exact .inr h
theorem take_snoc{α:Type}{ys:List α}{i:Nat}{y:α}(h:ys[i]?=some y):ys.take (i+1)=ys.take i++[y]:=by
 rw[List.take_succ,h];rfl
section
variable {g:TG}{te:TE}{H1:Hp}{Q:Addr->Hp->Prop}
theorem vX{xs:Lv}(hx:aa K H1 a xs)(S:St->Prop)(ys:Lv)(Y:ys.length=xs.length)(big:xs.length<=sizeLine)(s0:S σ0)
 (a0:∀(i:Nat) x y Z H (k:St->V->Hp->Prop),xs[i]?=some x->ys[i]?=some y->S Z->ac H1 H->(∀σ3 z,S σ3->ac H z->k σ3 y z)->g x Z H λσ3 H3=>te σ3 H3 (k σ3))
 (done:∀D H,H1 D=none->H D=some (.lst ys)->ac H1 H->Q D H) :
 ∀D,H1 D=none->∃W:Nat->Nat->St->Hp->Prop,(∃m,W 0 m σ0 (af H1 D (.lst [])))/\kJ (mY K a) g qR te D (λH'=>Q D H') W:=by
 refine xQ hx S (λi zs _=>zs=ys.take i) s0 (λ_ _=>rfl) (λD i x zs Z H k J j G O a5 U a7=>?_) λD zs H J j G O=>?_
 . have hi:i<ys.length:=by rw[Y];exact(cN.mp j).1
   have hy:=gX hi;refine a0 i x ys[i] Z H k j hy G a5 λσ3 z b1 b2=>a7 σ3 _ z b1 b2 ?_ ?_
   . rw[U,eP];omega
   rw[U,take_snoc hy]
 rw[O,<-Y,fo]at j;exact done D H J j G
theorem afW{xs:Lv}(hx:ba K H1 a xs)(S:St->Prop)(ys:Lv)(hl:ys.length=xs.length)(big:xs.length<=sizeLine)(s0:S σ0)
 (a0:∀(i:Nat) x y Z H (k:St->V->Hp->Prop),xs[i]?=some x->ys[i]?=some y->S Z->ac H1 H->(∀σ3 j,S σ3->ac H j->k σ3 y j)->g x Z H λσ3 H3=>te σ3 H3 (k σ3))
 (done:∀D H,H1 D=none->H D=some (.lst ys)->ac H1 H->Q D H) :
 ∀D,H1 D=none->∃W:Nat->Nat->St->Hp->Prop,(∃m,W 0 m σ0 (af H1 D (.lst [])))/\kJ (Ec K a) g qR te D (λH'=>Q D H') W:=by
 intro D G;refine⟨λi m Z H=>m=xs.length - i/\i<=xs.length/\S Z/\H D=some (.lst (ys.take i))/\ac H1 H,⟨xs.length,by simp,dz _,s0,aD,fR G⟩,?_⟩;rintro i m Z H ⟨rfl,hi,Y,hd,hs⟩;have q:ba K H a xs:=ac.seqT hs hx
 by_cases O:i<xs.length
 . refine .inr ⟨⟨xs,xs[i],q,by simp[O]⟩,λx H2 z=>?_⟩;obtain⟨e1,e2⟩:=z;subst e1;have z:=gX (by omega:i<ys.length);refine a0 i x ys[i] Z _ (λσ3 y j=>∃zs,j D=some (.lst zs)/\zs.length<sizeLine/\∃m',m'<xs.length - i/\(m'=xs.length - (i+1)/\i+1<=xs.length/\S σ3/\af j D (.lst (zs++[y])) D=some (.lst (ys.take (i+1)))/\ac H1 (af j D (.lst (zs++[y]))))) (e2 xs q) z Y hs
    (λσ3 j U J=>⟨ys.take i,J _ _ hd,by rw[eP];omega,xs.length - (i+1),by omega,rfl,O,U,by rw[aD,take_snoc z],fh (hs.trans J) G⟩)
 have e:i=xs.length:=by omega
 subst e;rw[<-hl,fo]at hd;exact .inl ⟨⟨xs,q,aG _⟩,done D H G hd hs⟩
theorem afX{a:Str}(S:St->Prop)(f:Nat->V)(big:a.cps.size<=sizeLine)(s0:S σ0)
 (a0:∀c Z H (k:St->V->Hp->Prop),c∈a.cps.toList->S Z->ac H1 H->(∀σ3 j,S σ3->ac H j->k σ3 (f c) j)->g (.str (q5 c)) Z H λσ3 H3=>te σ3 H3 (k σ3))
 (done:∀D H,H1 D=none->H D=some (.lst (a.cps.toList.map f))->ac H1 H->Q D H) :
 ∀D,H1 D=none->∃W:Nat->Nat->St->Hp->Prop,(∃m,W 0 m σ0 (af H1 D (.lst [])))/\kJ (Bv a) g qR te D (λH'=>Q D H') W:=by
 intro D z;have hn:(a.cps.toList.map f).length=a.cps.size:=by rw[al,fm]
 refine⟨λi m Z H=>m=a.cps.size - i/\i<=a.cps.size/\S Z/\H D=some (.lst ((a.cps.toList.map f).take i))/\ac H1 H,⟨a.cps.size,by simp,dz _,s0,aD,fR z⟩,?_⟩;rintro i m Z H ⟨rfl,hi,hS,hd,hs⟩
 by_cases O:i<a.cps.size
 . refine .inr ⟨O,λx H2 G=>?_⟩;obtain⟨e1,c,hc,e2⟩:=G;subst e1 e2;have U:a.cps.toList[i]?=some c:=by rw[sY];exact hc
   have G:(a.cps.toList.map f)[i]?=some (f c):=by rw[dA,U];rfl
   refine a0 c Z _ (λσ3 y j=>∃zs,j D=some (.lst zs)/\zs.length<sizeLine/\∃m',m'<a.cps.size - i/\(m'=a.cps.size - (i+1)/\i+1<=a.cps.size/\S σ3/\af j D (.lst (zs++[y])) D=some (.lst ((a.cps.toList.map f).take (i+1)))/\ac H1 (af j D (.lst (zs++[y]))))) (dH U) hS hs
    (λσ3 j Y J=>⟨(a.cps.toList.map f).take i,J _ _ hd,by rw[eP];omega,a.cps.size - (i+1),by omega,rfl,O,Y,by rw[aD,take_snoc G],fh (hs.trans J) z⟩)
 have e:i=a.cps.size:=by omega
 subst e;rw[<-hn,fo]at hd;exact .inl ⟨aG _,done D H z hd hs⟩
end
end
end L2
namespace HT
abbrev At:=Int ⊕ Str
def yo:At->At->Bool
 | .inl a,.inl b=>decide (a<b)
 | .inr x,.inr y=>decide (x.cps.toList<y.cps.toList)
 | _,_=>false
def kin:At->At->Prop
 | .inl _,.inl _=>True
 | .inr _,.inr _=>True
 | _,_=>False
def cp:List At->List At->Bool
 | [],[]=>false
 | [],_::_=>true
 | _::_,[]=>false
 | x::xs,y::ys=>if x=y then cp xs ys else yo x y
def hJ:List At->List At->Prop
 | x::xs,y::ys=>if x=y then hJ xs ys else kin x y
 | _,_=>True
theorem Bw(x y:At)(xs ys:List At):cp (x::xs) (y::ys)=if x=y then cp xs ys else yo x y:=rfl
theorem uu(x y:At)(xs ys:List At):hJ (x::xs) (y::ys)=if x=y then hJ xs ys else kin x y:=rfl
inductive gN:Lw->List At->Prop
 | nil:gN [] []
 | int (n:Int) (t:Tok) {vs:Lw}{as:List At}:gN vs as->gN (.int n t::vs) (.inl n::as)
 | str (x:Str) (t:Tok) {vs:Lw}{as:List At}:gN vs as->gN (.str x t::vs) (.inr x::as)
theorem gN.length{vs:Lw}{as:List At}(h:gN vs as):vs.length=as.length:=by
 induction h with
 | nil=>rfl
 | int _ _ _ j=>exact fc (· + 1) j
 | str _ _ _ j=>exact fc (· + 1) j
theorem afY(A:Around)(s:Shared)(a:Str)(t:Tok)(c:Str)(u:Tok):∃e,SeqAt.EqAt A s (.str a t) (.str c u) e/\(e=true↔a=c):=
 ⟨(a == c),SeqAt.EqAt.str_str a t c u,by simp⟩
theorem afZ(A:Around)(s:Shared)(a:Str)(t:Tok)(c:Str)(u:Tok)(prog:Program)(w:World)(E:VP)(Q:VP)(h:Q (.bool (decide (a.cps.toList<c.cps.toList))) s) :
 wpAny (model prog w) A (richCompare .Lt (.str a t) (.str c u)) Q E s:=
 (PyProof.Rows.lt_str h:wpAny (model prog w) A (compareOp .Lt (.str a t) (.str c u)) Q E s)
theorem af0{vs ws:Lw}{as bs:List At}(G:gN vs as)(j:gN ws bs)(ok:hJ as bs)(A:Around)(s:Shared):(vs=[]\/ws=[])\/∃v kX a O w F1 b Y,vs=v::kX/\as=a::O/\ws=w::F1/\bs=b::Y/\gN kX O/\gN F1 Y /\
 (∃e,SeqAt.EqAt A s v w e/\(e=true↔a=b))/\(a=b->hJ O Y)/\∀(prog:Program) (J:World) (E:VP) (Q:VP),Q (.bool (yo a b)) s->wpAny (model prog J) A (richCompare .Lt v w) Q E s:=by
 cases G with
 | nil=>exact .inl (.inl rfl)
 | int a t G=>
  cases j with
  | nil=>exact .inl (.inr rfl)
  | int b u j=>
   obtain⟨e,U,hi⟩:=Zd A s a t b u;refine .inr ⟨_,_,_,_,_,_,_,_,rfl,rfl,rfl,rfl,G,j,⟨e,U,hi.trans ⟨λz=>by rw[z],λz=>by injection z⟩⟩,λz=>?_,λprog J E Q h=>Ze A s a t b u prog J E Q h⟩;rw[uu,aj z]at ok;exact ok
  | str b u j=>
   rw[uu,ag (by intro z;cases z)]at ok;exact ok.elim
 | str a t G=>
  cases j with
  | nil=>exact .inl (.inr rfl)
  | int b u j=>
   rw[uu,ag (by intro z;cases z)]at ok;exact ok.elim
  | str b u j=>
   obtain⟨e,U,hi⟩:=afY A s a t b u;refine .inr ⟨_,_,_,_,_,_,_,_,rfl,rfl,rfl,rfl,G,j,⟨e,U,hi.trans ⟨λz=>by rw[z],λz=>by injection z⟩⟩,λz=>?_,λprog J E Q h=>afZ A s a t b u prog J E Q h⟩;rw[uu,aj z]at ok;exact ok
section
open PySem.SeqAt
open PySem.AutoSeq1 (wpAny_loadPart')
open PySem.MeetsSeq PySem.MeetsSeq2 PySem.MeetsSeq3
theorem af1(l b:Addr)(G J:Av)(n n2:Nat)(dd pj:Oa)(sl uv:Array (Option Value))(ns ms:List At)(hi:gN G.toList ns)(hj:gN J.toList ms)(ok:hJ ns ms) :
 Meets (Builtin.«tuple.__lt__» ⟨[.ref l,.ref b],[]⟩)
  (λ_ R s=>s.heap.get? l=some { cls:=.type "tuple",dict:=dd,data:=.seq G n,slots:=sl }/\s.heap.get? b=some { cls:=.type "tuple",dict:=pj,data:=.seq J n2,slots:=uv } /\
   R (.ok (.ret (.bool (cp ns ms)))) s):=
 .of_wp λprog w A R s h=>by
  obtain⟨Y,g,d,tk,os⟩:=s;obtain⟨hl,hb,h⟩:=h;have f2:=arq;have z1:G.size=ns.length:=by rw[<-hi.length];simp
  have z2:J.size=ms.length:=by rw[<-hj.length];simp
  wp_walk using wpAny_loadPart' hl,wpAny_loadPart' hb,vk _ (λrest b s'=>b.1=none/\s'=⟨Y,g,d,tk,os⟩/\∃(vs O:Lw) (z j:List At),rest=vs.zip O /\
   gN vs z/\gN O j/\hJ z j/\z.length+J.size=j.length+G.size/\R (.ok (.ret (.bool (cp z j)))) ⟨Y,g,d,tk,os⟩) _
  case turn=>
   rintro⟨y,x⟩ rest b s' ⟨kW,rfl,vs,O,z,j,hz,F2,F3,hok,hlen,hR⟩
   rcases af0 F2 F3 hok A.in1 ⟨Y,g,d,tk,os⟩ with h0 | ⟨v,kX,a,Bx,w1,F1,b1,vQ,rfl,rfl,rfl,rfl,a0,a1,⟨e,he,U⟩,tZ,aO⟩
   . rcases h0 with h0 | h0
     . rw[h0,List.zip_nil_left]at hz;cases hz
     rw[h0,List.zip_nil_right]at hz;cases hz
   rw[Vu]at hz;injection hz with a3 FV
   injection a3 with hy hx
   subst hy hx;rw[Bw]at hR;simp only[cr]at hlen;refine ae (he prog w _ _ ?_);cases e with
   | true=>
    rw[aj (U.mp rfl)]at hR
    wp_walk
    exact⟨rfl,rfl,_,_,_,_,FV,a0,a1,tZ (U.mp rfl),by omega,hR⟩
   | false=>
    rw[ag (λq=>absurd (U.mpr q) cV)]at hR;have a2:=aO prog w
    wp_walk using a2
    exact⟨_,rfl,by simpa using hR⟩
  case fin=>
   rintro⟨b1,b2⟩ s' ⟨kW,rfl,vs,O,z,j,hz,F2,F3,hok,hlen,hR⟩;simp only at kW;subst kW;have h1:=F2.length;have h2:=F3.length;have hv:cp z j=decide (G.size<J.size):=by
    cases z with
    | nil=>
     cases j with
     | nil=>
      simp only[jQ]at hlen;exact(cq (by omega)).symm
     | cons c u=>
      simp only[jQ,cr]at hlen;exact(bL (by omega)).symm
    | cons a t=>
     cases j with
     | nil=>
      simp only[jQ,cr]at hlen;exact(cq (by omega)).symm
     | cons c u=>
      cases vs with
      | nil=>cases h1
      | cons v vs=>
       cases O with
       | nil=>cases h2
       | cons w1 O=>rw[Vu]at hz;cases hz
   rw[hv]at hR
   wp_walk
   exact⟨_,rfl,by simpa [Builtin.Tuple.tupleCompareSizes]using hR⟩
  case h=>
   exact⟨rfl,rfl,G.toList,J.toList,ns,ms,rfl,hi,hj,ok,by omega,h⟩
end
section
variable {prog:Program}{w:World}{A:Around}{E:VP}{s:Shared}
theorem af5{l b:Addr}{j z:Av}{ns ms:List At}{Q:VP}(hl:IsTup s.heap l j)(hb:IsTup s.heap b z)(hi:gN j.toList ns)(hj:gN z.toList ms)(ok:hJ ns ms)
 (hu:A.units<cLine) (h:Q (.bool (cp ns ms)) s):wpAny (model prog w) A (compareOp .Lt (.ref l) (.ref b)) Q E s:=by
 obtain⟨⟨cls,dd,data,sl⟩,O,G,n,hd⟩:=id hl;obtain⟨⟨F5,pj,data2,uv⟩,Y,U,n2,J⟩:=id hb;simp only at G hd U J;subst G hd U J;exact richCompare_meets_room (op:=.Lt) ⟨_,O,rfl⟩ ⟨_,Y,rfl⟩ PySem.F.slot_tuple_lt PySem.F.entry_tuple_lt (PySem.F.args_tuple_lt_2 _ _) (af1 l b j z n n2 dd pj sl uv ns ms hi hj ok)
  ⟨O,Y,show Value.bool (cp ns ms)≠Value.notImplemented/\Q (.bool (cp ns ms)) s from ⟨(λx=>nomatch x),h⟩⟩ hu
end
end HT
namespace L2
section
section
variable {X:Cx}
theorem Og:cD X (compareOp .Gt) (λx y H Q=>∃i j,x=.str i/\y=.str j/\Q (.bl (decide (j.cps.toList<i.cps.toList))) H):=by
 intro ad s Z H x y v u Q I z G h;obtain⟨i,j,rfl,rfl,q⟩:=h;obtain⟨t,rfl⟩:=z;obtain⟨t',rfl⟩:=G;exact PySem.P.gt_str (cZ I q rfl)
end
open PySem.W
open PySem.Builtin PySem.Builtin.ObjectAttr
end
section
variable {H:Hp}{s:Shared}
open HT (At cp hJ)
def By:At->V
 | .inl n=>.int n
 | .inr x=>.str x
theorem Bz:∀{as:List At}{us:Lw},aY (as.map By) us->HT.gN us as
 | [],us,h=>by cases h;exact .nil
 | .inl n::as,us,h=>by
  cases h with
  | cons r t=>
   obtain⟨tk,rfl⟩:=(show∃tk,_=Value.int n tk from r);exact .int n tk (Bz t)
 | .inr x::as,us,h=>by
  cases h with
  | cons r t=>
   obtain⟨tk,rfl⟩:=(show∃tk,_=Value.str x tk from r);exact .str x tk (Bz t)
section
variable {X:Cx}{ad:Po}{Z:St}{H0:Hp}{l q I S:Addr}{as:List Addr}{ks:Nat->List At}{R:Result->Shared->Prop}{Q:VP}{E:VP}
def F7(X:Cx)(q:Addr)(as:List Addr)(ks:Nat->List At)(H0:Hp):Prop:=∀(i:Nat) (a:Addr),as[i]?=some a->∀(ad:Po) (Z:St) (H:Hp) (s:Shared),Inv X ad Z H s->ac H0 H ->
 wpAny (model X.prog X.w) X.A.in1 (call (.ref q) [.ref a]) (λu s'=>∃j H',Inv X ad Z H' s'/\u=.ref j/\ac H H'/\H' j=some (.tup ((ks i).map By))) (λ_ _=>False) s
theorem Inv.isL(I:Inv X ad Z H s)(h:H l=some (.lst (as.map V.ref))):s.heap.IsList l (as.map Value.ref).toArray:=by
 obtain⟨b_,r,p,_⟩:=I.list (aa.of (K:=X.K) h);rw[uo r]at p;exact p.isList
theorem fD.of{H':Hp}{b:Addr}(f:fD X ad H b)(n:H' b=none):fD X ad H' b:=⟨n,f.2⟩
theorem Inv.turnF{h':Heap}{t':Nat}{b:Addr}(I:Inv X ad Z H s)(f:fD X ad H b)(k:∀c o,c≠b->s.heap.get? c=some o->h'.get? c=some o):Inv X ad Z H { s with heap:=h',toks:=t' }:=
 I.turned k f.1 f.2.1 f.2.2.2.1 f.2.2.2.2.1 f.2.2.2.2.2
theorem af6(hc:X.calm=true)(hu:X.A.in1.units<cLine)(yp:l≠I)(uw:S≠I)(BA:H0 l=some (.lst (as.map V.ref)))(ok:∀i j,hJ (ks i) (ks j))(tr:∀a b c,cp (ks a) (ks b)=true->cp (ks b) (ks c)=true->cp (ks a) (ks c)=true)(vY:∀a,cp (ks a) (ks a)=false)
 (a3:F7 X q as ks H0) (hR:∀i a H' s',as[i]?=some a->(∀j,j<as.length->cp (ks j) (ks i)=false)->Inv X ad Z H' s'->ac H0 H'->R (.ok (.ret (.ref a))) s') :
 ∀(r j i:Nat) (H:Hp) (s:Shared) (ab O:Addr) (c:Nat),as.length - (j+1)=r->j+1<=as.length->Inv X ad Z H s->ac H0 H->fD X ad H I->fD X ad H S->s.heap.get? S=some (seqObj "list" #[.ref ab,.ref O] c)->s.heap.IsListIter I l (j+1) ->
  as[i]?=some ab->H O=some (.tup ((ks i).map By))->(∀J,J<=j->cp (ks J) (ks i)=false)->codeAny (model X.prog X.w) X.A (.builtin "min.loop" ⟨[.ref I,.ref q,.ref S],[]⟩) R s:=by
 have yq:(toString "min"++toString ".loop":String)="min.loop":=by decide
 have hsz:(as.map Value.ref).toArray.size=as.length:=by simp
 intro r
 induction r with
 | zero=>
  intro j i H s ab O c hr hj U sm fI fS hS a1 jU F8 a0;have W:=DK (prog:=X.prog) (w:=X.w) (A:=X.A.in1) (U.ok.hd hc) I l yp (as.map Value.ref).toArray;have jB:j+1=as.length:=by omega
  refine qt Wc ?_;rw[vv xa _];show wpAny _ X.A.in1 (seqItems? (.ref S) >>= _) _ _ _;refine ae (wN hS rfl ?_);show wpAny _ X.A.in1 (tryCatch (pyNext (.ref I)) _ >>= _) _ _ _;refine ae (Ah (W.done _ _ _ ⟨by rw[hsz,<-jB];exact a1,U.isL (sm _ _ BA)⟩ λh' nI eW=>?_));have I1:Inv X ad Z H { s with heap:=h',toks:=nI }:=U.turnF fI λb o G e=>eW b o (by simpa using G) e;have iL:=eW S _ (by simpa using uw) hS;have s1:=lJ h' S (Obj.mapSeq λ_=>(#[]:Av));show wpAny _ X.A.in1 (updateSeq S (λ_=>#[]) >>= _) _ _ _;refine ae ?_;refine DJ iL rfl (ae (Kd (aq ?_)));exact hR i ab H _ jU (λJ rc=>a0 J (by omega)) (I1.turnF (t':=nI) fS λb o G e=>(s1.2 b G).trans e) sm
 | succ r ih=>
  intro j i H s ab O c hr hj U sm fI fS hS a1 jU F8 a0;have W:=DK (prog:=X.prog) (w:=X.w) (A:=X.A.in1) (U.ok.hd hc) I l yp (as.map Value.ref).toArray;have aO:j+1<as.length:=by omega
  refine qt Wc ?_;rw[vv xa _];show wpAny _ X.A.in1 (seqItems? (.ref S) >>= _) _ _ _;refine ae (wN hS rfl ?_);show wpAny _ X.A.in1 (tryCatch (pyNext (.ref I)) _ >>= _) _ _ _;refine ae (Ah (W.item (j+1) _ _ _ (by rw[hsz];exact aO) ⟨a1,U.isL (sm _ _ BA)⟩ λv h' nI hP yh eW=>?_));have jc:(as.map Value.ref)[j+1]?=some v:=by simpa using hP
  obtain⟨a,ha,rfl⟩:∃a,as[j+1]?=some a/\v=.ref a:=by
   rw[dA]at jc;cases e:as[j+1]? with
   | none=>rw[e]at jc;cases jc
   | some a=>rw[e]at jc;cases jc;exact⟨a,rfl,rfl⟩
  obtain⟨rf,yr,oN,ut⟩:=id yh.1;have I1:Inv X ad Z H { s with heap:=h',toks:=nI }:=U.turnF fI λb o G e=>eW b o (by simpa using G) e;have yt:h'.get? S=some (seqObj "list" #[.ref ab,.ref O] c):=eW S _ (by simpa using uw) hS;have Ip:Inv X (ad++tI [I,S] h') Z H { s with heap:=h',toks:=nI }:=I1.pinned (fp:=[I,S]) (λb G=>by
   rcases be.mp G with e | e
   . rw[e];exact fI
   . rw[bF.mp e];exact fS) (λb G=>by
   rcases be.mp G with e | e
   . rw[e];exact⟨rf,yr,λv z=>by rw[ut]at z;cases z⟩
   rw[bF.mp e];exact⟨_,yt,λv z=>nomatch z⟩)
  show wpAny _ X.A.in1 (tryCatch (holding [.ref a] (call (.ref q) [.ref a])) _ >>= _) _ _ _;refine ae (Ah (jo (d6 (a3 (j+1) a ha _ Z H _ Ip sm) (λx s2 he=>?_) λ_ _ hF=>hF.elim)));obtain⟨Y,H2,ux,rfl,bV,vZ⟩:=he;have pI:=ux.pin (I,rf) (fe _ (fe _ (qI (by simp) yr)));have pS:=ux.pin (S,seqObj "list" #[.ref ab,.ref O] c) (fe _ (fe _ (qI (by simp) yt)));have I2:=ux.unpinned;have Oh:=sm.trans bV;have BB:fD X ad H2 I:=fI.of pI.2.1;have v3:fD X ad H2 S:=fS.of pS.2.1;have a2:s2.heap.IsListIter I l (j+1+1):=⟨rf,pI.1,oN,ut⟩;obtain⟨Od,r1,p1,_⟩:=I2.tuple (ba.of (K:=X.K) vZ);obtain⟨iP,r2,p2,_⟩:=I2.tuple (ba.of (K:=X.K) (bV _ _ F8));show wpAny _ X.A.in1 (tryCatch (holding [.ref a,.ref Y] (richCompare .Lt (.ref Y) (.ref O) >>= _)) _ >>= _) _ _ _;refine ae (Ah (jo (ae (HT.af5 p1 p2 (Bz r1) (Bz r2) (ok _ _) hu ?_))));refine ae (jo (oH ?_));refine ae (Kd (aq ?_))
  by_cases kW:cp (ks (j+1)) (ks i)=true
  . have s1:=lJ s2.heap S (Obj.mapSeq λ_=>#[.ref a,.ref Y]);obtain⟨c2,jw⟩:∃c2,(s2.heap.update S (Obj.mapSeq λ_=>#[.ref a,.ref Y])).get? S=some (seqObj "list" #[.ref a,.ref Y] c2):=⟨_,get?_update_seq pS.1 λ_=>#[.ref a,.ref Y]⟩;simp only[kW,vm];refine ae ?_;refine DJ pS.1 rfl (ae (Kd ?_));rw[yq];refine aq ⟨sZ xa _,ih (j+1) (j+1) H2 _ a Y c2 (by omega) aO (I2.turnF (t':=s2.toks) v3 λb o G e=>(s1.2 b G).trans e) Oh BB v3 jw ⟨rf,(s1.2 I uw.symm).trans pI.1,oN,ut⟩ ha vZ λJ rc=>?_⟩
    by_cases e:J=j+1
    . subst e;exact vY _
    cases z:cp (ks J) (ks (j+1)) with
    | false=>rfl
    | true=>have:=tr _ _ _ z kW;rw[a0 J (by omega)]at this;cases this
  have iQ:cp (ks (j+1)) (ks i)=false:=by simpa using kW
  simp only[iQ,qj,mO];refine ae (Kd ?_);rw[yq];refine aq ⟨sZ xa _,ih (j+1) i H2 _ ab O c (by omega) aO I2 Oh BB v3 pS.1 a2 jU (bV _ _ F8) λJ rc=>?_⟩
  by_cases e:J=j+1
  . subst e;exact iQ
  exact a0 J (by omega)
theorem af8(G:Inv X ad Z H s)(hc:X.calm=true)(hu:X.A.in1.units<cLine)(hl:H l=some (.lst (as.map V.ref)))(c8:0<as.length)(ok:∀i j,hJ (ks i) (ks j))(tr:∀a b c,cp (ks a) (ks b)=true->cp (ks b) (ks c)=true->cp (ks a) (ks c)=true)(vY:∀a,cp (ks a) (ks a)=false)
 (a0:F7 X q as ks H) (hQ:∀i a H' s',as[i]?=some a->(∀j,j<as.length->cp (ks j) (ks i)=false)->Inv X ad Z H' s'->ac H H'->Q (.ref a) s') :
 wpAny (model X.prog X.w) X.A (call (.builtin "min") [.ref l] [(Str.ofString "key",.ref q)]) Q E s:=by
 have yq:(toString "min"++toString ".loop":String)="min.loop":=by decide
 have Am:=G.isL hl;obtain⟨ol,Bq,_⟩:=id Am;have a1:l<s.heap.objs.size:=bG Bq;have hsz:(as.map Value.ref).toArray.size=as.length:=by simp
 refine kmk_tree PySem.F.kind_min PySem.F.plain_min PySem.F.entry_min (kmk_min_key _ _) ?_;show wpAny _ X.A.in1 (Builtin.Builtins.bindParams "min" ["key","default"] 0 ⟨[],[(Str.ofString "key",.ref q)]⟩ >>= _) _ _ s;refine ae (wpAny_of_eq (show Builtin.Builtins.bindParams "min" ["key","default"] 0 ⟨[],[(Str.ofString "key",.ref q)]⟩=pure [some (.ref q),none] from rfl) ?_);refine ae (aq ?_);refine ae (JH Am ?_);refine ae (VS ?_ (dz _));rw[yq];refine aq ⟨sZ xa _,?_⟩;have Y:(s.heap.push { cls:=.type "list_iterator",data:=.fields #[.ref l,.int 0 0] }).objs.size=s.heap.objs.size+1:=size_push' ..;have yp:l≠s.heap.objs.size:=cR a1;have uw:(s.heap.push { cls:=.type "list_iterator",data:=.fields #[.ref l,.int 0 0] }).objs.size≠s.heap.objs.size:=by rw[Y];exact kz (wS _)
 have fI:fD X ad H s.heap.objs.size:=G.fpOk (aG _) (G.hok.fresh (aG _));have fS:fD X ad H (s.heap.push { cls:=.type "list_iterator",data:=.fields #[.ref l,.int 0 0] }).objs.size:=G.fpOk (by rw[Y];exact qm _) (G.hok.fresh (by rw[Y];exact qm _));have gI:((s.heap.push { cls:=.type "list_iterator",data:=.fields #[.ref l,.int 0 0] }).push (seqObj "list" #[] 0)).get? s.heap.objs.size=some { cls:=.type "list_iterator",data:=.fields #[.ref l,.int 0 0] }:=
  cb _ (dG _ rfl)
 have gS:((s.heap.push { cls:=.type "list_iterator",data:=.fields #[.ref l,.int 0 0] }).push (seqObj "list" #[] 0)).get? (s.heap.push { cls:=.type "list_iterator",data:=.fields #[.ref l,.int 0 0] }).objs.size=some (seqObj "list" #[] 0):=dG _ rfl;have I0:Inv X ad Z H { s with heap:=(s.heap.push { cls:=.type "list_iterator",data:=.fields #[.ref l,.int 0 0] }).push (seqObj "list" #[] 0) }:=G.kept (t':=s.toks) λb o e=>cb _ (cb _ e);generalize (s.heap.push { cls:=.type "list_iterator",data:=.fields #[.ref l,.int 0 0] }).objs.size=S at *;generalize s.heap.objs.size=I at *;generalize (s.heap.push { cls:=.type "list_iterator",data:=.fields #[.ref l,.int 0 0] }).push (seqObj "list" #[] 0)=h0 at *;have W:=DK (prog:=X.prog) (w:=X.w) (A:=X.A.in1) (G.ok.hd hc) I l yp (as.map Value.ref).toArray;refine qt Wc ?_;rw[vv xa _];show wpAny _ X.A.in1 (seqItems? (.ref S) >>= _) _ _ _;refine ae (wN gS rfl ?_);show wpAny _ X.A.in1 (tryCatch (pyNext (.ref I)) _ >>= _) _ _ _;refine ae (Ah (W.item 0 _ _ _ (by rw[hsz];exact c8) ⟨⟨_,gI,rfl,rfl⟩,I0.isL hl⟩ λv h' nI hP yh eW=>?_));have U:(as.map Value.ref)[0]?=some v:=by simpa using hP
 obtain⟨a,ha,rfl⟩:∃a,as[0]?=some a/\v=.ref a:=by
  rw[dA]at U;cases e:as[0]? with
  | none=>rw[e]at U;cases U
  | some a=>rw[e]at U;cases U;exact⟨a,rfl,rfl⟩
 obtain⟨rf,yr,oN,ut⟩:=id yh.1;have I1:Inv X ad Z H { s with heap:=h',toks:=nI }:=I0.turnF fI λb o J e=>eW b o (by simpa using J) e;have yt:h'.get? S=some (seqObj "list" #[] 0):=eW S _ (by simpa using uw) gS;have Ip:Inv X (ad++tI [I,S] h') Z H { s with heap:=h',toks:=nI }:=I1.pinned (fp:=[I,S]) (λb J=>by
  rcases be.mp J with e | e
  . rw[e];exact fI
  . rw[bF.mp e];exact fS) (λb J=>by
  rcases be.mp J with e | e
  . rw[e];exact⟨rf,yr,λv z=>by rw[ut]at z;cases z⟩
  rw[bF.mp e];exact⟨_,yt,λv z=>nomatch z⟩)
 show wpAny _ X.A.in1 (tryCatch (holding [.ref a] (call (.ref q) [.ref a])) _ >>= _) _ _ _;refine ae (Ah (jo (d6 (a0 0 a ha _ Z H _ Ip (ac.refl H)) (λx s2 he=>?_) λ_ _ hF=>hF.elim)));obtain⟨O,H2,ux,rfl,bV,vZ⟩:=he;have pI:=ux.pin (I,rf) (fe _ (fe _ (qI (by simp) yr)));have pS:=ux.pin (S,seqObj "list" #[] 0) (fe _ (fe _ (qI (by simp) yt)));have I2:=ux.unpinned;have BB:fD X ad H2 I:=fI.of pI.2.1;have v3:fD X ad H2 S:=fS.of pS.2.1;have s1:=lJ s2.heap S (Obj.mapSeq λ_=>#[.ref a,.ref O]);obtain⟨c2,jw⟩:∃c2,(s2.heap.update S (Obj.mapSeq λ_=>#[.ref a,.ref O])).get? S=some (seqObj "list" #[.ref a,.ref O] c2):=⟨_,get?_update_seq pS.1 λ_=>#[.ref a,.ref O]⟩;show wpAny _ X.A.in1 (updateSeq S (λ_=>#[.ref a,.ref O]) >>= _) _ _ _;refine ae ?_;refine DJ pS.1 rfl ?_;rw[yq];refine aq ⟨sZ xa _,af6 (H0:=H) hc hu yp uw hl ok tr vY a0 (λi a H' s' e b I' sm=>hQ i a H' s' e b I' sm) _ 0 0 H2 _ a O c2 rfl c8 (I2.turnF (t':=s2.toks) v3 λb o J e=>(s1.2 b J).trans e) bV BB v3 jw ⟨rf,(s1.2 I uw.symm).trans pI.1,oN,ut⟩ ha vZ λj' rc=>?_⟩;have e:j'=0:=by omega
 subst e;exact vY _
end
def j7(P:Addr)(H H':Hp):Prop:=∀b o,H b=some o->b≠P->H' b=some o
def aga(P:Addr)(a_:Str)(lpos:Pos)(x:Str)(te tb:TE):TE:=λZ H Q=>fP te fg Z H λus H1=>∃(l:Addr) (as:List Addr) (ks:Nat->List At),us=[.ref l]/\l≠P/\H1 l=some (.lst (as.map V.ref))/\0<as.length/\(∀i j,hJ (ks i) (ks j)) /\
 (∀a b c,cp (ks a) (ks b)=true->cp (ks b) (ks c)=true->cp (ks a) (ks c)=true)/\(∀a,cp (ks a) (ks a)=false)/\aE H1 P lpos a_ /\
 (∀i a,as[i]?=some a->∀H2,j7 P H1 H2->tb [some (.ref a)] H2 λv H3=>∃z,v=.ref z/\ac H2 H3/\H3 z=some (.tup ((ks i).map By))) /\
 ∀i a H',as[i]?=some a->(∀j,j<as.length->cp (ks j) (ks i)=false)->j7 P H1 H'->aE H' P lpos a_->Q (.ref a) H'
section
variable {X:Cx}{c P:Addr}{params:Arguments}{body e:Expr}{scope:Scope}{p pos lpos xE:Pos}{a_ x:Str}{k:Nat}{te tb:TE}
theorem aE.same{H':Hp}(s:ac H H')(h:aE H P lpos a_):aE H' P lpos a_:=by
 rcases h with h | ⟨c',h1,h2⟩
 . exact .inl (s _ _ h)
 exact .inr ⟨c',s _ _ h1,s _ _ h2⟩
theorem agb(he:PE X e te)(S:aK [x] [x] scope)(Y:ci (k+1) X.A.in1)(hc:X.calm=true)(Bs:X.env.code=.ref c)(hd:W.codeHdIn X.K c P=true)(hb:X.base.BuiltinsAt X.mg P)(hg:Gl X "min")(hm:X.mg "min"=none)
 (oS:∀(q c':Addr) (A:Around) (outer:List Env) (s:Shared) (H:Hp) (E:XK),PE (kG aL X.prog X.w X.K X.mg X.base [x] a_ scope q (.ref c') A outer s H E) body tb)
 (F9:∀(pm ir u:Value) (c':Addr),bindArgs (W.kla_fn "<lambda>" a_ params body scope [] pm (.ref c') ir) ⟨[u],[]⟩=pure ([x].zip [u]))
 (hq:X.env.qual ++ "<lambda>"=a_:=by rfl) (Bt:X.env.globals=mainGlobals:=by rfl) (qZ:closureFor scope X.env=pure []:=by rfl) (FZ:defaultsOf params X.env=([],[]):=by rfl)
 (h1:backTo pos (starEach [e] X.env)=(false,eval e X.env)::backTo pos (starEach [] X.env):=by rfl) (h2:starEach [e] X.env=[(false,eval e X.env)]:=by rfl) (h3:(backTo pos (starEach [e] X.env)).any (·.1)=false:=by rfl) :
 PE X (.Call (.Name "min" p) [e] [⟨some "key",.Lambda params body scope lpos,xE⟩] pos) (aga P a_ lpos x te tb):=by
 intro ad s Z H Q I h;have hu:X.A.in1.units<cLine:=by have:=Y.un;omega
 refine wT (tw I hg hm boot_min ?_ (by decide) (by decide));have z:PA X [e] (fP te fg):=gK he d8 h2;refine callWith_kw (thn (z pos ad s Z H _ I h) λus s1 a0=>aW a0 λvs H1 I1 r a1=>a1.elim λl a2=>a2.elim λas a3=>a3.elim λks a4=>a4.elim λe1 a5=>a5.elim λlP a6=>a6.elim λhl a7=>a7.elim λc8 a8=>a8.elim λok a9=>a9.elim λtr ab=>ab.elim λvY ap=>ap.elim λOj ar=>ar.elim λax b3=>?_) h1 h3;subst e1;obtain⟨u1,rfl,ru⟩:=vals1 r;cases ru;have hk:PK X [⟨some "key",.Lambda params body scope lpos,xE⟩] (fP (N3 P a_ params body scope lpos) fg):=Y8 (afw Bs hd hb hq Bt qZ FZ) Y7;refine thn (hk pos ad s1 Z H1 (λzs H2=>∃q c',zs=[.ref q]/\j7 P H1 H2/\aE H2 P lpos a_/\H2 c'=some (yi c' a_)/\H2 q=some (yj q c' a_ params body scope)) I1 ⟨Oj,λq c' H2 nq nP kp U gY ik=>⟨q,c',rfl,kp,U,gY,ik⟩⟩) λws s2 az=>aW az λzs H2 I2 rz a'=>a'.elim λq aO=>aO.elim λc' aR=>aR.elim λez aZ=>aZ.elim λkp b0=>b0.elim λU b1=>b1.elim λjw uy=>?_;subst ez;obtain⟨w1,rfl,b4⟩:=vals1 rz;cases b4;have b6:F7 X q as ks H2:=by
  intro i a z DW σ' H3 s3 J j;obtain⟨pm,ir,ho⟩:=(show bY X.prog X.w H3 s3.heap q (yj q c' a_ params body scope) from J.hok q _ (j _ _ uy)).1;have FY:s3.heap.CodeRec (.ref c') a_:=(show bY X.prog X.w H3 s3.heap c' (yi c' a_) from J.hok c' _ (j _ _ jw)).1;refine Du (ql (afu (E:=E0) (vs:=[.ref a]) (us:=[.ref a]) S Y J.env0.in1 ho FY (F9 pm ir _ c') rfl (.cons rfl .nil) (oS q c' _ _ _ _ _) (ax i a z H3 λb o e n=>j _ _ (kp b o e n))) λr s' G=>?_);cases r with
  | error e=>exact(show False from G).elim
  | ok fl=>
   cases fl with
   | ret u=>
    obtain⟨v,H',O,rv,kt,ev,b5,vZ⟩:=J.after G;subst ev;cases rv;exact⟨kt,H',O,rfl,b5,vZ⟩
   | next=>exact False.elim G
   | brk=>exact False.elim G
   | cont=>exact False.elim G
 refine af8 I2 hc hu (kp _ _ hl lP) c8 ok tr vY b6 λi a H' s' z b2 O j=>?_;exact⟨.ref a,H',O,rfl,b3 i a H' z b2 (λb o e n=>j _ _ (kp b o e n)) (U.same j)⟩
end
end
section
open PySem.W (tabObj CodeHd)
theorem agz{P:Program}{w:World}{K:Fg}{mg mb:Mv}{CX:g0}{k:Nat}{fa a Pt c:Addr}{fd:Fy}{x a_:Str}{lpos:Pos}{sp:Sp}{j:Shared}{vs:Lw}{ns:List Int}
 (KX:K.In j.heap) (kL:j.heap.Ns mainGlobals mg) (G:j.heap.Ns builtinsNs mb) (jy:∀x:Str,x≠"__name__"->mb x=bootBuiltins x) (a3:j.heap.NoLimit) (hg:j.gens = #[])
 (a7:∃bm ob,mg "__builtins__"=some (.ref bm)/\bm≠builtinsNs/\j.heap.get? bm=some ob/\ob.cls=.type "module"/\ob.dict=some builtinsNs/\ob.data=.plain)
 (O:j.heap.get? Pt=some (tabObj #[])) (hC:CodeHd j.heap c Pt) (Ga:K.lookup Pt=none)
 (ha:j.heap.get? a=some { cls:=.type "list",data:=.seq vs.toArray }) (hi:IntsAre vs ns) (hl:ns.length<=sizeLine) (hr:ci k callerA)
 (F:∀base:Heap,K.In base->base.Ns mainGlobals mg->base.BuiltinsAt mg Pt->au P w K mg base CX k fa fd [x] sp) (F9:∀(s:Shared) (u:Value),BindsTo s fd ⟨[u],[]⟩ [(x,u)])
 (ju:∀H:Hp,H Pt=some (iu Pt #[])->aa K H a (ns.map V.int)->sp [.ref a] H (λv H'=>v=.bl true/\aE H' Pt lpos a_) λ_ _ _=>False)
 (Gb:∀H e s',CX [] H j (λ_ _ _=>False) e s'->False) :
 codeAny (model P w) callerA (.call (.ref fa) ⟨[.ref a],[]⟩) (λr s'=>r=.ok (.ret (.bool true))/\OldK j.heap s'.heap/\s'.os=j.os/\AllBare s'.gens) j:=by
 have rv:=Mh hi;have a4:=hi.length;have Ol:a≠Pt:=λz=>by rw[z,O]at ha;cases ha
 have a1:∀H:Hp,H Pt=some (iu Pt #[])->(∀b,b≠Pt->H b=none\/∃o xs,H b=some (.frz o (.lst xs)))->aa K H a (ns.map V.int)->cf P w H j.heap->(∀b,H b≠none->b=a\/b=Pt)->(H a≠none->K.lookup a=none) ->
  codeAny (model P w) callerA (.call (.ref fa) ⟨[.ref a],[]⟩) (λr s'=>r=.ok (.ret (.bool true))/\OldK j.heap s'.heap/\s'.os=j.os/\AllBare s'.gens) j:=by
  intro H hT hO hS hok hA hK;have Gc:∀{b:Addr}{o:Obj},j.heap.get? b=some o->H b=none->(mR j.heap H).get? b=some o:=λe n=>WO e n;have Om:∀{b:Addr}{o:Obj},j.heap.get? b=some o->(∀it n,o.data≠.seq it n)->(∀ps,o.data≠.fields ps)->H b=none:=λ{b o} e d1 d2=>by
   cases q:H b with
   | none=>rfl
   | some u=>
    rcases hA b (by rw[q];simp) with e' | e'
    . subst e';rw[ha]at e;cases e;exact absurd rfl (d1 _ _)
    subst e';rw[O]at e;cases e;exact absurd rfl (d2 _)
  have BC:∀{b:Addr}{m:Mv},j.heap.Ns b m->(mR j.heap H).Ns b m:=λ{b m} ⟨o,es,ep,e,d,r⟩=>⟨o,es,ep,Gc e (Om e (λit n z=>by rw[d]at z;cases z) λps z=>by rw[d]at z;cases z),d,r⟩;have Oo:K.In (mR j.heap H):=λb o e=>Gc (KX b o e) (by
   cases q:H b with
   | none=>rfl
   | some u=>
    rcases hA b (by rw[q];simp) with e' | e'
    . subst e';rw[hK (by rw[q];simp)]at e;cases e
    subst e';rw[Ga]at e;cases e)
  have hM:Mod K mg (mR j.heap H):=⟨Oo,BC kL,⟨mb,BC G,jy⟩,a3.elim λmc a5=>a5.elim λh1 h2=>⟨mc,BC h1,h2⟩⟩;have e0:lU P w K mg (mR j.heap H) callerA [] j H:=⟨rfl,hM,λb o e=>WP e,vp (WN _ _),trivial,λb G=>absurd (show b∈([]:List Addr) from G) (by simp),hok,.of_eq hg⟩;have a8:(mR j.heap H).BuiltinsAt mg Pt:=by
   obtain⟨bm,a9,b1,b2,U,b4,b5,Y⟩:=a7;refine⟨bm,a9,b1,b2,λz=>?_,λz=>?_,Gc U (Om U (λit n z=>by rw[Y]at z;cases z) λps z=>by rw[Y]at z;cases z),b4,b5,Y⟩
   . obtain⟨o,es,ep,e,d,_⟩:=kL;rw[z,e]at U;cases U;rw[d]at Y;cases Y
   rw[z,O]at U;cases U;cases Y
  refine ql ((F _ Oo (BC kL) a8).run callerA [] j H ⟨[.ref a],[]⟩ [.ref a] [.ref a] _ _ hr e0 (F9 j (.ref a)) (.cons rfl .nil) (ju H hT hS)) λr s' h=>?_;cases r with
  | error e=>exact(Gb H e s' h).elim
  | ok fl=>
   cases fl with
   | next=>exact False.elim h
   | brk=>exact False.elim h
   | cont=>exact False.elim h
   | ret u=>
    obtain⟨v,H',os,a6,un,tZ,r',q',tb⟩:=h;subst q';obtain rfl:u=Value.bool true:=r';have old:∀b o,j.heap.get? b=some o->b≠Pt->s'.heap.get? b=some o:=λb o e J=>by
     cases q:H b with
     | none=>exact un.keep b o e q (by intro z;exact absurd (show b∈([]:List Addr) from z) (by simp)) (by simp)
     | some u=>
      rcases hO b J with z | ⟨ob,xs,z⟩
      . rw[q]at z;cases z
      have z2:=un.frzs b ob _ z;obtain⟨e1,_⟩:=hok b _ z;obtain⟨e2,_⟩:=tZ b _ z2;rw[e]at e1;cases e1;exact e2
    have a2:s'.heap.get? Pt=some (tabObj #[])\/∃a0,s'.heap.get? Pt=some (tabObj (#[]++a0)):=by
     rcases tb with z | ⟨c',z,_⟩
     . exact .inl (show bY P w H' s'.heap Pt (iu Pt #[]) from tZ Pt _ z).1
     exact .inr ⟨_,by rw[Array.empty_append];exact(show bY P w H' s'.heap Pt (iu Pt _) from tZ Pt _ z).1⟩
    refine⟨rfl,⟨λb o e=>?_,λb o e=>?_⟩,os,a6⟩
    . by_cases J:b=Pt
      . subst J;rw[O]at e;cases e
        rcases a2 with z | ⟨a0,z⟩
        . exact .inl z
        exact .inr (.inl ⟨(hC.tab O).isCodeTable,rfl,#[],a0,rfl,z⟩)
      exact .inl (old b o e J)
    by_cases J:b=Pt
    . subst J
      rcases a2 with z | ⟨a0,z⟩
      . exact⟨_,z⟩
      exact⟨_,z⟩
    exact⟨o,old b o e J⟩
 have kY:∀H:Hp,H Pt=some (iu Pt #[])->bY P w H j.heap Pt (iu Pt #[]):=λH _=>yk O O λh1 h2 z k=>k _ z;cases hk:K.lookup a with
 | some o=>
  have e:=KX a o hk;rw[ha]at e;cases e;refine a1 (λb=>if b=Pt then some (iu Pt #[]) else none) (aj rfl) (λb J=>.inl (ag J)) (.inr ⟨_,vs.toArray,_,hk,rfl,rfl,rfl,by rw[fY,a4];exact hl,by simpa using rv⟩) (λb u z=>?_) (λb z=>?_) λz=>absurd (ag Ol) z
  . by_cases G:b=Pt
    . have z':=(aj G).symm.trans z;cases z';subst G;exact kY _ (aj rfl)
    have z':=(ag G).symm.trans z;cases z'
  by_cases G:b=Pt
  . exact .inr G
  exact absurd (ag G) z
 | none=>
  refine a1 (λb=>if b=Pt then some (iu Pt #[]) else if b=a then some (.frz { cls:=.type "list",data:=.seq vs.toArray } (.lst (ns.map V.int))) else none) (aj rfl) (λb J=>?_) (.inl (.inr ⟨{ cls:=.type "list",data:=.seq vs.toArray },by show(if a=Pt then _ else if a=a then _ else _)=_;rw[ag Ol,aj rfl]⟩)) (λb u z=>?_) (λb z=>?_) λ_=>hk
  . show(if b=Pt then _ else if b=a then _ else _)=_\/∃o xs,(if b=Pt then _ else if b=a then _ else _)=_;rw[ag J]
    by_cases G:b=a
    . exact .inr ⟨_,_,aj G⟩
    exact .inl (ag G)
  . have z:(if b=Pt then some (iu Pt #[]) else if b=a then some (.frz { cls:=.type "list",data:=.seq vs.toArray } (.lst (ns.map V.int))) else none)=some u:=z
    by_cases G:b=Pt
    . rw[aj G]at z;cases z;subst G;exact kY _ (aj rfl)
    rw[ag G]at z
    by_cases iQ:b=a
    . rw[aj iQ]at z;cases z;subst iQ;exact⟨ha,by rw[al];exact hl,vs,_,rv,ha⟩
    rw[ag iQ]at z;cases z
  have z:(if b=Pt then some (iu Pt #[]) else if b=a then some (HO.frz { cls:=.type "list",data:=.seq vs.toArray } (.lst (ns.map V.int))) else none)≠none:=z
  by_cases G:b=Pt
  . exact .inr G
  rw[ag G]at z
  by_cases iQ:b=a
  . exact .inl iQ
  rw[ag iQ]at z;exact absurd rfl z
theorem agF{l:W.OpenLaw}{n k:Nat}{q:Program}{a1:Ls}{XP:(Mv)->Heap->Prop}{J:World->Heap->Prop}{d:DefRec}{K:Params->Fg}{CX:World->g0}{sp:World->Sp}{x a_:Str}{lpos:Pos}{Pt:Addr}
 (hn:l.most=some n) (xD:n<=sizeLine) (xM:d.params.defaults=[]) (hr:ci k callerA)
 (hY:∀(w:World) (h:Heap),J w h->(K w.params).In h/\h.get? Pt=some (tabObj #[]))
 (F:∀(w:World) (mg:Mv) (j:Addr) (h:Heap),(K w.params).In h->h.Ns mainGlobals mg->mg d.name=some (.ref j) ->
  ∃(fd:Fy) (c:Addr),(∀(s:Shared) (u:Value),BindsTo s fd ⟨[u],[]⟩ [(x,u)])/\W.codeHdIn (K w.params) c Pt=true/\(K w.params).lookup Pt=none /\
   ∀base:Heap,(K w.params).In base->base.Ns mainGlobals mg->base.BuiltinsAt mg Pt->au l.prog w (K w.params) mg base (CX w) k j fd [x] (sp w))
 (ju:∀(w:World) (H:Hp) (a:Addr) (ns:List Int),ns.length<=n->H Pt=some (iu Pt #[])->aa (K w.params) H a (ns.map V.int)->sp w [.ref a] H (λv H'=>v=.bl true/\aE H' Pt lpos a_) λ_ _ _=>False)
 (Gb:∀(w:World) (H:Hp) (s:Shared) (e:Value) (s':Shared),CX w [] H s (λ_ _ _=>False) e s'->False) :
 W.WalkO q a1 XP J l.row.toRowW d [] (λf vs=>PySem.call f vs):=by
 refine Att.aa1 hn xM λw s₀ s₁ mg mb j o pm cd a2 a vs ns G Y ho hd i4 xN tY a0 O hg=>?_;obtain⟨z,hP⟩:=hY w _ Y;obtain⟨fd,c,hb,hC,U,hF⟩:=F w mg j _ z G.T.g xN;exact agz z G.T.g G.T.b G.T.builtins G.T.nolimit hg G.T.bmain hP (W.codeHd_of_K z hC) U tY a0 (bX O xD) hr hF hb (λH hO hS=>ju w H a ns O hO hS) λH e s'=>Gb w H s₁ e s'
end
end L2
namespace HT
section
open PySem.SeqAt
open PySem.AutoSeq1 (wpAny_loadPart')
open PySem.MeetsSeq PySem.MeetsSeq2 PySem.MeetsSeq3
variable {P:Program}{w:World}{A:Around}{s:Shared}
def rh(P:Program)(w:World)(A:Around)(s:Shared)(y x:Value):Prop:=∀(E:VP) (Q:Bool->Shared->Prop),Q true s->wpAny (model P w) A (eqBool y x) Q E s
theorem rh.of{y x:Value}(h:EqAt A s y x true):rh P w A s y x:=λE Q q=>h P w E Q q
theorem rh.refs{l b:Addr}(ne:l≠b)(h:∀(E Q:VP),Q (.bool true) s->wpAny (model P w) A (richCompare .Eq (.ref l) (.ref b)) Q E s):rh P w A s (.ref l) (.ref b):=λE Q q=>by
 unfold eqBool;refine jo (JW (λe=>absurd (by have z:=eq_of_beq e;injection z) ne) λ_=>?_);exact ae (h E _ (oH q))
end
end HT
abbrev asX:PySem.Str:="self"
abbrev asY:PySem.Str:="shelf"
abbrev asZ:PySem.Str:="path"
abbrev as0:PySem.Str:="_law_number"
abbrev as1:PySem.Str:="parcels"
abbrev as2:PySem.Str:="parcel"
abbrev as3:PySem.Str:="disk"
abbrev as4:PySem.Str:="_law_cell"
abbrev as5:PySem.Str:="name"
abbrev as6:PySem.Str:="chosen"
abbrev as7:PySem.Str:="_law_script"
abbrev as8:PySem.Str:="files"
abbrev as9:PySem.Str:="_law_names"
abbrev ata:PySem.Str:="make"
abbrev atb:PySem.Str:="text"
abbrev atc:PySem.Str:="choices"
abbrev atd:PySem.Str:="lines"
abbrev ate:PySem.Str:="_law_k"
abbrev atf:PySem.Str:="other"
abbrev atg:PySem.Str:="rank"
abbrev ath:PySem.Str:="goal"
abbrev ati:PySem.Str:="name_behind"
abbrev atj:PySem.Str:="stand"
abbrev atk:PySem.Str:="_law_parcels"
abbrev atl:PySem.Str:="_law_house"
abbrev atm:PySem.Str:="tree"
abbrev atn:PySem.Str:="common"
abbrev ato:PySem.Str:="own"
abbrev atp:PySem.Str:="_law_way"
abbrev atq:PySem.Str:="_law_some"
abbrev atr:PySem.Str:="needs"
abbrev ats:PySem.Str:="number"
abbrev att:PySem.Str:="change"
abbrev atu:PySem.Str:="second"
abbrev atv:PySem.Str:="first"
abbrev atw:PySem.Str:="block"
abbrev atx:PySem.Str:="abcdefghijklmnopqrstuvwxyz"
abbrev aty:PySem.Str:="now"
abbrev atz:PySem.Str:="_law_one"
abbrev atA:PySem.Str:="shuts"
abbrev atB:PySem.Str:="group"
abbrev atC:PySem.Str:="come_up"
abbrev atD:PySem.Str:="base"
abbrev atE:PySem.Str:="brought"
abbrev atF:PySem.Str:="_law_parcels_apart"
abbrev atG:PySem.Str:="_law_shelf"
abbrev atH:PySem.Str:="offers"
abbrev atJ:PySem.Str:="names"
abbrev atK:PySem.Str:="_law_disk"
abbrev atL:PySem.Str:="_law_goal"
abbrev atM:PySem.Str:="kind"
abbrev atN:PySem.Str:="_law_p"
abbrev atO:PySem.Str:="_law_start"
abbrev atP:PySem.Str:="others"
abbrev atQ:PySem.Str:="groups"
abbrev atR:PySem.Str:="_law_name_here"
abbrev atU:PySem.Str:="shelved"
namespace K74
open L2
variable {x:Str}{H:Hp}{o:HO}{n:Int}{L:List Addr}{α β:Type}{kvs:List (ao×V)}{c d:Nat}{ms:List Int}
structure eY(C dx x:Addr)(H Hk:Hp)(fl:List (Str×V)):Prop where
 same:∀b o,H b=some o->b≠x->Hk b=some o
 free:∀b,Hk b=none->H b=none
 ob:Hk x=some (.ins C dx fl)
section
variable {K:Fg}{C dx x p a:Addr}{Hk:Hp}{fl ri:List (Str×V)} {o':HO}{xs:Lv}
theorem eY.put(S:eY C dx x H Hk fl):eY C dx x H (af Hk x (.ins C dx ri)) ri:=
 ⟨λb o e j=>by rw[aX j];exact S.same b o e j,λb e=>S.free b (jY e).2,aD⟩
theorem eY.lay(S:eY C dx x H Hk fl)(z:Hk p=none):eY C dx x H (af Hk p o) fl:=
 ⟨λb u e j=>by rw[aX (aI (S.same b u e j) z)];exact S.same b u e j,λb e=>S.free b (jY e).2,by rw[aX (aI S.ob z)];exact S.ob⟩
theorem eY.sqL(S:eY C dx x H Hk fl)(j:H x=some (.ins C dx ri))(h:aa K H a xs):aa K Hk a xs:=by
 rcases h with(h | ⟨o,h⟩) | h
 . exact .inl (.inl (S.same _ _ h (aU h j (by intro z;cases z))))
 . exact .inl (.inr ⟨o,S.same _ _ h (aU h j (by intro z;cases z))⟩)
 exact .inr h
theorem eY.sqT(S:eY C dx x H Hk fl)(j:H x=some (.ins C dx ri))(h:ba K H a xs):ba K Hk a xs:=by
 rcases h with(h | ⟨o,h⟩) | h
 . exact .inl (.inl (S.same _ _ h (aU h j (by intro z;cases z))))
 . exact .inl (.inr ⟨o,S.same _ _ h (aU h j (by intro z;cases z))⟩)
 exact .inr h
theorem ay(h:Hk a=some o)(n:a≠p):af Hk p o' a=some o:=by rw[aX n];exact h
theorem lp{f:Str}{v:V}{n:Nat}(h:fl.length<=n):(aw f v fl).length<=n+1:=bX (Ep _ _ _) (by omega)
theorem few{n:Nat}(h:fl.length<=n)(h2:n<1000):fl.length<1000:=by omega
theorem pF:([]:List (Str×V)).length<=0:=aG _
end
def msk(L:List Addr)(H:Hp):Hp:=λb=>if b∈L then none else H b
theorem bj:ac (msk L H) H:=λb o e=>by
 unfold msk at e;split at e
 . cases e
 exact e
theorem fj{H':Hp}(s:ac H H'):ac (msk L H) (msk L H'):=λb o e=>by
 unfold msk at e ⊢;split at e
 . cases e
 rw[ag ‹_›];exact s _ _ e
theorem yw(h:p∈L):msk L (af H p o)=msk L H:=by
 funext b
 unfold msk;split
 . rfl
 have j:¬b∈L:=‹_›;rw[aX (λz=>j (by rw[z];exact h))]
theorem cL(n:b∉L)(h:H b=some o):msk L H b=some o:=by
 unfold msk;rw[ag n];exact h
theorem BD{j:List Addr}(h:∀b∈j,b∈L):ac (msk L H) (msk j H):=λb o e=>by
 unfold msk at e ⊢;split at e
 . cases e
 rw[ag (λz=>‹¬b∈L› (h b z))];exact e
def gO(H:Hp)(L:List Addr):Prop:=∀b∈L,∃o,H b=some o/\∀vs,o≠.tup vs
theorem gO.free(h:gO H L){b:Addr}(n:H b=none):b∉L:=λz=>by
 obtain⟨o,e,_⟩:=h b z;rw[n]at e;cases e
theorem gO.tup(h:gO H L){b:Addr}{vs:Lv}(n:H b=some (.tup vs)):b∉L:=λz=>by
 obtain⟨o,e,q⟩:=h b z;rw[n]at e;cases e;exact q _ rfl
theorem yx{F:α->β->Prop}:∀{xs:List α}{ys:List β},Paired F xs ys->∀{i:Nat}{y:β},ys[i]?=some y->∃x,xs[i]?=some x/\F x y
 | _,_,.nil,i,y,h=>by cases h
 | _,_,.cons r t,0,y,h=>by cases h;exact⟨_,rfl,r⟩
 | _,_,.cons r t,i+1,y,h=>yx t (i:=i) h
theorem eZ{F:α->β->Prop}:∀{xs:List α}{ys:List β},Paired F xs ys->∀{i:Nat}{x:α},xs[i]?=some x->∃y,ys[i]?=some y/\F x y
 | _,_,.nil,i,y,h=>by cases h
 | _,_,.cons r t,0,y,h=>by cases h;exact⟨_,rfl,r⟩
 | _,_,.cons r t,i+1,y,h=>eZ t (i:=i) h
theorem bK{F:α->β->Prop}:∀{xs:List α}{ys:List β},Paired F xs ys->xs.length=ys.length
 | _,_,.nil=>rfl
 | _,_,.cons _ t=>fc (· + 1) (bK t)
theorem jd{F:α->β->Prop}{x:α}{y:β}(h:F x y):∀{xs:List α}{ys:List β},Paired F xs ys->Paired F (xs++[x]) (ys++[y])
 | _,_,.nil=>.cons h .nil
 | _,_,.cons r t=>.cons r (jd h t)
theorem Op{F:α->β->Prop}:∀{xs:List α}{ys:List β},xs.length=ys.length->(∀(i:Nat) (y:β),ys[i]?=some y->∃x,xs[i]?=some x/\F x y)->Paired F xs ys
 | [],[],_,_=>.nil
 | [],_::_,h,_=>nomatch h
 | _::_,[],h,_=>nomatch h
 | x::xs,y::ys,h,k=>by
  obtain⟨j,e,r⟩:=k 0 y rfl;cases e;exact .cons r (Op (Nat.succ.inj h) λi z hz=>k (i+1) z hz)
theorem Oq:∀(p:Str) (l:Ls),risingS p l=true->(p::l).Pairwise (λa b=>a.cps.toList<=b.cps.toList)
 | p,[],_=>List.pairwise_singleton _ _
 | p,x::r,h=>by
  have h:(!ltCps x.cps.toList p.cps.toList && risingS x r)=true:=h;obtain⟨h1,h2⟩:=wX.mp h;have j:=Oq x r h2;have le:p.cps.toList<=x.cps.toList:=by
   rw[PyProof.Rows.ltCps_eq]at h1;intro z;rw[bL z]at h1;cases h1
  refine List.pairwise_cons.mpr ⟨λy hy=>?_,j⟩
  rcases be.mp hy with e | hy
  . rw[e];exact le
  exact List.le_trans le (List.rel_of_pairwise_cons j hy)
theorem Gd:∀{l:Ls},sortedS l=true->l.Pairwise (λa b=>a.cps.toList<=b.cps.toList)
 | [],_=>.nil
 | x::r,h=>Oq x r h
theorem agG{a b:Ls}(p:a.Perm b)(h1:sortedS a=true)(h2:sortedS b=true):a=b:=by
 refine ars (λx y _ _ h h'=>?_) (Gd h1) (Gd h2) p;have e:=Wd h h';obtain⟨⟨x⟩⟩:=x;obtain⟨⟨y⟩⟩:=y;have e:x=y:=e;rw[e]
def bR(tr:List (Str×β))(x:Str)(ls:β):List (Str×β):=if (tr.any λf=>decide (f.1=x))=true then tr.map (λf=>if f.1=x then(f.1,ls) else f) else tr++[(x,ls)]
theorem mv{tr:List (Str×β)}{ls:β}{f:Str×β}(h:f∈bR tr x ls):f=(x,ls)\/f∈tr:=by
 unfold bR at h;split at h
 . obtain⟨g,j,e⟩:=cC.mp h;split at e
   . rename_i z;left;rw[<-e,z]
   right;rw[<-e];exact j
 rcases b9.mp h with h | h
 . exact .inr h
 exact .inl (bF.mp h)
theorem Ot(tr:List (Str×β))(x:Str)(ls:β):(bR tr x ls).map (·.1)=if (tr.any λf=>decide (f.1=x))=true then tr.map (·.1) else tr.map (·.1)++[x]:=by
 unfold bR;split
 . rw[lL];refine Ke λf _=>?_;show(if f.1=x then(f.1,ls) else f).1=f.1;split<;>rfl
 rw[dJ];rfl
theorem rj{tr:List (Str×β)}:(tr.any λf=>decide (f.1=x))=true↔x∈tr.map (·.1):=by
 rw[vt,cC];constructor
 . rintro⟨f,hf,e⟩;exact⟨f,hf,cW e⟩
 rintro⟨f,hf,e⟩;exact⟨f,hf,bL e⟩
theorem kZ{tr:List (Str×β)}{ls:β}(h:(tr.map (·.1)).Nodup):((bR tr x ls).map (·.1)).Nodup:=by
 rw[Ot];split
 . exact h
 rename_i G;rw[sV];refine⟨h,by simp,λa j b z=>?_⟩;rw[bF.mp z];intro e;exact G (rj.mpr (e▸j))
theorem Ge{tr:List (Str×β)}{y:Str}{ls:β}(h:y=x\/y∈tr.map (·.1)):y∈(bR tr x ls).map (·.1):=by
 rw[Ot];split
 . rename_i j
   rcases h with h | h
   . rw[h];exact rj.mp j
   exact h
 rcases h with h | h
 . rw[h];exact fe _ (bF.mpr rfl)
 exact wO _ h
theorem jC(tr:List (Str×β))(x:Str)(ls:β):(bR tr x ls).length<=tr.length+1:=by
 unfold bR;split
 . rw[al];omega
 rw[bH,jp];omega
theorem jD{F:ao×V->Str×β->Prop}(J:∀kv f,F kv f->kv.1=Sum.inr f.1){ls:β}{v:V}(U:F (.inr x,v) (x,ls)){tr:List (Str×β)}(h:Paired F kvs tr):Paired F (cK kvs (.inr x) v) (bR tr x ls):=by
 have e:(kvs.any λkv=>decide (kv.1=Sum.inr x))=(tr.any λf=>decide (f.1=x)):=by
  induction h with
  | nil=>rfl
  | cons r t G=>
   rw[sj,sj,G,J _ _ r]
   congr 1
   exact xb.mpr ⟨λz=>mL z,λz=>by rw[z]⟩
 unfold cK bR;rw[e];split
 . clear e;rename_i hh;clear hh
   induction h with
   | nil=>exact .nil
   | @cons kv f kvs tr r t G=>
    refine .cons ?_ G;have O:=J _ _ r;dsimp only
    by_cases j:f.1=x
    . have Y:kv.1=Sum.inr x:=by rw[O,j]
      rw[aj Y,aj j,Y,j];exact U
    rw[ag (λz=>j (mL (O.symm.trans z))),ag j];exact r
 exact jd U h
theorem uz{F:ao×V->Str×β->Prop}(j:∀kv f,F kv f->kv.1=Sum.inr f.1){tr:List (Str×β)}(h:Paired F kvs tr):ug kvs (tr.map (·.1)):=by
 unfold ug
 induction h with
 | nil=>rfl
 | cons r t z=>rw[bS,bS,bS,z,j _ _ r]
theorem pG{F:ao×V->Str×β->Prop}(J:∀kv f,F kv f->kv.1=Sum.inr f.1){tr:List (Str×β)}(h:Paired F kvs tr)(G:x∈tr.map (·.1)):∃v ls,bc kvs (.inr x)=some v/\(x,ls)∈tr/\F (.inr x,v) (x,ls):=by
 induction h with
 | nil=>cases G
 | @cons kv f kvs tr r t O=>
  have j:=J _ _ r
  by_cases e:f.1=x
  . refine⟨kv.2,f.2,by rw[jX (j.trans (by rw[e]))],?_,?_⟩
    . rw[<-e];exact bQ
    rw[<-e,<-j];exact r
  rcases be.mp G with z | z
  . exact absurd z.symm e
  obtain⟨v,ls,a,b,c⟩:=O z;exact⟨v,ls,by rw[i7 (λq=>e (mL (j.symm.trans q)))];exact a,bU _ b,c⟩
theorem yA{F:ao×V->Str×β->Prop}(z:∀kv f,F kv f->kv.1=Sum.inr f.1){tr:List (Str×β)}(h:Paired F kvs tr)(j:x∉tr.map (·.1)):bc kvs (.inr x)=none:=by
 induction h with
 | nil=>rfl
 | @cons kv f kvs tr r t J=>
  have G:=z _ _ r;rw[bS,be,qw]at j;rw[i7 (λq=>j.1 (mL (G.symm.trans q)).symm)];exact J j.2
theorem nV{tr:List (Str×β)}(h:(tr.map (·.1)).Nodup){a b:β}(ha:(x,a)∈tr)(hb:(x,b)∈tr):a=b:=by
 induction tr with
 | nil=>cases ha
 | cons f tr G=>
  rw[bS,qo]at h
  rcases be.mp ha with z | ha
  . rcases be.mp hb with j | hb
    . rw[<-z]at j;exact(Prod.mk.inj j).2.symm
    exact absurd (gw (f:=(·.1)) hb) (by rw[<-z]at h;exact h.1)
  rcases be.mp hb with j | hb
  . exact absurd (gw (f:=(·.1)) ha) (by rw[<-j]at h;exact h.1)
  exact G h.2 ha hb
theorem Ou:∀{p q x y:List Nat},c∉p->c∉q->p++c::x=q++c::y->p=q/\x=y
 | [],[],x,y,_,_,h=>⟨rfl,(tm h).2⟩
 | [],b::q,x,y,_,hq,h=>absurd ((tm h).1▸bQ) hq
 | a::p,[],x,y,hp,_,h=>absurd ((tm h).1.symm▸bQ) hp
 | a::p,b::q,x,y,hp,hq,h=>by
  have h:=tm h;obtain⟨e1,e2⟩:=Ou (λz=>hp (bU _ z)) (λz=>hq (bU _ z)) h.2;exact⟨by rw[h.1,e1],e2⟩
theorem yB{a b:Str}(h:a.cps.toList=b.cps.toList):a=b:=Str.ext' (Array.toList_inj.mp h)
theorem mw(a b:Str):(a++b).cps.toList=a.cps.toList++b.cps.toList:=by rw[Str.cps_append,Array.toList_append]
theorem nW(c:Nat)(p q:Str)(r:Ls):(Str.join ⟨#[c]⟩ (p::q::r)).cps.toList=p.cps.toList++c::(Str.join ⟨#[c]⟩ (q::r)).cps.toList:=by
 show(p++⟨#[c]⟩++Str.join ⟨#[c]⟩ (q::r)).cps.toList=_;rw[mw,mw,jR];rfl
theorem Ov:∀{ps j:Ls},ps≠[]->j≠[]->(∀p∈ps,c∉p.cps.toList)->(∀q∈j,c∉q.cps.toList)->Str.join ⟨#[c]⟩ ps=Str.join ⟨#[c]⟩ j->ps=j
 | [],_,h,_,_,_,_=>absurd rfl h
 | _::_,[],_,h,_,_,_=>absurd rfl h
 | [p],[q],_,_,_,_,e=>by
  have e:p=q:=e;rw[e]
 | [p],q::q'::r,_,_,hp,_,e=>by
  have e:=fc (λx:Str=>x.cps.toList) e;have e:p.cps.toList=(Str.join ⟨#[c]⟩ (q::q'::r)).cps.toList:=e;rw[nW]at e;exact absurd (by rw[e];exact fe _ bQ) (hp p bQ)
 | p::p'::r,[q],_,_,_,hq,e=>by
  have e:=fc (λx:Str=>x.cps.toList) e;have e:(Str.join ⟨#[c]⟩ (p::p'::r)).cps.toList=q.cps.toList:=e;rw[nW]at e;exact absurd (by rw[<-e];exact fe _ bQ) (hq q bQ)
 | p::p'::r,q::q'::t,_,_,hp,hq,e=>by
  have e:=fc (λx:Str=>x.cps.toList) e;have e:(Str.join ⟨#[c]⟩ (p::p'::r)).cps.toList=(Str.join ⟨#[c]⟩ (q::q'::t)).cps.toList:=e;rw[nW,nW]at e;obtain⟨e1,e2⟩:=Ou (hp p bQ) (hq q bQ) e;rw[yB e1,Ov (xf _ _) (xf _ _) (λz hz=>hp z (bU _ hz)) (λz hz=>hq z (bU _ hz)) (yB e2)]
theorem agH(x y:Str):Txt.split x y≠[]:=λz=>by
 have:=split_pos x y;rw[z]at this;exact absurd this (by decide)
theorem BE{ps:Ls}(ne:ps≠[])(h:∀p∈ps,c∉p.cps.toList):Txt.split (Str.join ⟨#[c]⟩ ps) ⟨#[c]⟩=ps:=
 Ov (agH _ _) ne (StrLaws.split_free _ _) h (StrLaws.join_split _ _)
def yC(x y:Str):Bool:=!decide (y.cps.toList<x.cps.toList)
def rm(lo hi:Str)(c:Nat):Bool:=if yC lo (q5 c)=true then yC (q5 c) hi else false
theorem Ox(a b:Nat):yC ⟨#[a]⟩ ⟨#[b]⟩=decide (a<=b):=by
 unfold yC;show(!decide ([b] < [a]))=_;rw[StrLaws.lt_cons_cons,StrLaws.lt_nil_nil,vq,si]
 by_cases h:b<a
 . rw[bL h,cq (by omega)];rfl
 rw[cq h,bL (by omega)];rfl
theorem BF(a b c:Nat):rm ⟨#[a]⟩ ⟨#[b]⟩ c=decide (a<=c/\c<=b):=by
 unfold rm q5;rw[Ox,Ox]
 by_cases h:a<=c
 . rw[bL h,aj rfl];exact xb.mpr ⟨λz=>⟨h,z⟩,λz=>z.2⟩
 rw[cq h,ag (by decide),cq (λz=>h z.1)]
theorem Oy(x:Str)(c:Nat):Txt.startswith x ⟨#[c]⟩=decide (x.cps.toList[0]?=some c):=by
 unfold Txt.startswith;rw[wQ,iH,Ai,Ai];exact StrLaws.subAt_one x c 0
def k9:Str:="\n"
def spS:Str:=" "
def lg:Str:="/"
def li:Str:="."
def ft:Str:="<"
def fw:Str:=">"
def aS:Str:="a"
def zS:Str:="z"
def Oz:Str:="~"
def BG:Str:="0"
def OA:Str:="9"
def gi:Str:="in"
def fU:Str:="choose"
def dW:Str:=ato
theorem Gf:k9=⟨#[10]⟩:=by decide +kernel
theorem rn:spS=⟨#[32]⟩:=by decide +kernel
theorem Gg:lg=⟨#[47]⟩:=by decide +kernel
theorem OB:li=⟨#[46]⟩:=by decide +kernel
theorem nX:ft=⟨#[60]⟩:=by decide +kernel
theorem pH:fw=⟨#[62]⟩:=by decide +kernel
theorem agI:aS=⟨#[97]⟩:=by decide +kernel
theorem agJ:zS=⟨#[122]⟩:=by decide +kernel
theorem agK:Oz=⟨#[126]⟩:=by decide +kernel
theorem Gh:BG=⟨#[48]⟩:=by decide +kernel
theorem OC:OA=⟨#[57]⟩:=by decide +kernel
theorem BH:gi=⟨#[105,110]⟩:=by decide +kernel
theorem BI:fU=⟨#[99,104,111,111,115,101]⟩:=by decide +kernel
theorem Gi:dW=⟨#[111,119,110]⟩:=by decide +kernel
def nY(x:Str):Bool:=decide (0<x.length/\x.length<=8) && x.cps.toList.all (rm aS zS)
def uA(x:Str):Bool:=decide ((Txt.split x lg).length<=4) && (Txt.split x lg).all nY
def OD(c:Nat):Bool:=rm spS Oz c && decide (c≠37)
def Gj(x:Str):Bool:=decide (x.length<=60) && x.cps.toList.all OD
def v4(x:Str):Bool:=x.cps.toList.all (rm BG OA)
def v5(x:Str):Option Int:=if (decide (0<x.length/\x.length<=10) && v4 x)=true then(if (Txt.startswith x BG && decide (x≠BG))=true then none else if 1000000000<(NumText.digitsVal x.cps.toList:Int) then none else some (NumText.digitsVal x.cps.toList)) else none
def uB(x:Str):Bool:=decide ((Txt.split x li).length<=3) && (Txt.split x li).all λp=>(v5 p).isSome
def jE(j:Str):Bool:=
 if (Txt.startswith j ft || Txt.startswith j fw)=true then Gj (Txt.slice j (some 1) none) else
 match Txt.split j spS with
 | [w,p]=>decide (w=dW) && uA p
 | [w,n,x]=>!decide (w=dW) && nY n && (if w=gi then uB x else decide (w=fU) && nY x)
 | _=>false
theorem agL(h:v4 x=true):NumText.AllDigits x.cps.toList:=λc j=>by
 have:=gW.mp h c j;rw[Gh,OC,BF]at this;exact cW this
theorem agM(h:v4 x=true)(h1:0<x.length)(h2:x.length<=4300):PySem.intText? x=some ((NumText.digitsVal x.cps.toList:Nat):Int):=
 PySem.intText_digits (agL h) (λz=>by
  have:x.cps.toList.length=x.length:=fm;rw[z]at this;simp at this;omega) h2
inductive Row
 | les (x:Str)
 | mor (x:Str)
 | inn (n t:Str)
 | cho (c n:Str)
 | own (p:Str)
def hX(j:Str):Row:=
 if Txt.startswith j ft=true then .les (Txt.slice j (some 1) none) else if Txt.startswith j fw=true then .mor (Txt.slice j (some 1) none) else
 if (Txt.split j spS).getD 0 Str.empty=gi then .inn ((Txt.split j spS).getD 1 Str.empty) ((Txt.split j spS).getD 2 Str.empty) else
 if (Txt.split j spS).getD 0 Str.empty=fU then .cho ((Txt.split j spS).getD 1 Str.empty) ((Txt.split j spS).getD 2 Str.empty) else .own ((Txt.split j spS).getD 1 Str.empty)
def rp(t:Str):List Int:=(Txt.split t li).map λp=>((NumText.digitsVal p.cps.toList:Nat):Int)
structure Nt where
 ch:List (Str×List Int):=[]
 cs:List (Str×Str):=[]
 ow:List (Str×(Ls×Ls)):=[]
 ck:Option Str:=none
 b:Ls:=[]
 m:Ls:=[]
def iw(ow:List (Str×(Ls×Ls)))(ck:Option Str)(r:Ls×Ls):List (Str×(Ls×Ls)):=
 match ck with
 | none=>ow
 | some p=>bR ow p r
def Nt.step(s:Nt)(j:Str):Nt:=
 match hX j with
 | .les x=>{ s with ow:=iw s.ow s.ck (s.b++[x],s.m),b:=s.b++[x] }
 | .mor x=>{ s with ow:=iw s.ow s.ck (s.b,s.m++[x]),m:=s.m++[x] }
 | .inn n t=>{ s with ch:=bR s.ch n (rp t) }
 | .cho c n=>{ s with cs:=bR s.cs c n }
 | .own p=>{ s with ow:=bR s.ow p ([],[]),ck:=some p,b:=[],m:=[] }
def gF(rows:Ls):Nt:=rows.foldl Nt.step {}
def iR(n:Int):Str:=toString n
def jF(ms:List Int):Str:=Str.join li (ms.map iR)
def iy(e:Str×List Int):Str:=Str.join spS [gi,e.1,jF e.2]
def hZ(e:Str×Str):Str:=Str.join spS [fU,e.1,e.2]
def eh(e:Str×(Ls×Ls)):Ls:=[Str.join spS [dW,e.1]]++e.2.1.map (ft ++ ·)++e.2.2.map (fw ++ ·)
def fV(ch:List (Str×List Int))(cs:List (Str×Str))(ow:List (Str×(Ls×Ls))):Ls:=ch.map iy++cs.map hZ++ow.flatMap eh
def rowsOf(t:Str):Ls:=if t=Str.empty then [] else Txt.split t k9
structure cM(x:Str):Prop where
 lo:1<=x.length
 hi:x.length<=8
 az:∀c∈x.cps.toList,97<=c/\c<=122
structure gj(x:Str):Prop where
 hi:x.length<=60
 sg:∀c∈x.cps.toList,32<=c/\c<=126/\c≠37
structure fW(ms:List Int):Prop where
 lo:1<=ms.length
 hi:ms.length<=3
 rg:∀n∈ms,0<=n/\n<=1000000000
def dB(x:Str):Prop:=∃ps:Ls,x=Str.join lg ps/\1<=ps.length/\ps.length<=4/\∀p∈ps,cM p
theorem cM.name(h:cM x):nY x=true:=by
 unfold nY;rw[bL ⟨h.lo,h.hi⟩,wV,gW];intro c j;rw[agI,agJ,BF];exact bL (h.az c j)
theorem gj.line(h:gj x):Gj x=true:=by
 unfold Gj;rw[bL h.hi,wV,gW];intro c z;obtain⟨h1,h2,j⟩:=h.sg c z;unfold OD;rw[rn,agK,BF,bL ⟨h1,h2⟩,bL j];rfl
theorem OE{l:List α}(h:1<=l.length):l≠[]:=λz=>by
 rw[z,jQ]at h;omega
theorem dB.path(h:dB x):uA x=true:=by
 obtain⟨ps,rfl,h1,h2,z⟩:=h;have e:Txt.split (Str.join lg ps) lg=ps:=by
  rw[Gg];exact BE (OE h1) λp j G=>by have:=(z p j).az _ G;omega
 unfold uA;rw[e,bL h2,wV,gW];exact λp j=>(z p j).name
theorem yD:∀{ps:Ls}{d:Nat},d∈(Str.join ⟨#[c]⟩ ps).cps.toList->d=c\/∃p∈ps,d∈p.cps.toList
 | [],d,h=>by
  have h:d∈([]:List Nat):=h;cases h
 | [p],d,h=>.inr ⟨p,bQ,h⟩
 | p::q::r,d,h=>by
  rw[nW]at h
  rcases b9.mp h with h | h
  . exact .inr ⟨p,bQ,h⟩
  rcases be.mp h with h | h
  . exact .inl h
  rcases yD h with h | ⟨z,hz,hd⟩
  . exact .inl h
  exact .inr ⟨z,bU _ hz,hd⟩
theorem dB.signs(h:dB x):∀c∈x.cps.toList,c=47\/(97<=c/\c<=122):=by
 obtain⟨ps,rfl,h1,h2,z⟩:=h;intro c j;rw[Gg]at j
 rcases yD j with e | ⟨p,G,hd⟩
 . exact .inl e
 exact .inr ((z p G).az c hd)
theorem agN:∀(m:Nat) (r:List Char),Nat.toDigits 10 m='0'::r->m=0:=by
 intro m
 induction m using Nat.strongRecOn with
 | _ m J=>
  intro r h
  by_cases j:m<10
  . rw[Nat.toDigits_of_lt_base j]at h;have h1:=(tm h).1;have:∀d:Nat,d<10->Nat.digitChar d='0'->d=0:=by decide
    exact this m j h1
  have z:m % 10<10:=DE m (by decide);have t:Nat.toDigits 10 (m / 10)++Nat.toDigits 10 (m % 10)=Nat.toDigits 10 (10 * (m / 10)+m % 10):=Nat.toDigits_append_toDigits (by decide) (by omega) z;rw[Nat.div_add_mod,h]at t;cases hd:Nat.toDigits 10 (m / 10) with
  | nil=>
   have:=art 10 (m / 10);rw[hd]at this;exact absurd this (by decide)
  | cons a O=>
   rw[hd]at t;have G:a='0':=(tm t).1;subst G;have:=J (m / 10) (by omega) O hd;omega
theorem yE(h0:0<=n):(iR n).cps.toList=(Nat.toDigits 10 n.toNat).map Char.toNat:=by
 obtain⟨m,rfl⟩:=Int.eq_ofNat_of_zero_le h0;exact W.KIN.signs_num m
theorem Gk(h0:0<=n):NumText.AllDigits (iR n).cps.toList:=by
 intro c j;rw[yE h0]at j;obtain⟨ch,z,e⟩:=cC.mp j;have r:=digit_range (Nat.isDigit_of_mem_toDigits (by decide) (by decide) z);rw[<-e];exact r
theorem agO(h0:0<=n):v4 (iR n)=true:=by
 unfold v4;rw[gW];intro c j;rw[Gh,OC,BF];exact bL (Gk h0 c j)
theorem OF(h0:0<=n):((NumText.digitsVal (iR n).cps.toList:Nat):Int)=n:=by
 rw[yE h0,W.KIN.val_back];omega
theorem OG(h0:0<=n)(h1:n<=1000000000):1<=(iR n).length/\(iR n).length<=10:=by
 refine⟨?_,W.KT.len_num h0 (by omega)⟩;have e:(iR n).cps.toList.length=(iR n).length:=fm;rw[<-e,yE h0,al];exact art 10 _
theorem agP(h0:0<=n)(h1:n<=1000000000):v5 (iR n)=some n:=by
 obtain⟨G,J⟩:=OG h0 h1;unfold v5;rw[bL ⟨G,J⟩,agO h0,aj (by rfl),OF h0,ag (by omega:¬1000000000<n)];rw[ag];rw[Gh,Oy,iH,Ai,Ai,yE h0];rintro⟨h,ne⟩;refine ne (yB ?_);rw[yE h0];cases hd:Nat.toDigits 10 n.toNat with
 | nil=>rw[hd]at h;cases h
 | cons a r=>
  rw[hd]at h;have h:a.toNat=48:=gU h;have j:a='0':=by
   apply Char.ext;apply UInt32.toNat.inj;exact h
  rw[j]at hd;have z:=agN _ _ hd;rw[z]at hd;have hd:['0']=a::r:=by rw[j];exact hd
  rw[<-hd];rfl
theorem fW.split(h:fW ms):Txt.split (jF ms) li=ms.map iR:=by
 unfold jF;rw[OB];refine BE (λz=>OE h.lo (List.map_eq_nil_iff.mp z)) λp J j=>?_;obtain⟨n,G,rfl⟩:=cC.mp J;have:=Gk (h.rg n G).1 _ j;omega
theorem fW.good(h:fW ms):uB (jF ms)=true:=by
 unfold uB;rw[h.split,al,bL h.hi,wV,gW];intro p z;obtain⟨n,j,rfl⟩:=cC.mp z;rw[agP (h.rg n j).1 (h.rg n j).2];rfl
theorem fW.back(h:fW ms):rp (jF ms)=ms:=by
 unfold rp;rw[h.split,lL];exact(Ke λn j=>OF (h.rg n j).1).trans (List.map_id _)
theorem fW.signs(h:fW ms):∀c∈(jF ms).cps.toList,46<=c/\c<=57:=by
 intro c j;unfold jF at j;rw[OB]at j
 rcases yD j with e | ⟨p,G,hd⟩
 . omega
 obtain⟨n,z,rfl⟩:=cC.mp G;have:=Gk (h.rg n z).1 c hd;omega
theorem Gm(x:Str)(l u:Option Int):Txt.slice x l u=PySem.StrLaws.sliceText x l u:=rfl
theorem BJ(x:Str)(c:Nat):Txt.slice (⟨#[c]⟩++x) (some 1) none=x:=by
 apply yB;have e:(⟨#[c]⟩++x:Str).cps.toList=c::x.cps.toList:=by rw[mw];rfl
 have h:=PySem.StrLaws.sliceText_from (x:=⟨#[c]⟩++x) (i:=1) ⟨by decide,by rw[e,cr];omega⟩;rw[Gm,h,e];show(List.take _ x.cps.toList)=x.cps.toList;refine VO ?_;rw[cr];omega
theorem uC{r:List Nat}(e:x.cps.toList=d::r)(c:Nat):Txt.startswith x ⟨#[c]⟩=decide (d=c):=by
 rw[Oy,e];exact xb.mpr ⟨λz=>gU z,λz=>by rw[z];rfl⟩
theorem BK(x:Str):(ft++x).cps.toList=60::x.cps.toList:=by rw[nX,mw];rfl
theorem yF(x:Str):(fw++x).cps.toList=62::x.cps.toList:=by rw[pH,mw];rfl
theorem agQ(h:gj x):jE (ft++x)=true:=by
 unfold jE;have e:Txt.startswith (ft++x) ft=true:=by
  have:=uC (BK x) 60;rw[<-nX]at this;rw[this];rfl
 rw[e,VG,aj rfl]
 conv=>lhs;arg 1;rw[nX,BJ]
 exact h.line
theorem agR(h:gj x):jE (fw++x)=true:=by
 unfold jE;have e:Txt.startswith (fw++x) fw=true:=by
  have:=uC (yF x) 62;rw[<-pH]at this;rw[this];rfl
 rw[e,Bool.or_true,aj rfl]
 conv=>lhs;arg 1;rw[pH,BJ]
 exact h.line
theorem agS(x:Str):hX (ft++x)=.les x:=by
 unfold hX;have e:Txt.startswith (ft++x) ft=true:=by
  have:=uC (BK x) 60;rw[<-nX]at this;rw[this];rfl
 rw[aj e]
 congr 1
 rw[nX,BJ]
theorem agT(x:Str):hX (fw++x)=.mor x:=by
 unfold hX;have e:Txt.startswith (fw++x) fw=true:=by
  have:=uC (yF x) 62;rw[<-pH]at this;rw[this];rfl
 have j:Txt.startswith (fw++x) ft=false:=by
  have:=uC (yF x) 60;rw[<-nX]at this;rw[this];rfl
 rw[ag (by rw[j];decide),aj e]
 congr 1
 rw[pH,BJ]
theorem yG{w:Str}{r:List Nat}(z:w.cps.toList=d::r)(J:d≠60)(O:d≠62){j:Ls}(h:∀p∈w::j,32∉p.cps.toList):Txt.split (Str.join spS (w::j)) spS=w::j/\Txt.startswith (Str.join spS (w::j)) ft=false/\Txt.startswith (Str.join spS (w::j)) fw=false:=by
 have hd:∃G,(Str.join spS (w::j)).cps.toList=d::G:=by
  cases j with
  | nil=>exact⟨r,z⟩
  | cons v j=>rw[rn,nW,z];exact⟨_,rfl⟩
 obtain⟨G,e⟩:=hd;refine⟨?_,?_,?_⟩
 . rw[rn];exact BE (xf _ _) h
 . rw[nX,uC e 60];exact cq J
 rw[pH,uC e 62];exact cq O
theorem BL{a b c:Str}(h1:32∉a.cps.toList)(h2:32∉b.cps.toList)(z:32∉c.cps.toList):∀p∈[a,b,c],32∉p.cps.toList:=by
 intro p j;simp only[be,fZ,f7]at j
 rcases j with rfl | rfl | rfl<;>assumption
theorem cM.no(h:cM x)(j:c<97):c∉x.cps.toList:=λz=>by have:=h.az c z;omega
theorem Gn(j:c<97):c∉gi.cps.toList:=by
 rw[BH];intro z;have z:c∈[105,110]:=z;simp at z;omega
theorem Go(j:c<97):c∉fU.cps.toList:=by
 rw[BI];intro z;have z:c∈[99,104,111,111,115,101]:=z;simp at z;omega
theorem OI(j:c<97):c∉dW.cps.toList:=by
 rw[Gi];intro z;have z:c∈[111,119,110]:=z;simp at z;omega
theorem fW.no(h:fW ms)(j:c<46):c∉(jF ms).cps.toList:=λz=>by have:=h.signs c z;omega
theorem dB.no(h:dB x)(j:c<47):c∉x.cps.toList:=λz=>by have:=h.signs c z;omega
theorem agV:gi≠dW:=by decide +kernel
theorem agW:fU≠dW:=by decide +kernel
theorem BM:fU≠gi:=by decide +kernel
theorem Gp:dW≠gi:=by decide +kernel
theorem Gq:dW≠fU:=by decide +kernel
theorem agX{e:Str×List Int}(h1:cM e.1)(h2:fW e.2):jE (iy e)=true:=by
 obtain⟨a,b,c⟩:=yG (w:=gi) (d:=105) (r:=[110]) (by rw[BH]) (by decide) (by decide) (BL (Gn (by decide)) (h1.no (by decide)) (h2.no (by decide)));unfold jE iy;rw[b,c,si,ag (by decide),a];dsimp only;rw[cq agV,h1.name,aj rfl,h2.good];rfl
theorem agY{e:Str×List Int}(h1:cM e.1)(h2:fW e.2):hX (iy e)=.inn e.1 (jF e.2):=by
 obtain⟨a,b,c⟩:=yG (w:=gi) (d:=105) (r:=[110]) (by rw[BH]) (by decide) (by decide) (BL (Gn (by decide)) (h1.no (by decide)) (h2.no (by decide)));unfold hX iy;rw[b,c,a,ag (by decide),ag (by decide)];rfl
theorem agZ{e:Str×Str}(h1:cM e.1)(h2:cM e.2):jE (hZ e)=true:=by
 obtain⟨a,b,c⟩:=yG (w:=fU) (d:=99) (r:=[104,111,111,115,101]) (by rw[BI]) (by decide) (by decide) (BL (Go (by decide)) (h1.no (by decide)) (h2.no (by decide)));unfold jE hZ;rw[b,c,si,ag (by decide),a];dsimp only;rw[cq agW,h1.name,ag BM,bL rfl,h2.name];rfl
theorem ag0{e:Str×Str}(h1:cM e.1)(h2:cM e.2):hX (hZ e)=.cho e.1 e.2:=by
 obtain⟨a,b,c⟩:=yG (w:=fU) (d:=99) (r:=[104,111,111,115,101]) (by rw[BI]) (by decide) (by decide) (BL (Go (by decide)) (h1.no (by decide)) (h2.no (by decide)));unfold hX hZ;rw[b,c,a,ag (by decide),ag (by decide)];rw[ag (show ¬[fU,e.1,e.2].getD 0 Str.empty=gi from BM),aj (show [fU,e.1,e.2].getD 0 Str.empty=fU from rfl)];rfl
theorem OJ{p:Str}(h:dB p):Txt.split (Str.join spS [dW,p]) spS=[dW,p]/\Txt.startswith (Str.join spS [dW,p]) ft=false/\Txt.startswith (Str.join spS [dW,p]) fw=false:=
 yG (w:=dW) (d:=111) (r:=[119,110]) (by rw[Gi]) (by decide) (by decide) λq j=>by
  simp only[be,fZ,f7]at j
  rcases j with rfl | rfl
  . exact OI (by decide)
  exact h.no (by decide)
theorem ag1{p:Str}(h:dB p):jE (Str.join spS [dW,p])=true:=by
 obtain⟨a,b,c⟩:=OJ h;unfold jE;rw[b,c,si,ag (by decide),a];dsimp only;rw[bL rfl,h.path];rfl
theorem ag2{p:Str}(h:dB p):hX (Str.join spS [dW,p])=.own p:=by
 obtain⟨a,b,c⟩:=OJ h;unfold hX;rw[b,c,a,ag (by decide),ag (by decide)];rw[ag (show ¬[dW,p].getD 0 Str.empty=gi from Gp),ag (show ¬[dW,p].getD 0 Str.empty=fU from Gq)];rfl
structure v6(ch:List (Str×List Int))(cs:List (Str×Str))(ow:List (Str×(Ls×Ls))):Prop where
 ch:∀e∈ch,cM e.1/\fW e.2
 cs:∀e∈cs,cM e.1/\cM e.2
 ow:∀e∈ow,dB e.1/\(∀x∈e.2.1,gj x)/\∀x∈e.2.2,gj x
theorem Gr{ch:List (Str×List Int)}{cs:List (Str×Str)}{ow:List (Str×(Ls×Ls))}(ok:v6 ch cs ow){r:Str}(h:r∈fV ch cs ow) :
 (∃e:Str×List Int,cM e.1/\fW e.2/\r=iy e)\/(∃e:Str×Str,cM e.1/\cM e.2/\r=hZ e)\/(∃p,dB p/\r=Str.join spS [dW,p])\/(∃x,gj x/\r=ft++x)\/∃x,gj x/\r=fw++x:=by
 unfold fV at h
 rcases b9.mp h with h | h
 . rcases b9.mp h with h | h
   . obtain⟨e,j,rfl⟩:=cC.mp h;exact .inl ⟨e,(ok.ch e j).1,(ok.ch e j).2,rfl⟩
   obtain⟨e,j,rfl⟩:=cC.mp h;exact .inr (.inl ⟨e,(ok.cs e j).1,(ok.cs e j).2,rfl⟩)
 obtain⟨e,j,hr⟩:=vx.mp h;obtain⟨h1,h2,G⟩:=ok.ow e j;unfold eh at hr
 rcases b9.mp hr with hr | hr
 . rcases b9.mp hr with hr | hr
   . exact .inr (.inr (.inl ⟨e.1,h1,bF.mp hr⟩))
   obtain⟨x,z,rfl⟩:=cC.mp hr;exact .inr (.inr (.inr (.inl ⟨x,h2 x z,rfl⟩)))
 obtain⟨x,z,rfl⟩:=cC.mp hr;exact .inr (.inr (.inr (.inr ⟨x,G x z,rfl⟩)))
theorem ag3{ch:List (Str×List Int)}{cs:List (Str×Str)}{ow:List (Str×(Ls×Ls))}(ok:v6 ch cs ow):∀r∈fV ch cs ow,jE r=true:=λr h=>by
 rcases Gr ok h with⟨e,a,b,rfl⟩ | ⟨e,a,b,rfl⟩ | ⟨p,a,rfl⟩ | ⟨x,a,rfl⟩ | ⟨x,a,rfl⟩
 . exact agX a b
 . exact agZ a b
 . exact ag1 a
 . exact agQ a
 exact agR a
theorem OL{a b c:Str}(h:d∈(Str.join spS [a,b,c]).cps.toList):d=32\/d∈a.cps.toList\/d∈b.cps.toList\/d∈c.cps.toList:=by
 rw[rn]at h
 rcases yD h with e | ⟨p,j,hd⟩
 . exact .inl e
 simp only[be,fZ,f7]at j
 rcases j with rfl | rfl | rfl
 . exact .inr (.inl hd)
 . exact .inr (.inr (.inl hd))
 exact .inr (.inr (.inr hd))
theorem Gs{ch:List (Str×List Int)}{cs:List (Str×Str)}{ow:List (Str×(Ls×Ls))}(ok:v6 ch cs ow):∀r∈fV ch cs ow,10∉r.cps.toList/\r≠Str.empty:=λr h=>by
 rcases Gr ok h with⟨e,a,b,rfl⟩ | ⟨e,a,b,rfl⟩ | ⟨p,a,rfl⟩ | ⟨x,a,rfl⟩ | ⟨x,a,rfl⟩
 . refine⟨λz=>?_,λz=>?_⟩
   . rcases OL z with z | z | z | z
     . omega
     . exact Gn (by decide) z
     . exact a.no (by decide) z
     exact b.no (by decide) z
   have z:(iy e).cps.toList=[]:=by rw[z];rfl
   unfold iy at z;rw[rn,nW,BH]at z;cases z
 . refine⟨λz=>?_,λz=>?_⟩
   . rcases OL z with z | z | z | z
     . omega
     . exact Go (by decide) z
     . exact a.no (by decide) z
     exact b.no (by decide) z
   have z:(hZ e).cps.toList=[]:=by rw[z];rfl
   unfold hZ at z;rw[rn,nW,BI]at z;cases z
 . refine⟨λz=>?_,λz=>?_⟩
   . rw[rn]at z
     rcases yD z with z | ⟨q,j,hd⟩
     . omega
     simp only[be,fZ,f7]at j
     rcases j with rfl | rfl
     . exact OI (by decide) hd
     exact a.no (by decide) hd
   have z:(Str.join spS [dW,p]).cps.toList=[]:=by rw[z];rfl
   rw[rn,nW,Gi]at z;cases z
 . refine⟨λz=>?_,λz=>?_⟩
   . rw[BK]at z
     rcases be.mp z with z | z
     . omega
     have:=a.sg _ z;omega
   have z:(ft++x).cps.toList=[]:=by rw[z];rfl
   rw[BK]at z;cases z
 refine⟨λz=>?_,λz=>?_⟩
 . rw[yF]at z
   rcases be.mp z with z | z
   . omega
   have:=a.sg _ z;omega
 have z:(fw++x).cps.toList=[]:=by rw[z];rfl
 rw[yF]at z;cases z
theorem Gu{rows:Ls}(h:∀r∈rows,10∉r.cps.toList/\r≠Str.empty):rowsOf (Str.join k9 rows)=rows:=by
 unfold rowsOf;cases rows with
 | nil=>exact aj rfl
 | cons r j=>
  have ne:Str.join k9 (r::j)≠Str.empty:=λz=>by
   have J:=(h r bQ).2;have z:(Str.join k9 (r::j)).cps.toList=[]:=by rw[z];rfl
   cases j with
   | nil=>exact J (yB (by rw[show r.cps.toList=[] from z];rfl))
   | cons q O=>
    rw[Gf,nW]at z;have:=fc List.length z;rw[bH,cr]at this;simp at this
  rw[ag ne,Gf];exact BE (xf _ _) λp G=>(h p G).1
theorem yH{tr:List (Str×β)}{y:β}(h:x∉tr.map (·.1)):bR tr x y=tr++[(x,y)]:=by
 unfold bR;rw[ag (λz=>h (rj.mp z))]
theorem OM{tr:List (Str×β)}{y z:β}(h:x∉tr.map (·.1)):bR (tr++[(x,y)]) x z=tr++[(x,z)]:=by
 unfold bR;rw[aj (rj.mpr (by rw[dJ];exact fe _ bQ)),dJ]
 congr 1
 . refine(Ke λf j=>?_).trans (List.map_id _);rw[ag (λe:f.1=x=>h (by rw[<-e];exact gw j))];rfl
 show [if x=x then(x,z) else(x,y)]=_;rw[aj rfl]
theorem ON:∀(es:List (Str×List Int)) (s:Nt),(∀e∈es,cM e.1/\fW e.2)->((s.ch++es).map (·.1)).Nodup->(es.map iy).foldl Nt.step s={ s with ch:=s.ch++es }
 | [],s,_,_=>by rw[lH];rfl
 | e::es,s,ok,nd=>by
  have h1:=ok e bQ;have e1:Nt.step s (iy e)={ s with ch:=s.ch++[e] }:=by
   unfold Nt.step;rw[agY h1.1 h1.2];dsimp only;rw[h1.2.back,yH];rw[dJ,bS]at nd;intro z;exact(sV.mp nd).2.2 _ z _ bQ rfl
  rw[bS,lK,e1];have e2:=ON es { s with ch:=s.ch++[e] } (λx j=>ok x (bU _ j)) (by show(((s.ch++[e])++es).map (·.1)).Nodup;rw[jR];exact nd);rw[e2];show { s with ch:=s.ch++[e]++es } = _;rw[jR];rfl
theorem OO:∀(es:List (Str×Str)) (s:Nt),(∀e∈es,cM e.1/\cM e.2)->((s.cs++es).map (·.1)).Nodup->(es.map hZ).foldl Nt.step s={ s with cs:=s.cs++es }
 | [],s,_,_=>by rw[lH];rfl
 | e::es,s,ok,nd=>by
  have h1:=ok e bQ;have e1:Nt.step s (hZ e)={ s with cs:=s.cs++[e] }:=by
   unfold Nt.step;rw[ag0 h1.1 h1.2];dsimp only;rw[yH];rw[dJ,bS]at nd;intro z;exact(sV.mp nd).2.2 _ z _ bQ rfl
  rw[bS,lK,e1];have e2:=OO es { s with cs:=s.cs++[e] } (λx j=>ok x (bU _ j)) (by show(((s.cs++[e])++es).map (·.1)).Nodup;rw[jR];exact nd);rw[e2];show { s with cs:=s.cs++[e]++es } = _;rw[jR];rfl
theorem OP(p:Str)(tr:List (Str×(Ls×Ls)))(h:p∉tr.map (·.1))(m:Ls):∀(xs b:Ls) (s:Nt),(xs.map (ft ++ ·)).foldl Nt.step { s with ow:=tr++[(p,(b,m))],ck:=some p,b:=b,m:=m } = { s with ow:=tr++[(p,(b++xs,m))],ck:=some p,b:=b++xs,m:=m }
 | [],b,s=>by rw[lH];rfl
 | x::xs,b,s=>by
  have e1:Nt.step { s with ow:=tr++[(p,(b,m))],ck:=some p,b:=b,m:=m } (ft++x)={ s with ow:=tr++[(p,(b++[x],m))],ck:=some p,b:=b++[x],m:=m }:=by
   unfold Nt.step;rw[agS];dsimp only[iw];rw[OM h]
  rw[bS,lK,e1,OP p tr h m xs (b++[x]) s,jR];rfl
theorem OQ(p:Str)(tr:List (Str×(Ls×Ls)))(h:p∉tr.map (·.1))(b:Ls):∀(xs m:Ls) (s:Nt),(xs.map (fw ++ ·)).foldl Nt.step { s with ow:=tr++[(p,(b,m))],ck:=some p,b:=b,m:=m } = { s with ow:=tr++[(p,(b,m++xs))],ck:=some p,b:=b,m:=m++xs }
 | [],m,s=>by rw[lH];rfl
 | x::xs,m,s=>by
  have e1:Nt.step { s with ow:=tr++[(p,(b,m))],ck:=some p,b:=b,m:=m } (fw++x)={ s with ow:=tr++[(p,(b,m++[x]))],ck:=some p,b:=b,m:=m++[x] }:=by
   unfold Nt.step;rw[agT];dsimp only[iw];rw[OM h]
  rw[bS,lK,e1,OQ p tr h b xs (m++[x]) s,jR];rfl
theorem OR:∀(es:List (Str×(Ls×Ls))) (s:Nt),(∀e∈es,dB e.1)->((s.ow++es).map (·.1)).Nodup->∃ck b m,(es.flatMap eh).foldl Nt.step s={ s with ow:=s.ow++es,ck:=ck,b:=b,m:=m }
 | [],s,_,_=>⟨s.ck,s.b,s.m,by rw[lH];rfl⟩
 | e::es,s,ok,nd=>by
  obtain⟨p,b,m⟩:=e;have h1:dB p:=ok _ bQ;have j:p∉s.ow.map (·.1):=λz=>by
   rw[dJ,bS]at nd;exact(sV.mp nd).2.2 _ z _ bQ rfl
  have e1:(eh (p,(b,m))).foldl Nt.step s={ s with ow:=s.ow++[(p,(b,m))],ck:=some p,b:=b,m:=m }:=by
   unfold eh;rw[qx,qx];have G:[Str.join spS [dW,p]].foldl Nt.step s={ s with ow:=s.ow++[(p,([],[]))],ck:=some p,b:=[],m:=[] }:=by
    show Nt.step s (Str.join spS [dW,p])=_;unfold Nt.step;rw[ag2 h1];dsimp only;rw[yH j]
   rw[G,OP p s.ow j [] b [] s,OQ p s.ow j _ m [] s];rfl
  rw[DL,qx,e1];obtain⟨ck,b',m',e2⟩:=OR es { s with ow:=s.ow++[(p,(b,m))],ck:=some p,b:=b,m:=m } (λx J=>ok x (bU _ J)) (by show(((s.ow++[(p,(b,m))])++es).map (·.1)).Nodup;rw[jR];exact nd);refine⟨ck,b',m',?_⟩;rw[e2];show { s with ow:=s.ow++[(p,(b,m))]++es,ck:=ck,b:=b',m:=m' } = _;rw[jR];rfl
theorem Gv{ch:List (Str×List Int)}{cs:List (Str×Str)}{ow:List (Str×(Ls×Ls))}(ok:v6 ch cs ow)(n1:(ch.map (·.1)).Nodup)(n2:(cs.map (·.1)).Nodup)(n3:(ow.map (·.1)).Nodup):∃ck b m,gF (fV ch cs ow)=⟨ch,cs,ow,ck,b,m⟩:=by
 unfold gF fV;rw[qx,qx,ON ch {} ok.ch n1];show∃ck b m,List.foldl Nt.step (List.foldl Nt.step ({ ch:=ch }:Nt) (List.map hZ cs)) (List.flatMap eh ow)=_;rw[OO cs { ch:=ch } ok.cs n2];exact OR ow { ch:=ch,cs:=cs } (λe j=>(ok.ow e j).1) n3
theorem Gw{f:α->β}{ks ls:List β}(p:ks.Perm ls):∀{l:List α},ls=l.map f->∃j:List α,j.Perm l/\j.map f=ks:=by
 induction p with
 | nil=>
  intro l e;cases l with
  | nil=>exact⟨[],.nil,rfl⟩
  | cons a l=>cases e
 | cons x p J=>
  intro l e;cases l with
  | nil=>cases e
  | cons a l=>
   rw[bS]at e;obtain⟨e1,e2⟩:=tm e;obtain⟨j,h1,h2⟩:=J e2;exact⟨a::j,h1.cons a,by rw[bS,h2,e1]⟩
 | swap x y r=>
  intro l e;cases l with
  | nil=>cases e
  | cons a l=>
   cases l with
   | nil=>cases e
   | cons b l=>
    rw[bS,bS]at e;obtain⟨e1,e2⟩:=tm e;obtain⟨e2,e3⟩:=tm e2;exact⟨b::a::l,.swap a b l,by rw[bS,bS,<-e1,<-e2,<-e3]⟩
 | trans p q O U=>
  intro l e;obtain⟨l1,h1,h2⟩:=U e;obtain⟨Y,z,G⟩:=O h2.symm;exact⟨Y,z.trans h1,G⟩
structure cF(a b:List (Str×β)):Prop where
 pm:b.Perm a
 so:sortedS (b.map (·.1))=true
theorem cF.eq{a b c:List (Str×β)}(nd:(a.map (·.1)).Nodup)(h1:cF a b)(h2:cF a c):b=c:=by
 have pm:b.Perm c:=h1.pm.trans h2.pm.symm;have e:b.map (·.1)=c.map (·.1):=agG (pm.map _) h1.so h2.so;have U:(b.map (·.1)).Nodup:=(h1.pm.map _).nodup_iff.mpr nd;have G:=pm.length_eq;refine List.ext_getElem G λi hi j=>?_;have J:b[i]∈c:=pm.mem_iff.mp (DF hi);have e1:b[i].1=c[i].1:=by
  have:(b.map (·.1))[i]?=(c.map (·.1))[i]?:=by rw[e]
  rw[dA,dA,gX hi,gX j]at this;exact gU this
 have z:c[i]∈c:=DF j;have O:(c.map (·.1)).Nodup:=by rw[<-e];exact U
 have:b[i].2=c[i].2:=nV O (x:=b[i].1) J (by rw[e1];exact z);exact Prod.ext e1 this
theorem cF.self{a b:List (Str×β)}(h:cF a b):cF b b:=⟨.refl _,h.so⟩
end K74
namespace L2
structure Fd(K:Fg)(mg:Mv)(x:Str)(st:Stmt)(ps:Ls):Type where
 f:Addr
 fd:Fy
 u:lZ K x x st f fd
 m:mg x=some (.ref f)
 b:Binds K fd ps []
structure eL(K:Fg)(C:Addr)(x q:Str)(st:Stmt)(ps:Ls):Type where
 f:Addr
 fd:Fy
 u:lZ K x q st f fd
 b:Binds K fd ps []
 mt:AF K C x f
section
variable {K:Fg}{h:Heap}{mg:Mv}{C f:Addr}{x q:Str}{st:Stmt}{ps:Ls}{od an:Oa}{sl:Array (Option Value)} {oc kV dc pm cd ct:Value}
def fb(a:W.findIn K (.ref C) x=some (some (.ref f)))(i:W.isFn K (.ref f)=true)(l:K.lookup f=some ⟨oc,od,.func (W.fnOf x q (jv st) (gD st) (av st) .none kV dc pm an cd ct),sl⟩)(c:W.codeIn K cd q=true)(k:W.keepIn K (.ref f)=true)(b:Binds K (W.fnOf x q (jv st) (gD st) (av st) .none kV dc pm an cd ct) ps []):eL K C x q st ps:=⟨f,_,Mi l c k,b,⟨a,i,k⟩⟩
def bD(X:K.In h)(G:h.Ns mainGlobals mg)(a:W.nsIn K mainGlobals x=some (some (.ref f)))(l:K.lookup f=some ⟨oc,od,.func (W.fnOf x x (jv st) (gD st) (av st) .none kV dc pm an cd ct),sl⟩)(c:W.codeIn K cd x=true)(k:W.keepIn K (.ref f)=true)(b:Binds K (W.fnOf x x (jv st) (gD st) (av st) .none kV dc pm an cd ct) ps []):Fd K mg x st ps:=⟨f,_,Mi l c k,iV X G a,b⟩
end
section
variable {X:Cx}{k k':Nat}{ps:Ls}{sp:Sp}{x:Str}{st:Stmt}{p pos:Pos}{e:Expr}{es:List Expr}{t:TA}{CX:g0}{E:XK}
theorem up{P:Program}{w:World}{K:Fg}{mg:Mv}{base:Heap}{CX:g0}{j k:Nat}{ps:Ls}{sp:Sp}(F:au P w K mg base CX j f fd ps sp)(h:j<=k:=by decide):au P w K mg base CX k f fd ps sp:=F.mono h
theorem aA{d:Fd X.K X.mg x st ps}(G:au X.prog X.w X.K X.mg X.base aL k d.f d.fd ps sp)(hr:ci k' X.A)(U:Gl X x)(J:PA X (e::es) t)(Y:k<=k':=by decide)(z:(x == ("__debug__":Str))=false:=by decide)(O:starEach (e::es) X.env=(false,eval e X.env)::starEach es X.env:=by rfl)(j:(backTo pos (starEach es X.env)).any (·.1)=false:=by rfl) :
 PE X (.Call (.Name x p) (e::es) [] pos) (AH sp [] E0 t):=Eu (G.mono Y) hr U d.m d.u.kp d.b .nil bT J z O j
theorem uD{d:Fd X.K X.mg x st ps}(G:au X.prog X.w X.K X.mg X.base CX k d.f d.fd ps sp)(hr:ci k' X.A)(U:Gl X x)(hx:lV CX X E)(J:PA X (e::es) t)(Y:k<=k':=by decide)(z:(x == ("__debug__":Str))=false:=by decide)(O:starEach (e::es) X.env=(false,eval e X.env)::starEach es X.env:=by rfl)(j:(backTo pos (starEach es X.env)).any (·.1)=false:=by rfl) :
 PE X (.Call (.Name x p) (e::es) [] pos) (AH sp [] E t):=Eu (G.mono Y) hr U d.m d.u.kp d.b .nil hx J z O j
end
end L2
namespace K74
open L2
variable {K:Fg}{mg:Mv}{base:Heap}
structure OS(mg:Mv):Prop where
 let8:∃t,mg "MOST_LETTERS"=some (.int 8 t)
 pw4:∃t,mg "MOST_PATH_WORDS"=some (.int 4 t)
def aP(i:Nat):Stmt:=PySem.Challenge.pw_parcelmend_k74_not_up.main.body.getD i (.Pass ⟨0,0,0,0⟩)
abbrev OT:Stmt:=aP 30
abbrev OU:Stmt:=aP 68
abbrev rA:Stmt:=aP 69
abbrev OV:Stmt:=aP 107
abbrev OW:Stmt:=aP 121
abbrev OX:Stmt:=aP 122
abbrev OY:Stmt:=aP 123
abbrev Gx:Stmt:=eV (aP 34) 0
abbrev OZ:Stmt:=eV (aP 35) 0
abbrev O0:Stmt:=eV (aP 35) 3
abbrev O1:Stmt:=eV (aP 46) 0
abbrev O2:Stmt:=eV (aP 109) 0
abbrev O3:Stmt:=eV (aP 109) 1
abbrev O4:Stmt:=eV (aP 109) 2
abbrev O5:Stmt:=eV (aP 109) 3
abbrev O6:Stmt:=eV (aP 109) 4
abbrev O7:Stmt:=eV (aP 109) 5
abbrev O8:Stmt:=eV (aP 109) 6
abbrev O9:Stmt:=eV (aP 109) 7
abbrev Pa:Stmt:=aP 2
abbrev Pb:Stmt:=aP 3
abbrev Pc:Stmt:=aP 4
abbrev Pd:Stmt:=aP 5
abbrev Pe:Stmt:=aP 6
abbrev Pf:Stmt:=aP 7
abbrev Ph:Stmt:=aP 8
abbrev Pj:Stmt:=aP 25
abbrev Pk:Stmt:=aP 28
abbrev Pl:Stmt:=aP 31
abbrev Pm:Stmt:=aP 37
abbrev Pn:Stmt:=aP 38
abbrev Pp:Stmt:=aP 39
abbrev Ps:Stmt:=aP 41
abbrev Pu:Stmt:=aP 42
abbrev Pw:Stmt:=aP 43
abbrev Px:Stmt:=aP 44
abbrev Py:Stmt:=aP 47
abbrev BN:Stmt:=aP 48
abbrev Pz:Stmt:=aP 49
abbrev PB:Stmt:=aP 50
abbrev PD:Stmt:=aP 51
abbrev mx:Stmt:=aP 52
abbrev PF:Stmt:=aP 54
abbrev PH:Stmt:=aP 55
abbrev PJ:Stmt:=aP 56
abbrev PL:Stmt:=aP 57
abbrev PM:Stmt:=aP 59
abbrev PN:Stmt:=aP 60
abbrev PP:Stmt:=aP 61
abbrev PQ:Stmt:=aP 62
abbrev Gy:Stmt:=aP 64
abbrev PR:Stmt:=aP 65
abbrev PU:Stmt:=aP 66
abbrev PV:Stmt:=aP 67
abbrev PX:Stmt:=aP 71
abbrev PY:Stmt:=aP 72
abbrev PZ:Stmt:=aP 73
abbrev P1:Stmt:=aP 111
abbrev P2:Stmt:=aP 112
abbrev P4:Stmt:=aP 113
abbrev P5:Stmt:=aP 114
abbrev P6:Stmt:=aP 115
abbrev P7:Stmt:=aP 116
abbrev P8:Stmt:=aP 117
abbrev BO:Stmt:=aP 118
abbrev P9:Stmt:=aP 119
abbrev Qa:Stmt:=aP 120
abbrev Qb:Stmt:=aP 26
abbrev Qc:Stmt:=aP 27
abbrev Qe:Stmt:=aP 104
abbrev ag7:Stmt:=aP 105
abbrev Qf:Stmt:=aP 106
abbrev Gz:Stmt:=aP 124
abbrev Qg:Stmt:=eV (aP 103) 0
abbrev Qh:Stmt:=eV (aP 103) 1
abbrev Qi:Stmt:=eV (aP 103) 2
abbrev Qj:Stmt:=eV (aP 103) 3
abbrev Qk:Stmt:=eV (aP 103) 4
abbrev Ql:Stmt:=eV (aP 103) 5
abbrev Qm:Stmt:=eV (aP 103) 6
abbrev Qn:Stmt:=eV (aP 103) 7
abbrev Qo:Stmt:=eV (aP 103) 8
abbrev Qp:Stmt:=eV (aP 103) 9
abbrev Qq:Stmt:=eV (aP 103) 10
abbrev Qs:Stmt:=eV (aP 103) 11
abbrev Qt:Stmt:=eV (aP 103) 12
abbrev Qu:Stmt:=eV (aP 103) 13
structure Blt(mg:Mv):Prop where
 range:mg "range"=none
 len:mg "len"=none
 min:mg "min"=none
 list:mg "list"=none
 dict:mg "dict"=none
 set:mg "set"=none
 sorted:mg "sorted"=none
 isinstance:mg "isinstance"=none
 str:mg "str"=none
 tuple:mg "tuple"=none
 all:mg "all"=none
 enumerate:mg "enumerate"=none
 int:mg "int"=none
 bool:mg "bool"=none
 verr:mg "ValueError"=none
structure Txt(K:Fg)(mg:Mv)(C:Addr):Prop where
 mgC:mg "Parcel"=some (.ref C)
 cl:i5 K C
 nN:fE K C as5
 nM:fE K C ata
 nR:fE K C atg
 nF:fE K C as8
 nE:fE K C atr
 nS:fE K C atA
 nO:fE K C atH
 mz:W.makesIn K C=true
 kc:W.keepIn K (.ref C)=true
structure ag9(K:Fg)(mg:Mv)(S:Addr):Prop where
 mgC:mg "Shelf"=some (.ref S)
 cl:i5 K S
 nS:fE K S atU
 mz:W.makesIn K S=true
 kc:W.keepIn K (.ref S)=true
structure aha(K:Fg)(mg:Mv)(T:Addr):Prop where
 mgC:mg "Stand"=some (.ref T)
 cl:i5 K T
 nC:fE K T as6
 nH:fE K T atc
 nO:fE K T ato
 mz:W.makesIn K T=true
 kc:W.keepIn K (.ref T)=true
structure ahb(K:Fg)(mg:Mv)(C:Addr):Prop where
 mgC:mg "Disk"=some (.ref C)
 cl:i5 K C
 nF:fE K C as8
 nB:fE K C "book"
 nL:fE K C "left"
 mz:W.makesIn K C=true
 kc:W.keepIn K (.ref C)=true
structure ahc(K:Fg)(mg:Mv)(Hc:Addr):Prop where
 mgC:mg "House"=some (.ref Hc)
 cl:i5 K Hc
 nS:fE K Hc asY
 nD:fE K Hc as3
 mz:W.makesIn K Hc=true
 kc:W.keepIn K (.ref Hc)=true
structure Qv(K:Fg)(mg:Mv)(M Fa NU E1 E2 E3 E4 E5 E6 E7 E8 E9:Addr):Prop where
 mM:mg "MendError"=some (.ref M)
 mF:mg "Fallen"=some (.ref Fa)
 mU:mg "NotUp"=some (.ref NU)
 mE1:mg "NoFile"=some (.ref E1)
 mE2:mg "NoFormer"=some (.ref E2)
 mE3:mg "NoName"=some (.ref E3)
 mE4:mg "NoParcel"=some (.ref E4)
 mE5:mg "NoPath"=some (.ref E5)
 mE6:mg "NoRow"=some (.ref E6)
 mE7:mg "NoShelf"=some (.ref E7)
 mE8:mg "NoStand"=some (.ref E8)
 mE9:mg "TooWide"=some (.ref E9)
 xc:py K Fa
 ex:W.exmOne K (.ref Fa) (.ref Fa)=some true
 xu:py K NU
 k7:W.kitAny K (.ref NU) [.ref Fa,.ref E1,.ref E2,.ref E3,.ref E4,.ref E5,.ref E6]=some false
 k3:W.kitAny K (.ref NU) [.ref E7,.ref E8,.ref E9]=some false
 kU:W.kitOne K (.ref NU) (.ref NU)=some true
 kV:W.kitOne K (.ref NU) (.type "ValueError")=some true
 eu:W.exmOne K (.ref NU) (.ref M)=some true
structure GA(K:Fg)(x a_:Str)(st:Stmt)(f c:Addr)(fd:Fy):Prop where
 ex:∃(oc:Value) (od:Oa) (kV doc pm:Value) (an:Oa) (ct:Value) (jt:Array (Option Value)),fd=W.fnOf x a_ (jv st) (gD st) (av st) .none kV doc pm an (.ref c) ct /\
  K.lookup f=some ⟨oc,od,.func (W.fnOf x a_ (jv st) (gD st) (av st) .none kV doc pm an (.ref c) ct),jt⟩/\W.codeIn K (.ref c) a_=true
 kp:W.keepIn K (.ref f)=true
structure Qw(K:Fg)(mg:Mv)(Pt:Addr) extends Fd K mg ati mx [atn,as1,atc] where
 c:Addr
 FN:GA K ati ati mx f c fd
 hN:W.codeHdIn K c Pt=true
 hP:K.lookup Pt=none
structure Qx(K:Fg)(mg:Mv) extends Fd K mg atC rA [asY,as3] where
 mB:mg "come_up_books"=some (.ref f)
structure Pq(K:Fg)(mg:Mv)(Pt:Addr):Type where
 B:Blt mg
 K0:OS mg
 C:Addr
 S:Addr
 T:Addr
 D:Addr
 Hc:Addr
 TC:Txt K mg C
 US:ag9 K mg S
 UT:aha K mg T
 UD:ahb K mg D
 UH:ahc K mg Hc
 TIn:eL K T "__init__" "Stand.__init__" O1 [asX,as6,atc,ato]
 PIn:eL K C "__init__" "Parcel.__init__" Gx [asX,as5,ata,atg,as8,atr,atA,atH]
 SIn:eL K S "__init__" "Shelf.__init__" OZ [asX,as1]
 SPa:eL K S as2 "Shelf.parcel" O0 [asX,as5,ata]
 DTk:eL K D "take_write" "Disk.take_write" O9 [asX]
 DIn:eL K D "__init__" "Disk.__init__" O2 [asX]
 DPt:eL K D "put" "Disk.put" O5 [asX,asZ,atd]
 DEr:eL K D "erase" "Disk.erase" O6 [asX,asZ]
 DNt:eL K D "note" "Disk.note" O7 [asX,atM,atb]
 FNo:eL K D "files_now" "Disk.files_now" O3 [asX]
 BNo:eL K D "book_now" "Disk.book_now" O4 [asX]
 HIn:eL K Hc "__init__" "House.__init__" Qg [asX,asY,as3]
 HUp:eL K Hc "up" "House.up" Qh [asX]
 HSt:eL K Hc atj "House.stand" Qi [asX]
 HSK:eL K Hc "stand_kept" "House.stand_kept" Ql [asX]
 HGo:eL K Hc "go_to" "House.go_to" Qm [asX,as6,atc,ato]
 HFg:eL K Hc "forget" "House.forget" Qp [asX,asZ]
 HFo:eL K Hc "formers" "House.formers" Qj [asX]
 HCo:eL K Hc atC "House.come_up" Qk [asX]
 HWi:eL K Hc "wish" "House.wish" Qn [asX,"wishes"]
 HEd:eL K Hc "edit" "House.edit" Qo [asX,asZ,atd]
 HCh:eL K Hc "choose" "House.choose" Qq [asX,atn,as5]
 HBa:eL K Hc "back" "House.back" Qs [asX,ats]
 HLo:eL K Hc "look" "House.look" Qt [asX]
 HMe:eL K Hc "mend" "House.mend" Qu [asX]
 DAl:eL K D "allow" "Disk.allow" O8 [asX,"many"]
 Mix:Fd K mg "_law_mixed" P2 [as4,ate]
 Cel:Fd K mg "_law_cell_at" P1 [as7,ate]
 Nam:Fd K mg "_law_name" P4 [as4,atN]
 Lin:Fd K mg "_law_line" P5 [as0]
 Lis:Fd K mg "_law_lines" P6 [as0]
 Pat:Fd K mg "_law_path" P7 [as0]
 Mak:Fd K mg "_law_make" P8 [as0]
 RwO:Fd K mg "rows_of" Pj [atb]
 MkS:Fd K mg "make_shown" Pk [ata]
 CCo:Fd K mg "changes_copied" Py [ato]
 ChR:Fd K mg "change_rows" PH [asZ,att]
 Sho:Fd K mg "stand_shown" PF [atj]
 MkN:Fd K mg "make_noted" PL [atb]
 Not:Fd K mg "stand_noted" PJ [atb]
 PsO:Fd K mg "parcels_of" Pm [asY,as6]
 Bro:Fd K mg "brought_by" Pz [as1]
 Cho:Fd K mg "_law_chosen" P9 [atk,as9,as4]
 PAp:Fd K mg atF BO [as7,as9,atO]
 Com:Fd K mg "commons_of" PD [as1]
 KUn:Fd K mg "keys_unlike" Pl [atv,atu]
 Tur:Fd K mg "turn_to" Gy [as3,atm]
 Ali:Fd K mg "alike_ahead" Pb [atd,atP]
 Blk:Fd K mg "block_of" Pa [atD,atf]
 IsA:Fd K mg "is_ahead" Pc [atw,atf]
 Tak:Fd K mg "takes_none" Pd [atw]
 Apa:Fd K mg "are_apart" Pe [atw,atf]
 Bot:Fd K mg "with_both" Pf [atD,atv,atu]
 Put:Fd K mg "put_together" Ph [atD,ato,"new"]
 FoC:Fd K mg "files_of_change" PB [asZ,att,atE]
 Tre:Fd K mg "tree_of" BN [asY,atj]
 NBe:Qw K mg Pt
 PaO:Fd K mg "paths_of" Px [as2]
 NFa:Fd K mg "need_faults" Ps [as2,as1]
 SFa:Fd K mg "shut_faults" Pu [as2,as1]
 CFa:Fd K mg "clash_faults" Pw [as2,as1]
 FaO:Fd K mg "faults_of" Pn [asY,as6]
 Sou:Fd K mg "is_sound" Pp [asY,as6]
 Beh:Fd K mg "set_behind" PN [aty,ath,atB]
 Wom:Fd K mg "with_one_more" PQ [atQ,atJ]
 Fst:Fd K mg "first_group" PP [asY,aty,ath,atJ]
 Gro:Fd K mg "groups_to" PM [asY,aty,ath]
 IUp:Fd K mg "is_up" PR [as3]
 TxB:Fd K mg "texts_begun" PU [as3]
 StO:Fd K mg "stand_on" PV [as3]
 Fin:Fd K mg "finish" PX [as3,atm]
 StT:Fd K mg "steps_to" PZ [asY,aty,ath]
 DoD:Fd K mg "do_deed" PY [asY,as3,ath]
 LSt:Fd K mg "_law_stand" Qa [atk,as9,as4]
 IsN:Fd K mg "is_name" Qb [atb]
 IsP:Fd K mg "is_path" Qc [atb]
 AsP:Fd K mg "ask_path" Qe [asZ]
 WEn:Fd K mg "with_entry" Qf ["entries","key","entry"]
 Law:Fd K mg "law" Gz [as7]
 IPl:Fd K mg "is_place" OT [ats,"things"]
 FoO:Fd K mg "formers_of" OU [as3]
 AsN:Fd K mg "ask_name" ag7 [as5]
 CoU:Qx K mg
 WFo:Fd K mg "word_for" OV [asZ,as8,atm]
 LSa:Fd K mg "_law_said" OW [atl,atp]
 LRe:Fd K mg "_law_refused" OX [atl,atp]
 LFa:Fd K mg "_law_fallen" OY [atG,atK,atL,as4]
 M:Addr
 Fa:Addr
 NU:Addr
 E1:Addr
 E2:Addr
 E3:Addr
 E4:Addr
 E5:Addr
 E6:Addr
 E7:Addr
 E8:Addr
 E9:Addr
 R:Qv K mg M Fa NU E1 E2 E3 E4 E5 E6 E7 E8 E9
structure Pg(K:Fg)(mg:Mv)(base:Heap)(Pt:Addr) extends Pq K mg Pt where
 hB:base.BuiltinsAt mg Pt
theorem Pg.MPIn(z:Pg K mg base Pt):Mk K z.C z.PIn.f:=⟨z.TC.mz,z.PIn.mt.at_,z.PIn.mt.fn,z.TC.kc⟩
theorem Pg.MSIn(z:Pg K mg base Pt):Mk K z.S z.SIn.f:=⟨z.US.mz,z.SIn.mt.at_,z.SIn.mt.fn,z.US.kc⟩
theorem Pg.MTIn(z:Pg K mg base Pt):Mk K z.T z.TIn.f:=⟨z.UT.mz,z.TIn.mt.at_,z.TIn.mt.fn,z.UT.kc⟩
theorem Pg.MDIn(z:Pg K mg base Pt):Mk K z.D z.DIn.f:=⟨z.UD.mz,z.DIn.mt.at_,z.DIn.mt.fn,z.UD.kc⟩
theorem Pg.MHIn(z:Pg K mg base Pt):Mk K z.Hc z.HIn.f:=⟨z.UH.mz,z.HIn.mt.at_,z.HIn.mt.fn,z.UH.kc⟩
end K74
section
open L2
variable {P:Program}{w:World}{K:Fg}{mg:Mv}{base:Heap}{Pt:Addr}
namespace K74
section
variable {x:Str}{α:Type}
theorem BP{sep:Str}:∀{ps:Ls}{d:Nat},d∈(Str.join sep ps).cps.toList->d∈sep.cps.toList\/∃p∈ps,d∈p.cps.toList
 | [],d,h=>by
  have h:d∈([]:List Nat):=h;cases h
 | [p],d,h=>.inr ⟨p,bQ,h⟩
 | p::q::r,d,h=>by
  have h:d∈(p++sep++Str.join sep (q::r)).cps.toList:=h;rw[mw,mw]at h
  rcases b9.mp h with h | h
  . rcases b9.mp h with h | h
    . exact .inr ⟨p,bQ,h⟩
    exact .inl h
  rcases BP h with h | ⟨z,hz,hd⟩
  . exact .inl h
  exact .inr ⟨z,bU _ hz,hd⟩
theorem Qy{l u:Option Int}{c:Nat}(h:c∈(Txt.slice x l u).cps.toList):c∈x.cps.toList:=by
 unfold Txt.slice at h;split at h
 . exact h
 have j:c∈(Builtin.Str.strSliceIndices l u 1 x.length).filterMap (x.cps[·]?):=by simpa using h
 obtain⟨i,_,hi⟩:=JJ.mp j;have:=arp hi;simpa using this
theorem ahd(x:Str)(k:Int)(h0:0<=k)(h1:k<=x.length):(Txt.slice x none (some k)).length+(Txt.slice x (some k) none).length=x.length:=by
 have z:x.cps.toList.length=x.length:=fm;rw[Gm,Gm,StrLaws.sliceText_to (x:=x) (j:=k) ⟨h0,by omega⟩,StrLaws.sliceText_from (x:=x) (i:=k) ⟨h0,by omega⟩];show((List.drop 0 x.cps.toList).take (k - 0).toNat).toArray.size+((List.drop k.toNat x.cps.toList).take ((x.cps.toList.length:Int) - k).toNat).toArray.size=x.length;rw[fY,fY,eP,eP,mP,mP];omega
theorem BQ{c d:Nat}(h:d∈(⟨#[c]⟩:Str).cps.toList):d=c:=bF.mp h
theorem Qz{P:Nat->Prop}(ok:∀c∈x.cps.toList,P c){r:Int}(h0:0<=r)(h1:r<x.length):∃c,cE x.cps.toList r=some c/\P c:=by
 obtain⟨n,rfl⟩:∃n:Nat,r=n:=⟨r.toNat,by omega⟩;have j:n<x.cps.toList.length:=by
  have:x.cps.toList.length=x.length:=by simp[Str.length]
  omega
 exact⟨_,AM (gX j),ok _ (DF j)⟩
def v7:Str:=atx
theorem ahe:∀c∈v7.cps.toList,97<=c/\c<=122:=by decide +kernel
theorem yI:v7.length=26:=by decide +kernel
theorem BR(n:Int):∃c,cE v7.cps.toList (n % 26)=some c/\(97<=c/\c<=122):=Qz ahe (by omega) (by rw[yI];omega)
def rB : Str := " !\"#$&'()*+,-./0123456789:;<=>?@ABCDEFGHIJKLMNOPQRSTUVWXYZ[\\]^_`"
def rC:Str:="abcdefghijklmnopqrstuvwxyz{|}~"
theorem ahf:∀c∈(rB++rC).cps.toList,32<=c/\c<=126/\c≠37:=by decide +kernel
theorem v8:(rB++rC).length=94:=by decide +kernel
inductive QA:Sp where
 | mk {H:Hp}{Q:VK}{E:XK}{c k:Int} (_:∀n:Int,Q (.int n) H):QA [.int c,.int k] H Q E
theorem QB:aK [as4,ate,as0] [as4,ate] (av P2):=aQ
theorem iz(j:Pg K mg base Pt):au P w K mg base aL 1 j.Mix.f j.Mix.fd [as4,ate] QA:=by
 refine j.Mix.u.okL QB ?_;intro z A outer s H vs Q E U h xX J;obtain @⟨_,_,_,c,k,q⟩:=h;refine⟨_,(ah (aF (i:=2) QB.nd rfl (Or.inl rfl) (aJ cS (aJ vE (aJ fO (aJ fO (aJ cS (pv 0) ak) (aJ vE ak (pv 1))) ak) ak) ak))
  (ai (aN (aJ cS (aJ vE (pv 2) (aJ fO (aJ jr (pv 2) ak) ak)) ak)))),?_⟩
 refine mh ?_;intro G Y O;refine⟨(by show(0:Int)<2147483647;decide),.inl ⟨by omega,by omega⟩,.inr ⟨by omega,by omega⟩,(by show(0:Int)<2147483647;decide),?_⟩;refine⟨⟨by omega,by omega⟩,.inl ⟨by omega,by omega⟩,(by show(0:Int)<2147483647;decide),?_⟩;exact q _
inductive QC (K:Fg):Sp where
 | mk {H:Hp}{Q:VK}{E:XK}{a:Addr}{k:Int}{ns:List Int} (_:0<=k) (_:aa K H a (ns.map V.int)) (_:∀n:Int,Q (.int n) H):QC K [.ref a,.int k] H Q E
theorem ahg:aK [as7,ate] [as7,ate] (av P1):=aQ
theorem yJ(j:Pg K mg base Pt):au P w K mg base aL 1 j.Cel.f j.Cel.fd [as7,ate] (QC K):=by
 refine j.Cel.u.okL ahg ?_;intro J A outer s H vs Q E hr h xX U;obtain @⟨_,_,_,a,k,ns,k0,G,q⟩:=h;refine⟨_,(ah (bu (bq tP (pv 1) (cJ gL (by rfl) j.B.len gy (am (pv 0))) (bh _))
  (ai (aN (bP fQ (pv 0) (pv 1) (λ_ _=>rfl)))) bI)
  (ai (aN ak))),?_⟩
 refine mh ?_;intro O sS Y;refine⟨a,_,rfl,.inl G,⟨⟨?_⟩⟩⟩;refine bv (λh=>?_) (λh=>?_)
 . have h':=cW h;rw[al]at h';obtain⟨z,hz,_⟩:=Mn (ns:=ns) (r:=k) k0 h';exact⟨G,hz,q z⟩
 exact q 0
inductive QE:Sp where
 | mk {H:Hp}{Q:VK}{E:XK}{c p:Int} (_:∀x H',cM x->ac H H'->Q (.str x) H'):QE [.int c,.int p] H Q E
theorem BS:aK [as4,atN,atq,"_law_body","_law_at"] [as4,atN] (av P4):=aQ
theorem ahh(j:Pg K mg base Pt):au P w K mg base aL 1 j.Nam.f j.Nam.fd [as4,atN] QE:=by
 refine j.Nam.u.okL BS ?_;intro ar A outer s H vs Q E hr h xX dX;obtain @⟨_,_,_,c,p,q⟩:=h;refine⟨_,(ah (aF (i:=2) BS.nd rfl (Or.inr rfl) bB)
  (AW (λZ H2=>∃x:Str,Z=[some (.int c),some (.int p),some (.str v7),some (.str x),none]/\ac H H2/\(∀c∈x.cps.toList,97<=c/\c<=122)/\x.length<=7) (aF (i:=3) BS.nd rfl (Or.inl rfl) (dC lN xg xh vO bB (am (fT [ate] [atq,as4] [2,0] dN rfl (mZ rfl j.B.range (am (aJ cS (aJ jr (pv 0) ak) ak))) (λ_ _ _ _=>(bf (i:=0) (show List.Nodup ([ate,atq,as4]:Ls) by decide +kernel) rfl (Or.inl rfl))) (λ_ _ _ _=>ge) (λ_ _ _ _=>(bP xF (pv 1) (aJ cS (aJ jr (pv 2) (aJ fO ak (aJ vE ak (pv 0)))) ak) (λ_ _=>rfl)))))))
  (ah (aF (i:=4) BS.nd rfl (Or.inl rfl) (aJ cS (aJ jr (pv 0) ak) (aJ fO (cJ Ez (by rfl) j.B.len gy (am (pv 3))) ak)))
  (ai (aN (aJ xB (aJ xB (m9 AT (pv 3) qL (kH (pv 4))) (bP xF (pv 2) (aJ cS (aJ fO (pv 0) (pv 1)) ak) (λ_ _=>rfl))) (m9 AT (pv 3) (kH (pv 4)) qL))))))),?_⟩
 refine mh ?_;intro dD sS dY;refine⟨?_,?_⟩
 . refine⟨rfl,⟨by omega,by omega⟩,(by show(0:Int)<8;decide),by omega,by omega,?_⟩;refine xP (σ0:=[none,some (.str v7),some (.int c)]) (λZ=>∃v,Z=[v,some (.str v7),some (.int c)]) (λi ys _=>∃xs:Ls,ys=xs.map V.str/\xs.length=i/\∀x∈xs,(∀c∈x.cps.toList,97<=c/\c<=122)/\x.length<=1) ⟨_,rfl⟩ (λ_ _=>⟨[],rfl,rfl,λ_ h=>nomatch h⟩) ?_ ?_
   . intro D i ys Z H2 k hD hi fJ hd hs gP hk;refine bA ?_;intro Y;obtain⟨v,rfl⟩:=fJ;obtain⟨xs,rfl,U,G⟩:=gP;obtain⟨z,hz,J⟩:=BR (c / (16+5 * (0+(i:Int))));refine⟨.inl ⟨by omega,by omega⟩,⟨by omega,by omega⟩,(by show(0:Int)<26;decide),jZ (by rw[yI];decide),hz,?_⟩;refine hk _ _ _ ⟨_,rfl⟩ (ac.refl _) (bZ (by rw[al];omega)) ⟨xs++[_],uc xs _,by rw[bH,U];rfl,λy hy=>?_⟩
     rcases b9.mp hy with hy | hy
     . exact G y hy
     rw[bF.mp hy];exact⟨λd hd=>by rw[BQ hd];exact J,vp (o5 z)⟩
   intro D ys H2 hD hd hs gQ;refine bA ?_;intro Y;obtain⟨xs,rfl,U,G⟩:=gQ;have a0:=xT (b:=1) λy hy=>(G y hy).2;have O:(Str.ofString "").length=0:=by decide +kernel
   refine⟨xs,aa.of hd,by rw[O];omega,?_⟩;refine⟨_,rfl,hs,λd hd=>?_,?_⟩
   . rw[show Txt.join (Str.ofString "") xs=Str.join (Str.ofString "") xs from Ac _ _]at hd
     rcases BP hd with hd | ⟨y,hy,hd⟩
     . cases hd
     exact(G y hy).1 d hd
   refine bX A1 ?_;rw[O];omega
 intro σ' H' pJ;refine bA ?_;intro Y;obtain⟨x,rfl,s1,xt,x8⟩:=pJ;refine⟨⟨by omega,by omega⟩,_,rfl,jZ (by omega),(by show(0:Int)<(x.length:Int)+1;omega),?_⟩;obtain⟨z,hz,J⟩:=BR (c+p);have l1:=Txt.slice_le x none (some (c / 7 % ((x.length:Int)+1)));have l2:=Txt.slice_le x (some (c / 7 % ((x.length:Int)+1))) none;have l3:(⟨#[z]⟩:Str).length=1:=o5 z;refine⟨jZ (by omega),(by show(0:Int)<26;decide),jZ (by rw[yI];decide),hz,_,_,rfl,rfl,fit (by omega) (by omega),jZ (by omega),_,_,rfl,rfl,fit (by rw[i9];omega) (by omega),?_⟩;have l4:=ahd x (c / 7 % ((x.length:Int)+1)) (wY _ (by omega)) (by have:=Af (c / 7) (show(0:Int)<(x.length:Int)+1 by omega);omega);refine q _ _ ⟨?_,?_,λd hd=>?_⟩ s1
 . rw[i9,i9];omega
 . rw[i9,i9];omega
 rw[mw,mw]at hd
 rcases b9.mp hd with hd | hd
 . rcases b9.mp hd with hd | hd
   . exact xt d (Qy hd)
   rw[BQ hd];exact J
 exact xt d (Qy hd)
inductive QF:Sp where
 | mk {H:Hp}{Q:VK}{E:XK}{c:Int} (_:∀x H',gj x->ac H H'->Q (.str x) H'):QF [.int c] H Q E
theorem BU:aK [as0,atq,"_law_many"] [as0] (av P5):=aQ
theorem ahj(j:Pg K mg base Pt):au P w K mg base aL 1 j.Lin.f j.Lin.fd [as0] QF:=by
 refine j.Lin.u.okL BU ?_;intro ar A outer s H vs Q E hr h xX dX;obtain @⟨_,_,_,c,q⟩:=h;refine⟨_,(ah (aF (i:=1) BU.nd rfl (Or.inr rfl) bB)
  (ah (aF (i:=1) BU.nd rfl (Or.inr rfl) (aJ xB (pv 1) bB))
  (ah (aF (i:=2) BU.nd rfl (Or.inl rfl) (aJ cS (pv 0) ak))
  (ai (aN (dC lN xg xh vO bB (am (fT [ate] [atq,as0] [1,0] dN rfl (mZ rfl j.B.range (am (pv 2))) (λ_ _ _ _=>(bf (i:=0) (show List.Nodup ([ate,atq,as0]:Ls) by decide +kernel) rfl (Or.inl rfl))) (λ_ _ _ _=>ge) (λ_ _ _ _=>(bP xF (pv 1) (aJ cS (aJ jr (pv 2) (aJ fO ak (aJ vE ak (pv 0)))) (cJ Ez (by rfl) j.B.len gy (am (pv 1)))) (λ_ _=>rfl))))))))))),?_⟩
 refine kO ?_;intro dD sS nZ gk dY;refine⟨_,_,rfl,rfl,(by show rB.length+rC.length<=sizeLine;rw[<-i9,v8];decide),?_⟩;refine⟨(by show(0:Int)<5;decide),?_⟩;refine⟨rfl,by omega,by omega,?_⟩;have e1:∀i:Nat,∃z,cE (rB++rC).cps.toList (c / (5+11 * (0+(i:Int))) % ((rB++rC).length:Int))=some z/\(32<=z/\z<=126/\z≠37):=λi=>Qz ahf (wY _ (by rw[v8];decide)) (Af _ (by rw[v8];decide));refine xP (σ0:=[none,some (.str (rB++rC)),some (.int c)]) (λZ=>∃v,Z=[v,some (.str (rB++rC)),some (.int c)]) (λi ys _=>∃xs:Ls,ys=xs.map V.str/\xs.length=i/\∀x∈xs,(∀c∈x.cps.toList,32<=c/\c<=126/\c≠37)/\x.length<=1) ⟨_,rfl⟩ (λ_ _=>⟨[],rfl,rfl,λ_ h=>nomatch h⟩) ?_ ?_
 . intro D i ys Z H2 k U hi uE hd hs uF Y;refine bA ?_;intro tT;obtain⟨v,rfl⟩:=uE;obtain⟨xs,rfl,O,G⟩:=uF;obtain⟨z,hz,zb⟩:=e1 i;refine⟨.inl ⟨by omega,by omega⟩,⟨by omega,by omega⟩,_,rfl,jZ (by rw[v8];decide),(by show(0:Int)<((rB++rC).length:Int);rw[v8];decide),jZ (by rw[v8];decide),hz,?_⟩;refine Y _ _ _ ⟨_,rfl⟩ (ac.refl _) (bZ (by rw[al];omega)) ⟨xs++[_],uc xs _,by rw[bH,O];rfl,λy hy=>?_⟩
   rcases b9.mp hy with hy | hy
   . exact G y hy
   rw[bF.mp hy];exact⟨λd hd=>by rw[BQ hd];exact zb,vp (o5 z)⟩
 intro D ys H2 U hd hs yK;refine bA ?_;intro tT;obtain⟨xs,rfl,O,G⟩:=yK;have a0:=xT (b:=1) λy hy=>(G y hy).2;have J:(Str.ofString "").length=0:=by decide +kernel
 refine⟨xs,aa.of hd,by rw[J];omega,?_⟩;refine q _ _ ⟨?_,λd hd=>?_⟩ hs
 . refine bX A1 ?_;rw[J];omega
 rw[show Txt.join (Str.ofString "") xs=Str.join (Str.ofString "") xs from Ac _ _]at hd
 rcases BP hd with hd | ⟨y,hy,hd⟩
 . cases hd
 exact(G y hy).1 d hd
abbrev ahk (H:Hp) (Q:V->Hp->Prop):Prop:=∀(l:Addr) (H':Hp) (xs:Ls),H l=none->ac H H'->H' l=some (.lst (xs.map V.str))->xs.length<=4->(∀x∈xs,gj x)->Q (.ref l) H'
inductive QG:Sp where
 | mk {H:Hp}{Q:VK}{E:XK}{c:Int} (_:ahk H Q):QG [.int c] H Q E
theorem QH:aK [as0,atq] [as0] (av P6):=aQ
theorem GB(j:Pg K mg base Pt):au P w K mg base aL 2 j.Lis.f j.Lis.fd [as0] QG:=by
 refine j.Lis.u.okL QH ?_;intro ar A outer s H vs Q E O h xX dX;obtain @⟨_,_,_,c,q⟩:=h;refine⟨_,(ah (aF (i:=1) QH.nd rfl (Or.inr rfl) (aJ fO ak (aJ vE ak (aJ cS (pv 0) ak))))
  (ai (aN (fT [ate] [atq,as0] [1,0] dN rfl (mZ rfl j.B.range (am (aJ cS (pv 0) ak))) (λ_ _ _ _=>(bf (i:=0) (show List.Nodup ([ate,atq,as0]:Ls) by decide +kernel) rfl (Or.inl rfl))) (λ_ _ _ _=>ge) (λ_ _ _ _=>(aA (ahj j) O rfl (am (aJ cS (aA (iz j) O rfl (aC (aJ jr (pv 2) ak) (pv 0))) (pv 1))))))))),?_⟩
 refine mh ?_;intro dD sS dY;refine⟨(by show(0:Int)<3;decide),.inl ⟨by omega,by omega⟩,⟨?_⟩⟩;refine⟨(by show(0:Int)<5;decide),by omega,by omega,?_⟩;refine xP (σ0:=[none,some (.int (40+900 * (c % 3))),some (.int c)]) (λZ=>∃v,Z=[v,some (.int (40+900 * (c % 3))),some (.int c)]) (λi ys _=>∃xs:Ls,ys=xs.map V.str/\xs.length=i/\∀x∈xs,gj x) ⟨_,rfl⟩ (λ_ _=>⟨[],rfl,rfl,λ_ h=>nomatch h⟩) ?_ ?_
 . intro D i ys Z H2 k J hi yL hd hs Y hk;refine bA ?_;intro tT;obtain⟨v,rfl⟩:=yL;obtain⟨xs,rfl,U,z⟩:=Y;refine⟨⟨by omega,by omega⟩,⟨⟨λn=>?_⟩⟩⟩;refine⟨(by show(0:Int)<40+900 * (c % 3);omega),⟨λx H3 lx s3=>?_⟩⟩;exact hk _ _ _ ⟨_,rfl⟩ s3 (bZ (by rw[al];omega)) ⟨xs++[x],uc xs x,by rw[bH,U];rfl,λy G=>(b9.mp G).elim (z y) (λG=>by rw[bF.mp G];exact lx)⟩
 intro D ys H2 J hd hs a0;refine bA ?_;intro tT;obtain⟨xs,rfl,U,z⟩:=a0;exact q D H2 xs J hs hd (by omega) z
inductive QI:Sp where
 | mk {H:Hp}{Q:VK}{E:XK}{c:Int} (_:∀x H',dB x/\x.length≠13->ac H H'->Q (.str x) H'):QI [.int c] H Q E
theorem GD:aK [as0,atq,atp] [as0] (av P7):=aQ
def BV:Ls:=["a","a/b","conf/ed/three/four","zz"]
def GF(x:Str):Bool:=decide (1<=x.length) && decide (x.length<=8) && x.cps.toList.all λc=>decide (97<=c) && decide (c<=122)
theorem ahm(h:GF x=true):cM x:=by
 unfold GF at h;simp only[iH,Ai,gW]at h;exact⟨h.1.1,h.1.2,h.2⟩
theorem BW(ps:Ls)(e:x=Str.join lg ps)(h1:1<=ps.length)(h2:ps.length<=4)(h:ps.all GF=true):dB x:=⟨ps,e,h1,h2,λp j=>ahm (gW.mp h p j)⟩
theorem ahn:∀x∈BV,x.length≠13:=by decide +kernel
theorem aho:∀x∈BV,dB x:=by
 intro x j;simp only[BV,be,fZ,f7]at j
 rcases j with rfl | rfl | rfl | rfl
 . exact BW ["a"] (by decide +kernel) (by decide) (by decide) (by decide +kernel)
 . exact BW ["a","b"] (by decide +kernel) (by decide) (by decide) (by decide +kernel)
 . exact BW ["conf","ed","three","four"] (by decide +kernel) (by decide) (by decide) (by decide +kernel)
 exact BW ["zz"] (by decide +kernel) (by decide) (by decide) (by decide +kernel)
theorem QJ{z:Nat}(h:97<=z/\z<=122):cM ⟨#[z]⟩:=⟨aG _,(by show 1<=8;decide),λd hd=>by rw[BQ hd];exact h⟩
theorem QK(j:Pg K mg base Pt):au P w K mg base aL 1 j.Pat.f j.Pat.fd [as0] QI:=by
 refine j.Pat.u.okL GD ?_;intro ar A outer s H vs Q E hr h xX dX;obtain @⟨_,_,_,c,q⟩:=h;refine⟨_,(ah (aF (i:=1) GD.nd rfl (Or.inl rfl) bB)
  (ah (aF (i:=2) GD.nd rfl (Or.inl rfl) (aJ cS (pv 0) ak))
  (ah (bu (bq cT (pv 2) ak (bh _))
  (ai (aN (aJ xB (aJ xB (bP xF (pv 1) (aJ cS (aJ jr (pv 0) ak) ak) (λ_ _=>rfl)) bB) (bP xF (pv 1) (aJ cS (aJ jr (pv 0) ak) ak) (λ_ _=>rfl))))) bI)
  (ai (aN (bP fQ (cU (qV bB bB bB bB)) (pv 2) (λ_ _=>rfl))))))),?_⟩
 refine kO ?_;intro dD sS nZ gk dY;refine⟨(by show(0:Int)<5;decide),?_⟩;refine⟨rfl,⟨?_⟩⟩;refine bv (λh=>?_) (λh=>?_)
 . obtain⟨z,hz,zb⟩:=BR (c / 5);obtain⟨y,O,Y⟩:=BR (c / 130);have lz:(⟨#[z]⟩:Str).length=1:=o5 z;have ly:(⟨#[y]⟩:Str).length=1:=o5 y;have ls:(Str.ofString "/").length=1:=by decide +kernel
   refine⟨⟨by omega,by omega⟩,(by show(0:Int)<26;decide),jZ (by rw[show(Str.ofString "abcdefghijklmnopqrstuvwxyz").length=26 from yI];decide),hz,_,_,rfl,rfl,fit (by omega) (by omega),⟨by omega,by omega⟩,(by show(0:Int)<26;decide),jZ (by rw[show(Str.ofString "abcdefghijklmnopqrstuvwxyz").length=26 from yI];decide),O,_,_,rfl,rfl,fit (by rw[i9];omega) (by omega),?_⟩;refine q _ _ ⟨⟨[⟨#[z]⟩,⟨#[y]⟩],rfl,(by show 1<=2;decide),(by show 2<=4;decide),λp G=>?_⟩,by rw[i9,i9];omega⟩ (ac.refl _);simp only[be,fZ,f7]at G
   rcases G with rfl | rfl
   . exact QJ zb
   exact QJ Y
 have h4:c % 5≠4:=λz=>h (by show decide (V.int (c % 5)=V.int 4)=true;rw[z];rfl);refine⟨(by show 4<=sizeLine;decide),λp1 H1 n1 U e1=>?_⟩;obtain⟨z,hz,J⟩:=xR (xs:=BV) (r:=c % 5) (by omega) (by show c % 5<(4:Nat);omega);exact⟨aa.of e1,hz,q z H1 ⟨aho z (dH J),ahn z (dH J)⟩ U⟩
theorem QL(n:Int):0<=n % (10 ^ (9:Int).toNat)/\n % (10 ^ (9:Int).toNat)<=1000000000:=by
 have e:(10 ^ (9:Int).toNat:Int)=1000000000:=by decide
 rw[e];omega
def ahp(H:Hp)(Q:VK):Prop:=∀p H' (ms:List Int),H p=none->ac H H'->H' p=some (.tup (ms.map V.int))->fW ms->Q (.ref p) H'
inductive QM:Sp where
 | mk {H:Hp}{Q:VK}{E:XK}{c:Int} (_:ahp H Q):QM [.int c] H Q E
theorem ahq:aK [as0] [as0] (av P8):=aQ
theorem ahr(z:Pg K mg base Pt):au P w K mg base aL 1 z.Mak.f z.Mak.fd [as0] QM:=by
 refine z.Mak.u.okL ahq ?_;intro ar A outer s H vs Q E hr h xX dX;obtain @⟨_,_,_,c,q⟩:=h;refine⟨_,(ah (bu (bq cT (aJ cS (pv 0) ak) ak (bh _))
  (ai (aN (dE (am (aJ fO ak (aJ cS (aJ jr (pv 0) ak) ak)))))) bI)
  (ah (bu (bq cT (aJ cS (pv 0) ak) ak (bh _))
  (ai (aN (dE (aC ak (aJ cS (aJ jr (pv 0) ak) ak))))) bI)
  (ah (bu (bq cT (aJ cS (pv 0) ak) ak (bh _))
  (ai (aN (dE (dP ak ak (aJ cS (aJ jr (pv 0) ak) (aJ Ej ak ak)))))) bI)
  (ai (aN (dE (am (aJ cS (aJ jr (pv 0) ak) (aJ Ej ak ak))))))))),?_⟩
 refine kO ?_;intro dD sS nZ gk dY;refine⟨(by show(0:Int)<4;decide),rfl,⟨?_⟩⟩;refine bv (λh=>?_) (λh=>?_)
 . refine⟨⟨by omega,by omega⟩,(by show(0:Int)<3;decide),Ap,λp1 H1 n1 Y e1=>?_⟩;exact q p1 H1 [_] n1 Y e1 ⟨(by show 1<=1;decide),(by show 1<=3;decide),λn j=>by rw[bF.mp j];omega⟩
 refine⟨(by show(0:Int)<4;decide),rfl,⟨?_⟩⟩;refine bv (λh=>?_) (λh=>?_)
 . refine⟨⟨by omega,by omega⟩,(by show(0:Int)<3;decide),Aw,λp2 H2 n2 s2 e2=>?_⟩;exact q p2 H2 [_,_] n2 s2 e2 ⟨(by show 1<=2;decide),(by show 2<=3;decide),λn j=>by
    simp only[be,fZ,f7]at j
    rcases j with rfl | rfl<;>omega⟩
 refine⟨(by show(0:Int)<4;decide),rfl,⟨?_⟩⟩;refine bv (λh=>?_) (λh=>?_)
 . refine⟨⟨by omega,by omega⟩,⟨by decide,by decide,by decide⟩,(by show(0:Int)<10 ^ (9:Int).toNat;decide),Ax,λO H3 n3 s3 e3=>?_⟩;exact q O H3 [_,_,_] n3 s3 e3 ⟨(by show 1<=3;decide),(by show 3<=3;decide),λn j=>by
    simp only[be,fZ,f7]at j
    rcases j with rfl | rfl | rfl
    . omega
    . omega
    exact QL _⟩
 refine⟨⟨by omega,by omega⟩,⟨by decide,by decide,by decide⟩,(by show(0:Int)<10 ^ (9:Int).toNat;decide),Ap,λU G J s4 e4=>?_⟩;exact q U G [_] J s4 e4 ⟨(by show 1<=1;decide),(by show 1<=3;decide),λn j=>by rw[bF.mp j];exact QL _⟩
theorem eA{n:Nat}(h:n<=100000):n<=sizeLine:=by rw[wR];omega
theorem ahs(l:List α)(f:α->Bool):l.map (λc=>V.bl (f c))=(l.map f).map V.bl:=by rw[lL];rfl
theorem QN(l:List α)(f:α->Bool):(l.map f).all id=l.all f:=by rw[List.all_map];rfl
theorem iS{β:Type}{l:List α}{f:α->β}{i:Nat}{y:β}(h:(l.map f)[i]?=some y):∃x,l[i]?=some x/\y=f x:=by
 rw[dA]at h;cases e:l[i]? with
 | none=>rw[e]at h;cases h
 | some x=>rw[e]at h;exact⟨x,rfl,(gU h).symm⟩
inductive QO:Sp where
 | mk {H:Hp}{Q:VK}{E:XK}{t:Str} (_:t.length<=90000) (_:∀l H',H l=none->ac H H'->H' l=some (.lst ((rowsOf t).map V.str))->Q (.ref l) H'):QO [.str t] H Q E
theorem aht:aK [atb] [atb] (av Pj):=aQ
theorem ahu(j:Pg K mg base Pt):au P w K mg base aL 1 j.RwO.f j.RwO.fd [atb] QO:=by
 refine j.RwO.u.okL aht ?_;intro G A outer s H vs Q E O h Y J;obtain @⟨_,_,_,t,U,q⟩:=h;refine⟨_,(ai (aN (D9 (bq AC (pv 0) bB (bh _)) (dC lN Kf Kg Bu (pv 0) (am bB)) (cU d8)))),?_⟩;refine⟨rfl,⟨?_⟩⟩;refine bv (λh=>?_) (λh=>?_)
 . have ne:t≠Str.empty:=λz=>by
    rw[z]at h;exact absurd h (by decide +kernel)
   refine⟨rfl,t,k9,rfl,rfl,by decide +kernel,eA (by omega),λl H' a b c=>?_⟩;refine q l H' a b ?_;rw[c];unfold rowsOf;rw[ag ne]
 have e:t=Str.empty:=by
  rcases Classical.em (t=Str.empty) with z | z
  . exact z
  refine absurd ?_ h;show(!decide (V.str t=V.str Str.empty))=true;rw[cq (λy=>z (V.str.inj y))];rfl
 refine⟨(by show 0<=sizeLine;exact dz _),λl H' a b c=>?_⟩;refine q l H' a b ?_;rw[c];unfold rowsOf;rw[aj e];rfl
theorem GG{y a:Str}(h:a∈Txt.split x y):a.length<=x.length:=part_short h
def yM(ms:List Int):Prop:=ms.length<=3/\∀n∈ms,0<=n/\n<=1000000000
theorem fW.ok{ms:List Int}(h:fW ms):yM ms:=⟨h.hi,h.rg⟩
inductive QP:Sp where
 | mk {H:Hp}{Q:VK}{E:XK}{m:Addr}{ms:List Int} (_:H m=some (.tup (ms.map V.int))) (_:yM ms) (_:∀H',ac H H'->Q (.str (jF ms)) H'):QP [.ref m] H Q E
theorem ahv:aK [ata] [ata] (av Pk):=aQ
theorem QQ{ms:List Int}(h:yM ms):((ms.map iR).map (·.length)).sum<=30:=by
 have:=xT (ys:=ms.map iR) (b:=10) λy z=>by
  obtain⟨n,j,rfl⟩:=cC.mp z;exact(OG (h.2 n j).1 (h.2 n j).2).2
 rw[al]at this;have:=h.1;omega
theorem ahw{n:Int}(h0:0<=n)(h1:n<=1000000000):n.natAbs.log2<1920:=by
 have:n.natAbs<2 ^ 1920:=VJ (by omega:n.natAbs<=1000000000) (by decide +kernel)
 by_cases z:n.natAbs=0
 . rw[z];decide
 exact(Nat.log2_lt z).mpr this
theorem ahx(j:Pg K mg base Pt):au P w K mg base aL 1 j.MkS.f j.MkS.fd [ata] QP:=by
 refine j.MkS.u.okL ahv ?_;intro ar A outer s H vs Q E hr h xX dX;obtain @⟨_,_,_,m,ms,G,ok,q⟩:=h;refine⟨_,(ai (aN (dC lN xg xh vO bB (am (fT [ats] [] [] dN rfl (XI (pv 0)) (λ_ _ _ _=>(bf (i:=0) (show List.Nodup ([ats]:Ls) by decide +kernel) rfl (Or.inl rfl))) (λ_ _ _ _=>ge) (λ_ _ _ _=>(eT Yp (by rfl) j.B.str aru (am (pv 0))))))))),?_⟩;refine⟨rfl,⟨_,ba.of G⟩,?_⟩;refine afW (σ0:=[none]) (ba.of G) (λZ=>∃v,Z=[v]) ((ms.map iR).map V.str) (by rw[al,al,al]) (eA (by rw[al];have:=ok.1;omega)) ⟨_,rfl⟩ ?_ ?_
 . intro i z y Z H2 k hz O Y hs hk;obtain⟨v,rfl⟩:=Y;obtain⟨n,J,rfl⟩:=iS hz;rw[lL]at O;obtain⟨n',U,rfl⟩:=iS O;rw[J]at U;cases U;have r:=ok.2 n (dH J);exact⟨n,rfl,ahw r.1 r.2,hk _ _ ⟨_,rfl⟩ (ac.refl _)⟩
 intro D H2 hD hd hs;have l1:=QQ ok;refine⟨ms.map iR,aa.of hd,?_,?_⟩
 . rw[show(Str.ofString ".").length=1 by decide +kernel,al];have:=ok.1;omega
 have:=q H2 hs;rw[show jF ms=Txt.join li (ms.map iR) from (Ac _ _).symm]at this;exact this
end
section
variable {H1 H H':Hp}{kv:ao×V}{e:Str×(Ls×Ls)}
theorem GH{g:TG}{tb:TS}{D:Ends}{Z:L2.St}{kvs:List (ao×V)}{ob:Obj}(Pv:Nat->L2.St->Hp->Prop)(h0:Pv 0 Z (af H1 d (.frz ob (.dK kvs))))(G:∀i Z H,Pv i Z H->H d=some (.frz ob (.dK kvs)))
 (hs:∀i k v p Z H,kvs[i]?=some (k,v)->Pv i Z H->H p=none->g (.ref p) Z (af H p (.tup [kV k,v])) λσ2 H2=>
  tb { nx:=Pv (i+1),ct:=Pv (i+1),bk:=λσ' H'=>H' d=some (.frz ob (.dK kvs))/\D.nx σ' (af H' d (.dK kvs)),rt:=λj H'=>H' d=some (.frz ob (.dK kvs))/\D.rt j (af H' d (.dK kvs)) } σ2 H2)
 (hd:∀Z H,Pv kvs.length Z H->D.nx Z (af H d (.dK kvs))):∃W:Nat->Nat->L2.St->Hp->Prop,(∃m,W 0 m Z (af H1 d (.frz ob (.dK kvs))))/\∀i m Z H,W i m Z H ->
 H d=some (.frz ob (.dK kvs))/\((kvs.length<=i/\D.nx Z (af H d (.dK kvs)))\/(i<kvs.length/\∃N:L2.St->Hp->Prop,(∀σ' H',N σ' H'->∃m',m'<m/\W (i+1) m' σ' H') /\
  ∀k v p,kvs[i]?=some (k,v)->H p=none->g (.ref p) Z (af H p (.tup [kV k,v])) λσ2 H2=>
   tb { nx:=N,ct:=N,bk:=λσ' H'=>H' d=some (.frz ob (.dK kvs))/\D.nx σ' (af H' d (.dK kvs)),rt:=λj H'=>H' d=some (.frz ob (.dK kvs))/\D.rt j (af H' d (.dK kvs)) } σ2 H2)):=by
 refine⟨λi m Z H=>m=kvs.length - i/\i<=kvs.length/\Pv i Z H,⟨kvs.length,by simp,dz _,h0⟩,?_⟩;rintro i m Z H ⟨rfl,hi,p⟩;refine⟨G i Z H p,?_⟩
 by_cases z:i<kvs.length
 . exact .inr ⟨z,Pv (i+1),λσ' H' U=>⟨kvs.length - (i+1),by omega,rfl,z,U⟩,λk v q J O=>hs i k v q Z H J p O⟩
 have e:i=kvs.length:=by omega
 subst e;exact .inl ⟨aG _,hd Z H p⟩
abbrev Ch:=List (Str×List Int)
variable {ch:Ch}
def dQ(H:Hp)(kv:ao×V)(e:Str×List Int):Prop:=kv.1=.inr e.1/\∃m,kv.2=.ref m/\H m=some (.tup (e.2.map V.int))
theorem dQ.same(s:ac H H'){e:Str×List Int}(h:dQ H kv e):dQ H' kv e:=h.elim λa j=>j.elim λm z=>z.elim λb c=>⟨a,m,b,s _ _ c⟩
def dq(H:Hp)(c:Addr)(ch:Ch):Prop:=∃kvs,H c=some (.dK kvs)/\Paired (dQ H) kvs ch
theorem dq.same(s:ac H H'){c:Addr}(h:dq H c ch):dq H' c ch:=h.elim λkvs j=>j.elim λa b=>⟨kvs,s _ _ a,aB b λ_ _=>dQ.same s⟩
abbrev Ow:=List (Str×(Ls×Ls))
variable {ow:Ow}
def fA(H:Hp)(kv:ao×V)(e:Str×(Ls×Ls)):Prop:=kv.1=.inr e.1/\∃t j z,kv.2=.ref t/\H t=some (.tup [.ref j,.ref z])/\H j=some (.lst (e.2.1.map V.str))/\H z=some (.lst (e.2.2.map V.str))
theorem fA.same(s:ac H H')(h:fA H kv e):fA H' kv e:=h.elim λa j=>j.elim λt z=>z.elim λY G=>G.elim λl2 J=>J.elim λb O=>O.elim λc U=>U.elim λd f=>⟨a,t,Y,l2,b,s _ _ c,s _ _ d,s _ _ f⟩
def jG(H H':Hp)(kv:ao×V)(e:Str×(Ls×Ls)):Prop:=kv.1=.inr e.1/\∃t j z,kv.2=.ref t/\H t=none/\H j=none/\H z=none/\H' t=some (.tup [.ref j,.ref z])/\H' j=some (.lst (e.2.1.map V.str))/\H' z=some (.lst (e.2.2.map V.str))
theorem jG.same{H2:Hp}(s:∀b o,H1 b=some o->H b=none->H2 b=some o)(h:jG H H1 kv e):jG H H2 kv e:=h.elim λa j=>j.elim λt z=>z.elim λl1 G=>G.elim λl2 J=>J.elim λb O=>O.elim λn1 U=>U.elim λn2 Y=>Y.elim λn3 a0=>a0.elim λc a1=>a1.elim λd f=>⟨a,t,l1,l2,b,n1,n2,n3,s _ _ c n1,s _ _ d n2,s _ _ f n3⟩
theorem jG.put{ks mQ:List (ao×V)}(hd:H1 d=some (.dK ks))(h:jG H H1 kv e):jG H (af H1 d (.dK mQ)) kv e:=
 h.elim λa j=>j.elim λt G=>G.elim λl1 J=>J.elim λl2 O=>O.elim λb U=>U.elim λn1 Y=>Y.elim λn2 a0=>a0.elim λn3 a1=>a1.elim λc a2=>a2.elim λd' f=>⟨a,t,l1,l2,b,n1,n2,n3,ay c (aU c hd (by intro z;cases z)),ay d' (aU d' hd (by intro z;cases z)),ay f (aU f hd (by intro z;cases z))⟩
def pK(H:Hp)(o:Addr)(ow:Ow):Prop:=∃kvs,H o=some (.dK kvs)/\Paired (fA H) kvs ow
theorem pK.same(s:ac H H'){o:Addr}(h:pK H o ow):pK H' o ow:=h.elim λkvs j=>j.elim λa b=>⟨kvs,s _ _ a,aB b λ_ _=>fA.same s⟩
abbrev Cs:=List (Str×Str)
variable {cs:Cs}
def uG(kv:ao×V)(e:Str×Str):Prop:=kv.1=.inr e.1/\kv.2=.str e.2
def uH(H:Hp)(h:Addr)(cs:Cs):Prop:=∃kvs,H h=some (.dK kvs)/\Paired uG kvs cs
theorem uH.same(s:ac H H'){h:Addr}(x:uH H h cs):uH H' h cs:=x.elim λkvs j=>j.elim λa b=>⟨kvs,s _ _ a,b⟩
def gR(T:Addr)(H:Hp)(v:V)(ch:Ch)(cs:Cs)(ow:Ow):Prop:=∃a dx fl c h o,v=.ref a/\H a=some (.ins T dx fl)/\fl.lookup (as6:Str)=some (.ref c)/\fl.lookup (atc:Str)=some (.ref h)/\fl.lookup (ato:Str)=some (.ref o) /\
 dq H c ch/\uH H h cs/\pK H o ow
theorem gR.same{v:V}(s:ac H H')(x:gR T H v ch cs ow):gR T H' v ch cs ow:=by
 obtain⟨a,dx,fl,c,h,o,e,h1,h2,j,z,G,J,O⟩:=x;exact⟨a,dx,fl,c,h,o,e,s _ _ h1,h2,j,z,G.same s,J.same s,O.same s⟩
inductive QR:Sp where
 | mk {H:Hp}{Q:VK}{E:XK}{o:Addr}{kvs:List (ao×V)}{ow:Ow} (_:H o=some (.dK kvs)) (_:Paired (fA H) kvs ow) (_:(ow.map (·.1)).Nodup) (_:ow.length<=400) (_:∀d H' j,H d=none->ac H H'->H' d=some (.dK j)->Paired (jG H H') j ow->Q (.ref d) H'):QR [.ref o] H Q E
theorem BX:aK [ato,"copied",asZ,att] [ato] (av Py):=aQ
theorem ah1(zZ:Pg K mg base Pt):au P w K mg base aL 1 zZ.CCo.f zZ.CCo.fd [ato] QR:=by
 refine zZ.CCo.u.okL BX ?_;intro ar A outer s H vs Q E hr h xX dX;obtain @⟨_,_,_,o,kvs,ow,ho,pr,nd,v9,q⟩:=h;have hu:=hr.units;refine⟨_,(ah (aF (i:=1) BX.nd rfl (Or.inl rfl) mf)
  (ah (Fm eR rfl (pv 0) (oP rfl (gz (bf (i:=2) BX.nd rfl (Or.inl rfl)) (gz (bf (i:=3) BX.nd rfl (Or.inl rfl)) mX)))
  (ai (i8 hu (pv 1) (pv 2) (dE (aC (eT ma (by rfl) zZ.B.list jS (am (bP fq (pv 3) ak (λ_ _=>rfl)))) (eT ma (by rfl) zZ.B.list jS (am (bP fq (pv 3) ak (λ_ _=>rfl)))))) rfl)))
  (ai (aN (pv 1))))),?_⟩
 refine jb ?_;intro dD sS gk dY;have hk:∀(H':Hp) kv f,jG H H' kv f->kv.1=Sum.inr f.1:=λ_ kv f z=>z.1;refine λd H1 n1 s1 e1=>?_;have od:d≠o:=(aI ho n1).symm;refine⟨o,kvs,rfl,s1 _ _ ho,λob=>?_⟩;refine GH (λi Z G=>∃u v O,Z=[some (.ref o),some (.ref d),u,v]/\(∀b x,H b=some x->b≠o->G b=some x)/\(∀b,G b=none->H b=none)/\G o=some (.frz ob (.dK kvs))/\G d=some (.dK O)/\Paired (jG H G) O (ow.take i))
  ⟨none,none,[],rfl,λb x e J=>ay (s1 _ _ e) J,λb e=>s1.free (jY e).2,aD,ay e1 od,.nil⟩ ?_ ?_ ?_
 . intro i Z G fJ;refine bA ?_;intro tT;obtain⟨u,v,O,rfl,_,_,h,_⟩:=fJ;exact h
 . intro i k v p Z G hi gP hp;refine bA ?_;intro tT;obtain⟨u,v',O,rfl,k5,Y,h5,fK,gm⟩:=gP
   first | (refine vR (g:=lR _) ?_;intro eQ sQ) | (refine vR (g:=tG _ _ _) ?_;intro eQ sQ) | skip
   obtain⟨⟨x,b1,m1⟩,hf,a1,t,l1,l2,a2,a3,a4,a5⟩:=eZ pr hi;have a1:k=.inr x:=a1;have a2:v=.ref t:=a2;subst a1 a2;have aO:=(cN.mp hf).1;have sp:ac G (af G p (.tup [kV (.inr x),.ref t])):=fR hp;have K5:∀{b:Addr}{z:HO},H b=some z->(∀ks,z≠.dK ks)->(af G p (.tup [kV (.inr x),.ref t])) b=some z:=λ{b z} e hz=>sp _ _ (k5 _ _ e (aU e ho (hz _)));have T5:=K5 a3 (by intro ks z;cases z);have L5:=K5 a4 (by intro ks z;cases z);have M5:=K5 a5 (by intro ks z;cases z);have z0:cE [V.ref l1,V.ref l2] 0=some (V.ref l1):=rfl;have z1:cE [V.ref l1,V.ref l2] 1=some (V.ref l2):=rfl;refine⟨ba.of aD,rfl,rfl,?_⟩;refine⟨ba.of T5,z0,l1,_,rfl,.inl (aa.of L5),λq1 H6 n6 s6 e6=>?_⟩;refine⟨ba.of (s6 _ _ T5),z1,l2,_,rfl,.inl (aa.of (s6 _ _ M5)),λq2 H7 n7 s7 e7=>?_⟩;refine⟨Aw,λq3 H8 n8 s8 e8=>?_⟩;have U:=sp.trans (s6.trans (s7.trans s8));have pl:=bK gm;rw[eP]at pl;refine⟨gb.k (k:=.inr x) (U _ _ fK) (bZ (by omega)),?_⟩;have GI:x∉(ow.take i).map (·.1):=by
    rw[VN];intro hm;obtain⟨j,hj,ej⟩:=J3.mp hm;rw[eP,al]at hj;rw[List.getElem_take]at ej;have e1:(ow.map (·.1))[j]?=some x:=by rw[gX (by rw[al];omega),ej]
    have e2:(ow.map (·.1))[i]?=some x:=by rw[dA,hf];rfl
    have:=(We (l:=ow.map (·.1)) (i:=j) (j:=i) (by rw[al];omega) nd).mp (by rw[e1,e2]);omega
   have a0:∀b,H8 b=none->H b=none:=λb e=>Y b (U.free e);refine⟨_,_,_,rfl,λb z e J=>?_,λb e=>a0 b (jY e).2,ay (U _ _ h5) od.symm,aD,?_⟩
   . rw[aX (λy=>by rw[y,n1]at e;cases e)];exact U _ _ (k5 _ _ e J)
   rw[ie,hf];have:=jD (F:=jG H H8) (hk H8) (x:=x) (ls:=(b1,m1)) (v:=.ref q3) ⟨rfl,q3,q1,q2,rfl,Y _ (sp.free (s6.free (s7.free n8))),Y _ (sp.free n6),Y _ (sp.free (s6.free n7)),e8,s8 _ _ (s7 _ _ e6),s8 _ _ e7⟩ (aB gm λ_ _=>jG.same λb z e _=>U _ _ e);rw[yH GI]at this;exact aB this λ_ _=>jG.put (U _ _ fK)
 intro Z G gQ;refine bA ?_;intro tT;obtain⟨u,v,O,rfl,k5,Y,h5,fK,gm⟩:=gQ
 first | (refine vR (g:=lR _) ?_;intro eQ sQ) | (refine vR (g:=tG _ _ _) ?_;intro eQ sQ) | skip
 rw[bK pr,fo]at gm;refine⟨q d _ O n1 (λb z e=>?_) (ay fK od) (aB gm λ_ _=>jG.same λb z e J=>ay e (λy=>by rw[y,ho]at J;cases J))⟩
 by_cases J:b=o
 . subst J;rw[ho]at e;cases e;exact aD
 exact ay (k5 b z e J) J
inductive GJ (T:Addr):Sp where
 | mk {H:Hp}{Q:VK}{E:XK}{x dx c h o:Addr}{kvs z:List (ao×V)}{ow:Ow} (_:H x=some (.ins T dx [])) (_:H c=some (.dK kvs)) (_:H h=some (.dK z)) (_:pK H o ow) (_:(ow.map (·.1)).Nodup) (_:ow.length<=400) (_:∀(H':Hp) (fl:List (Str×V)) (c' h' o':Addr) (j:List (ao×V)),(∀b o,H b=some o->b≠x->H' b=some o)->H' x=some (.ins T dx fl)->fl.lookup (as6:Str)=some (.ref c')->fl.lookup (atc:Str)=some (.ref h')->fl.lookup (ato:Str)=some (.ref o') ->
  H c'=none->H h'=none->H o'=none->H' c'=some (.dK kvs)->H' h'=some (.dK z)->H' o'=some (.dK j)->Paired (jG H H') j ow->Q .non H'):GJ T [.ref x,.ref c,.ref h,.ref o] H Q E
theorem ah3:aK [asX,as6,atc,ato] [asX,as6,atc,ato] (av O1):=aQ
theorem eY.over{Hk j:Hp}{fl:List (Str×V)}(S:eY C dx x H Hk fl)(s:ac Hk j):eY C dx x H j fl:=⟨λb o e z=>s _ _ (S.same b o e z),λb e=>S.free b (s.free e),s _ _ S.ob⟩
theorem BY(j:Pg K mg base Pt):au P w K mg base aL 2 j.TIn.f j.TIn.fd [asX,as6,atc,ato] (GJ j.T):=by
 refine j.TIn.u.okL ah3 ?_;intro ar A outer s H vs Q E hr h xX dX;obtain @⟨_,_,_,x,dx,c,h,o,kvs,yN,ow,J,hc,hh,ho,nd,v9,q⟩:=h;refine⟨_,(ah (gZ (pv 0) (eT xU (by rfl) j.B.dict DM (am (pv 1))) rfl)
  (ah (gZ (pv 0) (eT xU (by rfl) j.B.dict DM (am (pv 2))) rfl)
  (ai (gZ (pv 0) (aA (ah1 j) hr rfl (am (pv 3))) rfl)))),?_⟩
 refine jb ?_;intro dD sS gk dY;have S0:eY j.T dx x H H []:=⟨λ_ _ e _=>e,λ_ e=>e,J⟩;have ch:∀{b:Addr}{ks:List (ao×V)},H b=some (.dK ks)->b≠x:=λe=>aU e J (by intro z;cases z);refine⟨c,_,rfl,hc,λc1 H1 n1 s1 e1=>?_⟩;have S1:=S0.over s1;refine⟨S1.ob,j.UT.cl,j.UT.nC,(by decide),?_⟩;have S2:eY j.T dx x H _ (aw as6 (.ref c1) []):=S1.put;have GK:c1≠x:=(aI J n1).symm;have c2:(af H1 x (.ins j.T dx (aw as6 (.ref c1) []))) c1=some (.dK kvs):=ay e1 GK;refine⟨h,_,rfl,S2.same _ _ hh (ch hh),λh1 H3 n3 s3 e3=>?_⟩;have S3:=S2.over s3;have QS:=S2.free _ n3;refine⟨S3.ob,j.UT.cl,j.UT.nH,few (lp pF) (by decide),?_⟩;have G:eY j.T dx x H _ (aw atc (.ref h1) (aw as6 (.ref c1) [])):=S3.put;have QT:h1≠x:=(aI J QS).symm;obtain⟨ko,yO,yP⟩:=ho;have wa:Paired (fA (af H3 x (.ins j.T dx (aw atc (.ref h1) (aw as6 (.ref c1) []))))) ko ow:=aB yP λkv e z=>by
  obtain⟨z1,t,l1,l2,z2,O,U,Y⟩:=z;exact⟨z1,t,l1,l2,z2,G.same _ _ O (aU O J (by intro z;cases z)),G.same _ _ U (aU U J (by intro z;cases z)),G.same _ _ Y (aU Y J (by intro z;cases z))⟩
 refine⟨G.same _ _ yO (ch yO),wa,nd,v9,λo1 H5 GL n5 s5 e5 gm=>?_⟩;have S5:=G.over s5;have QU:=G.free _ n5;refine⟨S5.ob,j.UT.cl,j.UT.nO,few (lp (lp pF)) (by decide),?_⟩;have a0:o1≠x:=(aI J QU).symm;have S6:eY j.T dx x H _ (aw ato (.ref o1) (aw atc (.ref h1) (aw as6 (.ref c1) []))):=S5.put;refine q _ _ c1 h1 o1 GL S6.same S6.ob ?_ ?_ ?_ n1 QS QU (ay (s5 _ _ (ay (s3 _ _ c2) GK)) GK) (ay (s5 _ _ (ay e3 QT)) QT) (ay e5 a0) (aB gm λkv e z=>?_)
 . rw[cI,ag (by decide +kernel),cI,ag (by decide +kernel),cI,aj rfl]
 . rw[cI,ag (by decide +kernel),cI,aj rfl]
 . rw[cI,aj rfl]
 obtain⟨z1,t,l1,l2,z2,m1,m2,m3,O,U,Y⟩:=z;have fx:∀{b:Addr}{z:HO},H5 b=some z->(∀fs,z≠.ins j.T dx fs)->b≠x:=λe hz=>aU e S5.ob (hz _);exact⟨z1,t,l1,l2,z2,G.free _ m1,G.free _ m2,G.free _ m3,ay O (fx O (by intro fs z;cases z)),ay U (fx U (by intro fs z;cases z)),ay Y (fx Y (by intro fs z;cases z))⟩
theorem BZ{Q:Addr->Hp->Prop}{E:XK}(hc:dq H c ch)(hh:uH H h cs)(ho:pK H o ow)(nd:(ow.map (·.1)).Nodup)(v9:ow.length<=400)(q:∀x H',H x=none->ac H H'->(∀L,gO H L->gR T (msk L H') (.ref x) ch cs ow)->Q x H') :
 ∀x dx,H x=none->H dx=none->dx≠x->GJ T (.ref x::([.ref c,.ref h,.ref o]++[])) (af (af H dx (.own x)) x (.ins T dx [])) (λv H2=>v=.non/\Q x H2) E:=by
 intro x dx J aZ nx;have j:ac H (af (af H dx (.own x)) x (.ins T dx [])):=fh (fR aZ) J;obtain⟨kvs,e1,e2⟩:=hc;obtain⟨yN,e3,e4⟩:=hh;refine⟨aD,j _ _ e1,j _ _ e3,ho.same j,nd,v9,λH' fl c' h' o' ko keep qB O U l3 n1 n2 n3 g1 g2 g3 g4=>?_⟩;have Y:ac H H':=λb o e=>keep b o (j _ _ e) (aI e J);refine⟨rfl,q x H' J Y λL G=>⟨x,dx,fl,c',h',o',rfl,cL (G.free J) qB,O,U,l3,⟨kvs,cL (G.free (j.free n1)) g1,aB e2 λkv e z=>?_⟩,⟨yN,cL (G.free (j.free n2)) g2,e4⟩,⟨ko,cL (G.free (j.free n3)) g3,aB g4 λkv e z=>?_⟩⟩⟩
 . obtain⟨a,m,b,c⟩:=z;exact⟨a,m,b,cL (G.tup c) (Y _ _ c)⟩
 obtain⟨z1,t,O,U,z2,m1,m2,m3,z3,z4,z5⟩:=z;exact⟨z1,t,O,U,z2,cL (G.free (j.free m1)) z3,cL (G.free (j.free m2)) z4,cL (G.free (j.free m3)) z5⟩
end
end K74
namespace L2
theorem QV{X:Cx}(K:Fg){T id:String}{name:Str}{r:V->Lv->Hp->VK->Prop}{o e:Expr}{es:List Expr}{to:TE}{t:TA}{apos cn:Pos}(Y:PlainAttrs T)(slot:Slot T name id)(j:typeOf (.builtin id)=pure (.type "method_descriptor"))(O:LD X id r)(U:PE X o to)(J:PA X (e::es) t)(h:X.K=K:=by rfl)
 (tU:attributeBase o name X.env (eval o X.env)=eval o X.env:=by rfl)
 (z:((backTo cn (starEach (e::es) X.env)).all (λx=>!x.1) && (backToKw cn (keywordEach [] X.env)).all (λx=>x.1.isSome)
  && decide ((e::es).length+([]:List Keyword).length+(if ([]:List Keyword).isEmpty then 0 else 1)<30))=true:=by rfl)
 (tV:(apos.endLine == cn.line)=true:=by rfl) (hs:starEach (e::es) X.env=(false,eval e X.env)::starEach es X.env:=by rfl) (G:(backTo cn (starEach es X.env)).any (·.1)=false:=by rfl) :
 PE X (.Call (.Attribute o name apos) (e::es) [] cn) (LU K T r to t):=by
 subst h;exact dC Y slot j O U J tU z tV hs G
theorem QW{X:Cx}(K:Fg)(h:X.K=K:=by rfl):oW X "str.join" (MK K):=h▸vO
end L2
namespace K74
section
variable {c:Str}
structure B0(ch:Ch)(cs:Cs)(ow:Ow):Prop where
 nch:ch.length<64
 ncs:cs.length<64
 now:ow.length<64
 dch:(ch.map (·.1)).Nodup
 dcs:(cs.map (·.1)).Nodup
 dow:(ow.map (·.1)).Nodup
 ch:∀e∈ch,e.1.length<=60/\yM e.2
 cs:∀e∈cs,e.1.length<=60/\e.2.length<=60
 ow:∀e∈ow,e.1.length<=60/\e.2.1.length<=60/\e.2.2.length<=60/\(∀x∈e.2.1,x.length<=60)/\∀x∈e.2.2,x.length<=60
theorem uJ(sep:Str)(ps:Ls):Txt.join sep ps=Str.join sep ps:=Ac _ _
theorem QX(p:Str):(Str.ofString "own ")++p=Str.join spS [dW,p]:=by
 show _=dW++spS++p;rw[show(Str.ofString "own ")=dW++spS by decide +kernel]
theorem GN{sep:Str}{ps:Ls}{b:Nat}(h:∀p∈ps,p.length<=b)(hs:sep.length<=1):(Str.join sep ps).length<=ps.length * (b+1):=by
 rw[<-uJ];refine bX A1 ?_;have:=xT h;have h2:ps.length * sep.length<=ps.length * 1:=Nat.mul_le_mul_left _ hs;rw[Nat.mul_add];omega
inductive QY:Sp where
 | mk {H:Hp}{Q:VK}{E:XK}{p:Str}{t j z:Addr}{b m:Ls} (_:H t=some (.tup [.ref j,.ref z])) (_:H j=some (.lst (b.map V.str))) (_:H z=some (.lst (m.map V.str))) (_:p.length<=60) (_:b.length<=60) (_:m.length<=60) (_:(∀x∈b,x.length<=60)) (_:(∀x∈m,x.length<=60)) (_:∀l H',H l=none->ac H H'->H' l=some (.lst ((eh (p,(b,m))).map V.str))->Q (.ref l) H'):QY [.str p,.ref t] H Q E
theorem QZ:aK [asZ,att,"rows"] [asZ,att] (av PH):=aQ
theorem ah5(zZ:Pg K mg base Pt):au P w K mg base aL 1 zZ.ChR.f zZ.ChR.fd [asZ,att] QY:=by
 refine zZ.ChR.u.okL QZ ?_;intro ar A outer s H vs Q E hr h xX dX;obtain @⟨_,_,_,p,t,l1,l2,b,m,ht,h1,h2,hp,hb,hm,a0,a1,q⟩:=h;refine⟨_,(ah (aF (i:=2) QZ.nd rfl (Or.inl rfl) (cU (am (x5 bB (xZ (pv 0))))))
  (ah (bC (dC iW qy qz nj (pv 2) (am (fT ["line"] [] [] dN rfl (cH (bP fq (pv 1) ak (λ_ _=>rfl))) (λ_ _ _ _=>(bf (i:=0) (show List.Nodup (["line"]:Ls) by decide +kernel) rfl (Or.inl rfl))) (λ_ _ _ _=>ge) (λ_ _ _ _=>(x5 bB (xZ (pv 0))))))))
  (ah (bC (dC iW qy qz nj (pv 2) (am (fT ["line"] [] [] dN rfl (cH (bP fq (pv 1) ak (λ_ _=>rfl))) (λ_ _ _ _=>(bf (i:=0) (show List.Nodup (["line"]:Ls) by decide +kernel) rfl (Or.inl rfl))) (λ_ _ _ _=>ge) (λ_ _ _ _=>(x5 bB (xZ (pv 0))))))))
  (ai (aN (pv 2)))))),?_⟩
 refine kO ?_;intro dD sS nZ gk dY;have z0:cE [V.ref l1,V.ref l2] 0=some (V.ref l1):=rfl;have z1:cE [V.ref l1,V.ref l2] 1=some (V.ref l2):=rfl;have e4:(Str.ofString "own ").length=4:=by decide +kernel
 refine⟨eA (by rw[e4];omega),eA (by omega),_,rfl,eA (by rw[e4];omega),Ap,λr H1 n1 O e1=>?_⟩;refine⟨.inl ⟨rfl,_,aa.of e1⟩,ba.of (O _ _ ht),z0,⟨_,aa.of (O _ _ h1)⟩,?_⟩;refine vX (σ0:=[none]) (aa.of (O _ _ h1)) (λZ=>∃v,Z=[v]) ((b.map (ft ++ ·)).map V.str) (by rw[al,al,al]) (eA (by rw[al];omega)) ⟨_,rfl⟩ ?_ ?_
 . intro i z y Z H2 k hz G U hs Y;obtain⟨v,rfl⟩:=U;obtain⟨x,j,rfl⟩:=iS hz;rw[lL]at G;obtain⟨x',J,rfl⟩:=iS G;rw[j]at J;cases J;have:=a0 x (dH j);exact⟨eA (by show ft.length<=_;rw[nX];decide),eA (by omega),_,rfl,eA (by show ft.length+_<=_;rw[nX,o5];omega),Y _ _ ⟨_,rfl⟩ (ac.refl _)⟩
 intro D1 H2 n2 e2 s2;refine⟨s2 _ _ e1,e2,eA (by simp only[al,cr,jQ];omega),?_⟩;have bV:=O.trans s2;have nr:∀{c:Addr}{o:HO},H c=some o->c≠r:=λe=>aI e n1;have k3:∀{c:Addr}{o:HO}{o':HO},H c=some o->af H2 r o' c=some o:=λe=>ay (bV _ _ e) (nr e);refine⟨.inl ⟨rfl,_,aa.of aD⟩,ba.of (k3 ht),z1,⟨_,aa.of (k3 h2)⟩,?_⟩;refine vX (σ0:=[none]) (aa.of (k3 h2)) (λZ=>∃v,Z=[v]) ((m.map (fw ++ ·)).map V.str) (by rw[al,al,al]) (eA (by rw[al];omega)) ⟨_,rfl⟩ ?_ ?_
 . intro i z y Z H3 k hz G U hs Y;obtain⟨v,rfl⟩:=U;obtain⟨x,j,rfl⟩:=iS hz;rw[lL]at G;obtain⟨x',J,rfl⟩:=iS G;rw[j]at J;cases J;have:=a1 x (dH j);exact⟨eA (by show fw.length<=_;rw[pH];decide),eA (by omega),_,rfl,eA (by show fw.length+_<=_;rw[pH,o5];omega),Y _ _ ⟨_,rfl⟩ (ac.refl _)⟩
 intro D2 H3 n3 e3 s3;refine⟨s3 _ _ aD,e3,eA (by simp only[al,cr,jQ,bH];omega),?_⟩;refine⟨q r _ n1 (λc o e=>ay (s3 _ _ (k3 e)) (nr e)) ?_⟩;rw[aD];unfold eh;rw[dJ,dJ,<-QX];rfl
inductive B1 (T:Addr):Sp where
 | mk {H:Hp}{Q:VK}{E:XK}{v:V}{ch:Ch}{cs:Cs}{ow:Ow} (_:gR T H v ch cs ow) (_:B0 ch cs ow) (_:∀aT aV aM H',cF ch aT->cF cs aV->cF ow aM->ac H H'->Q (.str (Str.join k9 (fV aT aV aM))) H'):B1 T [v] H Q E
theorem GO:aK [atj,"rows",asZ] [atj] (av PF):=aQ
theorem Q0{a b:Str}(j:a.length<=10)(z:b.length<=60)(G:c.length<=60):(([a,b,c].map (·.length)).sum + [a,b,c].length * spS.length)<=16777216:=by
 rw[show spS.length=1 by decide +kernel];simp only[bS,zW,List.sum_cons,List.sum_nil,cr,jQ];omega
theorem Q1{ms:List Int}(h:yM ms):(jF ms).length<=60:=by
 unfold jF;rw[<-uJ];refine bX A1 ?_;have:=QQ h;have:=h.1;rw[show li.length=1 by decide +kernel,al];omega
theorem Q2{a b:Str}(j:a.length<=10)(z:b.length<=60)(G:c.length<=60):(Str.join spS [a,b,c]).length<=133:=by
 show(a++spS++(b++spS++c)).length<=133;simp only[i9,show spS.length=1 by decide +kernel];omega
theorem Q3{ch:Ch}{cs:Cs}{ow:Ow}(j:B0 ch cs ow){aT:Ch}{aV:Cs}{aM:Ow}(U:aT.Perm ch)(Y:aV.Perm cs)(J:aM.Perm ow):(fV aT aV aM).length<=64+64+64 * 121/\∀y∈fV aT aV aM,y.length<=140:=by
 refine⟨?_,λy hy=>?_⟩
 . have:∀(l:Ow),(∀e∈l,e∈ow)->(l.flatMap eh).length<=l.length * 121:=by
    intro l
    induction l with
    | nil=>intro _;exact dz _
    | cons e l ih=>
     intro O;have h1:=ih λx G=>O x (bU _ G);obtain⟨_,h2,h3,_⟩:=j.ow e (O e bQ);rw[DL,bH,cr];have:(eh e).length<=121:=by
      unfold eh;simp only[bH,al,cr,jQ];omega
     omega
   have h3:=this aM λe z=>J.mem_iff.mp z;have a1:=U.length_eq;have a2:=Y.length_eq;have a3:=J.length_eq;have b1:=j.nch;have b2:=j.ncs;have b3:=j.now;have h4:aM.length * 121<=64 * 121:=Kh _ (by omega);unfold fV;rw[bH,bH,al,al];omega
 unfold fV at hy
 rcases b9.mp hy with hy | hy
 . rcases b9.mp hy with hy | hy
   . obtain⟨e,z,rfl⟩:=cC.mp hy;obtain⟨k1,k2⟩:=j.ch e (U.mem_iff.mp z);have:=Q2 (a:=gi) (by decide +kernel) k1 (Q1 k2);unfold iy;omega
   obtain⟨e,z,rfl⟩:=cC.mp hy;obtain⟨k1,k2⟩:=j.cs e (Y.mem_iff.mp z);have:=Q2 (a:=fU) (by decide +kernel) k1 k2;unfold hZ;omega
 obtain⟨e,z,hy⟩:=vx.mp hy;obtain⟨j1,j2,j3,j4,j5⟩:=j.ow e (J.mem_iff.mp z);unfold eh at hy
 rcases b9.mp hy with hy | hy
 . rcases b9.mp hy with hy | hy
   . rw[bF.mp hy,<-QX,i9,show(Str.ofString "own ").length=4 by decide +kernel];omega
   obtain⟨x,G,rfl⟩:=cC.mp hy;have:=j4 x G;show(ft++x).length<=140;rw[i9,nX,o5];omega
 obtain⟨x,G,rfl⟩:=cC.mp hy;have:=j5 x G;show(fw++x).length<=140;rw[i9,pH,o5];omega
theorem ah8{ch:Ch}{cs:Cs}{ow:Ow}(j:B0 ch cs ow){aT:Ch}{aV:Cs}{aM:Ow}(G:aT.Perm ch)(J:aV.Perm cs)(z:aM.Perm ow):((fV aT aV aM).map (·.length)).sum+(fV aT aV aM).length * k9.length<=16777216:=by
 obtain⟨h1,h2⟩:=Q3 j G J z;have:=xT h2;rw[show k9.length=1 by decide +kernel];omega
theorem uK(j:Pg K mg base Pt):au P w K mg base aL 2 j.Sho.f j.Sho.fd [atj] (B1 j.T):=by
 refine j.Sho.u.okL GO ?_;intro ar A outer s H vs Q E hr h xX dX;obtain @⟨_,_,_,v,ch,cs,ow,hS,G,q⟩:=h;have hu:=hr.units;obtain⟨a,dx,fl,c,h,o,rfl,ha,f1,f2,f3,⟨kc,Q4,GP⟩,⟨kh,Q5,GQ⟩,⟨ko,yO,yP⟩⟩:=hS;refine⟨_,(ah (qT (i:=1) [as5] [atj] [0] GO.nd rfl rfl dN rfl (cH (cJ (A3 rfl) (by rfl) j.B.sorted xi (am (bJ (pv 0) rfl)))) (λ_ _ _ _=>(bf (i:=0) (show List.Nodup ([as5,atj]:Ls) by decide +kernel) rfl (Or.inl rfl))) (λ_ _ _ _=>ge) (λ_ _ _ _=>(QV K lN xg xh (QW K) bB (am (cU (dP bB (pv 0) (aA (ahx j) hr (by rfl) (am (qO hu (iM K (pv 1) rfl) (pv 0) (λ_ _=>rfl))))))))))
  (ah (bC (dC iW qy qz nj (pv 1) (am (fT [atn] [atj] [0] dN rfl (cH (cJ (A3 rfl) (by rfl) j.B.sorted xi (am (bJ (pv 0) rfl)))) (λ_ _ _ _=>(bf (i:=0) (show List.Nodup ([atn,atj]:Ls) by decide +kernel) rfl (Or.inl rfl))) (λ_ _ _ _=>ge) (λ_ _ _ _=>(QV K lN xg xh (QW K) bB (am (cU (dP bB (pv 0) (qO hu (iM K (pv 1) rfl) (pv 0) (λ_ _=>rfl)))))))))))
  (ah (eS eR rfl (cH (cJ (A3 rfl) (by rfl) j.B.sorted xi (am (bJ (pv 0) rfl)))) (bf (i:=2) GO.nd rfl (Or.inl rfl))
   (ai (bC (dC iW qy qz nj (pv 1) (am (aA (ah5 j) hr (by rfl) (aC (pv 2) (qO hu (bJ (pv 0) rfl) (pv 2) (λ_ _=>rfl)))))))))
  (ai (aN (dC lN xg xh vO bB (am (pv 1)))))))),?_⟩
 refine kO ?_;intro dD sS nZ gk dY;have Q6:∀kv f,dQ H kv f->kv.1=Sum.inr f.1:=λkv f z=>z.1;have Q7:∀kv f,uG kv f->kv.1=Sum.inr f.1:=λkv f z=>z.1;have Br:∀kv f,fA H kv f->kv.1=Sum.inr f.1:=λkv f z=>z.1;have lc:=bK GP;have lh:=bK GQ;have lo:=bK yP;have b1:=G.nch;have b2:=G.ncs;have b3:=G.now;refine⟨ha,j.UT.cl,j.UT.nC,f1,c,kc,_,rfl,Q4,uz Q6 GP,by omega,λys hp hs l1 H1 n1 s1 e1=>⟨⟨_,aa.of e1⟩,?_⟩⟩;obtain⟨aT,pL,a5⟩:=Gw hp rfl;subst a5;have y1:aT.length=ch.length:=pL.length_eq;refine vX (σ0:=[none,some (.ref a)]) (aa.of e1) (λZ=>∃v,Z=[v,some (.ref a)]) ((aT.map iy).map V.str) (by rw[al,al,al,al]) (eA (by rw[al,al];omega)) ⟨_,rfl⟩ ?_ ?_
 . intro i z y Z H2 k hz hy Y tH hk;obtain⟨v,rfl⟩:=Y;rw[lL]at hz hy;obtain⟨e,U,rfl⟩:=iS hz;obtain⟨e',me,rfl⟩:=iS hy;rw[U]at me;cases me;have O:e∈ch:=pL.mem_iff.mp (dH U);obtain⟨u,ms,g1,g2,_,m,J,g3⟩:=pG Q6 GP (gw (f:=(·.1)) O);have J:u=.ref m:=J;subst J;have em:ms=e.2:=nV G.dch g2 (by exact O);subst em;have bV:=s1.trans tH;obtain⟨k1,k2⟩:=G.ch e O;refine⟨rfl,bV _ _ ha,j.UT.cl,j.UT.nC,f1,(by rw[<-g1];exact cO.k (k:=.inr e.1) (bV _ _ Q4)),?_⟩;refine⟨bV _ _ g3,k2,λH3 s3=>?_⟩;refine⟨Ax,λr H4 n4 s4 e4=>?_⟩;refine⟨[gi,e.1,jF e.2],aa.of e4,Q0 (by decide +kernel) k1 (Q1 k2),?_⟩;have eW:=hk [some (.str e.1),some (.ref a)] H4 ⟨_,rfl⟩ (s3.trans s4);rw[uJ];exact eW
 intro D1 H2 n2 e2 s2;have bV:=s1.trans s2;have Q9:H D1=none:=s1.free n2;refine⟨.inl ⟨rfl,_,aa.of e2⟩,bV _ _ ha,j.UT.cl,j.UT.nH,f2,h,kh,_,rfl,bV _ _ Q5,uz Q7 GQ,by omega,λa9 EE a0 l2 H3 n3 s3 e3=>⟨⟨_,aa.of e3⟩,?_⟩⟩;obtain⟨aV,pM,a6⟩:=Gw EE rfl;subst a6;have y2:aV.length=cs.length:=pM.length_eq;have jH:=bV.trans s3;refine vX (σ0:=[none,some (.ref a)]) (aa.of e3) (λZ=>∃v,Z=[v,some (.ref a)]) ((aV.map hZ).map V.str) (by rw[al,al,al,al]) (eA (by rw[al,al];omega)) ⟨_,rfl⟩ ?_ ?_
 . intro i z y Z H4 k hz hy Y a3 hk;obtain⟨v,rfl⟩:=Y;rw[lL]at hz hy;obtain⟨e,U,rfl⟩:=iS hz;obtain⟨e',me,rfl⟩:=iS hy;rw[U]at me;cases me;have O:e∈cs:=pM.mem_iff.mp (dH U);obtain⟨u,nm,g1,g2,_,J⟩:=pG Q7 GQ (gw (f:=(·.1)) O);have J:u=.str nm:=J;subst J;have em:nm=e.2:=nV G.dcs g2 (by exact O);subst em;have rD:=jH.trans a3;obtain⟨k1,k2⟩:=G.cs e O;refine⟨rfl,rD _ _ ha,j.UT.cl,j.UT.nH,f2,(by rw[<-g1];exact cO.k (k:=.inr e.1) (rD _ _ Q5)),?_⟩;refine⟨Ax,λr H5 n5 s5 e5=>?_⟩;refine⟨[fU,e.1,e.2],aa.of e5,Q0 (by decide +kernel) k1 k2,?_⟩;have eW:=hk [some (.str e.1),some (.ref a)] H5 ⟨_,rfl⟩ s5;rw[uJ];exact eW
 intro D2 H4 n4 e4 s4;have rD:=jH.trans s4;refine⟨s4 _ _ (s3 _ _ e2),e4,eA (by simp only[al];omega),?_⟩;have k5:∀{b:Addr}{z o':HO},H b=some z->af H4 D1 o' b=some z:=λe=>ay (rD _ _ e) (aI e Q9);refine⟨k5 ha,j.UT.cl,j.UT.nO,f3,o,ko,_,rfl,k5 yO,uz Br yP,by omega,λab a2 a1 l3 H6 n6 s6 e6=>⟨⟨_,aa.of e6⟩,?_⟩⟩;obtain⟨aM,my,a7⟩:=Gw a2 rfl;subst a7;have y3:aM.length=ow.length:=my.length_eq;have f6:H6 D1=some (.lst ((aT.map iy++aV.map hZ).map V.str)):=by
  rw[dJ];exact s6 _ _ aD
 have k6:∀{b:Addr}{z:HO},H b=some z->H6 b=some z:=λe=>s6 _ _ (k5 e);have a4:l3≠D1:=λz=>by
  subst z;rw[aD]at n6;cases n6
 have rl:∀i,((aM.take i).flatMap eh).length<=64 * 121:=λi=>by
  have:∀(l:Ow),(∀e∈l,e∈ow)->(l.flatMap eh).length<=l.length * 121:=by
   intro l
   induction l with
   | nil=>intro _;exact dz _
   | cons e l ih=>
    intro hm;have h1:=ih λx hx=>hm x (bU _ hx);obtain⟨_,h2,h3,_⟩:=G.ow e (hm e bQ);rw[DL,bH,cr];have:(eh e).length<=121:=by
     unfold eh;simp only[bH,al,cr,jQ];omega
    omega
  refine bX (this _ λe U=>my.mem_iff.mp (JT U)) ?_;rw[eP];have:min i aM.length<=64:=by omega
  exact Kh _ this
 refine iK (xs:=(aM.map (·.1)).map V.str) (λi Z H7=>∃u,Z=[some (.ref a),some (.ref D1),u]/\(∀b z,H b=some z->H7 b=some z)/\H7 l3=some (.lst ((aM.map (·.1)).map V.str))/\H7 D1=some (.lst ((aT.map iy++aV.map hZ++(aM.take i).flatMap eh).map V.str))) ⟨none,rfl,λb z e=>k6 e,e6,by rw[List.take_zero,List.flatMap_nil,lH];exact f6⟩ ?_ ?_ ?_
 . intro i Z H7 hi Y;obtain⟨u,rfl,_,h7,_⟩:=Y;exact aa.of h7
 . intro i z Z H7 hz Y;obtain⟨u,rfl,k7,l7,d7⟩:=Y;rw[lL]at hz;obtain⟨e,U,rfl⟩:=iS hz;have O:e∈ow:=my.mem_iff.mp (dH U);obtain⟨u2,bm,g1,g2,_,t,q1,q2,J,g5,g6,g7⟩:=pG Br yP (gw (f:=(·.1)) O);have J:u2=.ref t:=J;subst J;have em:bm=e.2:=nV G.dow g2 (by exact O);subst em;obtain⟨j1,j2,j3,j4,j5⟩:=G.ow e O;refine⟨.inl ⟨rfl,_,aa.of d7⟩,k7 _ _ ha,j.UT.cl,j.UT.nO,f3,(by rw[<-g1];exact cO.k (k:=.inr e.1) (k7 _ _ yO)),?_⟩;refine⟨k7 _ _ g5,k7 _ _ g6,k7 _ _ g7,j1,j2,j3,j4,j5,λr H8 n8 s8 e8=>?_⟩;have a8:=rl i;refine⟨s8 _ _ d7,e8,eA ?_,?_⟩
   . have:(eh e).length<=121:=by
      unfold eh;simp only[bH,al,cr,jQ];omega
     rw[al,al,bH,bH,al,al];show _+(eh (e.1,(e.2.1,e.2.2))).length<=_;have e0:(eh (e.1,(e.2.1,e.2.2)))=eh e:=rfl;rw[e0];omega
   refine⟨_,rfl,λb z hb=>ay (s8 _ _ (k7 _ _ hb)) (aI hb Q9),ay (s8 _ _ l7) a4,?_⟩;rw[aD,ie,U,<-dJ];show some (HO.lst (List.map V.str (aT.map iy++aV.map hZ++(aM.take i).flatMap eh++eh e)))=some (HO.lst (List.map V.str (aT.map iy++aV.map hZ++(aM.take i++[e]).flatMap eh)));rw[DN,jR (List.map iy aT++List.map hZ aV),List.flatMap_singleton]
 intro Z H7 Y;obtain⟨u,rfl,k7,l7,d7⟩:=Y;rw[al,al,fo]at d7;refine⟨rfl,fV aT aV aM,aa.of d7,?_,?_⟩
 . exact ah8 G pL pM my
 rw[uJ];exact q aT aV aM H7 ⟨pL,hs⟩ ⟨pM,a0⟩ ⟨my,a1⟩ (λb z e=>k7 b z e)
theorem aih{p:Str}(h:(v5 p).isSome=true):v4 p=true/\0<p.length/\p.length<=10/\(NumText.digitsVal p.cps.toList:Int)<=1000000000:=by
 unfold v5 at h;split at h
 . rename_i h1;obtain⟨h2,j⟩:=wX.mp h1;have h2:=cW h2;split at h
   . cases h
   split at h
   . cases h
   exact⟨j,h2.1,h2.2,by omega⟩
 cases h
theorem aii{t:Str}(h:uB t=true):(Txt.split t li).length<=3/\∀p∈Txt.split t li,(v5 p).isSome=true:=by
 unfold uB at h;obtain⟨h1,h2⟩:=wX.mp h;exact⟨cW h1,gW.mp h2⟩
theorem aij{j:Str}(h:jE j=true)(h1:Txt.startswith j ft=false)(h2:Txt.startswith j fw=false) :
 (∃p,Txt.split j spS=[dW,p])\/(∃n x,Txt.split j spS=[gi,n,x]/\uB x=true)\/∃n x,Txt.split j spS=[fU,n,x]:=by
 unfold jE at h;rw[h1,h2,si,ag (by decide)]at h;generalize Txt.split j spS=G at h
 match G,h with
 | [w,p],h=>
  have h:=cW (wX.mp h).1;rw[h];exact .inl ⟨p,rfl⟩
 | [w,n,x],h=>
  obtain⟨_,h⟩:=wX.mp h
  by_cases z:w=gi
  . rw[aj z]at h;rw[z];exact .inr (.inl ⟨n,x,rfl,h⟩)
  rw[ag z]at h;have h:=cW (wX.mp h).1;rw[h];exact .inr (.inr ⟨n,x,rfl⟩)
def og(H7:Hp)(ck:Option Str)(ct cy cz:Addr)(b m:Ls)(kv:ao×V)(e:Str×(Ls×Ls)):Prop:=
 kv.1=.inr e.1/\((ck=some e.1/\kv.2=.ref ct/\e.2=(b,m))\/(ck≠some e.1/\∃t j z,kv.2=.ref t/\H7 t=some (.tup [.ref j,.ref z])/\H7 j=some (.lst (e.2.1.map V.str))/\H7 z=some (.lst (e.2.2.map V.str))/\j≠cy/\j≠cz/\z≠cy/\z≠cz))
structure fX(H H7:Hp)(dc dh dO ct cy cz:Addr)(s:Nt):Prop where
 old:∀b z,H b=some z->H7 b=some z
 nc:H dc=none
 nh:H dh=none
 no:H dO=none
 n1:H cy=none
 n2:H cz=none
 d1:dc≠dh
 d2:dc≠dO
 d3:dh≠dO
 d4:cy≠cz
 ch:∃kc,H7 dc=some (.dK kc)/\Paired (dQ H7) kc s.ch
 cs:∃kh,H7 dh=some (.dK kh)/\Paired uG kh s.cs
 hct:H7 ct=some (.tup [.ref cy,.ref cz])
 c1:H7 cy=some (.lst (s.b.map V.str))
 c2:H7 cz=some (.lst (s.m.map V.str))
 ow:∃ko,H7 dO=some (.dK ko)/\Paired (og H7 s.ck ct cy cz s.b s.m) ko s.ow
 ck:∀p,s.ck=some p->p∈s.ow.map (·.1)
section
variable {H H7 H8:Hp}{dc dh dO ct cy cz:Addr}{s:Nt}
theorem og.keep{ck:Option Str}{b m:Ls}{kv:ao×V}{e:Str×(Ls×Ls)}(k:∀c z,H7 c=some z->(∀ks,z≠.dK ks)->c≠cy->c≠cz->H8 c=some z)(h1:∃xs,H7 cy=some (.lst xs))(h2:∃xs,H7 cz=some (.lst xs))(h:og H7 ck ct cy cz b m kv e):og H8 ck ct cy cz b m kv e:=by
 obtain⟨a,h⟩:=h;refine⟨a,?_⟩
 rcases h with h | ⟨nk,t,U,Y,e1,e2,e3,e4,j,G,J,O⟩
 . exact .inl h
 obtain⟨x1,h1⟩:=h1;obtain⟨x2,h2⟩:=h2;exact .inr ⟨nk,t,U,Y,e1,k _ _ e2 (by intro ks z;cases z) (aU e2 h1 (by intro z;cases z)) (aU e2 h2 (by intro z;cases z)),k _ _ e3 (by intro ks z;cases z) j G,k _ _ e4 (by intro ks z;cases z) J O,j,G,J,O⟩
theorem fX.same(N:fX H H7 dc dh dO ct cy cz s)(j:ac H7 H8):fX H H8 dc dh dO ct cy cz s where
 old:=λb z e=>j _ _ (N.old b z e)
 nc:=N.nc
 nh:=N.nh
 no:=N.no
 n1:=N.n1
 n2:=N.n2
 d1:=N.d1
 d2:=N.d2
 d3:=N.d3
 d4:=N.d4
 ch:=N.ch.elim λU G=>G.elim λa b=>⟨U,j _ _ a,aB b λ_ _=>dQ.same j⟩
 cs:=N.cs.elim λY J=>J.elim λa b=>⟨Y,j _ _ a,b⟩
 hct:=j _ _ N.hct
 c1:=j _ _ N.c1
 c2:=j _ _ N.c2
 ow:=N.ow.elim λko O=>O.elim λa b=>⟨ko,j _ _ a,aB b λ_ _=>og.keep (λ_ _ e _ _ _=>j _ _ e) ⟨_,N.c1⟩ ⟨_,N.c2⟩⟩
 ck:=N.ck
theorem fX.inn(N:fX H H7 dc dh dO ct cy cz s){j:List (ao×V)}(J:H7 dc=some (.dK j)){n:Str}{ms:List Int}{m:Addr}(hm:H7 m=some (.tup (ms.map V.int))) :
 fX H (af H7 dc (.dK (cK j (.inr n) (.ref m)))) dc dh dO ct cy cz { s with ch:=bR s.ch n ms }:=by
 have up:∀c z,H7 c=some z->(∀ks,z≠.dK ks)->af H7 dc (.dK (cK j (.inr n) (.ref m))) c=some z:=λc z e hz=>ay e (aU e J (hz _));obtain⟨a3,G,O⟩:=N.ch;rw[J]at G;cases G;obtain⟨kh,b1,b2⟩:=N.cs;obtain⟨ko,o1,o2⟩:=N.ow;exact {
  old:=λb z e=>ay (N.old b z e) (aI e N.nc)
  nc:=N.nc,nh:=N.nh,no:=N.no,n1:=N.n1,n2:=N.n2,d1:=N.d1,d2:=N.d2,d3:=N.d3,d4:=N.d4
  ch:=⟨_,aD,aB (jD (F:=dQ H7) (λkv f z=>z.1) (x:=n) (ls:=ms) (v:=.ref m) ⟨rfl,m,rfl,hm⟩ O) λkv f U=>U.elim λx1 Y=>Y.elim λx2 a0=>a0.elim λx3 x4=>⟨x1,x2,x3,up _ _ x4 (by intro ks z;cases z)⟩⟩
  cs:=⟨kh,ay b1 N.d1.symm,b2⟩
  hct:=up _ _ N.hct (by intro ks z;cases z)
  c1:=up _ _ N.c1 (by intro ks z;cases z)
  c2:=up _ _ N.c2 (by intro ks z;cases z)
  ow:=⟨ko,ay o1 N.d2.symm,aB o2 λ_ _=>og.keep (λc z e hz _ _=>up c z e hz) ⟨_,N.c1⟩ ⟨_,N.c2⟩⟩
  ck:=N.ck }
theorem fX.cho(N:fX H H7 dc dh dO ct cy cz s){j:List (ao×V)}(J:H7 dh=some (.dK j)){n:Str} :
 fX H (af H7 dh (.dK (cK j (.inr c) (.str n)))) dc dh dO ct cy cz { s with cs:=bR s.cs c n }:=by
 have up:∀b z,H7 b=some z->(∀ks,z≠.dK ks)->af H7 dh (.dK (cK j (.inr c) (.str n))) b=some z:=λb z e hz=>ay e (aU e J (hz _));obtain⟨kc,O,U⟩:=N.ch;obtain⟨a4,G,b2⟩:=N.cs;rw[J]at G;cases G;obtain⟨ko,o1,o2⟩:=N.ow;exact {
  old:=λb z e=>ay (N.old b z e) (aI e N.nh)
  nc:=N.nc,nh:=N.nh,no:=N.no,n1:=N.n1,n2:=N.n2,d1:=N.d1,d2:=N.d2,d3:=N.d3,d4:=N.d4
  ch:=⟨kc,ay O N.d1,aB U λkv f Y=>Y.elim λx1 a0=>a0.elim λx2 a3=>a3.elim λx3 x4=>⟨x1,x2,x3,up _ _ x4 (by intro ks z;cases z)⟩⟩
  cs:=⟨_,aD,jD (F:=uG) (λkv f z=>z.1) (x:=c) (ls:=n) (v:=.str n) ⟨rfl,rfl⟩ b2⟩
  hct:=up _ _ N.hct (by intro ks z;cases z)
  c1:=up _ _ N.c1 (by intro ks z;cases z)
  c2:=up _ _ N.c2 (by intro ks z;cases z)
  ow:=⟨ko,ay o1 N.d3.symm,aB o2 λ_ _=>og.keep (λc z e hz _ _=>up c z e hz) ⟨_,N.c1⟩ ⟨_,N.c2⟩⟩
  ck:=N.ck }
theorem Ra{ck:Option Str}{b m b' m':Ls}{U:List (ao×V)}{ow:Ow}(hc:∀p,ck=some p->p∈ow.map (·.1))(k:∀c z,H7 c=some z->c≠cy->c≠cz->H8 c=some z)(h1:∃xs,H7 cy=some (.lst xs))(h2:∃xs,H7 cz=some (.lst xs))
 (h:Paired (og H7 ck ct cy cz b m) U ow):Paired (og H8 ck ct cy cz b' m') U (iw ow ck (b',m'))/\(iw ow ck (b',m')).map (·.1)=ow.map (·.1):=by
 obtain⟨x1,h1⟩:=h1;obtain⟨x2,h2⟩:=h2;have Y:∀{t j G:Addr}{e:Ls×Ls},H7 t=some (.tup [.ref j,.ref G])/\H7 j=some (.lst (e.1.map V.str))/\H7 G=some (.lst (e.2.map V.str))/\j≠cy/\j≠cz/\G≠cy/\G≠cz->H8 t=some (.tup [.ref j,.ref G])/\H8 j=some (.lst (e.1.map V.str))/\H8 G=some (.lst (e.2.map V.str))/\j≠cy/\j≠cz/\G≠cy/\G≠cz:=by
  rintro t j G e ⟨e2,e3,e4,e5,e6,e7,e8⟩;exact⟨k _ _ e2 (aU e2 h1 (by intro z;cases z)) (aU e2 h2 (by intro z;cases z)),k _ _ e3 e5 e6,k _ _ e4 e7 e8,e5,e6,e7,e8⟩
 cases ck with
 | none=>
  refine⟨aB h λkv e z=>?_,rfl⟩;obtain⟨a,z⟩:=z
  rcases z with⟨z,_⟩ | ⟨J,t,j,G,e1,z⟩
  . cases z
  exact⟨a,.inr ⟨J,t,j,G,e1,Y z⟩⟩
 | some p=>
  have hp:=hc p rfl;have O:iw ow (some p) (b',m')=ow.map λf=>if f.1=p then(f.1,(b',m')) else f:=aj (rj.mpr hp);refine⟨?_,?_⟩
  . rw[O];clear O hp hc
    induction h with
    | nil=>exact .nil
    | @cons kv e U ow r t ih=>
     refine .cons ?_ ih;obtain⟨a,z⟩:=r;dsimp only
     by_cases ep:e.1=p
     . rw[aj ep]
       rcases z with⟨z1,z2,z3⟩ | ⟨J,_⟩
       . exact⟨a,.inl ⟨by rw[ep],z2,rfl⟩⟩
       exact absurd (by rw[ep]) J
     rw[ag ep]
     rcases z with⟨z1,z2,z3⟩ | ⟨J,t,j,G,e1,z⟩
     . exact absurd (gU z1).symm ep
     exact⟨a,.inr ⟨J,t,j,G,e1,Y z⟩⟩
  rw[O,lL];refine Ke λf _=>?_;show(if f.1=p then(f.1,(b',m')) else f).1=f.1;split<;>rfl
theorem fX.les(N:fX H H7 dc dh dO ct cy cz s)(x:Str):fX H (af H7 cy (.lst (s.b.map V.str++[.str x]))) dc dh dO ct cy cz { s with ow:=iw s.ow s.ck (s.b++[x],s.m),b:=s.b++[x] }:=by
 have up:∀c z,H7 c=some z->c≠cy->af H7 cy (.lst (s.b.map V.str++[.str x])) c=some z:=λc z e hc=>ay e hc;have j:∀{c:Addr}{z:HO},H7 c=some z->(∀xs,z≠.lst xs)->c≠cy:=λe hz=>aU e N.c1 (hz _);obtain⟨kc,G,Y⟩:=N.ch;obtain⟨kh,J,b2⟩:=N.cs;obtain⟨ko,O,o2⟩:=N.ow;obtain⟨p1,p2⟩:=Ra (H8:=af H7 cy (.lst (s.b.map V.str++[.str x]))) (b':=s.b++[x]) (m':=s.m) N.ck (λc z e h1 _=>up c z e h1) ⟨_,N.c1⟩ ⟨_,N.c2⟩ o2;exact {
  old:=λb z e=>ay (N.old b z e) (aI e N.n1)
  nc:=N.nc,nh:=N.nh,no:=N.no,n1:=N.n1,n2:=N.n2,d1:=N.d1,d2:=N.d2,d3:=N.d3,d4:=N.d4
  ch:=⟨kc,up _ _ G (j G (by intro xs z;cases z)),aB Y λkv f a0=>a0.elim λx1 a3=>a3.elim λx2 a4=>a4.elim λx3 U=>⟨x1,x2,x3,up _ _ U (j U (by intro xs z;cases z))⟩⟩
  cs:=⟨kh,up _ _ J (j J (by intro xs z;cases z)),b2⟩
  hct:=up _ _ N.hct (j N.hct (by intro xs z;cases z))
  c1:=by rw[aD,uc]
  c2:=up _ _ N.c2 N.d4.symm
  ow:=⟨ko,up _ _ O (j O (by intro xs z;cases z)),p1⟩
  ck:=λp hp=>by
   show p∈(iw s.ow s.ck (s.b++[x],s.m)).map (·.1);rw[p2];exact N.ck p hp }
theorem fX.mor(N:fX H H7 dc dh dO ct cy cz s)(x:Str):fX H (af H7 cz (.lst (s.m.map V.str++[.str x]))) dc dh dO ct cy cz { s with ow:=iw s.ow s.ck (s.b,s.m++[x]),m:=s.m++[x] }:=by
 have up:∀c z,H7 c=some z->c≠cz->af H7 cz (.lst (s.m.map V.str++[.str x])) c=some z:=λc z e hc=>ay e hc;have j:∀{c:Addr}{z:HO},H7 c=some z->(∀xs,z≠.lst xs)->c≠cz:=λe hz=>aU e N.c2 (hz _);obtain⟨kc,G,Y⟩:=N.ch;obtain⟨kh,J,b2⟩:=N.cs;obtain⟨ko,O,o2⟩:=N.ow;obtain⟨p1,p2⟩:=Ra (H8:=af H7 cz (.lst (s.m.map V.str++[.str x]))) (b':=s.b) (m':=s.m++[x]) N.ck (λc z e _ h1=>up c z e h1) ⟨_,N.c1⟩ ⟨_,N.c2⟩ o2;exact {
  old:=λb z e=>ay (N.old b z e) (aI e N.n2)
  nc:=N.nc,nh:=N.nh,no:=N.no,n1:=N.n1,n2:=N.n2,d1:=N.d1,d2:=N.d2,d3:=N.d3,d4:=N.d4
  ch:=⟨kc,up _ _ G (j G (by intro xs z;cases z)),aB Y λkv f a0=>a0.elim λx1 a3=>a3.elim λx2 a4=>a4.elim λx3 U=>⟨x1,x2,x3,up _ _ U (j U (by intro xs z;cases z))⟩⟩
  cs:=⟨kh,up _ _ J (j J (by intro xs z;cases z)),b2⟩
  hct:=up _ _ N.hct (j N.hct (by intro xs z;cases z))
  c1:=up _ _ N.c1 N.d4
  c2:=by rw[aD,uc]
  ow:=⟨ko,up _ _ O (j O (by intro xs z;cases z)),p1⟩
  ck:=λp hp=>by
   show p∈(iw s.ow s.ck (s.b,s.m++[x])).map (·.1);rw[p2];exact N.ck p hp }
theorem aiA{β:Type}{G F:ao×V->Str×β->Prop}(hk:∀kv f,G kv f->kv.1=Sum.inr f.1){x:Str}{ls:β}{v:V}(hv:F (.inr x,v) (x,ls))(hg:∀kv f,G kv f->f.1≠x->F kv f){kvs:List (ao×V)}{tr:List (Str×β)}(h:Paired G kvs tr):Paired F (cK kvs (.inr x) v) (bR tr x ls):=by
 have h':Paired (λkv f=>kv.1=Sum.inr f.1/\(f.1≠x->F kv f)) kvs tr:=aB h λkv f z=>⟨hk kv f z,hg kv f z⟩;have:=jD (F:=λkv f=>kv.1=Sum.inr f.1/\(f.1≠x->F kv f)) (λkv f z=>z.1) (x:=x) (ls:=ls) (v:=v) ⟨rfl,λz=>absurd rfl z⟩ h';have e:(kvs.any λkv=>decide (kv.1=Sum.inr x))=(tr.any λf=>decide (f.1=x)):=by
  clear this
  induction h' with
  | nil=>rfl
  | cons r t J=>
   cases h with
   | cons _ t0=>
   rw[sj,sj,J t0,r.1]
   congr 1
   exact xb.mpr ⟨λz=>mL z,λz=>by rw[z]⟩
 clear this;unfold cK bR;rw[e];split
 . rename_i O;clear O e h
   induction h' with
   | nil=>exact .nil
   | @cons kv f kvs tr r t J=>
    refine .cons ?_ J;have Y:=r.1;dsimp only
    by_cases j:f.1=x
    . have yz:kv.1=Sum.inr x:=by rw[Y,j]
      rw[aj yz,aj j,yz,j];exact hv
    rw[ag (λz=>j (mL (Y.symm.trans z))),ag j];exact r.2 j
 rename_i O;refine jd hv ?_;have U:x∉tr.map (·.1):=λz=>O (rj.mpr z);clear O e h
 induction h' with
 | nil=>exact .nil
 | @cons kv f kvs tr r t J=>
  rw[bS,be,qw]at U;exact .cons (r.2 λz=>U.1 z.symm) (J U.2)
theorem fX.own(N:fX H H7 dc dh dO ct cy cz s){Y O U:Addr}(j:ac H7 H8)(f1:H7 O=none)(f2:H7 U=none)(ne:O≠U)(g1:H8 O=some (.lst []))(g2:H8 U=some (.lst []))(g3:H8 Y=some (.tup [.ref O,.ref U])){ko:List (ao×V)}(ho:H8 dO=some (.dK ko))(p:Str) :
 fX H (af H8 dO (.dK (cK ko (.inr p) (.ref Y)))) dc dh dO Y O U { s with ow:=bR s.ow p ([],[]),ck:=some p,b:=[],m:=[] }:=by
 have fr:∀b,H7 b=none->H b=none:=λb e=>by
  cases hb:H b with
  | none=>rfl
  | some z=>rw[N.old b z hb]at e;cases e
 have up:∀c z,H8 c=some z->(∀ks,z≠.dK ks)->af H8 dO (.dK (cK ko (.inr p) (.ref Y))) c=some z:=λc z e hz=>ay e (aU e ho (hz _));obtain⟨kc,a1,a2⟩:=N.ch;obtain⟨kh,b1,b2⟩:=N.cs;obtain⟨GL,o1,o2⟩:=N.ow;have Rf:=j _ _ o1;rw[ho]at Rf;cases Rf;exact {
  old:=λb z e=>ay (j _ _ (N.old b z e)) (aI e N.no)
  nc:=N.nc,nh:=N.nh,no:=N.no,n1:=fr _ f1,n2:=fr _ f2,d1:=N.d1,d2:=N.d2,d3:=N.d3,d4:=ne
  ch:=⟨kc,ay (j _ _ a1) N.d2,aB a2 λkv f a0=>a0.elim λx1 a3=>a3.elim λx2 a4=>a4.elim λx3 x4=>⟨x1,x2,x3,up _ _ (j _ _ x4) (by intro ks z;cases z)⟩⟩
  cs:=⟨kh,ay (j _ _ b1) N.d3,b2⟩
  hct:=up _ _ g3 (by intro ks z;cases z)
  c1:=up _ _ g1 (by intro ks z;cases z)
  c2:=up _ _ g2 (by intro ks z;cases z)
  ow:=⟨_,aD,aiA (G:=og H7 s.ck ct cy cz s.b s.m) (λkv f z=>z.1) ⟨rfl,.inl ⟨rfl,rfl,rfl⟩⟩ (λkv f z hf=>by
   obtain⟨z1,z⟩:=z;have J:∀{l:Addr}{xs:Lv},H7 l=some (.lst xs)->l≠O/\l≠U:=λe=>⟨aI e f1,aI e f2⟩
   rcases z with⟨z2,z3,z4⟩ | ⟨nk,t,l1,l2,e1,e2,e3,e4,e5,e6,e7,e8⟩
   . refine⟨z1,.inr ⟨λy=>hf (gU y).symm,ct,cy,cz,z3,up _ _ (j _ _ N.hct) (by intro ks z;cases z),?_,?_,(J N.c1).1,(J N.c1).2,(J N.c2).1,(J N.c2).2⟩⟩
     . rw[z4];exact up _ _ (j _ _ N.c1) (by intro ks z;cases z)
     rw[z4];exact up _ _ (j _ _ N.c2) (by intro ks z;cases z)
   exact⟨z1,.inr ⟨λy=>hf (gU y).symm,t,l1,l2,e1,up _ _ (j _ _ e2) (by intro ks z;cases z),up _ _ (j _ _ e3) (by intro ks z;cases z),up _ _ (j _ _ e4) (by intro ks z;cases z),(J e3).1,(J e3).2,(J e4).1,(J e4).2⟩⟩) o2⟩
  ck:=λp' b8=>by
   cases b8;exact Ge (.inl rfl) }
theorem fX.own_at(N:fX H H7 dc dh dO ct cy cz s):pK H7 dO s.ow:=by
 obtain⟨J,Y,o2⟩:=N.ow;refine⟨J,Y,aB o2 λkv e z=>?_⟩;obtain⟨j,z⟩:=z
 rcases z with⟨z2,z3,G⟩ | ⟨nk,t,O,U,e1,e2,e3,e4,_⟩
 . refine⟨j,ct,cy,cz,z3,N.hct,?_,?_⟩
   . rw[G];exact N.c1
   rw[G];exact N.c2
 exact⟨j,t,O,U,e1,e2,e3,e4⟩
end
theorem aiE{s:Nt}(h:(s.ch.map (·.1)).Nodup/\(s.cs.map (·.1)).Nodup/\(s.ow.map (·.1)).Nodup)(j:Str):((s.step j).ch.map (·.1)).Nodup/\((s.step j).cs.map (·.1)).Nodup/\((s.step j).ow.map (·.1)).Nodup:=by
 have z:∀r,((iw s.ow s.ck r).map (·.1)).Nodup:=λr=>by
  unfold iw;split
  . exact h.2.2
  exact kZ h.2.2
 unfold Nt.step;split
 . exact⟨h.1,h.2.1,z _⟩
 . exact⟨h.1,h.2.1,z _⟩
 . exact⟨kZ h.1,h.2⟩
 . exact⟨h.1,kZ h.2.1,h.2.2⟩
 exact⟨h.1,h.2.1,kZ h.2.2⟩
theorem aiF(rows:Ls):((gF rows).ch.map (·.1)).Nodup/\((gF rows).cs.map (·.1)).Nodup/\((gF rows).ow.map (·.1)).Nodup:=by
 have:∀(rows:Ls) (s:Nt),((s.ch.map (·.1)).Nodup/\(s.cs.map (·.1)).Nodup/\(s.ow.map (·.1)).Nodup)->((rows.foldl Nt.step s).ch.map (·.1)).Nodup/\((rows.foldl Nt.step s).cs.map (·.1)).Nodup/\((rows.foldl Nt.step s).ow.map (·.1)).Nodup:=by
  intro rows
  induction rows with
  | nil=>exact λs h=>h
  | cons r rows j=>exact λs h=>j _ (aiE h r)
 exact this rows {} ⟨kB,kB,kB⟩
theorem aiG(s:Nt)(j:Str):(s.step j).ch.length<=s.ch.length+1/\(s.step j).cs.length<=s.cs.length+1/\(s.step j).ow.length<=s.ow.length+1/\(s.step j).b.length<=s.b.length+1/\(s.step j).m.length<=s.m.length+1:=by
 have z:∀r,(iw s.ow s.ck r).length<=s.ow.length+1:=λr=>by
  unfold iw;split
  . omega
  exact jC _ _ _
 unfold Nt.step;split
 . exact⟨by dsimp only;omega,by dsimp only;omega,z _,by simp,by dsimp only;omega⟩
 . exact⟨by dsimp only;omega,by dsimp only;omega,z _,by dsimp only;omega,by simp⟩
 . exact⟨jC _ _ _,by dsimp only;omega,by dsimp only;omega,by dsimp only;omega,by dsimp only;omega⟩
 . exact⟨by dsimp only;omega,jC _ _ _,by dsimp only;omega,by dsimp only;omega,by dsimp only;omega⟩
 exact⟨by dsimp only;omega,by dsimp only;omega,jC _ _ _,by simp,by simp⟩
theorem Rg(rows:Ls):(gF rows).ch.length<=rows.length/\(gF rows).cs.length<=rows.length/\(gF rows).ow.length<=rows.length/\(gF rows).b.length<=rows.length/\(gF rows).m.length<=rows.length:=by
 have:∀(rows:Ls) (s:Nt),(rows.foldl Nt.step s).ch.length<=s.ch.length+rows.length/\(rows.foldl Nt.step s).cs.length<=s.cs.length+rows.length/\(rows.foldl Nt.step s).ow.length<=s.ow.length+rows.length/\(rows.foldl Nt.step s).b.length<=s.b.length+rows.length/\(rows.foldl Nt.step s).m.length<=s.m.length+rows.length:=by
  intro rows
  induction rows with
  | nil=>exact λs=>⟨aG _,aG _,aG _,aG _,aG _⟩
  | cons r rows j=>
   intro s;obtain⟨z,G,J,O,U⟩:=j (s.step r);obtain⟨Y,b2,b3,b4,b5⟩:=aiG s r;rw[lK,cr];exact⟨by omega,by omega,by omega,by omega,by omega⟩
 have h:=this rows {};simp only[jQ,DB]at h;exact h
theorem aiH(rows:Ls)(r:Str):gF (rows++[r])=(gF rows).step r:=by
 unfold gF;rw[qx];rfl
theorem GR{x y:Str}{b:Bool}(h:decide (V.str x=V.str y)=b):decide (x=y)=b:=by
 rw[<-h];exact xb.mpr ⟨λz=>by rw[z],λz=>V.str.inj z⟩
inductive Rh:Sp where
 | mk {H:Hp}{Q:VK}{E:XK}{x:Str} (_:x.length<=70000) (_:uB x=true) (_:∀p H',H p=none->ac H H'->H' p=some (.tup ((rp x).map V.int))->Q (.ref p) H'):Rh [.str x] H Q E
theorem aiI:aK [atb] [atb] (av PL):=aQ
theorem aiJ(G:Pg K mg base Pt):au P w K mg base aL 1 G.MkN.f G.MkN.fd [atb] Rh:=by
 refine G.MkN.u.okL aiI ?_;intro ar A outer s H vs Q E hr h xX dX;obtain @⟨_,_,_,x,hx,hb,q⟩:=h;obtain⟨m1,m2⟩:=aii hb;refine⟨_,(ai (aN (eT Zw (by rfl) G.B.tuple PyProof.Rows.boot_tuple (am (fT ["part"] [] [] dN rfl (cH (dC lN Kf Kg Bu (pv 0) (am bB))) (λ_ _ _ _=>(bf (i:=0) (show List.Nodup (["part"]:Ls) by decide +kernel) rfl (Or.inl rfl))) (λ_ _ _ _=>ge) (λ_ _ _ _=>(eT afG (by rfl) G.B.int arv (am (pv 0))))))))),?_⟩;have a0:=split_le x li;refine⟨rfl,x,li,rfl,rfl,by decide +kernel,eA (by omega),λl H1 n1 s1 e1=>⟨⟨_,aa.of e1⟩,?_⟩⟩;refine vX (σ0:=[none]) (aa.of e1) (λZ=>∃v,Z=[v]) ((rp x).map V.int) (by unfold rp;rw[al,al,al]) (eA (by rw[al];omega)) ⟨_,rfl⟩ ?_ ?_
 . intro i z y Z H2 k hz J hQ hs hk;obtain⟨v,rfl⟩:=hQ;obtain⟨p,j,rfl⟩:=iS hz;unfold rp at J;rw[lL]at J;obtain⟨p',O,rfl⟩:=iS J;rw[j]at O;cases O;obtain⟨Y,g2,g3,_⟩:=aih (m2 p (dH j));exact⟨p,_,rfl,agM Y g2 (by omega),by omega,hk _ _ ⟨_,rfl⟩ (ac.refl _)⟩
 intro D H2 hD hd hs;refine⟨D,_,rfl,.inl ⟨aa.of hd,λp j=>?_⟩⟩;have U:=s1.trans hs;exact q p _ (U.free j) (U.trans (fR j)) aD
theorem wb(H:Hp):msk [] H=H:=by
 funext b
 unfold msk;exact ag (λz=>nomatch z)
inductive GS (T:Addr):Sp where
 | mk {H:Hp}{Q:VK}{E:XK}{t:Str} (_:t.length<=60000) (_:(rowsOf t).length<=400) (_:(∀r∈rowsOf t,jE r=true)) (_:∀v H',ac H H'->(∀L,gO H L->gR T (msk L H') v (gF (rowsOf t)).ch (gF (rowsOf t)).cs (gF (rowsOf t)).ow)->Q v H'):GS T [.str t] H Q E
theorem rF:aK [atb,as6,atc,ato,att,"row","words"] [atb] (av PJ):=aQ
theorem aiK{t r:Str}(h:r∈rowsOf t):r.length<=t.length:=by
 unfold rowsOf at h;split at h
 . cases h
 exact GG h
theorem Ri(zZ:Pg K mg base Pt):au P w K mg base aL 4 zZ.Not.f zZ.Not.fd [atb] (GS zZ.T):=by
 refine zZ.Not.u.okL rF ?_;intro ar A outer s H vs Q E hr h xX dX;obtain @⟨_,_,_,t,ht,hn,hg,q⟩:=h;have hu:=hr.units;have dZ:=hr.mono (j:=1) (by decide);refine⟨_,(ah (aF (i:=1) rF.nd rfl (Or.inl rfl) mf) (ah (aF (i:=2) rF.nd rfl (Or.inl rfl) mf) (ah (aF (i:=3) rF.nd rfl (Or.inl rfl) mf) (ah (aF (i:=4) rF.nd rfl (Or.inl rfl) (dE (aC (cU d8) (cU d8))))
  (ah (eS eR rfl (cH (aA (ahu zZ) dZ (by rfl) (am (pv 0)))) (bf (i:=5) rF.nd rfl (Or.inl rfl))
   (ah (aF (i:=6) rF.nd rfl (Or.inl rfl) (dC lN Kf Kg Bu (pv 5) (am bB))) (ai (bu (ij (dC lN arw arx N7 (pv 5) (am bB))) (ai (bC (dC iW xj xk qM (bP fq (pv 4) ak (λ_ _=>rfl)) (am (m9 AT (pv 5) (kH ak) qL))))) (ai (bu (ij (dC lN arw arx N7 (pv 5) (am bB))) (ai (bC (dC iW xj xk qM (bP fq (pv 4) ak (λ_ _=>rfl)) (am (m9 AT (pv 5) (kH ak) qL))))) (ai (bu (bq cT (bP fQ (pv 6) ak (λ_ _=>rfl)) bB (bh _)) (ai (i8 hu (pv 1) (bP fQ (pv 6) ak (λ_ _=>rfl)) (aA (aiJ zZ) dZ (by rfl) (am (bP fQ (pv 6) ak (λ_ _=>rfl)))) rfl)) (ai (bu (bq cT (bP fQ (pv 6) ak (λ_ _=>rfl)) bB (bh _)) (ai (i8 hu (pv 2) (bP fQ (pv 6) ak (λ_ _=>rfl)) (bP fQ (pv 6) ak (λ_ _=>rfl)) rfl)) (ah (aF (i:=4) rF.nd rfl (Or.inl rfl) (dE (aC (cU d8) (cU d8)))) (ai (i8 hu (pv 3) (bP fQ (pv 6) ak (λ_ _=>rfl)) (pv 4) rfl)))))))))))))
  (ai (aN (qK zZ.MTIn (up (BY zZ)) hr (by rfl) zZ.UT.mgC zZ.TIn.b .nil bT (dP (pv 1) (pv 2) (pv 3)))))))))),?_⟩
 refine x6 ?_;intro dD sS GU B3 nZ gk dY;refine λdc H1 n1 s1 e1 dh H2 n2 s2 e2 dO H3 n3 s3 e3=>?_;refine⟨(by show 0<=sizeLine;exact dz _),λG H4 n4 s4 e4=>⟨(by show 0<=sizeLine;exact dz _),λJ H5 n5 s5 e5=>⟨Aw,λct H6 n6 s6 e6=>?_⟩⟩⟩;have a2:=s1.trans (s2.trans (s3.trans (s4.trans s5)));have N0:fX H H6 dc dh dO ct G J {}:={
  old:=λb z e=>s6 _ _ (a2 _ _ e)
  nc:=n1
  nh:=s1.free n2
  no:=(s1.trans s2).free n3
  n1:=(s1.trans (s2.trans s3)).free n4
  n2:=(s1.trans (s2.trans (s3.trans s4))).free n5
  d1:=aI e1 n2
  d2:=aI (s2 _ _ e1) n3
  d3:=aI e2 n3
  d4:=aI e4 n5
  ch:=⟨[],s6 _ _ (s5 _ _ (s4 _ _ (s3 _ _ (s2 _ _ e1)))),.nil⟩
  cs:=⟨[],s6 _ _ (s5 _ _ (s4 _ _ (s3 _ _ e2))),.nil⟩
  hct:=e6
  c1:=s6 _ _ (s5 _ _ e4)
  c2:=s6 _ _ e5
  ow:=⟨[],s6 _ _ (s5 _ _ (s4 _ _ e3)),.nil⟩
  ck:=λp hp=>nomatch hp }
 refine⟨by omega,λl H7 n7 s7 e7=>⟨⟨_,aa.of e7⟩,?_⟩⟩;refine iK (xs:=(rowsOf t).map V.str) (λi Z H8=>∃ct G J u v,Z=[some (.str t),some (.ref dc),some (.ref dh),some (.ref dO),some (.ref ct),u,v]/\H8 l=some (.lst ((rowsOf t).map V.str))/\l≠G/\l≠J/\fX H H8 dc dh dO ct G J (gF ((rowsOf t).take i)))
  ⟨ct,G,J,none,none,rfl,e7,(aI N0.c1 n7).symm,(aI N0.c2 n7).symm,N0.same s7⟩ ?_ ?_ ?_
 . intro i Z H8 hi hQ;obtain⟨ct,G,J,u,v,rfl,h8,_⟩:=hQ;exact aa.of h8
 . intro i z Z H8 hz hQ;refine bA ?_;intro tT;obtain⟨ct,G,J,u,v,rfl,h8,m1,m2,N⟩:=hQ;obtain⟨r,pE,rfl⟩:=iS hz;have Rj:=dH pE;have a1:=hg r Rj;have a3:=aiK Rj;have es:gF ((rowsOf t).take (i+1))=(gF ((rowsOf t).take i)).step r:=by rw[take_snoc pE,aiH]
   rw[show dc=dc from rfl]at N;have Rk:=Rg ((rowsOf t).take i);rw[eP]at Rk;obtain⟨k1,k2,k3,k4,k5⟩:=Rk;generalize gF ((rowsOf t).take i)=s0 at N es k1 k2 k3 k4 k5;have sl:=Txt.slice_le r (some 1) none;refine⟨rfl,r,spS,rfl,rfl,by decide +kernel,eA (by omega),λwl H9 n9 s9 U=>?_⟩;have O:=N.same s9;have h9:=s9 _ _ h8;have z0:cE [V.ref G,V.ref J] 0=some (V.ref G):=rfl;have z1:cE [V.ref G,V.ref J] 1=some (V.ref J):=rfl;refine⟨rfl,r,ft,rfl,rfl,⟨?_⟩⟩;refine bv (λh1=>?_) (λh1=>?_)
   . refine⟨ba.of O.hct,z0,.inl ⟨rfl,_,aa.of O.c1⟩,eA (by omega),O.c1,bZ (by rw[al];omega),?_⟩;refine⟨ct,G,J,_,_,rfl,ay h9 m1,m1,m2,?_⟩;have e0:s0.step r={ s0 with ow:=iw s0.ow s0.ck (s0.b++[Txt.slice r (some 1) none],s0.m),b:=s0.b++[Txt.slice r (some 1) none] }:=by
      unfold Nt.step hX;rw[aj h1]
     rw[es,e0];exact O.les _
   refine⟨rfl,r,fw,rfl,rfl,⟨?_⟩⟩;refine bv (λh2=>?_) (λh2=>?_)
   . refine⟨ba.of O.hct,z1,.inl ⟨rfl,_,aa.of O.c2⟩,eA (by omega),O.c2,bZ (by rw[al];omega),?_⟩;refine⟨ct,G,J,_,_,rfl,ay h9 m2,m1,m2,?_⟩;have e0:s0.step r={ s0 with ow:=iw s0.ow s0.ck (s0.b,s0.m++[Txt.slice r (some 1) none]),m:=s0.m++[Txt.slice r (some 1) none] }:=by
      unfold Nt.step hX;rw[ag h1,aj h2]
     rw[es,e0];exact O.mor _
   have Y:hX r=if (Txt.split r spS).getD 0 Str.empty=gi then .inn ((Txt.split r spS).getD 1 Str.empty) ((Txt.split r spS).getD 2 Str.empty) else
    if (Txt.split r spS).getD 0 Str.empty=fU then .cho ((Txt.split r spS).getD 1 Str.empty) ((Txt.split r spS).getD 2 Str.empty) else .own ((Txt.split r spS).getD 1 Str.empty):=by
    unfold hX;rw[ag h1,ag h2]
   have pl:∀p∈Txt.split r spS,p.length<=r.length:=λp hp=>GG hp
   rcases aij a1 (oK.mpr h1) (oK.mpr h2) with⟨p,hw⟩ | ⟨n,x,hw,Bn⟩ | ⟨c,n,hw⟩
   . rw[hw]at U Y pl;have y0:cE ([dW,p].map V.str) 0=some (V.str dW):=rfl;have y1:cE ([dW,p].map V.str) 1=some (V.str p):=rfl;have Y:hX r=.own p:=Y.trans ((ag Gp).trans (ag Gq));refine⟨aa.of U,y0,rfl,⟨?_⟩⟩;refine bv (λh3=>absurd (cW (GR h3)) Gp) (λh3=>?_);refine⟨aa.of U,y0,rfl,⟨?_⟩⟩;refine bv (λh4=>absurd (cW (GR h4)) Gq) (λh4=>?_);refine⟨(by show 0<=sizeLine;exact dz _),λp1 Ha na sa ea=>⟨(by show 0<=sizeLine;exact dz _),λp2 Hb nb sb eb=>⟨Aw,λp3 Hc a4 sc ec=>?_⟩⟩⟩;have yQ:=sa.trans (sb.trans sc);obtain⟨ko,o1,o2⟩:=O.ow;have lo:=bK o2;refine⟨aa.of (yQ _ _ U),y1,gb.k (k:=.inr p) (yQ _ _ o1) (bZ (by omega)),?_⟩;have d9:∃ks,H9 dO=some (.dK ks):=⟨_,o1⟩;have hl:l≠dO:=aU h9 o1 (by intro z;cases z);refine⟨p3,p1,p2,_,_,rfl,ay (yQ _ _ h9) hl,aI h9 na,aI (sa _ _ h9) nb,?_⟩;have e0:s0.step r={ s0 with ow:=bR s0.ow p ([],[]),ck:=some p,b:=[],m:=[] }:=by
      unfold Nt.step;rw[Y]
     rw[es,e0];exact O.own yQ na (sa.free nb) (aI ea nb) (sc _ _ (sb _ _ ea)) (sc _ _ eb) ec (yQ _ _ o1) p
   . rw[hw]at U Y pl;have y0:cE ([gi,n,x].map V.str) 0=some (V.str gi):=rfl;have y1:cE ([gi,n,x].map V.str) 1=some (V.str n):=rfl;have y2:cE ([gi,n,x].map V.str) 2=some (V.str x):=rfl;have Y:hX r=.inn n x:=Y.trans (aj rfl);have lx:=pl x (bU _ (bU _ bQ));refine⟨aa.of U,y0,rfl,⟨?_⟩⟩;refine bv (λh3=>?_) (λh3=>absurd (bL rfl) h3);refine⟨aa.of U,y2,by omega,Bn,λm Ha na sa ea=>?_⟩;have Na:=O.same sa;obtain⟨kc,c1,c2⟩:=Na.ch;have lc:=bK c2;refine⟨aa.of (sa _ _ U),y1,gb.k (k:=.inr n) c1 (bZ (by omega)),?_⟩;refine⟨ct,G,J,_,_,rfl,ay (sa _ _ h9) (aU (sa _ _ h9) c1 (by intro z;cases z)),m1,m2,?_⟩;have e0:s0.step r={ s0 with ch:=bR s0.ch n (rp x) }:=by
      unfold Nt.step;rw[Y]
     rw[es,e0];exact Na.inn c1 ea
   rw[hw]at U Y pl;have y0:cE ([fU,c,n].map V.str) 0=some (V.str fU):=rfl;have y1:cE ([fU,c,n].map V.str) 1=some (V.str c):=rfl;have y2:cE ([fU,c,n].map V.str) 2=some (V.str n):=rfl;have Y:hX r=.cho c n:=Y.trans ((ag BM).trans (aj rfl));refine⟨aa.of U,y0,rfl,⟨?_⟩⟩;refine bv (λh3=>absurd (cW (GR h3)) BM) (λh3=>?_);refine⟨aa.of U,y0,rfl,⟨?_⟩⟩;refine bv (λh4=>?_) (λh4=>absurd (bL rfl) h4);obtain⟨kh,c1,c2⟩:=O.cs;have lh:=bK c2;refine⟨aa.of U,y2,aa.of U,y1,gb.k (k:=.inr c) c1 (bZ (by omega)),?_⟩;refine⟨ct,G,J,_,_,rfl,ay h9 (aU h9 c1 (by intro z;cases z)),m1,m2,?_⟩;have e0:s0.step r={ s0 with cs:=bR s0.cs c n }:=by
    unfold Nt.step;rw[Y]
   rw[es,e0];exact O.cho c1
 intro Z H8 hQ;refine bA ?_;intro tT;obtain⟨ct,G,J,u,v,rfl,h8,m1,m2,N⟩:=hQ;rw[al,fo]at N;obtain⟨kc,c1,c2⟩:=N.ch;obtain⟨kh,b1,b2⟩:=N.cs;have nd:=aiF (rowsOf t);have nl:=Rg (rowsOf t);refine⟨⟨⟨?_⟩⟩⟩;refine BZ (T:=zZ.T) ⟨kc,c1,c2⟩ ⟨kh,b1,b2⟩ N.own_at nd.2.2 (by omega) λx H' nx sx hx=>?_;exact q (.ref x) H' (λb z e=>sx _ _ (N.old b z e)) λL hL=>hx L λb hb=>(hL b hb).elim λo a0=>a0.elim λe n=>⟨o,N.old b o e,n⟩
end
section
variable {X:Cx}{H H':Hp}{xs:Lv}
structure GV(fl:List (Str×V))(nm mk rk:V)(pf pn ps po:Addr):Prop where
 name:fl.lookup (as5:Str)=some nm
 make:fl.lookup (ata:Str)=some mk
 rank:fl.lookup (atg:Str)=some rk
 files:fl.lookup (as8:Str)=some (.ref pf)
 needs:fl.lookup (atr:Str)=some (.ref pn)
 shuts:fl.lookup (atA:Str)=some (.ref ps)
 offers:fl.lookup (atH:Str)=some (.ref po)
def uL(nm mk rk:V)(j pn ps z:Addr):List (Str×V):=aw atH (.ref z) (aw atA (.ref ps) (aw atr (.ref pn) (aw as8 (.ref j) (aw atg rk (aw ata mk (aw as5 nm []))))))
theorem aiO(nm mk rk:V)(j pn ps z:Addr):GV (uL nm mk rk j pn ps z) nm mk rk j pn ps z:=by
 unfold uL;constructor
 . rw[cI,ag (by decide +kernel),cI,ag (by decide +kernel),cI,ag (by decide +kernel),cI,ag (by decide +kernel),cI,ag (by decide +kernel),cI,ag (by decide +kernel),cI,aj rfl]
 . rw[cI,ag (by decide +kernel),cI,ag (by decide +kernel),cI,ag (by decide +kernel),cI,ag (by decide +kernel),cI,ag (by decide +kernel),cI,aj rfl]
 . rw[cI,ag (by decide +kernel),cI,ag (by decide +kernel),cI,ag (by decide +kernel),cI,ag (by decide +kernel),cI,aj rfl]
 . rw[cI,ag (by decide +kernel),cI,ag (by decide +kernel),cI,ag (by decide +kernel),cI,aj rfl]
 . rw[cI,ag (by decide +kernel),cI,ag (by decide +kernel),cI,aj rfl]
 . rw[cI,ag (by decide +kernel),cI,aj rfl]
 rw[cI,aj rfl]
structure Rm(K:Fg)(H:Hp)(xs:Lv)(fs:List (V×Lv)):Prop where
 len:xs.length=fs.length
 item:∀(i:Nat) (p:V) (ls:Lv),fs[i]?=some (p,ls)->∃t l,xs[i]?=some (.ref t)/\ba K H t [p,.ref l]/\aa K H l ls
structure B4(H H':Hp)(D:Addr)(xs:Lv)(fs:List (V×Lv))(k:Nat):Prop where
 len:xs.length=k
 item:∀(i:Nat) (p:V) (ls:Lv),i<k->fs[i]?=some (p,ls)->∃t l,xs[i]?=some (.ref t)/\H t=none/\H l=none/\t≠D/\l≠D/\H' t=some (.tup [p,.ref l])/\H' l=some (.lst ls)
def yR:Expr:=match (gD Gx).getD 3 (.Pass ⟨0,0,0,0⟩) with
 | .Assign _ e _=>e
 | _=>.Constant .none 0 ⟨0,0,0,0⟩
def uM:Scope:=match yR with
 | .ListComp _ _ sc _=>sc
 | _=>{ kind:=.function,names:=[],isGenerator:=false,isCoroutine:=false }
def Rn:Expr:=match yR with
 | .ListComp e _ _ _=>e
 | _=>.Constant .none 0 ⟨0,0,0,0⟩
def GW:Expr:=match yR with
 | .ListComp _ [⟨t,_,_,_⟩] _ _=>t
 | _=>.Constant .none 0 ⟨0,0,0,0⟩
def Ro:Expr:=match yR with
 | .ListComp _ [⟨_,t,_,_⟩] _ _=>t
 | _=>.Constant .none 0 ⟨0,0,0,0⟩
theorem GX(X:Cx):kK X [asZ,atd] [] [] uM:=dN
def Rp(K:Fg):Lv->Hp->VK->Prop:=λxs H Q=>∃p ys,xs=[.ref p]/\(aa K H p ys\/ba K H p ys)/\∀l,H l=none->Q (.ref l) (af H l (.lst ys))
theorem aiP(z:X.calm=true)(s₀:Shared)(H₀:Hp)(j:Addr)(ex:List Addr):PG (dM X (([asZ,atd]:Ls)++([]:Ls)) uM s₀ H₀ j ex) GW (tG X.K 2 (xz (lR 0) (xz (lR 1) Ea))):=
 oP (X:=dM X (([asZ,atd]:Ls)++([]:Ls)) uM s₀ H₀ j ex) z (gz (bf (i:=0) (GX X).nd rfl (Or.inl rfl)) (gz (bf (i:=1) (GX X).nd rfl (Or.inl rfl)) mX))
theorem aiQ(z:X.mg "list"=none)(s₀:Shared)(H₀:Hp)(j:Addr)(ex:List Addr):PE (dM X (([asZ,atd]:Ls)++([]:Ls)) uM s₀ H₀ j ex) Rn (Es (fP (qF 0) (fP (AJ (Rp X.K) (fP (qF 1) fg)) fg))):=
 Lf (X:=dM X (([asZ,atd]:Ls)++([]:Ls)) uM s₀ H₀ j ex) (aC (pv 0) (eT (xI (X:=dM X (([asZ,atd]:Ls)++([]:Ls)) uM s₀ H₀ j ex)) (by rfl) z jS (am (pv 1))))
theorem aiR{z:TI}(j:X.calm=true)(G:X.mg "list"=none)(hi:PI X GW Ro z):PE X yR (ET z 2 [] (tG X.K 2 (xz (lR 0) (xz (lR 1) Ea))) qR (Es (fP (qF 0) (fP (AJ (Rp X.K) (fP (qF 1) fg)) fg)))):=
 fT [asZ,atd] [] [] (elt:=Rn) (tg:=GW) (iter:=Ro) (ifs:=[]) (sc:=uM) (GX X) j hi (aiP j) (λ_ _ _ _=>ge) (aiQ G)
theorem aiS:aK [asX,as5,ata,atg,as8,atr,atA,atH] [asX,as5,ata,atg,as8,atr,atA,atH] (av Gx):=aQ
inductive B5 (K:Fg) (C:Addr):Sp where
 | mk {H:Hp}{Q:VK}{E:XK}{x dx G O Y U:Addr}{nm mk rk:V}{xs ns ss os:Lv}{fs:List (V×Lv)} (_:H x=some (.ins C dx [])) (_:aa K H G xs) (_:Rm K H xs fs) (_:aa K H O ns) (_:aa K H Y ss) (_:aa K H U os) (_:fs.length<=1000) (_:∀(fl:List (Str×V)) (j pn ps z:Addr) (J:Lv) (H':Hp),GV fl nm mk rk j pn ps z->H' x=some (.ins C dx fl)->H j=none->H pn=none->H ps=none->H z=none ->
  H' j=some (.lst J)->B4 H H' j J fs fs.length->H' pn=some (.lst ns)->H' ps=some (.lst ss)->H' z=some (.lst os)->(∀b o,H b=some o->b≠x->H' b=some o)->Q .non H'):B5 K C [.ref x,nm,mk,rk,.ref G,.ref O,.ref Y,.ref U] H Q E
theorem aiT{Hk j:Hp}{fs:List (V×Lv)}{k:Nat}(fn:B4 H Hk D xs fs k)(h:∀b o,Hk b=some o->b≠D->H b=none->j b=some o):B4 H j D xs fs k:=by
 refine⟨fn.len,λi p ls hi O=>?_⟩;obtain⟨t,l,e1,e2,e3,e4,z,G,J⟩:=fn.item i p ls hi O;exact⟨t,l,e1,e2,e3,e4,z,h t _ G e4 e2,h l _ J z e3⟩
theorem aiU(G:Pg K mg base Pt):au P w K mg base aL 1 G.PIn.f G.PIn.fd [asX,as5,ata,atg,as8,atr,atA,atH] (B5 K G.C):=by
 refine G.PIn.u.okL aiS ?_;intro ar A outer s H vs Q E hr h xX dX;obtain @⟨_,_,_,x,dx,fa,na,sa,oa,nm,mk,rk,xs,ns,ss,os,fs,hx,jI,lj,a2,a3,DT,B6,k⟩:=h;refine⟨_,ah (gZ (pv 0) (pv 1) rfl) (ah (gZ (pv 0) (pv 2) rfl) (ah (gZ (pv 0) (pv 3) rfl)
  (ah (gZ (pv 0) (aiR rfl G.B.list (cH (pv 4))) rfl)
  (ah (gZ (pv 0) (eT xI (by rfl) G.B.list jS (am (pv 5))) rfl)
  (ah (gZ (pv 0) (eT xI (by rfl) G.B.list jS (am (pv 6))) rfl)
  (ai (gZ (pv 0) (eT xI (by rfl) G.B.list jS (am (pv 7))) rfl))))))),?_⟩
 refine adP ?_;intro dD sS a7 GU B3 nZ gk dY;have S0:eY G.C dx x H H []:=⟨λ_ _ e _=>e,λ_ e=>e,hx⟩;refine⟨S0.ob,G.TC.cl,G.TC.nN,few pF (by decide),?_⟩;have S1:eY G.C dx x H _ (aw as5 nm []):=S0.put;refine⟨S1.ob,G.TC.cl,G.TC.nM,few (lp pF) (by decide),?_⟩;have S2:eY G.C dx x H _ (aw ata mk (aw as5 nm [])):=S1.put;refine⟨S2.ob,G.TC.cl,G.TC.nR,few (lp (lp pF)) (by decide),?_⟩;have O:eY G.C dx x H _ (aw atg rk (aw ata mk (aw as5 nm []))):=S2.put;generalize af (af (af H x (.ins G.C dx (aw as5 nm []))) x (.ins G.C dx (aw ata mk (aw as5 nm [])))) x (.ins G.C dx (aw atg rk (aw ata mk (aw as5 nm []))))=H1 at O ⊢;refine⟨⟨xs,O.sqL hx jI⟩,λD hD=>?_⟩;refine⟨λi m Z H2=>m=xs.length - i/\i<=xs.length/\∃(u v:Option V) (ys:Lv),Z=[u,v]/\H2 D=some (.lst ys)/\ac H1 H2/\B4 H H2 D ys fs i,⟨xs.length,by simp,dz _,none,none,[],rfl,aD,fR hD,rfl,λi p ls hi=>absurd hi (JZ _)⟩,?_⟩;intro i m Z H2 fJ;refine bA ?_;intro tT;obtain⟨rfl,hi,u,v,ys,rfl,yS,Y,fn⟩:=fJ;have GY:aa K H2 fa xs:=Y.seq (O.sqL hx jI)
 by_cases aO:i<xs.length
 . refine .inr ⟨⟨xs,xs[i],GY,by simp[aO]⟩,λz H3 y=>?_⟩;obtain⟨e,y⟩:=y;subst e;have ez:=y xs GY;have a1:i<fs.length:=by rw[<-lj.len];exact aO
   obtain⟨⟨p,ls⟩,dL⟩:∃q,fs[i]?=some q:=⟨fs[i],by simp[a1]⟩;obtain⟨t,l,e1,e2,e3⟩:=lj.item i p ls dL;rw[ez]at e1;cases e1;have t2:=aa3 Y (O.sqT hx e2);have l2:=Y.seq (O.sqL hx e3);refine⟨t2,rfl,rfl,?_⟩;refine⟨l,_,rfl,.inl l2,λl' qA=>⟨Aw,λt' GZ=>?_⟩⟩;obtain⟨n1,n2⟩:=jY GZ;have dl:D≠l':=aI yS qA;have dt:D≠t':=aI yS n2;refine⟨ys,ay (ay yS dl) dt,bZ (by rw[fn.len];omega),xs.length - (i+1),by omega,rfl,aO,_,_,ys++[.ref t'],rfl,aD,?_,⟨by rw[bH,fn.len];rfl,λj p' xq hj b8=>?_⟩⟩
   . exact fh (fh (fh Y (Y.free qA)) (Y.free n2)) hD
   by_cases B7:j=i
   . subst B7;rw[dL]at b8;cases b8;refine⟨t',l',by rw[Dv (by rw[fn.len];omega),fn.len];simp,O.free _ (Y.free n2),O.free _ (Y.free qA),dt.symm,dl.symm,ay aD dt.symm,ay (ay aD n1.symm) dl.symm⟩
   have rc:j<i:=by omega
   obtain⟨t0,l0,g1,g2,g3,g4,g5,g6,g7⟩:=fn.item j p' xq rc b8;exact⟨t0,l0,by rw[VC (by rw[fn.len];exact rc)];exact g1,g2,g3,g4,g5,ay (ay (ay g6 (aI g6 qA)) (aI g6 n2)) g4,ay (ay (ay g7 (aI g7 qA)) (aI g7 n2)) g5⟩
 have ei:i=xs.length:=by omega
 subst ei;refine .inl ⟨⟨xs,GY,aG _⟩,?_⟩;have S4:eY G.C dx x H H2 (aw atg rk (aw ata mk (aw as5 nm []))):=⟨λb o e J=>Y b o (O.same b o e J),λb e=>O.free b (Y.free e),Y _ _ O.ob⟩;have B8:D≠x:=aU yS S4.ob (by intro z;cases z);have a0:H D=none:=O.free _ hD;refine⟨S4.ob,G.TC.cl,G.TC.nF,few (lp (lp (lp pF))) (by decide),?_⟩;have S5:eY G.C dx x H _ (aw as8 (.ref D) (aw atg rk (aw ata mk (aw as5 nm [])))):=S4.put;refine⟨na,_,rfl,.inl (S5.sqL hx a2),λpn wc=>?_⟩;have S6:=S5.lay (o:=.lst ns) wc;have G0:pn≠x:=(aI S5.ob wc).symm;refine⟨S6.ob,G.TC.cl,G.TC.nE,few (lp (lp (lp (lp pF)))) (by decide),?_⟩;have S7:eY G.C dx x H _ (aw atr (.ref pn) (aw as8 (.ref D) (aw atg rk (aw ata mk (aw as5 nm []))))):=S6.put;refine⟨sa,_,rfl,.inl (S7.sqL hx a3),λps bM=>?_⟩;have S8:=S7.lay (o:=.lst ss) bM;have Rq:ps≠x:=(aI S7.ob bM).symm;refine⟨S8.ob,G.TC.cl,G.TC.nS,few (lp (lp (lp (lp (lp pF))))) (by decide),?_⟩;have S9:eY G.C dx x H _ (aw atA (.ref ps) (aw atr (.ref pn) (aw as8 (.ref D) (aw atg rk (aw ata mk (aw as5 nm [])))))):=S8.put;refine⟨oa,_,rfl,.inl (S9.sqL hx DT),λU mr=>?_⟩;have Rr:=S9.lay (o:=.lst os) mr;have a6:U≠x:=(aI S9.ob mr).symm;refine⟨Rr.ob,G.TC.cl,G.TC.nO,few (lp (lp (lp (lp (lp (lp pF)))))) (by decide),?_⟩;have Rs:eY G.C dx x H _ (uL nm mk rk D pn ps U):=Rr.put;have k5:∀b o,H2 b=some o->b≠x->(af H2 x (.ins G.C dx (aw as8 (.ref D) (aw atg rk (aw ata mk (aw as5 nm [])))))) b=some o:=λb o e J=>ay e J;have kp:=λb o (e:H2 b=some o) (J:b≠x)=>ay (p:=x) (o':=.ins G.C dx (aw atr (.ref pn) (aw as8 (.ref D) (aw atg rk (aw ata mk (aw as5 nm [])))))) (ay (p:=pn) (o':=.lst ns) (k5 b o e J) (aI (k5 b o e J) wc)) J;have kq:=λb o (e:H2 b=some o) (J:b≠x)=>ay (p:=x) (o':=.ins G.C dx (aw atA (.ref ps) (aw atr (.ref pn) (aw as8 (.ref D) (aw atg rk (aw ata mk (aw as5 nm []))))))) (ay (p:=ps) (o':=.lst ss) (kp b o e J) (aI (kp b o e J) bM)) J;have kr:=λb o (e:H2 b=some o) (J:b≠x)=>ay (p:=x) (o':=.ins G.C dx (uL nm mk rk D pn ps U)) (ay (p:=U) (o':=.lst os) (kq b o e J) (aI (kq b o e J) mr)) J;have Rt:(af (af (af H2 x (.ins G.C dx (aw as8 (.ref D) (aw atg rk (aw ata mk (aw as5 nm [])))))) pn (.lst ns)) x (.ins G.C dx (aw atr (.ref pn) (aw as8 (.ref D) (aw atg rk (aw ata mk (aw as5 nm []))))))) pn=some (.lst ns):=ay aD G0;have Ru:=ay (p:=x) (o':=.ins G.C dx (aw atA (.ref ps) (aw atr (.ref pn) (aw as8 (.ref D) (aw atg rk (aw ata mk (aw as5 nm []))))))) (ay (p:=ps) (o':=.lst ss) Rt (aI Rt bM)) G0;have a4:=ay (p:=x) (o':=.ins G.C dx (uL nm mk rk D pn ps U)) (ay (p:=U) (o':=.lst os) Ru (aI Ru mr)) G0;have Rv:=ay (p:=x) (o':=.ins G.C dx (aw atA (.ref ps) (aw atr (.ref pn) (aw as8 (.ref D) (aw atg rk (aw ata mk (aw as5 nm []))))))) (aD (H:=af (af (af H2 x (.ins G.C dx (aw as8 (.ref D) (aw atg rk (aw ata mk (aw as5 nm [])))))) pn (.lst ns)) x (.ins G.C dx (aw atr (.ref pn) (aw as8 (.ref D) (aw atg rk (aw ata mk (aw as5 nm []))))))) (a:=ps) (o:=.lst ss)) Rq;have a5:=ay (p:=x) (o':=.ins G.C dx (uL nm mk rk D pn ps U)) (ay (p:=U) (o':=.lst os) Rv (aI Rv mr)) Rq;refine k (uL nm mk rk D pn ps U) D pn ps U ys _ (aiO nm mk rk D pn ps U) Rs.ob a0 (S5.free _ wc) (S7.free _ bM) (S9.free _ mr) (kr D _ yS B8) ?_ a4 a5 (ay aD a6) Rs.same;rw[lj.len]at fn;exact aiT fn λb o e J hn=>kr b o e λz=>by rw[z,hx]at hn;cases hn
structure cu where
 nm:Str
 ms:List Int
 fs:List (Str×Ls)
 os:Ls
 rk:Int
abbrev Lp:=List cu
def jJ(H:Hp)(v:V)(f:Str×Ls):Prop:=∃t l,v=.ref t/\H t=some (.tup [.str f.1,.ref l])/\H l=some (.lst (f.2.map V.str))
def je(C:Addr)(H:Hp)(v:V)(p:cu):Prop:=∃a dx fl rk m j pn ps z xs,v=.ref a/\H a=some (.ins C dx fl)/\GV fl (.str p.nm) (.ref m) rk j pn ps z/\H m=some (.tup (p.ms.map V.int)) /\
 H j=some (.lst xs)/\Paired (jJ H) xs p.fs/\H z=some (.lst (p.os.map V.str))/\rk=.int p.rk/\H pn=some (.lst [])/\H ps=some (.lst [])
theorem jJ.same{v:V}{f:Str×Ls}(s:ac H H')(h:jJ H v f):jJ H' v f:=by
 obtain⟨t,l,e,a,b⟩:=h;exact⟨t,l,e,s _ _ a,s _ _ b⟩
theorem je.same{v:V}{p:cu}(s:ac H H')(h:je C H v p):je C H' v p:=by
 obtain⟨a,dx,fl,rk,m,O,pn,ps,U,xs,e,h1,h2,z,G,J,j⟩:=h;exact⟨a,dx,fl,rk,m,O,pn,ps,U,xs,e,s _ _ h1,h2,s _ _ z,s _ _ G,aB J (λ_ _=>jJ.same s),s _ _ j.1,j.2.1,s _ _ j.2.2.1,s _ _ j.2.2.2⟩
abbrev eB (C:Addr) (H:Hp):Lv->Lp->Prop:=Paired (je C H)
theorem eB.same{vs:Lv}{ps:Lp}(s:ac H H')(h:eB C H vs ps):eB C H' vs ps:=aB h λ_ _=>je.same s
def rG(fs:List (Str×Ls)):List (V×Lv):=fs.map λf=>(.str f.1,f.2.map V.str)
theorem ai2{fs:List (Str×Ls)}(h:Paired (jJ H) xs fs):Rm K H xs (rG fs):=by
 refine⟨by rw[rG,al];exact bK h,λi p ls e=>?_⟩;rw[rG,dA]at e;cases j:fs[i]? with
 | none=>rw[j]at e;cases e
 | some f=>
  rw[j]at e;cases e;obtain⟨x,z,t,l,rfl,a,b⟩:=yx h j;exact⟨t,l,z,ba.of a,aa.of b⟩
theorem ai3{Q:VK}{E:XK}{nm:Str}{mk:List Int}{rk:Int}{os:Ls}{fs:List (Str×Ls)}(Y:H m=some (.tup (mk.map V.int)))(hf:H fa=some (.lst xs))(lj:Paired (jJ H) xs fs)
 (hn:H na=some (.lst [])) (hs:H sa=some (.lst [])) (ho:H oa=some (.lst (os.map V.str))) (B6:fs.length<=1000) (q:∀x H',H x=none->ac H H'->(∀L,gO H L->je C (msk L H') (.ref x) ⟨nm,mk,fs,os,rk⟩)->Q (.ref x) H') :
 ∀x dx,H x=none->H dx=none->dx≠x->B5 K C (.ref x::([.str nm,.ref m,.int rk,.ref fa,.ref na,.ref sa,.ref oa]++[])) (af (af H dx (.own x)) x (.ins C dx [])) (λv H2=>v=.non/\Q (.ref x) H2) E:=by
 intro x dx O aZ nx;have G:ac H (af (af H dx (.own x)) x (.ins C dx [])):=fh (fR aZ) O;have a1:rG fs=rG fs:=rfl;have U:(rG fs).length=fs.length:=by rw[rG,al]
 refine⟨aD,aa.of (G _ _ hf),?_,aa.of (G _ _ hn),aa.of (G _ _ hs),aa.of (G _ _ ho),by rw[U];exact B6,?_⟩
 . exact ai2 (aB lj λ_ _=>jJ.same G)
 intro fl pf pn ps po jT H' hF qB n1 n2 n3 n4 a0 vB wc bM mr keep;have s2:ac H H':=λb o e=>keep b o (G _ _ e) (aI e O);have J:∀b,(af (af H dx (.own x)) x (.ins C dx [])) b=none->H b=none:=λb z=>G.free z;refine⟨rfl,q x H' O s2 λL j=>⟨x,dx,fl,.int rk,m,pf,pn,ps,po,jT,rfl,cL (j.free O) qB,hF,cL (j.tup Y) (s2 _ _ Y),cL (j.free (J _ n1)) a0,?_,cL (j.free (J _ n4)) mr,rfl,cL (j.free (J _ n2)) wc,cL (j.free (J _ n3)) bM⟩⟩;refine Op (by rw[vB.len,U]) λi f hi=>?_;obtain⟨t,l,e1,e2,e3,e4,e5,e6,e7⟩:=vB.item i (.str f.1) (f.2.map V.str) (by rw[U];exact(cN.mp hi).1) (by rw[rG,dA,hi];rfl);exact⟨_,e1,t,l,rfl,cL (j.free (J _ e2)) e6,cL (j.free (J _ e3)) e7⟩
def gG(p:cu):List NI:=[.inl (.inr p.nm),.inr (p.ms.map Sum.inl)]
theorem G2{nm:Str}{mk:List Int}(j:H b=some (.tup [.str nm,.ref m]))(z:H m=some (.tup (mk.map V.int))):kD H [.inl (.inr nm),.inr (mk.map Sum.inl)] b:=
 ⟨_,j,.cons rfl (.cons ⟨m,rfl,by rw[z,lL];rfl⟩ .nil)⟩
def Rw(kvs:List (List NI×V))(vs:Lv)(ps:Lp)(i:Nat):Prop:=kvs.length<=i/\∀(j:Nat) (p:cu) (v:V),j<i->ps[j]?=some p->vs[j]?=some v->bc kvs (gG p)=some v
def jf(S:Addr)(H:Hp)(v:V)(vs:Lv)(ps:Lp):Prop:=∃a dx fl d kvs,v=.ref a/\H a=some (.ins S dx fl)/\fl.lookup (atU:Str)=some (.ref d)/\fl.lookup (as2:Str)=none/\H d=some (.dT kvs)/\Rw kvs vs ps ps.length
theorem jf.same{v:V}{vs:Lv}{ps:Lp}(s:ac H H')(h:jf S H v vs ps):jf S H' v vs ps:=by
 obtain⟨a,dx,fl,d,kvs,e,h1,h2,j,z,G⟩:=h;exact⟨a,dx,fl,d,kvs,e,s _ _ h1,h2,j,s _ _ z,G⟩
inductive G5 (K:Fg) (C S:Addr):Sp where
 | mk {H:Hp}{Q:VK}{E:XK}{x dx a:Addr}{xs:Lv}{ps:Lp} (_:H x=some (.ins S dx [])) (_:H a=some (.lst xs)) (_:eB C H xs ps) (_:ps.length<=100) (_:(ps.map gG).Nodup) (_:∀H',(∀b o,H b=some o->b≠x->H' b=some o)->jf S H' (.ref x) xs ps->Q .non H'):G5 K C S [.ref x,.ref a] H Q E
theorem Rx:aK [asX,as1,as2] [asX,as1] (av OZ):=aQ
theorem ai5(G:Pg K mg base Pt):au P w K mg base aL 1 G.SIn.f G.SIn.fd [asX,as1] (G5 K G.C G.S):=by
 refine G.SIn.u.okL Rx ?_;intro ar A outer s H vs Q E hr h xX dX;obtain @⟨_,_,_,x,dx,a,xs,ps,U,ha,bM,B9,rH,q⟩:=h;have hu:=hr.units;refine⟨_,(ah (gZ (pv 0) adC rfl)
  (ai (eS eR rfl (cH (pv 1)) (bf (i:=2) Rx.nd rfl (Or.inl rfl))
  (ai (i8 hu (bJ (pv 0) rfl) (dE (aC (bJ (pv 2) rfl) (bJ (pv 2) rfl))) (pv 2) rfl))))),?_⟩
 refine mh ?_;intro dD sS dY;refine λd H1 n1 s1 e1=>?_;refine⟨s1 _ _ U,G.US.cl,G.US.nS,(by decide),?_⟩;have B8:d≠x:=(aI U n1).symm;have ax:a≠x:=aU ha U (by intro z;cases z);have nl:=bK bM;refine⟨⟨_,aa.of (by rw[aX ax];exact s1 _ _ ha)⟩,?_⟩;refine iK (xs:=xs) (λi Z H2=>∃u kvs,Z=[some (.ref x),some (.ref a),u]/\(∀b o,H b=some o->b≠x->H2 b=some o)/\H2 x=some (.ins G.S dx (aw atU (.ref d) []))/\H2 d=some (.dT kvs)/\Rw kvs xs ps i)
  ⟨none,[],rfl,λb o e hb=>by rw[aX hb];exact s1 _ _ e,aD,by rw[aX B8];exact e1,aG _,λj p v hj=>absurd hj (JZ _)⟩ ?_ ?_ ?_
 . intro i Z H2 hi gP;refine bA ?_;intro tT;obtain⟨u,kvs,rfl,k2,_⟩:=gP;exact aa.of (k2 _ _ ha ax)
 . intro i v Z H2 hv gQ;refine bA ?_;intro tT;obtain⟨u,kvs,rfl,k2,Y,a0,J⟩:=gQ;obtain⟨p,hp,b,dy,fl,rk,m,pf,pn,jK,po,ys,rfl,h1,h2,h3,h4,h5,h6⟩:=eZ bM hv;have bx:b≠x:=aU h1 U (by intro z;injection z with _ _ z;subst z;have:=h2.name;cases this);have b2:=k2 _ _ h1 bx;have m2:=k2 _ _ h3 (aU h3 U (by intro z;cases z));have a1:(aw (atU:Str) (V.ref d) []).lookup (atU:Str)=some (.ref d):=by rw[cI,aj rfl]
   refine⟨Y,G.US.cl,G.US.nS,a1,b2,G.TC.cl,G.TC.nN,h2.name,b2,G.TC.cl,G.TC.nM,h2.make,Aw,λt H3 n3 s3 e3=>?_⟩;have aO:=(cN.mp hv).1;refine⟨gb.t (s3 _ _ a0) (G2 e3 (s3 _ _ m2)) (bZ (by have:=J.1;omega)),?_⟩;refine⟨_,_,rfl,λc o e hc=>?_,?_,aD,?_,λj p' v' hj O xC=>?_⟩
   . rw[aX (λz=>by rw[z,n1]at e;cases e)];exact s3 _ _ (k2 _ _ e hc)
   . rw[aX B8.symm];exact s3 _ _ Y
   . exact bX (xL _ _ _) (Ki J.1)
   rw[AN]
   by_cases B7:j=i
   . subst B7;rw[hp]at O;rw[hv]at xC;cases O;cases xC;exact aj rfl
   have rc:j<i:=by omega
   rw[ag]
   . exact J.2 j p' v' rc O xC
   intro z;have z:gG p'=gG p:=z;refine B7 ((We (l:=ps.map gG) (i:=j) (j:=i) ?_ rH).mp ?_)
   . rw[al];have:=(cN.mp O).1;omega
   rw[dA,dA,hp,O,sq,sq,z]
 intro Z H2 pJ;refine bA ?_;intro tT;obtain⟨u,kvs,rfl,k2,Y,a0,J⟩:=pJ;rw[nl]at J;exact q H2 k2 ⟨x,dx,_,d,kvs,rfl,Y,by rw[cI,aj rfl],by rw[cI,ag (by decide +kernel)];rfl,a0,J⟩
inductive Ry (K:Fg) (S:Addr):Sp where
 | mk {H:Hp}{Q:VK}{E:XK}{z v:V}{m:Addr}{xs:Lv}{ps:Lp}{j:Nat}{p:cu} (_:jf S H z xs ps) (_:ps[j]?=some p) (_:xs[j]?=some v) (_:H m=some (.tup (p.ms.map V.int))) (_:∀H',ac H H'->Q v H'):Ry K S [z,.str p.nm,.ref m] H Q E
theorem ai7:aK [asX,as5,ata] [asX,as5,ata] (av O0):=aQ
theorem ai8(z:Pg K mg base Pt):au P w K mg base aL 1 z.SPa.f z.SPa.fd [asX,as5,ata] (Ry K z.S):=by
 refine z.SPa.u.okL ai7 ?_;intro ar A outer s H vs Q E hr h xX dX;obtain @⟨_,_,_,sv,v,m,xs,ps,j,p,⟨a,dx,fl,d,kvs,rfl,h1,h2,h3,Y,h5⟩,hp,hv,hm,q⟩:=h;have hu:=hr.units;have O:=h5.2 j p v (cN.mp hp).1 hp hv;refine⟨_,(ah (bu (oO (EF hu (dE (aC (pv 1) (pv 2))) (bJ (pv 0) rfl)) (by rfl))
  (ai qH) bI)
  (ai (aN (qO hu (bJ (pv 0) rfl) (dE (aC (pv 1) (pv 2))) (λ_ _=>rfl))))),?_⟩
 refine mh ?_;intro dD sS dY;refine⟨Aw,λt H1 n1 G e1=>?_⟩;have g1:cO H1 d (.ref t) (bc kvs (gG p)):=cO.t (G _ _ Y) (G2 e1 (G _ _ hm));refine⟨G _ _ h1,z.US.cl,z.US.nS,h2,_,g1,⟨?_⟩⟩;rw[O];refine bv (λh=>absurd h (by show ¬((!true)=true);decide)) (λh=>?_);refine⟨G _ _ h1,z.US.cl,z.US.nS,h2,Aw,λt2 H2 n2 s2 e2=>?_⟩;have J:=G.trans s2;have U:cO H2 d (.ref t2) (bc kvs (gG p)):=cO.t (J _ _ Y) (G2 e2 (J _ _ hm));rw[O]at U;exact⟨U,q H2 J⟩
abbrev Tr:=List (Str×Ls)
structure ke(done tr:Tr):Prop where
 nd:(tr.map (·.1)).Nodup
 sub:∀f∈tr,f∈done
 key:∀f∈done,f.1∈tr.map (·.1)
 len:tr.length<=done.length
theorem RA:ke [] []:=⟨kB,λ_ h=>h,(λ_ h=>nomatch h),aG _⟩
theorem ke.step{done tr:Tr}(g:ke done tr)(x:Str)(ls:Ls):ke (done++[(x,ls)]) (bR tr x ls):=by
 refine⟨kZ g.nd,λf hf=>?_,λf hf=>?_,?_⟩
 . rcases mv hf with e | hf
   . rw[e];exact fe _ (bF.mpr rfl)
   exact wO _ (g.sub f hf)
 . rcases b9.mp hf with hf | hf
   . exact Ge (.inr (g.key f hf))
   rw[bF.mp hf];exact Ge (.inl rfl)
 have:=jC tr x ls;have:=g.len;rw[bH,jp];omega
end
section
variable {K:Fg}{H H1:Hp}{kv:ao×V}{ps:Lp}{i:Nat}{xs vs:Lv}{x:Str}
def uN(xs:Lv)(ps:Lp)(v:V)(p:cu):Prop:=∃j:Nat,ps[j]?=some p/\xs[j]?=some v
def pN(xs:Lv)(ps:Lp)(ch:Ch):Prop:=∀e∈ch,∃v p,uN xs ps v p/\p.nm=e.1/\p.ms=e.2
inductive RB (S:Addr):Sp where
 | mk {H:Hp}{Q:VK}{E:XK}{G:V}{c:Addr}{xs:Lv}{ps:Lp}{ch:Ch} (_:jf S H G xs ps) (_:dq H c ch) (_:pN xs ps ch) (_:ch.length<64) (_:∀D H' z j,H D=none->ac H H'->H' D=some (.lst z)->Paired (uN xs ps) z j->(j.map (·.nm)).Perm (ch.map (·.1))->(∀p∈j,(p.nm,p.ms)∈ch)->Q (.ref D) H'):RB S [G,.ref c] H Q E
theorem ai9:aK [asY,as6] [asY,as6] (av Pm):=aQ
theorem G6(G:Pg K mg base Pt):au P w K mg base aL 2 G.PsO.f G.PsO.fd [asY,as6] (RB G.S):=by
 refine G.PsO.u.okL ai9 ?_;intro ar A outer s H vs Q E hr h xX dX;obtain @⟨_,_,_,sv,c,xs,ps,ch,hS,hC,hV,uf,q⟩:=h;have hu:=hr.units;obtain⟨kvs,e1,e2⟩:=id hC;have hk:∀kv f,dQ H kv f->kv.1=Sum.inr f.1:=λkv f z=>z.1;have kl:=bK e2;refine⟨_,(ai (aN (fT [as5] [asY,as6] [0,1] dN rfl (cH (cJ (A3 rfl) (by rfl) G.B.sorted xi (am (pv 1)))) (λ_ _ _ _=>(bf (i:=0) (show List.Nodup ([as5,asY,as6]:Ls) by decide +kernel) rfl (Or.inl rfl))) (λ_ _ _ _=>ge) (λ_ _ _ _=>(gA (pv 1) G.US.cl G.SPa.mt (up (ai8 G)) hr G.SPa.b .nil bT (aC (pv 0) (qO hu (pv 2) (pv 0) (λ_ _=>rfl)))))))),?_⟩;refine⟨c,kvs,_,rfl,e1,uz hk e2,by omega,λys hp hs a H1 n1 Y a1=>?_⟩;refine⟨⟨_,aa.of a1⟩,?_⟩;refine xQ (σ0:=[none,some sv,some (.ref c)]) (aa.of a1) (λZ=>∃v,Z=[v,some sv,some (.ref c)]) (λi zs _=>∃J,Paired (uN xs ps) zs J/\J.map (·.nm)=ys.take i/\∀p∈J,(p.nm,p.ms)∈ch) ⟨_,rfl⟩ (λ_ _=>⟨[],.nil,rfl,λ_ h=>nomatch h⟩) ?_ ?_
 . intro D i x zs Z H2 k hD hi fJ hd h2 gP eW;refine bA ?_;intro tT;obtain⟨v,rfl⟩:=fJ;obtain⟨J,U,pn,pc⟩:=gP;rw[dA]at hi;cases O:ys[i]? with
   | none=>rw[O]at hi;cases hi
   | some y=>
    rw[O]at hi;cases hi;have G7:y∈ch.map (·.1):=hp.mem_iff.mp (dH O);obtain⟨u,ms,g1,g2,_,m,rfl,g3⟩:=pG hk e2 G7;obtain⟨v2,p,jB,en,em⟩:=hV _ g2;obtain⟨j,j1,j2⟩:=id jB;have en:p.nm=y:=en;have em:p.ms=ms:=em;subst en em;obtain⟨sa,dx,fl,d,kk,rfl,b1,b2,b3,b4,b5⟩:=hS.same (Y.trans h2);have bV:=Y.trans h2;refine⟨b1,b3,(by rw[<-g1];exact cO.k (k:=.inr p.nm) (bV _ _ e1)),?_⟩;refine⟨⟨sa,dx,fl,d,kk,rfl,b1,b2,b3,b4,b5⟩,j1,j2,bV _ _ g3,λH3 s3=>?_⟩;have hl:zs.length<=64:=by
     have e:=fc List.length pn;rw[al,eP]at e;have:=bK U;have:=hp.length_eq;rw[al]at this;omega
    refine eW _ _ _ ⟨_,rfl⟩ s3 (bZ (by omega)) ⟨J++[p],jd jB U,?_,λp' b8=>?_⟩
    . rw[dJ,pn,ie,O];rfl
    rcases b9.mp b8 with z | z
    . exact pc p' z
    rw[bF.mp z];exact g2
 intro D zs H2 hD hd h2 gQ;refine bA ?_;intro tT;obtain⟨J,U,pn,pc⟩:=gQ;rw[al,fo]at pn;refine q D H2 zs J (Y.free hD) (Y.trans h2) hd U ?_ pc;rw[pn];exact hp
def db(H H':Hp)(kv:ao×V)(f:Str×Ls):Prop:=kv.1=.inr f.1/\∃l,kv.2=.ref l/\H l=none/\H' l=some (.lst (f.2.map V.str))
theorem db.same{H2:Hp}(s:ac H1 H2){f:Str×Ls}(h:db H H1 kv f):db H H2 kv f:=h.elim λa j=>j.elim λl z=>z.elim λb G=>G.elim λc d=>⟨a,l,b,c,s _ _ d⟩
theorem db.put{ks O:List (ao×V)}(hd:H1 d=some (.dK ks)){f:Str×Ls}(h:db H H1 kv f):db H (af H1 d (.dK O)) kv f:=h.elim λa j=>j.elim λl G=>G.elim λb J=>J.elim λc e=>⟨a,l,b,c,ay e (aU e hd (by intro z;cases z))⟩
def fB(ps:Lp):Tr:=ps.flatMap (·.fs)
inductive RC (C:Addr):Sp where
 | mk {H:Hp}{Q:VK}{E:XK}{a:Addr}{xs:Lv}{ps:Lp} (_:H a=some (.lst xs)) (_:eB C H xs ps) (_:(fB ps).length<=60) (_:∀d H' kvs tr,H d=none->ac H H'->H' d=some (.dK kvs)->Paired (db H H') kvs tr->ke (fB ps) tr->Q (.ref d) H'):RC C [.ref a] H Q E
theorem yT:aK [as1,atE,as2,asZ,atd] [as1] (av Pz):=aQ
theorem RD{p:cu}(h:ps[i]?=some p):fB (ps.take (i+1))=fB (ps.take i)++p.fs:=by
 unfold fB;rw[ie,h,DN];simp
theorem ajg{p:cu}(h:ps[i]?=some p)(j:Nat):(fB (ps.take i)++p.fs.take j).length<=(fB ps).length:=by
 have e:fB ps=fB (ps.take (i+1))++fB (ps.drop (i+1)):=by
  unfold fB;rw[<-DN,ary]
 rw[e,RD h];simp only[bH,eP];omega
theorem RE(J:Pg K mg base Pt):au P w K mg base aL 1 J.Bro.f J.Bro.fd [as1] (RC J.C):=by
 refine J.Bro.u.okL yT ?_;intro ar A outer s H vs Q E hr h xX dX;obtain @⟨_,_,_,a,xs,ps,ha,bM,OH,q⟩:=h;have hu:=hr.units;refine⟨_,(ah (aF (i:=1) yT.nd rfl (Or.inl rfl) mf)
  (ah (eS eR rfl (cH (pv 0)) (bf (i:=2) yT.nd rfl (Or.inl rfl))
  (ai (eS eR rfl (cH (bJ (pv 2) rfl)) (oP rfl (gz (bf (i:=3) yT.nd rfl (Or.inl rfl)) (gz (bf (i:=4) yT.nd rfl (Or.inl rfl)) mX)))
   (ai (i8 hu (pv 1) (pv 3) (eT ma (by rfl) J.B.list jS (am (pv 4))) rfl)))))
  (ai (aN (pv 1))))),?_⟩
 refine jb ?_;intro dD sS gk dY;have hk:∀(H':Hp) kv f,db H H' kv f->kv.1=Sum.inr f.1:=λ_ kv f z=>z.1;refine λd H1 n1 s1 e1=>?_;refine⟨⟨_,aa.of (s1 _ _ ha)⟩,?_⟩;refine iK (xs:=xs) (λi Z H2=>∃u v z kvs tr,Z=[some (.ref a),some (.ref d),u,v,z]/\ac H H2/\H2 d=some (.dK kvs)/\Paired (db H H2) kvs tr/\ke (fB (ps.take i)) tr) ⟨none,none,none,[],[],rfl,s1,e1,.nil,RA⟩ ?_ ?_ ?_
 . intro i Z H2 hi pJ;refine bA ?_;intro U;obtain⟨u,v,z,kvs,tr,rfl,G,_⟩:=pJ;exact aa.of (G _ _ ha)
 . intro i x Z H2 hx uE;refine bA ?_;intro U;obtain⟨u,v,z,kvs,tr,rfl,G,hd,rJ,g⟩:=uE;obtain⟨p,hp,b,dy,fl,rk,m,pf,pn,jK,po,ys,rfl,h1,h2,h3,h4,h5,h6⟩:=eZ bM hx;refine⟨G _ _ h1,J.TC.cl,J.TC.nF,h2.files,⟨_,aa.of (G _ _ h4)⟩,?_⟩;refine iK (xs:=ys) (λj Z H3=>∃v z kvs tr,Z=[some (.ref a),some (.ref d),some (.ref b),v,z]/\ac H H3/\H3 d=some (.dK kvs)/\Paired (db H H3) kvs tr/\ke (fB (ps.take i)++p.fs.take j) tr) ⟨v,z,kvs,tr,rfl,G,hd,rJ,by rw[List.take_zero,lH];exact g⟩ ?_ ?_ ?_
   . intro j Z H3 hj uF;refine bA ?_;intro U;obtain⟨v,z,kvs,tr,rfl,s3,_⟩:=uF;exact aa.of (s3 _ _ h4)
   . intro j y Z H3 hy yK;refine bA ?_;intro U;obtain⟨v,z,kvs,tr,rfl,s3,de,Y,O⟩:=yK;obtain⟨⟨px,ls⟩,G8,t,l,rfl,t1,t2⟩:=eZ h5 hy;refine⟨ba.of (s3 _ _ t1),rfl,rfl,?_⟩;refine⟨l,_,rfl,.inl (aa.of (s3 _ _ t2)),λl' H4 n4 s4 e4=>?_⟩;have a2:=ajg hp j;have a1:=O.len;have a0:=bK Y;refine⟨gb.k (k:=.inr px) (s4 _ _ de) (bZ (by omega)),?_⟩;refine⟨_,_,_,bR tr px ls,rfl,fh (s3.trans s4) n1,aD,?_,?_⟩
     . refine aB (jD (F:=db H H4) (hk H4) ⟨rfl,l',rfl,s3.free n4,e4⟩ (aB Y λ_ _=>db.same s4)) λkv f=>db.put (s4 _ _ de)
     rw[ie,G8];have:=O.step px ls;rw[jR]at this;exact this
   intro Z H3 yL;refine bA ?_;intro U;obtain⟨v,z,kvs,tr,rfl,s3,de,Y,O⟩:=yL;refine⟨_,_,_,kvs,tr,rfl,s3,de,Y,?_⟩;rw[RD hp];rw[bK h5,fo]at O;exact O
 intro Z H2 GC;refine bA ?_;intro U;obtain⟨u,v,z,kvs,tr,rfl,G,hd,rJ,g⟩:=GC;rw[bK bM,fo]at g;exact⟨q d H2 kvs tr n1 G hd rJ g⟩
theorem G9{G:Lp}(h:eB C H xs ps)(r:Paired (uN xs ps) vs G):eB C H vs G:=aB r λv p J=>J.elim λj O=>O.elim λa b=>by
 obtain⟨x,z,q⟩:=yx h a;rw[b]at z;cases z;exact q
theorem Hd{z:Lp}(r:Paired (uN xs ps) vs z):∀p∈z,p∈ps:=by
 induction r with
 | nil=>exact λ_ h=>nomatch h
 | cons q t G=>
  intro p hp
  rcases be.mp hp with e | hp
  . obtain⟨j,a,b⟩:=q;rw[e];exact dH a
  exact G p hp
theorem RF{b:Nat}(h:∀p∈ps,p.fs.length<=b):(fB ps).length<=ps.length * b:=by
 induction ps with
 | nil=>exact dz _
 | cons p ps z=>
  have e:fB (p::ps)=p.fs++fB ps:=DL;rw[e,bH,cr,VQ];have:=z λq j=>h q (bU _ j);have:=h p bQ;omega
def cw(H:Hp)(kv:ao×V)(f:Str×Ls):Prop:=kv.1=.inr f.1/\∃l,kv.2=.ref l/\H l=some (.lst (f.2.map V.str))
theorem cw.same{H':Hp}(s:ac H H'){f:Str×Ls}(h:cw H kv f):cw H' kv f:=h.elim λa j=>j.elim λl z=>z.elim λb c=>⟨a,l,b,s _ _ c⟩
def He(tr:Tr):Prop:=∀f∈tr,dB f.1/\(∀x∈f.2,gj x)/\f.2.length<=4
section
variable {g:TG}{tt:TT}{te:TE}{Q:Hp->Prop}
theorem rK{σ0:L2.St}(Y:H1 D=none)(hx:aa K H1 a xs)(S:L2.St->Prop)(P:Nat->Lv->Hp->Prop)(s0:S σ0)(st:P 0 [] (af H1 D (.lst [])))
 (a0:∀i x ys Z H (k:L2.St->V->Hp->Prop) (k':L2.St->Hp->Prop),xs[i]?=some x->S Z->H D=some (.lst ys)->ac H1 H->P i ys H ->
  (∀σ3 y z,S σ3->ac H z->ys.length<sizeLine->P (i+1) (ys++[y]) (af z D (.lst (ys++[y])))->k σ3 y z)->(∀σ3 j,S σ3->ac H j->P (i+1) ys j->k' σ3 j) ->
  g x Z H λσ3 H3=>tt σ3 H3 λok j=>if ok=true then te σ3 j (k σ3) else k' σ3 j)
 (done:∀ys H,H D=some (.lst ys)->ac H1 H->P xs.length ys H->Q H) :
 ∃W:Nat->Nat->L2.St->Hp->Prop,(∃m,W 0 m σ0 (af H1 D (.lst [])))/\kJ (mY K a) g tt te D (λH'=>Q H') W:=by
 refine⟨λi m Z H=>m=xs.length - i/\i<=xs.length/\S Z/\∃ys,H D=some (.lst ys)/\ac H1 H/\P i ys H,⟨xs.length,by simp,dz _,s0,[],aD,fR Y,st⟩,?_⟩;intro i m Z H fJ;refine bA ?_;intro tT;obtain⟨rfl,hi,hS,ys,hd,hs,hp⟩:=fJ;have q:aa K H a xs:=ac.seq hs hx
 by_cases U:i<xs.length
 . refine .inr ⟨⟨xs,xs[i],q,by simp[U]⟩,λx H2 hy=>?_⟩;obtain⟨e1,e2⟩:=hy;subst e1;exact a0 i x ys Z _ (λσ3 y z=>∃ys,z D=some (.lst ys)/\ys.length<sizeLine/\∃m',m'<xs.length - i/\(m'=xs.length - (i+1)/\i+1<=xs.length/\S σ3/\∃zs,af z D (.lst (ys++[y])) D=some (.lst zs)/\ac H1 (af z D (.lst (ys++[y])))/\P (i+1) zs (af z D (.lst (ys++[y])))))
    (λσ3 j=>∃m',m'<xs.length - i/\(m'=xs.length - (i+1)/\i+1<=xs.length/\S σ3/\∃zs,j D=some (.lst zs)/\ac H1 j/\P (i+1) zs j)) (e2 xs q) hS hd hs hp
    (λσ3 y z J G O a4=>⟨ys,G _ _ hd,O,xs.length - (i+1),by omega,rfl,U,J,ys++[y],aD,fh (hs.trans G) Y,a4⟩)
    (λσ3 j J G O=>⟨xs.length - (i+1),by omega,rfl,U,J,ys,G _ _ hd,hs.trans G,O⟩)
 have e:i=xs.length:=by omega
 subst e;exact .inl ⟨⟨xs,q,aG _⟩,done ys H hd hs hp⟩
theorem Cb{σ0:L2.St}(hD:H1 D=none)(hx:aa K H1 a xs)(S:L2.St->Prop)(P:Nat->Lv->Hp->Prop)(s0:S σ0)(st:P 0 [] (af H1 D (.lst [])))
 (a0:∀i x ys Z H (k:L2.St->V->Hp->Prop),xs[i]?=some x->S Z->H D=some (.lst ys)->ac H1 H->P i ys H ->
  (∀σ3 y j,S σ3->ac H j->ys.length<sizeLine->P (i+1) (ys++[y]) (af j D (.lst (ys++[y])))->k σ3 y j)->g x Z H λσ3 H3=>te σ3 H3 (k σ3))
 (done:∀ys H,H D=some (.lst ys)->ac H1 H->P xs.length ys H->Q H) :
 ∃W:Nat->Nat->L2.St->Hp->Prop,(∃m,W 0 m σ0 (af H1 D (.lst [])))/\kJ (mY K a) g qR te D (λH'=>Q H') W:=
 rK hD hx S P s0 st (λi x ys Z H k k' z G J O U Y _=>a0 i x ys Z H k z G J O U Y) done
end
abbrev dI (ms:List Int):W.Dat:=.tuple (ms.map W.Dat.int)
theorem ajm{a b:List Int}:dI a=dI b↔a=b:=⟨λh=>(List.map_inj_right λx y z=>W.Dat.int.inj z).mp (W.Dat.tuple.inj h),λh=>by rw[h]⟩
theorem Cc(n:Nat)(ms:List Int):W.kqdOk (n+1) (dI ms)=true:=by
 simp only[dI,W.kqdOk,gW,cC];rintro d ⟨i,_,rfl⟩;simp[W.kqdOk]
theorem Hf{ms:List Int}(h:H m=some (.tup (ms.map V.int))):DV K H (.ref m) (dI ms):=.tup (ba.of h) (Ml ms)
def pO(H:Hp)(v:V)(ms:List Int):Prop:=∃m,v=.ref m/\H m=some (.tup (ms.map V.int))
theorem pO.same{H':Hp}(s:ac H H'){v:V}{ms:List Int}(h:pO H v ms):pO H' v ms:=h.elim λm j=>j.elim λa b=>⟨m,a,s _ _ b⟩
theorem RG{j:Ll}(h:Paired (pO H) vs j):im K H vs (j.map dI):=by
 induction h with
 | nil=>exact .nil
 | cons r t z=>
  obtain⟨m,rfl,e⟩:=r;exact .cons (Hf e) z
theorem RH(n:Nat)(j:Ll):W.kqdOk (n+2) (.list (j.map dI))=true:=by
 rw[W.kqdOk,gW];intro d hd;obtain⟨ms,_,rfl⟩:=cC.mp hd;exact Cc n ms
theorem ajo{p:cu}(h:ps[i]?=some p)(j:cu->Bool):(ps.take (i+1)).filter j=(ps.take i).filter j++(if j p=true then [p] else []):=by
 rw[ie,h,Kj]
 congr 1
 show List.filter j [p]=_;rw[qp];rfl
inductive RI (K:Fg) (C:Addr):Sp where
 | mk {H:Hp}{Q:VK}{E:XK}{a n:Addr}{j:Int}{xs:Lv}{ps:Lp}{ns:Ls} (_:H a=some (.lst xs)) (_:eB C H xs ps) (_:ps.length<=100) (_:H n=some (.lst (ns.map V.str))) (_:ns.length<=4) (_:∀c H' ch,H c=none->ac H H'->dq H' c ch->pN xs ps ch->(ch.map (·.1)).Nodup->ch.length<=4->Q (.ref c) H'):RI K C [.ref a,.ref n,.int j] H Q E
theorem yU:aK [atk,as9,as4,"_law_chosen_here",ate,"_law_makes",as0] [atk,as9,as4] (av P9):=aQ
theorem ajp(J:Pg K mg base Pt):au P w K mg base aL 2 J.Cho.f J.Cho.fd [atk,as9,as4] (RI K J.C):=by
 refine J.Cho.u.okL yU ?_;intro ar A outer s H vs Q E hr h xX dX;obtain @⟨_,_,_,a,n,a0,xs,ps,ns,ha,bM,B9,hn,n4,q⟩:=h;have hu:=hr.units;have hk:∀(H':Hp) kv f,dQ H' kv f->kv.1=Sum.inr f.1:=λ_ kv f z=>z.1;refine⟨_,(ah (aF (i:=3) yU.nd rfl (Or.inl rfl) mf)
  (ah (eS eR rfl (mZ rfl J.B.range (am (cJ gL (by rfl) J.B.len gy (am (pv 1))))) (bf (i:=4) yU.nd rfl (Or.inr rfl))
  (ah (qT (i:=5) [atz] [as9,ate] [1,4] yU.nd rfl rfl dN rfl (cH (pv 0)) (λ_ _ _ _=>(bf (i:=0) (show List.Nodup ([atz,as9,ate]:Ls) by decide +kernel) rfl (Or.inl rfl))) (λ_ _ _ _=>o9 (bq cT (iM K (pv 0) rfl) (bP (EZ K) (pv 1) (pv 2) (λ_ _=>rfl)) (bh _))) (λ_ _ _ _=>(iM K (pv 0) rfl)))
   (ah (aF (i:=6) yU.nd rfl (Or.inl rfl) (aA (iz J) hr rfl (aC (pv 2) (aJ fO ak (pv 4)))))
   (ai (bu (PW.pt (tD (bq (AV hu) (pv 5) (cU d8) (bh _)) (xx (bq K4 (aJ cS (pv 6) ak) ak (bh _)))))
   (ai (i8 hu (pv 3) (bP fQ (pv 1) (pv 4) (λ_ _=>rfl)) (bP fQ (pv 5) (aJ cS (aJ jr (pv 6) ak) (cJ gL (by rfl) J.B.len gy (am (pv 5)))) (λ_ _=>rfl)) rfl)) bI)))))
  (ai (aN (pv 3))))),?_⟩
 refine jb ?_;intro dD sS gk dY;refine λc H1 n1 s1 e1=>?_;refine⟨n,_,rfl,.inl (aa.of (s1 _ _ hn)),by omega,by rw[al];omega,?_⟩;refine tL (n:=(ns.map V.str).length) (λi Z H2=>∃(u v z:Option V) (kvs:List (ao×V)) (ch:Ch),Z=[some (.ref a),some (.ref n),some (.int a0),some (.ref c),u,v,z]/\ac H H2/\H2 c=some (.dK kvs)/\Paired (dQ H2) kvs ch/\pN xs ps ch/\(ch.map (·.1)).Nodup/\ch.length<=i) ⟨none,none,none,[],[],rfl,s1,e1,.nil,(λ_ h=>nomatch h),kB,aG _⟩ ?_ ?_
 . intro i Z H2 hi gP;refine bA ?_;intro tT;obtain⟨u,v,z,kvs,ch,rfl,U,hc,rJ,hV,rH,qZ⟩:=gP;rw[al]at hi;obtain⟨x,hx⟩:∃x,ns[i]?=some x:=⟨ns[i],by simp[hi]⟩;have nu:cE (ns.map V.str) (0+(i:Int))=some (V.str x):=by
    rw[Int.zero_add];exact AM (by rw[dA,hx];rfl)
   refine⟨⟨_,aa.of (U _ _ ha)⟩,?_⟩;intro D hD;refine rK (σ0:=[none,some (.ref n),some (.int (0+(i:Int)))]) hD (aa.of (U _ _ ha)) (λZ=>∃v,Z=[v,some (.ref n),some (.int (0+(i:Int)))]) (λj zs H3=>zs.length<=j/\∃O,Paired (pO H) zs O/\∀ms∈O,∃v p,uN xs ps v p/\p.nm=x/\p.ms=ms) ⟨_,rfl⟩ ⟨aG _,[],.nil,λ_ h=>nomatch h⟩ ?_ ?_
   . intro j y zs Z H3 k k' hy gQ hd h3 pJ fG jg;refine bA ?_;intro tT;obtain⟨v,rfl⟩:=gQ;obtain⟨zl,O,pr,pm⟩:=pJ;obtain⟨p,hp,b,dy,fl,rk,m,pf,pn,jK,po,ys,rfl,b1,b2,b3,b4,b5,b6⟩:=eZ bM hy;have s3:=U.trans h3;have aO:=(cN.mp hp).1;refine⟨s3 _ _ b1,J.TC.cl,J.TC.nN,b2.name,aa.of (s3 _ _ hn),nu,rfl,⟨?_⟩⟩;refine bv (λh=>?_) (λh=>?_)
     . have en:p.nm=x:=by
        have h:=cW h;injection h
       refine⟨s3 _ _ b1,J.TC.cl,J.TC.nM,b2.make,?_⟩;refine fG _ _ _ ⟨_,rfl⟩ (ac.refl _) (bZ (by omega)) ⟨by rw[bH,jp];omega,O++[p.ms],jd ⟨m,rfl,b3⟩ pr,λms hm=>?_⟩
       rcases b9.mp hm with z | z
       . exact pm ms z
       exact⟨_,p,⟨j,hp,hy⟩,en,(bF.mp z).symm⟩
     exact jg _ _ ⟨_,rfl⟩ (ac.refl _) ⟨by omega,O,pr,pm⟩
   intro zs H3 hd h3 uE;refine bA ?_;intro tT;obtain⟨zl,O,pr,pm⟩:=uE;have s3:=U.trans h3;have ll:=bK bM;have Hg:=h3 _ _ hc;have oh:=aB pr λ_ _=>pO.same s3;have RJ:=aB rJ λ_ _=>dQ.same h3;refine⟨⟨⟨⟨λa3=>?_⟩⟩⟩⟩;refine⟨AI,λe Y n4 G e4=>?_⟩;refine⟨.list (O.map dI),.list [],.lst (aa.of (G _ _ hd)) (RG (aB oh λ_ _=>pO.same G)),.lst (aa.of e4) .nil,RH 7 _,RH 7 [],λbb hb=>⟨?_⟩⟩;have keep:∀u v z,∃(u' v' z':Option V) (kvs:List (ao×V)) (ch:Ch),[some (V.ref a),some (V.ref n),some (V.int a0),some (V.ref c),u,v,z]=[some (V.ref a),some (.ref n),some (.int a0),some (.ref c),u',v',z']/\ac H Y/\Y c=some (.dK kvs)/\Paired (dQ Y) kvs ch/\pN xs ps ch/\(ch.map (·.1)).Nodup/\ch.length<=i+1:=
    λu v z=>⟨u,v,z,kvs,ch,rfl,s3.trans G,G _ _ Hg,aB RJ λ_ _=>dQ.same G,hV,rH,by omega⟩
   refine bv (λc8=>?_) (λc8=>?_)
   . refine⟨(by show(0:Int)<4;decide),⟨⟨?_⟩⟩⟩;refine bv (λa2=>?_) (λa2=>keep _ _ _);have mq:0<zs.length:=by
      cases zs with
      | nil=>
       cases pr;have hb:bb=true:=hb.mpr rfl;rw[hb]at c8;cases c8
      | cons y ys=>simp
     obtain⟨y,hy,G7⟩:=EN (xs:=zs) (r:=a3 / 4 % (zs.length:Int)) (wY _ (by omega)) (Af _ (by omega));obtain⟨ms,Hh,m,rfl,em⟩:=eZ oh G7;obtain⟨v0,p0,jB,en,a1⟩:=pm ms (dH Hh);refine⟨⟨by omega,by omega⟩,D,_,rfl,.inl (aa.of (G _ _ hd)),(by show(0:Int)<(zs.length:Int);omega),aa.of (G _ _ hd),hy,?_⟩;refine⟨aa.of (G _ _ (s3 _ _ hn)),nu,?_⟩;have pl:=bK rJ;refine⟨gb.k (k:=.inr x) (G _ _ Hg) (bZ (by omega)),?_⟩;refine⟨_,_,_,_,bR ch x ms,rfl,fh (s3.trans G) n1,aD,?_,λe he=>?_,kZ rH,bX (jC ch x ms) (by omega)⟩
     . refine aB (jD (F:=dQ Y) (hk Y) ⟨rfl,m,rfl,G _ _ em⟩ (aB RJ λ_ _=>dQ.same G)) λkv f z=>?_;obtain⟨z1,m',z2,z3⟩:=z;exact⟨z1,m',z2,ay z3 (aU z3 (G _ _ Hg) (by intro z;cases z))⟩
     rcases mv he with e' | he
     . rw[e'];exact⟨v0,p0,jB,en,a1⟩
     exact hV e he
   exact di (keep _ _ _)
 intro Z H2 uF;refine bA ?_;intro tT;obtain⟨u,v,z,kvs,ch,rfl,U,hc,rJ,hV,rH,qZ⟩:=uF;rw[al]at qZ;exact⟨q c H2 ch n1 U ⟨kvs,hc,rJ⟩ hV rH (by omega)⟩
def ajs:V->Lv->Hp->VK->Prop:=λx vs H Q=>∃a kvs k y,x=.ref a/\vs=[kV k,y]/\H a=some (.dK kvs)/\kvs.length<sizeLine/\∀z j H',bc j k=some z->((j=kvs)\/(bc kvs k=none/\z=y/\j=cK kvs k y))->H' a=some (.dK j)->(∀b o,H b=some o->b≠a->H' b=some o)->Q z H'
theorem ajt{X:Cx}:oW X "dict.setdefault" ajs:=by
 intro ad s Z H x xs v us Q I U O h;obtain⟨a,kvs,k,y,rfl,rfl,e,G,q⟩:=h;refine acG ad s Z H _ _ v us Q I U O ⟨a,kvs,k,y,rfl,rfl,e,G,λz hz=>q z kvs H hz (.inl rfl) e λ_ _ e _=>e,λJ=>q y _ _ ?_ (.inr ⟨J,rfl,rfl⟩) aD λb o e j=>ay e j⟩;rw[AN,aj rfl]
theorem yV(xs:Ls):(xs.map V.str).all oV=true:=by
 rw[gW];intro v j;obtain⟨z,_,rfl⟩:=cC.mp j;rfl
theorem aju{z:Str}{xs:Ls}(h:z∈xs):ni (.str z) (xs.map V.str)=true:=by
 unfold ni;rw[vt];exact⟨_,cC.mpr ⟨z,h,rfl⟩,by simp[kI]⟩
theorem ajv{α:Type}{xs:List α}{j:Nat}(h:j<xs.length):∃v,cE xs (-1 - (0+(j:Int)))=some v:=by
 unfold cE oU;rw[ag (by omega),aj (by omega),Option.bind_some];have:((-1 - (0+(j:Int))+(xs.length:Int)).toNat)<xs.length:=by omega
 exact⟨_,gX this⟩
theorem ajw{L:List Addr}{H':Hp}(G:H p=none)(s:ac H H'):ac (msk L H) (msk (p::L) H'):=λb o e=>by
 unfold msk at e;split at e
 . cases e
 rename_i j;refine cL ?_ (s _ _ e);rw[be,qw];exact⟨λz=>(by rw[z,G]at e;cases e),j⟩
theorem ajx{L:List Addr}{H':Hp}(s:∀b o,H b=some o->b∉L->H' b=some o):ac (msk L H) (msk L H'):=λb o e=>by
 unfold msk at e;split at e
 . cases e
 exact cL ‹_› (s _ _ e ‹_›)
def ajy(Q:Addr->Hp->Prop):VK:=λv H=>match v with | .ref x=>Q x H | _=>False
theorem ajz{C:Addr}{Q:Addr->Hp->Prop}{E:XK}{nm:Str}{j G z:Addr}{mk:List Int}{rk:Int}{os:Ls}{fs:List (Str×Ls)}(U:H m=some (.tup (mk.map V.int)))(O:H fa=some (.lst xs))(lj:Paired (jJ H) xs fs)
 (Y:H j=some (.lst [])) (hs:H G=some (.lst [])) (ho:H z=some (.lst (os.map V.str))) (J:fs.length<=1000) (q:∀x H',H x=none->ac H H'->(∀L,gO H L->je C (msk L H') (.ref x) ⟨nm,mk,fs,os,rk⟩)->Q x H') :
 ∀x dx,H x=none->H dx=none->dx≠x->B5 K C (.ref x::([.str nm,.ref m,.int rk,.ref fa,.ref j,.ref G,.ref z]++[])) (af (af H dx (.own x)) x (.ins C dx [])) (λv H2=>v=.non/\Q x H2) E:=
 ai3 (Q:=ajy Q) U O lj Y hs ho J q
theorem gj.ln(h:gj x):Ln x:=⟨vK.mpr λc j=>by have:=h.sg c j;omega,h.hi⟩
theorem cM.ln(h:cM x):Ln x:=⟨vK.mpr λc j=>by have:=h.az c j;omega,by have:=h.hi;omega⟩
theorem dB.len(h:dB x):x.length<=36:=by
 obtain⟨ps,rfl,h1,h2,j⟩:=h;have:=GN (sep:=lg) (b:=8) (λp z=>(j p z).hi) (by decide +kernel);omega
theorem dB.ln(h:dB x):Ln x:=⟨vK.mpr λc j=>by have:=h.signs c j;omega,by have:=h.len;omega⟩
structure uO(ns:Ls)(ps:Lp)(uk:List (ao×V))(i:Nat):Prop where
 nd:(ps.map gG).Nodup
 ok:∀p∈ps,p.fs.length<=3/\He p.fs/\(p.fs.map (·.1)).Nodup
 used:∀p∈ps,∀x∈p.fs.map (·.1),bc uk (.inr x)=some (.str p.nm)
 txts:∀k v,bc uk k=some v->∃y,v=.str y
 len:ps.length<=i
 nms:∀p∈ps,p.nm∈ns
 offs:∀p∈ps,p.os.length<=2/\∀t∈p.os,t∈ns
 mks:∀p∈ps,fW p.ms
structure Apart(ns:Ls)(ps:Lp):Prop where
 nd:(ps.map gG).Nodup
 ok:∀p∈ps,p.fs.length<=3/\He p.fs/\(p.fs.map (·.1)).Nodup
 one:∀p∈ps,∀p'∈ps,∀x,x∈p.fs.map (·.1)->x∈p'.fs.map (·.1)->p.nm=p'.nm
 len:ps.length<=6
 nms:∀p∈ps,p.nm∈ns
 offs:∀p∈ps,p.os.length<=2/\∀t∈p.os,t∈ns
 mks:∀p∈ps,fW p.ms
theorem uO.apart{ns:Ls}{U:List (ao×V)}(h:uO ns ps U 6):Apart ns ps:=by
 refine⟨h.nd,h.ok,λp z O j x G J=>?_,h.len,h.nms,h.offs,h.mks⟩;have a:=h.used p z x G;have b:=h.used O j x J;rw[a]at b;injection b with b
 injection b
structure RK(fs:Tr)(uk:List (ao×V))(nm:Str)(j:Nat):Prop where
 nd:(fs.map (·.1)).Nodup
 used:∀x∈fs.map (·.1),bc uk (.inr x)=some (.str nm)
 ok:He fs
 len:fs.length<=j
inductive RL (K:Fg) (C:Addr) (vs:Lv) (H:Hp) (Q:VK) (E:XK):Prop where
 | mk (sc n:Addr) (is:List Int) (ns:Ls) (_:vs=[.ref sc,.ref n,.int 3]) (_:aa K H sc (is.map V.int)) (_:H n=some (.lst (ns.map V.str))) (_:1<=ns.length) (_:ns.length<=4) (_:∀j H' vs ps,H j=none->ac H H'->H' j=some (.lst vs)->eB C H' vs ps->Apart ns ps->Q (.ref j) H'):RL K C vs H Q E
theorem ki:aK [as7,as9,atO,"_law_found","_law_used",ate,as4,atR,"_law_files","_law_j","_law_path_here","_law_offers","_law_rank","_law_parcel","_law_mine"] [as7,as9,atO] (av BO):=aQ
theorem ajA(G:Pg K mg base Pt):au P w K mg base aL 3 G.PAp.f G.PAp.fd [as7,as9,atO] (RL K G.C):=by
 refine G.PAp.u.ok ki (λvs H Q E h=>?_) (λar A outer s H vs Q E hr h=>?_)
 . obtain⟨sc,n,is,ns,rfl,_⟩:=h;rfl
 refine ya ?_;intros;obtain⟨sc,n,is,ns,rfl,aR,hn,Hi,RM,q⟩:=h;have hu:=hr.units;have b7:(A.deeper (PyProof.Rows.envOfC atF (av BO) s.heap.objs.size G.PAp.f ar)).units+65<cLine:=by have:=hr.un;omega
 have dZ:ci 1 (A.deeper (PyProof.Rows.envOfC atF (av BO) s.heap.objs.size G.PAp.f ar)):=hr.mono (by decide);refine⟨_,(ah (aF (i:=3) ki.nd rfl (Or.inl rfl) (cU d8))
  (ah (aF (i:=4) ki.nd rfl (Or.inl rfl) mf)
  (ah (eS eR rfl (KQ rfl G.B.range (aC (pv 2) (aJ fO (pv 2) ak))) (bf (i:=5) ki.nd rfl (Or.inl rfl))
  (ah (aF (i:=6) ki.nd rfl (Or.inl rfl) (aA (yJ G) dZ rfl (aC (pv 0) (pv 5))))
   (ah (aF (i:=7) ki.nd rfl (Or.inr rfl) (bP fQ (pv 1) (aJ cS (aJ fO (pv 6) (pv 5)) (cJ gL (by rfl) G.B.len gy (am (pv 1)))) (λ_ _=>rfl)))
   (ah (aF (i:=8) ki.nd rfl (Or.inl rfl) (cU d8))
   (ah (eS eR rfl (mZ rfl G.B.range (am (aJ cS (aA (iz G) dZ rfl (aC (pv 6) ak)) ak))) (bf (i:=9) ki.nd rfl (Or.inl rfl))
   (ah (aF (i:=10) ki.nd rfl (Or.inl rfl) (aA (QK G) dZ rfl (am (aA (iz G) dZ rfl (aC (pv 6) (aJ fO ak (pv 9)))))))
    (ai (bu (PW.pt (tD (bq cT (dC zY aq6 PySem.F.type_dict_setdefault ajt (pv 4) (aC (pv 10) (pv 7))) (pv 7) (bh _)) (xx (bq Zv (pv 10) (fT [atz] [] [] dN rfl (cH (pv 8)) (λ_ _ _ _=>(bf (i:=0) (show List.Nodup ([atz]:Ls) by decide +kernel) rfl (Or.inl rfl))) (λ_ _ _ _=>ge) (λ_ _ _ _=>(bP (acq K) (pv 0) ak (λ_ _=>rfl)))) (by rfl)))))
    (ai (bC (dC iW xj xk qM (pv 8) (am (dE (aC (pv 10) (aA (GB G) hr rfl (am (aA (iz G) dZ rfl (aC (pv 6) (aJ fO ak (pv 9)))))))))))) bI))))
   (ah (qT (i:=11) ["_law_j"] [as9] [1] ki.nd rfl rfl dN rfl (mZ rfl G.B.range (am (cJ (Yo rfl) (by rfl) G.B.min PyProof.Rows.boot_min (aC (cJ gL (by rfl) G.B.len gy (am (pv 1))) (aJ jr (aJ cS (aA (iz G) dZ rfl (aC (pv 6) ak)) ak) ak))))) (λ_ _ _ _=>(bf (i:=0) (show List.Nodup (["_law_j",as9]:Ls) by decide +kernel) rfl (Or.inl rfl))) (λ_ _ _ _=>ge) (λ_ _ _ _=>(bP (EZ K) (pv 1) (aJ AB (tN tO ak) (pv 0)) (λ_ _=>rfl))))
   (ah (aF (i:=12) ki.nd rfl (Or.inl rfl) (bP fQ (cU (aC (aJ cS (aA (iz G) dZ rfl (aC (pv 6) ak)) ak) (aJ cS (pv 6) (aJ Ej ak ak)))) (aJ cS (aA (iz G) dZ rfl (aC (pv 6) ak)) ak) (λ_ _=>rfl)))
   (ah (aF (i:=13) ki.nd rfl (Or.inl rfl) (qK G.MPIn (up (aiU G)) hr rfl G.TC.mgC G.PIn.b .nil bT (gK (pv 7) (gK (aA (ahr G) dZ rfl (am (aA (iz G) dZ rfl (aC (pv 6) ak)))) (gK (pv 12) (qV (pv 8) (cU d8) (cU d8) (pv 11)))))))
   (ah (qT (i:=14) [atz] [atR] [7] ki.nd rfl rfl dN rfl (cH (pv 3)) (λ_ _ _ _=>(bf (i:=0) (show List.Nodup ([atz,atR]:Ls) by decide +kernel) rfl (Or.inl rfl))) (λ_ _ _ _=>o9 (bq cT (iM K (pv 0) rfl) (pv 1) (bh _))) (λ_ _ _ _=>(iM K (pv 0) rfl)))
   (ai (bu (PW.pt (tD (bq tP (cJ gL (by rfl) G.B.len gy (am (pv 14))) ak (bh _)) (xx (bq (acX b7) (bJ (pv 13) rfl) (pv 14) (by rfl)))))
   (ai (bC (dC iW xj xk qM (pv 3) (am (pv 13))))) bI)))))))))))
  (ai (aN (pv 3)))))),?_⟩
 refine kO ?_;intro dD sS nZ gk dY;refine⟨AI,λU Ha na sa ea=>?_⟩;refine λO Hb nb sb eb=>?_;have fu:U≠O:=aI ea nb;have yW:H O=none:=sa.free nb;refine⟨⟨by omega,by omega,by omega,by omega⟩,?_⟩;refine tL (lo:=3) (n:=6) (λi Z H2=>∃(t5 t6 t7 t8 t9 jz mi mj mn mo:Option V) (vs:Lv) (ps:Lp) (uk:List (ao×V)),Z=[some (.ref sc),some (.ref n),some (.int 3),some (.ref U),some (.ref O),t5,t6,t7,t8,t9,jz,mi,mj,mn,mo]/\ac H H2/\H2 U=some (.lst vs)/\H2 O=some (.dK uk)/\eB G.C (msk [U,O] H2) vs ps/\uO ns ps uk i/\uk.length<=3 * i)
  ⟨none,none,none,none,none,none,none,none,none,none,[],[],[],rfl,sa.trans sb,sb _ _ ea,eb,.nil,⟨kB,(λ_ h=>nomatch h),(λ_ h=>nomatch h),(λ_ _ h=>nomatch h),aG _,(λ_ h=>nomatch h),(λ_ h=>nomatch h),(λ_ h=>nomatch h)⟩,aG _⟩ ?_ ?_
 . intro i Z H2 hi fJ;refine bA ?_;intro tT;obtain⟨t5,t6,t7,t8,t9,jz,mi,mj,mn,mo,vs,ps,uk,rfl,s2,jI,Hl,bM,a2,ul⟩:=fJ;refine adR ?_;intros;refine⟨by omega,s2.seq aR,λa1=>?_⟩;have mq:(0:Int)<((ns.map V.str).length:Int):=by rw[al];omega
   obtain⟨nm,ap,a4⟩:=xR (xs:=ns) (r:=(a1+(3+(i:Int))) % ((ns.map V.str).length:Int)) (wY _ (by omega)) (by have:=Af (a1+(3+(i:Int))) mq;rw[al]at *;exact this);refine⟨n,_,rfl,.inl (aa.of (s2 _ _ hn)),mq,aa.of (s2 _ _ hn),ap,?_⟩;refine⟨AI,λla H3 n3 s3 e3=>?_⟩;have lf:la≠U:=(aI jI n3).symm;have lu:la≠O:=(aI Hl n3).symm;refine⟨⟨λm1=>?_⟩⟩;refine⟨(by show(0:Int)<4;decide),by omega,by omega,?_⟩;refine tL (n:=(m1 % 4).toNat) (λj Z H3=>∃(t9 jz:Option V) (pP:Lv) (fs:Tr) (uk:List (ao×V)),Z=[some (.ref sc),some (.ref n),some (.int 3),some (.ref U),some (.ref O),some (.int (3+(i:Int))),some (.int a1),some (.str nm),some (.ref la),t9,jz,mi,mj,mn,mo]/\ac H H3/\H3 U=some (.lst vs)/\H3 O=some (.dK uk)/\H3 la=some (.lst pP) /\
    eB G.C (msk [la,U,O] H3) vs ps/\Paired (jJ (msk [la,U,O] H3)) pP fs/\uO ns ps uk i/\RK fs uk nm j/\uk.length<=3 * i+j)
    ⟨_,_,[],[],uk,rfl,s2.trans s3,s3 _ _ jI,s3 _ _ Hl,e3,bM.same (ajw n3 s3),.nil,a2,⟨kB,(λ_ h=>nomatch h),(λ_ h=>nomatch h),aG _⟩,ul⟩ ?_ ?_
   . intro j Z H4 hj gP;refine bA ?_;intro tT;obtain⟨Hm,Hn,pP,fs,we,rfl,s4,uP,wf,Ho,wg,Cd,J,jL,bg⟩:=gP;refine mh ?_;intros;have j3:j<3:=by omega
     refine⟨⟨⟨⟨λm2=>?_⟩⟩⟩⟩;refine⟨λx H5 ab s5=>ab.elim λRN _=>?_⟩;have lx:=RN.ln;refine⟨.inr (.inr (.inl ⟨rfl,.inl ⟨_,s5 _ _ wf⟩⟩)),O,we,.inr x,.str nm,rfl,rfl,s5 _ _ wf,bZ (by omega),λz wj H6 hz Hq Hr k6=>?_⟩;have mono:∀a3 v,bc we a3=some v->bc wj a3=some v:=by
      rcases Hq with rfl | ⟨h1,_,rfl⟩
      . exact λ_ _ h=>h
      intro a3 v hv;rw[AN];split
      . rename_i e;rw[e,h1]at hv;cases hv
      exact hv
     have Hs:wj.length<=3 * i+(j+1):=by
      rcases Hq with rfl | ⟨_,_,rfl⟩
      . omega
      have:=xL we (.inr x) (.str nm);omega
     have RO:∀k v,bc wj k=some v->∃y,v=.str y:=by
      rcases Hq with rfl | ⟨_,_,rfl⟩
      . exact J.txts
      intro k v hv;rw[AN]at hv;split at hv
      . cases hv;exact⟨nm,rfl⟩
      exact J.txts k v hv
     obtain⟨z',rfl⟩:=RO _ _ hz;have RP:ac H H6:=λb o e=>k6 _ _ (s5 _ _ (s4 _ _ e)) (λz=>by rw[z,yW]at e;cases e);have Ht:=k6 _ _ (s5 _ _ uP) fu;have wk:=k6 _ _ (s5 _ _ Ho) lu;have um:ac (msk [la,U,O] H4) (msk [la,U,O] H6):=(fj s5).trans (ajx λb o e Y=>k6 _ _ e (λz=>Y (by rw[z];simp)));have Ce:=aB Cd λ_ _=>jJ.same um;have RQ:uO ns ps wj i:=⟨J.nd,J.ok,λp hp y hy=>mono _ _ (J.used p hp y hy),RO,J.len,J.nms,J.offs,J.mks⟩;have keep:∀(t9 jz:Option V) (H7:Hp),ac H6 H7->∃(Hm Hn:Option V) (pP:Lv) (fs:Tr) (uk:List (ao×V)),[some (V.ref sc),some (.ref n),some (.int 3),some (.ref U),some (.ref O),some (.int (3+(i:Int))),some (.int a1),some (.str nm),some (.ref la),t9,jz,mi,mj,mn,mo]=[some (V.ref sc),some (.ref n),some (.int 3),some (.ref U),some (.ref O),some (.int (3+(i:Int))),some (.int a1),some (.str nm),some (.ref la),Hm,Hn,mi,mj,mn,mo]/\ac H H7/\H7 U=some (.lst vs)/\H7 O=some (.dK uk)/\H7 la=some (.lst pP) /\
      eB G.C (msk [la,U,O] H7) vs ps/\Paired (jJ (msk [la,U,O] H7)) pP fs/\uO ns ps uk i/\RK fs uk nm (j+1)/\uk.length<=3 * i+(j+1):=
      λt9 jz H7 s7=>⟨t9,jz,pP,fs,wj,rfl,RP.trans s7,s7 _ _ Ht,s7 _ _ Hr,s7 _ _ wk,wg.same (um.trans (fj s7)),aB Ce (λ_ _=>jJ.same (fj s7)),RQ,⟨jL.nd,λy hy=>mono _ _ (jL.used y hy),jL.ok,Wf jL.len⟩,Hs⟩
     refine⟨rfl,⟨bv (λCf=>?_) (λCf=>di (keep _ _ H6 (ac.refl _)))⟩⟩;have ez:z'=nm:=by
      have h:=cW Cf;injection h
     subst ez;refine⟨⟨_,aa.of wk⟩,?_⟩;refine xQ (σ0:=[none]) (aa.of wk) (λZ=>∃v,Z=[v]) (λi zs _=>zs=((fs.map (·.1)).take i).map V.str) ⟨_,rfl⟩ (λ_ _=>rfl) ?_ ?_
     . rintro D i' y zs Z H7 k hD hy ⟨v,rfl⟩ hd h7 rfl hk;obtain⟨⟨px,ls⟩,G8,t,l,rfl,t1,t2⟩:=eZ Ce hy;have a0:cE [V.str px,V.ref l] 0=some (V.str px):=rfl;refine⟨ba.of (h7 _ _ (bj _ _ t1)),a0,?_⟩;have cX:=jL.len;refine hk _ _ _ ⟨_,rfl⟩ (ac.refl _) (bZ (by rw[al,eP,al];omega)) ?_;rw[ie,dA,G8,dJ];rfl
     rintro D zs H7 hD hd h7 rfl;have fl:=bK Ce;rw[fl,<-al (f:=(·.1)),fo]at hd;refine⟨.inl (aa.of hd),rfl,yV _,⟨bv (λBa=>?_) (λBa=>keep _ _ H7 h7)⟩⟩;have ax:x∉fs.map (·.1):=λhm=>by
      have h:(!ni (.str x) ((fs.map (·.1)).map V.str))=true:=Ba;rw[aju hm]at h;cases h
     refine⟨.inl ⟨rfl,_,aa.of (h7 _ _ wk)⟩,⟨⟨⟨⟨⟨λm3=>?_⟩⟩⟩⟩⟩⟩;refine⟨λl H8 ls n8 s8 e8 l4 RR=>?_⟩;have bn:md ls:=⟨by omega,λx hx=>(RR x hx).ln⟩;refine⟨Aw,λt H9 n9 s9 e9=>?_⟩;have wm:ac H6 H9:=h7.trans (s8.trans s9);have cX:=jL.len;have bl:=bK Cd;refine⟨wm _ _ wk,bZ (by omega),?_⟩;have busy:∀Hx,ac H6 Hx->gO Hx [la,U,O]:=λHx sx b Y=>by
      simp only[be,fZ,f7]at Y
      rcases Y with rfl | rfl | rfl
      . exact⟨_,sx _ _ wk,by intro vs z;cases z⟩
      . exact⟨_,sx _ _ Ht,by intro vs z;cases z⟩
      exact⟨_,sx _ _ Hr,by intro vs z;cases z⟩
     have BA:H la=none:=s2.free n3;refine⟨_,_,pP++[.ref t],fs++[(x,ls)],wj,rfl,fh (RP.trans wm) BA,ay (wm _ _ Ht) lf.symm,ay (wm _ _ Hr) lu.symm,aD,?_,?_,RQ,⟨?_,?_,?_,?_⟩,Hs⟩
     . rw[yw bQ];exact wg.same (um.trans (fj wm))
     . rw[yw bQ];exact jd ⟨t,l,rfl,cL ((busy H8 (h7.trans s8)).free n9) e9,cL ((busy H7 h7).free n8) (s9 _ _ e8)⟩ (aB Ce λ_ _=>jJ.same (fj wm))
     . rw[dJ,sV];refine⟨jL.nd,by simp,λa ha b Y=>?_⟩;have Y:b=x:=bF.mp Y;rw[Y];exact λe=>ax (e▸ha)
     . intro y hy;rw[dJ]at hy
       rcases b9.mp hy with hy | hy
       . exact mono _ _ (jL.used y hy)
       have hy:y=x:=bF.mp hy;rw[hy];exact hz
     . intro f' Cg
       rcases b9.mp Cg with h' | h'
       . exact jL.ok f' h'
       rw[bF.mp h'];exact⟨RN,RR,l4⟩
     rw[bH,jp];omega
   intro Z H4 gQ;refine bA ?_;intro tT;obtain⟨Hm,Hn,pP,fs,we,rfl,s4,uP,wf,Ho,wg,Cd,J,jL,bg⟩:=gQ;refine x6 ?_;intros;have cX:fs.length<=3:=by have:=jL.len;omega
   refine⟨n,_,rfl,.inl (aa.of (s4 _ _ hn)),⟨⟨λm4=>?_⟩⟩⟩;obtain⟨r,pE,r0,r4,r2⟩:∃r:Int,(if m4 % 6 / 2<((ns.map V.str).length:Int) then m4 % 6 / 2 else((ns.map V.str).length:Int))=r/\0<=r/\r<=ns.length/\r<=2:=by
    refine⟨_,rfl,?_⟩;rw[al];split<;>omega
   refine⟨(by show(0:Int)<6;decide),⟨by omega,by omega⟩,_,_,rfl,by omega,by omega,?_⟩;refine xP (σ0:=[none,some (.ref n)]) (λZ=>∃v,Z=[v,some (.ref n)]) (λi ys _=>∃ts:Ls,ys=ts.map V.str/\ts.length=i/\∀t∈ts,t∈ns) ⟨_,rfl⟩ (λ_ _=>⟨[],rfl,rfl,λ_ h=>nomatch h⟩) ?_ ?_
   . rintro D i' ys Z H5 k hD vW ⟨v,rfl⟩ hd h5 hl hk;obtain⟨ts,rfl,aZ,b0⟩:=hl;obtain⟨y,hy⟩:=ajv (xs:=ns.map V.str) (j:=i') (by rw[al];omega);obtain⟨y',kC,rfl⟩:∃y',y'∈ns/\y=.str y':=by
      obtain⟨jj,_,hj,_⟩:=AL hy;obtain⟨y',m',e'⟩:=cC.mp (dH hj);exact⟨y',m',e'.symm⟩
     refine⟨_,rfl,aa.of (h5 _ _ (s4 _ _ hn)),hy,?_⟩;exact hk _ _ _ ⟨_,rfl⟩ (ac.refl _) (bZ (by rw[al];omega)) ⟨ts++[y'],uc ts y',by rw[bH,aZ];rfl,λt ht=>(b9.mp ht).elim (b0 t) λz=>by rw[bF.mp z];exact kC⟩
   intro oa bp H5 hD hd h5 pJ;refine bA ?_;intro tT;obtain⟨os,rfl,Bq,az⟩:=pJ;refine Fo ?_;intros;refine⟨⟨λm5=>?_⟩⟩;refine⟨(by show(0:Int)<3;decide),⟨by decide,by decide,by decide⟩,(by show(0:Int)<10 ^ (9:Int).toNat;decide),Aw,λq0 H6 n6 s6 e6=>?_⟩;refine⟨⟨λm6=>?_⟩⟩;obtain⟨rk,a',_⟩:=Mn (ns:=[m5 % 3,a1 % 10 ^ (9:Int).toNat]) (r:=m6 % 2) (wY _ (by omega)) (by show m6 % 2<2;omega);refine⟨(by show(0:Int)<2;decide),aa.of e6,a',?_⟩;refine⟨⟨⟨λm7=>?_⟩⟩⟩;refine⟨λm H7 ms n7 s7 e7 Bn=>?_⟩;refine⟨AI,λq1 H8 n8 s8 e8=>?_⟩;refine⟨AI,λq2 H9 n9 s9 e9=>?_⟩;have yX:ac H4 H9:=h5.trans (s6.trans (s7.trans (s8.trans s9)));refine⟨?_⟩;dsimp only[List.set,fg];refine ajz (K:=K) (C:=G.C) (rk:=rk) (nm:=nm) (mk:=ms) (fs:=fs) (s9 _ _ (s8 _ _ e7)) (yX _ _ Ho) (aB Cd λ_ _ z=>(z.same bj).same yX) (s9 _ _ e8) e9 (s9 _ _ (s8 _ _ (s7 _ _ (s6 _ _ hd)))) (by omega) λx RS bo bd RT=>?_;have Hu:=yX.trans bd;have RU:=Hu _ _ uP;have Hv:eB G.C RS vs ps:=(wg.same (fj Hu)).same bj;refine⟨⟨_,aa.of RU⟩,?_⟩;refine EV (σ0:=[none,some (.str nm)]) (aa.of RU) (λZ=>∃v,Z=[v,some (.str nm)]) (λj zs _=>zs.length<=j/\∃gr,Paired (pO RS) zs gr/\∀p∈ps.take j,p.nm=nm->p.ms∈gr) ⟨_,rfl⟩ (λ_ _=>⟨aG _,[],.nil,λ_ h=>nomatch h⟩) ?_ ?_
   . intro D j y zs Z yY k k' hD hy uE Hw uQ uF fG jg;refine bA ?_;intro tT;obtain⟨v,rfl⟩:=uE;obtain⟨zl,gr,pr,pm⟩:=uF
     skip
     obtain⟨p,hp,b,dy,fl,Ci,m',pf,pn,jK,po,ys,rfl,b1,b2,b3,b4,b5,b6⟩:=eZ Hv hy;have aO:=(cN.mp hp).1;have il:=J.len;refine⟨uQ _ _ b1,G.TC.cl,G.TC.nN,b2.name,rfl,⟨?_⟩⟩;refine bv (λh=>?_) (λh=>?_)
     . refine⟨uQ _ _ b1,G.TC.cl,G.TC.nM,b2.make,?_⟩;refine fG _ _ _ ⟨_,rfl⟩ (ac.refl _) (bZ (by omega)) ⟨by rw[bH,jp];omega,gr++[p.ms],jd ⟨m',rfl,b3⟩ pr,λp' b8 e=>?_⟩;rw[ie,hp]at b8
       rcases b9.mp b8 with z | z
       . exact wO _ (pm p' z e)
       have z:p'=p:=bF.mp z;rw[z];exact fe _ (bF.mpr rfl)
     refine jg _ _ ⟨_,rfl⟩ (ac.refl _) ⟨by omega,gr,pr,λp' b8 e=>?_⟩;rw[ie,hp]at b8
     rcases b9.mp b8 with z | z
     . exact pm p' z e
     have z:p'=p:=bF.mp z;rw[z]at e;exact absurd (by rw[e];exact bL rfl) h
   intro D zs yY hD Hw uQ yK;refine bA ?_;intro tT;obtain⟨zl,gr,pr,pm⟩:=yK;refine mh ?_;intros;rw[bK Hv,fo]at pm;have pQ:=Hu.trans uQ;have il:=J.len;have bm:=bK Hv;have keep:∀(a5 a6 a7 a8 a9 Hy Hz HY HZ Ia:Option V),∃(t5 t6 t7 t8 t9 jz mi mj mn mo:Option V) (vs:Lv) (ps:Lp) (uk:List (ao×V)),[some (V.ref sc),some (.ref n),some (.int 3),some (.ref U),some (.ref O),a5,a6,a7,a8,a9,Hy,Hz,HY,HZ,Ia]=[some (V.ref sc),some (.ref n),some (.int 3),some (.ref U),some (.ref O),t5,t6,t7,t8,t9,jz,mi,mj,mn,mo]/\ac H yY/\yY U=some (.lst vs)/\yY O=some (.dK uk)/\eB G.C (msk [U,O] yY) vs ps/\uO ns ps uk (i+1)/\uk.length<=3 * (i+1):=
    λa5 a6 a7 a8 a9 Hy Hz HY HZ Ia=>⟨a5,a6,a7,a8,a9,Hy,Hz,HY,HZ,Ia,vs,ps,we,rfl,s4.trans pQ,pQ _ _ uP,pQ _ _ wf,wg.same ((fj pQ).trans (BD λb Y=>bU _ Y)),⟨J.nd,J.ok,J.used,J.txts,Wf J.len,J.nms,J.offs,J.mks⟩,by omega⟩
   refine⟨D,_,rfl,.inl (aa.of Hw),⟨⟨bv (λ_=>?_) (λ_=>di (keep _ _ _ _ _ _ _ _ _ _))⟩⟩⟩;obtain⟨x',dx,fl,Ci,m',pf,pn,jK,po,ys,ex,b1,b2,b3,b4,b5,b6⟩:=(RT [] λ_ h=>nomatch h).same (bj.trans uQ);cases ex;refine⟨b1,G.TC.cl,G.TC.nM,b2.make,⟨?_⟩⟩;refine⟨D,zs,dI ms,gr.map dI,rfl,aa.of Hw,Hf b3,RG (aB pr λ_ _=>pO.same uQ),Cc 8 _,(λe he=>?_),λbb Y=>⟨bv (λRV=>?_) (λ_=>keep _ _ _ _ _ _ _ _ _ _)⟩⟩
   . obtain⟨nK,_,rfl⟩:=cC.mp he;exact Cc 8 _
   have Hh:ms∉gr:=λhm=>by
    have:bb=true:=Y.mpr (gw hm);rw[this]at RV;cases RV
   refine⟨.inl ⟨rfl,_,aa.of (pQ _ _ uP)⟩,pQ _ _ uP,bZ (by omega),?_⟩;refine⟨_,_,_,_,_,_,_,_,_,_,vs++[.ref x],ps++[⟨nm,ms,fs,os,rk⟩],we,rfl,fh (s4.trans pQ) na,aD,ay (pQ _ _ wf) fu.symm,?_,⟨?_,?_,?_,J.txts,?_,?_,?_,λp hp=>(b9.mp hp).elim (J.mks p) λz=>by rw[bF.mp z];exact Bn⟩,by omega⟩
   . rw[yw bQ];refine jd ((RT [U,O] λb Y=>?_).same (fj uQ)) (wg.same ((fj pQ).trans (BD λb Y=>bU _ Y)));simp only[be,fZ,f7]at Y
     rcases Y with rfl | rfl
     . exact⟨_,yX _ _ uP,by intro vs z;cases z⟩
     exact⟨_,yX _ _ wf,by intro vs z;cases z⟩
   . rw[dJ,sV];refine⟨J.nd,by simp,λa ha b Y=>?_⟩;have Y:b=gG ⟨nm,ms,fs,os,rk⟩:=bF.mp Y;rw[Y];intro e;obtain⟨p',b8,ep⟩:=cC.mp ha;rw[e]at ep;unfold gG at ep;injection ep with qX uR
     injection qX with qX
     injection qX with qX
     injection uR with uR _
     injection uR with uR
     have uR:p'.ms=ms:=(List.map_inj_right λx y z=>Sum.inl.inj z).mp uR;exact Hh (uR▸pm p' b8 qX)
   . intro p' b8
     rcases b9.mp b8 with z | z
     . exact J.ok p' z
     rw[bF.mp z];exact⟨cX,jL.ok,jL.nd⟩
   . intro p' b8
     rcases b9.mp b8 with z | z
     . exact J.used p' z
     rw[bF.mp z];exact jL.used
   . rw[bH,jp];omega
   . intro p' b8
     rcases b9.mp b8 with z | z
     . exact J.nms p' z
     rw[bF.mp z];exact dH a4
   intro p' b8
   rcases b9.mp b8 with z | z
   . exact J.offs p' z
   rw[bF.mp z];exact⟨by show os.length<=2;omega,az⟩
 intro Z H2 yL;refine bA ?_;intro tT;obtain⟨t5,t6,t7,t8,t9,jz,mi,mj,mn,mo,vs,ps,uk,rfl,s2,jI,Hl,bM,a2,ul⟩:=yL;exact⟨q U H2 vs ps na s2 jI (bM.same bj) a2.apart⟩
open HT (At cp hJ yo kin Bw uu)
def kk(p:cu):List At:=[.inl (-p.rk),.inr p.nm]
theorem Cj(a b:cu):cp (kk a) (kk b)=true↔b.rk<a.rk\/(a.rk=b.rk/\a.nm.cps.toList<b.nm.cps.toList):=by
 unfold kk;rw[Bw]
 by_cases h:(Sum.inl (-a.rk):At)=Sum.inl (-b.rk)
 . have h':a.rk=b.rk:=by injection h with h;omega
   rw[aj h,Bw]
   by_cases n:(Sum.inr a.nm:At)=Sum.inr b.nm
   . rw[aj n];injection n with n
     constructor
     . intro z;cases z
     rintro(z | ⟨_,z⟩)
     . omega
     rw[n]at z;exact absurd z (Wg _)
   rw[ag n];show decide (a.nm.cps.toList<b.nm.cps.toList)=true↔_;rw[Wh];constructor
   . exact λz=>.inr ⟨h',z⟩
   rintro(z | ⟨_,z⟩)
   . omega
   exact z
 rw[ag h];have h':a.rk≠b.rk:=λz=>h (by rw[z]);show decide (-a.rk < -b.rk)=true↔_;rw[Wh];constructor
 . intro z;exact .inl (by omega)
 rintro(z | ⟨z,_⟩)
 . omega
 exact absurd z h'
theorem ajN(a b:cu):hJ (kk a) (kk b):=by
 unfold kk;rw[uu];split
 . rw[uu];split
   . exact True.intro
   exact True.intro
 exact True.intro
theorem ajO(a:cu):cp (kk a) (kk a)=false:=by
 cases z:cp (kk a) (kk a) with
 | false=>rfl
 | true=>
  rcases(Cj a a).mp z with h | ⟨_,h⟩
  . omega
  exact absurd h (Wg _)
theorem ajP(a b c:cu)(h1:cp (kk a) (kk b)=true)(h2:cp (kk b) (kk c)=true):cp (kk a) (kk c)=true:=by
 rw[Cj]at *
 rcases h1 with h1 | ⟨e1,h1⟩
 . rcases h2 with h2 | ⟨e2,h2⟩
   . exact .inl (by omega)
   exact .inl (by omega)
 rcases h2 with h2 | ⟨e2,h2⟩
 . exact .inl (by omega)
 exact .inr ⟨e1.trans e2,List.lt_trans h1 h2⟩
theorem ajQ(a b:cu)(h1:cp (kk a) (kk b)=false)(h2:cp (kk b) (kk a)=false):a.nm=b.nm:=by
 have n1:¬(b.rk<a.rk\/(a.rk=b.rk/\a.nm.cps.toList<b.nm.cps.toList)):=λz=>by rw[<-Cj,h1]at z;cases z
 have n2:¬(a.rk<b.rk\/(b.rk=a.rk/\b.nm.cps.toList<a.nm.cps.toList)):=λz=>by rw[<-Cj,h2]at z;cases z
 have e:a.rk=b.rk:=by
  have x1:¬b.rk<a.rk:=λz=>n1 (.inl z);have J:¬a.rk<b.rk:=λz=>n2 (.inl z);omega
 have j:¬a.nm.cps.toList<b.nm.cps.toList:=λz=>n1 (.inr ⟨e,z⟩);have G:¬b.nm.cps.toList<a.nm.cps.toList:=λz=>n2 (.inr ⟨e.symm,z⟩);have eq:a.nm.cps.toList=b.nm.cps.toList:=Wd G j;have ext:∀x y:Str,x.cps.toList=y.cps.toList->x=y:=λ⟨⟨x⟩⟩ ⟨⟨y⟩⟩ h=>by
  have h:x=y:=h;rw[h]
 exact ext _ _ eq
def Ck(off:Lp)(p:cu):Prop:=p∈off/\∀q∈off,cp (kk q) (kk p)=false
theorem Ck.eq{off z:Lp}{p j:cu}(h:Ck off p)(h':Ck z j)(m:∀q,q∈off↔q∈z):p.nm=j.nm:=
 ajQ p j (h'.2 p ((m p).mp h.1)) (h.2 j ((m j).mpr h'.1))
def NB(off:Lp)(j:Option Str)(r:Str):Prop:=(j=some r/\r∈off.map cu.nm)\/((∀x,j=some x->x∉off.map cu.nm)/\∃p,Ck off p/\r=p.nm)
theorem NB.eq{off z:Lp}{Y:Option Str}{r U:Str}(h:NB off Y r)(h':NB z Y U)(m:∀q,q∈off↔q∈z):r=U:=by
 have O:∀x,x∈off.map cu.nm↔x∈z.map cu.nm:=λx=>by
  rw[cC,cC];exact⟨λa0=>a0.elim λp a1=>a1.elim λa b=>⟨p,(m p).mp a,b⟩,λa2=>a2.elim λp a3=>a3.elim λa b=>⟨p,(m p).mpr a,b⟩⟩
 rcases h with⟨a,b⟩ | ⟨a,p,bp,e⟩
 . rcases h' with⟨j,b'⟩ | ⟨j,p',G,J⟩
   . rw[a]at j;exact gU j
   exact absurd ((O _).mp b) (j _ a)
 rcases h' with⟨j,b'⟩ | ⟨j,p',G,J⟩
 . exact absurd ((O _).mpr b') (a _ j)
 rw[e,J];exact bp.eq G m
theorem GA.ok{P:Program}{w:World}{mg:Mv}{base:Heap}{a_:Str}{st:Stmt}{N ps:Ls}{k:Nat}{sp:Sp}(F:GA K x a_ st f c fd)(S:aK N ps (av st))(len:∀vs H Q E,sp vs H Q E->vs.length=ps.length)
 (O:∀(A:Around) (outer:List Env) (s:Shared) (H:Hp) (vs:Lv) (Q:VK) (E:XK),ci k (A.deeper (envOfC a_ (av st) s.heap.objs.size f (.ref c)))->sp vs H Q E ->
  ∃t,bW (kG aL P w K mg base N a_ (av st) f (.ref c) A outer s H E).nox (gD st) t/\t { nx:=λ_ H'=>Q .non H',rt:=Q } (start N vs) H):au P w K mg base aL (k+1) f fd ps sp:=by
 obtain⟨oc,od,kV,U,pm,an,ct,Y,rfl,J,z⟩:=F.ex;refine Ew J z S len λA outer s H vs Q E j G=>?_;obtain⟨t,h,q⟩:=O A outer s H vs Q E j G;exact⟨t,h.nox,q⟩
inductive RW (C:Addr):Sp where
 | mk {H:Hp}{Q:VK}{E:XK}{a:Addr}{xs:Lv}{ps:Lp} (_:H a=some (.lst xs)) (_:eB C H xs ps) (_:ps.length<=6) (_:(∀p∈ps,p.os.length<=2)) (_:∀r H' (cs:Ls),H r=none->ac H H'->H' r=some (.lst (cs.map V.str))->cs.Nodup->(∀c,c∈cs↔∃p∈ps,c∈p.os)->cs.length<=12->Q (.ref r) H'):RW C [.ref a] H Q E
theorem Ib:aK [as1,"commons",as2] [as1] (av PD):=aQ
theorem ajV(J:Pg K mg base Pt):au P w K mg base aL 1 J.Com.f J.Com.fd [as1] (RW J.C):=by
 refine J.Com.u.okL Ib ?_;intro ar A outer s H vs Q E hr h xX dX;obtain @⟨_,_,_,a,xs,ps,Y,U,h6,ym,q⟩:=h;refine⟨_,(ah (aF (i:=1) Ib.nd rfl (Or.inl rfl) (cU d8))
  (ah (eS eR rfl (cH (pv 0)) (bf (i:=2) Ib.nd rfl (Or.inl rfl))
  (ai (bC (dC iW qy qz nj (pv 1) (am (bJ (pv 2) rfl))))))
  (ai (aN (cJ (NK rfl) (by rfl) J.B.sorted xi (am (eT (afq rfl) (by rfl) J.B.set Wi (am (pv 1))))))))),?_⟩
 refine jb ?_;intro dD sS gk dY;refine⟨AI,λc H1 n1 s1 e1=>?_⟩;refine⟨⟨_,aa.of (s1 _ _ Y)⟩,?_⟩;refine iK (xs:=xs) (λi Z H2=>∃u,Z=[some (.ref a),some (.ref c),u]/\ac H H2/\H2 c=some (.lst (((ps.take i).flatMap cu.os).map V.str))/\((ps.take i).flatMap cu.os).length<=2 * i) ⟨none,rfl,s1,e1,aG _⟩ ?_ ?_ ?_
 . intro i Z H2 hi fJ;refine bA ?_;intro tT;obtain⟨u,rfl,G,_⟩:=fJ;exact aa.of (G _ _ Y)
 . intro i x Z H2 hx gP;refine bA ?_;intro tT;obtain⟨u,rfl,G,O,hl⟩:=gP;obtain⟨p,j,b,dy,fl,rk,m,pf,pn,jK,po,ys,rfl,h1,h2,h3,h4,h5,Ic,_⟩:=eZ U hx;have hi:=(cN.mp j).1;have ho:=ym p (dH j);refine⟨.inl ⟨rfl,_,aa.of O⟩,G _ _ h1,J.TC.cl,J.TC.nO,h2.offers,O,G _ _ Ic,kM (by rw[al,al];omega),?_⟩;refine⟨_,rfl,fh G n1,?_,?_⟩
   . rw[aD,ie,j,DN,dJ];simp
   have e2:(List.flatMap cu.os (some p).toList)=p.os:=by simp
   rw[ie,j,DN,bH,e2];omega
 intro Z H2 gQ;refine bA ?_;intro tT;obtain⟨u,rfl,G,O,hl⟩:=gQ;rw[bK U,fo]at O hl;refine⟨c,_,rfl,aa.of O,by omega,λr zs H3 n3 s3 e3 nd mem=>?_⟩;have lz:=j6 nd λz hz=>(mem z).mp hz;refine⟨r,zs,rfl,e3,by omega,λce j hs=>λl H4 n4 s4 e4=>?_⟩;refine q l H4 ce (G.free (s3.free n4)) (G.trans (s3.trans s4)) e4 (j.nodup_iff.mpr nd) (λz=>?_) (by rw[j.length_eq];omega);rw[j.mem_iff,mem z,vx]
end
section
open HT (At cp hJ)
variable {H:Hp}{qu:Str}
theorem y6{z:Str}{xs:Ls}:ni (.str z) (xs.map V.str)=true↔z∈xs:=by
 unfold ni;rw[vt];constructor
 . rintro⟨v,hv,e⟩;obtain⟨y,j,rfl⟩:=cC.mp hv;have:y=z:=by simpa [kI]using e
   rw[<-this];exact j
 intro h;exact⟨.str z,gw h,by simp[kI]⟩
theorem ajW{xs:Ls}:ni .non (xs.map V.str)=false:=by
 unfold ni;rw[List.any_eq_false];intro v j;obtain⟨y,z,rfl⟩:=cC.mp j;simp[kI]
def rL(j:List (ao×V))(c:Str):Option Str:=match bc j (.inr c) with | some (.str y)=>some y | _=>none
def Ie(j:List (ao×V)):Prop:=∀k v,bc j k=some v->∃y,v=.str y/\Ln y
theorem ajX{j:List (ao×V)}(h:Ie j)(c:Str):((bc j (.inr c)).getD .non=.non/\rL j c=none)\/∃y,(bc j (.inr c)).getD .non=.str y/\rL j c=some y/\Ln y:=by
 unfold rL;cases e:bc j (.inr c) with
 | none=>exact .inl ⟨rfl,rfl⟩
 | some v=>
  obtain⟨y,rfl,z⟩:=h _ _ e;exact .inr ⟨y,rfl,rfl,z⟩
def gT(c:Str)(ps:Lp):Lp:=ps.filter λp=>decide (c∈p.os)
theorem RX{ps:Lp}{i:Nat}{p:cu}(h:ps[i]?=some p)(c:Str):gT c (ps.take (i+1))=gT c (ps.take i)++(if c∈p.os then [p] else []):=by
 unfold gT;rw[ajo h]
 by_cases z:c∈p.os
 . simp[z]
 simp[z]
theorem RY:∀{vs:Lv}{ps:Lp},eB C H vs ps->∃as:List Addr,vs=as.map V.ref
 | _,_,.nil=>⟨[],rfl⟩
 | _,_,.cons r t=>by
  obtain⟨a,_,_,_,_,_,_,_,_,_,rfl,_⟩:=r;obtain⟨as,rfl⟩:=RY t;exact⟨a::as,rfl⟩
def pz:cu:=⟨Str.empty,[],[],[],0⟩
theorem aE.at{lp:Pos}(h:aE H Pt lp qu):∃φ,H Pt=some (.ext φ):=by
 rcases h with z | ⟨c',z,_⟩
 . exact⟨_,z⟩
 exact⟨_,z⟩
theorem aE.ne{lp:Pos}(h:aE H Pt lp qu){o:HO}(e:H b=some o)(n:∀φ,o≠.ext φ):b≠Pt:=λz=>by
 obtain⟨φ,w⟩:=aE.at h;rw[z,w]at e;cases e;exact n _ rfl
theorem aE.new{lp:Pos}(h:aE H Pt lp qu)(e:H b=none):b≠Pt:=λz=>by
 obtain⟨φ,w⟩:=aE.at h;rw[z,w]at e;cases e
def dg:Pos:=match gD mx with
 | [_,_,_,.Return (some (.Attribute (.Call _ _ [⟨_,.Lambda _ _ _ p,_⟩] _) _ _)) _]=>p
 | _=>⟨0,0,0,0⟩
def df:Str:="name_behind.<locals>.<lambda>"
inductive RZ (C Pt:Addr):Sp where
 | mk {H:Hp}{Q:VK}{E:XK}{a h:Addr}{c:Str}{xs:Lv}{px:Lp}{j:List (ao×V)} (_:H a=some (.lst xs)) (_:eB C H xs px) (_:px.length<=6) (_:(∃p∈px,c∈p.os)) (_:H h=some (.dK j)) (_:Ie j) (_:(∀p∈px,Ln p.nm)) (_:aE H Pt dg df) (_:∀r H',j7 Pt H H'->aE H' Pt dg df->Ln r->NB (gT c px) (rL j c) r->Q (.str r) H'):RZ C Pt [.str c,.ref a,.ref h] H Q E
theorem Ig:aK [atn,as1,atc,"offering","told"] [atn,as1,atc] (av mx):=aQ
theorem ajY(G:Pg K mg base Pt):au P w K mg base aL 3 G.NBe.f G.NBe.fd [atn,as1,atc] (RZ G.C Pt):=by
 refine G.NBe.FN.ok Ig (λvs H Q E h=>?_) (λA outer s H vs Q E hr h=>?_)
 . cases h;rfl
 refine ya ?_;intros;obtain @⟨_,_,_,a,h,J,xs,px,hk,ha,bM,h6,hex,hh,hok,a5,a1,q⟩:=h;have hu:=hr.units;have dZ:ci 1 (A.deeper (envOfC ati (av mx) s.heap.objs.size G.NBe.f (.ref G.NBe.c))).in1:=hr.in1;refine⟨_,(ah (qT (i:=3) [as2] [atn] [0] Ig.nd rfl rfl dN rfl (cH (pv 1)) (λ_ _ _ _=>(bf (i:=0) (show List.Nodup ([as2,atn]:Ls) by decide +kernel) rfl (Or.inl rfl))) (λ_ _ _ _=>o9 (bq (ML K) (pv 1) (iM K (pv 0) rfl) (by rfl))) (λ_ _ _ _=>(pv 0)))
  (ah (aF (i:=4) Ig.nd rfl (Or.inl rfl) (EJ hu (pv 2) (pv 0) ⟨rfl,rfl,rfl,rfl⟩))
  (Fn (bu (bq LQ (pv 4) (fT [as2] [] [] dN rfl (cH (pv 3)) (λ_ _ _ _=>(bf (i:=0) (show List.Nodup ([as2]:Ls) by decide +kernel) rfl (Or.inl rfl))) (λ_ _ _ _=>ge) (λ_ _ _ _=>(iM K (pv 0) rfl))) (by rfl))
  (ai (aN (pv 4))) bI)
  (ai (aN (bJ (agb (c:=G.NBe.c) (P:=Pt) (x:=as2) (a_:=df) (pv 3) ⟨rfl,rfl,rfl,by decide +kernel,rfl,by decide +kernel,by decide +kernel⟩ dZ rfl rfl G.NBe.hN G.hB rfl G.B.min
   (λ_ _ _ _ _ _ _=>dE (aC (tN tO (iM K (pv 0) rfl)) (iM K (pv 0) rfl))) (λ_ _ _ _=>rfl)) rfl)))))),?_⟩
 refine jb ?_;intro dD sS gk dY;refine⟨⟨_,aa.of ha⟩,?_⟩;intro D hD;refine rK (σ0:=[none,some (.str J)]) hD (aa.of ha) (λZ=>∃v,Z=[v,some (.str J)]) (λj zs H3=>zs.length<=j/\eB G.C H zs (gT J (px.take j))) ⟨_,rfl⟩ ⟨aG _,.nil⟩ ?_ ?_
 . rintro j y zs Z H3 k k' hy ⟨v,rfl⟩ de h3 ⟨zl,Y⟩ fG jg;obtain⟨p,O,hE⟩:=eZ bM hy;obtain⟨b,dy,fl,rk,m,pf,pn,jK,po,ys,rfl,U,b2,b3,b4,b5,b6,b7⟩:=id hE;have aO:=(cN.mp O).1;refine⟨h3 _ _ U,G.TC.cl,G.TC.nO,b2.offers,.inl (aa.of (h3 _ _ b6)),rfl,yV _,⟨?_⟩⟩;refine bv (λh=>?_) (λh=>?_)
   . have jB:J∈p.os:=y6.mp h;refine⟨fG _ _ _ ⟨_,rfl⟩ (ac.refl _) (bZ (by omega)) ⟨by rw[bH,jp];omega,?_⟩⟩;rw[RX O,aj jB];exact jd hE Y
   have jB:J∉p.os:=λz=>h (y6.mpr z);refine jg _ _ ⟨_,rfl⟩ (ac.refl _) ⟨by omega,?_⟩;rw[RX O,ag jB,lH];exact Y
 rintro zs H3 de h3 ⟨zl,Y⟩;rw[bK bM,fo]at Y;have a9:zs.length<=6:=by have:=bK bM;omega
 have a8:0<(gT J px).length:=by
  obtain⟨p,O,hc⟩:=hex;exact arm (qk.mpr ⟨O,bL hc⟩)
 have a2:∀p∈gT J px,Ln p.nm:=λp O=>a5 p (qk.mp O).1;refine⟨.inl ⟨_,.inl (h3 _ _ hh)⟩,_,cO.k (k:=.inr J) (h3 _ _ hh),?_⟩;refine⟨λσ5 H5=>(∃v,σ5=[some (.str J),some (.ref a),some (.ref h),some (.ref D),some v])/\ac H3 H5/\∀x,rL hk J=some x->x∉(gT J px).map cu.nm,?_,?_⟩
 . rcases ajX hok J with⟨e,et⟩ | ⟨y,e,et,hy⟩
   . rw[e];refine⟨⟨_,aa.of de⟩,?_⟩;refine xQ (σ0:=[none]) (aa.of de) (λZ=>∃v,Z=[v]) (λj kj _=>kj=(((gT J px).take j).map cu.nm).map V.str) ⟨_,rfl⟩ (λ_ _=>rfl) ?_ ?_
     . rintro D2 j y' kj Z H4 k jh kC ⟨v,rfl⟩ uS h4 rfl eW;obtain⟨p,O,b,dy,fl,rk,m,pf,pn,jK,po,ys,rfl,U,b2,b3,b4,b5,b6,b7⟩:=eZ Y kC;have aO:=(cN.mp kC).1;refine⟨h4 _ _ (h3 _ _ U),G.TC.cl,G.TC.nN,b2.name,eW _ _ _ ⟨_,rfl⟩ (ac.refl _) (bZ (by rw[al,al,eP];omega)) ?_⟩;rw[ie,O,dJ,dJ];rfl
     rintro D2 kj H4 jh uS h4 rfl;rw[bK Y,fo]at uS;refine⟨.inl (aa.of uS),rfl,yV _,⟨?_⟩⟩;refine bv (λh=>?_) (λ_=>⟨⟨_,rfl⟩,h4,λx z=>by rw[et]at z;cases z⟩);have h:ni .non (((gT J px).map cu.nm).map V.str)=true:=h;rw[ajW]at h;cases h
   rw[e];refine⟨⟨_,aa.of de⟩,?_⟩;refine xQ (σ0:=[none]) (aa.of de) (λZ=>∃v,Z=[v]) (λj kj _=>kj=(((gT J px).take j).map cu.nm).map V.str) ⟨_,rfl⟩ (λ_ _=>rfl) ?_ ?_
   . rintro D2 j y' kj Z H4 k jh kC ⟨v,rfl⟩ uS h4 rfl eW;obtain⟨p,O,b,dy,fl,rk,m,pf,pn,jK,po,ys,rfl,U,b2,b3,b4,b5,b6,b7⟩:=eZ Y kC;have aO:=(cN.mp kC).1;refine⟨h4 _ _ (h3 _ _ U),G.TC.cl,G.TC.nN,b2.name,eW _ _ _ ⟨_,rfl⟩ (ac.refl _) (bZ (by rw[al,al,eP];omega)) ?_⟩;rw[ie,O,dJ,dJ];rfl
   rintro D2 kj H4 jh uS h4 rfl;rw[bK Y,fo]at uS;refine⟨.inl (aa.of uS),rfl,yV _,⟨?_⟩⟩;have uT:=h3.trans h4;refine bv (λh=>?_) (λh=>⟨⟨_,rfl⟩,h4,λx z=>by
    rw[et]at z;cases z;exact λm=>h (y6.mpr m)⟩)
   exact⟨q y H4 (λx o ex _=>uT _ _ ex) (a1.same uT) hy (.inl ⟨et,y6.mp h⟩)⟩
 intro σ5 H5 fJ;refine bA ?_;intro tT;obtain⟨⟨v,rfl⟩,s5,N1⟩:=fJ;obtain⟨as,Ih⟩:=RY Y;have km:ac H H5:=h3.trans s5;have a6:=Y.same km;have ia:aE H5 Pt dg df:=a1.same km;have lm:H5 D=some (.lst (as.map V.ref)):=by rw[<-Ih];exact s5 _ _ de
 have a4:=bK Y;rw[Ih,al]at a4;have a0:∀(i:Nat) (b:Addr),as[i]?=some b->∃p,(gT J px)[i]?=some p/\je G.C H5 (.ref b) p:=λi b hi=>by
  have:zs[i]?=some (V.ref b):=by rw[Ih,dA,hi];rfl
  exact eZ a6 this
 have gd:∀(i:Nat) (p:cu),(gT J px)[i]?=some p->(gT J px).getD i pz=p:=λi p hi=>by
  rw[Kc,hi];rfl
 refine⟨D,as,λi=>kk ((gT J px).getD i pz),rfl,aE.ne ia lm (by intro φ z;cases z),lm,by omega,λi j=>ajN _ _,λi j l=>ajP _ _ _,λi=>ajO _,ia,λi b hi H2 kp=>?_,λi b H' hi a3 kp wo=>?_⟩
 . obtain⟨p,O,hE⟩:=a0 i b hi;obtain⟨b',dy,fl,rk,m,pf,pn,jK,po,ys,eb,U,b2,b3,b4,b5,b6,b7⟩:=hE;cases eb;have Cm:=kp _ _ U (aE.ne ia U (by intro φ z;cases z));have R0:=b2.rank;rw[b7.1]at R0;refine⟨Cm,G.TC.cl,G.TC.nR,R0,_,rfl,Cm,G.TC.cl,G.TC.nN,b2.name,Aw,λkt a7 n3 s3 e3=>⟨kt,rfl,s3,?_⟩⟩;rw[e3];dsimp only;rw[gd i p O];rfl
 obtain⟨p,O,hE⟩:=a0 i b hi;obtain⟨b',dy,fl,rk,m,pf,pn,jK,po,ys,eb,U,b2,b3,b4,b5,b6,b7⟩:=hE;cases eb;have Cm:=kp _ _ U (aE.ne ia U (by intro φ z;cases z));have pm:p∈gT J px:=dH O;refine⟨Cm,G.TC.cl,G.TC.nN,b2.name,q p.nm H' (λx o ex nx=>kp _ _ (km _ _ ex) nx) wo (a2 p pm) (.inr ⟨N1,p,⟨pm,λq' ik=>?_⟩,rfl⟩)⟩;obtain⟨j,hj⟩:=List.getElem?_of_mem ik;have:=a3 j (by have:=(cN.mp hj).1;omega);dsimp only at this;rw[gd j q' hj,gd i p O]at this;exact this
end
section
variable {β:Type}{kvs:List (ao×V)}{H:Hp}{ps:Ls}
theorem gH{Hk:Hp}{o o':HO}(h:Hk a=some o)(n:a≠p):af Hk p o' a=some o:=by rw[aX n];exact h
def cX(d b:Addr)(v:V):List (Str×V):=[(as8,.ref d),("book",.ref b),("left",v)]
theorem aj3(d b:Addr):aw "left" .non (aw "book" (.ref b) (aw as8 (.ref d) []))=cX d b .non:=rfl
theorem Cn(d b:Addr)(v:V):(cX d b v).lookup (as8:Str)=some (.ref d):=rfl
theorem R1(d b:Addr)(v:V):(cX d b v).lookup ("book":Str)=some (.ref b):=rfl
theorem Ii(d b:Addr)(v:V):(cX d b v).lookup ("left":Str)=some v:=rfl
theorem R3(d b:Addr)(v w:V):aw "left" w (cX d b v)=cX d b w:=by unfold cX aw;rfl
def lv:Option Int->V
 | none=>.non
 | some n=>.int n
def ib:Option Int->Option (Option Int)
 | none=>some none
 | some n=>if 1<=n then some (some (n - 1)) else none
theorem Ij{n:Int}(h:n<1):ib (some n)=none:=ag (by omega)
theorem wp{n:Int}(h:¬n<1):ib (some n)=some (some (n - 1)):=aj (by omega)
theorem aj4:aK [asX] [asX] (av O9):=aQ
inductive R5 (D j:Addr):Sp where
 | mk {H:Hp}{Q:VK}{E:XK}{x dx d b:Addr}{lf:Option Int} (_:H x=some (.ins D dx (cX d b (lv lf)))) (_:∀lf',ib lf=some lf'->∀H',H' x=some (.ins D dx (cX d b (lv lf')))->(∀p o,H p=some o->p≠x->H' p=some o)->(∀p,H' p=none->H p=none)->Q .non H') (_:ib lf=none->E (.ref j) none H):R5 D j [.ref x] H Q E
theorem Ik(j:Pg K mg base Pt):au P w K mg base (dU P w) 1 j.DTk.f j.DTk.fd [asX] (R5 j.D j.Fa):=by
 refine j.DTk.u.okR aj4 (λvs H Q E h=>?_) (λY A outer s H vs Q E hr h=>?_)
 . cases h;rfl
 obtain @⟨_,_,_,x,dx,d,b,lf,G,J,U⟩:=h;refine⟨_,(ah (bu (bq Ye (bJ (pv 0) rfl) jq (bh _))
  (ai KA) bI)
  (ah (bu (bq tP (bJ (pv 0) rfl) ak (bh _))
  (ai (M9 j.R.xc j.R.mF bB)) bI)
  (ai (gZ (pv 0) (aJ AB (bJ (pv 0) rfl) ak) rfl)))),?_⟩
 refine⟨G,j.UD.cl,j.UD.nL,Ii _ _ _,rfl,⟨?_⟩⟩;cases lf with
 | none=>
  refine gc ?_;exact J none rfl H G (λ_ _ e _=>e) λ_ e=>e
 | some n=>
  refine di ?_;refine⟨G,j.UD.cl,j.UD.nL,Ii _ _ _,⟨⟨?_⟩⟩⟩;refine bv (λh=>?_) (λh=>?_)
  . exact⟨aG 1,U (Ij (cW h))⟩
  have h':¬n<1:=λz=>h (bL z);refine⟨G,j.UD.cl,j.UD.nL,Ii _ _ _,G,j.UD.cl,j.UD.nL,by show 3<1000;decide,?_⟩;rw[R3];exact J (some (n - 1)) (wp h') _ aD (λp o e O=>ay e O) λp e=>(jY e).2
inductive Il (C:Addr):Sp where
 | mk {H:Hp}{Q:VK}{E:XK}{x dx:Addr} (_:H x=some (.ins C dx [])) (_:∀d b H',H d=none->H b=none->H' x=some (.ins C dx (cX d b .non))->H' d=some (.dK [])->H' b=some (.lst [])->(∀p o,H p=some o->p≠x->H' p=some o)->Q .non H'):Il C [.ref x] H Q E
theorem aj5:aK [asX] [asX] (av O2):=aQ
theorem aj6(j:Pg K mg base Pt):au P w K mg base aL 1 j.DIn.f j.DIn.fd [asX] (Il j.D):=by
 refine j.DIn.u.okL aj5 ?_;intro ar A outer s H vs Q E hr h xX dX;obtain @⟨_,_,_,x,dx,hx,q⟩:=h;refine⟨_,(ah (gZ (pv 0) mf rfl)
  (ah (gZ (pv 0) (cU d8) rfl)
  (ai (gZ (pv 0) jq rfl)))),?_⟩
 refine λd H1 n1 O e1=>?_;have J:d≠x:=(aI hx n1).symm;refine⟨O _ _ hx,j.UD.cl,j.UD.nF,by show 0<1000;decide,?_⟩;refine⟨AI,λb H2 n2 U e2=>?_⟩;have Y:=jY n2;have h2:=U _ _ (aD (H:=H1) (a:=x) (o:=.ins j.D dx (aw as8 (.ref d) [])));have d2:=U _ _ (gH (p:=x) (o':=.ins j.D dx (aw as8 (.ref d) [])) e1 J);have bx:b≠x:=Y.1;have bd:d≠b:=aU d2 e2 (by intro z;cases z);refine⟨h2,j.UD.cl,j.UD.nB,by show 1<1000;decide,?_⟩;refine⟨aD,j.UD.cl,j.UD.nL,by show 2<1000;decide,?_⟩;rw[aj3];refine q d b _ n1 (O.free Y.2) aD (gH (gH d2 J) J) (gH (gH e2 bx) bx) λp o e G=>gH (gH (U _ _ (gH (O _ _ e) G)) G) G
theorem aj7:aK [asX,asZ,atd] [asX,asZ,atd] (av O5):=aQ
inductive R7 (D z:Addr):Sp where
 | mk {H:Hp}{Q:VK}{E:XK}{x dx d b l:Addr}{lf:Option Int}{p:Str}{j:List (ao×V)}{ys:Lv} (_:H x=some (.ins D dx (cX d b (lv lf)))) (_:H d=some (.dK j)) (_:H l=some (.lst ys)) (_:j.length<=500) (_:∀lf',ib lf=some lf'->∀q H',H q=none->H' x=some (.ins D dx (cX d b (lv lf')))->H' d=some (.dK (cK j (.inr p) (.ref q)))->H' q=some (.lst ys)->(∀p o,H p=some o->p≠x->p≠d->H' p=some o)->Q .non H') (_:ib lf=none->E (.ref z) none H):R7 D z [.ref x,.str p,.ref l] H Q E
theorem aj8(j:Pg K mg base Pt):au P w K mg base (dU P w) 2 j.DPt.f j.DPt.fd [asX,asZ,atd] (R7 j.D j.Fa):=by
 refine j.DPt.u.okR aj7 (λvs H Q E h=>?_) (λar A outer s H vs Q E Y h=>?_)
 . cases h;rfl
 obtain @⟨_,_,_,x,dx,d,b,l,lf,p,kd,ys,G,hd,U,pR,q1,q2⟩:=h;have hu:=Y.units;refine⟨_,(ah (bC (cj (pv 0) j.UD.cl j.DTk.mt (up (Ik j)) Y j.DTk.b .nil eK))
  (ai (i8 hu (bJ (pv 0) rfl) (pv 1) (eT ma (by rfl) j.B.list jS (am (pv 2))) rfl))),?_⟩
 have ku:d≠x:=aU hd G (by intro z;cases z);have lx:l≠x:=aU U G (by intro z;cases z);refine⟨G,rfl,G,λlf' e H1 h1 k1 f1=>?_,q2⟩;refine⟨l,_,rfl,.inl (aa.of (k1 _ _ U lx)),λq H2 n2 J e2=>?_⟩;have j0:=J _ _ h1;have O:=J _ _ (k1 _ _ hd ku);refine⟨j0,j.UD.cl,j.UD.nF,Cn _ _ _,gb.k (k:=.inr p) O (bZ (by omega)),?_⟩;exact q1 lf' e q _ (f1 _ n2) (ay j0 ku.symm) aD (ay e2 (aU e2 O (by intro z;cases z))) λp o e hp Im=>ay (J _ _ (k1 _ _ e hp)) Im
theorem aj9:aK [asX,asZ] [asX,asZ] (av O6):=aQ
inductive R8 (D z:Addr):Sp where
 | mk {H:Hp}{Q:VK}{E:XK}{x dx d b:Addr}{lf:Option Int}{p:Str}{j:List (ao×V)} (_:H x=some (.ins D dx (cX d b (lv lf)))) (_:H d=some (.dK j)) (_:∀lf',ib lf=some lf'->∀H',H' x=some (.ins D dx (cX d b (lv lf')))->H' d=some (.dK (if (bc j (.inr p)).isSome=true then nn j (.inr p) else j))->(∀p o,H p=some o->p≠x->p≠d->H' p=some o)->Q .non H') (_:ib lf=none->E (.ref z) none H):R8 D z [.ref x,.str p] H Q E
theorem aka(j:Pg K mg base Pt):au P w K mg base (dU P w) 2 j.DEr.f j.DEr.fd [asX,asZ] (R8 j.D j.Fa):=by
 refine j.DEr.u.okR aj9 (λvs H Q E h=>?_) (λar A outer s H vs Q E Y h=>?_)
 . cases h;rfl
 obtain @⟨_,_,_,x,dx,d,b,lf,p,kd,U,hd,q1,q2⟩:=h;have hu:=Y.units;refine⟨_,(ah (bC (cj (pv 0) j.UD.cl j.DTk.mt (up (Ik j)) Y j.DTk.b .nil eK))
  (ai (bu (oO (vJ hu (pv 1) (bJ (pv 0) rfl)) (by rfl))
  (ai (bC (EK (bJ (pv 0) rfl) (pv 1) ⟨rfl,rfl,rfl,rfl⟩))) bI))),?_⟩
 have ku:d≠x:=aU hd U (by intro z;cases z);refine⟨U,rfl,U,λlf' e H1 h1 k1 f1=>?_,q2⟩;have G:=k1 _ _ hd ku;refine⟨h1,j.UD.cl,j.UD.nF,Cn _ _ _,_,cO.k (k:=.inr p) G,⟨?_⟩⟩;cases O:bc kd (.inr p) with
 | none=>
  refine di ?_;exact q1 lf' e H1 h1 (by rw[O];exact G) λp o e J _=>k1 _ _ e J
 | some v=>
  refine gc ?_;refine⟨h1,j.UD.cl,j.UD.nF,Cn _ _ _,.inl ⟨_,.inl G⟩,kd,.inr p,v,G,rfl,O,?_⟩;exact q1 lf' e _ (ay h1 ku.symm) (by rw[O];exact aD) λp o e J Im=>ay (k1 _ _ e J) Im
inductive Io (D G:Addr):Sp where
 | mk {H:Hp}{Q:VK}{E:XK}{x dx d b:Addr}{lf:Option Int}{y z:Str}{j:Lv} (_:H x=some (.ins D dx (cX d b (lv lf)))) (_:H b=some (.lst j)) (_:j.length<=500) (_:∀lf',ib lf=some lf'->∀t H',H' x=some (.ins D dx (cX d b (lv lf')))->H' b=some (.lst (j++[.ref t]))->H' t=some (.tup [.str y,.str z])->(∀p o,H p=some o->p≠x->p≠b->H' p=some o)->Q .non H') (_:ib lf=none->E (.ref G) none H):Io D G [.ref x,.str y,.str z] H Q E
theorem akb:aK [asX,atM,atb] [asX,atM,atb] (av O7):=aQ
theorem Iq(j:Pg K mg base Pt):au P w K mg base (dU P w) 2 j.DNt.f j.DNt.fd [asX,atM,atb] (Io j.D j.Fa):=by
 refine j.DNt.u.okR akb (λvs H Q E h=>?_) (λar A outer s H vs Q E hr h=>?_)
 . cases h;rfl
 obtain @⟨_,_,_,x,dx,d,b,lf,y,z,ts,G,U,pR,q1,q2⟩:=h;refine⟨_,(ah (bC (cj (pv 0) j.UD.cl j.DTk.mt (up (Ik j)) hr j.DTk.b .nil eK))
  (ai (bC (dC iW xj xk qM (bJ (pv 0) rfl) (am (dE (aC (pv 1) (pv 2)))))))),?_⟩
 have O:b≠x:=aU U G (by intro z;cases z);refine⟨G,rfl,G,λlf' e H1 h1 k1 f1=>?_,q2⟩;have wq:=k1 _ _ U O;refine⟨h1,j.UD.cl,j.UD.nB,R1 _ _ _,.inl ⟨rfl,_,aa.of wq⟩,Aw,λt H2 n2 J e2=>?_⟩;have Y:=J _ _ wq;refine⟨Y,bZ (by omega),?_⟩;exact q1 lf' e t _ (gH (J _ _ h1) O.symm) aD (gH e2 (aU e2 Y (by intro z;cases z))) λp o e a0 ym=>gH (J _ _ (k1 _ _ e a0)) ym
def iT(fs:List (Str×β))(p:Str):List (Str×β):=fs.filter λf=>decide (f.1≠p)
theorem Cp{G:ao×V->Str×β->Prop}(J:∀kv f,G kv f->kv.1=Sum.inr f.1){p:Str}{fs:List (Str×β)}(h:Paired G kvs fs):Paired G (nn kvs (.inr p)) (iT fs p):=by
 unfold nn iT
 induction h with
 | nil=>exact .nil
 | @cons kv f kvs fs r t j=>
  have e:=J _ _ r;rw[qp,qp]
  by_cases h:f.1=p
  . have h2:kv.1=Sum.inr p:=by rw[e,h]
    simp only[h,h2,ne_eq,not_true_eq_false,decide_false,qj,mO];exact j
  have h2:¬kv.1=Sum.inr p:=by rw[e];exact λz=>h (mL z)
  simp only[h,h2,ne_eq,not_false_eq_true,decide_true,vm];exact .cons r j
theorem Cq{fs:List (Str×β)}{p:Str}(h:p∉fs.map (·.1)):iT fs p=fs:=by
 unfold iT;rw[List.filter_eq_self];intro f j;exact bL λe=>h (by rw[<-e];exact gw (f:=(·.1)) j)
theorem akd{fs:List (Str×β)}{p:Str}(h:(fs.map (·.1)).Nodup):((iT fs p).map (·.1)).Nodup:=h.sublist ((Kk (l:=fs)).map _)
theorem ake(fs:List (Str×β))(p:Str):(iT fs p).length<=fs.length:=sw _ _
theorem Ir{G:ao×V->Str×β->Prop}(z:∀kv f,G kv f->kv.1=Sum.inr f.1){fs:List (Str×β)}(h:Paired G kvs fs)(p:Str):(p∈fs.map (·.1)/\(bc kvs (.inr p)).isSome=true)\/(p∉fs.map (·.1)/\bc kvs (.inr p)=none):=by
 by_cases j:p∈fs.map (·.1)
 . obtain⟨v,ls,e,_⟩:=pG z h j;exact .inl ⟨j,by rw[e];rfl⟩
 exact .inr ⟨j,yA z h j⟩
theorem R9{f:Str×Ls}(h:∀y∈f.2,Ln y):W.kqdOk 9 (dS f.2)=true:=by
 simp only[dS,W.kqdOk,gW,cC];rintro d ⟨y,j,rfl⟩;exact(h y j).ok
theorem akf{fs:Tr}(h:Paired (cw H) kvs fs)(nd:(fs.map (·.1)).Nodup):(kvs.map (·.1)).Nodup:=by
 have e:kvs.map (·.1)=(fs.map (·.1)).map Sum.inr:=uz (λkv f (z:cw H kv f)=>z.1) h;rw[e];exact List.Pairwise.map Sum.inr (λa b h e=>h (mL e)) nd
inductive Sa (C:Addr):Sp where
 | mk {H:Hp}{Q:VK}{E:XK}{x dx d b:Addr}{v:V}{j:List (ao×V)}{fs:Tr} (_:H x=some (.ins C dx (cX d b v))) (_:H d=some (.dK j)) (_:Paired (cw H) j fs) (_:(fs.map (·.1)).Nodup) (_:fs.length<=500) (_:∀r H' z,H r=none->ac H H'->H' r=some (.dK z)->Paired (db H H') z fs->Q (.ref r) H'):Sa C [.ref x] H Q E
theorem Cr:aK [asX,as8,asZ,atd] [asX] (av O3):=aQ
theorem Ct(O:Pg K mg base Pt):au P w K mg base aL 1 O.FNo.f O.FNo.fd [asX] (Sa O.D):=by
 refine O.FNo.u.okL Cr ?_;intro ar A outer s H vs Q E hr h xX dX;obtain @⟨_,_,_,x,dx,o,b,v,kvs,ow,hx,ho,pr,nd,pR,q⟩:=h;have hu:=hr.units;refine⟨_,(ah (aF (i:=1) Cr.nd rfl (Or.inl rfl) mf)
  (ah (Fm eR rfl (bJ (pv 0) rfl) (oP rfl (gz (bf (i:=2) Cr.nd rfl (Or.inl rfl)) (gz (bf (i:=3) Cr.nd rfl (Or.inl rfl)) mX)))
  (ai (i8 hu (pv 1) (pv 2) (eT ma (by rfl) O.B.list jS (am (pv 3))) rfl)))
  (ai (aN (pv 1))))),?_⟩
 have hk:∀(H':Hp) kv f,db H H' kv f->kv.1=Sum.inr f.1:=λ_ kv f z=>z.1;refine λd H1 n1 s1 e1=>?_;have od:d≠o:=(aI ho n1).symm;refine⟨s1 _ _ hx,O.UD.cl,O.UD.nF,Cn _ _ _,o,kvs,rfl,s1 _ _ ho,λob=>?_⟩;refine GH (λi Z G=>∃u v U,Z=[some (.ref x),some (.ref d),u,v]/\(∀b z,H b=some z->b≠o->G b=some z)/\(∀b,G b=none->H b=none)/\G o=some (.frz ob (.dK kvs))/\G d=some (.dK U)/\Paired (db H G) U (ow.take i))
  ⟨none,none,[],rfl,λb x e J=>gH (s1 _ _ e) J,λb e=>s1.free (jY e).2,aD,gH e1 od,.nil⟩ ?_ ?_ ?_
 . rintro i Z G ⟨u,v,U,rfl,_,_,h,_⟩;exact h
 . rintro i k v p Z G hi ⟨u,v',U,rfl,k5,f5,h5,fK,gm⟩ hp;obtain⟨⟨y,ls⟩,hf,a1,l,a2,a4⟩:=eZ pr hi;have a1:k=.inr y:=a1;have a2:v=.ref l:=a2;have a4:H l=some (.lst (ls.map V.str)):=a4;subst a1 a2;have aO:=(cN.mp hf).1;have sp:ac G (af G p (.tup [kV (.inr y),.ref l])):=fR hp;have L5:=sp _ _ (k5 _ _ a4 (aU a4 ho (by intro z;cases z)));refine⟨ba.of aD,rfl,rfl,?_⟩;refine⟨l,_,rfl,.inl (aa.of L5),λq1 H6 n6 s6 e6=>?_⟩;have Y:=sp.trans s6;have pl:=bK gm;rw[eP]at pl;refine⟨gb.k (k:=.inr y) (Y _ _ fK) (bZ (by omega)),?_⟩;have GI:y∉(ow.take i).map (·.1):=by
    rw[VN];intro hm;obtain⟨j,hj,ej⟩:=J3.mp hm;rw[eP,al]at hj;rw[List.getElem_take]at ej;have e1:(ow.map (·.1))[j]?=some y:=by rw[gX (by rw[al];omega),ej]
    have e2:(ow.map (·.1))[i]?=some y:=by rw[dA,hf];rfl
    have:=(We (l:=ow.map (·.1)) (i:=j) (j:=i) (by rw[al];omega) nd).mp (by rw[e1,e2]);omega
   refine⟨_,_,_,rfl,λb z e J=>?_,λb e=>f5 b (Y.free (jY e).2),gH (Y _ _ h5) od.symm,aD,?_⟩
   . rw[aX (λy=>by rw[y,n1]at e;cases e)];exact Y _ _ (k5 _ _ e J)
   rw[ie,hf];have:=jD (F:=db H H6) (hk H6) (x:=y) (ls:=ls) (v:=.ref q1) ⟨rfl,q1,rfl,f5 _ (sp.free n6),e6⟩ (aB gm λ_ _=>db.same Y);rw[yH GI]at this;exact aB this λ_ _=>db.put (Y _ _ fK)
 rintro Z G ⟨u,v,U,rfl,k5,f5,h5,fK,gm⟩;rw[bK pr,fo]at gm;refine⟨q d _ U n1 (λb z e=>?_) (gH fK od) (aB gm λkv f z=>?_)⟩
 . by_cases J:b=o
   . subst J;rw[ho]at e;cases e;exact aD
   exact gH (k5 b z e J) J
 obtain⟨a,l,b,c,e⟩:=z;exact⟨a,l,b,c,gH e (λy=>by rw[y,ho]at c;cases c)⟩
inductive Sb (C:Addr):Sp where
 | mk {H:Hp}{Q:VK}{E:XK}{x dx d b:Addr}{v:V}{j:Lv} (_:H x=some (.ins C dx (cX d b v))) (_:H b=some (.lst j)) (_:eg H (.lst j) Q):Sb C [.ref x] H Q E
theorem akg:aK [asX] [asX] (av O4):=aQ
theorem Cu(j:Pg K mg base Pt):au P w K mg base aL 1 j.BNo.f j.BNo.fd [asX] (Sb j.D):=by
 refine j.BNo.u.okL akg ?_;intro J A outer s H vs Q E U h xX O;obtain @⟨_,_,_,x,dx,d,b,v,Y,G,z,q⟩:=h;refine⟨_,(ai (aN (eT ma (by rfl) j.B.list jS (am (bJ (pv 0) rfl))))),?_⟩;exact⟨G,j.UD.cl,j.UD.nB,R1 _ _ _,b,_,rfl,.inl (aa.of z),q⟩
def look(tr:List (Str×β))(k:Str):Option β:=(tr.find? λf=>decide (f.1=k)).map (·.2)
theorem jM(f:Str×β)(tr:List (Str×β))(k:Str):look (f::tr) k=if f.1=k then some f.2 else look tr k:=by
 unfold look;rw[sk]
 by_cases h:f.1=k
 . rw[aj h,bL h];rfl
 rw[ag h,cq h]
theorem iB{tr:List (Str×β)}{k:Str}:look tr k=none↔k∉tr.map (·.1):=by
 induction tr with
 | nil=>exact⟨(λ_ h=>nomatch h),λ_=>rfl⟩
 | cons f tr j=>
  rw[jM,bS,be,qw,<-j]
  by_cases h:f.1=k
  . rw[aj h];exact⟨(λz=>nomatch z),λz=>absurd h.symm z.1⟩
  rw[ag h];exact⟨λz=>⟨λe=>h e.symm,z⟩,λz=>z.2⟩
theorem pT{tr:List (Str×β)}{k:Str}{ls:β}(h:look tr k=some ls):(k,ls)∈tr:=by
 induction tr with
 | nil=>cases h
 | cons f tr j=>
  rw[jM]at h
  by_cases e:f.1=k
  . rw[aj e]at h;cases h;rw[<-e];exact bQ
  rw[ag e]at h;exact bU _ (j h)
theorem wt{tr:List (Str×β)}{k:Str}{ls:β}(nd:(tr.map (·.1)).Nodup)(h:(k,ls)∈tr):look tr k=some ls:=by
 cases e:look tr k with
 | none=>exact absurd (gw (f:=(·.1)) h) (iB.mp e)
 | some j=>rw[nV nd (pT e) h]
theorem akh(tr:List (Str×β))(g:Str×β)(k:Str):look (tr++[g]) k=(look tr k).or (if g.1=k then some g.2 else none):=by
 induction tr with
 | nil=>rw[xn,jM];rfl
 | cons f tr j=>
  rw[su,jM,jM,j];split<;>rfl
theorem y7(tr:List (Str×β))(p:Str)(ls:β)(k:Str):look (bR tr p ls) k=if p=k then some ls else look tr k:=by
 unfold bR;split
 . rename_i h;have hp:=rj.mp h;clear h
   induction tr with
   | nil=>cases hp
   | cons f tr J=>
    rw[bS,jM,jM]
    by_cases G:f.1=p
    . rw[aj G,G]
      by_cases j:p=k
      . rw[aj j,aj j]
      rw[ag j,ag j,ag j];clear J hp G
      induction tr with
      | nil=>rfl
      | cons g tr J=>
       rw[bS,jM,jM,J]
       by_cases O:g.1=p
       . rw[aj O,O,ag j,ag j]
       rw[ag O]
    rw[ag G];rw[bS,be]at hp
    rcases hp with hp | hp
    . exact absurd hp.symm G
    rw[J hp]
    by_cases j:f.1=k
    . rw[aj j,aj j,ag (λe=>G (j.trans e.symm))]
    rw[ag j,ag j]
 rename_i h;have hp:p∉tr.map (·.1):=λz=>h (rj.mpr z);rw[akh];show(look tr k).or (if p=k then some ls else none)=_
 by_cases j:p=k
 . rw[aj j,aj j,<-j,iB.mpr hp];rfl
 rw[ag j,ag j];cases look tr k<;>rfl
theorem aki(tr:List (Str×β))(p k:Str):look (iT tr p) k=if p=k then none else look tr k:=by
 unfold iT
 induction tr with
 | nil=>
  show none=_;split<;>rfl
 | cons f tr z=>
  rw[qp]
  by_cases h:f.1=p
  . rw[ag (by simp[h]),z,jM]
    by_cases j:p=k
    . rw[aj j,aj j]
    rw[ag j,ag j,ag (λe=>j (h.symm.trans e))]
  rw[aj (by simp[h]),jM,jM,z]
  by_cases j:p=k
  . rw[aj j,aj j,ag (λe=>h (e.trans j.symm))]
  rw[ag j,ag j]
def bN(tr:List (Str×β))(fs:List (Str×β))(p:Str):List (Str×β):=match look tr p with
 | some ls=>bR fs p ls
 | none=>iT fs p
theorem akj(tr fs:List (Str×β))(p k:Str):look (bN tr fs p) k=if p=k then look tr k else look fs k:=by
 unfold bN;split
 . rename_i ls e;rw[y7]
   by_cases h:p=k
   . rw[aj h,aj h,<-h,e]
   rw[ag h,ag h]
 rename_i e;rw[aki]
 by_cases h:p=k
 . rw[aj h,aj h,<-h,e]
 rw[ag h,ag h]
theorem Iu(tr:List (Str×β)):∀(ps:Ls) (fs:List (Str×β)) (k:Str),look (ps.foldl (bN tr) fs) k=if k∈ps then look tr k else look fs k
 | [],fs,k=>by rw[ag (by simp)];rfl
 | p::ps,fs,k=>by
  rw[lK,Iu tr ps,akj]
  by_cases h:k∈ps
  . rw[aj h,aj (bU _ h)]
  rw[ag h]
  by_cases e:p=k
  . rw[aj e,aj (by rw[e];exact bQ)]
  rw[ag e,ag (by rw[be,qw];exact⟨λz=>e z.symm,h⟩)]
theorem Sc{tr fs:List (Str×β)}{p:Str}(h:(fs.map (·.1)).Nodup):((bN tr fs p).map (·.1)).Nodup:=by
 unfold bN;split
 . exact kZ h
 exact akd h
theorem akk(tr fs:List (Str×β))(p:Str):(bN tr fs p).length<=fs.length+1:=by
 unfold bN;split
 . exact jC _ _ _
 have:=ake fs p;omega
theorem Iw{tr:List (Str×β)}:∀{ps:Ls}{fs:List (Str×β)},(fs.map (·.1)).Nodup->((ps.foldl (bN tr) fs).map (·.1)).Nodup
 | [],_,h=>h
 | _::ps,_,h=>Iw (ps:=ps) (Sc h)
theorem Cv{tr:List (Str×β)}:∀(ps:Ls) (fs:List (Str×β)),(ps.foldl (bN tr) fs).length<=fs.length+ps.length
 | [],_=>aG _
 | p::ps,fs=>by
  have:=Cv (tr:=tr) ps (bN tr fs p);have:=akk tr fs p;rw[lK,cr];omega
def d5(fs:Tr):Prop:=∀f∈fs,∀y∈f.2,Ln y
theorem akl{tr fs:Tr}{p:Str}(G:d5 tr)(h:d5 fs):d5 (bN tr fs p):=by
 unfold bN;split
 . rename_i ls e;intro f j
   rcases mv j with z | z
   . rw[z];exact G _ (pT e)
   exact h f z
 exact λf j=>h f (qk.mp j).1
theorem Ix{tr:Tr}(j:d5 tr):∀{ps:Ls}{fs:Tr},d5 fs->d5 (ps.foldl (bN tr) fs)
 | [],_,h=>h
 | _::ps,_,h=>Ix j (ps:=ps) (akl j h)
abbrev Iy (l:Ls):Prop:=l.Pairwise (λa b=>a.cps.toList<=b.cps.toList)
theorem akm{a b:Ls}(p:a.Perm b)(h1:Iy a)(h2:Iy b):a=b:=by
 refine ars (λx y _ _ h h'=>?_) h1 h2 p;have e:=Wd h h';obtain⟨⟨x⟩⟩:=x;obtain⟨⟨y⟩⟩:=y;have e:x=y:=e;rw[e]
structure ji(fs tr:List (Str×β))(ps:Ls):Prop where
 srt:Iy ps
 nd:ps.Nodup
 mem:∀k,k∈ps↔look fs k≠look tr k
theorem akn{α:Type}[DecidableEq α]{a b:List α}(j:a.Nodup)(G:b.Nodup)(h:∀z,z∈a↔z∈b):a.Perm b:=(List.perm_ext_iff_of_nodup j G).mpr h
theorem ji.eq{fs tr:List (Str×β)}{j:Ls}(x:ji fs tr ps)(y:ji fs tr j):ps=j:=akm (akn x.nd y.nd λz=>by rw[x.mem,y.mem]) x.srt y.srt
theorem ji.drop{fs tr:List (Str×β)}(x:ji fs tr ps)(m:Nat):ji ((ps.take m).foldl (bN tr) fs) tr (ps.drop m) where
 srt:=x.srt.sublist (List.drop_sublist m ps)
 nd:=x.nd.sublist (List.drop_sublist m ps)
 mem:=λk=>by
  rw[Iu];have hd:ps=ps.take m++ps.drop m:=(ary m ps).symm;have nd:=x.nd;rw[hd,sV]at nd
  by_cases h:k∈ps.take m
  . rw[aj h];exact⟨λz=>absurd rfl (nd.2.2 k h k z),λz=>absurd rfl z⟩
  rw[ag h,<-x.mem k];exact⟨λz=>JS z,λz=>by
   rw[hd]at z
   rcases b9.mp z with z | z
   . exact absurd z h
   exact z⟩
theorem ji.len{fs tr:List (Str×β)}(x:ji fs tr ps):ps.length<=fs.length+tr.length:=by
 have:=j6 (ys:=fs.map (·.1)++tr.map (·.1)) x.nd λz hz=>by
  refine b9.mpr ?_
  by_cases h1:z∈fs.map (·.1)
  . exact .inl h1
  by_cases h2:z∈tr.map (·.1)
  . exact .inr h2
  exact absurd ((iB.mpr h1).trans (iB.mpr h2).symm) ((x.mem z).mp hz)
 rw[bH,al,al]at this;exact this
theorem ji.all{fs tr:List (Str×β)}(x:ji fs tr ps)(k:Str):look (ps.foldl (bN tr) fs) k=look tr k:=by
 rw[Iu]
 by_cases h:k∈ps
 . rw[aj h]
 rw[ag h]
 by_cases e:look fs k=look tr k
 . exact e
 exact absurd ((x.mem k).mpr e) h
theorem Sd{fs tr:List (Str×β)}(nd:(fs.map (·.1)).Nodup)(h:∀k,look fs k=look tr k):∀f∈fs,f∈tr:=λf j=>by
 obtain⟨k,ls⟩:=f;exact pT ((h k).symm.trans (wt nd j))
theorem ako{fs tr:List (Str×β)}(nd:(fs.map (·.1)).Nodup)(G:(tr.map (·.1)).Nodup)(h:∀k,look fs k=look tr k):fs.length=tr.length:=by
 have a:=j6 (xs:=fs.map (·.1)) (ys:=tr.map (·.1)) nd λz hz=>by
  obtain⟨f,j,rfl⟩:=cC.mp hz;exact gw (f:=(·.1)) (Sd nd h f j)
 have b:=j6 (xs:=tr.map (·.1)) (ys:=fs.map (·.1)) G λz hz=>by
  obtain⟨f,j,rfl⟩:=cC.mp hz;exact gw (f:=(·.1)) (Sd G (λk=>(h k).symm) f j)
 rw[al,al]at a b;omega
theorem Se{fs:Tr}(h:Paired (cw H) kvs fs)(nd:(fs.map (·.1)).Nodup)(p:Str):(look fs p=none/\bc kvs (.inr p)=none)\/(∃ls l,look fs p=some ls/\bc kvs (.inr p)=some (.ref l)/\H l=some (.lst (ls.map V.str))/\(p,ls)∈fs):=by
 have G:∀kv f,cw H kv f->kv.1=Sum.inr f.1:=λkv f z=>z.1
 by_cases j:p∈fs.map (·.1)
 . obtain⟨v,ls,e,J,r⟩:=pG G h j;obtain⟨_,l,e2,e3⟩:=r;have e2:v=.ref l:=e2;exact .inr ⟨ls,l,wt nd J,by rw[e,e2],e3,J⟩
 exact .inl ⟨iB.mpr j,yA G h j⟩
def Cy:Option (Ls)->W.Dat
 | none=>.none
 | some ls=>dS ls
theorem Sf:∀{a b:Ls},a.map W.Dat.str=b.map W.Dat.str->a=b
 | [],[],_=>rfl
 | [],_::_,h=>nomatch h
 | _::_,[],h=>nomatch h
 | x::a,y::b,h=>by
  rw[bS,bS]at h;injection h with h1 h2
  injection h1 with h1
  rw[h1,Sf h2]
theorem akp{a b:Option (Ls)}(h:Cy a=Cy b):a=b:=by
 cases a with
 | none=>
  cases b with
  | none=>rfl
  | some y=>cases h
 | some x=>
  cases b with
  | none=>cases h
  | some y=>
   have h:W.Dat.list (x.map W.Dat.str)=W.Dat.list (y.map W.Dat.str):=h;injection h with h
   rw[Sf h]
theorem akq{K:Fg}{fs:Tr}(h:Paired (cw H) kvs fs)(nd:(fs.map (·.1)).Nodup)(ok:d5 fs)(p:Str):DV K H ((bc kvs (.inr p)).getD .non) (Cy (look fs p))/\W.kqdOk 9 (Cy (look fs p))=true:=by
 rcases Se h nd p with⟨e1,e2⟩ | ⟨ls,l,e1,e2,e3,j⟩
 . rw[e1,e2];exact⟨.non,rfl⟩
 rw[e1,e2];exact⟨kN (aa.of e3),R9 (ok _ j)⟩
def oj(fs tr:List (Str×β)):Prop:=∃U:Ls,U.length<=63/\∀k,(k∈fs.map (·.1)\/k∈tr.map (·.1))->k∈U
theorem uU{fs tr:List (Str×β)}(h:fs.length+tr.length<=63):oj fs tr:=⟨fs.map (·.1)++tr.map (·.1),by rw[bH,al,al];exact h,λk z=>b9.mpr z⟩
theorem oj.fst{fs tr:List (Str×β)}(h:oj fs tr)(nd:(fs.map (·.1)).Nodup):fs.length<=63:=by
 obtain⟨U,j,m⟩:=h;have:=j6 nd λz hz=>m z (.inl hz);rw[al]at this;omega
theorem oj.snd{fs tr:List (Str×β)}(h:oj fs tr)(nd:(tr.map (·.1)).Nodup):tr.length<=63:=by
 obtain⟨U,j,m⟩:=h;have:=j6 nd λz hz=>m z (.inr hz);rw[al]at this;omega
inductive Cz (Fv:Hp->ao×V->Str×β->Prop) (OK:List (Str×β)->Prop):Sp where
 | mk {H:Hp}{Q:VK}{E:XK}{a b:Addr}{j z:List (ao×V)}{fs tr:List (Str×β)} (_:H a=some (.dK j)) (_:H b=some (.dK z)) (_:Paired (Fv H) j fs) (_:Paired (Fv H) z tr) (_:(fs.map (·.1)).Nodup) (_:(tr.map (·.1)).Nodup) (_:OK fs) (_:OK tr) (_:oj fs tr) (_:∀l H' ps,H l=none->ac H H'->H' l=some (.lst (ps.map V.str))->ji fs tr ps->Q (.ref l) H'):Cz Fv OK [.ref a,.ref b] H Q E
theorem akr:aK [atv,atu] [atv,atu] (av Pl):=aQ
theorem Sg[DecidableEq β]{Fv:Hp->ao×V->Str×β->Prop}{OK:List (Str×β)->Prop}{dat:Option β->W.Dat}(Y:∀H kv f,Fv H kv f->kv.1=Sum.inr f.1)(hs:∀{H G:Hp}{kv:ao×V}{f:Str×β},ac H G->Fv H kv f->Fv G kv f)(hi:∀{a b:Option β},dat a=dat b->a=b)(hd:∀{H:Hp}{kvs:List (ao×V)}{fs:List (Str×β)},Paired (Fv H) kvs fs->(fs.map (·.1)).Nodup->OK fs->∀p,DV K H ((bc kvs (.inr p)).getD .non) (dat (look fs p))/\W.kqdOk 9 (dat (look fs p))=true)(J:Pg K mg base Pt):au P w K mg base aL 1 J.KUn.f J.KUn.fd [atv,atu] (Cz Fv OK):=by
 refine J.KUn.u.okL akr ?_;intro ar A outer s H vs Q E hr h xX dX;obtain @⟨_,_,_,a,b,ka,kb,fs,tr,ha,hb,pa,pb,wu,rq,Iz,IA,mD,q⟩:=h;have a2:=mD.fst wu;have a4:=mD.snd rq;have hu:=hr.units;refine⟨_,(ai (aN (fT ["key"] [atv,atu] [0,1] dN rfl (cH (cJ (NK rfl) (by rfl) J.B.sorted xi (am (aJ aft (eT NZ (by rfl) J.B.set Wi (am (pv 0))) (eT NZ (by rfl) J.B.set Wi (am (pv 1)))))))
  (λ_ _ _ _=>(bf (i:=0) (show List.Nodup (["key",atv,atu]:Ls) by decide +kernel) rfl (Or.inl rfl))) (λ_ _ _ _=>o9 (bq (aei K hu) (EJ hu (pv 1) (pv 0) ⟨rfl,rfl,rfl,rfl⟩) (EJ hu (pv 2) (pv 0) ⟨rfl,rfl,rfl,rfl⟩) (bh _))) (λ_ _ _ _=>(pv 0))))),?_⟩
 refine⟨a,ka,fs.map (·.1),rfl,ha,uz (Y H) pa,by rw[al];omega,λr1 Sh H1 n1 s1 e1 IB m1=>?_⟩;refine⟨b,kb,tr.map (·.1),rfl,s1 _ _ hb,uz (Y H) pb,by rw[al];omega,λr2 Si H2 n2 s2 e2 IC m2=>?_⟩;have l1:Sh.length<=fs.length:=by have:=j6 IB λz hz=>(m1 z).mp hz;rwa [al]at this
 have l2:Si.length<=tr.length:=by have:=j6 IC λz hz=>(m2 z).mp hz;rwa [al]at this
 refine⟨r1,r2,Sh,Si,rfl,rfl,aI e1 n2,s2 _ _ e1,e2,by omega,λr3 zs H3 n3 s3 e3 Sj m3=>?_⟩;have l3:zs.length<=63:=by
  obtain⟨U,hU,mU⟩:=mD;have:=j6 Sj λz hz=>mU z ((b9.mp ((m3 z).mp hz)).imp (m1 z).mp (m2 z).mp);omega
 refine⟨r3,zs,rfl,e3,by omega,λys pm srt p H4 n4 s4 e4=>?_⟩;have rD:ac H H4:=(s1.trans s2).trans (s3.trans s4);have a3:ys.length<=63:=by rw[pm.length_eq];exact l3
 refine⟨⟨_,aa.of e4⟩,?_⟩;refine EV (K:=K) (xs:=ys.map V.str) (σ0:=[none,some (.ref a),some (.ref b)]) (aa.of e4) (λZ=>∃v,Z=[v,some (.ref a),some (.ref b)]) (λi ws _=>ws=((ys.take i).filter λk=>decide (look fs k≠look tr k)).map V.str) ⟨_,rfl⟩ (λ_ _=>rfl) ?_ ?_
 . rintro D i x ws Z H5 k k' hD O ⟨v,rfl⟩ fK s5 rfl Y eW;rw[dA]at O;cases hy:ys[i]? with
   | none=>rw[hy]at O;cases O
   | some y=>
    rw[hy]at O;cases O;have j:=rD.trans s5;obtain⟨d1,o1⟩:=hd (aB pa λ_ _=>hs j) wu Iz y;obtain⟨d2,o2⟩:=hd (aB pb λ_ _=>hs j) rq IA y;refine⟨.inl ⟨_,.inl (j _ _ ha)⟩,_,cO.k (k:=.inr y) (j _ _ ha),?_⟩;refine⟨.inl ⟨_,.inl (j _ _ hb)⟩,_,cO.k (k:=.inr y) (j _ _ hb),?_⟩;refine⟨_,_,d1,d2,o1,o2,λbb jy=>⟨?_⟩⟩;have e0:(ys.take (i+1)).filter (λk=>decide (look fs k≠look tr k))=(ys.take i).filter (λk=>decide (look fs k≠look tr k))++[y].filter (λk=>decide (look fs k≠look tr k)):=by
     rw[ie,hy,Kj];rfl
    refine bv (λh=>?_) (λh=>?_)
    . have c8:look fs y≠look tr y:=λe=>by
       have:bb=true:=jy.mpr (by rw[e]);rw[this]at h;cases h
      refine⟨Y _ _ _ ⟨_,rfl⟩ (ac.refl _) (bZ ?_) ?_⟩
      . rw[al];have:=sw (λk=>decide (look fs k≠look tr k)) (ys.take i);rw[eP]at this;omega
      rw[e0,qp,aj (bL c8),dJ];rfl
    have a0:look fs y=look tr y:=by
     cases bb with
     | true=>exact hi (jy.mp rfl)
     | false=>exact absurd rfl h
    refine eW _ _ ⟨_,rfl⟩ (ac.refl _) ?_;rw[e0,qp,ag (by rw[cq (λz=>z a0)];exact cV),List.filter_nil,lH]
 rintro D ws H5 hD fK s5 rfl;rw[al,fo]at fK;have sr:=Gd srt;have a1:ys.Nodup:=pm.nodup_iff.mpr Sj;refine q D H5 _ (rD.free hD) (rD.trans s5) fK ⟨sr.sublist Kk,a1.sublist Kk,λz=>?_⟩;rw[qk,Ai];refine⟨λh=>h.2,λh=>⟨?_,h⟩⟩;rw[pm.mem_iff,m3,b9,m1,m2]
 by_cases z1:z∈fs.map (·.1)
 . exact .inl z1
 by_cases z2:z∈tr.map (·.1)
 . exact .inr z2
 exact absurd ((iB.mpr z1).trans (iB.mpr z2).symm) h
abbrev akv:Sp:=Cz cw d5
theorem Sk(j:Pg K mg base Pt):au P w K mg base aL 1 j.KUn.f j.KUn.fd [atv,atu] akv:=Sg (Fv:=cw) (OK:=d5) (λ_ _ _ z=>z.1) (λs z=>cw.same s z) akp (λh nd ok p=>akq h nd ok p) j
theorem Sl:aK [as3,atm,asZ] [as3,atm] (av Gy):=aQ
def pU(lf:Option Int)(n:Nat):Option Int:=lf.map λm=>m - n
structure CA(D x dx d b:Addr)(lf:Option Int)(fs:Tr)(H H':Hp):Prop where
 ob:H' x=some (.ins D dx (cX d b (lv lf)))
 hd:∃kd,H' d=some (.dK kd)/\Paired (cw H') kd fs
 kp:∀p o,H p=some o->p≠x->p≠d->H' p=some o
inductive ID (D z:Addr):Sp where
 | mk {H:Hp}{Q:VK}{E:XK}{x dx d b t:Addr}{lf:Option Int}{G J:List (ao×V)}{fs tr:Tr} (_:H x=some (.ins D dx (cX d b (lv lf)))) (_:H d=some (.dK G)) (_:H t=some (.dK J)) (_:d≠t) (_:Paired (cw H) G fs) (_:Paired (cw H) J tr) (_:(fs.map (·.1)).Nodup) (_:(tr.map (·.1)).Nodup) (_:d5 fs) (_:d5 tr) (_:oj fs tr) (_:∀m,lf=some m->0<=m)
  (_:∀ps H',ji fs tr ps->(∀m,lf=some m->(ps.length:Int)<=m)->CA D x dx d b (pU lf ps.length) (ps.foldl (bN tr) fs) H H'->Q .non H') (_:∀ps (j:Nat) H',ji fs tr ps->lf=some (j:Int)->j<ps.length->CA D x dx d b (some 0) ((ps.take j).foldl (bN tr) fs) H H'->E (.ref z) none H'):ID D z [.ref x,.ref t] H Q E
theorem IE(j:Pg K mg base Pt):au P w K mg base (dU P w) 3 j.Tur.f j.Tur.fd [as3,atm] (ID j.D j.Fa):=by
 refine j.Tur.u.okR Sl (λvs H Q E h=>?_) (λar A outer s H vs Q E hr h=>?_)
 . cases h;rfl
 obtain @⟨_,_,_,x,dx,d,b,t,lf,kd,kt,fs,tr,Y,hd,ht,ap,pd,pt,wu,rq,Iz,IA,mD,pos,q1,q2⟩:=h;have aR:=mD.fst wu;have b0:=mD.snd rq;have hu:=hr.units;have dZ:ci 1 (A.deeper (PyProof.Rows.envOfC "turn_to" (av Gy) s.heap.objs.size j.Tur.f ar)):=hr.mono (by decide);refine⟨_,(ai (eS PassesOwn.leaving rfl (cH (aA (Sk j) dZ rfl (aC (cj (pv 0) j.UD.cl j.FNo.mt (up (Ct j)) dZ j.FNo.b .nil bT) (pv 1)))) (bf (i:=2) Sl.nd rfl (Or.inl rfl))
  (ai (bu (oO (vJ hu (pv 2) (pv 1)) (by rfl))
   (ai (bC (gA (pv 0) j.UD.cl j.DPt.mt (up (aj8 j)) hr j.DPt.b .nil eK (aC (pv 2) (qO hu (pv 1) (pv 2) (λ_ _=>rfl)))))) (ai (bC (gA (pv 0) j.UD.cl j.DEr.mt (up (aka j)) hr j.DEr.b .nil eK (am (pv 2))))))))),?_⟩
 have ku:d≠x:=aU hd Y (by intro z;cases z);have tx:t≠x:=aU ht Y (by intro z;cases z);refine⟨Y,rfl,Y,hd,pd,wu,by omega,λr H1 kr n1 s1 e1 pr=>?_⟩;refine⟨e1,s1 _ _ ht,aB pr λ_ _ a8=>a8.elim λz1 a9=>a9.elim λl ab=>ab.elim λz2 a0=>a0.elim λ_ J=>⟨z1,l,z2,J⟩,aB pt λ_ _=>cw.same s1,wu,rq,Iz,IA,mD,λl H2 ps n2 s2 e2 U=>?_⟩;have bV:=s1.trans s2;have nl:H l=none:=s1.free n2;have lx:l≠x:=(aI Y nl).symm;have ld:l≠d:=(aI hd nl).symm;have Hs:=U.len;refine⟨⟨_,aa.of e2⟩,?_⟩;refine iK (xs:=ps.map V.str) (λi Z G=>∃v,Z=[some (.ref x),some (.ref t),v]/\G l=some (.lst (ps.map V.str))/\(∀m,lf=some m->(i:Int)<=m)/\CA j.D x dx d b (pU lf i) ((ps.take i).foldl (bN tr) fs) H G)
  ⟨none,rfl,e2,pos,by
   have:pU lf 0=lf:=by cases lf with | none=>rfl | some m=>simp[pU]
   rw[this];exact bV _ _ Y,⟨kd,bV _ _ hd,aB pd λ_ _=>cw.same bV⟩,λp o e _ _=>bV _ _ e⟩ ?_ ?_ ?_
 . rintro i Z G hi ⟨v,rfl,hl,_⟩;exact aa.of hl
 . rintro i v0 Z G hv ⟨v,rfl,hl,CB,W⟩;rw[dA]at hv;cases hy:ps[i]? with
   | none=>rw[hy]at hv;cases hv
   | some p=>
    rw[hy]at hv;cases hv;obtain⟨aZ,fK,y8⟩:=W.hd;have a1:=(cN.mp hy).1;have pV:=W.kp _ _ ht tx (gu ap);have ax:Paired (cw G) kt tr:=aB pt λ_ _ a2=>a2.elim λz1 a3=>a3.elim λl' a4=>a4.elim λz2 J=>⟨z1,l',z2,W.kp _ _ J (aU J Y (by intro z;cases z)) (aU J hd (by intro z;cases z))⟩;have jx:(ps.take (i+1)).foldl (bN tr) fs=bN tr ((ps.take i).foldl (bN tr) fs) p:=by
     rw[ie,hy,qx];rfl
    have a':=Cv (tr:=tr) (ps.take i) fs;have aO:(ps.take i).length<=ps.length:=by rw[eP];omega
    have az:=bK y8;have Sm:∀kv f,cw G kv f->kv.1=Sum.inr f.1:=λkv f z=>z.1;have dn:∀lf',ib (pU lf i)=some lf'->lf'=pU lf (i+1)/\∀m,lf=some m->((i+1:Nat):Int)<=m:=λlf' e=>by
     cases lf with
     | none=>cases e;exact⟨rfl,λm z=>nomatch z⟩
     | some m=>
      have e:ib (some (m - i))=some lf':=e
      by_cases z:m - (i:Int)<1
      . rw[Ij z]at e;cases e
      rw[wp z]at e;cases e;refine⟨?_,λm' z'=>by cases z';omega⟩;show some (m - (i:Int) - 1)=some (m - ((i+1:Nat):Int))
      congr 1
      omega
    have wv:ib (pU lf i)=none->E (.ref j.Fa) none G:=λe=>by
     have e2:lf=some (i:Int):=by
      cases lf with
      | none=>cases e
      | some m=>
       have e:ib (some (m - i))=none:=e
       by_cases z:m - (i:Int)<1
       . have:=CB m rfl
         congr 1
         omega
       rw[wp z]at e;cases e
     refine q2 ps i G U e2 a1 ⟨?_,W.hd,W.kp⟩;have:=W.ob;rw[e2,show pU (some (i:Int)) i=some 0 by simp[pU]]at this;exact this
    have kk:∀{H6:Hp},(∀p o,G p=some o->p≠x->p≠d->H6 p=some o)->∀kv f,cw G kv f->cw H6 kv f:=λO kv f a5=>a5.elim λz1 a6=>a6.elim λl3 a7=>a7.elim λz2 J=>⟨z1,l3,z2,O _ _ J (aU J W.ob (by intro z;cases z)) (aU J fK (by intro z;cases z))⟩;refine⟨_,cO.k (k:=.inr p) pV,⟨?_⟩⟩
    rcases Se ax rq p with⟨g1,g2⟩ | ⟨ls,l',g1,g2,g3,_⟩
    . rw[g2];refine di ?_;refine⟨W.ob,rfl,W.ob,fK,λlf' e H6 h1 h2 O=>?_,wv⟩;obtain⟨rfl,IF⟩:=dn lf' e;refine⟨_,rfl,O _ _ hl lx ld,IF,h1,⟨_,h2,?_⟩,λq o z y9 uy=>O _ _ (W.kp _ _ z y9 uy) y9 uy⟩;have f9:bN tr ((ps.take i).foldl (bN tr) fs) p=iT ((ps.take i).foldl (bN tr) fs) p:=by unfold bN;rw[g1]
      rw[jx,f9]
      rcases Ir Sm y8 p with⟨hp,hs⟩ | ⟨hp,hs⟩
      . rw[aj hs];exact aB (Cp Sm y8) (kk O)
      rw[hs,Cq hp];exact aB y8 (kk O)
    rw[g2];refine gc ?_;refine⟨W.ob,rfl,(by rw[<-g2];exact cO.k (k:=.inr p) pV),?_⟩;refine⟨W.ob,fK,g3,by omega,λlf' e qn H6 nq h1 h2 O h4=>?_,wv⟩;obtain⟨rfl,IF⟩:=dn lf' e;refine⟨_,rfl,h4 _ _ hl lx ld,IF,h1,⟨_,h2,?_⟩,λq o z y9 uy=>h4 _ _ (W.kp _ _ z y9 uy) y9 uy⟩;have f9:bN tr ((ps.take i).foldl (bN tr) fs) p=bR ((ps.take i).foldl (bN tr) fs) p ls:=by unfold bN;rw[g1]
    rw[jx,f9];exact jD (F:=cw H6) (λkv f z=>z.1) ⟨rfl,qn,rfl,O⟩ (aB y8 (kk h4))
 rintro Z G ⟨v,rfl,hl,CB,W⟩;rw[al]at CB W;rw[fo]at W;exact q1 ps G U CB W
end
section
variable {l:Ls}{n:Nat}{β:Type}
open Lcp
inductive Sn (K:Fg):Sp where
 | mk {H:Hp}{Q:VK}{E:XK}{a b:Addr}{xs ys:Ls} (_:aa K H a (xs.map V.str)) (_:aa K H b (ys.map V.str)) (_:Q (.int (gf xs ys)) H):Sn K [.ref a,.ref b] H Q E
theorem IG:aK [atd,atP,"many"] [atd,atP] (av Pb):=aQ
theorem So(j:Pg K mg base Pt):au P w K mg base aL 1 j.Ali.f j.Ali.fd [atd,atP] (Sn K):=by
 refine j.Ali.u.okL IG ?_;intro ar A outer s H vs Q E hr h xX dX;obtain @⟨_,_,_,a,b,xs,ys,U,Y,q⟩:=h;refine⟨_,(ah (aF (i:=2) IG.nd rfl (Or.inl rfl) ak)
  (ah (KI eR (PW.pt (tD (bq tP (pv 2) (cJ gL (by rfl) j.B.len gy (am (pv 0))) (bh _)) (tD (bq tP (pv 2) (cJ gL (by rfl) j.B.len gy (am (pv 1))) (bh _)) (xx (bq cT (bP fQ (pv 0) (pv 2) (λ_ _=>rfl)) (bP fQ (pv 1) (pv 2) (λ_ _=>rfl)) (bh _)))))) (ai (aF (i:=2) IG.nd rfl (Or.inl rfl) (aJ fO (pv 2) ak))))
  (ai (aN (pv 2))))),?_⟩
 refine jb ?_;intro dD sS gk dY;refine⟨λm Z H'=>∃i:Nat,m=xs.length - i/\i<=xs.length/\Z=[some (.ref a),some (.ref b),some (.int i)]/\H'=H/\gf xs ys=i+gf (xs.drop i) (ys.drop i),⟨_,0,rfl,dz _,rfl,rfl,(DB _).symm⟩,?_⟩;intro m Z H' fJ;refine bA ?_;intro tT;obtain⟨i,rfl,hi,rfl,rfl,G⟩:=fJ
 first | (refine vR (g:=lR _) ?_;intro eQ sQ) | (refine vR (g:=tG _ _ _) ?_;intro eQ sQ) | skip
 have J:gf (xs.drop i) (ys.drop i)=0->qF 2 [some (V.ref a),some (V.ref b),some (V.int i)] H' Q:=λz=>by
  rw[z,JY]at G;rw[G]at q;exact⟨q⟩
 refine⟨a,_,rfl,.inl U,⟨⟨?_⟩⟩⟩;refine bv (λh=>?_) (λh=>?_)
 . have h1:=cW h;rw[al]at h1;refine⟨b,_,rfl,.inl Y,⟨⟨?_⟩⟩⟩;refine bv (λh=>?_) (λh=>?_)
   . have h2:=cW h;rw[al]at h2;obtain⟨x,hx,ex⟩:=xR (xs:=xs) (r:=(i:Int)) (by omega) h1;obtain⟨y,hy,O⟩:=xR (xs:=ys) (r:=(i:Int)) (by omega) h2;rw[lI]at ex O;have es:=acb ex O;refine⟨U,hx,Y,hy,rfl,⟨?_⟩⟩;refine bv (λh=>?_) (λh=>?_)
     . have e:x=y:=by have:=cW h;injection this
       rw[aj e]at es;refine⟨λσ' H2=>σ'=[some (.ref a),some (.ref b),some (.int ((i:Int)+1))]/\H2=H',?_,?_⟩
       . rintro σ' H2 ⟨rfl,rfl⟩;exact⟨_,(show xs.length - (i+1)<xs.length - i by omega),i+1,rfl,by omega,by rw[Int.natCast_add];rfl,rfl,by rw[G,es];omega⟩
       exact⟨rfl,rfl⟩
     have e:x≠y:=λe=>h (by rw[e];exact bL rfl);rw[ag e]at es;exact J es
   have h2:=Kl (oK.mpr h);rw[al]at h2;exact J (MA (.inr (by omega)))
 have h1:=Kl (oK.mpr h);rw[al]at h1;exact J (MA (.inl (by omega)))
structure CC(H:Hp)(t l:Addr)(xs ys:Ls):Prop where
 tup:H t=some (.tup [.int (Lcp.fst xs ys),.int (jx xs ys),.ref l])
 lst:H l=some (.lst ((ub xs ys).map V.str))
inductive Sq (K:Fg):Sp where
 | mk {H:Hp}{Q:VK}{E:XK}{a b:Addr}{xs ys:Ls} (_:aa K H a (xs.map V.str)) (_:aa K H b (ys.map V.str)) (_:∀t l H',H t=none->H l=none->ac H H'->CC H' t l xs ys->Q (.ref t) H'):Sq K [.ref a,.ref b] H Q E
theorem IH:aK [atD,atf,"start","behind"] [atD,atf] (av Pa):=aQ
theorem Sr(j:Pg K mg base Pt):au P w K mg base aL 2 j.Blk.f j.Blk.fd [atD,atf] (Sq K):=by
 refine j.Blk.u.okL IH ?_;intro ar A outer s H vs Q E O h xX dX;obtain @⟨_,_,_,a,b,xs,ys,J,G,q⟩:=h;refine⟨_,(ah (aF (i:=2) IH.nd rfl (Or.inl rfl) (aA (So j) O rfl (aC (pv 0) (pv 1))))
  (ah (aF (i:=3) IH.nd rfl (Or.inl rfl) (aA (So j) O rfl (aC (Mz (m9 vM (pv 0) (kH (pv 2)) qL)) (Mz (m9 vM (pv 1) (kH (pv 2)) qL)))))
  (ai (aN (dE (dP (pv 2) (aJ AB (cJ gL (by rfl) j.B.len gy (am (pv 0))) (pv 3)) (m9 vM (pv 1) (kH (pv 2)) (kH (aJ AB (cJ gL (by rfl) j.B.len gy (am (pv 1))) (pv 3)))))))))),?_⟩
 refine jb ?_;intro dD sS gk dY;obtain⟨l1,l2⟩:=MB xs ys;refine⟨J,G,?_⟩;refine⟨J,λp1 H1 n1 U e1=>?_⟩;rw[vN,EX (by omega),lI]at e1;refine⟨p1,_,rfl,aa.of e1,λp2 H2 n2 Y e2=>?_⟩;rw[MF]at e2;refine⟨ac.seq (U.trans Y) G,λp3 H3 n3 s3 e3=>?_⟩;rw[vN,EX (by omega),lI]at e3;refine⟨p3,_,rfl,aa.of e3,λp4 H4 n4 s4 e4=>?_⟩;rw[MF]at e4;have z:=((U.trans Y).trans s3).trans s4;refine⟨aa.of (s4 _ _ (s3 _ _ e2)),aa.of e4,?_⟩;refine⟨a,_,rfl,.inl (ac.seq z J),b,_,rfl,.inl (ac.seq z G),ac.seq z G,λp5 H5 n5 s5 e5=>?_⟩;refine⟨Ax,λp6 H6 n6 s6 e6=>?_⟩;have sB:=z.trans s5;refine q p6 p5 H6 (sB.free n6) (z.free n5) (sB.trans s6) ⟨?_,?_⟩
 . rw[e6];have e:((xs.map V.str).length:Int) - (gf (xs.drop (gf xs ys)).reverse (ys.drop (gf xs ys)).reverse:Int)=(jx xs ys:Int):=by
    rw[al];unfold jx;unfold ph Lcp.fst at *;omega
   try dsimp only
   rw[e];rfl
 rw[s6 _ _ e5];have e:((ys.map V.str).length:Int) - (gf (xs.drop (gf xs ys)).reverse (ys.drop (gf xs ys)).reverse:Int)=((ys.length - ph xs ys:Nat):Int):=by
  rw[al];unfold ph Lcp.fst at *;omega
 rw[e,vN,ME (by omega) (by omega),lI,lI];rfl
inductive Ss:Sp where
 | mk {H:Hp}{Q:VK}{E:XK}{t1 t2:Addr}{G z j J:Int}{O U:V} (_:H t1=some (.tup [.int G,.int z,O])) (_:H t2=some (.tup [.int j,.int J,U])) (_:Q (.bl (decide (z<=j))) H):Ss [.ref t1,.ref t2] H Q E
theorem akJ:aK [atw,atf] [atw,atf] (av Pc):=aQ
theorem II(j:Pg K mg base Pt):au P w K mg base aL 1 j.IsA.f j.IsA.fd [atw,atf] Ss:=by
 refine j.IsA.u.okL akJ ?_;intro J A outer s H vs Q E hr h xX Y;obtain @⟨_,_,_,t1,t2,z,O,G,U,v1,v2,h1,h2,q⟩:=h;refine⟨_,(ai (aN (qJ AD (bP fq (pv 0) ak (λ_ _=>rfl)) (bP fq (pv 1) ak (λ_ _=>rfl)) (bh _)))),?_⟩;exact⟨ba.of h1,rfl,ba.of h2,rfl,⟨q⟩⟩
inductive Su:Sp where
 | mk {H:Hp}{Q:VK}{E:XK}{t1:Addr}{j z:Int}{G:V} (_:H t1=some (.tup [.int j,.int z,G])) (_:Q (.bl (decide (j=z))) H):Su [.ref t1] H Q E
theorem akK:aK [atw] [atw] (av Pd):=aQ
theorem Sv(j:Pg K mg base Pt):au P w K mg base aL 1 j.Tak.f j.Tak.fd [atw] Su:=by
 refine j.Tak.u.okL akK ?_;intro J A outer s H vs Q E U h xX O;obtain @⟨_,_,_,t1,z,G,Y,h1,q⟩:=h;refine⟨_,(ai (aN (qJ cT (bP fq (pv 0) ak (λ_ _=>rfl)) (bP fq (pv 0) ak (λ_ _=>rfl)) (bh _)))),?_⟩;rw[<-show decide (V.int z=V.int G)=decide (z=G) from xb.mpr ⟨λh=>by injection h,λh=>by rw[h]⟩]at q;exact⟨ba.of h1,rfl,ba.of h1,rfl,rfl,q⟩
inductive Sw:Sp where
 | mk {H:Hp}{Q:VK}{E:XK}{t1 t2:Addr}{j G z J:Int}{O U:V} (_:H t1=some (.tup [.int j,.int G,O])) (_:H t2=some (.tup [.int z,.int J,U])) (_:Q (.bl (A0 j G z J)) H):Sw [.ref t1,.ref t2] H Q E
theorem akL:aK [atw,atf] [atw,atf] (av Pe):=aQ
theorem akM(j:Pg K mg base Pt):au P w K mg base aL 2 j.Apa.f j.Apa.fd [atw,atf] Sw:=by
 refine j.Apa.u.okL akL ?_;intro ar A outer s H vs Q E G h xX dX;obtain @⟨_,_,_,t1,t2,J,b1,O,b2,v1,v2,h1,h2,q⟩:=h;refine⟨_,(AW (λZ H'=>Z=[some (.ref t1),some (.ref t2)]/\H'=H/\¬((J=b1/\O=b2)/\J=O)) (bu (PW.pt (tD (ij (aA (Sv j) G rfl (am (pv 0)))) (tD (ij (aA (Sv j) G rfl (am (pv 1)))) (xx (bq cT (bP fq (pv 0) ak (λ_ _=>rfl)) (bP fq (pv 1) ak (λ_ _=>rfl)) (bh _))))))
  (ai (aN iJ)) bI)
  (ai (aN (Kz (aA (II j) G rfl (aC (pv 0) (pv 1))) (vD (aA (II j) G rfl (aC (pv 1) (pv 0)))))))),?_⟩
 refine⟨?_,?_⟩
 . refine⟨h1,?_⟩;refine⟨bv (λU=>?_) (λU=>?_)⟩
   . refine⟨h2,?_⟩;refine⟨bv (λY=>?_) (λY=>?_)⟩
     . refine⟨ba.of h1,rfl,ba.of h2,rfl,rfl,⟨?_⟩⟩;refine bv (λz3=>?_) (λz3=>?_)
       . have e3:J=O:=by have:=cW z3;injection this
         unfold A0 at q;rw[aj ⟨⟨cW U,cW Y⟩,e3⟩]at q;exact q
       exact⟨rfl,rfl,λe=>z3 (bL (fc V.int e.2))⟩
     exact di ⟨rfl,rfl,λe=>Y (bL e.1.2)⟩
   exact di ⟨rfl,rfl,λe=>U (bL e.1.1)⟩
 rintro σ' H' ⟨rfl,rfl,hn⟩;unfold A0 at q;rw[ag hn]at q;refine⟨h1,h2,?_⟩;refine⟨bv (λz=>?_) (λz=>?_)⟩
 . rw[z,VG]at q;exact q
 rw[oK.mpr z,Bool.false_or]at q;exact⟨h2,h1,q⟩
inductive Sx:Sp where
 | mk {H:Hp}{Q:VK}{E:XK}{a t1 j t2 z:Addr}{b x y:Ls} (_:H a=some (.lst (b.map V.str))) (_:CC H t1 j b x) (_:CC H t2 z b y) (_:b.length<=20) (_:x.length<=20) (_:y.length<=20) (_:eg H (.lst ((ud b x y).map V.str)) Q):Sx [.ref a,.ref t1,.ref t2] H Q E
theorem akN:aK [atD,atv,atu] [atD,atv,atu] (av Pf):=aQ
theorem lM(h:l.length<=n):(l.map V.str).length<=n:=by rw[al];exact h
theorem lA{a b:Ls}{m:Nat}(j:a.length<=m)(z:b.length<=n):(a++b).length<=m+n:=by rw[bH];exact Nat.add_le_add j z
theorem lT{k:Nat}(h:l.length<=n):(l.take k).length<=n:=by rw[eP];exact bX (Nat.min_le_right _ _) h
theorem lD{k:Nat}(h:l.length<=n):(l.drop k).length<=n:=by rw[mP];exact bX (Nat.sub_le _ _) h
theorem ww{b x:Ls}(h:x.length<=n):(ub b x).length<=n:=lT (lD h)
theorem lS{p q m k:Nat}(h1:p<=m)(h2:q<=n)(h:m+n<=k:=by decide):p+q<=k:=bX (Nat.add_le_add h1 h2) h
theorem Sy(zZ:Pg K mg base Pt):au P w K mg base aL 1 zZ.Bot.f zZ.Bot.fd [atD,atv,atu] Sx:=by
 refine zZ.Bot.u.okL akN ?_;intro ar A outer s H vs Q E hr h xX dX;obtain @⟨_,_,_,a,t1,l1,t2,l2,b,x,y,O,⟨J,a0⟩,⟨wx,a1⟩,j,G,Sz,q⟩:=h;refine⟨_,(ai (aN (aJ vL (aJ vL (aJ vL (aJ vL (m9 vM (pv 0) qL (kH (bP fq (pv 1) ak (λ_ _=>rfl)))) (bP fq (pv 1) ak (λ_ _=>rfl))) (m9 vM (pv 0) (kH (bP fq (pv 1) ak (λ_ _=>rfl))) (kH (bP fq (pv 2) ak (λ_ _=>rfl))))) (bP fq (pv 2) ak (λ_ _=>rfl))) (m9 vM (pv 0) (kH (bP fq (pv 2) ak (λ_ _=>rfl))) qL)))),?_⟩;have m1:=MC b x;have m2:=MC b y;refine⟨ba.of J,rfl,aa.of O,λp1 H1 n1 U e1=>?_⟩;rw[vN,acd (by omega),lI]at e1;refine⟨ba.of (U _ _ J),rfl,e1,U _ _ a0,kM (lS (lM (lT j)) (lM (ww G))),λp2 H2 n2 s2 e2=>?_⟩;rw[AZ]at e2;have z:=U.trans s2;refine⟨ba.of (z _ _ J),rfl,ba.of (z _ _ wx),rfl,aa.of (z _ _ O),λp3 H3 n3 s3 e3=>?_⟩;rw[vN,ME (by omega) (by omega),lI,lI]at e3;refine⟨s3 _ _ e2,e3,kM (lS (lM (lA (lT j) (ww G))) (lM (lT (lD j)))),λp4 H4 n4 s4 e4=>?_⟩;rw[AZ]at e4;have Y:=(z.trans s3).trans s4;refine⟨ba.of (Y _ _ wx),rfl,e4,Y _ _ a1,kM (lS (lM (lA (lA (lT j) (ww G)) (lT (lD j)))) (lM (ww Sz))),λp5 H5 n5 s5 e5=>?_⟩;rw[AZ]at e5;have sD:=Y.trans s5;refine⟨ba.of (sD _ _ wx),rfl,aa.of (sD _ _ O),λp6 H6 n6 s6 e6=>?_⟩;rw[vN,EX (by omega),lI]at e6;refine⟨s6 _ _ e5,e6,kM (lS (lM (lA (lA (lA (lT j) (ww G)) (lT (lD j))) (ww Sz))) (lM (lD j))),λp7 H7 n7 s7 e7=>?_⟩;rw[AZ]at e7;have sE:=sD.trans s6;exact q p7 H7 (sE.free n7) (sE.trans s7) e7
inductive SA:Sp where
 | mk {H:Hp}{Q:VK}{E:XK}{a o n:Addr}{b x y:Ls} (_:H a=some (.lst (b.map V.str))) (_:H o=some (.lst (x.map V.str))) (_:H n=some (.lst (y.map V.str))) (_:md b) (_:md x) (_:md y) (_:∀t l r H',H t=none->H l=none->(∀j,r=.ref j->H j=none/\j≠l)->ac H H'->acp H' t l r (merge b x y)->Q (.ref t) H'):SA [.ref a,.ref o,.ref n] H Q E
theorem IK:aK [atD,ato,"new","own_block","new_block"] [atD,ato,"new"] (av Ph):=aQ
theorem akQ(j:Pg K mg base Pt):au P w K mg base aL 3 j.Put.f j.Put.fd [atD,ato,"new"] SA:=by
 refine j.Put.u.okL IK ?_;intro ar A outer s H vs Q E hr h xX dX;obtain @⟨_,_,_,a,o,n,b,x,y,O,hO,hN,lb,lx,ly,q⟩:=h;have dZ:ci 1 _:=hr.mono (by decide);have hu:=hr.units;refine⟨_,(ah (bu (bq (AU hu) (pv 1) (pv 0) (bh _))
  (ai (aN (dE (aC (eT ma (by rfl) j.B.list jS (am (pv 2))) jq)))) bI)
  (AW (λZ H'=>Z=[some (.ref a),some (.ref o),some (.ref n),none,none]/\H'=H/\¬(y=b\/x=y)) (bu (PW.pt (tE (bq (AU hu) (pv 2) (pv 0) (bh _)) (vC (bq (AU hu) (pv 1) (pv 2) (bh _)))))
  (ai (aN (dE (aC (eT ma (by rfl) j.B.list jS (am (pv 1))) jq)))) bI)
  (ah (aF (i:=3) IK.nd rfl (Or.inl rfl) (aA (Sr j) hr rfl (aC (pv 0) (pv 1))))
  (ah (aF (i:=4) IK.nd rfl (Or.inl rfl) (aA (Sr j) hr rfl (aC (pv 0) (pv 2))))
  (ah (bu (tF (ij (aA (akM j) hr rfl (aC (pv 3) (pv 4)))))
  (ai (aN (dE (aC (eT ma (by rfl) j.B.list jS (am (pv 2))) (eT ma (by rfl) j.B.list jS (am (pv 1))))))) bI)
  (ah (bu (ij (aA (II j) dZ rfl (aC (pv 3) (pv 4))))
  (ai (aN (dE (aC (aA (Sy j) dZ rfl (dP (pv 0) (pv 3) (pv 4))) jq)))) bI)
  (ai (aN (dE (aC (aA (Sy j) dZ rfl (dP (pv 0) (pv 4) (pv 3))) jq)))))))))),?_⟩
 refine mh ?_;intro dD sS dY;have oB:=xS 8 lb.all;have oX:=xS 8 lx.all;have oY:=xS 8 ly.all;have one:∀(m:Ls) (p1:Addr) (H0 H1:Hp),merge b x y=(m,none)->ac H H0->H0 p1=none->ac H0 H1->H1 p1=some (.lst (m.map V.str))->[V.ref p1,V.non].length<=sizeLine/\eg H1 (.tup [.ref p1,.non]) Q:=λm p1 H0 H1 em s0 n1 z e1=>by
  refine⟨by show 2<=sizeLine;decide,λp2 H2 n2 U e2=>?_⟩;refine q p2 p1 .non H2 ((s0.trans z).free n2) (s0.free n1) (λl2 e=>by cases e) ((s0.trans z).trans U) ?_;rw[em];exact⟨e2,U _ _ e1,rfl⟩
 refine⟨dS x,dS b,kN (aa.of hO),kN (aa.of O),oX,oB,λb1 wq=>?_⟩;rw[EY wq];refine⟨bv (λh=>?_) (λh=>?_)⟩
 . refine⟨n,_,rfl,.inl (aa.of hN),λp1 H1 n1 z e1=>?_⟩;exact one y p1 H H1 (acg (cW h)) (ac.refl _) n1 z e1
 have CD:x≠b:=Kl (oK.mpr h);refine⟨?_,?_⟩
 . refine⟨dS y,dS b,kN (aa.of hN),kN (aa.of O),oY,oB,λb2 iQ=>?_⟩;rw[EY iQ];have a0:(y=b\/x=y)->qF 1 [some (V.ref a),some (.ref o),some (.ref n),none,none] H (λv H=>∃p ys,([v]:Lv)=[.ref p]/\(aa K H p ys\/ba K H p ys)/\eg H (.lst ys) λv H1=>[v,V.non].length<=sizeLine/\eg H1 (.tup [v,.non]) Q):=λhc=>
    ⟨o,_,rfl,.inl (aa.of hO),λp1 H1 n1 z e1=>one x p1 H H1 (ach CD hc) (ac.refl _) n1 z e1⟩
   refine⟨bv (λh2=>?_) (λh2=>?_)⟩
   . exact gc (a0 (.inl (cW h2)))
   refine⟨dS x,dS y,kN (aa.of hO),kN (aa.of hN),oX,oY,λb3 CF=>?_⟩;rw[EY CF];refine⟨bv (λh3=>?_) (λh3=>?_)⟩
   . exact a0 (.inr (cW h3))
   exact⟨rfl,rfl,λe=>e.elim (λe=>h2 (bL e)) (λe=>h3 (bL e))⟩
 rintro σ' H' ⟨rfl,rfl,hc⟩;refine⟨aa.of O,aa.of hO,λt1 l1 H1 a3 a1 z J=>?_⟩;refine⟨aa.of (z _ _ O),aa.of (z _ _ hN),λt2 l2 H2 a4 a2 U CG=>?_⟩;have G:=z.trans U;have J:CC H2 t1 l1 b x:=⟨U _ _ J.tup,U _ _ J.lst⟩;refine⟨J.tup,CG.tup,?_⟩;refine⟨bv (λh4=>?_) (λh4=>?_)⟩
 . have ap:apart b x y=false:=by unfold apart;simpa using h4
   refine⟨n,_,rfl,.inl (aa.of (G _ _ hN)),λp5 H5 n5 s5 e5=>?_⟩;refine⟨o,_,rfl,.inl (aa.of (s5 _ _ (G _ _ hO))),λp6 H6 n6 s6 e6=>?_⟩;refine⟨Aw,λp7 H7 n7 s7 e7=>?_⟩;have sB:=(G.trans s5).trans s6;refine q p7 p5 (.ref p6) H7 (sB.free n7) (G.free n5) (λl2 e=>?_) (sB.trans s7) ?_
   . cases e;exact⟨(G.trans s5).free n6,(aI e5 n6).symm⟩
   rw[aci CD hc ap];exact⟨e7,s7 _ _ (s6 _ _ e5),_,rfl,s7 _ _ e6⟩
 have ap:apart b x y=true:=by unfold apart;simpa using h4
 refine⟨J.tup,CG.tup,?_⟩;refine⟨bv (λY=>?_) (λY=>?_)⟩
 . have Y:=cW Y;refine⟨G _ _ O,J,CG,lb.len,lx.len,ly.len,λp8 H8 n8 s8 e8=>?_⟩;exact one _ p8 H2 H8 (acj CD hc ap (by omega)) G n8 s8 e8
 have Y:=Kl (oK.mpr Y);refine⟨G _ _ O,CG,J,lb.len,ly.len,lx.len,λp8 H8 n8 s8 e8=>?_⟩;exact one _ p8 H2 H8 (ack CD hc ap (by omega)) G n8 s8 e8
theorem db.du{H H':Hp}{kv:ao×V}{f:Str×Ls}(h:db H H' kv f):cw H' kv f:=h.elim λa j=>j.elim λl z=>z.elim λb G=>G.elim λ_ c=>⟨a,l,b,c⟩
def oq:Str:=".own"
def gs(o:Option (Ls))(p:Str)(b m:Ls):Tr:=
 match o with
 | none=>[(p,m)]
 | some j=>(p,(merge b m j).1)::(match (merge b m j).2 with | none=>[] | some z=>[(p++oq,z)])
def Look(tr:Tr)(p:Str):Option (Ls)->Prop
 | none=>p∉tr.map (·.1)
 | some ls=>(p,ls)∈tr
inductive SD:Sp where
 | mk {H:Hp}{Q:VK}{E:XK}{p:Str}{t j z d:Addr}{kvs:List (ao×V)}{tr:Tr} (b m:Ls) (o:Option (Ls)) (_:H t=some (.tup [.ref j,.ref z])) (_:H j=some (.lst (b.map V.str))) (_:H z=some (.lst (m.map V.str))) (_:H d=some (.dK kvs)) (_:Paired (cw H) kvs tr) (_:(tr.map (·.1)).Nodup) (_:Look tr p o) (_:md b) (_:md m) (_:(∀ls,o=some ls->md ls)) (_:p.length<=60) (_:∀e H' G,H e=none->ac H H'->H' e=some (.dK G)->Paired (db H H') G (gs o p b m)->Q (.ref e) H'):SD [.str p,.ref t,.ref d] H Q E
theorem CH:aK [asZ,att,atE,"mine","together",as8] [asZ,att,atE] (av PB):=aQ
theorem akW(J:Pg K mg base Pt):au P w K mg base aL 4 J.FoC.f J.FoC.fd [asZ,att,atE] SD:=by
 refine J.FoC.u.okL CH ?_;intro ar A outer s H vs Q E hr h xX dX;obtain @⟨_,_,_,p,t,l1,U,d,kvs,tr,b,m,o,ht,hb,hm,hd,pr,nd,lo,Lb,Lm,Lo,a3,q⟩:=h;have hu:=hr.units;have hk:∀kv f,cw H kv f->kv.1=Sum.inr f.1:=λkv f z=>z.1;have z0:cE [V.ref l1,V.ref U] 0=some (V.ref l1):=rfl;have z1:cE [V.ref l1,V.ref U] 1=some (V.ref U):=rfl;have a1:oq.length=4:=by decide +kernel
 refine⟨_,(ah (aF (i:=3) CH.nd rfl (Or.inl rfl) (bP fq (pv 1) ak (λ_ _=>rfl)))
  (ah (bu (oO (EF hu (pv 0) (pv 2)) (by rfl))
   (ai (aN (Mc (Ma (pv 0) (eT ma (by rfl) J.B.list jS (am (pv 3))) L9) rfl rfl (by intro z;cases z) (by decide)))) bI)
  (ah (aF (i:=4) CH.nd rfl (Or.inl rfl) (aA (akQ J) hr rfl (dP (bP fq (pv 1) ak (λ_ _=>rfl)) (pv 3) (qO hu (pv 2) (pv 0) (λ_ _=>rfl)))))
  (ah (aF (i:=5) CH.nd rfl (Or.inl rfl) (Mc (Ma (pv 0) (bP fq (pv 4) ak (λ_ _=>rfl)) L9) rfl rfl (by intro z;cases z) (by decide)))
  (ah (bu (bq K6 (bP fq (pv 4) ak (λ_ _=>rfl)) jq (bh _))
   (ai (i8 hu (pv 5) (x5 (xZ (pv 0)) bB) (bP fq (pv 4) ak (λ_ _=>rfl)) rfl)) bI)
  (ai (aN (pv 5)))))))),?_⟩
 refine x6 ?_;intro dD sS GU B3 nZ gk dY;refine⟨ba.of ht,z1,?_⟩;refine⟨_,cO.k (k:=.inr p) hd,⟨?_⟩⟩;cases o with
 | none=>
  rw[yA hk pr lo];refine gc ?_;refine λe j=>⟨U,_,rfl,.inl (aa.of (fR j _ _ hm)),λq1 H2 n2 s2 e2=>?_⟩;have sH:=(fR (o:=.dK []) j).trans s2;have ee:=s2 _ _ (aD (H:=H) (a:=e) (o:=.dK []));refine⟨ee,[(.inr p,.ref q1)],rfl,(by show 1<=15;decide),?_⟩;exact q e _ [(.inr p,.ref q1)] j (fh sH j) aD (.cons ⟨rfl,q1,rfl,(jY n2).2,ay e2 (jY n2).1⟩ .nil)
 | some ls=>
  obtain⟨v,xq,g1,g2,_,lb,rfl,g3⟩:=pG hk pr (gw (f:=(·.1)) lo);have a0:=nV nd lo g2;subst a0;rw[g1];refine di ?_;refine⟨ba.of ht,z0,(by rw[<-g1];exact cO.k (k:=.inr p) hd),?_⟩;refine⟨hb,hm,g3,Lb,Lm,Lo ls rfl,λt2 l r H3 nt nl nr s3 pa=>?_⟩;refine λe j=>⟨ba.of (fR j _ _ pa.tup),(rfl:cE [V.ref l,r] 0=some (V.ref l)),?_⟩;refine⟨aD,[(.inr p,.ref l)],rfl,(by show 1<=15;decide),?_⟩;have O:=s3.free j;have sH:ac H (af (af H3 e (.dK [])) e (.dK (lY [] [(.inr p,.ref l)]))):=fh (fh s3 O) O;have uW:∀{b:Addr}{z:HO},H3 b=some z->(af (af H3 e (.dK [])) e (.dK (lY [] [(.inr p,.ref l)]))) b=some z:=λ{b z} h=>ay (ay h (aI h j)) (aI h j);have pt:=uW pa.tup;have pl:=uW pa.lst;have pe:(af (af H3 e (.dK [])) e (.dK (lY [] [(.inr p,.ref l)]))) e=some (.dK [(.inr p,.ref l)]):=aD;refine⟨ba.of pt,rfl,rfl,⟨?_⟩⟩;have G:=pa.bes
  revert G
  cases SE:(merge b m ls).2 with
  | none=>
   intro G;have G:r=.non:=G;subst G;refine aa2 rfl ?_;refine⟨q e _ _ O sH pe ?_⟩;unfold gs;dsimp only;rw[SE];exact .cons ⟨rfl,l,rfl,nl,pl⟩ .nil
  | some z=>
   intro G;obtain⟨Y,rfl,hz⟩:=G;refine acf (λe=>by cases e) ?_;have pz:=uW hz;have ro:p++Str.ofString ".own"=p++oq:=rfl;have a2:(Str.ofString ".own").length=4:=a1;refine⟨ba.of pt,(rfl:cE [V.ref l,V.ref Y] 1=some (V.ref Y)),jZ (by omega),jZ (by omega),Str.ofString ".own",rfl,fit (by omega) (by omega),?_⟩;refine⟨gb.k (k:=.inr (p++oq)) pe (by show 1<sizeLine;decide),?_⟩;have c8:¬(Sum.inr p:ao)=Sum.inr (p++oq):=by
    intro z;have z:=fc Str.length (mL z);rw[i9]at z;omega
   refine⟨q e _ _ O (fh sH O) aD ?_⟩;rw[ED _ (by rw[i7 c8];rfl)];unfold gs;dsimp only;rw[SE];exact .cons ⟨rfl,l,rfl,nl,ay pl (aU pl pe (by intro z;cases z))⟩ (.cons ⟨rfl,Y,rfl,(nr Y rfl).1,ay pz (aU pz pe (by intro z;cases z))⟩ .nil)
def jk(tr:List (Str×β))(p:Str):Option β:=(tr.find? λf=>decide (f.1=p)).map (·.2)
theorem akZ{tr:List (Str×β)}{p:Str}(h:jk tr p=none):p∉tr.map (·.1):=by
 unfold jk at h;rw[aq7,VR]at h;intro z;obtain⟨f,j,e⟩:=cC.mp z;exact h f j (bL e)
theorem CI{tr:List (Str×β)}{p:Str}{y:β}(h:jk tr p=some y):(p,y)∈tr:=by
 unfold jk at h;rw[aqZ]at h;obtain⟨f,j,e⟩:=h;have h1:=List.find?_some j;have h2:=List.mem_of_find?_eq_some j;have h1:f.1=p:=cW h1;rw[<-h1,<-e];exact h2
theorem ak0(tr:Tr)(p:Str):Look tr p (jk tr p):=by
 cases h:jk tr p with
 | none=>exact akZ h
 | some y=>exact CI h
def putAll(tr z:Tr):Tr:=z.foldl (λj f=>bR j f.1 f.2) tr
theorem ak1{F:ao×V->Str×Ls->Prop}(z:∀kv f,F kv f->kv.1=Sum.inr f.1){j:List (ao×V)}{ms:Tr}(h:Paired F j ms):∀{kvs:List (ao×V)}{tr:Tr},Paired F kvs tr->Paired F (lY kvs j) (putAll tr ms):=by
 induction h with
 | nil=>exact λh=>h
 | @cons kv f j ms r t J=>
  intro kvs tr G;have e:=z _ _ r;have:Paired F (cK kvs kv.1 kv.2) (bR tr f.1 f.2):=by
   rw[e];exact jD z (by rw[<-e];exact r) G
  exact J this
theorem ak2{j:Tr}:∀{tr:Tr},(tr.map (·.1)).Nodup->((putAll tr j).map (·.1)).Nodup:=by
 induction j with
 | nil=>exact λh=>h
 | cons f j z=>exact λh=>z (kZ h)
theorem ak3(o:Option (Ls))(p:Str)(b m:Ls):(gs o p b m).length<=2:=by
 unfold gs;cases o with
 | none=>exact qm 1
 | some j=>
  dsimp only;rw[cr];split
  . exact qm 1
  exact aG 2
def iU(bi:Tr)(ow:Ow):Tr:=ow.foldl (λtr e=>putAll tr (gs (jk bi e.1) e.1 e.2.1 e.2.2)) bi
theorem ak4(bi:Tr)(ow:Ow)(e:Str×(Ls×Ls)):iU bi (ow++[e])=putAll (iU bi ow) (gs (jk bi e.1) e.1 e.2.1 e.2.2):=by
 unfold iU;rw[qx];rfl
end
section
open HT (At cp hJ)
def ky(c:Str):Str:=Str.ofString "="++c
theorem ak5{a b:Str}(h:ky a=ky b):a=b:=by
 have e:=fc (λz:Str=>z.cps.toList) h;have e1:∀x:Str,(ky x).cps.toList=(Str.ofString "=").cps.toList++x.cps.toList:=λx=>by
  show((Str.ofString "=").cps++x.cps).toList=_;simp
 simp only[e1]at e;have e2:=List.append_cancel_left e;have ext:∀x y:Str,x.cps.toList=y.cps.toList->x=y:=λ⟨⟨x⟩⟩ ⟨⟨y⟩⟩ h=>by
  have h:x=y:=h;rw[h]
 exact ext _ _ e2
theorem je.off{H:Hp}{v:V}{p:cu}{L:List Addr}(G:∀b∈L,∀o,H b=some o->(∀c d f,o≠.ins c d f)/\(∀vs,o≠.tup vs)/\∀vs,o≠.lst vs)(h:je C H v p):je C (msk L H) v p:=by
 obtain⟨a,dx,fl,rk,m,pf,pn,ps,po,xs,e,h1,h2,h3,h4,h5,h6,j⟩:=h;have t:∀{b:Addr}{vs:Lv},H b=some (.tup vs)->msk L H b=some (.tup vs):=λe=>cL (λz=>(G _ z _ e).2.1 _ rfl) e;have l:∀{b:Addr}{vs:Lv},H b=some (.lst vs)->msk L H b=some (.lst vs):=λe=>cL (λz=>(G _ z _ e).2.2 _ rfl) e;exact⟨a,dx,fl,rk,m,pf,pn,ps,po,xs,e,cL (λz=>(G _ z _ h1).1 _ _ _ rfl) h1,h2,t h3,l h4,aB h5 λ_ _ J=>J.elim λt' O=>O.elim λl' U=>U.elim λx1 Y=>Y.elim λx2 x3=>⟨t',l',x1,t x2,l x3⟩,l h6,j.1,l j.2.1,l j.2.2⟩
theorem aE.put{H:Hp}{lp:Pos}{qu:Str}{ks:List (ao×V)}{o:HO}(hd:H d=some (.dK ks))(h:aE H Pt lp qu):aE (af H d o) Pt lp qu:=by
 have k:∀{b:Addr}{φ:Heap->Prop},H b=some (.ext φ)->af H d o b=some (.ext φ):=λe=>ay e (aU e hd (by intro z;cases z))
 rcases h with z | ⟨c',j,G⟩
 . exact .inl (k z)
 exact .inr ⟨c',k j,k G⟩
def IL(ow:Ow):Prop:=∀e∈ow,e.1.length<=60/\md e.2.1/\md e.2.2
end
section
variable {x p:Str}{b m ns:Ls}{o:Option (Ls)}{bi mE:Tr}{ow:Ow}{ps px:Lp}{ch:Ch}{cs:Cs}
theorem ou{α:Type}{l:List α}{i:Nat}{x:α}(h:l[i]?=some x):l.take (i+1)=l.take i++[x]:=by rw[ie,h];rfl
theorem ala(h:dB x):∀c∈x.cps.toList,c≠46:=λc j=>by
 obtain⟨ps,rfl,_,_,G⟩:=h
 rcases BP j with z | ⟨p,J,z⟩
 . intro e;rw[e]at z;exact absurd z (by decide +kernel)
 have:=(G p J).az c z;omega
theorem IM{y:Str}(h:dB x):x≠y++oq:=λe=>by
 refine ala h 46 ?_ rfl;rw[e,mw];exact fe _ (by decide +kernel)
theorem alb{a b:Str}(h:a++oq=b++oq):a=b:=by
 have e:=fc (λz:Str=>z.cps.toList) h;simp only[mw]at e;have e2:=List.append_cancel_right e;have ext:∀x y:Str,x.cps.toList=y.cps.toList->x=y:=λ⟨⟨x⟩⟩ ⟨⟨y⟩⟩ h=>by
  have h:x=y:=h;rw[h]
 exact ext _ _ e2
theorem SF:∀(j tr:Tr) (k:Str),(j.map (·.1)).Nodup->look (putAll tr j) k=(look j k).or (look tr k)
 | [],tr,k,_=>rfl
 | f::j,tr,k,nd=>by
  rw[bS,qo]at nd;have z:=SF j (bR tr f.1 f.2) k nd.2;show look (putAll (bR tr f.1 f.2) j) k=_;rw[z,y7,jM]
  by_cases e:f.1=k
  . rw[aj e,aj e,iB.mpr (by rw[<-e];exact nd.1)];rfl
  rw[ag e,ag e]
theorem SG{k:Str}(h:k∈(gs o p b m).map (·.1)):k=p\/k=p++oq:=by
 unfold gs at h;cases o with
 | none=>exact .inl (bF.mp h)
 | some j=>
  dsimp only at h;rw[bS]at h
  rcases be.mp h with z | z
  . exact .inl z
  split at z
  . cases z
  exact .inr (bF.mp z)
theorem SH(j:dB p):((gs o p b m).map (·.1)).Nodup:=by
 unfold gs;cases o with
 | none=>simp
 | some G=>
  dsimp only;rw[bS,qo];split
  . simp
  refine⟨λz=>IM j (bF.mp z),by simp⟩
theorem IN(g:Str×(Ls×Ls)->Tr):∀(ow:Ow) (c:Tr),(∀e∈ow,((g e).map (·.1)).Nodup)->look (ow.foldl (λtr e=>putAll tr (g e)) c)=ow.foldl (fun(φ:Str->Option (Ls)) e k=>(look (g e) k).or (φ k)) (look c)
 | [],c,_=>rfl
 | e::ow,c,h=>by
  rw[lK,lK,IN g ow _ λx j=>h x (bU _ j)]
  congr 1
  funext k
  exact SF _ _ _ (h e bQ)
theorem alc{β:Type}{l j:List (Str×β)}(p:l.Perm j)(nd:(l.map (·.1)).Nodup)(k:Str):look l k=look j k:=by
 have G:(j.map (·.1)).Nodup:=(p.map _).nodup_iff.mp nd;cases e:look l k with
 | none=>exact(iB.mpr λz=>iB.mp e ((p.map _).mem_iff.mpr z)).symm
 | some v=>exact(wt G (p.mem_iff.mp (pT e))).symm
theorem ald(h:look bi=look mE){aM:Ow}(p:ow.Perm aM)(nd:(ow.map (·.1)).Nodup)(pt:∀e∈ow,dB e.1):look (iU bi ow)=look (iU mE aM):=by
 have e1:∀(t:Tr) (o:Ow),iU t o=o.foldl (λtr e=>putAll tr (gs (look t e.1) e.1 e.2.1 e.2.2)) t:=λ_ _=>rfl;rw[e1,e1,IN _ _ _ λe j=>SH (pt e j),IN _ _ _ λe j=>SH (pt e (p.mem_iff.mpr j)),<-h];refine List.Perm.foldl_eq' p (λx G y J φ=>?_) _
 funext k
 by_cases e:x=y
 . rw[e]
 have n1:x.1≠y.1:=λz=>e (by
  have:=nV nd (x:=x.1) (a:=x.2) (b:=y.2) G (by rw[z];exact J);exact Prod.ext z this)
 cases a:look (gs (look bi x.1) x.1 x.2.1 x.2.2) k with
 | none=>simp only[a,Option.none_or]
 | some u=>
  cases b:look (gs (look bi y.1) y.1 y.2.1 y.2.2) k with
  | none=>simp only[a,b,Option.none_or]
  | some v=>
   have ka:=SG (gw (f:=(·.1)) (pT a));have kb:=SG (gw (f:=(·.1)) (pT b))
   rcases ka with ka | ka<;>rcases kb with kb | kb
   . exact absurd (ka.symm.trans kb) n1
   . exact absurd (ka.symm.trans kb) (IM (pt x G))
   . exact absurd (kb.symm.trans ka) (IM (pt y J))
   exact absurd (alb (ka.symm.trans kb)) n1
theorem SI(h:(ps.map gG).Nodup){p q:cu}(hp:p∈ps)(hq:q∈ps)(e:gG p=gG q):p=q:=by
 induction ps with
 | nil=>cases hp
 | cons r ps j=>
  rw[bS,qo]at h
  rcases be.mp hp with ep | hp
  . rcases be.mp hq with eq | hq
    . rw[ep,eq]
    exact absurd (gw (f:=gG) hq) (by rw[<-e,ep];exact h.1)
  rcases be.mp hq with eq | hq
  . exact absurd (gw (f:=gG) hp) (by rw[e,eq];exact h.1)
  exact j h.2 hp hq
structure CJ(ps:Lp)(ch:Ch)(px:Lp):Prop where
 nm:(px.map (·.nm)).Perm (ch.map (·.1))
 mm:∀p∈px,p∈ps/\(p.nm,p.ms)∈ch
theorem CJ.iff(h:CJ ps ch px)(Y:(ps.map gG).Nodup)(nd:(ch.map (·.1)).Nodup)(p:cu):p∈px↔p∈ps/\(p.nm,p.ms)∈ch:=by
 refine⟨h.mm p,λJ=>J.elim λh1 h2=>?_⟩;have:p.nm∈px.map (·.nm):=h.nm.mem_iff.mpr (gw (f:=(·.1)) h2);obtain⟨r,G,j⟩:=cC.mp this;obtain⟨U,z⟩:=h.mm r G;rw[j]at z;have O:=nV nd z h2;have:r=p:=SI Y U h1 (by unfold gG;rw[j,O]);rw[<-this];exact G
theorem SJ{rN:Lp}(J:Apart ns ps)(nd:(ch.map (·.1)).Nodup)(j:∀p∈px,p∈ps/\(p.nm,p.ms)∈ch)(m:∀p,p∈px↔p∈rN)(g:ke (fB px) bi)(g':ke (fB rN) mE){k:Str}{l:Ls}(h:look bi k=some l):look mE k=some l:=by
 obtain⟨p,z,O⟩:=vx.mp (g.sub _ (pT h));have hk:k∈mE.map (·.1):=g'.key (k,l) (vx.mpr ⟨p,(m p).mp z,O⟩);obtain⟨f,U,e⟩:=cC.mp hk;have e:f.1=k:=e;obtain⟨q,G,hg⟩:=vx.mp (g'.sub f U);have G:=(m q).mpr G;have Y:=J.one p (j p z).1 q (j q G).1 k (gw (f:=(·.1)) O) (by rw[<-e];exact gw (f:=(·.1)) hg);have em:p.ms=q.ms:=nV nd (j p z).2 (by rw[Y];exact(j q G).2);have ep:p=q:=SI J.nd (j p z).1 (j q G).1 (by unfold gG;rw[Y,em]);subst ep;have el:l=f.2:=nV (J.ok p (j p z).1).2.2 O (by rw[<-e];exact hg);rw[el,<-e];exact wt g'.nd U
theorem alf{G:Lp}(j:Apart ns ps)(nd:(ch.map (·.1)).Nodup)(z:∀p∈px,p∈ps/\(p.nm,p.ms)∈ch)(m:∀p,p∈px↔p∈G)(g:ke (fB px) bi)(g':ke (fB G) mE):look bi=look mE:=by
 funext k
 cases e:look bi k with
 | some l=>exact(SJ j nd z m g g' e).symm
 | none=>
  cases J:look mE k with
  | none=>rfl
  | some l=>rw[SJ j nd (λp O=>z p ((m p).mpr O)) (λp=>(m p).symm) g' g J]at e;cases e
def wy(ps:Lp)(ch:Ch)(cs:Cs)(ow:Ow)(tr:Tr):Prop:=∃(px:Lp) (bi:Tr),CJ ps ch px/\ke (fB px) bi /\
 (∀k,(∀c,(∃p∈px,c∈p.os)->k≠ky c)->look tr k=look (iU bi ow) k)/\∀c,(∃p∈px,c∈p.os)->∃r,look tr (ky c)=some [r]/\NB (gT c px) (look cs c) r
theorem alg{aT:Ch}{aV:Cs}{aM:Ow}{tr J:Tr}(z:Apart ns ps)(p1:ch.Perm aT)(p2:cs.Perm aV)(p3:ow.Perm aM)(d1:(ch.map (·.1)).Nodup)(d2:(cs.map (·.1)).Nodup)(d3:(ow.map (·.1)).Nodup)(pt:∀e∈ow,dB e.1)
 (h:wy ps ch cs ow tr) (h':wy ps aT aV aM J):look tr=look J:=by
 obtain⟨px,bi,x,g,a,b⟩:=h;obtain⟨Y,mE,x',g',a',b'⟩:=h';have a4:(aT.map (·.1)).Nodup:=(p1.map _).nodup_iff.mp d1;have m:∀p,p∈px↔p∈Y:=λp=>by rw[x.iff z.nd d1,x'.iff z.nd a4,p1.mem_iff]
 have t0:=alf z d1 x.mm m g g';have O:∀c,(∃p∈px,c∈p.os)↔∃p∈Y,c∈p.os:=λc=>⟨λa0=>a0.elim λp a1=>a1.elim λh1 h2=>⟨p,(m p).mp h1,h2⟩,λa2=>a2.elim λp a3=>a3.elim λh1 h2=>⟨p,(m p).mpr h1,h2⟩⟩
 funext k
 by_cases G:∃c,(∃p∈px,c∈p.os)/\k=ky c
 . obtain⟨c,j,rfl⟩:=G;obtain⟨r,e,n⟩:=b c j;obtain⟨r',e',U⟩:=b' c ((O c).mp j);rw[<-alc p2 d2]at U;rw[e,e',n.eq U λq=>by unfold gT;rw[qk,qk,m q]]
 rw[a k λc j e=>G ⟨c,j,e⟩,a' k λc j e=>G ⟨c,(O c).mpr j,e⟩,ald t0 p3 d3 pt]
theorem aln{kvs:List (ao×V)}(h:Paired uG kvs cs)(c:Str):rL kvs c=look cs c:=by
 induction h with
 | nil=>rfl
 | @cons kv e kvs cs r t j=>
  rw[jM];unfold rL bc at j ⊢;rw[sk]
  by_cases z:e.1=c
  . rw[aj z,bL (show kv.1=Sum.inr c by rw[r.1,z])];show(match Option.map (λx=>x.snd) (some kv) with | some (V.str y)=>some y | _=>none)=some e.2;rw[sq,r.2]
  rw[ag z,cq (show kv.1≠Sum.inr c by rw[r.1];intro y;exact z (mL y))];exact j
open HT (At cp hJ)
open Lcp
seal PE PS bW PA PT PW PG fM PI fF
structure SK(ns:Ls)(p:cu):Prop where
 n3:p.fs.length<=3
 ls:∀f∈p.fs,md f.2
 o2:p.os.length<=2
 nm:Ln p.nm
 os:∀t∈p.os,(Ln t/\t.length<=20)/\t∈ns
theorem alo{kvs:List (ao×V)}(h:Paired uG kvs cs)(ok:∀e∈cs,Ln e.2):Ie kvs:=λk v j=>by
 obtain⟨e,G,e1,e2⟩:∃e∈cs,k=.inr e.1/\v=.str e.2:=by
  induction h with
  | nil=>cases j
  | @cons kv e kvs cs r t O=>
   unfold bc at j;rw[sk]at j;split at j
   . rename_i z;have z:=cW z;cases j;exact⟨e,bQ,z▸r.1,r.2⟩
   obtain⟨J,h1,h2⟩:=O (λe G=>ok e (bU _ G)) j;exact⟨J,bU _ h1,h2⟩
 exact⟨_,e2,ok e G⟩
theorem CK{tr:Tr}{ls:Ls}(h:d5 tr)(j:∀y∈ls,Ln y):d5 (bR tr x ls):=λf hf=>by
 rcases mv hf with e | hf
 . rw[e];exact j
 exact h f hf
theorem alp{G:Tr}(h:d5 G)(U:∀x∈b,Ln x)(J:∀x∈m,Ln x)(Y:∀ls,o=some ls->∀x∈ls,Ln x):d5 (putAll G (gs o p b m)):=by
 unfold gs;cases o with
 | none=>exact CK (tr:=G) h J
 | some j=>
  dsimp only;have h1:=CK (x:=p) (ls:=(merge b m j).1) h (acn U J (Y j rfl));cases e:(merge b m j).2 with
  | none=>exact h1
  | some z=>
   have O:z=m:=by
    rcases acm b m j with q | q
    . rw[q]at e;cases e
    rw[q]at e;exact(gU e).symm
   subst O;exact CK h1 J
theorem alq(h:d5 bi)(j:IL ow):d5 (iU bi ow):=by
 have Y:∀(ow:Ow) (c:Tr),d5 c->(∀e∈ow,(∀x∈e.2.1,Ln x)/\∀x∈e.2.2,Ln x)->d5 (ow.foldl (λtr e=>putAll tr (gs (jk bi e.1) e.1 e.2.1 e.2.2)) c):=by
  intro ow
  induction ow with
  | nil=>exact λc z _=>z
  | cons e ow U=>
   intro c z j;rw[lK];have h1:=j e bQ;exact U _ (alp z h1.1 h1.2 λls O=>h _ (CI O)) λJ me=>j J (bU _ me)
 exact Y ow bi h λe G=>⟨(j e G).2.1.all,(j e G).2.2.all⟩
theorem alr{tr:Tr}{k:Str}{ls:Ls}(h:k∈tr.map (·.1)):(bR tr k ls).length=tr.length:=by
 obtain⟨f,j,e⟩:=cC.mp h;unfold bR;rw[aj (vt.mpr ⟨f,j,bL e⟩),al]
theorem SM(bi:Tr)(ow:Ow):(iU bi ow).length<=bi.length+ow.length:=by
 have U:∀(ow:Ow) (c:Tr),(∀k∈bi.map (·.1),k∈c.map (·.1))->(ow.foldl (λtr e=>putAll tr (gs (jk bi e.1) e.1 e.2.1 e.2.2)) c).length<=c.length+ow.length:=by
  intro ow
  induction ow with
  | nil=>exact λc _=>aG _
  | cons e ow O=>
   intro c j;have keep:∀{c:Tr}{x:Str}{l:Ls},(∀k∈bi.map (·.1),k∈c.map (·.1))->∀k∈bi.map (·.1),k∈(bR c x l).map (·.1):=λ{c x l} j k J=>by
    have:=j k J;cases z:look c k with
    | none=>exact absurd this (iB.mp z)
    | some v=>
     refine Wj λn=>?_;have:=iB.mpr n;rw[y7]at this;split at this
     . cases this
     rw[z]at this;cases this
   rw[lK,cr];have Y:∃c',putAll c (gs (jk bi e.1) e.1 e.2.1 e.2.2)=c'/\c'.length<=c.length+1/\∀k∈bi.map (·.1),k∈c'.map (·.1):=by
    unfold gs;cases z:jk bi e.1 with
    | none=>exact⟨_,rfl,jC c _ _,keep j⟩
    | some G=>
     dsimp only;have h1:e.1∈c.map (·.1):=j _ (gw (f:=(·.1)) (CI z));have h2:=alr (ls:=(merge e.2.1 e.2.2 G).1) h1;cases (merge e.2.1 e.2.2 G).2 with
     | none=>exact⟨_,rfl,bX (vp h2) (qm _),keep j⟩
     | some o=>exact⟨_,rfl,bX (jC (bR c e.1 (merge e.2.1 e.2.2 G).1) (e.1++oq) o) (by rw[h2];exact aG _),keep (keep j)⟩
   obtain⟨c',e1,l1,k1⟩:=Y;rw[e1];have:=O c' k1;omega
 exact U ow bi λk h=>h
theorem als(h:(bi.map (·.1)).Nodup)(ow:Ow):((iU bi ow).map (·.1)).Nodup:=by
 have G:∀(ow:Ow) (c:Tr),(c.map (·.1)).Nodup->((ow.foldl (λtr e=>putAll tr (gs (jk bi e.1) e.1 e.2.1 e.2.2)) c).map (·.1)).Nodup:=by
  intro ow
  induction ow with
  | nil=>exact λc j=>j
  | cons e ow z=>
   intro c j;rw[lK];exact z _ (ak2 j)
 exact G ow bi h
inductive SN (C S T Pt:Addr):Sp where
 | mk {H:Hp}{Q:VK}{E:XK}{j tv:V}{xs:Lv}{ps:Lp}{ch:Ch}{cs:Cs}{ow:Ow}{ns:Ls} (_:jf S H j xs ps) (_:eB C H xs ps) (_:(∀p∈ps,SK ns p)) (_:ns.length<=4) (_:gR T H tv ch cs ow) (_:pN xs ps ch) (_:ch.length<=4) (_:ow.length<=8) (_:IL ow) (_:(∀e∈cs,Ln e.2)) (_:aE H Pt dg df) (_:∀d H' kvs (tr:Tr),H d=none->j7 Pt H H'->aE H' Pt dg df->H' d=some (.dK kvs)->Paired (db H H') kvs tr->(tr.map (·.1)).Nodup->tr.length<=24->d5 tr->wy ps ch cs ow tr->Q (.ref d) H'):SN C S T Pt [j,tv] H Q E
theorem uX:aK [asY,atj,as1,atE,atm,asZ,att,atn] [asY,atj] (av BN):=aQ
theorem wz(j:Pg K mg base Pt):au P w K mg base aL 5 j.Tre.f j.Tre.fd [asY,atj] (SN j.C j.S j.T Pt):=by
 refine j.Tre.u.okL uX ?_;intro ar A outer s H vs Q E hr h xX dX;obtain @⟨_,_,_,sv,tv,xs,ps,ch,cs,ow,ns,hS,hP,h3,aR,hT,hV,h4,o2,okO,a7,a0,q⟩:=h;have hu:=hr.units;have a':ci 2 (A.deeper (PyProof.Rows.envOfC "tree_of" (av BN) s.heap.objs.size j.Tre.f ar)):=hr.mono (by decide);have dZ:ci 1 (A.deeper (PyProof.Rows.envOfC "tree_of" (av BN) s.heap.objs.size j.Tre.f ar)):=hr.mono (by decide);refine⟨_,(ah (aF (i:=2) uX.nd rfl (Or.inl rfl) (aA (G6 j) a' rfl (aC (pv 0) (bJ (pv 1) rfl))))
  (ah (aF (i:=3) uX.nd rfl (Or.inl rfl) (aA (RE j) dZ rfl (am (pv 2))))
  (ah (aF (i:=4) uX.nd rfl (Or.inl rfl) (eT xU (by rfl) j.B.dict DM (am (pv 3))))
  (ah (Fm eR rfl (bJ (pv 1) rfl) (oP rfl (gz (bf (i:=5) uX.nd rfl (Or.inl rfl)) (gz (bf (i:=6) uX.nd rfl (Or.inl rfl)) mX)))
  (ai (bC (dC zY arb PySem.F.type_dict_update adE (pv 4) (am (aA (akW j) hr rfl (dP (pv 5) (pv 6) (pv 3))))))))
  (ah (eS eR rfl (cH (aA (ajV j) dZ rfl (am (pv 2)))) (bf (i:=7) uX.nd rfl (Or.inl rfl))
  (ai (i8 hu (pv 4) (x5 bB (xZ (pv 7))) (cU (am (aA (ajY j) hr rfl (dP (pv 7) (pv 2) (bJ (pv 1) rfl))))) rfl)))
  (ai (aN (pv 4)))))))),?_⟩
 refine x6 ?_;intro dD sS GU B3 nZ gk dY;obtain⟨a,dx,fl,c,h,o,rfl,t1,t2,t3,t4,t5,⟨hk,t6,SO⟩,ko,t7,t8⟩:=hT;have hok:=alo SO a7;refine⟨t1,j.UT.cl,j.UT.nC,t2,?_⟩;refine⟨hS,t5,hV,by omega,λD H1 kX px n1 s1 e1 pr pn pc=>?_⟩;have wA:=G9 (hP.same s1) pr;have pm:=Hd pr;have dL:px.length<=4:=by
  have e:=pn.length_eq;rw[al,al]at e;omega
 have hl:(fB px).length<=12:=by
  have:=RF (b:=3) (ps:=px) λp G=>(h3 p (pm p G)).n3;omega
 refine⟨e1,wA,by omega,λd H2 kvs bi n2 s2 e2 SQ g2=>?_⟩;refine⟨d,_,rfl,e2,λd3 H3 n3 s3 e3=>?_⟩;have jH:=s1.trans (s2.trans s3);have rO:H d3=none:=s1.free (s2.free n3);have de:=s3 _ _ e2;have o3:=jH _ _ t7;have od:d≠o:=(aI (s1 _ _ t7) n2).symm;have IQ:d3≠o:=(aI t7 rO).symm;have ab:d3≠d:=(aI e2 n3).symm;have b4:=g2.len;have SR:∀f∈bi,md f.2:=λf hf=>by
  obtain⟨p,G,hf⟩:=vx.mp (g2.sub f hf);exact(h3 p (pm p G)).ls f hf
 have zd:Paired (cw H3) kvs bi:=aB SQ λ_ _ z=>(z.du).same s3;have oh:Paired (db H H3) kvs bi:=aB SQ λkv f z=>by
  obtain⟨z1,l,z2,J,z4⟩:=z;exact⟨z1,l,z2,s1.free J,s3 _ _ z4⟩
 have tk:∀(H':Hp) kv f,db H H' kv f->kv.1=Sum.inr f.1:=λ_ kv f z=>z.1;refine⟨jH _ _ t1,j.UT.cl,j.UT.nO,t4,o,ko,rfl,o3,λob=>?_⟩;refine GH (λi Z O=>∃u v kt,Z=[some sv,some (.ref a),some (.ref D),some (.ref d),some (.ref d3),u,v,none]/\(∀b z,H3 b=some z->b≠o->b≠d3->O b=some z)/\(∀b,O b=none->H3 b=none)/\O o=some (.frz ob (.dK ko))/\O d3=some (.dK kt)/\Paired (db H O) kt (iU bi (ow.take i)))
  ⟨none,none,kvs,rfl,λb z e hb _=>ay e hb,λb e=>(jY e).2,aD,ay e3 IQ,aB oh λkv f z=>?_⟩ ?_ ?_ ?_
 . obtain⟨z1,l,z2,J,z4⟩:=z;exact⟨z1,l,z2,J,ay z4 (aU z4 o3 (by intro z;cases z))⟩
 . intro i Z O fJ;refine bA ?_;intro tT;obtain⟨u,v,kt,rfl,_,_,h,_⟩:=fJ;exact h
 . intro i k v p Z O hi gP G;refine bA ?_;intro tT;obtain⟨u,v',kt,rfl,k5,f5,h5,pV,gm⟩:=gP;obtain⟨⟨x,b1,m1⟩,hf,a1,t,l1,l2,a2,a3,a4,a5⟩:=eZ t8 hi;have a1:k=.inr x:=a1;have a2:v=.ref t:=a2;subst a1 a2;have hm:=dH hf;have sp:ac O (af O p (.tup [kV (.inr x),.ref t])):=fR G;have K5:∀{b:Addr}{z:HO},H b=some z->(∀ks,z≠.dK ks)->(af O p (.tup [kV (.inr x),.ref t])) b=some z:=λ{b z} e hz=>sp _ _ (k5 _ _ (jH _ _ e) (aU e t7 (hz _)) (λy=>by rw[y,rO]at e;cases e));have D5:=sp _ _ (k5 _ _ de od ab.symm);refine⟨ba.of aD,rfl,rfl,?_⟩;refine⟨.inr (.inr (.inl ⟨rfl,.inl ⟨_,sp _ _ pV⟩⟩)),⟨⟨⟨?_⟩⟩⟩⟩;refine⟨b1,m1,jk bi x,K5 a3 (by intro ks z;cases z),K5 a4 (by intro ks z;cases z),K5 a5 (by intro ks z;cases z),D5,?_,g2.nd,ak0 bi x,(okO _ hm).2.1,(okO _ hm).2.2,?_,(okO _ hm).1,λe U aO n6 s6 e6 SS=>?_⟩
   . exact aB zd λkv f z=>by
      obtain⟨z1,l,z2,J⟩:=z;exact⟨z1,l,z2,sp _ _ (k5 _ _ J (aU J o3 (by intro z;cases z)) (aU J e3 (by intro z;cases z)))⟩
   . intro ls e;exact SR _ (CI e)
   have wB:=sp.trans s6;have ax:d3≠e:=aI (sp _ _ pV) n6;have pl:=bK gm;have ml:=bK SS;have h1:=SM bi (ow.take i);have h2:=ak3 (jk bi x) x b1 m1;have b5:(ow.take i).length<=8:=by rw[eP];omega
   refine⟨d3,e,kt,aO,rfl,rfl,ax,wB _ _ pV,e6,kM (by omega),?_⟩;refine⟨_,_,_,rfl,λb z e hb CF=>ay (wB _ _ (k5 _ _ e hb CF)) CF,λb e=>f5 b (wB.free (jY e).2),ay (wB _ _ h5) IQ.symm,aD,?_⟩;rw[ie,hf];show Paired _ _ (iU bi (ow.take i++[(x,b1,m1)]));rw[ak4];refine aB (ak1 (F:=db H U) (tk U) (aB SS λkv f z=>?_) (aB gm λ_ _=>db.same wB)) λkv f=>db.put (wB _ _ pV);obtain⟨z1,l,z2,J,z4⟩:=z;exact⟨z1,l,z2,jH.free (f5 _ (sp.free J)),z4⟩
 intro Z O gQ;refine bA ?_;intro tT;obtain⟨u,v,kt,rfl,k5,f5,h5,pV,gm⟩:=gQ;rw[bK t8,fo]at gm;have sF:∀b z,H3 b=some z->b≠d3->(af O o (.dK ko)) b=some z:=λb z e hb=>by
  by_cases ho:b=o
  . subst ho;rw[o3]at e;cases e;exact aD
  exact ay (k5 b z e ho hb) ho
 have sH:ac H (af O o (.dK ko)):=λb z e=>sF b z (jH _ _ e) (λy=>by rw[y,rO]at e;cases e);have CL:ac H1 (af O o (.dK ko)):=λb z e=>sF b z (s3 _ _ (s2 _ _ e)) (λy=>by rw[y,s2.free n3]at e;cases e);refine⟨CL _ _ e1,wA.same CL,by omega,λp G=>(h3 p (pm p G)).o2,λr U cm n6 s6 e6 a9 zf cl=>?_⟩;refine⟨⟨_,aa.of e6⟩,?_⟩;have rQ:=sH.trans s6;have SU:d3≠Pt:=aE.new a0 rO;have lq:aE U Pt dg df:=a0.same rQ;have rP:r≠Pt:=aE.ne lq e6 (by intro φ z;cases z);have a8:∀x∈cm,Ln x/\x.length<=20:=λx Y=>by
  obtain⟨p,G,Y⟩:=(zf x).mp Y;exact((h3 p (pm p G)).os x Y).1
 have dd:∀{b:Addr}{o:HO},U b=some o->b≠Pt->b≠d3->msk [Pt,d3] U b=some o:=λe n1 n2=>cL (by simp[n1,n2]) e;have IR:=s6 _ _ (ay (p:=o) (o':=.dK ko) pV IQ);have az:eB j.C (msk [Pt,d3] U) kX px:=aB (wA.same (CL.trans s6)) λ_ _ z=>z.off λb hb o eo=>by
  rcases be.mp hb with e | e
  . obtain⟨φ,w⟩:=aE.at lq;rw[e,w]at eo;cases eo;exact⟨(by intro _ _ _ z;cases z),(by intro _ z;cases z),(by intro _ z;cases z)⟩
  rw[bF.mp e,IR]at eo;cases eo;exact⟨(by intro _ _ _ z;cases z),(by intro _ z;cases z),(by intro _ z;cases z)⟩
 have SV:∀{b:Addr}{o:HO},H b=some o->(∀φ,o≠.ext φ)->msk [Pt,d3] U b=some o:=λe n=>dd (rQ _ _ e) (aE.ne a0 e n) (aI e rO);have a6:=SV t1 (by intro φ z;cases z);have Ic:=SV t6 (by intro φ z;cases z);have D6:msk [Pt,d3] U D=some (.lst kX):=dd (s6 _ _ (CL _ _ e1)) (aE.new a0 n1) (aI (s2 _ _ e1) n3);have r6:msk [Pt,d3] U r=some (.lst (cm.map V.str)):=dd e6 rP (aU e6 IR (by intro z;cases z));have tl:=SM bi ow;have IS:Paired (db H U) kt (iU bi ow):=aB gm λkv f z=>by
  obtain⟨z1,l,z2,J,z4⟩:=z;exact⟨z1,l,z2,J,s6 _ _ (ay z4 (aU z4 h5 (by intro z;cases z)))⟩
 have aZ:d5 (iU bi ow):=alq (λf hf=>(SR f hf).all) okO;have b3:cm.length<=4:=bX (j6 a9 λx Y=>by
  obtain⟨p,G,Y⟩:=(zf x).mp Y;exact((h3 p (pm p G)).os x Y).2) aR
 refine iK (xs:=cm.map V.str) (λi Z H7=>∃u' kvs tr,Z=[some sv,some (.ref a),some (.ref D),some (.ref d),some (.ref d3),u,v,u']/\ac (msk [Pt,d3] U) H7/\aE H7 Pt dg df/\H7 d3=some (.dK kvs)/\Paired (db H H7) kvs tr/\(tr.map (·.1)).Nodup/\tr.length<=20+i/\d5 tr/\(∀k,(∀c∈cm.take i,k≠ky c)->look tr k=look (iU bi ow) k)/\∀c∈cm.take i,∃r,look tr (ky c)=some [r]/\NB (gT c px) (rL hk c) r)
  ⟨none,kt,iU bi ow,rfl,bj,lq,IR,IS,als g2.nd ow,by omega,aZ,λ_ _=>rfl,λc hc=>nomatch hc⟩ ?_ ?_ ?_
 . intro i Z H7 hi fJ;obtain⟨u',kvs,tr,rfl,sm,_⟩:=fJ;exact aa.of (sm _ _ r6)
 . intro i v0 Z H7 hv gP;refine bA ?_;intro tT;obtain⟨u',kvs,tr,rfl,sm,CM,rR,CN,IT,l7,IU,zi,zj⟩:=gP;obtain⟨x,Y,rfl⟩:∃x,cm[i]?=some x/\v0=.str x:=by
    rw[dA]at hv;cases e:cm[i]? with
    | none=>rw[e]at hv;cases hv
    | some x=>rw[e]at hv;cases hv;exact⟨x,rfl,rfl⟩
   have xm:=dH Y;obtain⟨xl,za⟩:=a8 x xm;have b6:=bK CN;have b2:i<cm.length:=(cN.mp Y).1;refine⟨sm _ _ a6,j.UT.cl,j.UT.nH,t3,?_⟩;refine⟨sm _ _ D6,az.same sm,by omega,(zf x).mp xm,sm _ _ Ic,hok,λp G=>(h3 p (pm p G)).nm,CM,λr' H8 kp SW lr nb=>?_⟩;refine⟨Ap,λl H9 n9 s9 e9=>?_⟩;have SX:=s9 _ _ (kp _ _ rR SU);have b0:aE H9 Pt dg df:=SW.same s9;have ap:(Str.ofString "=").length<=sizeLine:=jZ (by decide +kernel);refine⟨ap,jZ (by omega),x,rfl,fit (by decide +kernel) (by omega),?_⟩;refine⟨gb.k (k:=.inr (ky x)) SX (bZ (by omega)),?_⟩;have l9:l≠d3:=(aI (kp _ _ rR SU) n9).symm;refine⟨_,cK kvs (.inr (ky x)) (.ref l),bR tr (ky x) [r'],rfl,λb o eb=>?_,aE.put SX b0,aD,?_,kZ IT,bX (jC tr _ _) (by omega),CK IU (λy hy=>by rw[bF.mp hy];exact lr),λk hk=>?_,λc hc=>?_⟩
   . have yW:b∉[Pt,d3]:=λz=>by
      unfold msk at eb;rw[aj z]at eb;cases eb
     simp only[be,fZ,f7,qw]at yW;exact ay (s9 _ _ (kp _ _ (sm _ _ eb) yW.1)) yW.2
   . have l0:H l=none:=by
      cases hz:H l with
      | none=>rfl
      | some o=>
       have lP:l≠Pt:=λz=>by
        obtain⟨φ,w⟩:=aE.at SW;rw[z,w]at n9;cases n9
       rw[kp _ _ (sm _ _ (dd (rQ _ _ hz) lP (aI hz rO))) lP]at n9;cases n9
     refine jD (tk _) ⟨rfl,l,rfl,l0,ay e9 l9⟩ (aB CN λkv f z=>?_);obtain⟨z1,l',z2,z0,J⟩:=z;exact⟨z1,l',z2,z0,ay (s9 _ _ (kp _ _ J (aE.ne CM J (by intro φ z;cases z)))) (aU J rR (by intro z;cases z))⟩
   . rw[ou Y]at hk;rw[y7,ag λz=>hk x (fe _ (bF.mpr rfl)) z.symm];exact zi k λc hc=>hk c (wO _ hc)
   rw[y7]
   by_cases z:ky x=ky c
   . rw[aj z,<-ak5 z];exact⟨r',rfl,nb⟩
   rw[ag z];rw[ou Y]at hc
   rcases b9.mp hc with hc | hc
   . exact zj c hc
   exact absurd (by rw[bF.mp hc]) z
 intro Z H7 gQ;obtain⟨u',kvs,tr,rfl,sm,CM,rR,CN,IT,l7,IU,zi,zj⟩:=gQ;rw[al]at l7 zi zj;rw[fo]at zi zj;exact⟨q d3 H7 kvs tr rO (λb o eb nb=>sm _ _ (dd (rQ _ _ eb) nb (aI eb rO))) CM rR CN IT (by omega) IU ⟨px,bi,⟨pn,λp G=>⟨pm p G,pc p G⟩⟩,g2,λk hk=>zi k λc hc=>hk c ((zf c).mp hc),λc hc=>by rw[<-aln SO];exact zj c ((zf c).mpr hc)⟩⟩
end
section
seal PE PS bW PA PT PW PG fM PI fF
theorem SY{K:Fg}{g:TG}{tb:TS}{D:Ends}{Z:L2.St}{H:Hp}(G:aa K H a [])(hd:D.nx Z H) :
 ∃W:Nat->Nat->L2.St->Hp->Prop,(∃m,W 0 m Z H)/\∀i m Z H,W i m Z H ->
  ((yn K a).stop i H/\D.nx Z H)\/((yn K a).go i H/\∃N:L2.St->Hp->Prop,(∀σ' H',N σ' H'->∃m',m'<m/\W (i+1) m' σ' H')/\∀x H',(yn K a).yld i H x H'->g x Z H' λσ2 H2=>tb { D with nx:=N,ct:=N,bk:=D.nx } σ2 H2):=
 ⟨λi m σ' H'=>i=0/\σ'=Z/\H'=H,⟨0,rfl,rfl,rfl⟩,λi m σ' H' j=>j.elim λe1 z=>z.elim λe2 e3=>by subst e1 e2 e3;exact .inl ⟨⟨[],G,aG _⟩,hd⟩⟩
theorem Ta{X:Cx}(K:Fg){es:List Expr}{k:Nat}{pos:Pos}{t:mW}{n:Nat}(G:X.calm=true)(h:fM X es t)(z:X.K=K:=by rfl)
 (J:(assignEach es X.env).length=n:=by rfl) (j:(assignEach es X.env).findIdx? (·.1)=none:=by rfl):PG X (.Tuple es k pos) (tG K n t):=z▸oP G h J j
theorem rS{H H2:Hp}{o:HO}(n:H p=none)(s:ac H H2):ac H (af H2 p o):=λb u e=>ay (s _ _ e) (aI e n)
abbrev rT (p:cu):Ls:=p.fs.map (·.1)
inductive Tb (C:Addr):Sp where
 | mk {H:Hp}{Q:VK}{E:XK}{v:V}{p:cu} (_:je C H v p) (_:p.fs.length<=100) (_:eg H (.lst ((rT p).map V.str)) Q):Tb C [v] H Q E
theorem alG:aK [as2] [as2] (av Px):=aQ
theorem Tc(z:Pg K mg base Pt):au P w K mg base aL 1 z.PaO.f z.PaO.fd [as2] (Tb z.C):=by
 refine z.PaO.u.okL alG ?_;intro ar A outer s H vs Q E hr h xX dX;obtain @⟨_,_,_,v,p,⟨a,dx,fl,rk,m,pf,pn,ps,po,xs,rfl,hA,hF,hM,Y,lj,_⟩,B9,q⟩:=h;have hl:=bK lj;refine⟨_,(ai (aN (fT [asZ,atd] [] [] dN rfl (cH (bJ (pv 0) rfl)) (λ_ _ _ _=>(Ta (n:=2) K rfl (gz (bf (i:=0) (show List.Nodup ([asZ,atd]:Ls) by decide +kernel) rfl (Or.inl rfl)) (gz (bf (i:=1) (show List.Nodup ([asZ,atd]:Ls) by decide +kernel) rfl (Or.inl rfl)) mX)))) (λ_ _ _ _=>ge) (λ_ _ _ _=>(pv 0))))),?_⟩;refine⟨hA,z.TC.cl,z.TC.nF,hF.files,⟨_,aa.of Y⟩,?_⟩;intro D O;refine Cb (σ0:=[none,none]) O (aa.of Y) (λZ=>∃u v,Z=[u,v]) (λj zs _=>zs=((rT p).take j).map V.str) ⟨_,_,rfl⟩ rfl ?_ ?_
 . rintro j y zs Z H3 k hy ⟨u,v,rfl⟩ G J rfl fG;obtain⟨f,U,t,l,rfl,f1,f2⟩:=eZ lj hy;have aO:=(cN.mp U).1;have FL:(rT p)[j]?=some f.1:=by rw[dA,U];rfl
   refine⟨ba.of (J _ _ f1),rfl,rfl,?_⟩;refine⟨fG _ _ _ ⟨_,_,rfl⟩ (ac.refl _) (bZ (by rw[al,eP];omega)) ?_⟩;rw[ou FL,dJ];rfl
 rintro zs H3 G J rfl;have e:(rT p).take xs.length=rT p:=VO (by rw[al];omega);rw[e]at G;exact q D H3 O J G
inductive zk (C:Addr):Sp where
 | mk {H:Hp}{Q:VK}{E:XK}{v:V}{a:Addr}{xs:Lv}{p:cu}{ps:Lp} (_:je C H v p) (_:H a=some (.lst xs)) (_:eB C H xs ps) (_:ps.length<=9) (_:p.fs.length<=9) (_:(∀o∈ps,o.fs.length<=9)) (_:(∀o∈ps,o.nm≠p.nm->∀x∈rT p,x∉rT o)) (_:eg H (.lst []) Q):zk C [v,.ref a] H Q E
theorem CO:aK [as2,as1,"faults",ats,"claim"] [as2,as1] (av Ps):=aQ
theorem alH(j:Pg K mg base Pt):au P w K mg base aL 1 j.NFa.f j.NFa.fd [as2,as1] (zk j.C):=by
 refine j.NFa.u.okL CO ?_;intro U A outer s H vs Q E hr h xX dX;obtain @⟨_,_,_,v,a,xs,p,ps,⟨b,dx,fl,rk,m,pf,pn,jK,po,fx,rfl,J,O,hM,jI,lj,hO,hR,G,_⟩,ha,Y,l1,l2,l3,l4,q⟩:=h;refine⟨_,(ah (aF (i:=2) CO.nd rfl (Or.inl rfl) (cU d8))
  (ah (eS eR rfl (Of (by rfl) j.B.enumerate (am (bJ (pv 0) rfl))) (oP rfl (gz (bf (i:=3) CO.nd rfl (Or.inl rfl)) (gz (bf (i:=4) CO.nd rfl (Or.inl rfl)) mX)))
  mV)
  (ai (aN (pv 2))))),?_⟩
 refine jb ?_
 intros
 refine⟨AI,λp1 H1 n1 z e1=>?_⟩;refine⟨z _ _ J,j.TC.cl,j.TC.nE,O.needs,pn,rfl,⟨_,aa.of (z _ _ G)⟩,?_⟩;exact SY (aa.of (z _ _ G)) ⟨q p1 H1 n1 z e1⟩
theorem zq:aK [as2,as1,atP,"faults",ats,"claim"] [as2,as1] (av Pu):=aQ
theorem alI(z:Pg K mg base Pt):au P w K mg base aL 1 z.SFa.f z.SFa.fd [as2,as1] (zk z.C):=by
 refine z.SFa.u.okL zq ?_;intro ar A outer s H vs Q E hr h xX dX;obtain @⟨_,_,_,v,a,xs,p,ps,⟨b,dx,fl,rk,m,pf,pn,jK,po,fx,rfl,U,Y,hM,jI,lj,hO,hR,_,zn⟩,ha,O,l1,l2,l3,l4,q⟩:=h;have a0:=bK O;refine⟨_,(ah (qT (i:=2) [atf] [as2] [0] zq.nd rfl rfl dN rfl (cH (pv 1)) (λ_ _ _ _=>(bf (i:=0) (show List.Nodup ([atf,as2]:Ls) by decide +kernel) rfl (Or.inl rfl))) (λ_ _ _ _=>o9 (bq AC (iM K (pv 0) rfl) (iM K (pv 1) rfl) (bh _))) (λ_ _ _ _=>(pv 0)))
  (ah (aF (i:=3) zq.nd rfl (Or.inl rfl) (cU d8))
  (ah (eS eR rfl (Of (by rfl) z.B.enumerate (am (bJ (pv 0) rfl))) (oP rfl (gz (bf (i:=4) zq.nd rfl (Or.inr rfl)) (gz (bf (i:=5) zq.nd rfl (Or.inl rfl)) mX)))
  mV)
  (ai (aN (pv 3)))))),?_⟩
 refine kO ?_
 intros
 refine⟨⟨_,aa.of ha⟩,?_⟩;intro D hD;refine rK (σ0:=[none,some (.ref b)]) hD (aa.of ha) (λZ=>∃v,Z=[v,some (.ref b)]) (λj zs _=>zs.length<=j) ⟨_,rfl⟩ (aG _) ?_ ?_
 . rintro j y zs Z H3 k k' hy ⟨v,rfl⟩ de G zl fG jg;obtain⟨o,ho,hE⟩:=eZ O hy;have aO:=(cN.mp ho).1;obtain⟨b',ku,ri,Ci,m',Td,Te,Tf,Tg,Th,rfl,CP,CQ,_⟩:=id hE;refine⟨G _ _ CP,z.TC.cl,z.TC.nN,CQ.name,G _ _ U,z.TC.cl,z.TC.nN,Y.name,rfl,⟨?_⟩⟩;refine bv (λh=>?_) (λh=>?_)
   . exact⟨fG _ _ _ ⟨_,rfl⟩ (ac.refl _) (bZ (by omega)) (by rw[bH,jp];omega)⟩
   exact jg _ _ ⟨_,rfl⟩ (ac.refl _) (by omega)
 rintro zs H3 de G zl;refine bA ?_;intro tT;refine⟨AI,λp1 H1 n1 s1 e1=>?_⟩;have J:=G.trans s1;refine⟨J _ _ U,z.TC.cl,z.TC.nS,Y.shuts,jK,rfl,⟨_,aa.of (J _ _ zn)⟩,?_⟩;exact SY (aa.of (J _ _ zn)) ⟨q p1 H1 (G.free n1) J e1⟩
theorem zt:aK [as2,as1,atP,"faults",atf,"paths"] [as2,as1] (av Pw):=aQ
theorem alJ(G:Pg K mg base Pt):au P w K mg base aL 2 G.CFa.f G.CFa.fd [as2,as1] (zk G.C):=by
 refine G.CFa.u.okL zt ?_;intro ar A outer s H vs Q E hr h xX dX;obtain @⟨_,_,_,v,a,xs,p,ps,hP,ha,bM,l1,l2,l3,l4,q⟩:=h;obtain⟨b,dx,fl,rk,m,pf,pn,jK,po,fx,rfl,hA,hF,_⟩:=id hP;have a2:=bK bM;refine⟨_,(ah (qT (i:=2) [atf] [as2] [0] zt.nd rfl rfl dN rfl (cH (pv 1)) (λ_ _ _ _=>(bf (i:=0) (show List.Nodup ([atf,as2]:Ls) by decide +kernel) rfl (Or.inl rfl))) (λ_ _ _ _=>o9 (bq Og (iM K (pv 0) rfl) (iM K (pv 1) rfl) (bh _))) (λ_ _ _ _=>(pv 0)))
  (ah (aF (i:=3) zt.nd rfl (Or.inl rfl) (cU d8))
  (ah (eS eR rfl (cH (pv 2)) (bf (i:=4) zt.nd rfl (Or.inr rfl))
  (ah (aF (i:=5) zt.nd rfl (Or.inr rfl) (aA (Tc G) hr rfl (am (pv 4))))
   (ai (bC (dC iW qy qz nj (pv 3) (am (fT [asZ] [as2,atf,"paths"] [0,4,5] dN rfl (cH (aA (Tc G) hr rfl (am (pv 0)))) (λ_ _ _ _=>(bf (i:=0) (show List.Nodup ([asZ,as2,atf,"paths"]:Ls) by decide +kernel) rfl (Or.inl rfl))) (λ_ _ _ _=>o9 (bq (ML K) (pv 0) (pv 3) (by rfl))) (λ_ _ _ _=>(dE (qV bB (iM K (pv 1) rfl) (iM K (pv 2) rfl) (pv 0)))))))))))
  (ai (aN (pv 3)))))),?_⟩
 refine kO ?_
 intros
 refine⟨⟨_,aa.of ha⟩,?_⟩;intro D hD;refine rK (σ0:=[none,some (.ref b)]) hD (aa.of ha) (λZ=>∃v,Z=[v,some (.ref b)]) (λj zs _=>zs.length<=j/\∃os,eB G.C H zs os/\∀o∈os,o∈ps/\o.nm≠p.nm) ⟨_,rfl⟩ ⟨aG _,[],.nil,λ_ h=>nomatch h⟩ ?_ ?_
 . rintro j y zs Z H3 k k' J ⟨v,rfl⟩ de h3 ⟨zl,os,zp,zo⟩ fG jg;obtain⟨o,Y,U⟩:=eZ bM J;have aO:=(cN.mp Y).1;obtain⟨b',ku,ri,Ci,m',Td,Te,Tf,Tg,Th,rfl,CP,CQ,_⟩:=id U;refine⟨h3 _ _ CP,G.TC.cl,G.TC.nN,CQ.name,h3 _ _ hA,G.TC.cl,G.TC.nN,hF.name,_,_,rfl,rfl,⟨?_⟩⟩;refine bv (λh=>?_) (λh=>?_)
   . refine⟨fG _ _ _ ⟨_,rfl⟩ (ac.refl _) (bZ (by omega)) ⟨by rw[bH,jp];omega,os++[o],jd U zp,λo' ii=>?_⟩⟩
     rcases b9.mp ii with z | z
     . exact zo o' z
     rw[bF.mp z];refine⟨dH Y,λe=>?_⟩;have h:=cW h;rw[e]at h;exact Wg _ h
   exact jg _ _ ⟨_,rfl⟩ (ac.refl _) ⟨by omega,os,zp,zo⟩
 rintro oz H0 d0 s0 ⟨zl,os,a1,zo⟩;refine bA ?_;intro tT;refine⟨AI,λp1 H1 n1 s1 e1=>?_⟩;refine⟨⟨_,aa.of (s1 _ _ d0)⟩,?_⟩;have zr:=s0.trans s1;refine iK (xs:=oz) (λi Z H2=>∃u v,Z=[some (.ref b),some (.ref a),some (.ref D),some (.ref p1),u,v]/\ac H0 H2/\H2 p1=some (.lst [])) ⟨none,none,rfl,s1,e1⟩ ?_ ?_ ?_
 . rintro i Z H2 hi ⟨u,v,rfl,O,e2⟩;exact aa.of (O _ _ d0)
 . intro i z Z H2 hz hQ;refine bA ?_;intro tT;obtain⟨u,v,rfl,O,e2⟩:=hQ;obtain⟨o,Y,U⟩:=eZ a1 hz;obtain⟨om,on⟩:=zo o (dH Y);have lo:=l3 o om;obtain⟨b',ku,ri,Ci,m',Td,Te,Tf,Tg,Th,rfl,CP,CQ,_⟩:=id U;have lB:=s0.trans O;refine⟨U.same lB,by omega,λl5 H5 n5 s5 e5=>?_⟩;have rV:=lB.trans s5;refine⟨.inl ⟨rfl,_,aa.of (s5 _ _ e2)⟩,hP.same rV,by omega,λl6 H6 n6 s6 e6=>⟨⟨_,aa.of e6⟩,?_⟩⟩;intro D7 oA;refine rK (σ0:=[none,some (.ref b),some (.ref b'),some (.ref l5)]) oA (aa.of e6) (λZ=>∃v,Z=[v,some (.ref b),some (.ref b'),some (.ref l5)]) (λj kj H7=>kj=[]) ⟨_,rfl⟩ rfl ?_ ?_
   . rintro j y kj Z H7 k k' J ⟨v,rfl⟩ rR h7 rfl fG jg;rw[dA]at J;cases hx:(rT p)[j]? with
     | none=>rw[hx]at J;cases J
     | some x=>
      rw[hx]at J;cases J;refine⟨.inl (aa.of (h7 _ _ (s6 _ _ e5))),rfl,yV _,⟨?_⟩⟩;refine bv (λh=>?_) (λh=>?_)
      . exact absurd (y6.mp h) (l4 o om on x (dH hx))
      exact jg _ _ ⟨_,rfl⟩ (ac.refl _) rfl
   rintro kj H7 rR h7 rfl;have uY:=s5.trans (s6.trans h7);have a0:=uY _ _ e2;refine⟨a0,rR,by decide,?_⟩;exact⟨_,_,rfl,rS n1 (O.trans uY),aD⟩
 rintro Z H2 ⟨u,v,rfl,O,e2⟩;exact⟨q p1 H2 (s0.free n1) (s0.trans O) e2⟩
inductive Ti (C S:Addr):Sp where
 | mk {H:Hp}{Q:VK}{E:XK}{j:V}{c:Addr}{xs:Lv}{ps:Lp}{ch:Ch}{ns:Ls} (_:jf S H j xs ps) (_:eB C H xs ps) (_:Apart ns ps) (_:dq H c ch) (_:pN xs ps ch) (_:ch.length<=4) (_:eg H (.lst []) Q):Ti C S [j,.ref c] H Q E
theorem CS:aK [asY,as6,as1,"faults",as2] [asY,as6] (av Pn):=aQ
theorem alM(j:Pg K mg base Pt):au P w K mg base aL 3 j.FaO.f j.FaO.fd [asY,as6] (Ti j.C j.S):=by
 refine j.FaO.u.okL CS ?_;intro ar A outer s H vs Q E J h xX dX;obtain @⟨_,_,_,sv,c,xs,ps,ch,ns,hS,hP,zu,hc,hV,h4,q⟩:=h;refine⟨_,(ah (aF (i:=2) CS.nd rfl (Or.inl rfl) (aA (G6 j) J rfl (aC (pv 0) (pv 1))))
  (ah (aF (i:=3) CS.nd rfl (Or.inl rfl) (cU d8))
  (ah (eS eR rfl (cH (pv 2)) (bf (i:=4) CS.nd rfl (Or.inl rfl))
  (ah (bC (dC iW qy qz nj (pv 3) (am (aA (alH j) J rfl (aC (pv 4) (pv 2))))))
   (ah (bC (dC iW qy qz nj (pv 3) (am (aA (alI j) J rfl (aC (pv 4) (pv 2))))))
   (ai (bC (dC iW qy qz nj (pv 3) (am (aA (alJ j) J rfl (aC (pv 4) (pv 2))))))))))
  (ai (aN (cJ acS (by rfl) j.B.sorted xi (am (pv 3)))))))),?_⟩
 refine kO ?_
 intros
 refine⟨hS,hc,hV,by omega,λD H1 kX px n1 s1 e1 pr pn pc=>?_⟩;have wA:=G9 (hP.same s1) pr;have pm:=Hd pr;have dL:px.length<=4:=by
  have e:=pn.length_eq;rw[al,al]at e;omega
 refine⟨AI,λp1 H2 n2 s2 e2=>?_⟩;refine⟨⟨_,aa.of (s2 _ _ e1)⟩,?_⟩;refine iK (xs:=kX) (λi Z H3=>∃u,Z=[some sv,some (.ref c),some (.ref D),some (.ref p1),u]/\ac H1 H3/\H3 p1=some (.lst [])) ⟨none,rfl,s2,e2⟩ ?_ ?_ ?_
 . rintro i Z H3 hi ⟨u,rfl,s3,e3⟩;exact aa.of (s3 _ _ e1)
 . intro i z Z H3 hz hQ;refine bA ?_;intro tT;obtain⟨u,rfl,s3,e3⟩:=hQ;obtain⟨p,hp,hE⟩:=eZ wA hz;have pp:=pm p (dH hp);have Y:∀{G:Hp}{Q:VK},ac H1 G->eg G (.lst []) Q->zk j.C [z,.ref D] G Q E0:=λ{G Q} sx q=>⟨hE.same sx,sx _ _ e1,wA.same sx,by omega,by have:=(zu.ok p pp).1;omega,λo ho=>by have:=(zu.ok o (pm o ho)).1;omega,λo ho ne x hx ig=>ne (zu.one o (pm o ho) p pp x ig hx),q⟩;refine⟨.inl ⟨rfl,_,aa.of e3⟩,⟨⟨Y s3 λD4 U n4 O e4=>?_⟩⟩⟩;have m4:ac H1 (af U p1 (.lst ([]++[]))):=rS n2 (s3.trans O);refine⟨O _ _ e3,e4,by decide,?_⟩;refine⟨.inl ⟨rfl,_,aa.of aD⟩,⟨⟨Y m4 λD5 H5 n5 s5 e5=>?_⟩⟩⟩;have m5:ac H1 (af H5 p1 (.lst (([]++[])++[]))):=rS n2 (m4.trans s5);refine⟨s5 _ _ aD,e5,by decide,?_⟩;refine⟨.inl ⟨rfl,_,aa.of aD⟩,⟨⟨Y m5 λD6 H6 n6 s6 e6=>?_⟩⟩⟩;refine⟨s6 _ _ aD,e6,by decide,?_⟩;exact⟨_,rfl,rS n2 (m5.trans s6),aD⟩
 rintro Z H3 ⟨u,rfl,s3,e3⟩;refine⟨p1,[],rfl,aa.of e3,by decide,λce a0 srt p4 U n4 O e4=>?_⟩;have ey:ce=[]:=a0.eq_nil;subst ey;exact q p4 U (s1.free (s3.free n4)) (s1.trans (s3.trans O)) e4
inductive Tj (C S:Addr):Sp where
 | mk {H:Hp}{Q:VK}{E:XK}{j:V}{c:Addr}{xs:Lv}{ps:Lp}{ch:Ch}{ns:Ls} (_:jf S H j xs ps) (_:eB C H xs ps) (_:Apart ns ps) (_:dq H c ch) (_:pN xs ps ch) (_:ch.length<=4) (_:∀H',ac H H'->Q (.bl true) H'):Tj C S [j,.ref c] H Q E
theorem alO:aK [asY,as6] [asY,as6] (av Pp):=aQ
theorem alP(j:Pg K mg base Pt):au P w K mg base aL 4 j.Sou.f j.Sou.fd [asY,as6] (Tj j.C j.S):=by
 refine j.Sou.u.okL alO ?_;intro ar A outer s H vs Q E Y h xX dX;obtain @⟨_,_,_,sv,c,xs,ps,ch,ns,J,G,zu,U,O,z,q⟩:=h;refine⟨_,(ai (aN (qJ cT (cJ gL (by rfl) j.B.len gy (am (aA (alM j) Y rfl (aC (pv 0) (pv 1))))) ak (bh _)))),?_⟩;exact⟨J,G,zu,U,O,z,λr H1 n1 s1 e1=>⟨r,_,rfl,.inl (aa.of e1),rfl,q H1 s1⟩⟩
variable {H:Hp}{xs:Lv}{ps:Lp}{ns:Ls}{v:V}{A:List Addr}{n:Str}
structure jm(C S:Addr)(H:Hp)(sv:V)(xs:Lv)(ps:Lp)(ns:Ls):Prop where
 sh:jf S H sv xs ps
 pc:eB C H xs ps
 ap:Apart ns ps
 n4:ns.length<=4
 nm:∀n∈ns,cM n
theorem jm.same{H':Hp}{j:V}(h:jm C S H j xs ps ns)(s:ac H H'):jm C S H' j xs ps ns:=⟨h.sh.same s,h.pc.same s,h.ap,h.n4,h.nm⟩
theorem jm.pcok{O:V}(h:jm C S H O xs ps ns):∀p∈ps,SK ns p:=λp j=>by
 obtain⟨a,b,c⟩:=h.ap.ok p j;obtain⟨d,e⟩:=h.ap.offs p j;exact⟨a,λf G=>⟨by have:=(b f G).2.2;omega,λx J=>((b f G).2.1 x J).ln⟩,d,(h.nm _ (h.ap.nms p j)).ln,λt z=>⟨⟨(h.nm t (e t z)).ln,by have:=(h.nm t (e t z)).hi;omega⟩,e t z⟩⟩
structure eO(xs:Lv)(ps:Lp)(ch:Ch):Prop where
 nd:(ch.map (·.1)).Nodup
 va:pN xs ps ch
theorem IV{p:cu}(h:uN xs ps v p):p∈ps:=h.elim λ_ j=>j.elim λa _=>dH a
theorem eO.len{ch:Ch}(h:eO xs ps ch)(a:Apart ns ps)(G:ns.length<=4):ch.length<=4:=by
 have:=j6 h.nd λx z=>by
  obtain⟨e,j,rfl⟩:=cC.mp z;obtain⟨v,p,hi,e1,_⟩:=h.va e j;exact e1▸a.nms p (IV hi)
 rw[al]at this;omega
theorem alR{β:Type}{j now:List (Str×β)}{x:Str}{e:Str×β}(h:e∈bN j now x):e∈now\/e∈j:=by
 unfold bN at h;split at h
 . rename_i m G
   rcases mv h with z | z
   . right;rw[z];exact pT G
   exact .inl z
 exact .inl (qk.mp h).1
theorem eO.step{now j:Ch}(h:eO xs ps now)(g:eO xs ps j)(x:Str):eO xs ps (bN j now x):=⟨Sc h.nd,λe z=>(alR z).elim (h.va e) (g.va e)⟩
theorem eO.steps{j:Ch}(g:eO xs ps j):∀{us:Ls}{now:Ch},eO xs ps now->eO xs ps (us.foldl (bN j) now)
 | [],_,h=>h
 | x::us,_,h=>eO.steps g (us:=us) (h.step g x)
theorem dq.mut{zs U:Lv}{ch:Ch}(j:H D=some (.lst zs))(h:dq H c ch):dq (af H D (.lst U)) c ch:=by
 obtain⟨kvs,h1,h2⟩:=h;exact⟨kvs,ay h1 (aU h1 j (by intro z;cases z)),aB h2 λkv e G=>G.elim λa J=>J.elim λm O=>O.elim λb c=>⟨a,m,b,ay c (aU c j (by intro z;cases z))⟩⟩
theorem IW{kvs:List (ao×V)}{fs:Ch}(h:Paired (dQ H) kvs fs)(nd:(fs.map (·.1)).Nodup)(p:Str):(look fs p=none/\bc kvs (.inr p)=none)\/(∃m t,look fs p=some m/\bc kvs (.inr p)=some (.ref t)/\H t=some (.tup (m.map V.int))):=by
 have G:∀kv f,dQ H kv f->kv.1=Sum.inr f.1:=λkv f z=>z.1
 by_cases j:p∈fs.map (·.1)
 . obtain⟨v,m,e,J,r⟩:=pG G h j;obtain⟨_,t,e2,e3⟩:=r;have e2:v=.ref t:=e2;exact .inr ⟨m,t,wt nd J,by rw[e,e2],e3⟩
 exact .inl ⟨iB.mpr j,yA G h j⟩
def IX:Oi->W.Dat
 | none=>.none
 | some m=>dI m
theorem alV{a b:Oi}(h:IX a=IX b):a=b:=by
 cases a with
 | none=>
  cases b with
  | none=>rfl
  | some y=>cases h
 | some x=>
  cases b with
  | none=>cases h
  | some y=>rw[ajm.mp h]
def iC(A:List Addr)(H:Hp)(v:V)(n:Str):Prop:=∃l,v=.ref l/\l∉A/\H l=some (.lst [.str n])
theorem iC.same{H':Hp}(s:ac H H')(h:iC A H v n):iC A H' v n:=h.elim λl j=>j.elim λa z=>z.elim λb c=>⟨l,a,b,s _ _ c⟩
theorem iC.mut(j:D∈A){o:HO}(h:iC A H v n):iC A (af H D o) v n:=by
 obtain⟨l,a,b,c⟩:=h;exact⟨l,a,b,by rw[aX (show l≠D from λz=>b (by rw[z];exact j))];exact c⟩
theorem iC.sub{B:List Addr}(hs:∀x∈B,x∈A)(h:iC A H v n):iC B H v n:=h.elim λl j=>j.elim λa G=>G.elim λb c=>⟨l,a,λz=>b (hs l z),c⟩
abbrev al0:Sp:=Cz dQ λ_=>True
theorem Tk(j:Pg K mg base Pt):au P w K mg base aL 1 j.KUn.f j.KUn.fd [atv,atu] al0:=
 Sg (Fv:=dQ) (OK:=λ_=>True) (dat:=IX) (λ_ _ _ z=>z.1) (λs z=>dQ.same s z) alV (λh nd _ p=>by
  rcases IW h nd p with⟨e1,e2⟩ | ⟨m,t,e1,e2,e3⟩
  . rw[e1,e2];exact⟨.non,rfl⟩
  rw[e1,e2];exact⟨Hf e3,Cc 8 m⟩) j
inductive Tl:Sp where
 | mk {H:Hp}{Q:VK}{E:XK}{a b c:Addr}{now j:Ch}{x:Str} (_:dq H a now) (_:dq H b j) (_:(now.map (·.1)).Nodup) (_:(j.map (·.1)).Nodup) (_:H c=some (.lst [.str x])) (_:now.length<=50) (_:∀r H',H r=none->ac H H'->dq H' r (bN j now x)->Q (.ref r) H'):Tl [.ref a,.ref b,.ref c] H Q E
theorem IY:aK [aty,ath,atB,"behind",as5] [aty,ath,atB] (av PN):=aQ
theorem IZ(O:Pg K mg base Pt):au P w K mg base aL 1 O.Beh.f O.Beh.fd [aty,ath,atB] Tl:=by
 refine O.Beh.u.okL IY ?_;intro ar A outer s H vs Q E hr h xX dX;obtain @⟨_,_,_,a,b,c,now,Y,x,⟨kn,hn,pn⟩,⟨kg,hg,pg⟩,IB,IC,hc,hl,q⟩:=h;have J:=hr.units;refine⟨_,(ah (aF (i:=3) IY.nd rfl (Or.inl rfl) (eT xU (by rfl) O.B.dict DM (am (pv 0))))
  (ah (eS eR rfl (cH (pv 2)) (bf (i:=4) IY.nd rfl (Or.inl rfl))
  (ai (bu (oO (vJ J (pv 4) (pv 1)) (by rfl))
   (ai (i8 J (pv 3) (pv 4) (qO J (pv 1) (pv 4) (λ_ _=>rfl)) rfl)) (ai (bu (oO (vJ J (pv 4) (pv 3)) (by rfl))
    (ai (bC (EK (pv 3) (pv 4) ⟨rfl,rfl,rfl,rfl⟩))) bI)))))
  (ai (aN (pv 3))))),?_⟩
 refine jb ?_;intro dD sS gk dY;have pl:=bK pn;have hk:∀kv f,dQ H kv f->kv.1=Sum.inr f.1:=λkv f z=>z.1;refine⟨a,_,rfl,hn,λp1 H1 n1 s1 e1=>?_⟩;refine⟨⟨_,aa.of (s1 _ _ hc)⟩,?_⟩;refine iK (xs:=[.str x]) (λi Z H2=>∃u kvs,Z=[some (.ref a),some (.ref b),some (.ref c),some (.ref p1),u]/\ac H H2/\H2 p1=some (.dK kvs)/\Paired (dQ H) kvs (if i=0 then now else bN Y now x)) ⟨none,kn,rfl,s1,e1,pn⟩ ?_ ?_ ?_
 . rintro i Z H2 hi ⟨u,kvs,rfl,j,_⟩;exact aa.of (j _ _ hc)
 . intro i x' Z H2 hx hQ;refine bA ?_;intro tT;obtain⟨u,kvs,rfl,j,e2,p2⟩:=hQ;have i0:i=0:=by have:=(cN.mp hx).1;simpa using this
   subst i0;cases hx;rw[aj rfl]at p2;have kl:=bK p2;have CT:=j _ _ hg;refine⟨_,cO.k (k:=.inr x) CT,⟨?_⟩⟩
   rcases IW pg IC x with⟨U,G⟩ | ⟨m,t,U,G,g3⟩
   . rw[G];refine di ?_;have es:bN Y now x=iT now x:=by unfold bN;rw[U]
     refine⟨_,cO.k (k:=.inr x) e2,⟨?_⟩⟩
     rcases IW p2 IB x with⟨k1,k2⟩ | ⟨m,t,k1,k2,k3⟩
     . rw[k2];refine di ⟨_,kvs,rfl,j,e2,?_⟩;rw[ag (by decide),es,Cq (iB.mp k1)];exact p2
     rw[k2];refine gc ⟨.inl ⟨_,.inl e2⟩,kvs,.inr x,.ref t,e2,rfl,k2,?_⟩;refine⟨_,_,rfl,rS n1 j,aD,?_⟩;rw[ag (by decide),es];exact Cp hk p2
   rw[G];refine gc ⟨by rw[<-G];exact cO.k (k:=.inr x) CT,gb.k (k:=.inr x) e2 (bZ (by omega)),?_⟩;refine⟨_,_,rfl,rS n1 j,aD,?_⟩;have es:bN Y now x=bR now x m:=by unfold bN;rw[U]
   rw[ag (by decide),es];exact jD hk ⟨rfl,t,rfl,g3⟩ p2
 rintro Z H2 ⟨u,kvs,rfl,j,e2,p2⟩;rw[ag (by simp)]at p2;exact⟨q p1 H2 n1 j ⟨kvs,e2,aB p2 λ_ _=>dQ.same j⟩⟩
inductive Tn:Sp where
 | mk {H:Hp}{Q:VK}{E:XK}{a b z:Addr}{names:Ls} (_:H a=some (.lst [.ref z])) (_:H z=some (.lst [])) (_:H b=some (.lst (names.map V.str))) (_:names.length<=50) (_:∀l ys H',H l=none->ac H H'->H' l=some (.lst ys)->Paired (iC [] H') ys names->Q (.ref l) H'):Tn [.ref a,.ref b] H Q E
theorem I8:aK [atQ,atJ,"larger",atB] [atQ,atJ] (av PQ):=aQ
theorem al1(zZ:Pg K mg base Pt):au P w K mg base aL 1 zZ.Wom.f zZ.Wom.fd [atQ,atJ] Tn:=by
 refine zZ.Wom.u.okL I8 ?_;intro ar A outer s H vs Q E hr h xX dX;obtain @⟨_,_,_,a,b,z,names,ha,hz,hb,n1,q⟩:=h;refine⟨_,(ah (aF (i:=2) I8.nd rfl (Or.inl rfl) (cU d8))
  (ah (eS eR rfl (cH (pv 0)) (bf (i:=3) I8.nd rfl (Or.inr rfl))
  (ai (bC (dC iW qy qz nj (pv 2) (am (fT [as5] [atB] [3] dN rfl (cH (pv 1)) (λ_ _ _ _=>(bf (i:=0) (show List.Nodup ([as5,atB]:Ls) by decide +kernel) rfl (Or.inl rfl))) (λ_ _ _ _=>o9 (PW.pt (tE (bq cT (cJ (acs K) (by rfl) zZ.B.len gy (am (pv 1))) ak (bh _)) (vC (bq Og (pv 0) (bP (EZ K) (pv 1) (tN tO ak) (λ_ _=>rfl)) (bh _)))))) (λ_ _ _ _=>(aJ vL (pv 1) (cU (am (pv 0)))))))))))
  (ai (aN (pv 2))))),?_⟩
 refine jb ?_;intro dD sS gk dY;refine⟨AI,λp1 H1 Hi s1 e1=>?_⟩;refine⟨⟨_,aa.of (s1 _ _ ha)⟩,?_⟩;refine iK (xs:=[.ref z]) (λi Z H2=>∃u ys,Z=[some (.ref a),some (.ref b),some (.ref p1),u]/\ac H H2/\H2 p1=some (.lst ys)/\Paired (iC [p1] H2) ys (if i=0 then [] else names)) ⟨none,[],rfl,s1,e1,.nil⟩ ?_ ?_ ?_
 . rintro i Z H2 hi ⟨u,ys,rfl,G,_⟩;exact aa.of (G _ _ ha)
 . intro i x Z H2 hx hQ;refine bA ?_;intro tT;obtain⟨u,ys,rfl,G,e2,p2⟩:=hQ;have i0:i=0:=by have:=(cN.mp hx).1;simpa using this
   subst i0;cases hx;cases p2;refine⟨.inl ⟨rfl,_,aa.of e2⟩,⟨_,aa.of (G _ _ hb)⟩,?_⟩;intro D hD;have nD:p1≠D:=λz=>by rw[<-z,e2]at hD;cases hD
   refine rK (σ0:=[none,some (.ref z)]) hD (aa.of (G _ _ hb)) (λZ=>∃v,Z=[v,some (.ref z)]) (λj ws H3=>Paired (iC [D,p1] H3) ws (names.take j)) ⟨_,rfl⟩ .nil ?_ ?_
   . rintro j y ws Z H3 k k' U ⟨v,rfl⟩ de O J fG jg;rw[dA]at U;cases hn:names[j]? with
     | none=>rw[hn]at U;cases U
     | some n=>
      rw[hn]at U;cases U;have To:=O _ _ (G _ _ hz);have wl:=bK J;rw[eP]at wl;refine⟨z,_,rfl,.inl (aa.of To),rfl,⟨gc (gc ⟨Ap,λp5 H5 n5 s5 e5=>?_⟩)⟩⟩;refine⟨s5 _ _ To,e5,(show 0+1<=sizeLine by decide),λp6 H6 n6 s6 e6=>?_⟩;have Tp:=s5.trans s6;refine fG _ _ _ ⟨_,rfl⟩ Tp (bZ (by omega)) ?_;rw[ou hn];refine jd (iC.mut (by simp) ⟨p6,rfl,?_,e6⟩) (aB J λ_ _ z=>(z.same Tp).mut (by simp));intro z;have Y:H3 p6=none:=s5.free n6
      rcases be.mp z with e | e
      . rw[e,de]at Y;cases Y
      rw[bF.mp e]at Y;have:=O _ _ e2;rw[this]at Y;cases Y
   rintro ws H3 de O J;rw[al,fo]at J;have wl:=bK J;have a0:=O _ _ e2;refine⟨a0,de,kM (by simp;omega),?_⟩;refine⟨_,_,rfl,rS Hi (G.trans O),aD,?_⟩;rw[ag (by decide)];exact aB J λ_ _ z=>(z.mut (D:=p1) (by simp)).sub (by simp)
 rintro Z H2 ⟨u,ys,rfl,G,e2,p2⟩;rw[ag (by simp)]at p2;exact⟨q p1 ys H2 Hi G e2 (aB p2 λ_ _ z=>z.sub (by simp))⟩
inductive Tq (C S:Addr):Sp where
 | mk {H:Hp}{Q:VK}{E:XK}{z:V}{a b c:Addr}{xs:Lv}{ps:Lp}{ns:Ls}{now j:Ch}{x:Str}{names:Ls} (_:jm C S H z xs ps ns) (_:dq H a now) (_:dq H b j) (_:eO xs ps now) (_:eO xs ps j) (_:H c=some (.lst ((x::names).map V.str))) (_:names.length<=40) (_:∀l H',ac H H'->H' l=some (.lst [.str x])->Q (.ref l) H'):Tq C S [z,.ref a,.ref b,.ref c] H Q E
theorem zw:aK [asY,aty,ath,atJ,atQ,"many",atB] [asY,aty,ath,atJ] (av PP):=aQ
theorem al3(G:Pg K mg base Pt):au P w K mg base aL 5 G.Fst.f G.Fst.fd [asY,aty,ath,atJ] (Tq G.C G.S):=by
 refine G.Fst.u.okL zw ?_;intro ar A outer s H vs Q E hr h xX dX;obtain @⟨_,_,_,sv,a,b,c,xs,ps,ns,now,a0,x,names,O,hA,hB,k1,k2,Y,a1,q⟩:=h;refine⟨_,(ah (aF (i:=4) zw.nd rfl (Or.inl rfl) (cU (am (cU d8))))
  (ah (eS eR rfl (KQ rfl G.B.range (aC ak (cJ gL (by rfl) G.B.len gy (am (pv 3))))) (bf (i:=5) zw.nd rfl (Or.inl rfl))
  (ah (aF (i:=4) zw.nd rfl (Or.inl rfl) (aA (al1 G) hr rfl (aC (pv 4) (pv 3))))
   (ai (eS eR rfl (cH (pv 4)) (bf (i:=6) zw.nd rfl (Or.inl rfl))
   (ai (bu (ij (aA (alP G) hr rfl (aC (pv 0) (aA (IZ G) hr rfl (dP (pv 1) (pv 2) (pv 6))))))
    (ai (aN (pv 6))) bI))))))
  (ai (aN (pv 3))))),?_⟩
 refine jb ?_;intro dD sS gk dY;refine⟨AI,λp1 H1 n1 s1 e1=>?_⟩;refine⟨Ap,λp2 H2 n2 s2 e2=>?_⟩;have J:=s1.trans s2;have el:(((x::names).map V.str).length:Int)=1+(names.length:Int):=by rw[al,cr];omega
 refine⟨c,_,rfl,.inl (aa.of (J _ _ Y)),⟨by omega,by omega,by omega,by omega⟩,?_⟩;refine tL (λi Z H3=>i=0/\Z=[some sv,some (.ref a),some (.ref b),some (.ref c),some (.ref p2),none,none]/\H3=H2) ⟨rfl,rfl,rfl⟩ ?_ ?_
 . rintro i Z H3 hi ⟨rfl,rfl,rfl⟩;refine bA ?_;intro tT;refine⟨e2,s2 _ _ e1,J _ _ Y,by rw[cr];omega,λl ys H4 n4 s4 e4 pr=>?_⟩;refine⟨⟨_,aa.of e4⟩,?_⟩;cases pr with
   | @cons y _ ce _ hy a2=>
   obtain⟨yl,rfl,_,Ts⟩:=hy;refine iK (xs:=.ref yl::ce) (λj Z U=>j=0/\Z=[some sv,some (.ref a),some (.ref b),some (.ref c),some (.ref l),some (.int (1+(0:Nat))),none]/\U=H4) ⟨rfl,rfl,rfl⟩ ?_ ?_ ?_
   . rintro j Z U hj ⟨rfl,rfl,rfl⟩;exact aa.of e4
   . rintro j z Z U hz ⟨rfl,rfl,rfl⟩;cases hz;have uT:=J.trans s4;have l4:=k1.len O.ap O.n4;refine⟨hA.same uT,hB.same uT,k1.nd,k2.nd,Ts,by omega,λr H6 n6 s6 c6=>?_⟩;have k3:=k1.step k2 x;have W6:=O.same (uT.trans s6);refine⟨W6.sh,W6.pc,W6.ap,c6,k3.va,k3.len O.ap O.n4,λH7 s7=>⟨gc ?_⟩⟩;exact⟨q yl H7 ((uT.trans s6).trans s7) ((s6.trans s7) _ _ Ts)⟩
   rintro Z U ⟨h,_⟩;exact absurd h (by simp)
 rintro Z H3 ⟨h,rfl,rfl⟩;have n0:names=[]:=Ae.mp (by omega);rw[n0]at Y;exact⟨q c _ J (J _ _ Y)⟩
inductive Tt (C S:Addr):Sp where
 | mk {H:Hp}{Q:VK}{E:XK}{z:V}{a b:Addr}{xs:Lv}{ps:Lp}{ns:Ls}{now j:Ch} (_:jm C S H z xs ps ns) (_:dq H a now) (_:dq H b j) (_:eO xs ps now) (_:eO xs ps j) (_:∀l zs us H',H l=none->ac H H'->H' l=some (.lst zs)->ji now j us->Paired (iC [l] H') zs us->Q (.ref l) H'):Tt C S [z,.ref a,.ref b] H Q E
theorem uZ:aK [asY,aty,ath,atQ,"reached","left",atB] [asY,aty,ath] (av PM):=aQ
theorem al4(G:Pg K mg base Pt):au P w K mg base aL 6 G.Gro.f G.Gro.fd [asY,aty,ath] (Tt G.C G.S):=by
 refine G.Gro.u.okL uZ ?_;intro ar A outer s H vs Q E hr h xX dX;obtain @⟨_,_,_,sv,a,b,xs,ps,ns,now,O,J,hA,hB,cA,Y,q⟩:=h;have dZ:=hr.mono (j:=1) (by decide);have nl:=cA.len J.ap J.n4;have gl:=Y.len J.ap J.n4;refine⟨_,(ah (aF (i:=3) uZ.nd rfl (Or.inl rfl) (cU d8))
  (ah (aF (i:=4) uZ.nd rfl (Or.inl rfl) (pv 1))
  (ah (aF (i:=5) uZ.nd rfl (Or.inl rfl) (aA (Tk G) dZ rfl (aC (pv 4) (pv 2))))
  (ah (KI eR (bq K4 (cJ gL (by rfl) G.B.len gy (am (pv 5))) ak (bh _)) (ah (aF (i:=6) uZ.nd rfl (Or.inl rfl) (aA (al3 G) hr rfl (qV (pv 0) (pv 4) (pv 2) (pv 5))))
   (ah (bC (dC iW xj xk qM (pv 3) (am (pv 6))))
   (ah (aF (i:=4) uZ.nd rfl (Or.inl rfl) (aA (IZ G) dZ rfl (dP (pv 4) (pv 2) (pv 6))))
   (ai (aF (i:=5) uZ.nd rfl (Or.inl rfl) (aA (Tk G) dZ rfl (aC (pv 4) (pv 2)))))))))
  (ai (aN (pv 3))))))),?_⟩
 refine Fo ?_;intro dD sS B3 nZ gk dY;refine⟨AI,λp1 H1 n1 s1 e1=>?_⟩;refine⟨?_⟩;obtain⟨ka,a3,a4⟩:=hA.same s1;obtain⟨kb,wq,iQ⟩:=hB.same s1;refine⟨a3,wq,a4,iQ,cA.nd,Y.nd,trivial,trivial,uU (by omega),λl2 H2 us n2 s2 e2 U=>?_⟩;have bV:=s1.trans s2;have ul:=U.len;refine⟨λm Z H3=>∃i re lf u zs,m=us.length - i/\i<=us.length/\Z=[some sv,some (.ref a),some (.ref b),some (.ref p1),some (.ref re),some (.ref lf),u]/\ac H H3/\H3 p1=some (.lst zs)/\Paired (iC [p1] H3) zs (us.take i)/\dq H3 re ((us.take i).foldl (bN O) now)/\lf≠p1/\H3 lf=some (.lst ((us.drop i).map V.str)),
  ⟨_,0,a,l2,none,[],rfl,dz _,rfl,bV,s2 _ _ e1,.nil,hA.same bV,(aI e1 n2).symm,e2⟩,?_⟩
 intro m Z H3 hQ;refine bA ?_;intro tT;obtain⟨i,re,lf,u,zs,rfl,hi,rfl,s3,e3,p3,c3,a8,el⟩:=hQ;have zl:=bK p3;rw[eP]at zl;have k3:eO xs ps ((us.take i).foldl (bN O) now):=Y.steps cA;refine⟨lf,_,rfl,.inl (aa.of el),⟨⟨?_⟩⟩⟩;refine bv (λh=>?_) (λh=>?_)
 . have mq:(0:Int)<(((us.drop i).map V.str).length:Int):=cW h;rw[al,mP]at mq;have aO:i<us.length:=by omega
   have hx:us[i]?=some us[i]:=gX aO;have ed:us.drop i=us[i]::us.drop (i+1):=DA aO;rw[ed]at el;refine⟨λσ' H'=>∃m',m'<us.length - i/\∃i re lf u zs,m'=us.length - i/\i<=us.length/\σ'=[some sv,some (.ref a),some (.ref b),some (.ref p1),some (.ref re),some (.ref lf),u]/\ac H H'/\H' p1=some (.lst zs)/\Paired (iC [p1] H') zs (us.take i)/\dq H' re ((us.take i).foldl (bN O) now)/\lf≠p1/\H' lf=some (.lst ((us.drop i).map V.str)),λσ' H' h=>h,?_⟩;refine kO ?_
   intros
   refine⟨J.same s3,c3,hB.same s3,k3,Y,el,by rw[mP];omega,λl4 H4 s4 e4=>?_⟩;have CU:=s4 _ _ e3;have n4:l4≠p1:=λz=>by
    rw[z,CU]at e4;injection e4 with e4
    injection e4 with e4
    rw[e4]at p3;obtain⟨_,_,l,hl,_⟩:=eZ (i:=0) p3 rfl;cases hl
   refine⟨.inl ⟨rfl,_,aa.of CU⟩,CU,bZ (by omega),?_⟩;have m5:ac H (af H4 p1 (.lst (zs++[.ref l4]))):=rS n1 (s3.trans s4);have cc:dq (af H4 p1 (.lst (zs++[.ref l4]))) re ((us.take i).foldl (bN O) now):=dq.mut CU (c3.same s4);have e5:af H4 p1 (.lst (zs++[.ref l4])) l4=some (.lst [.str us[i]]):=by rw[aX n4];exact e4
   have cl:=k3.len J.ap J.n4;refine⟨cc,hB.same m5,k3.nd,Y.nd,e5,by omega,λr6 H6 n6 s6 c6=>?_⟩;have st:bN O ((us.take i).foldl (bN O) now) us[i]=(us.take (i+1)).foldl (bN O) now:=by rw[ou hx,qx];rfl
   rw[st]at c6;have k6:eO xs ps ((us.take (i+1)).foldl (bN O) now):=Y.steps cA;have a7:=k6.len J.ap J.n4;obtain⟨kr,a0,a1⟩:=id c6;obtain⟨kg,a5,CT⟩:=hB.same (m5.trans s6);refine⟨a0,a5,a1,CT,k6.nd,Y.nd,trivial,trivial,uU (by omega),λl7 H7 a6 n7 s7 e7 U7=>?_⟩;have eu:a6=us.drop (i+1):=U7.eq (U.drop (i+1));subst eu;have uY:=s6.trans s7;have a2:=uY _ _ (aD (H:=H4) (a:=p1) (o:=.lst (zs++[.ref l4])));refine⟨_,(show us.length - (i+1)<us.length - i by omega),i+1,r6,l7,_,_,rfl,aO,rfl,m5.trans uY,a2,?_,c6.same s7,(aI (s6 _ _ aD) n7).symm,e7⟩;rw[ou hx];exact jd ⟨l4,rfl,by simpa using n4,uY _ _ e5⟩ (aB p3 λ_ _ z=>((z.same s4).mut (by simp)).same uY)
 have l0:i=us.length:=Wj λz=>h (bL (by
  show(0:Int)<(((us.drop i).map V.str).length:Int);rw[al,mP];omega))
 subst l0;rw[fo]at p3;exact⟨q p1 zs us H3 n1 s3 e3 U p3⟩
end
section
variable {H:Hp}{ch aT:Ch}{cs aV:Cs}{ow aM:Ow}{c b a:Nat}{v:V}{xs:Lv}{ps:Lp}{Q:VK}
variable {H H2 H3:Hp}{dc dh dO:Addr}{ch:Ch}{cs:Cs}{ow:Ow}
theorem dQ.put{H1:Hp}{ks J:List (ao×V)}(hd:H1 d=some (.dK ks)){kv:ao×V}{e:Str×List Int}(h:dQ H1 kv e):dQ (af H1 d (.dK J)) kv e:=h.elim λa j=>j.elim λm G=>G.elim λb c=>⟨a,m,b,ay c (aU c hd (by intro z;cases z))⟩
theorem fA.put{H1:Hp}{ks mQ:List (ao×V)}(hd:H1 d=some (.dK ks)){kv:ao×V}{e:Str×(Ls×Ls)}(h:fA H1 kv e):fA (af H1 d (.dK mQ)) kv e:=
 h.elim λa j=>j.elim λt G=>G.elim λl1 J=>J.elim λl2 O=>O.elim λb U=>U.elim λc Y=>Y.elim λd' f=>⟨a,t,l1,l2,b,ay c (aU c hd (by intro z;cases z)),ay d' (aU d' hd (by intro z;cases z)),ay f (aU f hd (by intro z;cases z))⟩
structure mG(ch:Ch)(cs:Cs)(ow:Ow):Prop where
 ok:v6 ch cs ow
 d1:(ch.map (·.1)).Nodup
 d2:(cs.map (·.1)).Nodup
 d3:(ow.map (·.1)).Nodup
 n1:ch.length<=4
 n2:cs.length<=4
 n3:ow.length<=8
 ln:∀e∈ow,e.2.1.length<=20/\e.2.2.length<=20
structure lC(H H2:Hp)(dc dh dO:Addr)(ch:Ch)(cs:Cs)(ow:Ow):Prop where
 old:ac H H2
 nc:H dc=none
 nh:H dh=none
 no:H dO=none
 d1:dc≠dh
 d2:dc≠dO
 d3:dh≠dO
 ch:dq H2 dc ch
 cs:uH H2 dh cs
 ow:pK H2 dO ow
theorem lC.same(N:lC H H2 dc dh dO ch cs ow)(s:ac H2 H3):lC H H3 dc dh dO ch cs ow:=⟨N.old.trans s,N.nc,N.nh,N.no,N.d1,N.d2,N.d3,N.ch.same s,N.cs.same s,N.ow.same s⟩
theorem lC.putH(N:lC H H2 dc dh dO ch cs ow){J:List (ao×V)}(j:H2 dh=some (.dK J)){c n:Str}:lC H (af H2 dh (.dK (cK J (.inr c) (.str n)))) dc dh dO ch (bR cs c n) ow:=by
 obtain⟨kc,O,U⟩:=N.ch;obtain⟨a0,G,Y⟩:=N.cs;rw[j]at G;cases G;obtain⟨ko,o1,o2⟩:=N.ow;exact⟨λb z e=>ay (N.old b z e) (aI e N.nh),N.nc,N.nh,N.no,N.d1,N.d2,N.d3,⟨kc,ay O N.d1,aB U λ_ _=>dQ.put j⟩,⟨_,aD,jD (F:=uG) (λkv f z=>z.1) (x:=c) (ls:=n) (v:=.str n) ⟨rfl,rfl⟩ Y⟩,⟨ko,ay o1 N.d3.symm,aB o2 λ_ _=>fA.put j⟩⟩
theorem lC.putO(N:lC H H2 dc dh dO ch cs ow){O:List (ao×V)}(j:H2 dO=some (.dK O)){p:Str}{b m:Ls}{t G J:Addr}(ht:H2 t=some (.tup [.ref G,.ref J]))(h1:H2 G=some (.lst (b.map V.str)))(h2:H2 J=some (.lst (m.map V.str))):lC H (af H2 dO (.dK (cK O (.inr p) (.ref t)))) dc dh dO ch cs (bR ow p (b,m)):=by
 obtain⟨kc,Y,a2⟩:=N.ch;obtain⟨kh,b1,b2⟩:=N.cs;obtain⟨GL,U,o2⟩:=N.ow;rw[j]at U;cases U;exact⟨λb z e=>ay (N.old b z e) (aI e N.no),N.nc,N.nh,N.no,N.d1,N.d2,N.d3,⟨kc,ay Y N.d2,aB a2 λ_ _=>dQ.put j⟩,⟨kh,ay b1 N.d3,b2⟩,⟨_,aD,aB (jD (F:=fA H2) (λkv f z=>z.1) (x:=p) (ls:=(b,m)) (v:=.ref t) ⟨rfl,t,G,J,rfl,ht,h1,h2⟩ o2) λ_ _=>fA.put j⟩⟩
structure lE(ch:Ch)(cs:Cs)(ow:Ow)(a b c:Nat):Prop where
 ok:v6 ch cs ow
 d1:(ch.map (·.1)).Nodup
 d2:(cs.map (·.1)).Nodup
 d3:(ow.map (·.1)).Nodup
 n1:ch.length<=a
 n2:cs.length<=b
 n3:ow.length<=c
 ln:∀e∈ow,e.2.1.length<=4/\e.2.2.length<=4
theorem lE.putH(o:lE ch cs ow a b c){n m:Str}(h1:cM n)(h2:cM m):lE ch (bR cs n m) ow a (b+1) c:=
 ⟨⟨o.ok.ch,λe j=>(mv j).elim (λz=>by rw[z];exact⟨h1,h2⟩) (o.ok.cs e),o.ok.ow⟩,o.d1,kZ o.d2,o.d3,o.n1,bX (jC _ _ _) (Ki o.n2),o.n3,o.ln⟩
theorem lE.putO(o:lE ch cs ow a b c){p:Str}{x y:Ls}(h1:dB p)(h2:∀z∈x,gj z)(G:∀z∈y,gj z)(J:x.length<=4)(O:y.length<=4):lE ch cs (bR ow p (x,y)) a b (c+1):=
 ⟨⟨o.ok.ch,o.ok.cs,λe j=>(mv j).elim (λz=>by rw[z];exact⟨h1,h2,G⟩) (o.ok.ow e)⟩,o.d1,o.d2,kZ o.d3,o.n1,o.n2,bX (jC _ _ _) (Ki o.n3),λe j=>(mv j).elim (λz=>by rw[z];exact⟨J,O⟩) (o.ln e)⟩
theorem lE.mono{j b' c':Nat}(o:lE ch cs ow a b c)(h1:a<=j)(h2:b<=b')(z:c<=c'):lE ch cs ow j b' c':=⟨o.ok,o.d1,o.d2,o.d3,bX o.n1 h1,bX o.n2 h2,bX o.n3 z,o.ln⟩
theorem mG.bnd(h:mG ch cs ow):B0 ch cs ow where
 nch:=by have:=h.n1;omega
 ncs:=by have:=h.n2;omega
 now:=by have:=h.n3;omega
 dch:=h.d1
 dcs:=h.d2
 dow:=h.d3
 ch:=λe j=>⟨by have:=(h.ok.ch e j).1.hi;omega,(h.ok.ch e j).2.ok⟩
 cs:=λe j=>⟨by have:=(h.ok.cs e j).1.hi;omega,by have:=(h.ok.cs e j).2.hi;omega⟩
 ow:=λe j=>by
  obtain⟨⟨ps,e1,p1,p2,U⟩,J,O⟩:=h.ok.ow e j;obtain⟨k1,k2⟩:=h.ln e j;refine⟨?_,by omega,by omega,λx z=>(J x z).hi,λx z=>(O x z).hi⟩;rw[e1];have:=GN (sep:=lg) (b:=8) (λp G=>(U p G).hi) (by rw[Gg];decide);omega
theorem cM.ok{x:Str}(h:cM x):gE x:=vK.mpr λc j=>by have:=h.az c j;omega
theorem mG.perm(h:mG ch cs ow)(p1:aT.Perm ch)(p2:aV.Perm cs)(z:aM.Perm ow):mG aT aV aM where
 ok:=⟨λe j=>h.ok.ch e (p1.mem_iff.mp j),λe j=>h.ok.cs e (p2.mem_iff.mp j),λe j=>h.ok.ow e (z.mem_iff.mp j)⟩
 d1:=(p1.map _).nodup_iff.mpr h.d1
 d2:=(p2.map _).nodup_iff.mpr h.d2
 d3:=(z.map _).nodup_iff.mpr h.d3
 n1:=by have:=p1.length_eq;have:=h.n1;omega
 n2:=by have:=p2.length_eq;have:=h.n2;omega
 n3:=by have:=z.length_eq;have:=h.n3;omega
 ln:=λe j=>h.ln e (z.mem_iff.mp j)
theorem mG.rows(h:mG ch cs ow):(fV ch cs ow).length<=336:=by
 have:∀(l:Ow),(∀e∈l,e∈ow)->(l.flatMap eh).length<=l.length * 41:=by
  intro l
  induction l with
  | nil=>intro _;exact dz _
  | cons e l O=>
   intro j;have h1:=O λx J=>j x (bU _ J);obtain⟨h2,z⟩:=h.ln e (j e bQ);rw[DL,bH,cr];have:(eh e).length<=41:=by
    unfold eh;simp only[bH,al,cr,jQ];omega
   omega
 have z:=this ow λe G=>G;have:=h.n1;have:=h.n2;have:=h.n3;have U:ow.length * 41<=8 * 41:=Kh _ (by omega);unfold fV;rw[bH,bH,al,al];omega
theorem amk:mG [] [] []:=⟨⟨(λ_ h=>nomatch h),(λ_ h=>nomatch h),(λ_ h=>nomatch h)⟩,kB,kB,kB,by decide,by decide,by decide,(λ_ h=>nomatch h)⟩
theorem pW{β:Type}:cF ([]:List (Str×β)) []:=⟨.nil,rfl⟩
seal PE PS bW PA PT PW PG fM PI fF
abbrev Bk:=List (Str×Str)
def jN(H:Hp)(v:V)(e:Str×Str):Prop:=∃t,v=.ref t/\H t=some (.tup [.str e.1,.str e.2])
theorem jN.same{H':Hp}(s:ac H H'){e:Str×Str}(h:jN H v e):jN H' v e:=h.elim λt j=>j.elim λa b=>⟨t,a,s _ _ b⟩
def I9(bk:Bk):Prop:=∀e∈bk,gE e.1/\gE e.2
def iD:Str×Str:=("end","")
def dv:Str:="begin"
def iE(bk:Bk):Bool:=match bk.getLast? with
 | none=>true
 | some e=>decide (e=iD)
theorem amm{tb:Lv}{bk:Bk}(h:Paired (jN H) tb bk):(tb=[]/\bk=[])\/∃z t j e,tb=z++[.ref t]/\bk=j++[e]/\H t=some (.tup [.str e.1,.str e.2]):=by
 induction h with
 | nil=>exact .inl ⟨rfl,rfl⟩
 | @cons v e tb bk r t O=>
  rcases O with⟨e1,e2⟩ | ⟨z,t',j,G,e1,e2,e3⟩
  . subst e1 e2;obtain⟨t,rfl,J⟩:=r;exact .inr ⟨[],t,[],e,rfl,rfl,J⟩
  subst e1 e2;exact .inr ⟨v::z,t',e::j,G,rfl,rfl,e3⟩
theorem Tu(r:Lv)(v:V):cE (r++[v]) (-1)=some v:=by
 unfold cE;have e:oU (r++[v]).length (-1)=some r.length:=by
  unfold oU;rw[bH,jp,ag (by omega),aj (by omega)]
  congr 1
  omega
 rw[e];show(r++[v])[r.length]?=_;rw[Dv (aG _),Nat.sub_self];rfl
inductive Tv (D:Addr):Sp where
 | mk {H:Hp}{Q:VK}{E:XK}{x dx d b:Addr}{v:V}{tb:Lv}{bk:Bk} (_:H x=some (.ins D dx (cX d b v))) (_:H b=some (.lst tb)) (_:Paired (jN H) tb bk) (_:I9 bk) (_:∀H',ac H H'->Q (.bl (iE bk)) H'):Tv D [.ref x] H Q E
theorem Tw:aK [as3,"book"] [as3] (av PR):=aQ
theorem Tx(j:Pg K mg base Pt):au P w K mg base aL 2 j.IUp.f j.IUp.fd [as3] (Tv j.D):=by
 refine j.IUp.u.okL Tw ?_;intro ar A outer s H vs Q E J h xX dX;obtain @⟨_,_,_,x,dx,d,b,v,tb,bk,O,hb,pb,ok,q⟩:=h;have hu:=J.units;refine⟨_,(ah (aF (i:=1) Tw.nd rfl (Or.inl rfl) (cj (pv 0) j.UD.cl j.BNo.mt (up (Cu j)) J j.BNo.b .nil bT))
  (ai (aN (Kz (qJ cT (cJ gL (by rfl) j.B.len gy (am (pv 1))) ak (bh _)) (vD (qJ (AU hu) (bP fQ (pv 1) (tN tO ak) (λ_ _=>rfl)) (dE (aC bB bB)) (bh _))))))),?_⟩
 refine⟨O,rfl,O,hb,λr H1 n1 z e1=>?_⟩;refine⟨r,_,rfl,.inl (aa.of e1),rfl,⟨?_⟩⟩
 rcases amm pb with⟨rfl,rfl⟩ | ⟨wo,t,Y,e,rfl,rfl,ht⟩
 . exact gc (q H1 z)
 refine bv (λh=>?_) (λh=>?_)
 . have h:=cW h;injection h with h
   rw[bH,jp]at h;omega
 refine⟨_,rfl,aa.of e1,Tu _ _,Aw,λp2 H2 n2 U e2=>?_⟩;obtain⟨o1,o2⟩:=ok e (fe _ (bF.mpr rfl));refine⟨.tuple [.str e.1,.str e.2],.tuple [.str iD.1,.str iD.2],.tup (ba.of ((z.trans U) _ _ ht)) (.cons (.str _) (.cons (.str _) .nil)),.tup (ba.of e2) (.cons (.str _) (.cons (.str _) .nil)),?_,?_,λG jy=>?_⟩
 . simp only[W.kqdOk,JP,List.all_nil,Bool.and_true,iH];exact⟨o1,o2⟩
 . simp only[W.kqdOk,JP,List.all_nil,Bool.and_true,iH];exact⟨by decide +kernel,by decide +kernel⟩
 have eb:G=iE (Y++[e]):=by
  unfold iE;rw[Wk,arz,Option.some_or];show G=decide (e=iD);rw[wQ,jy,Wh];refine⟨λh=>?_,λh=>by rw[h]⟩;injection h with h
  injection h with h1 h2
  injection h1 with h1
  injection h2 with h2
  injection h2 with h2
  exact Prod.ext h1 h2
 rw[eb];exact q H2 (z.trans U)
def cY(bk:Bk):Ls:=(bk.filter λe=>decide (e.1=dv)).map (·.2)
theorem CV(bk:Bk)(e:Str×Str):cY (bk++[e])=if e.1=dv then cY bk++[e.2] else cY bk:=by
 unfold cY;rw[Kj,dJ]
 by_cases h:e.1=dv
 . rw[aj h,qp,aj (bL h)];rfl
 rw[ag h,qp,ag (by rw[cq h];decide)];exact lH _
inductive Tz (D:Addr):Sp where
 | mk {H:Hp}{Q:VK}{E:XK}{x dx d b:Addr}{v:V}{tb:Lv}{bk:Bk} (_:H x=some (.ins D dx (cX d b v))) (_:H b=some (.lst tb)) (_:Paired (jN H) tb bk) (_:bk.length<=500) (_:eg H (.lst ((Str.empty::cY bk).map V.str)) Q):Tz D [.ref x] H Q E
theorem amn:aK [as3] [as3] (av PU):=aQ
theorem TB(G:Pg K mg base Pt):au P w K mg base aL 2 G.TxB.f G.TxB.fd [as3] (Tz G.D):=by
 refine G.TxB.u.okL amn ?_;intro ar A outer s H vs Q E hr h xX dX;obtain @⟨_,_,_,x,dx,d,b,v,tb,bk,hx,hb,pb,pR,q⟩:=h;refine⟨_,(ai (aN (aJ vL (cU (am bB)) (fT [atM,atb] [] [] dN rfl (cH (cj (pv 0) G.UD.cl G.BNo.mt (up (Cu G)) hr G.BNo.b .nil bT)) (λ_ _ _ _=>(Ta (n:=2) K rfl (gz (bf (i:=0) (show List.Nodup ([atM,atb]:Ls) by decide +kernel) rfl (Or.inl rfl)) (gz (bf (i:=1) (show List.Nodup ([atM,atb]:Ls) by decide +kernel) rfl (Or.inl rfl)) mX)))) (λ_ _ _ _=>o9 (bq cT (pv 0) bB (bh _))) (λ_ _ _ _=>(pv 1)))))),?_⟩;refine⟨Ap,λp1 H1 n1 O e1=>?_⟩;have pl:=bK pb;refine⟨O _ _ hx,rfl,O _ _ hx,O _ _ hb,λr H2 n2 s2 e2=>⟨⟨_,aa.of e2⟩,?_⟩⟩;have U:=O.trans s2;intro D' fk;refine rK (σ0:=[none,none]) fk (aa.of e2) (λZ=>∃u v,Z=[u,v]) (λj zs _=>zs=(cY (bk.take j)).map V.str) ⟨_,_,rfl⟩ rfl ?_ ?_
 . rintro j y zs Z H3 k k' hy ⟨u,v,rfl⟩ Y J rfl fG jg;obtain⟨e,he,t,rfl,ht⟩:=eZ pb hy;have aO:=(cN.mp he).1;refine⟨ba.of ((U.trans J) _ _ ht),rfl,rfl,?_⟩;have bs:=CV (bk.take j) e;rw[<-ou he]at bs;have bl:(cY (bk.take j)).length<=500:=by
    unfold cY;rw[al];exact bX (sw _ _) (by rw[eP];omega)
   refine⟨rfl,⟨?_⟩⟩;refine bv (λh=>?_) (λh=>?_)
   . have h:=cW h;injection h with h
     rw[aj (show e.1=dv from h)]at bs;refine⟨fG _ _ _ ⟨_,_,rfl⟩ (ac.refl _) (bZ (by rw[al];omega)) ?_⟩;rw[bs,dJ];rfl
   rw[ag (λz=>h (by rw[z];exact bL rfl))]at bs;refine jg _ _ ⟨_,_,rfl⟩ (ac.refl _) ?_;rw[bs]
 rintro zs H3 Y J rfl;rw[pl,fo]at Y;have bl:(cY bk).length<=500:=by
  unfold cY;rw[al];exact bX (sw _ _) pR
 refine⟨(s2.trans J) _ _ e1,Y,kM (by rw[al,jp];omega),λp4 H4 n4 s4 e4=>?_⟩;exact q p4 H4 ((U.trans J).free n4) ((U.trans J).trans s4) e4
structure fC(xs:Lv)(ps:Lp)(ch:Ch)(cs:Cs)(ow:Ow):Prop where
 ok:mG ch cs ow
 va:pN xs ps ch
 o2:ow.length<=8
structure fL(xs:Lv)(ps:Lp)(t:Str)(ch:Ch)(cs:Cs)(ow:Ow):Prop where
 so:fC xs ps ch cs ow
 s1:cF ch ch
 s2:cF cs cs
 s3:cF ow ow
 tx:t=Str.join k9 (fV ch cs ow)
theorem fC.perm(h:fC xs ps ch cs ow)(p1:aT.Perm ch)(p2:aV.Perm cs)(j:aM.Perm ow):fC xs ps aT aV aM:=⟨h.ok.perm p1 p2 j,λe z=>h.va e (p1.mem_iff.mp z),by have:=j.length_eq;have:=h.o2;omega⟩
theorem fC.tx(h:fC xs ps ch cs ow)(p1:cF ch aT)(p2:cF cs aV)(j:cF ow aM):fL xs ps (Str.join k9 (fV aT aV aM)) aT aV aM:=⟨h.perm p1.pm p2.pm j.pm,p1.self,p2.self,j.self,rfl⟩
theorem CW:fL xs ps Str.empty [] [] []:=⟨⟨amk,(λ_ h=>nomatch h),by decide⟩,pW,pW,pW,rfl⟩
theorem fL.uniq{t:Str}(h:fL xs ps t ch cs ow)(k:fL xs ps t aT aV aM):ch=aT/\cs=aV/\ow=aM:=by
 have e1:rowsOf t=fV ch cs ow:=by rw[h.tx];exact Gu (Gs h.so.ok.ok)
 have e2:rowsOf t=fV aT aV aM:=by rw[k.tx];exact Gu (Gs k.so.ok.ok)
 obtain⟨a,b,c,n1⟩:=Gv h.so.ok.ok h.so.ok.d1 h.so.ok.d2 h.so.ok.d3;obtain⟨j,b',c',n2⟩:=Gv k.so.ok.ok k.so.ok.d1 k.so.ok.d2 k.so.ok.d3;rw[<-e1,e2,n2]at n1;injection n1 with n1 n2 n3
 exact⟨n1.symm,n2.symm,n3.symm⟩
theorem fL.not{t:Str}(h:fL xs ps t ch cs ow){T:Addr}(q:∀v H',ac H H'->(∀L,gO H L->gR T (msk L H') v ch cs ow)->Q v H'):GS T [.str t] H Q E0:=by
 have ok:=h.so.ok;have j:rowsOf t=fV ch cs ow:=by rw[h.tx];exact Gu (Gs ok.ok)
 have J:=ok.rows;obtain⟨_,z⟩:=Q3 ok.bnd (.refl _) (.refl _) (.refl _);have U:=GN (sep:=k9) z (by rw[Gf];decide);obtain⟨ck,b,m,G⟩:=Gv ok.ok ok.d1 ok.d2 ok.d3;refine⟨?_,?_,?_,?_⟩
 . have O:(fV ch cs ow).length * (140+1)<=336 * 141:=Kh _ J;rw[h.tx];omega
 . rw[j];omega
 . rw[j];exact ag3 ok.ok
 rw[j,G];exact q
theorem fL.sho{t:Str}(h:fL xs ps t ch cs ow){T:Addr}(hs:gR T H v ch cs ow)(q:∀H',ac H H'->Q (.str t) H'):B1 T [v] H Q E0:=by
 refine⟨hs,h.so.ok.bnd,λaT aV aM H' j z G s'=>?_⟩;rw[cF.eq h.so.ok.d1 j h.s1,cF.eq h.so.ok.d2 z h.s2,cF.eq h.so.ok.d3 G h.s3,<-h.tx];exact q H' s'
theorem fC.sho(h:fC xs ps ch cs ow){T:Addr}(hs:gR T H v ch cs ow)(q:∀t aT aV aM H',cF ch aT->cF cs aV->cF ow aM->fL xs ps t aT aV aM->ac H H'->Q (.str t) H'):B1 T [v] H Q E0:=
 ⟨hs,h.ok.bnd,λaT aV aM H' j z G s'=>q _ aT aV aM H' j z G (h.tx j z G) s'⟩
def mH(xs:Lv)(ps:Lp)(j:Ls):Prop:=∀t∈j,∃ch cs ow,fL xs ps t ch cs ow
theorem amp(j:Ls)(t:Str):cE ((j++[t]).map V.str) (-1)=some (.str t):=by
 rw[dJ];exact Tu _ _
inductive TD (D T:Addr):Sp where
 | mk {H:Hp}{Q:VK}{E:XK}{x dx d b:Addr}{v:V}{tb:Lv}{bk:Bk}{xs:Lv}{ps:Lp}{t:Str}{ch:Ch}{cs:Cs}{ow:Ow} (_:H x=some (.ins D dx (cX d b v))) (_:H b=some (.lst tb)) (_:Paired (jN H) tb bk) (_:bk.length<=500) (_:(Str.empty::cY bk).getLast?=some t) (_:fL xs ps t ch cs ow) (_:∀v H',ac H H'->(∀L,gO H L->gR T (msk L H') v ch cs ow)->Q v H'):TD D T [.ref x] H Q E
theorem amq:aK [as3] [as3] (av PV):=aQ
theorem Ja(j:Pg K mg base Pt):au P w K mg base aL 5 j.StO.f j.StO.fd [as3] (TD j.D j.T):=by
 refine j.StO.u.okL amq ?_;intro ar A outer s H vs Q E G h xX dX;obtain @⟨_,_,_,x,dx,d,b,v,tb,bk,xs,ps,t,ch,cs,ow,hx,z,pb,pR,hl,ht,q⟩:=h;refine⟨_,(ai (aN (aA (Ri j) G rfl (am (bP fQ (aA (TB j) G rfl (am (pv 0))) (tN tO ak) (λ_ _=>rfl)))))),?_⟩;refine⟨hx,z,pb,pR,λr H1 n1 J e1=>?_⟩;obtain⟨ts,U⟩:=List.getLast?_eq_some_iff.mp hl;rw[U]at e1;refine⟨_,rfl,aa.of e1,amp ts t,?_⟩;exact ht.not λv H' s' hv=>q v H' (J.trans s') λL Y=>hv L λb z=>(Y b z).elim λo O=>O.elim λe n=>⟨o,J _ _ e,n⟩
def vb(xs:Lv)(ps:Lp)(T:Addr)(H:Hp)(v:V)(t:Str):Prop:=∃ch cs ow,gR T H v ch cs ow/\fL xs ps t ch cs ow
theorem vb.same{H':Hp}(s:ac H H'){t:Str}(h:vb xs ps T H v t):vb xs ps T H' v t:=h.elim λch j=>j.elim λcs z=>z.elim λow G=>G.elim λa b=>⟨ch,cs,ow,a.same s,b⟩
end
section
variable {lf:Option Int}{H H':Hp}
seal PE PS bW PA PT PW PG fM PI fF
structure Dk(D x dx d b:Addr)(lf:Option Int)(fs:Tr)(bk:Bk)(H:Hp):Prop where
 ob:H x=some (.ins D dx (cX d b (lv lf)))
 fi:∃kd,H d=some (.dK kd)/\Paired (cw H) kd fs
 bo:∃tb,H b=some (.lst tb)/\Paired (jN H) tb bk
 nd:(fs.map (·.1)).Nodup
 ok:d5 fs
 bz:bk=[]->fs=[]
 bt:I9 bk
 ps:∀m,lf=some m->0<=m/\(fs.length:Int)+m<=39
theorem Dk.same{fs:Tr}{bk:Bk}(h:Dk D x dx d b lf fs bk H)(s:ac H H'):Dk D x dx d b lf fs bk H':=by
 obtain⟨G,d1,d2⟩:=h.fi;obtain⟨tb,j,z⟩:=h.bo;exact⟨s _ _ h.ob,⟨G,s _ _ d1,aB d2 λ_ _=>cw.same s⟩,⟨tb,s _ _ j,aB z λ_ _=>jN.same s⟩,h.nd,h.ok,h.bz,h.bt,h.ps⟩
def bO(x d b Pt:Addr)(H H':Hp):Prop:=∀q o,H q=some o->q≠x->q≠d->q≠b->q≠Pt->H' q=some o
theorem bO.trans{H1 H2:Hp}(a:bO x d b Pt H H1)(c:bO x d b Pt H1 H2):bO x d b Pt H H2:=λq o e n1 n2 n3 j=>c q o (a q o e n1 n2 n3 j) n1 n2 n3 j
theorem bO.of(s:ac H H'):bO x d b Pt H H':=λq o e _ _ _ _=>s q o e
theorem bO.ofT(s:j7 Pt H H'):bO x d b Pt H H':=λq o e _ _ _ n=>s q o e n
theorem bO.msk(k:bO x d b Pt H H'):ac (msk [x,d,b,Pt] H) (msk [x,d,b,Pt] H'):=λq o e=>by
 have n:q∉[x,d,b,Pt]:=λz=>by unfold K74.msk at e;rw[aj z]at e;cases e
 have j:=bj q o e;simp only[be,fZ,f7,qw]at n;exact cL (by simp[n]) (k q o j n.1 n.2.1 n.2.2.1 n.2.2.2)
theorem Dk.keepT{fs:Tr}{bk:Bk}{lp:Pos}{qu:Str}(h:Dk D x dx d b lf fs bk H)(t:aE H Pt lp qu)(k:j7 Pt H H'):Dk D x dx d b lf fs bk H':=by
 obtain⟨kd,d1,d2⟩:=h.fi;obtain⟨tb,b1,b2⟩:=h.bo;have g:∀{q:Addr}{o:HO},H q=some o->(∀φ,o≠.ext φ)->H' q=some o:=λe n=>k _ _ e (aE.ne t e n);exact⟨g h.ob (by intro φ z;cases z),⟨kd,g d1 (by intro φ z;cases z),aB d2 λ_ _ O=>O.elim λj U=>U.elim λl Y=>Y.elim λG z3=>⟨j,l,G,g z3 (by intro φ z;cases z)⟩⟩,⟨tb,g b1 (by intro φ z;cases z),aB b2 λ_ _ a0=>a0.elim λt J=>J.elim λj G=>⟨t,j,g G (by intro φ z;cases z)⟩⟩,h.nd,h.ok,h.bz,h.bt,h.ps⟩
theorem TF{tb:Lv}{bk:Bk}{ls:Ls}(J:H b=some (.lst tb))(G:Paired (jN H) tb bk)(n:bk≠[]\/ls≠[])(j:H l=some (.lst (ls.map V.str))):l≠b:=λe=>by
 rw[e,J]at j;injection j with j
 injection j with j
 subst j;cases ls with
 | nil=>
  cases G
  rcases n with z | z<;>exact z rfl
 | cons y ls=>
  cases G with
  | cons r t=>
   obtain⟨t,z,_⟩:=r;cases z
theorem aE.kp{lp:Pos}{qu:Str}(h:aE H Pt lp qu)(k:∀q φ,H q=some (.ext φ)->H' q=some (.ext φ)):aE H' Pt lp qu:=by
 rcases h with z | ⟨c',j,G⟩
 . exact .inl (k _ _ z)
 exact .inr ⟨c',k _ _ j,k _ _ G⟩
inductive TH (D j:Addr):Sp where
 | mk {H:Hp}{Q:VK}{E:XK}{x dx d b t:Addr}{lf:Option Int}{fs:Tr}{bk:Bk}{z:List (ao×V)}{tr:Tr} (_:Dk D x dx d b lf fs bk H) (_:bk≠[]) (_:H t=some (.dK z)) (_:d≠t) (_:Paired (cw H) z tr) (_:(tr.map (·.1)).Nodup) (_:d5 tr) (_:oj fs tr)
  (_:∀lf' bE H',Dk D x dx d b lf' bE bk H'->look bE=look tr->bE.length=tr.length->(lf=none->lf'=none)->(∀p o,H p=some o->p≠x->p≠d->H' p=some o)->Q .non H')
  (_:∀bE H',lf≠none->Dk D x dx d b (some 0) bE bk H'->(∀p o,H p=some o->p≠x->p≠d->H' p=some o)->E (.ref j) none H'):TH D j [.ref x,.ref t] H Q E
theorem TJ{lf':Option Int}{fs bE:Tr}{bk:Bk}(h:Dk D x dx d b lf fs bk H)(Y:bk≠[])(t:CA D x dx d b lf' bE H H')(nd:(bE.map (·.1)).Nodup)(ok:d5 bE)(ps:∀m,lf'=some m->0<=m/\(bE.length:Int)+m<=39):Dk D x dx d b lf' bE bk H':=by
 obtain⟨kd,d1,d2⟩:=h.fi;obtain⟨tb,j,U⟩:=h.bo;exact⟨t.ob,t.hd,⟨tb,t.kp _ _ j (aU j h.ob (by intro z;cases z)) (aU j d1 (by intro z;cases z)),aB U λ_ _ J=>J.elim λt' O=>O.elim λz1 G=>⟨t',z1,t.kp _ _ G (aU G h.ob (by intro z;cases z)) (aU G d1 (by intro z;cases z))⟩⟩,nd,ok,λz=>absurd z Y,h.bt,ps⟩
theorem TK{k:Nat}(G:au P w K mg base (dU P w) k f fd [as3,atm] (ID D Fa)):au P w K mg base (dU P w) k f fd [as3,atm] (TH D Fa):=by
 refine G.imp λvs H Q E h=>?_;obtain @⟨_,_,_,x,dx,d,b,t,lf,fs,bk,kt,tr,J,Y,ht,dt,pt,nt,O,Jb,q1,q2⟩:=h;obtain⟨kd,d1,d2⟩:=id J.fi;refine⟨J.ob,d1,ht,dt,d2,pt,J.nd,nt,J.ok,O,Jb,(λm z=>(J.ps m z).1),λus H' U hm T=>?_,λus j H' U hj aO T=>?_⟩
 . have nd:=Iw (tr:=tr) (ps:=us) J.nd;refine q1 _ _ H' (TJ J Y T nd (Ix O J.ok) λm z=>?_) (funext λk=>U.all k) (ako nd nt λk=>U.all k) (λz=>by rw[z];rfl) T.kp;cases lf with
   | none=>cases z
   | some m'=>
    have:=hm m' rfl;have z:some (m' - (us.length:Int))=some m:=z;cases z;have:=J.ps m' rfl;have:=Cv (tr:=tr) us fs;omega
 have nd:=Iw (tr:=tr) (ps:=us.take j) J.nd;refine q2 _ H' (by rw[hj];intro z;cases z) (TJ J Y T nd (Ix O J.ok) λm z=>by
  cases z;have:=J.ps _ hj;have:=Cv (tr:=tr) (us.take j) fs;have:(us.take j).length<=j:=List.length_take_le _ _;omega) T.kp
inductive TL (D j:Addr):Sp where
 | mk {H:Hp}{Q:VK}{E:XK}{x dx d b:Addr}{lf:Option Int}{fs:Tr}{bk:Bk}{y z:Str} (_:Dk D x dx d b lf fs bk H) (_:bk.length<=400) (_:gE y) (_:gE z)
  (_:∀lf' H',ib lf=some lf'->Dk D x dx d b lf' fs (bk++[(y,z)]) H'->(∀p o,H p=some o->p≠x->p≠b->H' p=some o)->Q .non H') (_:ib lf=none->E (.ref j) none H):TL D j [.ref x,.str y,.str z] H Q E
theorem Jc{k:Nat}(G:au P w K mg base (dU P w) k f fd [asX,atM,atb] (Io D Fa)):au P w K mg base (dU P w) k f fd [asX,atM,atb] (TL D Fa):=by
 refine G.imp λvs H Q E h=>?_;obtain @⟨_,_,_,x,dx,d,b,lf,fs,bk,y,z,j,l4,oy,oz,q1,q2⟩:=h;obtain⟨kd,d1,d2⟩:=id j.fi;obtain⟨tb,U,Y⟩:=id j.bo;have pl:=bK Y;refine⟨j.ob,U,by omega,λlf' J t H' ig kW GZ kp=>?_,q2⟩;refine q1 lf' H' J ⟨ig,⟨kd,kp _ _ d1 (aU d1 j.ob (by intro z;cases z)) (aU d1 U (by intro z;cases z)),?_⟩,⟨_,kW,jd ⟨t,rfl,GZ⟩ (aB Y λ_ _ a0=>a0.elim λt' a1=>a1.elim λz1 O=>⟨t',z1,kp _ _ O (aU O j.ob (by intro z;cases z)) (aU O U (by intro z;cases z))⟩)⟩,j.nd,j.ok,λz=>by simp at z,?_,?_⟩ kp
 . by_cases bn:bk=[]
   . have f0:=j.bz bn;subst f0;cases d2;exact .nil
   exact aB d2 λkv f a2=>a2.elim λz1 a3=>a3.elim λl a4=>a4.elim λO z3=>⟨z1,l,O,kp _ _ z3 (aU z3 j.ob (by intro z;cases z)) (TF U Y (.inl bn) z3)⟩
 . intro e he
   rcases b9.mp he with z | z
   . exact j.bt e z
   rw[bF.mp z];exact⟨oy,oz⟩
 intro m hm;cases lf with
 | none=>cases J;cases hm
 | some n=>
  by_cases h1:n<1
  . rw[Ij h1]at J;cases J
  rw[wp h1]at J;cases J;cases hm;have:=j.ps n rfl;omega
inductive TM (D j:Addr):Sp where
 | mk {H:Hp}{Q:VK}{E:XK}{x dx d b t:Addr}{lf:Option Int}{fs:Tr}{bk:Bk}{z:List (ao×V)}{tr:Tr} (_:Dk D x dx d b lf fs bk H) (_:bk≠[]) (_:bk.length<=400) (_:H t=some (.dK z)) (_:d≠t) (_:Paired (cw H) z tr) (_:(tr.map (·.1)).Nodup) (_:d5 tr) (_:oj fs tr)
  (_:∀lf' bE H',Dk D x dx d b lf' bE (bk++[iD]) H'->look bE=look tr->bE.length=tr.length->(lf=none->lf'=none)->(∀p o,H p=some o->p≠x->p≠d->p≠b->H' p=some o)->Q .non H')
  (_:∀bE H',lf≠none->Dk D x dx d b (some 0) bE bk H'->(∀p o,H p=some o->p≠x->p≠d->p≠b->H' p=some o)->E (.ref j) none H'):TM D j [.ref x,.ref t] H Q E
theorem amI:aK [as3,atm] [as3,atm] (av PX):=aQ
theorem TN{fs:Tr}{bk:Bk}(h:Dk D x dx d b lf fs bk H)(e:ib lf=none):lf=some 0:=by
 cases lf with
 | none=>cases e
 | some n=>
  have:=h.ps n rfl
  by_cases h1:n<1
  . congr 1;omega
  rw[wp h1]at e;cases e
theorem TQ(j:Pg K mg base Pt):au P w K mg base (dU P w) 4 j.Fin.f j.Fin.fd [as3,atm] (TM j.D j.Fa):=by
 refine j.Fin.u.okR amI (λvs H Q E h=>?_) (λar A outer s H vs Q E Y h=>?_)
 . cases h;rfl
 obtain @⟨_,_,_,x,dx,d,b,t,lf,fs,bk,kt,tr,hD,bn,l4,ht,dt,pt,nt,ot,Jb,q1,q2⟩:=h;refine⟨_,(ah (bC (uD (TK (IE j)) Y rfl eK (aC (pv 0) (pv 1))))
  (ai (bC (gA (pv 0) j.UD.cl j.DNt.mt (up (Jc (Iq j))) Y j.DNt.b .nil eK (aC bB bB))))),?_⟩
 refine⟨hD,bn,ht,dt,pt,nt,ot,Jb,λlf' bE H1 J lk el U kp=>?_,λbE H1 ln J kp=>q2 bE H1 ln J λp o e G O _=>kp p o e G O⟩;refine⟨J.ob,rfl,J,l4,(by decide +kernel),(by decide +kernel),λa4 H2 e2 jh a0=>?_,λe2=>?_⟩
 . refine q1 a4 bE H2 jh lk el (λz=>?_) λp o e G O a3=>a0 p o (kp p o e G O) G a3;have:=U z;rw[this]at e2;cases e2;rfl
 have z:=TN J e2;refine q2 bE H1 (λy=>?_) (z▸J) λp o e G O _=>kp p o e G O;rw[U y]at z;cases z
end
section
variable {H:Hp}{qu:Str}
seal PE PS bW PA PT PW PG fM PI fF
theorem j7.msk{H':Hp}(k:j7 Pt H H'):ac (msk [Pt] H) (msk [Pt] H'):=λq o e=>by
 have n:q∉[Pt]:=λz=>by unfold K74.msk at e;rw[aj z]at e;cases e
 exact cL n (k q o (bj q o e) (by simpa using n))
theorem off{o:HO}{lp:Pos}(t:aE H Pt lp qu)(e:H q=some o)(n:∀φ,o≠.ext φ):msk [Pt] H q=some o:=cL (by simpa using aE.ne t e n) e
theorem dq.off{ch:Ch}{lp:Pos}(t:aE H Pt lp qu)(h:dq H c ch):dq (msk [Pt] H) c ch:=by
 obtain⟨kvs,h1,h2⟩:=h;exact⟨kvs,K74.off t h1 (by intro φ z;cases z),aB h2 λ_ _ j=>j.elim λa G=>G.elim λm J=>J.elim λb c=>⟨a,m,b,K74.off t c (by intro φ z;cases z)⟩⟩
theorem Jd{Pt:Addr}{H':Hp}{lp:Pos}(s:ac (msk [Pt] H) (msk [Pt] H'))(t:aE H' Pt lp qu)(n:H' q=none):H q=none:=by
 cases e:H q with
 | none=>rfl
 | some o=>
  have j:q≠Pt:=λz=>by
   obtain⟨φ,w⟩:=aE.at t;rw[z,w]at n;cases n
  have:=bj _ _ (s q o (cL (by simpa using j) e));rw[n]at this;cases this
theorem mG.okO{ch:Ch}{cs:Cs}{ow:Ow}(h:mG ch cs ow):IL ow:=λe z=>by
 obtain⟨a,b,c⟩:=h.ok.ow e z;obtain⟨d,f⟩:=h.ln e z;exact⟨by have:=a.len;omega,⟨by omega,λx j=>(b x j).ln⟩,⟨by omega,λx j=>(c x j).ln⟩⟩
def zx(H R:Hp)(v:V)(e:Str×Tr):Prop:=∃j g t kvs,v=.ref j/\H j=none/\R j=some (.tup [.ref g,.ref t])/\R g=some (.lst [.str e.1])/\cM e.1/\H t=none/\R t=some (.dK kvs)/\Paired (db H R) kvs e.2/\(e.2.map (·.1)).Nodup/\e.2.length<=24/\d5 e.2
theorem zx.kp{R j:Hp}(k:∀b o,R b=some o->(∀φ,o≠.ext φ)->j b=some o){v:V}{e:Str×Tr}(h:zx H R v e):zx H j v e:=by
 obtain⟨tp,g,t,kvs,h1,h2,Y,h4,h5,h6,h7,h8,h9⟩:=h;exact⟨tp,g,t,kvs,h1,h2,k _ _ Y (by intro φ z;cases z),k _ _ h4 (by intro φ z;cases z),h5,h6,k _ _ h7 (by intro φ z;cases z),aB h8 λ_ _ G=>G.elim λz1 J=>J.elim λl O=>O.elim λz2 U=>U.elim λz3 z4=>⟨z1,l,z2,z3,k _ _ z4 (by intro φ z;cases z)⟩,h9⟩
inductive TR (C S T Pt:Addr):Sp where
 | mk {H:Hp}{Q:VK}{E:XK}{z j:V}{a:Addr}{xs:Lv}{ps:Lp}{ns:Ls}{now ch:Ch}{cs:Cs}{ow:Ow} (_:jm C S (msk [Pt] H) z xs ps ns) (_:dq (msk [Pt] H) a now) (_:eO xs ps now) (_:gR T (msk [Pt] H) j ch cs ow) (_:fC xs ps ch cs ow) (_:aE H Pt dg df) (_:∀l zs es H',H l=none->j7 Pt H H'->aE H' Pt dg df->H' l=some (.lst zs)->Paired (zx H (msk [l] H')) zs es->es.length<=8->Q (.ref l) H'):TR C S T Pt [z,.ref a,j] H Q E
theorem zy:aK [asY,aty,ath,"steps","reached",atB] [asY,aty,ath] (av PZ):=aQ
theorem amS(j:Pg K mg base Pt):au P w K mg base aL 7 j.StT.f j.StT.fd [asY,aty,ath] (TR j.C j.S j.T Pt):=by
 refine j.StT.u.okL zy ?_;intro ar A outer s H vs Q E hr h xX dX;obtain @⟨_,_,_,sv,gv,a,xs,ps,ns,now,ch,cs,ow,G,hA,cA,hG,iF,a9,q⟩:=h;refine⟨_,(ah (aF (i:=3) zy.nd rfl (Or.inl rfl) (cU d8))
  (ah (aF (i:=4) zy.nd rfl (Or.inl rfl) (pv 1))
  (ah (eS eR rfl (cH (aA (al4 j) hr rfl (dP (pv 0) (pv 1) (bJ (pv 2) rfl)))) (bf (i:=5) zy.nd rfl (Or.inl rfl))
  (ah (aF (i:=4) zy.nd rfl (Or.inl rfl) (aA (IZ j) hr rfl (dP (pv 4) (bJ (pv 2) rfl) (pv 5))))
   (ai (bC (dC iW xj xk qM (pv 3) (am (dE (aC (pv 5) (aA (wz j) hr rfl (aC (pv 0) (qK j.MTIn (up (BY j)) hr rfl j.UT.mgC j.TIn.b .nil bT (dP (pv 4) (bJ (pv 2) rfl) (bJ (pv 2) rfl)))))))))))))
  (ai (aN (pv 3)))))),?_⟩
 refine kO ?_;intro dD sS u4 u3 u2;obtain⟨ga,a',aR,c,h,o,rfl,t1,t2,t3,t4,t5,t6,t7⟩:=id hG;have cB:eO xs ps ch:=⟨iF.ok.d1,iF.va⟩;refine⟨AI,λp1 H1 n1 s1 e1=>?_⟩;refine⟨?_⟩;have m1:=fj (L:=[Pt]) s1;refine⟨s1 _ _ (bj _ _ t1),j.UT.cl,j.UT.nC,t2,?_⟩;refine⟨G.same (bj.trans s1),hA.same (bj.trans s1),t5.same (bj.trans s1),cA,cB,λl zg us H2 n2 s2 e2 U pr=>⟨⟨_,aa.of e2⟩,?_⟩⟩;have m2:=m1.trans (fj (L:=[Pt]) s2);have rW:=(a9.same s1).same s2;have nl:=cA.len G.ap G.n4;have gl:=cB.len G.ap G.n4;have ul:=U.len;have TU:H p1=none:=n1;have ax:∀z∈us,cM z:=λz hz=>by
  have c8:=(U.mem z).mp hz;have a0:∀{c:Ch},eO xs ps c->z∈c.map (·.1)->cM z:=λk hz=>by
   obtain⟨e,he,rfl⟩:=cC.mp hz;obtain⟨v,p,hi,e1,_⟩:=k.va e he;exact e1▸G.nm _ (G.ap.nms p (IV hi))
  by_cases z1:z∈now.map (·.1)
  . exact a0 cA z1
  by_cases z2:z∈ch.map (·.1)
  . exact a0 cB z2
  exact absurd ((iB.mpr z1).trans (iB.mpr z2).symm) c8
 have b0:=bK pr;refine iK (xs:=zg) (λi Z H3=>∃u re zs es,Z=[some sv,some (.ref a),some (.ref ga),some (.ref p1),some (.ref re),u]/\ac (msk [Pt] H) (msk [Pt] H3)/\aE H3 Pt dg df/\H3 l=some (.lst zg)/\Paired (iC [l] H3) zg us/\H3 p1=some (.lst zs)/\Paired (zx H (msk [p1] H3)) zs es/\es.length=i/\dq (msk [Pt] H3) re ((us.take i).foldl (bN ch) now))
  ⟨none,a,[],[],rfl,m2,rW,e2,pr,s2 _ _ e1,.nil,rfl,hA.same m2⟩ ?_ ?_ ?_
 . rintro i Z H3 hi ⟨u,re,zs,es,rfl,_,_,e3,_⟩;exact aa.of e3
 . intro i z Z H3 hz hQ;refine bA ?_;intro tT;obtain⟨u,re,zs,es,rfl,m3,jn,TV,oh,wC,wD,il,c3⟩:=hQ;obtain⟨n,hn,g,rfl,aZ,Y⟩:=eZ oh hz;have aO:=(cN.mp hn).1;have k3:eO xs ps ((us.take i).foldl (bN ch) now):=cB.steps cA;have az:=k3.len G.ap G.n4;have G3:=hG.same m3;have zl:=bK wD;have gp:g≠p1:=λz=>by
    rw[z,wC]at Y;injection Y with Y
    injection Y with Y
    subst Y;cases wD with
    | cons r t=>obtain⟨_,_,_,_,z,_⟩:=r;cases z
   refine⟨bj _ _ (m3 _ _ t1),j.UT.cl,j.UT.nC,t2,⟨?_⟩⟩;refine⟨c3.same bj,(t5.same m3).same bj,k3.nd,cB.nd,Y,by omega,λr H4 n4 s4 c4=>?_⟩;have m4:=m3.trans (fj (L:=[Pt]) s4);have mI:=jn.same s4;have st:bN ch ((us.take i).foldl (bN ch) now) n=(us.take (i+1)).foldl (bN ch) now:=by rw[ou hn,qx];rfl
   rw[st]at c4;have k4:eO xs ps ((us.take (i+1)).foldl (bN ch) now):=cB.steps cA;have TW:=s4 _ _ wC;refine⟨.inl ⟨rfl,_,aa.of TW⟩,bj _ _ (m4 _ _ t1),j.UT.cl,j.UT.nH,t3,bj _ _ (m4 _ _ t1),j.UT.cl,j.UT.nO,t4,?_⟩;refine BZ (T:=j.T) c4 ((t6.same m4).same bj) ((t7.same m4).same bj) iF.ok.d3 (by have:=iF.o2;omega) λx H5 n5 s5 dR=>?_;have m5:=m4.trans (fj (L:=[Pt]) s5);have ia:=mI.same s5;have W5:=(G.same m5).same bj;have TX:=dR [] (λb hb=>nomatch hb);rw[wb]at TX;refine⟨W5.sh,W5.pc,W5.pcok,G.n4,TX,k4.va,k4.len G.ap G.n4,iF.o2,iF.ok.okO,λe he=>(iF.ok.ok.cs e he).2.ln,ia,λt H6 kvs tr n6 kT lq e6 pY oC mD kY _=>?_⟩;refine⟨Aw,λtp H7 n7 s7 e7=>?_⟩;have m6:=m5.trans (j7.msk kT);have m7:=m6.trans (fj (L:=[Pt]) s7);have rX:=lq.same s7;have go:∀{b:Addr}{o:HO},H3 b=some o->(∀φ,o≠.ext φ)->H7 b=some o:=λe ne=>s7 _ _ (kT _ _ (s5 _ _ (s4 _ _ e)) (aE.ne ia (s5 _ _ (s4 _ _ e)) ne));have TY:∀{b:Addr}{o:HO},H5 b=some o->(∀φ,o≠.ext φ)->H7 b=some o:=λe ne=>s7 _ _ (kT _ _ e (aE.ne ia e ne));have CY:=go wC (by intro φ z;cases z);have CZ:=s5 _ _ TW;have lp:l≠p1:=(aI e1 n2).symm;refine⟨CY,bZ (by omega),?_⟩;have hu:∀{b:Addr}{o o':HO},H7 b=some o->b≠p1->af H7 p1 o' b=some o:=λe ne=>ay e ne;have ab:tp≠p1:=λz=>by rw[z,kT _ _ CZ (aE.ne ia CZ (by intro φ z;cases z))]at n7;cases n7
   have a8:t≠p1:=λz=>by rw[z,CZ]at n6;cases n6
   refine⟨_,r,zs++[.ref tp],es++[(n,tr)],rfl,?_,?_,hu (go TV (by intro φ z;cases z)) lp,aB oh λ_ _ yy=>?_,aD,?_,by rw[bH,il];rfl,?_⟩
   . refine λb ob O=>?_;have:=m7 b ob O;have nb:b∉[Pt]:=λz=>by unfold K74.msk at this;rw[aj z]at this;cases this
     exact cL nb (hu (bj _ _ this) λz=>by have:=bj _ _ O;rw[z,TU]at this;cases this)
   . exact K74.aE.kp rX λb φ e=>hu e (aU e CY (by intro z;cases z))
   . obtain⟨l',y1,y2,J⟩:=yy;refine⟨l',y1,y2,hu (go J (by intro φ z;cases z)) λz=>?_⟩;rw[z,wC]at J;injection J with J
     injection J with J
     subst J;cases wD with
     | cons r t=>obtain⟨_,_,_,_,z,_⟩:=r;cases z
   . rw[yw bQ];refine jd ?_ (aB wD λ_ _ z=>z.kp λb ob O ne=>?_)
     . have q1:∀{b:Addr}{o:HO},H7 b=some o->b≠p1->msk [p1] H7 b=some o:=λe ne=>cL (by simpa using ne) e;refine⟨tp,g,t,kvs,rfl,Jd m6 lq n7,q1 e7 ab,q1 (go Y (by intro φ z;cases z)) gp,ax n (dH hn),Jd m5 ia n6,q1 (s7 _ _ e6) a8,aB pY λ_ _ a4=>a4.elim λy1 a5=>a5.elim λl' a6=>a6.elim λy2 a7=>a7.elim λJ y4=>⟨y1,l',y2,Jd m5 ia J,q1 (s7 _ _ y4) λz=>by rw[z,CZ]at J;cases J⟩,oC,mD,kY⟩
     have nb:b∉[p1]:=λz=>by unfold K74.msk at O;rw[aj z]at O;cases O
     exact cL nb (go (bj _ _ O) ne)
   have c7:dq H7 r ((us.take (i+1)).foldl (bN ch) now):=by
    obtain⟨kr,r1,r2⟩:=c4.same s5;exact⟨kr,TY r1 (by intro φ z;cases z),aB r2 λ_ _ a1=>a1.elim λa a2=>a2.elim λm a3=>a3.elim λb c=>⟨a,m,b,TY c (by intro φ z;cases z)⟩⟩
   refine dq.off (K74.aE.kp rX λb φ e=>hu e (aU e CY (by intro z;cases z))) (dq.mut CY c7)
 rintro Z H3 ⟨u,re,zs,es,rfl,m3,jn,TV,oh,wC,wD,il,c3⟩;refine⟨q p1 zs es H3 TU (λb ob O nb=>bj _ _ (m3 b ob (cL (by simpa using nb) O))) jn wC wD (by omega)⟩
end
section
variable {xs:Lv}{ps:Lp}{ch:Ch}{cs:Cs}{ow:Ow}
seal PE PS bW PA PT PW PG fM PI fF
def zz:Str:="step"
def dw(st:Ls):Bk:=st.map λz=>(zz,z)
theorem fL.txt{t:Str}(h:fL xs ps t ch cs ow):gE t:=by
 rw[h.tx,<-uJ];refine Fb (by decide +kernel) λr G=>?_;have l:∀{ys:Ls},(∀y∈ys,gE y)->gE (Str.join spS ys):=λh=>by rw[<-uJ];exact Fb (by decide +kernel) h
 rcases Gr h.so.ok.ok G with⟨e,a,b,rfl⟩ | ⟨e,a,b,rfl⟩ | ⟨p,a,rfl⟩ | ⟨x,a,rfl⟩ | ⟨x,a,rfl⟩
 . refine l λy j=>?_;simp only[be,fZ,f7]at j
   rcases j with rfl | rfl | rfl
   . decide +kernel
   . exact a.ok
   exact vK.mpr λc z=>by have:=b.signs c z;omega
 . refine l λy j=>?_;simp only[be,fZ,f7]at j
   rcases j with rfl | rfl | rfl
   . decide +kernel
   . exact a.ok
   exact b.ok
 . refine l λy j=>?_;simp only[be,fZ,f7]at j
   rcases j with rfl | rfl
   . decide +kernel
   exact a.ln.ok
 . exact AS (by decide +kernel) a.ln.ok
 exact AS (by decide +kernel) a.ln.ok
def rY(xs:Lv)(ps:Lp)(ch:Ch)(cs:Cs)(ow:Ow)(t:Str):Prop:=∃aT aV aM,cF ch aT/\cF cs aV/\cF ow aM/\fL xs ps t aT aV aM
theorem rY.ok{t:Str}(h:rY xs ps ch cs ow t):∃ch cs ow,fL xs ps t ch cs ow:=h.elim λa j=>j.elim λb z=>z.elim λc G=>G.elim λ_ J=>J.elim λ_ O=>O.elim λ_ h=>⟨a,b,c,h⟩
def wE(xs:Lv)(ps:Lp)(t:Str)(fs:Tr):Prop:=∃ch cs ow tr,rY xs ps ch cs ow t/\fC xs ps ch cs ow/\wy ps ch cs ow tr/\look fs=look tr
theorem fC.pt(h:fC xs ps ch cs ow):∀e∈ow,dB e.1:=λe j=>(h.ok.ok.ow e j).1
theorem wE.look{ns:Ls}{t:Str}{fs tr:Tr}(h:wE xs ps t fs)(z:Apart ns ps)(k:fL xs ps t ch cs ow)(g:wy ps ch cs ow tr):K74.look fs=K74.look tr:=by
 obtain⟨a,b,c,IP,⟨a',b',c',O,U,Y,G⟩,j,J,e⟩:=h;obtain⟨rfl,rfl,rfl⟩:=G.uniq k;rw[e];exact alg z O.pm.symm U.pm.symm Y.pm.symm j.ok.d1 j.ok.d2 j.ok.d3 j.pt J g
def C0(ps:Lp)(ch:Ch)(cs:Cs)(ow:Ow)(fs:Tr):Prop:=∀tr,wy ps ch cs ow tr->(tr.map (·.1)).Nodup->tr.length<=24->oj fs tr
theorem C0.of{fs:Tr}(h:fs.length<=39):C0 ps ch cs ow fs:=λtr _ _ l=>uU (by omega)
def C1(R:Hp)(v:V)(e:Str×Tr):Prop:=∃j g t kvs,v=.ref j/\R j=some (.tup [.ref g,.ref t])/\R g=some (.lst [.str e.1])/\cM e.1/\R t=some (.dK kvs)/\Paired (cw R) kvs e.2/\(e.2.map (·.1)).Nodup/\e.2.length<=24/\d5 e.2
theorem C1.same{R j:Hp}(s:ac R j){v:V}{e:Str×Tr}(h:C1 R v e):C1 j v e:=by
 obtain⟨Y,g,t,kvs,h1,h2,z,G,J,O,U⟩:=h;exact⟨Y,g,t,kvs,h1,s _ _ h2,s _ _ z,G,s _ _ J,aB O λ_ _=>cw.same s,U⟩
theorem Dk.busy{lf:Option Int}{fs:Tr}{bk:Bk}{H:Hp}{lp:Pos}{qu:Str}(h:Dk D x dx d b lf fs bk H)(t:aE H Pt lp qu):gO H [x,d,b,Pt]:=λq j=>by
 obtain⟨J,d1,_⟩:=h.fi;obtain⟨tb,G,_⟩:=h.bo;obtain⟨φ,w⟩:=aE.at t;simp only[be,fZ,f7]at j
 rcases j with rfl | rfl | rfl | rfl
 . exact⟨_,h.ob,by intro vs z;cases z⟩
 . exact⟨_,d1,by intro vs z;cases z⟩
 . exact⟨_,G,by intro vs z;cases z⟩
 exact⟨_,w,by intro vs z;cases z⟩
theorem aE.kx{lf:Option Int}{fs:Tr}{bk:Bk}{H H':Hp}{lp:Pos}{qu:Str}(h:Dk D x dx d b lf fs bk H)(t:aE H Pt lp qu)(k:∀p o,H p=some o->p≠x->p≠d->p≠b->H' p=some o):aE H' Pt lp qu:=by
 obtain⟨G,d1,_⟩:=h.fi;obtain⟨tb,j,_⟩:=h.bo;exact K74.aE.kp t λq φ e=>k _ _ e (aU e h.ob (by intro z;cases z)) (aU e d1 (by intro z;cases z)) (aU e j (by intro z;cases z))
inductive Je (C S T D j Pt:Addr):Sp where
 | mk {H:Hp}{Q:VK}{E:XK}{G z:V}{x dx d b:Addr}{lf:Option Int}{fs:Tr}{bk:Bk}{xs:Lv}{ps:Lp}{ns:Ls}{ch:Ch}{cs:Cs}{ow:Ow} (_:jm C S (msk [x,d,b,Pt] H) G xs ps ns) (_:gR T (msk [x,d,b,Pt] H) z ch cs ow) (_:fC xs ps ch cs ow) (_:Dk D x dx d b lf fs bk H) (_:fs.length<=24) (_:bk.length<=300) (_:mH xs ps (Str.empty::cY bk)) (_:aE H Pt dg df)
  (_:∀t H',rY xs ps ch cs ow t->(Str.empty::cY bk).getLast?=some t->Dk D x dx d b lf fs bk H'->bO x d b Pt H H'->aE H' Pt dg df->Q .non H')
  (_:∀t lf' bE st H',rY xs ps ch cs ow t->(lf=none->lf'=none)->Dk D x dx d b lf' bE (bk++(dv,t)::dw st++[iD]) H'->bE.length<=24->wE xs ps t bE->st.length<=8->bO x d b Pt H H'->aE H' Pt dg df->Q .non H')
  (_:∀t bE st H',rY xs ps ch cs ow t->lf≠none->Dk D x dx d b (some 0) bE (bk++(dv,t)::dw st) H'->st.length<=8->bO x d b Pt H H'->aE H' Pt dg df->E (.ref j) none H')
  (_:ib lf=none->∀t H',rY xs ps ch cs ow t->Dk D x dx d b lf fs bk H'->bO x d b Pt H H'->aE H' Pt dg df->E (.ref j) none H'):Je C S T D j Pt [G,.ref x,z] H Q E
theorem vc:aK [asY,as3,ath,atj,atb,"steps",atm,atB,"between"] [asY,as3,ath] (av PY):=aQ
theorem Jf(j:Pg K mg base Pt):au P w K mg base (dU P w) 8 j.DoD.f j.DoD.fd [asY,as3,ath] (Je j.C j.S j.T j.D j.Fa Pt):=by
 refine j.DoD.u.okR vc (λvs H Q E h=>?_) (λar A outer s H vs Q E U h=>?_)
 . cases h;rfl
 refine ya ?_;intros;obtain @⟨_,_,_,sv,gv,x,dx,d,b,lf,fs,bk,xs,ps,ns,ch,cs,ow,hW,hG,Y,hD,mD,bb,tok,a0,q1,q2,q3,q4⟩:=h;refine⟨_,(ah (aF (i:=3) vc.nd rfl (Or.inl rfl) (aA (Ja j) U rfl (am (pv 1))))
  (ah (aF (i:=4) vc.nd rfl (Or.inl rfl) (aA (uK j) U rfl (am (pv 2))))
  (ah (bu (bq cT (aA (uK j) U rfl (am (pv 3))) (pv 4) (bh _))
  (ai KA) bI)
  (ah (aF (i:=5) vc.nd rfl (Or.inl rfl) (aA (amS j) U rfl (dP (pv 0) (bJ (pv 3) rfl) (pv 2))))
  (ah (aF (i:=6) vc.nd rfl (Or.inl rfl) (aA (wz j) U rfl (aC (pv 0) (pv 2))))
  (ah (bC (gA (pv 1) j.UD.cl j.DNt.mt (up (Jc (Iq j))) U j.DNt.b .nil eK (aC bB (pv 4))))
  (ah (eS PassesOwn.leaving rfl (cH (pv 5)) (oP rfl (gz (bf (i:=7) vc.nd rfl (Or.inl rfl)) (gz (bf (i:=8) vc.nd rfl (Or.inl rfl)) mX)))
  (ah (bC (uD (TK (IE j)) U rfl eK (aC (pv 1) (pv 8))))
   (ai (bC (gA (pv 1) j.UD.cl j.DNt.mt (up (Jc (Iq j))) U j.DNt.b .nil eK (aC bB (dC lN xg xh vO bB (am (pv 7)))))))))
  (ai (bC (uD (TQ j) U rfl eK (aC (pv 1) (pv 6)))))))))))),?_⟩
 refine adQ ?_;intro dD sS u8 u7 u6 u5 u4 u3 u2;obtain⟨tb,b1,b2⟩:=id hD.bo;obtain⟨t0,zA⟩:∃t0,(Str.empty::cY bk).getLast?=some t0:=⟨_,arA (xf _ _)⟩;obtain⟨oE,pZ,qa,iG⟩:=tok t0 (List.mem_of_getLast? zA);have a9:gO H [Pt]:=λq hq=>(hD.busy a0) q (by rw[bF.mp hq];simp);refine⟨hD.ob,b1,b2,by omega,zA,iG,λv0 H1 s1 jc=>?_⟩;refine⟨?_⟩;dsimp only[fg,su,xn];refine Y.sho ((hG.same bj).same s1) λt aT aV aM H2 r1 r2 r3 hT s2=>?_;have hg:rY xs ps ch cs ow t:=⟨aT,aV,aM,r1,r2,r3,hT⟩;have TZ:=jc [Pt] a9;obtain⟨va,T0,T1,c0,h0,o0,rfl,w1,w2,w3,w4,w5,w6,w7⟩:=id TZ;refine⟨?_⟩;dsimp only[fg,su,xn];refine iG.sho ((TZ.same bj).same s2) λH3 s3=>⟨rfl,⟨?_⟩⟩;have jH:=s2.trans s3;have lF:=s1.trans jH;refine bv (λh=>?_) (λh=>?_)
 . have e:=cW h;injection e with e
   exact q1 t H3 hg (e▸zA) (hD.same lF) (.of lF) (a0.same lF)
 have m3:=fj (L:=[Pt]) lF;have less:∀{Hx:Hp},ac (msk [x,d,b,Pt] Hx) (msk [Pt] Hx):=BD (by simp);have jn:=a0.same lF;have T2:=hD.same lF;refine⟨jH _ _ (bj _ _ w1),j.UT.cl,j.UT.nC,w2,⟨?_⟩⟩;refine⟨(hW.same less).same m3,w5.same (fj jH),⟨iG.so.ok.d1,iG.so.va⟩,(hG.same less).same m3,Y,jn,λl zs es H4 nl kT mI el b8 e8=>?_⟩;have b3:bO x d b Pt H3 H4:=.ofT kT;have Jg:bO x d b Pt H H4:=(bO.of lF).trans b3;have rZ:=T2.keepT jn kT;have W4:=(hW.same Jg.msk).same bj;have G4:=(hG.same Jg.msk).same bj;have cB:eO xs ps ch:=⟨Y.ok.d1,Y.va⟩;refine⟨W4.sh,W4.pc,W4.pcok,W4.n4,G4,Y.va,cB.len W4.ap W4.n4,Y.o2,Y.ok.okO,λe he=>(Y.ok.ok.cs e he).2.ln,mI,λt5 H5 kvs tr n5 zB ia e5 pY oC lT kY vd=>?_⟩;have T3:bO x d b Pt H4 H5:=.ofT zB;have zC:=Jg.trans T3;have lm:=rZ.keepT mI zB;have ab:=T2.busy jn;have a1:=rZ.busy mI;have nb:∀{q:Addr},H3 q=none->q∉[x,d,b,Pt]:=λe=>ab.free e;have R4:∀{q:Addr}{o:HO},H4 q=some o->H3 q=none->msk [x,d,b,Pt] H4 q=some o:=λe n=>cL (nb n) e;obtain⟨bg,c1,c2⟩:=id rZ.bo;obtain⟨bd,c3,_⟩:=id rZ.fi;have wa:Paired (C1 (msk [x,d,b,Pt] H4)) zs es:=aB b8 λv e z=>by
  obtain⟨tp,g,tt,kk,z1,z2,z3,z4,z5,z6,z7,z8,z9⟩:=z;have g4:=bj _ _ z4;obtain⟨φ,wφ⟩:=aE.at mI;have gn:g∉[x,d,b,Pt]:=λm=>by
   simp only[be,fZ,f7]at m
   rcases m with m | m | m | m
   . rw[m,rZ.ob]at g4;cases g4
   . rw[m,c3]at g4;cases g4
   . exact TF (ls:=[e.1]) c1 c2 (.inr (by simp)) g4 m
   rw[m,wφ]at g4;cases g4
  exact⟨tp,g,tt,kk,z1,R4 (bj _ _ z3) z2,cL gn g4,z5,R4 (bj _ _ z7) z6,aB z8 λ_ _ a2=>a2.elim λy1 and=>and.elim λl' a3=>a3.elim λy2 a4=>a4.elim λy3 y4=>⟨y1,l',y2,R4 (bj _ _ y4) y3⟩,z9⟩
 have l4:msk [x,d,b,Pt] H4 l=some (.lst zs):=R4 el nl;have wF:t5∉[x,d,b,Pt]:=a1.free n5;have gm:Paired (cw (msk [x,d,b,Pt] H5)) kvs tr:=aB pY λ_ _ a5=>a5.elim λy1 a6=>a6.elim λl' a7=>a7.elim λy2 a8=>a8.elim λy3 y4=>⟨y1,l',y2,cL (a1.free y3) y4⟩;have a':msk [x,d,b,Pt] H5 t5=some (.dK kvs):=cL wF e5;have ax:d≠t5:=λz=>wF (by rw[<-z];simp);refine⟨lm.ob,rfl,lm,by omega,(by decide +kernel),hT.txt,λT4 H6 e6 aZ T6=>?_,λe=>q4 e t H5 hg lm zC ia⟩;have wG:bO x d b Pt H5 H6:=λq o e n1 _ n3 _=>T6 q o e n1 n3;have lq:aE H6 Pt dg df:=K74.aE.kx lm ia λp o e n1 _ n3=>T6 p o e n1 n3;have Jh:=(T3.trans wG).msk;have b7:=wG.msk;have b6:lf=none->T4=none:=λz=>by rw[z]at e6;cases e6;rfl
 have zl:=bK wa;refine⟨⟨_,aa.of (bj _ _ (Jh _ _ l4))⟩,?_⟩;refine iK (xs:=zs) (λi Z H7=>∃u v zD zE st,Z=[some sv,some (.ref x),some gv,some (.ref va),some (.str t),some (.ref l),some (.ref t5),u,v]/\bO x d b Pt H6 H7/\aE H7 Pt dg df/\Dk j.D x dx d b zD zE (bk++(dv,t)::dw st) H7/\st.length=i/\zE.length<=24/\(lf=none->zD=none))
  ⟨none,none,T4,fs,[],rfl,.of (ac.refl _),lq,aZ,rfl,mD,b6⟩ ?_ ?_ ?_
 . rintro i Z H7 hi ⟨u,v,zD,zE,st,rfl,O,_⟩;exact aa.of (bj _ _ ((Jh.trans O.msk) _ _ l4))
 . intro i z Z H7 hz hQ;refine bA ?_;intro tT;obtain⟨u,v,zD,zE,st,rfl,O,rX,oA,il,aR,wH⟩:=hQ;obtain⟨e,he,hE⟩:=eZ wa hz;have aO:=(cN.mp hz).1;obtain⟨tp,g,tt,kk,rfl,z2,z3,z4,z5,z6,z7,z8,z9⟩:=hE.same (Jh.trans O.msk);have bn:bk++(dv,t)::dw st≠[]:=by simp
   have lb:(bk++(dv,t)::dw st).length<=309:=by
    rw[bH,cr];unfold dw;rw[al];omega
   have az:d≠tt:=λz=>by
    obtain⟨kd,d1,_⟩:=id oA.fi;have:=z5;unfold msk at this;rw[aj (by rw[<-z];simp)]at this;cases this
   refine⟨ba.of (bj _ _ z2),rfl,rfl,?_⟩;refine mh ?_
   intros
   refine⟨oA,bn,bj _ _ z5,az,aB z6 λ_ _=>cw.same bj,z7,z9,uU (by omega),λJi mJ H8 J C2 T7 wI G=>?_,λmJ H8 zF J G=>?_⟩
   . have qb:bO x d b Pt H7 H8:=λq o e n1 n2 _ _=>G q o e n1 n2;have g8:=bj _ _ (qb.msk _ _ z3);have T8:aE H8 Pt dg df:=K74.aE.kx oA rX λp o e n1 n2 _=>G p o e n1 n2;refine⟨J.ob,rfl,rfl,[e.1],aa.of g8,?_,?_⟩
     . have:=z4.hi;show e.1.length+0+1 * (Str.ofString " ").length<=16777216;have:(Str.ofString " ").length=1:=by decide +kernel
       omega
     refine⟨J,by omega,(by decide +kernel),Fb (by decide +kernel) (λy hy=>by rw[bF.mp hy];exact z4.ok),λb5 H9 e9 b0 T9=>?_,λe9=>?_⟩
     . have b4:bO x d b Pt H8 H9:=λq o e n1 _ n3 _=>T9 q o e n1 n3;refine⟨_,_,b5,mJ,st++[Txt.join " " [e.1]],rfl,O.trans (qb.trans b4),K74.aE.kx J T8 λp o e n1 _ n3=>T9 p o e n1 n3,?_,by rw[bH,il];rfl,by omega,λz=>?_⟩
       . have eb:bk++(dv,t)::dw st++[(zz,Txt.join " " [e.1])]=bk++(dv,t)::dw (st++[Txt.join " " [e.1]]):=by unfold dw;rw[dJ,jR];rfl
         rw[<-eb];exact b0
       rw[wI (wH z)]at e9;cases e9;rfl
     have z0:=TN J e9;refine q3 t mJ st H8 hg (λy=>?_) (z0▸J) (by omega) (zC.trans (wG.trans (O.trans qb))) T8;rw[wI (wH y)]at z0;cases z0
   have qb:bO x d b Pt H7 H8:=λq o e n1 n2 _ _=>G q o e n1 n2;exact q3 t mJ st H8 hg (λy=>zF (wH y)) J (by omega) (zC.trans (wG.trans (O.trans qb))) (K74.aE.kx oA rX λp o e n1 n2 _=>G p o e n1 n2)
 rintro Z H7 ⟨u,v,zD,zE,st,rfl,O,rX,oA,il,aR,wH⟩;have bn:bk++(dv,t)::dw st≠[]:=by simp
 have lb:(bk++(dv,t)::dw st).length<=309:=by
  rw[bH,cr];unfold dw;rw[al];omega
 have Ua:=b7.trans O.msk;refine⟨oA,bn,by omega,bj _ _ (Ua _ _ a'),ax,aB gm λ_ _ z=>(cw.same Ua z).same bj,oC,kY,uU (by omega),λJi mJ H8 J C2 T7 wI G=>?_,λmJ H8 zF J G=>?_⟩
 . have qb:bO x d b Pt H7 H8:=λq o e n1 n2 n3 _=>G q o e n1 n2 n3;exact q2 t Ji mJ st H8 hg (λz=>wI (wH z)) J (by omega) ⟨ch,cs,ow,tr,hg,Y,vd,C2⟩ (by omega) (zC.trans (wG.trans (O.trans qb))) (K74.aE.kx oA rX G)
 have qb:bO x d b Pt H7 H8:=λq o e n1 n2 n3 _=>G q o e n1 n2 n3;exact q3 t mJ st H8 hg (λy=>zF (wH y)) J (by omega) (zC.trans (wG.trans (O.trans qb))) (K74.aE.kx oA rX G)
end
section
seal PE PS bW PA PT PW PG fM PI fF
inductive Jj (C S D Pt:Addr):Sp where
 | mk {H:Hp}{Q:VK}{E:XK}{j:V}{x dx d b:Addr}{fs:Tr}{bk:Bk}{xs:Lv}{ps:Lp}{ns:Ls}{t:Str}{ch:Ch}{cs:Cs}{ow:Ow} (_:jm C S (msk [x,d,b,Pt] H) j xs ps ns) (_:Dk D x dx d b none fs bk H) (_:bk.length<=390) (_:(Str.empty::cY bk).getLast?=some t) (_:fL xs ps t ch cs ow) (_:iE bk=false->C0 ps ch cs ow fs) (_:aE H Pt dg df)
  (_:iE bk=true->∀H',ac H H'->Q (.bl false) H')
  (_:iE bk=false->∀bE H',Dk D x dx d b none bE (bk++[iD]) H'->wE xs ps t bE->bE.length<=24->bO x d b Pt H H'->aE H' Pt dg df->Q (.bl true) H'):Jj C S D Pt [j,.ref x] H Q E
theorem anu:aK [asY,as3] [asY,as3] (av rA):=aQ
theorem anv(G:Pg K mg base Pt):au P w K mg base aL 6 G.CoU.f G.CoU.fd [asY,as3] (Jj G.C G.S G.D Pt):=by
 refine G.CoU.u.okL anu ?_;intro ar A outer s H vs Q E Y h xX dX;obtain @⟨_,_,_,sv,x,dx,d,b,fs,bk,xs,ps,ns,t0,oE,pZ,qa,hW,O,a2,zA,j,a0,a1,q1,q2⟩:=h;refine⟨_,(ah (bu (ij (aA (Tx G) Y rfl (am (pv 1))))
  (ai (aN iJ)) bI)
  (ah (bC (uD (TQ G) Y rfl Be (aC (pv 1) (aA (wz G) Y rfl (aC (pv 0) (aA (Ja G) Y rfl (am (pv 1))))))))
  (ai (aN iJ)))),?_⟩
 obtain⟨tb,b1,b2⟩:=id O.bo;refine⟨O.ob,b1,b2,O.bt,λH1 s1=>⟨?_⟩⟩;refine bv (λh=>?_) (λh=>?_)
 . exact q1 h H1 s1
 have U:iE bk=false:=oK.mpr h;have bn:bk≠[]:=λz=>by rw[z]at U;cases U
 have pX:=O.same s1;obtain⟨Oj,c1,c2⟩:=id pX.bo;refine⟨pX.ob,c1,c2,by omega,zA,j,λv0 H2 s2 jc=>?_⟩;have lB:=s1.trans s2;have J:=(hW.same bj).same lB;have hv:=jc [] (λb hb=>nomatch hb);rw[wb]at hv;have rW:=a1.same lB;have cB:eO xs ps oE:=⟨j.so.ok.d1,j.so.va⟩;have jh:=O.same lB;refine⟨J.sh,J.pc,J.pcok,J.n4,hv,j.so.va,cB.len J.ap J.n4,j.so.o2,j.so.ok.okO,λe he=>(j.so.ok.ok.cs e he).2.ln,rW,λt5 H5 kvs tr n5 zB ia e5 pY oC lT kY vd=>?_⟩;have lm:=jh.keepT rW zB;have wF:t5∉[x,d,b,Pt]:=(jh.busy rW).free n5;refine⟨lm,bn,by omega,e5,λz=>wF (by rw[<-z];simp),aB pY λ_ _ z=>z.du,oC,kY,a0 U tr vd oC lT,λJi mJ H8 ja C2 T7 wI jO=>?_,λmJ H8 zF _ _=>absurd rfl zF⟩;cases wI rfl;exact q2 U mJ H8 ja ⟨oE,pZ,qa,tr,⟨oE,pZ,qa,j.s1,j.s2,j.s3,j⟩,j.so,vd,C2⟩ (by omega) ((bO.of lB).trans ((bO.ofT zB).trans λq o e n1 n2 n3 _=>jO q o e n1 n2 n3)) (K74.aE.kx lm ia jO)
inductive Ub (C T:Addr):Sp where
 | mk {H:Hp}{Q:VK}{E:XK}{a n:Addr}{j:Int}{xs:Lv}{ps:Lp}{ns:Ls} (_:H a=some (.lst xs)) (_:eB C H xs ps) (_:ps.length<=100) (_:(∀p∈ps,cM p.nm/\fW p.ms)) (_:H n=some (.lst (ns.map V.str))) (_:1<=ns.length) (_:ns.length<=4) (_:(∀n∈ns,cM n)) (_:∀v ch cs ow H',ac H H'->(∀L,gO H L->gR T (msk L H') v ch cs ow)->fC xs ps ch cs ow->(∀e∈ow,e.2.1.length<=4/\e.2.2.length<=4)->ow.length<=2->(∀e∈ow,e.1.length≠13)->Q v H'):Ub C T [.ref a,.ref n,.int j] H Q E
theorem qe:aK [atk,as9,as4,"_law_chosen_here","_law_choices","_law_own",ate,"_law_common",as0,"_law_base"] [atk,as9,as4] (av Qa):=aQ
theorem anx(j:Pg K mg base Pt):au P w K mg base aL 4 j.LSt.f j.LSt.fd [atk,as9,as4] (Ub j.C j.T):=by
 refine j.LSt.u.okL qe ?_;intro ar A outer s H vs Q E G h xX dX;obtain @⟨_,_,_,a,n,a0,xs,ps,ns,ha,bM,v9,Jk,hn,n1,n4,a5,q⟩:=h;have hu:=G.units;refine⟨_,(ah (aF (i:=3) qe.nd rfl (Or.inl rfl) (aA (ajp j) G rfl (dP (pv 0) (pv 1) (aA (iz j) G rfl (aC (pv 2) ak)))))
  (ah (aF (i:=4) qe.nd rfl (Or.inl rfl) mf)
  (ah (aF (i:=5) qe.nd rfl (Or.inl rfl) mf)
  (ah (eS eR rfl (mZ rfl j.B.range (am (aJ cS (aA (iz j) G rfl (aC (pv 2) ak)) ak))) (bf (i:=6) qe.nd rfl (Or.inl rfl))
  (ah (aF (i:=7) qe.nd rfl (Or.inl rfl) (bP fQ (pv 1) (aJ cS (aA (iz j) G rfl (aC (pv 2) (aJ fO ak (pv 6)))) (cJ gL (by rfl) j.B.len gy (am (pv 1)))) (λ_ _=>rfl)))
   (ai (i8 hu (pv 4) (pv 7) (bP fQ (pv 1) (aJ cS (aA (iz j) G rfl (aC (pv 2) (aJ fO ak (pv 6)))) (cJ gL (by rfl) j.B.len gy (am (pv 1)))) (λ_ _=>rfl)) rfl))))
  (ah (eS eR rfl (mZ rfl j.B.range (am (aJ cS (aA (iz j) G rfl (aC (pv 2) ak)) ak))) (bf (i:=6) qe.nd rfl (Or.inl rfl))
  (ah (aF (i:=8) qe.nd rfl (Or.inl rfl) (aA (iz j) G rfl (aC (pv 2) (aJ fO ak (pv 6)))))
   (ah (aF (i:=9) qe.nd rfl (Or.inl rfl) (aA (GB j) G rfl (am (aA (iz j) G rfl (aC (pv 2) (aJ fO ak (pv 6)))))))
   (ai (i8 hu (pv 5) (aA (QK j) G rfl (am (pv 8))) (dE (aC (pv 9) (aA (GB j) G rfl (am (aA (iz j) G rfl (aC (pv 2) (aJ fO ak (pv 6)))))))) rfl)))))
  (ai (aN (qK j.MTIn (up (BY j)) G rfl j.UT.mgC j.TIn.b .nil bT (dP (pv 3) (pv 4) (pv 5)))))))))),?_⟩
 refine x6 ?_;intro dD sS u6 u5 u4 u3 u2;have name:∀r:Int,∃z,cE (ns.map V.str) (r % ((ns.map V.str).length:Int))=some (V.str z)/\cM z:=λr=>by
  have hl:((ns.map V.str).length:Int)=ns.length:=by rw[al]
  rw[hl];have h0:=wY r (show(ns.length:Int)≠0 by omega);have h1:=Af r (show(0:Int)<ns.length by omega);obtain⟨z,hz,zm⟩:=xR (xs:=ns) (r:=r % (ns.length:Int)) h0 h1;exact⟨z,hz,a5 z (dH zm)⟩
 have Uc:(0:Int)<((ns.map V.str).length:Int):=by rw[al];omega
 refine⟨⟨⟨⟨λm0=>?_⟩⟩⟩⟩;refine⟨ha,bM,v9,hn,n4,λdc H1 ch nc s1 hc hv nd c4=>?_⟩;refine λdh H2 nh Y e2=>?_;refine λdO H3 no s3 e3=>?_;have jH:=s1.trans (Y.trans s3);obtain⟨kc,fG,jg⟩:=id hc;have P0:lC H H3 dc dh dO ch [] []:=⟨jH,nc,s1.free nh,(s1.trans Y).free no,aI fG nh,aI (Y _ _ fG) no,aI e2 no,hc.same (Y.trans s3),⟨[],s3 _ _ e2,.nil⟩,⟨[],e3,.nil⟩⟩;have o0:lE ch [] [] 4 0 0:=⟨⟨λe O=>?_,(λ_ h=>nomatch h),(λ_ h=>nomatch h)⟩,nd,kB,kB,c4,aG _,aG _,(λ_ h=>nomatch h)⟩
 rotate_left
 . obtain⟨v,p,hi,e1,e2⟩:=hv e O;obtain⟨a1,a2⟩:=Jk p (IV hi);exact⟨e1▸a1,e2▸a2⟩
 refine⟨⟨λm1=>?_⟩⟩;refine⟨(by show(0:Int)<3;decide),by omega,by omega,?_⟩;refine tL (λi Z H4=>∃u v cs,Z=[some (.ref a),some (.ref n),some (.int a0),some (.ref dc),some (.ref dh),some (.ref dO),u,v,none,none]/\lC H H4 dc dh dO ch cs []/\lE ch cs [] 4 i 0) ⟨none,none,[],rfl,P0,o0⟩ ?_ ?_
 . intro i Z H4 hi J;refine bA ?_;intro tT;obtain⟨u,v,cs,rfl,N,ok⟩:=J;have U:=N.old _ _ hn;refine⟨⟨⟨⟨⟨λm2=>?_⟩⟩⟩⟩⟩;obtain⟨z1,Cf,a6⟩:=name m2;refine⟨n,_,rfl,.inl (aa.of U),Uc,aa.of U,Cf,?_⟩;refine⟨⟨⟨⟨⟨λm3=>?_⟩⟩⟩⟩⟩;obtain⟨z2,a4,a7⟩:=name m3;obtain⟨kh,c1,c2⟩:=id N.cs;have lc:=bK c2;have:=ok.n2;refine⟨n,_,rfl,.inl (aa.of U),Uc,aa.of U,a4,gb.k (k:=.inr z1) c1 (bZ (by omega)),?_⟩;exact⟨_,_,_,rfl,N.putH c1,ok.putH a6 a7⟩
 intro Z H4 J;refine bA ?_;intro tT;obtain⟨u,v,cs,rfl,N4,a8⟩:=J;refine⟨⟨λm5=>?_⟩⟩;refine⟨(by show(0:Int)<3;decide),by omega,by omega,?_⟩;refine tL (λi Z H5=>∃u x8 x9 ow,Z=[some (.ref a),some (.ref n),some (.int a0),some (.ref dc),some (.ref dh),some (.ref dO),u,v,x8,x9]/\lC H H5 dc dh dO ch cs ow/\lE ch cs ow 4 4 i/\∀e∈ow,e.1.length≠13) ⟨u,none,none,[],rfl,N4,a8.mono (aG _) (by omega) (aG _),λ_ h=>nomatch h⟩ ?_ ?_
 . intro i Z H5 hi J;refine bA ?_;intro tT;obtain⟨u,x8,x9,ow,rfl,N,ok,C4⟩:=J;refine⟨⟨⟨⟨λm6=>?_⟩⟩⟩⟩;refine⟨⟨⟨⟨λm7=>⟨λl1 H6 a9 ap s6 e6 k6 o6=>?_⟩⟩⟩⟩⟩;refine⟨⟨⟨⟨⟨λm8=>⟨λl2 H7 ab ax s7 e7 k7 o7=>?_⟩⟩⟩⟩⟩⟩;refine⟨Aw,λt H8 nt s8 e8=>?_⟩;refine⟨⟨⟨λpt H9 qf s9=>?_⟩⟩⟩;have N9:=N.same (s6.trans (s7.trans (s8.trans s9)));obtain⟨ko,c1,c2⟩:=id N9.ow;have lc:=bK c2;have:=ok.n3;refine⟨gb.k (k:=.inr pt) c1 (bZ (by omega)),?_⟩;exact⟨_,_,_,_,rfl,N9.putO c1 (s9 _ _ e8) ((s7.trans (s8.trans s9)) _ _ e6) ((s8.trans s9) _ _ e7),ok.putO qf.1 o6 o7 k6 k7,λe O=>(mv O).elim (λz=>by rw[z];exact qf.2) (C4 e)⟩
 intro Z H5 J;refine bA ?_;intro tT;obtain⟨u,x8,x9,ow,rfl,N,ok,C4⟩:=J;have o2:ow.length<=2:=bX ok.n3 (by omega);refine⟨⟨⟨?_⟩⟩⟩;refine BZ (T:=j.T) N.ch N.cs N.ow ok.d3 (by omega) λx H6 nx s6 dR=>?_;refine q (.ref x) ch cs ow H6 (N.old.trans s6) (λL hL=>dR L λb hb=>(hL b hb).elim λo a3=>a3.elim λe n=>⟨o,N.old b o e,n⟩) ⟨⟨ok.ok,ok.d1,ok.d2,ok.d3,ok.n1,ok.n2,by omega,λe O=>by have:=ok.ln e O;omega⟩,hv,by omega⟩ ok.ln o2 C4
inductive Ud:Sp where
 | mk {H:Hp}{Q:VK}{E:XK}{x:Str} (_:x.length<=90000) (_:∀H',ac H H'->Q (.bl (nY x)) H'):Ud [.str x] H Q E
theorem anF:aK [atb] [atb] (av Qb):=aQ
theorem anG(j:Pg K mg base Pt):au P w K mg base aL 1 j.IsN.f j.IsN.fd [atb] Ud:=by
 obtain⟨t8,O⟩:=j.K0.let8;refine j.IsN.u.okL anF ?_;intro ar A outer s H vs Q E hr h xX dX;obtain @⟨_,_,_,x,hx,q⟩:=h;refine⟨_,(ai (aN (xy (El tP AD ak (cJ Ez (by rfl) j.B.len gy (am (pv 0))) (jV (v:=.int 8) (by rfl) O ⟨_,rfl⟩))
  (vD (cJ (Oc K) (by rfl) j.B.all arB (am (fT ["sign"] [] [] dN rfl (afK (pv 0)) (λ_ _ _ _=>(bf (i:=0) (show List.Nodup (["sign"]:Ls) by decide +kernel) rfl (Or.inl rfl))) (λ_ _ _ _=>ge) (λ_ _ _ _=>(El N6 N6 bB (pv 0) bB))))))))),?_⟩
 refine⟨_,rfl,eA (by omega),⟨⟨?_⟩⟩⟩;refine bv (λh1=>?_) (λh1=>?_)
 . refine⟨⟨?_⟩⟩;refine bv (λh2=>?_) (λh2=>?_)
   . refine⟨x,rfl,?_⟩;refine afX (σ0:=[none]) (λZ=>∃v,Z=[v]) (λc=>.bl (rm aS zS c)) (eA (by show x.length<=_;omega)) ⟨_,rfl⟩ ?_ ?_
     . intro c Z H2 k hc U hs Y;obtain⟨v,rfl⟩:=U;refine⟨_,_,rfl,rfl,⟨?_⟩⟩;have G:=Y [some (.str (q5 c))] H2 ⟨_,rfl⟩ (ac.refl _);refine bv (λJ=>?_) (λJ=>?_)
       . refine⟨_,_,rfl,rfl,?_⟩;rw[show rm aS zS c=yC (q5 c) zS from aj J]at G;exact G
       rw[show rm aS zS c=false from ag J]at G;exact G
     intro D H2 hD hd hs;refine⟨D,_,rfl,aa.of (by rw[hd,ahs]),?_⟩;have:=q H2 hs;unfold nY at this;rw[QN];rw[bL ⟨by have:=cW h1;omega,by have:=cW h2;omega⟩,wV]at this;exact this
   have:=q H (ac.refl _);unfold nY at this;rw[cq (λz=>h2 (bL (by have:=z.2;omega))),Dr]at this;exact this
 refine⟨?_⟩;have:=q H (ac.refl _);unfold nY at this;rw[cq (λz=>h1 (bL (by have:=z.1;omega))),Dr]at this;exact this
inductive Ue:Sp where
 | mk {H:Hp}{Q:VK}{E:XK}{x:Str} (_:x.length<=80000) (_:∀H',ac H H'->Q (.bl (uA x)) H'):Ue [.str x] H Q E
theorem Uf:aK [atb,"parts"] [atb] (av Qc):=aQ
theorem anH(j:Pg K mg base Pt):au P w K mg base aL 2 j.IsP.f j.IsP.fd [atb] Ue:=by
 obtain⟨t4,Y⟩:=j.K0.pw4;refine j.IsP.u.okL Uf ?_;intro ar A outer s H vs Q E hr h xX dX;obtain @⟨_,_,_,x,hx,q⟩:=h;refine⟨_,(ah (aF (i:=1) Uf.nd rfl (Or.inl rfl) (dC lN Kf Kg Bu (pv 0) (am bB)))
  (ai (aN (xy (qJ AD (cJ gL (by rfl) j.B.len gy (am (pv 1))) (jV (v:=.int 4) (by rfl) Y ⟨_,rfl⟩) (bh _))
  (vD (cJ (Oc K) (by rfl) j.B.all arB (am (fT ["part"] [] [] dN rfl (cH (pv 1)) (λ_ _ _ _=>(bf (i:=0) (show List.Nodup (["part"]:Ls) by decide +kernel) rfl (Or.inl rfl))) (λ_ _ _ _=>ge) (λ_ _ _ _=>(aA (anG j) hr rfl (am (pv 0)))))))))))),?_⟩
 refine mh ?_;intro dD sS dY;refine⟨rfl,x,lg,rfl,rfl,by decide +kernel,eA (by omega),λl H1 n1 U e1=>?_⟩;refine⟨l,_,rfl,.inl (aa.of e1),⟨⟨?_⟩⟩⟩;refine bv (λh1=>?_) (λh1=>?_)
 . refine⟨⟨_,aa.of e1⟩,?_⟩;refine vX (σ0:=[none]) (aa.of e1) (λZ=>∃v,Z=[v]) (((Txt.split x lg).map nY).map V.bl) (by rw[al,al,al]) (eA (by rw[al];have:=split_le x lg;omega)) ⟨_,rfl⟩ ?_ ?_
   . intro i z y Z H2 k hz O hQ hs hk;obtain⟨v,rfl⟩:=hQ;obtain⟨p,J,rfl⟩:=iS hz;rw[lL]at O;obtain⟨p',G,rfl⟩:=iS O;rw[J]at G;cases G;refine⟨?_,λH' s'=>hk _ _ ⟨_,rfl⟩ s'⟩;have:=GG (dH J);omega
   intro D H2 hD hd hs;refine⟨D,_,rfl,aa.of hd,?_⟩;have:=q H2 (U.trans hs);unfold uA at this;rw[QN];rw[bL (by have:=cW h1;rw[al]at this;omega),wV]at this;exact this
 have:=q H1 U;unfold uA at this;rw[cq (λz=>h1 (bL (by rw[al];omega))),Dr]at this;exact this
inductive Ug:Sp where
 | mk {H:Hp}{Q:VK}{E:XK}{x:Str} (_:x.length<=1000) (_:uA x=true) (_:∀H',ac H H'->Q .non H'):Ug [.str x] H Q E
theorem anI:aK [asZ] [asZ] (av Qe):=aQ
theorem Uh(j:Pg K mg base Pt):au P w K mg base aL 3 j.AsP.f j.AsP.fd [asZ] Ug:=by
 refine j.AsP.u.okL anI ?_;intro J A outer s H vs Q E z h U O;obtain @⟨_,_,_,x,l,e,q⟩:=h;refine⟨_,(ai (bu (PW.pt (tE (tF (ij (cJ EM (by rfl) j.B.isinstance xp (aC (pv 0) (As (v:=.ty "str") rfl j.B.str aru rfl))))) (vC (tF (ij (aA (anH j) z rfl (am (pv 0))))))))
  (ai qH) bI)),?_⟩
 refine⟨_,_,_,_,rfl,.str _,rfl,⟨?_⟩⟩;refine di ?_;refine⟨by omega,λH1 G=>⟨?_⟩⟩;rw[e];exact di (q H1 G)
inductive Ui:Sp where
 | mk {H:Hp}{Q:VK}{E:XK}{d:Addr}{k:Str}{e:V}{kvs:List (ao×V)} (_:H d=some (.dK kvs)) (_:kvs.length<=500) (_:(e=.non->∀d' H',H d'=none->ac H H'->H' d'=some (.dK (if (bc kvs (.inr k)).isSome=true then nn kvs (.inr k) else kvs))->Q (.ref d') H')) (_:(e≠.non->∀d' H',H d'=none->ac H H'->H' d'=some (.dK (cK kvs (.inr k) e))->Q (.ref d') H')):Ui [.ref d,.str k,e] H Q E
theorem Uj:aK ["entries","key","entry","changed"] ["entries","key","entry"] (av Qf):=aQ
theorem Uk(G:Pg K mg base Pt):au P w K mg base aL 1 G.WEn.f G.WEn.fd ["entries","key","entry"] Ui:=by
 refine G.WEn.u.okL Uj ?_;intro ar A outer s H vs Q E hr h xX dX;obtain @⟨_,_,_,d,k,e,kvs,hd,l,j,q2⟩:=h;have U:=hr.units;refine⟨_,(ah (aF (i:=3) Uj.nd rfl (Or.inl rfl) (eT xU (by rfl) G.B.dict DM (am (pv 0))))
  (ah (bu (bq K6 (pv 2) jq (bh _))
  (ai (i8 U (pv 3) (pv 1) (pv 2) rfl)) (ai (bu (oO (vJ U (pv 1) (pv 3)) (by rfl))
   (ai (bC (EK (pv 3) (pv 1) ⟨rfl,rfl,rfl,rfl⟩))) bI)))
  (ai (aN (pv 3))))),?_⟩
 refine⟨d,_,rfl,hd,λp1 H1 n1 O e1=>?_⟩;refine⟨rfl,⟨?_⟩⟩;refine bv (λh=>?_) (λh=>?_)
 . have ne:e≠.non:=λz=>by rw[z]at h;cases h
   refine⟨gb.k (k:=.inr k) e1 (bZ (by omega)),?_⟩;exact⟨q2 ne p1 _ n1 (fh O n1) aD⟩
 have Y:e=.non:=Wj λz=>h (by rw[cq z];rfl);have j:=j Y;refine⟨_,cO.k (k:=.inr k) e1,⟨?_⟩⟩;cases J:bc kvs (.inr k) with
 | none=>
  refine di ⟨j p1 H1 n1 O (by rw[J];exact e1)⟩
 | some v=>
  refine gc ?_;refine⟨.inl ⟨_,.inl e1⟩,kvs,.inr k,v,e1,rfl,J,?_⟩;exact⟨j p1 _ n1 (fh O n1) (by rw[J];exact aD)⟩
variable {xs:Lv}{ps:Lp}
theorem Ul(bk:Bk):∀st:Ls,cY (bk++dw st)=cY bk:=λst=>by
 unfold cY dw;rw[Kj,dJ];have e:(st.map λz=>(zz,z)).filter (λe=>decide (e.1=dv))=[]:=by
  rw[List.filter_eq_nil_iff];intro e j;obtain⟨z,_,rfl⟩:=cC.mp j;exact λh=>absurd (cW h) (show zz≠dv by decide +kernel)
 rw[e];exact lH _
theorem zG(bk:Bk)(t:Str)(st:Ls):cY (bk++(dv,t)::dw st++[iD])=cY bk++[t]:=by
 have e:bk++(dv,t)::dw st=(bk++[(dv,t)])++dw st:=by rw[jR];rfl
 rw[CV,ag (show iD.1≠dv by decide +kernel),e,Ul,CV,aj rfl]
theorem Jl(bk:Bk):iE (bk++[iD])=true:=by
 unfold iE;rw[Wk,arz,Option.some_or];exact bL rfl
theorem mH.snoc{bk:Bk}{t:Str}(h:mH xs ps (Str.empty::cY bk))(k:∃ch cs ow,fL xs ps t ch cs ow):mH xs ps (Str.empty::(cY bk++[t])):=λy j=>by
 rcases be.mp j with z | z
 . exact h y (by rw[z];exact bQ)
 rcases b9.mp z with z | z
 . exact h y (bU _ z)
 rw[bF.mp z];exact k
theorem Um(a:Str)(l:Ls)(t:Str):(a::(l++[t])).getLast?=some t:=by
 rw[<-su,Wk];rfl
structure DU(D x dx d b Pt:Addr)(xs:Lv)(ps:Lp)(t:Str)(ch:Ch)(cs:Cs)(ow:Ow)(fs:Tr)(bk:Bk)(H:Hp):Prop where
 dk:Dk D x dx d b none fs bk H
 la:(Str.empty::cY bk).getLast?=some t
 tx:fL xs ps t ch cs ow
 tk:mH xs ps (Str.empty::cY bk)
 up:iE bk=true
 fu:wE xs ps t fs
 ln:fs.length<=24
 tb:aE H Pt dg df
theorem DU.same{t:Str}{ch:Ch}{cs:Cs}{ow:Ow}{fs:Tr}{bk:Bk}{H H':Hp}(h:DU D x dx d b Pt xs ps t ch cs ow fs bk H)(s:ac H H'):DU D x dx d b Pt xs ps t ch cs ow fs bk H':=⟨h.dk.same s,h.la,h.tx,h.tk,h.up,h.fu,h.ln,h.tb.same s⟩
theorem DU.busy{t:Str}{ch:Ch}{cs:Cs}{ow:Ow}{fs:Tr}{bk:Bk}{H:Hp}(h:DU D x dx d b Pt xs ps t ch cs ow fs bk H):gO H [x,d,b,Pt]:=h.dk.busy h.tb
def mK(j:V)(x:Addr):List (Str×V):=[(asY,j),(as3,.ref x)]
structure HW(Hc C S h aZ x:Addr)(sv:V)(xs:Lv)(ps:Lp)(ns:Ls)(R:Hp):Prop where
 ob:R h=some (.ins Hc aZ (mK sv x))
 wl:jm C S R sv xs ps ns
theorem HW.same{G:V}{ns:Ls}{R j:Hp}(z:HW Hc C S h aZ x G xs ps ns R)(s:ac R j):HW Hc C S h aZ x G xs ps ns j:=⟨s _ _ z.ob,z.wl.same s⟩
inductive Uo (C S T D Pt:Addr):Sp where
 | mk {H:Hp}{Q:VK}{E:XK}{G z:V}{x dx d b:Addr}{fs:Tr}{bk:Bk}{xs:Lv}{ps:Lp}{ns:Ls}{t:Str}{J ch:Ch}{O cs:Cs}{U ow:Ow} (_:jm C S (msk [x,d,b,Pt] H) G xs ps ns) (_:gR T (msk [x,d,b,Pt] H) z ch cs ow) (_:fC xs ps ch cs ow) (_:DU D x dx d b Pt xs ps t J O U fs bk H) (_:bk.length<=300) (_:∀t' aT aV aM bE j H',cF ch aT->cF cs aV->cF ow aM->DU D x dx d b Pt xs ps t' aT aV aM bE j H'->j.length<=bk.length+10->bO x d b Pt H H'->Q .non H'):Uo C S T D Pt [G,.ref x,z] H Q E
theorem Up{k:Nat}(G:au P w K mg base (dU P w) k f fd [asY,as3,ath] (Je C S T D Fa Pt)):au P w K mg base (dU P w) k f fd [asY,as3,ath] (Uo C S T D Pt):=by
 refine G.imp λvs H Q E h=>?_;obtain @⟨_,_,_,sv,gv,x,dx,d,b,fs,bk,xs,ps,ns,t,oE,ch,pZ,cs,qa,ow,hW,hG,so,h,l3,q⟩:=h;refine⟨hW,hG,so,h.dk,h.ln,l3,h.tk,h.tb,λt' H' j hl J k tb=>?_,λt' lf' bE st H' j hn J zH fu l8 k tb=>?_,λ_ _ _ _ _ z=>absurd rfl z,λz=>nomatch z⟩
 . obtain⟨aT,aV,aM,U,Y,r3,O⟩:=j;rw[h.la]at hl;cases hl;exact q t aT aV aM fs bk H' U Y r3 ⟨J,h.la,O,h.tk,h.up,h.fu,h.ln,tb⟩ (Nat.le_add_right _ _) k
 obtain⟨aT,aV,aM,U,Y,r3,O⟩:=id j;cases hn rfl;refine q t' aT aV aM bE _ H' U Y r3 ⟨J,by rw[zG];exact Um _ _ _,O,by rw[zG];exact mH.snoc h.tk j.ok,Jl _,fu,zH,tb⟩ ?_ k;rw[bH,bH,cr,jp];unfold dw;rw[al];omega
inductive Jm (Hc:Addr):Sp where
 | mk {H:Hp}{Q:VK}{E:XK}{h j x:Addr}{z:V} (_:H h=some (.ins Hc j [])) (_:∀H',H' h=some (.ins Hc j (mK z x))->(∀p o,H p=some o->p≠h->H' p=some o)->Q .non H'):Jm Hc [.ref h,z,.ref x] H Q E
theorem anJ:aK [asX,asY,as3] [asX,asY,as3] (av Qg):=aQ
theorem Uq(j:Pg K mg base Pt):au P w K mg base aL 1 j.HIn.f j.HIn.fd [asX,asY,as3] (Jm j.Hc):=by
 refine j.HIn.u.okL anJ ?_;intro O G outer s H vs Q E Y h xX U;obtain @⟨_,_,_,h,J,x,sv,z,q⟩:=h;refine⟨_,(ah (gZ (pv 0) (pv 1) rfl)
  (ai (gZ (pv 0) (pv 2) rfl))),?_⟩
 refine⟨z,j.UH.cl,j.UH.nS,by decide,?_⟩;refine⟨aD,j.UH.cl,j.UH.nD,by show 1<1000;decide,?_⟩;exact q _ aD λp o e n=>ay (ay e n) n
end
section
variable {H:Hp}
seal PE PS bW PA PT PW PG fM PI fF
structure QD(D x dx d b:Addr)(v:V)(xs:Lv)(ps:Lp)(t:Str)(ch:Ch)(cs:Cs)(ow:Ow)(bk:Bk)(H:Hp):Prop where
 ob:H x=some (.ins D dx (cX d b v))
 bo:∃tb,H b=some (.lst tb)/\Paired (jN H) tb bk
 la:(Str.empty::cY bk).getLast?=some t
 tx:fL xs ps t ch cs ow
 tk:mH xs ps (Str.empty::cY bk)
 bt:I9 bk
 ln:bk.length<=380
theorem QD.same{v:V}{xs:Lv}{ps:Lp}{t:Str}{ch:Ch}{cs:Cs}{ow:Ow}{bk:Bk}{H':Hp}(h:QD D x dx d b v xs ps t ch cs ow bk H)(s:ac H H'):QD D x dx d b v xs ps t ch cs ow bk H':=⟨s _ _ h.ob,h.bo.elim λtb j=>j.elim λa c=>⟨tb,s _ _ a,aB c λ_ _=>jN.same s⟩,h.la,h.tx,h.tk,h.bt,h.ln⟩
theorem DU.qd{xs:Lv}{ps:Lp}{t:Str}{ch:Ch}{cs:Cs}{ow:Ow}{fs:Tr}{bk:Bk}(h:DU D x dx d b Pt xs ps t ch cs ow fs bk H)(l:bk.length<=380):QD D x dx d b .non xs ps t ch cs ow bk H:=⟨h.dk.ob,h.dk.bo,h.la,h.tx,h.tk,h.dk.bt,l⟩
inductive Ur (Hc D:Addr):Sp where
 | mk {H:Hp}{Q:VK}{E:XK}{h j x dx d b:Addr}{z v:V}{xs:Lv}{ps:Lp}{t:Str}{ch:Ch}{cs:Cs}{ow:Ow}{bk:Bk} (_:H h=some (.ins Hc j (mK z x))) (_:QD D x dx d b v xs ps t ch cs ow bk H) (_:∀H',ac H H'->Q (.bl (iE bk)) H'):Ur Hc D [.ref h] H Q E
theorem anL:aK [asX] [asX] (av Qh):=aQ
theorem ve(j:Pg K mg base Pt):au P w K mg base aL 6 j.HUp.f j.HUp.fd [asX] (Ur j.Hc j.D):=by
 refine j.HUp.u.okL anL ?_;intro ar Y outer s H vs Q E U h xX dX;obtain @⟨_,_,_,h,aZ,x,dx,d,b,sv,v,xs,ps,t,ch,cs,ow,bk,O,z,q⟩:=h;obtain⟨tb,G,J⟩:=id z.bo;exact⟨_,(ai (aN (aA (Tx j) U rfl (am (bJ (pv 0) rfl))))),O,j.UH.cl,j.UH.nD,rfl,z.ob,G,J,z.bt,q⟩
inductive Jn (Hc T D:Addr) (u:Bk->Prop):Sp where
 | mk {H:Hp}{Q:VK}{E:XK}{h j x dx d b:Addr}{z v:V}{xs:Lv}{ps:Lp}{t:Str}{ch:Ch}{cs:Cs}{ow:Ow}{bk:Bk} (_:H h=some (.ins Hc j (mK z x))) (_:QD D x dx d b v xs ps t ch cs ow bk H) (_:u bk) (_:∀v H',ac H H'->(∀L,gO H L->gR T (msk L H') v ch cs ow)->Q v H'):Jn Hc T D u [.ref h] H Q E
theorem anM:aK [asX] [asX] (av Qi):=aQ
theorem C5(j:Pg K mg base Pt):au P w K mg base aL 6 j.HSt.f j.HSt.fd [asX] (Jn j.Hc j.T j.D λ_=>True):=by
 refine j.HSt.u.okL anM ?_;intro ar Y outer s H vs Q E U h xX dX;obtain @⟨_,_,_,h,aZ,x,dx,d,b,sv,v,xs,ps,t,ch,cs,ow,bk,O,z,_,q⟩:=h;obtain⟨tb,G,J⟩:=id z.bo;exact⟨_,(ai (aN (aA (Ja j) U rfl (am (bJ (pv 0) rfl))))),O,j.UH.cl,j.UH.nD,rfl,z.ob,G,J,by have:=z.ln;omega,z.la,z.tx,q⟩
theorem Us:aK [asX] [asX] (av Ql):=aQ
theorem C6(j:Pg K mg base Pt):au P w K mg base aL 7 j.HSK.f j.HSK.fd [asX] (Jn j.Hc j.T j.D λbk=>iE bk=true):=by
 refine j.HSK.u.okL Us ?_;intro ar Ar outer s H vs Q E O h xX dX;obtain @⟨_,_,_,h,aZ,x,dx,d,b,sv,v,xs,ps,t,ch,cs,ow,bk,G,J,hu,q⟩:=h;refine⟨_,(ah (bu (tF (ij (cj (pv 0) j.UH.cl j.HUp.mt (up (ve j)) O j.HUp.b .nil bT)))
  (ai qH) bI)
  (ai (aN (cj (pv 0) j.UH.cl j.HSt.mt (up (C5 j)) O j.HSt.b .nil bT)))),?_⟩
 refine⟨G,rfl,G,J,λH1 z=>⟨?_⟩⟩;rw[hu];refine di ?_;exact⟨z _ _ G,rfl,z _ _ G,J.same z,trivial,λv H' s' hv=>q v H' (z.trans s') λL Y=>hv L λb hb=>(Y b hb).elim λo U=>U.elim λe n=>⟨o,z _ _ e,n⟩⟩
def vf(Hc D j h:Addr)(H:Hp)(E:XK):Prop:=∃z G x,H h=some (.ins Hc z (mK G x))/\(∃dx d b v xs ps t ch cs ow bk,QD D x dx d b v xs ps t ch cs ow bk H/\iE bk=false)/\∀H',ac H H'->E (.ref j) none H'
theorem vf.same{H':Hp}{E:XK}(z:vf Hc D NU h H E)(s:ac H H'):vf Hc D NU h H' E:=z.elim λ_ U=>U.elim λ_ Y=>Y.elim λ_ a0=>a0.elim λhh a1=>a1.elim λa2 q=>a2.elim λ_ a3=>a3.elim λ_ a4=>a4.elim λ_ a5=>a5.elim λ_ a6=>a6.elim λ_ a7=>a7.elim λ_ a8=>a8.elim λ_ a9=>a9.elim λ_ j=>j.elim λ_ G=>G.elim λ_ J=>J.elim λ_ O=>O.elim λhD hu=>⟨_,_,_,s _ _ hh,⟨_,_,_,_,_,_,_,_,_,_,_,hD.same s,hu⟩,λH2 s2=>q H2 (s.trans s2)⟩
inductive C7 (Hc D j:Addr):Sp where
 | mk {H:Hp}{Q:VK}{E:XK}{h:Addr} (_:vf Hc D j h H E):C7 Hc D j [.ref h] H Q E
inductive C8 (Hc D j:Addr):Sp where
 | mk {H:Hp}{Q:VK}{E:XK}{h:Addr}{a:V} (_:vf Hc D j h H E):C8 Hc D j [.ref h,a] H Q E
inductive Jo (Hc D j:Addr):Sp where
 | mk {H:Hp}{Q:VK}{E:XK}{h:Addr}{a b:V} (_:vf Hc D j h H E):Jo Hc D j [.ref h,a,b] H Q E
theorem wJ(j:Pg K mg base Pt):au P w K mg base (dU P w) 7 j.HSK.f j.HSK.fd [asX] (C7 j.Hc j.D j.NU):=by
 refine j.HSK.u.okR Us (λvs H Q E h=>?_) (λar Y outer s H vs Q E J h=>?_)
 . cases h;rfl
 obtain @⟨_,_,_,h,aZ,sv,x,z,⟨dx,d,b,v,xs,ps,t,ch,cs,ow,bk,G,O⟩,q⟩:=h;refine⟨_,(ah (bu (tF (ij (cj (pv 0) j.UH.cl j.HUp.mt (up (ve j)) J j.HUp.b .nil bT)))
  (ai (M9 j.R.xu j.R.mU bB)) bI) mV),?_⟩
 refine⟨z,rfl,z,G,λH1 U=>⟨?_⟩⟩;rw[O];exact gc ⟨aG 1,q H1 U⟩
theorem Ut:aK [asX,"wishes",atj,"outcome"] [asX,"wishes"] (av Qn):=aQ
theorem an4(j:Pg K mg base Pt):au P w K mg base (dU P w) 8 j.HWi.f j.HWi.fd [asX,"wishes"] (C8 j.Hc j.D j.NU):=by
 refine j.HWi.u.okR Ut (λvs H Q E h=>?_) (λU O outer s H vs Q E J h=>?_)
 . cases h;rfl
 cases h with | mk z=>obtain⟨_,_,_,G,_⟩:=id z;exact⟨_,(ah (aF (i:=2) Ut.nd rfl (Or.inl rfl) (cj (pv 0) j.UH.cl j.HSK.mt (up (wJ j)) J j.HSK.b .nil eK)) mV),G,rfl,⟨z⟩⟩
theorem wK:aK [asX,asZ,atd,atj,atE,att] [asX,asZ,atd] (av Qo):=aQ
theorem Uu(j:Pg K mg base Pt):au P w K mg base (dU P w) 8 j.HEd.f j.HEd.fd [asX,asZ,atd] (Jo j.Hc j.D j.NU):=by
 refine j.HEd.u.okR wK (λvs H Q E h=>?_) (λU O outer s H vs Q E J h=>?_)
 . cases h;rfl
 cases h with | mk z=>obtain⟨_,_,_,G,_⟩:=id z;exact⟨_,(ah (aF (i:=3) wK.nd rfl (Or.inl rfl) (cj (pv 0) j.UH.cl j.HSK.mt (up (wJ j)) J j.HSK.b .nil eK)) mV),G,rfl,⟨z⟩⟩
theorem C9:aK [asX,asZ,atj] [asX,asZ] (av Qp):=aQ
theorem an5(j:Pg K mg base Pt):au P w K mg base (dU P w) 8 j.HFg.f j.HFg.fd [asX,asZ] (C8 j.Hc j.D j.NU):=by
 refine j.HFg.u.okR C9 (λvs H Q E h=>?_) (λU O outer s H vs Q E J h=>?_)
 . cases h;rfl
 cases h with | mk z=>obtain⟨_,_,_,G,_⟩:=id z;exact⟨_,(ah (aF (i:=2) C9.nd rfl (Or.inl rfl) (cj (pv 0) j.UH.cl j.HSK.mt (up (wJ j)) J j.HSK.b .nil eK)) mV),G,rfl,⟨z⟩⟩
theorem Uv:aK [asX,atn,as5,atj] [asX,atn,as5] (av Qq):=aQ
theorem an6(j:Pg K mg base Pt):au P w K mg base (dU P w) 8 j.HCh.f j.HCh.fd [asX,atn,as5] (Jo j.Hc j.D j.NU):=by
 refine j.HCh.u.okR Uv (λvs H Q E h=>?_) (λU O outer s H vs Q E J h=>?_)
 . cases h;rfl
 cases h with | mk z=>obtain⟨_,_,_,G,_⟩:=id z;exact⟨_,(ah (aF (i:=3) Uv.nd rfl (Or.inl rfl) (cj (pv 0) j.UH.cl j.HSK.mt (up (wJ j)) J j.HSK.b .nil eK)) mV),G,rfl,⟨z⟩⟩
theorem Jp:aK [asX,ats,"formers"] [asX,ats] (av Qs):=aQ
theorem Uw(j:Pg K mg base Pt):au P w K mg base (dU P w) 8 j.HBa.f j.HBa.fd [asX,ats] (C8 j.Hc j.D j.NU):=by
 refine j.HBa.u.okR Jp (λvs H Q E h=>?_) (λU O outer s H vs Q E J h=>?_)
 . cases h;rfl
 cases h with | mk z=>obtain⟨_,_,_,G,_⟩:=id z;exact⟨_,(ah (bC (cj (pv 0) j.UH.cl j.HSK.mt (up (wJ j)) J j.HSK.b .nil eK)) mV),G,rfl,⟨z⟩⟩
theorem zI:aK [asX,atm,as8] [asX] (av Qt):=aQ
theorem Ux(j:Pg K mg base Pt):au P w K mg base (dU P w) 8 j.HLo.f j.HLo.fd [asX] (C7 j.Hc j.D j.NU):=by
 refine j.HLo.u.okR zI (λvs H Q E h=>?_) (λU O outer s H vs Q E J h=>?_)
 . cases h;rfl
 cases h with | mk z=>obtain⟨_,_,_,G,_⟩:=id z;exact⟨_,(ah (aF (i:=1) zI.nd rfl (Or.inr rfl) (aA (wz j) J rfl (aC (bJ (pv 0) rfl) (cj (pv 0) j.UH.cl j.HSK.mt (up (wJ j)) J j.HSK.b .nil eK)))) mV),G,j.UH.cl,j.UH.nS,rfl,G,rfl,⟨z⟩⟩
theorem Db:aK [asX,"told"] [asX] (av Qu):=aQ
theorem an7(j:Pg K mg base Pt):au P w K mg base (dU P w) 9 j.HMe.f j.HMe.fd [asX] (C7 j.Hc j.D j.NU):=by
 refine j.HMe.u.okR Db (λvs H Q E h=>?_) (λU O outer s H vs Q E J h=>?_)
 . cases h;rfl
 cases h with | mk z=>obtain⟨_,_,_,G,_⟩:=id z;exact⟨_,(ah (aF (i:=1) Db.nd rfl (Or.inl rfl) (cj (pv 0) j.UH.cl j.HLo.mt (up (Ux j)) J j.HLo.b .nil eK)) mV),G,rfl,⟨z⟩⟩
end
section
open Lcp
variable {ow:Ow}{p:Str}{ps:Lp}{ch:Ch}
seal PE PS bW PA PT PW PG fM PI fF
def Jq(ps:Lp)(ch:Ch)(p:Str)(j:Ls):Prop:=∃px bi,CJ ps ch px/\ke (fB px) bi/\j=(look bi p).getD []
def vg(ow:Ow)(p:Str)(j ls:Ls):Ow:=if ls=j then iT ow p else bR ow p (j,ls)
theorem Uy{e:Str×(Ls×Ls)}(h:e∈iT ow p):e∈ow:=(qk.mp h).1
theorem fC.drop{xs:Lv}{cs:Cs}(h:fC xs ps ch cs ow)(p:Str):fC xs ps ch cs (iT ow p):=
 have l:(iT ow p).length<=ow.length:=sw _ _
 ⟨⟨⟨h.ok.ok.ch,h.ok.ok.cs,λe j=>h.ok.ok.ow e (Uy j)⟩,h.ok.d1,h.ok.d2,h.ok.d3.sublist (Kk.map _),h.ok.n1,h.ok.n2,bX l h.ok.n3,λe j=>h.ok.ln e (Uy j)⟩,h.va,bX l h.o2⟩
theorem fC.put{xs:Lv}{cs:Cs}(h:fC xs ps ch cs ow){j ls:Ls}(J:dB p)(h1:∀x∈j,gj x)(h2:∀x∈ls,gj x)(O:j.length<=20)(U:ls.length<=20)(Y:ow.length<=7):fC xs ps ch cs (bR ow p (j,ls)):=
 have l:(bR ow p (j,ls)).length<=8:=bX (jC _ _ _) (Ki Y)
 ⟨⟨⟨h.ok.ok.ch,h.ok.ok.cs,λe G=>(mv G).elim (λz=>by rw[z];exact⟨J,h1,h2⟩) (h.ok.ok.ow e)⟩,h.ok.d1,h.ok.d2,kZ h.ok.d3,h.ok.n1,h.ok.n2,l,λe G=>(mv G).elim (λz=>by rw[z];exact⟨O,U⟩) (h.ok.ln e)⟩,h.va,l⟩
theorem Jq.ok{ns:Ls}{j:Ls}(z:Apart ns ps)(h:Jq ps ch p j):(∀x∈j,gj x)/\j.length<=4:=by
 obtain⟨px,bi,x,g,rfl⟩:=h;cases e:look bi p with
 | none=>exact⟨(λ_ h=>nomatch h),dz _⟩
 | some ls=>
  obtain⟨q,J,G⟩:=vx.mp (g.sub _ (pT e));obtain⟨_,a,b⟩:=(z.ok q (x.mm q J).1).2.1 _ G;exact⟨a,b⟩
theorem Uz{K:Fg}{H:Hp}{ls:Ls}(h:H l=some (.lst (ls.map V.str))):DV K H (.ref l) (dS ls):=kN (aa.of h)
theorem an8{H H':Hp}{kvs:List (ao×V)}{tr:Tr}(h:Paired (db H H') kvs tr)(nd:(tr.map (·.1)).Nodup)(J:H l=none)(G:H' l=some (.lst [])):∃q,(bc kvs (.inr p)).getD (.ref l)=.ref q/\H q=none/\H' q=some (.lst (((look tr p).getD []).map V.str)):=by
 by_cases j:p∈tr.map (·.1)
 . obtain⟨v,ls,e,m,_,q,e2,n,z⟩:=pG (F:=db H H') (λkv f z=>z.1) h j;rw[e,wt nd m];exact⟨q,e2,n,z⟩
 rw[yA (F:=db H H') (λkv f z=>z.1) h j,iB.mpr j];exact⟨l,rfl,J,G⟩
inductive UA (K:Fg):Sp where
 | mk {H:Hp}{Q:VK}{E:XK}{n:Int}{l:Addr}{zs:Lv} (_:aa K H l zs) (_:Q (.bl (decide (0<=n/\n<zs.length))) H):UA K [.int n,.ref l] H Q E
theorem an9:aK [ats,"things"] [ats,"things"] (av OT):=aQ
theorem aoa(j:Pg K mg base Pt):au P w K mg base aL 1 j.IPl.f j.IPl.fd [ats,"things"] (UA K):=by
 refine j.IPl.u.okL an9 ?_;intro J A outer s H vs Q E U h Y O;obtain @⟨_,_,_,n,l,zs,G,q⟩:=h;refine⟨_,(ai (aN (xy (cJ EM (by rfl) j.B.isinstance xp (aC (pv 0) (As (v:=.ty "int") rfl j.B.int arv rfl))) (xy (Xf (cJ EM (by rfl) j.B.isinstance xp (aC (pv 0) (As (v:=.ty "bool") rfl j.B.bool PyProof.Rows.boot_bool rfl)))) (vD (El AD tP ak (pv 0) (cJ gL (by rfl) j.B.len gy (am (pv 1))))))))),?_⟩;refine⟨_,_,_,_,rfl,.int _,rfl,⟨gc ?_⟩⟩;refine⟨_,_,_,_,rfl,.int _,rfl,⟨⟨gc ?_⟩⟩⟩;refine⟨⟨⟨bv (λh=>?_) (λh=>?_)⟩⟩⟩
 . have h:=cW h;refine⟨l,_,rfl,.inl G,⟨?_⟩⟩;have e:decide (0<=n/\n<zs.length)=decide (n<(zs.length:Int)):=xb.mpr ⟨λz=>z.2,λz=>⟨h,z⟩⟩;rw[e]at q;exact q
 have e:decide (0<=n/\n<zs.length)=false:=cq λz=>h (bL z.1);rw[e]at q;exact q
inductive UB (D T:Addr):Sp where
 | mk {H:Hp}{Q:VK}{E:XK}{x dx d b:Addr}{v:V}{tb:Lv}{bk:Bk}{xs:Lv}{ps:Lp} (_:H x=some (.ins D dx (cX d b v))) (_:H b=some (.lst tb)) (_:Paired (jN H) tb bk) (_:bk.length<=500) (_:mH xs ps (Str.empty::cY bk)) (_:∀l zs H',H l=none->ac H H'->H' l=some (.lst zs)->(∀L,gO H L->Paired (vb xs ps T (msk (l::L) H')) zs (Str.empty::cY bk))->Q (.ref l) H'):UB D T [.ref x] H Q E
theorem aob:aK [as3] [as3] (av OU):=aQ
theorem aoc(G:Pg K mg base Pt):au P w K mg base aL 5 G.FoO.f G.FoO.fd [as3] (UB G.D G.T):=by
 refine G.FoO.u.okL aob ?_;intro ar A outer s H vs Q E hr h xX dX;obtain @⟨_,_,_,x,dx,d,b,v,tb,bk,xs,ps,hx,hb,pb,pR,tok,q⟩:=h;refine⟨_,(ai (aN (fT [atb] [] [] dN rfl (cH (aA (TB G) hr rfl (am (pv 0)))) (λ_ _ _ _=>(bf (i:=0) (show List.Nodup ([atb]:Ls) by decide +kernel) rfl (Or.inl rfl))) (λ_ _ _ _=>ge) (λ_ _ _ _=>(aA (Ri G) hr rfl (am (pv 0))))))),?_⟩;refine⟨hx,hb,pb,pR,λr H1 n1 s1 e1=>⟨⟨_,aa.of e1⟩,?_⟩⟩;have bl:(cY bk).length<=500:=by
  unfold cY;rw[al];exact bX (sw _ _) pR
 generalize a0:Str.empty::cY bk=ts at e1 tok q;have tl:ts.length<=501:=by rw[<-a0,cr];omega
 intro Y fk;refine Cb (σ0:=[none]) fk (aa.of e1) (λZ=>∃u,Z=[u]) (λj zs Hx=>zs.length=j/\∀L,gO H L->Paired (vb xs ps G.T (msk (Y::L) Hx)) zs (ts.take j)) ⟨_,rfl⟩ ⟨rfl,λ_ _=>.nil⟩ ?_ ?_
 . rintro j y zs Z H3 k O ⟨u,rfl⟩ de h3 ⟨zl,U⟩ hk;rw[dA]at O;cases J:ts[j]? with
   | none=>rw[J]at O;cases O
   | some t=>
    rw[J]at O;cases O;obtain⟨ch,cs,ow,hT⟩:=tok t (dH J);have aO:=(cN.mp J).1;refine⟨hT.not λv H4 s4 hv=>?_⟩;refine hk _ _ _ ⟨_,rfl⟩ s4 (bZ (by omega)) ⟨by rw[bH,zl];rfl,λL hL=>?_⟩;rw[yw bQ,ou J];refine jd ⟨ch,cs,ow,hv (Y::L) λb hb=>?_,hT⟩ (aB (U L hL) λ_ _=>vb.same (fj s4))
    rcases be.mp hb with e | hb
    . rw[e];exact⟨_,de,by intro vs z;cases z⟩
    obtain⟨o,eo,no⟩:=hL b hb;exact⟨o,(s1.trans h3) _ _ eo,no⟩
 rintro zs H3 de h3 ⟨_,U⟩;rw[al,fo]at U;exact q Y zs H3 (s1.free fk) (s1.trans h3) de U
inductive UC (Hc T D:Addr):Sp where
 | mk {H:Hp}{Q:VK}{E:XK}{h j x dx d b:Addr}{z v:V}{xs:Lv}{ps:Lp}{t:Str}{ch:Ch}{cs:Cs}{ow:Ow}{bk:Bk} (_:H h=some (.ins Hc j (mK z x))) (_:QD D x dx d b v xs ps t ch cs ow bk H) (_:∀l zs H',H l=none->ac H H'->H' l=some (.lst zs)->(∀L,gO H L->Paired (vb xs ps T (msk (l::L) H')) zs (Str.empty::cY bk))->Q (.ref l) H'):UC Hc T D [.ref h] H Q E
theorem aoe:aK [asX] [asX] (av Qj):=aQ
theorem UE(j:Pg K mg base Pt):au P w K mg base aL 6 j.HFo.f j.HFo.fd [asX] (UC j.Hc j.T j.D):=by
 refine j.HFo.u.okL aoe ?_;intro ar Y outer s H vs Q E U h xX dX;obtain @⟨_,_,_,h,aZ,x,dx,d,b,sv,v,xs,ps,t,ch,cs,ow,bk,O,z,q⟩:=h;obtain⟨tb,G,J⟩:=id z.bo;exact⟨_,(ai (aN (aA (aoc j) U rfl (am (bJ (pv 0) rfl))))),O,j.UH.cl,j.UH.nD,rfl,z.ob,G,J,by have:=z.ln;omega,z.tk,q⟩
def aof(a b:Bool):Str:=if a=true then(if b=true then "unlike" else "strange") else "gone"
inductive UG:Sp where
 | mk {H:Hp}{Q:VK}{E:XK}{p:Str}{f t:Addr}{j z:List (ao×V)} (_:H f=some (.dK j)) (_:H t=some (.dK z)) (_:Q (.str (aof (bc j (.inr p)).isSome (bc z (.inr p)).isSome)) H):UG [.str p,.ref f,.ref t] H Q E
theorem aog:aK [asZ,as8,atm] [asZ,as8,atm] (av OV):=aQ
theorem aoh(j:Pg K mg base Pt):au P w K mg base aL 1 j.WFo.f j.WFo.fd [asZ,as8,atm] UG:=by
 refine j.WFo.u.okL aog ?_;intro ar Ar outer s H vs Q E O h xX dX;obtain @⟨_,_,_,p,f,t,Y,kt,J,U,q⟩:=h;have G:=O.units;refine⟨_,(ah (bu (oO (EF G (pv 0) (pv 1)) (by rfl)) (ai (aN bB)) bI)
  (ai (aN (D9 (oO (vJ G (pv 0) (pv 2)) (by rfl)) bB bB)))),?_⟩
 refine⟨_,cO.k (k:=.inr p) J,⟨?_⟩⟩;cases e:(bc Y (.inr p)).isSome with
 | false=>rw[e]at q;exact gc q
 | true=>
  rw[e]at q;refine di ?_;refine⟨_,cO.k (k:=.inr p) U,⟨?_⟩⟩;cases z:(bc kt (.inr p)).isSome with
  | false=>rw[z]at q;exact di q
  | true=>rw[z]at q;exact gc q
inductive UI (Hc C S D Pt:Addr):Sp where
 | mk {H:Hp}{Q:VK}{E:XK}{h z:Addr}{j:V}{x:Addr} (_:H h=some (.ins Hc z (mK j x))) (_:Jj C S D Pt [j,.ref x] H Q E0):UI Hc C S D Pt [.ref h] H Q E
theorem aoi:aK [asX] [asX] (av Qk):=aQ
theorem Jr(j:Pg K mg base Pt):au P w K mg base aL 7 j.HCo.f j.HCo.fd [asX] (UI j.Hc j.C j.S j.D Pt):=by
 refine j.HCo.u.okL aoi ?_;intro O J outer s H vs Q E G h Y U;cases h with | mk z q=>exact⟨_,(ai (aN (Eu (up (anv j)) G rfl j.CoU.mB j.CoU.u.kp j.CoU.b .nil bT (aC (bJ (pv 0) rfl) (bJ (pv 0) rfl))))),z,j.UH.cl,j.UH.nS,rfl,z,j.UH.cl,j.UH.nD,rfl,q⟩
def Js(D x dx d b Pt:Addr)(xs:Lv)(ps:Lp)(n:Nat)(bk:Bk)(H H':Hp):Prop:=∃t ch cs ow fs j,DU D x dx d b Pt xs ps t ch cs ow fs j H'/\ow.length<=n/\j.length<=bk.length+10/\bO x d b Pt H H'
inductive Jt (Hc C S T D Pt:Addr):Sp where
 | mk {H:Hp}{Q:VK}{E:XK}{h j x dx d b c g o:Addr}{O:V}{fs:Tr}{bk:Bk}{xs:Lv}{ps:Lp}{ns:Ls}{t:Str}{z ch:Ch}{G cs:Cs}{J ow:Ow} (_:HW Hc C S h j x O xs ps ns (msk [x,d,b,Pt] H)) (_:DU D x dx d b Pt xs ps t z G J fs bk H) (_:bk.length<=300) (_:dq H c ch) (_:uH H g cs) (_:pK H o ow) (_:fC xs ps ch cs ow) (_:∀H',Js D x dx d b Pt xs ps ow.length bk H H'->Q .non H'):Jt Hc C S T D Pt [.ref h,.ref c,.ref g,.ref o] H Q E
theorem aoj:aK [asX,as6,atc,ato] [asX,as6,atc,ato] (av Qm):=aQ
theorem UJ(j:Pg K mg base Pt):au P w K mg base aL 9 j.HGo.f j.HGo.fd [asX,as6,atc,ato] (Jt j.Hc j.C j.S j.T j.D Pt):=by
 refine j.HGo.u.okL aoj ?_;intro ar Ar outer s H vs Q E Y h xX dX;obtain @⟨_,_,_,h,aZ,x,dx,d,b,c,g,o,sv,fs,bk,xs,ps,ns,t,oE,ch,pZ,cs,qa,ow,O,J,l3,hc,hg,ho,G,q⟩:=h;refine⟨_,(ai (bC (uD (Up (Jf j)) Y rfl Be (dP (bJ (pv 0) rfl) (bJ (pv 0) rfl) (qK j.MTIn (up (BY j)) Y rfl j.UT.mgC j.TIn.b .nil bT (dP (pv 1) (pv 2) (pv 3))))))),?_⟩;have U:=bj _ _ O.ob;refine⟨U,j.UH.cl,j.UH.nS,rfl,U,j.UH.cl,j.UH.nD,rfl,⟨⟨⟨?_⟩⟩⟩⟩;refine BZ (T:=j.T) hc hg ho G.ok.d3 (by have:=G.o2;omega) λgx H1 ng z dR=>?_;refine⟨O.wl.same (fj z),dR _ J.busy,G,J.same z,l3,λt' aT aV aM bE dF H' r1 r2 r3 fk ll k=>?_⟩;exact q H' ⟨t',aT,aV,aM,bE,dF,fk,vp r3.pm.length_eq,ll,(bO.of z).trans k⟩
inductive UK (Hc C S D Pt:Addr):Sp where
 | mk {H:Hp}{Q:VK}{E:XK}{h j x dx d b:Addr}{z:V}{fs:Tr}{bk:Bk}{xs:Lv}{ps:Lp}{ns:Ls}{t:Str}{ch:Ch}{cs:Cs}{ow:Ow}{p:Str} (_:HW Hc C S h j x z xs ps ns (msk [x,d,b,Pt] H)) (_:DU D x dx d b Pt xs ps t ch cs ow fs bk H) (_:bk.length<=300) (_:dB p) (_:∀H',Js D x dx d b Pt xs ps ow.length bk H H'->Q .non H'):UK Hc C S D Pt [.ref h,.str p] H Q E
theorem aok(j:Pg K mg base Pt):au P w K mg base aL 10 j.HFg.f j.HFg.fd [asX,asZ] (UK j.Hc j.C j.S j.D Pt):=by
 refine j.HFg.u.okL C9 ?_;intro ar Ar outer s H vs Q E O h xX dX;obtain @⟨_,_,_,h,aZ,x,dx,d,b,sv,fs,bk,xs,ps,ns,t,ch,cs,ow,p,hW,G,l3,qf,q⟩:=h;refine⟨_,(ah (aF (i:=2) C9.nd rfl (Or.inl rfl) (cj (pv 0) j.UH.cl j.HSK.mt (up (C6 j)) O j.HSK.b .nil bT))
  (ah (bC (aA (Uh j) O rfl (am (pv 1))))
  (ai (bC (gA (pv 0) j.UH.cl j.HGo.mt (up (UJ j)) O j.HGo.b .nil bT (dP (bJ (pv 2) rfl) (bJ (pv 2) rfl) (aA (Uk j) O rfl (dP (bJ (pv 2) rfl) (pv 1) jq)))))))),?_⟩
 refine jb ?_;intro dD sS u3 u2;have Y:=bj _ _ hW.ob;refine⟨Y,rfl,Y,G.qd (by omega),G.up,λv H1 s1 hv=>?_⟩;refine⟨by have:=qf.len;omega,qf.path,λH2 s2=>?_⟩;have hv:=hv [x,d,b,Pt] G.busy;obtain⟨va,T0,T1,c0,h0,o0,rfl,w1,w2,w3,w4,w5,w6,w7⟩:=hv.same (fj s2);have vh:=bj _ _ w1;have J:=s1.trans s2;obtain⟨ko,o1,U⟩:=id w7;have lo:=bK U;have o8:=G.tx.so.o2;refine⟨J _ _ Y,rfl,vh,j.UT.cl,j.UT.nC,w2,vh,j.UT.cl,j.UT.nH,w3,?_⟩;refine⟨vh,j.UT.cl,j.UT.nO,w4,bj _ _ o1,by omega,λ_ o' H3 no s3 e3=>?_,λz=>absurd rfl z⟩;have hk:∀kv e,fA (msk [x,d,b,Pt] H2) kv e->kv.1=Sum.inr e.1:=λkv e z=>z.1;have pr:Paired (fA H3) (if (bc ko (.inr p)).isSome=true then nn ko (.inr p) else ko) (iT ow p):=by
  refine aB (F:=fA (msk [x,d,b,Pt] H2)) ?_ λ_ _ z=>(fA.same bj z).same s3
  rcases Ir hk U p with⟨_,hs⟩ | ⟨hn,hs⟩
  . rw[aj hs];exact Cp hk U
  rw[hs,Cq hn];exact U
 refine⟨hW.same (fj (J.trans s3)),G.same (J.trans s3),l3,(w5.same bj).same s3,(w6.same bj).same s3,⟨_,e3,pr⟩,G.tx.so.drop p,λH' a0=>a0.elim λt' a1=>a1.elim λaT a2=>a2.elim λaV a3=>a3.elim λaM a4=>a4.elim λbE a5=>a5.elim λdF a6=>a6.elim λfk a7=>a7.elim λol a8=>a8.elim λll k=>?_⟩;exact q H' ⟨t',aT,aV,aM,bE,dF,fk,bX ol (sw _ _),ll,(bO.of (J.trans s3)).trans k⟩
end
section
open Lcp
seal PE PS bW PA PT PW PG fM PI fF
inductive UL (Hc C S D Pt:Addr):Sp where
 | mk {H:Hp}{Q:VK}{E:XK}{h j x dx d b l:Addr}{z:V}{fs:Tr}{bk:Bk}{xs:Lv}{ps:Lp}{ns:Ls}{t:Str}{ch:Ch}{cs:Cs}{ow:Ow}{p:Str}{ls:Ls} (_:HW Hc C S h j x z xs ps ns (msk [x,d,b,Pt] H)) (_:DU D x dx d b Pt xs ps t ch cs ow fs bk H) (_:bk.length<=300) (_:dB p) (_:H l=some (.lst (ls.map V.str))) (_:∀y∈ls,gj y) (_:ls.length<=20) (_:ow.length<=7) (_:∀H',Js D x dx d b Pt xs ps (ow.length+1) bk H H'->Q .non H'):UL Hc C S D Pt [.ref h,.str p,.ref l] H Q E
theorem aou(j:Pg K mg base Pt):au P w K mg base aL 10 j.HEd.f j.HEd.fd [asX,asZ,atd] (UL j.Hc j.C j.S j.D Pt):=by
 refine j.HEd.u.okL wK ?_;intro ar Ar outer s H vs Q E U h xX dX;obtain @⟨_,_,_,h,aZ,x,dx,d,b,l,sv,fs,bk,xs,ps,ns,t,ch,cs,ow,p,ls,hW,J,l3,qf,hl,UM,aO,l7,q⟩:=h;have hu:=U.units;refine⟨_,(ah (aF (i:=3) wK.nd rfl (Or.inl rfl) (cj (pv 0) j.UH.cl j.HSK.mt (up (C6 j)) U j.HSK.b .nil bT))
  (ah (bC (aA (Uh j) U rfl (am (pv 1))))
  (ah (aF (i:=4) wK.nd rfl (Or.inl rfl) (aaG hu (aA (RE j) U rfl (am (aA (G6 j) U rfl (aC (bJ (pv 0) rfl) (bJ (pv 3) rfl))))) (pv 1) (cU d8) ⟨rfl,rfl,rfl,rfl⟩))
  (ah (aF (i:=5) wK.nd rfl (Or.inl rfl) (D9 (bq (AV hu) (pv 2) (pv 4) (bh _)) (dE (aC (pv 4) (pv 2))) jq))
  (ai (bC (gA (pv 0) j.UH.cl j.HGo.mt (up (UJ j)) U j.HGo.b .nil bT (dP (bJ (pv 3) rfl) (bJ (pv 3) rfl) (aA (Uk j) U rfl (dP (bJ (pv 3) rfl) (pv 1) (pv 5))))))))))),?_⟩
 refine Fo ?_;intro dD sS u5 u4 u3 u2;have hh:=bj _ _ hW.ob;refine⟨hh,rfl,hh,J.qd (by omega),J.up,λv H1 s1 hv=>?_⟩;refine⟨by have:=qf.len;omega,qf.path,λH2 s2=>?_⟩;have hv:=hv [x,d,b,Pt] J.busy;obtain⟨va,T0,T1,c0,h0,o0,rfl,w1,w2,w3,w4,w5,w6,w7⟩:=(hv.same (fj s2)).same bj;have bV:=s1.trans s2;have r9:=bV _ _ hh;have W2:=(hW.wl.same (fj bV)).same bj;have cB:eO xs ps ch:=⟨J.tx.so.ok.d1,J.tx.so.va⟩;have c4:=cB.len W2.ap W2.n4;refine⟨r9,j.UH.cl,j.UH.nS,rfl,w1,j.UT.cl,j.UT.nC,w2,?_⟩;refine⟨W2.sh,w5,J.tx.so.va,by omega,λD1 H3 kX px n3 s3 e3 pr pn pc=>?_⟩;have pm:=Hd pr;have dL:px.length<=4:=by
  have e:=pn.length_eq;rw[al,al]at e;omega
 have b1:(fB px).length<=12:=by
  have:=RF (b:=3) (ps:=px) λp hp=>(W2.pcok p (pm p hp)).n3;omega
 refine⟨e3,G9 (W2.pc.same s3) pr,by omega,λd4 H4 kvs bi n4 s4 e4 wa g4=>?_⟩;refine⟨.inl ⟨_,.inl e4⟩,AI,λl5 H5 n5 s5 e5=>?_⟩;refine⟨_,cO.k (k:=.inr p) (s5 _ _ e4),?_⟩;obtain⟨lb,eb,nb,hb⟩:=an8 (p:=p) (aB wa λkv f a9=>a9.elim λz1 ab=>ab.elim λl ax=>ax.elim λz2 az=>az.elim λz3 z4=>⟨z1,l,z2,z3,s5 _ _ z4⟩) g4.nd (s4.free n5) e5;rw[eb];have hB:Jq ps ch p ((look bi p).getD []):=⟨px,bi,⟨pn,λq hq=>⟨pm q hq,pc q hq⟩⟩,g4,rfl⟩;obtain⟨bl,b4⟩:=hB.ok W2.ap;generalize (look bi p).getD []=br at hb hB bl b4;have rV:=s3.trans (s4.trans s5);have km:=bV.trans rV;have UN:=km _ _ hl;have aR:∀y∈ls,Ln y:=λy hy=>(UM y hy).ln;have a':∀y∈br,Ln y:=λy hy=>(bl y hy).ln;refine⟨dS ls,dS br,Uz UN,Uz hb,xS 8 aR,xS 8 a',λbb jy=>⟨?_⟩⟩;rw[MG]at jy;obtain⟨ko,o1,o2⟩:=id (w7.same rV);have lo:=bK o2;have vh:=rV _ _ w1;have hk:∀{R:Hp} kv e,fA R kv e->kv.1=Sum.inr e.1:=λkv e z=>z.1;have go:∀{O:Hp}{o':Addr}{kk:List (ao×V)},ac H5 O->O o'=some (.dK kk)->Paired (fA O) kk (vg ow p br ls)->fC xs ps ch cs (vg ow p br ls)->Jt j.Hc j.C j.S j.T j.D Pt [.ref h,.ref c0,.ref h0,.ref o'] O (λ_ H'=>Q .non H') E0:=λ{O o' kk} G e6 IS b0=>by
  have rQ:=km.trans G;have Y:=rV.trans G;refine⟨hW.same (fj rQ),J.same rQ,l3,w5.same Y,w6.same Y,⟨_,e6,IS⟩,b0,λH' a0=>a0.elim λt' a1=>a1.elim λaT a2=>a2.elim λaV a3=>a3.elim λaM a4=>a4.elim λbE a5=>a5.elim λdF a6=>a6.elim λfk a7=>a7.elim λol a8=>a8.elim λll k=>?_⟩;refine q H' ⟨t',aT,aV,aM,bE,dF,fk,bX ol ?_,ll,(bO.of rQ).trans k⟩;unfold vg;split
  . exact Wf (sw _ _)
  exact jC _ _ _
 cases bb with
 | true=>
  have el:=jy.mp rfl;refine di ?_;refine⟨rV _ _ r9,rfl,vh,j.UT.cl,j.UT.nC,w2,vh,j.UT.cl,j.UT.nH,w3,?_⟩;refine⟨vh,j.UT.cl,j.UT.nO,w4,o1,by omega,λ_ o' O no G e6=>?_,λz=>absurd rfl z⟩;refine go G e6 ?_ ?_
  . unfold vg;rw[aj el];refine aB (F:=fA H5) ?_ λ_ _=>fA.same G
    rcases Ir hk o2 p with⟨_,hs⟩ | ⟨hn,hs⟩
    . rw[aj hs];exact Cp hk o2
    rw[hs,Cq hn];exact o2
  unfold vg;rw[aj el];exact J.tx.so.drop p
 | false=>
  have el:ls≠br:=λz=>by have:=jy.mpr z;cases this
  refine gc ?_;refine⟨Aw,λtt O n6 G e6=>?_⟩;have Y:=rV.trans G;refine⟨Y _ _ r9,rfl,Y _ _ w1,j.UT.cl,j.UT.nC,w2,Y _ _ w1,j.UT.cl,j.UT.nH,w3,?_⟩;refine⟨Y _ _ w1,j.UT.cl,j.UT.nO,w4,G _ _ o1,by omega,(λz=>nomatch z),λ_ o' H7 no s7 e7=>?_⟩;refine go (G.trans s7) e7 ?_ ?_
  . unfold vg;rw[ag el];exact jD (F:=fA H7) hk ⟨rfl,tt,lb,l,rfl,s7 _ _ e6,(G.trans s7) _ _ hb,(G.trans s7) _ _ UN⟩ (aB o2 λ_ _=>fA.same (G.trans s7))
  unfold vg;rw[ag el];exact J.tx.so.put qf bl UM (by omega) aO l7
inductive UO (Hc C S D Pt:Addr):Sp where
 | mk {H:Hp}{Q:VK}{E:XK}{h z x dx d b:Addr}{G:V}{fs:Tr}{bk:Bk}{xs:Lv}{ps:Lp}{ns:Ls}{t:Str}{ch:Ch}{cs:Cs}{ow:Ow} (_:HW Hc C S h z x G xs ps ns (msk [x,d,b,Pt] H)) (_:DU D x dx d b Pt xs ps t ch cs ow fs bk H) (_:bk.length<=300) (_:∀bE j H',DU D x dx d b Pt xs ps Str.empty [] [] [] bE j H'->j.length<=bk.length+10->bO x d b Pt H H'->Q .non H'):UO Hc C S D Pt [.ref h,.int 0] H Q E
theorem aoM(z:Pg K mg base Pt):au P w K mg base aL 10 z.HBa.f z.HBa.fd [asX,ats] (UO z.Hc z.C z.S z.D Pt):=by
 refine z.HBa.u.okL Jp ?_;intro ar Ar outer s H vs Q E Y h xX dX;obtain @⟨_,_,_,h,aZ,x,dx,d,b,sv,fs,bk,xs,ps,ns,t,ch,cs,ow,hW,U,l3,q⟩:=h;refine⟨_,(ah (bC (cj (pv 0) z.UH.cl z.HSK.mt (up (C6 z)) Y z.HSK.b .nil bT))
  (ah (aF (i:=2) Jp.nd rfl (Or.inl rfl) (cj (pv 0) z.UH.cl z.HFo.mt (up (UE z)) Y z.HFo.b .nil bT))
  (ah (bu (tF (ij (aA (aoa z) Y rfl (aC (pv 1) (pv 2)))))
  (ai qH) bI)
  (ai (bC (uD (Up (Jf z)) Y rfl Be (dP (bJ (pv 0) rfl) (bJ (pv 0) rfl) (bP fQ (pv 2) (pv 1) (λ_ _=>rfl))))))))),?_⟩
 refine kO ?_;intro dD sS u4 u3 u2;have J:=bj _ _ hW.ob;have hQ:=U.qd (by omega);refine⟨J,rfl,J,hQ,U.up,λv1 H1 O hv=>?_⟩;refine⟨O _ _ J,rfl,O _ _ J,hQ.same O,λl zs H2 n2 s2 e2 pr=>?_⟩;have lB:=O.trans s2;have D2:=U.same lB;have pr:=pr [x,d,b,Pt] (U.same O).busy;have pl:=bK pr;rw[cr]at pl;refine⟨aa.of e2,⟨?_⟩⟩;rw[show decide ((0:Int)<=0/\(0:Int)<zs.length)=true from bL ⟨by omega,by omega⟩];refine di ?_;obtain⟨fv,hz,aT,aV,aM,dR,G⟩:=yx pr (i:=0) rfl;obtain⟨rfl,rfl,rfl⟩:=G.uniq CW;have r9:=lB _ _ J;refine⟨r9,z.UH.cl,z.UH.nS,rfl,r9,z.UH.cl,z.UH.nD,rfl,aa.of e2,AM (j:=0) hz,?_⟩;refine⟨hW.wl.same (fj lB),dR.same (BD λ_ h=>bU _ h),G.so,D2,l3,λt' aT aV aM bE dF H' r1 r2 r3 fk ll k=>?_⟩;cases cF.eq G.so.ok.d1 r1 pW;cases cF.eq G.so.ok.d2 r2 pW;cases cF.eq G.so.ok.d3 r3 pW;cases fk.tx.tx;exact q bE dF H' fk ll ((bO.of lB).trans k)
end
section
seal PE PS bW PA PT PW PG fM PI fF
theorem aoN{fs tr:Tr}(h:look fs=look tr):ji fs tr []:=⟨.nil,.nil,λk=>⟨(λz=>nomatch z),λz=>absurd (congrFun h k) z⟩⟩
theorem DU.keepT{xs:Lv}{ps:Lp}{t:Str}{ch:Ch}{cs:Cs}{ow:Ow}{fs:Tr}{bk:Bk}{H H':Hp}(h:DU D x dx d b Pt xs ps t ch cs ow fs bk H)(k:j7 Pt H H')(tb:aE H' Pt dg df):DU D x dx d b Pt xs ps t ch cs ow fs bk H':=⟨h.dk.keepT h.tb k,h.la,h.tx,h.tk,h.up,h.fu,h.ln,tb⟩
inductive UP (Hc C S D Pt:Addr):Sp where
 | mk {H:Hp}{Q:VK}{E:XK}{h z x dx d b:Addr}{j:V}{xs:Lv}{ps:Lp}{ns:Ls}{t:Str}{ch:Ch}{cs:Cs}{ow:Ow}{fs:Tr}{bk:Bk} (_:H h=some (.ins Hc z (mK j x))) (_:jm C S H j xs ps ns) (_:DU D x dx d b Pt xs ps t ch cs ow fs bk H) (_:bk.length<=380) (_:∀l H',j7 Pt H H'->aE H' Pt dg df->Q (.ref l) H'):UP Hc C S D Pt [.ref h] H Q E
theorem UQ(G:Pg K mg base Pt):au P w K mg base aL 9 G.HLo.f G.HLo.fd [asX] (UP G.Hc G.C G.S G.D Pt):=by
 refine G.HLo.u.okL zI ?_;intro ar Ar outer s H vs Q E hr h xX dX;obtain @⟨_,_,_,h,aZ,x,dx,d,b,sv,xs,ps,ns,t,ch,cs,ow,fs,bk,hh,hW,Y,l3,q⟩:=h;refine⟨_,(ah (aF (i:=1) zI.nd rfl (Or.inr rfl) (aA (wz G) hr rfl (aC (bJ (pv 0) rfl) (cj (pv 0) G.UH.cl G.HSK.mt (up (C6 G)) hr G.HSK.b .nil bT))))
  (ah (aF (i:=2) zI.nd rfl (Or.inr rfl) (cj (bJ (pv 0) rfl) G.UD.cl G.FNo.mt (up (Ct G)) hr G.FNo.b .nil bT))
  (ai (aN (fT [asZ] [as8,atm] [2,1] dN rfl (cH (aA (Sk G) hr rfl (aC (pv 2) (pv 1)))) (λ_ _ _ _=>(bf (i:=0) (show List.Nodup ([asZ,as8,atm]:Ls) by decide +kernel) rfl (Or.inl rfl))) (λ_ _ _ _=>ge) (λ_ _ _ _=>(dE (aC (pv 0) (aA (aoh G) hr rfl (dP (pv 0) (pv 1) (pv 2))))))))))),?_⟩
 refine jb ?_;intro dD sS u3 u2;have a5:=Y.tb;refine⟨hh,G.UH.cl,G.UH.nS,rfl,hh,rfl,hh,Y.qd l3,Y.up,λv1 H1 s1 hv=>?_⟩;have hv:=hv [] λb z=>nomatch z
 rw[wb]at hv;have O:=hW.same s1;have so:=Y.tx.so;have cB:eO xs ps ch:=⟨so.ok.d1,so.va⟩;have D1:=Y.same s1;refine⟨O.sh,O.pc,O.pcok,O.n4,hv,so.va,cB.len O.ap O.n4,so.o2,so.ok.okO,λe he=>(so.ok.ok.cs e he).2.ln,D1.tb,λt5 H2 kvs tr n5 kT rW e5 pY oC lT kY vd=>?_⟩;have J:=D1.keepT kT rW;have r9:=kT _ _ (s1 _ _ hh) (aE.ne D1.tb (s1 _ _ hh) (by intro φ z;cases z));obtain⟨kd,a4,Ju⟩:=id J.dk.fi;have pw:Paired (cw H2) kvs tr:=aB pY λ_ _ z=>z.du;have ln:=Y.ln;refine⟨r9,G.UH.cl,G.UH.nD,rfl,J.dk.ob,rfl,J.dk.ob,a4,Ju,J.dk.nd,by omega,λr H3 kr nr s3 e3 oh=>?_⟩;refine⟨e3,s3 _ _ e5,aB oh λ_ _ a0=>a0.elim λz1 a1=>a1.elim λl a2=>a2.elim λz2 a3=>a3.elim λ_ z3=>⟨z1,l,z2,z3⟩,aB pw λ_ _=>cw.same s3,J.dk.nd,oC,J.dk.ok,kY,uU (by omega),λlk H4 us n4 s4 e4 U=>⟨⟨_,aa.of e4⟩,?_⟩⟩;have ul:=U.len;have uW:=s3.trans s4;intro D' fk;refine Cb (σ0:=[none,some (.ref r),some (.ref t5)]) fk (aa.of e4) (λZ=>∃u,Z=[u,some (.ref r),some (.ref t5)]) (λj zs Hx=>zs.length=j) ⟨_,rfl⟩ rfl ?_ ?_
 . rintro j y zs Z H5 k hy ⟨u,rfl⟩ fK h5 zl hk;rw[dA]at hy;cases hp:us[j]? with
   | none=>rw[hp]at hy;cases hy
   | some p=>
    rw[hp]at hy;cases hy;have aO:=(cN.mp hp).1;refine⟨h5 _ _ (s4 _ _ e3),h5 _ _ (uW _ _ e5),Aw,λtp H6 n6 s6 e6=>?_⟩;exact hk _ _ _ ⟨_,rfl⟩ s6 (bZ (by omega)) (by rw[bH,zl];rfl)
 rintro zs H5 fK h5 _;exact q D' H5 (λb o e n=>(uW.trans h5) _ _ (kT _ _ (s1 _ _ e) n)) (rW.same (uW.trans h5))
inductive UV (Hc C S D Pt:Addr):Sp where
 | mk {H:Hp}{Q:VK}{E:XK}{h j x dx d b:Addr}{z:V}{xs:Lv}{ps:Lp}{ns:Ls}{t:Str}{ch:Ch}{cs:Cs}{ow:Ow}{fs:Tr}{bk:Bk} (_:HW Hc C S h j x z xs ps ns (msk [x,d,b,Pt] H)) (_:DU D x dx d b Pt xs ps t ch cs ow fs bk H) (_:bk.length<=380) (_:∀l H',DU D x dx d b Pt xs ps t ch cs ow fs bk H'->bO x d b Pt H H'->Q (.ref l) H'):UV Hc C S D Pt [.ref h] H Q E
theorem aoS(j:Pg K mg base Pt):au P w K mg base aL 10 j.HMe.f j.HMe.fd [asX] (UV j.Hc j.C j.S j.D Pt):=by
 refine j.HMe.u.okL Db ?_;intro ar Ar outer s H vs Q E hr h xX dX;obtain @⟨_,_,_,h,aZ,x,dx,d,b,sv,xs,ps,ns,t,ch,cs,ow,fs,bk,hW,hD,l3,q⟩:=h;refine⟨_,(ah (aF (i:=1) Db.nd rfl (Or.inl rfl) (cj (pv 0) j.UH.cl j.HLo.mt (up (UQ j)) hr j.HLo.b .nil bT))
  (ah (bC (uD (IE j) hr rfl Be (aC (bJ (pv 0) rfl) (aA (wz j) hr rfl (aC (bJ (pv 0) rfl) (cj (pv 0) j.UH.cl j.HSt.mt (up (C5 j)) hr j.HSt.b .nil bT))))))
  (ai (aN (pv 1))))),?_⟩
 refine jb ?_;intro dD sS u3 u2;have hh:=bj _ _ hW.ob;refine⟨hh,rfl,hh,hW.wl.same bj,hD,l3,λl H1 k1 Jv=>?_⟩;have UW:bO x d b Pt H H1:=.ofT k1;have Y:=bj _ _ ((hW.same UW.msk).ob);have D1:=hD.keepT k1 Jv;refine⟨Y,j.UH.cl,j.UH.nD,rfl,Y,j.UH.cl,j.UH.nS,rfl,Y,rfl,Y,D1.qd l3,trivial,λv2 H2 s2 qg=>?_⟩;have qg:=qg [] λb z=>nomatch z
 rw[wb]at qg;have UX:bO x d b Pt H H2:=UW.trans (.of s2);have J:=(hW.wl.same UX.msk).same bj;have O:=hD.tx.so;have cB:eO xs ps ch:=⟨O.ok.d1,O.va⟩;have D2:=D1.same s2;refine⟨J.sh,J.pc,J.pcok,J.n4,qg,O.va,cB.len J.ap J.n4,O.o2,O.ok.okO,λe he=>(O.ok.ok.cs e he).2.ln,D2.tb,λt5 H3 kvs tr n5 kT jn e5 pY oC lT kY vd=>?_⟩;have G:=D2.keepT kT jn;obtain⟨kd,de,a2⟩:=id G.dk.fi;obtain⟨tb,b1,b2⟩:=id G.dk.bo;have wF:=D2.busy.free n5;have dt:d≠t5:=λz=>wF (by rw[<-z];simp);have lk:=G.fu.look J.ap G.tx vd;have ln:=hD.ln;refine⟨G.dk.ob,de,e5,dt,a2,aB pY λ_ _ z=>z.du,G.dk.nd,oC,G.dk.ok,kY,uU (by omega),(λ_ z=>nomatch z),λus H4 U _ T=>?_,λ_ _ _ _ z=>nomatch z⟩;cases U.eq (aoN lk);have ox:=G.dk.ob;have k:∀{q:Addr}{o:HO},H3 q=some o->(∀k,o≠.dK k)->(∀c dx fl,o≠.ins c dx fl)->H4 q=some o:=λe n m=>T.kp _ _ e (aU e ox (m _ _ _)) (aU e de (n _));have mI:aE H4 Pt dg df:=K74.aE.kp jn λq φ e=>k e (by intro _ z;cases z) (by intro _ _ _ z;cases z);refine⟨q l H4 ⟨⟨T.ob,T.hd,⟨tb,k b1 (by intro _ z;cases z) (by intro _ _ _ z;cases z),aB b2 λ_ _ a0=>a0.elim λt' a1=>a1.elim λz1 z2=>⟨t',z1,k z2 (by intro _ z;cases z) (by intro _ _ _ z;cases z)⟩⟩,G.dk.nd,G.dk.ok,G.dk.bz,G.dk.bt,G.dk.ps⟩,G.la,G.tx,G.tk,G.up,G.fu,G.ln,mI⟩ ?_⟩;exact UX.trans ((bO.ofT kT).trans λq o e n1 n2 _ _=>T.kp q o e n1 n2)
end
end K74
namespace HT
section
open PySem.SeqAt
open PySem.AutoSeq1 (wpAny_loadPart')
open PySem.MeetsSeq PySem.MeetsSeq2 PySem.MeetsSeq3
variable {P:Program}{w:World}{A:Around}{s:Shared}
theorem aoW(p q:Addr)(it G:Av)(n n2:Nat)(dd pj:Oa)(sl uv:Array (Option Value))(hz:it.size=G.size) :
 MeetsIn P w (Builtin.«tuple.__ne__» ⟨[.ref p,.ref q],[]⟩)
  (λA R s=>s.heap.get? p=some ⟨.type "tuple",dd,.seq it n,sl⟩/\s.heap.get? q=some ⟨.type "tuple",pj,.seq G n2,uv⟩/\(∀j (h1:j<it.size) (h2:j<G.size),rh P w A.in1 s it[j] G[j])/\R (.ok (.ret (.bool false))) s):=by
 intro A R s h;obtain⟨hp,g,d,tk,os⟩:=s;obtain⟨g1,g2,he,h⟩:=h;have f2:=arq;have lz:(it.toList.zip G.toList).length=it.size:=by simp[hz]
 wp_walk using wpAny_loadPart' g1,wpAny_loadPart' g2,vk _ (λrest c J=>c.1=none/\J=⟨hp,g,d,tk,os⟩/\∃j,rest=(it.toList.zip G.toList).drop j) _
 case turn=>
  rintro⟨u,v⟩ rest c J ⟨_,rfl,j,er⟩;have O:j<(it.toList.zip G.toList).length:=Nat.lt_of_not_le λz=>by rw[List.drop_of_length_le z]at er;cases er
  have h1:j<it.size:=lz▸O;have h2:j<G.size:=hz▸h1;rw[DA O]at er;injection er with e1 e2
  have U:u=it[j]:=by simpa using fc Prod.fst e1
  have Y:v=G[j]:=by simpa using fc Prod.snd e1
  subst U Y;refine ae (he j h1 h2 _ _ ?_)
  wp_walk
  exact⟨rfl,rfl,j+1,e2⟩
 case fin=>
  rintro⟨c1,c2⟩ J ⟨ec,rfl,_⟩;simp only at ec;subst ec
  wp_walk
  simpa [Builtin.Tuple.tupleCompareSizes,hz]using h
 case h=>exact⟨rfl,rfl,0,rfl⟩
theorem aoX{it G:Av}{Q E:VP}(h1:IsTup s.heap p it)(h2:IsTup s.heap q G)(hz:it.size=G.size)(hu:A.units<cLine)
 (he:∀j (h1:j<it.size) (h2:j<G.size),rh P w A.in1 s it[j] G[j]) (z:Q (.bool false) s):wpAny (model P w) A (compareOp .NotEq (.ref p) (.ref q)) Q E s:=by
 obtain⟨⟨cls,dd,data,sl⟩,J,O,n,hd⟩:=id h1;obtain⟨⟨F5,pj,data2,uv⟩,qY,Y,n2,U⟩:=id h2;simp only at O hd Y U;subst O hd Y U;show wpAny (model P w) A (richCompare .NotEq (.ref p) (.ref q)) Q E s;refine aqR (op:=.NotEq) ⟨_,J,rfl⟩ ⟨_,qY,rfl⟩ arC (sy arC ⟨_,J,rfl⟩ PySem.F.entry_tuple_ne (PySem.F.args_tuple_ne_2 _ _) (aoW p q it G n n2 dd pj sl uv hz) ?_) hu;exact⟨J,qY,he,show Value.bool false≠Value.notImplemented/\Q (.bool false) s from ⟨(λx=>nomatch x),z⟩⟩
end
end HT
namespace L2
open PySem.W (KeqHits)
section
variable {X:Cx}
theorem Jw:cD X (compareOp .IsNot) (λx y H Q=>∃c d,x=.bl c/\y=.bl d/\Q (.bl (c != d)) H):=by
 intro ad s Z H x y v u Q I j z h;obtain⟨c,d,rfl,rfl,q⟩:=h;cases j;cases z;exact isnot_bool ⟨.bl _,H,I,rfl,q⟩
theorem aoY:cD X (compareOp .Is) (λx y H Q=>∃c d,x=.bl c/\y=.bl d/\Q (.bl (c == d)) H):=by
 intro ad s Z H x y v u Q I j z h;obtain⟨c,d,rfl,rfl,q⟩:=h;cases j;cases z;exact is_bool ⟨.bl _,H,I,rfl,q⟩
theorem UY{ad:Po}{Z:L2.St}{H:Hp}{s:Shared}{A:Around}(I:Inv X ad Z H s)(Y:A.units+65<cLine){g9:List (ao×V)}{J:List (ao×Value)}(nd:(g9.map (·.1)).Nodup)(U:KV g9 J):∀{ka kb:List (ao×V)}{va:List (ao×Value)},Paired (FA X.K H) ka kb->KV ka va->(∀p∈kb,p∈g9)->KeqHits A.in1 s J va true
 | _,_,_,.nil,.nil,_=>.nil
 | _,_,_,.cons (a:=p) (b:=q) r t,.cons (b:=pv) rv tv,hm=>by
  obtain⟨e,d,d1,d2,ok⟩:=r;obtain⟨as,ra⟩:=d1.reads I rv.2;have hq:=aef nd (k:=q.1) (v:=q.2) (hm q bQ);have j:=U.val q.1;rw[hq]at j;cases G:valueAt J q.1 with
  | none=>rw[G]at j;exact j.elim
  | some y=>
   rw[G]at j;have j:RelV q.2 y:=j;obtain⟨bs,rb⟩:=d2.reads I j;have O:=W.keq_at (A:=A) ra rb (qQ ok) (qQ ok) Y;have et:=(wW 9 d d 9 ok ok).mpr rfl;rw[et]at O;have z:pv.1=q.1:=rv.1.symm.trans e;obtain⟨pk,a0⟩:=pv;have z:pk=q.1:=z;subst z;exact .hit (e:=true) (b:=true) G O (UY I Y nd U t tv λp hp=>hm p (bU _ hp))
def aoZ(K:Fg)(x y:V)(H:Hp)(Q:VK):Prop:=∃(p q j z G J:Addr) (kvs O g9:List (ao×V)) (U:List Addr),x=.ref p/\y=.ref q/\H p=some (.tup [.ref j,.ref G])/\H q=some (.tup [.ref z,.ref J])/\j≠z/\G≠J/\H j=some (.dK kvs)/\H z=some (.dK g9)/\Paired (FA K H) kvs O/\(∀p∈O,p∈g9)/\kvs.length=g9.length/\(g9.map (·.1)).Nodup /\
 H G=some (.lst (U.map V.ref))/\H J=some (.lst (U.map V.ref))/\Q (.bl false) H
theorem ao0(hu:X.A.units+66<cLine):cD X (compareOp .NotEq) (aoZ X.K):=by
 intro ad s Z H x y v u Q I rx ry h;obtain⟨p,q,J,O,U,Y,kvs,kb,g9,ts,rfl,rfl,hp,hq,na,nl,h1,h2,pr,hm,hl,nd,k1,k2,q'⟩:=h;cases rx;cases ry;obtain⟨_,hd,vs,a0,dd⟩:=lX I.hok h1;obtain⟨_,mS,ws,xY,gM⟩:=lX I.hok h2;obtain⟨i1,v1,p1,_⟩:=I.tuple (ba.of (K:=X.K) hp);obtain⟨i2,v2,p2,_⟩:=I.tuple (ba.of (K:=X.K) hq);obtain⟨j1,w1,m1,_⟩:=I.list (aa.of (K:=X.K) k1);obtain⟨j2,w2,m2,_⟩:=I.list (aa.of (K:=X.K) k2);have e1:i1=[.ref J,.ref U]:=uo (Ds:=[J,U]) v1;have e2:i2=[.ref O,.ref Y]:=uo (Ds:=[O,Y]) v2;have e3:=uo w1;have e4:=uo w2;subst e1 e2 e3 e4;have G:∀{a:Addr}{it:Av},PlainL s.heap a it->s.heap.IsList a it:=λa3=>a3.elim λo a4=>a4.elim λn a5=>a5.elim λe a6=>a6.elim λc a7=>a7.elim λ_ d=>⟨o,e,c,n,d⟩;refine HT.aoX p1 p2 rfl (by omega) (λj h1 h2=>?_) ⟨.bl false,H,I,rfl,q'⟩;have u1:X.A.in1.units+65<cLine:=by show X.A.units+1+65<cLine;omega
 match j,h1,h2 with
 | 0,_,_=>
  refine HT.rh.refs na λE Q q=>?_;refine W.keq_eq (knd:=cx X.prog X.w) (r:=true) hd mS dd gM (by omega) (λ_=>UY I u1 nd xY pr a0 hm) ?_;have e:vs.length=ws.length:=by rw[<-a0.length,<-xY.length,hl]
  rw[e,beq_self_eq_true];exact q
 | 1,_,_=>
  refine HT.rh.of (SeqAt.EqAt.of_refs nl ?_);have z:=SeqAt.RcAt.lists (A:=X.A.in1) (s:=s) (e:=λ_=>true) (G m1) (G m2) rfl (by omega) λj _ _=>SeqAt.EqAt.same _;have t:((List.range ((ts.map Value.ref).toArray.size)).all λ_=>true)=true:=gW.mpr λ_ _=>rfl;rw[t]at z;exact z
end
end L2
namespace K74
section
variable {a:Int}{H:Hp}
seal PE PS bW PA PT PW PG fM PI fF
theorem nz{b:Int}(h:¬decide (V.int a=V.int b)=true):a≠b:=λe=>h (by rw[e];exact bL rfl)
theorem cG{b:Int}{X Y:Prop}(h:a≠b)(y:Y):if decide (V.int a=V.int b)=true then X else Y:=by
 rw[ag λz=>h (V.int.inj (cW z))];exact y
theorem zJ{X Y:Prop}(x:X):if decide (V.int a=V.int a)=true then X else Y:=by
 rw[aj (bL rfl)];exact x
theorem ao6{xs:Lv}{ps:Lp}:wE xs ps Str.empty []:=⟨[],[],[],[],⟨[],[],[],pW,pW,pW,CW⟩,CW.so,⟨[],[],⟨.refl _,λp j=>nomatch j⟩,RA,λ_ _=>rfl,λc z=>z.elim λp G=>G.elim λj _=>nomatch j⟩,rfl⟩
theorem Dd{xs:Lv}{ps:Lp}:mH xs ps [Str.empty]:=λt j=>⟨[],[],[],by rw[bF.mp j];exact CW⟩
theorem Dk.allow{lf lf':Option Int}{fs:Tr}{bk:Bk}(h:Dk D x dx d b lf fs bk H)(p:∀m,lf'=some m->0<=m/\(fs.length:Int)+m<=39):Dk D x dx d b lf' fs bk (af H x (.ins D dx (cX d b (lv lf')))):=by
 have k:∀{q:Addr}{o:HO},H q=some o->(∀c dx fl,o≠.ins c dx fl)->af H x (.ins D dx (cX d b (lv lf'))) q=some o:=λe n=>gH e (aU e h.ob (n _ _ _));obtain⟨kd,d1,d2⟩:=h.fi;obtain⟨tb,b1,b2⟩:=h.bo;exact⟨aD,⟨kd,k d1 (by intro _ _ _ z;cases z),aB d2 λ_ _ J=>J.elim λj O=>O.elim λl U=>U.elim λG z3=>⟨j,l,G,k z3 (by intro _ _ _ z;cases z)⟩⟩,⟨tb,k b1 (by intro _ _ _ z;cases z),aB b2 λ_ _ Y=>Y.elim λt a0=>a0.elim λj G=>⟨t,j,k G (by intro _ _ _ z;cases z)⟩⟩,h.nd,h.ok,h.bz,h.bt,p⟩
theorem bO.allow{o:HO}:bO x d b Pt H (af H x o):=λq _ e n _ _ _=>gH e n
theorem aE.allow{lf:Option Int}{fs:Tr}{bk:Bk}{lp:Pos}{qu:Str}{o:HO}(h:Dk D x dx d b lf fs bk H)(t:aE H Pt lp qu):aE (af H x o) Pt lp qu:=K74.aE.kp t λq φ e=>gH e (aU e h.ob (by intro z;cases z))
inductive U2 (Hc D j:Addr):Sp where
 | mk {H:Hp}{Q:VK}{E:XK}{h:Addr}{n:Int} (_:vf Hc D j h H E) (_:0<=n) (_:n<9):U2 Hc D j [.ref h,.int n] H Q E
theorem U3:aK [atl,atp] [atl,atp] (av OW):=aQ
theorem ape(j:Pg K mg base Pt):au P w K mg base (dU P w) 10 j.LSa.f j.LSa.fd [atl,atp] (U2 j.Hc j.D j.NU):=by
 refine j.LSa.u.okR U3 (λvs H Q E h=>?_) (λar Ar outer s H vs Q E J h=>?_)
 . cases h;rfl
 refine ya ?_;intros;obtain @⟨_,_,_,h,n,z,n0,n9⟩:=h;refine⟨_,(ah (bu (bq cT (pv 1) ak (bh _)) (ai (bC (gA (pv 0) j.UH.cl j.HWi.mt (up (an4 j)) J j.HWi.b .nil eK (am (cU (am (dE (qV bB bB (dE d8) jq)))))))) bI)
  (ah (bu (bq cT (pv 1) ak (bh _)) (ai (bC (gA (pv 0) j.UH.cl j.HEd.mt (up (Uu j)) J j.HEd.b .nil eK (aC bB (cU (am bB)))))) bI)
  (ah (bu (bq cT (pv 1) ak (bh _)) (ai (bC (gA (pv 0) j.UH.cl j.HFg.mt (up (an5 j)) J j.HFg.b .nil eK (am bB)))) bI)
  (ah (bu (bq cT (pv 1) ak (bh _)) (ai (bC (gA (pv 0) j.UH.cl j.HCh.mt (up (an6 j)) J j.HCh.b .nil eK (aC bB jq)))) bI)
  (ah (bu (bq cT (pv 1) ak (bh _)) (ai (bC (gA (pv 0) j.UH.cl j.HBa.mt (up (Uw j)) J j.HBa.b .nil eK (am (tN tO ak))))) bI)
  (ah (bu (bq cT (pv 1) ak (bh _)) (ai (bC (cj (pv 0) j.UH.cl j.HLo.mt (up (Ux j)) J j.HLo.b .nil eK))) bI)
  (ah (bu (bq cT (pv 1) ak (bh _)) (ai (bC (cj (pv 0) j.UH.cl j.HMe.mt (up (an7 j)) J j.HMe.b .nil eK))) bI)
  (ah (bu (bq cT (pv 1) ak (bh _)) (ai (bC (gA (pv 0) j.UH.cl j.HEd.mt (up (Uu j)) J j.HEd.b .nil eK (aC bB (cU (am bB)))))) bI)
  (ai (bu (bq cT (pv 1) ak (bh _)) (ai (bC (gA (pv 0) j.UH.cl j.HBa.mt (up (Uw j)) J j.HBa.b .nil eK (am ak)))) bI)))))))))),?_⟩
 obtain⟨_,_,_,G,_⟩:=id z;refine⟨rfl,⟨bv (λ_=>⟨G,rfl,AI,λp1 H1 n1 O e1=>⟨(by show 4<=sizeLine;decide),λp2 H2 n2 U e2=>⟨Ap,λp3 H3 n3 s3 e3=>⟨z.same (O.trans (U.trans s3))⟩⟩⟩⟩) (λY=>?_)⟩⟩;refine⟨rfl,⟨bv (λ_=>⟨G,rfl,Ap,λp1 H1 n1 O e1=>⟨z.same O⟩⟩) (λz1=>?_)⟩⟩;refine⟨rfl,⟨bv (λ_=>⟨G,rfl,⟨z⟩⟩) (λz2=>?_)⟩⟩;refine⟨rfl,⟨bv (λ_=>⟨G,rfl,⟨z⟩⟩) (λz3=>?_)⟩⟩;refine⟨rfl,⟨bv (λ_=>⟨G,rfl,_,rfl,⟨z⟩⟩) (λz4=>?_)⟩⟩;refine⟨rfl,⟨bv (λ_=>⟨G,rfl,⟨z⟩⟩) (λz5=>?_)⟩⟩;refine⟨rfl,⟨bv (λ_=>⟨G,rfl,⟨z⟩⟩) (λz6=>?_)⟩⟩;refine⟨rfl,⟨bv (λ_=>⟨G,rfl,Ap,λp1 H1 n1 O e1=>⟨z.same O⟩⟩) (λz7=>?_)⟩⟩;refine⟨rfl,⟨bv (λ_=>⟨G,rfl,⟨z⟩⟩) (λz8=>?_)⟩⟩;have:=nz Y;have:=nz z1;have:=nz z2;have:=nz z3;have:=nz z4;have:=nz z5;have:=nz z6;have:=nz z7;have:=nz z8;omega
inductive U5 (Hc C S D Pt:Addr):Sp where
 | mk {H:Hp}{Q:VK}{E:XK}{h z x dx d b:Addr}{G:V}{fs:Tr}{bk:Bk}{xs:Lv}{ps:Lp}{ns:Ls}{t:Str}{ch:Ch}{cs:Cs}{ow:Ow}{n:Int} (_:HW Hc C S h z x G xs ps ns (msk [x,d,b,Pt] H)) (_:DU D x dx d b Pt xs ps t ch cs ow fs bk H) (_:bk.length<=300) (_:ow.length<=7) (_:n=2\/n=5\/n=6\/n=7\/n=8)
  (_:∀t' aT aV aM bE j H',DU D x dx d b Pt xs ps t' aT aV aM bE j H'->aM.length<=ow.length+1->j.length<=bk.length+10->bO x d b Pt H H'->(n=8->t'=Str.empty)->Q .non H'):U5 Hc C S D Pt [.ref h,.int n] H Q E
theorem apf(j:Pg K mg base Pt):au P w K mg base aL 11 j.LSa.f j.LSa.fd [atl,atp] (U5 j.Hc j.C j.S j.D Pt):=by
 refine j.LSa.u.okL U3 ?_;intro ar Ar outer s H vs Q E hr h xX dX;obtain @⟨_,_,_,h,aZ,x,dx,d,b,sv,fs,bk,xs,ps,ns,t,ch,cs,ow,n,O,J,l3,o7,hn,q⟩:=h;refine⟨_,(ah (bu (bq cT (pv 1) ak (bh _)) (ai qH) bI)
  (ah (bu (bq cT (pv 1) ak (bh _)) (ai qH) bI)
  (ah (bu (bq cT (pv 1) ak (bh _)) (ai (bC (gA (pv 0) j.UH.cl j.HFg.mt (up (aok j)) hr j.HFg.b .nil bT (am bB)))) bI)
  (ah (bu (bq cT (pv 1) ak (bh _)) (ai qH) bI)
  (ah (bu (bq cT (pv 1) ak (bh _)) (ai qH) bI)
  (ah (bu (bq cT (pv 1) ak (bh _)) (ai (bC (cj (pv 0) j.UH.cl j.HLo.mt (up (UQ j)) hr j.HLo.b .nil bT))) bI)
  (ah (bu (bq cT (pv 1) ak (bh _)) (ai (bC (cj (pv 0) j.UH.cl j.HMe.mt (up (aoS j)) hr j.HMe.b .nil bT))) bI)
  (ah (bu (bq cT (pv 1) ak (bh _)) (ai (bC (gA (pv 0) j.UH.cl j.HEd.mt (up (aou j)) hr j.HEd.b .nil bT (aC bB (cU (am bB)))))) bI)
  (ai (bu (bq cT (pv 1) ak (bh _)) (ai (bC (gA (pv 0) j.UH.cl j.HBa.mt (up (aoM j)) hr j.HBa.b .nil bT (am ak)))) bI)))))))))),?_⟩
 have U:=bj _ _ O.ob;have pa:dB "a":=⟨["a"],by decide +kernel,by decide,by decide,λp hp=>by rw[bF.mp hp];exact⟨by decide +kernel,by decide +kernel,by decide +kernel⟩⟩;have lx:∀y∈(["x"]:Ls),gj y:=λy hy=>by rw[bF.mp hy];exact⟨by decide +kernel,by decide +kernel⟩
 rcases hn with rfl | rfl | rfl | rfl | rfl
 . refine⟨rfl,⟨cG (by decide) ⟨rfl,⟨cG (by decide) ⟨rfl,⟨zJ ?_⟩⟩⟩⟩⟩⟩;refine⟨U,rfl,O,J,l3,pa,λH' a0=>a0.elim λt' a1=>a1.elim λaT a2=>a2.elim λaV a3=>a3.elim λaM a4=>a4.elim λbE a5=>a5.elim λY a6=>a6.elim λG a7=>a7.elim λol a8=>a8.elim λll k=>?_⟩;exact⟨rfl,⟨cG (by decide) ⟨rfl,⟨cG (by decide) ⟨rfl,⟨cG (by decide) ⟨rfl,⟨cG (by decide) ⟨rfl,⟨cG (by decide) ⟨rfl,⟨cG (by decide) (q t' aT aV aM bE Y H' G (by omega) ll k λz=>by cases z)⟩⟩⟩⟩⟩⟩⟩⟩⟩⟩⟩⟩
 . refine⟨rfl,⟨cG (by decide) ⟨rfl,⟨cG (by decide) ⟨rfl,⟨cG (by decide) ⟨rfl,⟨cG (by decide) ⟨rfl,⟨cG (by decide) ⟨rfl,⟨zJ ?_⟩⟩⟩⟩⟩⟩⟩⟩⟩⟩⟩⟩;refine⟨U,rfl,U,O.wl.same bj,J,by omega,λl H' kT tb=>?_⟩;exact⟨rfl,⟨cG (by decide) ⟨rfl,⟨cG (by decide) ⟨rfl,⟨cG (by decide) (q t ch cs ow fs bk H' (J.keepT kT tb) (by omega) (by omega) (.ofT kT) λz=>by cases z)⟩⟩⟩⟩⟩⟩
 . refine⟨rfl,⟨cG (by decide) ⟨rfl,⟨cG (by decide) ⟨rfl,⟨cG (by decide) ⟨rfl,⟨cG (by decide) ⟨rfl,⟨cG (by decide) ⟨rfl,⟨cG (by decide) ⟨rfl,⟨zJ ?_⟩⟩⟩⟩⟩⟩⟩⟩⟩⟩⟩⟩⟩⟩;refine⟨U,rfl,O,J,by omega,λl H' G k=>?_⟩;exact⟨rfl,⟨cG (by decide) ⟨rfl,⟨cG (by decide) (q t ch cs ow fs bk H' G (by omega) (by omega) k λz=>by cases z)⟩⟩⟩⟩
 . refine⟨rfl,⟨cG (by decide) ⟨rfl,⟨cG (by decide) ⟨rfl,⟨cG (by decide) ⟨rfl,⟨cG (by decide) ⟨rfl,⟨cG (by decide) ⟨rfl,⟨cG (by decide) ⟨rfl,⟨cG (by decide) ⟨rfl,⟨zJ ?_⟩⟩⟩⟩⟩⟩⟩⟩⟩⟩⟩⟩⟩⟩⟩⟩;refine⟨U,rfl,Ap,λl H1 nl s1 el=>?_⟩;refine⟨O.same (fj s1),J.same s1,l3,pa,(show H1 l=some (.lst ((["x"]:Ls).map V.str)) from el),lx,by decide,o7,λH' a9=>a9.elim λt' ab=>ab.elim λaT ap=>ap.elim λaV ax=>ax.elim λaM az=>az.elim λbE a'=>a'.elim λY aO=>aO.elim λG aR=>aR.elim λol b0=>b0.elim λll k=>?_⟩;exact⟨rfl,⟨cG (by decide) (q t' aT aV aM bE Y H' G ol ll ((bO.of s1).trans k) λz=>by cases z)⟩⟩
 refine⟨rfl,⟨cG (by decide) ⟨rfl,⟨cG (by decide) ⟨rfl,⟨cG (by decide) ⟨rfl,⟨cG (by decide) ⟨rfl,⟨cG (by decide) ⟨rfl,⟨cG (by decide) ⟨rfl,⟨cG (by decide) ⟨rfl,⟨cG (by decide) ⟨rfl,⟨zJ ?_⟩⟩⟩⟩⟩⟩⟩⟩⟩⟩⟩⟩⟩⟩⟩⟩⟩⟩;exact⟨U,rfl,O,J,l3,λbE Y H' G ll k=>q _ [] [] [] bE Y H' G (dz _) ll k λ_=>rfl⟩
inductive U6 (Hc D:Addr):Sp where
 | mk {H:Hp}{Q:VK}{E:XK}{h j x dx d b:Addr}{z v:V}{xs:Lv}{ps:Lp}{t:Str}{ch:Ch}{cs:Cs}{ow:Ow}{bk:Bk}{n:Int} (_:H h=some (.ins Hc j (mK z x))) (_:QD D x dx d b v xs ps t ch cs ow bk H) (_:iE bk=false) (_:0<=n) (_:n<9) (_:∀H',ac H H'->Q (.bl true) H'):U6 Hc D [.ref h,.int n] H Q E
theorem De:aK [atl,atp,"_law_error","e"] [atl,atp] (av OX):=aQ
theorem apy(j:Pg K mg base Pt):au P w K mg base aL 11 j.LRe.f j.LRe.fd [atl,atp] (U6 j.Hc j.D):=by
 refine j.LRe.u.okL De ?_;intro ar Ar outer s H vs Q E hr h xX dX;obtain @⟨_,_,_,h,U,x,dx,d,b,sv,v,xs,ps,t,ch,cs,ow,bk,n,hh,Y,hu,n0,n9,q⟩:=h;refine⟨_,(ah (aF (i:=2) De.nd rfl (Or.inl rfl) jq)
  (Fn (ad7 (i:=3) De.nd rfl rfl rfl rfl j.R.mM rfl (λXE pn E hp=>ai (bC (Nb (up (ape j)) hr rfl j.LSa.m j.LSa.u.kp j.LSa.b .nil hp (aC (pv 0) (pv 1)))))
   (λa=>ai (aF (i:=2) De.nd rfl (Or.inl rfl) (pv 3))))
  (ah (bu (ij (cJ Nd (by rfl) j.B.isinstance xp (aC (pv 2) (dE (gK (jV (v:=.ref j.Fa) rfl j.R.mF rfl) (gK (jV (v:=.ref j.E1) rfl j.R.mE1 rfl) (gK (jV (v:=.ref j.E2) rfl j.R.mE2 rfl) (qV (jV (v:=.ref j.E3) rfl j.R.mE3 rfl) (jV (v:=.ref j.E4) rfl j.R.mE4 rfl) (jV (v:=.ref j.E5) rfl j.R.mE5 rfl) (jV (v:=.ref j.E6) rfl j.R.mE6 rfl)))))))))
  (ai (aN iJ)) bI)
  (ah (bu (ij (cJ Nd (by rfl) j.B.isinstance xp (aC (pv 2) (dE (dP (jV (v:=.ref j.E7) rfl j.R.mE7 rfl) (jV (v:=.ref j.E8) rfl j.R.mE8 rfl) (jV (v:=.ref j.E9) rfl j.R.mE9 rfl))))))
  (ai (aN iJ)) bI)
  (ai (aN (xy (cJ aed (by rfl) j.B.isinstance xp (aC (pv 2) (jV (v:=.ref j.NU) rfl j.R.mU rfl))) (vD (cJ aee (by rfl) j.B.isinstance xp (aC (pv 2) (As (v:=.ty "ValueError") rfl j.B.verr PyProof.Rows.Boot.«ValueError» rfl))))))))))),?_⟩
 refine⟨λσ' H'=>∃y,σ'=[some (.ref h),some (.int n),some (.ref y),none]/\ac H H'/\H' y=some (nv y (.ref j.NU)),?_,?_⟩
 . refine⟨⟨U,sv,x,hh,⟨dx,d,b,v,xs,ps,t,ch,cs,ow,bk,Y,hu⟩,λH1 J=>⟨j.R.eu,λy z=>?_⟩⟩,n0,n9⟩;exact⟨y,rfl,fh J (J.free z),aD⟩
 rintro σ' H1 ⟨y,rfl,J,z⟩;refine⟨(by show 7<=sizeLine;decide),λt1 H2 n2 O e2=>?_⟩;refine⟨y,j.NU,t1,[j.Fa,j.E1,j.E2,j.E3,j.E4,j.E5,j.E6],false,rfl,O _ _ z,e2,j.R.xu,j.R.k7,⟨di ?_⟩⟩;refine⟨Ax,λt3 H3 n3 s3 e3=>?_⟩;have G:=O.trans s3;refine⟨y,j.NU,t3,[j.E7,j.E8,j.E9],false,rfl,G _ _ z,e3,j.R.xu,j.R.k3,⟨di ?_⟩⟩;refine⟨y,j.NU,j.NU,true,rfl,G _ _ z,j.R.xu,j.R.kU,⟨gc ?_⟩⟩;exact⟨y,j.NU,"ValueError",true,rfl,G _ _ z,j.R.xu,j.R.kV,q _ (J.trans G)⟩
inductive U8 (D:Addr):Sp where
 | mk {H:Hp}{Q:VK}{E:XK}{x dx d b:Addr}{v j:V} (_:H x=some (.ins D dx (cX d b v))) (_:Q .non (af H x (.ins D dx (cX d b j)))):U8 D [.ref x,j] H Q E
theorem apz:aK [asX,"many"] [asX,"many"] (av O8):=aQ
theorem U9(j:Pg K mg base Pt):au P w K mg base aL 1 j.DAl.f j.DAl.fd [asX,"many"] (U8 j.D):=by
 refine j.DAl.u.okL apz ?_;intro J G outer s H vs Q E U h xX O;obtain @⟨_,_,_,x,dx,d,b,v,Y,z,q⟩:=h;refine⟨_,(ai (gZ (pv 0) (pv 1) rfl)),?_⟩;refine⟨z,j.UD.cl,j.UD.nL,by show 3<1000;decide,?_⟩;rw[R3];exact q
inductive Va (C S T D Pt:Addr):Sp where
 | mk {H:Hp}{Q:VK}{E:XK}{z j:V}{x dx d b:Addr}{xs:Lv}{ps:Lp}{ns:Ls}{ch:Ch}{cs:Cs}{ow:Ow}{c:Int} (_:jm C S (msk [x,d,b,Pt] H) z xs ps ns) (_:gR T (msk [x,d,b,Pt] H) j ch cs ow) (_:fC xs ps ch cs ow) (_:Dk D x dx d b none [] [] H) (_:aE H Pt dg df)
  (_:∀t aT aV aM fs bk H',DU D x dx d b Pt xs ps t aT aV aM fs bk H'->bk.length<=10->bO x d b Pt H H'->Q (.bl false) H')
  (_:∀t aT aV aM fs st H',cF ch aT->cF cs aV->cF ow aM->fL xs ps t aT aV aM->Dk D x dx d b none fs ((dv,t)::dw st) H'->fs.length<=39->st.length<=8->bO x d b Pt H H'->aE H' Pt dg df->Q (.bl true) H'):Va C S T D Pt [z,.ref x,j,.int c] H Q E
theorem Jx:aK [atG,atK,atL,as4,"_law_fell"] [atG,atK,atL,as4] (av OY):=aQ
theorem apA(j:Pg K mg base Pt):au P w K mg base aL 9 j.LFa.f j.LFa.fd [atG,atK,atL,as4] (Va j.C j.S j.T j.D Pt):=by
 refine j.LFa.u.okL Jx ?_;intro ar Ar outer s H vs Q E hr h xX dX;obtain @⟨_,_,_,sv,gv,x,dx,d,b,xs,ps,ns,ch,cs,ow,c,hW,hG,so,hD,a0,q1,q2⟩:=h;refine⟨_,(ah (bC (gA (pv 1) j.UD.cl j.DAl.mt (up (U9 j)) hr j.DAl.b .nil bT (am (aJ fO ak (aJ cS (pv 3) ak)))))
  (ah (aF (i:=4) Jx.nd rfl (Or.inl rfl) iJ)
  (Fn (aeg rfl rfl j.R.mF rfl (λXE pn E hp=>ai (bC (Nb (up (Jf j)) hr rfl j.DoD.m j.DoD.u.kp j.DoD.b .nil hp (dP (pv 0) (pv 1) (pv 2))))) (λa=>ai (aF (i:=4) Jx.nd rfl (Or.inl rfl) iJ)))
  (ah (bC (gA (pv 1) j.UD.cl j.DAl.mt (up (U9 j)) hr j.DAl.b .nil bT (am jq)))
  (ai (aN (pv 4))))))),?_⟩
 refine⟨hD.ob,rfl,(by show(0:Int)<4;decide),hD.ob,?_⟩;have m0:0<=1+c % 4/\1+c % 4<=4:=⟨by omega,by omega⟩;have d1:=wp (n:=1+c % 4) (by omega);have D1:=hD.allow (lf':=some (1+c % 4)) λm z=>by cases z;exact⟨m0.1,by show((0:Nat):Int)+_<=39;omega⟩
 have Jv:aE (af H x (.ins j.D dx (cX d b (lv (some (1+c % 4)))))) Pt dg df:=K74.aE.allow hD a0;have k1:bO x d b Pt H (af H x (.ins j.D dx (cX d b (lv (some (1+c % 4)))))):=.allow;refine⟨λσ' H'=>∃wv lf fs bk,σ'=[some sv,some (.ref x),some gv,some (.int c),some (.bl wv)]/\Dk j.D x dx d b lf fs bk H'/\bO x d b Pt H H'/\aE H' Pt dg df/\∀H2,Dk j.D x dx d b none fs bk H2->bO x d b Pt H H2->aE H2 Pt dg df->Q (.bl wv) H2,?_,?_⟩
 . refine⟨hW.same k1.msk,hG.same k1.msk,so,D1,by decide,by decide,Dd,Jv,λt H2 G hl J k tb=>?_,λt lf' bE st H2 G hn J zH fu l8 k tb=>?_,λt bE st H2 G hn J l8 k tb=>?_,λz=>by rw[d1]at z;cases z⟩
   . obtain⟨aT,aV,aM,r1,r2,r3,U⟩:=G;cases hl;exact⟨false,_,_,_,rfl,J,k1.trans k,tb,λH3 O k3 Y=>q1 _ aT aV aM _ _ H3 ⟨O,rfl,U,Dd,rfl,ao6,by decide,Y⟩ (by decide) k3⟩
   . obtain⟨aT,aV,aM,r1,r2,r3,U⟩:=id G;refine⟨false,_,_,_,rfl,J,k1.trans k,tb,λH3 O k3 Y=>q1 t aT aV aM _ _ H3 ⟨O,by rw[zG];exact Um _ _ _,U,by rw[zG];exact mH.snoc Dd G.ok,Jl _,fu,zH,Y⟩ ?_ k3⟩;rw[bH,bH,cr,jp];unfold dw;rw[al,jQ];omega
   obtain⟨aT,aV,aM,r1,r2,r3,U⟩:=G;have Vb:=(J.ps 0 rfl).2;refine⟨j.R.ex,true,_,_,_,rfl,J,k1.trans k,tb,λH3 O k3 Y=>q2 t aT aV aM bE st H3 r1 r2 r3 U O (by omega) l8 k3 Y⟩
 rintro σ' H2 ⟨wv,lf,fs,bk,rfl,D2,k2,yu,z⟩;refine⟨D2.ob,rfl,D2.ob,⟨z _ (D2.allow (lf':=none) λ_ z=>nomatch z) (k2.trans .allow) (K74.aE.allow D2 yu)⟩⟩
end
section
variable {K:Fg}{H:Hp}{xs:Lv}{Q:Addr->Hp->Prop}{E:XK}
seal PE PS bW PA PT PW PG fM PI fF
theorem apB{t:Addr}:msk [t] H t=none:=by
 unfold msk;rw[aj bQ]
theorem Dg{t:Addr}(n:q≠t):msk [t] H q=H q:=by
 unfold msk;rw[ag (by simpa using n)]
theorem apC(n:∃φ,H Pt=some (.ext φ))(h:aa K H a xs):aa K (msk [Pt] H) a xs:=by
 obtain⟨φ,n⟩:=n
 rcases h with(h | ⟨o,h⟩) | h
 . exact .inl (.inl (by rw[Dg (aU h n (by intro z;cases z))];exact h))
 . exact .inl (.inr ⟨o,by rw[Dg (aU h n (by intro z;cases z))];exact h⟩)
 exact .inr h
theorem apD{ps:Lp}(Y:H a=some (.lst xs))(O:eB C H xs ps)(G:ps.length<=100)(rH:(ps.map gG).Nodup)(q:∀x H',H x=none->ac H H'->jf S H' (.ref x) xs ps->Q x H') :
 ∀x dx,H x=none->H dx=none->dx≠x->G5 K C S (.ref x::([.ref a]++[])) (af (af H dx (.own x)) x (.ins S dx [])) (λv H2=>v=.non/\Q x H2) E:=by
 intro x dx j J nx;have z:ac H (af (af H dx (.own x)) x (.ins S dx [])):=fh (fR J) j;refine⟨aD,z _ _ Y,O.same z,G,rH,λH' keep U=>⟨rfl,q x H' j (λb o e=>keep b o (z _ _ e) (aI e j)) U⟩⟩
theorem apE(q:∀x dx d b H',H x=none->H d=none->H b=none->ac H H'->Dk C x dx d b none [] [] H'->Q x H') :
 ∀x dx,H x=none->H dx=none->dx≠x->Il C [.ref x] (af (af H dx (.own x)) x (.ins C dx [])) (λv H2=>v=.non/\Q x H2) E:=by
 intro x dx j J nx;have G:ac H (af (af H dx (.own x)) x (.ins C dx [])):=fh (fR J) j;exact⟨aD,λd b H' nd U h1 h2 O k=>⟨rfl,q x dx d b H' j (G.free nd) (G.free U) (λp o e=>k p o (G _ _ e) (aI e j)) ⟨h1,⟨[],h2,.nil⟩,⟨[],O,.nil⟩,kB,(λf z=>nomatch z),λ_=>rfl,(λe z=>nomatch z),λ_ z=>nomatch z⟩⟩⟩
theorem jf.off{v:V}{ps:Lp}(n:∃φ,H Pt=some (.ext φ))(h:jf S H v xs ps):jf S (msk [Pt] H) v xs ps:=by
 obtain⟨φ,n⟩:=n;obtain⟨a,dx,fl,d,kvs,e,h1,h2,G,j,J⟩:=h;exact⟨a,dx,fl,d,kvs,e,by rw[Dg (aU h1 n (by intro z;cases z))];exact h1,h2,G,by rw[Dg (aU j n (by intro z;cases z))];exact j,J⟩
theorem Dh{J:V}(q:∀h j H',H h=none->ac H H'->H' h=some (.ins Hc j (mK J x))->Q h H') :
 ∀h j,H h=none->H j=none->j≠h->Jm Hc (.ref h::([J,.ref x]++[])) (af (af H j (.own h)) h (.ins Hc j [])) (λv H2=>v=.non/\Q h H2) E:=by
 intro h j G hd nx;have O:ac H (af (af H j (.own h)) h (.ins Hc j [])):=fh (fR hd) G;exact⟨aD,λH' e k=>⟨rfl,q h j H' G (λp o z=>k p o (O _ _ z) (aI z G)) e⟩⟩
theorem apF(bk:Bk)(t:Str)(st:Ls):cY (bk++(dv,t)::dw st)=cY bk++[t]:=by
 have e:bk++(dv,t)::dw st=(bk++[(dv,t)])++dw st:=by rw[jR];rfl
 rw[e,Ul,CV,aj rfl]
theorem apG(bk:Bk)(t:Str)(st:Ls):iE (bk++(dv,t)::dw st)=false:=by
 unfold iE;have J:∃e:Str×Str,(bk++(dv,t)::dw st).getLast?=some e/\e.1≠iD.1:=by
  have ne:(bk++(dv,t)::dw st)≠[]:=by simp
  refine⟨_,arA ne,?_⟩;rw[List.getLast_append_of_ne_nil _ (xf _ _)];have G:=List.getLast_mem (xf (dv,t) (dw st))
  rcases be.mp G with z | z
  . rw[z];exact show dv≠iD.1 by decide +kernel
  obtain⟨y,_,j⟩:=cC.mp z;rw[<-j];exact show zz≠iD.1 by decide +kernel
 obtain⟨e,h1,h2⟩:=J;rw[h1];exact cq λz=>h2 (by rw[z])
theorem apH{g9:List (ao×V)}{tr:Tr}(hw:Paired (cw H) g9 tr){kvs:List (ao×V)}{fs:Tr}(ok:d5 fs)(hs:∀f∈fs,f∈tr)(h:Paired (cw H) kvs fs):∃j,Paired (FA K H) kvs j/\∀p∈j,p∈g9:=by
 induction h with
 | nil=>exact⟨[],.nil,λ_ h=>nomatch h⟩
 | @cons kv f kvs fs r t ih=>
  obtain⟨j,h1,h2⟩:=ih (λg z=>ok g (bU _ z)) (λg z=>hs g (bU _ z));obtain⟨i,hi⟩:=List.mem_iff_getElem?.mp (hs f bQ);obtain⟨kw,Y,J,l2,U,c2⟩:=yx hw hi;obtain⟨G,l1,O,c1⟩:=r;refine⟨kw::j,.cons ⟨G.trans J.symm,dS f.2,?_,?_,R9 (ok f bQ)⟩ h1,λp hp=>?_⟩
  . rw[O];exact kN (aa.of c1)
  . rw[U];exact kN (aa.of c2)
  rcases be.mp hp with e | hp
  . rw[e];exact dH Y
  exact h2 p hp
theorem apK{tb:Lv}{bk:Bk}(h:Paired (jN H) tb bk):∃j:List Addr,tb=j.map V.ref:=by
 induction h with
 | nil=>exact⟨[],rfl⟩
 | cons r t z=>
  obtain⟨a,e,_⟩:=r;obtain⟨j,rfl⟩:=z;exact⟨a::j,by rw[e];rfl⟩
inductive zL (K:Fg) (Pt:Addr):Sp where
 | mk {H:Hp}{Q:VK}{E:XK}{a:Addr}{ns:List Int} (_:aa K H a (ns.map V.int)) (_:ns.length<=63) (_:aE H Pt dg df) (_:∀H',aE H' Pt dg df->Q (.bl true) H'):zL K Pt [.ref a] H Q E
theorem lG:aK [as7,as9,atk,atG,atK,atL,"_law_fell",atl,"_law_other","_law_kept",atp] [as7] (av Gz):=aQ
theorem apL(G:Pg K mg base Pt):au P w K mg base aL 13 G.Law.f G.Law.fd [as7] (zL K Pt):=by
 refine G.Law.u.ok lG (λvs H Q E h=>?_) (λar Ar outer s H vs Q E J h=>?_)
 . cases h;rfl
 have hu:=J.units;have br:(Ar.deeper (PyProof.Rows.envOfC "law" (av Gz) s.heap.objs.size G.Law.f ar)).units+66<cLine:=by have:=J.un;omega
 refine ya ?_;intros;obtain @⟨_,_,_,a,is,hS,dd,ck,q⟩:=h;refine⟨_,(ah (qT (i:=1) [atN] [as7] [0] lG.nd rfl rfl dN rfl (mZ rfl G.B.range (am (aJ fO ak (aJ cS (aA (yJ G) J rfl (aC (pv 0) ak)) ak)))) (λ_ _ _ _=>(bf (i:=0) (show List.Nodup ([atN,as7]:Ls) by decide +kernel) rfl (Or.inl rfl))) (λ_ _ _ _=>ge) (λ_ _ _ _=>(aA (ahh G) J rfl (aC (aA (yJ G) J rfl (aC (pv 1) ak)) (pv 0)))))
  (ah (aF (i:=2) lG.nd rfl (Or.inl rfl) (aA (ajA G) J rfl (dP (pv 0) (pv 1) ak)))
  (ah (aF (i:=3) lG.nd rfl (Or.inl rfl) (qK G.MSIn (up (ai5 G)) J rfl G.US.mgC G.SIn.b .nil bT (am (pv 2))))
  (ah (aF (i:=4) lG.nd rfl (Or.inl rfl) (Y6 G.MDIn (up (aj6 G)) J rfl G.UD.mgC G.DIn.b .nil bT))
  (ah (aF (i:=5) lG.nd rfl (Or.inl rfl) (aA (anx G) J rfl (dP (pv 2) (pv 1) (aA (yJ G) J rfl (aC (pv 0) ak)))))
  (ah (aF (i:=6) lG.nd rfl (Or.inl rfl) (aA (apA G) J rfl (qV (pv 3) (pv 4) (pv 5) (aA (yJ G) J rfl (aC (pv 0) ak)))))
  (ah (aF (i:=7) lG.nd rfl (Or.inl rfl) (qK G.MHIn (up (Uq G)) J rfl G.UH.mgC G.HIn.b .nil bT (aC (pv 3) (pv 4))))
  (ah (aF (i:=8) lG.nd rfl (Or.inl rfl) (qK G.MHIn (up (Uq G)) J rfl G.UH.mgC G.HIn.b .nil bT (aC (pv 3) (pv 4))))
  (ah (bu (PW.pt (tE (bq cT (cj (pv 7) G.UH.cl G.HUp.mt (up (ve G)) J G.HUp.b .nil bT) (pv 6) (bh _)) (vC (bq AC (cj (pv 8) G.UH.cl G.HUp.mt (up (ve G)) J G.HUp.b .nil bT) (cj (pv 7) G.UH.cl G.HUp.mt (up (ve G)) J G.HUp.b .nil bT) (bh _)))))
  (ai (aN iJ)) bI)
  (ah (bu (ij (cj (pv 7) G.UH.cl G.HUp.mt (up (ve G)) J G.HUp.b .nil bT))
  (ai (aN (qJ aoY (cj (pv 7) G.UH.cl G.HCo.mt (up (Jr G)) J G.HCo.b .nil bT) iJ (bh _)))) bI)
  (ah (aF (i:=9) lG.nd rfl (Or.inl rfl) (dE (aC (cj (pv 4) G.UD.cl G.FNo.mt (up (Ct G)) J G.FNo.b .nil bT) (cj (pv 4) G.UD.cl G.BNo.mt (up (Cu G)) J G.BNo.b .nil bT))))
  (ah (eS eR rfl (mZ rfl G.B.range (am ak)) (bf (i:=10) lG.nd rfl (Or.inl rfl))
  (ai (bu (tF (ij (aA (apy G) J rfl (aC (bP fQ (cU (aC (pv 7) (pv 8))) (aJ cS (pv 10) ak) (λ_ _=>rfl)) (pv 10)))))
   (ai (aN iJ)) bI)))
  (ah (bu (PW.pt (tE (bq (ao0 br) (dE (aC (cj (pv 4) G.UD.cl G.FNo.mt (up (Ct G)) J G.FNo.b .nil bT) (cj (pv 4) G.UD.cl G.BNo.mt (up (Cu G)) J G.BNo.b .nil bT))) (pv 9) (bh _)) (vC (bq AC (aA (uK G) J rfl (am (cj (pv 7) G.UH.cl G.HSt.mt (up (C5 G)) J G.HSt.b .nil bT))) (aA (uK G) J rfl (am (pv 5))) (bh _)))))
  (ai (aN iJ)) bI)
  (ah (bu (bq (AV hu) (fT [atz] [] [] dN rfl (cH (cj (pv 8) G.UH.cl G.HFo.mt (up (UE G)) J G.HFo.b .nil bT)) (λ_ _ _ _=>(bf (i:=0) (show List.Nodup ([atz]:Ls) by decide +kernel) rfl (Or.inl rfl))) (λ_ _ _ _=>ge) (λ_ _ _ _=>(aA (uK G) J rfl (am (pv 0))))) (cU (aC bB (aA (uK G) J rfl (am (pv 5))))) (bh _))
  (ai (aN iJ)) bI)
  (ah (bu (PW.pt (tE (bq Jw (cj (pv 8) G.UH.cl G.HCo.mt (up (Jr G)) J G.HCo.b .nil bT) iJ (bh _)) (tE (bq Jw (cj (pv 7) G.UH.cl G.HCo.mt (up (Jr G)) J G.HCo.b .nil bT) iJ (bh _)) (vC (bq Jw (cj (pv 7) G.UH.cl G.HUp.mt (up (ve G)) J G.HUp.b .nil bT) iJ (bh _))))))
  (ai (aN iJ)) bI)
  (ah (eS eR rfl (cH (cU (gK ak (qV ak ak ak ak)))) (bf (i:=10) lG.nd rfl (Or.inl rfl))
  (ai (bC (aA (apf G) J rfl (aC (pv 7) (pv 10))))))
  (ai (aN (qJ cT (aA (uK G) J rfl (am (cj (pv 7) G.UH.cl G.HSt.mt (up (C5 G)) J G.HSt.b .nil bT))) bB (bh _)))))))))))))))))))),?_⟩
 refine adS ?_;intro dD sS MW MX MY MZ M0 u9 u8 u7 u6 u5 u4 u3 u2;refine⟨by omega,hS,λc0=>?_⟩;refine⟨(by show(0:Int)<4;decide),by omega,by omega,?_⟩;refine xP (σ0:=[none,some (.ref a)]) (λZ=>∃v,Z=[v,some (.ref a)]) (λi ys _=>∃xs:Ls,ys=xs.map V.str/\xs.length=i/\∀x∈xs,cM x) ⟨_,rfl⟩ (λ_ _=>⟨[],rfl,rfl,λx hx=>nomatch hx⟩) ?_ ?_
 . intro D0 i ys Z H2 k hD hi fJ hd hs gP hk;refine bA ?_;intro tT;obtain⟨v,rfl⟩:=fJ;obtain⟨xs,rfl,hx,bx⟩:=gP;refine⟨by omega,hs.seq hS,λc1=>⟨⟨λx H3 lx s3=>?_⟩⟩⟩;refine hk _ _ _ ⟨_,rfl⟩ s3 (bZ (by rw[al];omega)) ⟨xs++[x],uc xs x,by rw[bH,hx];rfl,λy hy=>?_⟩
   rcases b9.mp hy with z | z
   . exact bx y z
   rw[bF.mp z];exact lx
 intro nA ys H1 nD hn s1 gQ;refine bA ?_;intro tT;obtain⟨ns,rfl,nl,kL⟩:=gQ;have n1:1<=ns.length:=by omega
 have n4:ns.length<=4:=by omega
 refine⟨a,nA,is,ns,rfl,s1.seq hS,hn,n1,n4,λfa H2 xs ps _ s2 e2 bM ap=>?_⟩;have p6:=ap.len;refine⟨?_⟩;dsimp only[List.set,fg];refine apD (K:=K) (C:=G.C) (S:=G.S) e2 bM (by omega) ap.nd λsh H3 n3 s3 b7=>?_;have Vc:=bM.same s3
 try dsimp only[List.set,fg]
 refine apE (Q:=λx H1=>_) λx dx d b H4 nx nd nb s4 rZ=>?_;have lF:ac H H3:=s1.trans (s2.trans s3);have jn:aE H3 Pt dg df:=ck.same lF;have Jk:∀p∈ps,cM p.nm/\fW p.ms:=λp hp=>⟨kL _ (ap.nms p hp),ap.mks p hp⟩;have f4:=s4 _ _ (s3 _ _ e2);have RM:=s4 _ _ (s3 _ _ (s2 _ _ hn));have mI:=jn.same s4;refine⟨by omega,(lF.trans s4).seq hS,λc9=>?_⟩;refine⟨f4,Vc.same s4,by omega,Jk,RM,n1,n4,kL,λhv ch cs ow H5 s5 bn so dp o2 C4=>?_⟩;have h5:=bn [x,d,b,Pt] (rZ.busy mI);have lm:=rZ.same s5;have ia:=mI.same s5;have sR:ac (msk [Pt] H3) (msk [x,d,b,Pt] H5):=λq o e=>by
  have e3:=bj q o e;have np:q≠Pt:=λz=>by rw[z,apB]at e;cases e
  refine cL (λz=>?_) (s5 _ _ (s4 q o e3));simp only[be,fZ,f7]at z
  rcases z with z | z | z | z
  . rw[z,nx]at e3;cases e3
  . rw[z,nd]at e3;cases e3
  . rw[z,nb]at e3;cases e3
  exact np z
 have ab:∀{v:V}{p:cu},je G.C H3 v p->je G.C (msk [Pt] H3) v p:=λz=>z.off λb' hb o eo=>by
  obtain⟨φ,w⟩:=aE.at jn;rw[bF.mp hb,w]at eo;cases eo;exact⟨(by intro _ _ _ z;cases z),(by intro _ z;cases z),(by intro _ z;cases z)⟩
 have W5:jm G.C G.S (msk [x,d,b,Pt] H5) (.ref sh) xs ps ns:=⟨(jf.off (aE.at jn) b7).same sR,eB.same sR (aB Vc λ_ _=>ab),ap,n4,kL⟩;have aR:aa K (msk [x,d,b,Pt] H5) a (is.map V.int):=sR.seq (apC (aE.at jn) (lF.seq hS));refine⟨by omega,(lF.trans (s4.trans s5)).seq hS,λd4=>?_⟩;refine⟨W5,h5,so,lm,ia,λt0 aT aV aM da cB H6 D6 l0 k6=>?_,λt aT aV aM fs st H6 r1 r2 r3 hT D6 Vb l8 k6 lq=>?_⟩
 . refine⟨⟨?_⟩⟩;dsimp only[List.set,fg,su,xn];refine Dh (Hc:=G.Hc) λh aZ H7 nh s7 e7=>?_;refine⟨⟨?_⟩⟩;dsimp only[List.set,fg,su,xn];refine Dh (Hc:=G.Hc) λh2 Vd H8 ca s8 e8=>?_;have Y:=D6.same (s7.trans s8);have O:=s8 _ _ e7;have Q8:=Y.qd (by omega);refine⟨O,rfl,O,Q8,λH9 s9=>?_⟩;rw[Y.up];refine⟨rfl,⟨di ?_⟩⟩;refine⟨s9 _ _ e8,rfl,s9 _ _ e8,Q8.same s9,λHA sA=>?_⟩;have qh:=s9.trans sA;refine⟨qh _ _ O,rfl,qh _ _ O,Q8.same qh,λHB sB=>?_⟩;rw[Y.up];refine⟨rfl,⟨di ?_⟩⟩;have qi:=qh.trans sB;refine⟨qi _ _ O,rfl,qi _ _ O,Q8.same qi,λHC sC=>⟨?_⟩⟩;rw[Y.up];refine gc ?_;have vj:=qi.trans sC;have U:=Y.same vj;have bV:bO x d b Pt H5 HC:=k6.trans (.of (s7.trans (s8.trans vj)));refine⟨vj _ _ O,rfl,vj _ _ O,W5.same bV.msk,U.dk,by omega,U.la,U.tx,(λz=>by rw[U.up]at z;cases z),U.tb,λ_ HD sD=>?_,λz=>by rw[U.up]at z;cases z⟩;exact⟨_,_,rfl,rfl,q HD (U.tb.same sD)⟩
 have wL:iE ((dv,t)::dw st)=false:=apG [] t st;have bg:cY ((dv,t)::dw st)=[t]:=apF [] t st;have Jy:cY (((dv,t)::dw st)++[iD])=[t]:=zG [] t st;have l9:((dv,t)::dw st).length<=9:=by rw[cr];unfold dw;rw[al];omega
 generalize (dv,t)::dw st=bk at D6 wL bg Jy l9;have Jz:mH xs ps [Str.empty,t]:=Dd.snoc (bk:=[]) ⟨aT,aV,aM,hT⟩;refine⟨⟨?_⟩⟩;dsimp only[List.set,fg,su,xn];refine Dh (Hc:=G.Hc) λh aZ H7 nh s7 e7=>?_;refine⟨⟨?_⟩⟩;dsimp only[List.set,fg,su,xn];refine Dh (Hc:=G.Hc) λh2 Vd H8 ca s8 e8=>?_;have Di:=s7.trans s8;have k8:bO x d b Pt H5 H8:=k6.trans (.of Di);have Y:=D6.same Di;have c_:=Y.busy (lq.same Di);have Q8:QD G.D x dx d b .non xs ps t aT aV aM bk H8:=⟨Y.ob,Y.bo,by rw[bg];rfl,hT,by rw[bg];exact Jz,Y.bt,by omega⟩;have O:=s8 _ _ e7;have W8:=W5.same k8.msk;have JA:HW G.Hc G.C G.S h aZ x (.ref sh) xs ps ns (msk [x,d,b,Pt] H8):=⟨cL (((D6.busy lq)).free nh) O,W8⟩;refine⟨O,rfl,O,Q8,λH9 s9=>?_⟩;rw[wL];refine⟨rfl,⟨di ?_⟩⟩;refine⟨s9 _ _ e8,rfl,s9 _ _ e8,Q8.same s9,λHA sA=>?_⟩;have qh:=s9.trans sA;refine⟨qh _ _ O,rfl,qh _ _ O,Q8.same qh,λHB sB=>?_⟩;rw[wL];refine⟨rfl,⟨di ?_⟩⟩;have qi:=qh.trans sB;refine⟨qi _ _ O,rfl,qi _ _ O,Q8.same qi,λHC sC=>⟨?_⟩⟩;rw[wL];refine di ?_;have vj:=qi.trans sC;have U:=Y.same vj;obtain⟨kd,hd,pd⟩:=id U.fi;refine⟨U.ob,rfl,U.ob,hd,pd,U.nd,by omega,λf1 HD b_ dj sD eD zd=>?_⟩;have DD:=U.same sD;obtain⟨tb,hb,pb⟩:=id DD.bo;obtain⟨ts,rfl⟩:=apK pb;refine⟨DD.ob,rfl,DD.ob,hb,λg1 HE dm sE eE=>?_⟩;refine⟨Aw,λp9 HF n9 sF eF=>?_⟩;have Ve:=sE.trans sF;have Vf:=vj.trans (sD.trans Ve);refine⟨by omega,by omega,?_⟩;refine tL (n:=9) (λi Z H'=>∃u,Z=[some (.ref a),some (.ref nA),some (.ref fa),some (.ref sh),some (.ref x),some hv,some (.bl true),some (.ref h),some (.ref h2),some (.ref p9),u]/\ac HF H') ⟨none,rfl,ac.refl _⟩ ?_ ?_
 . intro i Z H' hi hQ;refine bA ?_;intro tT;obtain⟨u,rfl,sH⟩:=hQ;have cc:=Vf.trans sH;refine⟨Aw,λpl HG nl sG eG=>?_⟩;have zM:=cc.trans sG;have ix:∃hz Vg,cE [V.ref h,V.ref h2] ((0+(i:Int)) % 2)=some (V.ref hz)/\H8 hz=some (.ins G.Hc Vg (mK (.ref sh) x)):=by
    rcases Int.emod_two_eq (0+(i:Int)) with e | e
    . exact⟨h,aZ,by rw[e];rfl,O⟩
    exact⟨h2,Vd,by rw[e];rfl,e8⟩
   obtain⟨hz,Vg,ea,ez⟩:=ix;refine⟨(by show(0:Int)<2;decide),aa.of eG,ea,?_⟩;refine⟨zM _ _ ez,Q8.same zM,wL,by omega,by omega,λHJ sJ=>⟨di ⟨_,rfl,sH.trans (sG.trans sJ)⟩⟩⟩
 rintro Z HG ⟨u,rfl,sG⟩;have zM:=Vf.trans sG;have Dj:=Ve.trans sG;have DG:=Y.same zM;obtain⟨de,bm,Ju⟩:=id DG.fi;refine⟨DG.ob,rfl,DG.ob,bm,Ju,DG.nd,by omega,λf2 HH c4 c7 sH eH Vh=>?_⟩;have DH:=DG.same sH;have bd:=sH _ _ (Dj _ _ hb);refine⟨DH.ob,rfl,DH.ob,bd,λg2 HI c8 sI eI=>?_⟩;refine⟨Aw,λpk HJ nk sJ eJ=>?_⟩;have JB:=sI.trans sJ;have zN:=sH.trans JB;have b1:=zN _ _ (Dj _ _ eD);have b2:=zN _ _ ((sF.trans sG) _ _ eE);obtain⟨kb,x1,x2⟩:=apH (K:=K) (aB zd λ_ _ a1=>a1.elim λz1 a2=>a2.elim λl a3=>a3.elim λz2 a4=>a4.elim λ_ z3=>(⟨z1,l,z2,zN _ _ (Dj _ _ z3)⟩:cw HJ _ _)) U.ok (λ_ h=>h) (aB Vh λ_ _ a5=>a5.elim λz1 a6=>a6.elim λl a7=>a7.elim λz2 a8=>a8.elim λ_ z3=>(⟨z1,l,z2,JB _ _ z3⟩:cw HJ _ _));refine⟨pk,p9,f2,f1,g2,g1,c4,kb,b_,ts,rfl,rfl,eJ,zN _ _ (sG _ _ eF),(aI (Dj _ _ eD) c7).symm,(aI (sH _ _ ((sF.trans sG) _ _ eE)) c8).symm,JB _ _ eH,b1,x1,x2,by rw[bK Vh,bK zd],?_,sJ _ _ eI,b2,⟨di ?_⟩⟩
 . exact akf (aB zd λ_ _ a9=>a9.elim λz1 ax=>ax.elim λl az=>az.elim λz2 a'=>a'.elim λ_ z3=>(⟨z1,l,z2,z3⟩:cw HD _ _)) U.nd
 have Dl:=zM.trans zN;have a0:∀{Hx:Hp},ac H8 Hx->gR G.T Hx hv ch cs ow:=λs=>((h5.same k8.msk).same bj).same s;refine⟨Dl _ _ O,rfl,Dl _ _ O,Q8.same Dl,trivial,λv1 HK sK Dm=>?_⟩;have Dm:=Dm [] λb z=>nomatch z
 rw[wb]at Dm;refine hT.sho Dm λHL sL=>?_;have Vi:=Dl.trans (sK.trans sL);refine⟨so.sho (a0 Vi) λt' c1 c2 c3 HM y1 y2 y3 JC sM=>?_⟩;have et:t'=t:=by rw[JC.tx,hT.tx,cF.eq so.ok.d1 y1 r1,cF.eq so.ok.d2 y2 r2,cF.eq so.ok.d3 y3 r3]
 subst et;refine⟨rfl,⟨bv (λz=>absurd z (by simp)) (λ_=>?_)⟩⟩;have Dn:=Vi.trans sM;refine⟨Dn _ _ e8,rfl,Dn _ _ e8,Q8.same Dn,λl zs HN nN sN eN zO=>⟨⟨_,aa.of eN⟩,?_⟩⟩;have zO:=zO [] λb z=>nomatch z
 rw[bg]at zO;have ce:=Dn.trans sN;intro D' fk;refine Cb (σ0:=[none]) fk (aa.of eN) (λZ=>∃u,Z=[u]) (λj ws Hx=>ws=(([Str.empty,t']:Ls).take j).map V.str) ⟨_,rfl⟩ rfl ?_ ?_
 . rintro j y ws Z HO k hy ⟨u',rfl⟩ fK b6 rfl hk;obtain⟨tx,ht,d0,d7,d9,dR,b8⟩:=eZ zO hy;have aO:=(cN.mp ht).1;refine⟨b8.sho ((dR.same bj).same b6) λHP sP=>?_⟩;refine hk _ _ _ ⟨_,rfl⟩ sP (bZ ?_) ?_
   . rw[al,eP];have:([Str.empty,t']:Ls).length=2:=rfl;omega
   rw[ou ht,dJ];rfl
 rintro ws HO fK sO rfl;have zl:=bK zO;rw[zl,fo]at fK;have Vj:=ce.trans sO;refine⟨so.sho (a0 Vj) λt2 c1 c2 c3 HP co cv Vk wx sP=>?_⟩;have b3:t2=t':=by rw[wx.tx,JC.tx,cF.eq so.ok.d1 co y1,cF.eq so.ok.d2 cv y2,cF.eq so.ok.d3 Vk y3]
 subst b3;refine⟨Aw,λpq HQ nQ sQ eQ=>?_⟩;have tok:∀y∈([Str.empty,t2]:Ls),gE y:=λy hy=>by
  obtain⟨_,_,_,z⟩:=Jz y hy;exact z.txt
 have Vl:W.kqdOk 9 (dS [Str.empty,t2])=true:=by
  simp only[dS,W.kqdOk,gW,cC];rintro d ⟨y,hy,rfl⟩;exact tok y hy
 refine⟨dS [Str.empty,t2],dS [Str.empty,t2],kN (aa.of (sQ _ _ (sP _ _ fK))),kN (aa.of eQ),Vl,Vl,λbb jy=>⟨?_⟩⟩;cases jy.mpr rfl;refine di ?_;have zP:=Vj.trans (sP.trans sQ);have DQ:=Y.same zP;have b0:=(lq.same Di).same zP;have kQ:bO x d b Pt H8 HQ:=.of zP;refine⟨zP _ _ e8,rfl,zP _ _ e8,W8.same kQ.msk,DQ,by omega,by rw[bg];rfl,JC,(λ_=>C0.of Vb),b0,(λz=>by rw[wL]at z;cases z),λ_ Vm HR DR fu zH kR Vn=>?_⟩;refine⟨_,_,rfl,rfl,⟨di ?_⟩⟩;have UR:DU G.D x dx d b Pt xs ps t2 c1 c2 c3 Vm (bk++[iD]) HR:=⟨DR,by rw[Jy];rfl,wx,by rw[Jy];exact Jz,Jl _,fu,zH,Vn⟩;have JD:bO x d b Pt H8 HR:=kQ.trans kR;have lb:(bk++[iD]).length<=10:=by rw[bH,jp];omega
 have Do:=bj _ _ ((JA.same JD.msk).ob);refine⟨Do,rfl,Do,W8.same JD.msk,UR.dk,by omega,UR.la,UR.tx,(λz=>by rw[UR.up]at z;cases z),Vn,λ_ HS Dp=>?_,λz=>by rw[UR.up]at z;cases z⟩;refine⟨_,_,rfl,rfl,⟨di ?_⟩⟩;have US:=UR.same Dp;refine⟨Dp _ _ Do,rfl,Dp _ _ Do,US.qd (by omega),λHT sT=>?_⟩;rw[US.up];refine⟨_,_,rfl,rfl,⟨di ?_⟩⟩;refine⟨(by show 5<=sizeLine;decide),λlw HU nU sU eU=>⟨⟨_,aa.of eU⟩,?_⟩⟩;have UU:=US.same (sT.trans sU);have Vo:bO x d b Pt H8 HU:=JD.trans (.of (Dp.trans (sT.trans sU)));have c6:msk [x,d,b,Pt] HU lw=some (.lst [.int 2,.int 5,.int 6,.int 7,.int 8]):=cL ((US.same sT).busy.free nU) eU;have o3:c3.length<=2:=by rw[Vk.pm.length_eq];exact o2
 refine iK (xs:=[.int 2,.int 5,.int 6,.int 7,.int 8]) (λi Z H'=>∃u tz d1 d2 d3 fz bz,Z=[some (.ref a),some (.ref nA),some (.ref fa),some (.ref sh),some (.ref x),some hv,some (.bl true),some (.ref h),some (.ref h2),some (.ref p9),u]/\DU G.D x dx d b Pt xs ps tz d1 d2 d3 fz bz H'/\d3.length<=2+i/\bz.length<=10+10 * i/\(i=5->tz=Str.empty)/\bO x d b Pt HU H')
  ⟨u,t2,c1,c2,c3,Vm,bk++[iD],rfl,UU,o3,lb,(λz=>nomatch z),.of (ac.refl _)⟩ ?_ ?_ ?_
 . rintro i Z H' hi ⟨u',tz,d1,d2,d3,fz,bz,rfl,_,_,_,_,k⟩;exact aa.of (bj _ _ (k.msk _ _ c6))
 . intro i y Z H' Vp hQ;refine bA ?_;intro tT;obtain⟨u',tz,d1,d2,d3,fz,bz,rfl,UZ,ol,bl,_,k⟩:=hQ;have bp:i<5:=(cN.mp Vp).1;have hn:∃n:Int,y=.int n/\(n=2\/n=5\/n=6\/n=7\/n=8)/\(i=4->n=8):=by
    match i,bp,Vp with
    | 0,_,e=>cases e;exact⟨2,rfl,.inl rfl,λz=>nomatch z⟩
    | 1,_,e=>cases e;exact⟨5,rfl,.inr (.inl rfl),λz=>nomatch z⟩
    | 2,_,e=>cases e;exact⟨6,rfl,.inr (.inr (.inl rfl)),λz=>nomatch z⟩
    | 3,_,e=>cases e;exact⟨7,rfl,.inr (.inr (.inr (.inl rfl))),λz=>nomatch z⟩
    | 4,_,e=>cases e;exact⟨8,rfl,.inr (.inr (.inr (.inr rfl))),λ_=>rfl⟩
   obtain⟨n,rfl,hn,b5⟩:=hn;refine⟨JA.same (Vo.trans k).msk,UZ,by omega,by omega,hn,λt4 e1 e2 e3 f4 b4 H4 U4 dn cP k4 z8=>?_⟩;exact⟨_,t4,e1,e2,e3,f4,b4,rfl,U4,by omega,by omega,λz=>z8 (b5 (by omega)),k.trans k4⟩
 rintro Z HV ⟨u',tz,d1,d2,d3,fz,bz,rfl,UZ,ol,bl,cm,k⟩;cases cm rfl;have Vq:=bj _ _ ((JA.same (Vo.trans k).msk).ob);refine⟨Vq,rfl,Vq,UZ.qd ?_,trivial,λv2 cA sW qg=>?_⟩
 . have:bz.length<=10+10 * 5:=bl;omega
 have qg:=qg [] λb z=>nomatch z
 rw[wb]at qg;refine UZ.tx.sho qg λHX sX=>⟨rfl,?_⟩;exact q HX (UZ.tb.same (sW.trans sX))
end
end K74
set_option maxHeartbeats 8000000
namespace K74
variable {K:Fg}{h:Heap}{mg:Mv}{p0 p1 p2:Str}
def aqo{f c Pt:Addr}{od an:Oa}{sl:Array (Option Value)}{oc kV dc pm ct:Value}(X:K.In h)(G:h.Ns mainGlobals mg)(a:W.nsIn K mainGlobals ati=some (some (.ref f)))(l:K.lookup f=some ⟨oc,od,.func (W.fnOf ati ati (jv mx) (gD mx) (av mx) .none kV dc pm an (.ref c) ct),sl⟩)(j:W.codeIn K (.ref c) ati=true)(k:W.keepIn K (.ref f)=true)(b:Binds K (W.fnOf ati ati (jv mx) (gD mx) (av mx) .none kV dc pm an (.ref c) ct) [atn,as1,atc] [])(hd:W.codeHdIn K c Pt=true)(z:K.lookup Pt=none):Qw K mg Pt:=⟨bD X G a l j k b,c,⟨⟨_,_,_,_,_,_,_,_,rfl,l,j⟩,k⟩,hd,z⟩
def aqp{f:Addr}{od an:Oa}{sl:Array (Option Value)}{oc kV dc pm cd ct:Value}(X:K.In h)(G:h.Ns mainGlobals mg)(a:W.nsIn K mainGlobals atC=some (some (.ref f)))(j:W.nsIn K mainGlobals "come_up_books"=some (some (.ref f)))(l:K.lookup f=some ⟨oc,od,.func (W.fnOf atC atC (jv rA) (gD rA) (av rA) .none kV dc pm an cd ct),sl⟩)(z:W.codeIn K cd atC=true)(k:W.keepIn K (.ref f)=true)(b:Binds K (W.fnOf atC atC (jv rA) (gD rA) (av rA) .none kV dc pm an cd ct) [asY,as3] []):Qx K mg:=⟨bD X G a l z k b,iV X G j⟩
theorem ic{n:Nat}{us:Lw}(h:us.length=n+1):∃u r,us=u::r/\r.length=n:=by
 cases us with
 | nil=>cases h
 | cons u r=>exact⟨u,r,rfl,Nat.succ.inj h⟩
theorem bn1(h:∀j:Value,bindArgs fd ⟨[j],[]⟩=pure ([p0].zip [j])):Binds K fd [p0] []:=.all λus e=>by
 obtain⟨j,vs,rfl,z⟩:=ic e;cases DO z;exact h j
theorem bn2(h:∀j z:Value,bindArgs fd ⟨[j,z],[]⟩=pure ([p0,p1].zip [j,z])):Binds K fd [p0,p1] []:=.all λus e=>by
 obtain⟨j,vs,rfl,G⟩:=ic e;obtain⟨z,us,rfl,e1⟩:=ic G;cases DO e1;exact h j z
theorem bn3(h:∀j z G:Value,bindArgs fd ⟨[j,z,G],[]⟩=pure ([p0,p1,p2].zip [j,z,G])):Binds K fd [p0,p1,p2] []:=.all λus e=>by
 obtain⟨j,vs,rfl,J⟩:=ic e;obtain⟨z,us,rfl,e1⟩:=ic J;obtain⟨G,vs,rfl,e2⟩:=ic e1;cases DO e2;exact h j z G
theorem bn4{O:Str}(h:∀j z G J:Value,bindArgs fd ⟨[j,z,G,J],[]⟩=pure ([p0,p1,p2,O].zip [j,z,G,J])):Binds K fd [p0,p1,p2,O] []:=.all λus e=>by
 obtain⟨j,vs,rfl,U⟩:=ic e;obtain⟨z,us,rfl,e1⟩:=ic U;obtain⟨G,vs,rfl,e2⟩:=ic e1;obtain⟨J,us,rfl,e3⟩:=ic e2;cases DO e3;exact h j z G J
theorem bn8{p3 p4 p5 p6 p7:Str}(h:∀j z G J O U Y u7:Value,bindArgs fd ⟨[j,z,G,J,O,U,Y,u7],[]⟩=pure ([p0,p1,p2,p3,p4,p5,p6,p7].zip [j,z,G,J,O,U,Y,u7])):Binds K fd [p0,p1,p2,p3,p4,p5,p6,p7] []:=.all λus e=>by
 obtain⟨j,vs,rfl,e0⟩:=ic e;obtain⟨z,us,rfl,e1⟩:=ic e0;obtain⟨G,vs,rfl,e2⟩:=ic e1;obtain⟨J,us,rfl,e3⟩:=ic e2;obtain⟨O,vs,rfl,e4⟩:=ic e3;obtain⟨U,us,rfl,e5⟩:=ic e4;obtain⟨Y,vs,rfl,e6⟩:=ic e5;obtain⟨u7,us,rfl,e7⟩:=ic e6;cases DO e7;exact h j z G J O U Y u7
theorem aqv{j t1:Tok}(X:K.In h)(G:h.Ns mainGlobals mg)(z:W.nsIn K mainGlobals "MOST_LETTERS"=some (some (.int 8 j)))(J:W.nsIn K mainGlobals "MOST_PATH_WORDS"=some (some (.int 4 t1))):OS mg:=⟨⟨j,iV X G z⟩,⟨t1,iV X G J⟩⟩
theorem aqw(X:K.In h)(G:h.Ns mainGlobals mg)(nM:W.nsIn K mainGlobals "MendError"=some (some (.ref M)))(az:W.nsIn K mainGlobals "Fallen"=some (some (.ref Fa)))(a':W.nsIn K mainGlobals "NotUp"=some (some (.ref NU)))(a5:W.nsIn K mainGlobals "NoFile"=some (some (.ref E1)))(a6:W.nsIn K mainGlobals "NoFormer"=some (some (.ref E2)))(a7:W.nsIn K mainGlobals "NoName"=some (some (.ref E3)))(a8:W.nsIn K mainGlobals "NoParcel"=some (some (.ref E4)))(a9:W.nsIn K mainGlobals "NoPath"=some (some (.ref E5)))(ab:W.nsIn K mainGlobals "NoRow"=some (some (.ref E6)))(ap:W.nsIn K mainGlobals "NoShelf"=some (some (.ref E7)))(ar:W.nsIn K mainGlobals "NoStand"=some (some (.ref E8)))(ax:W.nsIn K mainGlobals "TooWide"=some (some (.ref E9)))(a0:W.excIn K Fa [.type "ValueError",.type "Exception",.type "BaseException",.type "object"] "ValueError.__new__"=true)(ga:W.findIn K (.ref Fa) "__getattribute__"=some (some (.builtin "BaseException.__getattribute__")))(gh:W.findIn K (.ref Fa) "__getattr__"=some none)(cls:W.findIn K (.ref Fa) "__class__"=some (some (.builtin "object.__class__")))(aO:W.specialIn K (.builtin "object.__class__") "__get__"=some (some (.builtin "getset_descriptor.__get__")))(aR:W.takesIn K (.builtin "object.__class__")=some true)(a4:W.mroIn K Fa (.type "object")=some true)(a3:W.mroIn K Fa (.type "BaseException")=some true)(ex:W.exmOne K (.ref Fa) (.ref Fa)=some true)(z:W.excIn K NU [.type "ValueError",.type "Exception",.type "BaseException",.type "object"] "ValueError.__new__"=true)(a1:W.findIn K (.ref NU) "__getattribute__"=some (some (.builtin "BaseException.__getattribute__")))(a2:W.findIn K (.ref NU) "__getattr__"=some none)(j:W.findIn K (.ref NU) "__class__"=some (some (.builtin "object.__class__")))(J:W.specialIn K (.builtin "object.__class__") "__get__"=some (some (.builtin "getset_descriptor.__get__")))(O:W.takesIn K (.builtin "object.__class__")=some true)(U:W.mroIn K NU (.type "object")=some true)(Y:W.mroIn K NU (.type "BaseException")=some true)(k7:W.kitAny K (.ref NU) [.ref Fa,.ref E1,.ref E2,.ref E3,.ref E4,.ref E5,.ref E6]=some false)(k3:W.kitAny K (.ref NU) [.ref E7,.ref E8,.ref E9]=some false)(kU:W.kitOne K (.ref NU) (.ref NU)=some true)(kV:W.kitOne K (.ref NU) (.type "ValueError")=some true)(eu:W.exmOne K (.ref NU) (.ref M)=some true):Qv K mg M Fa NU E1 E2 E3 E4 E5 E6 E7 E8 E9:=
 ⟨iV X G nM,iV X G az,iV X G a',iV X G a5,iV X G a6,iV X G a7,iV X G a8,iV X G a9,iV X G ab,iV X G ap,iV X G ar,iV X G ax,⟨a0,ga,gh,cls,aO,aR,a4,a3⟩,ex,⟨z,a1,a2,j,J,O,U,Y⟩,k7,k3,kU,kV,eu⟩
theorem aqP{P:Program}{w:World}(z:mg "law"=some (.ref fa))(p:Pq K mg Pt) :
 ∃(fd:Fy) (c:Addr),(∀(s:Shared) (v:Value),BindsTo s fd ⟨[v],[]⟩ [(as7,v)])/\W.codeHdIn K c Pt=true/\K.lookup Pt=none/\∀base:Heap,K.In base->base.Ns mainGlobals mg->base.BuiltinsAt mg Pt->au P w K mg base aL 13 fa fd [as7] (zL K Pt):=by
 cases z.symm.trans p.Law.m;refine⟨p.Law.fd,p.NBe.c,λs v=>?_,p.NBe.hN,p.NBe.hP,λbase _ _ j=>apL (⟨p,j⟩:Pg K mg base Pt)⟩;obtain⟨oc,od,kV,J,pm,an,G,ct,O,e,_⟩:=p.Law.u.ex;rw[e];exact .of_eq rfl
theorem aqQ{l:W.OpenLaw}{q:Program}{a0:Ls}{J:(Mv)->Heap->Prop}{j:World->Heap->Prop}{d:DefRec}{K:Params->Fg}{Pt:Addr}(hn:l.most=some 63)(xM:d.params.defaults=[])
 (Y:∀(w:World) (h:Heap),j w h->(K w.params).In h/\h.get? Pt=some (W.tabObj #[]))
 (F:∀(w:World) (mg:Mv) (G:Addr) (h:Heap),(K w.params).In h->h.Ns mainGlobals mg->mg d.name=some (.ref G) ->
  ∃(fd:Fy) (c:Addr),(∀(s:Shared) (u:Value),BindsTo s fd ⟨[u],[]⟩ [(as7,u)])/\W.codeHdIn (K w.params) c Pt=true/\(K w.params).lookup Pt=none/\∀base:Heap,(K w.params).In base->base.Ns mainGlobals mg->base.BuiltinsAt mg Pt->au l.prog w (K w.params) mg base aL 13 G fd [as7] (zL (K w.params) Pt)) :
 W.WalkO q a0 J j l.row.toRowW d [] (λf vs=>PySem.call f vs):=
 L2.agF (n:=63) (k:=13) (x:=as7) (a_:=df) (lpos:=dg) (Pt:=Pt) (CX:=λ_=>aL) (sp:=λw=>zL (K w.params) Pt) hn (by decide) xM ⟨rfl,by decide,by decide,rfl⟩ Y F (λ_ _ a ns hl U O=>⟨O,hl,.inl U,λ_ t=>⟨rfl,t⟩⟩) λ_ _ _ _ _ z=>z
end K74
end
open PySem PySem.W PyProof.Rows
structure PySem.W.Fast where (tw3885246924453477845 tw16951454020977950021 tw14330693453610594795 tw17211985675429158844 tw10178806326115832160 tw10551703586827338965 tw3470685584018613846 tw12448010909802650304 tw340110903385020431 tw3366843226287940185 tw9305698436986873092 tw17494120378869365484 tw2330977009915574762 tw6528577105502057636 tw3407576988308867715 tw8085068740038453619 tw14079796817146335658 tw13563995734909705541 tw17519226062835895539 tw6520028992397640956 tw9884390115508107689 tw15836593634795290324 tw12977539142636490760 tw8045445683938774611 tw2908732168957958325 tw1583779087850333026 tw2618724654230358797 tw13252104166747711699 tw6361012504112920283 tw14415072377615031382 tw13298157414721522944 tw4232982104627206240 tw14509585446180388418 tw18269092953737681962 tw10421828872396640462 tw6633802073912876756 tw5669139943695077522 tw7738160184921296494 tw717022775972853621 tw829426072891566577 tw7748967733951344300 tw1694609310540904133 tw8281853182625290990 tw11146362815961815075 tw15453515075510745505 tw4228607656762090608 tw2203847533154542055 tw15148563742250038291 tw18295415559972173850 tw12162819260285692096 tw1193514610523016575 tw14207199942544299693 tw4241337041288298897 tw3378454295874470642 tw16274453695597063322 tw5208102451212132719 tw5240128342707628977 tw10486981858728961522 tw6405948950285423944 tw9040624373958156033 tw14735237982442347934 tw16383290382101921596 tw3917587641896280894 tw17736793164859092047 tw9603834865988163988 tw16982467002546812772 tw17070903498160678731 tw10706792054146459394 tw3512820629298903447 tw5066191227563709283 tw8809711268617623977 tw15741356523939697709 tw15071536529310392908 tw14743085122592386415 tw1963380937530293685 tw8159668866283240885 tw6789827012069485161 tw10809080938041597338 tw7851240174600454152 tw15661727261288231460 tw14114626355010946872 tw16758724457434449797 tw10364809067168512437 tw7737108441875126216 tw9879446983928486409 tw17268426524750127444 tw5831645376388553853 tw12568145591553926530 tw5168868406710378996 tw15836484916488778256 tw5352956029804780347 tw17983203363792670010 tw695556984023617025 tw712064439717793621 tw7952074951753684452 tw16832948525259478571 tw9097669843257733535 tw6697278154701690907 tw5276538495020410464 tw11797924962654311277 tw13891964889389086982 tw13647870038049414326 tw1972445299103975633 tw13788155068164987977 tw12262050680683845514 tw6467511557515457529 tw5985803342893498769 tw13994962438888136007 tw10513897360335897099 tw7361746288568855972 tw390225929642894115 tw6324649108575087264 tw16574746679083288715 tw8537034594071388520 tw5269293827204019074 tw5200015182050487288 tw4480764442890777277 tw3406990681643530291 tw12996030298518468419 tw2183487366375628310 tw7936602978648154596 tw12406951423339915809 tw15826154790734590356 tw8468562807534322097 tw11636578667250534934 tw5602123991482474877 tw4103901036513875256 tw11216832134234316944 tw9856289693001541563 tw1965775940105569270 tw17981724013439705328 tw14571091124278376275 tw8579956403846550828 tw1887525560503184050 tw7381611143579861410 tw2459754324918699283 tw230963006194409792 tw8463847612934813751 tw3112889892796000240 tw9731088311560427187 tw12871383525317662834 tw16536319356086216246 tw5745281656919215613 tw8560278252575530606 tw16084680978292796862 tw3628967326978550794 tw3010730616288243084 tw5326021788974598548 tw10979200553792460516 tw16911792805534810074 tw2692801112321712489 tw9629507086178932531 tw16359489831449623445 tw357275876262044625 tw7675695119454356852 tw9404285582468757385 tw6218713950284148483 tw2851820324417146156 tw8892700312017899650 tw6258805341756294226 tw17916302731354623159 tw9637681281106963925 tw149953172988330592 tw16464752091144441472 tw10757755725391568996 tw4486222260534135758 tw5966531455993512662 tw14407363157430681806 tw14019712844233564221 tw10405227225049676453 tw7725819242665335395 tw11010187337837361036 tw6053045153574414371 tw10348257909109879028 tw6870260974794865623 tw8629457197647396336 tw15493691077354543473 tw7551595629890736092 tw2984934560666129399 tw12896871612065018423 tw12692084452298253249 tw11663227761919371290 tw4319587554544034409 tw5436672419780726879 tw13440182138809087360 tw5438473127237443866 tw206148326339458539 tw18077130010521253527 tw6856750868526691496 tw1756915702642010089 tw17940487890110417757 tw4317386531953539653 tw13170151811850826595 tw3282356156196751773 tw2830977963685761887 tw14344521278189638816 tw13603644075882858362 tw5450736831743454298 tw17554879771908366111 tw13706984314031506431 tw14554824594615218776 tw7758421911688054770 tw12261834168650383161 tw5502211143044878922 tw155700464660355557 tw4660036216588074025 tw4966767808205815300 tw10074562129701763898 tw9248139551352389420 tw5049859448838993632 tw861014327826673613 tw6217369787619962883 tw6196568243787515967 tw12567596671937293992 tw3509264897323969343 tw15927994153832440133 tw2197053935081137634 tw13140107662145595971 tw3730436231942655725 tw15963814941854504018 tw6414402305144659937 tw7547027645839994493 tw13015987427943732526 tw14644286682867657060 tw8696482529920564491 tw13276346806904451797 tw10823701133635887118 tw4897068745447261323 tw18156485041535694101 tw7078313788626386773 tw7635958473699752 tw13878230213281238365 tw5922123786230772959 tw10023501676243575933 tw8689061798937373442 tw13116330231265492252 tw7311005682689210269 tw3890568582003416879 tw1640059277694760114 tw2938737570698632388 tw6368183169918171988 tw3135168398950577056 tw15724814189156860821 tw4206648664807500834 tw11630698182670641871 tw5311149748632138862 tw7694068957617035143 tw14965550530070331052 tw17389838268230988266 tw8089243984769416789 tw3862980630301372092 tw11362072094571715194 tw4791039115414230883 tw11895549461539732368 tw5138821281359420769 tw6419769397013235812 tw1130928834461989878 tw16521321141739690837 tw13835466544912709662 tw11465127531156401576 tw5642666064593437684 tw12229860042658431488 tw13080390545011570994 tw779381968892331788 tw15835725568048204886 tw3653716112344921898 tw8587705722064858497 tw16402411560476016779 tw7190005260396348724 tw9008984797825433814 tw4810989970563156704 tw2117207857694111436 tw3073349173713447438 tw14488863149294664098 tw3203321502405948391 tw13845895087329273148 tw600505016952611254 tw2506655460115284419 tw8577944903104518271 tw9630780113077194617 tw7689926036166187635 tw9951434659275418952 tw7313345203920454771 tw9123002770039015222 tw404076229129399415 tw15682467210948691763 tw12089099797223482480 tw5409573828900568423 tw3963517209057509587 tw15526412070827382687 tw9748075509641147987 tw1538574299404685167 tw10241879792495074091 tw7948434835037808183 tw13655043895405962434 tw1179768480969977318 tw3820909155610896816 tw2104685520885954513 tw12506066138519764628 tw8012896756040949248 tw203844416112421645 tw2680674877954719776 tw6785455407529456423 tw9991764449741479555 tw7749543873183230131 tw11433573908715150239 tw5517070101957290474 tw4105096691896661722 tw16906000492655681728 tw11661825927359631815 tw15634180943356706799 tw17590353992240988795 tw2030118809441634076 tw16811674506531553264 tw1290848381442249521 tw2185999671651933390 tw9373509073342370658 tw1459275072253477876 tw11113906575261401900 tw17314861114643361722 tw13828998239668212005 tw10522037076783417572 tw10024336259907774049 tw2848097590559649143 tw14880713903764724871 tw12390379919863117996 tw5704948331539062783 tw9439415678678502052 tw384715944470024064 tw5968611200100312100 tw11666674130895637189 tw12964738681113553539 tw8544625233371031584 tw13349711624190791919 tw17514124734213998519 tw6607240918114679162 tw10950999594287770932 tw9234799551621872831 tw12817095834485798254 tw4677678909973229945 tw2080122812035119435 tw11719572622088957429 tw1448499451160838053 tw7124070622482276926 tw16091498102773963399 tw15120853945223029070 tw13497647475482452663 tw11191302967412915878 tw11180680695800896788 tw6760704022111366485 tw8365010805852940640 tw17949125130165887517 tw14482034815772528516 tw16047628296786888199 tw5112173836996779098 tw4013022765810466312 tw16134679822641387449 tw14757845777572052518 tw13062079496814439934 tw12954611183972494588 tw12507493355942433362 tw13934732060591915766 tw12244544822937156456 tw459564774733535013 tw5212387482550182313 tw9750756325384772040 tw4927788011018658100 tw7361250374809586432 tw11784411791112017472 tw11893601594513557596 tw9961759235773646834 tw7459486160046904567 tw3242034893055093206 tw2851413911706892894 tw18017513438714281267 tw15688865965911119212 tw1034851557017290960 tw6449813168335611806 tw18387557382660116624 tw15331091272006804594 tw13333959863954947625 tw10838116652870672205 tw342880183494584006 tw6553756587205077069 tw6382186310129641507 tw3881336282758154028 tw17232626027702147765 tw16585780368210308774 tw5120711730610601577 tw1650545537398838447 tw9763904272662475779 tw8545820800340058437 tw6249958265225057064 tw16381994417194564320 tw14021393510609590899 tw13383844505202010729 tw1149390733800065157 tw5086226701260295158 tw484268722479232476 tw421675642532668679 tw15832272011786850262 tw8005572566640755080 tw2165020366116552953 tw9099320467373302229 tw3165348473357479735 tw16983901722603590403 tw1436060940805920816 tw13873458581930994485 tw11276493813482848127 tw10409129959242669726 tw15575896180290223805 tw10875370597234894631 tw6336857217159266029 tw5165709220308358882 tw4817417981403304526 tw15320619659773396000 tw10986802023915025544 tw9035231866053745586 tw6935877029252455929 tw15020767389796660464 tw15349682131366057106 tw8307251662824221131 tw4542677269785277816 tw9133770863496338233 tw17794127335917453800 tw285841126033624245 tw5969446234100565475 tw14349380713966352785 tw17239052173991885801 tw7370367661330802034 tw437628934599265560 tw3200174828127774044 tw3140178467859187091 tw2561720760586414285 tw1798087753085135393 tw13617184774437252718 tw1178058454915785653 tw11143244703722399576 tw15803715341261342854 tw1399966464928568894 tw15832707836708121943 tw7718562669863114816 tw17571020935319005591 tw2794702051532437603 tw17025431206634373773 tw9397433559783845024 tw14571924098461297900 tw4430093137863134168 tw13403578475510663224 tw3144354980335514177 tw18277867253678207997 tw14742985282795956007 tw8462613325995995802 tw14668346174925316462 tw11981862820694517599 tw6166913315390410556 tw14480269305287165135 tw8518351841631498405 tw4224838373210422793 tw3776347020820820628 tw3589396850626596448 tw2310024745936839931 tw18044984898757314915 tw1731881906280874581 tw17267097763934068745 tw13996545879660266372 tw13606216869337891637 tw10194897350483612982 tw9874434329309852079 tw9470067252829996933 tw6324894044952977036 tw5163422136983601456 tw4128366556208053813 tw3736193982527004911 tw3479664791494306394 tw3275742058975329469 tw17857188885041552406 tw17169706538783220178 tw16749918490295217838 tw16739134800388592676 tw16626517903763136241 tw15224642998868802595 tw12677876906581937266 tw12597672018814478506 tw12554616428035416353 tw117628316719161880 tw8480011039884192970:True)
def PySem.W.Fast.tw16283685357576767702:PySem.Program:=PySem.Challenge.pw_parcelmend_k74_not_up
set_option maxRecDepth 100000 in
set_option maxHeartbeats 0 in
theorem PySem.Challenge.cw_parcelmend_k74_not_up_holds : PySem.Challenge.rw_parcelmend_k74_not_up.Holds := by
 w_on;o_law;k_head;(case hw=>w_witness2)
 k_fill
 refine K74.aqQ (l:=PySem.Challenge.rw_parcelmend_k74_not_up) rfl rfl (λw h Y=>⟨PySem.W.km_in_of Y,PySem.W.km_tabs_of Y _ (bU _ bQ)⟩) ?F
 case F=>
  intro w mg fa h KX G xN
  refine' K74.aqP xN (K74.Pq.mk ⟨?_,?_,?_,?_,?_,?_,?_,?_,?_,?_,?_,?_,?_,?_,?_⟩ (K74.aqv KX G ..) _ _ _ _ _ ⟨?_,⟨?_,?_,?_,?_⟩,?_,?_,?_,?_,?_,?_,?_,?_,?_⟩ ⟨?_,⟨?_,?_,?_,?_⟩,?_,?_,?_⟩ ⟨?_,⟨?_,?_,?_,?_⟩,?_,?_,?_,?_,?_⟩ ⟨?_,⟨?_,?_,?_,?_⟩,?_,?_,?_,?_,?_⟩ ⟨?_,⟨?_,?_,?_,?_⟩,?_,?_,?_,?_⟩ (L2.fb ..) (L2.fb ..) (L2.fb ..) (L2.fb ..) (L2.fb ..) (L2.fb ..) (L2.fb ..) (L2.fb ..) (L2.fb ..) (L2.fb ..) (L2.fb ..) (L2.fb ..) (L2.fb ..) (L2.fb ..) (L2.fb ..) (L2.fb ..) (L2.fb ..) (L2.fb ..) (L2.fb ..) (L2.fb ..) (L2.fb ..) (L2.fb ..) (L2.fb ..) (L2.fb ..) (L2.fb ..) (L2.fb ..) (L2.bD KX G ..) (L2.bD KX G ..) (L2.bD KX G ..) (L2.bD KX G ..) (L2.bD KX G ..) (L2.bD KX G ..) (L2.bD KX G ..) (L2.bD KX G ..) (L2.bD KX G ..) (L2.bD KX G ..) (L2.bD KX G ..) (L2.bD KX G ..) (L2.bD KX G ..) (L2.bD KX G ..) (L2.bD KX G ..) (L2.bD KX G ..) (L2.bD KX G ..) (L2.bD KX G ..) (L2.bD KX G ..) (L2.bD KX G ..) (L2.bD KX G ..) (L2.bD KX G ..) (L2.bD KX G ..) (L2.bD KX G ..) (L2.bD KX G ..) (L2.bD KX G ..) (L2.bD KX G ..) (L2.bD KX G ..) (L2.bD KX G ..) (L2.bD KX G ..) (K74.aqo KX G ..) (L2.bD KX G ..) (L2.bD KX G ..) (L2.bD KX G ..) (L2.bD KX G ..) (L2.bD KX G ..) (L2.bD KX G ..) (L2.bD KX G ..) (L2.bD KX G ..) (L2.bD KX G ..) (L2.bD KX G ..) (L2.bD KX G ..) (L2.bD KX G ..) (L2.bD KX G ..) (L2.bD KX G ..) (L2.bD KX G ..) (L2.bD KX G ..) (L2.bD KX G ..) (L2.bD KX G ..) (L2.bD KX G ..) (L2.bD KX G ..) (L2.bD KX G ..) (L2.bD KX G ..) (L2.bD KX G ..) (L2.bD KX G ..) (L2.bD KX G ..) (K74.aqp KX G ..) (L2.bD KX G ..) (L2.bD KX G ..) (L2.bD KX G ..) (L2.bD KX G ..) _ _ _ _ _ _ _ _ _ _ _ _ (K74.aqw KX G ..))
  all_goals try first | exact K74.bn1 (λ_=>rfl) | exact K74.bn2 (λ_ _=>rfl) | exact K74.bn3 (λ_ _ _=>rfl) | exact K74.bn4 (λ_ _ _ _=>rfl) | exact K74.bn8 (λ_ _ _ _ _ _ _ _=>rfl) | k_is | (refine iV KX G ?_;k_is) | (refine PySem.W.mg_none_of KX G ?_;k_is) | (unfold L2.fE;k_is) | k_exc | kts_exm | kit_is | kernel_rfl
