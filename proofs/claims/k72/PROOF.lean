import PyProof.Rows.All
import Wide.All
import OpenK.AllK
import Wide.FinOn
import Lean
import PyProof.EqAt
import PyProof.EqKinds
import PyProof.TupleCall
import KE.KRevSl
import KE.KDictSum
import KE.KEqDict
import PyProof.P3Eq
import KE.KTryMore
import KE.KSortTup
import PyProof.NeKinds
import KE.KLam
import PyProof.SetRoads
import KE.KIntText
import PyProof.DictValues
import PyProof.DictWalks
import KE.KItemsList
import PyProof.Toks
import PyProof.StrReplace2
import PyProof.StrLawsFirst
import KE.KMinKey
import PyProof.StrLawsTight
import PyProof.StrLawsIdx
import PyProof.Rows.StrSplitJoin
import PySem.Challenge.RW_parcelmend_k72_choices_and_ways_back
import KE.RegKIsAll
import KE.RegKTryMore
noncomputable section
set_option Elab.async false
set_option linter.all false
set_option genInjectivity false
set_option genSizeOf false
set_option genSizeOfSpec false
set_option maxRecDepth 100000
section
open PyProof PyProof.Rows PySem PySem.AutoSeq1 PySem.Builtin PySem.Builtin.Getset_descriptor PySem.Builtin.ObjectAttr PySem.Builtin.Str PySem.Calls PySem.MeetsSeq PySem.MeetsSeq2 PySem.MeetsSeq3 PySem.SeqAt PySem.Spec PySem.W
def ae:=@wpAny_bind
def ag:=@if_neg
def ak:=@List.length_map
def am:=@if_pos
def ar:=@wpAny_pure
def aG:=@Nat.le_refl
def bc:=@List.mem_cons
def bw:=@List.mem_singleton
def bE:=@decide_eq_true
def bH:=@Heap.lt_size
def bI:=@List.length_append
def bM:=@List.mem_cons_self
def bR:=@List.mem_append
def bS:=@List.map_cons
def bU:=@List.length_cons
def bY:=@List.mem_cons_of_mem
def b8:=@Nat.le_trans
def cf:=@Heap.get?_push_of_some
def cy:=@decide_eq_false
def cE:=@List.mem_map
def cS:=@Nat.ne_of_lt
def cT:=@List.getElem?_eq_some_iff
def cW:=@Bool.false_ne_true
def cX:=@List.mem_of_getElem?
def cY:=@of_decide_eq_true
def dw:=@List.map_append
def dF:=@Nat.zero_le
def dG:=@List.getElem?_map
def dN:=@Heap.get?_push_size
def eF:=@List.length_take
def eG:=@PassesOwn.never
def eM:=@wpAny_mono
def eU:=@List.mem_append_right
def eZ:=@Array.length_toList
def fb:=@List.take_length
def fc:=@PySem.boot_len
def fw:=@congrArg
def fz:=@List.not_mem_nil
def fA:=@or_false
def gi:=@List.size_toArray
def gB:=@Nat.lt_of_lt_of_le
def gC:=@Ne.symm
def gD:=@List.mem_map_of_mem
def hJ:=@Option.some.inj
def hX:=@List.all_eq_true
def hZ:=@List.getElem?_eq_getElem
def im:=@Bool.and_eq_true
def io:=@List.take_add_one
def iK:=@wpAny_setState_of
def je:=@List.length_singleton
def jf:=@PySem.F.plainAttrs_list
def jQ:=@wpAny_holding
def jR:=@beq_iff_eq
def jS:=@PySem.W.mg_of
def jT:=@PyProof.Rows.boot_list
def kF:=@Nat.ne_of_gt
def kG:=@List.length_nil
def kH:=@List.nodup_nil
def kI:=@List.append_assoc
def kJ:=@PySem.W.mg_none_of
def lK:=@Sum.inr.inj
def lL:=@List.append_nil
def lN:=@Int.toNat_natCast
def lO:=@Heap.SameBut.update
def lQ:=@List.foldl_cons
def lR:=@List.map_map
def lU:=@PySem.F.plainAttrs_str
def mG:=@if_false
def mH:=@List.mem_filter
def mI:=@List.length_drop
def nV:=@wpAny_rule
def nW:=@wpAny_isInstance
def nX:=@Nat.lt_irrefl
def nY:=@PySem.W.kia_one
def nZ:=@not_or
def qa:=@Bool.false_eq_true
def qb:=@wpAny_truthy_bool
def qe:=@codeAny_mono
def qf:=@Nat.le_succ
def qh:=@List.nodup_cons
def qi:=@List.cons_append
def qj:=@List.filter_cons
def qk:=@List.length_filter_le
def ql:=@Bool.eq_false_iff
def qm:=@Array.getElem?_eq_getElem
def qo:=@codeAny_builtin
def qp:=@wpAny_askSetting
def qr:=@List.foldl_append
def qt:=@PySem.F.slot_list_extend
def qv:=@PySem.F.type_list_extend
def sJ:=@wpAny_call_entry
def sK:=@sizeLine_eq
def sL:=@Heap.size_push
def sM:=@Bool.or_false
def sN:=@List.any_cons
def sO:=@List.find?_cons
def sP:=@Option.map_some
def sT:=@List.nodup_append
def sU:=@Array.getElem?_toList
def sV:=@Int.emod_nonneg
def sW:=@plainId_quiet
def sX:=@List.cons.inj
def vd:=@if_true
def ve:=@List.mem_range
def vf:=@Nat.le_of_lt
def vg:=@Bool.and_false
def vh:=@Nat.lt_trans
def vi:=@call_meetsIn
def vj:=@List.any_eq_true
def vk:=@Int.emod_lt_of_pos
def vm:=@Around.under_plainId
def vn:=@PySem.F.called_set
def vo:=@List.mem_flatMap
def xA:=@beq_eq_false_iff_ne
def xB:=@wpAny_forIn_list
def xC:=@wpAny_seqItems
def xD:=@List.mem_append_left
def xE:=@wpAny_passesOwn
def xF:=@Bool.eq_iff_iff
def xG:=@Nat.le_of_eq
def xH:=@Nat.lt_succ_self
def xI:=@Bool.true_and
def xJ:=@PySem.W.kqd_eqv
def xK:=@Bool.and_eq_true_iff
def xL:=@fits_of_scanBound
def xM:=@PySem.F.plain_min_loop
def xN:=@decide_eq_decide
def xO:=@PySem.F.slot_str_join
def xP:=@PySem.F.type_str_join
def xQ:=@PyProof.Rows.boot_sorted
def xR:=@PySem.F.slot_list_append
def xS:=@PySem.F.type_list_append
def xT:=@PyProof.Rows.boot_isinstance
def AG:=@wpAny_specialOf
def AH:=@Bool.not_true
def AI:=@wpAny_Call_Name_kw
def AJ:=@PySem.mem_of_lookup
def AK:=@typeIs_str
def AL:=@List.all_cons
def AM:=@List.map_nil
def AN:=@PySem.F.slot_dict_get
def AO:=@PySem.F.plainAttrs_dict
def AQ:=@wpAny_newObj_type
def AR:=@List.drop_eq_nil_iff
def AS:=@StrLaws.glued_eq_join
def AT:=@Heap.get?_update_self
def AU:=@List.length_eq_zero_iff
def AV:=@wpAny_storeSet_of
def AW:=@wpAny_tryCatch
def AX:=@decide_eq_true_eq
def AY:=@PyProof.Rows.boot_dict
def AZ:=@List.nil_append
def Et:=@List.filterMap_cons
def Eu:=@wpAny_execs_nil
def Ev:=@Bool.false_and
def Ew:=@Calls.spliced_cons
def Ex:=@wpAny_call
def Ey:=@Option.isSome_iff_exists
def Ez:=@List.getElem?_append_right
def EA:=@Calls.callWith_builtin
def EB:=@Calls.evalArgs_plain
def EC:=@Heap.get?_update_other
def ED:=@call_meets
def EE:=@Nat.zero_add
def EF:=@Nat.mod_lt
def EG:=@List.getElem_mem
def EH:=@Heap.SameBut.refl
def EI:=@wpAny_updateSeq
def EJ:=@Walks.list
def EK:=@List.cons_ne_nil
def EL:=@List.flatMap_cons
def EM:=@List.flatMap_append
def EN:=@List.filter_sublist
def Mr:=@F.slot_tuple_hash
def Ms:=@Nat.add_assoc
def Mt:=@F.slot_tuple_eq
def Mu:=@wpAny_pyIter_list
def Mw:=@PyProof.Rows.callWith_type1
def Mx:=@List.mem_filterMap
def My:=@Calls.spliced_nil
def Mz:=@PySem.W.callWith_K
def MA:=@List.of_mem_zip
def MB:=@Subscript_
def ME:=@PySem.F.entry_dict_get
def MF:=@Option.getD_some
def MG:=@List.drop_eq_getElem_cons
def MI:=@List.mem_of_mem_drop
def MJ:=@List.mem_of_mem_take
def MK:=@List.take_of_length_le
def ML:=@wpAny_dictEntries
def MM:=@entryFor_alias
def MN:=@wpAny_typeOf
def MO:=@Nat.add_zero
def MP:=@Nat.not_lt_zero
def MQ:=@List.length_range
def MR:=@List.mem_iff_getElem
def MU:=@Array.getD_eq_getD_getElem?
def MV:=@Obj.data_mapFields
def MW:=@Nat.not_lt
def MX:=@List.getD_eq_getElem?_getD
def MY:=@wpAny_letGo
def MZ:=@List.map_congr_left
def M0:=@PySem.F.slot_str_split
def M3:=@PySem.F.type_str_split
def M4:=@Nat.mul_le_mul_right
def M6:=@Nat.succ_le_succ
def M7:=@List.filter_append
def M8:=@of_decide_eq_false
def M9:=@List.all_nil
def Nb:=@Bool.and_true
def XQ:=@wpAny_tupleItemsOf
def XR:=@Array.forIn_toList
def XS:=@isSubtype_tuple_tuple
def XT:=@List.zip_cons_cons
def XU:=@Paired.length
def XV:=@List.getElem?_set_self
def XW:=@List.getElem?_set_ne
def XX:=@wpAny_execs_cons
def XY:=@PySem.W.plainGet_of
def XZ:=@PySem.W.methodCall_KW
def X2:=@wpAny_standAt
def X3:=@PySem.W.cellsFrom_some
def X4:=@List.getElem?_append_left
def X5:=@List.length_replicate
def X6:=@evalPart_none
def X7:=@slot_list_getitem
def X8:=@Bool.true_or
def X9:=@Option.isSome_map
def Ya:=@wpAny_Call_method
def Yb:=@Nat.lt_of_le_of_lt
def Yc:=@List.lookup_cons
def Yd:=@List.length_reverse
def Ye:=@List.map_take
def Yf:=@Nat.succ_mul
def Yg:=@List.find?_eq_none
def Yh:=@wpAny_newList
def Yi:=@Array.toArray_toList
def Yj:=@Nat.lt_succ_of_lt
def Yk:=@StrsAre.length
def Yl:=@wpAny_pyIter_slot
def Ym:=@typeLookup_type
def Yn:=@builtinLookup_eq_fast
def Yo:=@isSubtype_type
def Yp:=@wpAny_ite_split
def Yq:=@formatField_str
def Yr:=@codeAny_call_builtin
def Ys:=@looks_findIn
def Yt:=@Array.getElem?_eq_none
def Yu:=@wpAny_setField
def Yv:=@Bool.and_self
def Yw:=@sub_set_self
def Yx:=@PyProof.Rows.F.plain_set_update_loop
def Yy:=@F.slot_str_split
def Yz:=@F.entry_str_split
def YA:=@F.args_str_split_2
def YB:=@ne_true_of_eq_false
def YC:=@PySem.F.entry_min_loop
def YD:=@List.le_antisymm
def YE:=@PyProof.Rows.boot_str
def YF:=@List.getElem?_inj
def YG:=@Nat.le_succ_of_le
def YH:=@List.lt_irrefl
def YI:=@decide_eq_true_iff
def YJ:=@PyProof.Rows.boot_set
def YK:=@Classical.byContradiction
def YL:=@List.getLast?_append
def YM:=@List.mem_of_getLast?
def awn:=@Calls.Name_function_global
def awo:=@wpAny_isTrue_Compare1
def awp:=@List.getElem?_replicate
def awq:=@wpAny_newFunctionEnv_cells
def awr:=@subscriptTail_builtinR
def aws:=@wpAny_getItem_list_slice
def awt:=@Option.map_eq_some_iff
def awu:=@PySem.F.slot_dict_pop
def awv:=@PySem.F.args_dict_get_2
def aww:=@PySem.F.args_dict_get_3
def awx:=@PySem.F.type_dict_get
def awy:=@wpAny_comprehension_free
def awz:=@List.take_eq_take_iff
def awA:=@PySem.F.slot_dict_setdefault
def awB:=@Option.map_eq_none_iff
def awC:=@Calls.call_function_entry
def awD:=@PySem.F.slot_dict_itemiterator_iter
def awE:=@PySem.F.slot_dict_items
def awF:=@PySem.F.slot_dict_update
def awG:=@PySem.F.excBase_ValueError
def awH:=@List.getElem?_eq_none
def awI:=@List.length_eraseIdx_of_lt
def awJ:=@Obj.isFreed_of_fields
def awK:=@PySem.F.slot_set_iter
def awL:=@filterMap_getElem?_range
def awM:=@PySem.F.plain_extend_loop
def awN:=@PySem.F.plain_list_iadd
def awO:=@List.length_pos_of_mem
def awP:=@PySem.F.plain_set_new
def awQ:=@PyProof.Rows.F.entry_set_update_loop
def awR:=@Array.mem_of_getElem?
def awS:=@wpAny_FormattedValue_repr
def awT:=@List.Perm.eq_of_pairwise
def awU:=@PySem.toDigits_len_ge
def awV:=@PyProof.Rows.boot_int
def awW:=@PySem.F.slot_str_startswith
def awX:=@PySem.F.type_str_startswith
def awY:=@List.take_append_drop
def awZ:=@List.getLast?_singleton
def aw0:=@List.getLast?_eq_some_iff
def aw1:=@PyProof.Rows.boot_all
end
abbrev Fg:=PySem.W.Frag
abbrev VP:=PySem.Value->PySem.Shared->Prop
abbrev Po:=List (PySem.Addr×PySem.Obj)
abbrev Mv:=PySem.Str->Option PySem.Value
abbrev Oi:=Option (List Int)
abbrev Ll:=List (List Int)
abbrev Ls:=List PySem.Str
abbrev Lw:=List PySem.Value
abbrev Av:=Array PySem.Value
abbrev Oa:=Option PySem.Addr
abbrev Fy:=PySem.FuncData
open PySem PySem.Spec PyProof.Rows
namespace L2
variable {α β:Type}{p:Pos}{C a f dx:Addr}{P:Program}{w:World}{vs us:Lw}{s s':Shared}{h' base:Heap}{es:List Expr}{A:Around}{E:VP}{u:Value}{M:Model}{n t':Nat}{e c tg:Expr}{ad:Po}{ch fp:List Addr}{N ps:Ls}{K:Fg}{body:List Stmt}{pl:Sem Bool}{mA mg:Mv}{kw:List (Str×Value)}{fd:Fy}{kindOf:Str->Option NameKind}
theorem aP{p q r:α->β->Prop}{C:Prop}(h:∃a b,p a b/\q a b/\r a b)(k:∀a b,p a b->q a b->r a b->C):C:=h.elim λa h=>h.elim λb h=>h.elim λx h=>h.elim λy z=>k a b x y z
abbrev ao:=Sum Int Str
def oh:ao->Value->Bool
 | .inl k,v=>Value.isInt k v
 | .inr x,v=>Value.isStrOf x v
def lV(w:World):ao->Int
 | .inl k=>hashInt k
 | .inr x=>hashStr w x
theorem jg:∀{k:ao}{v:Value},oh k v=true->(∃i t,k=Sum.inl i/\v=Value.int i t)\/(∃x t,k=Sum.inr x/\v=Value.str x t)
 | .inl i,v,h=>by
  obtain⟨t,e⟩:=Value.isInt_shape (k:=i) (v:=v) h;exact .inl ⟨i,t,rfl,e⟩
 | .inr x,v,h=>by
  obtain⟨t,e⟩:=Value.isStrOf_shape (x:=x) (v:=v) h;exact .inr ⟨x,t,rfl,e⟩
theorem YN(i:Int)(t:Tok):oh (.inl i) (.int i t)=true:=by simp[oh,Value.isInt]
theorem YO(x:Str)(t:Tok):oh (.inr x) (.str x t)=true:=by simp[oh,Value.isStrOf]
theorem YQ(a b:Int):decide ((Sum.inl a:ao)=Sum.inl b)=(a == b):=by
 by_cases e:a=b
 . subst e;simp
 have h:¬(Sum.inl a:ao)=Sum.inl b:=λq=>e (Sum.inl.inj q);rw[cy h];exact(xA.mpr e).symm
theorem YR(a b:Str):decide ((Sum.inr a:ao)=Sum.inr b)=decide (a=b):=by
 by_cases e:a=b
 . subst e;simp
 have h:¬(Sum.inr a:ao)=Sum.inr b:=λq=>e (lK q);rw[cy h,cy e]
theorem YS(a:Int)(b:Str):decide ((Sum.inl a:ao)=Sum.inr b)=false:=cy (λq=>nomatch q)
theorem YT(a:Str)(b:Int):decide ((Sum.inr a:ao)=Sum.inl b)=false:=cy (λq=>nomatch q)
def cz(prog:Program)(w:World):PySem.KeyKind prog w ao where
 is:=oh
 hash:=lV w
 inj:=λv a b J G=>by
  rcases jg J with⟨i,t,rfl,rfl⟩ | ⟨x,t,rfl,rfl⟩
  . rcases jg G with⟨j,u,rfl,e⟩ | ⟨y,u,rfl,e⟩
    . injection e with e1 _;rw[e1]
    exact nomatch e
  rcases jg G with⟨j,u,rfl,e⟩ | ⟨y,u,rfl,e⟩
  . exact nomatch e
  injection e with e1 _;rw[e1]
 byValue:=λk v h=>by
  rcases jg h with⟨i,t,rfl,rfl⟩ | ⟨x,t,rfl,rfl⟩<;>rfl
 pyHash:=λz h=>by
  rcases jg z with⟨i,t,rfl,rfl⟩ | ⟨x,t,rfl,rfl⟩
  . exact wpAny_pyHash_int h
  exact wpAny_pyHash_str h
 eqBool:=λO z h=>by
  rcases jg O with⟨i,t,rfl,rfl⟩ | ⟨x,t,rfl,rfl⟩
  . rcases jg z with⟨j,u,rfl,rfl⟩ | ⟨y,u,rfl,rfl⟩
    . rw[YQ]at h;exact wpAny_eqBool_int h
    rw[YS]at h;exact SeqAt.EqAt.int_str i t y u _ _ _ _ h
  rcases jg z with⟨j,u,rfl,rfl⟩ | ⟨y,u,rfl,rfl⟩
  . rw[YT]at h;exact SeqAt.EqAt.str_int x t j u _ _ _ _ h
  rw[YR]at h;exact wpAny_eqBool_str h
 «strs»:=λk x t v h=>by
  rcases jg h with⟨i,u,rfl,e⟩ | ⟨y,u,rfl,e⟩
  . exact nomatch e
  injection e with e1 _
  subst e1;cases v<;>rfl
theorem YU(prog:Program)(w:World)(i:Int)(t:Tok):(cz prog w).is (.inl i) (.int i t)=true:=YN i t
theorem sY(prog:Program)(w:World)(x:Str)(t:Tok):(cz prog w).is (.inr x) (.str x t)=true:=YO x t
abbrev NI:=Sum ao (List ao)
def lW(P:Program)(w:World)(h:Heap):NI->Value->Prop
 | .inl k,v=>oh k v=true
 | .inr ls,v=>∃b,v=.ref b/\IsTupleKey (cz P w) h ls b
inductive jh (P:Program) (w:World) (h:Heap):List NI->Lw->Prop
 | nil:jh P w h [] []
 | cons {i:NI}{v:Value}{ks:List NI}{vs:Lw}:lW P w h i v->jh P w h ks vs->jh P w h (i::ks) (v::vs)
def ji(P:Program)(w:World)(h:Heap)(ks:List NI)(a:Addr):Prop:=∃o j n,h.get? a=some o/\o.cls=.type "tuple"/\o.data=.seq j n/\jh P w h ks j.toList
def A0(P:Program)(w:World):NI->Int
 | .inl k=>lV w k
 | .inr ls=>tupleKeyHash (cz P w) ls
def EO:NI->Nat
 | .inl _=>1
 | .inr ls=>ls.length+1
def EQ(P:Program)(w:World)(ks:List NI):Int:=reduceHash (Builtin.Tuple.tupleHashOf (ks.map (A0 P w)))
def A1(ks:List NI):Nat:=(ks.map EO).sum+1
theorem lW.inj{h:Heap}{i j:NI}{v:Value}(a:lW P w h i v)(b:lW P w h j v):i=j:=by
 cases i with
 | inl k=>
  cases j with
  | inl l=>rw[(cz P w).inj v k l a b]
  | inr l=>
   obtain⟨c,rfl,_⟩:=b
   rcases jg a with⟨_,_,_,e⟩ | ⟨_,_,_,e⟩<;>cases e
 | inr k=>
  obtain⟨c,rfl,z⟩:=a;cases j with
  | inl l=>rcases jg b with⟨_,_,_,e⟩ | ⟨_,_,_,e⟩<;>cases e
  | inr l=>
   obtain⟨d,e,hd⟩:=b;cases e;rw[z.inj hd]
theorem jh.inj{h:Heap}{x y:List NI}(a:jh P w h x vs)(b:jh P w h y vs):x=y:=by
 induction a generalizing y with
 | nil=>cases b;rfl
 | cons p _ j=>
  cases b with
  | cons q r=>rw[p.inj q,j r]
theorem ji.typeIs{ks:List NI}(x:ji P w s.heap ks a):s.TypeIs (.ref a) "tuple":=x.elim λo j=>j.elim λ_ z=>z.elim λ_ G=>G.elim λU J=>J.elim λO _=>⟨o,U,O⟩
theorem ji.inj{h:Heap}{x y:List NI}(p:ji P w h x a)(q:ji P w h y a):x=y:=by
 obtain⟨o,b_,n,e,_,d,i⟩:=p;obtain⟨o',its',G,j,_,d',z⟩:=q;rw[e]at j;cases j;rw[d]at d';injection d' with d1 _
 subst d1;exact i.inj z
theorem jh.keeps{h:Heap}{ks:List NI}(k:∀ls b,IsTupleKey (cz P w) h ls b->IsTupleKey (cz P w) h' ls b)(x:jh P w h ks vs):jh P w h' ks vs:=by
 induction x with
 | nil=>exact .nil
 | @cons i v ks vs p _ z=>
  refine .cons ?_ z;cases i with
  | inl l=>exact p
  | inr l=>
   obtain⟨b,e,j⟩:=p;exact⟨b,e,k _ _ j⟩
theorem ji.keeps{h:Heap}{ks:List NI}{d:Addr}{o:Obj}{es:Array DictEntry}{ep:Nat}(x:ji P w h ks a)(j:h.get? d=some o)(hd:o.data=.dict es ep)(hs:Heap.SameBut d h h'):ji P w h' ks a:=by
 obtain⟨J,b_,n,e,c,e2,i⟩:=x;have ne:a≠d:=by
  intro z;rw[z,j]at e;cases e;rw[hd]at e2;cases e2
 exact⟨J,b_,n,(hs.2 a ne).trans e,c,e2,i.keeps λls b G=>G.keeps j hd hs⟩
theorem lW.hash{i:NI}{v:Value}{Q:Int->Shared->Prop}(z:A.units<cLine)(x:lW P w s.heap i v)(h:Q (A0 P w i) { s with toks:=s.toks+EO i }):wpAny (model P w) A (pyHash v) Q E s:=by
 cases i with
 | inl k=>exact(cz P w).pyHash (k:=k) x h
 | inr ls=>
  obtain⟨b,rfl,j⟩:=x;exact wpAny_pyHash_tuple z j h
theorem lW.eq{i j:NI}{v:Value}{Q:Bool->Shared->Prop}(G:A.units<cLine)(x:lW P w s.heap i u)(y:lW P w s.heap j v)(h:Q (decide (i=j)) s):wpAny (model P w) A (eqBool u v) Q E s:=by
 cases i with
 | inl k=>
  cases j with
  | inl l=>
   have e:decide ((Sum.inl k:NI)=Sum.inl l)=decide (k=l):=by
    by_cases q:k=l
    . rw[q];simp
    rw[cy q,cy (λz=>q (Sum.inl.inj z))]
   rw[e]at h;exact(cz P w).eqBool (a:=k) (b:=l) x y h
  | inr l=>
   rw[cy (λz=>nomatch z)]at h;obtain⟨b,rfl,o,b_,n,e,c,d,_⟩:=y
   rcases jg x with⟨a,t,_,rfl⟩ | ⟨a,t,_,rfl⟩
   . exact SeqAt.EqAt.int_tuple a t ⟨o,e,c,n,d⟩ G _ _ _ _ h
   exact SeqAt.EqAt.str_tuple a t ⟨o,e,c,n,d⟩ G _ _ _ _ h
 | inr k=>
  obtain⟨a,rfl,J⟩:=x;cases j with
  | inl l=>
   rw[cy (λz=>nomatch z)]at h;obtain⟨o,b_,n,e,c,d,_⟩:=J
   rcases jg y with⟨b,t,_,rfl⟩ | ⟨b,t,_,rfl⟩
   . exact SeqAt.EqAt.tuple_int b t ⟨o,e,c,n,d⟩ G _ _ _ _ h
   exact SeqAt.EqAt.tuple_str b t ⟨o,e,c,n,d⟩ G _ _ _ _ h
  | inr l=>
   obtain⟨b,rfl,O⟩:=y;have e:decide ((Sum.inr k:NI)=Sum.inr l)=decide (k=l):=by
    by_cases q:k=l
    . rw[q];simp
    rw[cy q,cy (λz=>q (lK z))]
   rw[e]at h;exact wpAny_eqBool_tuple G J O h
theorem YZ{ks:List NI}{Q:Int->Shared->Prop}(hu:A.units+8<cLine)(U:ji P w s.heap ks a)(h:Q (EQ P w ks) { s with toks:=s.toks+A1 ks }):wpAny (model P w) A (pyHash (.ref a)) Q E s:=by
 have j:=U.typeIs;obtain⟨o,b_,n,ho,_,hd,hi⟩:=U;have Y0:A.units<cLine:=by omega
 unfold pyHash
 first | unfold pyHashByItsType | skip
 first | refine ae (wpAny_cRoomFor_or (.inr Y0) ?_) | skip
 refine ae (AG j Mr.lookup ?_);show wpAny _ _ (if (some (Value.builtin "tuple.__hash__") == some Value.none)=true then _ else _) Q E s;rw[ag (by rw[beq_builtin_none];exact cW)];refine ae (AG j Mr.lookup ?_);show wpAny _ _ (callSpecialIfBoundUnlessNone? (.ref a) "__hash__" _ >>= _) Q E s;refine ae (wpAny_callSpecialIfBoundUnlessNone?_slot j Mr (sJ Mr j F.entry_tuple_hash ?_ (F.args_tuple_hash_1 _)));show wpAny _ _ (Builtin.Tuple.tupleItemsOf (.ref a) >>= _) _ _ s;refine ae (XQ ho hd ?_);refine ae ?_;rw[<-XR];refine xB _
  (λrest (b:Array Int) s'=>∃done left,ks=done++left/\jh P w s.heap left rest/\b.toList=done.map (A0 P w)/\s'={ s with toks:=s.toks+(done.map EO).sum })
  _ ?_ ?_ _ _ ⟨[],ks,rfl,hi,rfl,rfl⟩
 . rintro x rest b s' ⟨done,left,rfl,O,G,rfl⟩;cases O with
   | @cons k _ Y _ h1 qw=>
    refine ae (lW.hash (i:=k) (show A.units+1<cLine by omega) h1 ?_)
    first
     | exact ar ⟨done++[k],Y,by simp,qw,by simp[G],by simp[Ms]⟩
     | exact ae (ar (ar ⟨done++[k],Y,by simp,qw,by simp[G],by simp[Ms]⟩))
 rintro b s' ⟨done,left,rfl,O,G,rfl⟩;cases O;rw[lL]at h;show wpAny _ _ (retInt (Builtin.Tuple.tupleHashOf b.toList)) _ _ _;rw[G];refine wpAny_ret_mkInt ?_;generalize hz:Builtin.Tuple.tupleHashOf (done.map (A0 P w))=z at h ⊢;show wpAny _ _ (if (decide (-(2:Int) ^ 63<=z) && decide (z<2 ^ 63))=true then _ else _) Q E _;unfold EQ reduceHash at h;rw[hz]at h
 by_cases J:(decide (-(2:Int) ^ 63<=z) && decide (z<2 ^ 63))=true
 . rw[am J];rw[am J]at h;exact ar (by simpa [Ms,A1]using h)
 rw[ag J];rw[ag J]at h;exact ae (nV (ar (by simpa [Ms,A1]using h)))
theorem Y1{x y:List NI}{b:Addr}{R:PySem.Fin->Shared->Prop}(hu:A.units<cLine)(hx:ji P w s.heap x a)(hy:ji P w s.heap y b)(h:R (.done (.ret (.bool (decide (x=y))))) s) :
 wpAny (model P w) A (Builtin.«tuple.__eq__» ⟨[.ref a,.ref b],[]⟩) R E s:=by
 have Y2:=hy.typeIs;obtain⟨oa,xs,na,ER,_,Y3,Y4⟩:=hx;obtain⟨ob,ys,nb,qx,_,ip,Y5⟩:=hy;show wpAny _ _ (isInstance (.ref b) (.type "tuple") >>= _) _ _ s;refine ae (nW Y2 XS ?_);simp only[AH,qa,mG];refine ae (XQ ER Y3 ?_);refine ae (XQ qx ip ?_);refine ae ?_;refine xB _
  (λrest r s'=>r.1=none/\s'=s/\∃J O G z,rest=List.zip G z/\jh P w s.heap J G/\jh P w s.heap O z/\decide (J=O)=decide (x=y)/\(G.length == z.length)=(xs.size == ys.size))
  _ ?_ ?_ _ _ ⟨rfl,rfl,x,y,xs.toList,ys.toList,rfl,Y4,Y5,rfl,by simp⟩
 . rintro⟨u,v⟩ rest r s' ⟨hr,rfl,J,O,G,z,hz,jk,kK,A2,hlen⟩;cases jk with
   | nil=>simp at hz
   | @cons k1 u' Nc Y6 h1 Y7=>
    cases kK with
    | nil=>simp at hz
    | @cons k2 v' Nd Y8 h2 Y9=>
     simp only[XT,List.cons.injEq,Prod.mk.injEq]at hz;obtain⟨⟨rfl,rfl⟩,rfl⟩:=hz;refine ae (lW.eq (i:=k1) (j:=k2) hu h1 h2 ?_)
     by_cases U:k1=k2
     . subst U;rw[bE rfl];simp only[AH,qa,mG];refine ar ⟨rfl,rfl,Nc,Nd,Y6,Y8,rfl,Y7,Y9,?_,by simpa using hlen⟩;rw[<-A2]
       by_cases Y:Nc=Nd
       . simp[Y]
       simp[Y]
     rw[cy U];simp only[Bool.not_false,vd];have hf:decide (x=y)=false:=by rw[<-A2];simp[U]
     rw[hf]at h;exact ae (ar (ar (ar h)))
 rintro⟨r1,r2⟩ s' ⟨hr,rfl,J,O,G,z,hz,jk,kK,A2,hlen⟩;simp only at hr;subst hr;refine ar ?_;have Za:(xs.size == ys.size)=decide (x=y):=by
  rw[<-A2,<-hlen];cases jk with
  | nil=>
   cases kK with
   | nil=>simp
   | cons _ _=>simp
  | cons _ _=>
   cases kK with
   | nil=>simp
   | cons _ _=>simp at hz
 show R (.done (.ret (.bool (xs.size == ys.size)))) s';rw[Za];exact h
theorem Zb{x y:List NI}{b:Addr}{Q:Bool->Shared->Prop}(J:A.units+8<cLine)(j:ji P w s.heap x a)(z:ji P w s.heap y b)(h:Q (decide (x=y)) s) :
 wpAny (model P w) A (eqBool (.ref a) (.ref b)) Q E s:=by
 unfold eqBool
 try with_reducible refine jQ ?_
 show wpAny _ _ (if (Value.ref a == Value.ref b)=true then _ else _) Q E s
 by_cases G:(Value.ref a == Value.ref b)=true
 . rw[am G];have e:a=b:=by have:=eq_of_beq G;injection this
   subst e;obtain rfl:=j.inj z;exact ae (nV (ar (by simpa using h)))
 rw[ag G];exact ae (wpAny_richCompare_same_room (op:=.Eq) j.typeIs z.typeIs Mt
  (sJ Mt j.typeIs F.entry_tuple_eq (Y1 (show A.units+1<cLine by omega) j z ⟨_,rfl,(λe=>nomatch e),qb h⟩) (F.args_tuple_eq_2 _ _)) (by omega))
theorem Zc{ls:List ao}{Q:Bool->Shared->Prop}(G:IsTupleKey (cz P w) s.heap ls a)(h:Q true s):wpAny M A (eqIsQuiet (n+1) (.ref a)) Q E s:=by
 have z:=G.typeIs;obtain⟨o,b_,m,U,_,hd,hi⟩:=G;unfold eqIsQuiet;refine ae (AG z Mt.lookup ?_);show wpAny _ _ (isInstance (.ref a) (.type "tuple") >>= _) _ _ s;refine ae (nW z XS ?_);simp only[AH,qa,mG];refine ae (xC U hd ?_);refine ae ?_;show wpAny _ _ (forIn b_ _ _) _ _ s;rw[<-XR];refine xB _ (λrest r s'=>r.1=none/\s'=s/\∀v∈rest,carriedByValue v=true) _ ?_ ?_ _ _ ⟨rfl,rfl,hi.byValue⟩
 . rintro v rest r s' ⟨j,rfl,J⟩;rw[eqIsQuiet_byValue _ (J v bM)];refine ae (ar ?_);simp only[AH,qa,mG];exact ar ⟨rfl,rfl,λu O=>J u (bY _ O)⟩
 rintro⟨r1,r2⟩ s' ⟨j,rfl,_⟩;simp only at j;subst j;exact ar h
theorem Ze{ks:List NI}{Q:Bool->Shared->Prop}(G:ji P w s.heap ks a)(h:Q true s):wpAny M A (eqIsQuiet 8 (.ref a)) Q E s:=by
 have z:=G.typeIs;obtain⟨o,b_,m,Y,_,hd,hi⟩:=G;unfold eqIsQuiet;refine ae (AG z Mt.lookup ?_);show wpAny _ _ (isInstance (.ref a) (.type "tuple") >>= _) _ _ s;refine ae (nW z XS ?_);simp only[AH,qa,mG];refine ae (xC Y hd ?_);refine ae ?_;show wpAny _ _ (forIn b_ _ _) _ _ s;rw[<-XR];refine xB _ (λrest r s'=>r.1=none/\s'=s/\∃ls,jh P w s.heap ls rest) _ ?_ ?_ _ _ ⟨rfl,rfl,ks,hi⟩
 . rintro v rest r s' ⟨j,rfl,ls,J⟩;cases J with
   | @cons i _ xU _ h1 h2=>
    have O:∀{R:Bool->Shared->Prop},R true s'->wpAny M A (eqIsQuiet 7 v) R E s':=λ{R} q=>by
     cases i with
     | inl k=>
      rw[eqIsQuiet_byValue _ ((cz P w).byValue k v h1)];exact ar q
     | inr l=>
      obtain⟨b,rfl,U⟩:=h1;exact Zc U q
    refine ae (O ?_);simp only[AH,qa,mG];exact ar ⟨rfl,rfl,xU,h2⟩
 rintro⟨r1,r2⟩ s' ⟨j,rfl,_⟩;simp only at j;subst j;exact ar h
def qz(P:Program)(w:World):HeapKind P w (List NI) where
 is:=ji P w
 hash:=EQ P w
 draws:=A1
 room:=λA=>A.units+8<cLine
 inj:=λa b=>a.inj b
 keeps:=λx G hd hs=>x.keeps G hd hs
 pyHash:=λz j h=>YZ z j h
 eqBool:=λz J O h=>Zb z J O h
 quiet:=λj h=>Ze j h
theorem vp(j:A.units+64<cLine):(qz P w).room A.in1:=show A.units+1+8<cLine by omega
set_option genInjectivity true in
inductive V where
 | non | bl (b:Bool) | int (i:Int) | str (x:Str) | byt (b:Array UInt8) | flt (b:UInt64) | ref (a:Addr) | ty (n:String)
 deriving DecidableEq
abbrev Lv:=List V
def RelV:V->Value->Prop
 | .non,u=>u=Value.none
 | .bl b,u=>u=Value.bool b
 | .int i,u=>∃t,u=Value.int i t
 | .str x,u=>∃t,u=Value.str x t
 | .byt b,u=>∃t,u=Value.bytes b t
 | .flt b,u=>∃t,u=Value.float b t
 | .ref a,u=>u=Value.ref a
 | .ty n,u=>u=Value.type n
abbrev aY:Lv->Lw->Prop:=Paired RelV
theorem aY.length{xs:Lv}(r:aY xs us):xs.length=us.length:=XU r
theorem aY.get:∀{xs:Lv}{us:Lw}{i:Nat}{x:V},aY xs us->xs[i]?=some x->∃u,us[i]?=some u/\RelV x u
 | _,_,_,_,.nil,e=>by simp at e
 | _,_,0,_,.cons r _,e=>by simp at e;subst e;exact⟨_,rfl,r⟩
 | _,_,i+1,x,.cons _ t,e=>by
  obtain⟨u,h1,h2⟩:=aY.get (i:=i) (x:=x) t (by simpa using e);exact⟨u,by simpa using h1,h2⟩
theorem aY.append:∀{xs ys:Lv}{us j:Lw},aY xs us->aY ys j->aY (xs++ys) (us++j)
 | _,_,_,_,.nil,s=>s
 | _,_,_,_,.cons r t,s=>.cons r (aY.append t s)
theorem aY.take:∀{xs:Lv}{us:Lw} (n:Nat),aY xs us->aY (xs.take n) (us.take n)
 | _,_,0,_=>.nil
 | _,_,_+1,.nil=>.nil
 | _,_,n+1,.cons r t=>.cons r (aY.take n t)
theorem aY.drop:∀{xs:Lv}{us:Lw} (n:Nat),aY xs us->aY (xs.drop n) (us.drop n)
 | _,_,0,r=>r
 | _,_,_+1,.nil=>.nil
 | _,_,n+1,.cons _ t=>aY.drop n t
def gO:Option V->Option Value->Prop
 | some v,some u=>RelV v u
 | none,none=>True
 | _,_=>False
def KV{κ:Type}:List (κ×V)->List (κ×Value)->Prop:=Paired fun(p:κ×V) (q:κ×Value)=>p.1=q.1/\RelV p.2 q.2
def kV:ao->V
 | .inl i=>.int i
 | .inr x=>.str x
inductive HO where
 | lst (xs:Lv)
 | tup (xs:Lv)
 | dK (kvs:List (ao×V)) | dT (kvs:List (List NI×V))
 | set (S:Int->Bool) (n:Nat)
 | ins (C dx:Addr) (fs:List (Str×V))
 | own (x:Addr)
 | xd (fs:List (Str×V))
 | met (f x:Addr)
 | rng (lo hi:Int)
 | frz (o:Obj) (u:HO)
 | tbl (ps:Av)
 | ext (φ:Heap->Prop)
abbrev Hp:=Addr->Option HO
def ah(H:Hp)(a:Addr)(o:HO):Hp:=λb=>if b=a then some o else H b
theorem aE{H:Hp}{o:HO}:ah H a o a=some o:=by unfold ah;rw[am rfl]
theorem aW{H:Hp}{b:Addr}{o:HO}(h:b≠a):ah H a o b=H b:=by unfold ah;rw[ag h]
theorem be{H:Hp}{b:Addr}{o u:HO}(h:H a=some o)(h':H b=some u)(d:o≠u):a≠b:=by
 intro e;subst e;rw[h]at h';exact d (hJ h')
theorem aK{H:Hp}{b:Addr}{o:HO}(h:H a=some o)(h':H b=none):a≠b:=by
 intro e;subst e;rw[h]at h';cases h'
def NV(H:Hp):NI->V->Prop
 | .inl k,v=>v=kV k
 | .inr ls,v=>∃b,v=.ref b/\H b=some (.tup (ls.map kV))
abbrev Nf (H:Hp):List NI->Lv->Prop:=Paired (NV H)
def kL(H:Hp)(ks:List NI)(a:Addr):Prop:=∃vs,H a=some (.tup vs)/\Nf H ks vs
theorem aF{F G:α->β->Prop}:∀{j:List α}{z:List β},Paired F j z->(∀a b,F a b->G a b)->Paired G j z
 | _,_,.nil,_=>.nil
 | _,_,.cons r t,f=>.cons (f _ _ r) (aF t f)
theorem kL.keeps{H H':Hp}{ks:List NI}(x:kL H ks a)(j:∀b xs,H b=some (.tup xs)->H' b=some (.tup xs)):kL H' ks a:=by
 obtain⟨vs,e,r⟩:=x;refine⟨vs,j _ _ e,aF r λi v z=>?_⟩;cases i with
 | inl k=>exact z
 | inr l=>
  obtain⟨b,e1,e2⟩:=z;exact⟨b,e1,j _ _ e2⟩
section
variable (P:Program)(w:World)
def b9(H:Hp)(h:Heap)(a:Addr):HO->Prop
 | .lst xs=>xs.length<=sizeLine/\∃(b_:Lw) (n:Nat),aY xs b_/\h.get? a=some { cls:=.type "list",data:=.seq b_.toArray n }
 | .tup xs=>xs.length<=sizeLine/\∃b_:Lw,aY xs b_/\IsTup h a b_.toArray
 | .dK kvs=>kvs.length<=sizeLine/\(a == sysModules)=false/\∃vs,KV kvs vs/\h.DictOf (cz P w) a vs
 | .dT kvs=>kvs.length<=sizeLine/\(a == sysModules)=false/\∃xs:List (List NI×Addr×Value),
  Paired (fun(p:List NI×V) (q:List NI×Addr×Value)=>p.1=q.1/\kL H p.1 q.2.1/\RelV p.2 q.2.2) kvs xs /\
  ∃o es ep,h.get? a=some o/\o.ExactDict/\o.data=.dict es ep/\es.toList=xs.map (entryOfKey (qz P w))/\(xs.map (·.1)).Nodup
 | .set S n=>h.SetOf (intKind P w) a S n
 | .ins C dx fs=>H dx=some (.own a)/\fs.length<=1000/\dx≠a/\h.get? a=some (W.instObj C dx) /\
  ∃mA,h.Ns1 dx mA/\(∀f,gO (fs.lookup f) (mA f))/\PySem.Within mA (fs.map (·.1))
 | .own _=>∃o,h.get? a=some o
 | .xd fs=>∃mA,h.Ns1 a mA/\∀f,gO (fs.lookup f) (mA f)
 | .rng lo hi=>∃t u v,h.get? a=some { cls:=.type "range",data:=.fields #[.int lo t,.int hi u,.int 1 v] }
 | .frz o u=>h.get? a=some o/\b9 H h a u
 | .tbl ps=>h.get? a=some { cls:=.none,data:=.fields ps }
 | .met f x=>h.get? a=some (W.methodObj (.ref f) (.ref x))
 | .ext φ=>φ h/\(∃o,h.get? a=some o)/\∀h1 h2:Heap,φ h1->(∀o,h1.get? a=some o->h2.get? a=some o)->φ h2
def cp(H:Hp)(h:Heap):Prop:=∀a o,H a=some o->b9 P w H h a o
end
section
variable {H H':Hp}{h:Heap}{o:HO}
theorem b9.lt(x:b9 P w H h a o):a<h.objs.size:=by
 cases o with
 | lst xs=>obtain⟨_,_,_,_,e⟩:=x;exact bH e
 | tup xs=>obtain⟨_,_,_,p⟩:=x;exact p.lt
 | dK kvs=>obtain⟨_,_,_,_,o,_,_,e,_⟩:=x;exact bH e
 | dT kvs=>obtain⟨_,_,_,_,o,_,_,e,_⟩:=x;exact bH e
 | set S n=>obtain⟨o,_,_,_,e,_⟩:=x;exact bH e
 | ins C dx fs=>obtain⟨_,_,_,e,_⟩:=x;exact bH e
 | own y=>obtain⟨_,e⟩:=x;exact bH e
 | xd fs=>obtain⟨_,⟨_,_,_,e,_⟩,_⟩:=x;exact bH e
 | rng lo hi=>obtain⟨_,_,_,e⟩:=x;exact bH e
 | frz ob u=>obtain⟨e,_⟩:=x;exact bH e
 | tbl ps=>exact bH (show h.get? a=some _ from x)
 | met f y=>exact bH (show h.get? a=some _ from x)
 | ext φ=>obtain⟨_,⟨_,e⟩,_⟩:=x;exact bH e
theorem Paired.mapP{F G:α->β->Prop}:∀{j:List α}{z:List β},Paired F j z->(∀a b,F a b->G a b)->Paired G j z
 | _,_,.nil,_=>.nil
 | _,_,.cons r t,f=>.cons (f _ _ r) (Paired.mapP t f)
theorem b9.stay(x:b9 P w H h a o)(k:∀b u,(b=a\/H b=some (.own a))->h.get? b=some u->h'.get? b=some u)
 (G:∀b,H b=some (.own a)->H' b=some (.own a)) (J:∀b xs,H b=some (.tup xs)->H' b=some (.tup xs)):b9 P w H' h' a o:=by
 induction o with
 | lst xs=>obtain⟨z,b_,n,r,e⟩:=x;exact⟨z,b_,n,r,k _ _ (.inl rfl) e⟩
 | tup xs=>obtain⟨z,b_,r,ob,e,c⟩:=x;exact⟨z,b_,r,ob,k _ _ (.inl rfl) e,c⟩
 | dK kvs=>obtain⟨z,y,vs,r,ob,es,ep,e,c⟩:=x;exact⟨z,y,vs,r,ob,es,ep,k _ _ (.inl rfl) e,c⟩
 | dT kvs=>
  obtain⟨z,y,xs,r,ob,es,ep,e,c⟩:=x;exact⟨z,y,xs,Paired.mapP r λp q z=>⟨z.1,z.2.1.keeps J,z.2.2⟩,ob,es,ep,k _ _ (.inl rfl) e,c⟩
 | set S n=>obtain⟨ob,es,ep,t,e,c⟩:=x;exact⟨ob,es,ep,t,k _ _ (.inl rfl) e,c⟩
 | ins C dx fs=>
  obtain⟨d,z,ne,e,mA,⟨j,es,ep,e2,c⟩,r⟩:=x;exact⟨G _ d,z,ne,k _ _ (.inl rfl) e,mA,⟨j,es,ep,k _ _ (.inr d) e2,c⟩,r⟩
 | own y=>obtain⟨ob,e⟩:=x;exact⟨ob,k _ _ (.inl rfl) e⟩
 | xd fs=>obtain⟨mA,⟨j,es,ep,e,c⟩,r⟩:=x;exact⟨mA,⟨j,es,ep,k _ _ (.inl rfl) e,c⟩,r⟩
 | rng lo hi=>obtain⟨t,u,v,e⟩:=x;exact⟨t,u,v,k _ _ (.inl rfl) e⟩
 | frz ob u O=>obtain⟨e,q⟩:=x;exact⟨k _ _ (.inl rfl) e,O q⟩
 | tbl ps=>
  have e:h.get? a=some { cls:=.none,data:=.fields ps }:=x;show h'.get? a=some { cls:=.none,data:=.fields ps };exact k a _ (.inl rfl) e
 | met f y=>
  have e:h.get? a=some (W.methodObj (.ref f) (.ref y)):=x;show h'.get? a=some (W.methodObj (.ref f) (.ref y));exact k a _ (.inl rfl) e
 | ext φ=>obtain⟨p,⟨o,e⟩,st⟩:=x;exact⟨st _ _ p λo q=>k _ _ (.inl rfl) q,⟨o,k _ _ (.inl rfl) e⟩,st⟩
theorem cp.lt(x:cp P w H h)(e:H a=some o):a<h.objs.size:=(x a o e).lt
theorem cp.fresh(x:cp P w H h)(e:h.objs.size<=a):H a=none:=by
 cases q:H a with
 | none=>rfl
 | some u=>exact absurd (gB (x.lt q) e) (nX _)
theorem cp.kept(x:cp P w H h)(k:∀b u,h.get? b=some u->h'.get? b=some u):cp P w H h':=λa o e=>
 (x a o e).stay (λb u _ q=>k b u q) (λ_ q=>q) λ_ _ q=>q
theorem cp.laid(x:cp P w H h)(k:∀b u,h.get? b=some u->h'.get? b=some u)(G:h.objs.size<=a)(new:b9 P w (ah H a o) h' a o):cp P w (ah H a o) h':=λb u e=>by
 have z:=x.fresh G
 by_cases j:b=a
 . subst j;rw[aE]at e;cases e;exact new
 rw[aW j]at e;exact(x b u e).stay (λc v _ q=>k c v q) (λc q=>by rw[aW (aK q z)];exact q) λc xs q=>by rw[aW (aK q z)];exact q
end
def Rd(H:Hp)(a:Addr)(u:HO):Prop:=H a=some u\/∃o,H a=some (.frz o u)
theorem Rd.ok{H:Hp}{h:Heap}{u:HO}(r:Rd H a u)(x:cp P w H h):b9 P w H h a u:=by
 rcases r with r | ⟨o,r⟩
 . exact x a u r
 obtain⟨_,q⟩:=x a _ r;exact q
def xV:Option HO->Prop
 | some (.lst _)=>True
 | some (.dK _)=>True
 | some (.dT _)=>True
 | some (.set _ _)=>True
 | some (.ins _ _ _)=>True
 | some (.ext _)=>True
 | _=>False
section
variable {H:Hp}{h:Heap}{x e:Addr}{o':HO}
theorem cp.write(ok:cp P w H h)(G:xV (H x))(U:e=x\/H e=some (.own x))(k:∀b u,b≠e->h.get? b=some u->h'.get? b=some u)(vq:∃u,h'.get? e=some u)
 (new:b9 P w (ah H x o') h' x o'):cp P w (ah H x o') h':=λb u q=>by
 have O:∀c y,H c=some (.own y)->c≠x:=λc y r z=>by subst z;rw[r]at G;exact G
 have Zf:∀c xs,H c=some (.tup xs)->c≠x:=λc xs r z=>by subst z;rw[r]at G;exact G
 by_cases j:b=x
 . subst j;rw[aE]at q;cases q;exact new
 rw[aW j]at q
 by_cases J:b=e
 . have Y:H b=some (.own x):=by
    rcases U with z | z
    . exact absurd (J.trans z) j
    rw[J];exact z
   rw[q]at Y;cases Y;obtain⟨v,hv⟩:=vq;exact⟨v,by rw[J];exact hv⟩
 refine(ok b u q).stay (λc v hc r=>k c v ?_ r) (λc r=>by rw[aW (O c b r)];exact r) λc xs r=>by rw[aW (Zf c xs r)];exact r
 rcases hc with rfl | hc
 . exact J
 rintro rfl
 rcases U with z | z
 . exact O c b hc z
 rw[hc]at z;cases z;exact j rfl
end
structure Un(fs ex:List Addr)(H H':Hp)(h h':Heap):Prop where
 keep:∀b o,h.get? b=some o->H b=none->b∉fs->b∉ex->h'.get? b=some o
 slot:∀b o,h.get? b=some o->H b=none->b∈fs->b∉ex->∃sl,h'.get? b=some { o with slots:=sl }
 free:∀b o,h.get? b=some o->H b=none->b∉ex->H' b=none
 there:∀b o,h.get? b=some o->b∉ex->∃o',h'.get? b=some o'
 tups:∀b xs,H b=some (.tup xs)->H' b=some (.tup xs)
 frzs:∀b o u,H b=some (.frz o u)->H' b=some (.frz o u)
 tbls:∀b ps,H b=some (.tbl ps)->∃more,H' b=some (.tbl (ps++more))
section
variable {fs cb ex ex':List Addr}{H H1 H2:Hp}{h h1 h2:Heap}{x e:Addr}{o:HO}
theorem Un.any(u:Un fs ex H H1 h h1){b:Addr}{ob:Obj}(q:h.get? b=some ob)(n:H b=none)(z:b∉ex):∃G,h1.get? b=some { ob with slots:=G }:=by
 by_cases j:b∈fs
 . exact u.slot b ob q n j z
 exact⟨ob.slots,u.keep b ob q n j z⟩
theorem Un.trans(a:Un fs ex H H1 h h1)(b:Un fs ex H1 H2 h1 h2):Un fs ex H H2 h h2 where
 keep:=λc ob q n z j=>b.keep c ob (a.keep c ob q n z j) (a.free c ob q n j) z j
 slot:=λc ob q n z j=>by
  obtain⟨U,e1⟩:=a.slot c ob q n z j;obtain⟨O,e2⟩:=b.slot c _ e1 (a.free c ob q n j) z j;exact⟨O,e2⟩
 free:=λc ob q n j=>by
  obtain⟨o',e1⟩:=a.there c ob q j;exact b.free c o' e1 (a.free c ob q n j) j
 there:=λc ob q j=>by
  obtain⟨o',e1⟩:=a.there c ob q j;exact b.there c o' e1 j
 tups:=λc xs q=>b.tups c xs (a.tups c xs q)
 frzs:=λc ob xs q=>b.frzs c ob xs (a.frzs c ob xs q)
 tbls:=λc ps q=>by
  obtain⟨G,e1⟩:=a.tbls c ps q;obtain⟨J,e2⟩:=b.tbls c _ e1;exact⟨G++J,by rw[e2,Array.append_assoc]⟩
theorem Un.kept(k:∀b u,h.get? b=some u->h'.get? b=some u):Un fs ex H H h h':=
 ⟨λb ob q _ _ _=>k b ob q,λb ob q _ _ _=>⟨ob.slots,k b ob q⟩,λ_ _ _ n _=>n,λb ob q _=>⟨ob,k b ob q⟩,λ_ _ q=>q,λ_ _ _ q=>q,λ_ ps q=>⟨#[],by rw[q];simp⟩⟩
theorem Un.refl:Un fs ex H H h h:=Un.kept λ_ _ q=>q
theorem Un.laid(k:∀b u,h.get? b=some u->h'.get? b=some u)(z:h.objs.size<=a)(j:H a=none):Un fs ex H (ah H a o) h h' where
 keep:=λb u q _ _ _=>k b u q
 slot:=λb u q _ _ _=>⟨u.slots,k b u q⟩
 free:=λb u q n _=>by rw[aW (cS (gB (bH q) z))];exact n
 there:=λb u q _=>⟨u,k b u q⟩
 tups:=λb xs q=>by rw[aW (aK q j)];exact q
 frzs:=λb u xs q=>by rw[aW (aK q j)];exact q
 tbls:=λb ps q=>⟨#[],by rw[aW (aK q j),q];simp⟩
theorem Un.write(j:xV (H x))(Y:e=x\/H e=some (.own x))(k:∀b u,b≠e->h.get? b=some u->h'.get? b=some u)(vq:∃u,h'.get? e=some u):Un fs ex H (ah H x o) h h':=by
 have O:∀b,H b=none->b≠x:=λb n z=>by subst z;rw[n]at j;exact j
 have J:∀b,H b=none->b≠e:=λb n z=>by
  subst z
  rcases Y with r | r
  . exact O b n r
  rw[n]at r;cases r
 have G:∀b u,H b=some u->¬xV (some u)->b≠x:=λb u q nm z=>by subst z;rw[q]at j;exact nm j
 refine⟨λb u q n _ _=>k b u (J b n) q,λb u q n _ _=>⟨u.slots,k b u (J b n) q⟩,λb u q n _=>by rw[aW (O b n)];exact n,λb u q _=>?_,
  λb xs q=>by rw[aW (G b _ q λz=>z)];exact q,λb u xs q=>by rw[aW (G b _ q λz=>z)];exact q,λb ps q=>⟨#[],by rw[aW (G b _ q λz=>z),q];simp⟩⟩
 by_cases U:b=e
 . subst U;exact vq
 exact⟨u,k b u U q⟩
end
def A5(h:Heap)(H:Hp):List Addr:=(List.range h.objs.size).filter λa=>(H a).isSome
def mK(h:Heap)(H:Hp):Heap:=W.hideAll h (A5 h H)
theorem Zg(h:Heap)(H:Hp):(mK h H).objs.size=h.objs.size:=W.hideAll_size _ _
theorem Zh{h:Heap}{H:Hp}{b:Addr}{o:Obj}(e:h.get? b=some o)(n:H b=none):(mK h H).get? b=some o:=
 W.hideAll_get _ e λj=>by
  have q:(H b).isSome=true:=(mH.mp j).2;rw[n]at q;simp at q
theorem Zi{h:Heap}{H:Hp}{b:Addr}{o:Obj}(e:(mK h H).get? b=some o):h.get? b=some o/\H b=none:=by
 have j:h.get? b=some o:=W.of_hideAll (A5 h H) e;refine⟨j,?_⟩;cases q:H b with
 | none=>rfl
 | some x=>
  have G:b∈A5 h H:=mH.mpr ⟨ve.mpr (bH j),by simp[q]⟩;have z:(mK h H).get? b=none:=W.hideAll_none (A5 h H) G;rw[z]at e;cases e
structure Mod(K:Fg)(mg:Mv)(base:Heap):Prop where
 kin:K.In base
 glob:base.Ns mainGlobals mg
 blt:∃mb,base.Ns builtinsNs mb/\∀x:Str,x≠"__name__"->mb x=bootBuiltins x
 nolimit:base.NoLimit
structure Cx where
 prog:Program
 w:World
 K:Fg
 mg:Mv
 base:Heap
 A:Around
 N:Ls
 s₀:Shared
 H₀:Hp
 env:Env
 outer:List Env
 stack:List Env
 ex:List Addr
 fn:Str->Bool
 calm:Bool
 pn:Po
 xe:VP
variable {X:Cx}
def cJ(l:List Env):List Addr:=l.filterMap (·.frame)
abbrev Cx.fs (X:Cx):List Addr:=cJ X.outer
def A6(sc:Scope)(x:Str):Prop:=sc.names.lookup x=some .local\/sc.names.lookup x=some .cell\/sc.names.lookup x=some .free
def Loc(sc:Scope)(x:Str):Prop:=sc.names.lookup x=some .local\/sc.names.lookup x=some .cell
def Ab:0<=sizeLine:=by decide
def Ac:1<=sizeLine:=by decide
def An:2<=sizeLine:=by decide
def A3:3<=sizeLine:=by decide
def Look(env:Env)(h:Heap)(m:Mv)(x:Str)(u:Value):Prop:=
 (env.kindOf x=some .local/\m x=some u)\/((env.kindOf x=some .cell\/env.kindOf x=some .free)/\∃c,env.cells.lookup x=some c/\h.IsCell c (some u))
structure Cx.Ok(X:Cx):Prop where
 mod:Mod X.K X.mg X.base
 kind:X.env.scope.kind=.function
 glob:X.env.globals=mainGlobals
 blt:X.env.builtins=builtinsNs
 above:X.s₀.heap.objs.size<=X.env.locals
 inj:∀x y c,X.env.cells.lookup x=some c->X.env.cells.lookup y=some c->x=y
 has:∀x,(X.env.kindOf x=some .cell\/X.env.kindOf x=some .free)->∃c,X.env.cells.lookup x=some c
 cab:∀x c,X.fn x=true->X.env.cells.lookup x=some c->X.s₀.heap.objs.size<=c
 hd:X.calm=true->X.A.handled=none
 frames:X.A.frames=some X.stack
 stk:X.stack=X.outer\/(X.stack=X.env::X.outer/\X.env.frame=some X.env.locals)
 exf:∀b∈X.ex,b≠X.env.locals/\∀x c,X.env.cells.lookup x=some c->c≠b
 bs:∀b o,X.base.get? b=some o->X.s₀.heap.get? b=some o/\X.H₀ b=none
 bsz:X.base.objs.size<=X.s₀.heap.objs.size
 noex:∀b o,X.base.get? b=some o->b∉X.ex
 exfs:∀b∈X.ex,b∉X.fs
 funs:X.s₀.heap.FunFrames X.base X.outer
 frf:∀b∈X.fs,X.H₀ b=none
structure Inv(X:Cx)(ad:Po)(Z:List (Option V))(H:Hp)(s:Shared):Prop where
 ok:X.Ok
 os:s.os=X.s₀.os
 bare:AllBare s.gens
 base:Un X.fs X.ex X.H₀ H X.s₀.heap s.heap
 loc:∃m,s.heap.Ns X.env.locals m/\∀(i:Nat) (x:Str) (v:V),X.N[i]?=some x->Z[i]?=some (some v)->A6 X.env.scope x->∃u,RelV v u/\Look X.env s.heap m x u
 cell:∀x c,X.env.cells.lookup x=some c->∃v,s.heap.IsCell c v
 free:H X.env.locals=none
 freeC:∀x c,X.env.cells.lookup x=some c->H c=none
 pin:∀p∈X.pn++ad,s.heap.get? p.1=some p.2/\H p.1=none/\p.1≠X.env.locals/\p.1∉X.fs/\∀v,p.2.data≠.cell v
 hok:cp X.prog X.w H s.heap
 len:Z.length=X.N.length
section
variable {Z:List (Option V)} {H H':Hp}
theorem Cx.Ok.nofr(ok:X.Ok){b:Addr}{o:Obj}(e:X.base.get? b=some o):b∉X.fs:=λj=>by
 have:=(ok.funs.mem j).1;rw[e]at this;cases this
theorem Inv.bs(I:Inv X ad Z H s):∀b o,X.base.get? b=some o->s.heap.get? b=some o/\H b=none:=λb o e=>
 ⟨I.base.keep b o (I.ok.bs b o e).1 (I.ok.bs b o e).2 (I.ok.nofr e) (I.ok.noex b o e),I.base.free b o (I.ok.bs b o e).1 (I.ok.bs b o e).2 (I.ok.noex b o e)⟩
theorem Inv.bk(I:Inv X ad Z H s):∀b o,X.base.get? b=some o->s.heap.get? b=some o:=λb o e=>(I.bs b o e).1
theorem Inv.mod(I:Inv X ad Z H s):Mod X.K X.mg X.base:=I.ok.mod
theorem Inv.kIn(I:Inv X ad Z H s):X.K.In s.heap:=I.ok.mod.kin.keeps I.bk
theorem Inv.lt(I:Inv X ad Z H s):X.env.locals<s.heap.objs.size:=I.loc.elim λ_ j=>j.elim λz _=>z.lt
theorem Inv.sz(I:Inv X ad Z H s):X.s₀.heap.objs.size<=s.heap.objs.size:=b8 I.ok.above (vf I.lt)
theorem Inv.nofs(I:Inv X ad Z H s)(h:s.heap.objs.size<=a):a∉X.fs:=λj=>by
 obtain⟨_,o,z,_⟩:=I.ok.funs.mem j;exact absurd (gB (bH z) (b8 I.sz h)) (nX _)
theorem Inv.cne(I:Inv X ad Z H s):∀x c,X.env.cells.lookup x=some c->c≠X.env.locals:=λx c e z=>by
 obtain⟨v,o,j,hd⟩:=I.cell x c e;obtain⟨m,⟨o',es,ep,G,J,_⟩,_⟩:=I.loc;rw[z,G]at j;cases j;rw[J]at hd;cases hd
theorem Inv.funs(I:Inv X ad Z H s):s.heap.FunFrames X.base X.outer:=by
 have all:∀(l:List Env),(∀b∈cJ l,b∈X.fs)->X.s₀.heap.FunFrames X.base l->s.heap.FunFrames X.base l:=by
  intro l
  induction l with
  | nil=>intro _ _;trivial
  | cons env r ih=>
   intro hs U;obtain⟨O,⟨L,o,J,Y,ho,hd⟩,hr⟩:=U;have j:L∈X.fs:=hs L (by unfold cJ;rw[Et,J];exact bM);obtain⟨sl,e⟩:=I.base.slot L o ho (I.ok.frf L j) j λz=>I.ok.exfs L z j;exact⟨O,⟨L,_,J,Y,e,hd⟩,ih (λb G=>hs b (by unfold cJ;rw[Et,J];exact bY _ G)) hr⟩
 exact all X.outer (λ_ G=>G) I.ok.funs
theorem Inv.stack(I:Inv X ad Z H s):s.heap.FunFrames X.base X.stack:=by
 rcases I.ok.stk with e | ⟨e,j⟩
 . rw[e];exact I.funs
 rw[e];obtain⟨m,z,_⟩:=I.loc;refine .cons (by rw[I.ok.kind];decide) j z ?_ I.funs;exact Heap.get?_none_of_le (b8 I.ok.bsz I.ok.above)
theorem Inv.stkSub(I:Inv X ad Z H s):∀b∈cJ X.stack,b∈X.env.locals::X.fs:=λb j=>by
 rcases I.ok.stk with e | ⟨e,z⟩
 . rw[e]at j;exact bY _ j
 rw[e]at j;unfold cJ at j;rw[Et,z]at j;exact j
theorem Inv.stkFree(I:Inv X ad Z H s):∀b∈cJ X.stack,H b=none:=λb hb=>by
 rcases bc.mp (I.stkSub b hb) with e | hb
 . rw[e];exact I.free
 obtain⟨_,o,j,_⟩:=I.ok.funs.mem hb;exact I.base.free b o j (I.ok.frf b hb) λz=>I.ok.exfs b z hb
theorem Inv.step{g':Array GenState}{d':Drawn}(I:Inv X ad Z H s)
 (O:∀b∈ch,(b∈X.ex\/X.s₀.heap.objs.size<=b)/\b≠X.env.locals/\(∀x c,X.env.cells.lookup x=some c->c≠b)/\∀p∈X.pn++ad,p.1≠b)
 (keep:∀b o,b≠X.env.locals->b∉X.fs->b∉ch->s.heap.get? b=some o->H b=none->h'.get? b=some o)
 (slot:∀b o,b≠X.env.locals->b∈X.fs->b∉ch->s.heap.get? b=some o->H b=none->∃Y,h'.get? b=some { o with slots:=Y }) (free:∀b o,b∉ch->s.heap.get? b=some o->H b=none->H' b=none)
 (there:∀b o,b∉ch->s.heap.get? b=some o->∃o',h'.get? b=some o')
 (tups:∀b xs,H b=some (.tup xs)->H' b=some (.tup xs)) (frzs:∀b o u,H b=some (.frz o u)->H' b=some (.frz o u)) (tbls:∀b ps,H b=some (.tbl ps)->∃a1,H' b=some (.tbl (ps++a1)))
 (ns:∀m,s.heap.Ns X.env.locals m->h'.Ns X.env.locals m) (hok:cp X.prog X.w H' h') (hg:AllBare g') :
 Inv X ad Z H' { s with heap:=h',gens:=g',drawn:=d',toks:=t' }:=by
 have Nh:∀b o,X.s₀.heap.get? b=some o->b≠X.env.locals:=λb o e=>cS (gB (bH e) I.ok.above);have U:∀b o,X.s₀.heap.get? b=some o->b∉X.ex->b∉ch:=λb o e j G=>by
  rcases(O b G).1 with z | z
  . exact j z
  exact absurd (gB (bH e) z) (nX _)
 have a0:∀x c,X.env.cells.lookup x=some c->∀v,s.heap.IsCell c v->h'.IsCell c v:=λx c e v Zk=>Zk.elim λo Zl=>Zl.elim λJ hd=>by
  have nch:c∉ch:=λz=>(O c z).2.2.1 x c e rfl
  by_cases hc:c∈X.fs
  . obtain⟨Y,q⟩:=slot c o (I.cne x c e) hc nch J (I.freeC x c e);exact⟨_,q,hd⟩
  exact⟨o,keep c o (I.cne x c e) hc nch J (I.freeC x c e),hd⟩
 refine⟨I.ok,I.os,hg,⟨λb o e n G j=>?_,λb o e n G j=>?_,λb o e n j=>?_,λb o e j=>?_,λb xs e=>tups b xs (I.base.tups b xs e),λb o xs e=>frzs b o xs (I.base.frzs b o xs e),λb ps e=>?_⟩,?_,λx c e=>?_,?_,λx c e=>?_,λp hp=>?_,hok,I.len⟩
 . exact keep b o (Nh b o e) G (U b o e j) (I.base.keep b o e n G j) (I.base.free b o e n j)
 . obtain⟨Y,e1⟩:=I.base.slot b o e n G j;obtain⟨qA,e2⟩:=slot b _ (Nh b o e) G (U b o e j) e1 (I.base.free b o e n j);exact⟨qA,e2⟩
 . obtain⟨o',e1⟩:=I.base.there b o e j;exact free b o' (U b o e j) e1 (I.base.free b o e n j)
 . obtain⟨o',e1⟩:=I.base.there b o e j;exact there b o' (U b o e j) e1
 . obtain⟨m1,e1⟩:=I.base.tbls b ps e;obtain⟨m2,e2⟩:=tbls b _ e1;exact⟨m1++m2,by rw[e2,Array.append_assoc]⟩
 . obtain⟨m,hn,hl⟩:=I.loc;refine⟨m,ns m hn,λi x v e1 e2 e3=>?_⟩;obtain⟨u,r,l⟩:=hl i x v e1 e2 e3;refine⟨u,r,?_⟩
   rcases l with l | ⟨k,c,e,z⟩
   . exact .inl l
   exact .inr ⟨k,c,e,a0 x c e _ z⟩
 . obtain⟨v,z⟩:=I.cell x c e;exact⟨v,a0 x c e v z⟩
 . obtain⟨m,⟨o,_,_,J,_⟩,_⟩:=I.loc;exact free _ o (λz=>(O _ z).2.1 rfl) J I.free
 . obtain⟨v,o,J,hd⟩:=I.cell x c e;exact free c o (λz=>(O c z).2.2.1 x c e rfl) J (I.freeC x c e)
 obtain⟨e,n,ne,nf,d⟩:=I.pin p hp;have nch:p.1∉ch:=λz=>(O p.1 z).2.2.2 p hp rfl;exact⟨keep p.1 p.2 ne nf nch e n,free p.1 p.2 nch e n,ne,nf,d⟩
theorem Inv.un(I:Inv X ad Z H s)(u:Un X.fs [] H H' s.heap h')(hok:cp X.prog X.w H' h'):Inv X ad Z H' { s with heap:=h',toks:=t' }:=by
 obtain⟨m,⟨o,es,ep,G,r⟩,_⟩:=id I.loc;obtain⟨sl,O⟩:=u.any G I.free (by simp);exact I.step (g':=s.gens) (d':=s.drawn) (ch:=[]) (λ_ z=>nomatch z) (λb o _ j _ e n=>u.keep b o e n j (by simp)) (λb o _ j _ e n=>u.slot b o e n j (by simp)) (λb o _ e n=>u.free b o e n (by simp)) (λb o _ e=>u.there b o e (by simp)) u.tups u.frzs u.tbls (λm' U=>by
  obtain⟨o',es',vt,J,Y⟩:=U;rw[G]at J;cases J;exact⟨_,es',vt,O,Y⟩) hok I.bare
theorem Inv.call{g':Array GenState}{d':Drawn}(I:Inv X ad Z H s)(u:Un (cJ X.stack) ch H H' s.heap h')(hok:cp X.prog X.w H' h')(hg:AllBare g')
 (U:∀b∈ch,(b∈X.ex\/X.s₀.heap.objs.size<=b)/\b≠X.env.locals/\(∀x c,X.env.cells.lookup x=some c->c≠b)/\∀p∈X.pn++ad,p.1≠b) :
 Inv X ad Z H' { s with heap:=h',gens:=g',drawn:=d',toks:=t' }:=by
 obtain⟨m,⟨o,es,ep,J,r⟩,_⟩:=id I.loc;obtain⟨sl,G⟩:=u.any J I.free λz=>(U _ z).2.1 rfl;exact I.step (ch:=ch) U (λb o G Y j e n=>u.keep b o e n (λz=>(bc.mp (I.stkSub b z)).elim G Y) j) (λb o _ _ j e n=>u.any e n j) (λb o j e n=>u.free b o e n j) (λb o j e=>u.there b o e j) u.tups u.frzs u.tbls (λm' hm=>by
  obtain⟨o',es',vt,O,r'⟩:=hm;rw[J]at O;cases O;exact⟨_,es',vt,G,r'⟩) hok hg
theorem Inv.turned{it:Addr}(I:Inv X ad Z H s)(k:∀b o,b≠it->s.heap.get? b=some o->h'.get? b=some o)(hn:H it=none)(G:it≠X.env.locals)
 (h1:it∈X.ex\/X.s₀.heap.objs.size<=it) (h2:∀x c,X.env.cells.lookup x=some c->c≠it) (O:∀p∈X.pn++ad,p.1≠it):Inv X ad Z H { s with heap:=h',toks:=t' }:=by
 have J:∀b u,H b=some u->b≠it:=λb u e z=>by rw[z,hn]at e;cases e
 refine I.step (g':=s.gens) (d':=s.drawn) (ch:=[it]) (λb U=>?_) (λb o _ _ j e _=>k b o (λz=>j (by simp[z])) e) (λb o _ _ j e _=>⟨o.slots,k b o (λz=>j (by simp[z])) e⟩) (λ_ _ _ _ n=>n)
  (λb o j e=>⟨o,k b o (λz=>j (by simp[z])) e⟩) (λ_ _ e=>e) (λ_ _ _ e=>e) (λb ps e=>⟨#[],by rw[e];simp⟩) (λm Y=>?_) (λb u e=>?_) I.bare
 . have e:b=it:=by simpa using U
   subst e;exact⟨h1,G,h2,O⟩
 . obtain⟨o,es,ep,ho,r⟩:=Y;exact⟨o,es,ep,k _ o (gC G) ho,r⟩
 refine(I.hok b u e).stay (λc v j q=>k c v ?_ q) (λ_ q=>q) λ_ _ q=>q
 rcases j with z | z
 . rw[z];exact J b u e
 exact J c _ z
theorem Inv.tok(I:Inv X ad Z H s)(t:Nat):Inv X ad Z H { s with toks:=t }:=I.un (h':=s.heap) (t':=t) Un.refl I.hok
theorem Inv.kept(I:Inv X ad Z H s)(k:∀b u,s.heap.get? b=some u->h'.get? b=some u):Inv X ad Z H { s with heap:=h',toks:=t' }:=I.un (Un.kept k) (I.hok.kept k)
theorem Inv.laid{o:HO}(I:Inv X ad Z H s)(k:∀b u,s.heap.get? b=some u->h'.get? b=some u)(j:s.heap.objs.size<=a)(new:b9 X.prog X.w (ah H a o) h' a o) :
 Inv X ad Z (ah H a o) { s with heap:=h',toks:=t' }:=I.un (Un.laid k j (I.hok.fresh j)) (I.hok.laid k j new)
theorem Inv.write{x e:Addr}{o:HO}(I:Inv X ad Z H s)(z:xV (H x))(j:e=x\/H e=some (.own x))(k:∀b u,b≠e->s.heap.get? b=some u->h'.get? b=some u)(G:∃u,h'.get? e=some u)
 (new:b9 X.prog X.w (ah H x o) h' x o):Inv X ad Z (ah H x o) { s with heap:=h',toks:=t' }:=I.un (Un.write z j k G) (I.hok.write z j k G new)
theorem Inv.pins_of{j:Po}(I:Inv X ad Z H s)(h:∀p∈j,s.heap.get? p.1=some p.2/\H p.1=none/\p.1≠X.env.locals/\p.1∉X.fs/\∀v,p.2.data≠.cell v):Inv X j Z H s:=
 ⟨I.ok,I.os,I.bare,I.base,I.loc,I.cell,I.free,I.freeC,λp G=>(bR.mp G).elim (λz=>I.pin p (xD _ z)) (h p),I.hok,I.len⟩
theorem ET(z:N.Nodup){i j:Nat}{x:Str}(a:N[i]?=some x)(b:N[j]?=some x):i=j:=by
 obtain⟨h1,e1⟩:=cT.mp a;obtain⟨h2,e2⟩:=cT.mp b;exact(List.getElem_inj z).mp (e1.trans e2.symm)
theorem Ni{i:Nat}{x:Str}{v:V}{Q:Unit->Shared->Prop}(I:Inv X ad Z H s)(hN:X.N.Nodup)(hi:X.N[i]?=some x)(G:Loc X.env.scope x)(r:RelV v u)
 (h:∀s',Inv X ad (Z.set i (some v)) H s'->(∃a,Heap.SameBut a s.heap s'.heap/\(a=X.env.locals\/X.env.cells.lookup x=some a))->Q () s') (hf:X.fn x=true\/X.env.scope.names.lookup x=some .local:=by first | exact .inl rfl | exact .inr rfl | assumption):wpAny M A (storeName X.env x u) Q E s:=by
 obtain⟨m,Y,hl⟩:=id I.loc;have EU:(X.env.scope.kind == .class || (X.env.scope.kind == .module && X.env.locals != X.env.globals))=false:=by rw[I.ok.kind];rfl
 have A8:i<Z.length:=by rw[I.len];exact(cT.mp hi).1
 have cne:=I.cne;have a0:∀{a:Addr}{h':Heap},(∃o,s.heap.get? a=some o/\H a=none)->Heap.SameBut a s.heap h'->cp X.prog X.w H h':=λ{a h'} ha hs b ob e=>by
  obtain⟨_,_,Nj⟩:=ha;refine(I.hok b ob e).stay (λc U hc q=>(hs.2 c ?_).trans q) (λ_ q=>q) λ_ _ q=>q;rintro rfl
  rcases hc with rfl | hc
  . rw[Nj]at e;cases e
  rw[Nj]at hc;cases hc
 rcases G with hk | hk
 . refine wpAny_storeName_local hk Y (λh' gP hs=>?_) EU;obtain⟨oL,_,_,mL,_⟩:=id Y;refine h _ ⟨I.ok,I.os,I.bare,⟨λb o e n J G=>?_,λb o e n J G=>?_,I.base.free,λb o e G=>?_,I.base.tups,I.base.frzs,I.base.tbls⟩,⟨_,gP,λj y v' e1 e2 e3=>?_⟩,λy c e=>?_,I.free,I.freeC,λp hp=>?_,a0 ⟨oL,mL,I.free⟩ hs,by simpa using I.len⟩ ⟨_,hs,.inl rfl⟩
   . exact(hs.2 b (cS (gB (bH e) I.ok.above))).trans (I.base.keep b o e n J G)
   . obtain⟨sl,e1⟩:=I.base.slot b o e n J G;exact⟨sl,(hs.2 b (cS (gB (bH e) I.ok.above))).trans e1⟩
   . obtain⟨o',e1⟩:=I.base.there b o e G;exact⟨o',(hs.2 b (cS (gB (bH e) I.ok.above))).trans e1⟩
   . by_cases O:j=i
     . subst O;rw[hi]at e1;cases e1;rw[XV A8]at e2;cases e2;exact⟨u,r,.inl ⟨hk,by simp⟩⟩
     rw[XW (gC O)]at e2;obtain⟨u',r',q⟩:=hl j y v' e1 e2 e3;refine⟨u',r',?_⟩
     rcases q with⟨k,e⟩ | ⟨k,c,e,z⟩
     . refine .inl ⟨k,?_⟩;have:y≠x:=λe=>O (ET hN e1 (e▸hi));simp[this,e]
     exact .inr ⟨k,c,e,z.sameBut hs (cne y c e)⟩
   . obtain⟨U,z⟩:=I.cell y c e;exact⟨U,z.sameBut hs (cne y c e)⟩
   obtain⟨e,n,ne,nf,d⟩:=I.pin p hp;exact⟨(hs.2 p.1 ne).trans e,n,ne,nf,d⟩
 have vv:X.fn x=true:=by
  rcases hf with z | z
  . exact z
  rw[z]at hk;cases hk
 obtain⟨c,hc⟩:=I.ok.has x (.inl hk);obtain⟨U,z⟩:=I.cell x c hc;refine wpAny_storeName_cell I.ok.kind hk hc z (λh' ia hs=>?_);obtain⟨oc,oj,Zm⟩:=id z;refine h { s with heap:=h' } ⟨I.ok,I.os,I.bare,⟨λb o e n J G=>?_,λb o e n J G=>?_,I.base.free,λb o e G=>?_,I.base.tups,I.base.frzs,I.base.tbls⟩,⟨m,Y.sameBut hs (gC (cne x c hc)),λj y v' e1 e2 e3=>?_⟩,λy c' e=>?_,I.free,I.freeC,λp hp=>?_,a0 ⟨oc,oj,I.freeC x c hc⟩ hs,by simpa using I.len⟩ ⟨c,hs,.inr hc⟩
 . exact(hs.2 b (cS (gB (bH e) (I.ok.cab x c vv hc)))).trans (I.base.keep b o e n J G)
 . obtain⟨sl,e1⟩:=I.base.slot b o e n J G;exact⟨sl,(hs.2 b (cS (gB (bH e) (I.ok.cab x c vv hc)))).trans e1⟩
 . obtain⟨o',e1⟩:=I.base.there b o e G;exact⟨o',(hs.2 b (cS (gB (bH e) (I.ok.cab x c vv hc)))).trans e1⟩
 . by_cases O:j=i
   . subst O;rw[hi]at e1;cases e1;rw[XV A8]at e2;cases e2;exact⟨u,r,.inr ⟨.inl hk,c,hc,ia⟩⟩
   rw[XW (gC O)]at e2;obtain⟨u',r',q⟩:=hl j y v' e1 e2 e3;refine⟨u',r',?_⟩
   rcases q with q | ⟨k,c',e,z'⟩
   . exact .inl q
   refine .inr ⟨k,c',e,z'.sameBut hs ?_⟩;rintro rfl;exact O (ET hN e1 (I.ok.inj _ _ _ e hc▸hi))
 . by_cases Nk:c'=c
   . subst Nk;exact⟨_,ia⟩
   obtain⟨w2,z2⟩:=I.cell y c' e;exact⟨w2,z2.sameBut hs Nk⟩
 obtain⟨e,n,ne,nf,d⟩:=I.pin p hp;refine⟨(hs.2 p.1 ?_).trans e,n,ne,nf,d⟩;intro q;rw[q,oj]at e;have q':oc=p.2:=hJ e;exact d U (by rw[<-q'];exact Zm)
theorem EV{i:Nat}{x:Str}{v:V}{Q:Unit->Shared->Prop}(I:Inv X ad Z H s)(z:X.N.Nodup)(hi:X.N[i]?=some x)(J:Loc X.env.scope x)(r:RelV v u)
 (h:∀s',Inv X ad (Z.set i (some v)) H s'->Q () s') (G:X.fn x=true\/X.env.scope.names.lookup x=some .local:=by first | exact .inl rfl | exact .inr rfl | assumption):wpAny M A (storeName X.env x u) Q E s:=
 Ni I z hi J r (λs' j _=>h s' j) G
theorem Inv.call'(I:Inv X ad Z H s)(z:s'.os=s.os)(u:Un (cJ X.stack) ch H H' s.heap s'.heap)(hok:cp X.prog X.w H' s'.heap)(j:AllBare s'.gens)
 (G:∀b∈ch,(b∈X.ex\/X.s₀.heap.objs.size<=b)/\b≠X.env.locals/\(∀x c,X.env.cells.lookup x=some c->c≠b)/\∀p∈X.pn++ad,p.1≠b):Inv X ad Z H' s':=by
 obtain⟨h',g',d',t',o'⟩:=s';have e:o'=s.os:=z;subst e;exact I.call (g':=g') (t':=t') (d':=d') u hok j G
end
abbrev XK:=Value->Oa->Hp->Prop
abbrev St:=List (Option V)
variable {Z:St}
abbrev VK:=V->Hp->Prop
abbrev TE:=St->Hp->VK->Prop
abbrev TT:=St->Hp->(Bool->Hp->Prop)->Prop
abbrev TA:=St->Hp->(Lv->Hp->Prop)->Prop
structure Ends where
 nx:St->Hp->Prop
 rt:VK
 bk:St->Hp->Prop:=λ_ _=>False
 ct:St->Hp->Prop:=λ_ _=>False
variable {D:Ends}
abbrev TS:=Ends->St->Hp->Prop
variable {tb:TS}
def EP(X:Cx)(ad:Po)(Z:St)(Q:VK)(u:Value)(s':Shared):Prop:=∃v H',Inv X ad Z H' s'/\RelV v u/\Q v H'
def TP(X:Cx)(ad:Po)(Z:St)(Q:Bool->Hp->Prop)(b:Bool)(s':Shared):Prop:=∃H',Inv X ad Z H' s'/\Q b H'
def AP(X:Cx)(ad:Po)(Z:St)(Q:Lv->Hp->Prop)(us:Lw)(s':Shared):Prop:=∃vs H',Inv X ad Z H' s'/\aY vs us/\Q vs H'
def SP(X:Cx)(ad:Po)(D:Ends)(f:Flow)(s':Shared):Prop:=
 match f with
 | .next=>∃σ' H',Inv X ad σ' H' s'/\D.nx σ' H'
 | .brk=>∃σ' H',Inv X ad σ' H' s'/\D.bk σ' H'
 | .cont=>∃σ' H',Inv X ad σ' H' s'/\D.ct σ' H'
 | .ret u=>∃v σ' H',Inv X ad σ' H' s'/\RelV v u/\D.rt v H'
def PE(X:Cx)(e:Expr)(t:TE):Prop:=
 ∀(ad:Po) (s:Shared) (Z:St) (H:Hp) (Q:VK),Inv X ad Z H s->t Z H Q->wpAny (model X.prog X.w) X.A (eval e X.env) (EP X ad Z Q) X.xe s
def PT(X:Cx)(e:Expr)(t:TT):Prop:=
 ∀(ad:Po) (s:Shared) (Z:St) (H:Hp) (Q:Bool->Hp->Prop),Inv X ad Z H s->t Z H Q->wpAny (model X.prog X.w) X.A (isTrue e X.env (eval e X.env)) (TP X ad Z Q) X.xe s
def PW(X:Cx)(e:Expr)(t:TT):Prop:=
 ∀(j:Sem Value) (ad:Po) (s:Shared) (Z:St) (H:Hp) (Q:Bool->Hp->Prop),Inv X ad Z H s->t Z H Q->wpAny (model X.prog X.w) X.A (isTrue e X.env j) (TP X ad Z Q) X.xe s
theorem PW.pt{t:TT}(h:PW X e t):PT X e t:=h _
def PA(X:Cx)(es:List Expr)(t:TA):Prop:=
 ∀(pos:Pos) (ad:Po) (s:Shared) (Z:St) (H:Hp) (Q:Lv->Hp->Prop),Inv X ad Z H s->t Z H Q->wpAny (model X.prog X.w) X.A (spliced (backTo pos (starEach es X.env))) (AP X ad Z Q) X.xe s
def PS(X:Cx)(st:Stmt)(t:TS):Prop:=
 ∀(ad:Po) (s:Shared) (Z:St) (H:Hp) (D:Ends),Inv X ad Z H s->t D Z H->wpAny (model X.prog X.w) X.A (exec st X.env) (SP X ad D) X.xe s
def cg(X:Cx)(st:List Stmt)(t:TS):Prop:=
 ∀(ad:Po) (s:Shared) (Z:St) (H:Hp) (D:Ends),Inv X ad Z H s->t D Z H->wpAny (model X.prog X.w) X.A (execs st X.env) (SP X ad D) X.xe s
theorem thn{t:Sem α}{Q j:α->Shared->Prop}(h:wpAny M A t Q E s)(z:∀a s,Q a s->j a s):wpAny M A t j E s:=eM h z λ_ _ x=>x
section
inductive xY (H:Hp) (Q:VK):Option (Option V)->Prop where
 | mk {v:V} (_:Q v H):xY H Q (some (some v))
theorem xY.ex{H:Hp}{Q:VK}{o:Option (Option V)}(z:xY H Q o):∃(v:V),o=some (some v)/\Q v H:=by
 cases z with
 | @mk v j=>exact⟨v,rfl,j⟩
def qB(i:Nat):TE:=λZ H Q=>xY H Q (Z[i]?)
def tC(v:V):TE:=λ_ H Q=>Q v H
theorem Zn{i:Nat}{x:Str}{pos:Pos}(J:X.N[i]?=some x)(hv:A6 X.env.scope x)(hd:(x == ("__debug__":Str))=false:=by decide)(iL:(x == ("__classdict__":Str))=false:=by decide):PE X (.Name x pos) (qB i):=by
 intro ad s Z H Q I h;obtain⟨v,e,h⟩:=xY.ex h;obtain⟨m,Y,O⟩:=I.loc;obtain⟨u,r,l⟩:=O i x v J e hv;have j:EP X ad Z Q u s:=⟨v,H,I,r,h⟩
 rcases l with⟨hk,U⟩ | ⟨hk,c,z,G⟩
 . exact wpAny_Name (wpAny_loadName_local I.ok.kind hk Y U j) hd
 rcases hk with hk | hk
 . exact wpAny_Name (wpAny_loadName_cell I.ok.kind hk z G j) hd
 exact wpAny_Name (wpAny_loadName_free I.ok.kind hk z G j iL) hd
theorem aj{i j pos}:PE X (.Constant (.int i) j pos) (tC (.int i)):=λ_ _ _ H _ I h=>wpAny_Constant_int ⟨.int i,H,I.tok _,⟨_,rfl⟩,h⟩
theorem tm{b j pos}:PE X (.Constant (.bool b) j pos) (tC (.bl b)):=λ_ _ _ H _ I h=>Constant_bool ⟨.bl b,H,I,rfl,h⟩
theorem jW{j pos}:PE X (.Constant .none j pos) (tC .non):=λ_ _ _ H _ I h=>Constant_none ⟨.non,H,I,rfl,h⟩
theorem bO{x j pos}:PE X (.Constant (.str x) j pos) (tC (.str x)):=λ_ _ _ H _ I h=>Calls.Constant_str ⟨.str x,H,I.tok _,⟨_,rfl⟩,h⟩
def Gl(X:Cx)(x:Str):Prop:=X.env.kindOf x=some .globalImplicit
theorem vw{H:Hp}{x:Str}{pos:Pos}{Q:VP}(I:Inv X ad Z H s)(j:Gl X x)(z:X.mg x=some u)(h:Q u s)
 (hd:(x == ("__debug__":Str))=false:=by decide):wpAny (model X.prog X.w) X.A (eval (.Name x pos) X.env) Q E s:=
 awn I.ok.kind j (Calls.loadGlobal_global (by rw[I.ok.glob];exact I.mod.glob.keeps I.bk) z h) hd
theorem tq{H:Hp}{x:Str}{pos:Pos}{Q:VP}(I:Inv X ad Z H s)(j:Gl X x)(z:X.mg x=none)(J:bootBuiltins x=some u)(h:Q u s)
 (G:x≠"__name__":=by decide) (hd:(x == ("__debug__":Str))=false:=by decide):wpAny (model X.prog X.w) X.A (eval (.Name x pos) X.env) Q E s:=by
 obtain⟨O,h1,h2⟩:=I.mod.blt;exact awn I.ok.kind j (Calls.loadGlobal_builtin (by rw[I.ok.glob];exact I.mod.glob.keeps I.bk) z (by rw[I.ok.blt];exact h1.keeps I.bk) ((h2 x G).trans J) h) hd
theorem tu{x:Str}{v:V}{pos:Pos}(j:Gl X x)(z:X.mg x=some u)(r:RelV v u)(hd:(x == ("__debug__":Str))=false:=by decide):PE X (.Name x pos) (tC v):=
 λ_ _ _ H _ I h=>vw I j z ⟨v,H,I,r,h⟩ hd
theorem A9{x:Str}{v:V}{pos:Pos}(j:Gl X x)(z:X.mg x=none)(J:bootBuiltins x=some u)(r:RelV v u)(G:x≠"__name__":=by decide)(hd:(x == ("__debug__":Str))=false:=by decide):PE X (.Name x pos) (tC v):=
 λ_ _ _ H _ I h=>tq I j z J ⟨v,H,I,r,h⟩ G hd
variable {a b:Expr}{ta tb:TE}{pos:Pos}
def PC(X:Cx)(op:CmpOp)(a b:Expr)(t:TE):Prop:=
 ∀(ad:Po) (s:Shared) (Z:St) (H:Hp) (Q:VK),Inv X ad Z H s->t Z H Q ->
  wpAny (model X.prog X.w) X.A (eval a X.env) (λv j=>wpAny (model X.prog X.w) X.A (eval b X.env) (λu z=>wpAny (model X.prog X.w) X.A (compareOp op v u) (EP X ad Z Q) X.xe z) X.xe j) X.xe s
inductive Nl (Q:Bool->Hp->Prop) (H1:Hp):V->Prop where
 | mk {c:Bool} (_:Q c H1):Nl Q H1 (.bl c)
def tB(t:TE):TT:=λZ H Q=>t Z H λx H1=>Nl Q H1 x
theorem qC{op:CmpOp}{t:TE}(h:PC X op a b t)(h1:behindInMarks op b=false:=by first | exact nobehind _ (by decide) (by decide) | rfl):PT X (.Compare a [op] [b] pos) (tB t):=by
 intro ad s Z H Q I G;refine awo (thn (h ad s Z H _ I G) λv U h1=>thn h1 λu Y h2=>thn h2 λc s3 z=>aP z λx H1 j O J=>?_) h1;obtain @⟨d,q⟩:=J;cases O;exact qb ⟨H1,j,q⟩
theorem iM{t:TE}(h:PE X e t)(J:∀j,isTrue e X.env j=(do let v <-j;standAt e.pos;holding [v] (truthy v)):=by intro _;rfl):PT X e (tB t):=by
 intro ad s Z H Q I O;refine isTrue_plain (thn (h ad s Z H _ I O) λv s1 G=>aP G λx H1 z Y U=>?_) (J _);obtain @⟨d,q⟩:=U;cases Y;exact qb ⟨H1,z,q⟩
variable {tA Ba:TT}{rest:List Expr}
def Zq(t u:TT):TT:=λZ H Q=>t Z H λc H1=>if c=true then u Z H1 Q else Q false H1
def Zr(t u:TT):TT:=λZ H Q=>t Z H λc H1=>if c=true then Q true H1 else u Z H1 Q
def Zs(t:TT):TT:=λZ H Q=>t Z H λc H1=>Q (!c) H1
theorem xZ(j:PT X a tA):PW X (.BoolOp .And [a] pos) tA:=by
 intro G ad s Z H Q I h;refine isTrue_and (thn (j ad s Z H Q I h) λc z e=>?_);cases c with
 | true=>exact isTrue_and_nil e
 | false=>exact e
theorem Bb(j:PT X a tA):PW X (.BoolOp .Or [a] pos) tA:=by
 intro G ad s Z H Q I h;refine isTrue_or (thn (j ad s Z H Q I h) λc z e=>?_);cases c with
 | false=>exact isTrue_or_nil e
 | true=>exact e
theorem tw(O:PT X a tA)(U:PW X (.BoolOp .And (b::rest) pos) Ba):PW X (.BoolOp .And (a::b::rest) pos) (Zq tA Ba):=by
 intro wh ad s Z H Q I h;refine isTrue_and (thn (O ad s Z H _ I h) λc Y G=>G.elim λH1 J=>J.elim λj z=>?_);cases c with
 | true=>exact U wh ad Y Z H1 Q j z
 | false=>exact⟨H1,j,z⟩
theorem Bc(O:PT X a tA)(U:PW X (.BoolOp .Or (b::rest) pos) Ba):PW X (.BoolOp .Or (a::b::rest) pos) (Zr tA Ba):=by
 intro wh ad s Z H Q I h;refine isTrue_or (thn (O ad s Z H _ I h) λc Y G=>G.elim λH1 J=>J.elim λj z=>?_);cases c with
 | true=>exact⟨H1,j,z⟩
 | false=>exact U wh ad Y Z H1 Q j z
theorem oq(j:PT X a tA):PT X (.UnaryOp .Not a pos) (Zs tA):=by
 intro ad s Z H Q I h;exact isTrue_not (j ad s Z H (λc H1=>Q (!c) H1) I h)
inductive Nm (tb:TE) (Z:St) (Q:VK) (H1:Hp):V->Prop where
 | mk {c:Bool} (_:if c=true then tb Z H1 Q else Q (.bl false) H1):Nm tb Z Q H1 (.bl c)
def Zx(ta tb:TE):TE:=λZ H Q=>ta Z H λx H1=>Nm tb Z Q H1 x
inductive No (tb:TE) (Z:St) (Q:VK) (H1:Hp):V->Prop where
 | mk {c:Bool} (_:if c=true then Q (.bl true) H1 else tb Z H1 Q):No tb Z Q H1 (.bl c)
def Zy(ta tb:TE):TE:=λZ H Q=>ta Z H λx H1=>No tb Z Q H1 x
inductive Np (Q:VK) (H1:Hp):V->Prop where
 | mk {c:Bool} (_:Q (.bl (!c)) H1):Np Q H1 (.bl c)
def Zz(ta:TE):TE:=λZ H Q=>ta Z H λx H1=>Np Q H1 x
theorem qD{op}{t:TE}(h:PE X a t):PE X (.BoolOp op [a] pos) t:=λad s Z H Q I j=>BoolOp_one (h ad s Z H Q I j)
theorem qE(J:PE X a ta)(O:PE X (.BoolOp .And (b::rest) pos) tb):PE X (.BoolOp .And (a::b::rest) pos) (Zx ta tb):=by
 intro ad s Z H Q I h;refine BoolOp_and (thn (J ad s Z H _ I h) λv Y G=>aP G λx H1 z U j=>?_);obtain @⟨c,j⟩:=j;cases U;refine qb ?_;cases c with
 | true=>exact O ad Y Z H1 Q z j
 | false=>exact⟨.bl false,H1,z,rfl,j⟩
theorem Nq(J:PE X a ta)(O:PE X (.BoolOp .Or (b::rest) pos) tb):PE X (.BoolOp .Or (a::b::rest) pos) (Zy ta tb):=by
 intro ad s Z H Q I h;refine BoolOp_or (thn (J ad s Z H _ I h) λv Y G=>aP G λx H1 z U j=>?_);obtain @⟨c,j⟩:=j;cases U;refine qb ?_;cases c with
 | false=>exact O ad Y Z H1 Q z j
 | true=>exact⟨.bl true,H1,z,rfl,j⟩
theorem ZC(J:PE X a ta):PE X (.UnaryOp .Not a pos) (Zz ta):=by
 intro ad s Z H Q I h;refine UnaryOp_ (thn (J ad s Z H _ I h) λv U G=>aP G λx H1 z O j=>?_);obtain @⟨c,j⟩:=j;cases O;exact not_of (qb ⟨.bl (!c),H1,z,rfl,j⟩)
def ZE(t:TT)(ta tb:TE):TE:=λZ H Q=>t Z H λc H1=>if c=true then ta Z H1 Q else tb Z H1 Q
theorem Nr(hc:PT X c tA)(U:PE X a ta)(Y:PE X b tb):PE X (.IfExp c a b pos) (ZE tA ta tb):=by
 intro ad s Z H Q I h;refine wpAny_IfExp (thn (hc ad s Z H _ I h) λd G J=>J.elim λH1 O=>O.elim λj z=>?_);cases d with
 | true=>exact U ad G Z H1 Q j z
 | false=>exact Y ad G Z H1 Q j z
end
def aa(K:Fg)(H:Hp)(a:Addr)(xs:Lv):Prop:=
 Rd H a (.lst xs) \/
  ∃(o:Obj) (b_:Av) (n:Nat),K.lookup a=some o/\o.cls=.type "list"/\o.dict=none/\o.data=.seq b_ n/\b_.size<=sizeLine/\aY xs b_.toList
def aZ(K:Fg)(H:Hp)(a:Addr)(xs:Lv):Prop:=
 Rd H a (.tup xs) \/
  ∃(o:Obj) (b_:Av) (n:Nat),K.lookup a=some o/\o.cls=.type "tuple"/\o.data=.seq b_ n/\b_.size<=sizeLine/\aY xs b_.toList
def ZH:Value->Option V
 | .none=>some .non
 | .bool b=>some (.bl b)
 | .int i _=>some (.int i)
 | .str x _=>some (.str x)
 | .bytes b _=>some (.byt b)
 | .float b _=>some (.flt b)
 | .ref a=>some (.ref a)
 | .type n=>some (.ty n)
 | _=>none
theorem RelV.abs{x:V}(r:RelV x u):ZH u=some x:=by
 cases x with
 | non=>cases r;rfl
 | bl _=>cases r;rfl
 | int _=>obtain⟨t,rfl⟩:=r;rfl
 | str _=>obtain⟨t,rfl⟩:=r;rfl
 | byt _=>obtain⟨t,rfl⟩:=r;rfl
 | flt _=>obtain⟨t,rfl⟩:=r;rfl
 | ref _=>cases r;rfl
 | ty _=>cases r;rfl
theorem RelV.inj{x y:V}(r:RelV x u)(q:RelV y u):x=y:=hJ (r.abs.symm.trans q.abs)
theorem aY.inj:∀{xs ys:Lv}{us:Lw},aY xs us->aY ys us->xs=ys
 | _,_,_,.nil,.nil=>rfl
 | _,_,_,.cons r t,.cons r' t'=>by rw[r.inj r',aY.inj t t']
section
variable {H:Hp}{xs ys:Lv}
theorem aa.of(h:H a=some (.lst xs)):aa K H a xs:=.inl (.inl h)
theorem aZ.of(h:H a=some (.tup xs)):aZ K H a xs:=.inl (.inl h)
theorem Inv.list(I:Inv X ad Z H s)(h:aa X.K H a xs):∃b_:Lw,aY xs b_/\PlainL s.heap a b_.toArray/\xs.length<=sizeLine:=by
 rcases h with h | ⟨o,b_,n,G,j,hd,hs,hz,r⟩
 . obtain⟨z,b_,n,r,e⟩:=h.ok I.hok;exact⟨b_,r,⟨_,n,e,rfl,rfl,rfl⟩,z⟩
 refine⟨b_.toList,r,⟨o,n,I.kIn a o G,j,hd,by simpa using hs⟩,?_⟩;have e:=r.length;simp only[eZ]at e;omega
theorem Inv.tuple(I:Inv X ad Z H s)(h:aZ X.K H a xs):∃b_:Lw,aY xs b_/\IsTup s.heap a b_.toArray/\xs.length<=sizeLine:=by
 rcases h with h | ⟨o,b_,n,G,j,hs,hz,r⟩
 . obtain⟨z,b_,r,p⟩:=h.ok I.hok;exact⟨b_,r,p,z⟩
 refine⟨b_.toList,r,⟨o,I.kIn a o G,j,n,by simpa using hs⟩,?_⟩;have e:=r.length;simp only[eZ]at e;omega
theorem Inv.list_inj(I:Inv X ad Z H s)(h:aa X.K H a xs)(h':aa X.K H a ys):xs=ys:=by
 obtain⟨b_,r,⟨o,n,e,_,_,d⟩,_⟩:=I.list h;obtain⟨its',z,⟨o',G,j,_,_,d'⟩,_⟩:=I.list h';rw[e]at j;cases j;rw[d]at d';injection d' with d1 _
 have:b_=its':=by simpa using fw Array.toList d1
 subst this;exact r.inj z
theorem Inv.tuple_inj(I:Inv X ad Z H s)(h:aZ X.K H a xs)(h':aZ X.K H a ys):xs=ys:=by
 obtain⟨b_,r,⟨o,e,_,n,d⟩,_⟩:=I.tuple h;obtain⟨its',z,⟨o',j,_,G,d'⟩,_⟩:=I.tuple h';rw[e]at j;cases j;rw[d]at d';injection d' with d1 _
 have:b_=its':=by simpa using fw Array.toList d1
 subst this;exact r.inj z
end
abbrev Cx.wish (X:Cx) (E:VP):Cx:={ X with xe:=E }
abbrev Cx.nox (X:Cx):Cx:=X.wish λ_ _=>False
theorem Cx.Ok.wish(ok:X.Ok)(E:VP):(X.wish E).Ok:=
 ⟨ok.mod,ok.kind,ok.glob,ok.blt,ok.above,ok.inj,ok.has,ok.cab,ok.hd,ok.frames,ok.stk,ok.exf,ok.bs,ok.bsz,ok.noex,ok.exfs,ok.funs,ok.frf⟩
theorem Cx.Ok.unwish(ok:(X.wish E).Ok):X.Ok:=
 ⟨ok.mod,ok.kind,ok.glob,ok.blt,ok.above,ok.inj,ok.has,ok.cab,ok.hd,ok.frames,ok.stk,ok.exf,ok.bs,ok.bsz,ok.noex,ok.exfs,ok.funs,ok.frf⟩
section
variable {H:Hp}
theorem Inv.wish(I:Inv X ad Z H s)(E:VP):Inv (X.wish E) ad Z H s:=⟨I.ok.wish E,I.os,I.bare,I.base,I.loc,I.cell,I.free,I.freeC,I.pin,I.hok,I.len⟩
theorem Inv.unwish(I:Inv (X.wish E) ad Z H s):Inv X ad Z H s:=⟨I.ok.unwish,I.os,I.bare,I.base,I.loc,I.cell,I.free,I.freeC,I.pin,I.hok,I.len⟩
theorem SP.unwish{f:Flow}(h:SP (X.wish E) ad D f s'):SP X ad D f s':=by
 cases f with
 | next=>obtain⟨σ',H',I,q⟩:=h;exact⟨σ',H',I.unwish,q⟩
 | brk=>obtain⟨σ',H',I,q⟩:=h;exact⟨σ',H',I.unwish,q⟩
 | cont=>obtain⟨σ',H',I,q⟩:=h;exact⟨σ',H',I.unwish,q⟩
 | ret u=>obtain⟨v,σ',H',I,r,q⟩:=h;exact⟨v,σ',H',I.unwish,r,q⟩
theorem cg.nox{st:List Stmt}{t:TS}(h:cg X.nox st t):cg X st t:=λad s Z H D I j=>
 eM (h ad s Z H D (I.wish _) j) (λ_ _ q=>q.unwish) λ_ _ z=>False.elim z
end
section
variable {st:Stmt}{rest:List Stmt}{t u:TS}{te:TE}{pos:Pos}
def ZI:TS:=λD Z H=>D.nx Z H
def ba(t u:TS):TS:=λD Z H=>t { D with nx:=u D } Z H
theorem cZ:cg X [] ZI:=λ_ _ Z H _ I h=>Eu ⟨Z,H,I,h⟩
theorem ai(h1:PS X st t)(h2:cg X rest u):cg X (st::rest) (ba t u):=by
 intro ad s Z H D I h;refine XX (thn (h1 ad s Z H { D with nx:=u D } I h) λf z q=>?_);cases f with
 | next=>
  obtain⟨σ',H',j,q⟩:=q;exact h2 ad z σ' H' D j q
 | ret v=>exact q
 | brk=>exact q
 | cont=>exact q
theorem al(h1:PS X st t):cg X [st] t:=by
 intro ad s Z H D I h;refine XX (thn (h1 ad s Z H D I h) λf j q=>?_);cases f with
 | next=>exact Eu q
 | ret v=>exact q
 | brk=>exact q
 | cont=>exact q
theorem Inv.quiet{H:Hp}(I:Inv X ad Z H s):interactive X.env=false:=by simp[interactive,I.ok.kind]
def ZJ(te:TE):TS:=λD Z H=>te Z H λ_ H1=>D.nx Z H1
theorem bT(G:PE X e te)(hs:swapsWith e none pos.line X.env=pure false:=by rfl):PS X (.Expr e pos) (ZJ te):=by
 intro ad s Z H D I h;exact wpAny_Expr_any (thn (G ad s Z H _ I h) λv U z=>aP z λx H1 j O J=>⟨Z,H1,j,J⟩) I.quiet hs
def ZL(te:TE):TS:=λD Z H=>te Z H D.rt
theorem aQ(G:PE X e te):PS X (.Return (some e) pos) (ZL te):=by
 intro ad s Z H D I h;exact wpAny_Return_some (thn (G ad s Z H _ I h) λv U z=>aP z λx H1 j O J=>⟨x,Z,H1,j,O,J⟩)
def ZN:TS:=λD _ H=>D.rt .non H
theorem Nu:PS X (.Return none pos) ZN:=λ_ _ Z H _ I h=>wpAny_Return_none ⟨.non,Z,H,I,rfl,h⟩
def ZO(c:TT)(t u:TS):TS:=λD Z H=>c Z H λb H1=>if b=true then t D Z H1 else u D Z H1
theorem bV{a b:List Stmt}{tc:TT}(hc:PT X c tc)(U:cg X a t)(Y:cg X b u):PS X (.If c a b pos) (ZO tc t u):=by
 intro ad s Z H D I h;refine wpAny_If (thn (hc ad s Z H _ I h) λd G J=>J.elim λH1 O=>O.elim λj z=>?_);cases d with
 | true=>exact U ad G Z H1 D j z
 | false=>exact Y ad G Z H1 D j z
def Nv:TS:=λ_ _ _=>False
theorem Nw:PS X st Nv:=λ_ _ _ _ _ _ h=>h.elim
theorem EW{j:List Stmt}:cg X j Nv:=λ_ _ _ _ _ _ h=>h.elim
end
abbrev TG:=V->St->Hp->(St->Hp->Prop)->Prop
variable {g:TG}
abbrev mQ:=Lv->St->Hp->(St->Hp->Prop)->Prop
def PG(X:Cx)(j:Expr)(t:TG):Prop:=
 ∀(ad:Po) (s:Shared) (Z:St) (H:Hp) (v:V) (u:Value) (Q:St->Hp->Prop),Inv X ad Z H s->RelV v u->t v Z H Q ->
  wpAny (model X.prog X.w) X.A (assign j X.env u) (λ_ s'=>∃σ' H',Inv X ad σ' H' s'/\Q σ' H') X.xe s
def fM(X:Cx)(j:List Expr)(t:mQ):Prop:=
 ∀(ad:Po) (s:Shared) (Z:St) (H:Hp) (vs:Lv) (us:Lw) (Q:St->Hp->Prop),Inv X ad Z H s->aY vs us->t vs Z H Q ->
  wpAny (model X.prog X.w) X.A (assignInOrder ((assignEach j X.env).map (·.2)) us) (λ_ s'=>∃σ' H',Inv X ad σ' H' s'/\Q σ' H') X.xe s
section
variable {pos:Pos}
def jX(i:Nat):TG:=λv Z H Q=>Q (Z.set i (some v)) H
theorem bf{i:Nat}{x:Str}(z:X.N.Nodup)(hi:X.N[i]?=some x)(J:Loc X.env.scope x)(G:X.fn x=true\/X.env.scope.names.lookup x=some .local:=by first | exact .inl rfl | exact .inr rfl | assumption):PG X (.Name x pos) (jX i):=by
 intro ad s Z H v u Q I r h;exact wpAny_assign_Name (EV I z hi J r (λs' j=>⟨_,H,j,h⟩) G)
def EX:mQ:=λvs Z H Q=>vs=[]/\Q Z H
inductive Nx (t:TG) (u:mQ) (Z:St) (H:Hp) (Q:St->Hp->Prop):Lv->Prop where
 | mk {v:V}{r:Lv} (_:t v Z H λσ' H'=>u r σ' H' Q):Nx t u Z H Q (v::r)
def x5(t:TG)(u:mQ):mQ:=λvs Z H Q=>Nx t u Z H Q vs
theorem mR:fM X [] EX:=by
 intro ad s Z H vs us Q I r h;obtain⟨e,h⟩:=h;subst e;cases r;exact assignInOrder_nil ⟨Z,H,I,h⟩
theorem gE{t:TG}{u:mQ}(h1:PG X e t)(h2:fM X es u)
 (hs:(assignEach (e::es) X.env).map (·.2)=assign e X.env::(assignEach es X.env).map (·.2):=by rfl):fM X (e::es) (x5 t u):=by
 intro ad s Z H vs us Q I r h;obtain @⟨v,vr,h⟩:=h;cases r with
 | cons r U=>
  rw[hs];refine assignInOrder_cons (thn (h1 ad s Z H _ _ _ I r h) λ_ Y z=>z.elim λσ1 G=>G.elim λH1 J=>J.elim λj O=>?_);exact h2 ad Y σ1 H1 _ _ Q j U O
inductive Ny (K:Fg) (n:Nat) (t:mQ) (Z:St) (H:Hp) (Q:St->Hp->Prop):V->Prop where
 | mk {a:Addr}{xs:Lv} (_:aZ K H a xs) (_:xs.length=n) (_:t xs Z H Q):Ny K n t Z H Q (.ref a)
def tz(K:Fg)(n:Nat)(t:mQ):TG:=λv Z H Q=>Ny K n t Z H Q v
theorem ou{k:Nat}{t:mQ}(O:X.calm=true)(h:fM X es t)
 (Y:(assignEach es X.env).length=n:=by rfl) (J:(assignEach es X.env).findIdx? (·.1)=none:=by rfl):PG X (.Tuple es k pos) (tz X.K n t):=by
 intro ad s Z H v u Q I r j;obtain @⟨a,xs,hq,U,j⟩:=j;cases r;obtain⟨b_,z,ht,hz⟩:=I.tuple hq;refine assign_Tuple_tuple (I.ok.hd O) ht (by simp[Y,<-U,z.length]) J λh' hx=>?_;have G:Inv X ad Z H { s with heap:=h' }:=I.kept (t':=s.toks) λb o e=>hx b o (cS (bH e)) e;exact h ad _ Z H xs _ Q G (by simpa using z) j
def Nz(te:TE)(g:TG):TS:=λD Z H=>te Z H λx H1=>g x Z H1 D.nx
theorem aH{i:Nat}{x:Str}{te:TE}{pos':Pos}(J:X.N.Nodup)(hi:X.N[i]?=some x)(Y:Loc X.env.scope x)(O:PE X e te)(hs:swapsWith e (some (.Name x pos')) pos.line X.env=pure false:=by rfl)(U:X.fn x=true\/X.env.scope.names.lookup x=some .local:=by first | exact .inl rfl | exact .inr rfl | assumption) :
 PS X (.Assign [.Name x pos'] e pos) (Nz te (jX i)):=by
 intro ad s Z H D I h;refine wpAny_Assign_Name (thn (O ad s Z H _ I h) λv s1 G=>aP G λy H1 j r1 q1=>?_) hs;exact EV j J hi Y r1 (λs2 z=>⟨_,H1,z,q1⟩) U
def ZV(c:TT)(tb:TS):TS:=λD Z H=>∃W:Nat->St->Hp->Prop,(∃m,W m Z H)/\∀m Z H,W m Z H ->
 c Z H λb H1=>if b=true then∃N:St->Hp->Prop,(∀σ' H',N σ' H'->∃m',m'<m/\W m' σ' H')/\tb { D with nx:=N,ct:=N,bk:=D.nx } Z H1 else D.nx Z H1
theorem NA{tc:TT}(hp:PassesOwn (model X.prog X.w) X.A X.env X.xe)(hc:PT X c tc)(hb:cg X body tb):PS X (.While c body [] pos) (ZV tc tb):=by
 intro ad s Z H D I h;obtain⟨W,⟨m0,w0⟩,a0⟩:=h;refine wpAny_While (codeAny_whileLoop (λn s'=>∃σ' H',Inv X ad σ' H' s'/\W n σ' H') ?_ m0 ⟨Z,H,I,w0⟩);rintro n s1 ⟨σ1,H1,I1,w1⟩;refine xE hp (thn (hc ad s1 σ1 H1 _ I1 (a0 n σ1 H1 w1)) λb s2 ZW=>ZW.elim λH2 ZX=>ZX.elim λU j=>?_);cases b with
 | true=>
  obtain⟨N,Y,j⟩:=j;rw[am rfl];refine xE hp (thn (hb ad s2 σ1 H2 _ U j) λf s3 z=>?_);cases f with
  | next=>
   obtain⟨σ3,H3,G,n3⟩:=z;obtain⟨m',J,O⟩:=Y σ3 H3 n3;exact⟨m',J,σ3,H3,G,O⟩
  | cont=>
   obtain⟨σ3,H3,G,n3⟩:=z;obtain⟨m',J,O⟩:=Y σ3 H3 n3;exact⟨m',J,σ3,H3,G,O⟩
  | brk=>exact z
  | ret v=>exact z
 | false=>
  rw[ag cW];exact Eu ⟨σ1,H2,U,j⟩
end
structure It where
 go:Nat->Hp->Prop
 yld:Nat->Hp->V->Hp->Prop
 stop:Nat->Hp->Prop
def fB(X:Cx)(ad:Po)(H:Hp)(b:Addr):Prop:=
 H b=none/\b≠X.env.locals/\b∉X.fs/\(b∈X.ex\/X.s₀.heap.objs.size<=b)/\(∀x c,X.env.cells.lookup x=some c->c≠b)/\∀p∈X.pn++ad,p.1≠b
theorem Inv.fpOk{H H':Hp}{b:Addr}(I:Inv X ad Z H s)(j:s.heap.objs.size<=b)(G:H' b=none):fB X ad H' b:=by
 refine⟨G,kF (gB I.lt j),I.nofs j,.inr (b8 I.sz j),λx c e z=>?_,λp J z=>?_⟩
 . obtain⟨v,q⟩:=I.cell x c e;exact absurd (gB q.lt (by rw[z];exact j)) (nX _)
 exact absurd (gB (bH (I.pin p J).1) (by rw[z];exact j)) (nX _)
structure oA(P:Program)(w:World)(K:Fg)(tg:Expr)(J:It)(fp:List Addr)(it:Addr)(tn:Nat->Heap->Prop):Prop where
 mem:it∈fp
 obj:∀i h,tn i h->∀b∈fp,∃o,h.get? b=some o/\∀v,o.data≠.cell v
 keep:∀i h h',tn i h->(∀b∈fp,∀o,h.get? b=some o->h'.get? b=some o)->tn i h'
 item:∀(X:Cx),X.prog=P->X.w=w->X.K=K->X.calm=true->∀(i:Nat) (ad:Po) (s:Shared) (Z:St) (H:Hp) (E:VP),Inv X ad Z H s->(∀b∈fp,fB X ad H b)->tn i s.heap->J.go i H ->
  wpAny (model P w) X.A (pyNext (.ref it)) (λr s1=>∃u,r=some u /\
   wpAny (model P w) X.A (letOwnedTupleGo tg (.ref it) u) (λ_ s2=>∃x H',Inv X ad Z H' s2/\RelV x u/\J.yld i H x H'/\tn (i+1) s2.heap/\∀b∈fp,H' b=none) E s1) E s
 done:∀(X:Cx),X.prog=P->X.w=w->X.K=K->X.calm=true->∀(i:Nat) (ad:Po) (s:Shared) (Z:St) (H:Hp) (E:VP),Inv X ad Z H s->(∀b∈fp,fB X ad H b)->tn i s.heap->J.stop i H ->
  wpAny (model P w) X.A (pyNext (.ref it)) (λr s1=>r=none/\Inv X ad Z H s1) E s
 self:∀(A:Around) (i:Nat) (s:Shared) (Q:VP) (E:VP),tn i s.heap->Q (.ref it) s->wpAny (model P w) A (pyIter (.ref it)) Q E s
abbrev TI:=St->Hp->(It->Hp->Prop)->Prop
def EY(X:Cx)(ad:Po)(Z:St)(tg:Expr)(R:It->Hp->Prop)(G:Value)(j:Shared):Prop:=
 ∃(it:Addr) (fp:List Addr) (z:Nat->Heap->Prop) (J:It) (H':Hp),G=.ref it/\Inv X ad Z H' j/\oA X.prog X.w X.K tg J fp it z/\z 0 j.heap/\(∀b∈fp,fB X ad H' b)/\R J H'
def PI(X:Cx)(tg iter:Expr)(z:TI):Prop:=
 ∀(ad:Po) (s:Shared) (Z:St) (H:Hp) (R:It->Hp->Prop),Inv X ad Z H s->z Z H R ->
  wpAny (model X.prog X.w) X.A (eval iter X.env) (λv j=>wpAny (model X.prog X.w) X.A (pyIter v) (EY X ad Z tg R) X.xe j) X.xe s
theorem Bf{it:Addr}{o:Obj}{n:String}{vs:Av}{Q:Unit->Shared->Prop}(J:s.heap.get? it=some o)(z:o.cls=.type n)(hd:o.data=.fields vs)
 (G:["enumerate","zip","dict_itemiterator","dict_reverseitemiterator","odict_iterator","itertools.zip_longest","itertools.pairwise"].contains n=false) (j:Q () s):wpAny M A (letOwnedTupleGo tg (.ref it) u) Q E s:=by
 unfold letOwnedTupleGo;cases tg<;>first
  | exact ar j
  | (cases u<;>first
   | exact ar j
   | (refine ae (wpAny_load J ?_)
      rw[z,hd];show wpAny M A (if (["enumerate","zip","dict_itemiterator","dict_reverseitemiterator","odict_iterator","itertools.zip_longest","itertools.pairwise"].contains n && vs[0]? == some (rawInt _))=true then _ else _) Q E s;rw[ag (by intro h;rw[G,Ev]at h;cases h)];exact ar j))
def mS(K:Fg)(a:Addr):It:=
 ⟨λi H=>∃xs x,aa K H a xs/\xs[i]?=some x,λi H x H'=>H'=H/\∀xs,aa K H a xs->xs[i]?=some x,λi H=>∃xs,aa K H a xs/\xs.length<=i⟩
def EZ(K:Fg)(a:Addr):It:=
 ⟨λi H=>∃xs x,aZ K H a xs/\xs[i]?=some x,λi H x H'=>H'=H/\∀xs,aZ K H a xs->xs[i]?=some x,λi H=>∃xs,aZ K H a xs/\xs.length<=i⟩
def oC(lo:Int)(n:Nat):It:=⟨λi _=>i<n,λi H x H'=>H'=H/\x=.int (lo+i),λi _=>n<=i⟩
theorem ZY(a it:Addr):oA P w K tg (mS K a) [it] it (λi h=>h.IsListIter it a i) where
 mem:=by simp
 obj:=λi h st b j=>by
  have e:b=it:=by simpa using j
  subst e;obtain⟨o,e,c,d⟩:=st;exact⟨o,e,λv z=>by rw[d]at z;cases z⟩
 keep:=λi h h' st k=>st.at λo e=>k it (by simp) o e
 item:=by
  intro X hP hw hK hc i ad s Z H E I G st hg;subst hP hw hK;obtain⟨xs,x,J,hx⟩:=hg;obtain⟨b_,rv,p,hz⟩:=I.list J;obtain⟨u,hu,ru⟩:=rv.get hx;obtain⟨f0,f1,f2,O,U,Y⟩:=G it (by simp);refine wpAny_pyNext_list_item st p.isList (x:=u) (by simpa using hu) λh' fN sb=>?_;have I1:Inv X ad Z H { s with heap:=h' }:=I.turned (t':=s.toks) (λb o j e=>(sb.2 b j).trans e) f0 f1 O U Y;obtain⟨o,e,c,d⟩:=id fN;exact⟨u,rfl,Bf (s:={ s with heap:=h' }) e c d (by decide) ⟨x,H,I1,ru,⟨rfl,λys hy=>by rw[I.list_inj hy J];exact hx⟩,fN,λb j=>(G b j).1⟩⟩
 done:=by
  intro X hP hw hK hc i ad s Z H E I G st hg;subst hP hw hK;obtain⟨xs,J,hx⟩:=hg;obtain⟨b_,rv,p,hz⟩:=I.list J;obtain⟨f0,f1,f2,O,U,Y⟩:=G it (by simp);have hl:=rv.length;exact wpAny_pyNext_list_end (I.ok.hd hc) st p.isList (by simp;omega) λh' eb=>⟨rfl,I.turned (t':=s.toks) (λb o j e=>eb b o j e) f0 f1 O U Y⟩
 self:=λ_ _ _ _ _ st h=>wpAny_pyIter_listiter st h
theorem ZZ(a it:Addr):oA P w K tg (EZ K a) [it] it (λi h=>h.IsTupleIter it a i) where
 mem:=by simp
 obj:=λi h st b j=>by
  have e:b=it:=by simpa using j
  subst e;obtain⟨o,e,c,d⟩:=st;exact⟨o,e,λv z=>by rw[d]at z;cases z⟩
 keep:=λi h h' st k=>st.at λo e=>k it (by simp) o e
 item:=by
  intro X hP hw hK hc i ad s Z H E I G st hg;subst hP hw hK;obtain⟨xs,x,J,hx⟩:=hg;obtain⟨b_,rv,p,hz⟩:=I.tuple J;obtain⟨u,hu,ru⟩:=rv.get hx;obtain⟨f0,f1,f2,O,U,Y⟩:=G it (by simp);refine wpAny_pyNext_tuple_item st (show s.heap.IsTuple a b_.toArray from p) (x:=u) (by simpa using hu) λh' fN sb=>?_;have I1:Inv X ad Z H { s with heap:=h' }:=I.turned (t':=s.toks) (λb o j e=>(sb.2 b j).trans e) f0 f1 O U Y;obtain⟨o,e,c,d⟩:=id fN;exact⟨u,rfl,Bf (s:={ s with heap:=h' }) e c d (by decide) ⟨x,H,I1,ru,⟨rfl,λys hy=>by rw[I.tuple_inj hy J];exact hx⟩,fN,λb j=>(G b j).1⟩⟩
 done:=by
  intro X hP hw hK hc i ad s Z H E I G st hg;subst hP hw hK;obtain⟨xs,J,hx⟩:=hg;obtain⟨b_,rv,p,hz⟩:=I.tuple J;obtain⟨f0,f1,f2,O,U,Y⟩:=G it (by simp);have hl:=rv.length;exact wpAny_pyNext_tuple_end (I.ok.hd hc) st (show s.heap.IsTuple a b_.toArray from p) (by simp;omega) λh' eb=>⟨rfl,I.turned (t':=s.toks) (λb o j e=>eb b o j e) f0 f1 O U Y⟩
 self:=λ_ _ _ _ _ st h=>wpAny_pyIter_tupleiter st h
theorem Z0(it:Addr)(lo:Int)(n:Nat):oA P w K tg (oC lo n) [it] it (λi h=>IsRangeIter h it (lo+(i:Nat) * 1) ((n:Int) - (i:Nat)) 1) where
 mem:=by simp
 obj:=λi h st b j=>by
  have e:b=it:=by simpa using j
  subst e;exact⟨_,st,λv z=>by
   have z':Data.fields _=Data.cell v:=z;cases z'⟩
 keep:=λi h h' st k=>k it (by simp) _ st
 item:=by
  intro X hP hw Y hc i ad s Z H E I G st hg;subst hP hw Y;obtain⟨f0,f1,f2,J,O,U⟩:=G it (by simp);have W:=Walks.range (prog:=X.prog) (w:=X.w) (I.ok.hd hc) it lo 1 n;refine W.item i s _ _ hg st λv h' tk hv fN kk=>?_;obtain⟨t,rfl⟩:=hv;have I1:Inv X ad Z H { s with heap:=h',toks:=tk }:=I.turned (λb o j e=>kk b o (by simpa using j) e) f0 f1 J O U;refine⟨_,rfl,Bf (s:={ s with heap:=h',toks:=tk }) (n:="range_iterator") fN rfl rfl (by decide) ⟨.int (lo+i),H,I1,⟨t,?_⟩,⟨rfl,rfl⟩,fN,λb j=>(G b j).1⟩⟩;rw[Int.mul_one]
 done:=by
  intro X hP hw Y hc i ad s Z H E I G st hg;subst hP hw Y;obtain⟨f0,f1,f2,J,O,U⟩:=G it (by simp);exact wpAny_pyNext_range_end (I.ok.hd hc) st (by have:n<=i:=hg;omega) λh' eb=>⟨rfl,I.turned (t':=s.toks) (λb o j e=>eb b o j e) f0 f1 J O U⟩
 self:=λ_ _ _ _ _ st h=>wpAny_pyIter_rangeiter st h
inductive NC (K:Fg) (R:It->Hp->Prop) (H1:Hp):V->Prop where
 | mk {a:Addr} (_:(∃xs,aa K H1 a xs)) (_:R (mS K a) H1):NC K R H1 (.ref a)
def Z1(K:Fg)(tl:TE):TI:=λZ H R=>tl Z H λx H1=>NC K R H1 x
inductive ND (K:Fg) (R:It->Hp->Prop) (H1:Hp):V->Prop where
 | mk {a:Addr} (_:(∃xs,aZ K H1 a xs)) (_:R (EZ K a) H1):ND K R H1 (.ref a)
def Z3(K:Fg)(tl:TE):TI:=λZ H R=>tl Z H λx H1=>ND K R H1 x
theorem cL{l:Expr}{tl:TE}(O:PE X l tl):PI X tg l (Z1 X.K tl):=by
 intro ad s Z H R I h;refine thn (O ad s Z H _ I h) λv z G=>aP G λx H1 j r1 Y=>?_;obtain @⟨a,⟨xs,U⟩,q⟩:=Y;cases r1;obtain⟨b_,rv,p,hz⟩:=j.list U;refine Mu p.isList ?_;refine⟨z.heap.objs.size,[z.heap.objs.size],_,_,H1,rfl,j.kept (t':=z.toks) λb o e=>cf _ e,ZY a _,⟨_,dN _ rfl,rfl,rfl⟩,λb J=>?_,q⟩;have e:b=z.heap.objs.size:=by simpa using J
 subst e;exact j.fpOk (aG _) (j.hok.fresh (aG _))
theorem Z5{l:Expr}{tl:TE}(O:PE X l tl):PI X tg l (Z3 X.K tl):=by
 intro ad s Z H R I h;refine thn (O ad s Z H _ I h) λv j G=>aP G λx H1 z r1 Y=>?_;obtain @⟨a,⟨xs,U⟩,q⟩:=Y;cases r1;obtain⟨b_,rv,p,hz⟩:=z.tuple U;refine wpAny_pyIter_tuple (show j.heap.IsTuple a b_.toArray from p) ?_;refine⟨j.heap.objs.size,[j.heap.objs.size],_,_,H1,rfl,z.kept (t':=j.toks) λb o e=>cf _ e,ZZ a _,⟨_,dN _ rfl,rfl,rfl⟩,λb J=>?_,q⟩;have e:b=j.heap.objs.size:=by simpa using J
 subst e;exact z.fpOk (aG _) (z.hok.fresh (aG _))
theorem NE{H:Hp}{R:It->Hp->Prop}{lo hi:Int}{t u v:Tok}{tk:Nat}(I:Inv X ad Z H s)(h1:-(2 ^ 62)<=lo)(h2:lo<2 ^ 62)(z:-(2 ^ 62)<=hi)(G:hi<2 ^ 62)
 (q:R (oC lo (hi - lo).toNat) H):wpAny (model X.prog X.w) X.A (pyIter (.ref s.heap.objs.size)) (EY X ad Z tg R) E { s with heap:=s.heap.push { cls:=.type "range",data:=.fields #[.int lo t,.int hi u,.int 1 v] },toks:=tk }:=by
 refine wpAny_pyIter_range (IsRange.new ..) (small_one h1 h2 z G) ?_;have j:Inv X ad Z H { s with heap:=s.heap.push { cls:=.type "range",data:=.fields #[.int lo t,.int hi u,.int 1 v] },toks:=tk }:=I.kept λb o e=>cf _ e;refine⟨(s.heap.push { cls:=.type "range",data:=.fields #[.int lo t,.int hi u,.int 1 v] }).objs.size,[(s.heap.push { cls:=.type "range",data:=.fields #[.int lo t,.int hi u,.int 1 v] }).objs.size],_,_,H,rfl,
  j.kept (t':=tk) λb o e=>cf _ e,Z0 _ lo (hi - lo).toNat,?_,λb J=>?_,q⟩
 . have e1:lo+((0:Nat):Int) * 1=lo:=by simp
   have e2:(((hi - lo).toNat:Nat):Int) - ((0:Nat):Int)=Builtin.Range.rangeSize lo hi 1:=by rw[rangeSize_one];split<;>omega
   show IsRangeIter _ _ (lo+((0:Nat):Int) * 1) ((((hi - lo).toNat:Nat):Int) - ((0:Nat):Int)) 1;rw[e1,e2];exact dN _ rfl
 have e:b=(s.heap.push { cls:=.type "range",data:=.fields #[.int lo t,.int hi u,.int 1 v] }).objs.size:=by simpa using J
 subst e;exact j.fpOk (aG _) (j.hok.fresh (aG _))
inductive NG (R:It->Hp->Prop) (H1:Hp):Lv->Prop where
 | mk {j:Int} (_:-(2 ^ 62)<=j) (_:j<2 ^ 62) (_:R (oC 0 j.toNat) H1):NG R H1 [.int j]
def Z7(ta:TA):TI:=λZ H R=>ta Z H λvs H1=>NG R H1 vs
inductive NH (R:It->Hp->Prop) (H1:Hp):Lv->Prop where
 | mk {i:Int}{j:Int} (_:(-(2 ^ 62)<=i/\i<2 ^ 62/\-(2 ^ 62)<=j/\j<2 ^ 62)) (_:R (oC i (j - i).toNat) H1):NH R H1 [.int i,.int j]
def Z8(ta:TA):TI:=λZ H R=>ta Z H λvs H1=>NH R H1 vs
theorem oE{a:Expr}{ta:TA}{pos:Pos}(U:Gl X "range")(Y:X.mg "range"=none)(O:PA X [a] ta)(hs:starEach [a] X.env=[(false,eval a X.env)]:=by rfl):PI X tg (.Call (.Name "range" p) [a] [] pos) (Z7 ta):=by
 intro ad s Z H R I h;refine Call_ (tq I U Y boot_range (Mw (thn (O pos ad s Z H _ I h) λus s1 J=>aP J λvs H1 G r1 z=>?_) hs rfl));obtain @⟨j,z,q2,q⟩:=z;cases r1 with
 | cons r rr=>
  cases rr;obtain⟨t,rfl⟩:=r;exact call_range_1 (NE G (by omega) (by omega) z q2 (by simpa using q))
theorem E2{a b:Expr}{ta:TA}{pos:Pos}(hg:Gl X "range")(hm:X.mg "range"=none)(Y:PA X [a,b] ta)(hs:starEach [a,b] X.env=[(false,eval a X.env),(false,eval b X.env)]:=by rfl)(J:starEach [b] X.env=[(false,eval b X.env)]:=by rfl) :
 PI X tg (.Call (.Name "range" p) [a,b] [] pos) (Z8 ta):=by
 intro ad s Z H R I h;refine Call_ (tq I hg hm boot_range (Mw (thn (Y pos ad s Z H _ I h) λus s1 U=>aP U λvs H1 O r1 z=>?_) (by rw[hs,J]) (by rw[J];rfl)));obtain @⟨i,j,⟨z,q2,q3,q4⟩,q⟩:=z;cases r1 with
 | cons r G=>
  cases G with
  | cons r' G=>
   cases G;obtain⟨t,rfl⟩:=r;obtain⟨t',rfl⟩:=r';exact call_range_2 (NE O z q2 q3 q4 q)
def aab(j:TI)(g:TG)(tb:TS):TS:=λD Z H=>j Z H λJ H1=>∃W:Nat->Nat->St->Hp->Prop,(∃m,W 0 m Z H1)/\∀i m Z H,W i m Z H ->
 (J.stop i H/\D.nx Z H)\/(J.go i H/\∃N:St->Hp->Prop,(∀σ' H',N σ' H'->∃m',m'<m/\W (i+1) m' σ' H')/\∀x H',J.yld i H x H'->g x Z H' λσ2 H2=>tb { D with nx:=N,ct:=N,bk:=D.nx } σ2 H2)
def tE(fp:List Addr)(h:Heap):Po:=fp.filterMap λb=>(h.get? b).map λo=>(b,o)
theorem qF{h:Heap}{b:Addr}{o:Obj}(j:b∈fp)(e:h.get? b=some o):(b,o)∈tE fp h:=Mx.mpr ⟨b,j,by rw[e];rfl⟩
theorem aac{h:Heap}{p:Addr×Obj}(G:p∈tE fp h):p.1∈fp/\h.get? p.1=some p.2:=by
 obtain⟨b,z,e⟩:=Mx.mp G;cases q:h.get? b with
 | none=>rw[q]at e;cases e
 | some o=>
  rw[q]at e;have j:(b,o)=p:=hJ e;subst j;exact⟨z,q⟩
theorem Inv.pinned{H:Hp}(I:Inv X ad Z H s)(O:∀b∈fp,fB X ad H b)(U:∀b∈fp,∃o,s.heap.get? b=some o/\∀v,o.data≠.cell v):Inv X (ad++tE fp s.heap) Z H s:=
 I.pins_of λp Y=>(bR.mp Y).elim (λz=>I.pin p (eU _ z)) λz=>by
  obtain⟨G,e⟩:=aac z;obtain⟨f0,f1,J,_⟩:=O p.1 G;obtain⟨o,j,d⟩:=U p.1 G;rw[e]at j;cases j;exact⟨e,f0,f1,J,d⟩
theorem Inv.unpinned{pl:Po}{H:Hp}(I:Inv X (ad++pl) Z H s):Inv X ad Z H s:=I.pins_of λp j=>I.pin p (eU _ (xD _ j))
theorem eV{iter:Expr}{wi:TI}{pos:Pos}(O:PassesOwn (model X.prog X.w) X.A X.env X.xe)(hc:X.calm=true)(hi:PI X tg iter wi)(hg:PG X tg g)(z:cg X body tb)
 (hs:∀x,foldedSetIterable iter X.env x=pure x:=by intro _;rfl):PS X (.For tg iter body [] pos) (aab wi g tb):=by
 intro ad s Z H D I h;refine wpAny_For (thn (hi ad s Z H _ I h) λv s1 h1=>thn h1 λBe s2 h2=>?_) hs;obtain⟨it,fp,tn,J,H2,e,I2,T,gj,f2,W,⟨m0,w0⟩,ab⟩:=h2;subst e;have Y:∀{H':Hp},(∀b∈fp,H' b=none)->∀b∈fp,fB X ad H' b:=λhn b z=>⟨hn b z,(f2 b z).2⟩;refine codeAny_forLoop_any (λn s'=>∃i σ' H',Inv X ad σ' H' s'/\tn i s'.heap/\(∀b∈fp,H' b=none)/\W i n σ' H') ?_ m0 ⟨0,Z,H2,I2,gj,λb z=>(f2 b z).1,w0⟩;rintro n s3 ⟨i,σ3,H3,I3,tF,NJ,w3⟩
 rcases ab i n σ3 H3 w3 with⟨stop,qn⟩ | ⟨go,N,hN,step⟩
 . refine xE O (thn (T.done X rfl rfl rfl hc i ad s3 σ3 H3 X.xe I3 (Y NJ) tF stop) λr s4 a1=>a1.elim λhr I4=>?_);subst hr;exact Eu ⟨σ3,H3,I4,qn⟩
 refine xE O (thn (T.item X rfl rfl rfl hc i ad s3 σ3 H3 X.xe I3 (Y NJ) tF go) λr s4 a2=>a2.elim λu a3=>a3.elim λhr h4=>?_);subst hr;refine xE O (thn h4 λ_ s5 a4=>aP a4 λx H5 I5 r5 a5=>a5.elim λy5 a6=>a6.elim λtG E4=>?_);have a0:=I5.pinned (Y E4) (T.obj _ _ tG);refine xE O (thn (hg _ s5 σ3 H5 x u _ a0 r5 (step x H5 y5)) λ_ s6 a7=>a7.elim λσ6 a8=>a8.elim λH6 a9=>a9.elim λI6 q6=>?_);refine xE O (thn (z _ s6 σ6 H6 _ I6 q6) λf s7 G=>?_);have again:∀{σ7:St}{H7:Hp},Inv X (ad++tE fp s5.heap) σ7 H7 s7->N σ7 H7->∃m,m<n/\∃i σ' H',Inv X ad σ' H' s7/\tn i s7.heap/\(∀b∈fp,H' b=none)/\W i m σ' H':=λ{σ7 H7} j U=>by
  obtain⟨m',hm,w7⟩:=hN σ7 H7 U;refine⟨m',hm,i+1,σ7,H7,j.unpinned,T.keep _ _ _ tG λb z o e=>(j.pin (b,o) (eU _ (eU _ (qF z e)))).1,λb z=>?_,w7⟩;obtain⟨o,e,d⟩:=T.obj _ _ tG b z;exact(j.pin (b,o) (eU _ (eU _ (qF z e)))).2.1
 cases f with
 | next=>obtain⟨σ7,H7,j,U⟩:=G;exact again j U
 | cont=>obtain⟨σ7,H7,j,U⟩:=G;exact again j U
 | brk=>obtain⟨σ7,H7,j,G⟩:=G;exact⟨σ7,H7,j.unpinned,G⟩
 | ret v=>obtain⟨x7,σ7,H7,j,r7,G⟩:=G;exact⟨x7,σ7,H7,j.unpinned,r7,G⟩
theorem iN{xs:Lv}{H:Hp}(Pv:Nat->St->Hp->Prop)(h0:Pv 0 Z H)(z:∀i Z H,i<=xs.length->Pv i Z H->aa K H a xs)
 (hs:∀i x Z H,xs[i]?=some x->Pv i Z H->g x Z H λσ2 H2=>tb { D with nx:=Pv (i+1),ct:=Pv (i+1),bk:=D.nx } σ2 H2) (hd:∀Z H,Pv xs.length Z H->D.nx Z H) :
 ∃W:Nat->Nat->St->Hp->Prop,(∃m,W 0 m Z H)/\∀i m Z H,W i m Z H ->
  ((mS K a).stop i H/\D.nx Z H)\/((mS K a).go i H/\∃N:St->Hp->Prop,(∀σ' H',N σ' H'->∃m',m'<m/\W (i+1) m' σ' H')/\∀x H',(mS K a).yld i H x H'->g x Z H' λσ2 H2=>tb { D with nx:=N,ct:=N,bk:=D.nx } σ2 H2):=by
 refine⟨λi m Z H=>m=xs.length - i/\i<=xs.length/\Pv i Z H,⟨xs.length,by simp,dF _,h0⟩,?_⟩;rintro i m Z H ⟨rfl,hi,p⟩;have q:=z i Z H hi p
 by_cases j:i<xs.length
 . refine .inr ⟨⟨xs,xs[i],q,by simp[j]⟩,Pv (i+1),λσ' H' G=>⟨xs.length - (i+1),by omega,rfl,j,G⟩,λx H' y=>?_⟩;obtain⟨e,y⟩:=y;subst e;exact hs i x Z _ (y xs q) p
 have e:i=xs.length:=by omega
 subst e;exact .inl ⟨⟨xs,q,aG _⟩,hd Z H p⟩
theorem vx{lo:Int}{H:Hp}(Pv:Nat->St->Hp->Prop)(h0:Pv 0 Z H)
 (hs:∀i Z H,i<n->Pv i Z H->g (.int (lo+i)) Z H λσ2 H2=>tb { D with nx:=Pv (i+1),ct:=Pv (i+1),bk:=D.nx } σ2 H2) (hd:∀Z H,Pv n Z H->D.nx Z H) :
 ∃W:Nat->Nat->St->Hp->Prop,(∃m,W 0 m Z H)/\∀i m Z H,W i m Z H ->
  ((oC lo n).stop i H/\D.nx Z H)\/((oC lo n).go i H/\∃N:St->Hp->Prop,(∀σ' H',N σ' H'->∃m',m'<m/\W (i+1) m' σ' H')/\∀x H',(oC lo n).yld i H x H'->g x Z H' λσ2 H2=>tb { D with nx:=N,ct:=N,bk:=D.nx } σ2 H2):=by
 refine⟨λi m Z H=>m=n - i/\i<=n/\Pv i Z H,⟨n,by simp,dF _,h0⟩,?_⟩;rintro i m Z H ⟨rfl,hi,p⟩
 by_cases j:i<n
 . refine .inr ⟨j,Pv (i+1),λσ' H' z=>⟨n - (i+1),by omega,rfl,j,z⟩,λx H' y=>?_⟩;obtain⟨e,y⟩:=y;subst e y;exact hs i Z _ j p
 have e:i=n:=by omega
 subst e;exact .inl ⟨aG _,hd Z H p⟩
abbrev R2:=V->V->Hp->VK->Prop
variable {r:R2}
def cM(X:Cx)(f:Value->Value->Sem Value)(r:R2):Prop:=
 ∀(ad:Po) (s:Shared) (Z:St) (H:Hp) (x y:V) (v u:Value) (Q:VK),Inv X ad Z H s->RelV x v->RelV y u->r x y H Q ->
  wpAny (model X.prog X.w) X.A (f v u) (EP X ad Z Q) X.xe s
def E5(X:Cx)(f:Value->Sem Value)(r:V->Hp->VK->Prop):Prop:=
 ∀(ad:Po) (s:Shared) (Z:St) (H:Hp) (x:V) (v:Value) (Q:VK),Inv X ad Z H s->RelV x v->r x H Q ->
  wpAny (model X.prog X.w) X.A (f v) (EP X ad Z Q) X.xe s
def fe(X:Cx)(f:Value)(r:Lv->Hp->VK->Prop):Prop:=
 ∀(ad:Po) (s:Shared) (Z:St) (H:Hp) (xs:Lv) (us:Lw) (Q:VK),Inv X ad Z H s->aY xs us->r xs H Q ->
  wpAny (model X.prog X.w) X.A (call f us) (EP X ad Z Q) X.xe s
def Bg(r:R2)(ta tb:TE):TE:=λZ H Q=>ta Z H λx H1=>tb Z H1 λy H2=>r x y H2 Q
def tUn(r:V->Hp->VK->Prop)(ta:TE):TE:=λZ H Q=>ta Z H λx H1=>r x H1 Q
inductive NK (C:Int->Int->Prop) (g:Int->Int->V) (H:Hp) (Q:VK):V->V->Prop where
 | mk {i:Int}{j:Int} (_:C i j) (_:Q (g i j) H):NK C g H Q (.int i) (.int j)
def rI(C:Int->Int->Prop)(g:Int->Int->V):R2:=λx y H Q=>NK C g H Q x y
inductive NL (g:Int->Int->V) (H:Hp) (Q:VK):V->V->Prop where
 | mk {i:Int}{j:Int} (_:Q (g i j) H):NL g H Q (.int i) (.int j)
def tH(g:Int->Int->V):R2:=λx y H Q=>NL g H Q x y
def rU(g:Int->V):V->Hp->VK->Prop:=λx H Q=>∃i,x=.int i/\Q (g i) H
section
variable {a b:Expr}{ta tb tc:TE}{pos:Pos}
theorem E6(U:PE X a ta)(Y:PE X b tb){H:Hp}{R:V->V->Hp->Prop}(I:Inv X ad Z H s)
 (h:ta Z H λx H1=>tb Z H1 λy H2=>R x y H2) {Q:VP}{f:Value->Value->Sem Value}
 (hf:∀v u j x y H2,Inv X ad Z H2 j->RelV x v->RelV y u->R x y H2->wpAny (model X.prog X.w) X.A (f v u) Q X.xe j) :
 wpAny (model X.prog X.w) X.A (eval a X.env) (λv s₁=>wpAny (model X.prog X.w) X.A (eval b X.env) (λu s₂=>wpAny (model X.prog X.w) X.A (f v u) Q X.xe s₂) X.xe s₁) X.xe s:=by
 refine thn (U ad s Z H _ I h) λv s1 J=>aP J λx H1 z r1 q1=>?_;refine thn (Y ad s1 Z H1 _ z q1) λu j O=>aP O λy H2 G r2 q2=>?_;exact hf v u j x y H2 G r1 r2 q2
theorem aw{op:Operator}(J:cM X (binaryOp op) r)(z:PE X a ta)(G:PE X b tb):PE X (.BinOp a op b pos) (Bg r ta tb):=by
 intro ad s Z H Q I h;exact wpAny_BinOp (E6 z G I h λv u Y x y H2 j O U q=>J ad Y Z H2 x y v u Q j O U q)
theorem qG{op:UnaryOp}{r:V->Hp->VK->Prop}(J:E5 X (unaryOp op) r)(G:PE X a ta):PE X (.UnaryOp op a pos) (tUn r ta):=by
 intro ad s Z H Q I h;exact UnaryOp_ (thn (G ad s Z H _ I h) λv Y z=>aP z λx H1 j U O=>J ad Y Z H1 x v Q j U O)
theorem Bh{f:Value->Value->Sem Value}{C:Int->Int->Prop}{g:Int->Int->Int}
 (rule:∀(i j:Int) (t u:Tok) (s:Shared) (Q:VP) (E:VP),C i j->Q (.int (g i j) s.toks) { s with toks:=s.toks+1 }->wpAny (model X.prog X.w) X.A (f (.int i t) (.int j u)) Q E s) :
 cM X f (rI C λi j=>.int (g i j)):=by
 intro ad s Z H x y v u Q I G J h;obtain @⟨i,j,z,q⟩:=h;obtain⟨t,rfl⟩:=G;obtain⟨t',rfl⟩:=J;exact rule i j t t' s _ _ z ⟨.int (g i j),H,I.tok _,⟨_,rfl⟩,q⟩
theorem NM{f:Value->Value->Sem Value}{g:Int->Int->Int}
 (rule:∀(i j:Int) (t u:Tok) (s:Shared) (Q:VP) (E:VP),Q (.int (g i j) s.toks) { s with toks:=s.toks+1 }->wpAny (model X.prog X.w) X.A (f (.int i t) (.int j u)) Q E s) :
 cM X f (tH λi j=>.int (g i j)):=by
 intro ad s Z H x y v u Q I z G h;obtain @⟨i,j,q⟩:=h;obtain⟨t,rfl⟩:=z;obtain⟨t',rfl⟩:=G;exact rule i j t t' s _ _ ⟨.int (g i j),H,I.tok _,⟨_,rfl⟩,q⟩
theorem E7{f:Value->Value->Sem Value}{g:Int->Int->Bool}
 (rule:∀(i j:Int) (t u:Tok) (s:Shared) (Q:VP) (E:VP),Q (.bool (g i j)) s->wpAny (model X.prog X.w) X.A (f (.int i t) (.int j u)) Q E s) :
 cM X f (tH λi j=>.bl (g i j)):=by
 intro ad s Z H x y v u Q I z G h;obtain @⟨i,j,q⟩:=h;obtain⟨t,rfl⟩:=z;obtain⟨t',rfl⟩:=G;exact rule i j t t' s _ _ ⟨.bl (g i j),H,I,rfl,q⟩
def aar(i j:Int):Prop:=0<j/\j<1073741824
def aas(i j:Int):Prop:=0<=j/\j<=1000000/\i.natAbs<2 ^ 64
def E8(i j:Int):Prop:=(-(2 ^ 64)<i/\i<2 ^ 64)\/(-(2 ^ 64)<j/\j<2 ^ 64)
theorem E8.ok{i j:Int}(h:E8 i j):IntMulOk i j:=by
 rcases h with⟨h1,h2⟩ | ⟨h1,h2⟩
 . exact .of_left (intBits_le_64 h1 h2)
 exact .of_right (intBits_le_64 h1 h2)
theorem fO:cM X (binaryOp .Add) (tH λi j=>.int (i+j)):=NM λ_ _ _ _ _ _ _ q=>add_int q
theorem E9:cM X (binaryOp .Sub) (tH λi j=>.int (i - j)):=NM λ_ _ _ _ _ _ _ q=>sub_int q
theorem vy:cM X (binaryOp .Mult) (rI E8 λi j=>.int (i * j)):=Bh λ_ _ _ _ _ _ _ z q=>mul_int q z.ok
theorem ff:cM X (binaryOp .FloorDiv) (rI aar λi j=>.int (i / j)):=Bh λi j _ _ _ _ _ z q=>by
 have h1:(0:Int)<j:=z.1;have h2:j<1073741824:=z.2;exact floordiv_int (by omega) (by rw[Int.fdiv_eq_ediv_of_nonneg i (by omega)];exact q) (.inl (PyProof.noPylong_small (by omega)))
theorem bZ:cM X (binaryOp .Mod) (rI (λ_ j=>0<j) λi j=>.int (i % j)):=Bh λi j _ _ _ _ _ z q=>by
 have h1:(0:Int)<j:=z;exact mod_int' (by omega) (by rw[Int.fmod_eq_emod_of_nonneg i (by omega)];exact q)
theorem Bi:cM X (binaryOp .Pow) (rI aas λi j=>.int (i ^ j.toNat)):=Bh λ_ _ _ _ _ _ _ z q=>pow_int_small z.1 z.2.1 z.2.2 q
theorem unI{f:Value->Sem Value}{g:Int->Int}
 (rule:∀(i:Int) (t:Tok) (s:Shared) (Q:VP) (E:VP),Q (.int (g i) s.toks) { s with toks:=s.toks+1 }->wpAny (model X.prog X.w) X.A (f (.int i t)) Q E s) :
 E5 X f (rU λi=>.int (g i)):=by
 intro ad s Z H x v Q I j h;obtain⟨i,rfl,q⟩:=h;obtain⟨t,rfl⟩:=j;exact rule i t s _ _ ⟨.int (g i),H,I.tok _,⟨_,rfl⟩,q⟩
theorem qH:E5 X (unaryOp .USub) (rU λi=>.int (-i)):=unI λ_ _ _ _ _ q=>neg_int q
end
def NO:V->V->Bool
 | .non,.non=>true | .non,.int _=>true | .int _,.non=>true | .non,.bl _=>true | .bl _,.non=>true | .non,.str _=>true | .str _,.non=>true
 | .int _,.int _=>true | .bl _,.bl _=>true | .str _,.str _=>true | .byt _,.byt _=>true
 | .int _,.str _=>true | .str _,.int _=>true | .bl _,.str _=>true | .str _,.bl _=>true
 | _,_=>false
def rEq:R2:=λx y H Q=>NO x y=true/\Q (.bl (decide (x=y))) H
def rNe:R2:=λx y H Q=>NO x y=true/\Q (.bl (!decide (x=y))) H
theorem NQ{i j:Int}:decide (V.int i=V.int j)=(i == j):=by
 rw[xF];simp
theorem NR{i j:Bool}:decide (V.bl i=V.bl j)=(i == j):=by
 rw[xF];simp
theorem NS{i j:Str}:decide (V.str i=V.str j)=(i == j):=by
 rw[xF];simp
theorem NT{i j:Array UInt8}:decide (V.byt i=V.byt j)=(i.toList == j.toList):=by
 rw[xF];cases i;cases j;simp
section
variable {a b:Expr}{ta tb tc:TE}{pos:Pos}
theorem db{H:Hp}{Q:VK}{k k':Bool}(I:Inv X ad Z H s)(q:Q (.bl k) H)(e:k=k'):EP X ad Z Q (.bool k') s:=by
 subst e;exact⟨.bl k,H,I,rfl,q⟩
theorem fC:cM X (compareOp .Eq) rEq:=by
 intro ad s Z H x y v u Q I G z h;obtain⟨hs,q⟩:=h;cases x with
 | non=>
  cases G;cases y with
  | non=>cases z;exact PySem.EqNone.eq_none_none (db I q (by simp))
  | bl j=>cases z;exact PySem.EqNone.eq_none_bool (db I q (by simp))
  | int j=>obtain⟨t',rfl⟩:=z;exact PySem.EqNone.eq_none_int (db I q (by simp))
  | str j=>obtain⟨t',rfl⟩:=z;exact PySem.EqNone.eq_none_str (db I q (by simp))
  | _=>exact absurd (show false=true from hs) cW
 | bl i=>
  cases G;cases y with
  | non=>cases z;exact PySem.EqNone.eq_bool_none (db I q (by simp))
  | bl j=>cases z;exact eq_bool (db I q NR)
  | str j=>obtain⟨t',rfl⟩:=z;exact PySem.EqMixed.eq_bool_str (db I q (by simp))
  | _=>exact absurd (show false=true from hs) cW
 | int i=>
  obtain⟨t,rfl⟩:=G;cases y with
  | non=>cases z;exact PySem.EqNone.eq_int_none (db I q (by simp))
  | int j=>obtain⟨t',rfl⟩:=z;exact eq_int (db I q NQ)
  | str j=>obtain⟨t',rfl⟩:=z;exact PySem.EqMixed.eq_int_str (db I q (by simp))
  | _=>exact absurd (show false=true from hs) cW
 | str i=>
  obtain⟨t,rfl⟩:=G;cases y with
  | non=>cases z;exact PySem.EqNone.eq_str_none (db I q (by simp))
  | bl j=>cases z;exact PySem.EqMixed.eq_str_bool (db I q (by simp))
  | int j=>obtain⟨t',rfl⟩:=z;exact PySem.EqMixed.eq_str_int (db I q (by simp))
  | str j=>obtain⟨t',rfl⟩:=z;exact eq_str (db I q NS)
  | _=>exact absurd (show false=true from hs) cW
 | byt i=>
  obtain⟨t,rfl⟩:=G;cases y with
  | byt j=>obtain⟨t',rfl⟩:=z;exact W.eq_bytes (db I q NT)
  | _=>exact absurd (show false=true from hs) cW
 | _=>cases y<;>exact absurd (show false=true from hs) cW
theorem Bj:cM X (compareOp .NotEq) rNe:=by
 intro ad s Z H x y v u Q I G z h;obtain⟨hs,q⟩:=h;cases x with
 | non=>
  cases G;cases y with
  | non=>cases z;exact PySem.EqNone.ne_none_none (db I q (by simp))
  | bl j=>cases z;exact PySem.EqNone.ne_none_bool (db I q (by simp))
  | int j=>obtain⟨t',rfl⟩:=z;exact PySem.EqNone.ne_none_int (db I q (by simp))
  | str j=>obtain⟨t',rfl⟩:=z;exact PySem.EqNone.ne_none_str (db I q (by simp))
  | _=>exact absurd (show false=true from hs) cW
 | bl i=>
  cases G;cases y with
  | non=>cases z;exact PySem.EqNone.ne_bool_none (db I q (by simp))
  | bl j=>cases z;exact ne_bool (db I q (fw not NR))
  | str j=>obtain⟨t',rfl⟩:=z;exact PySem.EqMixed.ne_bool_str (db I q (by simp))
  | _=>exact absurd (show false=true from hs) cW
 | int i=>
  obtain⟨t,rfl⟩:=G;cases y with
  | non=>cases z;exact PySem.EqNone.ne_int_none (db I q (by simp))
  | int j=>obtain⟨t',rfl⟩:=z;exact ne_int (db I q (fw not NQ))
  | str j=>obtain⟨t',rfl⟩:=z;exact PySem.EqMixed.ne_int_str (db I q (by simp))
  | _=>exact absurd (show false=true from hs) cW
 | str i=>
  obtain⟨t,rfl⟩:=G;cases y with
  | non=>cases z;exact PySem.EqNone.ne_str_none (db I q (by simp))
  | bl j=>cases z;exact PySem.EqMixed.ne_str_bool (db I q (by simp))
  | int j=>obtain⟨t',rfl⟩:=z;exact PySem.EqMixed.ne_str_int (db I q (by simp))
  | str j=>obtain⟨t',rfl⟩:=z;exact ne_str (db I q (fw not NS))
  | _=>exact absurd (show false=true from hs) cW
 | byt i=>
  obtain⟨t,rfl⟩:=G;cases y with
  | byt j=>obtain⟨t',rfl⟩:=z;exact W.ne_bytes (db I q (fw not NT))
  | _=>exact absurd (show false=true from hs) cW
 | _=>cases y<;>exact absurd (show false=true from hs) cW
theorem qI:cM X (compareOp .Lt) (tH λi j=>.bl (decide (i<j))):=E7 λ_ _ _ _ _ _ _ q=>lt_int q
theorem Bl:cM X (compareOp .LtE) (tH λi j=>.bl (decide (i<=j))):=E7 λ_ _ _ _ _ _ _ q=>le_int q
theorem Bm:cM X (compareOp .Gt) (tH λi j=>.bl (decide (j<i))):=E7 λ_ _ _ _ _ _ _ q=>gt_int q
theorem aaw:cM X (compareOp .Is) (λx y H Q=>y=.non/\Q (.bl (decide (x=.non))) H):=by
 intro ad s Z H x y v u Q I j z h;obtain⟨rfl,q⟩:=h;cases z;refine is_none_gen (db I q ?_);cases x<;>first
  | (cases j;rfl)
  | (obtain⟨t,rfl⟩:=j;rfl)
theorem Fb:cM X (compareOp .IsNot) (λx y H Q=>y=.non/\Q (.bl (!decide (x=.non))) H):=by
 intro ad s Z H x y v u Q I j z h;obtain⟨rfl,q⟩:=h;cases z;refine isnot_none_gen (db I q ?_);cases x<;>first
  | (cases j;rfl)
  | (obtain⟨t,rfl⟩:=j;rfl)
theorem bC(b:Expr){op:CmpOp}(h:op≠.In:=by decide)(h2:op≠.NotIn:=by decide):behindInMarks op b=false:=by
 have e1:(op == CmpOp.In)=false:=by cases op<;>first | rfl | exact absurd rfl h
 have e2:(op == CmpOp.NotIn)=false:=by cases op<;>first | rfl | exact absurd rfl h2
 cases b<;>simp[behindInMarks,e1,e2]
theorem jl{op:CmpOp}(O:cM X (compareOp op) r)(z:PE X a ta)(G:PE X b tb)(J:behindInMarks op b=false):PE X (.Compare a [op] [b] pos) (Bg r ta tb):=by
 intro ad s Z H Q I h;exact wpAny_Compare1 (E6 z G I h λv u s2 x y H2 j U Y q=>O ad s2 Z H2 x y v u Q j U Y q) J
inductive NW (Q:Bool->Hp->Prop) (H':Hp):V->Prop where
 | mk {k:Bool} (_:Q k H'):NW Q H' (.bl k)
def aax(t:TE):TT:=λZ H Q=>t Z H λx H'=>NW Q H' x
theorem bW{op:CmpOp}(ho:cM X (compareOp op) r)(ha:PE X a ta)(hb:PE X b tb)(hm:behindInMarks op b=false):PT X (.Compare a [op] [b] pos) (aax (Bg r ta tb)):=by
 intro ad s Z H Q I h;refine awo (thn (ha ad s Z H _ I h) λv s1 Y=>aP Y λx H1 G r1 q1=>thn (hb ad s1 Z H1 _ G q1) λu s2 a0=>aP a0 λy H2 J r2 q2=>
  thn (ho ad s2 Z H2 x y v u _ J r1 r2 q2) λc s3 U=>aP U λz H3 O r3 j=>?_) hm
 obtain @⟨k,q3⟩:=j;cases r3;exact qb ⟨H3,O,q3⟩
inductive NX (j:R2) (tc:TE) (Z:St) (Q:VK) (y:V) (H3:Hp):V->Prop where
 | mk {k:Bool} (_:(if k=true then tc Z H3 λG z=>j y G z Q else Q (.bl false) H3)):NX j tc Z Q y H3 (.bl k)
def aaB(r j:R2)(ta tb tc:TE):TE:=λZ H Q=>ta Z H λx H1=>tb Z H1 λy H2=>r x y H2 λz H3=>NX j tc Z Q y H3 z
theorem Fe{op j:CmpOp}{O:R2}(ho:cM X (compareOp op) r)(iq:cM X (compareOp j) O)(ha:PE X a ta)(hb:PE X b tb)(hc:PE X c tc)
 (hm:lastMarks [op,j] [b,c]=false:=by with_unfolding_all rfl):PE X (.Compare a [op,j] [b,c] pos) (aaB r O ta tb tc):=by
 intro ad s Z H Q I h;refine Compare_chain (thn (ha ad s Z H _ I h) λv s1 a0=>aP a0 λx H1 I1 r1 q1=>chain_link (thn (hb ad s1 Z H1 _ I1 q1) λu s2 a1=>aP a1 λy H2 I2 U q2=>
  thn (ho ad s2 Z H2 x y v u _ I2 r1 U q2) λd s3 a2=>aP a2 λz H3 G r3 Y=>?_)) hm
 obtain @⟨k,J⟩:=Y;cases r3;refine qb ?_;cases k with
 | false=>exact ite_ff ⟨.bl false,H3,G,rfl,J⟩
 | true=>exact ite_tt (chain_last (thn (hc ad s3 Z H3 _ G J) λw' s4 a3=>aP a3 λz' H4 I4 r4 q4=>iq ad s4 Z H4 y z' u w' Q I4 U r4 q4))
theorem x6:(sizeLine:Nat)<2 ^ 63:=by rw[sK];decide
theorem yc:cM X (binaryOp .Add) (λx y H Q=>∃i j,x=.str i/\y=.str j/\i.length+j.length<=sizeLine/\Q (.str (i++j)) H):=by
 intro ad s Z H x y v u Q I z G h;obtain⟨i,j,rfl,rfl,hz,q⟩:=h;obtain⟨t,rfl⟩:=z;obtain⟨t',rfl⟩:=G;exact add_str (λt' tk=>⟨.str (i++j),H,I.tok _,⟨_,rfl⟩,q⟩) hz
theorem vals1{x:V}(r:aY [x] us):∃u,us=[u]/\RelV x u:=by
 cases r with
 | cons j z=>cases z;exact⟨_,rfl,j⟩
theorem vals2{x y:V}(r:aY [x,y] us):∃u j,us=[u,j]/\RelV x u/\RelV y j:=by
 cases r with
 | cons z G=>
  cases G with
  | cons J O=>cases O;exact⟨_,_,rfl,z,J⟩
theorem aaG(G:X.calm=true):fe X (.builtin "min") (λxs H Q=>∃i j,xs=[.int i,.int j]/\Q (.int (if j<i then j else i)) H):=by
 intro ad s Z H xs us Q I r h;obtain⟨i,j,rfl,q⟩:=h;obtain⟨u,J,rfl,⟨t,rfl⟩,⟨t',rfl⟩⟩:=vals2 r;refine min_two_ints (I.ok.hd G) λh' tk k=>⟨_,H,I.kept k,?_,q⟩
 by_cases z:j<i
 . rw[am z,am z];exact⟨_,rfl⟩
 rw[ag z,ag z];exact⟨_,rfl⟩
theorem aaH:fe X (.type "str") (λxs H Q=>∃i,xs=[.int i]/\i.natAbs.log2<1920/\Q (.str (toString i)) H):=by
 intro ad s Z H xs us Q I r h;obtain⟨i,rfl,hz,q⟩:=h;obtain⟨u,rfl,t,rfl⟩:=vals1 r;exact PySem.P.str_of_int hz ⟨.str _,H,I.tok _,⟨_,rfl⟩,q⟩
end
structure tI(h:Heap)(x dx C:Addr)(mA:Mv):Prop where
 obj:h.get? x=some (W.instObj C dx)
 ns:h.Ns1 dx mA
 ne:dx≠x
theorem aaI{h:Heap}(n:h.Ns1 dx mA):∃j,h.get? dx=some j/\∀name,W.lookIn name j=some (mA name):=by
 obtain⟨o,es,ep,U,hd,J,_,O⟩:=n;refine⟨o,U,λname=>?_⟩;have e:=O name;unfold nsFind findBy at e;rw[<-Array.find?_toList]at e;unfold W.lookIn;rw[hd];dsimp only;split
 . rename_i y q;rw[q]at e;exact fw some e
 rename_i q;rw[q]at e;have a:es.toList.any (·.refKey)=false:=by
  rw[List.any_eq_false];intro y Y;obtain⟨z,t,kR⟩:=J y (Array.mem_toList_iff.mp Y);simp[DictEntry.refKey,kR]
 have G:¬es.toList.any (·.refKey)=true:=by rw[a];exact cW
 rw[ag G];exact fw some e
theorem tI.look{h:Heap}{x:Addr}(I:tI h x dx C mA):∃j,W.InstAt h x (W.instObj C dx) C (some j)/\∀name,W.lookIn name j=some (mA name):=
 (aaI I.ns).elim λj z=>z.elim λJ G=>⟨j,⟨I.obj,rfl,rfl,J⟩,G⟩
section
variable {prog:Program}{x:Addr}{name:Str}{v:Value}
theorem aaK{j:Bool}{Q:VP}(X:K.In s.heap)(I:tI s.heap x dx C mA)(G:W.plainGet K C name=true)(O:W.hasDictIn K C=true)
 (z:W.findIn K (.ref C) name=some none) (Y:mA name=some v) (yd:W.handedIn v=true) (h:Q v { s with toks:=s.toks+1 }) :
 wpAny (model prog w) A (getAttr (.ref x) name j) Q E s:=by
 obtain⟨od,J,U⟩:=I.look;exact W.get_value X J (XY G).1 (W.findObj_own O z rfl (by rw[U,Y])) yd h
theorem aaL{Q:Value×Lw->Shared->Prop}(X:K.In s.heap)(I:tI s.heap x dx C mA)(j:W.plainGet K C name=true)
 (z:W.findIn K (.ref C) name=some (some (.ref f))) (O:W.isFn K (.ref f)=true) (U:mA name=none) (h:Q (.ref f,[.ref x]) s) :
 wpAny (model prog w) A (getMethod (.ref x) name pl) Q E s:=by
 obtain⟨Y,J,G⟩:=I.look;exact W.method_fn X J (XY j).1 (XY j).2 z (jR.mp O) (by show(W.lookIn name Y).map (·.isSome)=some false;rw[G,U];rfl) h
theorem aaM{ns:Ls}{Q:Unit->Shared->Prop}(X:K.In s.heap)(I:tI s.heap x dx C mA)
 (hs:W.findIn K (.ref C) "__setattr__"=some (some (.builtin "object.__setattr__"))) (hp:W.plainOver K C=true) (ht:W.takerIn K C name=some none) (Y:W.hasDictIn K C=true)
 (hw:PySem.Within mA ns) (hsz:ns.length<=sizeLine)
 (h:∀h',tI h' x dx C (λy=>if y=name then some v else mA y)->Heap.SameBut dx s.heap h'->Q () { s with heap:=h',toks:=s.toks+2 }) :
 wpAny (model prog w) A (setAttr (.ref x) name v) Q E s:=by
 obtain⟨od,J,hl⟩:=I.look;refine W.set_plain X J hs (W.osa_open (s:={ s with toks:=s.toks+1 }) (r:=none) X J hp ht λb=>?_);obtain⟨cd,G,kM⟩:=W.any_some Y;have hx:s.heap.get? x=some ⟨.ref C,some dx,.plain,#[]⟩:=I.obj;refine ae (ar (ae (ae (wpAny_loadPart hx (ae (W.Looks.here (s:={ s with toks:=s.toks+1 }) (W.looks_clsIn X G) ?_))))));rw[kM];refine ar (a:=some dx) (ae (ar (ae ?_)));refine wpAny_nsSet1 (s:={ s with toks:=s.toks+1 }) I.ns λh' z j=>?_;obtain⟨oD,a2,a1,a0,U,O⟩:=z.count (PySem.Within.cons name v hw);refine ae (wpAny_lookBehind a0 (by rw[U];exact pastItsLine_dict (b8 O (by rw[bU];omega))) ?_);exact ar (h _ ⟨(j.2 _ (gC I.ne)).trans I.obj,z,I.ne⟩ j)
theorem aaQ{R:Result->Shared->Prop}(X:K.In s.heap)(z:W.makesIn K C=true)
 (hi:W.findIn K (.ref C) "__init__"=some (some (.ref f))) (j:W.typeIn K (.ref f)=some (.type "function"))
 (h:codeAny (model prog w) (A.under (.builtin "type.__call__" ⟨.ref C::vs,kw⟩)) (.call (.ref f) ⟨.ref (s.heap.objs.size+1)::vs,kw⟩) (W.InitBack (s.heap.objs.size+1) R)
  { s with heap:=(s.heap.push W.emptyDict).push (W.instObj C s.heap.objs.size) }) :
 codeAny (model prog w) A (.call (.ref C) ⟨vs,kw⟩) R s:=by
 obtain⟨G,g,d,t,os⟩:=s;exact W.make_core (W.makes_of X z) (W.looks_findIn X hi) (λself=>W.bind_fn X self j) (.inl rfl) h
end
def ay(f:Str)(v:V):List (Str×V)->List (Str×V)
 | []=>[(f,v)]
 | (g,x)::r=>if g=f then(g,v)::r else(g,x)::ay f v r
theorem cO(f g:Str)(v:V):∀fs:List (Str×V),(ay f v fs).lookup g=if g=f then some v else fs.lookup g
 | []=>by
  show List.lookup g [(f,v)]=_
  by_cases h:g=f
  . have j:(g == f)=true:=jR.mpr h;simp only[List.lookup,j,am h]
  have j:(g == f)=false:=xA.mpr h;simp only[List.lookup,j,ag h]
 | (k,x)::r=>by
  have G:=cO f g v r;rw[show ay f v ((k,x)::r)=(if k=f then(k,v)::r else(k,x)::ay f v r) from rfl]
  by_cases z:k=f
  . rw[am z]
    by_cases h:g=k
    . have j:(g == k)=true:=jR.mpr h;simp only[List.lookup,j,am (h.trans z)]
    have j:(g == k)=false:=xA.mpr h;simp only[List.lookup,j,ag (λe:g=f=>h (e.trans z.symm))]
  rw[ag z]
  by_cases h:g=k
  . have j:(g == k)=true:=jR.mpr h;simp only[List.lookup,j,ag (λe:g=f=>z (h.symm.trans e))]
  have j:(g == k)=false:=xA.mpr h;simp only[List.lookup,j];exact G
theorem Fi(f:Str)(v:V):∀fs:List (Str×V),f∈(ay f v fs).map (·.1)/\∀g,g∈fs.map (·.1)->g∈(ay f v fs).map (·.1)
 | []=>⟨by simp[ay],λg h=>by simp at h⟩
 | (k,x)::r=>by
  obtain⟨z,G⟩:=Fi f v r;rw[show ay f v ((k,x)::r)=(if k=f then(k,v)::r else(k,x)::ay f v r) from rfl]
  by_cases j:k=f
  . rw[am j];subst j;exact⟨by simp,λg h=>by simpa using h⟩
  rw[ag j];refine⟨?_,λg h=>?_⟩
  . rw[bS];exact bY _ z
  rw[bS]at h ⊢
  rcases bc.mp h with e | e
  . exact bc.mpr (.inl e)
  exact bY _ (G g e)
theorem Fj(f:Str)(v:V):∀fs:List (Str×V),(ay f v fs).length<=fs.length+1
 | []=>by simp[ay]
 | (k,x)::r=>by
  have z:=Fj f v r;rw[show ay f v ((k,x)::r)=(if k=f then(k,v)::r else(k,x)::ay f v r) from rfl]
  by_cases j:k=f
  . rw[am j,bU,bU];omega
  rw[ag j,bU,bU];omega
theorem gO.some_of{v:V}{o:Option Value}(r:gO (some v) o):∃u,o=some u/\RelV v u:=by
 cases o with
 | none=>exact(show False from r).elim
 | some u=>exact⟨u,rfl,r⟩
theorem gO.none_of{o:Option Value}(r:gO none o):o=none:=by
 cases o with
 | none=>rfl
 | some u=>exact(show False from r).elim
theorem aaR{v:V}(r:RelV v u):W.handedIn u=true:=by
 cases v with
 | non=>cases (show u=Value.none from r);rfl
 | bl b=>cases (show u=Value.bool b from r);rfl
 | int i=>obtain⟨t,e⟩:=(show∃t,u=Value.int i t from r);cases e;rfl
 | str x=>obtain⟨t,e⟩:=(show∃t,u=Value.str x t from r);cases e;rfl
 | byt b=>obtain⟨t,e⟩:=(show∃t,u=Value.bytes b t from r);cases e;rfl
 | flt b=>obtain⟨t,e⟩:=(show∃t,u=Value.float b t from r);cases e;rfl
 | ref a=>cases (show u=Value.ref a from r);rfl
 | ty n=>cases (show u=Value.type n from r);rfl
section
variable {H H':Hp}{h:Heap}{fs cb:List (Str×V)}
theorem Bn(hok:cp P w H h)(e:H a=some (.ins C dx fs)):∃mA,tI h a dx C mA/\(∀f,gO (fs.lookup f) (mA f))/\PySem.Within mA (fs.map (·.1))/\fs.length<=1000/\H dx=some (.own a):=by
 obtain⟨d,z,ne,ob,mA,n,r,q⟩:=(show b9 P w H h a (.ins C dx fs) from hok a _ e);exact⟨mA,⟨ob,n,ne⟩,r,q,z,d⟩
end
structure iO(K:Fg)(C:Addr):Prop where
 pg:W.plainGet K C Str.empty=true
 hd:W.hasDictIn K C=true
 po:W.plainOver K C=true
 sa:W.findIn K (.ref C) "__setattr__"=some (some (.builtin "object.__setattr__"))
theorem iO.get(c:iO K C)(f:Str):W.plainGet K C f=true:=c.pg
def fQ(K:Fg)(C:Addr)(f:Str):Prop:=W.findIn K (.ref C) f=some none
theorem fQ.taker{f:Str}(n:fQ K C f):W.takerIn K C f=some none:=by
 unfold W.takerIn;rw[show W.findIn K (.ref C) f=some none from n];rfl
structure gF(K:Fg)(C:Addr)(m:Str)(f:Addr):Prop where
 at_:W.findIn K (.ref C) m=some (some (.ref f))
 fn:W.isFn K (.ref f)=true
 kp:W.keepIn K (.ref f)=true
section
variable {H:Hp}{fs:List (Str×V)} {f:Str}{v:V}
theorem aaS{b:Bool}{Q:VP}(I:Inv X ad Z H s)(e:H a=some (.ins C dx fs))(c:iO X.K C)(n:fQ X.K C f)(l:fs.lookup f=some v)
 (h:∀u s',Inv X ad Z H s'->RelV v u->Q u s'):wpAny (model X.prog X.w) A (getAttr (.ref a) f b) Q E s:=by
 obtain⟨mA,O,r,_,_,_⟩:=Bn I.hok e;obtain⟨u,z,j⟩:=gO.some_of (v:=v) (o:=mA f) (by rw[<-l];exact r f);exact aaK I.kIn O (c.get f) c.hd n z (aaR j) (h u _ (I.tok _) j)
theorem Fk{m:Str}{g:Addr}{Q:Value×Lw->Shared->Prop}(I:Inv X ad Z H s)(e:H a=some (.ins C dx fs))(c:iO X.K C)(k:gF X.K C m g)(l:fs.lookup m=none)
 (h:Q (.ref g,[.ref a]) s):wpAny (model X.prog X.w) A (getMethod (.ref a) m pl) Q E s:=by
 obtain⟨mA,O,r,_,_,_⟩:=Bn I.hok e;have j:mA m=none:=gO.none_of (by rw[<-l];exact r m);exact aaL I.kIn O (c.get m) k.at_ k.fn j h
theorem aaT{y:V}{Q:Unit->Shared->Prop}(I:Inv X ad Z H s)(e:H a=some (.ins C dx fs))(c:iO X.K C)(n:fQ X.K C f)(hl:fs.length<1000)(ry:RelV y u)
 (h:∀s',Inv X ad Z (ah H a (.ins C dx (ay f y fs))) s'->Q () s'):wpAny (model X.prog X.w) A (setAttr (.ref a) f u) Q E s:=by
 obtain⟨mA,O,r,J,_,G⟩:=Bn I.hok e;have hz:(fs.map (·.1)).length<=sizeLine:=by rw[ak,sK];omega
 refine aaM I.kIn O c.sa c.po n.taker c.hd J hz λh' j sb=>h _ ?_;have hd:∃o,h'.get? dx=some o:=j.ns.elim λo U=>U.elim λ_ Y=>Y.elim λ_ a0=>a0.elim λe' _=>⟨o,e'⟩;refine I.write (x:=a) (e:=dx) (by rw[e];exact True.intro) (.inr G) (λb q hb z=>(sb.2 b hb).trans z) hd ?_;refine⟨by rw[aW O.ne];exact G,?_,O.ne,j.obj,_,j.ns,λg=>?_,λg hg=>?_⟩
 . have:=Fj f y fs;omega
 . show gO ((ay f y fs).lookup g) (if g=f then some u else mA g);rw[cO]
   by_cases q:g=f
   . rw[am q,am q];exact ry
   rw[ag q,ag q];exact r g
 by_cases q:g=f
 . rw[q];exact(Fi f y fs).1
 refine(Fi f y fs).2 g (J g λz=>hg ?_);show(if g=f then some u else mA g)=none;rw[ag q];exact z
theorem Inv.made(I:Inv X ad Z H s):Inv X ad Z (ah (ah H s.heap.objs.size (.own (s.heap.objs.size+1))) (s.heap.objs.size+1) (.ins C s.heap.objs.size []))
 { s with heap:=(s.heap.push W.emptyDict).push (W.instObj C s.heap.objs.size) }:=by
 have e1:(s.heap.push W.emptyDict).get? s.heap.objs.size=some W.emptyDict:=dN s.heap rfl;have e2:((s.heap.push W.emptyDict).push (W.instObj C s.heap.objs.size)).get? (s.heap.objs.size+1)=some (W.instObj C s.heap.objs.size):=by
  have:=dN (s.heap.push W.emptyDict) (o:=W.instObj C s.heap.objs.size) rfl
  rwa [sL]at this
 have e3:(s.heap.push W.emptyDict).Ns s.heap.objs.size (λ_=>none):=⟨W.emptyDict,#[],_,e1,rfl,(λe z=>absurd z (by simp)),λ_=>rfl⟩;have j:=I.laid (a:=s.heap.objs.size) (o:=.own (s.heap.objs.size+1)) (h':=s.heap.push W.emptyDict) (t':=s.toks) (λb u q=>cf _ q) (aG _) ⟨_,e1⟩;refine j.laid (a:=s.heap.objs.size+1) (o:=.ins C s.heap.objs.size []) (t':=s.toks) (λb u q=>cf _ q) (xG (sL _ _)) ?_;have ne:s.heap.objs.size≠s.heap.objs.size+1:=cS (xH _);refine⟨by rw[aW ne,aE],dF _,ne,e2,λ_=>none,(Heap.Ns1.of_empty e3).at λo q=>cf _ q,λ_=>True.intro,λy G=>absurd rfl G⟩
theorem aaX{prog:Program}{env:Env}{f:Str}{pos:Pos}{Q:VP}(j:attributeBase e f env (eval e env)=eval e env)
 (h:wpAny (model prog w) A (eval e env) (λo z=>wpAny (model prog w) A (getAttr o f true) Q E z) E s):wpAny (model prog w) A (eval (.Attribute e f pos) env) Q E s:=
 Attribute_any_ h (by rw[arm_eval_Attribute,j])
end
inductive NY (K:Fg) (f:Str) (Q:VK) (H1:Hp):V->Prop where
 | mk {a:Addr}{C:Addr}{dx:Addr}{fs:List (Str×V)}{v:V} (_:H1 a=some (.ins C dx fs)) (_:iO K C) (_:fQ K C f) (_:fs.lookup f=some v) (_:Q v H1):NY K f Q H1 (.ref a)
def NZ(K:Fg)(ta:TE)(f:Str):TE:=λZ H Q=>ta Z H λx H1=>NY K f Q H1 x
inductive N1 (K:Fg) (f:Str) (D:Ends) (Z:St) (y:V) (H2:Hp):V->Prop where
 | mk {a:Addr}{C:Addr}{dx:Addr}{fs:List (Str×V)} (_:H2 a=some (.ins C dx fs)) (_:iO K C) (_:fQ K C f) (_:fs.length<1000) (_:D.nx Z (ah H2 a (.ins C dx (ay f y fs)))):N1 K f D Z y H2 (.ref a)
def aaY(K:Fg)(ta tv:TE)(f:Str):TS:=λD Z H=>tv Z H λy H1=>ta Z H1 λx H2=>N1 K f D Z y H2 x
section
variable {o value:Expr}{f:Str}{pos pos' vz:Pos}{ta tv:TE}
theorem bK(U:PE X e ta)(O:attributeBase e f X.env (eval e X.env)=eval e X.env):PE X (.Attribute e f pos) (NZ X.K ta f):=by
 intro ad s Z H Q I h;refine aaX O (thn (U ad s Z H _ I h) λu s1 G=>aP G λx H1 j rx a0=>?_);obtain @⟨a,C,dx,fs,v,J,c,n,l,q⟩:=a0;obtain rfl:u=Value.ref a:=rx;exact aaS j J c n l λu' s2 z Y=>⟨v,H1,z,Y,q⟩
theorem iP(Y:PE X o ta)(hv:PE X value tv)(hs:swapsWith value (some (.Attribute o f pos')) pos.line X.env=pure false):PS X (.Assign [.Attribute o f pos'] value pos) (aaY X.K ta tv f):=by
 intro ad s Z H D I h;refine plainObj_wpAny_Assign_Attribute (thn (hv ad s Z H _ I h) λu s1 J=>aP J λy H1 j ry q=>thn (Y ad s1 Z H1 _ j q) λov s2 O=>aP O λx H2 z rx a0=>?_) hs;obtain @⟨a,C,dx,fs,U,c,n,l,q2⟩:=a0;obtain rfl:ov=Value.ref a:=rx;exact aaT z U c n l ry λs3 G=>⟨Z,_,G,q2⟩
end
section
variable {H:Hp}{Q:VP}{c:Value}{b:Bool}
inductive jY (K:Fg) (H:Hp):V->Value->Prop where
 | non:jY K H .non (.type "NoneType")
 | bl (x:Bool):jY K H (.bl x) (.type "bool")
 | int (i:Int):jY K H (.int i) (.type "int")
 | str (x:Str):jY K H (.str x) (.type "str")
 | flt (x:UInt64):jY K H (.flt x) (.type "float")
 | lst {a:Addr}{xs:Lv} (e:H a=some (.lst xs)):jY K H (.ref a) (.type "list")
 | frz {a:Addr}{o:Obj}{xs:Lv} (e:H a=some (.frz o (.lst xs))):jY K H (.ref a) (.type "list")
 | tup {a:Addr}{xs:Lv} (e:H a=some (.tup xs)):jY K H (.ref a) (.type "tuple")
 | dK {a:Addr}{kvs:List (ao×V)} (e:H a=some (.dK kvs)):jY K H (.ref a) (.type "dict")
 | dT {a:Addr}{kvs:List (List NI×V)} (e:H a=some (.dT kvs)):jY K H (.ref a) (.type "dict")
 | ins {a C dx:Addr}{fs:List (Str×V)} (e:H a=some (.ins C dx fs)) (z:iO K C) (G:W.findIn K (.ref C) "__class__"=some (some (.builtin "object.__class__")))
  (O:W.specialIn K (.builtin "object.__class__") "__get__"=some (some (.builtin "getset_descriptor.__get__"))) (j:W.takesIn K (.builtin "object.__class__")=some true)
  (J:W.mroIn K C (.type "object")=some true):jY K H (.ref a) (.ref C)
theorem aa4{x:V}{t:Value}(I:Inv X ad Z H s)(G:RelV x u)(ty:jY X.K H x t)(e:W.kitOne X.K t c=some b)(h:∀tk,Q (.bool b) { s with toks:=tk }) :
 wpAny (model X.prog X.w) A (call (.builtin "isinstance") [u,c]) Q E s:=by
 cases ty with
 | non=>cases (show u=Value.none from G);exact nY W.kitx_none I.kIn True.intro e (λz=>nomatch z) h
 | bl y=>cases (show u=Value.bool y from G);exact nY W.kitx_bool I.kIn True.intro e (λz=>nomatch z) h
 | int i=>obtain⟨t,q⟩:=(show∃t,u=Value.int i t from G);cases q;exact nY W.kitx_int I.kIn True.intro e (λz=>nomatch z) h
 | str y=>obtain⟨t,q⟩:=(show∃t,u=Value.str y t from G);cases q;exact nY W.kitx_str I.kIn True.intro e (λz=>nomatch z) h
 | flt y=>obtain⟨t,q⟩:=(show∃t,u=Value.float y t from G);cases q;exact nY W.kitx_float I.kIn True.intro e (λz=>nomatch z) h
 | @lst a xs j=>
  cases (show u=Value.ref a from G);obtain⟨_,_,n,_,h1⟩:=(show b9 X.prog X.w H s.heap a (.lst xs) from I.hok a _ j);exact nY W.kitx_list I.kIn ⟨_,h1,rfl⟩ e (λz=>nomatch z) h
 | @frz a ob xs j=>
  cases (show u=Value.ref a from G);obtain⟨_,_,_,n,_,h1⟩:=(show b9 X.prog X.w H s.heap a (.frz ob (.lst xs)) from I.hok a _ j);exact nY W.kitx_list I.kIn ⟨_,h1,rfl⟩ e (λz=>nomatch z) h
 | @tup a xs j=>
  cases (show u=Value.ref a from G);obtain⟨_,_,_,p⟩:=(show b9 X.prog X.w H s.heap a (.tup xs) from I.hok a _ j);obtain⟨o,h1,h2,_⟩:=p;exact nY W.kitx_tuple I.kIn ⟨o,h1,h2⟩ e (λz=>nomatch z) h
 | @dK a kvs j=>
  cases (show u=Value.ref a from G);obtain⟨_,_,vs,_,p⟩:=(show b9 X.prog X.w H s.heap a (.dK kvs) from I.hok a _ j);obtain⟨o,es,ep,h1,h2,_⟩:=p;exact nY W.kitx_dict I.kIn ⟨o,h1,h2.1⟩ e (λz=>nomatch z) h
 | @dT a kvs j=>
  cases (show u=Value.ref a from G);obtain⟨_,_,xs,_,o,es,ep,h1,h2,_⟩:=(show b9 X.prog X.w H s.heap a (.dT kvs) from I.hok a _ j);exact nY W.kitx_dict I.kIn ⟨o,h1,h2.1⟩ e (λz=>nomatch z) h
 | @ins a C dx fs j U ha hn Y hm=>
  cases (show u=Value.ref a from G);obtain⟨mA,O,_⟩:=Bn I.hok j;obtain⟨od,J,_⟩:=O.look;exact nY (W.kitx_own (U.get _) U.hd ha hn Y hm) I.kIn J e (λz=>nomatch z) h
end
structure cq(k:Nat)(A:Around):Prop where
 hd:A.handled=none
 dp:A.depth+3 * k+5<recursionLimit
 un:A.units+16 * k+200<cLine
 gd:A.guards=some []
theorem cq.mono{j k:Nat}(r:cq k A)(h:j<=k):cq j A:=⟨r.hd,by have:=r.dp;omega,by have:=r.un;omega,r.gd⟩
theorem cq.deeper{k:Nat}(r:cq (k+1) A)(env:Env):cq k (A.deeper env):=
 ⟨r.hd,by have:=r.dp;show A.depth+1+3 * k+5<_;omega,by have:=r.un;show A.units+3+16 * k+200<_;omega,r.gd⟩
theorem cq.in1{k:Nat}(r:cq (k+1) A):cq k A.in1:=
 ⟨r.hd,by have:=r.dp;show A.depth+3 * k+5<_;omega,by have:=r.un;show A.units+1+16 * k+200<_;omega,r.gd⟩
theorem aa5:(A.under (.builtin "type.__call__" ⟨.ref C::us,kw⟩)).depth=A.depth+1:=by
 first | rfl | simp[Around.under,Code.weight,Code.isCreation,Code.isGuard,Code.isCaller,Code.frames,Code.isFrame,guardIds]
theorem aa6:(A.under (.builtin "type.__call__" ⟨.ref C::us,kw⟩)).units=A.units+1:=by
 first | rfl | simp[Around.under,Code.cUnits,Code.frames,Code.isFrame]
theorem aa7:(A.under (.builtin "type.__call__" ⟨.ref C::us,kw⟩)).guards=A.guards:=by
 first | rfl | simp[Around.under,pushGuards,Code.guards,Code.isGuard,guardIds]
theorem cq.make{k:Nat}(r:cq (k+1) A)(C:Addr)(us:Lw)(kw:List (Str×Value)):cq k (A.under (.builtin "type.__call__" ⟨.ref C::us,kw⟩)):=
 ⟨r.hd,by have:=r.dp;rw[aa5];omega,by have:=r.un;rw[aa6];omega,aa7.trans r.gd⟩
theorem cq.depth{k:Nat}(r:cq k A):A.depth<recursionLimit:=by have:=r.dp;omega
theorem cq.units{k:Nat}(r:cq k A):A.units+64<cLine:=by have:=r.un;omega
def fg:TA:=λ_ H Q=>Q [] H
def fT(ta:TE)(tr:TA):TA:=λZ H Q=>ta Z H λx H1=>tr Z H1 λxs H2=>Q (x::xs) H2
section
variable {te:TE}{t:TA}{pos:Pos}
theorem eI:PA X [] fg:=λ_ _ _ _ H Q I h=>My ⟨[],H,I,.nil,h⟩
theorem jm(O:PE X e te)(U:PA X es t)(hs:starEach (e::es) X.env=(false,eval e X.env)::starEach es X.env:=by rfl):PA X (e::es) (fT te t):=by
 intro pos ad s Z H Q I h;rw[hs];show wpAny _ _ (spliced ((false,eval e X.env)::backTo pos (starEach es X.env))) _ _ s;refine Ew (thn (O ad s Z H _ I h) λu s1 G=>aP G λx H1 j r1 Y=>?_);exact thn (U pos ad s1 Z H1 _ j Y) λus s2 J=>aP J λxs H2 z r2 q2=>⟨x::xs,H2,z,.cons r1 r2,q2⟩
def Fl(t:TA):TE:=λZ H Q=>t Z H λxs H1=>xs.length<=sizeLine/\∀p,H1 p=none->Q (.ref p) (ah H1 p (.tup xs))
def aba(t:TA):TE:=λZ H Q=>t Z H λxs H1=>xs.length<=sizeLine/\∀p,H1 p=none->Q (.ref p) (ah H1 p (.lst xs))
theorem N5{x1}(h:PA X es t):PE X (.Tuple es x1 pos) (Fl t):=by
 intro ad s Z H Q I Y;refine wpAny_Tuple_spliced (thn (h pos ad s Z H _ I Y) λus j J=>aP J λxs H1 G r O=>O.elim λz q=>⟨by rw[<-r.length];exact z,?_⟩);have U:H1 j.heap.objs.size=none:=G.hok.fresh (aG _);refine⟨.ref j.heap.objs.size,ah H1 j.heap.objs.size (.tup xs),G.laid (t':=j.toks) (λb u e=>cf _ e) (aG _) ?_,rfl,q _ U⟩;exact⟨z,us,r,⟨_,dN _ rfl,rfl,_,rfl⟩⟩
theorem abd(h:PA X es t):PE X (.List es pos) (aba t):=by
 intro ad s Z H Q I Y;refine wpAny_List_spliced (thn (h pos ad s Z H _ I Y) λus j J=>aP J λxs H1 G r O=>O.elim λz q=>⟨by rw[<-r.length];exact z,?_⟩);have U:H1 j.heap.objs.size=none:=G.hok.fresh (aG _);refine⟨.ref j.heap.objs.size,ah H1 j.heap.objs.size (.lst xs),G.laid (t':=j.toks) (λb u e=>cf _ e) (aG _) ?_,rfl,q _ U⟩;exact⟨z,us,0,r,dN _ rfl⟩
end
abbrev Sp:=Lv->Hp->VK->XK->Prop
variable {sp:Sp}
abbrev ib:=List Env->Hp->Shared->XK->Value->Shared->Prop
variable {CX:ib}
structure lX(P:Program)(w:World)(K:Fg)(mg:Mv)(base:Heap)(A:Around)(outer:List Env)(s:Shared)(H:Hp):Prop where
 frames:A.frames=some outer
 mod:Mod K mg base
 bs:∀b o,base.get? b=some o->s.heap.get? b=some o/\H b=none
 bsz:base.objs.size<=s.heap.objs.size
 funs:s.heap.FunFrames base outer
 frf:∀b∈cJ outer,H b=none
 hok:cp P w H s.heap
 bare:AllBare s.gens
def CE(outer:List Env)(P:Program)(w:World)(H:Hp)(s:Shared)(Q:VK)(u:Value)(s':Shared):Prop:=
 ∃v H',s'.os=s.os/\AllBare s'.gens/\Un (cJ outer) [] H H' s.heap s'.heap/\cp P w H' s'.heap/\RelV v u/\Q v H'
def CR(CX:ib)(outer:List Env)(P:Program)(w:World)(H:Hp)(s:Shared)(Q:VK)(E:XK)(r:Result)(s':Shared):Prop:=
 match r with
 | .ok (.ret u)=>CE outer P w H s Q u s'
 | .ok _=>False
 | .error e=>CX outer H s E e s'
structure aA(P:Program)(w:World)(K:Fg)(mg:Mv)(base:Heap)(CX:ib)(k:Nat)(f:Addr)(fd:Fy)(ps:Ls)(sp:Sp):Prop where
 len:∀vs H Q E,sp vs H Q E->vs.length=ps.length
 run:∀(A:Around) (outer:List Env) (s:Shared) (H:Hp) (args:Args) (us:Lw) (vs:Lv) (Q:VK) (E:XK),cq k A->lX P w K mg base A outer s H->BindsTo s fd args (ps.zip us)->aY vs us->sp vs H Q E ->
  codeAny (model P w) A (.call (.ref f) args) (CR CX outer P w H s Q E) s
theorem aA.mono{j k:Nat}(F:aA P w K mg base CX j f fd ps sp)(h:j<=k) :
 aA P w K mg base CX k f fd ps sp:=⟨F.len,λA outer s H args us vs Q E z=>F.run A outer s H args us vs Q E (z.mono h)⟩
theorem aA.imp{k:Nat}{j:Sp}(F:aA P w K mg base CX k f fd ps sp)
 (h:∀vs H Q E,j vs H Q E->sp vs H Q E):aA P w K mg base CX k f fd ps j:=
 ⟨λvs H Q E q=>F.len vs H Q E (h _ _ _ _ q),λA outer s H args us vs Q E J G z O hs=>F.run A outer s H args us vs Q E J G z O (h _ _ _ _ hs)⟩
theorem lX.make{outer:List Env}{H:Hp}(e:lX P w K mg base A outer s H)(C:Addr)(us:Lw)(kw:List (Str×Value)) :
 lX P w K mg base (A.under (.builtin "type.__call__" ⟨.ref C::us,kw⟩)) outer s H:=⟨by first | exact e.frames | (simpa [Around.under,Code.envs,Code.isFrame,pushEnvs]using e.frames),e.mod,e.bs,e.bsz,e.funs,e.frf,e.hok,e.bare⟩
theorem lX.in1{outer:List Env}{H:Hp}(e:lX P w K mg base A outer s H) :
 lX P w K mg base A.in1 outer s H:=⟨e.frames,e.mod,e.bs,e.bsz,e.funs,e.frf,e.hok,e.bare⟩
section
variable {H:Hp}
theorem Inv.env0(I:Inv X ad Z H s):lX X.prog X.w X.K X.mg X.base X.A X.stack s H:=
 ⟨I.ok.frames,I.ok.mod,I.bs,b8 I.ok.bsz I.sz,I.stack,I.stkFree,I.hok,I.bare⟩
theorem Inv.after{Q:VK}(I:Inv X ad Z H s)(h:CE X.stack X.prog X.w H s Q u s'):EP X ad Z Q u s':=by
 obtain⟨v,H',os,G,un,hok,r,q⟩:=h;obtain⟨J,g,d,t,j⟩:=s';obtain rfl:j=s.os:=os;exact⟨v,H',I.call (h':=J) (g':=g) (d':=d) (t':=t) (ch:=[]) un hok G (λb z=>absurd z (by simp)),r,q⟩
end
def Fm(sp:Sp)(de:Lv)(E:XK)(t:TA):TE:=λZ H Q=>t Z H λvs H1=>sp (vs++de) H1 Q E
inductive N7 (C:Addr) (m:Str) (sp:Sp) (de:Lv) (E:XK) (t:TA) (Z:St) (Q:VK) (H1:Hp):V->Prop where
 | mk {a:Addr}{dx:Addr}{fs:List (Str×V)} (_:H1 a=some (.ins C dx fs)) (_:fs.lookup m=none) (_:t Z H1 λvs H2=>sp ((.ref a)::(vs++de)) H2 Q E):N7 C m sp de E t Z Q H1 (.ref a)
def Fn(C:Addr)(m:Str)(sp:Sp)(de:Lv)(E:XK)(ta:TE)(t:TA):TE:=λZ H Q=>ta Z H λx H1=>N7 C m sp de E t Z Q H1 x
def N8(C:Addr)(sp:Sp)(de:Lv)(E:XK)(t:TA):TE:=λZ H Q=>t Z H λvs H1=>∀x dx,H1 x=none->H1 dx=none->dx≠x ->
 sp (.ref x::(vs++de)) (ah (ah H1 dx (.own x)) x (.ins C dx [])) (λv H2=>v=.non/\Q (.ref x) H2) E
def Binds(K:Fg)(fd:Fy)(ps:Ls)(ds:Lw):Prop:=
 ∀(s:Shared) (us:Lw),K.In s.heap->(us++ds).length=ps.length->BindsTo s fd ⟨us,[]⟩ (ps.zip (us++ds))
theorem Binds.all(h:∀us:Lw,us.length=ps.length->bindArgs fd ⟨us,[]⟩=pure (ps.zip us)):Binds K fd ps []:=λs us _ j=>by
 rw[lL]at j ⊢;exact .of_eq (h us j)
def lY(CX:ib)(X:Cx)(E:XK):Prop:=∀(ad:Po) (Z:St) (H:Hp) (s:Shared) (e:Value) (s':Shared),Inv X ad Z H s->CX X.stack H s E e s'->X.xe e s'
section
variable {k:Nat}{de:Lv}{ds:Lw}{E:XK}{x m:Str}{pos apos:Pos}{o:Expr}{ta:TE}{t:TA}
theorem Fo{H:Hp}{Q:VK}{vs:Lv}(F:aA X.prog X.w X.K X.mg X.base CX k f fd ps sp)(O:cq k X.A)(G:Binds X.K fd ps ds)(hd:aY de ds)(U:lY CX X E)
 (I:Inv X ad Z H s) (r:aY vs us) (h:sp (vs++de) H Q E):wpAny (model X.prog X.w) X.A (call (.ref f) us) (EP X ad Z Q) X.xe s:=by
 have z:aY (vs++de) (us++ds):=r.append hd;have J:(us++ds).length=ps.length:=by rw[<-z.length];exact F.len _ _ _ _ h
 refine Ex (qe (F.run X.A X.stack s H ⟨us,[]⟩ (us++ds) (vs++de) Q E O I.env0 (G s us I.kIn J) z h) λr s' j=>?_);cases r with
 | error e=>exact U ad Z H s e s' I j
 | ok fl=>
  cases fl with
  | ret u=>exact I.after j
  | next=>exact False.elim j
  | brk=>exact False.elim j
  | cont=>exact False.elim j
theorem Ob(F:aA X.prog X.w X.K X.mg X.base CX k f fd ps sp)(hr:cq k X.A)(Y:Gl X x)(hm:X.mg x=some (.ref f))(hk:W.keepIn X.K (.ref f)=true)(O:Binds X.K fd ps ds)(hd:aY de ds)(hx:lY CX X E)
 (J:PA X (e::es) t) (ip:(x == ("__debug__":Str))=false:=by decide) (U:starEach (e::es) X.env=(false,eval e X.env)::starEach es X.env:=by rfl) (G:(backTo pos (starEach es X.env)).any (·.1)=false:=by rfl) :
 PE X (.Call (.Name x p) (e::es) [] pos) (Fm sp de E t):=by
 intro ad s Z H Q I h;refine AI (vw I Y hm ?_ ip);refine Mz (h₀:=X.base) I.ok.mod.kin hk (thn (J pos ad s Z H _ I h) λus s1 z=>aP z λvs H1 j r q=>⟨j.kIn,?_⟩) U G;exact Fo F hr O hd hx j r q
theorem lZ(he:PE X o ta)(c:iO X.K C)(G:gF X.K C m f)(F:aA X.prog X.w X.K X.mg X.base CX k f fd ps sp)(hr:cq k X.A)(hb:Binds X.K fd ps ds)(hd:aY de ds)(hx:lY CX X E)(ha:PA X (e::es) t)
 (Y:starEach (e::es) X.env=(false,eval e X.env)::starEach es X.env:=by rfl) (dP:(backTo pos (starEach es X.env)).any (·.1)=false:=by rfl)
 (ht:eval (.Call (.Attribute o m apos) (e::es) [] pos) X.env=(do
  let J <-eval o X.env
  standAt apos.atName
  let (f,first) <-holding [J] (getMethod J m pl)
  callWith pos f first (backTo pos (starEach (e::es) X.env)) (backToKw pos (keywordEach [] X.env))):=by rfl) :
 PE X (.Call (.Attribute o m apos) (e::es) [] pos) (Fn C m sp de E ta t):=by
 intro ad s Z H Q I h;refine XZ (pl:=pl) (thn (he ad s Z H _ I h) λu s1 O=>aP O λx H1 j rx a0=>?_) ht;obtain @⟨a,dx,fs,ea,l,q⟩:=a0;obtain rfl:u=Value.ref a:=rx;refine Fk j ea c G l ?_;refine Mz (first:=[.ref a]) (h₀:=X.base) I.ok.mod.kin G.kp (thn (ha pos ad s1 Z H1 _ j q) λus s2 U=>aP U λvs H2 z r q2=>⟨z.kIn,?_⟩) Y dP;exact Fo (us:=.ref a::us) (vs:=.ref a::vs) F hr hb hd hx z (.cons rfl r) q2
theorem fh(Y:PE X o ta)(c:iO X.K C)(z:gF X.K C m f)(F:aA X.prog X.w X.K X.mg X.base CX k f fd ps sp)(hr:cq k X.A)(U:Binds X.K fd ps ds)(hd:aY de ds)(hx:lY CX X E)
 (ht:eval (.Call (.Attribute o m apos) [] [] pos) X.env=(do
  let G <-eval o X.env
  standAt apos.atName
  let (f,first) <-holding [G] (getMethod G m pl)
  callWith pos f first (backTo pos (starEach [] X.env)) (backToKw pos (keywordEach [] X.env))):=by rfl) :
 PE X (.Call (.Attribute o m apos) [] [] pos) (Fn C m sp de E ta fg):=by
 intro ad s Z H Q I h;refine XZ (pl:=pl) (thn (Y ad s Z H _ I h) λu s1 J=>aP J λx H1 j rx a0=>?_) ht;obtain @⟨a,dx,fs,O,l,q⟩:=a0;obtain rfl:u=Value.ref a:=rx;refine Fk j O c z l ?_;exact W.callWith_K0 (first:=[.ref a]) j.kIn z.kp (Fo (us:=[.ref a]) (vs:=[.ref a]) F hr U hd hx j (.cons rfl .nil) q)
structure Mk(K:Fg)(C f:Addr):Prop where
 makes:W.makesIn K C=true
 init:W.findIn K (.ref C) "__init__"=some (some (.ref f))
 fn:W.isFn K (.ref f)=true
 kp:W.keepIn K (.ref C)=true
theorem Oc{H:Hp}{Q:VK}{vs:Lv}(M:Mk X.K C f)(F:aA X.prog X.w X.K X.mg X.base CX k f fd ps sp)(hr:cq (k+1) X.A)(Y:Binds X.K fd ps ds)(hd:aY de ds)
 (hx:lY CX X E) (I:Inv X ad Z H s) (r:aY vs us)
 (h:∀x dx,H x=none->H dx=none->dx≠x->sp (.ref x::(vs++de)) (ah (ah H dx (.own x)) x (.ins C dx [])) (λv H2=>v=.non/\Q (.ref x) H2) E) :
 wpAny (model X.prog X.w) X.A (call (.ref C) us) (EP X ad Z Q) X.xe s:=by
 have G:=h (s.heap.objs.size+1) s.heap.objs.size (I.hok.fresh (qf _)) (I.hok.fresh (aG _)) (cS (xH _));have z:=Inv.made (C:=C) I;have J:aY (V.ref (s.heap.objs.size+1)::(vs++de)) (Value.ref (s.heap.objs.size+1)::(us++ds)):=.cons rfl (r.append hd);have hl:(Value.ref (s.heap.objs.size+1)::us++ds).length=ps.length:=by
  have e:=J.length;rw[F.len _ _ _ _ G]at e;exact e.symm
 refine Ex (aaQ (f:=f) I.kIn M.makes M.init (jR.mp M.fn) (qe (F.run _ X.stack _ _ ⟨Value.ref (s.heap.objs.size+1)::us,[]⟩ (Value.ref (s.heap.objs.size+1)::(us++ds)) _ _ E (hr.make C us [])
  (z.env0.make C us []) (Y _ (Value.ref (s.heap.objs.size+1)::us) z.kIn hl) J G) λr s' j=>?_))
 cases r with
 | error e=>exact hx ad Z _ _ e s' z j
 | ok fl=>
  cases fl with
  | ret u=>
   obtain⟨v,H',O,rv,U,q3⟩:=z.after j;subst U;exact⟨rv,⟨V.ref (s.heap.objs.size+1),H',O,rfl,q3⟩⟩
  | next=>exact False.elim j
  | brk=>exact False.elim j
  | cont=>exact False.elim j
theorem tJ(M:Mk X.K C f)(F:aA X.prog X.w X.K X.mg X.base CX k f fd ps sp)(hr:cq (k+1) X.A)(Y:Gl X x)(hm:X.mg x=some (.ref C))(O:Binds X.K fd ps ds)(hd:aY de ds)(hx:lY CX X E)
 (J:PA X (e::es) t) (ip:(x == ("__debug__":Str))=false:=by decide) (U:starEach (e::es) X.env=(false,eval e X.env)::starEach es X.env:=by rfl) (G:(backTo pos (starEach es X.env)).any (·.1)=false:=by rfl) :
 PE X (.Call (.Name x p) (e::es) [] pos) (N8 C sp de E t):=by
 intro ad s Z H Q I h;refine AI (vw I Y hm ?_ ip);refine Mz (h₀:=X.base) I.ok.mod.kin M.kp (thn (J pos ad s Z H _ I h) λus s1 z=>aP z λvs H1 j r q=>⟨j.kIn,?_⟩) U G;exact Oc M F hr O hd hx j r q
theorem abn(M:Mk X.K C f)(F:aA X.prog X.w X.K X.mg X.base CX k f fd ps sp)(J:cq (k+1) X.A)(z:Gl X x)(G:X.mg x=some (.ref C))(j:Binds X.K fd ps ds)(hd:aY de ds)(O:lY CX X E)
 (U:(x == ("__debug__":Str))=false:=by decide):PE X (.Call (.Name x p) [] [] pos) (N8 C sp de E fg):=by
 intro ad s Z H Q I h;refine AI (vw I z G ?_ U);exact W.callWith_K0 I.kIn M.kp (Oc (us:=[]) M F J j hd O I .nil h)
end
def PK(X:Cx)(fD:List Keyword)(t:TA):Prop:=
 ∀(pos:Pos) (ad:Po) (s:Shared) (Z:St) (H:Hp) (Q:Lv->Hp->Prop),Inv X ad Z H s->t Z H Q->wpAny (model X.prog X.w) X.A (evalAll ((backToKw pos (keywordEach fD X.env)).map (·.2))) (AP X ad Z Q) X.xe s
section
variable {k:Nat}{ks:Ls}{E:XK}{x m:Str}{pos apos yf:Pos}{o:Expr}{fD:List Keyword}{te ta:TE}{t tk:TA}{nm:Option Str}
theorem abo:PK X [] fg:=λ_ _ _ _ H Q I h=>wpAny_evalAll_nil ⟨[],H,I,.nil,h⟩
theorem abp(O:PE X e te)(U:PK X fD t):PK X (⟨nm,e,yf⟩::fD) (fT te t):=by
 intro pos ad s Z H Q I h;show wpAny _ _ (evalAll ((do let v <-eval e X.env;standAt pos;pure v)::(backToKw pos (keywordEach fD X.env)).map (·.2))) _ _ s;refine wpAny_evalAll_cons (ae (thn (O ad s Z H _ I h) λu s1 G=>aP G λx H1 j r1 Y=>ae (X2 (ar ?_))));exact thn (U pos ad s1 Z H1 _ j Y) λus s2 J=>aP J λxs H2 z r2 q2=>⟨x::xs,H2,z,.cons r1 r2,q2⟩
variable {g:Lw->Lw->Lw}{gV:Lv->Lv->Lv}
end
structure aN(N P:Ls)(sc:Scope):Prop where
 kind:sc.kind=.function
 co:sc.isCoroutine=false
 gen:sc.isGenerator=false
 nd:N.Nodup
 pre:N.take P.length=P
 par:∀x∈P,sc.names.lookup x=some .local\/sc.names.lookup x=some .cell
 nofree:∀y∈sc.names,y.2≠.free
theorem Od{x:Str}:∀{binds:List (Str×Value)}{m:Mv},(∀v,(x,v)∉binds)->bindL kindOf binds m x=m x
 | [],_,_=>rfl
 | (n,v)::r,m,h=>by
  unfold bindL;rw[Od λw j=>h w (bY _ j)];split
  . have:x≠n:=by rintro rfl;exact h v bM
    simp[this]
  rfl
theorem Oe{x:Str}:∀{binds:List (Str×Value)}{m:Mv},(∀v,(x,v)∉binds)->bindC kindOf binds m x=m x
 | [],_,_=>rfl
 | (n,v)::r,m,h=>by
  unfold bindC;rw[Oe λw j=>h w (bY _ j)];split
  . rfl
  have:x≠n:=by rintro rfl;exact h v bM
  simp[this]
theorem Of{x:Str}{v:Value}:∀{P:Ls}{vs:Lw}{i:Nat}{m:Mv},P.Nodup->P[i]?=some x->vs[i]?=some v->kindOf x=some .local ->
 bindL kindOf (P.zip vs) m x=some v
 | [],_,_,_,_,h,_,_=>by simp at h
 | _::_,[],_,_,_,_,h,_=>by simp at h
 | p::P,w::vs,0,m,nd,h1,h2,hk=>by
  simp at h1 h2;subst h1;subst h2;show bindL kindOf ((p,w)::P.zip vs) m p=_;unfold bindL;rw[Od λv j=>(qh.mp nd).1 (MA j).1,am hk];simp
 | p::P,w::vs,i+1,m,nd,h1,h2,hk=>by
  show bindL kindOf ((p,w)::P.zip vs) m x=_;unfold bindL;exact Of (i:=i) (qh.mp nd).2 (by simpa using h1) (by simpa using h2) hk
theorem Og{x:Str}{v:Value}:∀{P:Ls}{vs:Lw}{i:Nat}{m:Mv},P.Nodup->P[i]?=some x->vs[i]?=some v->kindOf x≠some .local ->
 bindC kindOf (P.zip vs) m x=some v
 | [],_,_,_,_,h,_,_=>by simp at h
 | _::_,[],_,_,_,_,h,_=>by simp at h
 | p::P,w::vs,0,m,nd,h1,h2,hk=>by
  simp at h1 h2;subst h1;subst h2;show bindC kindOf ((p,w)::P.zip vs) m p=_;unfold bindC;rw[Oe λv j=>(qh.mp nd).1 (MA j).1,ag hk];simp
 | p::P,w::vs,i+1,m,nd,h1,h2,hk=>by
  show bindC kindOf ((p,w)::P.zip vs) m x=_;unfold bindC;exact Og (i:=i) (qh.mp nd).2 (by simpa using h1) (by simpa using h2) hk
def start(N:Ls)(vs:Lv):St:=vs.map some++List.replicate (N.length - vs.length) none
def kS(CX:ib)(P:Program)(w:World)(K:Fg)(mg:Mv)(base:Heap)(N:Ls)(a_:Str)(scope:Scope)(f:Addr)(cd:Value)(A:Around)(outer:List Env)(s:Shared)(H:Hp)(E:XK):Cx where
 prog:=P
 w:=w
 K:=K
 mg:=mg
 base:=base
 A:=A.deeper (envOfC a_ scope s.heap.objs.size f cd)
 N:=N
 s₀:=s
 H₀:=H
 env:=envOfC a_ scope s.heap.objs.size f cd
 outer:=outer
 stack:=envOfC a_ scope s.heap.objs.size f cd::outer
 ex:=[]
 calm:=true
 fn:=λ_=>true
 pn:=[]
 xe:=λe s'=>wpAny (model P w) (A.deeper (envOfC a_ scope s.heap.objs.size f cd)) (leaving (envOfC a_ scope s.heap.objs.size f cd) e) (λ_ j=>CX outer H s E e j) (λz j=>CX outer H s E z j) s'
theorem Oh{sc:Scope}{x:Str}(h:sc.names.lookup x=some .cell):∃c,(cellsFrom n sc.names []).lookup x=some c:=by
 have q:=X3 sc.names n [] (.inl h);exact Ey.mp q
theorem Oj{a_:Str}{scope:Scope}{cd:Value}{outer:List Env}{s1:Shared}{H:Hp}{E:XK}{vs:Lv}
 (S:aN N ps scope) (hd:A.handled=none) (j:lX P w K mg base A outer s H) (hl:vs.length=ps.length) (r:aY vs us)
 (x:InCallC s s.heap.objs.size (bindL (envOfC a_ scope s.heap.objs.size f cd).kindOf (ps.zip us) λ_=>none) (cellsFrom (s.heap.objs.size+1) scope.names []) (bindC (envOfC a_ scope s.heap.objs.size f cd).kindOf (ps.zip us) λ_=>none) s1) :
 Inv (kS CX P w K mg base N a_ scope f cd A outer s H E) [] (start N vs) H s1:=by
 have dP:ps.length<=N.length:=by have:=fw List.length S.pre;rw[eF]at this;omega
 obtain⟨h1,tk,rfl,U⟩:=x.done;have J:∀b:Addr,b∉(kS CX P w K mg base N a_ scope f cd A outer s H E).ex:=λb z=>absurd (show b∈([]:List Addr) from z) (by simp);refine⟨⟨j.mod,S.kind,rfl,rfl,aG _,λy z c h1 h2=>?_,λy hy=>?_,λy c _ h=>?_,λ_=>hd,Around.frames_deeper j.frames,.inr ⟨rfl,rfl⟩,λb z=>absurd z (J b),j.bs,j.bsz,λb _ _=>J b,λb z=>absurd z (J b),j.funs,j.frf⟩,
  rfl,j.bare,Un.kept U,⟨_,x.toInCall.ns,λi y v h1 h2 h3=>?_⟩,λy c h=>⟨_,x.cell y c h⟩,j.hok.fresh (aG _),λy c h=>?_,λp G=>absurd (show p∈([]:Po) from G) (by simp),j.hok.kept U,?_⟩
 . exact name_of_addr x.apart (AJ h1) (AJ h2)
 . have hy:scope.names.lookup y=some .cell\/scope.names.lookup y=some .free:=hy
   rcases hy with hy | hy
   . exact Oh hy
   exact absurd rfl (S.nofree _ (AJ hy))
 . exact vf (x.above y c (AJ h))
 . have hi:i<vs.length:=by
    unfold start at h2
    by_cases hi:i<vs.length
    . exact hi
    rw[Ez (by simpa using hi)]at h2;rw[awp]at h2;split at h2<;>cases h2
   have ha:vs[i]?=some v:=by
    unfold start at h2;rw[X4 (by simpa using hi),dG]at h2;cases e:vs[i]? with
    | none=>rw[e]at h2;cases h2
    | some a=>rw[e]at h2;cases h2;rfl
   obtain⟨u,Y,rv⟩:=r.get ha;have G:ps[i]?=some y:=by
    rw[<-S.pre,List.getElem?_take_of_lt (by omega)];exact h1
   have O:ps.Nodup:=by rw[<-S.pre];exact S.nd.sublist (List.take_sublist _ _)
   refine⟨u,rv,?_⟩
   rcases S.par y (cX G) with k | k
   . exact .inl ⟨k,Of O G Y k⟩
   obtain⟨c,e⟩:=Oh (n:=s.heap.objs.size+1) k;refine .inr ⟨.inl k,c,e,?_⟩;have q:=x.cell y c e;rw[Og O G Y (by show scope.names.lookup y≠_;rw[k];decide)]at q;exact q
 . exact j.hok.fresh (vf (x.above y c (AJ h)))
 unfold start;show _=N.length;rw[bI,ak,X5];omega
theorem Fq{k:Nat}{name a_:Str}{params:Arguments}{scope:Scope}{dV kV a0 pm j ct oc:Value}{Y od:Oa}
 {iQ:Array (Option Value)} (lk:K.lookup f=some ⟨oc,od,.func (W.fnOf name a_ params body scope dV kV a0 pm Y j ct),iQ⟩) (iL:W.codeIn K j a_=true) (S:aN N ps scope)
 (len:∀vs H Q E,sp vs H Q E->vs.length=ps.length)
 (oF:∀(A:Around) (outer:List Env) (s:Shared) (H:Hp) (vs:Lv) (Q:VK) (E:XK),cq k (A.deeper (envOfC a_ scope s.heap.objs.size f j))->sp vs H Q E ->
  ∃t,cg (kS CX P w K mg base N a_ scope f j A outer s H E) body t/\t { nx:=λ_ H'=>Q .non H',rt:=Q } (start N vs) H) :
 aA P w K mg base CX (k+1) f (W.fnOf name a_ params body scope dV kV a0 pm Y j ct) ps sp:=by
 refine⟨len,λA outer s H args us vs Q E G z hb r jy=>?_⟩;have hl:=len _ _ _ _ jy;have U:K.In s.heap:=z.mod.kin.keeps λb o e=>(z.bs b o e).1;have a2:s.heap.NoLimit:=z.mod.nolimit.keeps λb o e=>(z.bs b o e).1;have Fs:∀y∈ps.zip us,scope.names.lookup y.1=some .local\/(scope.names.lookup y.1=some .cell/\((cellsFrom (s.heap.objs.size+1) scope.names []).lookup y.1).isSome=true):=λ⟨n,v⟩ hy=>by
  rcases S.par n (MA hy).1 with q | q
  . exact .inl q
  exact .inr ⟨q,X3 _ _ _ (.inl q)⟩
 refine codeAny_call_function G.depth (U _ _ lk) rfl S.co S.gen rfl (W.codeRec_of U iL) (hb _ _ _ _ ?_);refine awq S.kind Fs λenv he s1 x=>?_;subst he;refine⟨a2.keeps x.toInCall.keep,codeAny_func ?_⟩;obtain⟨t,ht,hq⟩:=oF A outer s H vs Q E (G.deeper _) jy;have I:Inv (kS CX P w K mg base N a_ scope f j A outer s H E) [] (start N vs) H s1:=Oj S G.hd z hl r x;refine eM (ht [] s1 (start N vs) H _ I hq) (λfl s' hs=>?_) λe s' hs=>hs;have a1:∀{σ':St}{H':Hp}{v:V}{u:Value},Inv (kS CX P w K mg base N a_ scope f j A outer s H E) [] σ' H' s'->RelV v u->Q v H'->CE outer P w H s Q u s':=
  λ{σ' H' v u} J O q=>⟨v,H',J.os,J.bare,J.base,J.hok,O,q⟩
 cases fl with
 | ret u=>
  obtain⟨v,σ',H',J,O,q⟩:=hs;exact a1 J O q
 | next=>
  obtain⟨σ',H',J,q⟩:=hs;exact a1 (v:=V.non) (u:=Value.none) J rfl q
 | brk=>
  obtain⟨_,_,_,q⟩:=hs;exact False.elim q
 | cont=>
  obtain⟨_,_,_,q⟩:=hs;exact False.elim q
section
variable {x:Str}{pos:Pos}{t:TA}{id T:String}{r:Lv->Hp->VK->Prop}
def Bq(r:Lv->Hp->VK->Prop)(t:TA):TE:=λZ H Q=>t Z H λvs H1=>r vs H1 Q
theorem cr(O:fe X (.builtin id) r)(Y:Gl X x)(hm:X.mg x=none)(hv:bootBuiltins x=some (.builtin id))(J:PA X (e::es) t)(hn:x≠"__name__":=by decide)(ip:(x == ("__debug__":Str))=false:=by decide)
 (U:starEach (e::es) X.env=(false,eval e X.env)::starEach es X.env:=by rfl) (G:(backTo pos (starEach es X.env)).any (·.1)=false:=by rfl):PE X (.Call (.Name x p) (e::es) [] pos) (Bq r t):=by
 intro ad s Z H Q I h;refine AI (tq I Y hm hv ?_ hn ip);exact PyProof.Rows.callWith_builtin1 (thn (J pos ad s Z H _ I h) λus s1 z=>aP z λvs H1 j r1 q1=>O ad s1 Z H1 vs us Q j r1 q1) U G
theorem eJ(O:fe X (.type T) r)(Y:Gl X x)(hm:X.mg x=none)(hv:bootBuiltins x=some (.type T))(J:PA X (e::es) t)(hn:x≠"__name__":=by decide)(ip:(x == ("__debug__":Str))=false:=by decide)
 (U:starEach (e::es) X.env=(false,eval e X.env)::starEach es X.env:=by rfl) (G:(backTo pos (starEach es X.env)).any (·.1)=false:=by rfl):PE X (.Call (.Name x p) (e::es) [] pos) (Bq r t):=by
 intro ad s Z H Q I h;refine AI (tq I Y hm hv ?_ hn ip);exact Mw (thn (J pos ad s Z H _ I h) λus s1 z=>aP z λvs H1 j r1 q1=>O ad s1 Z H1 vs us Q j r1 q1) U G
end
end L2
namespace HT
theorem abv(A:Around)(s:Shared)(a:Int)(t:Tok)(c:Int)(u:Tok):∃e,SeqAt.EqAt A s (.int a t) (.int c u) e/\(e=true↔a=c):=
 ⟨(a == c),SeqAt.EqAt.int_int a t c u,by simp⟩
theorem abw(A:Around)(s:Shared)(a:Int)(t:Tok)(c:Int)(u:Tok)(prog:Program)(w:World)(E:VP)(Q:VP)(h:Q (.bool (decide (a<c))) s) :
 wpAny (model prog w) A (richCompare .Lt (.int a t) (.int c u)) Q E s:=
 (PyProof.Rows.lt_int h:wpAny (model prog w) A (compareOp .Lt (.int a t) (.int c u)) Q E s)
section
variable {prog:Program}{w:World}{A:Around}{E:VP}{s:Shared}
def gG(n d:Nat):Option Int->Nat
 | none=>d
 | some v=>if v<0 then(v+(n:Int)).toNat else min v.toNat n
theorem Om(n d:Nat):gG n d none=d:=rfl
theorem Br(n d k:Nat):gG n d (some (k:Int))=min k n:=by
 show(if (k:Int)<0 then((k:Int)+(n:Int)).toNat else min (k:Int).toNat n)=min k n;rw[ag (by omega),lN]
end
end HT
namespace L2
variable {X:Cx}{pos:Pos}{α:Type}{n t':Nat}{v:V}{a b:Addr}{A:Around}{s:Shared}{u:Value}{ad:Po}{Z:St}{T:String}{w:World}{kvs:List (List NI×V)}{P:Program}{H':Hp}
abbrev TO:=St->Hp->(Option Int->Hp->Prop)->Prop
def PO(X:Cx)(e:Option Expr)(t:TO):Prop:=
 ∀(ad:Po) (s:Shared) (Z:St) (H:Hp) (Q:Option Int->Hp->Prop),Inv X ad Z H s->t Z H Q ->
  wpAny (model X.prog X.w) X.A (evalPart e X.env) (λu s'=>∃o H',Inv X ad Z H' s'/\IsPart u o/\Q o H') X.xe s
def abx:TO:=λ_ H Q=>Q none H
inductive Oo (Q:Option Int->Hp->Prop) (H1:Hp):V->Prop where
 | mk {i:Int} (_:Q (some i) H1):Oo Q H1 (.int i)
def aby(t:TE):TO:=λZ H Q=>t Z H λx H1=>Oo Q H1 x
section
variable {e:Expr}{te:TE}{lo hi:Option Expr}{tl th:TO}{p2:Pos}
theorem qJ:PO X none abx:=by
 intro ad s Z H Q I h;rw[X6];exact ar ⟨none,H,I,.none,h⟩
theorem kU(h:PE X e te):PO X (some e) (aby te):=by
 intro ad s Z H Q I G;rw[evalPart_some];refine thn (h ad s Z H _ I G) λu U z=>aP z λx H1 j O J=>?_;obtain @⟨i,q⟩:=J;obtain⟨t,rfl⟩:=O;exact⟨some i,H1,j,.int i t,q⟩
def tK(X:Cx)(r:V->Option Int->Option Int->Hp->VK->Prop):Prop:=
 ∀(ad:Po) (s:Shared) (Z:St) (H:Hp) (x:V) (v z G:Value) (lo hi:Option Int) (j:Addr) (Q:VK),Inv X ad Z H s->RelV x v->s.heap.IsSliceOf j z G .none->IsPart z lo->IsPart G hi->r x lo hi H Q ->
  ∃T id,typeLookup (.type T) "__getitem__"=pure (some (.builtin id))/\s.TypeIs v T/\wpAny (model X.prog X.w) X.A (getItem v (.ref j)) (EP X ad Z Q) X.xe s
def tSl(r:V->Option Int->Option Int->Hp->VK->Prop)(te:TE)(tl th:TO):TE:=λZ H Q=>te Z H λx H1=>tl Z H1 λl H2=>th Z H2 λu H3=>r x l u H3 Q
theorem mT{r:V->Option Int->Option Int->Hp->VK->Prop}(hr:tK X r)(he:PE X e te)(hl:PO X lo tl)(hu:PO X hi th):PE X (.Subscript e (.Slice lo hi none p2) pos) (tSl r te tl th):=by
 intro ad s Z H Q I h;refine MB (thn (he ad s Z H _ I h) λv s1 Y=>aP Y λx H1 G r1 q1=>?_);refine wpAny_Slice (thn (hl ad s1 Z H1 _ G q1) λj s2 a0=>aP a0 λl H2 J pl q2=>thn (hu ad s2 Z H2 _ J q2) λz s3 a1=>aP a1 λu H3 O pu q3=>?_);rw[X6];refine ar ?_;have U:Inv X ad Z H3 { s3 with heap:=s3.heap.push { cls:=.type "slice",data:=.fields #[j,z,.none] } }:=O.kept (t':=s3.toks) λb ob q=>cf _ q;obtain⟨T,id,hT,ht,hg⟩:=hr ad { s3 with heap:=s3.heap.push { cls:=.type "slice",data:=.fields #[j,z,.none] } } Z H3 x v j z l u s3.heap.objs.size Q U r1 (Heap.IsSliceOf.new ..) pl pu q3;show wpAny (model X.prog X.w) X.A (subscriptTail e (.Slice lo hi none p2) v (.ref s3.heap.objs.size)) (EP X ad Z Q) X.xe { s3 with heap:=s3.heap.push { cls:=.type "slice",data:=.fields #[j,z,.none] } };exact tail_any (ops:=[.ref s3.heap.objs.size,v]) ht hT hg (by with_unfolding_all rfl)
def tL(xs:Lv)(lo hi:Option Int):Lv:=(xs.drop (HT.gG xs.length 0 lo)).take (HT.gG xs.length xs.length hi - HT.gG xs.length 0 lo)
theorem abE(xs:Lv)(lo hi:Option Int):(tL xs lo hi).length<=xs.length:=by
 unfold tL;rw[eF,mI];omega
end
def oG(n:Nat)(i:Int):Option Nat:=if 0<=i then(if i<n then some i.toNat else none) else if -(n:Int)<=i then some (i+n).toNat else none
def cu(xs:List α)(i:Int):Option α:=(oG xs.length i).bind λj=>xs[j]?
theorem abF{i:Int}{j:Nat}(h:oG n i=some j):seqIndex? i n=some j/\j<n/\-(n:Int)<=i/\i<n:=by
 unfold oG at h
 by_cases h0:0<=i
 . rw[am h0]at h
   by_cases h1:i<n
   . rw[am h1]at h;have e:i.toNat=j:=hJ h;exact⟨by rw[seqIndex_of h0 h1,e],by omega,by omega,h1⟩
   rw[ag h1]at h;cases h
 rw[ag h0]at h
 by_cases h1:-(n:Int)<=i
 . rw[am h1]at h;have e:(i+n).toNat=j:=hJ h;exact⟨by rw[seqIndex_neg (by omega) h1,e],by omega,h1,by omega⟩
 rw[ag h1]at h;cases h
theorem Bs{xs:List α}{i:Int}{v:α}(h:cu xs i=some v):∃j,seqIndex? i xs.length=some j/\xs[j]?=some v/\j<xs.length/\-(xs.length:Int)<=i/\i<xs.length:=by
 unfold cu at h;cases e:oG xs.length i with
 | none=>rw[e]at h;cases h
 | some j=>
  rw[e]at h;obtain⟨h1,h2,z,G⟩:=abF e;exact⟨j,h1,h,h2,z,G⟩
theorem Bt{xs:List α}{j:Nat}{v:α}(h:xs[j]?=some v):cu xs (j:Int)=some v:=by
 have z:j<xs.length:=(cT.mp h).1;have e:oG xs.length (j:Int)=some j:=by
  unfold oG;rw[am (by omega),am (by omega)];simp
 unfold cu;rw[e];exact h
def abG(b:Expr):Prop:=∀o i,subscripted b false o i=operate [o,i] (getItem o i)
def vA(X:Cx)(r:R2):Prop:=
 ∀(value j:Expr) (ad:Po) (s:Shared) (Z:St) (H:Hp) (x y:V) (v u:Value) (Q:VK),Inv X ad Z H s->RelV x v->RelV y u->r x y H Q ->
  subscripted j false v u=operate [v,u] (getItem v u)->wpAny (model X.prog X.w) X.A (subscriptTail value j v u) (EP X ad Z Q) X.xe s
def Op(X:Cx)(id:String)(r:V->Lv->Hp->VK->Prop):Prop:=
 ∀(ad:Po) (s:Shared) (Z:St) (H:Hp) (x:V) (xs:Lv) (v:Value) (us:Lw) (Q:VK),Inv X ad Z H s->RelV x v->aY xs us->r x xs H Q ->
  wpAny (model X.prog X.w) X.A (call (.builtin id) (v::us)) (EP X ad Z Q) X.xe s
section
variable {a b:Expr}{ta tb:TE}
theorem bA{r:R2}(J:vA X r)(z:PE X a ta)(G:PE X b tb)(hs:abG b):PE X (.Subscript a b pos) (Bg r ta tb):=by
 intro ad s Z H Q I h;exact MB (E6 z G I h λv u Y x y H2 j O U q=>J a b ad Y Z H2 x y v u Q j O U q (hs _ _))
inductive Oq (K:Fg) (H:Hp) (Q:VK):V->V->Prop where
 | mk {p:Addr}{xs:Lv}{i:Int}{v:V} (_:aa K H p xs) (_:cu xs i=some v) (_:Q v H):Oq K H Q (.ref p) (.int i)
def Ot(K:Fg):R2:=λx y H Q=>Oq K H Q x y
inductive Ou (K:Fg) (H:Hp) (Q:VK):V->V->Prop where
 | mk {p:Addr}{xs:Lv}{i:Int}{v:V} (_:aZ K H p xs) (_:cu xs i=some v) (_:Q v H):Ou K H Q (.ref p) (.int i)
def Ov(K:Fg):R2:=λx y H Q=>Ou K H Q x y
inductive Ox (H:Hp) (Q:VK):V->V->Prop where
 | mk {z:Str}{i:Int}{c:Nat} (_:z.length<=sizeLine) (_:cu z.cps.toList i=some c) (_:Q (.str ⟨#[c]⟩) H):Ox H Q (.str z) (.int i)
def abH:R2:=λx y H Q=>Ox H Q x y
theorem eR:vA X (Ot X.K):=by
 intro value a0 ad s Z H x y v u Q I rx ry h hs;obtain @⟨p,xs,i,z,hq,he,q⟩:=h;cases rx;obtain⟨t,rfl⟩:=ry;obtain⟨b_,r,pl,hz⟩:=I.list hq;obtain⟨j,h1,h2,h3,Y,h5⟩:=Bs he;obtain⟨w,J,U⟩:=r.get h2;have hl:=r.length;have hn:=x6;have O:EP X ad Z Q w s:=⟨z,H,I,U,q⟩
 by_cases h0:0<=i
 . have G:i.toNat=j:=by
    rw[seqIndex_of h0 h5]at h1;exact hJ h1
   exact item_listR pl.isList h0 (by omega) (by rw[G];simpa using J) O hs
 have G:(i+(b_.toArray.size:Int)).toNat=j:=by
  rw[seqIndex_neg (by omega) Y]at h1;rw[gi,<-hl];exact hJ h1
 exact awr (x:=w) pl.isList.typeIs X7.lookup
  (wpAny_getItem_list_neg (Q:=λr s'=>r=w/\EP X ad Z Q r s') pl.isList (by omega) (by rw[gi]<;>omega) (by omega) (by rw[G];simpa using J) ⟨rfl,O⟩) hs
theorem fj:vA X (Ov X.K):=by
 intro value a0 ad s Z H x y v u Q I rx ry h hs;obtain @⟨p,xs,i,z,hq,U,q⟩:=h;cases rx;obtain⟨t,rfl⟩:=ry;obtain⟨b_,r,pl,hz⟩:=I.tuple hq;obtain⟨j,h1,h2,h3,h4,h5⟩:=Bs U;obtain⟨w,G,O⟩:=r.get h2;have Y:=r.length;have hn:=x6;have J:EP X ad Z Q w s:=⟨z,H,I,O,q⟩;exact awr (x:=w) pl.typeIs slot_tuple_getitem.lookup
  (getItem_tuple (j:=j) (Q:=λr s'=>r=w/\EP X ad Z Q r s') pl (by omega) (by omega) (by rw[gi,<-Y];exact h1) (by simpa using G) ⟨rfl,J⟩) hs
theorem yg:vA X abH:=by
 intro value a0 ad s Z H x y v u Q I Y ry h hs;obtain @⟨z,i,c,hz,O,q⟩:=h;obtain⟨t,rfl⟩:=Y;obtain⟨t',rfl⟩:=ry;obtain⟨j,h1,h2,h3,G,J⟩:=Bs O;have U:z.cps.toList.length=z.length:=by simp[Str.length]
 rw[U]at h1 G J;have hn:=x6;exact tail_any (AK s z t) slot_str_getitem.lookup (getItem_str (c:=c) (by
  have e1:decide (i < -(2 ^ 63:Int))=false:=cy (by omega);have e2:decide (i >= 2 ^ 63)=false:=cy (by omega);rw[e1,e2,sM]) (by rw[h1];simpa using h2) ⟨.str ⟨#[c]⟩,H,I.tok _,⟨_,rfl⟩,q⟩) hs
theorem abI(lo hi:Option Int)(n:Nat):(sliceBounds lo hi none n).1=((HT.gG n 0 lo:Nat):Int)/\(sliceBounds lo hi none n).2.1=((HT.gG n n hi:Nat):Int)/\(sliceBounds lo hi none n).2.2=1:=by
 refine⟨?_,?_,rfl⟩
 . cases lo with
   | none=>simp[sliceBounds,HT.gG]
   | some i=>
    simp only[sliceBounds,HT.gG,Option.getD_none,show(1:Int) > 0 by decide,vd]
    by_cases h:i<0
    . simp only[h,vd]<;>omega
    simp only[h,mG]<;>omega
 cases hi with
 | none=>simp[sliceBounds,HT.gG]
 | some i=>
  simp only[sliceBounds,HT.gG,Option.getD_none,show(1:Int) > 0 by decide,vd]
  by_cases h:i<0
  . simp only[h,vd]<;>omega
  simp only[h,mG]<;>omega
theorem abJ(b_:Lw)(lo hi:Option Int):slicePick b_.toArray lo hi none=((b_.drop (HT.gG b_.length 0 lo)).take (HT.gG b_.length b_.length hi - HT.gG b_.length 0 lo)).toArray:=by
 obtain⟨h1,h2,j⟩:=abI lo hi b_.toArray.size;unfold slicePick;rw[h1,h2,j];simp only[sliceRange_one,pick_run,gi]<;>rfl
def abK(K:Fg):V->Option Int->Option Int->Hp->VK->Prop:=λx lo hi H Q=>∃a xs,x=.ref a/\aa K H a xs/\∀p,H p=none->Q (.ref p) (ah H p (.lst (tL xs lo hi)))
theorem abL:tK X (abK X.K):=by
 intro ad s Z H x v Y vu lo hi U Q I O hs pl J h;obtain⟨a,xs,rfl,G,q⟩:=h;cases O;obtain⟨b_,r,j,hz⟩:=I.list G;have z:=r.length;refine⟨"list",_,X7.lookup,j.isList.typeIs,?_⟩;refine aws j.isList hs pl J .none (by simp) ?_ (by rw[gi]<;>omega);rw[abJ,<-z];refine⟨.ref s.heap.objs.size,_,I.laid (t':=s.toks) (o:=.lst (tL xs lo hi)) (λb ob q=>cf _ q) (aG _) ?_,rfl,q _ (I.hok.fresh (aG _))⟩;exact⟨b8 (abE xs lo hi) hz,_,0,(r.drop (HT.gG xs.length 0 lo)).take (HT.gG xs.length xs.length hi - HT.gG xs.length 0 lo),dN _ rfl⟩
def oH:V->Bool
 | .non=>true
 | .bl _=>true
 | .int _=>true
 | .str _=>true
 | _=>false
def kW:V->V->Bool
 | .non,.non=>true
 | .bl a,.bl b=>a == b
 | .bl a,.int b=>(if a then 1 else 0) == b
 | .int a,.bl b=>a == (if b then 1 else 0)
 | .int a,.int b=>a == b
 | .str a,.str b=>a == b
 | _,_=>false
theorem abM{y x:V}{v:Value}(G:RelV y u)(j:RelV x v)(J:oH y=true)(z:oH x=true):SeqAt.EqAt A s u v (kW y x):=by
 cases y with
 | non=>
  cases G;cases x with
  | non=>cases j;exact SeqAt.EqAt.same _
  | bl b=>cases j;exact SeqAt.EqAt.none_bool b
  | int b=>obtain⟨t,rfl⟩:=j;exact SeqAt.EqAt.none_int b t
  | str b=>obtain⟨t,rfl⟩:=j;exact SeqAt.EqAt.none_str b t
  | _=>exact absurd (show false=true from z) cW
 | bl a=>
  cases G;cases x with
  | non=>cases j;exact SeqAt.EqAt.bool_none a
  | bl b=>cases j;exact SeqAt.EqAt.bool_bool a b
  | int b=>obtain⟨t,rfl⟩:=j;exact SeqAt.EqAt.bool_int a b t
  | str b=>obtain⟨t,rfl⟩:=j;exact SeqAt.EqAt.bool_str a b t
  | _=>exact absurd (show false=true from z) cW
 | int a=>
  obtain⟨t',rfl⟩:=G;cases x with
  | non=>cases j;exact SeqAt.EqAt.int_none a t'
  | bl b=>cases j;exact SeqAt.EqAt.int_bool a t' b
  | int b=>obtain⟨t,rfl⟩:=j;exact SeqAt.EqAt.int_int a t' b t
  | str b=>obtain⟨t,rfl⟩:=j;exact SeqAt.EqAt.int_str a t' b t
  | _=>exact absurd (show false=true from z) cW
 | str a=>
  obtain⟨t',rfl⟩:=G;cases x with
  | non=>cases j;exact SeqAt.EqAt.str_none a t'
  | bl b=>cases j;exact SeqAt.EqAt.str_bool a t' b
  | int b=>obtain⟨t,rfl⟩:=j;exact SeqAt.EqAt.str_int a t' b t
  | str b=>obtain⟨t,rfl⟩:=j;exact SeqAt.EqAt.str_str a t' b t
  | _=>exact absurd (show false=true from z) cW
 | _=>exact absurd (show false=true from J) cW
def jn(x:V)(u:Value):Bool:=match u with
 | .none=>kW .non x
 | .bool b=>kW (.bl b) x
 | .int i _=>kW (.int i) x
 | .str z _=>kW (.str z) x
 | _=>false
theorem Oy{x y:V}(r:RelV y u)(f:oH y=true):jn x u=kW y x:=by
 cases y with
 | non=>cases r;rfl
 | bl b=>cases r;rfl
 | int i=>obtain⟨t,rfl⟩:=r;rfl
 | str z=>obtain⟨t,rfl⟩:=r;rfl
 | _=>exact absurd (show false=true from f) cW
theorem yh{x:V}:∀{xs:Lv}{us:Lw},aY xs us->xs.all oH=true->us.any (jn x)=xs.any λy=>kW y x
 | _,_,.nil,_=>rfl
 | y::xs,u::us,.cons r t,f=>by
  rw[AL,im]at f;rw[sN,sN,Oy r f.1,yh t f.2]
theorem yi{x:V}{v:Value}(z:RelV x v)(j:oH x=true):∀{xs:Lv}{us:Lw},aY xs us->xs.all oH=true->∀u∈us,SeqAt.EqAt A s u v (jn x u)
 | _,_,.nil,_=>λu hu=>by cases hu
 | y::xs,u::us,.cons r t,f=>λG hu=>by
  rw[AL,im]at f
  rcases bc.mp hu with rfl | hu
  . rw[Oy r f.1];exact abM r z f.1 j
  exact yi z j t f.2 G hu
def mV(x:V)(xs:Lv):Bool:=xs.any λy=>kW y x
inductive Oz (K:Fg) (j:Bool) (x:V) (H:Hp) (Q:VK):V->Prop where
 | mk {p:Addr}{xs:Lv} (_:(aa K H p xs\/aZ K H p xs)) (_:oH x=true) (_:xs.all oH=true) (_:Q (.bl (if j then !mV x xs else mV x xs)) H):Oz K j x H Q (.ref p)
def Ft(K:Fg)(j:Bool):R2:=λx y H Q=>Oz K j x H Q y
theorem OA:cM X (compareOp .In) (Ft X.K false):=by
 intro ad s Z H x y v u Q I G J h;obtain @⟨p,xs,hq,z,fs,q⟩:=h;cases J
 rcases hq with hq | hq
 . obtain⟨b_,r,pl,hz⟩:=I.list hq;refine SeqAt.in_listAt (jn x) pl.isList (λw j=>yi G z r fs w (by simpa using j)) ⟨.bl _,H,I,rfl,?_⟩;rw[show b_.toArray.any (jn x)=b_.any (jn x) by simp,yh r fs];exact q
 obtain⟨b_,r,pl,hz⟩:=I.tuple hq;refine SeqAt.in_tupleAt (jn x) pl (λw j=>yi G z r fs w (by simpa using j)) ⟨.bl _,H,I,rfl,?_⟩;rw[show b_.toArray.any (jn x)=b_.any (jn x) by simp,yh r fs];exact q
theorem abN:cM X (compareOp .NotIn) (Ft X.K true):=by
 intro ad s Z H x y v u Q I G J h;obtain @⟨p,xs,hq,z,fs,q⟩:=h;cases J
 rcases hq with hq | hq
 . obtain⟨b_,r,pl,hz⟩:=I.list hq;refine SeqAt.notIn_listAt (jn x) pl.isList (λw j=>yi G z r fs w (by simpa using j)) ⟨.bl _,H,I,rfl,?_⟩;rw[show b_.toArray.any (jn x)=b_.any (jn x) by simp,yh r fs];exact q
 obtain⟨b_,r,pl,hz⟩:=I.tuple hq;refine SeqAt.notIn_tupleAt (jn x) pl (λw j=>yi G z r fs w (by simpa using j)) ⟨.bl _,H,I,rfl,?_⟩;rw[show b_.toArray.any (jn x)=b_.any (jn x) by simp,yh r fs];exact q
theorem fU:fe X (.builtin "len") (λxs H Q=>∃p ys,xs=[.ref p]/\(aa X.K H p ys\/aZ X.K H p ys)/\Q (.int ys.length) H):=by
 intro ad s Z H xs us Q I r h;obtain⟨p,ys,rfl,hq,q⟩:=h;obtain⟨u,rfl,G⟩:=vals1 r;cases G;have J:=x6
 rcases hq with hq | hq
 . obtain⟨b_,z,pl,hz⟩:=I.list hq;have j:=z.length;exact Calls.call_len_list pl.isList (by simp only[gi]<;>omega) ⟨.int ys.length,H,I.tok _,⟨s.toks+1,by rw[gi,j]⟩,q⟩
 obtain⟨b_,z,pl,hz⟩:=I.tuple hq;have j:=z.length;exact len_tuple pl (by simp only[gi]<;>omega) ⟨.int ys.length,H,I.tok _,⟨s.toks+1,by rw[gi,j]⟩,q⟩
theorem Fu:fe X (.builtin "len") (λxs H Q=>∃z,xs=[.str z]/\z.length<=sizeLine/\Q (.int z.length) H):=by
 intro ad s Z H xs us Q I r h;obtain⟨z,rfl,hz,q⟩:=h;obtain⟨u,rfl,t,rfl⟩:=vals1 r;have j:=x6;exact len_str (by omega) ⟨.int z.length,H,I.tok _,⟨_,rfl⟩,q⟩
theorem yj:fe X (.type "list") (λxs H Q=>∃p ys,xs=[.ref p]/\(aa X.K H p ys\/aZ X.K H p ys)/\∀l,H l=none->Q (.ref l) (ah H l (.lst ys))):=by
 intro ad s Z H xs us Q I r h;obtain⟨p,ys,rfl,hq,q⟩:=h;obtain⟨u,rfl,U⟩:=vals1 r;cases U;have J:∀(b_:Lw),aY ys b_->ys.length<=sizeLine->∀(h':Heap) (c':Nat),(∀b o',s.heap.get? b=some o'->h'.get? b=some o') ->
  h'.get? s.heap.objs.size=some { cls:=.type "list",dict:=none,data:=.seq b_.toArray c',slots:=#[] }->EP X ad Z Q (.ref s.heap.objs.size) { s with heap:=h' }:=λb_ j hz h' c' kp e=>
  ⟨.ref s.heap.objs.size,_,I.laid (t':=s.toks) kp (aG _) (show b9 X.prog X.w _ h' _ (.lst ys) from ⟨hz,b_,c',j,e⟩),rfl,q _ (I.hok.fresh (aG _))⟩
 rcases hq with hq | hq
 . obtain⟨b_,j,pl,hz⟩:=I.list hq;have O:=j.length;obtain⟨o,G,z,n,hd⟩:=pl.isList;exact call_list_seq p (.inl rfl) G z hd (λh' c' kp e=>J b_ j hz h' c' kp e) (by simp only[gi]<;>omega)
 obtain⟨b_,j,pl,hz⟩:=I.tuple hq;have O:=j.length;obtain⟨o,G,z,n,hd⟩:=pl;exact call_list_seq p (.inr rfl) G z hd (λh' c' kp e=>J b_ j hz h' c' kp e) (by simp only[gi]<;>omega)
theorem abO:fe X (.type "tuple") (λxs H Q=>∃p ys,xs=[.ref p]/\((aa X.K H p ys/\∀l,H l=none->Q (.ref l) (ah H l (.tup ys)))\/(aZ X.K H p ys/\Q (.ref p) H))):=by
 intro ad s Z H xs us Q I r h;obtain⟨p,ys,rfl,h⟩:=h;obtain⟨u,rfl,O⟩:=vals1 r;cases O
 rcases h with⟨j,q⟩ | ⟨j,q⟩
 . obtain⟨b_,z,pl,hz⟩:=I.list j;have U:=z.length;refine call_tuple_list pl.isList (λh' kp=>?_) (by simp only[gi]<;>omega);have G:Inv X ad Z H { s with heap:=h' }:=I.kept (t':=s.toks) kp;have J:Inv X ad Z (ah H h'.objs.size (.tup ys)) { s with heap:=h'.push { cls:=.type "tuple",data:=.seq b_.toArray } }:=
    G.laid (t':=s.toks) (λb o e=>cf _ e) (aG _) (show b9 X.prog X.w _ _ _ (.tup ys) from ⟨hz,b_,z,IsTup.new _ _⟩)
   exact⟨.ref h'.objs.size,_,J,rfl,q _ (G.hok.fresh (aG _))⟩
 obtain⟨b_,z,pl,hz⟩:=I.tuple j;exact call_tuple_same pl ⟨.ref p,H,I,rfl,q⟩
def OB(K:Fg)(T:String)(x:V)(H:Hp):Prop:=match x with
 | .str _=>T="str"
 | .int _=>T="int"
 | .ref p=>(T="list"/\∃xs,aa K H p xs)\/(T="tuple"/\∃o,K.lookup p=some o/\o.cls=.type "tuple"/\o.dict=none) \/
  (T="dict"/\((∃kvs,H p=some (.dK kvs))\/∃kvs,H p=some (.dT kvs)))\/(T="set"/\∃S n,H p=some (.set S n))
 | _=>False
theorem OC{H:Hp}{x:V}{v:Value}(I:Inv X ad Z H s)(r:RelV x v)(ty:OB X.K T x H) :
 s.TypeIs v T/\∀a,v=.ref a->∃ob,s.heap.get? a=some ob/\ob.dict=none:=by
 cases x with
 | str z=>
  obtain⟨t,rfl⟩:=r;cases (show T="str" from ty);exact⟨AK s z t,λ_ e=>nomatch e⟩
 | int i=>
  obtain⟨t,rfl⟩:=r;cases (show T="int" from ty);exact⟨typeIs_int s i t,λ_ e=>nomatch e⟩
 | ref p=>
  cases r
  rcases ty with⟨rfl,xs,J⟩ | ⟨rfl,o,j,G,hd⟩ | ⟨rfl,j⟩ | ⟨rfl,S,n,j⟩
  . obtain⟨b_,_,pl,_⟩:=I.list J;refine⟨pl.isList.typeIs,λa e=>?_⟩;cases e;obtain⟨o,n,e,c,hd,_⟩:=pl;exact⟨o,e,hd⟩
  . refine⟨⟨o,I.kIn p o j,G⟩,λa e=>?_⟩;cases e;exact⟨o,I.kIn _ o j,hd⟩
  . have z:∃o,s.heap.get? p=some o/\o.ExactDict:=by
     rcases j with⟨kvs,j⟩ | ⟨kvs,j⟩
     . obtain⟨_,_,_,_,o,_,_,e,ex,_⟩:=I.hok p _ j;exact⟨o,e,ex⟩
     obtain⟨_,_,_,_,o,_,_,e,ex,_⟩:=I.hok p _ j;exact⟨o,e,ex⟩
    obtain⟨o,e,ex⟩:=z;refine⟨⟨o,e,ex.1⟩,λa e2=>?_⟩;cases e2;exact⟨o,e,ex.2.1⟩
  obtain⟨o,_,_,_,e,ex,_⟩:=I.hok p _ j;refine⟨⟨o,e,ex.1⟩,λa e2=>?_⟩;cases e2;exact⟨o,e,ex.2.1⟩
 | _=>exact False.elim ty
def OD(K:Fg)(T:String)(r:V->Lv->Hp->VK->Prop)(to:TE)(t:TA):TE:=λZ H Q=>to Z H λx H1=>OB K T x H1/\t Z H1 λxs H2=>r x xs H2 Q
variable {o e:Expr}{es:List Expr}{to:TE}{t:TA}{name:Str}{apos cw:Pos}{id:String}{r:V->Lv->Hp->VK->Prop}
theorem dH(pa:PlainAttrs T)(slot:Slot T name id)(J:typeOf (.builtin id)=pure (.type "method_descriptor"))(hm:Op X id r)(ho:PE X o to)(ha:PA X (e::es) t)
 (tM:attributeBase o name X.env (eval o X.env)=eval o X.env:=by rfl)
 (O:((backTo cw (starEach (e::es) X.env)).all (λx=>!x.1) && (backToKw cw (keywordEach [] X.env)).all (λx=>x.1.isSome)
  && decide ((e::es).length+([]:List Keyword).length+(if ([]:List Keyword).isEmpty then 0 else 1)<30))=true:=by rfl)
 (tN:(apos.endLine == cw.line)=true:=by rfl) (hs:starEach (e::es) X.env=(false,eval e X.env)::starEach es X.env:=by rfl) (U:(backTo cw (starEach es X.env)).any (·.1)=false:=by rfl) :
 PE X (.Call (.Attribute o name apos) (e::es) [] cw) (OD X.K T r to t):=by
 intro ad s Z H Q I h;refine wpAny_Call_method_late tM O tN rfl (thn (ho ad s Z H _ I h) λv s1 a0=>aP a0 λx H1 j G a1=>a1.elim λty q1=>?_);obtain⟨h1,h2⟩:=OC j G ty;refine⟨T,id,pa,slot,J,h1,h2,?_⟩;have z:=ha cw ad s1 Z H1 _ j q1;rw[hs]at z ⊢;refine EA (by show(false || (backTo cw (starEach es X.env)).any (·.1))=false;rw[U]<;>rfl) (EB ?_);exact thn z λus s2 a2=>aP a2 λvs H2 Y r2 q2=>hm ad s2 Z H2 x vs v us Q Y G r2 q2
end
def oI(X:Cx)(id:String)(r:V->Lv->Hp->VK->Prop):Prop:=
 ∀(ad:Po) (s:Shared) (Z:St) (H:Hp) (x:V) (xs:Lv) (v:Value) (us:Lw) (Q:VK),Inv X ad Z H s->RelV x v->aY xs us->r x xs H Q ->
  wpAny (model X.prog X.w) X.A (call (.builtin id) (v::us)) (EP X ad Z Q) X.xe s
theorem aY.one:∀{x:V}{us:Lw},aY [x] us->∃u,us=[u]/\RelV x u
 | _,_,.cons r .nil=>⟨_,rfl,r⟩
section
variable {H:Hp}{l:Addr}{xs ys zs:Lv}
theorem Inv.lset{b_ its':Lw}{f:Av->Av}(I:Inv X ad Z H s)(j:H l=some (.lst xs))
 (e:s.heap.get? l=some { cls:=.type "list",data:=.seq b_.toArray n }) (G:f b_.toArray=its'.toArray) (O:aY ys its') (hz:ys.length<=sizeLine) :
 Inv X ad Z (ah H l (.lst ys)) { s with heap:=s.heap.update l (Obj.mapSeq f),toks:=t' }:=by
 have q:=PySem.IsL.update e f;rw[G]at q;refine I.write (x:=l) (e:=l) (by rw[j];exact trivial) (.inl rfl) (λb' u z J=>(EC s.heap (Obj.mapSeq f) (gC z)).trans J) ⟨_,q⟩ ?_;exact⟨hz,its',_,O,q⟩
theorem Inv.lnew{b_:Lw}(I:Inv X ad Z H s)(j:aY ys b_)(hz:ys.length<=sizeLine) :
 Inv X ad Z (ah H s.heap.objs.size (.lst ys)) { s with heap:=s.heap.push { cls:=.type "list",data:=.seq b_.toArray },toks:=t' }:=
 I.laid (λ_ _ q=>cf _ q) (aG _) ⟨hz,b_,0,j,dN _ rfl⟩
theorem Inv.fresh(I:Inv X ad Z H s):H s.heap.objs.size=none:=I.hok.fresh (aG _)
theorem Inv.lstM(I:Inv X ad Z H s)(j:H l=some (.lst xs)):xs.length<=sizeLine/\∃(b_:Lw) (n:Nat),aY xs b_/\xs.length=b_.length/\s.heap.get? l=some { cls:=.type "list",data:=.seq b_.toArray n }:=by
 obtain⟨z,b_,n,r,e⟩:=I.hok l _ j;exact⟨z,b_,n,r,r.length,e⟩
theorem abS(h:n<=sizeLine):Builtin.List.listTooLong n=false:=by
 unfold Builtin.List.listTooLong;exact cy (by omega)
end
inductive OE (H:Hp) (Q:VK):V->Lv->Prop where
 | mk {l:Addr}{xs:Lv}{y:V} (_:H l=some (.lst xs)) (_:xs.length<sizeLine) (_:Q .non (ah H l (.lst (xs++[y])))):OE H Q (.ref l) [y]
def abT:V->Lv->Hp->VK->Prop:=λx vs H Q=>OE H Q x vs
theorem qK:oI X "list.append" abT:=by
 intro ad s Z H x vs v us Q I O J h;obtain @⟨l,xs,y,j,hz,q⟩:=h;cases O;obtain⟨u,rfl,G⟩:=J.one;obtain⟨z,b_,n,r,U,e⟩:=I.lstM j;refine ED F.slot_list_append ⟨_,e,rfl⟩ F.entry_list_append (F.args_list_append_2 _ _) (PySem.list_append l b_.toArray n u (by rw[gi];omega)) ⟨e,?_⟩;refine⟨.non,_,I.lset (its':=b_++[u]) j e (by simp) (r.append (.cons G .nil)) ?_,rfl,q⟩;rw[bI,je];omega
inductive OF (H:Hp) (Q:VK):V->Lv->Prop where
 | mk {l:Addr}{b:Addr}{xs:Lv}{zs:Lv} (_:H l=some (.lst xs)) (_:H b=some (.lst zs)) (_:xs.length+zs.length<=sizeLine) (_:Q .non (ah H l (.lst (xs++zs)))):OF H Q (.ref l) [.ref b]
def abU:V->Lv->Hp->VK->Prop:=λx vs H Q=>OF H Q x vs
theorem mW:oI X "list.extend" abU:=by
 intro ad s Z H x vs v us Q I rx rv h;obtain @⟨l,b,xs,zs,G,O,hz,q⟩:=h;cases rx;obtain⟨u,rfl,Y⟩:=rv.one;cases Y;obtain⟨z,b_,n,r,hl,e⟩:=I.lstM G;obtain⟨z2,j,n2,U,yk,e2⟩:=I.lstM O;have hsz:b_.toArray.size+j.toArray.size<=sizeLine:=by rw[gi,gi];omega
 have J:¬(!b_.toArray.isEmpty && Builtin.List.listTooLong (b_.toArray.size+j.toArray.size))=true:=by
  rw[abS hsz,vg];exact cW
 refine ED F.slot_list_extend ⟨_,e,rfl⟩ F.entry_list_extend (F.args_list_extend_2 _ _)
  (AutoSeq1.list_extend_list_list_0 l b_.toArray n b j.toArray n2 J (by rw[gi];omega) (by omega)) ⟨e,e2,?_⟩
 refine⟨.non,_,I.lset (its':=b_++j) G e (by simp) (r.append U) ?_,rfl,q⟩;rw[bI];omega
def abW:R2:=λx y H Q=>∃l b xs zs,x=.ref l/\y=.ref b/\H l=some (.lst xs)/\H b=some (.lst zs)/\xs.length+zs.length<=sizeLine/\∀p,H p=none->Q (.ref p) (ah H p (.lst (xs++zs)))
theorem abX:cM X (binaryOp .Add) abW:=by
 intro ad s Z H x y v u Q I Y ry h;obtain⟨l,b,xs,zs,rfl,rfl,O,J,hz,q⟩:=h;cases Y;cases ry;obtain⟨z,b_,n,r,hl,e⟩:=I.lstM O;obtain⟨z2,j,n2,U,yk,e2⟩:=I.lstM J;refine PySem.P.add_list e e2 ?_ (by rw[gi,gi];omega);have G:b_.toArray++j.toArray=(b_++j).toArray:=by simp
 rw[G];exact⟨.ref _,_,I.lnew (t':=s.toks) (r.append U) (by rw[bI];omega),rfl,q _ I.fresh⟩
section
variable {κ:Type} [DecidableEq κ]
def bi(kvs:List (κ×V))(k:κ):Option V:=(kvs.find? λkv=>decide (kv.1=k)).map (·.2)
def cQ(kvs:List (κ×V))(k:κ)(v:V):List (κ×V):=
 if (kvs.any λkv=>decide (kv.1=k))=true then kvs.map (λkv=>if kv.1=k then(kv.1,v) else kv) else kvs++[(k,v)]
def oJ(kvs:List (κ×V))(k:κ):List (κ×V):=kvs.filter λkv=>decide (kv.1≠k)
theorem jZ{p:κ×V}{r:List (κ×V)}{k:κ}(e:p.1=k):bi (p::r) k=some p.2:=by simp[bi,sO,e]
theorem jo{p:κ×V}{r:List (κ×V)}{k:κ}(e:¬p.1=k):bi (p::r) k=bi r k:=by simp[bi,sO,e]
theorem ym(k:κ):∀kvs:List (κ×V),(kvs.any λkv=>decide (kv.1=k))=(bi kvs k).isSome
 | []=>rfl
 | p::r=>by
  rw[sN]
  by_cases e:p.1=k
  . simp only[jZ e,bE e,X8,Option.isSome_some]
  rw[jo e,cy e,Bool.false_or];exact ym k r
theorem OG(k j:κ)(y:V):∀kvs:List (κ×V),bi (kvs.map λkv=>if kv.1=k then(kv.1,y) else kv) j=(bi kvs j).map λx=>if j=k then y else x
 | []=>rfl
 | p::r=>by
  have G:=OG k j y r;rw[bS]
  by_cases h:p.1=k
  . rw[am h]
    by_cases e:p.1=j
    . rw[jZ (p:=(p.1,y)) e,jZ e,sP,am (e.symm.trans h)]
    rw[jo (p:=(p.1,y)) e,jo e,G]
  rw[ag h]
  by_cases e:p.1=j
  . rw[jZ (p:=p) e,jZ e,sP,ag (λz=>h (e.trans z))]
  rw[jo (p:=p) e,jo e,G]
theorem OH(k j:κ)(y:V):∀kvs:List (κ×V),bi kvs k=none->bi (kvs++[(k,y)]) j=if j=k then some y else bi kvs j
 | [],_=>by
  by_cases e:k=j
  . rw[am e.symm];exact jZ (p:=(k,y)) e
  rw[ag (λz=>e z.symm)];exact jo (p:=(k,y)) e
 | p::r,hn=>by
  rw[qi];have G:¬p.1=k:=λz=>by rw[jZ z]at hn;cases hn
  rw[jo G]at hn;have J:=OH k j y r hn
  by_cases e:p.1=j
  . rw[jZ e,jZ e,ag (λz=>G (e.trans z))]
  rw[jo e,jo e,J]
theorem Bu(kvs:List (κ×V))(k j:κ)(y:V):bi (cQ kvs k y) j=if j=k then some y else bi kvs j:=by
 unfold cQ
 by_cases a:(kvs.any λkv=>decide (kv.1=k))=true
 . rw[am a,OG];rw[ym]at a
   by_cases e:j=k
   . obtain⟨x,z⟩:=Ey.mp a;rw[am e,e,z,sP,am rfl]
   rw[ag e];cases bi kvs j with
   | none=>rfl
   | some x=>rw[sP,ag e]
 rw[ag a];refine OH k j y kvs ?_;rw[ym]at a;cases q:bi kvs k with
 | none=>rfl
 | some x=>rw[q]at a;exact(a rfl).elim
theorem yn(kvs:List (κ×V))(k:κ)(v:V):(cQ kvs k v).length<=kvs.length+1:=by
 unfold cQ;split
 . rw[ak];omega
 rw[bI,bU,kG];omega
theorem FA{kvs:List (κ×V)}{k:κ}(v:V)(h:bi kvs k=none):cQ kvs k v=kvs++[(k,v)]:=by
 unfold cQ;rw[ym,h];exact ag (by decide)
theorem gO.isSome_eq{o:Option V}{u:Option Value}(r:gO o u):o.isSome=u.isSome:=by
 cases o with
 | none=>cases u with
  | none=>rfl
  | some _=>exact(show False from r).elim
 | some _=>cases u with
  | none=>exact(show False from r).elim
  | some _=>rfl
theorem gO.getD{o:Option V}{u:Option Value}{d:V}{d':Value}(r:gO o u)(j:RelV d d'):RelV (o.getD d) (u.getD d'):=by
 cases o with
 | none=>cases u with
  | none=>exact j
  | some _=>exact(show False from r).elim
 | some _=>cases u with
  | none=>exact(show False from r).elim
  | some _=>exact r
theorem KV.val{kvs:List (κ×V)}{vs:List (κ×Value)}(r:KV kvs vs)(k:κ):gO (bi kvs k) (valueAt vs k):=by
 unfold KV at r
 induction r with
 | nil=>exact True.intro
 | @cons p q ps G h t J=>
  obtain⟨h1,h2⟩:=h
  by_cases e:p.1=k
  . have j:q.1=k:=h1.symm.trans e;have b:valueAt (q::G) k=some q.2:=by simp[valueAt,sO,j]
    rw[jZ e,b];exact h2
  have j:¬q.1=k:=λz=>e (h1.trans z);have b:valueAt (q::G) k=valueAt G k:=by simp[valueAt,sO,j]
  rw[jo e,b];exact J
theorem KV.any{kvs:List (κ×V)}{vs:List (κ×Value)}(r:KV kvs vs)(k:κ):(kvs.any λkv=>decide (kv.1=k))=vs.any λkv=>decide (kv.1=k):=by
 unfold KV at r
 induction r with
 | nil=>rfl
 | cons h t j=>rw[sN,sN,j,h.1]
theorem KV.repl{kvs:List (κ×V)}{vs:List (κ×Value)}(r:KV kvs vs)(k:κ){y:V}(G:RelV y u) :
 KV (kvs.map λkv=>if kv.1=k then(kv.1,y) else kv) (vs.map λkv=>if kv.1=k then(kv.1,u) else kv):=by
 unfold KV at r ⊢
 induction r with
 | nil=>exact .nil
 | @cons p q ps J h t j=>
  rw[bS,bS];refine .cons ?_ j;obtain⟨h1,h2⟩:=h
  by_cases e:p.1=k
  . rw[am e,am (h1.symm.trans e)];exact⟨h1,G⟩
  rw[ag e,ag (λz=>e (h1.trans z))];exact⟨h1,h2⟩
theorem KV.put{kvs:List (κ×V)}{vs:List (κ×Value)}(r:KV kvs vs)(k:κ){y:V}(j:RelV y u):KV (cQ kvs k y) (stored vs k u):=by
 unfold cQ stored;rw[r.any k]
 by_cases e:(vs.any λkv=>decide (kv.1=k))=true
 . rw[am e,am e];exact r.repl k j
 rw[ag e,ag e];exact Paired.snoc r ⟨rfl,j⟩
theorem KV.drop{kvs:List (κ×V)}{vs:List (κ×Value)}(r:KV kvs vs)(k:κ):KV (oJ kvs k) (without vs k):=by
 unfold KV at r ⊢;unfold oJ without
 induction r with
 | nil=>exact .nil
 | @cons p q ps J h t j=>
  obtain⟨h1,h2⟩:=h;rw[qj,qj]
  by_cases e:p.1=k
  . have a:¬decide (p.1≠k)=true:=by simp[e]
    have b:¬decide (q.1≠k)=true:=by simp[h1.symm.trans e]
    rw[ag a,ag b];exact j
  have G:¬q.1=k:=λz=>e (h1.trans z);have a:decide (p.1≠k)=true:=by simp[e]
  have b:decide (q.1≠k)=true:=by simp[G]
  rw[am a,am b];exact .cons ⟨h1,h2⟩ j
theorem KV.length{kvs:List (κ×V)}{vs:List (κ×Value)}(r:KV kvs vs):kvs.length=vs.length:=XU r
theorem abY(kvs:List (κ×V))(k:κ):(oJ kvs k).length<=kvs.length:=qk _ _
end
theorem ma{k:ao}(r:RelV (kV k) u):(cz P w).is k u=true:=by
 cases k with
 | inl i=>obtain⟨t,e⟩:=(show∃t,u=Value.int i t from r);subst e;exact YU P w i t
 | inr x=>obtain⟨t,e⟩:=(show∃t,u=Value.str x t from r);subst e;exact sY P w x t
theorem OI:∀{ks:List ao}{us:Lw},aY (ks.map kV) us->ItemsAre (cz P w) ks us
 | [],_,r=>by rw[AM]at r;cases r;exact .nil
 | k::ks,_,r=>by
  rw[bS]at r;cases r with
  | cons h t=>exact .cons (ma h) (OI t)
abbrev KT (H:Hp):List (List NI×V)->List (List NI×Addr×Value)->Prop:=Paired λp q=>p.1=q.1/\kL H p.1 q.2.1/\RelV p.2 q.2.2
theorem KT.val{H:Hp}{xs:List (List NI×Addr×Value)}(r:KT H kvs xs)(k:List NI):gO (bi kvs k) ((atKey xs k).map (·.2)):=by
 induction r with
 | nil=>exact True.intro
 | @cons p q ps G h t J=>
  obtain⟨h1,_,h2⟩:=h
  by_cases e:p.1=k
  . have j:q.1=k:=h1.symm.trans e;have b:atKey (q::G) k=some q.2:=by simp[atKey,sO,j]
    rw[jZ e,b];exact h2
  have j:¬q.1=k:=λz=>e (h1.trans z);have b:atKey (q::G) k=atKey G k:=by simp[atKey,sO,j]
  rw[jo e,b];exact J
theorem KT.repl{H:Hp}{xs:List (List NI×Addr×Value)}(r:KT H kvs xs)(k:List NI){y:V}(J:RelV y u) :
 KT H (kvs.map λkv=>if kv.1=k then(kv.1,y) else kv) (xs.map (putAt k u)):=by
 induction r with
 | nil=>exact .nil
 | @cons p q ps O h t G=>
  rw[bS,bS];refine .cons ?_ G;obtain⟨h1,h2,j⟩:=h;unfold putAt
  by_cases e:p.1=k
  . rw[am e,am (h1.symm.trans e)];exact⟨h1,h2,J⟩
  rw[ag e,ag (λz=>e (h1.trans z))];exact⟨h1,h2,j⟩
theorem KT.put{H:Hp}{xs:List (List NI×Addr×Value)}(r:KT H kvs xs)(k:List NI){y:V}(z:kL H k b)(j:RelV y u) :
 KT H (cQ kvs k y) (storedH xs k b u):=by
 have e:(kvs.any λkv=>decide (kv.1=k))=(atKey xs k).isSome:=by
  rw[ym,(r.val k).isSome_eq,X9]
 unfold cQ storedH;rw[e]
 by_cases q:(atKey xs k).isSome=true
 . rw[am q,am q];exact r.repl k j
 rw[ag q,ag q];exact Paired.snoc r ⟨rfl,z,j⟩
theorem KT.keeps{H:Hp}{xs:List (List NI×Addr×Value)}(r:KT H kvs xs)(j:∀b ys,H b=some (.tup ys)->H' b=some (.tup ys)):KT H' kvs xs:=
 Paired.mapP r λ_ _ z=>⟨z.1,z.2.1.keeps j,z.2.2⟩
section
variable {H:Hp}{h:Heap}
theorem OJ{u:HO}(ok:cp P w H h)(e:Rd H a u):b9 P w H h a u:=e.ok ok
theorem oK{kvs:List (ao×V)}(ok:cp P w H h)(e:Rd H a (.dK kvs)):kvs.length<=sizeLine/\(a == sysModules)=false/\∃vs,KV kvs vs/\h.DictOf (cz P w) a vs:=
 show b9 P w H h a (.dK kvs) from OJ ok e
theorem j0{kvs:List (ao×V)}(ok:cp P w H h)(e:H a=some (.dK kvs)):kvs.length<=sizeLine/\(a == sysModules)=false/\∃vs,KV kvs vs/\h.DictOf (cz P w) a vs:=oK ok (.inl e)
theorem abZ{ks:List NI}{vs:Lv}{us:Lw}(ok:cp P w H h)(x:Nf H ks vs)(r:aY vs us):jh P w h ks us:=by
 induction x generalizing us with
 | nil=>cases r;exact .nil
 | @cons i v ks vs p _ G=>
  cases r with
  | cons j O=>
   refine .cons ?_ (G O);cases i with
   | inl k=>
    have p:v=kV k:=p;subst p;exact ma (P:=P) (w:=w) j
   | inr l=>
    obtain⟨b,rfl,e⟩:=p;cases j;obtain⟨_,b_,J,o,h1,h2,n,z⟩:=(show b9 P w H h b (.tup (l.map kV)) from ok b _ e);exact⟨b,rfl,o,b_.toArray,n,h1,h2,z,by simpa using OI J⟩
theorem tP{ks:List NI}(ok:cp P w H h)(e:kL H ks a):(qz P w).is h ks a:=by
 obtain⟨vs,e,x⟩:=e;obtain⟨_,b_,r,o,h1,h2,n,j⟩:=(show b9 P w H h a (.tup vs) from ok a _ e);exact⟨o,b_.toArray,n,h1,h2,j,by simpa using abZ ok x r⟩
theorem qL(ok:cp P w H h)(e:Rd H a (.dT kvs)):kvs.length<=sizeLine/\(a == sysModules)=false /\
 ∃xs,KT H kvs xs/\h.DictOfH (qz P w) a xs:=by
 obtain⟨z,y,xs,r,o,es,ep,h1,h2,G,J,O⟩:=(show b9 P w H h a (.dT kvs) from OJ ok e);refine⟨z,y,xs,r,o,es,ep,h1,h2,G,J,λx hx=>?_,O⟩;have all:∀{l:List (List NI×V)}{m:List (List NI×Addr×Value)},KT H l m->∀x∈m,(qz P w).is h x.1 x.2.1:=by
  intro l m q
  induction q with
  | nil=>intro x hx;exact nomatch hx
  | @cons p q ps Y j t U=>
   intro x hx
   rcases bc.mp hx with e | hx
   . subst e;exact tP ok (by rw[<-j.1];exact j.2.1)
   exact U x hx
 exact all r x hx
theorem ab0(ok:cp P w H h)(e:H a=some (.dT kvs)):kvs.length<=sizeLine/\(a == sysModules)=false /\
 ∃xs,KT H kvs xs/\h.DictOfH (qz P w) a xs:=qL ok (.inl e)
end
def cU(H:Hp)(a:Addr)(y:V)(r:Option V):Prop:=
 (∃kvs k,Rd H a (.dK kvs)/\y=kV k/\r=bi kvs k)\/∃kvs k b,Rd H a (.dT kvs)/\y=.ref b/\kL H k b/\r=bi kvs k
def fV(H:Hp)(a:Addr)(y v:V)(H':Hp):Prop:=
 (∃kvs k,H a=some (.dK kvs)/\y=kV k/\kvs.length<sizeLine/\H'=ah H a (.dK (cQ kvs k v))) \/
 ∃kvs k b,H a=some (.dT kvs)/\y=.ref b/\kL H k b/\kvs.length<sizeLine/\H'=ah H a (.dT (cQ kvs k v))
theorem cU.k{H:Hp}{kvs:List (ao×V)}{k:ao}(e:H a=some (.dK kvs)):cU H a (kV k) (bi kvs k):=.inl ⟨kvs,k,.inl e,rfl,rfl⟩
theorem cU.t{H:Hp}{k:List NI}(e:H a=some (.dT kvs))(j:kL H k b):cU H a (.ref b) (bi kvs k):=.inr ⟨kvs,k,b,.inl e,rfl,j,rfl⟩
theorem fV.k{H:Hp}{kvs:List (ao×V)}{k:ao}(e:H a=some (.dK kvs))(j:kvs.length<sizeLine):fV H a (kV k) v (ah H a (.dK (cQ kvs k v))):=.inl ⟨kvs,k,e,rfl,j,rfl⟩
theorem fV.t{H:Hp}{k:List NI}(e:H a=some (.dT kvs))(j:kL H k b)(z:kvs.length<sizeLine) :
 fV H a (.ref b) v (ah H a (.dT (cQ kvs k v))):=.inr ⟨kvs,k,b,e,rfl,j,z,rfl⟩
section
variable {H:Hp}{y:V}{r:Value}{o:Option V}{E:VP}
theorem Inv.big(I:Inv X ad Z H s):sysModules<s.heap.objs.size:=by
 have h:mainGlobals<s.heap.objs.size:=(I.mod.glob.keeps I.bk).lt;exact vh (by decide) h
theorem ab1{Q:VP}(hu:A.units+64<cLine)(I:Inv X ad Z H s)(g:cU H a y (some v))(Y:RelV y u)(h:∀j s',Inv X ad Z H s'->RelV v j->Q j s') :
 wpAny (model X.prog X.w) A (getItem (.ref a) u) Q E s:=by
 rcases g with⟨kvs,k,e,G,l⟩ | ⟨kvs,k,b,e,G,eb,l⟩
 . subst G;obtain⟨z,hd,vs,U,dd⟩:=oK I.hok e;obtain⟨j,O,J⟩:=gO.some_of (v:=v) (o:=valueAt vs k) (by rw[l];exact U.val k);exact wpAny_getItem_of (ma Y) dd.mapOf O (h j _ (I.tok _) J)
 subst G;cases (show u=Value.ref b from Y);obtain⟨z,hd,xs,U,dd⟩:=qL I.hok e;obtain⟨j,O,J⟩:=gO.some_of (v:=v) (o:=(atKey xs k).map (·.2)) (by rw[l];exact U.val k);obtain⟨p,hp,qM⟩:=awt.mp O;refine wpAny_getItem_heap (vp hu) (tP I.hok eb) dd hp ?_;rw[qM];exact h j _ (I.tok _) J
theorem ab2{Q:VP}(U:A.units+64<cLine)(I:Inv X ad Z H s)(g:cU H a y o)(J:RelV y u)(h:∀s',Inv X ad Z H s'->Q (.bool o.isSome) s') :
 wpAny (model X.prog X.w) A (compareOp .In u (.ref a)) Q E s:=by
 rcases g with⟨kvs,k,e,j,l⟩ | ⟨kvs,k,b,e,j,O,l⟩
 . subst j;obtain⟨z,hd,vs,G,dd⟩:=oK I.hok e;refine wpAny_in_of (ma J) hd dd.mapOf ?_;rw[<-(G.val k).isSome_eq,<-l];exact h _ (I.tok _)
 subst j;cases (show u=Value.ref b from J);obtain⟨z,hd,xs,G,dd⟩:=qL I.hok e;refine wpAny_in_heap (vp U) (tP I.hok O) hd dd ?_;have q:=(G.val k).isSome_eq;rw[X9]at q;rw[<-q,<-l];exact h _ (I.tok _)
theorem ab3{Q:VP}(U:A.units+64<cLine)(I:Inv X ad Z H s)(g:cU H a y o)(J:RelV y u)(h:∀s',Inv X ad Z H s'->Q (.bool (!o.isSome)) s') :
 wpAny (model X.prog X.w) A (compareOp .NotIn u (.ref a)) Q E s:=by
 rcases g with⟨kvs,k,e,j,l⟩ | ⟨kvs,k,b,e,j,O,l⟩
 . subst j;obtain⟨z,hd,vs,G,dd⟩:=oK I.hok e;refine wpAny_notIn_of (ma J) hd dd.mapOf ?_;rw[<-(G.val k).isSome_eq,<-l];exact h _ (I.tok _)
 subst j;cases (show u=Value.ref b from J);obtain⟨z,hd,xs,G,dd⟩:=qL I.hok e;refine wpAny_notIn_heap (vp U) (tP I.hok O) hd dd ?_;have q:=(G.val k).isSome_eq;rw[X9]at q;rw[<-q,<-l];exact h _ (I.tok _)
theorem vB{h':Heap}{ob:HO}(I:Inv X ad Z H s)(J:xV (H a))(hs:Heap.SameBut a s.heap h')(G:∃q,h'.get? a=some q)(new:b9 X.prog X.w (ah H a ob) h' a ob) :
 Inv X ad Z (ah H a ob) { s with heap:=h',toks:=t' }:=
 I.write (x:=a) (e:=a) J (.inl rfl) (λb q j z=>(hs.2 b j).trans z) G new
theorem vC{h':Heap}{kvs:List (ao×V)}{vs:List (ao×Value)}(z:kvs.length<=sizeLine)(hd:(a == sysModules)=false)(j:KV kvs vs)(dd:h'.DictOf (cz P w) a vs) :
 b9 P w H' h' a (.dK kvs):=⟨z,hd,vs,j,dd⟩
theorem ab4{Q:Unit->Shared->Prop}(hu:A.units+64<cLine)(I:Inv X ad Z H s)(g:fV H a y v H')(ry:RelV y u)(rv:RelV v r)(h:∀s',Inv X ad Z H' s'->Q () s') :
 wpAny (model X.prog X.w) A (setItem (.ref a) u r) Q E s:=by
 rcases g with⟨kvs,k,e,U,l,O⟩ | ⟨kvs,k,b,e,U,eb,l,O⟩
 . subst U O;obtain⟨z,hd,vs,j,dd⟩:=j0 I.hok e;have hz:vs.length<=sizeLine:=by rw[<-j.length];exact z
   have Y:(cQ kvs k v).length<=sizeLine:=by have:=yn kvs k v;omega
   refine wpAny_setItem_pairs (hsz:=hz) (ma ry) dd λh' G hs=>h _ ?_;have he:∃q,h'.get? a=some q:=G.elim λq a0=>a0.elim λ_ a1=>a1.elim λ_ a2=>a2.elim λJ _=>⟨q,J⟩;exact vB I (by rw[e];exact True.intro) hs he (vC Y hd (j.put k rv) G)
 subst U O;cases (show u=Value.ref b from ry);obtain⟨z,hd,xs,j,dd⟩:=ab0 I.hok e;have hz:xs.length<=sizeLine:=by rw[<-XU j];exact z
 have Y:(cQ kvs k v).length<=sizeLine:=by have:=yn kvs k v;omega
 refine wpAny_setItem_heap (hsz:=hz) (vp hu) (tP I.hok eb) dd λh' G hs=>h _ ?_;obtain⟨q,es,ep,J,h2,h3,h4,_,h5⟩:=G;refine vB I (by rw[e];exact True.intro) hs ⟨q,J⟩ ⟨Y,hd,_,(j.put k eb rv).keeps λc ys ec=>?_,q,es,ep,J,h2,h3,h4,h5⟩;rw[aW (be ec e (λz=>nomatch z))];exact ec
end
section
variable {H:Hp}{kvs:List (ao×V)} {k:ao}{E:VP}
theorem ab8{j:Lw}{Q:VP}(I:Inv X ad Z H s)(e:H a=some (.dK kvs))(O:RelV (kV k) u)(l:bi kvs k=some v)(Y:j=[]\/∃x,j=[x])
 (h:∀G s',Inv X ad Z (ah H a (.dK (oJ kvs k))) s'->RelV v G->Q G s'):wpAny (model X.prog X.w) A (call (.builtin "dict.pop") (.ref a::u::j)) Q E s:=by
 obtain⟨z,hd,vs,J,dd⟩:=j0 I.hok e;obtain⟨G,hw,gH⟩:=gO.some_of (v:=v) (o:=valueAt vs k) (by rw[<-l];exact J.val k);have hp:(keyPart u).isSome=true:=by
  cases k with
  | inl i=>obtain⟨t,q⟩:=(show∃t,u=Value.int i t from O);subst q;rfl
  | inr x=>obtain⟨t,q⟩:=(show∃t,u=Value.str x t from O);subst q;rfl
 have ha:argsOk "dict.pop" ⟨.ref a::u::j,[]⟩:=by
  rcases Y with q | ⟨x,q⟩
  . subst q;exact PySem.F.args_dict_pop_2 _ _
  subst q;exact PySem.F.args_dict_pop_3 _ _ _
 refine vi awu dd.typeIs PySem.F.entry_dict_pop ha (meets_dict_pop_there (cz X.prog X.w) a (ma O) j Y hp)
  ⟨vs,G,dd,by rw[<-J.length];exact z,hw,λh' U hs=>h G _ ?_ gH⟩
 have he:∃q,h'.get? a=some q:=U.elim λq a0=>a0.elim λ_ a1=>a1.elim λ_ a2=>a2.elim λhq _=>⟨q,hq⟩;exact vB I (by rw[e];exact True.intro) hs he (vC (b8 (abY kvs k) z) hd (J.drop k) U)
end
def OL(i:Expr):Prop:=∀z j,subscripted i false z j=operate [z,j] (getItem z j)
theorem acd{prog:Program}{E:VP}{env:Env}{value j:Expr}{id:String}{Q:VP}
 (hl:typeLookup (.type T) "__getitem__"=pure (some (.builtin id))) (hs:OL j)
 (h:wpAny (model prog w) A (eval value env) (λo U=>wpAny (model prog w) A (eval j env) (λi z=>z.TypeIs o T/\wpAny (model prog w) A (getItem o i) Q E z) E U) E s) :
 wpAny (model prog w) A (eval (.Subscript value j pos) env) Q E s:=by
 refine MB (eM h (λo U h₁=>eM h₁ (λi z J=>?_) λ_ _ x=>x) λ_ _ x=>x);obtain⟨O,J⟩:=J;unfold subscriptTail;refine ae ?_;rw[getitemInPython_of_ne O.not_modules];refine ae (AG O hl ?_);have G:wpAny (model prog w) A (subscripted j false o i) (λr Y=>wpAny (model prog w) A (letTemporaryGo value o r >>= λ_=>pure r) Q E Y) E z:=by
  rw[hs o i];exact wpAny_operating (eM J (λr Y h₃=>ae (wpAny_letTemporaryGo (ar h₃))) λ_ _ x=>x)
 first
  | exact ar (ae G)
  | exact ae (ar (ae G))
  | exact ae G
theorem ace{H:Hp}{y:V}{o:Option V}(I:Inv X ad Z H s)(g:cU H a y o):s.TypeIs (.ref a) "dict":=by
 rcases g with⟨kvs,k,e,_,_⟩ | ⟨kvs,k,b,e,_,_,_⟩
 . obtain⟨_,_,vs,_,dd⟩:=oK I.hok e;exact dd.typeIs
 obtain⟨_,_,xs,_,dd⟩:=qL I.hok e;exact dd.typeIs
inductive OM (Q:VK) (y:V) (H2:Hp):V->Prop where
 | mk {a:Addr}{v:V} (_:cU H2 a y (some v)) (_:Q v H2):OM Q y H2 (.ref a)
def acf(td ty:TE):TE:=λZ H Q=>td Z H λx H1=>ty Z H1 λy H2=>OM Q y H2 x
inductive ON (Q:VK) (y:V) (H2:Hp):V->Prop where
 | mk {a:Addr} (o:Option V) (_:cU H2 a y o) (_:Q (.bl o.isSome) H2):ON Q y H2 (.ref a)
def acg(ty td:TE):TE:=λZ H Q=>ty Z H λy H1=>td Z H1 λx H2=>ON Q y H2 x
inductive OO (Q:VK) (y:V) (H2:Hp):V->Prop where
 | mk {a:Addr} (o:Option V) (_:cU H2 a y o) (_:Q (.bl (!o.isSome)) H2):OO Q y H2 (.ref a)
def ach(ty td:TE):TE:=λZ H Q=>ty Z H λy H1=>td Z H1 λx H2=>OO Q y H2 x
inductive OP (D:Ends) (Z:St) (v:V) (y:V) (H3:Hp):V->Prop where
 | mk {a:Addr}{j:Hp} (_:fV H3 a y v j) (_:D.nx Z j):OP D Z v y H3 (.ref a)
def aci(td ty tv:TE):TS:=λD Z H=>tv Z H λv H1=>td Z H1 λx H2=>ty Z H2 λy H3=>OP D Z v y H3 x
section
variable {o i e value:Expr}{pos' vz:Pos}{td ty tv:TE}
theorem qN(hu:X.A.units+64<cLine)(Y:PE X o td)(hi:PE X i ty)(hs:OL i):PE X (.Subscript o i pos) (acf td ty):=by
 intro ad s Z H Q I h;refine acd PySem.F.slot_dict_getitem.lookup hs (thn (Y ad s Z H _ I h) λu s1 J=>aP J λx H1 z rx q1=>thn (hi ad s1 Z H1 _ z q1) λiv s2 O=>aP O λy H2 j ry a0=>?_);obtain @⟨a,v,g,q2⟩:=a0;obtain rfl:u=Value.ref a:=rx;exact⟨ace j g,ab1 hu j g ry λw' s3 G U=>⟨v,H2,G,U,q2⟩⟩
theorem vD(hu:X.A.units+64<cLine)(hi:PE X i ty)(Y:PE X o td):PC X .In i o (acg ty td):=by
 intro ad s Z H Q I h;refine thn (hi ad s Z H _ I h) λiv s1 J=>aP J λy H1 j ry q1=>thn (Y ad s1 Z H1 _ j q1) λu s2 O=>aP O λx H2 z rx U=>?_;obtain @⟨a,ov,g,q2⟩:=U;obtain rfl:u=Value.ref a:=rx;exact ab2 hu z g ry λs3 G=>⟨.bl ov.isSome,H2,G,rfl,q2⟩
theorem OQ(hu:X.A.units+64<cLine)(hi:PE X i ty)(Y:PE X o td):PC X .NotIn i o (ach ty td):=by
 intro ad s Z H Q I h;refine thn (hi ad s Z H _ I h) λiv s1 J=>aP J λy H1 j ry q1=>thn (Y ad s1 Z H1 _ j q1) λu s2 O=>aP O λx H2 z rx U=>?_;obtain @⟨a,ov,g,q2⟩:=U;obtain rfl:u=Value.ref a:=rx;exact ab3 hu z g ry λs3 G=>⟨.bl (!ov.isSome),H2,G,rfl,q2⟩
theorem iR(hu:X.A.units+64<cLine)(ho:PE X o td)(hi:PE X i ty)(hv:PE X value tv)(hs:swapsWith value (some (.Subscript o i pos')) pos.line X.env=pure false) :
 PS X (.Assign [.Subscript o i pos'] value pos) (aci td ty tv):=by
 intro ad s Z H D I h;refine wpAny_Assign_Subscript (thn (hv ad s Z H _ I h) λr s1 U=>aP U λv H1 z rv q1=>thn (ho ad s1 Z H1 _ z q1) λu s2 Y=>aP Y λx H2 G rx q2=>thn (hi ad s2 Z H2 _ G q2) λiv s3 a0=>aP a0 λy H3 J ry a1=>?_) hs;obtain @⟨a,j,g,q3⟩:=a1;obtain rfl:u=Value.ref a:=rx;exact ab4 hu J g ry rv λs4 O=>⟨Z,j,O,q3⟩
end
theorem OR{H:Hp}(h:Heap)(j:sysModules<h.objs.size):b9 P w H (h.push { cls:=.type "dict",data:=.dict #[] }) h.objs.size (.dK []):=
 ⟨dF _,xA.mpr (gC (cS j)),[],.nil,Heap.DictOf.new h⟩
theorem acw{H:Hp}(h:Heap)(j:sysModules<h.objs.size):b9 P w H (h.push { cls:=.type "dict",data:=.dict #[] }) h.objs.size (.dT []):=
 ⟨dF _,xA.mpr (gC (cS j)),[],.nil,_,#[],0,dN _ rfl,⟨rfl,rfl,rfl⟩,rfl,rfl,kH⟩
def acx:TE:=λ_ H Q=>∀p,H p=none->Q (.ref p) (ah H p (.dK []))
def acy:TE:=λ_ H Q=>∀p,H p=none->Q (.ref p) (ah H p (.dT []))
theorem acz:PE X (.Dict [] [] pos) acx:=λad s Z H Q I h=>
 wpAny_Dict_empty ⟨.ref s.heap.objs.size,_,I.laid (a:=s.heap.objs.size) (o:=.dK []) (t':=s.toks) (λ_ _ q=>cf _ q) (aG _) (OR s.heap I.big),rfl,h _ (I.hok.fresh (aG _))⟩
theorem acA:PE X (.Dict [] [] pos) acy:=λad s Z H Q I h=>
 wpAny_Dict_empty ⟨.ref s.heap.objs.size,_,I.laid (a:=s.heap.objs.size) (o:=.dT []) (t':=s.toks) (λ_ _ q=>cf _ q) (aG _) (acw s.heap I.big),rfl,h _ (I.hok.fresh (aG _))⟩
def FC:List (TE×TE)->St->Hp->(List (V×V)->Hp->Prop)->Prop
 | [],_,H,Q=>Q [] H
 | (tk,tv)::r,Z,H,Q=>tk Z H λx H1=>tv Z H1 λy H2=>FC r Z H2 λps H3=>Q ((x,y)::ps) H3
abbrev VV:List (V×V)->List (Value×Value)->Prop:=Paired λp q=>RelV p.1 q.1/\RelV p.2 q.2
def Bv(X:Cx)(pos:Pos)(j:List (Option Expr))(G:List Expr)(z:List (TE×TE)):Prop:=
 ∀(ad:Po) (s:Shared) (Z:St) (H:Hp) (Q:List (V×V)->Hp->Prop),Inv X ad Z H s->FC z Z H Q ->
  wpAny (model X.prog X.w) X.A (evalPairs (pairTrees j G X.env pos)) (λvs s'=>∃ps H',Inv X ad Z H' s'/\VV ps vs/\Q ps H') X.xe s
theorem OS:Bv X pos [] [] []:=λad s Z H Q I h=>pairTrees_nil_walk ⟨[],H,I,.nil,h⟩
theorem OT{k v:Expr}{ks:List (Option Expr)}{vs:List Expr}{tk tv:TE}{j:List (TE×TE)}(hk:PE X k tk)(hv:PE X v tv)(hr:Bv X pos ks vs j) :
 Bv X pos (some k::ks) (v::vs) ((tk,tv)::j):=λad s Z H Q I h=>
 pairTrees_cons_walk (thn (hk ad s Z H _ I h) λu s1 O=>aP O λx H1 z rx q1=>thn (hv ad s1 Z H1 _ z q1) λw2 s2 U=>aP U λy H2 G ry q2=>
  thn (hr ad s2 Z H2 _ G q2) λws s3 Y=>aP Y λps H3 J a0 q3=>⟨(x,y)::ps,H3,J,.cons ⟨rx,ry⟩ a0,q3⟩)
def md(kvs z:List (ao×V)):List (ao×V):=z.foldl (λj kv=>cQ j kv.1 kv.2) kvs
theorem KV.merge:∀{j:List (ao×V)}{z:List (ao×Value)}{kvs:List (ao×V)}{vs:List (ao×Value)},KV j z->KV kvs vs->KV (md kvs j) (merged vs z):=by
 intro j z kvs vs r;unfold KV at r
 induction r generalizing kvs vs with
 | nil=>intro q;exact q
 | @cons p q ps O h t G=>
  intro J;have e:KV (cQ kvs p.1 p.2) (stored vs q.1 q.2):=by
   have:=J.put p.1 h.2;rw[<-h.1];exact this
  exact G e
theorem FD:∀(j kvs:List (ao×V)),(md kvs j).length<=kvs.length+j.length
 | [],kvs=>by show kvs.length<=kvs.length+0;omega
 | p::r,kvs=>by
  have h1:=FD r (cQ kvs p.1 p.2);have h2:=yn kvs p.1 p.2;show(md (cQ kvs p.1 p.2) r).length<=_;rw[bU];omega
theorem OU{P:Program}{w:World}:∀{kvs:List (ao×V)}{z:List (Value×Value)},VV (kvs.map λkv=>(kV kv.1,kv.2)) z->∃j,Carries (cz P w) z j/\KV kvs j
 | [],_,r=>by rw[AM]at r;cases r;exact⟨[],True.intro,.nil⟩
 | p::kvs,_,r=>by
  rw[bS]at r;cases r with
  | @cons a b as bs h t=>
   obtain⟨j,c,q⟩:=OU (P:=P) (w:=w) t;obtain⟨J,G⟩:=b;exact⟨(p.1,G)::j,⟨ma h.1,rfl,c⟩,.cons ⟨rfl,h.2⟩ q⟩
def acE(j:List (TE×TE)):TE:=λZ H Q=>∀p,H p=none->FC j Z (ah H p (.dK [])) λps H2=>H2 p=some (.dK [])/\∃kvs:List (ao×V),ps=kvs.map (λkv=>(kV kv.1,kv.2))/\kvs.length<=15/\Q (.ref p) (ah H2 p (.dK (md [] kvs)))
theorem OV{j:List (Option Expr)}{G:List Expr}{U:List (TE×TE)}(h:Bv X pos j G U)(qy:j.all (·.isSome)=true)(hl:j.length=G.length)(h0:j≠[])
 (a8:j.length<=15):PE X (.Dict j G pos) (acE U):=by
 intro ad s Z H Q I q;have hn:=I.hok.fresh (aG s.heap.objs.size);have Y:=I.laid (a:=s.heap.objs.size) (o:=.dK []) (h':=s.heap.push { cls:=.type "dict",data:=.dict #[] }) (t':=s.toks) (λ_ _ q=>cf _ q) (aG _) (OR s.heap I.big);refine wpAny_Dict_walk (knd:=cz X.prog X.w) qy hl h0 a8 (thn (h ad _ Z _ _ Y (q _ hn)) λws s2 a0=>aP a0 λps H2 J a9 a1=>a1.elim λe a2=>a2.elim λkvs a3=>a3.elim λep a4=>a4.elim λlk q2=>?_);subst ep;obtain⟨rs,c,rk⟩:=OU (P:=X.prog) (w:=X.w) a9;obtain⟨z,hd,ab,r0,dd⟩:=j0 J.hok e;cases r0;refine⟨rs,c,dd,λh' O hs=>⟨.ref s.heap.objs.size,_,?_,rfl,q2⟩⟩;have hz:(md [] kvs).length<=sizeLine:=by
  have h1:=FD kvs [];rw[kG]at h1;rw[sK];omega
 have he:∃q,h'.get? s.heap.objs.size=some q:=O.elim λq a5=>a5.elim λ_ a6=>a6.elim λ_ a7=>a7.elim λhq _=>⟨q,hq⟩;exact vB J (by rw[e];exact True.intro) hs he (vC hz hd (rk.merge .nil) O)
structure M1(X:Cx)(o:Expr)(m:Str)(apos:Pos)(e:Expr)(cw:Pos):Prop where
 base:attributeBase o m X.env (eval o X.env)=eval o X.env
 few:((backTo cw (starEach [e] X.env)).all (λx=>!x.1) && (backToKw cw (keywordEach [] X.env)).all (λx=>x.1.isSome)
  && decide (([e]:List Expr).length+([]:List Keyword).length+(if ([]:List Keyword).isEmpty then 0 else 1)<30))=true
 line:(apos.endLine == cw.line)=true
 trees:backTo cw (starEach [e] X.env)=[(false,eval e X.env)]
structure M2(X:Cx)(o:Expr)(m:Str)(apos:Pos)(e f:Expr)(cw:Pos):Prop where
 base:attributeBase o m X.env (eval o X.env)=eval o X.env
 few:((backTo cw (starEach [e,f] X.env)).all (λx=>!x.1) && (backToKw cw (keywordEach [] X.env)).all (λx=>x.1.isSome)
  && decide (([e,f]:List Expr).length+([]:List Keyword).length+(if ([]:List Keyword).isEmpty then 0 else 1)<30))=true
 line:(apos.endLine == cw.line)=true
 trees:backTo cw (starEach [e,f] X.env)=[(false,eval e X.env),(false,eval f X.env)]
def Bw(H:Hp)(a:Addr):Prop:=(∃kvs,Rd H a (.dK kvs))\/∃kvs,Rd H a (.dT kvs)
theorem FE{H:Hp}(I:Inv X ad Z H s)(d:Bw H a) :
 s.TypeIs (.ref a) "dict"/\(∀b,Value.ref a=.ref b->∃ob,s.heap.get? b=some ob/\ob.dict=none)/\(a == sysModules)=false:=by
 rcases d with⟨kvs,e⟩ | ⟨kvs,e⟩
 . obtain⟨_,hd,vs,_,dd⟩:=oK I.hok e;refine⟨dd.typeIs,λb q=>?_,hd⟩;cases q;obtain⟨ob,_,_,h1,h2,_⟩:=dd;exact⟨ob,h1,h2.2.1⟩
 obtain⟨_,hd,xs,_,dd⟩:=qL I.hok e;refine⟨dd.typeIs,λb q=>?_,hd⟩;cases q;obtain⟨ob,_,_,h1,h2,_⟩:=dd;exact⟨ob,h1,h2.2.1⟩
section
variable {H:Hp}{y d:V}{r:Value}{o:Option V}{E:VP}
theorem acO{Q:VP}(Y:A.units+64<cLine)(I:Inv X ad Z H s)(g:cU H a y o)(J:RelV y u)(h:∀O s',Inv X ad Z H s'->RelV (o.getD .non) O->Q O s') :
 wpAny (model X.prog X.w) A (call (.builtin "dict.get") [.ref a,u]) Q E s:=by
 rcases g with⟨kvs,k,e,j,l⟩ | ⟨kvs,k,b,e,j,U,l⟩
 . subst j;obtain⟨z,hd,vs,G,dd⟩:=oK I.hok e;refine vi AN dd.typeIs ME (awv _ _) (meets_dict_get (cz X.prog X.w) a (ma J) hd) ⟨_,dd.mapOf,h _ _ (I.tok _) ?_⟩;rw[l];exact(G.val k).getD rfl
 subst j;cases (show u=Value.ref b from J);obtain⟨z,hd,xs,G,dd⟩:=qL I.hok e;refine vi AN dd.typeIs ME (awv _ _) (meetsH_dict_get (qz X.prog X.w) a b hd) ⟨vp Y,k,xs,tP I.hok U,dd,h _ _ (I.tok _) ?_⟩;rw[l];exact(G.val k).getD rfl
theorem acP{Q:VP}(hu:A.units+64<cLine)(I:Inv X ad Z H s)(g:cU H a y o)(O:RelV y u)(J:RelV d r)(h:∀U s',Inv X ad Z H s'->RelV (o.getD d) U->Q U s') :
 wpAny (model X.prog X.w) A (call (.builtin "dict.get") [.ref a,u,r]) Q E s:=by
 rcases g with⟨kvs,k,e,j,l⟩ | ⟨kvs,k,b,e,j,Y,l⟩
 . subst j;obtain⟨z,hd,vs,G,dd⟩:=oK I.hok e;refine vi AN dd.typeIs ME (aww _ _ _) (meets_dict_get_default (cz X.prog X.w) a (ma O) hd r) ⟨_,dd.mapOf,h _ _ (I.tok _) ?_⟩;rw[l];exact(G.val k).getD J
 subst j;cases (show u=Value.ref b from O);obtain⟨z,hd,xs,G,dd⟩:=qL I.hok e;refine vi AN dd.typeIs ME (aww _ _ _) (meetsH_dict_get_default (qz X.prog X.w) a b hd r) ⟨vp hu,k,xs,tP I.hok Y,dd,h _ _ (I.tok _) ?_⟩;rw[l];exact(G.val k).getD J
end
inductive OW (ty:TE) (Z:St) (Q:VK) (H1:Hp):V->Prop where
 | mk {a:Addr} (_:Bw H1 a) (_:ty Z H1 λy H2=>∃o,cU H2 a y o/\Q (o.getD .non) H2):OW ty Z Q H1 (.ref a)
def acQ(td ty:TE):TE:=λZ H Q=>td Z H λx H1=>OW ty Z Q H1 x
inductive OX (ty:TE) (tx:TE) (Z:St) (Q:VK) (H1:Hp):V->Prop where
 | mk {a:Addr} (_:Bw H1 a) (_:ty Z H1 λy H2=>tx Z H2 λz H3=>∃o,cU H3 a y o/\Q (o.getD z) H3):OX ty tx Z Q H1 (.ref a)
def acR(td ty tx:TE):TE:=λZ H Q=>td Z H λx H1=>OX ty tx Z Q H1 x
inductive OY (ty:TE) (Z:St) (Q:VK) (H1:Hp):V->Prop where
 | mk {a:Addr} (_:Bw H1 a) (_:ty Z H1 λy H2=>∃kvs k v,H2 a=some (.dK kvs)/\y=kV k/\bi kvs k=some v/\Q v (ah H2 a (.dK (oJ kvs k)))):OY ty Z Q H1 (.ref a)
def acS(td ty:TE):TE:=λZ H Q=>td Z H λx H1=>OY ty Z Q H1 x
section
variable {o e f:Expr}{apos cw:Pos}{td ty tx:TE}
theorem FF(hu:X.A.units+64<cLine)(ho:PE X o td)(he:PE X e ty)(m:M1 X o "get" apos e cw):PE X (.Call (.Attribute o "get" apos) [e] [] cw) (acQ td ty):=by
 intro ad s Z H Q I h;refine Ya m.base m.few m.line AO AN awx (thn (ho ad s Z H _ I h) λu s1 J=>aP J λx H1 j rx O=>?_);obtain @⟨a,d,q1⟩:=O;obtain rfl:u=Value.ref a:=rx;obtain⟨t1,t2,_⟩:=FE j d;refine⟨t1,t2,?_⟩;rw[m.trees];refine EA rfl (EB (Ew (thn (he ad s1 Z H1 _ j q1) λiv s2 U=>aP U λy H2 z ry Y=>Y.elim λov a0=>a0.elim λg q2=>My ?_)));exact acO hu z g ry λw' s3 G gH=>⟨_,H2,G,gH,q2⟩
theorem acY(hu:X.A.units+64<cLine)(ho:PE X o td)(he:PE X e ty)(hf:PE X f tx)(m:M2 X o "get" apos e f cw):PE X (.Call (.Attribute o "get" apos) [e,f] [] cw) (acR td ty tx):=by
 intro ad s Z H Q I h;refine Ya m.base m.few m.line AO AN awx (thn (ho ad s Z H _ I h) λu s1 a3=>aP a3 λx H1 j rx U=>?_);obtain @⟨a,d,q1⟩:=U;obtain rfl:u=Value.ref a:=rx;obtain⟨t1,t2,_⟩:=FE j d;refine⟨t1,t2,?_⟩;rw[m.trees];refine EA rfl (EB (Ew (thn (he ad s1 Z H1 _ j q1) λiv s2 Y=>aP Y λy H2 G ry q2=>
  Ew (thn (hf ad s2 Z H2 _ G q2) λfv s3 a0=>aP a0 λz H3 J rz a1=>a1.elim λov a2=>a2.elim λg q3=>My ?_))))
 exact acP hu J g ry rz λw' s4 O gH=>⟨_,H3,O,gH,q3⟩
theorem Bx(ho:PE X o td)(he:PE X e ty)(m:M1 X o "pop" apos e cw):PE X (.Call (.Attribute o "pop" apos) [e] [] cw) (acS td ty):=by
 intro ad s Z H Q I h;refine Ya m.base m.few m.line AO awu PySem.F.type_dict_pop (thn (ho ad s Z H _ I h) λu s1 J=>aP J λx H1 j rx O=>?_);obtain @⟨a,d,q1⟩:=O;obtain rfl:u=Value.ref a:=rx;obtain⟨t1,t2,_⟩:=FE j d;refine⟨t1,t2,?_⟩;rw[m.trees];refine EA rfl (EB (Ew (thn (he ad s1 Z H1 _ j q1) λiv s2 U=>aP U λy H2 z ry Y=>Y.elim λkvs a0=>a0.elim λk a1=>a1.elim λv a2=>a2.elim λea a3=>a3.elim λey a4=>a4.elim λl q2=>My ?_)));subst ey;exact ab8 z ea ry l (.inl rfl) λw' s3 G gH=>⟨v,_,G,gH,q2⟩
end
section
variable {H:Hp}{kvs:List (ao×V)} {E:VP}
theorem ade{Q:VP}(I:Inv X ad Z H s)(e:Rd H a (.dK kvs))(h:∀p s',H p=none->Inv X ad Z (ah H p (.dK kvs)) s'->Q (.ref p) s'):wpAny (model X.prog X.w) A (call (.type "dict") [.ref a]) Q E s:=by
 obtain⟨z,hd,vs,G,dd⟩:=oK I.hok e;refine kt_call_dict hd dd (by rw[<-G.length];exact z) λh' J hs=>?_;refine h _ _ (I.hok.fresh (aG _)) (I.laid (a:=s.heap.objs.size) (o:=.dK kvs) (t':=s.toks) (λb q j=>?_) (aG _) (vC z (xA.mpr (gC (cS I.big))) G J));exact(hs.2 b (cS (bH j))).trans (cf _ j)
end
end L2
namespace Att
open PySem.W PySem.Calls
theorem adf{P:Params}{h:Heap}:∀(ns:List Int) (vs:Lw),WellAll P h vs (ns.map WData.int)->IntsAre vs ns:=by
 intro ns
 induction ns with
 | nil=>
  intro vs w;rw[AM]at w;cases w;exact .nil
 | cons n ns j=>
  intro vs w;rw[bS]at w;cases w with
  | cons a b=>
   cases a;exact .cons _ _ (j _ b)
theorem adg{l:OpenLaw}{n:Nat}(hn:l.most=some n){P:Params}{h:Heap}{args:List WData}{O:Lw}
 (G:l.row.toRowW.claim.pre args=true) (U:WellAll P h O args) :
 ∃a vs ns,O=[Value.ref a]/\args=[WData.list (ns.map WData.int)]/\h.get? a=some { cls:=.type "list",data:=.seq vs.toArray }/\IntsAre vs ns/\ns.length<=n:=by
 have a1:WShape.hasAll [] args [.list .int]=true:=(pre_splitW G).1;have J:l.pre.holds [] { args:=args } = true:=(pre_splitW G).2;obtain⟨d,r,rfl,h1,h2⟩:=hasAllW_cons a1;obtain rfl:=hasAllW_nil h2;obtain⟨xs,rfl,Y⟩:=hasW_list h1;obtain⟨ns,rfl⟩:=items_int Y;have a0:ns.length<=n:=by
  unfold OpenLaw.pre at J;have j:(WTm.not (.lt (.lit (.int (n:Int))) (.len (.arg 0)))).holds [] { args:=[.list (ns.map .int)] } = true:=by
   have j:=(holds_andW J).1;rw[hn]at j;exact j
  have z:=condW_of j (w_not (w_lt w_lit (w_len_list (w_arg rfl))));rw[ak]at z;refine Nat.le_of_not_lt λq=>?_;have q':(n:Int)<((ns.length:Nat):Int):=by omega
  first
   | (rw[bE q']at z;exact absurd z (by decide))
   | (simp at z;omega)
 cases U with
 | cons w1 w2=>
  cases w2;cases w1 with
  | list ho qy=>exact⟨_,_,ns,rfl,rfl,ho,adf ns _ qy,a0⟩
theorem adi(l:OpenLaw)(args:List WData):l.row.toRowW.claim.post args (.bool true) args=true:=
 postW_of (r:=l.row.toRowW) (X:=(true == true))
  (show WShape.has [] (.bool true) .bool=true by first | rfl | decide | simp[WShape.has,WShape.arms,WShape.armsAll])
  (show(WTm.eq .res (.lit (.bool true))).value [] { args:=args,res:=some (.bool true),after:=args } = some (.bool (true == true)) from w_eq_bool (w_res rfl) w_lit) rfl
theorem adj{l:OpenLaw}{n:Nat}{q:Program}{a0:Ls}{U:(Mv)->Heap->Prop}{YP:World->Heap->Prop}{d:DefRec}
 (hn:l.most=some n) (yo:d.params.defaults=[])
 (call:∀(w:World) (s₀ j:Shared) (mg O:Mv) (z:Addr) (o:Obj) (pm cd J:Value) (a:Addr) (vs:Lw) (ns:List Int),
  Ground q a0 [] U w s₀ mg O j.heap->YP w j.heap ->
  j.heap.get? z=some o->o.data=.func (docDef d.name d.params d.body d.scope pm cd J)->j.heap.CodeRec cd d.name->mg d.name=some (.ref z) ->
  j.heap.get? a=some { cls:=.type "list",data:=.seq vs.toArray }->IntsAre vs ns->ns.length<=n->j.gens = #[] ->
  codeAny (model l.prog w) callerA (.call (.ref z) ⟨[.ref a],[]⟩) (λr s'=>r=.ok (.ret (.bool true))/\OldK j.heap s'.heap/\s'.os=j.os/\AllBare s'.gens) j) :
 WalkO q a0 U YP l.row.toRowW d [] (λf vs=>PySem.call f vs):=by
 intro w s₀ j mg O G Y z o pm cd J dV kV ho hd iL hD yp hg args a6 as By a3 a5 FG a4;obtain rfl:dV=.none:=Dflts.none hD yo;obtain rfl:kV=.none:=Dflts.noKw hD;obtain⟨a,vs,ns,rfl,rfl,tQ,a1,a2⟩:=adg hn By FG;refine enter_call (qe (call w s₀ j mg O z o pm cd J a vs ns G Y ho (fd_plain hd) iL yp tQ a1 a2 hg) λr s' hq=>?_);obtain⟨rfl,h2,h3,h4⟩:=hq;exact⟨.inl ⟨.bool true,.bool true,[],rfl,λ_=>rfl,.bool true,adi l _,λ_=>⟨List.Pairwise.nil,λ_ hm=>(nomatch hm)⟩⟩,h2,h3,h4⟩
end Att
namespace L2
variable {x a_:Str}{st:Stmt}{f:Addr}{fd:Fy}{A B:Prop}{H:Hp}{l:Ls}{us:Lw}
theorem OZ:∀{vs:Lw}{ns:List Int},IntsAre vs ns->aY (ns.map V.int) vs
 | _,_,.nil=>.nil
 | _,_,.cons n t h=>.cons ⟨t,rfl⟩ (OZ h)
def gm(s:Stmt)(j:Nat):Stmt:=match s with
 | .ClassDef _ _ _ body _ _ _ _ _ _ _=>body.getD j (.Pass ⟨0,0,0,0⟩)
 | _=>.Pass ⟨0,0,0,0⟩
def df(s:Stmt):Arguments:=match s with
 | .FunctionDef _ a _ _ _ _ _ _ _ _=>a
 | _=>{ posonlyargs:=[],args:=[],vararg:=none,kwonlyargs:=[],kw_defaults:=[],kwarg:=none,defaults:=[] }
def cF(s:Stmt):List Stmt:=match s with
 | .FunctionDef _ _ b _ _ _ _ _ _ _=>b
 | _=>[]
def av(s:Stmt):Scope:=match s with
 | .FunctionDef _ _ _ _ _ _ sc _ _ _=>sc
 | _=>{ kind:=.function,names:=[],isGenerator:=false,isCoroutine:=false }
abbrev aJ:ib:=λ_ _ _ _ _ _=>False
abbrev E0:XK:=λ_ _ _=>False
theorem cG{X:Cx}:lY aJ X E0:=λ_ _ _ _ _ _ _ h=>h.elim
structure cn(K:Fg)(x a_:Str)(st:Stmt)(f:Addr)(fd:Fy):Prop where
 ex:∃(oc:Value) (od:Oa) (kV doc pm:Value) (an:Oa) (au ct:Value) (iQ:Array (Option Value)),
  fd=W.fnOf x a_ (df st) (cF st) (av st) .none kV doc pm an au ct/\K.lookup f=some ⟨oc,od,.func fd,iQ⟩/\W.codeIn K au a_=true
 kp:W.keepIn K (.ref f)=true
section
variable {P:Program}{w:World}{K:Fg}{mg:Mv}{base:Heap}
theorem cn.ok{N ps:Ls}{k:Nat}{sp:Sp}(F:cn K x a_ st f fd)(S:aN N ps (av st))(len:∀vs H Q E,sp vs H Q E->vs.length=ps.length)
 (U:∀(j:Value) (A:Around) (outer:List Env) (s:Shared) (H:Hp) (vs:Lv) (Q:VK) (E:XK),cq k (A.deeper (envOfC a_ (av st) s.heap.objs.size f j))->sp vs H Q E ->
  ∃t,cg (kS aJ P w K mg base N a_ (av st) f j A outer s H E).nox (cF st) t/\t { nx:=λ_ H'=>Q .non H',rt:=Q } (start N vs) H):aA P w K mg base aJ (k+1) f fd ps sp:=by
 obtain⟨oc,od,kV,a0,pm,Y,j,ct,iQ,rfl,O,G⟩:=F.ex;refine Fq O G S len λA outer s H vs Q E z J=>?_;obtain⟨t,h,q⟩:=U j A outer s H vs Q E z J;exact⟨t,h.nox,q⟩
theorem cn.binds{ps:Ls}(F:cn K x a_ st f fd)
 (h:∀(kV G pm:Value) (j:Oa) (z ct:Value) (us:Lw),us.length=ps.length->bindArgs (W.fnOf x a_ (df st) (cF st) (av st) .none kV G pm j z ct) ⟨us,[]⟩=pure (ps.zip us)):Binds K fd ps []:=by
 obtain⟨Y,od,kV,G,pm,j,z,ct,O,rfl,U,J⟩:=F.ex;exact .all (h kV G pm j z ct)
theorem fW{O:Value}{U z:Oa}{J:Array (Option Value)}{kV G pm j ct:Value}(l:K.lookup f=some ⟨O,U,.func (W.fnOf x a_ (df st) (cF st) (av st) .none kV G pm z j ct),J⟩)
 (c:W.codeIn K j a_=true) (k:W.keepIn K (.ref f)=true):cn K x a_ st f (W.fnOf x a_ (df st) (cF st) (av st) .none kV G pm z j ct):=⟨⟨O,U,kV,G,pm,z,j,ct,J,rfl,l,c⟩,k⟩
end
theorem bP{n:Nat}(h:n<=1000):n<sizeLine:=Yb h (by decide)
section
variable {X:Cx}
theorem pv(i:Nat){pos:Pos}(j:X.N[i]?=some x:=by rfl)(z:A6 X.env.scope x:=by first | exact Or.inl rfl | exact Or.inr (Or.inl rfl) | exact Or.inr (Or.inr rfl))(hd:(x == ("__debug__":Str))=false:=by decide)
 (G:(x == ("__classdict__":Str))=false:=by decide):PE X (.Name x pos) (qB i):=Zn j z hd G
end
theorem eW(h:B):if false=true then A else B:=by
 rw[ag cW];exact h
theorem fE(h:A):if true=true then A else B:=by
 rw[am rfl];exact h
theorem bj{c:Prop}[Decidable c](h1:c->A)(h2:¬c->B):if c then A else B:=by
 by_cases h:c
 . rw[am h];exact h1 h
 rw[ag h];exact h2 h
theorem adk{c:Prop}[Decidable c](j:c)(h:B):if (!decide c)=true then A else B:=by
 rw[bE j];exact eW h
def ac(H H':Hp):Prop:=∀b o,H b=some o->H' b=some o
theorem ac.refl(H:Hp):ac H H:=λ_ _ h=>h
theorem ac.trans{H1 H2:Hp}(a:ac H H1)(b:ac H1 H2):ac H H2:=λc o h=>b c o (a c o h)
theorem ac.free{H':Hp}(e:ac H H'){l:Addr}(h:H' l=Option.none):H l=Option.none:=by
 cases q:H l with
 | none=>rfl
 | some o=>
  rw[e l o q]at h;cases h
theorem ac.seq{K:Fg}{H':Hp}{a:Addr}{xs:Lv}(e:ac H H')(h:aa K H a xs):aa K H' a xs:=by
 rcases h with(h | ⟨o,h⟩) | h
 . exact .inl (.inl (e _ _ h))
 . exact .inl (.inr ⟨o,e _ _ h⟩)
 exact .inr h
section
variable {K:Fg}
theorem qO{n:Nat}(h:us.length=n+1):∃u r,us=u::r/\r.length=n:=by
 cases us with
 | nil=>cases h
 | cons u r=>exact⟨u,r,rfl,Nat.succ.inj h⟩
theorem O0(h:us.length=1):∃j,us=[j]:=by
 obtain⟨j,r,rfl,e⟩:=qO h;rw[List.eq_nil_of_length_eq_zero e];exact⟨j,rfl⟩
theorem O1(h:us.length=2):∃j z,us=[j,z]:=by
 obtain⟨j,r,rfl,e⟩:=qO h;obtain⟨z,rfl⟩:=O0 e;exact⟨j,z,rfl⟩
theorem O2(h:us.length=3):∃j z G,us=[j,z,G]:=by
 obtain⟨j,r,rfl,e⟩:=qO h;obtain⟨z,G,rfl⟩:=O1 e;exact⟨j,z,G,rfl⟩
theorem O3(h:us.length=4):∃j z G J,us=[j,z,G,J]:=by
 obtain⟨j,r,rfl,e⟩:=qO h;obtain⟨z,G,J,rfl⟩:=O2 e;exact⟨j,z,G,J,rfl⟩
theorem adl(h:us.length=5):∃j z G J O,us=[j,z,G,J,O]:=by
 obtain⟨j,r,rfl,e⟩:=qO h;obtain⟨z,G,J,O,rfl⟩:=O3 e;exact⟨j,z,G,J,O,rfl⟩
theorem adm(h:us.length=6):∃j z G J O U,us=[j,z,G,J,O,U]:=by
 obtain⟨j,r,rfl,e⟩:=qO h;obtain⟨z,G,J,O,U,rfl⟩:=adl e;exact⟨j,z,G,J,O,U,rfl⟩
theorem adn(h:us.length=7):∃j z G J O U Y,us=[j,z,G,J,O,U,Y]:=by
 obtain⟨j,r,rfl,e⟩:=qO h;obtain⟨z,G,J,O,U,Y,rfl⟩:=adm e;exact⟨j,z,G,J,O,U,Y,rfl⟩
theorem ado(h:us.length=8):∃j z G J O U Y u7,us=[j,z,G,J,O,U,Y,u7]:=by
 obtain⟨j,r,rfl,e⟩:=qO h;obtain⟨z,G,J,O,U,Y,u7,rfl⟩:=adn e;exact⟨j,z,G,J,O,U,Y,u7,rfl⟩
theorem cn.binds1(F:cn K x a_ st f fd)
 (h:∀(kV J pm:Value) (z:Oa) (G ct j:Value),bindArgs (W.fnOf x a_ (df st) (cF st) (av st) .none kV J pm z G ct) ⟨[j],[]⟩=pure (l.zip [j])) (O:l.length=1:=by rfl):Binds K fd l []:=
 F.binds (ps:=l) λkV J pm z G ct us e=>by
  obtain⟨j,rfl⟩:=O0 (e.trans O);exact h kV J pm z G ct j
theorem cn.binds2(F:cn K x a_ st f fd)
 (h:∀(kV O pm:Value) (G:Oa) (J ct j z:Value),bindArgs (W.fnOf x a_ (df st) (cF st) (av st) .none kV O pm G J ct) ⟨[j,z],[]⟩=pure (l.zip [j,z])) (U:l.length=2:=by rfl):Binds K fd l []:=
 F.binds (ps:=l) λkV O pm G J ct us e=>by
  obtain⟨j,z,rfl⟩:=O1 (e.trans U);exact h kV O pm G J ct j z
theorem cn.binds3(F:cn K x a_ st f fd)
 (h:∀(kV U pm:Value) (J:Oa) (O ct j z G:Value),bindArgs (W.fnOf x a_ (df st) (cF st) (av st) .none kV U pm J O ct) ⟨[j,z,G],[]⟩=pure (l.zip [j,z,G])) (Y:l.length=3:=by rfl):Binds K fd l []:=
 F.binds (ps:=l) λkV U pm J O ct us e=>by
  obtain⟨j,z,G,rfl⟩:=O2 (e.trans Y);exact h kV U pm J O ct j z G
theorem cn.binds4(F:cn K x a_ st f fd)
 (h:∀(kV Y pm:Value) (O:Oa) (U ct j z G J:Value),bindArgs (W.fnOf x a_ (df st) (cF st) (av st) .none kV Y pm O U ct) ⟨[j,z,G,J],[]⟩=pure (l.zip [j,z,G,J])) (hl:l.length=4:=by rfl):Binds K fd l []:=
 F.binds (ps:=l) λkV Y pm O U ct us e=>by
  obtain⟨j,z,G,J,rfl⟩:=O3 (e.trans hl);exact h kV Y pm O U ct j z G J
theorem cn.binds8(F:cn K x a_ st f fd)
 (h:∀(kV a0 pm:Value) (an:Oa) (au ct j z G J O U Y u7:Value),bindArgs (W.fnOf x a_ (df st) (cF st) (av st) .none kV a0 pm an au ct) ⟨[j,z,G,J,O,U,Y,u7],[]⟩=pure (l.zip [j,z,G,J,O,U,Y,u7])) (hl:l.length=8:=by rfl):Binds K fd l []:=
 F.binds (ps:=l) λkV a0 pm an au ct us e=>by
  obtain⟨j,z,G,J,O,U,Y,u7,rfl⟩:=ado (e.trans hl);exact h kV a0 pm an au ct j z G J O U Y u7
end
end L2
set_option maxHeartbeats 4000000
namespace L2
theorem fX{H:Hp}{p:Addr}{o:HO}(h:H p=none):ac H (ah H p o):=λb u e=>by
 rw[aW (aK e h)];exact e
theorem dQ{H0 H:Hp}{p:Addr}{o:HO}(s:ac H0 H)(h:H0 p=none):ac H0 (ah H p o):=λb u e=>by
 rw[aW (aK e h)];exact s b u e
theorem adp{K:Fg}{H H':Hp}{a:Addr}{xs:Lv}(e:ac H H')(h:aZ K H a xs):aZ K H' a xs:=by
 rcases h with(h | ⟨o,h⟩) | h
 . exact .inl (.inl (e _ _ h))
 . exact .inl (.inr ⟨o,e _ _ h⟩)
 exact .inr h
abbrev dR (x:Str):Prop:=PyData.strOk x=true
theorem tR{x:Str}:dR x↔∀c∈x.cps.toList,c<0x110000:=by
 unfold dR PyData.strOk;rw[Array.all_eq_true'];simp
theorem Bz{x y:Str}(z:dR x)(G:dR y):dR (x++y):=by
 rw[tR]at *;intro c j;have e:(x++y).cps.toList=x.cps.toList++y.cps.toList:=by
  show(x.cps++y.cps).toList=_;simp
 rw[e,bR]at j;exact j.elim (z c) (G c)
theorem j6(x y:Str):(x++y).length=x.length+y.length:=by
 show(x.cps++y.cps).size=_;rw[Array.size_append];rfl
theorem oN(c:Nat):(⟨#[c]⟩:Str).length=1:=rfl
section
variable {X:Cx}
inductive O4 (lo:Option Int) (hi:Option Int) (H:Hp) (Q:VK):V->Prop where
 | mk {z:Str} (_:z.length<=sizeLine) (_:Q (.str (Txt.slice z lo hi)) H):O4 lo hi H Q (.str z)
def adq:V->Option Int->Option Int->Hp->VK->Prop:=λx lo hi H Q=>O4 lo hi H Q x
theorem BA:tK X adq:=by
 intro ad s Z H x v vl vu lo hi sl Q I rx hs pl O h;obtain @⟨z,hz,q⟩:=h;obtain⟨t,rfl⟩:=rx;refine⟨"str",_,PyProof.Rows.slot_str_getitem.lookup,AK _ _ _,?_⟩;obtain⟨o,ho,Y,hd⟩:=hs;have G:∀(l u:Option (Int×Tok)),vl=partValue l->vu=partValue u->lo=l.map (·.1)->hi=u.map (·.1)->wpAny (model X.prog X.w) X.A (getItem (.str z t) (.ref sl)) (EP X ad Z Q) X.xe s:=by
  intro l u e1 e2 e3 e4;subst e1 e2 e3 e4;refine wpAny_getItem_str_slice (l:=l) (u:=u) (st:=none) ⟨o,ho,Y,hd⟩ rfl ?_;exact post_val_or_str ⟨b8 (Txt.slice_le z _ _) hz,λt' k=>⟨.str (Txt.slice z (l.map (·.1)) (u.map (·.1))),H,I.tok _,⟨_,rfl⟩,q⟩⟩
 cases pl with
 | none=>
  cases O with
  | none=>exact G none none rfl rfl rfl rfl
  | int j J=>exact G none (some (j,J)) rfl rfl rfl rfl
 | int i U=>
  cases O with
  | none=>exact G (some (i,U)) none rfl rfl rfl rfl
  | int j J=>exact G (some (i,U)) (some (j,J)) rfl rfl rfl rfl
theorem BB:fe X (.builtin "isinstance") (λxs H Q=>∃x t c b,xs=[x,.ty c]/\jY X.K H x t/\W.kitOne X.K t (.type c)=some b/\Q (.bl b) H):=by
 intro ad s Z H xs us Q I r h;obtain⟨x,t,c,b,rfl,ty,e,q⟩:=h;obtain⟨u,G,rfl,j,z⟩:=vals2 r;cases (show G=Value.type c from z);exact aa4 I j ty e λtk=>⟨.bl b,H,I.tok tk,rfl,q⟩
end
variable {X:Cx}{K:Fg}{s:Shared}{α:Type}{elt iter tg:Expr}{ifs:List Expr}{pos:Pos}{env:Env}{C:Addr}{bq:Ls}{js:List Nat}{sc:Scope}{g:TG}{tt:TT}{te:TE}{σ0:St}
mutual
inductive DV (K:Fg) (H:Hp):V->W.Dat->Prop
 | non:DV K H .non .none
 | int (i:Int):DV K H (.int i) (.int i)
 | str (x:Str):DV K H (.str x) (.str x)
 | tup {a:Addr}{xs:Lv}{ds:List W.Dat}:aZ K H a xs->iu K H xs ds->DV K H (.ref a) (.tuple ds)
 | lst {a:Addr}{xs:Lv}{ds:List W.Dat}:aa K H a xs->iu K H xs ds->DV K H (.ref a) (.list ds)
inductive iu (K:Fg) (H:Hp):Lv->List W.Dat->Prop
 | nil:iu K H [] []
 | cons {x:V}{d:W.Dat}{xs:Lv}{ds:List W.Dat}:DV K H x d->iu K H xs ds->iu K H (x::xs) (d::ds)
end
theorem BC{H:Hp}:∀ns:List Int,iu K H (ns.map V.int) (ns.map W.Dat.int)
 | []=>.nil
 | n::ns=>.cons (.int n) (BC ns)
theorem O5{H:Hp}:∀xs:Ls,iu K H (xs.map V.str) (xs.map W.Dat.str)
 | []=>.nil
 | n::ns=>.cons (.str n) (O5 ns)
section
variable {ad:Po}{Z:St}{H:Hp}
mutual
theorem DV.reads(I:Inv X ad Z H s):∀{x:V}{d:W.Dat}{u:Value},DV X.K H x d->RelV x u->∃as,Reads s.heap u (W.kqdP d) as
 | _,_,_,.non,r=>by cases r;exact⟨_,Reads.none⟩
 | _,_,_,.int i,r=>by obtain⟨t,rfl⟩:=r;exact⟨_,Reads.int i t⟩
 | _,_,_,.str x,r=>by obtain⟨t,rfl⟩:=r;exact⟨_,Reads.str x t⟩
 | _,_,_,.tup h q,r=>by
  cases r;obtain⟨b_,j,⟨o,e,c,n,d⟩,_⟩:=I.tuple h;obtain⟨as,z⟩:=iu.reads I q j;rw[W.kqdP];exact⟨as,reads_tuple_at e c d (by simpa using z)⟩
 | _,_,_,.lst h q,r=>by
  cases r;obtain⟨b_,j,⟨o,n,e,c,_,d⟩,_⟩:=I.list h;obtain⟨as,z⟩:=iu.reads I q j;rw[W.kqdP];exact⟨_,reads_list_at e c d (by simpa using z)⟩
theorem iu.reads(I:Inv X ad Z H s):∀{xs:Lv}{ds:List W.Dat}{us:Lw},iu X.K H xs ds->aY xs us->∃as,ReadsAll s.heap us (W.kqdPs ds) as
 | _,_,_,.nil,.nil=>⟨_,ReadsAll.nil⟩
 | _,_,_,.cons q qs,.cons r rs=>by
  obtain⟨as,z⟩:=DV.reads I q r;obtain⟨bs,y⟩:=iu.reads I qs rs;rw[W.kqdPs];exact⟨_,ReadsAll.cons z y⟩
end
end
theorem qQ{d:W.Dat}(h:W.kqdOk 9 d=true):SeqAt.shaped (W.kqdP d)=true:=by
 have l:=W.kqd_lay 9 d h;unfold SeqAt.shaped;rw[l.1,xI];exact bE (b8 l.2 (by decide))
theorem tS(J:X.A.units+64<cLine):cM X (compareOp .Eq) (λx y H Q=>∃d e,DV X.K H x d/\DV X.K H y e/\W.kqdOk 9 d=true/\W.kqdOk 9 e=true/\∀b:Bool,(b=true↔d=e)->Q (.bl b) H):=by
 intro ad s Z H x y v u Q I Y ry h;obtain⟨d,e,hd,G,j,z,q⟩:=h;obtain⟨as,O⟩:=hd.reads I Y;obtain⟨bs,U⟩:=G.reads I ry;exact eq_dataH O U (qQ j) (qQ z) J ⟨.bl _,H,I,rfl,q _ (xJ 9 d e 9 j z)⟩
theorem FH(J:X.A.units+64<cLine):cM X (compareOp .NotEq) (λx y H Q=>∃d e,DV X.K H x d/\DV X.K H y e/\W.kqdOk 9 d=true/\W.kqdOk 9 e=true/\∀b:Bool,(b=true↔d=e)->Q (.bl (!b)) H):=by
 intro ad s Z H x y v u Q I Y ry h;obtain⟨d,e,hd,G,j,z,q⟩:=h;obtain⟨as,O⟩:=hd.reads I Y;obtain⟨bs,U⟩:=G.reads I ry;exact ne_dataH O U (qQ j) (qQ z) J ⟨.bl _,H,I,rfl,q _ (xJ 9 d e 9 j z)⟩
section
variable {st:Stmt}{rest:List Stmt}{t u:TS}
def adr(M:St->Hp->Prop)(t u:TS):TS:=λD Z H=>t { D with nx:=M } Z H/\∀σ' H',M σ' H'->u D σ' H'
theorem BD(M:St->Hp->Prop)(h1:PS X st t)(h2:cg X rest u):cg X (st::rest) (adr M t u):=by
 intro ad s Z H D I h;refine XX (thn (h1 ad s Z H { D with nx:=M } I h.1) λf z q=>?_);cases f with
 | next=>
  obtain⟨σ',H',j,q⟩:=q;exact h2 ad z σ' H' D j (h.2 σ' H' q)
 | ret v=>exact q
 | brk=>exact q
 | cont=>exact q
end
theorem kX{H:Hp}{p t:Addr}{o:HO}(h:ah H p o t=none):t≠p/\H t=none:=by
 by_cases e:t=p
 . subst e;rw[aE]at h;cases h
 exact⟨e,by rw[aW e]at h;exact h⟩
theorem fit{a b:Str}(j:a.length<=100)(z:b.length<=100):a.length+b.length<=sizeLine:=vf (bP (by omega))
theorem iS{a:Str}(j:a.length<=100):a.length<=sizeLine:=vf (bP (by omega))
theorem FI{xs:List α}{r:Int}(h0:0<=r)(h1:r<xs.length):∃v,cu xs r=some v/\xs[r.toNat]?=some v:=by
 obtain⟨n,rfl⟩:∃n:Nat,r=n:=⟨r.toNat,by omega⟩;have j:n<xs.length:=by omega
 have e:xs[n]?=some (xs[n]'j):=by simp
 exact⟨_,Bt e,by simpa using e⟩
theorem FJ{ns:List Int}{r:Int}(h0:0<=r)(h1:r<ns.length):∃z,cu (ns.map V.int) r=some (V.int z)/\ns[r.toNat]?=some z:=by
 obtain⟨v,e,e2⟩:=FI (xs:=ns.map V.int) h0 (by rw[ak];exact h1);rw[dG]at e2;cases q:ns[r.toNat]? with
 | none=>rw[q]at e2;cases e2
 | some z=>
  rw[q]at e2;cases e2;exact⟨z,e,rfl⟩
def bD(K:Fg)(mg:Mv)(x:Str)(st:Stmt):Prop:=∃f fd,mg x=some (.ref f)/\cn K x x st f fd/\W.keepIn K (.ref f)=true
theorem bF{h:Heap}{mg:Mv}{x:Str}{st:Stmt}{f:Addr}{J j:Oa}{O:Array (Option Value)}{z kV dc pm cd ct:Value}(X:K.In h)(G:h.Ns mainGlobals mg)
 (a:W.nsIn K mainGlobals x=some (some (.ref f))) (l:K.lookup f=some ⟨z,J,.func (W.fnOf x x (df st) (cF st) (av st) .none kV dc pm j cd ct),O⟩) (c:W.codeIn K cd x=true) (k:W.keepIn K (.ref f)=true) :
 bD K mg x st:=⟨f,_,jS X G a,fW l c k,k⟩
abbrev O6 (ifs:List Expr) (env:Env):Sem Bool:=
 forIn ifs true λc r=>if r=true then do let ok <-isTrue c env (eval c env);pure (ForInStep.yield ok) else pure (ForInStep.yield r)
def fF(X:Cx)(ifs:List Expr)(t:TT):Prop:=
 ∀(ad:Po) (s:Shared) (Z:St) (H:Hp) (Q:Bool->Hp->Prop),Inv X ad Z H s->t Z H Q->wpAny (model X.prog X.w) X.A (O6 ifs X.env) (TP X ad Z Q) X.xe s
def qR:TT:=λ_ H Q=>Q true H
theorem fY:fF X [] qR:=λ_ _ _ H _ I h=>wpAny_tests_nil ⟨H,I,h⟩
theorem oO{c:Expr}{t:TT}(h:PT X c t):fF X [c] t:=λad s Z H Q I q=>wpAny_tests_one (h ad s Z H Q I q)
section
variable {prog:Program}{w:World}{A:Around}{R:Result->Shared->Prop}
theorem ads{j:Expr}{scope:Scope}{it z:Value}(I:Nat->Shared->Prop)
 (a0:∀n s,I n s->wpAny (model prog w) A (pyNext it) (λr G=>match r with
  | none=>R (.ok .next) G
  | some v=>wpAny (model prog w) A (letOwnedTupleGo j it v) (λ_ s₀=>wpAny (model prog w) A (assign j env v) (λ_ Y=>
   wpAny (model prog w) A (O6 ifs env) (λok J=>
    if ok=true then wpAny (model prog w) A (eval elt env) (λx s₄=>
     wpAny (model prog w) A (call (.builtin "list.append") [z,x]) (λ_ s₅=>∃m,m<n/\I m s₅) (notedBy (model prog w) A env λe s'=>R (.error e) s') s₄) (notedBy (model prog w) A env λe s'=>R (.error e) s') J
    else∃m,m<n/\I m J) (notedBy (model prog w) A env λe s'=>R (.error e) s') Y) (notedBy (model prog w) A env λe s'=>R (.error e) s') s₀) (notedBy (model prog w) A env λe s'=>R (.error e) s') G) (notedBy (model prog w) A env λe s'=>R (.error e) s') s)
 (n:Nat) (h:I n s):codeAny (model prog w) A (.compLoop (.ListComp elt [⟨j,iter,ifs,0⟩] scope pos) 0 it z env) R s:=by
 refine codeAny_loop rfl I (λn s hI=>?_) n h;show wpAny _ A ((compTurn (.ListComp elt [⟨j,iter,ifs,0⟩] scope pos) 0 it z env).onRaise (λx=>do noteFrame x env;theTreesLotGoes x)) _ _ s;refine wpAny_noted ?_;rw[compTurn_list];refine ae (X2 (ae (eM (a0 n s hI) (λr G O=>?_) λ_ _ h'=>h')));cases r with
 | none=>exact ar O
 | some v=>
  refine ae (eM O (λ_ s₀ h₀=>?_) λ_ _ h'=>h');refine ae (eM h₀ (λ_ Y h₂=>ae (eM h₂ (λok J U=>?_) λ_ _ h'=>h')) λ_ _ h'=>h');cases ok with
  | false=>exact ar ⟨rfl,U⟩
  | true=>
   exact ae (ae (eM U (λx s₄ h₄=>ae (eM h₄ (λ_ s₅ h₅=>ar (ar ⟨rfl,h₅⟩)) λ_ _ h'=>h')) λ_ _ h'=>h'))
end
theorem adt{P:Program}{w:World}{H:Hp}{h1 h2:Heap}(ok:cp P w H h1)(z:Heap.SameBut C h1 h2)(j:H C=none):cp P w H h2:=λb ob e=>by
 refine(ok b ob e).stay (λc G hc q=>(z.2 c ?_).trans q) (λ_ q=>q) λ_ _ q=>q;rintro rfl
 rcases hc with rfl | hc
 . rw[j]at e;cases e
 rw[j]at hc;cases hc
def kY(J:It)(g:TG)(tt:TT)(te:TE)(D:Addr)(G:Hp->Prop)(W:Nat->Nat->St->Hp->Prop):Prop:=
 ∀i m Z H,W i m Z H->(J.stop i H/\G H)\/(J.go i H/\∀x H2,J.yld i H x H2->g x Z H2 λσ3 H3=>tt σ3 H3 λok j=>
  if ok=true then te σ3 j λy z=>∃ys,z D=some (.lst ys)/\ys.length<sizeLine/\∃m',m'<m/\W (i+1) m' σ3 (ah z D (.lst (ys++[y])))
  else∃m',m'<m/\W (i+1) m' σ3 j)
def iw(env:Env):List (Str×NameKind)->List (Str×Addr)->List (Str×Addr)
 | [],cs=>cs
 | (n,k)::r,cs=>if k=.free then iw env r ((n,(env.cells.lookup n).getD 0)::cs) else iw env r cs
theorem adu{scope:Scope}(h:∀y∈scope.names,y.2=.free->∃c,env.cells.lookup y.1=some c):closureFor scope env=pure (iw env scope.names []):=by
 unfold closureFor;generalize scope.names=l at h;have O:∀(l:List (Str×NameKind)) (cs:List (Str×Addr)),(∀y∈l,y.2=.free->∃c,env.cells.lookup y.1=some c) ->
  (forIn l cs fun(x:Str×NameKind) (r:List (Str×Addr))=>(if (x.2 == .free)=true then do let y <-cellOf env x.1;pure (ForInStep.yield ((x.1,y)::r)) else pure (ForInStep.yield r):Sem (ForInStep (List (Str×Addr)))))=pure (iw env l cs):=by
  intro l
  induction l with
  | nil=>intro cs _;rfl
  | cons x l G=>
   intro cs h;obtain⟨n,k⟩:=x;rw[List.forIn_cons]
   by_cases e:k=.free
   . subst e;obtain⟨c,j⟩:=h _ bM rfl;have j:env.cells.lookup n=some c:=j;have e1:cellOf env n=pure c:=by unfold cellOf;rw[j]
     simp only[e1,iw,j,vd,MF,beq_self_eq_true,pure_bind];exact G _ λy z=>h y (bY _ z)
   have J:(k == NameKind.free)=false:=by simpa using e
   simp only[J,iw,e,mG,qa,pure_bind];exact G _ λy z=>h y (bY _ z)
 have:=O l [] h;simpa using this
theorem FK:∀{l:List (Str×NameKind)}{cs:List (Str×Addr)}{x:Str}{c:Addr},(∀y∈l,y.2=.free->∃c,env.cells.lookup y.1=some c)->(∀x c,cs.lookup x=some c->env.cells.lookup x=some c) ->
 (iw env l cs).lookup x=some c->env.cells.lookup x=some c
 | [],_,_,_,_,hc,e=>hc _ _ e
 | (n,k)::l,cs,x,c,h,hc,e=>by
  unfold iw at e;have h':∀y∈l,y.2=.free->∃c,env.cells.lookup y.1=some c:=λy G=>h y (bY _ G);split at e
  . refine FK h' (λz d hz=>?_) e;rename_i j;rw[Yc]at hz;split at hz
    . rename_i q;obtain⟨d',hd⟩:=h (n,k) bM j;have hd:env.cells.lookup n=some d':=hd;have:z=n:=by simpa using q
      subst this;rw[hd]at hz ⊢;exact hz
    exact hc _ _ hz
  exact FK h' hc e
theorem FL:∀{l:List (Str×NameKind)}{cs:List (Str×Addr)}{x:Str},(cs.lookup x).isSome=true->((iw env l cs).lookup x).isSome=true
 | [],_,_,h=>h
 | (n,k)::l,cs,x,h=>by
  unfold iw;split
  . refine FL ?_;rw[Yc];split
    . rfl
    exact h
  exact FL h
theorem FM{x:Str}:∀{l:List (Str×NameKind)}{cs:List (Str×Addr)},(x,NameKind.free)∈l->((iw env l cs).lookup x).isSome=true
 | (n,k)::l,cs,h=>by
  unfold iw
  rcases bc.mp h with e | e
  . cases e;rw[am rfl];refine FL ?_;rw[Yc];simp
  split
  . exact FM e
  exact FM e
def dU(X:Cx)(N:Ls)(sc:Scope)(s₀:Shared)(H₀:Hp)(C:Addr)(ex:List Addr):Cx where
 prog:=X.prog
 w:=X.w
 K:=X.K
 mg:=X.mg
 base:=X.base
 A:=X.A
 N:=N
 s₀:=s₀
 H₀:=H₀
 env:=compEnvC sc (iw X.env sc.names []) C X.env
 outer:=X.stack
 stack:=X.stack
 ex:=ex
 fn:=λ_=>false
 calm:=X.calm
 pn:=[]
 xe:=λ_ _=>False
structure kZ(X:Cx)(own bq:Ls)(js:List Nat)(sc:Scope):Prop where
 kind:sc.kind=.function
 nocell:∀y∈sc.names,y.2≠.cell
 names:∀y∈sc.names,y.2=.local->sc.names.lookup y.1=some .local
 nd:(own++bq).Nodup
 frees:∀y∈sc.names,y.2=.free->y.1∈bq
 slots:js.map (λj=>X.N[j]?)=bq.map some
 outer':bq.map X.env.kindOf=bq.map λ_=>some NameKind.cell
 capk':bq.map (λx=>(relabel sc X.env).names.lookup x)=bq.map λ_=>some NameKind.cell
theorem FO{β:Type}{f:α->β}{c:β}:∀{l:List α},l.map f=l.map (λ_=>c)->∀x∈l,f x=c
 | [],_,_,h=>nomatch h
 | y::l,e,x,h=>by
  rw[bS,bS]at e;injection e with e1 e2
  rcases bc.mp h with q | q
  . rw[q];exact e1
  exact FO e2 x q
theorem kZ.outer{own:Ls}(S:kZ X own bq js sc):∀x∈bq,X.env.kindOf x=some .cell:=FO S.outer'
theorem kZ.capk{own:Ls}(S:kZ X own bq js sc):∀x∈bq,(relabel sc X.env).names.lookup x≠some .local:=λx j h=>by
 rw[FO S.capk' x j]at h;cases h
def compStart(n:Nat)(js:List Nat)(Z:St):St:=List.replicate n none++js.map λj=>(Z[j]?).join
def FP(j:TI)(n:Nat)(js:List Nat)(g:TG)(tt:TT)(te:TE):TE:=λZ H Q=>j Z H λJ H1=>∀D,H1 D=none ->
 ∃W:Nat->Nat->St->Hp->Prop,(∃m,W 0 m (compStart n js Z) (ah H1 D (.lst [])))/\kY J g tt te D (λH'=>Q (.ref D) H') W
section
variable {ad:Po}{Z:St}{H3:Hp}{s3:Shared}
theorem O7{x:Str}{k:NameKind}(h:(relabel sc env).names.lookup x=some k):k=.local\/k=.globalImplicit\/(x,k)∈sc.names\/(x,NameKind.free)∈sc.names:=by
 have j:=AJ h;unfold relabel at j;obtain⟨⟨n,k'⟩,z,e⟩:=cE.mp j;dsimp only at e;split at e
 . rename_i c;cases e;simp only[im,jR]at c;obtain⟨⟨c,_⟩,_⟩:=c;subst c;exact .inr (.inr (.inr z))
 cases e;exact .inr (.inr (.inl z))
theorem adv{own:Ls}{it D:Addr}{fp:List Addr}{tn:Nat->Heap->Prop}{J:It}{h4:Heap}{tk:Nat}{m:Mv}
 {W:Nat->Nat->St->Hp->Prop}{Qd:Hp->Prop}{m0:Nat} (S:kZ X own bq js sc) (hc:X.calm=true) (G:Inv X ad Z H3 s3) (T:oA X.prog X.w X.K tg J fp it tn) (tF:tn 0 s3.heap) (f3:∀b∈fp,fB X ad H3 b)
 (eC:C=s3.heap.objs.size) (j7:h4.Ns C m) (hk:∀b o,s3.heap.get? b=some o->h4.get? b=some o)
 (hg:PG (dU X (own++bq) sc s3 H3 C fp) tg g) (ht:fF (dU X (own++bq) sc s3 H3 C fp) ifs tt) (he:PE (dU X (own++bq) sc s3 H3 C fp) elt te)
 (w0:W 0 m0 (compStart own.length js Z) H3) (ask:kY J g tt te D Qd W) :
 codeAny (model X.prog X.w) X.A (.compStart (.ListComp elt [⟨tg,iter,ifs,0⟩] sc pos) 0 (.ref it) (.ref D) (compEnvC sc (iw X.env sc.names []) C X.env))
  (λr s'=>r=.ok .next/\∃m' H',s'.heap.Ns C m'/\s'.os=s3.os/\AllBare s'.gens/\Un (cJ X.stack) fp H3 H' s3.heap s'.heap/\cp X.prog X.w H' s'.heap/\H' C=none/\Qd H') { s3 with heap:=h4,toks:=tk }:=by
 have bb:∀y∈sc.names,y.2=.free->∃c,X.env.cells.lookup y.1=some c:=λy hy e=>G.ok.has _ (.inl (S.outer _ (S.frees y hy e)));have U:∀(x:Str) (c:Addr),(dU X (own++bq) sc s3 H3 C fp).env.cells.lookup x=some c->X.env.cells.lookup x=some c:=λx c e=>
  FK bb (λx c h=>by cases (show([]:List (Str×Addr)).lookup x=some c from h)) e
 have bm:∀(x:Str) (c:Addr),X.env.cells.lookup x=some c->c<s3.heap.objs.size:=λx c e=>by
  obtain⟨v,q⟩:=G.cell x c e;exact q.lt
 have BE:∀b∈fp,b<s3.heap.objs.size:=λb O=>by
  obtain⟨o,e,_⟩:=T.obj 0 _ tF b O;exact bH e
 have tU:(dU X (own++bq) sc s3 H3 C fp).Ok:=by
  refine⟨G.ok.mod,S.kind,G.ok.glob,G.ok.blt,xG eC.symm,λx y c e1 e2=>G.ok.inj x y c (U x c e1) (U y c e2),λx hx=>?_,(λx c z _=>nomatch (show false=true from z)),G.ok.hd,G.ok.frames,.inl rfl,λb O=>?_,
   G.bs,b8 G.ok.bsz G.sz,λb o e O=>?_,λb O hs=>?_,G.stack,G.stkFree⟩
  . have jk:(relabel sc X.env).names.lookup x=some .cell\/(relabel sc X.env).names.lookup x=some .free:=hx;have hm:(x,NameKind.free)∈sc.names:=by
     rcases jk with z | z
     . rcases O7 z with q | q | q | q
       . cases q
       . cases q
       . exact absurd rfl (S.nocell _ q)
       exact q
     rcases O7 z with q | q | q | q
     . cases q
     . cases q
     . exact q
     exact q
    exact Ey.mp (FM hm)
  . refine⟨?_,λx c e=>(f3 b O).2.2.2.2.1 x c (U x c e)⟩;show b≠C;rw[eC];exact cS (BE b O)
  . rcases(f3 b O).2.2.2.1 with z | z
    . exact G.ok.noex b o e z
    have h1:b<X.base.objs.size:=bH e;exact absurd (gB h1 (b8 G.ok.bsz z)) (nX _)
  obtain⟨_,f1,f2,_⟩:=f3 b O
  rcases bc.mp (G.stkSub b hs) with z | z
  . exact f1 z
  exact f2 z
 have bh:H3 C=none:=by rw[eC];exact G.hok.fresh (aG _)
 have sl:js.length=bq.length:=by have:=fw List.length S.slots;simpa using this
 have I4:Inv (dU X (own++bq) sc s3 H3 C fp) [] (compStart own.length js Z) H3 { s3 with heap:=h4,toks:=tk }:=by
  refine⟨tU,rfl,G.bare,Un.kept hk,⟨m,j7,λi x v e1 e2 hv=>?_⟩,λx c e=>?_,bh,λx c e=>G.freeC x c (U x c e),λp hp=>?_,G.hok.kept hk,?_⟩
  . have e1:(own++bq)[i]?=some x:=e1;unfold compStart at e2
    by_cases hi:i<own.length
    . rw[X4 (by simpa using hi),awp,am hi]at e2;cases e2
    rw[Ez (by omega)]at e1;rw[Ez (by simpa using hi),X5,dG]at e2;obtain⟨j,hj⟩:∃j,js[i - own.length]?=some j:=by
     cases q:js[i - own.length]? with
     | none=>rw[q]at e2;cases e2
     | some j=>exact⟨j,rfl⟩
    rw[hj]at e2;have e2:(Z[j]?).join=some v:=hJ e2;have e3:Z[j]?=some (some v):=by
     cases q:Z[j]? with
     | none=>rw[q]at e2;cases e2
     | some z=>rw[q]at e2;rw[show z=some v from e2]
    have hs:=fw (λl=>l[i - own.length]?) S.slots;simp only[dG,hj,e1,sP]at hs;have hN:X.N[j]?=some x:=hJ hs;have hx:x∈bq:=cX e1;obtain⟨m2,ye,yk⟩:=G.loc;obtain⟨u,ru,lk⟩:=yk j x v hN e3 (.inr (.inl (S.outer x hx)));refine⟨u,ru,?_⟩
    rcases lk with⟨k1,_⟩ | ⟨_,c,a0,me⟩
    . rw[S.outer x hx]at k1;cases k1
    have hv:A6 (relabel sc X.env) x:=hv;have kd:(dU X (own++bq) sc s3 H3 C fp).env.kindOf x=some .cell\/(dU X (own++bq) sc s3 H3 C fp).env.kindOf x=some .free\/(dU X (own++bq) sc s3 H3 C fp).env.kindOf x=some .local:=by
     rcases hv with z | z | z
     . exact .inr (.inr z)
     . exact .inl z
     exact .inr (.inl z)
    rcases kd with kd | kd | kd
    . obtain⟨c',ia⟩:=tU.has x (.inl kd);have:=U x c' ia;rw[a0]at this;cases this;exact .inr ⟨.inl kd,c,ia,me.keeps hk⟩
    . obtain⟨c',ia⟩:=tU.has x (.inr kd);have:=U x c' ia;rw[a0]at this;cases this;exact .inr ⟨.inr kd,c,ia,me.keeps hk⟩
    have kd:(relabel sc X.env).names.lookup x=some .local:=kd;exact absurd kd (S.capk x hx)
  . obtain⟨v,q⟩:=G.cell x c (U x c e);exact⟨v,q.keeps hk⟩
  . have ce:p∈([]:Po):=hp;cases ce
  show(compStart own.length js Z).length=(own++bq).length;unfold compStart;rw[bI,X5,ak,bI,sl]
 have FQ:∀{H':Hp},(∀b∈fp,H' b=none)->∀b∈fp,fB (dU X (own++bq) sc s3 H3 C fp) [] H' b:=λ{H'} hn b O=>by
  refine⟨hn b O,?_,λhs=>tU.exfs b O hs,.inl O,λx c e=>(f3 b O).2.2.2.2.1 x c (U x c e),λp hp=>?_⟩
  . show b≠C;rw[eC];exact cS (BE b O)
  have ce:p∈([]:Po):=hp;cases ce
 have O8:tn 0 h4:=T.keep 0 _ _ tF λb _ o e=>hk b o e;have a1:codeAny (model X.prog X.w) X.A (.compLoop (.ListComp elt [⟨tg,iter,ifs,0⟩] sc pos) 0 (.ref it) (.ref D) (compEnvC sc (iw X.env sc.names []) C X.env))
  (λr s'=>r=.ok .next/\∃m' H',s'.heap.Ns C m'/\s'.os=s3.os/\AllBare s'.gens/\Un (cJ X.stack) fp H3 H' s3.heap s'.heap/\cp X.prog X.w H' s'.heap/\H' C=none/\Qd H') { s3 with heap:=h4,toks:=tk }:=by
  refine ads (λn s'=>∃i σ' H',Inv (dU X (own++bq) sc s3 H3 C fp) [] σ' H' s'/\tn i s'.heap/\(∀b∈fp,H' b=none)/\W i n σ' H') ?_ m0 ⟨0,_,H3,I4,O8,λb O=>(f3 b O).1,w0⟩;rintro n s' ⟨i,σ',H',J',fN,O9,w'⟩
  rcases ask i n σ' H' w' with⟨stop,qd⟩ | ⟨go,step⟩
  . refine thn (T.done (dU X (own++bq) sc s3 H3 C fp) rfl rfl rfl hc i [] s' σ' H' _ J' (FQ O9) fN stop) λr s1 bd=>bd.elim λhr J1=>?_;subst hr;obtain⟨m1,bl,_⟩:=J1.loc;exact⟨rfl,m1,H',bl,J1.os,J1.bare,J1.base,J1.hok,J1.free,qd⟩
  refine thn (T.item (dU X (own++bq) sc s3 H3 C fp) rfl rfl rfl hc i [] s' σ' H' _ J' (FQ O9) fN go) λr s1 a4=>a4.elim λu a5=>a5.elim λhr h1=>?_;subst hr;refine thn h1 λ_ s2 a6=>a6.elim λx a7=>a7.elim λH5 a8=>a8.elim λJ5 a9=>a9.elim λr5 ab=>ab.elim λy5 af=>af.elim λtG E4=>?_;have a2:=J5.pinned (FQ E4) (T.obj _ _ tG);refine eM (hg _ s2 σ' H5 x u _ a2 r5 (step x H5 y5)) (λ_ s6 an=>an.elim λσ6 ap=>ap.elim λH6 au=>au.elim λJ6 q6=>?_) (λ_ _ z=>z.elim);refine eM (ht _ s6 σ6 H6 _ J6 q6) (λok s7 ax=>ax.elim λH7 az=>az.elim λJ7 q7=>?_) (λ_ _ z=>z.elim);have again:∀{s9:Shared}{Y:Hp}{m':Nat},Inv (dU X (own++bq) sc s3 H3 C fp) ([]++tE fp s2.heap) σ6 Y s9->m'<n->W (i+1) m' σ6 Y ->
   ∃m,m<n/\∃i σ' H',Inv (dU X (own++bq) sc s3 H3 C fp) [] σ' H' s9/\tn i s9.heap/\(∀b∈fp,H' b=none)/\W i m σ' H':=λ{s9 Y m'} J9 hm w9=>by
   refine⟨m',hm,i+1,σ6,Y,J9.unpinned,T.keep _ _ _ tG λb O o e=>(J9.pin (b,o) (eU _ (eU _ (qF O e)))).1,λb O=>?_,w9⟩;obtain⟨o,e,d⟩:=T.obj _ _ tG b O;exact(J9.pin (b,o) (eU _ (eU _ (qF O e)))).2.1
  cases ok with
  | false=>
   rw[ag cW]at q7 ⊢;obtain⟨m',hm,w7⟩:=q7;exact again J7 hm w7
  | true=>
   rw[am rfl]at q7 ⊢;refine eM (he _ s7 σ6 H7 _ J7 q7) (λy s8 a'=>a'.elim λyv aC=>aC.elim λH8 aO=>aO.elim λJ8 aR=>aR.elim λr8 b0=>b0.elim λys b1=>b1.elim λtV b2=>b2.elim λhz b3=>b3.elim λm' b4=>b4.elim λhm w8=>?_) (λ_ _ z=>z.elim);refine eM (qK (X:=dU X (own++bq) sc s3 H3 C fp) _ s8 σ6 H8 (.ref D) [yv] (.ref D) [y] (λv Y=>Y=ah H8 D (.lst (ys++[yv]))) J8 rfl (.cons r8 .nil) ⟨tV,hz,rfl⟩) (λ_ s9 b5=>b5.elim λ_ b6=>b6.elim λY b7=>b7.elim λJ9 a3=>a3.elim λ_ eH=>?_) (λ_ _ z=>z.elim);subst eH;exact again J9 hm w8
 exact codeAny_compStart_list a1 (T.self X.A 0 _ _ _ O8 a1)
theorem Pa{own:Ls}{it:Addr}{fp:List Addr}{Y:Nat->Heap->Prop}{J:It}{H2:Hp}{j:Shared}{use:Option (Value->Sem Unit)}{Qr:VP}{O:VP}
 {Q:V->Hp->Prop} (S:kZ X own bq js sc) (hc:X.calm=true) (U:Inv X ad Z H2 j) (T:oA X.prog X.w X.K tg J fp it Y) (gj:Y 0 j.heap) (G:∀b∈fp,fB X ad H2 b)
 (hg:∀s₀ H₀ C ex,PG (dU X (own++bq) sc s₀ H₀ C ex) tg g) (ht:∀s₀ H₀ C ex,fF (dU X (own++bq) sc s₀ H₀ C ex) ifs tt) (he:∀s₀ H₀ C ex,PE (dU X (own++bq) sc s₀ H₀ C ex) elt te)
 (q2:∀D,H2 D=none->∃W:Nat->Nat->St->Hp->Prop,(∃m,W 0 m (compStart own.length js Z) (ah H2 D (.lst [])))/\kY J g tt te D (λH'=>Q (.ref D) H') W)
 (a2:∀(D C:Addr) (H':Hp) (s':Shared) (m':Mv),j.heap.objs.size<C->s'.heap.Ns C m'->Inv X ad Z H' s'->H' C=none->Q (.ref D) H'->compPost (model X.prog X.w) X.A O use Qr (.ref D) C (.ok .next) s') :
 wpAny (model X.prog X.w) X.A (newList []) (λa0 s₃=>wpAny (model X.prog X.w) X.A (newFunctionEnv sc X.env.globals (iw X.env sc.names []) [] X.env.qual none .none (some X.env)) (λPb s₄=>
  codeAny (model X.prog X.w) X.A (.compStart (.ListComp elt [⟨tg,iter,ifs,0⟩] sc pos) 0 (.ref it) a0 { Pb with scope:=relabel sc X.env }) (compPost (model X.prog X.w) X.A O use Qr a0 Pb.locals) s₄) O s₃) O j:=by
 have Pc:H2 j.heap.objs.size=none:=U.fresh;obtain⟨W,⟨m0,w0⟩,ask⟩:=q2 _ Pc;have I3:=U.lnew (ys:=[]) (b_:=[]) (t':=j.toks) .nil (dF _);have BE:∀b∈fp,b<j.heap.objs.size:=λb z=>by
  obtain⟨o,e,_⟩:=T.obj 0 _ gj b z;exact bH e
 have f3:∀b∈fp,fB X ad (ah H2 j.heap.objs.size (.lst [])) b:=λb z=>by
  refine⟨?_,(G b z).2⟩;rw[aW (cS (BE b z))];exact(G b z).1
 refine AQ (hd:=by size_fits) (wpAny_newFunctionEnv S.nocell (by intro y hy;simp at hy) (λh4 j7 Pd=>?_) S.kind);dsimp only at j7 Pd ⊢;have a3:∀b o,(j.heap.push { cls:=.type "list",dict:=none,data:=.seq ([]:Lw).toArray }).get? b=some o->h4.get? b=some o:=λb o e=>
  Pd.extBut b o (cS (bH e)) (cf _ e)
 have tF:Y 0 (j.heap.push { cls:=.type "list",dict:=none,data:=.seq ([]:Lw).toArray }):=T.keep 0 _ _ gj λb _ o e=>cf _ e;refine qe (adv (s3:={ j with heap:=j.heap.push { cls:=.type "list",dict:=none,data:=.seq ([]:Lw).toArray } }) (tk:=j.toks+([]:List (Str×Value)).length) S hc I3 T tF f3 rfl j7 a3 (hg _ _ _ _) (ht _ _ _ _) (he _ _ _ _) w0 ask) λr s' hr=>?_;obtain⟨er,m',H',gP,Bo,a1,a4,tW,yq,qd⟩:=hr;subst er;have a5:Un (cJ X.stack) fp H2 (ah H2 j.heap.objs.size (.lst [])) j.heap (j.heap.push { cls:=.type "list",dict:=none,data:=.seq ([]:Lw).toArray }):=Un.laid (λb o e=>cf _ e) (aG _) Pc;refine a2 _ _ H' s' m' ?_ gP (U.call' (s':=s') (ch:=fp) Bo (a5.trans a4) tW a1 (λb z=>⟨(G b z).2.2.2.1,(G b z).2.1,(G b z).2.2.2.2.1,(G b z).2.2.2.2.2⟩)) yq qd;show j.heap.objs.size<(j.heap.push { cls:=.type "list",dict:=none,data:=.seq ([]:Lw).toArray }).objs.size;rw[sL];exact xH _
theorem Inv.letGo{H:Hp}{h':Heap}(I:Inv X ad Z H s)(z:Heap.SameBut C s.heap h')(J:H C=none)(h0:X.s₀.heap.objs.size<=C)(h1:C≠X.env.locals)(h2:∀x c,X.env.cells.lookup x=some c->c≠C)(G:∀p∈X.pn++ad,p.1≠C) :
 Inv X ad Z H { s with heap:=h' }:=by
 refine I.call' (s':={ s with heap:=h' }) (ch:=[C]) rfl ⟨λb o e _ _ j=>?_,λb o e _ _ j=>⟨o.slots,?_⟩,λ_ _ _ n _=>n,λb o e j=>⟨o,?_⟩,λ_ _ q=>q,λ_ _ _ q=>q,λ_ ps q=>⟨#[],by rw[q];simp⟩⟩ (adt I.hok z J) I.bare (λb j=>?_)
 . exact(z.2 b (by simpa using j)).trans e
 . exact(z.2 b (by simpa using j)).trans e
 . exact(z.2 b (by simpa using j)).trans e
 have:b=C:=by simpa using j
 subst this;exact⟨.inr h0,h1,h2,G⟩
theorem Inv.goes{H2 H:Hp}{J:Shared}{σ':St}{h':Heap}(j:Inv X ad σ' H2 J)(G:J.heap.objs.size<C)(I:Inv X ad Z H s)(Y:Heap.SameBut C s.heap h')(O:H C=none):Inv X ad Z H { s with heap:=h' }:=by
 refine I.letGo Y O (vf (Yb j.sz G)) (kF (vh j.lt G)) (λx c e z=>?_) (λp U z=>?_)
 . obtain⟨v,q⟩:=j.cell x c e;exact absurd (vh q.lt G) (by rw[z];exact nX _)
 exact absurd (vh (bH (j.pin p U).1) G) (by rw[z];exact nX _)
theorem kZ.clos{own:Ls}(S:kZ X own bq js sc)(ok:X.Ok):closureFor sc X.env=pure (iw X.env sc.names []):=
 adu λy j e=>ok.has _ (.inl (S.outer _ (S.frees y j e)))
theorem fZ(own bq:Ls)(js:List Nat){z:TI}(S:kZ X own bq js sc)(hc:X.calm=true)(hi:PI X tg iter z)
 (hg:∀s₀ H₀ C ex,PG (dU X (own++bq) sc s₀ H₀ C ex) tg g) (ht:∀s₀ H₀ C ex,fF (dU X (own++bq) sc s₀ H₀ C ex) ifs tt) (he:∀s₀ H₀ C ex,PE (dU X (own++bq) sc s₀ H₀ C ex) elt te)
 (hs:∀x,foldedSetIterable iter X.env x=pure x:=by intro _;rfl):PE X (.ListComp elt [⟨tg,iter,ifs,0⟩] sc pos) (FP z own.length js g tt te):=by
 intro ad s Z H Q I h;rw[eval_ListComp];refine awy (use:=none) rfl hs (S.clos I.ok) S.kind S.names (thn (hi ad s Z H _ I h) λv s1 h1=>thn h1 λBe s2 h2=>?_);obtain⟨it,fp,tn,J,H2,e,j,T,Y,O,q2⟩:=h2;subst e;refine Pa (Q:=Q) S hc j T Y O hg ht he q2 λD C H' s' m' hC U G yq qd=>?_;exact⟨m',U,λh' sb=>⟨.ref D,H',j.goes hC G sb yq,rfl,qd⟩⟩
theorem oP{i:Nat}{x:Str}{px ps:Pos}(own bq:Ls)(js:List Nat){Y:TI}(hN:X.N.Nodup)(hx:X.N[i]?=some x)(U:X.env.scope.names.lookup x=some .local)(S:kZ X own bq js sc)(hc:X.calm=true)
 (hi:PI X tg iter Y) (hg:∀s₀ H₀ C ex,PG (dU X (own++bq) sc s₀ H₀ C ex) tg g) (ht:∀s₀ H₀ C ex,fF (dU X (own++bq) sc s₀ H₀ C ex) ifs tt) (he:∀s₀ H₀ C ex,PE (dU X (own++bq) sc s₀ H₀ C ex) elt te)
 (a3:swapsWith (.ListComp elt [⟨tg,iter,ifs,0⟩] sc pos) (some (.Name x px)) ps.line X.env=pure true:=by rfl)
 (hs:∀x,foldedSetIterable iter X.env x=pure x:=by intro _;rfl):PS X (.Assign [.Name x px] (.ListComp elt [⟨tg,iter,ifs,0⟩] sc pos) ps) (Nz (FP Y own.length js g tt te) (jX i)):=by
 intro ad s Z H D I h;rw[exec_Assign_Name_used _ _ _ _ a3];refine ae (X2 (ae ?_));show wpAny _ X.A (do let _ <-comprehension (.ListComp elt [⟨tg,iter,ifs,0⟩] sc pos) sc X.env _ (newList []) false (eval iter X.env) (some (assign (.Name x px) X.env))) _ _ s;refine ae (eM (awy (use:=some (assign (.Name x px) X.env)) (Q:=λ_ s'=>∃σ' H',Inv X ad σ' H' s'/\D.nx σ' H') rfl hs (S.clos I.ok) S.kind S.names
  (thn (hi ad s Z H _ I h) λv s1 h1=>thn h1 λBe s2 h2=>?_)) (λ_ s' hq=>ar (ar hq)) λ_ _ e=>e)
 obtain⟨it,fp,tn,J,H2,e,j,T,gj,f2,q2⟩:=h2;subst e;refine Pa (Q:=λv H1=>jX i v Z H1 D.nx) S hc j T gj f2 hg ht he q2 λO C H' s' m' G gP I' yq qd=>?_;show wpAny _ X.A (assign (.Name x px) X.env (.ref O)) _ _ s';refine wpAny_assign_Name (Ni (v:=.ref O) I' hN hx (.inl U) rfl (λBp a0 a1=>a1.elim λa a2=>a2.elim λsb ha=>?_) (.inr U));have ne:C≠a:=by
  rcases ha with z | z
  . rw[z];exact kF (vh j.lt G)
  obtain⟨v,q⟩:=j.cell x a z;exact kF (vh q.lt G)
 exact⟨m',gP.sameBut sb ne,λh' a4=>⟨_,H',j.goes G a0 a4 yq,qd⟩⟩
end
section
variable {e k:Expr}{tk:TE}{p2:Pos}
def aea(K:Fg)(te tk:TE):TE:=λZ H Q=>te Z H λx H1=>tk Z H1 λz H2=>z=.int (-1)/\∃a xs,x=.ref a/\aa K H2 a xs/\∀p,H2 p=none->Q (.ref p) (ah H2 p (.lst xs.reverse))
theorem Paired.rev{β:Type}{R:α->β->Prop}:∀{xs:List α}{ys:List β},Paired R xs ys->∀{z:List α}{j:List β},Paired R z j->Paired R (xs.reverseAux z) (ys.reverseAux j)
 | _,_,.nil,_,_,h=>h
 | _,_,.cons r rs,_,_,h=>Paired.rev rs (.cons r h)
theorem aeb(he:PE X e te)(hk:PE X k tk):PE X (.Subscript e (.Slice none none (some k) p2) pos) (aea X.K te tk):=by
 intro ad s Z H Q I h;refine MB (thn (he ad s Z H _ I h) λv s1 U=>aP U λx H1 J r1 q1=>?_);refine wpAny_Slice ?_;rw[X6];refine ar (ar ?_);rw[evalPart_some];refine thn (hk ad s1 Z H1 _ J q1) λu s3 Y=>aP Y λz H3 O r3 q3=>?_;obtain⟨ez,a,xs,ex,hx,q⟩:=q3;subst ez ex;obtain⟨t,rfl⟩:=r3;cases r1;have j:Inv X ad Z H3 { s3 with heap:=s3.heap.push { cls:=.type "slice",data:=.fields #[.none,.none,.int (-1) t] } }:=O.kept (t':=s3.toks) λb ob q=>cf _ q;obtain⟨b_,r,G,hz⟩:=j.list hx;have a0:=r.length;show wpAny (model X.prog X.w) X.A (subscriptTail e (.Slice none none (some k) p2) (.ref a) (.ref s3.heap.objs.size)) (EP X ad Z Q) X.xe { s3 with heap:=s3.heap.push { cls:=.type "slice",data:=.fields #[.none,.none,.int (-1) t] } };refine tail_any (ops:=[.ref a,.ref s3.heap.objs.size]) (T:="list") G.isList.typeIs X7.lookup ?_ (by with_unfolding_all rfl);refine aws G.isList (Heap.IsSliceOf.new ..) .none .none (.int (-1) t) (by decide) ?_ (by rw[gi];omega);rw[W.krv_pick];refine⟨.ref _,_,j.laid (t':=s3.toks) (o:=.lst xs.reverse) (λb ob q=>cf _ q) (aG _) ?_,rfl,q _ (j.hok.fresh (aG _))⟩;exact⟨by rw[Yd];exact hz,_,0,Paired.rev r .nil,dN _ rfl⟩
end
abbrev d8 (H:Hp) (o:HO) (Q:V->Hp->Prop):Prop:=∀p H',H p=none->ac H H'->H' p=some o->Q (.ref p) H'
theorem d8.at{H:Hp}{o:HO}{Q:V->Hp->Prop}(h:d8 H o Q):∀p,H p=none->Q (.ref p) (ah H p o):=λp j=>h p _ j (fX j) aE
theorem cM.weak{f:Value->Value->Sem Value}{r j:R2}(h:cM X f r)(w:∀x y H Q,j x y H Q->r x y H Q):cM X f j:=λad s Z H x y v u Q I z G q=>h ad s Z H x y v u Q I z G (w _ _ _ _ q)
theorem fe.weak{f:Value}{r j:Lv->Hp->VK->Prop}(h:fe X f r)(w:∀xs H Q,j xs H Q->r xs H Q):fe X f j:=λad s Z H xs us Q I z q=>h ad s Z H xs us Q I z (w _ _ _ q)
theorem tK.weak{r j:V->Option Int->Option Int->Hp->VK->Prop}(h:tK X r)(w:∀x l u H Q,j x l u H Q->r x l u H Q):tK X j:=λad s Z H x v O U lo hi J Q I G hs pl z q=>h ad s Z H x v O U lo hi J Q I G hs pl z (w _ _ _ _ _ q)
section
variable {e k:Expr}{es:List Expr}{tk:TE}{t:TA}{p2:Pos}
inductive Pe (H:Hp) (Q:VK):V->V->Prop where
 | mk {l:Addr}{b:Addr}{xs:Lv}{zs:Lv} (_:H l=some (.lst xs)) (_:H b=some (.lst zs)) (_:xs.length+zs.length<=sizeLine) (_:d8 H (.lst (xs++zs)) Q):Pe H Q (.ref l) (.ref b)
def aee:R2:=λx y H Q=>Pe H Q x y
theorem qT:cM X (binaryOp .Add) aee:=abX.weak λx y H Q h=>by obtain @⟨l,b,xs,zs,j,z,G,J⟩:=h;exact⟨l,b,xs,zs,rfl,rfl,j,z,G,J.at⟩
inductive Pf (K:Fg) (lo:Option Int) (hi:Option Int) (H:Hp) (Q:VK):V->Prop where
 | mk {a:Addr}{xs:Lv} (_:aa K H a xs) (_:d8 H (.lst (tL xs lo hi)) Q):Pf K lo hi H Q (.ref a)
def aef(K:Fg):V->Option Int->Option Int->Hp->VK->Prop:=λx lo hi H Q=>Pf K lo hi H Q x
theorem vE:tK X (aef X.K):=abL.weak λx l u H Q h=>by obtain @⟨a,xs,j,z⟩:=h;exact⟨a,xs,rfl,j,z.at⟩
theorem mf:fe X (.type "list") (λxs H Q=>∃p ys,xs=[.ref p]/\(aa X.K H p ys\/aZ X.K H p ys)/\d8 H (.lst ys) Q):=yj.weak λxs H Q J=>J.elim λp O=>O.elim λys U=>U.elim λj Y=>Y.elim λz G=>⟨p,ys,j,z,G.at⟩
def aek(t:TA):TE:=λZ H Q=>t Z H λxs H1=>xs.length<=sizeLine/\d8 H1 (.tup xs) Q
def ael(t:TA):TE:=λZ H Q=>t Z H λxs H1=>xs.length<=sizeLine/\d8 H1 (.lst xs) Q
theorem PA.thn{t:TA}(h:PA X es t){A:Hp->Prop}{F:VK->Lv->Hp->Prop}{G:VK->Lv->Hp->Prop}(w:∀Q xs H,F Q xs H->G Q xs H):PA X es (λZ H R=>∃Q:VK,t Z H (F Q)/\R=G Q):=by
 intro pos ad s Z H R I ⟨Q,q,e⟩;subst e;exact L2.thn (h pos ad s Z H _ I q) λus U z=>aP z λvs H1 j O J=>⟨vs,H1,j,O,w _ _ _ J⟩
theorem eX{x1}(h:PA X es t):PE X (.Tuple es x1 pos) (aek t):=by
 intro ad s Z H Q I q;exact N5 (PA.thn (A:=λ_=>True) (F:=λQ xs H1=>xs.length<=sizeLine/\d8 H1 (.tup xs) Q) (G:=λQ xs H1=>xs.length<=sizeLine/\∀p,H1 p=none->Q (.ref p) (ah H1 p (.tup xs))) h (λQ xs H j=>j.elim λa b=>⟨a,b.at⟩)) ad s Z H Q I ⟨Q,q,rfl⟩
theorem dq(h:PA X es t):PE X (.List es pos) (ael t):=by
 intro ad s Z H Q I q;exact abd (PA.thn (A:=λ_=>True) (F:=λQ xs H1=>xs.length<=sizeLine/\d8 H1 (.lst xs) Q) (G:=λQ xs H1=>xs.length<=sizeLine/\∀p,H1 p=none->Q (.ref p) (ah H1 p (.lst xs))) h (λQ xs H j=>j.elim λa b=>⟨a,b.at⟩)) ad s Z H Q I ⟨Q,q,rfl⟩
def aep(K:Fg)(te:TE):TE:=λZ H Q=>te Z H λx H2=>∃a xs,x=.ref a/\aa K H2 a xs/\d8 H2 (.lst xs.reverse) Q
theorem PE.thn{t:TE}{F G:VK->VK}(h:PE X e t)(w:∀Q v H,F Q v H->G Q v H):PE X e (λZ H R=>∃Q:VK,t Z H (F Q)/\R=G Q):=by
 intro ad s Z H R I ⟨Q,q,e⟩;subst e;exact L2.thn (h ad s Z H _ I q) λu U z=>aP z λv H1 j O J=>⟨v,H1,j,O,w _ _ _ J⟩
theorem Ph{j p3 p4}(he:PE X e te):PE X (.Subscript e (.Slice none none (some (.UnaryOp .USub (.Constant (.int 1) j p3) p4)) p2) pos) (aep X.K te):=by
 intro ad s Z H Q I q;refine aeb (k:=.UnaryOp .USub (.Constant (.int 1) j p3) p4) (PE.thn (F:=λQ x H2=>∃a xs,x=.ref a/\aa X.K H2 a xs/\d8 H2 (.lst xs.reverse) Q)
  (G:=λQ x H1=>∃i,V.int 1=.int i/\(V.int (-i)=.int (-1)/\∃a xs,x=.ref a/\aa X.K H1 a xs/\∀p,H1 p=none->Q (.ref p) (ah H1 p (.lst xs.reverse)))) he
  λQ v H U=>U.elim λa Y=>Y.elim λxs a0=>a0.elim λz a4=>a4.elim λJ O=>⟨1,rfl,rfl,a,xs,z,J,O.at⟩) (qG qH aj) ad s Z H Q I ⟨Q,q,rfl⟩
end
section
variable {H1:Hp}{Q:Addr->Hp->Prop}
theorem aev{lo:Int}{n:Nat}(S:St->Prop)(P:Nat->Lv->Hp->Prop)(s0:S σ0)(st:∀D,H1 D=none->P 0 [] (ah H1 D (.lst [])))
 (a0:∀D i ys Z H (k:St->V->Hp->Prop) (k':St->Hp->Prop),H1 D=none->i<n->S Z->H D=some (.lst ys)->ac H1 H->P i ys H ->
  (∀σ3 y z,S σ3->ac H z->ys.length<sizeLine->P (i+1) (ys++[y]) (ah z D (.lst (ys++[y])))->k σ3 y z)->(∀σ3 j,S σ3->ac H j->P (i+1) ys j->k' σ3 j) ->
  g (.int (lo+i)) Z H λσ3 H3=>tt σ3 H3 λok j=>if ok=true then te σ3 j (k σ3) else k' σ3 j)
 (done:∀D ys H,H1 D=none->H D=some (.lst ys)->ac H1 H->P n ys H->Q D H) :
 ∀D,H1 D=none->∃W:Nat->Nat->St->Hp->Prop,(∃m,W 0 m σ0 (ah H1 D (.lst [])))/\kY (oC lo n) g tt te D (λH'=>Q D H') W:=by
 intro D J;refine⟨λi m Z H=>m=n - i/\i<=n/\S Z/\∃ys,H D=some (.lst ys)/\ac H1 H/\P i ys H,⟨n,by simp,dF _,s0,[],aE,fX J,st D J⟩,?_⟩;rintro i m Z H ⟨rfl,hi,hS,ys,hd,hs,hp⟩
 by_cases O:i<n
 . refine .inr ⟨O,λx H2 hy=>?_⟩;obtain⟨e1,e2⟩:=hy;subst e1 e2;exact a0 D i ys Z _ (λσ3 y z=>∃ys,z D=some (.lst ys)/\ys.length<sizeLine/\∃m',m'<n - i/\(m'=n - (i+1)/\i+1<=n/\S σ3/\∃zs,ah z D (.lst (ys++[y])) D=some (.lst zs)/\ac H1 (ah z D (.lst (ys++[y])))/\P (i+1) zs (ah z D (.lst (ys++[y])))))
    (λσ3 j=>∃m',m'<n - i/\(m'=n - (i+1)/\i+1<=n/\S σ3/\∃zs,j D=some (.lst zs)/\ac H1 j/\P (i+1) zs j)) J O hS hd hs hp
    (λσ3 y z U G Y a4=>⟨ys,G _ _ hd,Y,n - (i+1),by omega,rfl,O,U,ys++[y],aE,dQ (hs.trans G) J,a4⟩)
    (λσ3 j U G Y=>⟨n - (i+1),by omega,rfl,O,U,ys,G _ _ hd,hs.trans G,Y⟩)
 have e:i=n:=by omega
 subst e;exact .inl ⟨aG _,done D ys H J hd hs hp⟩
theorem FR{a:Addr}{xs:Lv}(hx:aa K H1 a xs)(S:St->Prop)(P:Nat->Lv->Hp->Prop)(s0:S σ0)(st:∀D,H1 D=none->P 0 [] (ah H1 D (.lst [])))
 (a0:∀D i x ys Z H (k:St->V->Hp->Prop) (k':St->Hp->Prop),H1 D=none->xs[i]?=some x->S Z->H D=some (.lst ys)->ac H1 H->P i ys H ->
  (∀σ3 y z,S σ3->ac H z->ys.length<sizeLine->P (i+1) (ys++[y]) (ah z D (.lst (ys++[y])))->k σ3 y z)->(∀σ3 j,S σ3->ac H j->P (i+1) ys j->k' σ3 j) ->
  g x Z H λσ3 H3=>tt σ3 H3 λok j=>if ok=true then te σ3 j (k σ3) else k' σ3 j)
 (done:∀D ys H,H1 D=none->H D=some (.lst ys)->ac H1 H->P xs.length ys H->Q D H) :
 ∀D,H1 D=none->∃W:Nat->Nat->St->Hp->Prop,(∃m,W 0 m σ0 (ah H1 D (.lst [])))/\kY (mS K a) g tt te D (λH'=>Q D H') W:=by
 intro D J;refine⟨λi m Z H=>m=xs.length - i/\i<=xs.length/\S Z/\∃ys,H D=some (.lst ys)/\ac H1 H/\P i ys H,⟨xs.length,by simp,dF _,s0,[],aE,fX J,st D J⟩,?_⟩;rintro i m Z H ⟨rfl,hi,hS,ys,hd,hs,hp⟩;have q:aa K H a xs:=ac.seq hs hx
 by_cases Y:i<xs.length
 . refine .inr ⟨⟨xs,xs[i],q,by simp[Y]⟩,λx H2 hy=>?_⟩;obtain⟨e1,e2⟩:=hy;subst e1;exact a0 D i x ys Z _ (λσ3 y z=>∃ys,z D=some (.lst ys)/\ys.length<sizeLine/\∃m',m'<xs.length - i/\(m'=xs.length - (i+1)/\i+1<=xs.length/\S σ3/\∃zs,ah z D (.lst (ys++[y])) D=some (.lst zs)/\ac H1 (ah z D (.lst (ys++[y])))/\P (i+1) zs (ah z D (.lst (ys++[y])))))
    (λσ3 j=>∃m',m'<xs.length - i/\(m'=xs.length - (i+1)/\i+1<=xs.length/\S σ3/\∃zs,j D=some (.lst zs)/\ac H1 j/\P (i+1) zs j)) J (e2 xs q) hS hd hs hp
    (λσ3 y z O G U a4=>⟨ys,G _ _ hd,U,xs.length - (i+1),by omega,rfl,Y,O,ys++[y],aE,dQ (hs.trans G) J,a4⟩)
    (λσ3 j O G U=>⟨xs.length - (i+1),by omega,rfl,Y,O,ys,G _ _ hd,hs.trans G,U⟩)
 have e:i=xs.length:=by omega
 subst e;exact .inl ⟨⟨xs,q,aG _⟩,done D ys H J hd hs hp⟩
theorem vF{lo:Int}{n:Nat}(S:St->Prop)(P:Nat->Lv->Hp->Prop)(s0:S σ0)(st:∀D,H1 D=none->P 0 [] (ah H1 D (.lst [])))
 (a0:∀D i ys Z H (k:St->V->Hp->Prop),H1 D=none->i<n->S Z->H D=some (.lst ys)->ac H1 H->P i ys H ->
  (∀σ3 y j,S σ3->ac H j->ys.length<sizeLine->P (i+1) (ys++[y]) (ah j D (.lst (ys++[y])))->k σ3 y j)->g (.int (lo+i)) Z H λσ3 H3=>te σ3 H3 (k σ3))
 (done:∀D ys H,H1 D=none->H D=some (.lst ys)->ac H1 H->P n ys H->Q D H) :
 ∀D,H1 D=none->∃W:Nat->Nat->St->Hp->Prop,(∃m,W 0 m σ0 (ah H1 D (.lst [])))/\kY (oC lo n) g qR te D (λH'=>Q D H') W:=
 aev S P s0 st (λD i ys Z H k k' z G J O U Y a7 _=>a0 D i ys Z H k z G J O U Y a7) done
theorem yr{a:Addr}{xs:Lv}(hx:aa K H1 a xs)(S:St->Prop)(P:Nat->Lv->Hp->Prop)(s0:S σ0)(st:∀D,H1 D=none->P 0 [] (ah H1 D (.lst [])))
 (a0:∀D i x ys Z H (k:St->V->Hp->Prop),H1 D=none->xs[i]?=some x->S Z->H D=some (.lst ys)->ac H1 H->P i ys H ->
  (∀σ3 y j,S σ3->ac H j->ys.length<sizeLine->P (i+1) (ys++[y]) (ah j D (.lst (ys++[y])))->k σ3 y j)->g x Z H λσ3 H3=>te σ3 H3 (k σ3))
 (done:∀D ys H,H1 D=none->H D=some (.lst ys)->ac H1 H->P xs.length ys H->Q D H) :
 ∀D,H1 D=none->∃W:Nat->Nat->St->Hp->Prop,(∃m,W 0 m σ0 (ah H1 D (.lst [])))/\kY (mS K a) g qR te D (λH'=>Q D H') W:=
 FR hx S P s0 st (λD i x ys Z H k k' z G J O U Y a7 _=>a0 D i x ys Z H k z G J O U Y a7) done
end
end L2
namespace Lcp
variable {xs ys:Ls}
def gr:Ls->Ls->Nat
 | x::xs,y::ys=>if x=y then gr xs ys+1 else 0
 | _,_=>0
theorem FS:∀(xs ys:Ls),gr xs ys<=xs.length/\gr xs ys<=ys.length
 | [],_=>by simp[gr]
 | _::_,[]=>by simp[gr]
 | x::xs,y::ys=>by
  unfold gr;have:=FS xs ys;split<;>simp only[bU]<;>omega
theorem aew{i:Nat}{x y:Str}(j:xs[i]?=some x)(z:ys[i]?=some y):gr (xs.drop i) (ys.drop i)=if x=y then gr (xs.drop (i+1)) (ys.drop (i+1))+1 else 0:=by
 obtain⟨h1,e1⟩:=cT.mp j;obtain⟨h2,e2⟩:=cT.mp z;rw[MG h1,MG h2,e1,e2];rfl
theorem Pj{i:Nat}(h:xs.length<=i\/ys.length<=i):gr (xs.drop i) (ys.drop i)=0:=by
 rcases h with h | h
 . rw[AR.mpr h];rfl
 rw[AR.mpr h];cases xs.drop i<;>rfl
def fst(xs ys:Ls):Nat:=gr xs ys
def oQ(xs ys:Ls):Nat:=gr (xs.drop (fst xs ys)).reverse (ys.drop (fst xs ys)).reverse
def jz(xs ys:Ls):Nat:=xs.length - oQ xs ys
def tX(xs ys:Ls):Ls:=(ys.drop (fst xs ys)).take (ys.length - oQ xs ys - fst xs ys)
theorem Pk(xs ys:Ls):fst xs ys+oQ xs ys<=xs.length/\fst xs ys+oQ xs ys<=ys.length:=by
 have h1:=FS xs ys;have h2:=FS (xs.drop (fst xs ys)).reverse (ys.drop (fst xs ys)).reverse;rw[Yd,mI,Yd,mI]at h2;unfold oQ;unfold fst at *;omega
theorem Pl(xs ys:Ls):(tX xs ys).length=ys.length - oQ xs ys - fst xs ys:=by
 obtain⟨j,z⟩:=Pk xs ys;unfold tX;rw[eF,mI];omega
theorem Pm{x:Str}(h:x∈tX xs ys):x∈ys:=MI (MJ h)
end Lcp
namespace L2
variable {xs ys:Ls}
structure Ln(x:Str):Prop where
 ok:dR x
 len:x.length<=60
structure mh(xs:Ls):Prop where
 len:xs.length<=20
 all:∀x∈xs,Ln x
def qU(xs:Ls)(lo hi:Option Int):Ls:=(xs.drop (HT.gG xs.length 0 lo)).take (HT.gG xs.length xs.length hi - HT.gG xs.length 0 lo)
theorem vG(xs:Ls)(lo hi:Option Int):tL (xs.map V.str) lo hi=(qU xs lo hi).map V.str:=by
 unfold tL qU;rw[ak,Ye,List.map_drop]
theorem aex{k:Int}(h:0<=k):qU xs none (some k)=xs.take k.toNat:=by
 obtain⟨n,rfl⟩:∃n:Nat,k=n:=⟨k.toNat,by omega⟩;unfold qU;rw[HT.Om,HT.Br,List.drop_zero,Nat.sub_zero];exact awz.mpr (by simp)
theorem FT{k:Int}(h:0<=k):qU xs (some k) none=xs.drop k.toNat:=by
 obtain⟨n,rfl⟩:∃n:Nat,k=n:=⟨k.toNat,by omega⟩;unfold qU;rw[HT.Om,HT.Br,lN];rw[MK (by rw[mI];omega)]
 by_cases q:n<=xs.length
 . rw[Nat.min_eq_left q]
 rw[Nat.min_eq_right (by omega),AR.mpr (aG _),AR.mpr (by omega)]
theorem Pn{i j:Int}(h:0<=i)(h':0<=j):qU xs (some i) (some j)=(xs.drop i.toNat).take (j.toNat - i.toNat):=by
 obtain⟨n,rfl⟩:∃n:Nat,i=n:=⟨i.toNat,by omega⟩;obtain⟨m,rfl⟩:∃n:Nat,j=n:=⟨j.toNat,by omega⟩;unfold qU;rw[HT.Br,HT.Br,lN,lN]
 by_cases q:n<=xs.length
 . rw[Nat.min_eq_left q];exact awz.mpr (by rw[mI];omega)
 rw[AR.mpr (show xs.length<=n by omega),AR.mpr (show xs.length<=min n xs.length by omega)];simp
theorem oR{r:Int}(h0:0<=r)(h1:r<xs.length):∃z,cu (xs.map V.str) r=some (V.str z)/\xs[r.toNat]?=some z:=by
 obtain⟨v,e,e2⟩:=FI (xs:=xs.map V.str) h0 (by rw[ak];exact h1);rw[dG]at e2;cases q:xs[r.toNat]? with
 | none=>rw[q]at e2;cases e2
 | some z=>
  rw[q]at e2;cases e2;exact⟨z,e,rfl⟩
theorem BF(xs ys:Ls):xs.map V.str++ys.map V.str=(xs++ys).map V.str:=(dw ..).symm
theorem Pp(xs:Ls):(xs.map V.str).reverse=xs.reverse.map V.str:=List.map_reverse.symm
theorem tY(xs:Ls)(y:Str):xs.map V.str++[V.str y]=(xs++[y]).map V.str:=by rw[dw];rfl
theorem lg{n:Nat}(h:n<=1000):n<=sizeLine:=vf (bP h)
abbrev dS (xs:Ls):W.Dat:=.list (xs.map W.Dat.str)
theorem iT{K:Fg}{H:Hp}{a:Addr}(h:aa K H a (xs.map V.str)):DV K H (.ref a) (dS xs):=.lst h (O5 xs)
theorem tZ(n:Nat)(h:∀x∈xs,Ln x):W.kqdOk (n+1) (dS xs)=true:=by
 simp only[dS,W.kqdOk,hX,cE];rintro d ⟨x,j,rfl⟩;cases n with
 | zero=>exact(h x j).ok
 | succ n=>exact(h x j).ok
theorem aey(h:xs.map W.Dat.str=ys.map W.Dat.str):xs=ys:=by
 induction xs generalizing ys with
 | nil=>cases ys with
  | nil=>rfl
  | cons y ys=>cases h
 | cons x xs j=>cases ys with
  | nil=>cases h
  | cons y ys=>
   rw[bS,bS]at h;injection h with h1 h2
   injection h1 with h1
   rw[h1,j h2]
theorem Pq:dS xs=dS ys↔xs=ys:=⟨λh=>aey (W.Dat.list.inj h),λh=>by rw[h]⟩
theorem FU{b:Bool}(h:b=true↔dS xs=dS ys):b=decide (xs=ys):=by
 rw[Pq]at h
 by_cases q:xs=ys
 . rw[bE q];exact h.mpr q
 rw[cy q];exact ql.mpr λz=>q (h.mp z)
theorem aez{i:Int}(h0:0<=i)(h1:i<4294967296):i.natAbs.log2<1920:=by
 have:i.natAbs.log2<32:=by
  by_cases q:i.natAbs=0
  . rw[q];decide
  exact(Nat.log2_lt q).mpr (by omega)
 omega
theorem aeA{c A B:Prop}[Decidable c](j:¬c)(h:A):if (!decide c)=true then A else B:=by rw[cy j];exact fE h
end L2
namespace Lcp
open L2
variable {b o n:Ls}
def ub(b x y:Ls):Ls:=(((b.take (fst b x)++tX b x)++(b.drop (jz b x)).take (fst b y - jz b x))++tX b y)++b.drop (jz b y)
def BG(j G z J:Int):Bool:=if (j=G/\z=J)/\j=z then false else(decide (G<=z) || decide (J<=j))
def apart(b o n:Ls):Bool:=BG (fst b o) (jz b o) (fst b n) (jz b n)
def merge(b o n:Ls):Ls×Option (Ls):=
 if o=b then(n,none) else if n=b\/o=n then(o,none) else if apart b o n=false then(n,some o) else if jz b o<=fst b n then(ub b o n,none) else(ub b n o,none)
theorem aeB(h:o=b):merge b o n=(n,none):=by unfold merge;rw[am h]
theorem aeC(h:o≠b)(h':n=b\/o=n):merge b o n=(o,none):=by unfold merge;rw[ag h,am h']
theorem aeD(h:o≠b)(h':¬(n=b\/o=n))(h2:apart b o n=false):merge b o n=(n,some o):=by unfold merge;rw[ag h,ag h',am h2]
theorem aeE(h:o≠b)(h':¬(n=b\/o=n))(h2:apart b o n=true)(j:jz b o<=fst b n):merge b o n=(ub b o n,none):=by unfold merge;rw[ag h,ag h',ag (by rw[h2];decide),am j]
theorem aeF(h:o≠b)(h':¬(n=b\/o=n))(h2:apart b o n=true)(j:¬jz b o<=fst b n):merge b o n=(ub b n o,none):=by unfold merge;rw[ag h,ag h',ag (by rw[h2];decide),ag j]
theorem Ps{x y:Ls}{z:Str}(h:z∈ub b x y):z∈b\/z∈x\/z∈y:=by
 unfold ub at h
 rcases bR.mp h with h | h
 . rcases bR.mp h with h | h
   . rcases bR.mp h with h | h
     . rcases bR.mp h with h | h
       . exact .inl (MJ h)
       exact .inr (.inl (Pm h))
     exact .inl (MI (MJ h))
   exact .inr (.inr (Pm h))
 exact .inl (MI h)
theorem aeG{z:Str}(h:z∈(merge b o n).1):z∈b\/z∈o\/z∈n:=by
 unfold merge at h;split at h
 . exact .inr (.inr h)
 split at h
 . exact .inr (.inl h)
 split at h
 . exact .inr (.inr h)
 split at h
 . exact Ps h
 rcases Ps h with h | h | h
 . exact .inl h
 . exact .inr (.inr h)
 exact .inr (.inl h)
theorem aeH(b o n:Ls):(merge b o n).2=none\/(merge b o n).2=some o:=by
 unfold merge;split
 . exact .inl rfl
 split
 . exact .inl rfl
 split
 . exact .inr rfl
 split<;>exact .inl rfl
theorem aeI(h1:∀x∈b,Ln x)(h2:∀x∈o,Ln x)(j:∀x∈n,Ln x):∀x∈(merge b o n).1,Ln x:=λx z=>by
 rcases aeG z with h | h | h
 . exact h1 x h
 . exact h2 x h
 exact j x h
end Lcp
namespace L2
section
open Lcp
def aeJ(H:Hp)(r:V):Option (Ls)->Prop
 | none=>r=.non
 | some z=>∃j,r=.ref j/\H j=some (.lst (z.map V.str))
structure aeK(H:Hp)(t l:Addr)(r:V)(m:Ls×Option (Ls)):Prop where
 tup:H t=some (.tup [.ref l,r])
 lst:H l=some (.lst (m.1.map V.str))
 bes:aeJ H r m.2
end
section
variable {ys:Ls}
section
variable {X:Cx}
theorem Pu:∀{us:Lw},aY (ys.map V.str) us->StrsAre us ys:=by
 induction ys with
 | nil=>intro us r;rw[AM]at r;cases r;exact .nil
 | cons n ns j=>
  intro us r;rw[bS]at r;cases r with
  | cons z G=>
   obtain⟨t,e⟩:=z;subst e;exact .cons n t (j G)
inductive Pw (K:Fg) (H:Hp) (Q:VK):V->Lv->Prop where
 | mk {sep:Str}{p:Addr} (ys:Ls) (_:aa K H p (ys.map V.str)) (_:(ys.map (·.length)).sum+ys.length * sep.length<=16777216) (_:Q (.str (Txt.join sep ys)) H):Pw K H Q (.str sep) [.ref p]
def Px(K:Fg):V->Lv->Hp->VK->Prop:=λx vs H Q=>Pw K H Q x vs
theorem vH:oI X "str.join" (Px X.K):=by
 intro ad s Z H x xs v us Q I U O h;obtain @⟨sep,p,ys,j,hz,q⟩:=h;obtain⟨t,rfl⟩:=U;cases O with
 | cons G J=>
  cases G;cases J;obtain⟨b_,r,z,_⟩:=I.list j;exact join_list z.isList (by simpa using Pu r) hz λt' k=>⟨.str _,H,I.tok k,⟨_,rfl⟩,q⟩
end
section
variable {X:Cx}{K:Fg}
theorem vI(K:Fg)(h:X.K=K:=by rfl):vA X (Ot K):=h▸eR
theorem aeL(K:Fg)(h:X.K=K:=by rfl):vA X (Ov K):=h▸fj
theorem Py(K:Fg)(h:X.K=K:=by rfl):cM X (compareOp .In) (Ft K false):=h▸OA
def aeM(K:Fg):Lv->Hp->VK->Prop:=λxs H Q=>∃p ys,xs=[.ref p]/\(aa K H p ys\/aZ K H p ys)/\Q (.int ys.length) H
theorem Pz(K:Fg)(h:X.K=K:=by rfl):fe X (.builtin "len") (aeM K):=by subst h;exact fU
end
theorem yt{b:Nat}(h:∀y∈ys,y.length<=b):(ys.map (·.length)).sum<=ys.length * b:=by
 induction ys with
 | nil=>simp
 | cons y ys j=>
  have h1:=h y bM;have h2:=j λz hz=>h z (bY _ hz);simp only[bS,List.sum_cons,bU,Yf];omega
theorem BH{sep:Str}:(Txt.join sep ys).length<=(ys.map (·.length)).sum+ys.length * sep.length:=by
 have e:Txt.join sep ys=Str.join sep ys:=AS sep ys;rw[e];cases ys with
 | nil=>exact dF _
 | cons a l=>
  rw[len_join_cons];simp only[bU,Yf];omega
theorem aeN:dR Str.empty:=by decide +kernel
theorem FV{sep:Str}(hs:dR sep):∀{ys:Ls},(∀y∈ys,dR y)->dR (Txt.join sep ys):=by
 intro ys h;have e:Txt.join sep ys=Str.join sep ys:=AS sep ys;rw[e];clear e
 induction ys with
 | nil=>exact aeN
 | cons a l z=>
  cases l with
  | nil=>exact h a bM
  | cons b r=>
   show dR (a++sep++Str.join sep (b::r));exact Bz (Bz (h a bM) hs) (z λy j=>h y (bY _ j))
end
section
variable {X:Cx}{ad:Po}{d:Addr}{kvs:List (ao×V)}{o:Obj}{prog:Program}{w:World}{A:Around}{E:VP}{e:Expr}{elts:List Expr}{x1:Nat}{pos:Pos}
section
variable {Z:St}{H:Hp}{s:Shared}
theorem Inv.rehp{H':Hp}(I:Inv X ad Z H s)(h0:∀b,H b=none->H' b=none)(J:∀b xs,H b=some (.tup xs)->H' b=some (.tup xs))(G:∀b o u,X.H₀ b=some (.frz o u)->H' b=some (.frz o u))
 (z:∀b ps,H b=some (.tbl ps)->H' b=some (.tbl ps)) (hok:cp X.prog X.w H' s.heap):Inv X ad Z H' s:=
 ⟨I.ok,I.os,I.bare,⟨I.base.keep,I.base.slot,λb o e n O=>h0 b (I.base.free b o e n O),I.base.there,λb xs e=>J b xs (I.base.tups b xs e),G,λb ps e=>(I.base.tbls b ps e).elim λm q=>⟨m,z _ _ q⟩⟩,I.loc,I.cell,h0 _ I.free,
  λx c e=>h0 _ (I.freeC x c e),λp j=>⟨(I.pin p j).1,h0 _ (I.pin p j).2.1,(I.pin p j).2.2⟩,hok,I.len⟩
theorem Inv.freeze(I:Inv X ad Z H s)(e:H d=some (.dK kvs))(G:s.heap.get? d=some o):Inv X ad Z (ah H d (.frz o (.dK kvs))) s:=by
 have ne:∀b u,H b=some u->(∀ks,u≠.dK ks)->b≠d:=λb u q J z=>by rw[z,e]at q;cases q;exact J _ rfl
 refine I.rehp (λb q=>?_) (λb xs q=>?_) (λb o' u q=>?_) (λb ps q=>?_) λb u q=>?_
 . rw[aW (λz=>by rw[z,e]at q;cases q)];exact q
 . rw[aW (ne b _ q (by intro ks z;cases z))];exact q
 . have q:=I.base.frzs b o' u q;rw[aW (ne b _ q (by intro ks z;cases z))];exact q
 . rw[aW (ne b _ q (by intro ks z;cases z))];exact q
 have up:∀{c:Addr}{w:HO},H c=some w->(∀ks,w≠.dK ks)->ah H d (.frz o (.dK kvs)) c=some w:=λ{c w} j O=>by rw[aW (ne c _ j O)];exact j
 by_cases z:b=d
 . subst z;rw[aE]at q;cases q;exact⟨G,(I.hok b _ e).stay (λ_ _ _ q=>q) (λc j=>up j (by intro ks z;cases z)) λc xs j=>up j (by intro ks z;cases z)⟩
 rw[aW z]at q;exact(I.hok b _ q).stay (λ_ _ _ q=>q) (λc j=>up j (by intro ks z;cases z)) λc xs j=>up j (by intro ks z;cases z)
theorem Inv.thaw(I:Inv X ad Z H s)(e:H d=some (.frz o (.dK kvs)))(hz:∀o' u,X.H₀ d≠some (.frz o' u)):Inv X ad Z (ah H d (.dK kvs)) s:=by
 have ne:∀b u,H b=some u->(∀o' G,u≠.frz o' G)->b≠d:=λb u q J z=>by rw[z,e]at q;cases q;exact J _ _ rfl
 have up:∀{c:Addr}{w:HO},H c=some w->(∀o' G,w≠.frz o' G)->ah H d (.dK kvs) c=some w:=λ{c w} j O=>by rw[aW (ne c _ j O)];exact j
 refine I.rehp (λb q=>?_) (λb xs q=>up q (by intro _ _ z;cases z)) (λb o' u q=>?_) (λb ps q=>up q (by intro _ _ z;cases z)) λb u q=>?_
 . rw[aW (λz=>by rw[z,e]at q;cases q)];exact q
 . have U:b≠d:=λz=>hz o' u (z▸q);rw[aW U];exact I.base.frzs b o' u q
 by_cases z:b=d
 . subst z;rw[aE]at q;cases q;exact(show b9 X.prog X.w H s.heap b (.dK kvs) from (show b9 X.prog X.w H s.heap b (.frz o (.dK kvs)) from I.hok b _ e).2).stay (λ_ _ _ q=>q) (λc j=>up j (by intro _ _ z;cases z)) λc xs j=>up j (by intro _ _ z;cases z)
 rw[aW z]at q;exact(I.hok b _ q).stay (λ_ _ _ q=>q) (λc j=>up j (by intro _ _ z;cases z)) λc xs j=>up j (by intro _ _ z;cases z)
theorem Inv.track{a:Addr}{o:HO}(I:Inv X ad Z H s)(O:H a=none)(h0:X.s₀.heap.objs.size<=a)(h1:a≠X.env.locals)(h2:∀x c,X.env.cells.lookup x=some c->c≠a)(J:∀p∈X.pn++ad,p.1≠a)
 (new:b9 X.prog X.w (ah H a o) s.heap a o):Inv X ad Z (ah H a o) s:=by
 have up:∀{c:Addr}{w:HO},H c=some w->ah H a o c=some w:=λ{c w} j=>by rw[aW (aK j O)];exact j
 refine⟨I.ok,I.os,I.bare,⟨I.base.keep,I.base.slot,λb ob e n U=>?_,I.base.there,λb xs e=>up (I.base.tups b xs e),λb o' u e=>up (I.base.frzs b o' u e),λb ps e=>(I.base.tbls b ps e).elim λm q=>⟨m,up q⟩⟩,I.loc,I.cell,?_,λx c e=>?_,
  λp G=>⟨(I.pin p G).1,?_,(I.pin p G).2.2⟩,λb u q=>?_,I.len⟩
 . rw[aW (cS (gB (bH e) h0))];exact I.base.free b ob e n U
 . rw[aW (gC h1)];exact I.free
 . rw[aW (h2 x c e)];exact I.freeC x c e
 . rw[aW (J p G)];exact(I.pin p G).2.1
 by_cases z:b=a
 . subst z;rw[aE]at q;cases q;exact new
 rw[aW z]at q;exact(I.hok b _ q).stay (λ_ _ _ q=>q) (λc j=>up j) λc xs j=>up j
end
theorem vJ:fe X (.type "dict") (λxs H Q=>∃a kvs,xs=[.ref a]/\H a=some (.dK kvs)/\d8 H (.dK kvs) Q):=by
 intro ad s Z H xs us Q I r h;obtain⟨a,kvs,rfl,e,q⟩:=h;obtain⟨u,rfl,G⟩:=vals1 r;cases G;exact ade I (.inl e) λp s' z j=>⟨.ref p,_,j,rfl,q.at p z⟩
theorem aeO{K:Type}[DecidableEq K]{knd:KeyKind prog w K}{s:Shared}{kvs:List (K×Value)}{k:K}{a0 dflt:Value}{Q:VP}(G:knd.is k a0=true)(hm:s.heap.DictOf knd d kvs)
 (a1:∀v,valueAt kvs k=some v->Q v { s with toks:=s.toks+1 })
 (a2:valueAt kvs k=none->∀h',h'.DictOf knd d (kvs++[(k,dflt)])->Heap.SameBut d s.heap h'->Q dflt { s with heap:=h',toks:=s.toks+1 }) (hsz:kvs.length<=sizeLine) :
 wpAny (model prog w) A (dictSetDefault d a0 dflt) Q E s:=by
 have a3:=hm.mapOf;obtain⟨o,es,ep,j,hc,hd,hk,O,hn⟩:=hm;obtain⟨o',es',vt,iq,ia,kM,eg,Y⟩:=a3;rw[j]at iq;cases iq;rw[hd]at kM;cases kM;have FW:es.size<=sizeLine:=by
  have e1:=O.length;have e2:es.toList.length=es.size:=by simp
  omega
 unfold dictSetDefault
 try with_reducible refine jQ ?_
 refine ae (knd.pyHash G ?_);refine ae (wpAny_dictFind_of (s:={ s with toks:=s.toks+1 }) G j hd hk ?_);have a4:(es.findIdx? λe=>knd.is k e.key)=kvs.findIdx? λkv=>decide (kv.1=k):=by
  rw[<-O.findIdx k];obtain⟨l⟩:=es;simp
 cases hi:es.findIdx? λe=>knd.is k e.key with
 | some i=>
  have z:valueAt kvs k=(es[i]?).map (·.val):=by rw[<-Y k,findBy_of_findIdx?,hi]
  refine ae (ML (s:={ s with toks:=s.toks+1 }) j hd ?_);cases J:es[i]? with
  | none=>
   exfalso;have:=Array.findIdx?_eq_some_iff_findIdx_eq.mp hi;have aO:i<es.size:=this.1;rw[qm aO]at J;exact nomatch J
  | some e=>
   rw[J]at z;exact ae (nV (ar (a1 e.val z)))
 | none=>
  have z:valueAt kvs k=none:=by rw[<-Y k,findBy_of_findIdx?,hi]
  have a5:k∉kvs.map (·.1):=not_mem_of_findIdx_none (a4▸hi);refine ae (nV (ae (wpAny_updateDictKeys (hz:=FW) (s:={ s with toks:=s.toks+1 }) j hd (ar (a2 z _ ⟨_,_,ep+1,AT _ j (Obj.isFreed_of_dict (Obj.data_mapDictKeys hd _)),
   hc.mapDictKeys _,Obj.data_mapDictKeys hd _,hk.push G _,?_,?_⟩ (lO ..))))))
  . have:=O.append G (knd.hash k) dflt;obtain⟨l⟩:=es;simpa using this
  rw[dw,sT];refine⟨hn,by simp,?_⟩;intro a ha b U;simp only[bS,AM,bw]at U;subst U;exact λe=>a5 (e▸ha)
theorem aeU{K:Type}[DecidableEq K]{knd:KeyKind prog w K}{k:K}{j:Value}(kR:knd.is k j=true)(hd:(d == sysModules)=false)(dflt:Value) :
 MeetsIn prog w (Builtin.«dict.setdefault» ⟨[.ref d,j,dflt],[]⟩) (λ_ R s=>∃kvs,s.heap.DictOf knd d kvs/\kvs.length<=sizeLine /\
  (∀v,valueAt kvs k=some v->R (.ok (.ret v)) { s with toks:=s.toks+1 }) /\
  (valueAt kvs k=none->∀h',h'.DictOf knd d (kvs++[(k,dflt)])->Heap.SameBut d s.heap h'->R (.ok (.ret dflt)) { s with heap:=h',toks:=s.toks+1 })):=
 .of_wp λA R s J=>J.elim λkvs O=>O.elim λz U=>U.elim λhz Y=>Y.elim λh1 h2=>by
  unfold Builtin.«dict.setdefault»;refine ae ?_;unfold Builtin.Dict.keyAndDefault;refine ae (wpAny_notOrdered_dict z.typeIs ?_);show wpAny _ _ (pure (d,j,some dflt)) _ _ s;refine ar ?_;show wpAny _ _ (if (d == sysModules)=true then _ else(dictSetDefault d j dflt >>= _)) _ _ s;rw[ag (by rw[hd];exact cW)];exact ae (aeO kR z (λv hv=>ar ⟨v,rfl,h1 v hv⟩) (λhn h' G yu=>ar ⟨dflt,rfl,h2 hn h' G yu⟩) hz)
def aeZ:V->Lv->Hp->VK->Prop:=λx vs H Q=>∃a kvs k y,x=.ref a/\vs=[kV k,y]/\H a=some (.dK kvs)/\kvs.length<sizeLine/\(∀z,bi kvs k=some z->Q z H)/\(bi kvs k=none->Q y (ah H a (.dK (cQ kvs k y))))
theorem ae0:oI X "dict.setdefault" aeZ:=by
 intro ad s Z H x xs v us Q I rx rs h;obtain⟨a,kvs,k,y,rfl,rfl,e,hl,q1,q2⟩:=h;cases rx;cases rs with
 | cons r1 r2=>
  cases r2 with
  | cons r3 r4=>
   cases r4;obtain⟨z,hd,vs,G,dd⟩:=j0 I.hok e;refine vi awA dd.typeIs PySem.F.entry_dict_setdefault (PySem.F.args_dict_setdefault_3 _ _ _) (aeU (knd:=cz X.prog X.w) (ma r1) hd _) ⟨vs,dd,by rw[<-G.length];exact z,λu hu=>?_,λhn h' Y hs=>?_⟩
   . obtain⟨j,PB,rz⟩:∃j,bi kvs k=some j/\RelV j u:=by
      have:=G.val k;rw[hu]at this;cases q:bi kvs k with
      | none=>rw[q]at this;cases this
      | some j=>rw[q]at this;exact⟨j,rfl,this⟩
     exact⟨j,H,I.tok _,rz,q1 j PB⟩
   have U:bi kvs k=none:=by
    have:=G.val k;rw[hn]at this;cases q:bi kvs k with
    | none=>rfl
    | some j=>rw[q]at this;cases this
   have O:∃q,h'.get? a=some q:=Y.elim λq a0=>a0.elim λ_ a1=>a1.elim λ_ a2=>a2.elim λhq _=>⟨q,hq⟩;have J:=G.put k r3;rw[FA _ U]at J;refine⟨y,_,vB I (ob:=.dK (cQ kvs k y)) (by rw[e];exact True.intro) hs O ?_,r3,q2 U⟩;rw[FA _ U];refine vC (by rw[bI];simp;omega) hd ?_ Y;have e2:∀b,stored vs k b=vs++[(k,b)]:=by
    intro b;unfold stored;rw[ag];rw[vj];rintro⟨kv,uc,O⟩;have:valueAt vs k≠none:=by
     unfold valueAt;rw[Ne,awB,Yg];exact λz=>z kv uc O
    exact this hn
   rw[e2]at J;exact J
theorem ae4{k:ao}{v:Value}(h:oh k v=true):RelV (kV k) v:=by
 rcases jg h with⟨i,t,rfl,rfl⟩ | ⟨x,t,rfl,rfl⟩
 . exact⟨t,rfl⟩
 exact⟨t,rfl⟩
theorem FZ:∀{us:Lw}{ys:Ls},StrsAre us ys->aY (ys.map V.str) us
 | _,_,.nil=>.nil
 | _,_,.cons x t r=>.cons ⟨t,rfl⟩ (FZ r)
section
variable {s:Shared}
theorem ae5{r:Addr}{Q:VP}(U:wpAny (model prog w) A.in1 (collect (.ref r)) (λus s'=>∃(ys:Ls) (h':Heap) (tk:Nat),s'={ s with heap:=h',toks:=tk }/\StrsAre us ys/\us.length<64 /\
 ∀(h2:Heap) (out:Lw) (j:Ls) (e:Nat),(∀b o,h'.get? b=some o->h2.get? b=some o)->h2.get? h'.objs.size=some (seqObj "list" out.toArray e)->StrsAre out j->j.Perm ys->sortedS j=true->Q (.ref h'.objs.size) { s with heap:=h2,toks:=tk }) E s) :
 wpAny (model prog w) A (call (.builtin "sorted") [.ref r]) Q E s:=by
 refine awC kind_sorted plain_sorted entry_sorted (args_sorted1 _) ?_;unfold Builtin.«sorted»;refine ae (m:=checkCount "sorted" 1 1 _) (ar ?_);refine ae (eM U (λus s' a0=>a0.elim λys a3=>a3.elim λh' a4=>a4.elim λtk a5=>a5.elim λes a6=>a6.elim λz a7=>a7.elim λud a8=>?_) λ_ _ e=>e);subst es;refine ae (Yh ?_ (by rw[sK];omega));have G:(h'.push (seqObj "list" us.toArray 0)).get? h'.objs.size=some (seqObj "list" us.toArray 0):=dN _ rfl;show wpAny _ _ _ _ _ { s with heap:=h'.push (seqObj "list" us.toArray 0),toks:=tk };refine ae (jQ (sJ slot_list_sort ⟨_,G,rfl⟩ entry_list_sort (list_sort_treeK strKind_oneLt G z.keysOf (λv₁ v₂ rest e=>keyKind_strs (by rw[<-e];exact z)) ud λJ Y a2=>⟨_,rfl,?_⟩) (args_list_sort _)));obtain⟨j,h1,h2,h3⟩:=sorted_out_str z Y a2;obtain⟨e,he⟩:=sortedHeap_at (vs:=us) (out:=(arrOf J).map (·.2)) G;refine ar ⟨_,rfl,a8 _ ((arrOf J).map (·.2)).toList j e (λb o q=>?_) (by rw[Yi];exact he) h1 h2 h3⟩;have O:=bH q;rw[sortedHeap_old (cS O) (by rw[sL];exact Yj O)];exact cf _ q
end
theorem PD{Z:St}{H:Hp}{s:Shared}{h' h2:Heap}{tk e:Nat}{out:Lw}{j:Ls}(I:Inv X ad Z H { s with heap:=h',toks:=tk })(k:∀b o,h'.get? b=some o->h2.get? b=some o)
 (G:h2.get? h'.objs.size=some (seqObj "list" out.toArray e)) (z:StrsAre out j) (J:j.length<=sizeLine):Inv X ad Z (ah H h'.objs.size (.lst (j.map V.str))) { s with heap:=h2,toks:=tk }:=
 I.laid (s:={ s with heap:=h',toks:=tk }) (t':=tk) k (aG _) ⟨by rw[ak];exact J,out,e,FZ z,G⟩
theorem afc:fe X (.builtin "sorted") (λxs H Q=>∃p ys,xs=[.ref p]/\aa X.K H p (ys.map V.str)/\ys.length<64/\∀j,j.Perm ys->sortedS j=true->d8 H (.lst (j.map V.str)) Q):=by
 intro ad s Z H xs us Q I r h;obtain⟨p,ys,rfl,Y,ud,q⟩:=h;obtain⟨u,rfl,ru⟩:=vals1 r;cases ru;obtain⟨b_,rv,ht,hz⟩:=I.list Y;have G:StrsAre b_ ys:=Pu rv;have a0:=Yk G;refine sorted_strs ht.isList G (by omega) λout j J z O=>?_;obtain⟨e,U⟩:=sortedAll_at s.heap b_ out;have hl:=z.length_eq;refine⟨.ref (s.heap.objs.size+1),_,I.laid (t':=s.toks) (a:=s.heap.objs.size+1) (o:=.lst (j.map V.str)) (λb o q=>sortedAll_old q) (qf _) ⟨by rw[ak];exact lg (by omega),out.toList,e,FZ J,by rw[Yi];exact U⟩,rfl,?_⟩;exact(q j z O).at _ (I.hok.fresh (qf _))
def ue(kvs:List (ao×V))(ks:Ls):Prop:=kvs.map (·.1)=ks.map Sum.inr
theorem PF{ks:Ls}(h:ue kvs ks){vs:List (ao×Value)}(O:KV kvs vs){us:Lw}(G:us.length=vs.length)(J:∀(j:Nat) (v:Value),us[j]?=some v->∃k x,vs[j]?=some (k,x)/\(cz X.prog X.w).is k v=true):StrsAre us ks:=by
 induction us generalizing kvs vs ks with
 | nil=>
  have:vs=[]:=AU.mp G.symm;subst this;cases O;unfold ue at h;cases ks with
  | nil=>exact .nil
  | cons a b=>cases h
 | cons u us ih=>
  cases O with
  | nil=>cases G
  | @cons p q ps qs r rr=>
   cases ks with
   | nil=>cases h
   | cons a ks=>
    unfold ue at h;rw[bS,bS]at h;injection h with h1 h2
    obtain⟨k,x,e,z⟩:=J 0 u rfl;have e:q=(k,x):=hJ e;have Y:p.1=k:=by rw[r.1,e]
    have z:oh k u=true:=z;rw[<-Y,h1]at z
    rcases jg z with⟨i,t,e1,e2⟩ | ⟨x',t,e1,e2⟩
    . cases e1
    cases e1;subst e2;exact .cons _ _ (ih h2 rr (by simpa using G) λj v U=>J (j+1) v (by simpa using U))
theorem BJ(hc:X.calm=true):fe X (.builtin "sorted") (λxs H Q=>∃d kvs ks,xs=[.ref d]/\H d=some (.dK kvs)/\ue kvs ks/\kvs.length<64/\∀G,G.Perm ks->sortedS G=true->d8 H (.lst (G.map V.str)) Q):=by
 intro ad s Z H xs us Q I r h;obtain⟨d,kvs,ks,rfl,e,BK,ud,q⟩:=h;obtain⟨u,rfl,ru⟩:=vals1 r;cases ru;obtain⟨z,hd,vs,a0,dd⟩:=j0 I.hok e;obtain⟨ep,j8⟩:=dd.dictAt;have a2:=a0.length;refine ae5 (W.kdu_collect (W.kdl_dict (knd:=cz X.prog X.w) (kvs:=vs) (ep:=ep) hd) (I.ok.hd hc) j8 (by omega) λh' tk U hk J=>?_);have hS:StrsAre U.toList ks:=PF (X:=X) BK a0 (by rw[eZ];exact J.1) λj v hj=>J.2 j v (by rw[<-sU];exact hj);have yk:U.toList.length=vs.length:=by rw[eZ];exact J.1
 have O:Inv X ad Z H { s with heap:=h',toks:=tk }:=I.kept hk;refine⟨ks,h',tk,rfl,hS,by omega,λh2 out G e' k2 he iU Y yu=>?_⟩;have hl:=Y.length_eq;have a1:=Yk hS;exact⟨.ref h'.objs.size,_,PD O k2 he iU (lg (by omega)),rfl,(q G Y yu).at _ (O.hok.fresh (aG _))⟩
theorem afe{Z:St}{H:Hp}{s:Shared}(hu:X.A.units+65<cLine)(I:Inv X ad Z H s){x:V}{v:Value}{xs:Lv}{us:Lw}{d:W.Dat}{ds:List W.Dat}(rx:RelV x v)(U:aY xs us)(hd:DV X.K H x d)(J:iu X.K H xs ds)(O:W.kqdOk 9 d=true)(vL:∀e∈ds,W.kqdOk 9 e=true) :
 ∃e:Value->Bool,(∀y∈us.toArray,SeqAt.EqAt X.A.in1 s y v (e y))/\(us.toArray.any e=true↔d∈ds):=by
 obtain⟨as,ra⟩:=hd.reads I rx
 classical
 have a0:∀{xs:Lv}{us:Lw}{ds:List W.Dat},aY xs us->iu X.K H xs ds->∀y∈us,∃e∈ds,∃bs,Reads s.heap y (W.kqdP e) bs:=by
  intro xs us ds U
  induction U generalizing ds with
  | nil=>intro _ y j;cases j
  | cons r rr ih=>
   intro J y j;cases J with
   | cons q qs=>
    rcases bc.mp j with e | e
    . subst e;obtain⟨bs,z⟩:=q.reads I r;exact⟨_,bM,bs,z⟩
    obtain⟨e',mi,z⟩:=ih qs y e;exact⟨e',bY _ mi,z⟩
 have a1:∀{xs:Lv}{us:Lw}{ds:List W.Dat},aY xs us->iu X.K H xs ds->∀e∈ds,∃y∈us,∃bs,Reads s.heap y (W.kqdP e) bs:=by
  intro xs us ds U
  induction U generalizing ds with
  | nil=>intro h e G;cases h;cases G
  | cons r rr ih=>
   intro J e G;cases J with
   | cons q qs=>
    rcases bc.mp G with z | z
    . subst z;obtain⟨bs,w⟩:=q.reads I r;exact⟨_,bM,bs,w⟩
    obtain⟨y,j,w⟩:=ih qs e z;exact⟨y,bY _ j,w⟩
 refine⟨λy=>decide (∃bs,Reads s.heap y (W.kqdP d) bs),λy j=>?_,?_⟩
 . obtain⟨e,G,bs,Y⟩:=a0 U J y (by simpa using j);have x1:=W.keq_at (A:=X.A) Y ra (qQ (vL e G)) (qQ O) (by show X.A.units+1+64<cLine;omega);have hb:(PyData.eqv (W.kqdP e) (W.kqdP d)=true)↔e=d:=xJ 9 e d 9 (vL e G) O;have lj:PyData.eqv (W.kqdP e) (W.kqdP d)=decide (∃bs,Reads s.heap y (W.kqdP d) bs):=by
    by_cases z:e=d
    . rw[hb.mpr z];subst z;exact(bE ⟨bs,Y⟩).symm
    rw[ql.mpr λw=>z (hb.mp w)];refine(cy ?_).symm;rintro⟨vM,F1⟩;have l:=W.kqd_lay 9 e (vL e G);have eq:=(Y.unique _ _ F1).1;have:PyData.eqv (W.kqdP e) (W.kqdP d)=true:=by
     rw[eq];exact(xJ 9 d d 9 O O).mpr rfl
    exact z (hb.mp this)
   rw[lj]at x1;exact x1
 constructor
 . intro h;rw[List.any_toArray,vj]at h;obtain⟨y,j,hz⟩:=h;obtain⟨vM,F1⟩:=cY hz;obtain⟨e,G,bs,Y⟩:=a0 U J y j;have eq:=(Y.unique _ _ F1).1;have:PyData.eqv (W.kqdP e) (W.kqdP d)=true:=by
    rw[eq];exact(xJ 9 d d 9 O O).mpr rfl
   rw[<-(xJ 9 e d 9 (vL e G) O).mp this];exact G
 intro h;obtain⟨y,j,z⟩:=a1 U J d h;rw[List.any_toArray,vj];exact⟨y,j,bE z⟩
def afg(K:Fg)(j:Bool):R2:=λx y H Q=>∃p xs d ds,y=.ref p/\aa K H p xs/\DV K H x d/\iu K H xs ds/\W.kqdOk 9 d=true/\(∀e∈ds,W.kqdOk 9 e=true)/\∀b:Bool,(b=true↔d∈ds)->Q (.bl (if j then !b else b)) H
theorem afh(J:X.A.units+65<cLine):cM X (compareOp .NotIn) (afg X.K true):=by
 intro ad s Z H x y v u Q I Y ry h;obtain⟨p,xs,d,ds,rfl,G,hd,O,U,vL,q⟩:=h;cases ry;obtain⟨b_,r,pl,hz⟩:=I.list G;obtain⟨e,z,j⟩:=afe J I Y r hd O U vL;exact SeqAt.notIn_listAt e pl.isList z ⟨.bl _,H,I,rfl,q _ j⟩
def yw(o:Obj):Nat:=match o.data with
 | .dict _ ep=>ep
 | _=>0
def PH(d:Addr)(kvs:List (ao×V))(o:Obj):It:=
 ⟨λi H=>H d=some (.frz o (.dK kvs))/\i<kvs.length,λi H x H'=>∃k v p,kvs[i]?=some (k,v)/\H p=none/\x=.ref p/\H'=ah H p (.tup [kV k,v]),λi H=>H d=some (.frz o (.dK kvs))/\kvs.length<=i⟩
theorem PJ{P:Program}{H:Hp}{h:Heap}(ok:cp P w H h)(e:H d=some (.frz o (.dK kvs))):∃vs,KV kvs vs/\h.DictAt (cz P w) d vs (yw o)/\(d == sysModules)=false:=by
 obtain⟨j,_,hd,vs,O,o',es,ep,z,J,G,r⟩:=(show b9 P w H h d (.frz o (.dK kvs)) from ok d _ e);rw[j]at z;cases z;refine⟨vs,O,⟨o,es,j,J,?_,r⟩,hd⟩;unfold yw;rw[G]
theorem afi{vs:List (ao×Value)}(r:KV kvs vs){i:Nat}{k:ao}{v:V}(h:kvs[i]?=some (k,v)):∃u,vs[i]?=some (k,u)/\RelV v u:=by
 unfold KV at r
 induction r generalizing i with
 | nil=>simp at h
 | @cons p q ps G j J z=>
  cases i with
  | zero=>
   simp at h;subst h;obtain⟨a,b⟩:=q;exact⟨b,by simp;exact j.1.symm,j.2⟩
  | succ i=>exact z (by simpa using h)
theorem afj:entryFor table "dict_itemiterator.__iter__"=some Builtin.«dict_keyiterator.__iter__»:=
 MM (id':="dict_keyiterator.__iter__") (by kernel_rfl) rfl (by decide +kernel) (by kernel_rfl)
theorem afk{s:Shared}{it:Addr}{i n ep:Nat}{ok G:Value}{Q:VP}(z:IsItemIter s.heap it d i n ep ok G)(h:Q (.ref it) s):wpAny (model prog w) A (pyIter (.ref it)) Q E s:=by
 have j:s.TypeIs (.ref it) "dict_itemiterator":=⟨_,z,rfl⟩;refine Yl j awD (sJ awD j afj ?_ (PySem.F.args_dict_itemiterator_iter_1 _));show wpAny _ _ (ret (.ref it)) _ _ s;exact ar ⟨_,rfl,"dict_itemiterator",_,j,PySem.F.slot_dict_itemiterator_next.lookup,h⟩
theorem afl{P:Program}{K:Fg}(d it:Addr)(kvs:List (ao×V))(o:Obj):oA P w K (.Tuple elts x1 pos) (PH d kvs o) [it] it (λi h=>∃ok G,IsItemIter h it d i kvs.length (yw o) ok G) where
 mem:=by simp
 obj:=λi h st b j=>by
  have e:b=it:=by simpa using j
  subst e;obtain⟨ok,G,st⟩:=st;exact⟨_,st,λv z=>by
   have z':Data.fields _=Data.cell v:=z;cases z'⟩
 keep:=λi h h' a1 k=>a1.elim λok a2=>a2.elim λG st=>⟨ok,G,k it (by simp) _ st⟩
 item:=by
  intro X hP hw hK hc i ad s Z H E I hf st hg;subst hP hw hK;obtain⟨ok,G,st⟩:=st;obtain⟨hd,aO⟩:=hg;obtain⟨f0,f1,f2,Y,f4,f5⟩:=hf it (by simp);obtain⟨vs,O,j8,hS⟩:=PJ I.hok hd;have J:=O.length;obtain⟨kv,uc⟩:∃kv,kvs[i]?=some kv:=⟨_,hZ aO⟩;obtain⟨k,v⟩:=kv;obtain⟨u,hu,ru⟩:=afi O uc;rw[J]at st;refine wpAny_pyNext_items_item st j8 hu λa0 h1 kR a3 F2 hsz fG=>⟨.ref s.heap.objs.size,rfl,?_⟩;refine wpAny_letOwnedTupleGo_items a3 λh2 gj U=>?_;have BM:it<s.heap.objs.size:=bH st;have U:Heap.SameBut it h1 h2:=U;have I1:Inv X ad Z H { s with heap:=h2 }:=I.turned (t':=s.toks) (λb ob j e=>(U.2 b j).trans (fG b ob j e)) f0 f1 Y f4 f5;have hn:H s.heap.objs.size=none:=I.hok.fresh (aG _);have fp:=I.fpOk (H':=H) (aG _) hn;have tQ:h2.get? s.heap.objs.size=some { cls:=.type "tuple",data:=.seq #[a0,u] }:=(U.2 _ (kF BM)).trans F2;have I2:Inv X ad Z (ah H s.heap.objs.size (.tup [kV k,v])) { s with heap:=h2 }:=by
   refine I1.track hn I.sz fp.2.1 fp.2.2.2.2.1 fp.2.2.2.2.2 ?_;exact⟨by show 2<=sizeLine;decide,[a0,u],.cons (ae4 kR) (.cons ru .nil),_,tQ,rfl,0,rfl⟩
  refine⟨.ref s.heap.objs.size,_,I2,rfl,⟨k,v,_,uc,hn,rfl,rfl⟩,⟨a0,u,by rw[J];exact gj⟩,λb j=>?_⟩;have e:b=it:=by simpa using j
  subst e;rw[aW (cS BM)];exact f0
 done:=by
  intro X hP hw hK hc i ad s Z H E I hf st hg;subst hP hw hK;obtain⟨ok,G,st⟩:=st;obtain⟨hd,a6⟩:=hg;obtain⟨f0,f1,f2,Y,f4,f5⟩:=hf it (by simp);obtain⟨vs,O,j8,hS⟩:=PJ I.hok hd;have J:=O.length;rw[J]at st;exact wpAny_pyNext_items_end (I.ok.hd hc) st j8 (by rw[List.getElem?_eq_none_iff];omega) λh' eb=>⟨rfl,I.turned (t':=s.toks) (λb o j e=>eb b o j e) f0 f1 Y f4 f5⟩
 self:=λ_ _ _ _ _ a4 h=>a4.elim λok a5=>a5.elim λG st=>afk st h
theorem PE.weak{t:TE}(h:PE X e t):PE X e (λZ H Q=>∃j:VK,t Z H j/\∀v H,j v H->Q v H):=by
 intro ad s Z H Q I ⟨j,q,w⟩;exact L2.thn (h ad s Z H _ I q) λu U G=>aP G λv H1 z O J=>⟨v,H1,z,O,w _ _ J⟩
theorem PG.weak{g:TG}(h:PG X e g):PG X e (λx Z H Q=>∃j:St->Hp->Prop,g x Z H j/\∀Z H,j Z H->Q Z H):=by
 intro ad s Z H v u Q I r ⟨j,q,w⟩;exact L2.thn (h ad s Z H v u _ I r q) λ_ Y G=>G.elim λσ1 J=>J.elim λH1 O=>O.elim λz U=>⟨σ1,H1,z,w _ _ U⟩
theorem cg.weak{b:List Stmt}{t:TS}(h:cg X b t):cg X b (λD Z H=>∃z:Ends,t z Z H/\(∀Z H,z.nx Z H->D.nx Z H)/\(∀v H,z.rt v H->D.rt v H)/\(∀Z H,z.bk Z H->D.bk Z H)/\∀Z H,z.ct Z H->D.ct Z H):=by
 intro ad s Z H D I ⟨z,q,J,O,U,Y⟩;refine L2.thn (h ad s Z H z I q) λf s1 j=>?_;cases f with
 | next=>obtain⟨σ1,H1,G,j⟩:=j;exact⟨σ1,H1,G,J _ _ j⟩
 | ret v=>obtain⟨x,σ1,H1,G,r,j⟩:=j;exact⟨x,σ1,H1,G,r,O _ _ j⟩
 | brk=>obtain⟨σ1,H1,G,j⟩:=j;exact⟨σ1,H1,G,U _ _ j⟩
 | cont=>obtain⟨σ1,H1,G,j⟩:=j;exact⟨σ1,H1,G,Y _ _ j⟩
theorem afv{o:Expr}{vz apos cw:Pos}{td:TE}(ho:PE X o td)(tM:attributeBase o "items" X.env (eval o X.env)=eval o X.env:=by rfl)(tN:(apos.endLine == cw.line)=true:=by rfl) :
 PI X (.Tuple elts x1 vz) (.Call (.Attribute o "items" apos) [] [] cw) (λZ H R=>td Z H λx H1=>∃d kvs,x=.ref d/\H1 d=some (.dK kvs)/\∀ob,(∀o' u,X.H₀ d≠some (.frz o' u))->R (PH d kvs ob) (ah H1 d (.frz ob (.dK kvs)))):=by
 intro ad s Z H R I h;refine wpAny_Call_method0_late tM tN (thn (ho ad s Z H _ I h) λv j a1=>aP a1 λx H1 J r1 a2=>a2.elim λd a3=>a3.elim λkvs a4=>a4.elim λe a0=>a0.elim λG q=>?_);subst e;cases r1;obtain⟨z,hd,vs,a7,dd⟩:=j0 J.hok G;obtain⟨h1,h2⟩:=OC J (x:=.ref d) rfl (T:="dict") (.inr (.inr (.inl ⟨rfl,.inl ⟨kvs,G⟩⟩)));refine⟨"dict","dict.items",AO,awE,PySem.F.type_dict_items,h1,h2,EA rfl (PySem.evalArgs_none ?_)⟩;refine vi awE dd.typeIs PySem.F.entry_dict_items (PySem.F.args_dict_items_1 _) (meets_dict_items (cz X.prog X.w) d hd) ⟨⟨vs,dd⟩,?_⟩;have yx:=dd.push { cls:=.type "dict_items",data:=.fields #[.ref d] };obtain⟨ob,es,ep,qx,hc,U,rest⟩:=id yx;have j8:(j.heap.push { cls:=.type "dict_items",data:=.fields #[.ref d] }).DictAt (cz X.prog X.w) d vs ep:=⟨ob,es,qx,hc,U,rest⟩;have O:Inv X ad Z H1 { j with heap:=j.heap.push { cls:=.type "dict_items",data:=.fields #[.ref d] } }:=J.kept (t':=j.toks) λb o e=>cf _ e;refine wpAny_pyIter_items (s:={ j with heap:=j.heap.push { cls:=.type "dict_items",data:=.fields #[.ref d] } }) ⟨_,dN _ rfl,rfl,rfl⟩ j8 ?_;have a5:yw ob=ep:=by unfold yw;rw[U]
 have a6:=a7.length;have I3:Inv X ad Z H1 { j with heap:=(j.heap.push { cls:=.type "dict_items",data:=.fields #[.ref d] }).push { cls:=.type "dict_itemiterator",data:=.fields #[.none,.bool false,.ref d,.int 0 0,.int vs.length 0,.int ep 0,.none,.none] } }:=
  O.kept (t':=j.toks) λb o e=>cf _ e
 have Y:=O.hok.fresh (aG (j.heap.push { cls:=.type "dict_items",data:=.fields #[.ref d] }).objs.size);have hz:∀o' u,X.H₀ d≠some (.frz o' u):=λo' u hq=>by
  have:=J.base.frzs d o' u hq;rw[G]at this;cases this
 refine⟨_,[_],_,_,_,rfl,I3.freeze G (cf _ qx),afl d _ kvs ob,⟨.none,.none,?_⟩,λb hb=>?_,q ob hz⟩
 . show Heap.get? _ _=_;rw[a5,a6];exact dN _ rfl
 have e:b=(j.heap.push { cls:=.type "dict_items",data:=.fields #[.ref d] }).objs.size:=by simpa using hb
 subst e;refine O.fpOk (aG _) ?_;rw[aW (gC (aK G Y))];exact Y
def afC(td:TE)(g:TG)(tb:TS):TS:=λD Z H=>td Z H λx H1=>∃d kvs,x=.ref d/\H1 d=some (.dK kvs)/\∀ob,∃W:Nat->Nat->St->Hp->Prop,(∃m,W 0 m Z (ah H1 d (.frz ob (.dK kvs))))/\∀i m Z H,W i m Z H ->
 H d=some (.frz ob (.dK kvs))/\((kvs.length<=i/\D.nx Z (ah H d (.dK kvs)))\/(i<kvs.length/\∃N:St->Hp->Prop,(∀σ' H',N σ' H'->∃m',m'<m/\W (i+1) m' σ' H') /\
  ∀k v p,kvs[i]?=some (k,v)->H p=none->g (.ref p) Z (ah H p (.tup [kV k,v])) λσ2 H2=>
   tb { nx:=N,ct:=N,bk:=λσ' H'=>H' d=some (.frz ob (.dK kvs))/\D.nx σ' (ah H' d (.dK kvs)),rt:=λj H'=>H' d=some (.frz ob (.dK kvs))/\D.rt j (ah H' d (.dK kvs)) } σ2 H2))
theorem F3{o:Expr}{vz apos cw:Pos}{td:TE}{g:TG}{tb:TS}{body:List Stmt}(G:PassesOwn (model X.prog X.w) X.A X.env X.xe)(hc:X.calm=true)(ho:PE X o td)(hg:PG X (.Tuple elts x1 vz) g)(hb:cg X body tb)
 (tM:attributeBase o "items" X.env (eval o X.env)=eval o X.env:=by rfl) (tN:(apos.endLine == cw.line)=true:=by rfl) (hs:∀x,foldedSetIterable (.Call (.Attribute o "items" apos) [] [] cw) X.env x=pure x:=by intro _;rfl) :
 PS X (.For (.Tuple elts x1 vz) (.Call (.Attribute o "items" apos) [] [] cw) body [] pos) (afC td g tb):=by
 intro ad s Z H D I h;refine thn (eV (X:=X) G hc (afv ho.weak tM tN) hg.weak hb.weak hs ad s Z H
  { nx:=λσ' H'=>∃d kvs ob,H' d=some (.frz ob (.dK kvs))/\(∀o' u,X.H₀ d≠some (.frz o' u))/\D.nx σ' (ah H' d (.dK kvs)),rt:=λJ H'=>∃d kvs ob,H' d=some (.frz ob (.dK kvs))/\(∀o' u,X.H₀ d≠some (.frz o' u))/\D.rt J (ah H' d (.dK kvs)) } I ?_) λf s' q=>?_
 . refine⟨_,h,λx H1 U=>U.elim λd Y=>Y.elim λkvs a0=>a0.elim λe a1=>a1.elim λed q=>⟨d,kvs,e,ed,λob hz=>?_⟩⟩;obtain⟨W,w0,ab⟩:=q ob;refine⟨W,w0,λi m Z H hw=>?_⟩;obtain⟨hd,c | ⟨O,N,hN,step⟩⟩:=ab i m Z H hw
   . exact .inl ⟨⟨hd,c.1⟩,d,kvs,ob,hd,hz,c.2⟩
   refine .inr ⟨⟨hd,O⟩,N,hN,λx H' a2=>a2.elim λk a3=>a3.elim λv a4=>a4.elim λp a5=>a5.elim λhk a6=>a6.elim λG a7=>a7.elim λe eH=>?_⟩;subst e eH;exact⟨_,step k v p hk G,λσ2 H2 q2=>⟨_,q2,λ_ _ z=>z,λJ H' a8=>a8.elim λa b=>⟨d,kvs,ob,a,hz,b⟩,λσ' H' a9=>a9.elim λa b=>⟨d,kvs,ob,a,hz,b⟩,λ_ _ z=>z⟩⟩
 cases f with
 | next=>
  obtain⟨σ',H',j,d,kvs,ob,hd,hz,q⟩:=q;exact⟨σ',_,j.thaw hd hz,q⟩
 | ret v=>
  obtain⟨x,σ',H',j,r,d,kvs,ob,hd,hz,q⟩:=q;exact⟨x,σ',_,j.thaw hd hz,r,q⟩
 | brk=>obtain⟨_,_,_,q⟩:=q;exact q.elim
 | cont=>obtain⟨_,_,_,q⟩:=q;exact q.elim
theorem BN:Slot "set_iterator" "__next__" "set_iterator.__next__":=
 .of (owner:="set_iterator") (n:="__next__") (by rw[Ym,Yn];kernel_rfl) (by decide +kernel) (by decide +kernel) (by decide +kernel)
  (by first | exact .inl (by decide +kernel) | exact .inr (by decide +kernel)) (by rw[Yo];kernel_rfl)
theorem PL:Slot "set_iterator" "__iter__" "set_iterator.__iter__":=
 .of (owner:="set_iterator") (n:="__iter__") (by rw[Ym,Yn];kernel_rfl) (by decide +kernel) (by decide +kernel) (by decide +kernel)
  (by first | exact .inl (by decide +kernel) | exact .inr (by decide +kernel)) (by rw[Yo];kernel_rfl)
theorem afP:entryFor table "set_iterator.__next__"=some Builtin.«set_iterator.__next__»:=entryFor_of_tree (by kernel_rfl)
theorem afQ:entryFor table "set_iterator.__iter__"=some Builtin.«dict_keyiterator.__iter__»:=MM (id':="dict_keyiterator.__iter__") (by kernel_rfl) rfl (by decide +kernel) (by kernel_rfl)
theorem afR:entryFor table "set.__iter__"=some Builtin.«frozenset.__iter__»:=MM (id':="frozenset.__iter__") (by kernel_rfl) rfl (by decide +kernel) (by kernel_rfl)
theorem PM:Manifest.owners.lookup (String.ofList ['r','o','t','a','r','e','t','i','_','t','e','s'].reverse)=some Manifest.sig_set_iterator:=by kernel_rfl
theorem afS(a:Value):argsOk "set_iterator.__next__" ⟨[a],[]⟩:=by
 unfold argsOk;rw[signature?_of (id:="set_iterator.__next__") (n:=['_','_','t','x','e','n','_','_']) (o:=['r','o','t','a','r','e','t','i','_','t','e','s']) (by kernel_rfl) PM];kernel_rfl
theorem afT(a:Value):argsOk "set_iterator.__iter__" ⟨[a],[]⟩:=by
 unfold argsOk;rw[signature?_of (id:="set_iterator.__iter__") (n:=['_','_','r','e','t','i','_','_']) (o:=['r','o','t','a','r','e','t','i','_','t','e','s']) (by kernel_rfl) PM];kernel_rfl
section
variable {s:Shared}{a it:Addr}{ep:Nat}{t:SetTable}
theorem afU:typeLookup (.type "set") "__len__"=pure (some (.builtin "set.__len__")):=by rw[Ym,Yn];kernel_rfl
theorem afV{Q:Bool->Shared->Prop}(j:s.TypeIs (.ref a) "set")(h:Q false s):wpAny (model prog w) A (Builtin.List.listLengthHint (.ref a)) Q E s:=by
 unfold Builtin.List.listLengthHint;refine ae (AG j afU ?_);generalize G:("set.__len__":String)=J
 wp_delta
 rw[show splitId J=some ("set","__len__") from by subst G;decide +kernel];subst G;refine ae (nW (T:="set") (b:=true) j (by rw[Yo];kernel_rfl) ?_);refine Yp (λz=>absurd z (by decide)) (λ_=>?_);refine Yp (λ_=>?_) (λz=>absurd (by decide +kernel) z);refine ae (MN j ?_);exact ar h
end
section
theorem mj:PE X (.Dict [] [] pos) (λ_ H Q=>d8 H (.dK []) Q):=λad s Z H Q I h=>acz ad s Z H Q I h.at
theorem afW:PE X (.Dict [] [] pos) (λ_ H Q=>d8 H (.dT []) Q):=λad s Z H Q I h=>acA ad s Z H Q I h.at
theorem iV(K:Fg){f:Str}{ta:TE}(z:PE X e ta)(j:attributeBase e f X.env (eval e X.env)=eval e X.env)(h:X.K=K:=by rfl):PE X (.Attribute e f pos) (NZ K ta f):=h▸bK z j
def afX:V->Lv->Hp->VK->Prop:=λx vs H Q=>∃a b kvs j,x=.ref a/\vs=[.ref b]/\a≠b/\H a=some (.dK kvs)/\H b=some (.dK j)/\kvs.length+j.length<=sizeLine/\Q .non (ah H a (.dK (md kvs j)))
theorem afY:oI X "dict.update" afX:=by
 intro ad s Z H x xs v us Q I rx rs h;obtain⟨a,b,kvs,a2,rfl,rfl,jV,G,eb,J,q⟩:=h;cases rx;cases rs with
 | cons r1 r2=>
  cases r2;cases r1;obtain⟨z,hd,vs,U,dd⟩:=j0 I.hok G;obtain⟨z',kM,ws,O,gk⟩:=j0 I.hok eb;refine vi awF dd.typeIs PySem.F.entry_dict_update (PySem.F.args_dict_update_2 _ _) (meets_dict_update (cz X.prog X.w) a b jV kM) ⟨vs,ws,dd,gk,by rw[<-U.length,<-O.length];exact J,λh' j _ hs=>?_⟩;have he:∃q,h'.get? a=some q:=j.elim λq a1=>a1.elim λ_ Y=>Y.elim λ_ a0=>a0.elim λhq _=>⟨q,hq⟩;exact⟨.non,_,vB I (ob:=.dK (md kvs a2)) (by rw[G];exact True.intro) hs he (vC (b8 (FD _ _) J) hd (O.merge U) j),rfl,q⟩
theorem af2(x:Str):Str.empty++x=x:=by
 obtain⟨c⟩:=x;show(⟨#[]++c⟩:Str)=⟨c⟩;rw[Array.empty_append]
variable {e1 e2:Expr}{te t1 t2:TE}
inductive PP (Q:VK) (H1:Hp):V->Prop where
 | mk {y:Str} (_:y.length<=sizeLine) (_:Q (.str y) H1):PP Q H1 (.str y)
def af3(te:TE):TE:=λZ H Q=>te Z H λx H1=>PP Q H1 x
theorem yz(J:PE X e te):PE X (.FormattedValue e (-1) none pos) (af3 te):=by
 intro ad s Z H Q I h;refine FormattedValue_plain (thn (J ad s Z H _ I h) λv Y G=>aP G λx H1 z U j=>?_);obtain @⟨y,O,q⟩:=j;obtain⟨t,rfl⟩:=U;exact Yq (λt' tk=>⟨.str y,H1,z.tok _,⟨_,rfl⟩,q⟩) O
inductive PQ (t2:TE) (Z:St) (Q:VK) (H1:Hp):V->Prop where
 | mk {x:Str} (_:x.length<=sizeLine) (_:t2 Z H1 λb H2=>∃y,b=.str y/\x.length+y.length<=sizeLine/\Q (.str (x++y)) H2):PQ t2 Z Q H1 (.str x)
def af5(t1 t2:TE):TE:=λZ H Q=>t1 Z H λa H1=>PQ t2 Z Q H1 a
theorem qW(h1:PE X e1 t1)(h2:PE X e2 t2):PE X (.JoinedStr [e1,e2] pos) (af5 t1 t2):=by
 intro ad s Z H Q I h;refine JoinedStr_many (joinParts_cons (thn (h1 ad s Z H _ I h) λv j O=>aP O λa H1 G r1 z=>?_));obtain @⟨x,hx,q1⟩:=z;obtain⟨t,rfl⟩:=r1;show(Str.empty++x).length<=sizeLine/\wpAny _ _ (joinParts (Str.empty++x) (eval e2 X.env::evalEach [] X.env)) _ _ j;rw[af2];refine⟨hx,joinParts_cons (thn (h2 ad j Z H1 _ G q1) λv s2 U=>aP U λb H2 J r2 a0=>?_)⟩;obtain⟨y,Y,hl,q2⟩:=a0;subst Y;obtain⟨t',rfl⟩:=r2;have hz:(x++y).length<=sizeLine:=by rw[j6];exact hl
 exact⟨hz,joinParts_nil ⟨.str (x++y),H2,J.tok _,⟨_,rfl⟩,q2⟩ hz⟩
end
end
section
theorem yA{X:Cx}{st:Stmt}{j:List Stmt}{t u:TS}(h1:PS X st t)(h2:cg X j u):cg X (st::j) (λD Z H=>∃P:St->Hp->Prop,t { D with nx:=P } Z H/\∀σ' H',P σ' H'->u D σ' H'):=by
 intro ad s Z H D I ⟨P,a,b⟩;exact BD P h1 h2 ad s Z H D I ⟨a,b⟩
variable {t1 t2 t3 t4 t5 t6 t7:TS}{D:Ends}{Z:St}{H:Hp}{X:Cx}{w:World}{K:Fg}{tk:Tok}
theorem lq(h:let d:=D;let s:=Z;let j:=t2;ba t1 j d s H):ba t1 (t2) D Z H:=h
theorem jA(h:let d:=D;let s:=Z;let z:=t3;let j:=ba t2 z;ba t1 j d s H):ba t1 (ba t2 (t3)) D Z H:=h
theorem jB(h:let d:=D;let s:=Z;let G:=t4;let z:=ba t3 G;let j:=ba t2 z;ba t1 j d s H):ba t1 (ba t2 (ba t3 (t4))) D Z H:=h
theorem BO(h:let d:=D;let s:=Z;let J:=t5;let G:=ba t4 J;let z:=ba t3 G;let j:=ba t2 z;ba t1 j d s H):ba t1 (ba t2 (ba t3 (ba t4 (t5)))) D Z H:=h
theorem yB(h:let d:=D;let s:=Z;let O:=t6;let J:=ba t5 O;let G:=ba t4 J;let z:=ba t3 G;let j:=ba t2 z;ba t1 j d s H):ba t1 (ba t2 (ba t3 (ba t4 (ba t5 (t6))))) D Z H:=h
theorem af9(h:let d:=D;let s:=Z;let U:=t7;let O:=ba t6 U;let J:=ba t5 O;let G:=ba t4 J;let z:=ba t3 G;let j:=ba t2 z;ba t1 j d s H):ba t1 (ba t2 (ba t3 (ba t4 (ba t5 (ba t6 (t7)))))) D Z H:=h
theorem aga{j:TS}(h:let d:=D;let s:=Z;let u8:=j;let Y:=ba t7 u8;let U:=ba t6 Y;let O:=ba t5 U;let J:=ba t4 O;let G:=ba t3 J;let z:=ba t2 G;ba t1 z d s H):ba t1 (ba t2 (ba t3 (ba t4 (ba t5 (ba t6 (ba t7 (j))))))) D Z H:=h
theorem PR{j z:TS}(h:let d:=D;let s:=Z;let u9:=z;let u8:=ba j u9;let u7:=ba t7 u8;let Y:=ba t6 u7;let U:=ba t5 Y;let O:=ba t4 U;let J:=ba t3 O;let G:=ba t2 J;ba t1 G d s H):ba t1 (ba t2 (ba t3 (ba t4 (ba t5 (ba t6 (ba t7 (ba j (z)))))))) D Z H:=h
theorem qX{b:List PySem.Stmt}(h:let x:=X;let d:=D;∃t,cg x b t/\t d Z H):∃t,cg X b t/\t D Z H:=h
section
theorem aU{N P:Ls}{sc:Scope}(a:sc.kind=.function:=by rfl)(b:sc.isCoroutine=false:=by rfl)(c:sc.isGenerator=false:=by rfl)(d:N.Nodup:=by decide +kernel)(e:N.take P.length=P:=by rfl)(f:∀x∈P,sc.names.lookup x=some .local\/sc.names.lookup x=some .cell:=by decide +kernel)(g:∀y∈sc.names,y.2≠.free:=by decide +kernel):aN N P sc:=⟨a,b,c,d,e,f,g⟩
theorem dJ{own bq:Ls}{js:List Nat}{sc:Scope}(a:sc.kind=.function:=by rfl)(b:∀y∈sc.names,y.2≠.cell:=by decide +kernel)(c:∀y∈sc.names,y.2=.local->sc.names.lookup y.1=some .local:=by decide +kernel)(d:(own++bq).Nodup:=by decide +kernel)(e:∀y∈sc.names,y.2=.free->y.1∈bq:=by decide +kernel)(f:js.map (λj=>X.N[j]?)=bq.map some:=by rfl)(g:bq.map X.env.kindOf=bq.map λ_=>some NameKind.cell:=by rfl)(h:bq.map (λx=>(relabel sc X.env).names.lookup x)=bq.map λ_=>some NameKind.cell:=by rfl):kZ X own bq js sc:=⟨a,b,c,d,e,f,g,h⟩
theorem cn.okL{P:Program}{mg:Mv}{base:Heap}{x a_:Str}{st:Stmt}{f:Addr}{fd:Fy}{N ps:Ls}{k:Nat}{sp:Sp}(F:cn K x a_ st f fd)(S:aN N ps (av st))(z:∀(j:Value) (A:Around) (outer:List Env) (s:Shared) (H:Hp) (vs:Lv) (Q:VK) (E:XK),cq k (A.deeper (envOfC a_ (av st) s.heap.objs.size f j))->sp vs H Q E->let y:=(kS aJ P w K mg base N a_ (av st) f j A outer s H E).nox;let d:Ends:={ nx:=λ_ H'=>Q .non H',rt:=Q };∃t,cg y (cF st) t/\t d (start N vs) H)(len:∀vs H Q E,sp vs H Q E->vs.length=ps.length:=by intro _ _ _ _ h;(cases h;rfl)):aA P w K mg base aJ (k+1) f fd ps sp:=F.ok S len z
end
section
variable {a b c d:Expr}{ta tb tc td:TE}
theorem aq(j:PE X a ta)(z:starEach [a] X.env=(false,eval a X.env)::starEach [] X.env:=by rfl):PA X [a] (fT ta (fg)):=jm j eI z
theorem aI(j:PE X a ta)(z:PE X b tb)(G:starEach [a,b] X.env=(false,eval a X.env)::starEach [b] X.env:=by rfl)(J:starEach [b] X.env=(false,eval b X.env)::starEach [] X.env:=by rfl):PA X [a,b] (fT ta (fT tb (fg))):=jm j (jm z eI J) G
theorem dv(j:PE X a ta)(z:PE X b tb)(G:PE X c tc)(J:starEach [a,b,c] X.env=(false,eval a X.env)::starEach [b,c] X.env:=by rfl)(O:starEach [b,c] X.env=(false,eval b X.env)::starEach [c] X.env:=by rfl)(sc:starEach [c] X.env=(false,eval c X.env)::starEach [] X.env:=by rfl):PA X [a,b,c] (fT ta (fT tb (fT tc (fg)))):=jm j (jm z (jm G eI sc) O) J
theorem vN(j:PE X a ta)(z:PE X b tb)(G:PE X c tc)(hd:PE X d td)(J:starEach [a,b,c,d] X.env=(false,eval a X.env)::starEach [b,c,d] X.env:=by rfl)(O:starEach [b,c,d] X.env=(false,eval b X.env)::starEach [c,d] X.env:=by rfl)(sc:starEach [c,d] X.env=(false,eval c X.env)::starEach [d] X.env:=by rfl)(U:starEach [d] X.env=(false,eval d X.env)::starEach [] X.env:=by rfl):PA X [a,b,c,d] (fT ta (fT tb (fT tc (fT td fg)))):=jm j (jm z (jm G (jm hd eI U) sc) O) J
end
theorem bu{p:Prop}(h:let T:=p;T):p:=h
theorem ug{g:TG}{tb:TS}{E:Ends}{x:V}(h:let e:=E;let s:=Z;g x s H λσ2 H2=>tb e σ2 H2):g x Z H λσ2 H2=>tb E σ2 H2:=h
open PySem.W PySem.Builtin PySem.Builtin.ObjectAttr PySem.Builtin.Getset_descriptor
abbrev oU (a:Addr) (c:Value):HO:=.ext λh=>∃o,h.get? a=some o/\o.cls=c
theorem agb{P:Program}{h:Heap}{a:Addr}{c:Value}(e:∃o,h.get? a=some o/\o.cls=c):b9 P w H h a (oU a c):=by
 obtain⟨o,e1,e2⟩:=e;exact⟨⟨o,e1,e2⟩,⟨o,e1⟩,λh1 h2 z k=>by
  obtain⟨o',x,y⟩:=z;exact⟨o',k _ x,y⟩⟩
abbrev PU:Lw:=[.type "ValueError",.type "Exception",.type "BaseException",.type "object"]
structure uh(K:Fg)(C:Addr):Prop where
 exc:W.excIn K C PU "ValueError.__new__"=true
 ga:W.findIn K (.ref C) "__getattribute__"=some (some (.builtin "BaseException.__getattribute__"))
 gh:W.findIn K (.ref C) "__getattr__"=some none
 cls:W.findIn K (.ref C) "__class__"=some (some (.builtin "object.__class__"))
 spc:W.specialIn K (.builtin "object.__class__") "__get__"=some (some (.builtin "getset_descriptor.__get__"))
 tak:W.takesIn K (.builtin "object.__class__")=some true
 mro:W.mroIn K C (.type "object")=some true
 mrb:W.mroIn K C (.type "BaseException")=some true
structure lv(K:Fg)(C:Addr):Prop where
 ga:W.findIn K (.ref C) "__getattribute__"=some (some (.builtin "BaseException.__getattribute__"))
 gh:W.findIn K (.ref C) "__getattr__"=some none
 cls:W.findIn K (.ref C) "__class__"=some (some (.builtin "object.__class__"))
 spc:W.specialIn K (.builtin "object.__class__") "__get__"=some (some (.builtin "getset_descriptor.__get__"))
 tak:W.takesIn K (.builtin "object.__class__")=some true
 mro:W.mroIn K C (.type "object")=some true
 mrb:W.mroIn K C (.type "BaseException")=some true
theorem uh.c0{C:Addr}(x:uh K C):lv K C:=⟨x.ga,x.gh,x.cls,x.spc,x.tak,x.mro,x.mrb⟩
section
variable {D a:Addr}{M:Model}{h:Heap}
theorem lv.there(x:lv K D):∃cd,W.clsIn K D=some cd:=by
 have e:=x.mro;unfold W.mroIn at e;obtain⟨cd,q,_⟩:=Option.bind_eq_some_iff.mp e;exact⟨cd,q⟩
theorem lv.obj(x:lv K D):∃c d cd j,K.lookup D=some ⟨c,d,.cls cd,j⟩:=by
 obtain⟨cd,e⟩:=x.there;unfold W.clsIn at e;split at e
 . exact⟨_,_,_,_,‹_›⟩
 cases e
theorem BP(e:∃o,h.get? a=some o/\o.cls=.ref D):Looks M h (typeOf (.ref a)) (.ref D):=by
 obtain⟨o,e1,e2⟩:=e;exact e2▸(Looks.ld e1).andThen .now
end
section
variable {prog:Program}{A:Around}{E:VP}{s:Shared}{D a:Addr}
theorem agc{R:Result->Shared->Prop}{j:Value}(x:lv K D)(X:K.In s.heap)(p:∃o,s.heap.get? a=some o/\o.cls=.ref D)(q:R (.ok (.ret (.ref D))) s) :
 codeAny (model prog w) A (.call (.builtin "getset_descriptor.__get__") ⟨[.builtin "object.__class__",.ref a,j],[]⟩) R s:=by
 obtain⟨O,J,G,tk,os⟩:=s;have LT:=BP (M:=model prog w) p;have z:=looks_mroIn (M:=model prog w) X x.mro;refine Yr KF.slot_gs.plain KF.entry_gs
  (KF.slot_gs.check _ _ _ _ _ _ _ _ KF.type_class (KF.args_gs _ _ _) ?_)
 unfold Builtin.«getset_descriptor.__get__»;unfold descrGet;rw[dga_obj];refine ae (ar ?_);unfold descrGetter descrCheckInstance;unfold descrNameAndClass isInstance;simp only[KF.owner_class]
 repeat lk
 refine⟨Code.quiet_builtin _ (by decide +kernel),
  qo KF.entry_class ?_⟩
 unfold Builtin.«object.__class__»;unfold shownTypeOf
 repeat lk
 exact q
theorem agd(x:lv K D){Q:PySem.Fin->Shared->Prop}(X:K.In s.heap)(p:∃o,s.heap.get? a=some o/\o.cls=.ref D)(q:Q (.done (.ret (.ref D))) s) :
 wpAny (model prog w) A (Builtin.«object.__getattribute__» ⟨[.ref a,.str "__class__" tk],[]⟩) Q E s:=by
 obtain⟨j,J,G,tt,os⟩:=s;have LT:=BP (M:=model prog w) p;have z:Looks (model prog w) j (find (.ref a) (.ref D) "__class__") (.bind (.builtin "getset_descriptor.__get__") (.builtin "object.__class__")):=
  (Ys X x.cls).andThen ((looks_specialIn X x.spc).andThen ((show Looks (model prog w) j (dataDescriptor? (some (.builtin "object.__class__")) (some (.builtin "getset_descriptor.__get__"))) (some (.builtin "getset_descriptor.__get__",.builtin "object.__class__")) from (looks_takesIn X x.tak).andThen .now).andThen (Looks.tag .now)))
 unfold Builtin.«object.__getattribute__»
 repeat (any_goals (first | assumption | with_reducible refine LT.at ?_ | with_reducible refine z.at ?_ | wp_step))
 refine agc x X p ?_
 repeat (any_goals (first | assumption | wp_step))
theorem age(x:lv K D){j:Value}{Q:Unit->Shared->Prop}(X:K.In s.heap)(p:∃o,s.heap.get? a=some o/\o.cls=.ref D)(q:Q () s) :
 wpAny (model prog w) A (checkBuiltinCall "BaseException.__getattribute__" ⟨[.ref a,j],[]⟩) Q E s:=by
 obtain⟨hh,gg,Y,tt,os⟩:=s;have J:builtinKind "BaseException.__getattribute__"=some .slot:=by decide +kernel
 have U:splitId "BaseException.__getattribute__"=some ("BaseException","__getattribute__"):=by decide +kernel
 have z:=looks_mroIn (M:=model prog w) X x.mrb;obtain⟨o,O,G⟩:=id p;have ha:=F.args_bexc_ga (.ref a) j;simp only[checkBuiltinCall,J,U];refine ae ?_;unfold isInstance
 repeat (first | (with_reducible refine wpAny_loadPart_at O ?_;rw[G]) | with_reducible refine z.at ?_ | wp_step)
 exact q
theorem agf(x:lv K D){R:Result->Shared->Prop}(X:K.In s.heap)(p:∃o,s.heap.get? a=some o/\o.cls=.ref D)(q:R (.ok (.ret (.ref D))) s) :
 codeAny (model prog w) A (.call (.builtin "BaseException.__getattribute__") ⟨[.ref a,.str "__class__" tk],[]⟩) R s:=
 Yr F.excAttr_ValueError.ga.plain F.entry_bexc_ga (age x X p (agd x X p q))
theorem agg(x:lv K D){Q:VP}(X:K.In s.heap)(p:∃o,s.heap.get? a=some o/\o.cls=.ref D)(q:Q (.ref D) s) :
 wpAny (model prog w) A (getAttrBy (.ref a) (.str "__class__" tk) false) Q E s:=by
 obtain⟨hh,gg,U,tt,os⟩:=s;have LT:=BP (M:=model prog w) p;have j:=Ys (M:=model prog w) X x.ga;have z:=Ys (M:=model prog w) X x.gh;have Y:=F.excAttr_ValueError.ga.bind (.ref a);have J:(false && onTheHeap (Value.builtin "BaseException.__getattribute__"))=false:=rfl;have G:(Value.builtin "BaseException.__getattribute__" == Value.builtin "object.__getattribute__")=false:=by decide +kernel
 have O:(onTheHeap (Value.ref D) && Value.builtin "BaseException.__getattribute__" == Value.builtin "object.__getattribute__")=false:=by rw[G];rfl
 repeat (any_goals (first | assumption | with_reducible refine LT.at ?_ | with_reducible refine j.at ?_ | with_reducible refine z.at ?_ | wp_step))
 refine agf x X p ?_
 repeat (any_goals (first | assumption | wp_step))
theorem agh(x:lv K D){Q:Option Value->Shared->Prop}(X:K.In s.heap)(p:∃o,s.heap.get? a=some o/\o.cls=.ref D)(q:Q (some (.ref D)) { s with toks:=s.toks+1 }) :
 wpAny (model prog w) A (getAttr? (.ref a) "__class__") Q E s:=by
 obtain⟨G,z,j,tt,os⟩:=s;unfold getAttr?;refine ae (wpAny_mkText ?_);unfold getAttrBy?;refine ae (wpAny_attempt (agg x X p ?_));exact ar q
theorem PZ(x:lv K D):W.KitX K (.ref a) (.ref D) (λh=>∃o,h.get? a=some o/\o.cls=.ref D) where
 ty:=λ_ _ _ p=>BP p
 it:=λM h X _=>by
  obtain⟨c,d,cd,z,e⟩:=x.obj;intro J U O s' k q;unfold isType loadHead;exact ae (wpAny_loadPart (k _ _ (X _ _ e)) (ar q))
 ne:=λh G dd b_ n z X e=>by
  obtain⟨c,d,cd,Y,j⟩:=x.obj;refine ql.mpr λq=>?_;obtain rfl:D=G:=Value.ref.inj (jR.mp q);cases (X _ _ j).symm.trans e
 ca:=λX p q=>agh x X p q
end
end
section
open PySem.W
variable {P:Program}{w:World}{h:Heap}{a C:Addr}{ad:Po}{s:Shared}{x:Str}{pos:Pos}
theorem b9.obj{H:Hp}{o:HO}(x:b9 P w H h a o):∃u,h.get? a=some u:=by
 cases o with
 | lst xs=>obtain⟨_,_,_,_,e⟩:=x;exact⟨_,e⟩
 | tup xs=>obtain⟨_,_,_,ob,e,_⟩:=x;exact⟨_,e⟩
 | dK kvs=>obtain⟨_,_,_,_,o,_,_,e,_⟩:=x;exact⟨_,e⟩
 | dT kvs=>obtain⟨_,_,_,_,o,_,_,e,_⟩:=x;exact⟨_,e⟩
 | set S n=>obtain⟨o,_,_,_,e,_⟩:=x;exact⟨_,e⟩
 | ins C dx fs=>obtain⟨_,_,_,e,_⟩:=x;exact⟨_,e⟩
 | own y=>obtain⟨_,e⟩:=x;exact⟨_,e⟩
 | xd fs=>obtain⟨_,⟨_,_,_,e,_⟩,_⟩:=x;exact⟨_,e⟩
 | rng lo hi=>obtain⟨_,_,_,e⟩:=x;exact⟨_,e⟩
 | frz ob u=>obtain⟨e,_⟩:=x;exact⟨_,e⟩
 | tbl ps=>exact⟨_,(show h.get? a=some _ from x)⟩
 | met f y=>exact⟨_,(show h.get? a=some _ from x)⟩
 | ext φ=>obtain⟨_,⟨_,e⟩,_⟩:=x;exact⟨_,e⟩
structure mn(l:List Env)(B:Heap)(H:Hp)(h0 h h':Heap):Prop where
 big:∀b o,h.get? b=some o->((H b).isSome=true\/∃o',h0.get? b=some o')->b∉cJ l->B.get? b=some o
 stay:B.StaysIn h'
 slots:∀b o,h.get? b=some o->b∈cJ l->∃sl,h'.get? b=some { o with slots:=sl }
section
variable {l:List Env}{B:Heap}{H H0:Hp}{h0 h' F4:Heap}
theorem mn.at(f:mn l B H h0 h h'){b:Addr}{o:Obj}(e:h.get? b=some o)(t:(H b).isSome=true\/∃o',h0.get? b=some o')(n:b∉cJ l):h'.get? b=some o:=f.stay _ _ (f.big b o e t n)
theorem mn.hok(f:mn l B H h0 h h')(ok:cp P w H h)(G:∀b∈cJ l,H b=none):cp P w H h':=λb o e=>by
 have j:∀c u,H c=some u->c∉cJ l:=λc u q z=>by rw[G c z]at q;cases q
 refine(ok b o e).stay (λc u hc q=>?_) (λ_ q=>q) λ_ _ q=>q
 rcases hc with rfl | hc
 . exact f.at q (.inl (by rw[e];rfl)) (j _ _ e)
 exact f.at q (.inl (by rw[hc];rfl)) (j _ _ hc)
theorem mn.un{fs:List Addr}(f:mn l B H h0 h h')(u:Un fs [] H0 H h0 h)(hs:∀b∈cJ l,b∈fs\/h0.get? b=none)(O:∀b∈fs,b∈cJ l):Un fs [] H0 H h0 h' where
 keep:=λb o q n j G=>f.at (u.keep b o q n j G) (.inr ⟨o,q⟩) λz=>by
  rcases hs b z with y | y
  . exact j y
  rw[y]at q;cases q
 slot:=λb o q n j G=>by
  obtain⟨Y,e⟩:=u.slot b o q n j G;obtain⟨U,J⟩:=f.slots b _ e (O b j);exact⟨U,J⟩
 free:=u.free
 there:=λb o q G=>by
  obtain⟨o',e⟩:=u.there b o q G
  by_cases j:b∈cJ l
  . obtain⟨Y,J⟩:=f.slots b _ e j;exact⟨_,J⟩
  exact⟨o',f.at e (.inr ⟨o,q⟩) j⟩
 tups:=u.tups
 frzs:=u.frzs
 tbls:=u.tbls
theorem mn.on(f:mn l B H h0 h h')(st:B.StaysIn F4)(O:h'.UpToSlots F4)(z:∀b o,h.get? b=some o->b∈cJ l->∀vs,o.data≠.fields vs):mn l B H h0 h F4:=⟨f.big,st,λb o e j=>by
 obtain⟨U,q⟩:=f.slots b o e j;obtain⟨J,G⟩:=O b _ q (z b o e j);exact⟨J,G⟩⟩
end
def mo(P:Program)(w:World):ib:=λouter H s E e s'=>∃(a:Addr) (c:Value) (H':Hp) (B:Heap) (j:Value),e=.ref a/\s'.os=s.os/\AllBare s'.gens/\Un (cJ outer) [] H H' s.heap s'.heap/\cp P w H' s'.heap/\s.heap.get? a=none /\
 Heap.FlyingW B outer a c j s'.heap/\(∀b o,s'.heap.get? b=some o->((H' b).isSome=true\/∃o',s.heap.get? b=some o')->b∉cJ outer->B.get? b=some o)/\E c none H'
section
variable {X:Cx}{Z:St}{H:Hp}{E:XK}
theorem Inv.nofld(I:Inv X ad Z H s){b:Addr}(j:b∈cJ X.stack):∃o,s.heap.get? b=some o/\∀vs,o.data≠.fields vs:=(I.stack.mem j).2
theorem P1{B h':Heap}{c U:Value}{g':Array GenState}{d':Drawn}{t':Nat}(I:Inv X ad Z H s)(hex:X.ex=[])(dA:X.stack=X.env::X.outer)(ui:X.env.frame=some X.env.locals)(f:mn X.stack B H X.s₀.heap s.heap h')(na:X.s₀.heap.get? a=none)
 (fl:Heap.FlyingW B X.outer a c U h') (hg:AllBare g') (e:E c none H):mo X.prog X.w X.outer X.H₀ X.s₀ E (.ref a) { s with heap:=h',gens:=g',drawn:=d',toks:=t' }:=by
 have sub:∀b∈cJ X.outer,b∈cJ X.stack:=λb G=>by
  rw[dA];unfold cJ at G ⊢;rw[Et,ui];exact bY _ G
 have a1:∀b∈cJ X.stack,b∈cJ X.outer\/X.s₀.heap.get? b=none:=λb G=>by
  rcases bc.mp (I.stkSub b G) with z | z
  . rw[z];exact .inr (Heap.get?_none_of_le I.ok.above)
  exact .inl z
 have O:=I.base;rw[hex]at O;refine⟨a,c,H,B,U,rfl,I.os,hg,f.un O a1 sub,f.hok I.hok I.stkFree,na,fl,λb o q t nb=>?_,e⟩;have q:h'.get? b=some o:=q;have F5:b∉cJ X.stack\/X.s₀.heap.get? b=none:=by
  by_cases z:b∈cJ X.stack
  . rcases a1 b z with y | y
    . exact absurd y nb
    exact .inr y
  exact .inl z
 have tr:∀j,s.heap.get? b=some j->b∉cJ X.stack->B.get? b=some o:=λj e2 z=>by
  have:=f.big b j e2 t z;have Y:=f.stay _ _ this;rw[q]at Y;cases Y;exact this
 rcases t with t | ⟨o',t⟩
 . obtain⟨u,J⟩:=Ey.mp t;obtain⟨j,e2⟩:=(I.hok b u J).obj;exact tr j e2 λz=>by rw[I.stkFree b z]at J;cases J
 obtain⟨j,e2⟩:=O.there b o' t (by simp);refine tr j e2 λz=>?_
 rcases F5 with y | y
 . exact y z
 rw[y]at t;cases t
abbrev qZ (P:Program) (w:World) (K:Fg) (mg:Mv) (base:Heap) (N:Ls) (a_:Str) (scope:Scope) (f:Addr) (cd:Value) (A:Around) (outer:List Env) (s:Shared) (H:Hp) (E:XK):Cx:=kS (mo P w) P w K mg base N a_ scope f cd A outer s H E
end
section
variable {K:Fg}{mg:Mv}{base:Heap}{N:Ls}{a_:Str}{scope:Scope}{f:Addr}{cd:Value}{A:Around}{outer:List Env}{s0:Shared}{H0:Hp}{E:XK}
theorem F6:lY (mo P w) (qZ P w K mg base N a_ scope f cd A outer s0 H0 E) E:=by
 intro ad Z H s e s' I h;obtain⟨a,c,H',B,a0,rfl,os,j,un,hok,Y,fl,big,q⟩:=h;have J:=I.call' (ch:=[]) os un hok j (λb z=>nomatch z);refine wpAny_leaves_onW (L:=(envOfC a_ scope s0.heap.objs.size f cd).locals) I.ok.frames rfl fl λh' x1 x2=>?_;obtain⟨hh,g,d,t,Bo⟩:=s';have G:s0.heap.get? a=none:=by
  cases z:s0.heap.get? a with
  | none=>rfl
  | some o=>
   obtain⟨o',y⟩:=I.base.there a o z (λz=>nomatch z);rw[Y]at y;cases y
 exact P1 (g':=g) (d':=d) (t':=t) J rfl rfl rfl ⟨λb o e t nb=>big b o e (t.imp id λO=>O.elim λo' z=>I.base.there b o' z (λz=>nomatch z)) nb,x1.1,λb o e U=>by
  obtain⟨o1,e1,n1⟩:=J.nofld U;rw[e]at e1;cases e1;exact x2 b o e n1⟩ G x1 j q
theorem agj(X:K.In h)(x:uh K C):∃bm O nm q bs hdct sn sub ab col dd k0 k1 k2 k3 k5 mN,h.get? C=some (excClassObj nm q C O bs bm hdct sn sub ab col dd k0 k1 k2 k3 k5 "ValueError.__new__")/\h.Ns O mN/\mN "__init__"=none/\OwnTail h PU bm:=by
 have q:=x.exc;unfold excIn at q;split at q
 case h_2=>cases q
 rename_i dd U sl ho;split at q
 case h_2=>cases q
 rename_i C' bm k0 k1 k2 k3 n k5 z hs;rw[im,im,im,im,im]at q;obtain⟨⟨⟨⟨⟨G,J⟩,j⟩,z4⟩,Y⟩,z6⟩:=q;have G:=jR.mp G;have J:=jR.mp J;have j:U.hasDel=false:=by simpa using j
 subst G J;obtain⟨nm,bs,a1,ns,qn,hd,sn,sub,ab,col,a0⟩:=U;have z:a1=.ref C'::bm:=z;have j:a0=false:=j;subst z j;obtain⟨a2⟩:=sl;have hs:a2=[k0,k1,k2,k3,some (.builtin "ValueError.__new__"),k5]:=hs;subst hs;exact⟨bm,ns,nm,qn,bs,hd,sn,sub,ab,col,dd,k0,k1,k2,k3,k5,_,X _ _ ho,.of_isNs (isNs_of_in X Y),nsMap_none_of_in X Y (jR.mp z6),tail_of_in X z4⟩
theorem F8{np cw:Pos}{e:Expr}{te:TE}(xc:uh K C)(hm:mg x=some (.ref C))(he:PE (qZ P w K mg base N a_ scope f cd A outer s0 H0 E) e te)(hg:Gl (qZ P w K mg base N a_ scope f cd A outer s0 H0 E) x:=by rfl)
 (hs:starEach [e] (envOfC a_ scope s0.heap.objs.size f cd)=[(false,eval e (envOfC a_ scope s0.heap.objs.size f cd))]:=by rfl) (hd:(x == ("__debug__":Str))=false:=by decide) :
 PS (qZ P w K mg base N a_ scope f cd A outer s0 H0 E) (.Raise (some (.Call (.Name x np) [e] [] cw)) none pos) (λ_ Z H=>te Z H λv H1=>[v].length<=1/\E (.ref C) none H1):=by
 intro ad s Z H D I h;obtain⟨bm,Nn,nm,q,bs,hdct,sn,sub,ab,col,dd,k0,k1,k2,k3,k5,mN,hC,hN,Y,T⟩:=agj I.mod.kin xc;have hh:(A.deeper (envOfC a_ scope s0.heap.objs.size f cd)).handled=none:=I.ok.hd rfl;refine wpAny_Raise_call_subT (C:=C) (nm:=nm) (q:=q) (N:=Nn) (bs:=bs) (bm:=bm) (hdct:=hdct) (sn:=sn) (sub:=sub) (ab:=ab) (col:=col) (dd:=dd) (k0:=k0) (k1:=k1) (k2:=k2) (k3:=k3) (k5:=k5)
  awG (mN:=mN) (T.hasType awG.hasBase) hh (by show(backTo cw (starEach [e] (envOfC a_ scope s0.heap.objs.size f cd))).any (·.1)=false;rw[hs];rfl) Y (vw I hg hm ⟨rfl,?_⟩ hd)
 have ha:PA (qZ P w K mg base N a_ scope f cd A outer s0 H0 E) [e] (fT te fg):=jm he eI hs;have J:=ha cw ad s Z H (λvs H1=>vs.length<=1/\E (.ref C) none H1) I h;have J:wpAny (model P w) (A.deeper (envOfC a_ scope s0.heap.objs.size f cd)) (spliced (backTo cw (starEach [e] (envOfC a_ scope s0.heap.objs.size f cd)))) (AP (qZ P w K mg base N a_ scope f cd A outer s0 H0 E) ad Z (λvs H1=>vs.length<=1/\E (.ref C) none H1)) (qZ P w K mg base N a_ scope f cd A outer s0 H0 E).xe s:=J;show wpAny (model P w) (A.deeper (envOfC a_ scope s0.heap.objs.size f cd)) (evalArgs (.ref C) true (backTo cw (starEach [e] (envOfC a_ scope s0.heap.objs.size f cd))) []) _ _ s;rw[hs]at J ⊢;refine EB (eM J (λus G z=>?_) λ_ _ y=>y);obtain⟨vs,H1,j,rv,l1,q1⟩:=z;have hl:us.length<=sizeLine:=by
  rw[<-rv.length];exact b8 l1 (by decide)
 refine⟨rfl,hl,j.bk _ _ hC,hN.keeps j.bk,T.keeps j.bk,λh' a U=>?_⟩;have F7:s0.heap.get? a=none:=by
  cases z:s0.heap.get? a with
  | none=>rfl
  | some o=>
   obtain⟨o',y⟩:=j.base.there a o z (λz=>nomatch z);rw[U.new]at y;cases y
 refine wpAny_leaves_madeW (base:=hideAll G.heap (cJ (envOfC a_ scope s0.heap.objs.size f cd::outer))) (L:=(envOfC a_ scope s0.heap.objs.size f cd).locals) (h:=G.heap) j.ok.frames rfl (λb o z=>of_hideAll _ z)
  (funFrames_hide j.stack λenv a0 b O=>Mx.mpr ⟨env,a0,O⟩) U λh2 t x1 x2 x3 x4=>?_
 refine P1 (g':=G.gens) (d':=G.drawn) (t':=G.toks) j rfl rfl rfl ⟨λb o z _ nb=>hideAll_get _ z nb,x1.1,λb o z O=>?_⟩ F7 x1 j.bare q1;obtain⟨o1,e1,n1⟩:=j.nofld O;rw[z]at e1;cases e1;exact x4 b o (U.keeps _ _ z) n1
end
section
variable {X:Cx}{Z:St}{H:Hp}
theorem BR{M:Model}{A:Around}{E:VP}{i:Nat}{Q:Unit->Shared->Prop}(I:Inv X ad Z H s)(hN:X.N.Nodup)(hi:X.N[i]?=some x)(hk:X.env.kindOf x=some .local)
 (h:∀s',Inv X ad (Z.set i none) H s'->Q () s'):wpAny M A (do bindName X.env x .none;unbindBehindTheSuite X.env x pos) Q E s:=by
 obtain⟨m,U,hl⟩:=id I.loc;have EU:(X.env.scope.kind == .class || (X.env.scope.kind == .module && X.env.locals != X.env.globals))=false:=by rw[I.ok.kind];rfl
 have cne:=I.cne;refine wpAny_nameGoes_keeps hk U EU λh' v gP hs=>?_;obtain⟨oL,_,_,mL,_⟩:=id U;have old:∀{b:Addr}{o:Obj},X.s₀.heap.get? b=some o->b≠X.env.locals:=λe=>cS (gB (bH e) I.ok.above);refine h _ ⟨I.ok,I.os,I.bare,⟨λb o e n J G=>(hs.2 b (old e)).trans (I.base.keep b o e n J G),λb o e n J G=>?_,I.base.free,λb o e G=>?_,I.base.tups,I.base.frzs,I.base.tbls⟩,⟨_,gP,λj y v' e1 e2 e3=>?_⟩,λy c e=>?_,I.free,I.freeC,λp hp=>?_,λb ob e=>?_,by simpa using I.len⟩
 . obtain⟨sl,e1⟩:=I.base.slot b o e n J G;exact⟨sl,(hs.2 b (old e)).trans e1⟩
 . obtain⟨o',e1⟩:=I.base.there b o e G;exact⟨o',(hs.2 b (old e)).trans e1⟩
 . by_cases O:j=i
   . subst O;have A8:j<Z.length:=by rw[I.len];exact(cT.mp hi).1
     rw[XV A8]at e2;cases e2
   rw[XW (gC O)]at e2;obtain⟨u',r',q⟩:=hl j y v' e1 e2 e3;refine⟨u',r',?_⟩
   rcases q with⟨k,e⟩ | ⟨k,c,e,z⟩
   . have ne:y≠x:=λe=>O (ET hN e1 (e▸hi));exact .inl ⟨k,by simp[ne,e]⟩
   exact .inr ⟨k,c,e,z.sameBut hs (cne y c e)⟩
 . obtain⟨Y,z⟩:=I.cell y c e;exact⟨Y,z.sameBut hs (cne y c e)⟩
 . obtain⟨e,n,ne,nf,d⟩:=I.pin p hp;exact⟨(hs.2 p.1 ne).trans e,n,ne,nf,d⟩
 refine(I.hok b ob e).stay (λc Y hc q=>(hs.2 c ?_).trans q) (λ_ q=>q) λ_ _ q=>q;rintro rfl
 rcases hc with rfl | hc
 . rw[I.free]at e;cases e
 rw[I.free]at hc;cases hc
abbrev Cx.tr (X:Cx) (XE:VP) (pn:Po):Cx:={ X with xe:=XE,pn:=X.pn++pn }
abbrev Cx.exs (X:Cx) (a:Addr):Cx:={ X with A:=X.A.mark (some (.ref a)),calm:=false,xe:=λ_ _=>False }
theorem Inv.tr(I:Inv X ad Z H s)(j:VP):Inv (X.tr j ad) [] Z H s:=
 ⟨⟨I.ok.mod,I.ok.kind,I.ok.glob,I.ok.blt,I.ok.above,I.ok.inj,I.ok.has,I.ok.cab,I.ok.hd,I.ok.frames,I.ok.stk,I.ok.exf,I.ok.bs,I.ok.bsz,I.ok.noex,I.ok.exfs,I.ok.funs,I.ok.frf⟩,I.os,I.bare,I.base,I.loc,I.cell,I.free,I.freeC,λp z=>I.pin p (by simpa using z),I.hok,I.len⟩
theorem Inv.untr{j:VP}{ps:Po}(I:Inv (X.tr j ad) ps Z H s):Inv X ad Z H s:=
 ⟨⟨I.ok.mod,I.ok.kind,I.ok.glob,I.ok.blt,I.ok.above,I.ok.inj,I.ok.has,I.ok.cab,I.ok.hd,I.ok.frames,I.ok.stk,I.ok.exf,I.ok.bs,I.ok.bsz,I.ok.noex,I.ok.exfs,I.ok.funs,I.ok.frf⟩,I.os,I.bare,I.base,I.loc,I.cell,I.free,I.freeC,λp z=>I.pin p (xD _ z),I.hok,I.len⟩
theorem Inv.exs(I:Inv X ad Z H s)(a:Addr):Inv (X.exs a) ad Z H s:=
 ⟨⟨I.ok.mod,I.ok.kind,I.ok.glob,I.ok.blt,I.ok.above,I.ok.inj,I.ok.has,I.ok.cab,λz=>(nomatch z),I.ok.frames,I.ok.stk,I.ok.exf,I.ok.bs,I.ok.bsz,I.ok.noex,I.ok.exfs,I.ok.funs,I.ok.frf⟩,I.os,I.bare,I.base,I.loc,I.cell,I.free,I.freeC,I.pin,I.hok,I.len⟩
theorem Inv.unexs(ok:X.Ok)(I:Inv (X.exs a) ad Z H s):Inv X ad Z H s:=⟨ok,I.os,I.bare,I.base,I.loc,I.cell,I.free,I.freeC,I.pin,I.hok,I.len⟩
theorem SP.untr{j:VP}{ps:Po}{D:Ends}{f:Flow}{s':Shared}(h:SP (X.tr j ad) ps D f s'):SP X ad D f s':=by
 cases f with
 | next=>obtain⟨σ',H',I,q⟩:=h;exact⟨σ',H',I.untr,q⟩
 | brk=>obtain⟨σ',H',I,q⟩:=h;exact⟨σ',H',I.untr,q⟩
 | cont=>obtain⟨σ',H',I,q⟩:=h;exact⟨σ',H',I.untr,q⟩
 | ret u=>obtain⟨v,σ',H',I,r,q⟩:=h;exact⟨v,σ',H',I.untr,r,q⟩
end
def F9(CX:ib)(X:Cx)(E:St->XK):Prop:=∀(ad:Po) (Z:St) (H:Hp) (s:Shared) (e:Value) (s':Shared),Inv X ad Z H s->CX X.stack H s (E Z) e s'->X.xe e s'
section
variable {X:Cx}{CX:ib}{k:Nat}{f:Addr}{fd:Fy}{ps:Ls}{sp:Sp}{de:Lv}{ds:Lw}{E:St->XK}{m:Str}{p apos:Pos}{e o:Expr}{es:List Expr}{ta:TE}{t:TA}
theorem agm{Z:St}{H:Hp}{Q:VK}{us:Lw}{vs:Lv}(F:aA X.prog X.w X.K X.mg X.base CX k f fd ps sp)(O:cq k X.A)(G:Binds X.K fd ps ds)(hd:aY de ds)(U:F9 CX X E)
 (I:Inv X ad Z H s) (r:aY vs us) (h:sp (vs++de) H Q (E Z)):wpAny (model X.prog X.w) X.A (call (.ref f) us) (EP X ad Z Q) X.xe s:=by
 have z:aY (vs++de) (us++ds):=r.append hd;have J:(us++ds).length=ps.length:=by rw[<-z.length];exact F.len _ _ _ _ h
 refine Ex (qe (F.run X.A X.stack s H ⟨us,[]⟩ (us++ds) (vs++de) Q (E Z) O I.env0 (G s us I.kIn J) z h) λr s' j=>?_);cases r with
 | error e=>exact U ad Z H s e s' I j
 | ok fl=>
  cases fl with
  | ret u=>exact I.after j
  | next=>exact False.elim j
  | brk=>exact False.elim j
  | cont=>exact False.elim j
def agn(C:Addr)(m:Str)(sp:Sp)(de:Lv)(E:St->XK)(ta:TE)(t:TA):TE:=λZ H Q=>Fn C m sp de (E Z) ta t Z H Q
theorem BS{pl:Sem Bool}(he:PE X o ta)(c:iO X.K C)(G:gF X.K C m f)(F:aA X.prog X.w X.K X.mg X.base CX k f fd ps sp)(hr:cq k X.A)(hb:Binds X.K fd ps ds)(hd:aY de ds)(hx:F9 CX X E)(ha:PA X (e::es) t)
 (Y:starEach (e::es) X.env=(false,eval e X.env)::starEach es X.env:=by rfl) (dP:(backTo pos (starEach es X.env)).any (·.1)=false:=by rfl)
 (ht:eval (.Call (.Attribute o m apos) (e::es) [] pos) X.env=(do
  let J <-eval o X.env
  standAt apos.atName
  let (f,first) <-holding [J] (getMethod J m pl)
  callWith pos f first (backTo pos (starEach (e::es) X.env)) (backToKw pos (keywordEach [] X.env))):=by rfl) :
 PE X (.Call (.Attribute o m apos) (e::es) [] pos) (agn C m sp de E ta t):=by
 intro ad s Z H Q I h;refine XZ (pl:=pl) (thn (he ad s Z H _ I h) λu s1 O=>aP O λx H1 j rx zz=>?_) ht;obtain @⟨a,dx,fs,ea,l,q⟩:=zz;obtain rfl:u=Value.ref a:=rx;refine Fk j ea c G l ?_;refine Mz (first:=[.ref a]) (h₀:=X.base) I.ok.mod.kin G.kp (thn (ha pos ad s1 Z H1 _ j q) λus s2 U=>aP U λvs H2 z r q2=>⟨z.kIn,?_⟩) Y dP;exact agm (us:=.ref a::us) (vs:=.ref a::vs) F hr hb hd hx z (.cons rfl r) q2
end
section
variable {X:Cx}
def P4(K:Fg)(M:Addr)(i:Nat)(j:TS)(D:Ends):St->XK:=λZ c _ H=>exmOne K c (.ref M)=some true/\∀a,H a=none ->
 j { nx:=λσ2 H2=>D.nx (σ2.set i none) H2,rt:=D.rt,bk:=λσ2 H2=>D.bk (σ2.set i none) H2,ct:=λσ2 H2=>D.ct (σ2.set i none) H2 } (Z.set i (some (.ref a))) (ah H a (oU a c))
theorem agq{i:Nat}{M:Addr}{n:Str}{body:List Stmt}{b0:Stmt}{Ga:List Stmt}{np q5:Pos}{tb:(St->XK)->TS}{ts:TS}(nd:X.N.Nodup)(hi:X.N[i]?=some n)(hl:X.env.kindOf n=some .local)
 (dA:X.stack=X.env::X.outer) (ui:X.env.frame=some X.env.locals) (hm:X.mg x=some (.ref M)) (hg:Gl X x)
 (G:∀XE pn E,F9 (mo X.prog X.w) (X.tr XE pn) E->cg (X.tr XE pn) body (tb E)) (hs:∀a,cg (X.exs a) (b0::Ga) ts) (ip:(x == ("__debug__":Str))=false:=by decide) :
 PS X (.Try body [.ExceptHandler (some (.Name x np)) (some n) (b0::Ga) q5] [] [] pos) (λD Z H=>tb (P4 X.K M i ts D) D Z H):=by
 intro ad s Z H D I h;refine wpAny_Try_except ?_;refine eM (G (λe s₁=>wpAny (model X.prog X.w) X.A (noteFrame e X.env) (λ_ s₂=>wpAny (model X.prog X.w) X.A (setFlight e none) (λ_ s₃=>wpAny (model X.prog X.w) X.A (handleBy e X.env [.ExceptHandler (some (.Name x np)) (some n) (b0::Ga) q5]) (SP X ad D) X.xe s₃) X.xe s₂) X.xe s₁)
  ad (P4 X.K M i ts D) ?_ [] s Z H D (I.tr _) h) (λf s1 z=>?_) λ_ _ z=>z
 . intro ps σ1 H1 s1 e s' J hx;have J:=J.untr;obtain⟨a,c,H',B,a0,rfl,os,a1,un,hok,na,fl,big,PY,qY⟩:=hx;have fl:Heap.FlyingW B (X.env::X.outer) a c a0 s'.heap:=dA▸fl;have a5:X.A.frames=some (X.env::X.outer):=dA▸J.ok.frames;have un:Un (cJ X.stack) [] H1 H' s1.heap s'.heap:=un;have big:∀b o,s'.heap.get? b=some o->((H' b).isSome=true\/∃o',s1.heap.get? b=some o')->b∉cJ X.stack->B.get? b=some o:=big;have J0:=J.call' (ch:=[]) os un hok a1 (λb z=>nomatch z);have nf:∀b o,s'.heap.get? b=some o->b∈cJ X.stack->∀vs,o.data≠.fields vs:=λb o e G=>by
    obtain⟨o1,e1,n1⟩:=J0.nofld G;rw[e]at e1;cases e1;exact n1
   refine wpAny_looks_onW a5 ui fl λh4 a4 a9=>?_;refine wpAny_landsW a4 λh5 Gb ab=>?_;have f5:mn X.stack B H' s1.heap s'.heap h5:=⟨big,Gb.1,λb o e G=>(a9.trans ab) b o e (nf b o e G)⟩;have J5:Inv X ad σ1 H' { s' with heap:=h5 }:=J.call' (ch:=[]) os (f5.un un (λ_ z=>.inl z) λ_ z=>z) (f5.hok hok J0.stkFree) a1 (λb z=>nomatch z);refine wpAny_handleBy_cons (codeAny_handlers_test ?_) (by intro q;cases q);refine vw (J5.exs a) hg hm ?_ ip;have LT:Looks (model X.prog X.w) h5 (typeOf (.ref a)) c:=by
    obtain⟨ob,o1,o2⟩:=Gb.there;exact o2▸(Looks.ld o1).andThen .now
   refine(exm_one J5.kIn LT PY).here ?_;refine codeAny_handlers_suite_as ?_;refine lands_againW Gb λh6 P5 yC=>?_;have f6:=f5.on P5.1 yC nf;have j:=f6.un un (λ_ z=>.inl z) λ_ z=>z;have a2:=f6.hok hok J0.stkFree;obtain⟨oe,a7,a8⟩:=P5.there;have F5:a∉cJ X.stack:=λz=>by
    obtain⟨o1,e1,n1⟩:=J.nofld z;rw[na]at e1;cases e1
   have vO:H' a=none:=by
    cases z:H' a with
    | none=>rfl
    | some u=>
     obtain⟨o1,e1⟩:=(hok a u z).obj;have:=big a o1 e1 (.inl (by rw[z];rfl)) F5;rw[fl.2.1]at this;cases this
   have af:Un (cJ X.stack) [] H1 (ah H' a (oU a c)) s1.heap h6:=⟨j.keep,j.slot,λb o q n hx=>by rw[aW (λz=>by rw[z,na]at q;cases q)];exact j.free b o q n hx,j.there,
    λb xs q=>by rw[aW (aK (j.tups b xs q) vO)];exact j.tups b xs q,λb o u q=>by rw[aW (aK (j.frzs b o u q) vO)];exact j.frzs b o u q,λb ps q=>by
     obtain⟨a6,z⟩:=j.tbls b ps q;exact⟨a6,by rw[aW (aK z vO)];exact z⟩⟩
   have a3:cp X.prog X.w (ah H' a (oU a c)) h6:=λb u q=>by
    by_cases G:b=a
    . subst G;rw[aE]at q;cases q;exact agb ⟨oe,a7,a8⟩
    rw[aW G]at q;exact(a2 b u q).stay (λ_ _ _ z=>z) (λd z=>by rw[aW (aK z vO)];exact z) λd xs z=>by rw[aW (aK z vO)];exact z
   have J6:Inv X ad σ1 (ah H' a (oU a c)) { s' with heap:=h6 }:=J.call' (ch:=[]) os af a3 a1 (λb z=>nomatch z);refine EV J6 nd hi (Or.inl hl) (v:=.ref a) rfl (λs7 J7=>?_) (.inr hl);refine eM (hs a ad s7 _ _ _ (J7.exs a) (qY a vO)) (λf s8 z=>?_) λ_ _ z=>z.elim;cases f with
   | next=>
    obtain⟨σ8,H8,O,Y⟩:=z;exact BR (O.unexs J7.ok) nd hi hl λs9 U=>⟨_,H8,U,Y⟩
   | brk=>
    obtain⟨σ8,H8,O,Y⟩:=z;exact BR (O.unexs J7.ok) nd hi hl λs9 U=>⟨_,H8,U,Y⟩
   | cont=>
    obtain⟨σ8,H8,O,Y⟩:=z;exact BR (O.unexs J7.ok) nd hi hl λs9 U=>⟨_,H8,U,Y⟩
   | ret u=>
    obtain⟨v,σ8,H8,O,r8,Y⟩:=z;exact BR (O.unexs J7.ok) nd hi hl λs9 U=>⟨v,_,H8,U,r8,Y⟩
 have z:=z.untr;cases f with
 | next=>exact Eu z
 | brk=>exact z
 | cont=>exact z
 | ret u=>exact z
end
theorem cn.okR{K:Fg}{mg:Mv}{base:Heap}{a_:Str}{st:Stmt}{f:Addr}{fd:Fy}{N ps:Ls}{k:Nat}{sp:Sp}(F:cn K x a_ st f fd)(S:aN N ps (av st))(len:∀vs H Q E,sp vs H Q E->vs.length=ps.length)
 (U:∀(j:Value) (A:Around) (outer:List Env) (s:Shared) (H:Hp) (vs:Lv) (Q:VK) (E:XK),cq k (A.deeper (envOfC a_ (av st) s.heap.objs.size f j))->sp vs H Q E ->
  ∃t,cg (qZ P w K mg base N a_ (av st) f j A outer s H E) (cF st) t/\t { nx:=λ_ H'=>Q .non H',rt:=Q } (start N vs) H):aA P w K mg base (mo P w) (k+1) f fd ps sp:=by
 obtain⟨oc,od,kV,a0,pm,Y,j,ct,iQ,rfl,O,G⟩:=F.ex;exact Fq O G S len λA outer s H vs Q E z J=>U j A outer s H vs Q E z J
section
variable {X:Cx}
theorem P6{H:Hp}{c:Value}(ok:cp P w H h)(e:H a=some (oU a c)):∃o,h.get? a=some o/\o.cls=c:=(ok a _ e).1
theorem P7:fe X (.builtin "isinstance") (λxs H Q=>∃a C D b,xs=[.ref a,.ref D]/\H a=some (oU a (.ref C))/\uh X.K C/\kitOne X.K (.ref C) (.ref D)=some b/\Q (.bl b) H):=by
 intro ad s Z H xs us Q I r h;obtain⟨a,C,D,b,rfl,e,O,k,q⟩:=h;obtain⟨u,J,rfl,j,G⟩:=vals2 r;cases (show u=Value.ref a from j);cases (show J=Value.ref D from G);exact kia_one (PZ O.c0) I.kIn (P6 I.hok e) k (by intro z;cases z) λtk=>⟨.bl b,H,I.tok tk,rfl,q⟩
theorem Gc:∀{j:List Addr}{us:Lw},aY (j.map V.ref) us->us=j.map Value.ref
 | [],_,.nil=>rfl
 | D::j,_,.cons r t=>by
  rw[bS,Gc t]
  congr 1
theorem agz:fe X (.builtin "isinstance") (λxs H Q=>∃(a C j:Addr) (G:List Addr) (b:Bool),xs=[.ref a,.ref j]/\H a=some (oU a (.ref C))/\H j=some (.tup (G.map V.ref))/\uh X.K C/\kitAny X.K (.ref C) (G.map Value.ref)=some b/\Q (.bl b) H):=by
 intro ad s Z H xs us Q I r h;obtain⟨a,C,j,G,b,rfl,e,O,xc,k,q⟩:=h;obtain⟨u,u2,rfl,Y,r2⟩:=vals2 r;cases (show u=Value.ref a from Y);cases (show u2=Value.ref j from r2);obtain⟨_,b_,rv,ob,e1,c1,n1,d1⟩:=I.hok j _ O;obtain⟨U,od,J,iQ⟩:=ob;have c1:U=.type "tuple":=c1;have d1:J=.seq b_.toArray n1:=d1;subst c1 d1;rw[Gc rv]at e1;exact kia_tup (PZ xc.c0) I.kIn (P6 I.hok e) e1 k (by intro z;cases z) λtk=>⟨.bl b,H,I.tok tk,rfl,q⟩
def q9(K:Fg)(H:Hp)(p q:ao×V):Prop:=p.1=q.1/\∃d,DV K H p.2 d/\DV K H q.2 d/\W.kqdOk 9 d=true
theorem agA{kvs:List (ao×V)}(nd:(kvs.map (·.1)).Nodup){k:ao}{v:V}(h:(k,v)∈kvs):bi kvs k=some v:=by
 induction kvs with
 | nil=>cases h
 | cons p r j=>
  rw[bS,qh]at nd
  rcases bc.mp h with e | h
  . subst e;exact jZ rfl
  rw[jo λe=>nd.1 (by rw[e];exact gD (f:=(·.1)) h)];exact j nd.2 h
theorem Gd{Z:St}{H:Hp}(I:Inv X ad Z H s)(Y:X.A.units+65<cLine){fD:List (ao×V)}{J:List (ao×Value)}(nd:(fD.map (·.1)).Nodup)(U:KV fD J):∀{ka kb:List (ao×V)}{va:List (ao×Value)},Paired (q9 X.K H) ka kb->KV ka va->(∀p∈kb,p∈fD)->KeqHits X.A.in1 s J va true
 | _,_,_,.nil,.nil,_=>.nil
 | _,_,_,.cons (a:=p) (b:=q) r t,.cons (b:=pv) rv tv,hm=>by
  obtain⟨e,d,d1,d2,ok⟩:=r;obtain⟨as,ra⟩:=d1.reads I rv.2;have hq:=agA nd (k:=q.1) (v:=q.2) (hm q bM);have j:=U.val q.1;rw[hq]at j;cases G:valueAt J q.1 with
  | none=>rw[G]at j;exact j.elim
  | some y=>
   rw[G]at j;have j:RelV q.2 y:=j;obtain⟨bs,rb⟩:=d2.reads I j;have O:=keq_at (A:=X.A) ra rb (qQ ok) (qQ ok) Y;have et:=(xJ 9 d d 9 ok ok).mpr rfl;rw[et]at O;have z:pv.1=q.1:=rv.1.symm.trans e;obtain⟨pk,a0⟩:=pv;have z:pk=q.1:=z;subst z;exact .hit (e:=true) (b:=true) G O (Gd I Y nd U t tv λp hp=>hm p (bY _ hp))
end
end
section
open PySem.W
section
variable {X:Cx}
theorem Ge{P:Program}{w:World}:lY (mo P w) X (λ_ _ _=>False):=λ_ _ _ _ _ _ _ h=>by
 obtain⟨_,_,_,_,_,_,_,_,_,_,_,_,_,q⟩:=h;exact q.elim
def agB(K:Fg):V->V->Hp->VK->Prop:=λx y H Q=>∃d e,DV K H x d/\DV K H y e/\W.kqdOk 9 d=true/\W.kqdOk 9 e=true/\∀b:Bool,(b=true↔d=e)->Q (.bl (!b)) H
theorem agC(K:Fg)(j:X.A.units+64<cLine)(h:X.K=K:=by rfl):cM X (compareOp .NotEq) (agB K):=h▸FH j
end
end
section
variable {mask ep n:Nat}{α:Type}{w:World}{h':Heap}{a it:Addr}{xs ys:Ls}{s:Shared}{P:Program}{o:Obj}{es:Array (Int×Value)}{os:List (Int×Value)}{a_:Str}
def oW(m:Nat):Prop:=m=7\/m=15\/m=31\/m=63\/m=127\/m=255
def oZ(mask:Nat):Nat->Nat->Nat
 | 0,i=>i
 | m+1,i=>oZ mask m ((i * 5+1) % (mask+1))
theorem BU(mask:Nat):∀(m k i:Nat),oZ mask (m+k) i=oZ mask k (oZ mask m i)
 | 0,k,i=>by rw[EE];rfl
 | m+1,k,i=>by
  rw[Nat.succ_add];exact BU mask m k _
def agD(mask:Nat):Bool:=oZ mask (mask+1) 0 == 0 && (List.range (mask+1)).all λj=>(List.range (mask+1)).any λm=>oZ mask m 0 == j
theorem agE(h:oW mask):agD mask=true:=by
 rcases h with rfl | rfl | rfl | rfl | rfl | rfl
 . decide +kernel
 . decide +kernel
 . decide +kernel
 . decide +kernel
 . decide +kernel
 decide +kernel
theorem agF{i j:Nat}(h:oW mask)(hi:i<=mask)(U:j<=mask):∃m,m<=mask/\oZ mask m i=j:=by
 obtain⟨h0,h1⟩:=xK.mp (agE h);have h0:=eq_of_beq h0;have G:∀z,z<=mask->∃m,m<=mask/\oZ mask m 0=z:=λz hz=>by
  obtain⟨m,Y,e⟩:=vj.mp (hX.mp h1 z (ve.mpr (by omega)));exact⟨m,by have:=ve.mp Y;omega,eq_of_beq e⟩
 obtain⟨a,ha,J⟩:=G i hi;obtain⟨b,hb,O⟩:=G j U
 by_cases le:a<=b
 . refine⟨b - a,by omega,?_⟩;rw[<-J,<-BU,show a+(b - a)=b by omega];exact O
 refine⟨b+(mask+1) - a,by omega,?_⟩;rw[<-J,<-BU,show a+(b+(mask+1) - a)=(mask+1)+b by omega,BU,h0];exact O
def jC(mask:Nat):Nat->Nat->Nat->Nat×Nat
 | 0,i,p=>(i,p)
 | m+1,i,p=>jC mask m ((i * 5+1+p / 32) % (mask+1)) (p / 32)
theorem Qa(mask:Nat):∀(m i:Nat),jC mask m i 0=(oZ mask m i,0)
 | 0,i=>rfl
 | m+1,i=>by
  show jC mask m ((i * 5+1+0 / 32) % (mask+1)) (0 / 32)=_;rw[Nat.zero_div,MO,Qa mask m];rfl
theorem Qb(mask:Nat):∀(m k i p:Nat),jC mask (m+k) i p=jC mask k (jC mask m i p).1 (jC mask m i p).2
 | 0,k,i,p=>by rw[EE];rfl
 | m+1,k,i,p=>by
  rw[Nat.succ_add];exact Qb mask m k _ _
theorem Qc(mask:Nat):∀(m i p:Nat),(jC mask m i p).2=p / 32 ^ m
 | 0,i,p=>by simp[jC]
 | m+1,i,p=>by
  show(jC mask m _ (p / 32)).2=_;rw[Qc mask m,Nat.div_div_eq_div_mul,Nat.pow_succ,Nat.mul_comm]
theorem Qe(mask:Nat):∀(m i p:Nat),i<=mask->(jC mask m i p).1<=mask
 | 0,i,p,h=>h
 | m+1,i,p,h=>Qe mask m _ _ (Nat.le_of_lt_succ (EF (i * 5+1+p / 32) (Nat.succ_pos mask)))
theorem agG{i p j:Nat}(h:oW mask)(hi:i<=mask)(G:p<2 ^ 64)(z:j<=mask):∃m,m<SetTable.turns mask/\(jC mask m i p).1=j:=by
 have h2:(jC mask 13 i p).2=0:=by
  rw[Qc];exact Nat.div_eq_of_lt (vh G (by decide))
 obtain⟨m,J,e⟩:=agF h (Qe mask 13 i p hi) z;refine⟨13+m,by unfold SetTable.turns;omega,?_⟩;rw[Qb,h2,Qa];exact e
theorem Qf(mask:Nat)(ow:Array (Option Nat)):∀(f i p:Nat),SetTable.layClean.free mask ow f i p=none->∀m,m<f->(ow.getD (jC mask m i p).1 (some 0)).isNone=false
 | 0,i,p,_,m,h=>absurd h (MP _)
 | f+1,i,p,e,m,h=>by
  unfold SetTable.layClean.free at e;cases j:(List.range (SetTable.runEnd mask i+1 - i)).find? λk=>(ow.getD (i+k) (some 0)).isNone with
  | some k=>rw[j]at e;cases e
  | none=>
   rw[j]at e;cases m with
   | zero=>
    have:=Yg.mp j 0 (ve.mpr (by unfold SetTable.runEnd;split<;>omega));rw[MO]at this;cases hz:(ow.getD i (some 0)).isNone with
    | true=>exact absurd hz this
    | false=>exact hz
   | succ m=>exact Qf mask ow f _ _ e m (by omega)
theorem Qg(mask:Nat)(ow:Array (Option Nat)):∀(f i p j:Nat),SetTable.layClean.free mask ow f i p=some j->(ow.getD j (some 0)).isNone=true
 | 0,i,p,j,e=>by cases e
 | f+1,i,p,j,e=>by
  unfold SetTable.layClean.free at e;cases z:(List.range (SetTable.runEnd mask i+1 - i)).find? λk=>(ow.getD (i+k) (some 0)).isNone with
  | some k=>
   rw[z]at e;cases e;exact List.find?_some (p:=λk=>(ow.getD (i+k) (some 0)).isNone) z
  | none=>
   rw[z]at e;exact Qg mask ow f _ _ j e
theorem Qh:∀{l:List (Option α)}{j:Nat}{x:α},l[j]?=some none->((l.set j (some x)).filterMap id).Perm (x::l.filterMap id)
 | [],j,x,h=>by cases h
 | o::l,0,x,h=>by
  cases h;simp
 | o::l,j+1,x,h=>by
  have z:=Qh (l:=l) (j:=j) (x:=x) h;rw[List.set_cons_succ];cases o with
  | none=>simpa using z
  | some y=>
   simp only[Et,id];exact(z.cons y).trans (.swap ..)
structure Lay(mask:Nat)(r:Array (Option Nat)×Nat):Prop where
 size:r.1.size=mask+1
 perm:(r.1.toList.filterMap id).Perm (List.range r.2)
theorem Lay.step(Y:oW mask){r:Array (Option Nat)×Nat}(x:Lay mask r)(hk:r.2<=mask)(h:Int):∃j,SetTable.layClean.free mask r.1 (SetTable.turns mask) (SetTable.bits h % (mask+1)) (SetTable.bits h)=some j/\Lay mask (r.1.setIfInBounds j (some r.2),r.2+1):=by
 obtain⟨ow,k⟩:=r;dsimp only at *;have hz:ow.size=mask+1:=x.size;have U:=x.perm.length_eq;dsimp only at U;rw[MQ]at U;cases O:SetTable.layClean.free mask ow (SetTable.turns mask) (SetTable.bits h % (mask+1)) (SetTable.bits h) with
 | none=>
  exfalso;have qy:∀j,j<=mask->(ow.getD j (some 0)).isNone=false:=λj G=>by
   obtain⟨m,h1,h2⟩:=agG Y (i:=SetTable.bits h % (mask+1)) (p:=SetTable.bits h) (Nat.le_of_lt_succ (EF (SetTable.bits h) (Nat.succ_pos mask))) (by
    unfold SetTable.bits;have h1:=vk h (show(0:Int)<2 ^ 64 by decide);have h0:=sV h (show(2 ^ 64:Int)≠0 by decide);omega) G
   have:=Qf mask ow _ _ _ O m h1
   rwa [h2]at this
  have:(ow.toList.filterMap id).length=ow.toList.length:=by
   rw[List.length_filterMap_eq_countP,List.countP_eq_length];intro o ho;obtain⟨j,G,e⟩:=MR.mp ho;rw[eZ]at G;have:=qy j (by omega);rw[MU,qm G]at this;rw[<-e,Array.getElem_toList];cases J:ow[j]with
   | none=>rw[J]at this;cases this
   | some y=>rfl
  have e9:ow.toList.length=ow.size:=eZ;omega
 | some j=>
  have hs:=Qg mask ow _ _ _ _ O;have G:j<ow.size:=by
   refine Nat.lt_of_not_le λz=>?_;rw[MU,Yt z]at hs;cases hs
  have hn:ow.toList[j]?=some none:=by
   rw[MU,qm G]at hs;rw[sU,qm G];cases J:ow[j]with
   | none=>rfl
   | some y=>rw[J]at hs;cases hs
  refine⟨j,rfl,⟨by simp[hz],?_⟩⟩;dsimp only;rw[Array.toList_setIfInBounds,List.range_succ];exact(Qh hn).trans ((x.perm.cons k).trans (List.perm_append_singleton k _).symm)
theorem Qi(G:oW mask):∀(hs:List Int) (r:Array (Option Nat)×Nat),Lay mask r->r.2+hs.length<=mask+1->∃z,hs.foldl (fun(J:Option (Array (Option Nat)×Nat)) h=>do
 let (owner,k) <-J
 let j <-SetTable.layClean.free mask owner (SetTable.turns mask) (SetTable.bits h % (mask+1)) (SetTable.bits h)
 pure (owner.setIfInBounds j (some k),k+1)) (some r)=some z/\Lay mask z/\z.2=r.2+hs.length
 | [],r,x,_=>⟨r,rfl,x,rfl⟩
 | h::hs,r,x,hl=>by
  rw[bU]at hl;obtain⟨j,e,O⟩:=x.step G (by omega) h;obtain⟨z,e1,x1,e2⟩:=Qi G hs _ O (by dsimp only;omega);refine⟨z,?_,x1,by rw[e2,bU];dsimp only;omega⟩;rw[lQ,<-e1]
  congr 1
  show(SetTable.layClean.free mask r.1 (SetTable.turns mask) (SetTable.bits h % (mask+1)) (SetTable.bits h)).bind _=_;rw[e];rfl
theorem Qj{f m:Nat}{led plain:Bool}{hs:Array Int}(hm:oW mask)(hl:hs.size<=mask):∃t O,SetTable.laid mask f m led plain hs=some (t,O)/\O.toList.Perm (List.range hs.size)/\t.fits hs.size=true/\t.led=led/\t.plain=plain/\t.mask=mask:=by
 have x0:Lay mask (Array.replicate (mask+1) none,0):=⟨by simp,by simp⟩;obtain⟨r,e,x,e2⟩:=Qi hm hs.toList _ x0 (by dsimp only;rw[eZ];omega);have Y:SetTable.layClean mask hs=some r.1:=by
  unfold SetTable.layClean;rw[<-Array.foldl_toList,e];rfl
 dsimp only at e2;rw[EE,eZ]at e2;have G:((List.range (mask+1)).filterMap λj=>(r.1.getD j none).map (j,·)).map (·.2)=r.1.toList.filterMap id:=by
  have e3:r.1.toList=(List.range (mask+1)).map λj=>r.1.getD j none:=by
   refine List.ext_getElem? λj=>?_;rw[dG,sU]
   by_cases z:j<mask+1
   . rw[List.getElem?_range z,qm (by rw[x.size];exact z),sP,MU,qm (by rw[x.size];exact z)];rfl
   rw[Yt (by rw[x.size];omega),awH (by rw[MQ];omega)];rfl
  rw[e3,List.filterMap_map,List.map_filterMap]
  congr 1
  funext j
  show Option.map _ (Option.map _ (r.1.getD j none))=r.1.getD j none;cases r.1.getD j none<;>rfl
 have a0:((List.range (mask+1)).filterMap λj=>(r.1.getD j none).map (j,·)).length=hs.size:=by
  have:=fw List.length G;rw[ak,x.perm.length_eq,MQ,e2]at this;exact this
 unfold SetTable.laid;rw[Y];refine⟨_,_,rfl,?_,?_,rfl,rfl,rfl⟩
 . show(((List.range (mask+1)).filterMap λj=>(r.1.getD j none).map (j,·)).map (·.2)).Perm _;rw[G,<-e2];exact x.perm
 unfold SetTable.fits SetTable.fill;have J:((((List.range (mask+1)).filterMap λj=>(r.1.getD j none).map (j,·)).map (·.1)).toArray).size=hs.size:=by
  rw[gi,ak];exact a0
 have U:(#[]:Array Nat).size=0:=rfl;rw[im];refine⟨jR.mpr J,bE ?_⟩;show _+(#[]:Array Nat).size<=mask;rw[U,MO];exact b8 (xG J) hl
def fH(w:World):Bool:=w.params.followText "set-order"
def ix(e:Int×Value):Str:=match e.2 with
 | .str y _=>y
 | _=>Str.ofString ""
def mX(w:World)(e:Int×Value):Prop:=∃y tk,e=(lV w (.inr y),Value.str y tk)
structure eS(w:World)(o:Obj)(es:Array (Int×Value))(ep:Nat)(t:SetTable)(xs:Ls):Prop where
 ex:o.ExactSet
 dat:o.data=.set es ep t
 good:∀e∈es.toList,mX w e
 perm:(es.toList.map ix).Perm xs
 nd:xs.Nodup
 len:xs.length<=1000
 fit:t.fits es.size=true
 led:t.led = !fH w
 pl:es.size≠0->t.plain=false
 msk:es.size=0->oW t.mask
def cR(w:World)(h:Heap)(a:Addr)(xs:Ls):Prop:=∃o es ep t,h.get? a=some o/\eS w o es ep t xs
theorem cR.at'{h:Heap}(x:cR w h a xs)(k:∀o,h.get? a=some o->h'.get? a=some o):cR w h' a xs:=
 x.elim λo j=>j.elim λes z=>z.elim λep G=>G.elim λt J=>J.elim λe r=>⟨o,es,ep,t,k o e,r⟩
theorem cR.typeIs(x:cR w s.heap a xs):s.TypeIs (.ref a) "set":=x.elim λo j=>j.elim λ_ z=>z.elim λ_ G=>G.elim λ_ J=>J.elim λe r=>⟨o,e,r.ex.1⟩
section
variable {t:SetTable}
theorem eS.elems(x:eS w o es ep t xs):ElemsOf (cz P w) es.toList:=λe j=>by
 obtain⟨y,tk,rfl⟩:=x.good e j;exact⟨⟨.inr y,sY P w y tk,rfl⟩,rfl⟩
theorem eS.size(x:eS w o es ep t xs):es.size=xs.length:=by
 have:=x.perm.length_eq;rw[ak,eZ]at this;exact this
theorem eS.bnd(x:eS w o es ep t xs):es.size<scanBound:=by
 rw[x.size];have:=x.len;show _<4096;omega
theorem Qk{y:Str}{e:Int×Value}(g:mX w e):(cz P w).is (.inr y) e.2=true↔ix e=y:=by
 obtain⟨z,tk,rfl⟩:=g;constructor
 . intro h;have:=(cz P w).inj _ _ _ h (sY P w z tk);injection this with this
   exact this.symm
 intro h;rw[<-h];exact sY P w z tk
theorem eS.find_some(x:eS w o es ep t xs){y:Str}{j:Nat}(h:List.findIdx? (λe=>(cz P w).is (.inr y) e.2) es.toList=some j):y∈xs:=by
 obtain⟨G,J,_⟩:=List.findIdx?_eq_some_iff_getElem.mp h;have z:=EG G;exact x.perm.mem_iff.mp (cE.mpr ⟨_,z,(Qk (x.good _ z)).mp J⟩)
theorem eS.find_none(x:eS w o es ep t xs){y:Str}(h:List.findIdx? (λe=>(cz P w).is (.inr y) e.2) es.toList=none):y∉xs:=λG=>by
 obtain⟨e,j,z⟩:=cE.mp (x.perm.mem_iff.mpr G);have:=List.findIdx?_eq_none_iff.mp h e j;rw[(Qk (x.good _ j)).mpr z]at this;cases this
end
theorem agP(t:SetTable)(es:Array (Int×Value))(h:Int)(x:Value):(layNew t es h x).2.1.led=t.led:=by
 unfold layNew;split
 . dsimp only;unfold SetTable.orStandIn;split<;>rfl
 rfl
theorem agQ{f m:Nat}{led plain:Bool}{hs:Array Int}{r:SetTable×Array Nat}(e:SetTable.laid mask f m led plain hs=some r):r.1.led=led/\r.1.plain=plain/\r.1.mask=mask/\r.1.dummies = #[]:=by
 unfold SetTable.laid at e;cases j:SetTable.layClean mask hs with
 | none=>rw[j]at e;cases e
 | some ow=>
  rw[j]at e;cases e;exact⟨rfl,rfl,rfl,rfl⟩
theorem agR(t:SetTable)(es:Array (Int×Value))(n:Nat):(relayAll t es n).2.1.led=t.led/\(t.plain=false->(relayAll t es n).2.1.plain=false):=by
 unfold relayAll;split
 . rename_i t' j e;dsimp only;split
   . obtain⟨h1,h2,_⟩:=agQ e;exact⟨h1,λz=>h2.trans z⟩
   exact⟨rfl,λ_=>rfl⟩
 exact⟨rfl,λ_=>rfl⟩
def iW(xs:Ls)(y:Str):Ls:=if y∈xs then xs else xs++[y]
theorem Ql{y:Str}(h:xs.Nodup):(iW xs y).Nodup:=by
 unfold iW;split
 . exact h
 rename_i z;rw[sT];exact⟨h,by simp,λa j b G=>by rw[bw.mp G];exact λq=>z (q▸j)⟩
theorem Gf{y z:Str}:z∈iW xs y↔z∈xs\/z=y:=by
 unfold iW;split
 . rename_i h;exact⟨.inl,λq=>q.elim id λq=>q▸h⟩
 simp
theorem BV(xs:Ls)(y:Str):(iW xs y).length<=xs.length+1:=by
 unfold iW;split
 . omega
 simp
section
variable {prog:Program}{A:Around}{E:VP}
theorem eS.store{h:Heap}{es':Array (Int×Value)}{t t':SetTable}(j:h.get? a=some o)(x:o.ExactSet)(d:o.data=.set es ep t):(h.update a (Obj.putSet es' t')).get? a=some { o with data:=.set es' (ep+1) t' }:=by
 have q:=AT (Obj.putSet es' t') j (by rw[putSet_of es' t' d];rfl)
 rwa [putSet_of es' t' d]at q
theorem Qm{g:Bool->Sem Unit}(hg:∀(b:Bool) (s₁:Shared) (Q':Unit->Shared->Prop),Q' () s₁->wpAny (model prog w) A (g b) Q' E s₁){j:Array (Int×Value)}{t t2:SetTable}{wd:Bool}{R:Option Bool->Shared->Prop}
 (ho:s.heap.get? a=some o) (O:o.ExactSet) (hd:o.data=.set es ep t) (gd:∀e∈j.toList,mX w e) (pm:(j.toList.map ix).Perm ys) (nd:ys.Nodup) (ln:ys.length<=1000) (hf:t2.fits j.size=true) (ld:t2.led = !fH w) (pl:t2.plain=false) (ne:j.size≠0)
 (h:∀h',Heap.SameBut a s.heap h'->cR w h' a ys->R (some true) { s with heap:=h' }) :
 wpAny (model prog w) A (do { storeSet a j t2;if (!wd && t2.tooFull)=true then do { g (relayAll t2 j (SetTable.grown j.size)).2.2;storeSet a (relayAll t2 j (SetTable.grown j.size)).1 (relayAll t2 j (SetTable.grown j.size)).2.1;pure (some true) } else pure (some true) }) R E s:=by
 have sz:j.size=ys.length:=by have:=pm.length_eq;rw[ak,eZ]at this;exact this
 have b1:j.size<scanBound:=by rw[sz];show _<4096;omega
 refine ae (AV ho hd ?_ (xL b1));have Y:=eS.store (es':=j) (t':=t2) ho O hd;have sb:=lO s.heap a (Obj.putSet j t2);split
 . have G:=relayAll_perm t2 j (SetTable.grown j.size);have ui:=relayAll_fits t2 j (SetTable.grown j.size);have J:=agR t2 j (SetTable.grown j.size);generalize hR:relayAll t2 j (SetTable.grown j.size)=Rl at G ui J ⊢;obtain⟨U,t3,g2⟩:=Rl;dsimp only at G ui J ⊢;have Qn:U.size=j.size:=by rw[<-eZ,G.length_eq,eZ]
   refine ae (hg _ _ _ (ae (AV Y rfl ?_ (xL (by rw[Qn];exact b1)))));have o2:=eS.store (es':=U) (t':=t3) Y O rfl;exact ar (h _ (sb.trans (lO _ a _)) ⟨_,U,_,t3,o2,O,rfl,λe he=>gd e (G.mem_iff.mp he),(G.map ix).trans pm,nd,ln,ui,J.1.trans ld,λ_=>J.2 pl,λz=>absurd (Qn.symm.trans z) ne⟩)
 exact ar (h _ sb ⟨_,j,_,t2,Y,O,rfl,gd,pm,nd,ln,hf,ld,λ_=>pl,λz=>absurd z ne⟩)
theorem Gh{y:Str}{tk:Tok}{Q:Bool->Shared->Prop}(hS:cR w s.heap a xs)(hl:xs.length<1000)(h:∀b h',Heap.SameBut a s.heap h'->cR w h' a (iW xs y)->Q b { s with heap:=h' }) :
 wpAny (model prog w) A (setAddHashed a (.str y tk) (lV w (.inr y))) Q E s:=by
 obtain⟨o,es,ep,t,O,x⟩:=hS;have el:ElemsOf (cz prog w) es.toList:=x.elems;unfold setAddHashed setAddHashedIn;refine jQ (ae (iK O x.dat x.fit ?_));dsimp only;rw[byScan_of (x:=.str y tk) rfl x.bnd el];simp only[↓reduceIte];unfold setAddByScan;refine ae (ae (nV (ae (wpAny_setScan_of (knd:=cz prog w) (k:=.inr y) (sY prog w y tk) O x.dat x.fit el ?_))));cases hr:List.findIdx? (λe=>(cz prog w).is (.inr y) e.2) es.toList with
 | some j=>
  dsimp only;refine ar (ar ?_);have hy:=x.find_some hr;exact h false s.heap (EH a s.heap) (by unfold iW;rw[am hy];exact⟨o,es,ep,t,O,x⟩)
 | none=>
  dsimp only;have hy:=x.find_none hr;have Y:=layNew_perm t es (lV w (.inr y)) (.str y tk);have BX:=layNew_fits t es (lV w (.inr y)) (.str y tk);have BY:=agP t es (lV w (.inr y)) (.str y tk);have e0:(cz prog w).hash (.inr y)=lV w (.inr y):=rfl
  try rw[e0]
  generalize hL:layNew t es (lV w (.inr y)) (.str y tk)=L at Y BX BY ⊢;obtain⟨dz,t1,wd,a3⟩:=L;dsimp only at Y BX BY ⊢;rw[Array.toList_push]at Y;have gd:∀e∈dz.toList,mX w e:=λe he=>by
   rcases bR.mp (Y.mem_iff.mp he) with z | z
   . exact x.good e z
   exact⟨y,tk,bw.mp z⟩
  have ea:iW xs y=xs++[y]:=by unfold iW;rw[ag hy]
  have pm:(dz.toList.map ix).Perm (iW xs y):=by
   rw[ea];refine(Y.map ix).trans ?_;rw[dw];exact x.perm.append_right _
  have ne:dz.size≠0:=λz=>by
   have:=pm.length_eq;rw[ea,ak,eZ,z,bI]at this;simp at this
  have ln:(iW xs y).length<=1000:=by have:=BV xs y;omega
  have a1:∀(b:Bool) {U:Shared}{J:Unit->Shared->Prop},J () U->wpAny (model prog w) A (match b with | true=>rule "set.scan.the-table-gave-way" | false=>pure ()) J E U:=λb U J G=>by
   cases b
   . exact ar G
   exact nV G
  refine ae (a1 _ ?_);have a0:∀h',Heap.SameBut a s.heap h'->cR w h' a (iW xs y)->wpAny (model prog w) A (pure true:Sem Bool) Q E { s with heap:=h' }:=λh' k z=>ar (h true h' k z);split
  . refine ae ?_;rw[hashByValue_scannable (x:=.str y tk) 8 rfl];refine ar ?_;refine Qm ?_ O x.ex x.dat gd pm (Ql x.nd) ln ?_ ?_ ?_ ne (λh' k z=>a0 h' k z)
    . intro b U J G;cases b
      . exact ar G
      exact nV G
    . exact SetTable.fits_plain_off BX
    . exact BY.trans x.led
    rfl
  rename_i a2;refine ae (ar ?_);simp only[↓reduceIte];refine Qm ?_ O x.ex x.dat gd pm (Ql x.nd) ln BX (BY.trans x.led) (by simpa using a2) ne (λh' k z=>a0 h' k z);intro b U J G;cases b
  . exact ar G
  exact nV G
end
theorem Gi:∀{l:List α}{i:Nat} (h:i<l.length),(l[i]::l.eraseIdx i).Perm l
 | [],i,h=>absurd h (MP _)
 | x::r,0,h=>.refl _
 | x::r,i+1,h=>by
  have h':i<r.length:=by simpa using h
  show(r[i]::x::r.eraseIdx i).Perm _;exact(List.Perm.swap ..).trans ((Gi (l:=r) (i:=i) h').cons x)
theorem Qo(next:Nat->Nat):∀(f k:Nat) (left:List α) (out:Array α),f=left.length->(pickOrder.go next f k left out).toList.Perm (out.toList++left)
 | 0,k,left,out,h=>by
  rw[AU.mp h.symm];simp[pickOrder.go]
 | f+1,k,left,out,h=>by
  have j:next k % left.length<left.length:=EF _ (by omega);unfold pickOrder.go;rw[hZ j];dsimp only;refine(Qo next f (k+1) _ _ (by rw[awI j];omega)).trans ?_;rw[Array.toList_push,kI];exact List.Perm.append_left _ (Gi j)
theorem Qp(next:Nat->Nat)(xs:Array α):(pickOrder next xs).toList.Perm xs.toList:=by
 have:=Qo next xs.size 0 xs.toList #[] (by simp);simpa [pickOrder]using this
section
variable {prog:Program}{A:Around}{E:VP}
theorem agU(j:n≠0){Q:Nat->Shared->Prop}(h:∀i d,i<n->Q i { s with drawn:=d }):wpAny (model prog w) A (choose .order n) Q E s:=λΓ p hΓ=>by
 unfold choose;rw[Sem.wp_choose];refine⟨j,?_⟩;simp only[Sem.wp_pure];exact h _ _ (EF _ (Nat.pos_of_ne_zero j))
theorem Qq:∀(n:Nat) (l:List α) (s:Shared) (Q:List α->Shared->Prop),n=l.length->(∀out d,out.Perm l->Q out { s with drawn:=d })->wpAny (model prog w) A (drawOrder n l) Q E s
 | 0,l,s,Q,hn,h=>by
  have j:=AU.mp hn.symm;subst j;exact ar (h [] s.drawn .nil)
 | n+1,l,s,Q,hn,h=>by
  cases l with
  | nil=>cases hn
  | cons x r=>
   show wpAny _ _ (choose .order (x::r).length >>= _) _ _ _;refine ae (agU (by simp) λi d hi=>?_);rw[hZ hi];dsimp only;refine ae (Qq n ((x::r).eraseIdx i) _ _ (by rw[awI hi];simp at hn ⊢;omega) λout d2 z=>ar ?_);exact h _ d2 ((z.cons _).trans (Gi hi))
end
def iX(h:Heap)(it a:Addr)(ep n:Nat)(f:Value)(i:Nat):Prop:=∃o,h.get? it=some o/\o.cls=.type "set_iterator"/\o.data=.fields #[f,rawInt i,.ref a,rawInt n,rawInt ep]
theorem iX.at'{h:Heap}{i:Nat}{f:Value}(x:iX h it a ep n f i)(k:∀o,h.get? it=some o->h'.get? it=some o):iX h' it a ep n f i:=x.elim λo j=>j.elim λe r=>⟨o,k _ e,r⟩
theorem iX.typeIs{i:Nat}{f:Value}(x:iX s.heap it a ep n f i):s.TypeIs (.ref it) "set_iterator":=x.elim λo j=>j.elim λe z=>z.elim λr _=>⟨o,e,r⟩
inductive Md (w:World) (h:Heap) (I a T:Addr) (es:Array (Int×Value)) (ep:Nat) (t:SetTable) (os:List (Int×Value)) (i:Nat):Prop
 | text (b:fH w=true) (e:os=(pickOrder (w.params.setOrder a ep) es).toList) (x:iX h I a ep es.size (rawInt 0) i)
 | draw (pl:List Nat) (b:fH w=false) (e:os.length=pl.length/\∀(k j:Nat),pl[k]?=some j->os[k]?=es[j]?) (x:iX h I a ep es.size (.ref T) i) (y:∃o n,h.get? T=some o/\o.data=.seq (pl.map λj=>rawInt (j:Nat)).toArray n) (z:I≠T)
 | tab (G:Nat) (b:fH w=false) (l:es.size<=1) (e:os=es.toList) (x:iX h I a ep es.size (rawInt G) i) (y:SetTable.below t.place G=i)
def vP(w:World)(I a T:Addr)(os:List (Int×Value))(i:Nat)(h:Heap):Prop:=∃o es ep t xs,h.get? a=some o/\eS w o es ep t xs/\os.Perm es.toList/\I≠a/\Md w h I a T es ep t os i
section
variable {prog:Program}{A:Around}{E:VP}
theorem Gj{i:Nat}{f v:Value}{Q:Unit->Shared->Prop}(x:iX s.heap it a ep n f i)(q:∀h',Heap.SameBut it s.heap h'->iX h' it a ep n v i->Q () { s with heap:=h' }):wpAny (model prog w) A (setField (.ref it) 0 v) Q E s:=by
 obtain⟨o,j,z,hd⟩:=x;exact Yu j hd (by simp) (q _ (lO ..) ⟨_,AT _ j (awJ (MV hd _)),(Obj.cls_mapFields ..).trans z,by rw[MV hd];simp⟩)
theorem Gk{i:Nat}{f:Value}{Q:Unit->Shared->Prop}(x:iX s.heap it a ep n f i)(q:∀h',Heap.SameBut it s.heap h'->iX h' it a ep n f (i+1)->Q () { s with heap:=h' }):wpAny (model prog w) A (setField (.ref it) 1 (rawInt ((i:Int)+1))) Q E s:=by
 obtain⟨o,j,z,hd⟩:=x;exact Yu j hd (by simp) (q _ (lO ..) ⟨_,AT _ j (awJ (MV hd _)),(Obj.cls_mapFields ..).trans z,by rw[MV hd];simp[rawInt]⟩)
theorem Gm{i:Nat}{f:Value}{R:PySem.Fin->Shared->Prop}{j:VP}(z:A.handled=none)(x:iX s.heap it a ep n f i)
 (q:∀h' e,Heap.ExtBut it s.heap h'->Shared.TypeIs { s with heap:=h' } e "StopIteration"->j e { s with heap:=h' }):wpAny (model prog w) A.in1 (do { setField (.ref it) 2 .none;raiseNew (<-newExc (.type "StopIteration") []) }) R j s:=by
 obtain⟨o,G,J,hd⟩:=x;refine ae (Yu G hd (by simp) ?_);show wpAny _ _ (newExc (.type "StopIteration") [] >>= _) _ _ _;refine ae ?_;simp only[newExc,newTuple];refine ae (AQ ?_ (by size_fits));refine ae (m:=firstArgMember _ _) (wpAny_of_eq (a:=Value.none) (by first | rfl | (simp only[firstArgMember];rfl)) ?_);refine AQ ?_ (by size_fits);simp only[raiseNew];refine ae (wpAny_handled ?_);rw[show A.in1.handled=none from z];refine ae (ar (wpAny_throw ?_));refine q _ _ (((lO ..).extBut.push _).push _) ?_;exact⟨_,dN _ rfl,rfl⟩
theorem Qs(j:Nat):SetTable.below #[j] 0=0/\SetTable.below #[j] (j+1)=1:=by
 constructor
 . simp[SetTable.below,SetTable.below.go]
 simp[SetTable.below,SetTable.below.go]
theorem Qt{t:SetTable}{i:Nat}{Q:Option (Value×Nat)->Shared->Prop}(b:fH w=true)(G:s.heap.get? a=some o)(hd:o.data=.set es ep t)(z:t.fits es.size=true)
 (q:Q (((pickOrder (w.params.setOrder a ep) es)[i]?).map λe=>(e.2,0)) s):wpAny (model prog w) A (setNext a 0 i ep) Q E s:=by
 have j:w.params.followText "set-order"=true:=b;unfold setNext;refine ae (iK G hd z ?_);refine ae (m:=setsByText) (ae (qp (ar ?_)));show wpAny _ _ (if w.params.followText "set-order"=true then _ else _) _ _ s;rw[am j,ag (show ¬((ep != ep)=true) by simp)];refine ae ?_;unfold setWalk;refine ae (iK G hd z ?_);refine ae (m:=setsByText) (ae (qp (ar ?_)));show wpAny _ _ (if w.params.followText "set-order"=true then _ else _) _ _ s;rw[am j];exact ae (qp (ar (ar q)))
theorem Qu{t:SetTable}{z i:Nat}{Q:Option (Value×Nat)->Shared->Prop}(b:fH w=false)(U:s.heap.get? a=some o)(hd:o.data=.set es ep t)(J:t.fits es.size=true)(O:t.led = !fH w)(l:es.size<=1)
 (q:Q (match es[SetTable.below t.place z]?,t.place[SetTable.below t.place z]? with | some (_,x),some j=>some (x,j+1) | _,_=>none) s):wpAny (model prog w) A (setNext a z i ep) Q E s:=by
 have G:w.params.followText "set-order"=false:=b;unfold setNext;refine ae (iK U hd J ?_);refine ae (m:=setsByText) (ae (qp (ar ?_)));show wpAny _ _ (if w.params.followText "set-order"=true then _ else _) _ _ s;rw[ag (by rw[G];exact cW)];show wpAny _ _ (if (!t.plain && decide (es.size > 1))=true then _ else _) _ _ s;rw[ag (by rw[cy (by omega),vg];exact cW)];show wpAny _ _ ((if (!t.led && !es.isEmpty)=true then _ else _) >>= _) _ _ s;rw[ag (by rw[O,b];exact cW)];exact ae (ar (ar q))
theorem vQ{n i:Nat}{f:Value}{t:SetTable}{Q:Option Value->Shared->Prop}(x:iX s.heap it a ep es.size f i)(O:s.heap.get? a=some o)(hd:o.data=.set es ep t)(J:t.fits es.size=true)
 {E1:VP}
 (q:wpAny (model prog w) A.in1 (if let .int slot _:=f then
  (do
   match <-setNext a slot.toNat i ep with
   | some (x,next)=>setField (.ref it) 0 (rawInt next);setField (.ref it) 1 (rawInt ((i:Int)+1));ret x
   | none=>setField (.ref it) 2 .none;raiseNew (<-newExc (.type "StopIteration") []))
  else(do
   let some places <-seqItems? f | unsupported "internal:set_iterator"
   match places[i]? with
   | some (.int place _)=>let x <-setNextDrawn a place.toNat ep;setField (.ref it) 1 (rawInt ((i:Int)+1));ret x
   | some _=>unsupported "internal:set_iterator"
   | none=>setField (.ref it) 0 (rawInt 0);setField (.ref it) 2 .none;raiseNew (<-newExc (.type "StopIteration") [])))
  (λj s'=>∃v,j=.done (.ret v)/\Q (some v) s') (λe s'=>Shared.TypeIs s' e "StopIteration"/\Q none s') s) :
 wpAny (model prog w) A (pyNext (.ref it)) Q E s:=by
 obtain⟨oi,U,Y,G⟩:=id x;unfold pyNext;refine ae (wpAny_attempt (wpAny_callSpecial?_slot (name:=Str.ofString "__next__") x.typeIs BN (sJ BN x.typeIs afP ?_ (afS _))));unfold Builtin.«set_iterator.__next__»;refine ae (ar ?_);refine ae (wpAny_fieldsOf U G ?_);show wpAny _ _ (setEntries a >>= _) _ _ s;unfold setEntries;refine ae (ae (iK O hd J (ar ?_)));dsimp only;rw[ag (by simp)];refine eM q (λj s' z=>?_) (λe s' z=>?_)
 . obtain⟨v,rfl,z⟩:=z;exact⟨v,rfl,ar z⟩
 exact ae (nW (T:="StopIteration") (b:=true) z.1 isSubtype_stop (ar z.2))
end
section
variable {prog:Program}{A:Around}{E:VP}{I T:Addr}
theorem Md.keep{h:Heap}{t:SetTable}{i:Nat}(x:Md w h I a T es ep t os i)(k:∀b,b=I\/b=T->∀o,h.get? b=some o->h'.get? b=some o):Md w h' I a T es ep t os i:=by
 cases x with
 | text b e x=>exact .text b e (x.at' (k I (.inl rfl)))
 | draw pl b e x y z=>
  obtain⟨o,n,e1,e2⟩:=y;exact .draw pl b e (x.at' (k I (.inl rfl))) ⟨o,n,k T (.inr rfl) o e1,e2⟩ z
 | tab j b l e x y=>exact .tab j b l e (x.at' (k I (.inl rfl))) y
theorem ag0{i:Nat}{e:Int×Value}{Q:Option Value->Shared->Prop}(x:vP w I a T os i s.heap)(hi:os[i]?=some e)(q:∀h',Heap.SameBut I s.heap h'->vP w I a T os (i+1) h'->Q (some e.2) { s with heap:=h' }) :
 wpAny (model prog w) A (pyNext (.ref I)) Q E s:=by
 obtain⟨o,es,ep,t,xs,J,X,pm,vR,m⟩:=x;have done:∀h',Heap.SameBut I s.heap h'->Md w h' I a T es ep t os (i+1)->Q (some e.2) { s with heap:=h' }:=λh' k m'=>q h' k ⟨o,es,ep,t,xs,by rw[k.2 a (λz=>vR z.symm)];exact J,X,pm,vR,m'⟩;cases m with
 | text b G x=>
  have vS:(pickOrder (w.params.setOrder a ep) es)[i]?=some e:=by rw[G,sU]at hi;exact hi
  refine vQ (E1:=E) (n:=0) x J X.dat X.fit ?_;show wpAny _ _ (setNext a 0 i ep >>= _) _ _ _;refine ae (Qt b J X.dat X.fit ?_);rw[vS];refine ae (Gj x λh1 k1 x1=>ae (Gk (s:={ s with heap:=h1 }) x1 λh2 k2 O=>ar ⟨_,rfl,done h2 (k1.trans k2) (.text b G O)⟩))
 | draw pl b G x y z=>
  obtain⟨oT,nT,hT,U⟩:=y;have Y:i<pl.length:=by
   rw[<-G.1];exact(cT.mp hi).1
  have dP:pl[i]?=some pl[i]:=hZ Y;have he:es[pl[i]]?=some e:=(G.2 i _ dP).symm.trans hi;refine vQ (E1:=E) (n:=0) x J X.dat X.fit ?_;show wpAny _ _ (seqItems? (.ref T) >>= _) _ _ _;refine ae (xC hT U ?_);have Gn:(pl.map λj=>rawInt (j:Nat)).toArray[i]?=some (rawInt (pl[i]:Nat)):=by simp[Y]
  dsimp only;rw[Gn];show wpAny _ _ (setNextDrawn a pl[i] ep >>= _) _ _ _;refine ae ?_;unfold setNextDrawn;refine ae (iK J X.dat X.fit ?_);dsimp only;rw[ag (show ¬((ep != ep)=true) by simp),he];refine ar ?_;refine ae (Gk x λh2 k2 O=>ar ⟨_,rfl,done h2 k2 (.draw pl b G O ⟨oT,nT,by rw[k2.2 T (λq=>z q.symm)];exact hT,U⟩ z)⟩)
 | tab sl b l G x y=>
  have hz:es.size=1/\i=0:=by
   rw[G]at hi;have:=(cT.mp hi).1;rw[eZ]at this;omega
  have Go:es[i]?=some e:=by rw[G,sU]at hi;exact hi
  have bJ:t.place.size=1:=by
   have:=X.fit;unfold SetTable.fits at this;simp only[im,jR]at this;omega
  obtain⟨j,hj⟩:∃j,t.place = #[j]:=by
   rcases hp:t.place with⟨l⟩
   rw[hp]at bJ
   match l,bJ with
   | [j],_=>exact⟨j,rfl⟩
  refine vQ (E1:=E) (n:=0) x J X.dat X.fit ?_;show wpAny _ _ (setNext a sl i ep >>= _) _ _ _;refine ae (Qu b J X.dat X.fit X.led l ?_);have Gp:t.place[i]?=some j:=by rw[hj,hz.2];rfl
  rw[y,Go,Gp];refine ae (Gj x λh1 k1 x1=>ae (Gk (s:={ s with heap:=h1 }) x1 λh2 k2 O=>ar ⟨_,rfl,done h2 (k1.trans k2) (.tab (j+1) b l G O (by rw[hj,(Qs j).2,hz.2]))⟩))
theorem ag1{Q:Option Value->Shared->Prop}(O:A.handled=none)(x:vP w I a T os os.length s.heap)(q:∀h',Heap.ExtBut I s.heap h'->Q none { s with heap:=h' }):wpAny (model prog w) A (pyNext (.ref I)) Q E s:=by
 obtain⟨o,es,ep,t,xs,G,X,pm,vR,m⟩:=x;have hn:os.length=es.size:=by rw[pm.length_eq,eZ]
 have U:∀h' e,Heap.ExtBut I s.heap h'->Shared.TypeIs { s with heap:=h' } e "StopIteration"->Shared.TypeIs { s with heap:=h' } e "StopIteration"/\Q none { s with heap:=h' }:=λh' e k z=>⟨z,q h' k⟩;cases m with
 | text b J x=>
  refine vQ (E1:=E) (n:=0) x G X.dat X.fit ?_;show wpAny _ _ (setNext a 0 os.length ep >>= _) _ _ _;refine ae (Qt b G X.dat X.fit ?_);have vS:(pickOrder (w.params.setOrder a ep) es)[os.length]?=none:=by
   have:(pickOrder (w.params.setOrder a ep) es).toList[os.length]?=none:=by rw[<-J];simp
   rwa [sU]at this
  rw[vS];exact Gm O x U
 | draw pl b J x y z=>
  obtain⟨oT,nT,hT,Y⟩:=y;refine vQ (E1:=E) (n:=0) x G X.dat X.fit ?_;show wpAny _ _ (seqItems? (.ref T) >>= _) _ _ _;refine ae (xC hT Y ?_);have Gn:(pl.map λj=>rawInt (j:Nat)).toArray[os.length]?=none:=by simp[J.1]
  dsimp only;rw[Gn];refine ae (Gj x λh1 k1 x1=>?_);refine Gm (s:={ s with heap:=h1 }) O x1 λh' e k z=>U h' e (k1.extBut.trans k) z
 | tab sl b l J x y=>
  refine vQ (E1:=E) (n:=0) x G X.dat X.fit ?_;show wpAny _ _ (setNext a sl os.length ep >>= _) _ _ _;refine ae (Qu b G X.dat X.fit X.led l ?_);have Go:es[os.length]?=none:=by rw[hn];simp
  rw[y,Go];exact Gm O x U
theorem ag2(hh:A.handled=none)(I a T:Addr)(os:List (Int×Value)):Walks prog w A I [I,a,T] [I] os.length (λi v=>∃e,os[i]?=some e/\v=e.2) (λi h=>vP w I a T os i h) where
 sub:=λb j=>by simp at j;simp[j]
 frame:=λi h h' st O=>by
  obtain⟨o,es,ep,t,xs,U,X,pm,Y,m⟩:=st;exact⟨o,es,ep,t,xs,O a (by simp) o U,X,pm,Y,m.keep λb j o e=>O b (by rcases j with rfl | rfl<;>simp) o e⟩
 item:=λi s Q E hi st G=>by
  refine ag0 st (hZ hi) λh' k fN=>?_;exact G _ h' s.toks ⟨_,hZ hi,rfl⟩ fN λb o j e=>k.extBut b o (λh=>j (by simp[h])) e
 done:=λs Q E st G=>ag1 hh st λh' mi=>G h' s.toks λb o j e=>mi b o (λh=>j (by simp[h])) e
 self:=λi s Q E st G=>by
  obtain⟨o,es,ep,t,xs,U,X,pm,Y,m⟩:=st;have J:s.TypeIs (.ref I) "set_iterator":=by
   cases m with
   | text b e x=>exact x.typeIs
   | draw pl b e x y z=>exact x.typeIs
   | tab sl b l e x y=>exact x.typeIs
  refine Yl J PL (sJ PL J afQ ?_ (afT _));show wpAny _ _ (ret (.ref I)) _ _ s;exact ar ⟨_,rfl,"set_iterator",_,J,BN.lookup,G⟩
theorem Qv:∀{pl:List Nat},(∀j∈pl,j<es.size)->(pl.filterMap (es[·]?)).length=pl.length/\∀(k j:Nat),pl[k]?=some j->(pl.filterMap (es[·]?))[k]?=es[j]?
 | [],_=>⟨rfl,λk j h=>by cases h⟩
 | p::r,h=>by
  have J:p<es.size:=h p (by simp);have G:es[p]?=some es[p]:=qm J;obtain⟨h1,h2⟩:=Qv (pl:=r) λj O=>h j (bY _ O);rw[List.filterMap_cons_some G];refine⟨by simp[h1],λk j z=>?_⟩;cases k with
  | zero=>cases z;exact G.symm
  | succ k=>exact h2 k j z
theorem ag3{Q:VP}(x:cR w s.heap a xs)(hQ:∀I T d h' os,s.heap.objs.size<=I->(∀b o,s.heap.get? b=some o->h'.get? b=some o)->(T=a\/s.heap.objs.size<=T)->vP w I a T os 0 h'->(os.map ix).Perm xs->(∀e∈os,mX w e)->Q (.ref I) { s with heap:=h',drawn:=d }) :
 wpAny (model prog w) A (pyIter (.ref a)) Q E s:=by
 obtain⟨o,es,ep,t,O,X⟩:=id x;have aO:=bH O;refine Yl x.typeIs awK (sJ awK x.typeIs afR ?_ (PySem.F.args_set_iter_1 _));unfold Builtin.«frozenset.__iter__»;refine ae (m:=Builtin.Frozenset.slot0 _ _) (ar ?_);refine ae ?_;unfold Builtin.Frozenset.sizeOf setEntries;refine ae (ae (iK O X.dat X.fit (ar (ar ?_))));refine ae ?_;unfold setDrawn;refine ae (iK O X.dat X.fit ?_);refine ae (m:=setsByText) (ae (qp (ar ?_)));show wpAny _ _ (pure (!fH w && (!t.plain && decide (es.size > 1)))) _ _ _;refine ar ?_;have Y:∀(f:Value) (d:_) (h1:Heap),(∀b o,s.heap.get? b=some o->h1.get? b=some o)->s.heap.objs.size<=h1.objs.size ->
  (∀h',(∀b o,h1.get? b=some o->h'.get? b=some o)->iX h' h1.objs.size a ep es.size f 0->h1.objs.size<h'.objs.size->∃T os,(T=a\/s.heap.objs.size<=T)/\os.Perm es.toList/\Md w h' h1.objs.size a T es ep t os 0) ->
  wpAny (model prog w) A.in1 (setEpoch a >>= λe=>newFields "set_iterator" [f,rawInt 0,.ref a,rawInt es.size,rawInt e] >>= λv=>ret v) (λY s'=>∃v,Y=.done (.ret v)/\∃T r,s'.TypeIs v T/\typeLookup (.type T) "__next__"=pure (some r)/\Q v s') E { s with heap:=h1,drawn:=d }:=by
  intro f d h1 k1 hz hm;refine ae ?_;unfold setEpoch;refine ae (iK (s:={ s with heap:=h1,drawn:=d }) (k1 a o O) X.dat X.fit (ar ?_));refine ae (AQ ?_);have G:iX (h1.push { cls:=.type "set_iterator",data:=.fields #[f,rawInt 0,.ref a,rawInt es.size,rawInt ep] }) h1.objs.size a ep es.size f 0:=⟨_,dN _ rfl,rfl,rfl⟩;obtain⟨T,os,hT,pm,m⟩:=hm _ (λb o e=>cf _ e) G (by rw[sL];exact xH _);refine ar ⟨_,rfl,"set_iterator",_,G.typeIs (s:={ s with heap:=_,drawn:=d }),BN.lookup,?_⟩;refine hQ h1.objs.size T d _ os hz (λb o e=>cf _ (k1 b o e)) hT ⟨o,es,ep,t,xs,cf _ (k1 a o O),X,pm,kF (gB aO hz),m⟩ ((pm.map ix).trans X.perm) λe he=>X.good e (pm.mem_iff.mp he)
 cases hb:(!fH w && (!t.plain && decide (es.size > 1))) with
 | false=>
  rw[ag cW];refine ae (m:=pure (rawInt 0)) (ar ?_);refine Y (rawInt 0) s.drawn s.heap (λb o e=>e) (aG _) λh' k G hl=>?_;cases J:fH w with
  | true=>exact⟨a,_,.inl rfl,Qp _ _,.text J rfl G⟩
  | false=>
   have hs:es.size<=1:=by
    refine Nat.le_of_not_lt λz=>?_;rw[J,X.pl (by omega),bE (by omega:es.size > 1)]at hb;cases hb
   refine⟨a,_,.inl rfl,.refl _,.tab 0 J hs rfl G ?_⟩;have bJ:t.place.size=es.size:=by
    have:=X.fit;unfold SetTable.fits at this;simp only[im,jR]at this;exact this.1
   rcases U:t.place with⟨l⟩
   rw[U]at bJ
   match l,bJ with
   | [],_=>rfl
   | [j],_=>exact(Qs j).1
   | _::_::_,z=>simp at z;omega
 | true=>
  have J:fH w=false:=by cases J:fH w with | false=>rfl | true=>rw[J]at hb;cases hb
  rw[am rfl];refine ae (Qq es.size (List.range es.size) s _ (by simp) λpl d U=>?_);have hsz:es.size<=sizeLine:=xL X.bnd;refine ae (wpAny_newTuple ?_ (by rw[ak,U.length_eq,MQ];exact hsz));have dP:∀j∈pl,j<es.size:=λj hj=>ve.mp (U.mem_iff.mp hj);obtain⟨g1,g2⟩:=Qv dP;refine Y (.ref s.heap.objs.size) d (s.heap.push { cls:=.type "tuple",data:=.seq (pl.map fun(i:Nat)=>rawInt i).toArray }) (λb o e=>cf _ e) (by rw[sL];exact qf _) λh' k G hl=>?_;refine⟨s.heap.objs.size,pl.filterMap (es[·]?),.inr (aG _),?_,.draw pl J ⟨g1,g2⟩ G ⟨_,0,k _ _ (dN _ rfl),rfl⟩ (kF (by rw[sL];exact xH _))⟩;exact(U.filterMap _).trans (by rw[awL])
end
theorem Gq:∀{os:List (Int×Value)},(∀e∈os,mX w e)->StrsAre (os.map (·.2)) (os.map ix)
 | [],_=>.nil
 | e::r,h=>by
  obtain⟨y,tk,rfl⟩:=h e (by simp);exact .cons y tk (Gq λe j=>h e (bY _ j))
section
variable {prog:Program}{A:Around}{E:VP}
theorem ag4{R:Result->Shared->Prop}(hh:A.handled=none)(x:cR w s.heap a xs)(S:Addr)(O:S≠a)(res:Value)(c₀:Nat)(hS:s.heap.get? S=some { cls:=.type "list",data:=.seq #[] c₀ })
 (hR:∀(h':Heap) (tk:Nat) (d:Drawn) (os:List (Int×Value)) (a0:Av) (c':Nat),(∀b o,b≠S->s.heap.get? b=some o->h'.get? b=some o)->h'.get? S=some { cls:=.type "list",dict:=none,data:=.seq a0 c',slots:=#[] }->a0.toList=os.map (·.2)->(os.map ix).Perm xs->(∀e∈os,mX w e)->R (.ok (.ret res)) { s with heap:=h',toks:=tk,drawn:=d }) (hn:xs.length<=sizeLine) :
 wpAny (model prog w) A.in1 (Builtin.List.listExtendWith (.ref S) (.ref a) res) (λa2 s'=>match a2 with | .done f=>R (.ok f) s' | .again c'=>c'.quiet=true/\codeAny (model prog w) A c' R s') (λe s'=>R (.error e) s') s:=by
 unfold Builtin.List.listExtendWith;refine ae (MN (T:="set") x.typeIs ?_);have h1:Builtin.List.listSameRef (.ref S) (.ref a)=false:=by simp[Builtin.List.listSameRef,O]
 have h2:(Value.type "set" == Value.type "list")=false:=by decide
 have h3:(Value.type "set" == Value.type "tuple")=false:=by decide
 simp only[h1,h2,h3,sM,qa,mG];refine ae (ag3 x λI T d hp os hI kp hT st pm gd=>?_);have yE:=bH hS;have ln:os.length=xs.length:=by have:=pm.length_eq;rwa [ak]at this
 have a3:S≠T:=λz=>hT.elim (λq=>O (z.trans q)) λq=>absurd (gB (z▸yE) q) (nX _);have yF:S∉[I,a,T]:=by
  simp only[bc,fz,fA,nZ];exact⟨cS (gB yE hI),O,a3⟩
 have W:=ag2 (prog:=prog) (w:=w) (A:=A.in1) hh I a T os;have a1:∀(h:Heap) (U tk:Nat),vP w I a T os 0 h->(∀b o,b≠S->s.heap.get? b=some o->h.get? b=some o)->h.get? S=some { cls:=.type "list",data:=.seq #[] U } ->
  codeAny (model prog w) A (.builtin "list.extend.loop" ⟨[.ref S,.ref I,res],[]⟩) R { s with heap:=h,toks:=tk,drawn:=d }:=by
  intro h U tk dA hk J;refine codeAny_extend_loopS W.toS (by omega) S yF res os.length 0 _ #[] U rfl (dF _) dA J (ItemsOf.nil _) λs' Qw c' hm iU Y=>?_;rw[Moved.eq_with hm];refine hR s'.heap s'.toks d os Qw c' (λb o G e=>hm.heap b o (λuj=>?_) (hk b o G e)) iU ?_ pm gd
  . rcases bc.mp uj with e' | uj
    . exact G e'
    have aO:=bH e;rw[bw.mp uj]at aO;exact absurd (gB aO hI) (nX _)
  refine List.ext_getElem? λj=>?_;rw[sU,dG]
  by_cases hj:j<os.length
  . have Qx:j<Qw.size:=by rw[Y.1];exact hj
    obtain⟨e,he,hv⟩:=Y.2 j _ (qm Qx);rw[he,qm Qx,hv];rfl
  rw[Yt (by rw[Y.1];omega),awH (by omega)];rfl
 have J:=kp _ _ hS;refine ae (jQ (afV (cR.typeIs (s:={ s with heap:=hp,drawn:=d }) (x.at' λo e=>kp a o e)) ?_));refine Yp (λ_=>?_) (λ_=>ar ⟨sW awM _,a1 _ c₀ _ st (λb o _ e=>kp b o e) J⟩);refine ae (nV (ae ?_));show wpAny _ _ (updateSeq S (·.push .none) >>= λ_=>updateSeq S (·.pop)) _ _ _;refine ae (EI (s:={ s with heap:=hp,drawn:=d }) J rfl ?_);have Qy:=AT (Obj.mapSeq (·.push Value.none)) J rfl;refine EI (hz:=by seq_fits) Qy rfl ?_;have a4:=AT (Obj.mapSeq (·.pop)) Qy rfl;refine ar ⟨sW awM _,a1 _ _ _ (W.frame 0 _ _ st λb G o e=>?_) (λb o G e=>?_) a4⟩
 . have Qz:b≠S:=λh=>yF (h▸G);exact(EC _ _ (gC Qz)).trans ((EC _ _ (gC Qz)).trans e)
 exact(EC _ _ (gC G)).trans ((EC _ _ (gC G)).trans (kp b o e))
theorem ag7{R:Lw->Shared->Prop}(hh:A.handled=none)(x:cR w s.heap a xs)
 (h:∀(h':Heap) (tk:Nat) (d:Drawn) (us:Lw) (ys:Ls),(∀b o,s.heap.get? b=some o->h'.get? b=some o)->StrsAre us ys->ys.Perm xs->R us { s with heap:=h',toks:=tk,drawn:=d }) (hn:xs.length<=sizeLine):wpAny (model prog w) A (collect (.ref a)) R E s:=by
 obtain⟨o,_,_,_,ho,_⟩:=id x;have O:=bH ho;unfold collect;refine ae (wpAny_runValue (qo PyProof.Rows.entry_proto_collect' ?_));rw[vm PySem.F.plain_proto_collect _];show wpAny _ A.in1 (newList [] >>= λl=>again (.builtin "list.__iadd__" ⟨[l,.ref a],[]⟩)) _ _ s;refine ae (AQ (ar ⟨sW awN _,qo PyProof.Rows.entry_list_iadd' ?_⟩));rw[vm awN _];show wpAny _ A.in1 (Builtin.List.listExtendWith (.ref s.heap.objs.size) (.ref a) (.ref s.heap.objs.size)) _ _ _;have a0:=ag4 (prog:=prog) (A:=A) (s:={ s with heap:=s.heap.push { cls:=.type "list",data:=.seq ([]:Lw).toArray } })
  (R:=fun(q:Result) (s':Shared)=>∃(h':Heap) (tk:Nat) (d:Drawn) (os:List (Int×Value)) (j:Av) (c':Nat),q=.ok (.ret (.ref s.heap.objs.size))/\s'={ s with heap:=h',toks:=tk,drawn:=d }/\(∀b o,s.heap.get? b=some o->h'.get? b=some o) /\
   h'.get? s.heap.objs.size=some { cls:=.type "list",dict:=none,data:=.seq j c',slots:=#[] }/\j.toList=os.map (·.2)/\(os.map ix).Perm xs/\∀e∈os,mX w e)
  hh (x.at' λo e=>cf _ e) s.heap.objs.size (kF O) (.ref s.heap.objs.size) 0 (dN _ rfl)
  (λh' tk d os j c' G J e1 e2 e3=>⟨h',tk,d,os,j,c',rfl,rfl,λb o e=>G b o (cS (bH e)) (cf _ e),J,e1,e2,e3⟩) hn
 refine eM a0 (λY s' z=>?_) λe s' z=>?_
 . cases Y with
   | done f=>
    obtain⟨h',tk,d,os,j,c',e,rfl,G,J,e1,e2,e3⟩:=z;cases e;show wpAny _ A (load s.heap.objs.size >>= _) _ _ _;refine ae (wpAny_load (s:={ s with heap:=h',toks:=tk,drawn:=d }) J (ar ?_));exact h h' tk d _ _ G (by rw[e1];exact Gq e3) e2
   | again c₁=>
    refine⟨z.1,qe z.2 λq s₂ y=>?_⟩;obtain⟨h',tk,d,os,j,c',rfl,rfl,G,J,e1,e2,e3⟩:=y;show wpAny _ A (load s.heap.objs.size >>= _) _ _ _;refine ae (wpAny_load (s:={ s with heap:=h',toks:=tk,drawn:=d }) J (ar ?_));exact h h' tk d _ _ G (by rw[e1];exact Gq e3) e2
 obtain⟨_,_,_,_,_,_,U,_⟩:=z;cases U
theorem ag8{r:Addr}{Q:VP}(U:wpAny (model prog w) A.in1 (collect (.ref r)) (λus s'=>∃(ys:Ls) (h':Heap) (tk:Nat) (d:Drawn),s'={ s with heap:=h',toks:=tk,drawn:=d }/\StrsAre us ys/\us.length<64 /\
 ∀(h2:Heap) (out:Lw) (j:Ls) (e:Nat),(∀b o,h'.get? b=some o->h2.get? b=some o)->h2.get? h'.objs.size=some (seqObj "list" out.toArray e)->StrsAre out j->j.Perm ys->sortedS j=true->Q (.ref h'.objs.size) { s with heap:=h2,toks:=tk,drawn:=d }) E s) :
 wpAny (model prog w) A (call (.builtin "sorted") [.ref r]) Q E s:=by
 refine awC kind_sorted plain_sorted entry_sorted (args_sorted1 _) ?_;unfold Builtin.«sorted»;refine ae (m:=checkCount "sorted" 1 1 _) (ar ?_);refine ae (eM U (λus s' a0=>a0.elim λys a3=>a3.elim λh' a4=>a4.elim λtk a5=>a5.elim λd a6=>a6.elim λes a7=>a7.elim λz a8=>a8.elim λud a9=>?_) λ_ _ e=>e);subst es;refine ae (Yh ?_ (by rw[sK];omega));have G:(h'.push (seqObj "list" us.toArray 0)).get? h'.objs.size=some (seqObj "list" us.toArray 0):=dN _ rfl;show wpAny _ _ _ _ _ { s with heap:=h'.push (seqObj "list" us.toArray 0),toks:=tk,drawn:=d };refine ae (jQ (sJ slot_list_sort ⟨_,G,rfl⟩ entry_list_sort (list_sort_treeK strKind_oneLt G z.keysOf (λv₁ v₂ rest e=>keyKind_strs (by rw[<-e];exact z)) ud λJ Y a2=>⟨_,rfl,?_⟩) (args_list_sort _)));obtain⟨j,h1,h2,h3⟩:=sorted_out_str z Y a2;obtain⟨e,he⟩:=sortedHeap_at (vs:=us) (out:=(arrOf J).map (·.2)) G;refine ar ⟨_,rfl,a9 _ ((arrOf J).map (·.2)).toList j e (λb o q=>?_) (by rw[Yi];exact he) h1 h2 h3⟩;have O:=bH q;rw[sortedHeap_old (cS O) (by rw[sL];exact Yj O)];exact cf _ q
end
def mY(w:World)(a:Addr)(xs:Ls):HO:=.ext λh=>cR w h a xs
theorem Gs{H:Hp}{h:Heap}(x:cR w h a xs):b9 P w H h a (mY w a xs):=
 ⟨x,x.elim λo j=>j.elim λ_ G=>G.elim λ_ J=>J.elim λ_ O=>O.elim λe _=>⟨o,e⟩,λ_ _ z k=>z.at' k⟩
theorem Gu{H:Hp}{h:Heap}(ok:cp P w H h)(e:H a=some (mY w a xs)):cR w h a xs:=(show b9 P w H h a (mY w a xs) from ok a _ e).1
section
variable {X:Cx}{ad:Po}{Z:List (Option V)} {H:Hp}
theorem Inv.drew{d:Drawn}(I:Inv X ad Z H s):Inv X ad Z H { s with drawn:=d }:=⟨I.ok,I.os,I.bare,I.base,I.loc,I.cell,I.free,I.freeC,I.pin,I.hok,I.len⟩
theorem QA(O:X.calm=true):fe X (.builtin "sorted") (λvs H Q=>∃p xs,vs=[.ref p]/\H p=some (mY X.w p xs)/\xs.length<64/\∀ys,ys.Perm xs->sortedS ys=true->d8 H (.lst (ys.map V.str)) Q):=by
 intro ad s Z H xs us Q I r h;obtain⟨p,zs,rfl,e,ud,q⟩:=h;obtain⟨u,rfl,ru⟩:=vals1 r;cases ru;refine ag8 (ag7 (I.ok.hd O) (Gu I.hok e) (λh' tk d us ys k hs G=>?_) (lg (by omega)));have hl:=G.length_eq;have yk:=Yk hs;have j:Inv X ad Z H { s with heap:=h',toks:=tk,drawn:=d }:=(I.kept (t':=tk) k).drew;refine⟨ys,h',tk,d,rfl,hs,by omega,λh2 out J e' k2 U Y z yu=>?_⟩;have a0:=z.length_eq;exact⟨.ref h'.objs.size,_,PD (s:={ s with drawn:=d }) j k2 U Y (lg (by omega)),rfl,(q J (z.trans G) yu).at _ (j.hok.fresh (aG _))⟩
end
theorem QB{j:Array Nat}(z:j.toList.Perm (List.range es.size)):(j.filterMap (es[·]?)).toList.Perm es.toList:=by
 rw[Array.toList_filterMap];exact(z.filterMap _).trans (by rw[awL])
theorem ahk(h:n<=252):oW (SetTable.sizeAbove n - 1)/\n<=SetTable.sizeAbove n - 1/\SetTable.sizeAbove n<=256:=by
 have hd:(List.range 253).all (λn=>decide ((SetTable.sizeAbove n - 1=7\/SetTable.sizeAbove n - 1=15\/SetTable.sizeAbove n - 1=31\/SetTable.sizeAbove n - 1=63\/SetTable.sizeAbove n - 1=127\/SetTable.sizeAbove n - 1=255)/\n<=SetTable.sizeAbove n - 1/\SetTable.sizeAbove n<=256))=true:=by decide +kernel
 unfold oW;exact cY (hX.mp hd n (ve.mpr (by omega)))
section
variable {prog:Program}{A:Around}{E:VP}
theorem Gv:eS w { cls:=.type "set",dict:=none,data:=.set #[] 0 (.fresh 0 0 (!fH w)) } #[] 0 (.fresh 0 0 (!fH w)) []:=
 ⟨⟨rfl,rfl,rfl⟩,rfl,(λe j=>by cases j),.nil,.nil,by decide,rfl,rfl,λh=>absurd rfl h,λ_=>.inl rfl⟩
theorem ahl{t:SetTable}{Q:Unit->Shared->Prop}(G:s.heap.get? a=some o)(X:eS w o es ep t xs)(hn:n<=252)(hx:xs.length<=n)
 (q:∀h' o' es' t',Heap.SameBut a s.heap h'->h'.get? a=some o'->eS w o' es' (ep+1) t' xs->n<=t'.mask->Q () { s with heap:=h' }):wpAny (model prog w) A (setRelay a n) Q E s:=by
 obtain⟨m1,m2,m3⟩:=ahk hn;unfold setRelay;refine ae (iK G X.dat X.fit ?_);dsimp only;have sl:¬(SetTable.sizeAbove n > sizeLine):=by rw[sK];omega
 rw[ag sl];have hz:=X.size;have hsz:(es.map (·.1)).size=es.size:=Array.size_map;obtain⟨t',J,e,Y,O,hl,dP,U⟩:=Qj (mask:=SetTable.sizeAbove n - 1) (f:=t.finger) (m:=t.movedTo (SetTable.sizeAbove n - 1)) (led:=t.led) (plain:=t.plain) (hs:=es.map (·.1)) m1 (by rw[hsz];omega);rw[hsz]at Y O;have e':t.relaid (es.map (·.1)) n=some (t',J):=e;rw[e'];have pm:=QB Y;have j:(J.filterMap (es[·]?)).size=es.size:=by rw[<-eZ,pm.length_eq,eZ]
 refine ae ?_;show wpAny _ _ (if ((J.filterMap (es[·]?)).size != es.size)=true then _ else _) _ _ _;rw[ag (by rw[j];simp)];refine ar ?_;dsimp only;refine AV G X.dat ?_ (by rw[j];exact xL X.bnd);refine q _ _ _ t' (lO ..) (eS.store G X.ex X.dat) ⟨X.ex,rfl,λe he=>X.good e (pm.mem_iff.mp he),(pm.map ix).trans X.perm,X.nd,X.len,by rw[j];exact O,hl.trans X.led,λz=>dP.trans (X.pl (by rw[<-j];exact z)),λ_=>by rw[U];exact m1⟩ (by rw[U];exact m2)
theorem QC{Q:Unit->Shared->Prop}(x:cR w s.heap a xs)(hn:xs.length+n<=126)
 (q:∀h' o' es' U t',Heap.SameBut a s.heap h'->h'.get? a=some o'->eS w o' es' U t' xs->(t'.fill=0->n<=t'.mask)->Q () { s with heap:=h' }):wpAny (model prog w) A (setRoomFor a n) Q E s:=by
 obtain⟨o,es,ep,t,G,X⟩:=x;have j:t.place.size=xs.length:=by
  have:=X.fit;unfold SetTable.fits at this;simp only[im,jR]at this;rw[this.1,X.size]
 unfold setRoomFor;refine ae (iK G X.dat X.fit ?_);show wpAny _ _ (match t.roomFor n with | some Y=>setRelay a Y | x=>pure PUnit.unit) _ _ _;unfold SetTable.roomFor
 by_cases J:(t.fill+n) * 5 >= t.mask * 3
 . rw[am J];refine ahl G X (by rw[j];omega) (by rw[j];omega) λh' o' es' t' k h1 h2 O=>q h' o' es' _ t' k h1 h2 λ_=>by rw[j]at O;omega
 rw[ag J];exact ar (q s.heap o es ep t (EH _ _) G X λz=>by rw[z]at J;omega)
end
section
variable {prog:Program}{A:Around}{E:VP}{f:Addr}
theorem ahm{t:SetTable}{Q:Array (Int×Value)->Shared->Prop}(G:s.heap.get? a=some o)(X:eS w o es ep t xs)(c:fH w=true\/es.size<=1)(q:∀z:Array (Int×Value),z.toList.Perm es.toList->Q z s) :
 wpAny (model prog w) A (setWalk a) Q E s:=by
 unfold setWalk;refine ae (iK G X.dat X.fit ?_);refine ae (m:=setsByText) (ae (qp (ar ?_)));cases j:fH w with
 | true=>
  have j:w.params.followText "set-order"=true:=j;show wpAny _ _ (if w.params.followText "set-order"=true then _ else _) _ _ s;rw[am j];exact ae (qp (ar (q _ (Qp _ _))))
 | false=>
  have hs:es.size<=1:=by
   rcases c with c | c
   . rw[c]at j;cases j
   exact c
  have j:w.params.followText "set-order"=false:=j;show wpAny _ _ (if w.params.followText "set-order"=true then _ else _) _ _ s;rw[ag (by rw[j];exact cW)];show wpAny _ _ (if (!t.plain && decide (es.size > 1))=true then _ else _) _ _ s;rw[ag (by rw[cy (by omega),vg];exact cW)];show wpAny _ _ ((if (!t.led && decide (es.size > 1))=true then _ else _) >>= _) _ _ s;rw[ag (by rw[cy (by omega),vg];exact cW)];exact ae (ar (ar (q _ (.refl _))))
theorem ahn{G:List Addr}{Q:Bool->Shared->Prop}(h:∀b∈G,∃xs,cR w s.heap b xs)(q:Q true s):wpAny (model prog w) A (setsQuiet G) Q E s:=by
 unfold setsQuiet;refine ae (xB _ (λrest r s'=>r.1=none/\s'=s/\∀b∈rest,∃xs,cR w s.heap b xs) _ ?_ ?_ _ _ ⟨rfl,rfl,h⟩)
 . rintro b rest r s' ⟨e1,rfl,U⟩;obtain⟨xs,o,es,ep,t,ho,X⟩:=U b (by simp);unfold setEntries;refine ae (ae (iK ho X.dat X.fit (ar ?_)));refine ae (wpAny_forIn_array' _ (λJ j z=>j.1=none/\z=s'/\∀e∈J,mX w e) _ ?_ ?_ _ _ ⟨rfl,rfl,X.good⟩)
   . rintro e J j z ⟨e3,rfl,O⟩;obtain⟨y,tk,rfl⟩:=O e (by simp);exact ar ⟨rfl,rfl,λe he=>O e (bY _ he)⟩
   rintro⟨j,u2⟩ z ⟨e3,rfl,_⟩;dsimp only at e3;subst e3;exact ar ⟨rfl,rfl,λb Y=>U b (bY _ Y)⟩
 rintro⟨r,u⟩ s' ⟨e1,rfl,_⟩;dsimp only at e1;subst e1;exact ar q
theorem aho{t:SetTable}{U:Ls}{Q:Array (Int×Value)->Shared->Prop}(J:s.heap.get? a=some o)(X:eS w o es ep t U)(y:cR w s.heap f xs)(dg:f≠a)
 (q:∀h' (j:Array (Int×Value)),Heap.SameBut f s.heap h'->cR w h' f xs->j.toList.Perm es.toList->Q j { s with heap:=h' }):wpAny (model prog w) A (setWalkUnseen a [f] (some f)) Q E s:=by
 unfold setWalkUnseen;refine ae (iK J X.dat X.fit ?_);refine ae (m:=setsByText) (ae (qp (ar ?_)));show wpAny _ _ (if (fH w || (t.led && t.plain) || decide (es.size<=1))=true then _ else _) _ _ _
 by_cases c:(fH w || (t.led && t.plain) || decide (es.size<=1))=true
 . rw[am c];refine ahm J X ?_ λj pm=>q s.heap j (EH _ _) y pm
   by_cases hz:es.size<=1
   . exact .inr hz
   rw[X.pl (by omega),cy hz,vg,sM,sM]at c;exact .inl c
 rw[ag c];refine ae (ahn (λb hb=>?_) ?_)
 . rcases bc.mp hb with rfl | hb
   . exact⟨U,o,es,ep,t,J,X⟩
   rw[bw.mp hb];exact⟨xs,y⟩
 show wpAny _ _ (if (!true)=true then _ else _) _ _ _;rw[ag (by decide)];refine ae (nV ?_);obtain⟨of,Y,a0,O,G,F⟩:=id y;show wpAny _ _ (setState f >>= _) _ _ _;refine ae (iK G F.dat F.fit ?_);dsimp only;split
 . refine ae (AV G F.dat ?_ (xL F.bnd));refine ar (q _ es (lO ..) ⟨_,Y,_,_,eS.store G F.ex F.dat,F.ex,rfl,F.good,F.perm,F.nd,F.len,?_,?_,?_,?_⟩ (.refl _))
   . have:=F.fit;cases O;exact this
   . show(O.led && t.led)=_;rw[F.led,X.led,Yv]
   . intro z;show(O.plain && t.plain)=false;rw[F.pl z,Ev]
   exact F.msk
 exact ar (q s.heap es (EH _ _) y (.refl _))
theorem QF{a0:Sem Unit}{j:Array (Int×Value)}{t:SetTable}{O:Ls}{Q:Unit->Shared->Prop}(ho:s.heap.get? a=some o)(X:eS w o j ep t O)(y:cR w s.heap f xs)(U:f≠a)(hz:xs.length+O.length<=126)
 (hE:∀(s':Shared) (Q:Unit->Shared->Prop),s'.heap.get? a=some o->Q () s'->wpAny (model prog w) A a0 Q E s')
 (q:∀h' ys,Heap.SameBut f s.heap h'->cR w h' f ys->(∀z,z∈ys↔z∈xs\/z∈O)->Q () { s with heap:=h' }):wpAny (model prog w) A (setMerge f a a0) Q E s:=by
 have ze:=X.size;unfold setMerge;rw[ag (by simpa using U)];refine ae (iK ho X.dat X.fit ?_);dsimp only
 by_cases G:j.isEmpty=true
 . rw[am G];have h0:O=[]:=AU.mp (by rw[<-ze];simpa using G);exact ar (q s.heap xs (EH _ _) y λz=>by rw[h0];simp)
 rw[ag G];refine ae (QC (n:=j.size) y (by rw[ze];exact hz) λh1 of dz rc t1 k1 e1 F hm=>?_);have mZ:h1.get? a=some o:=by rw[k1.2 a (gC U)];exact ho
 refine ae (iK (s:={ s with heap:=h1 }) e1 F.dat F.fit ?_);dsimp only;have bJ:t1.place.size=xs.length:=by
  have:=F.fit;unfold SetTable.fits at this;simp only[im,jR]at this;rw[this.1,F.size]
 have QG:j.size≠0:=λz=>G (by simpa using z);have PX:t1.fill=0->xs=[]/\dz.size=0:=λz=>by
  unfold SetTable.fill at z;have:xs.length=0:=by omega
  exact⟨AU.mp this,by rw[F.size,this]⟩
 by_cases B0:t1.fill=0
 . obtain⟨hx,FW⟩:=PX B0;unfold SetTable.road;rw[ag (by rw[B0];simp)]
   by_cases hr:(t1.mask == t.mask && t.dummies.isEmpty)=true
   . rw[am hr];dsimp only;refine AV e1 F.dat ?_ (xL X.bnd);refine q _ O (k1.trans (lO ..)) ⟨_,j,_,_,eS.store e1 F.ex F.dat,F.ex,rfl,X.good,X.perm,X.nd,X.len,?_,?_,?_,λz=>absurd z QG⟩ λz=>by rw[hx];simp
     . have:=X.fit;cases t;exact this
     . show(t1.led && t.led)=_;rw[F.led,X.led,Yv]
     intro z;show(t1.plain && t.plain)=false;rw[X.pl z,vg]
   rw[ag hr];dsimp only;have hsz:(j.map (·.1)).size=j.size:=Array.size_map;obtain⟨t',a1,e,hp,hf,hl,dP,B1⟩:=Qj (mask:=t1.mask) (f:=t1.finger) (m:=t1.moves) (led:=t1.led && t.led) (plain:=t1.plain && t.plain) (hs:=j.map (·.1)) (F.msk FW) (by rw[hsz];exact hm B0);rw[hsz]at hp hf;rw[e];have pm:=QB hp;have Y:(a1.filterMap (j[·]?)).size=j.size:=by rw[<-eZ,pm.length_eq,eZ]
   refine ae ?_;show wpAny _ _ (if ((a1.filterMap (j[·]?)).size != j.size)=true then _ else _) _ _ _;rw[ag (by rw[Y];simp)];refine ar ?_;dsimp only;refine AV e1 F.dat ?_ (by rw[Y];exact xL X.bnd);refine q _ O (k1.trans (lO ..)) ⟨_,_,_,t',eS.store e1 F.ex F.dat,F.ex,rfl,λe G=>X.good e (pm.mem_iff.mp G),(pm.map ix).trans X.perm,X.nd,X.len,by rw[Y];exact hf,?_,?_,λz=>absurd (Y.symm.trans z) QG⟩ λz=>by rw[hx];simp
   . rw[hl,F.led,X.led,Yv]
   intro z;rw[dP,X.pl (by rw[<-Y];exact z),vg]
 unfold SetTable.road;rw[am (by simpa using B0)];dsimp only;refine ae (aho (s:={ s with heap:=h1 }) mZ X ⟨of,dz,rc,t1,e1,F⟩ U λh2 a2 k2 y2 pm=>?_);have yH:h2.get? a=some o:=by rw[k2.2 a (gC U)];exact mZ
 refine ae (wpAny_forIn_array' _ (λrest _ s'=>∃J ys,s'={ s with heap:=J }/\Heap.SameBut f s.heap J/\cR w J f ys/\(∀e∈rest,mX w e)/\ys.length+rest.length<=252/\∀z,(z∈ys\/z∈rest.map ix)↔(z∈xs\/z∈O)) _ ?_ ?_ _ _ ⟨h2,xs,rfl,k1.trans k2,y2,λe G=>X.good e (pm.mem_iff.mp G),?_,λz=>?_⟩)
 . rintro e rest r s' ⟨J,ys,rfl,k3,y3,hg,hl,uj⟩;obtain⟨z,tk,rfl⟩:=hg e (by simp);have B2:J.get? a=some o:=by rw[k3.2 a (gC U)];exact ho
   rw[bU]at hl;refine ae (jQ (Gh (s:={ s with heap:=J }) y3 (by omega) λb h4 k4 y4=>?_));have B3:h4.get? a=some o:=by rw[k4.2 a (gC U)];exact B2
   refine ae (hE _ _ B3 ?_);refine ae (iK (s:={ s with heap:=h4 }) B3 X.dat X.fit ?_);dsimp only;rw[ag (by simp)];refine ar ⟨h4,iW ys z,rfl,k3.trans k4,y4,λe G=>hg e (bY _ G),by have:=BV ys z;omega,λu=>?_⟩;rw[<-uj u,Gf,bS,bc];have ek:ix (lV w (.inr z),Value.str z tk)=z:=rfl;rw[ek];constructor
   . rintro((p | p) | p)
     . exact .inl p
     . exact .inr (.inl p)
     exact .inr (.inr p)
   rintro(p | p | p)
   . exact .inl (.inl p)
   . exact .inl (.inr p)
   exact .inr p
 . rintro r s' ⟨J,ys,rfl,k3,y3,_,_,uj⟩;exact ar (q J ys k3 y3 λz=>by rw[<-uj z];simp)
 . have e9:j.toList.length=j.size:=eZ;have e8:=pm.length_eq;omega
 have:z∈a2.toList.map ix↔z∈O:=((pm.map ix).trans X.perm).mem_iff;rw[this]
end
theorem jD[DecidableEq α]:∀{xs ys:List α},xs.Nodup->(∀z∈xs,z∈ys)->xs.length<=ys.length
 | [],ys,_,_=>dF _
 | x::xs,ys,hn,h=>by
  have G:=h x (by simp);have j:=qh.mp hn;have:=jD (xs:=xs) (ys:=ys.erase x) j.2 λz hz=>(List.mem_erase_of_ne (λe=>j.1 (by rw[<-e];exact hz))).mpr (h z (bY _ hz));rw[List.length_erase_of_mem G]at this;have J:0<ys.length:=awO G;rw[bU];omega
section
variable {prog:Program}{A:Around}{E:VP}{f:Addr}
theorem Gx{v:Value}{Q:Bool->Shared->Prop}(j:s.TypeIs v "set")(q:Q true s):wpAny (model prog w) A (Builtin.Frozenset.isAnySet v) Q E s:=by
 unfold Builtin.Frozenset.isAnySet;show wpAny _ _ (isInstance v (.type "set") >>= _) _ _ _;exact ae (nW (T:="set") (b:=true) j Yw (ar q))
theorem ahp{v:Value}{Q:Bool->Shared->Prop}(j:s.TypeIs v "dict")(q:Q false s):wpAny (model prog w) A (Builtin.Frozenset.isAnySet v) Q E s:=by
 unfold Builtin.Frozenset.isAnySet;show wpAny _ _ (isInstance v (.type "set") >>= _) _ _ _;refine ae (nW (T:="dict") (b:=false) j PySem.F.sub_dict_set ?_);exact nW (T:="dict") (b:=false) j PySem.F.sub_dict_frozenset q
theorem ahq{Q:VP}(h:Q (.ref s.heap.objs.size) { s with heap:=s.heap.push { cls:=.type "set",dict:=none,data:=.set #[] 0 (.fresh 0 0 (!fH w)) } }):wpAny (model prog w) A (newSet (.type "set")) Q E s:=by
 unfold newSet;refine ae (m:=setsByText) (ae (qp (ar ?_)));exact AQ h
theorem ahr{Q:VP}(x:cR w s.heap a xs)(hz:xs.length<=126)(q:∀h' ys,(∀b o,s.heap.get? b=some o->h'.get? b=some o)->s.heap.objs.size<h'.objs.size->cR w h' s.heap.objs.size ys->(∀z,z∈ys↔z∈xs)->Q (.ref s.heap.objs.size) { s with heap:=h' }) :
 wpAny (model prog w) A (Builtin.Frozenset.copyOf a) Q E s:=by
 obtain⟨o,es,ep,t,j,X⟩:=id x;have G:=bH j;unfold Builtin.Frozenset.copyOf;refine ae ?_;unfold Builtin.Frozenset.baseOf;refine ae (nW (T:="set") (b:=true) x.typeIs Yw (ar ?_));rw[am rfl];refine ae (ahq ?_);refine ae (m:=Builtin.Frozenset.addrOf _) (ar ?_);have U:=cf { cls:=.type "set",dict:=none,data:=.set #[] 0 (.fresh 0 0 (!fH w)) } j;refine ae (QF (s:={ s with heap:=_ }) U X ⟨_,_,_,_,dN _ rfl,Gv⟩ (kF G) (by simpa using hz) (λs' Q _ h=>ar h) λh' ys k y O=>ar ?_);refine q h' ys (λb o e=>?_) ?_ y λz=>by rw[O z];simp
 . rw[k.2 b (cS (bH e))];exact cf _ e
 obtain⟨o',_,_,_,J,_⟩:=y;exact bH J
theorem ahs:entryFor table "set.__or__"=some Builtin.«frozenset.__or__»:=MM (id':="frozenset.__or__") (by kernel_rfl) rfl (by decide +kernel) (by kernel_rfl)
theorem aht{l r:Addr}{Q:VP}(x:cR w s.heap l xs)(y:cR w s.heap r ys)(U:l≠r)(hz:xs.length+ys.length<=126)
 (q:∀h' zs,(∀b o,s.heap.get? b=some o->h'.get? b=some o)->cR w h' s.heap.objs.size zs->(∀z,z∈zs↔z∈xs\/z∈ys)->Q (.ref s.heap.objs.size) { s with heap:=h' }) :
 wpAny (model prog w) A (call (.builtin "set.__or__") [.ref l,.ref r]) (λv s'=>v≠.notImplemented/\Q v s') E s:=by
 refine sJ PySem.F.slot_set_or x.typeIs ahs ?_ (PySem.F.args_set_or_2 _ _);unfold Builtin.«frozenset.__or__»;show wpAny _ _ (Builtin.Frozenset.slot1 "__or__" ⟨[.ref l,.ref r],[]⟩ >>= _) _ _ _;refine ae (m:=Builtin.Frozenset.slot1 _ _) (ar ?_);dsimp only;rw[ag cW];dsimp only;refine ae ?_;show wpAny _ _ (Builtin.Frozenset.isAnySet (.ref l) >>= _) _ _ _;refine ae (Gx x.typeIs ?_);refine Gx y.typeIs ?_;show wpAny _ _ (if (!true)=true then _ else _) _ _ _;rw[ag (by decide)];refine ae (m:=Builtin.Frozenset.addrOf _) (ar ?_);refine ae ?_;show wpAny _ _ (Builtin.Frozenset.copyOf l >>= _) _ _ _;obtain⟨ox,_,_,_,a0,_⟩:=id x;have a2:=bH a0;refine ae (ahr x (by omega) λh1 zs k1 yI O G=>?_);show wpAny _ _ (if (Value.ref r != Value.ref l)=true then _ else _) _ _ _;rw[am (by simp[bne];exact λz=>U z.symm)];have J:=y.at' (h':=h1) λo e=>k1 _ o e;obtain⟨o,es,ep,t,j,X⟩:=id J;obtain⟨oy,_,_,_,a1,_⟩:=id y;have Y:=bH a1;have lz:zs.length<=xs.length:=by
  obtain⟨_,_,_,_,_,σ⟩:=O;obtain⟨_,_,_,_,_,X0⟩:=x;exact jD σ.nd λz hz=>(G z).mp hz
 refine ae (m:=Builtin.Frozenset.addrOf _) (ar (ae (jQ ?_)));unfold Builtin.Frozenset.updateFrom;refine ae (Gx (s:={ s with heap:=h1 }) J.typeIs ?_);rw[am rfl];refine ae (m:=Builtin.Frozenset.addrOf _) (ar ?_);refine ae (m:=setEpoch r) (wpAny_setEpoch_of (s:={ s with heap:=h1 }) j X.dat X.fit ?_);refine QF (s:={ s with heap:=h1 }) j X O (kF Y) (by omega) (λs' Q' e q'=>?_) λh2 us k2 u2 m2=>?_
 . unfold Builtin.Frozenset.unchanged;refine ae (wpAny_setEpoch_of e X.dat X.fit ?_);rw[ag (by simp)];exact ar q'
 refine ar (ar ⟨_,rfl,(by intro z;cases z),q h2 us (λb o e=>?_) u2 λz=>by rw[m2 z,G z]⟩);rw[k2.2 b (cS (bH e))];exact k1 b o e
def iy(w:World):Obj:={ cls:=.type "set",dict:=none,data:=.set #[] 0 (.fresh 0 0 (!fH w)) }
theorem ahx(v:Value){Q₁:VP}(h:Q₁ (.ref s.heap.objs.size) { s with heap:=s.heap.push (iy w) }):codeAny (model prog w) A (.call (.builtin "set.__new__") ⟨[.type "set",v],[]⟩) (wants Q₁ E) s:=by
 refine codeAny_of_tree ?_;show wpAny _ A.in1 (do { checkBuiltinCall "set.__new__" ⟨[.type "set",v],[]⟩;again (.builtin "set.__new__" ⟨[.type "set",v],[]⟩) }) _ _ s;refine ae (wpAny_of_eq (PySem.F.newCall_set_1 v) (ar ⟨sW awP _,qo PySem.F.entry_set_new ?_⟩));rw[vm awP _];unfold Builtin.«set.__new__» Builtin.Frozenset.newClass;have j:=Yw;obtain⟨z,g,d,tk,os⟩:=s;dsimp only
 wp_walk
 refine qp (ar ?_);dsimp only;simp only[newObj];exact ae (wpAny_alloc (ar (ar h)))
theorem QH{v:Value}{Q:VP}(hq:∀J:Around,J.handled=A.handled->wpAny (model prog w) J (Builtin.Frozenset.updateFrom "set.__init__" s.heap.objs.size v) (λ_ s'=>Q (.ref s.heap.objs.size) s') E { s with heap:=s.heap.push (iy w) }) :
 wpAny (model prog w) A (call (.type "set") [v]) Q E s:=by
 obtain⟨c,tl,a2⟩:=vn.mro;have a3:=vn.made;have a1:=vn.sub;refine Ex (codeAny_of_tree ?_);show wpAny _ _ (callAny (.type "set") _) _ _ _;refine ar ⟨Code.quiet_builtin _ (by decide +kernel),qo PySem.F.entry_type_call ?_⟩;rw[Around.under_plain (weight_type_call_type "set" [v] []) rfl];have h1:=vn.notType;have h2:=vn.canCreate;have hct:=PySem.F.typeCall_set_1 v
 repeat (any_goals (first | assumption | wp_step))
 refine qe (ahx v (E:=E) (Q₁:=λobj Y=>obj=.ref s.heap.objs.size/\Y={ s with heap:=s.heap.push (iy w) }) ⟨rfl,rfl⟩) λr Y G=>?_;cases r with
 | error e=>exact G
 | ok fl=>
  cases fl with
  | ret obj=>
   obtain⟨rfl,rfl⟩:=G;have O:(s.heap.push (iy w)).get? s.heap.objs.size=some (iy w):=dN _ rfl;have hT:Shared.TypeIs { s with heap:=s.heap.push (iy w) } (.ref s.heap.objs.size) "set":=⟨_,O,rfl⟩;have a6:=vn.init.lookup;have a5:=vn.init.bind (.ref s.heap.objs.size)
   repeat (any_goals (first | assumption | wp_step))
   refine qe (Yr (R:=wants (λr s₂=>r=.none/\Q (.ref s.heap.objs.size) s₂) E) vn.init.plain PySem.F.entry_set_init (check_set_init_1 hT ?_)) λr₂ s₂ j=>?_
   . unfold Builtin.«set.__init__» noKeywords;have U:=hq;generalize a4:Builtin.Frozenset.updateFrom=UF at U ⊢;have iU:(s.heap.push (iy w)).get? s.heap.objs.size=some { cls:=.type "set",dict:=none,data:=.set #[] 0 (.fresh 0 0 (!fH w)) }:=O
     wp_walk
     exact eM (U _ rfl) (λ_ s' z=>ar ⟨rfl,z⟩) λ_ _ e=>e
   cases r₂ with
   | error e=>exact j
   | ok a0=>
    cases a0 with
    | ret r=>
     obtain⟨rfl,z⟩:=j
     repeat (any_goals (first | assumption | wp_step))
    | _=>exact j.elim
  | _=>exact G.elim
theorem ahA{v:Value}{Q:Bool->Shared->Prop}(j:s.TypeIs v "list")(q:Q false s):wpAny (model prog w) A (Builtin.Frozenset.isAnySet v) Q E s:=by
 unfold Builtin.Frozenset.isAnySet;show wpAny _ _ (isInstance v (.type "set") >>= _) _ _ _;refine ae (nW (T:="list") (b:=false) j PySem.F.sub_list_set ?_);exact nW (T:="list") (b:=false) j PySem.F.sub_list_frozenset q
theorem ahB{R:Result->Shared->Prop}{I S:Addr}{fp Y:List Addr}{P:Nat->Value->Prop}{St:Nat->Heap->Prop}(W:Walks prog w A.in1 I fp Y n P St)(yF:S∉fp)(hv:∀i v,P i v->∃y tk,ys[i]?=some y/\v=.str y tk)(j:n<=500)(hn:ys.length=n) :
 ∀(k i:Nat) (s:Shared) (xs:Ls),n - i=k->i<=n->St i s.heap->cR w s.heap S xs->xs.length<=i->(∀h' tk zs,(∀b o,b≠S->b∉Y->s.heap.get? b=some o->h'.get? b=some o)->cR w h' S zs->(∀z,z∈zs↔z∈xs\/z∈ys.drop i)->R (.ok (.ret .none)) { s with heap:=h',toks:=tk }) ->
  codeAny (model prog w) A (.builtin "set.update.loop" ⟨[.ref S,.ref I],[]⟩) R s:=by
 have QI:S∉Y:=λh=>yF (W.sub _ h);intro k
 induction k with
 | zero=>
  intro i s xs hk hi J U hl O;have gQ:i=n:=by omega
  subst gQ;refine qo awQ ?_;rw[vm Yx _];show wpAny _ A.in1 (pyNext (.ref I) >>= _) _ _ s;refine ae (W.done s _ _ J λh' tk G=>?_);show wpAny _ A.in1 (ret Value.none) _ _ _;exact ar (O h' tk xs (λb o _ j e=>G b o j e) (U.at' λo e=>G S o QI e) λz=>by rw[List.drop_eq_nil_of_le (by omega)];simp)
 | succ k ih=>
  intro i s xs hk hi J U hl O;have aO:i<n:=by omega
  refine qo awQ ?_;rw[vm Yx _];show wpAny _ A.in1 (pyNext (.ref I) >>= _) _ _ s;refine ae (W.item i s _ _ aO J λv h1 QJ hP yJ G=>?_);obtain⟨y,tk,hy,rfl⟩:=hv i v hP;have iU:cR w h1 S xs:=U.at' λo e=>G S o QI e;show wpAny _ A.in1 (holding [Value.str y tk] (setAdd S (.str y tk)) >>= _) _ _ _;refine ae (jQ ?_);unfold setAdd;refine jQ (ae ((cz prog w).pyHash (k:=.inr y) (sY prog w y tk) ?_));refine Gh (s:={ s with heap:=h1,toks:=QJ+1 }) iU (by omega) λb h2 k2 S2=>?_;have ld:=BV xs y;have hd:ys.drop i=y::ys.drop (i+1):=by
   obtain⟨vS,e⟩:=cT.mp hy;rw[<-e];exact MG vS
  refine ar ⟨sW Yx _,ih (i+1) { s with heap:=h2,toks:=QJ+1 } (iW xs y) (by omega) aO (W.frame _ h1 _ yJ λb j o e=>?_) S2 (by omega) λh' m9 zs kk σ mem=>?_⟩
  . rw[k2.2 b (λh:b=S=>yF (by rw[<-h];exact j))];exact e
  refine O h' m9 zs (λb o j hw e=>kk b o j hw ?_) σ λz=>?_
  . rw[k2.2 b j];exact G b o hw e
  rw[mem z,Gf,hd,bc];constructor
  . rintro((p | p) | p)
    . exact .inl p
    . exact .inr (.inl p)
    exact .inr (.inr p)
  rintro(p | p | p)
  . exact .inl (.inl p)
  . exact .inl (.inr p)
  exact .inr p
theorem ahC{l:Addr}{j:Av}{Q:VP}(hh:A.handled=none)(U:s.heap.IsList l j)(hv:∀(i:Nat) (v:Value),j[i]?=some v->∃y tk,ys[i]?=some y/\v=Value.str y tk)(O:j.size<=500)(hn:ys.length=j.size)
 (q:∀h' tk zs,(∀b o,s.heap.get? b=some o->h'.get? b=some o)->cR w h' s.heap.objs.size zs->(∀z,z∈zs↔z∈ys)->Q (.ref s.heap.objs.size) { s with heap:=h',toks:=tk }):wpAny (model prog w) A (call (.type "set") [.ref l]) Q E s:=by
 refine QH λJ hA=>?_;have G:(s.heap.push (iy w)).IsList l j:=U.push _;obtain⟨ol,B4,mq,nl,a1⟩:=id U;have Y:l<s.heap.objs.size:=bH B4;unfold Builtin.Frozenset.updateFrom;refine ae (ahA (s:={ s with heap:=_ }) G.typeIs ?_);rw[ag cW];refine ae (MN (s:={ s with heap:=_ }) G.typeIs ?_);rw[ag (by decide)];refine ae (Mu (s:={ s with heap:=_ }) G ?_);refine ae (wpAny_runValue ?_);have hz:(s.heap.push (iy w)).objs.size=s.heap.objs.size+1:=sL _ _;have a0:l≠(s.heap.push (iy w)).objs.size:=by rw[hz];exact cS (Yj Y)
 refine ahB (EJ (A:=J.in1) (by rw[show J.in1.handled=J.handled from rfl,hA,hh]) _ l a0 j) (S:=s.heap.objs.size) ?_ hv O hn (j.size - 0) 0 _ [] (by omega) (dF _) ⟨⟨_,dN _ rfl,rfl,rfl⟩,G.push _⟩
  ⟨_,_,_,_,cf _ (dN _ rfl),Gv⟩ (dF _) λh' tk zs k σ m=>?_
 . simp only[bc,fz,fA,nZ];exact⟨by rw[hz];exact cS (xH _),kF Y⟩
 show wpAny _ _ _ _ _ _;refine ar (q h' tk zs (λb o e=>k b o (cS (bH e)) (λO=>?_) (cf _ (cf _ e))) σ λz=>by rw[m z];simp);have:=bH e;rw[bw.mp O,hz]at this;exact absurd (Nat.lt_of_succ_lt this) (nX _)
end
section
variable {prog:Program}{A:Around}{E:VP}
theorem ahE{d:Addr}{es:Array DictEntry}{ks:Ls}{Q:VP}(ho:s.heap.get? d=some o)(hc:o.cls=.type "dict")(hd:o.data=.dict es ep)(hm:(d == sysModules)=false)(hn:ks.length=es.size)(hb:ks.length<=63)
 (hk:∀(i:Nat) (e:DictEntry),es[i]?=some e->∃y tk,ks[i]?=some y/\e.key=Value.str y tk/\e.hash=lV w (.inr y))
 (q:∀h' zs,(∀b o,s.heap.get? b=some o->h'.get? b=some o)->cR w h' s.heap.objs.size zs->(∀z,z∈zs↔z∈ks)->Q (.ref s.heap.objs.size) { s with heap:=h' }):wpAny (model prog w) A (call (.type "set") [.ref d]) Q E s:=by
 refine QH λA' hA=>?_;have aO:=bH ho;have G:=cf (iy w) ho;have Y:Shared.TypeIs { s with heap:=s.heap.push (iy w) } (.ref d) "dict":=⟨_,G,hc⟩;unfold Builtin.Frozenset.updateFrom;refine ae (ahp Y ?_);rw[ag cW];refine ae (MN Y ?_);rw[am (by decide)];refine ae (nV ?_);refine ae (m:=Builtin.Frozenset.addrOf _) (ar ?_);rw[hm,ag cW];refine ae (wpAny_dictEpoch (s:={ s with heap:=s.heap.push (iy w) }) G hd ?_);refine ae (ML (s:={ s with heap:=s.heap.push (iy w) }) G hd ?_);have a0:cR w (s.heap.push (iy w)) s.heap.objs.size []:=⟨_,_,_,_,dN _ rfl,Gv⟩;refine ae (QC (s:={ s with heap:=s.heap.push (iy w) }) (n:=es.size) a0 (by rw[<-hn];simpa using b8 hb (by decide)) λh1 o1 dz rc t1 k1 e1 X1 _=>?_);have J:d≠s.heap.objs.size:=cS aO;have yH:h1.get? d=some o:=by rw[k1.2 d J];exact G
 refine ae (ML (s:={ s with heap:=h1 }) yH hd ?_);refine ae ?_;rw[Std.Legacy.Range.forIn_eq_forIn_range'];simp only[Std.Legacy.Range.size,Nat.sub_zero,Nat.add_sub_cancel,Nat.div_one];refine xB _ (λrest _ s'=>∃h' i zs,s'={ s with heap:=h' }/\rest=List.range' i (es.size - i)/\i<=es.size/\Heap.SameBut s.heap.objs.size (s.heap.push (iy w)) h'/\cR w h' s.heap.objs.size zs/\zs.length<=i/\∀z,z∈zs↔z∈ks.take i) _ ?_ ?_ _ _ ⟨h1,0,[],rfl,by simp,dF _,k1,⟨_,_,_,_,e1,X1⟩,aG _,λz=>by simp⟩
 . rintro x rest b s' ⟨h',i,zs,rfl,j,hi,kk,σ,hl,mem⟩;have U:i<es.size:=by
    rcases Nat.lt_or_ge i es.size with h | h
    . exact h
    rw[Nat.sub_eq_zero_of_le h]at j;simp at j
   obtain⟨rfl,Gz⟩:x=i/\rest=List.range' (i+1) (es.size - (i+1)):=by
    have e:es.size - i=(es.size - (i+1))+1:=by omega
    rw[e,List.range'_succ]at j;injection j with h1 h2;exact⟨h1,h2⟩
   have O:h'.get? d=some o:=by rw[kk.2 d J];exact G
   refine ae (ML (s:={ s with heap:=h' }) O hd ?_);have hg:es[x]?=some es[x]:=qm U;obtain⟨y,tk,hy,kR,GA⟩:=hk x _ hg;rw[hg];dsimp only;rw[kR,GA];refine ae (jQ (Gh (s:={ s with heap:=h' }) σ (by omega) λb h2 k2 Z2=>?_));have B3:h2.get? d=some o:=by rw[k2.2 d J];exact O
   refine ae (wpAny_dictEpoch (s:={ s with heap:=h2 }) B3 hd ?_);rw[ag (by simp)];refine ar ⟨h2,x+1,iW zs y,rfl,Gz,U,kk.trans k2,Z2,by have:=BV zs y;omega,λz=>?_⟩;rw[Gf,mem z,io,hy];simp
 rintro b s' ⟨h',i,zs,rfl,j,hi,kk,σ,hl,mem⟩;have gQ:i=es.size:=by
  rcases Nat.lt_or_ge i es.size with h | h
  . have e:es.size - i=(es.size - (i+1))+1:=by omega
    rw[e,List.range'_succ]at j;exact nomatch j
  exact Nat.le_antisymm hi h
 refine ar (q h' zs (λb o e=>?_) σ λz=>by rw[mem z,gQ,<-hn,fb]);rw[kk.2 b (cS (bH e))];exact cf _ e
end
def GB(w:World)(H:Hp)(ys:Ls)(Q:VK):Prop:=∀r xs H',H r=none->ac H H'->H' r=some (mY w r xs)->xs.Nodup->(∀z,z∈xs↔z∈ys)->Q (.ref r) H'
theorem cR.nd{h:Heap}(x:cR w h a xs):xs.Nodup:=x.elim λ_ j=>j.elim λ_ z=>z.elim λ_ G=>G.elim λ_ J=>J.elim λ_ X=>X.nd
theorem QL{us:Lw}(h:StrsAre us ys):us.length=ys.length/\∀(i:Nat) (v:Value),us[i]?=some v->∃y tk,ys[i]?=some y/\v=Value.str y tk:=by
 induction h with
 | nil=>exact⟨rfl,λi v e=>by cases e⟩
 | cons y t _ j=>
  refine⟨by simp[j.1],λi v e=>?_⟩;cases i with
  | zero=>cases e;exact⟨y,t,rfl,rfl⟩
  | succ i=>exact j.2 i v e
theorem QM:∀{ys:Ls}{us:Lw},aY (ys.map V.str) us->StrsAre us ys
 | [],us,r=>by cases r;exact .nil
 | y::ys,us,r=>by
  cases r with
  | cons a b=>
   obtain⟨t,rfl⟩:=a;exact .cons y t (QM b)
section
variable {X:Cx}
theorem ahK(z:X.calm=true):fe X (.type "set") (λvs H Q=>∃p ys,vs=[.ref p]/\aa X.K H p (ys.map V.str)/\ys.length<=500/\GB X.w H ys Q):=by
 intro ad s Z H xs us Q I r h;obtain⟨p,ys,rfl,G,hz,q⟩:=h;obtain⟨u,rfl,O⟩:=vals1 r;cases O;obtain⟨b_,U,J,Y⟩:=I.list G;have hs:=QL (QM U);refine ahC (I.ok.hd z) J.isList (ys:=ys) (λi v e=>hs.2 i v (by simpa using e)) (by simp;omega) (by simp[hs.1]) λh' tk zs k σ m=>?_;have j:=I.hok.fresh (aG s.heap.objs.size);exact⟨.ref s.heap.objs.size,_,I.laid (t':=tk) (a:=s.heap.objs.size) (o:=mY X.w s.heap.objs.size zs) k (aG _) (Gs σ),rfl,q _ zs _ j (fX j) aE σ.nd m⟩
theorem QN:fe X (.type "set") (λvs H Q=>∃p kvs ks,vs=[.ref p]/\H p=some (.dK kvs)/\ue kvs ks/\ks.length<=63/\GB X.w H ks Q):=by
 intro ad s Z H xs us Q I r h;obtain⟨p,kvs,ks,rfl,e,U,hz,q⟩:=h;obtain⟨u,rfl,ru⟩:=vals1 r;cases ru;obtain⟨z,hd,vs,a0,dd⟩:=j0 I.hok e;obtain⟨o,es,ep,ho,hx,a1,B5,mr,QO⟩:=id dd;have a3:=a0.length;have l1:kvs.length=ks.length:=by have:=fw List.length U;simpa using this
 have l2:es.size=vs.length:=by have:=mr.length;simpa using this
 have hS:StrsAre (es.toList.map (·.key)) ks:=PF (X:=X) U a0 (by rw[ak,eZ];exact l2) λj v G=>by
  rw[dG]at G;cases J:es.toList[j]? with
  | none=>rw[J]at G;cases G
  | some O=>
   rw[J]at G;cases G;have a2:=(cT.mp J).1;rw[eZ]at a2;obtain⟨kv,uc⟩:∃kv,vs[j]?=some kv:=⟨vs[j]'(by omega),hZ _⟩;exact⟨kv.1,kv.2,uc,(mr.get? J uc).1⟩
 refine ahE (ks:=ks) ho hx.1 a1 hd (by omega) hz (λi O hi=>?_) λh' zs k σ m=>?_
 . obtain⟨y,tk,hy,hk⟩:=(QL hS).2 i O.key (by rw[dG,sU,hi];rfl);obtain⟨k',Y,GA⟩:=B5 O (awR hi);refine⟨y,tk,hy,hk,?_⟩;rw[hk]at Y;rw[GA,(cz X.prog X.w).inj _ _ _ Y (sY X.prog X.w y tk)];rfl
 have hn:=I.hok.fresh (aG s.heap.objs.size);exact⟨.ref s.heap.objs.size,_,I.laid (t':=s.toks) (a:=s.heap.objs.size) (o:=mY X.w s.heap.objs.size zs) k (aG _) (Gs σ),rfl,q _ zs _ hn (fX hn) aE σ.nd m⟩
theorem ahN:cM X (binaryOp .BitOr) (λx y H Q=>∃p q xs ys,x=.ref p/\y=.ref q/\p≠q/\H p=some (mY X.w p xs)/\H q=some (mY X.w q ys)/\xs.length+ys.length<=126/\GB X.w H (xs++ys) Q):=by
 intro ad s Z H x y v u Q I U Y h;obtain⟨p,q,xs,ys,rfl,rfl,J,e1,e2,hz,O⟩:=h;cases U;cases Y;have x1:=Gu I.hok e1;have G:=Gu I.hok e2;refine wpAny_binaryOp_same (op:=.BitOr) (T:="set") x1.typeIs G.typeIs PySem.F.fills_set_or PySem.F.slot_set_or (aht x1 G J hz λh' zs k σ m=>?_);have j:=I.hok.fresh (aG s.heap.objs.size);exact⟨.ref s.heap.objs.size,_,I.laid (t':=s.toks) (a:=s.heap.objs.size) (o:=mY X.w s.heap.objs.size zs) k (aG _) (Gs σ),rfl,O _ zs _ j (fX j) aE σ.nd λz=>by rw[m z];simp⟩
end
theorem ahO{K:Fg}{mg:Mv}{base:Heap}{k:Nat}{q c':Addr}{params:Arguments}{body:Expr}{scope:Scope}{pm iz:Value}{N ps:Ls}{A:Around}{outer:List Env}{H:Hp}{us:Lw}{vs:Lv}{Q:VK}{E:XK}{t:TE}
 (S:aN N ps scope) (z:cq (k+1) A) (j:lX P w K mg base A outer s H) (ho:s.heap.get? q=some (W.kla_obj "<lambda>" a_ params body scope [] pm c' iz)) (U:s.heap.CodeRec (.ref c') a_)
 (Y:bindArgs (W.kla_fn "<lambda>" a_ params body scope [] pm (.ref c') iz) ⟨us,[]⟩=pure (ps.zip us)) (hl:vs.length=ps.length) (r:aY vs us)
 (ht:PE (kS aJ P w K mg base N a_ scope q (.ref c') A outer s H E) body t) (hq:t (start N vs) H Q) :
 codeAny (model P w) A (.call (.ref q) ⟨us,[]⟩) (CR aJ outer P w H s Q E) s:=by
 have a0:s.heap.NoLimit:=j.mod.nolimit.keeps λb o e=>(j.bs b o e).1;have O:∀y∈ps.zip us,scope.names.lookup y.1=some .local\/(scope.names.lookup y.1=some .cell/\((cellsFrom (s.heap.objs.size+1) scope.names []).lookup y.1).isSome=true):=λ⟨n,v⟩ hy=>by
  rcases S.par n (MA hy).1 with q | q
  . exact .inl q
  exact .inr ⟨q,X3 _ _ _ (.inl q)⟩
 refine W.kla_callFunE z.depth ho rfl S.co S.gen rfl U ?_;rw[Y];refine ar ?_;refine awq S.kind O λenv he G x=>?_;subst he;refine⟨a0.keeps x.toInCall.keep,W.kla_codeExpr ?_⟩;have I:Inv (kS aJ P w K mg base N a_ scope q (.ref c') A outer s H E) [] (start N vs) H G:=Oj S z.hd j hl r x;refine eM (ht [] G (start N vs) H _ I hq) (λu s' hs=>?_) λe s' hs=>hs;obtain⟨v,H',J,rv,q⟩:=hs;exact⟨v,H',J.os,J.bare,J.base,J.hok,rv,q⟩
open PySem.W (tabObj)
def iA(P:Addr)(ps:Av):HO:=.ext λh=>h.get? P=some (tabObj ps)
def yK(c':Addr)(a_:Str):HO:=.ext λh=>h.CodeRec (.ref c') a_
def yL(q c':Addr)(a_:Str)(params:Arguments)(body:Expr)(scope:Scope):HO:=.ext λh=>∃pm iz,h.get? q=some (W.kla_obj "<lambda>" a_ params body scope [] pm c' iz)
def TabSt(H:Hp)(P:Addr)(pos:Pos)(a_:Str):Prop:=H P=some (iA P #[])\/∃c',H P=some (iA P #[rawInt pos.line,rawInt pos.col,.ref c'])/\H c'=some (yK c' a_)
def QQ(P:Addr)(a_:Str)(params:Arguments)(body:Expr)(scope:Scope)(pos:Pos):TE:=λZ H Q=>TabSt H P pos a_/\∀q c' H',H q=none->H' P≠none->(∀b o,H b=some o->b≠P->H' b=some o)->TabSt H' P pos a_->H' c'=some (yK c' a_)->H' q=some (yL q c' a_ params body scope)->Q (.ref q) H'
theorem yM{j:Program}{H:Hp}{h:Heap}{p:Heap->Prop}(e:h.get? a=some o)(G:p h)(z:∀h1 h2:Heap,p h1->(∀o,h1.get? a=some o->h2.get? a=some o)->p h2):b9 j w H h a (.ext p):=⟨G,⟨_,e⟩,z⟩
theorem ahP{c':Addr}{h1 h2:Heap}(h:h1.CodeRec (.ref c') a_)(k:∀o,h1.get? c'=some o->h2.get? c'=some o):h2.CodeRec (.ref c') a_:=by
 obtain⟨c,J,vs,t,e,j,z,G⟩:=h;cases e;exact⟨c',J,vs,t,rfl,k _ j,z,G⟩
section
variable {X:Cx}{c P:Addr}{params:Arguments}{body:Expr}{scope:Scope}{pos:Pos}
theorem ahQ(B6:X.env.code=.ref c)(hd:W.codeHdIn X.K c P=true)(hb:X.base.BuiltinsAt X.mg P)(hq:X.env.qual ++ "<lambda>"=a_:=by rfl)(B7:X.env.globals=mainGlobals:=by rfl)(mq:closureFor scope X.env=pure []:=by rfl)(GF:defaultsOf params X.env=([],[]):=by rfl) :
 PE X (.Lambda params body scope pos) (QQ P a_ params body scope pos):=by
 intro ad s Z H Q I h;obtain⟨tb,q⟩:=h;subst hq;refine W.kla_eval GF ?_;have hg:s.heap.Ns mainGlobals X.mg:=I.mod.glob.keeps I.bk;obtain⟨bm,ob,b1,b2,b3,b4,b5,b6⟩:=hb;have j9:s.heap.BuiltinsAt X.mg P:=⟨bm,ob,b1,b2,b3,b4,I.bk _ _ b5,b6⟩;have C:=W.codeHd_of_K I.kIn hd;have a5:∀ps,s.heap.get? P=some (tabObj ps)->mainGlobals≠P:=λps e z=>by
  obtain⟨o,es,ep,e',d',_⟩:=hg;rw[z,e]at e';cases e';cases d'
 have Y:∀b o,s.heap.get? b=some o->b<s.heap.objs.size:=λb o e=>bH e
 rcases tb with e | ⟨c',e1,e2⟩
 . have O:s.heap.get? P=some (tabObj #[]):=(show b9 X.prog X.w H s.heap P (iA P #[]) from I.hok P _ e).1;refine W.kla_makeFunction mq B7 hg B6 C O trivial rfl (a5 _ O) j9 λc' iz h' tk hx G hl QR GG=>?_;have I1:Inv X ad Z (ah H P (iA P (#[] ++ #[rawInt pos.line,rawInt pos.col,.ref c']))) { s with heap:=h',toks:=tk }:=
    I.write (x:=P) (e:=P) (by rw[e];exact True.intro) (.inl rfl) (λb u hb e=>hx b u hb e) ⟨_,GG⟩ (yM GG GG λh1 h2 a k=>k _ a)
   have nc:H c'=none:=I.hok.fresh G;have cP:c'≠P:=λz=>absurd (Y _ _ O) (MW.mpr (z▸G));have a6:ah H P (iA P (#[] ++ #[rawInt pos.line,rawInt pos.col,.ref c'])) c'=none:=by rw[aW cP];exact nc
   have a0:=QR;obtain⟨c2,oc,vs,t,ec,oj,uo,a7⟩:=a0;cases ec;have I2:=I1.track (o:=yK c' (X.env.qual ++ "<lambda>")) a6 (b8 I.sz G) (kF (gB I.lt G)) (λx cc ex z=>by
    obtain⟨v,oo,hv,_⟩:=I.cell x cc ex;exact absurd (Y _ _ hv) (MW.mpr (z▸G))) (λp hp z=>absurd (Y _ _ (I.pin p hp).1) (MW.mpr (z▸G))) (yM oj QR λh1 h2 a k=>ahP a k)
   have U:(h'.push (W.kla_obj "<lambda>" (X.env.qual ++ "<lambda>") params body scope [] ((X.mg "__name__").getD .none) c' iz)).get? h'.objs.size=some (W.kla_obj "<lambda>" (X.env.qual ++ "<lambda>") params body scope [] ((X.mg "__name__").getD .none) c' iz):=dN _ rfl;have I3:=I2.laid (t':=tk) (h':=h'.push (W.kla_obj "<lambda>" (X.env.qual ++ "<lambda>") params body scope [] ((X.mg "__name__").getD .none) c' iz)) (a:=h'.objs.size) (o:=yL h'.objs.size c' (X.env.qual ++ "<lambda>") params body scope)
    (λb u e=>cf _ e) (aG _) (yM U ⟨_,_,U⟩ λh1 h2 a1 k=>a1.elim λpm a2=>a2.elim λcv a=>⟨pm,cv,k _ a⟩)
   have hsz:s.heap.objs.size<=h'.objs.size:=b8 G (vf hl);have j:H h'.objs.size=none:=I.hok.fresh hsz;have qP:h'.objs.size≠P:=λz=>absurd (Y _ _ O) (MW.mpr (z▸hsz));have qc:h'.objs.size≠c':=(cS hl).symm;refine⟨.ref h'.objs.size,_,I3,rfl,q _ c' _ j ?_ (λb o J nb=>?_) (.inr ⟨c',?_,?_⟩) ?_ aE⟩
   . rw[aW qP.symm,aW cP.symm,aE];exact λz=>nomatch z
   . rw[aW (aK J j),aW (aK J nc),aW nb];exact J
   . rw[aW qP.symm,aW cP.symm,aE];rfl
   . rw[aW qc.symm,aE]
   rw[aW qc.symm,aE]
 have O:s.heap.get? P=some (tabObj #[rawInt pos.line,rawInt pos.col,.ref c']):=(show b9 X.prog X.w H s.heap P (iA P _) from I.hok P _ e1).1;have hf:codeAmong pos (#[rawInt pos.line,rawInt pos.col,.ref c']:Av).toList=some (.ref c'):=by
  show(if ((pos.line:Int) == pos.line && (pos.col:Int) == pos.col)=true then _ else _)=_;rw[am (by simp)]
 refine W.kla_makeFunctionHit mq B7 hg B6 C O trivial hf j9 λiz h' tk hk hsz=>?_;have U:(h'.push (W.kla_obj "<lambda>" (X.env.qual ++ "<lambda>") params body scope [] ((X.mg "__name__").getD .none) c' iz)).get? h'.objs.size=some (W.kla_obj "<lambda>" (X.env.qual ++ "<lambda>") params body scope [] ((X.mg "__name__").getD .none) c' iz):=dN _ rfl;have I3:=I.laid (t':=tk) (h':=h'.push (W.kla_obj "<lambda>" (X.env.qual ++ "<lambda>") params body scope [] ((X.mg "__name__").getD .none) c' iz)) (a:=h'.objs.size) (o:=yL h'.objs.size c' (X.env.qual ++ "<lambda>") params body scope)
  (λb u e=>cf _ (hk b u e)) hsz (yM U ⟨_,_,U⟩ λh1 h2 a3 k=>a3.elim λpm a4=>a4.elim λcv a=>⟨pm,cv,k _ a⟩)
 have j:H h'.objs.size=none:=I.hok.fresh hsz;refine⟨.ref h'.objs.size,_,I3,rfl,q _ c' _ j ?_ (λb o J nb=>?_) (.inr ⟨c',?_,?_⟩) ?_ aE⟩
 . rw[aW (aK e1 j),e1];exact λz=>nomatch z
 . rw[aW (aK J j)];exact J
 . rw[aW (aK e1 j)];exact e1
 . rw[aW (aK e2 j)];exact e2
 rw[aW (aK e2 j)];exact e2
end
end
section
variable {w:World}{K:Fg}{a:Addr}{σ0:St}
section
variable {X:Cx}
theorem QS:cM X (compareOp .LtE) (λx y H Q=>∃i j,x=.str i/\y=.str j/\Q (.bl (!decide (j.cps.toList<i.cps.toList))) H):=by
 intro ad s Z H x y v u Q I z G h;obtain⟨i,j,rfl,rfl,q⟩:=h;obtain⟨t,rfl⟩:=z;obtain⟨t',rfl⟩:=G;exact PySem.P.le_str (db I q rfl)
def ahY:V->Lv->Hp->VK->Prop:=λx vs H Q=>∃a b,x=.str a/\vs=[.str b]/\Q (.bl (Txt.startswith a b)) H
theorem QT:oI X "str.startswith" ahY:=by
 intro ad s Z H x xs v us Q I z j h;obtain⟨a,b,rfl,rfl,q⟩:=h;obtain⟨t,rfl⟩:=z;obtain⟨u,rfl,t',rfl⟩:=vals1 j;exact SC.startswith (db I q rfl)
theorem QU:∀l:List (Str×Tok),aY ((l.map (·.1)).map V.str) (strValues l)
 | []=>.nil
 | p::r=>.cons ⟨p.2,rfl⟩ (QU r)
def ahZ:V->Lv->Hp->VK->Prop:=λx vs H Q=>∃a b,x=.str a/\vs=[.str b]/\b.length≠0/\a.length+2<=sizeLine/\d8 H (.lst ((Txt.split a b).map V.str)) Q
theorem B8:oI X "str.split" ahZ:=by
 intro ad s Z H x xs v us Q I rx Y h;obtain⟨a,b,rfl,rfl,J,hz,q⟩:=h;obtain⟨t,rfl⟩:=rx;obtain⟨u,rfl,t',rfl⟩:=vals1 Y;have G:(b.length == 0)=false:=by simpa using J
 have z:∀(l:List (Str×Tok)) (k:Nat),l.map (·.1)=Txt.split a b->EP X ad Z Q (.ref s.heap.objs.size) { s with heap:=s.heap.push { cls:=.type "list",data:=.seq (strValues l).toArray },toks:=k }:=λl k e=>by
  have r:=QU l;rw[e]at r;have O:((Txt.split a b).map V.str).length<=sizeLine:=by
   rw[ak];exact b8 (split_le a b) hz
  exact⟨.ref s.heap.objs.size,_,I.laid (t':=k) (λb o e=>cf _ e) (aG _) (show b9 X.prog X.w _ _ _ (.lst ((Txt.split a b).map V.str)) from ⟨O,_,_,r,dN _ rfl⟩),rfl,q.at _ (I.hok.fresh (aG _))⟩
 have U:(Builtin.Str.partsBetween a (Builtin.Str.occurrences a b 0 a.length (a.length+1)) b.length).length<=sizeLine:=by
  have e1:=StrLaws.occ_length_le a b 0 a.length (a.length+1);rw[length_partsBetween];omega
 cases h1:(decide (a.length<b.length) || decide (Builtin.Str.strKind a<Builtin.Str.strKind b))
 . cases j:(Builtin.Str.occurrences a b 0 a.length (a.length+1)).isEmpty
   . refine ED Yy (AK _ _ _) Yz (YA _ _) (meets_str_split_sep a b t t' h1 G j (by omega) U) ?_;show wants _ _ _ { s with toks:=_,heap:=s.heap.push { cls:=.type "list",data:=.seq (strsFrom s.toks (Builtin.Str.partsBetween a (Builtin.Str.occurrences a b 0 a.length (a.length+1)) b.length)).toArray } };rw[strsFrom_eq];exact z (numbered s.toks _) _ ((numbered_texts _ _).trans ((ag (YB h1)).trans (ag (YB j))).symm)
   exact ED Yy (AK _ _ _) Yz (YA _ _) (meets_str_split_not_found a b t t' h1 G j)
    (z [(a,t)] s.toks ((ag (YB h1)).trans (am j)).symm)
 exact ED Yy (AK _ _ _) Yz (YA _ _) (meets_str_split_cannot_occur a b t t' h1)
  (z [(a,t)] s.toks (am h1).symm)
theorem ah0:fe X (.type "int") (λxs H Q=>∃x n,xs=[.str x]/\PySem.intText? x=some n/\x.length<=640/\Q (.int n) H):=by
 intro ad s Z H xs us Q I r h;obtain⟨x,n,rfl,z,j,q⟩:=h;obtain⟨u,rfl,t,rfl⟩:=vals1 r;exact W.KIN.call_text z j ⟨.int n,H,I.tok _,⟨_,rfl⟩,q⟩
end
def rf(c:Nat):Str:=⟨#[c]⟩
def B9(x:Str):It:=⟨λi _=>i<x.cps.size,λi H v H'=>H'=H/\∃c,x.cps[i]?=some c/\v=.str (rf c),λi _=>x.cps.size<=i⟩
theorem ah1{P:Program}{tg:Expr}(it:Addr)(x:Str)(t:Tok)(n:String)(Y:n="str_ascii_iterator"\/n="str_iterator"):oA P w K tg (B9 x) [it] it (λi h=>h.IsStrIter it n x t i/\i<=x.cps.size) where
 mem:=by simp
 obj:=λi h st b j=>by
  have e:b=it:=by simpa using j
  subst e;obtain⟨o,e,c,d⟩:=st.1;exact⟨o,e,λv z=>by rw[d]at z;cases z⟩
 keep:=λi h h' st k=>⟨st.1.elim λo a0=>a0.elim λho r=>⟨o,k it (by simp) o ho,r⟩,st.2⟩
 item:=by
  intro X hP hw hK J i ad s Z H E I O st U;subst hP hw hK;obtain⟨f0,f1,f2,f3,f4,f5⟩:=O it (by simp);have G:∀(W:Walks X.prog X.w X.A it [it] [it] x.cps.size (SignAt x) (λi h=>h.IsStrIter it n x t i)),wpAny (model X.prog X.w) X.A (pyNext (.ref it)) (λr s1=>∃u,r=some u /\
   wpAny (model X.prog X.w) X.A (letOwnedTupleGo tg (.ref it) u) (λ_ s2=>∃v H',Inv X ad Z H' s2/\RelV v u/\(B9 x).yld i H v H'/\(s2.heap.IsStrIter it n x t (i+1)/\i+1<=x.cps.size)/\∀b∈[it],H' b=none) E s1) E s:=λW=>by
   refine W.item i s _ _ U st.1 λv h' tk hv fN kk=>?_;obtain⟨c,u,ia,rfl⟩:=hv;have I1:Inv X ad Z H { s with heap:=h',toks:=tk }:=I.turned (λb o j e=>kk b o (by simpa using j) e) f0 f1 f3 f4 f5;obtain⟨o,e,c',d⟩:=id fN;have QV:i<x.cps.size:=U;exact⟨_,rfl,Bf (s:={ s with heap:=h',toks:=tk }) e c' d (by rcases Y with rfl | rfl<;>decide) ⟨.str (rf c),H,I1,⟨u,rfl⟩,⟨rfl,c,ia,rfl⟩,⟨fN,by omega⟩,λb j=>(O b j).1⟩⟩
  rcases Y with rfl | rfl
  . exact G (Walks.strAscii (I.ok.hd J) it x t)
  exact G (Walks.strWide (I.ok.hd J) it x t)
 done:=by
  intro X hP hw hK J i ad s Z H E I O st U;subst hP hw hK;obtain⟨f0,f1,f2,f3,f4,f5⟩:=O it (by simp);have QV:x.cps.size<=i:=U;have e:i=x.cps.size:=Nat.le_antisymm st.2 QV;subst e;have G:∀(W:Walks X.prog X.w X.A it [it] [it] x.cps.size (SignAt x) (λi h=>h.IsStrIter it n x t i)),wpAny (model X.prog X.w) X.A (pyNext (.ref it)) (λr s1=>r=none/\Inv X ad Z H s1) E s:=λW=>
   W.done s _ _ st.1 λh' tk kk=>⟨rfl,I.turned (λb o j e=>kk b o (by simpa using j) e) f0 f1 f3 f4 f5⟩
  rcases Y with rfl | rfl
  . exact G (Walks.strAscii (I.ok.hd J) it x t)
  exact G (Walks.strWide (I.ok.hd J) it x t)
 self:=λ_ _ _ _ _ st h=>by
  rcases Y with rfl | rfl
  . exact wpAny_pyIter_striter_ascii st.1 h
  exact wpAny_pyIter_striter_wide st.1 h
section
variable {X:Cx}{tg:Expr}
def ah3(tl:TE):TI:=λZ H R=>tl Z H λx H1=>∃a,x=.str a/\R (B9 a) H1
theorem ah4{l:Expr}{tl:TE}(Y:PE X l tl):PI X tg l (ah3 tl):=by
 intro ad s Z H R I h;refine thn (Y ad s Z H _ I h) λv j O=>aP O λx H1 z r1 q1=>?_;obtain⟨a,e,q⟩:=q1;subst e;obtain⟨t,rfl⟩:=r1;have G:∀(o:Obj) (n:String),(n="str_ascii_iterator"\/n="str_iterator")->(j.heap.push o).IsStrIter j.heap.objs.size n a t 0->EY X ad Z tg R (.ref j.heap.objs.size) { j with heap:=j.heap.push o }:=λo n hn st=>by
  refine⟨j.heap.objs.size,[j.heap.objs.size],_,_,H1,rfl,z.kept (t':=j.toks) λb o e=>cf _ e,ah1 _ a t n hn,⟨st,dF _⟩,λb U=>?_,q⟩;have e:b=j.heap.objs.size:=by simpa using U
  subst e;exact z.fpOk (aG _) (z.hok.fresh (aG _))
 cases J:a.cps.all (· < 128)
 . exact wpAny_pyIter_wide J (G _ _ (.inr rfl) ⟨_,dN _ rfl,rfl,rfl⟩)
 exact wpAny_pyIter_ascii J (G _ _ (.inl rfl) ⟨_,dN _ rfl,rfl,rfl⟩)
def ah6(K:Fg):Lv->Hp->VK->Prop:=λxs H Q=>∃(p:Addr) (bs:List Bool),xs=[.ref p]/\aa K H p (bs.map V.bl)/\Q (.bl (bs.all id)) H
theorem ah7(bs:List Bool):(List.range bs.length).all (λi=>bs.getD i false)=bs.all id:=by
 rw[xF,hX,hX];constructor
 . intro h b j;obtain⟨i,hi,e⟩:=MR.mp j;have:=h i (ve.mpr hi);rw[MX,hZ hi,MF,e]at this;exact this
 intro h i hi;have hi:=ve.mp hi;rw[MX,hZ hi,MF];exact h _ (EG hi)
theorem QW(K:Fg)(h:X.K=K:=by rfl)(hc:X.calm=true:=by rfl):fe X (.builtin "all") (ah6 K):=by
 subst h;intro ad s Z H xs us Q I r h;obtain⟨p,bs,rfl,hq,q⟩:=h;obtain⟨u,rfl,rx⟩:=vals1 r;cases rx;obtain⟨b_,O,pl,hz⟩:=I.list hq;have a0:=O.length;rw[ak]at a0;refine call_all_walk (Mu pl.isList ?_);have Y:p≠s.heap.objs.size:=by
  obtain⟨o,ho,_⟩:=pl.isList;exact cS (bH ho)
 refine⟨_,_,_,_,_,_,λi=>bs.getD i false,rfl,EJ (A:=X.A.in1) (I.ok.hd hc) _ p Y b_.toArray,⟨⟨_,dN _ rfl,rfl,rfl⟩,pl.isList.push _⟩,?_,λh' tk kk=>?_⟩
 . intro i v s' U E j z;have j:b_[i]?=some v:=by simpa using j
   have hi:i<bs.length:=by
    have:=(cT.mp j).1;omega
   obtain⟨u,J,G⟩:=O.get (i:=i) (x:=V.bl bs[i]) (by rw[dG,hZ hi];rfl);rw[j]at J;cases J;have G:v=.bool bs[i]:=by cases G;rfl
   subst G;have z:U (bs.getD i false) s':=z;rw[MX,hZ hi,MF]at z;exact qb z
 have e:b_.toArray.size=bs.length:=by simp;omega
 rw[e,ah7];exact⟨.bl _,H,I.kept λb o e=>kk b o (by
  have:=bH e;rw[bw];exact cS this) (cf _ e),rfl,q⟩
end
theorem Inv.turnedL{X:Cx}{ad:Po}{Z:St}{H:Hp}{s:Shared}{h':Heap}{t':Nat}{fp:List Addr}(I:Inv X ad Z H s)(k:∀b o,b∉fp->s.heap.get? b=some o->h'.get? b=some o)(G:∀b∈fp,fB X ad H b):Inv X ad Z H { s with heap:=h',toks:=t' }:=by
 have J:∀b u,H b=some u->b∉fp:=λb u e z=>by rw[(G b z).1]at e;cases e
 have hL:X.env.locals∉fp:=λz=>(G _ z).2.1 rfl;refine I.step (g':=s.gens) (d':=s.drawn) (ch:=fp) (λb hb=>?_) (λb o _ _ j e _=>k b o j e) (λb o _ _ j e _=>⟨o.slots,k b o j e⟩) (λ_ _ _ _ n=>n)
  (λb o j e=>⟨o,k b o j e⟩) (λ_ _ e=>e) (λ_ _ _ e=>e) (λb ps e=>⟨#[],by rw[e];simp⟩) (λm hm=>?_) (λb u e=>?_) I.bare
 . obtain⟨f0,f1,f2,O,U,Y⟩:=G b hb;exact⟨O,f1,U,Y⟩
 . obtain⟨o,es,ep,ho,r⟩:=hm;exact⟨o,es,ep,k _ o hL ho,r⟩
 refine(I.hok b u e).stay (λc v j q=>k c v ?_ q) (λ_ q=>q) λ_ _ q=>q
 rcases j with z | z
 . rw[z];exact J b u e
 exact J c _ z
def yN(K:Fg)(a:Addr):It:=
 ⟨λi H=>∃xs x,aa K H a xs/\xs[i]?=some x,λi H v H'=>∃p x,H p=none/\(∀xs,aa K H a xs->xs[i]?=some x)/\v=.ref p/\H'=ah H p (.tup [.int i,x]),λi H=>∃xs,aa K H a xs/\xs.length<=i⟩
theorem ah8{P:Program}{elts:List Expr}{x1:Nat}{pos:Pos}(a e it:Addr)(dg:e≠it):oA P w K (.Tuple elts x1 pos) (yN K a) [e,it] e (λi h=>(∃old,IsEnum h e it i old)/\h.IsListIter it a i) where
 mem:=by simp
 obj:=λi h st b hb=>by
  obtain⟨⟨old,st⟩,o,j,c,d⟩:=st
  rcases bc.mp hb with rfl | hb
  . exact⟨_,st,λv z=>by
     have z':Data.fields _=Data.cell v:=z;cases z'⟩
  have hb:=bw.mp hb;subst hb;exact⟨o,j,λv z=>by rw[d]at z;cases z⟩
 keep:=λi h h' a0 k=>a0.elim λa1 G=>a1.elim λold st=>⟨⟨old,k e (by simp) _ st⟩,G.at λo j=>k it (by simp) o j⟩
 item:=by
  intro X hP hw Y hc i ad s Z H E I O st hg;subst hP hw Y;obtain⟨⟨old,st⟩,G⟩:=st;obtain⟨xs,x,U,hx⟩:=hg;obtain⟨b_,rv,p,hz⟩:=I.list U;obtain⟨u,hu,ru⟩:=rv.get hx;refine wpAny_pyNext_enum_item st G p.isList (x:=u) (by simpa using hu) dg λh1 ho QX F2 hsz fG=>⟨.ref s.heap.objs.size,rfl,?_⟩;refine wpAny_letOwnedTupleGo_enum ho λh2 a3 J=>?_;have J:Heap.SameBut e h1 h2:=J;have QY:e<s.heap.objs.size:=bH st;have BM:it<s.heap.objs.size:=by
   obtain⟨o,j,_⟩:=G;exact bH j
  have I1:Inv X ad Z H { s with heap:=h2,toks:=s.toks+1 }:=I.turnedL (fp:=[e,it]) (λb ob hb j=>by
   simp only[bc,fz,fA,nZ]at hb;exact(J.2 b hb.1).trans (fG b ob hb.1 hb.2 j)) O
  have hn:H s.heap.objs.size=none:=I.hok.fresh (aG _);have fp:=I.fpOk (H':=H) (aG _) hn;have tQ:h2.get? s.heap.objs.size=some { cls:=.type "tuple",data:=.seq #[.int i s.toks,u] }:=(J.2 _ (kF QY)).trans F2;have I2:Inv X ad Z (ah H s.heap.objs.size (.tup [.int i,x])) { s with heap:=h2,toks:=s.toks+1 }:=by
   refine I1.track hn I.sz fp.2.1 fp.2.2.2.2.1 fp.2.2.2.2.2 ?_;exact⟨by show 2<=sizeLine;decide,[.int i s.toks,u],.cons ⟨_,rfl⟩ (.cons ru .nil),_,tQ,rfl,0,rfl⟩
  refine⟨.ref s.heap.objs.size,_,I2,rfl,⟨_,x,hn,λys hy=>by rw[I.list_inj hy U];exact hx,rfl,rfl⟩,⟨⟨u,by simpa using a3⟩,QX.at λo j=>(J.2 it (gC dg)).trans j⟩,λb hb=>?_⟩;have a4:=(O b hb).1;rw[aW,a4];simp only[bc,fz,fA]at hb
  rcases hb with rfl | rfl
  . exact cS QY
  exact cS BM
 done:=by
  intro X hP hw Y hc i ad s Z H E I O st hg;subst hP hw Y;obtain⟨⟨old,st⟩,G⟩:=st;obtain⟨xs,U,hx⟩:=hg;obtain⟨b_,rv,p,hz⟩:=I.list U;have hl:=rv.length;exact wpAny_pyNext_enum_end (I.ok.hd hc) st G p.isList (by simp;omega) λh' eb=>⟨rfl,I.turnedL (t':=s.toks) (fp:=[e,it]) (λb o hb j=>eb b o (λz=>hb (by simp[z])) j) O⟩
 self:=λ_ _ _ _ _ st h=>st.elim λa2 _=>a2.elim λ_ st=>wpAny_pyIter_enum st h
section
variable {X:Cx}
def aie(K:Fg)(ta:TA):TI:=λZ H R=>ta Z H λvs H1=>∃a,vs=[.ref a]/\(∃xs,aa K H1 a xs)/\R (yN K a) H1
theorem QZ{l:Expr}{ta:TA}{p pos p2:Pos}{elts:List Expr}{x1:Nat}(Y:Gl X "enumerate")(hm:X.mg "enumerate"=none)(U:PA X [l] ta)(hs:starEach [l] X.env=[(false,eval l X.env)]:=by rfl) :
 PI X (.Tuple elts x1 p2) (.Call (.Name "enumerate" p) [l] [] pos) (aie X.K ta):=by
 intro ad s Z H R I h;refine Call_ (tq I Y hm boot_enumerate (Mw (thn (U pos ad s Z H _ I h) λus j O=>aP O λvs H1 z r1 q1=>?_) hs rfl));obtain⟨a,e,⟨xs,hq⟩,q⟩:=q1;subst e;obtain⟨u,rfl,rx⟩:=vals1 r1;cases rx;obtain⟨b_,rv,pl,hz⟩:=z.list hq;refine call_enumerate_list pl.isList λh' G it hsz kp=>?_;refine wpAny_pyIter_enum G ?_;refine⟨j.heap.objs.size+1,[j.heap.objs.size+1,j.heap.objs.size],_,_,H1,rfl,z.kept (t':=j.toks) kp,ah8 a _ _ (Nat.succ_ne_self _),⟨⟨_,G⟩,it⟩,λb J=>?_,q⟩;have e:j.heap.objs.size<=b:=by
  simp only[bc,fz,fA]at J
  rcases J with rfl | rfl
  . exact qf _
  exact aG _
 exact z.fpOk e (z.hok.fresh e)
end
theorem ac.seqT{H H':Hp}{xs:Lv}(e:ac H H')(h:aZ K H a xs):aZ K H' a xs:=by
 rcases h with(h | ⟨o,h⟩) | h
 . exact .inl (.inl (e _ _ h))
 . exact .inl (.inr ⟨o,e _ _ h⟩)
 exact .inr h
theorem take_snoc{α:Type}{ys:List α}{i:Nat}{y:α}(h:ys[i]?=some y):ys.take (i+1)=ys.take i++[y]:=by
 rw[List.take_succ,h];rfl
section
variable {g:TG}{te:TE}{H1:Hp}{Q:Addr->Hp->Prop}
theorem vT{xs:Lv}(hx:aa K H1 a xs)(S:St->Prop)(ys:Lv)(Y:ys.length=xs.length)(big:xs.length<=sizeLine)(s0:S σ0)
 (a0:∀(i:Nat) x y Z H (k:St->V->Hp->Prop),xs[i]?=some x->ys[i]?=some y->S Z->ac H1 H->(∀σ3 z,S σ3->ac H z->k σ3 y z)->g x Z H λσ3 H3=>te σ3 H3 (k σ3))
 (done:∀D H,H1 D=none->H D=some (.lst ys)->ac H1 H->Q D H) :
 ∀D,H1 D=none->∃W:Nat->Nat->St->Hp->Prop,(∃m,W 0 m σ0 (ah H1 D (.lst [])))/\kY (mS K a) g qR te D (λH'=>Q D H') W:=by
 refine yr hx S (λi zs _=>zs=ys.take i) s0 (λ_ _=>rfl) (λD i x zs Z H k J j G O a5 U a7=>?_) λD zs H J j G O=>?_
 . have hi:i<ys.length:=by rw[Y];exact(cT.mp j).1
   have hy:=hZ hi;refine a0 i x ys[i] Z H k j hy G a5 λσ3 z b1 b2=>a7 σ3 _ z b1 b2 ?_ ?_
   . rw[U,eF];omega
   rw[U,take_snoc hy]
 rw[O,<-Y,fb]at j;exact done D H J j G
theorem aig{xs:Lv}(hx:aZ K H1 a xs)(S:St->Prop)(ys:Lv)(hl:ys.length=xs.length)(big:xs.length<=sizeLine)(s0:S σ0)
 (a0:∀(i:Nat) x y Z H (k:St->V->Hp->Prop),xs[i]?=some x->ys[i]?=some y->S Z->ac H1 H->(∀σ3 j,S σ3->ac H j->k σ3 y j)->g x Z H λσ3 H3=>te σ3 H3 (k σ3))
 (done:∀D H,H1 D=none->H D=some (.lst ys)->ac H1 H->Q D H) :
 ∀D,H1 D=none->∃W:Nat->Nat->St->Hp->Prop,(∃m,W 0 m σ0 (ah H1 D (.lst [])))/\kY (EZ K a) g qR te D (λH'=>Q D H') W:=by
 intro D G;refine⟨λi m Z H=>m=xs.length - i/\i<=xs.length/\S Z/\H D=some (.lst (ys.take i))/\ac H1 H,⟨xs.length,by simp,dF _,s0,aE,fX G⟩,?_⟩;rintro i m Z H ⟨rfl,hi,Y,hd,hs⟩;have q:aZ K H a xs:=ac.seqT hs hx
 by_cases O:i<xs.length
 . refine .inr ⟨⟨xs,xs[i],q,by simp[O]⟩,λx H2 z=>?_⟩;obtain⟨e1,e2⟩:=z;subst e1;have z:=hZ (by omega:i<ys.length);refine a0 i x ys[i] Z _ (λσ3 y j=>∃zs,j D=some (.lst zs)/\zs.length<sizeLine/\∃m',m'<xs.length - i/\(m'=xs.length - (i+1)/\i+1<=xs.length/\S σ3/\ah j D (.lst (zs++[y])) D=some (.lst (ys.take (i+1)))/\ac H1 (ah j D (.lst (zs++[y]))))) (e2 xs q) z Y hs
    (λσ3 j U J=>⟨ys.take i,J _ _ hd,by rw[eF];omega,xs.length - (i+1),by omega,rfl,O,U,by rw[aE,take_snoc z],dQ (hs.trans J) G⟩)
 have e:i=xs.length:=by omega
 subst e;rw[<-hl,fb]at hd;exact .inl ⟨⟨xs,q,aG _⟩,done D H G hd hs⟩
theorem aih{a:Str}(S:St->Prop)(f:Nat->V)(big:a.cps.size<=sizeLine)(s0:S σ0)
 (a0:∀c Z H (k:St->V->Hp->Prop),c∈a.cps.toList->S Z->ac H1 H->(∀σ3 j,S σ3->ac H j->k σ3 (f c) j)->g (.str (rf c)) Z H λσ3 H3=>te σ3 H3 (k σ3))
 (done:∀D H,H1 D=none->H D=some (.lst (a.cps.toList.map f))->ac H1 H->Q D H) :
 ∀D,H1 D=none->∃W:Nat->Nat->St->Hp->Prop,(∃m,W 0 m σ0 (ah H1 D (.lst [])))/\kY (B9 a) g qR te D (λH'=>Q D H') W:=by
 intro D z;have hn:(a.cps.toList.map f).length=a.cps.size:=by rw[ak,eZ]
 refine⟨λi m Z H=>m=a.cps.size - i/\i<=a.cps.size/\S Z/\H D=some (.lst ((a.cps.toList.map f).take i))/\ac H1 H,⟨a.cps.size,by simp,dF _,s0,aE,fX z⟩,?_⟩;rintro i m Z H ⟨rfl,hi,hS,hd,hs⟩
 by_cases O:i<a.cps.size
 . refine .inr ⟨O,λx H2 G=>?_⟩;obtain⟨e1,c,hc,e2⟩:=G;subst e1 e2;have U:a.cps.toList[i]?=some c:=by rw[sU];exact hc
   have G:(a.cps.toList.map f)[i]?=some (f c):=by rw[dG,U];rfl
   refine a0 c Z _ (λσ3 y j=>∃zs,j D=some (.lst zs)/\zs.length<sizeLine/\∃m',m'<a.cps.size - i/\(m'=a.cps.size - (i+1)/\i+1<=a.cps.size/\S σ3/\ah j D (.lst (zs++[y])) D=some (.lst ((a.cps.toList.map f).take (i+1)))/\ac H1 (ah j D (.lst (zs++[y]))))) (cX U) hS hs
    (λσ3 j Y J=>⟨(a.cps.toList.map f).take i,J _ _ hd,by rw[eF];omega,a.cps.size - (i+1),by omega,rfl,O,Y,by rw[aE,take_snoc G],dQ (hs.trans J) z⟩)
 have e:i=a.cps.size:=by omega
 subst e;rw[<-hn,fb]at hd;exact .inl ⟨aG _,done D H z hd hs⟩
end
end
end L2
namespace HT
abbrev At:=Int ⊕ Str
def yO:At->At->Bool
 | .inl a,.inl b=>decide (a<b)
 | .inr x,.inr y=>decide (x.cps.toList<y.cps.toList)
 | _,_=>false
def kin:At->At->Prop
 | .inl _,.inl _=>True
 | .inr _,.inr _=>True
 | _,_=>False
def cx:List At->List At->Bool
 | [],[]=>false
 | [],_::_=>true
 | _::_,[]=>false
 | x::xs,y::ys=>if x=y then cx xs ys else yO x y
def ic:List At->List At->Prop
 | x::xs,y::ys=>if x=y then ic xs ys else kin x y
 | _,_=>True
theorem Ca(x y:At)(xs ys:List At):cx (x::xs) (y::ys)=if x=y then cx xs ys else yO x y:=rfl
theorem uq(x y:At)(xs ys:List At):ic (x::xs) (y::ys)=if x=y then ic xs ys else kin x y:=rfl
inductive gR:Lw->List At->Prop
 | nil:gR [] []
 | int (n:Int) (t:Tok) {vs:Lw}{as:List At}:gR vs as->gR (.int n t::vs) (.inl n::as)
 | str (x:Str) (t:Tok) {vs:Lw}{as:List At}:gR vs as->gR (.str x t::vs) (.inr x::as)
theorem gR.length{vs:Lw}{as:List At}(h:gR vs as):vs.length=as.length:=by
 induction h with
 | nil=>rfl
 | int _ _ _ j=>exact fw (· + 1) j
 | str _ _ _ j=>exact fw (· + 1) j
theorem aii(A:Around)(s:Shared)(a:Str)(t:Tok)(c:Str)(u:Tok):∃e,SeqAt.EqAt A s (.str a t) (.str c u) e/\(e=true↔a=c):=
 ⟨(a == c),SeqAt.EqAt.str_str a t c u,by simp⟩
theorem aij(A:Around)(s:Shared)(a:Str)(t:Tok)(c:Str)(u:Tok)(prog:Program)(w:World)(E:VP)(Q:VP)(h:Q (.bool (decide (a.cps.toList<c.cps.toList))) s) :
 wpAny (model prog w) A (richCompare .Lt (.str a t) (.str c u)) Q E s:=
 (PyProof.Rows.lt_str h:wpAny (model prog w) A (compareOp .Lt (.str a t) (.str c u)) Q E s)
theorem aik{vs ws:Lw}{as bs:List At}(G:gR vs as)(j:gR ws bs)(ok:ic as bs)(A:Around)(s:Shared):(vs=[]\/ws=[])\/∃v lw a O w GH b Y,vs=v::lw/\as=a::O/\ws=w::GH/\bs=b::Y/\gR lw O/\gR GH Y /\
 (∃e,SeqAt.EqAt A s v w e/\(e=true↔a=b))/\(a=b->ic O Y)/\∀(prog:Program) (J:World) (E:VP) (Q:VP),Q (.bool (yO a b)) s->wpAny (model prog J) A (richCompare .Lt v w) Q E s:=by
 cases G with
 | nil=>exact .inl (.inl rfl)
 | int a t G=>
  cases j with
  | nil=>exact .inl (.inr rfl)
  | int b u j=>
   obtain⟨e,U,hi⟩:=abv A s a t b u;refine .inr ⟨_,_,_,_,_,_,_,_,rfl,rfl,rfl,rfl,G,j,⟨e,U,hi.trans ⟨λz=>by rw[z],λz=>by injection z⟩⟩,λz=>?_,λprog J E Q h=>abw A s a t b u prog J E Q h⟩;rw[uq,am z]at ok;exact ok
  | str b u j=>
   rw[uq,ag (by intro z;cases z)]at ok;exact ok.elim
 | str a t G=>
  cases j with
  | nil=>exact .inl (.inr rfl)
  | int b u j=>
   rw[uq,ag (by intro z;cases z)]at ok;exact ok.elim
  | str b u j=>
   obtain⟨e,U,hi⟩:=aii A s a t b u;refine .inr ⟨_,_,_,_,_,_,_,_,rfl,rfl,rfl,rfl,G,j,⟨e,U,hi.trans ⟨λz=>by rw[z],λz=>by injection z⟩⟩,λz=>?_,λprog J E Q h=>aij A s a t b u prog J E Q h⟩;rw[uq,am z]at ok;exact ok
section
open PySem.SeqAt
open PySem.AutoSeq1 (wpAny_loadPart')
open PySem.MeetsSeq PySem.MeetsSeq2 PySem.MeetsSeq3
theorem ail(l b:Addr)(G J:Av)(n n2:Nat)(dd yx:Oa)(sl ur:Array (Option Value))(ns ms:List At)(hi:gR G.toList ns)(hj:gR J.toList ms)(ok:ic ns ms) :
 Meets (Builtin.«tuple.__lt__» ⟨[.ref l,.ref b],[]⟩)
  (λ_ R s=>s.heap.get? l=some { cls:=.type "tuple",dict:=dd,data:=.seq G n,slots:=sl }/\s.heap.get? b=some { cls:=.type "tuple",dict:=yx,data:=.seq J n2,slots:=ur } /\
   R (.ok (.ret (.bool (cx ns ms)))) s):=
 .of_wp λprog w A R s h=>by
  obtain⟨Y,g,d,tk,os⟩:=s;obtain⟨hl,hb,h⟩:=h;have f2:=AutoSeq1.sub_tuple_tuple;have z1:G.size=ns.length:=by rw[<-hi.length];simp
  have z2:J.size=ms.length:=by rw[<-hj.length];simp
  wp_walk using wpAny_loadPart' hl,wpAny_loadPart' hb,xB _ (λrest b s'=>b.1=none/\s'=⟨Y,g,d,tk,os⟩/\∃(vs O:Lw) (z j:List At),rest=vs.zip O /\
   gR vs z/\gR O j/\ic z j/\z.length+J.size=j.length+G.size/\R (.ok (.ret (.bool (cx z j)))) ⟨Y,g,d,tk,os⟩) _
  case turn=>
   rintro⟨y,x⟩ rest b s' ⟨j9,rfl,vs,O,z,j,hz,GI,GJ,hok,hlen,hR⟩
   rcases aik GI GJ hok A.in1 ⟨Y,g,d,tk,os⟩ with h0 | ⟨v,lw,a,Cb,w1,GH,b1,vM,rfl,rfl,rfl,rfl,a0,a1,⟨e,he,U⟩,tW,aO⟩
   . rcases h0 with h0 | h0
     . rw[h0,List.zip_nil_left]at hz;cases hz
     rw[h0,List.zip_nil_right]at hz;cases hz
   rw[XT]at hz;injection hz with a3 Gz
   injection a3 with hy hx
   subst hy hx;rw[Ca]at hR;simp only[bU]at hlen;refine ae (he prog w _ _ ?_);cases e with
   | true=>
    rw[am (U.mp rfl)]at hR
    wp_walk
    exact⟨rfl,rfl,_,_,_,_,Gz,a0,a1,tW (U.mp rfl),by omega,hR⟩
   | false=>
    rw[ag (λq=>absurd (U.mpr q) cW)]at hR;have a2:=aO prog w
    wp_walk using a2
    exact⟨_,rfl,by simpa using hR⟩
  case fin=>
   rintro⟨b1,b2⟩ s' ⟨j9,rfl,vs,O,z,j,hz,GI,GJ,hok,hlen,hR⟩;simp only at j9;subst j9;have h1:=GI.length;have h2:=GJ.length;have hv:cx z j=decide (G.size<J.size):=by
    cases z with
    | nil=>
     cases j with
     | nil=>
      simp only[kG]at hlen;exact(cy (by omega)).symm
     | cons c u=>
      simp only[kG,bU]at hlen;exact(bE (by omega)).symm
    | cons a t=>
     cases j with
     | nil=>
      simp only[kG,bU]at hlen;exact(cy (by omega)).symm
     | cons c u=>
      cases vs with
      | nil=>cases h1
      | cons v vs=>
       cases O with
       | nil=>cases h2
       | cons w1 O=>rw[XT]at hz;cases hz
   rw[hv]at hR
   wp_walk
   exact⟨_,rfl,by simpa [Builtin.Tuple.tupleCompareSizes]using hR⟩
  case h=>
   exact⟨rfl,rfl,G.toList,J.toList,ns,ms,rfl,hi,hj,ok,by omega,h⟩
end
section
variable {prog:Program}{w:World}{A:Around}{E:VP}{s:Shared}
theorem aip{l b:Addr}{j z:Av}{ns ms:List At}{Q:VP}(hl:IsTup s.heap l j)(hb:IsTup s.heap b z)(hi:gR j.toList ns)(hj:gR z.toList ms)(ok:ic ns ms)
 (hu:A.units<cLine) (h:Q (.bool (cx ns ms)) s):wpAny (model prog w) A (compareOp .Lt (.ref l) (.ref b)) Q E s:=by
 obtain⟨⟨cls,dd,data,sl⟩,O,G,n,hd⟩:=id hl;obtain⟨⟨a0,yx,data2,ur⟩,Y,U,n2,J⟩:=id hb;simp only at G hd U J;subst G hd U J;exact richCompare_meets_room (op:=.Lt) ⟨_,O,rfl⟩ ⟨_,Y,rfl⟩ PySem.F.slot_tuple_lt PySem.F.entry_tuple_lt (PySem.F.args_tuple_lt_2 _ _) (ail l b j z n n2 dd yx sl ur ns ms hi hj ok)
  ⟨O,Y,show Value.bool (cx ns ms)≠Value.notImplemented/\Q (.bool (cx ns ms)) s from ⟨(λx=>nomatch x),h⟩⟩ hu
end
end HT
namespace L2
section
section
variable {X:Cx}
theorem Q0:cM X (compareOp .Gt) (λx y H Q=>∃i j,x=.str i/\y=.str j/\Q (.bl (decide (j.cps.toList<i.cps.toList))) H):=by
 intro ad s Z H x y v u Q I z G h;obtain⟨i,j,rfl,rfl,q⟩:=h;obtain⟨t,rfl⟩:=z;obtain⟨t',rfl⟩:=G;exact PySem.P.gt_str (db I q rfl)
end
section
variable {X:Cx}{e e1 e2 e3 e4:Expr}{te t1 t2 t3 t4:TE}{pos:Pos}
def aiq(te:TE):TE:=λZ H Q=>te Z H λx H1=>∃y,x=.str y/\dR y/\y.length<=1000/\∀z:Str,z.length<=20000->Q (.str z) H1
theorem Q1(he:PE X e te):PE X (.FormattedValue e 114 none pos) (aiq te):=by
 intro ad s Z H Q I h;refine awS (thn (he ad s Z H _ I h) λv s1 z=>aP z λx H1 j r1 G=>G.elim λy J=>J.elim λex O=>O.elim λok U=>U.elim λhl q=>?_);subst ex;obtain⟨t,rfl⟩:=r1;have hz:=StrLaws.reprText_len y λc Y=>vh (tR.mp ok c Y) (by decide);have hs:(reprText y).length<=sizeLine:=by rw[sK];omega
 refine pyReprObj_str (Yq (λt' tk=>⟨.str (reprText y),H1,?_,⟨_,rfl⟩,q _ (by omega)⟩) hs) hs;exact(j.tok (s.toks)).tok _
end
open PySem.W
open PySem.Builtin PySem.Builtin.ObjectAttr
end
section
variable {H:Hp}{s:Shared}
open HT (At cx ic)
def Cc:At->V
 | .inl n=>.int n
 | .inr x=>.str x
theorem Cd:∀{as:List At}{us:Lw},aY (as.map Cc) us->HT.gR us as
 | [],us,h=>by cases h;exact .nil
 | .inl n::as,us,h=>by
  cases h with
  | cons r t=>
   obtain⟨tk,rfl⟩:=(show∃tk,_=Value.int n tk from r);exact .int n tk (Cd t)
 | .inr x::as,us,h=>by
  cases h with
  | cons r t=>
   obtain⟨tk,rfl⟩:=(show∃tk,_=Value.str x tk from r);exact .str x tk (Cd t)
section
variable {X:Cx}{ad:Po}{Z:St}{H0:Hp}{l q I S:Addr}{as:List Addr}{ks:Nat->List At}{R:Result->Shared->Prop}{Q:VP}{E:VP}
def GN(X:Cx)(q:Addr)(as:List Addr)(ks:Nat->List At)(H0:Hp):Prop:=∀(i:Nat) (a:Addr),as[i]?=some a->∀(ad:Po) (Z:St) (H:Hp) (s:Shared),Inv X ad Z H s->ac H0 H ->
 wpAny (model X.prog X.w) X.A.in1 (call (.ref q) [.ref a]) (λu s'=>∃j H',Inv X ad Z H' s'/\u=.ref j/\ac H H'/\H' j=some (.tup ((ks i).map Cc))) (λ_ _=>False) s
theorem Inv.isL(I:Inv X ad Z H s)(h:H l=some (.lst (as.map V.ref))):s.heap.IsList l (as.map Value.ref).toArray:=by
 obtain⟨b_,r,p,_⟩:=I.list (aa.of (K:=X.K) h);rw[Gc r]at p;exact p.isList
theorem fB.of{H':Hp}{b:Addr}(f:fB X ad H b)(n:H' b=none):fB X ad H' b:=⟨n,f.2⟩
theorem Inv.turnF{h':Heap}{t':Nat}{b:Addr}(I:Inv X ad Z H s)(f:fB X ad H b)(k:∀c o,c≠b->s.heap.get? c=some o->h'.get? c=some o):Inv X ad Z H { s with heap:=h',toks:=t' }:=
 I.turned k f.1 f.2.1 f.2.2.2.1 f.2.2.2.2.1 f.2.2.2.2.2
theorem aiw(hc:X.calm=true)(hu:X.A.in1.units<cLine)(yP:l≠I)(ut:S≠I)(Ce:H0 l=some (.lst (as.map V.ref)))(ok:∀i j,ic (ks i) (ks j))(tr:∀a b c,cx (ks a) (ks b)=true->cx (ks b) (ks c)=true->cx (ks a) (ks c)=true)(vU:∀a,cx (ks a) (ks a)=false)
 (a3:GN X q as ks H0) (hR:∀i a H' s',as[i]?=some a->(∀j,j<as.length->cx (ks j) (ks i)=false)->Inv X ad Z H' s'->ac H0 H'->R (.ok (.ret (.ref a))) s') :
 ∀(r j i:Nat) (H:Hp) (s:Shared) (ab O:Addr) (c:Nat),as.length - (j+1)=r->j+1<=as.length->Inv X ad Z H s->ac H0 H->fB X ad H I->fB X ad H S->s.heap.get? S=some (seqObj "list" #[.ref ab,.ref O] c)->s.heap.IsListIter I l (j+1) ->
  as[i]?=some ab->H O=some (.tup ((ks i).map Cc))->(∀J,J<=j->cx (ks J) (ks i)=false)->codeAny (model X.prog X.w) X.A (.builtin "min.loop" ⟨[.ref I,.ref q,.ref S],[]⟩) R s:=by
 have yQ:(toString "min"++toString ".loop":String)="min.loop":=by decide
 have hsz:(as.map Value.ref).toArray.size=as.length:=by simp
 intro r
 induction r with
 | zero=>
  intro j i H s ab O c hr hj U sm fI fS hS a1 jV GO a0;have W:=EJ (prog:=X.prog) (w:=X.w) (A:=X.A.in1) (U.ok.hd hc) I l yP (as.map Value.ref).toArray;have gQ:j+1=as.length:=by omega
  refine qo YC ?_;rw[vm xM _];show wpAny _ X.A.in1 (seqItems? (.ref S) >>= _) _ _ _;refine ae (xC hS rfl ?_);show wpAny _ X.A.in1 (tryCatch (pyNext (.ref I)) _ >>= _) _ _ _;refine ae (AW (W.done _ _ _ ⟨by rw[hsz,<-gQ];exact a1,U.isL (sm _ _ Ce)⟩ λh' m9 eg=>?_));have I1:Inv X ad Z H { s with heap:=h',toks:=m9 }:=U.turnF fI λb o G e=>eg b o (by simpa using G) e;have iU:=eg S _ (by simpa using ut) hS;have s1:=lO h' S (Obj.mapSeq λ_=>(#[]:Av));show wpAny _ X.A.in1 (updateSeq S (λ_=>#[]) >>= _) _ _ _;refine ae ?_;refine EI iU rfl (ae (MY (ar ?_)));exact hR i ab H _ jV (λJ ri=>a0 J (by omega)) (I1.turnF (t':=m9) fS λb o G e=>(s1.2 b G).trans e) sm
 | succ r ih=>
  intro j i H s ab O c hr hj U sm fI fS hS a1 jV GO a0;have W:=EJ (prog:=X.prog) (w:=X.w) (A:=X.A.in1) (U.ok.hd hc) I l yP (as.map Value.ref).toArray;have aO:j+1<as.length:=by omega
  refine qo YC ?_;rw[vm xM _];show wpAny _ X.A.in1 (seqItems? (.ref S) >>= _) _ _ _;refine ae (xC hS rfl ?_);show wpAny _ X.A.in1 (tryCatch (pyNext (.ref I)) _ >>= _) _ _ _;refine ae (AW (W.item (j+1) _ _ _ (by rw[hsz];exact aO) ⟨a1,U.isL (sm _ _ Ce)⟩ λv h' m9 hP yJ eg=>?_));have jp:(as.map Value.ref)[j+1]?=some v:=by simpa using hP
  obtain⟨a,ha,rfl⟩:∃a,as[j+1]?=some a/\v=.ref a:=by
   rw[dG]at jp;cases e:as[j+1]? with
   | none=>rw[e]at jp;cases jp
   | some a=>rw[e]at jp;cases jp;exact⟨a,rfl,rfl⟩
  obtain⟨rj,yR,oj,uo⟩:=id yJ.1;have I1:Inv X ad Z H { s with heap:=h',toks:=m9 }:=U.turnF fI λb o G e=>eg b o (by simpa using G) e;have yS:h'.get? S=some (seqObj "list" #[.ref ab,.ref O] c):=eg S _ (by simpa using ut) hS;have Ip:Inv X (ad++tE [I,S] h') Z H { s with heap:=h',toks:=m9 }:=I1.pinned (fp:=[I,S]) (λb G=>by
   rcases bc.mp G with e | e
   . rw[e];exact fI
   . rw[bw.mp e];exact fS) (λb G=>by
   rcases bc.mp G with e | e
   . rw[e];exact⟨rj,yR,λv z=>by rw[uo]at z;cases z⟩
   rw[bw.mp e];exact⟨_,yS,λv z=>nomatch z⟩)
  show wpAny _ X.A.in1 (tryCatch (holding [.ref a] (call (.ref q) [.ref a])) _ >>= _) _ _ _;refine ae (AW (jQ (eM (a3 (j+1) a ha _ Z H _ Ip sm) (λx s2 he=>?_) λ_ _ hF=>hF.elim)));obtain⟨Y,H2,uu,rfl,ci,vV⟩:=he;have pI:=uu.pin (I,rj) (eU _ (eU _ (qF (by simp) yR)));have pS:=uu.pin (S,seqObj "list" #[.ref ab,.ref O] c) (eU _ (eU _ (qF (by simp) yS)));have I2:=uu.unpinned;have Q2:=sm.trans ci;have Cf:fB X ad H2 I:=fI.of pI.2.1;have vW:fB X ad H2 S:=fS.of pS.2.1;have a2:s2.heap.IsListIter I l (j+1+1):=⟨rj,pI.1,oj,uo⟩;obtain⟨QX,r1,p1,_⟩:=I2.tuple (aZ.of (K:=X.K) vV);obtain⟨a4,r2,p2,_⟩:=I2.tuple (aZ.of (K:=X.K) (ci _ _ GO));show wpAny _ X.A.in1 (tryCatch (holding [.ref a,.ref Y] (richCompare .Lt (.ref Y) (.ref O) >>= _)) _ >>= _) _ _ _;refine ae (AW (jQ (ae (HT.aip p1 p2 (Cd r1) (Cd r2) (ok _ _) hu ?_))));refine ae (jQ (qb ?_));refine ae (MY (ar ?_))
  by_cases j9:cx (ks (j+1)) (ks i)=true
  . have s1:=lO s2.heap S (Obj.mapSeq λ_=>#[.ref a,.ref Y]);obtain⟨c2,me⟩:∃c2,(s2.heap.update S (Obj.mapSeq λ_=>#[.ref a,.ref Y])).get? S=some (seqObj "list" #[.ref a,.ref Y] c2):=⟨_,get?_update_seq pS.1 λ_=>#[.ref a,.ref Y]⟩;simp only[j9,vd];refine ae ?_;refine EI pS.1 rfl (ae (MY ?_));rw[yQ];refine ar ⟨sW xM _,ih (j+1) (j+1) H2 _ a Y c2 (by omega) aO (I2.turnF (t':=s2.toks) vW λb o G e=>(s1.2 b G).trans e) Q2 Cf vW me ⟨rj,(s1.2 I ut.symm).trans pI.1,oj,uo⟩ ha vV λJ ri=>?_⟩
    by_cases e:J=j+1
    . subst e;exact vU _
    cases z:cx (ks J) (ks (j+1)) with
    | false=>rfl
    | true=>have:=tr _ _ _ z j9;rw[a0 J (by omega)]at this;cases this
  have iY:cx (ks (j+1)) (ks i)=false:=by simpa using j9
  simp only[iY,qa,mG];refine ae (MY ?_);rw[yQ];refine ar ⟨sW xM _,ih (j+1) i H2 _ ab O c (by omega) aO I2 Q2 Cf vW pS.1 a2 jV (ci _ _ GO) λJ ri=>?_⟩
  by_cases e:J=j+1
  . subst e;exact iY
  exact a0 J (by omega)
theorem aiy(G:Inv X ad Z H s)(hc:X.calm=true)(hu:X.A.in1.units<cLine)(hl:H l=some (.lst (as.map V.ref)))(dg:0<as.length)(ok:∀i j,ic (ks i) (ks j))(tr:∀a b c,cx (ks a) (ks b)=true->cx (ks b) (ks c)=true->cx (ks a) (ks c)=true)(vU:∀a,cx (ks a) (ks a)=false)
 (a0:GN X q as ks H) (hQ:∀i a H' s',as[i]?=some a->(∀j,j<as.length->cx (ks j) (ks i)=false)->Inv X ad Z H' s'->ac H H'->Q (.ref a) s') :
 wpAny (model X.prog X.w) X.A (call (.builtin "min") [.ref l] [(Str.ofString "key",.ref q)]) Q E s:=by
 have yQ:(toString "min"++toString ".loop":String)="min.loop":=by decide
 have A4:=G.isL hl;obtain⟨ol,B4,_⟩:=id A4;have a1:l<s.heap.objs.size:=bH B4;have hsz:(as.map Value.ref).toArray.size=as.length:=by simp
 refine kmk_tree PySem.F.kind_min PySem.F.plain_min PySem.F.entry_min (kmk_min_key _ _) ?_;show wpAny _ X.A.in1 (Builtin.Builtins.bindParams "min" ["key","default"] 0 ⟨[],[(Str.ofString "key",.ref q)]⟩ >>= _) _ _ s;refine ae (wpAny_of_eq (show Builtin.Builtins.bindParams "min" ["key","default"] 0 ⟨[],[(Str.ofString "key",.ref q)]⟩=pure [some (.ref q),none] from rfl) ?_);refine ae (ar ?_);refine ae (Mu A4 ?_);refine ae (Yh ?_ (dF _));rw[yQ];refine ar ⟨sW xM _,?_⟩;have Y:(s.heap.push { cls:=.type "list_iterator",data:=.fields #[.ref l,.int 0 0] }).objs.size=s.heap.objs.size+1:=size_push' ..;have yP:l≠s.heap.objs.size:=cS a1;have ut:(s.heap.push { cls:=.type "list_iterator",data:=.fields #[.ref l,.int 0 0] }).objs.size≠s.heap.objs.size:=by rw[Y];exact kF (xH _)
 have fI:fB X ad H s.heap.objs.size:=G.fpOk (aG _) (G.hok.fresh (aG _));have fS:fB X ad H (s.heap.push { cls:=.type "list_iterator",data:=.fields #[.ref l,.int 0 0] }).objs.size:=G.fpOk (by rw[Y];exact qf _) (G.hok.fresh (by rw[Y];exact qf _));have gI:((s.heap.push { cls:=.type "list_iterator",data:=.fields #[.ref l,.int 0 0] }).push (seqObj "list" #[] 0)).get? s.heap.objs.size=some { cls:=.type "list_iterator",data:=.fields #[.ref l,.int 0 0] }:=
  cf _ (dN _ rfl)
 have gS:((s.heap.push { cls:=.type "list_iterator",data:=.fields #[.ref l,.int 0 0] }).push (seqObj "list" #[] 0)).get? (s.heap.push { cls:=.type "list_iterator",data:=.fields #[.ref l,.int 0 0] }).objs.size=some (seqObj "list" #[] 0):=dN _ rfl;have I0:Inv X ad Z H { s with heap:=(s.heap.push { cls:=.type "list_iterator",data:=.fields #[.ref l,.int 0 0] }).push (seqObj "list" #[] 0) }:=G.kept (t':=s.toks) λb o e=>cf _ (cf _ e);generalize (s.heap.push { cls:=.type "list_iterator",data:=.fields #[.ref l,.int 0 0] }).objs.size=S at *;generalize s.heap.objs.size=I at *;generalize (s.heap.push { cls:=.type "list_iterator",data:=.fields #[.ref l,.int 0 0] }).push (seqObj "list" #[] 0)=h0 at *;have W:=EJ (prog:=X.prog) (w:=X.w) (A:=X.A.in1) (G.ok.hd hc) I l yP (as.map Value.ref).toArray;refine qo YC ?_;rw[vm xM _];show wpAny _ X.A.in1 (seqItems? (.ref S) >>= _) _ _ _;refine ae (xC gS rfl ?_);show wpAny _ X.A.in1 (tryCatch (pyNext (.ref I)) _ >>= _) _ _ _;refine ae (AW (W.item 0 _ _ _ (by rw[hsz];exact dg) ⟨⟨_,gI,rfl,rfl⟩,I0.isL hl⟩ λv h' m9 hP yJ eg=>?_));have U:(as.map Value.ref)[0]?=some v:=by simpa using hP
 obtain⟨a,ha,rfl⟩:∃a,as[0]?=some a/\v=.ref a:=by
  rw[dG]at U;cases e:as[0]? with
  | none=>rw[e]at U;cases U
  | some a=>rw[e]at U;cases U;exact⟨a,rfl,rfl⟩
 obtain⟨rj,yR,oj,uo⟩:=id yJ.1;have I1:Inv X ad Z H { s with heap:=h',toks:=m9 }:=I0.turnF fI λb o J e=>eg b o (by simpa using J) e;have yS:h'.get? S=some (seqObj "list" #[] 0):=eg S _ (by simpa using ut) gS;have Ip:Inv X (ad++tE [I,S] h') Z H { s with heap:=h',toks:=m9 }:=I1.pinned (fp:=[I,S]) (λb J=>by
  rcases bc.mp J with e | e
  . rw[e];exact fI
  . rw[bw.mp e];exact fS) (λb J=>by
  rcases bc.mp J with e | e
  . rw[e];exact⟨rj,yR,λv z=>by rw[uo]at z;cases z⟩
  rw[bw.mp e];exact⟨_,yS,λv z=>nomatch z⟩)
 show wpAny _ X.A.in1 (tryCatch (holding [.ref a] (call (.ref q) [.ref a])) _ >>= _) _ _ _;refine ae (AW (jQ (eM (a0 0 a ha _ Z H _ Ip (ac.refl H)) (λx s2 he=>?_) λ_ _ hF=>hF.elim)));obtain⟨O,H2,uu,rfl,ci,vV⟩:=he;have pI:=uu.pin (I,rj) (eU _ (eU _ (qF (by simp) yR)));have pS:=uu.pin (S,seqObj "list" #[] 0) (eU _ (eU _ (qF (by simp) yS)));have I2:=uu.unpinned;have Cf:fB X ad H2 I:=fI.of pI.2.1;have vW:fB X ad H2 S:=fS.of pS.2.1;have s1:=lO s2.heap S (Obj.mapSeq λ_=>#[.ref a,.ref O]);obtain⟨c2,me⟩:∃c2,(s2.heap.update S (Obj.mapSeq λ_=>#[.ref a,.ref O])).get? S=some (seqObj "list" #[.ref a,.ref O] c2):=⟨_,get?_update_seq pS.1 λ_=>#[.ref a,.ref O]⟩;show wpAny _ X.A.in1 (updateSeq S (λ_=>#[.ref a,.ref O]) >>= _) _ _ _;refine ae ?_;refine EI pS.1 rfl ?_;rw[yQ];refine ar ⟨sW xM _,aiw (H0:=H) hc hu yP ut hl ok tr vU a0 (λi a H' s' e b I' sm=>hQ i a H' s' e b I' sm) _ 0 0 H2 _ a O c2 rfl dg (I2.turnF (t':=s2.toks) vW λb o J e=>(s1.2 b J).trans e) ci Cf vW me ⟨rj,(s1.2 I ut.symm).trans pI.1,oj,uo⟩ ha vV λj' ri=>?_⟩;have e:j'=0:=by omega
 subst e;exact vU _
end
def lB(P:Addr)(H H':Hp):Prop:=∀b o,H b=some o->b≠P->H' b=some o
def aiA(P:Addr)(a_:Str)(lpos:Pos)(x:Str)(te tb:TE):TE:=λZ H Q=>fT te fg Z H λus H1=>∃(l:Addr) (as:List Addr) (ks:Nat->List At),us=[.ref l]/\l≠P/\H1 l=some (.lst (as.map V.ref))/\0<as.length/\(∀i j,ic (ks i) (ks j)) /\
 (∀a b c,cx (ks a) (ks b)=true->cx (ks b) (ks c)=true->cx (ks a) (ks c)=true)/\(∀a,cx (ks a) (ks a)=false)/\TabSt H1 P lpos a_ /\
 (∀i a,as[i]?=some a->∀H2,lB P H1 H2->tb [some (.ref a)] H2 λv H3=>∃z,v=.ref z/\ac H2 H3/\H3 z=some (.tup ((ks i).map Cc))) /\
 ∀i a H',as[i]?=some a->(∀j,j<as.length->cx (ks j) (ks i)=false)->lB P H1 H'->TabSt H' P lpos a_->Q (.ref a) H'
section
variable {X:Cx}{c P:Addr}{params:Arguments}{body e:Expr}{scope:Scope}{p pos lpos yf:Pos}{a_ x:Str}{k:Nat}{te tb:TE}
theorem TabSt.same{H':Hp}(s:ac H H')(h:TabSt H P lpos a_):TabSt H' P lpos a_:=by
 rcases h with h | ⟨c',h1,h2⟩
 . exact .inl (s _ _ h)
 exact .inr ⟨c',s _ _ h1,s _ _ h2⟩
theorem aiB(he:PE X e te)(S:aN [x] [x] scope)(Y:cq (k+1) X.A.in1)(hc:X.calm=true)(B6:X.env.code=.ref c)(hd:W.codeHdIn X.K c P=true)(hb:X.base.BuiltinsAt X.mg P)(hg:Gl X "min")(hm:X.mg "min"=none)
 (oF:∀(q c':Addr) (A:Around) (outer:List Env) (s:Shared) (H:Hp) (E:XK),PE (kS aJ X.prog X.w X.K X.mg X.base [x] a_ scope q (.ref c') A outer s H E) body tb)
 (GP:∀(pm iz u:Value) (c':Addr),bindArgs (W.kla_fn "<lambda>" a_ params body scope [] pm (.ref c') iz) ⟨[u],[]⟩=pure ([x].zip [u]))
 (hq:X.env.qual ++ "<lambda>"=a_:=by rfl) (B7:X.env.globals=mainGlobals:=by rfl) (mq:closureFor scope X.env=pure []:=by rfl) (GF:defaultsOf params X.env=([],[]):=by rfl)
 (h1:backTo pos (starEach [e] X.env)=(false,eval e X.env)::backTo pos (starEach [] X.env):=by rfl) (h2:starEach [e] X.env=[(false,eval e X.env)]:=by rfl) (h3:(backTo pos (starEach [e] X.env)).any (·.1)=false:=by rfl) :
 PE X (.Call (.Name "min" p) [e] [⟨some "key",.Lambda params body scope lpos,yf⟩] pos) (aiA P a_ lpos x te tb):=by
 intro ad s Z H Q I h;have hu:X.A.in1.units<cLine:=by have:=Y.un;omega
 refine AI (tq I hg hm boot_min ?_ (by decide) (by decide));have z:PA X [e] (fT te fg):=jm he eI h2;refine callWith_kw (thn (z pos ad s Z H _ I h) λus s1 a0=>aP a0 λvs H1 I1 r a1=>a1.elim λl a2=>a2.elim λas a3=>a3.elim λks a4=>a4.elim λe1 a5=>a5.elim λlP a6=>a6.elim λhl a7=>a7.elim λdg a8=>a8.elim λok a9=>a9.elim λtr ab=>ab.elim λvU af=>af.elim λb5 an=>an.elim λap b1=>?_) h1 h3;subst e1;obtain⟨u1,rfl,ru⟩:=vals1 r;cases ru;have hk:PK X [⟨some "key",.Lambda params body scope lpos,yf⟩] (fT (QQ P a_ params body scope lpos) fg):=abp (ahQ B6 hd hb hq B7 mq GF) abo;refine thn (hk pos ad s1 Z H1 (λzs H2=>∃q c',zs=[.ref q]/\lB P H1 H2/\TabSt H2 P lpos a_/\H2 c'=some (yK c' a_)/\H2 q=some (yL q c' a_ params body scope)) I1 ⟨b5,λq c' H2 nq nP kp O ia ir=>⟨q,c',rfl,kp,O,ia,ir⟩⟩) λws s2 au=>aP au λzs H2 I2 rz ax=>ax.elim λq az=>az.elim λc' a'=>a'.elim λez aC=>aC.elim λkp aO=>aO.elim λO aR=>aR.elim λme b2=>?_;subst ez;obtain⟨w1,rfl,b3⟩:=vals1 rz;cases b3;have b6:GN X q as ks H2:=by
  intro i a z ES σ' H3 s3 J j;obtain⟨pm,iz,ho⟩:=(show b9 X.prog X.w H3 s3.heap q (yL q c' a_ params body scope) from J.hok q _ (j _ _ b2)).1;have GC:s3.heap.CodeRec (.ref c') a_:=(show b9 X.prog X.w H3 s3.heap c' (yK c' a_) from J.hok c' _ (j _ _ me)).1;refine Ex (qe (ahO (E:=E0) (vs:=[.ref a]) (us:=[.ref a]) S Y J.env0.in1 ho GC (GP pm iz _ c') rfl (.cons rfl .nil) (oF q c' _ _ _ _ _) (ap i a z H3 λb o e n=>j _ _ (kp b o e n))) λr s' G=>?_);cases r with
  | error e=>exact(show False from G).elim
  | ok fl=>
   cases fl with
   | ret u=>
    obtain⟨v,H',U,rv,kt,ev,b4,vV⟩:=J.after G;subst ev;cases rv;exact⟨kt,H',U,rfl,b4,vV⟩
   | next=>exact False.elim G
   | brk=>exact False.elim G
   | cont=>exact False.elim G
 refine aiy I2 hc hu (kp _ _ hl lP) dg ok tr vU b6 λi a H' s' z b0 U j=>?_;exact⟨.ref a,H',U,rfl,b1 i a H' z b0 (λb o e n=>j _ _ (kp b o e n)) (O.same j)⟩
end
end
section
open PySem.W (tabObj CodeHd)
theorem ai1{P:Program}{w:World}{K:Fg}{mg mb:Mv}{CX:ib}{k:Nat}{fa a Pt c:Addr}{fd:Fy}{x a_:Str}{lpos:Pos}{sp:Sp}{j:Shared}{vs:Lw}{ns:List Int}
 (KX:K.In j.heap) (j7:j.heap.Ns mainGlobals mg) (G:j.heap.Ns builtinsNs mb) (lj:∀x:Str,x≠"__name__"->mb x=bootBuiltins x) (a3:j.heap.NoLimit) (hg:j.gens = #[])
 (a7:∃bm ob,mg "__builtins__"=some (.ref bm)/\bm≠builtinsNs/\j.heap.get? bm=some ob/\ob.cls=.type "module"/\ob.dict=some builtinsNs/\ob.data=.plain)
 (O:j.heap.get? Pt=some (tabObj #[])) (hC:CodeHd j.heap c Pt) (GR:K.lookup Pt=none)
 (ha:j.heap.get? a=some { cls:=.type "list",data:=.seq vs.toArray }) (hi:IntsAre vs ns) (hl:ns.length<=sizeLine) (hr:cq k callerA)
 (F:∀base:Heap,K.In base->base.Ns mainGlobals mg->base.BuiltinsAt mg Pt->aA P w K mg base CX k fa fd [x] sp) (GP:∀(s:Shared) (u:Value),BindsTo s fd ⟨[u],[]⟩ [(x,u)])
 (jy:∀H:Hp,H Pt=some (iA Pt #[])->aa K H a (ns.map V.int)->sp [.ref a] H (λv H'=>v=.bl true/\TabSt H' Pt lpos a_) λ_ _ _=>False)
 (GS:∀H e s',CX [] H j (λ_ _ _=>False) e s'->False) :
 codeAny (model P w) callerA (.call (.ref fa) ⟨[.ref a],[]⟩) (λr s'=>r=.ok (.ret (.bool true))/\OldK j.heap s'.heap/\s'.os=j.os/\AllBare s'.gens) j:=by
 have rv:=OZ hi;have a4:=hi.length;have Q3:a≠Pt:=λz=>by rw[z,O]at ha;cases ha
 have a1:∀H:Hp,H Pt=some (iA Pt #[])->(∀b,b≠Pt->H b=none\/∃o xs,H b=some (.frz o (.lst xs)))->aa K H a (ns.map V.int)->cp P w H j.heap->(∀b,H b≠none->b=a\/b=Pt)->(H a≠none->K.lookup a=none) ->
  codeAny (model P w) callerA (.call (.ref fa) ⟨[.ref a],[]⟩) (λr s'=>r=.ok (.ret (.bool true))/\OldK j.heap s'.heap/\s'.os=j.os/\AllBare s'.gens) j:=by
  intro H hT hO hS hok hA hK;have GU:∀{b:Addr}{o:Obj},j.heap.get? b=some o->H b=none->(mK j.heap H).get? b=some o:=λe n=>Zh e n;have Q4:∀{b:Addr}{o:Obj},j.heap.get? b=some o->(∀it n,o.data≠.seq it n)->(∀ps,o.data≠.fields ps)->H b=none:=λ{b o} e d1 d2=>by
   cases q:H b with
   | none=>rfl
   | some u=>
    rcases hA b (by rw[q];simp) with e' | e'
    . subst e';rw[ha]at e;cases e;exact absurd rfl (d1 _ _)
    subst e';rw[O]at e;cases e;exact absurd rfl (d2 _)
  have Cg:∀{b:Addr}{m:Mv},j.heap.Ns b m->(mK j.heap H).Ns b m:=λ{b m} ⟨o,es,ep,e,d,r⟩=>⟨o,es,ep,GU e (Q4 e (λit n z=>by rw[d]at z;cases z) λps z=>by rw[d]at z;cases z),d,r⟩;have Q5:K.In (mK j.heap H):=λb o e=>GU (KX b o e) (by
   cases q:H b with
   | none=>rfl
   | some u=>
    rcases hA b (by rw[q];simp) with e' | e'
    . subst e';rw[hK (by rw[q];simp)]at e;cases e
    subst e';rw[GR]at e;cases e)
  have hM:Mod K mg (mK j.heap H):=⟨Q5,Cg j7,⟨mb,Cg G,lj⟩,a3.elim λmc a5=>a5.elim λh1 h2=>⟨mc,Cg h1,h2⟩⟩;have e0:lX P w K mg (mK j.heap H) callerA [] j H:=⟨rfl,hM,λb o e=>Zi e,xG (Zg _ _),trivial,λb G=>absurd (show b∈([]:List Addr) from G) (by simp),hok,.of_eq hg⟩;have a8:(mK j.heap H).BuiltinsAt mg Pt:=by
   obtain⟨bm,a9,b1,b2,U,b4,b5,Y⟩:=a7;refine⟨bm,a9,b1,b2,λz=>?_,λz=>?_,GU U (Q4 U (λit n z=>by rw[Y]at z;cases z) λps z=>by rw[Y]at z;cases z),b4,b5,Y⟩
   . obtain⟨o,es,ep,e,d,_⟩:=j7;rw[z,e]at U;cases U;rw[d]at Y;cases Y
   rw[z,O]at U;cases U;cases Y
  refine qe ((F _ Q5 (Cg j7) a8).run callerA [] j H ⟨[.ref a],[]⟩ [.ref a] [.ref a] _ _ hr e0 (GP j (.ref a)) (.cons rfl .nil) (jy H hT hS)) λr s' h=>?_;cases r with
  | error e=>exact(GS H e s' h).elim
  | ok fl=>
   cases fl with
   | next=>exact False.elim h
   | brk=>exact False.elim h
   | cont=>exact False.elim h
   | ret u=>
    obtain⟨v,H',os,a6,un,tW,r',q',tb⟩:=h;subst q';obtain rfl:u=Value.bool true:=r';have old:∀b o,j.heap.get? b=some o->b≠Pt->s'.heap.get? b=some o:=λb o e J=>by
     cases q:H b with
     | none=>exact un.keep b o e q (by intro z;exact absurd (show b∈([]:List Addr) from z) (by simp)) (by simp)
     | some u=>
      rcases hO b J with z | ⟨ob,xs,z⟩
      . rw[q]at z;cases z
      have z2:=un.frzs b ob _ z;obtain⟨e1,_⟩:=hok b _ z;obtain⟨e2,_⟩:=tW b _ z2;rw[e]at e1;cases e1;exact e2
    have a2:s'.heap.get? Pt=some (tabObj #[])\/∃a0,s'.heap.get? Pt=some (tabObj (#[]++a0)):=by
     rcases tb with z | ⟨c',z,_⟩
     . exact .inl (show b9 P w H' s'.heap Pt (iA Pt #[]) from tW Pt _ z).1
     exact .inr ⟨_,by rw[Array.empty_append];exact(show b9 P w H' s'.heap Pt (iA Pt _) from tW Pt _ z).1⟩
    refine⟨rfl,⟨λb o e=>?_,λb o e=>?_⟩,os,a6⟩
    . by_cases J:b=Pt
      . subst J;rw[O]at e;cases e
        rcases a2 with z | ⟨a0,z⟩
        . exact .inl z
        exact .inr (.inl ⟨(hC.tab O).isCodeTable,rfl,#[],a0,rfl,z⟩)
      exact .inl (old b o e J)
    by_cases J:b=Pt
    . subst J
      rcases a2 with z | ⟨a0,z⟩
      . exact⟨_,z⟩
      exact⟨_,z⟩
    exact⟨o,old b o e J⟩
 have nn:∀H:Hp,H Pt=some (iA Pt #[])->b9 P w H j.heap Pt (iA Pt #[]):=λH _=>yM O O λh1 h2 z k=>k _ z;cases hk:K.lookup a with
 | some o=>
  have e:=KX a o hk;rw[ha]at e;cases e;refine a1 (λb=>if b=Pt then some (iA Pt #[]) else none) (am rfl) (λb J=>.inl (ag J)) (.inr ⟨_,vs.toArray,_,hk,rfl,rfl,rfl,by rw[gi,a4];exact hl,by simpa using rv⟩) (λb u z=>?_) (λb z=>?_) λz=>absurd (ag Q3) z
  . by_cases G:b=Pt
    . have z':=(am G).symm.trans z;cases z';subst G;exact nn _ (am rfl)
    have z':=(ag G).symm.trans z;cases z'
  by_cases G:b=Pt
  . exact .inr G
  exact absurd (ag G) z
 | none=>
  refine a1 (λb=>if b=Pt then some (iA Pt #[]) else if b=a then some (.frz { cls:=.type "list",data:=.seq vs.toArray } (.lst (ns.map V.int))) else none) (am rfl) (λb J=>?_) (.inl (.inr ⟨{ cls:=.type "list",data:=.seq vs.toArray },by show(if a=Pt then _ else if a=a then _ else _)=_;rw[ag Q3,am rfl]⟩)) (λb u z=>?_) (λb z=>?_) λ_=>hk
  . show(if b=Pt then _ else if b=a then _ else _)=_\/∃o xs,(if b=Pt then _ else if b=a then _ else _)=_;rw[ag J]
    by_cases G:b=a
    . exact .inr ⟨_,_,am G⟩
    exact .inl (ag G)
  . have z:(if b=Pt then some (iA Pt #[]) else if b=a then some (.frz { cls:=.type "list",data:=.seq vs.toArray } (.lst (ns.map V.int))) else none)=some u:=z
    by_cases G:b=Pt
    . rw[am G]at z;cases z;subst G;exact nn _ (am rfl)
    rw[ag G]at z
    by_cases iY:b=a
    . rw[am iY]at z;cases z;subst iY;exact⟨ha,by rw[ak];exact hl,vs,_,rv,ha⟩
    rw[ag iY]at z;cases z
  have z:(if b=Pt then some (iA Pt #[]) else if b=a then some (HO.frz { cls:=.type "list",data:=.seq vs.toArray } (.lst (ns.map V.int))) else none)≠none:=z
  by_cases G:b=Pt
  . exact .inr G
  rw[ag G]at z
  by_cases iY:b=a
  . exact .inl iY
  rw[ag iY]at z;exact absurd rfl z
theorem ai7{l:W.OpenLaw}{n k:Nat}{q:Program}{a1:Ls}{XP:(Mv)->Heap->Prop}{J:World->Heap->Prop}{d:DefRec}{K:Params->Fg}{CX:World->ib}{sp:World->Sp}{x a_:Str}{lpos:Pos}{Pt:Addr}
 (hn:l.most=some n) (ye:n<=sizeLine) (yo:d.params.defaults=[]) (hr:cq k callerA)
 (hY:∀(w:World) (h:Heap),J w h->(K w.params).In h/\h.get? Pt=some (tabObj #[]))
 (F:∀(w:World) (mg:Mv) (j:Addr) (h:Heap),(K w.params).In h->h.Ns mainGlobals mg->mg d.name=some (.ref j) ->
  ∃(fd:Fy) (c:Addr),(∀(s:Shared) (u:Value),BindsTo s fd ⟨[u],[]⟩ [(x,u)])/\W.codeHdIn (K w.params) c Pt=true/\(K w.params).lookup Pt=none /\
   ∀base:Heap,(K w.params).In base->base.Ns mainGlobals mg->base.BuiltinsAt mg Pt->aA l.prog w (K w.params) mg base (CX w) k j fd [x] (sp w))
 (jy:∀(w:World) (H:Hp) (a:Addr) (ns:List Int),ns.length<=n->H Pt=some (iA Pt #[])->aa (K w.params) H a (ns.map V.int)->sp w [.ref a] H (λv H'=>v=.bl true/\TabSt H' Pt lpos a_) λ_ _ _=>False)
 (GS:∀(w:World) (H:Hp) (s:Shared) (e:Value) (s':Shared),CX w [] H s (λ_ _ _=>False) e s'->False) :
 W.WalkO q a1 XP J l.row.toRowW d [] (λf vs=>PySem.call f vs):=by
 refine Att.adj hn yo λw s₀ s₁ mg mb j o pm cd a2 a vs ns G Y ho hd iL yp tQ a0 O hg=>?_;obtain⟨z,hP⟩:=hY w _ Y;obtain⟨fd,c,hb,hC,U,hF⟩:=F w mg j _ z G.T.g yp;exact ai1 z G.T.g G.T.b G.T.builtins G.T.nolimit hg G.T.bmain hP (W.codeHd_of_K z hC) U tQ a0 (b8 O ye) hr hF hb (λH hO hS=>jy w H a ns O hO hS) λH e s'=>GS w H s₁ e s'
end
end L2
abbrev ayy:PySem.Str:="self"
abbrev ayz:PySem.Str:="_law_cell"
abbrev ayA:PySem.Str:="_law_names"
abbrev ayB:PySem.Str:="_law_number"
abbrev ayC:PySem.Str:="shelf"
abbrev ayD:PySem.Str:="parcel"
abbrev ayE:PySem.Str:="name"
abbrev ayF:PySem.Str:="parcels"
abbrev ayG:PySem.Str:="path"
abbrev ayH:PySem.Str:="chosen"
abbrev ayI:PySem.Str:="disk"
abbrev ayJ:PySem.Str:="_law_script"
abbrev ayK:PySem.Str:="make"
abbrev ayL:PySem.Str:="text"
abbrev ayM:PySem.Str:="files"
abbrev ayN:PySem.Str:="choices"
abbrev ayO:PySem.Str:="lines"
abbrev ayP:PySem.Str:="_law_k"
abbrev ayQ:PySem.Str:="_law_house"
abbrev ayR:PySem.Str:="other"
abbrev ayS:PySem.Str:="rank"
abbrev ayT:PySem.Str:="goal"
abbrev ayU:PySem.Str:="_law_parcels"
abbrev ayV:PySem.Str:="stand"
abbrev ayW:PySem.Str:="own"
abbrev ayX:PySem.Str:="_law_some"
abbrev ayY:PySem.Str:="needs"
abbrev ayZ:PySem.Str:="common"
abbrev ay0:PySem.Str:="_law_one"
abbrev ay1:PySem.Str:="number"
abbrev ay2:PySem.Str:="change"
abbrev ay3:PySem.Str:="second"
abbrev ay4:PySem.Str:="first"
abbrev ay5:PySem.Str:="block"
abbrev ay6:PySem.Str:="abcdefghijklmnopqrstuvwxyz"
abbrev ay7:PySem.Str:="now"
abbrev ay8:PySem.Str:="_law_name_here"
abbrev ay9:PySem.Str:="shuts"
abbrev aza:PySem.Str:="group"
abbrev azb:PySem.Str:="tree"
abbrev azc:PySem.Str:="base"
abbrev azd:PySem.Str:="brought"
abbrev aze:PySem.Str:="_law_parcels_apart"
abbrev azf:PySem.Str:="offers"
abbrev azg:PySem.Str:="names"
abbrev azh:PySem.Str:="_law_disk"
abbrev azi:PySem.Str:="kind"
abbrev azj:PySem.Str:="name_behind"
abbrev azk:PySem.Str:="_law_p"
abbrev azl:PySem.Str:="_law_start"
abbrev azm:PySem.Str:="others"
abbrev azn:PySem.Str:="groups"
abbrev azo:PySem.Str:="shelved"
abbrev azp:PySem.Str:="strange"
namespace K72
open L2
variable {x:Str}{H:Hp}{o:HO}{n:Int}{L:List Addr}{α β:Type}{kvs:List (ao×V)}{c d:Nat}{ms:List Int}
structure eT(C dx x:Addr)(H Hk:Hp)(fl:List (Str×V)):Prop where
 same:∀b o,H b=some o->b≠x->Hk b=some o
 free:∀b,Hk b=none->H b=none
 ob:Hk x=some (.ins C dx fl)
section
variable {K:Fg}{C dx x p a:Addr}{Hk:Hp}{fl rm:List (Str×V)} {o':HO}{xs:Lv}
theorem eT.put(S:eT C dx x H Hk fl):eT C dx x H (ah Hk x (.ins C dx rm)) rm:=
 ⟨λb o e j=>by rw[aW j];exact S.same b o e j,λb e=>S.free b (kX e).2,aE⟩
theorem eT.lay(S:eT C dx x H Hk fl)(z:Hk p=none):eT C dx x H (ah Hk p o) fl:=
 ⟨λb u e j=>by rw[aW (aK (S.same b u e j) z)];exact S.same b u e j,λb e=>S.free b (kX e).2,by rw[aW (aK S.ob z)];exact S.ob⟩
theorem eT.sqL(S:eT C dx x H Hk fl)(j:H x=some (.ins C dx rm))(h:aa K H a xs):aa K Hk a xs:=by
 rcases h with(h | ⟨o,h⟩) | h
 . exact .inl (.inl (S.same _ _ h (be h j (by intro z;cases z))))
 . exact .inl (.inr ⟨o,S.same _ _ h (be h j (by intro z;cases z))⟩)
 exact .inr h
theorem eT.sqT(S:eT C dx x H Hk fl)(j:H x=some (.ins C dx rm))(h:aZ K H a xs):aZ K Hk a xs:=by
 rcases h with(h | ⟨o,h⟩) | h
 . exact .inl (.inl (S.same _ _ h (be h j (by intro z;cases z))))
 . exact .inl (.inr ⟨o,S.same _ _ h (be h j (by intro z;cases z))⟩)
 exact .inr h
theorem aD(h:Hk a=some o)(n:a≠p):ah Hk p o' a=some o:=by rw[aW n];exact h
theorem lp{f:Str}{v:V}{n:Nat}(h:fl.length<=n):(ay f v fl).length<=n+1:=b8 (Fj _ _ _) (by omega)
theorem few{n:Nat}(h:fl.length<=n)(h2:n<1000):fl.length<1000:=by omega
theorem o9:([]:List (Str×V)).length<=0:=aG _
end
def msk(L:List Addr)(H:Hp):Hp:=λb=>if b∈L then none else H b
theorem aV:ac (msk L H) H:=λb o e=>by
 unfold msk at e;split at e
 . cases e
 exact e
theorem di{H':Hp}(s:ac H H'):ac (msk L H) (msk L H'):=λb o e=>by
 unfold msk at e ⊢;split at e
 . cases e
 rw[ag ‹_›];exact s _ _ e
theorem yT(h:p∈L):msk L (ah H p o)=msk L H:=by
 funext b
 unfold msk;split
 . rfl
 have j:¬b∈L:=‹_›;rw[aW (λz=>j (by rw[z];exact h))]
theorem cC(n:b∉L)(h:H b=some o):msk L H b=some o:=by
 unfold msk;rw[ag n];exact h
theorem Ci{j:List Addr}(h:∀b∈j,b∈L):ac (msk L H) (msk j H):=λb o e=>by
 unfold msk at e ⊢;split at e
 . cases e
 rw[ag (λz=>‹¬b∈L› (h b z))];exact e
def gJ(H:Hp)(L:List Addr):Prop:=∀b∈L,∃o,H b=some o/\∀vs,o≠.tup vs
theorem gJ.free(h:gJ H L){b:Addr}(n:H b=none):b∉L:=λz=>by
 obtain⟨o,e,_⟩:=h b z;rw[n]at e;cases e
theorem gJ.tup(h:gJ H L){b:Addr}{vs:Lv}(n:H b=some (.tup vs)):b∉L:=λz=>by
 obtain⟨o,e,q⟩:=h b z;rw[n]at e;cases e;exact q _ rfl
theorem yU{F:α->β->Prop}:∀{xs:List α}{ys:List β},Paired F xs ys->∀{i:Nat}{y:β},ys[i]?=some y->∃x,xs[i]?=some x/\F x y
 | _,_,.nil,i,y,h=>by cases h
 | _,_,.cons r t,0,y,h=>by cases h;exact⟨_,rfl,r⟩
 | _,_,.cons r t,i+1,y,h=>yU t (i:=i) h
theorem eK{F:α->β->Prop}:∀{xs:List α}{ys:List β},Paired F xs ys->∀{i:Nat}{x:α},xs[i]?=some x->∃y,ys[i]?=some y/\F x y
 | _,_,.nil,i,y,h=>by cases h
 | _,_,.cons r t,0,y,h=>by cases h;exact⟨_,rfl,r⟩
 | _,_,.cons r t,i+1,y,h=>eK t (i:=i) h
theorem bv{F:α->β->Prop}:∀{xs:List α}{ys:List β},Paired F xs ys->xs.length=ys.length
 | _,_,.nil=>rfl
 | _,_,.cons _ t=>fw (· + 1) (bv t)
theorem jq{F:α->β->Prop}{x:α}{y:β}(h:F x y):∀{xs:List α}{ys:List β},Paired F xs ys->Paired F (xs++[x]) (ys++[y])
 | _,_,.nil=>.cons h .nil
 | _,_,.cons r t=>.cons r (jq h t)
theorem Q6{F:α->β->Prop}:∀{xs:List α}{ys:List β},xs.length=ys.length->(∀(i:Nat) (y:β),ys[i]?=some y->∃x,xs[i]?=some x/\F x y)->Paired F xs ys
 | [],[],_,_=>.nil
 | [],_::_,h,_=>nomatch h
 | _::_,[],h,_=>nomatch h
 | x::xs,y::ys,h,k=>by
  obtain⟨j,e,r⟩:=k 0 y rfl;cases e;exact .cons r (Q6 (Nat.succ.inj h) λi z hz=>k (i+1) z hz)
theorem Q7:∀(p:Str) (l:Ls),risingS p l=true->(p::l).Pairwise (λa b=>a.cps.toList<=b.cps.toList)
 | p,[],_=>List.pairwise_singleton _ _
 | p,x::r,h=>by
  have h:(!ltCps x.cps.toList p.cps.toList && risingS x r)=true:=h;obtain⟨h1,h2⟩:=xK.mp h;have j:=Q7 x r h2;have le:p.cps.toList<=x.cps.toList:=by
   rw[PyProof.Rows.ltCps_eq]at h1;intro z;rw[bE z]at h1;cases h1
  refine List.pairwise_cons.mpr ⟨λy hy=>?_,j⟩
  rcases bc.mp hy with e | hy
  . rw[e];exact le
  exact List.le_trans le (List.rel_of_pairwise_cons j hy)
theorem GV:∀{l:Ls},sortedS l=true->l.Pairwise (λa b=>a.cps.toList<=b.cps.toList)
 | [],_=>.nil
 | x::r,h=>Q7 x r h
theorem ai8{a b:Ls}(p:a.Perm b)(h1:sortedS a=true)(h2:sortedS b=true):a=b:=by
 refine awT (λx y _ _ h h'=>?_) (GV h1) (GV h2) p;have e:=YD h h';obtain⟨⟨x⟩⟩:=x;obtain⟨⟨y⟩⟩:=y;have e:x=y:=e;rw[e]
def bN(tr:List (Str×β))(x:Str)(ls:β):List (Str×β):=if (tr.any λf=>decide (f.1=x))=true then tr.map (λf=>if f.1=x then(f.1,ls) else f) else tr++[(x,ls)]
theorem kf{tr:List (Str×β)}{ls:β}{f:Str×β}(h:f∈bN tr x ls):f=(x,ls)\/f∈tr:=by
 unfold bN at h;split at h
 . obtain⟨g,j,e⟩:=cE.mp h;split at e
   . rename_i z;left;rw[<-e,z]
   right;rw[<-e];exact j
 rcases bR.mp h with h | h
 . exact .inr h
 exact .inl (bw.mp h)
theorem Q8(tr:List (Str×β))(x:Str)(ls:β):(bN tr x ls).map (·.1)=if (tr.any λf=>decide (f.1=x))=true then tr.map (·.1) else tr.map (·.1)++[x]:=by
 unfold bN;split
 . rw[lR];refine MZ λf _=>?_;show(if f.1=x then(f.1,ls) else f).1=f.1;split<;>rfl
 rw[dw];rfl
theorem rn{tr:List (Str×β)}:(tr.any λf=>decide (f.1=x))=true↔x∈tr.map (·.1):=by
 rw[vj,cE];constructor
 . rintro⟨f,hf,e⟩;exact⟨f,hf,cY e⟩
 rintro⟨f,hf,e⟩;exact⟨f,hf,bE e⟩
theorem ki{tr:List (Str×β)}{ls:β}(h:(tr.map (·.1)).Nodup):((bN tr x ls).map (·.1)).Nodup:=by
 rw[Q8];split
 . exact h
 rename_i G;rw[sT];refine⟨h,by simp,λa j b z=>?_⟩;rw[bw.mp z];intro e;exact G (rn.mpr (e▸j))
theorem GW{tr:List (Str×β)}{y:Str}{ls:β}(h:y=x\/y∈tr.map (·.1)):y∈(bN tr x ls).map (·.1):=by
 rw[Q8];split
 . rename_i j
   rcases h with h | h
   . rw[h];exact rn.mp j
   exact h
 rcases h with h | h
 . rw[h];exact eU _ (bw.mpr rfl)
 exact xD _ h
theorem jE(tr:List (Str×β))(x:Str)(ls:β):(bN tr x ls).length<=tr.length+1:=by
 unfold bN;split
 . rw[ak];omega
 rw[bI,je];omega
theorem iZ{F:ao×V->Str×β->Prop}(J:∀kv f,F kv f->kv.1=Sum.inr f.1){ls:β}{v:V}(U:F (.inr x,v) (x,ls)){tr:List (Str×β)}(h:Paired F kvs tr):Paired F (cQ kvs (.inr x) v) (bN tr x ls):=by
 have e:(kvs.any λkv=>decide (kv.1=Sum.inr x))=(tr.any λf=>decide (f.1=x)):=by
  induction h with
  | nil=>rfl
  | cons r t G=>
   rw[sN,sN,G,J _ _ r]
   congr 1
   exact xN.mpr ⟨λz=>lK z,λz=>by rw[z]⟩
 unfold cQ bN;rw[e];split
 . clear e;rename_i hh;clear hh
   induction h with
   | nil=>exact .nil
   | @cons kv f kvs tr r t G=>
    refine .cons ?_ G;have O:=J _ _ r;dsimp only
    by_cases j:f.1=x
    . have Y:kv.1=Sum.inr x:=by rw[O,j]
      rw[am Y,am j,Y,j];exact U
    rw[ag (λz=>j (lK (O.symm.trans z))),ag j];exact r
 exact jq U h
theorem rp{F:ao×V->Str×β->Prop}(j:∀kv f,F kv f->kv.1=Sum.inr f.1){tr:List (Str×β)}(h:Paired F kvs tr):ue kvs (tr.map (·.1)):=by
 unfold ue
 induction h with
 | nil=>rfl
 | cons r t z=>rw[bS,bS,bS,z,j _ _ r]
theorem ph{F:ao×V->Str×β->Prop}(J:∀kv f,F kv f->kv.1=Sum.inr f.1){tr:List (Str×β)}(h:Paired F kvs tr)(G:x∈tr.map (·.1)):∃v ls,bi kvs (.inr x)=some v/\(x,ls)∈tr/\F (.inr x,v) (x,ls):=by
 induction h with
 | nil=>cases G
 | @cons kv f kvs tr r t O=>
  have j:=J _ _ r
  by_cases e:f.1=x
  . refine⟨kv.2,f.2,by rw[jZ (j.trans (by rw[e]))],?_,?_⟩
    . rw[<-e];exact bM
    rw[<-e,<-j];exact r
  rcases bc.mp G with z | z
  . exact absurd z.symm e
  obtain⟨v,ls,a,b,c⟩:=O z;exact⟨v,ls,by rw[jo (λq=>e (lK (j.symm.trans q)))];exact a,bY _ b,c⟩
theorem yW{F:ao×V->Str×β->Prop}(z:∀kv f,F kv f->kv.1=Sum.inr f.1){tr:List (Str×β)}(h:Paired F kvs tr)(j:x∉tr.map (·.1)):bi kvs (.inr x)=none:=by
 induction h with
 | nil=>rfl
 | @cons kv f kvs tr r t J=>
  have G:=z _ _ r;rw[bS,bc,nZ]at j;rw[jo (λq=>j.1 (lK (G.symm.trans q)).symm)];exact J j.2
theorem nu{tr:List (Str×β)}(h:(tr.map (·.1)).Nodup){a b:β}(ha:(x,a)∈tr)(hb:(x,b)∈tr):a=b:=by
 induction tr with
 | nil=>cases ha
 | cons f tr G=>
  rw[bS,qh]at h
  rcases bc.mp ha with z | ha
  . rcases bc.mp hb with j | hb
    . rw[<-z]at j;exact(Prod.mk.inj j).2.symm
    exact absurd (gD (f:=(·.1)) hb) (by rw[<-z]at h;exact h.1)
  rcases bc.mp hb with j | hb
  . exact absurd (gD (f:=(·.1)) ha) (by rw[<-j]at h;exact h.1)
  exact G h.2 ha hb
theorem Q9:∀{p q x y:List Nat},c∉p->c∉q->p++c::x=q++c::y->p=q/\x=y
 | [],[],x,y,_,_,h=>⟨rfl,(sX h).2⟩
 | [],b::q,x,y,_,hq,h=>absurd ((sX h).1▸bM) hq
 | a::p,[],x,y,hp,_,h=>absurd ((sX h).1.symm▸bM) hp
 | a::p,b::q,x,y,hp,hq,h=>by
  have h:=sX h;obtain⟨e1,e2⟩:=Q9 (λz=>hp (bY _ z)) (λz=>hq (bY _ z)) h.2;exact⟨by rw[h.1,e1],e2⟩
theorem yX{a b:Str}(h:a.cps.toList=b.cps.toList):a=b:=Str.ext' (Array.toList_inj.mp h)
theorem mv(a b:Str):(a++b).cps.toList=a.cps.toList++b.cps.toList:=by rw[Str.cps_append,Array.toList_append]
theorem nw(c:Nat)(p q:Str)(r:Ls):(Str.join ⟨#[c]⟩ (p::q::r)).cps.toList=p.cps.toList++c::(Str.join ⟨#[c]⟩ (q::r)).cps.toList:=by
 show(p++⟨#[c]⟩++Str.join ⟨#[c]⟩ (q::r)).cps.toList=_;rw[mv,mv,kI];rfl
theorem Ra:∀{ps j:Ls},ps≠[]->j≠[]->(∀p∈ps,c∉p.cps.toList)->(∀q∈j,c∉q.cps.toList)->Str.join ⟨#[c]⟩ ps=Str.join ⟨#[c]⟩ j->ps=j
 | [],_,h,_,_,_,_=>absurd rfl h
 | _::_,[],_,h,_,_,_=>absurd rfl h
 | [p],[q],_,_,_,_,e=>by
  have e:p=q:=e;rw[e]
 | [p],q::q'::r,_,_,hp,_,e=>by
  have e:=fw (λx:Str=>x.cps.toList) e;have e:p.cps.toList=(Str.join ⟨#[c]⟩ (q::q'::r)).cps.toList:=e;rw[nw]at e;exact absurd (by rw[e];exact eU _ bM) (hp p bM)
 | p::p'::r,[q],_,_,_,hq,e=>by
  have e:=fw (λx:Str=>x.cps.toList) e;have e:(Str.join ⟨#[c]⟩ (p::p'::r)).cps.toList=q.cps.toList:=e;rw[nw]at e;exact absurd (by rw[<-e];exact eU _ bM) (hq q bM)
 | p::p'::r,q::q'::t,_,_,hp,hq,e=>by
  have e:=fw (λx:Str=>x.cps.toList) e;have e:(Str.join ⟨#[c]⟩ (p::p'::r)).cps.toList=(Str.join ⟨#[c]⟩ (q::q'::t)).cps.toList:=e;rw[nw,nw]at e;obtain⟨e1,e2⟩:=Q9 (hp p bM) (hq q bM) e;rw[yX e1,Ra (EK _ _) (EK _ _) (λz hz=>hp z (bY _ hz)) (λz hz=>hq z (bY _ hz)) (yX e2)]
theorem ai9(x y:Str):Txt.split x y≠[]:=λz=>by
 have:=split_pos x y;rw[z]at this;exact absurd this (by decide)
theorem Cj{ps:Ls}(ne:ps≠[])(h:∀p∈ps,c∉p.cps.toList):Txt.split (Str.join ⟨#[c]⟩ ps) ⟨#[c]⟩=ps:=
 Ra (ai9 _ _) ne (StrLaws.split_free _ _) h (StrLaws.join_split _ _)
def yY(x y:Str):Bool:=!decide (y.cps.toList<x.cps.toList)
def rq(lo hi:Str)(c:Nat):Bool:=if yY lo (rf c)=true then yY (rf c) hi else false
theorem Rc(a b:Nat):yY ⟨#[a]⟩ ⟨#[b]⟩=decide (a<=b):=by
 unfold yY;show(!decide ([b] < [a]))=_;rw[StrLaws.lt_cons_cons,StrLaws.lt_nil_nil,vg,sM]
 by_cases h:b<a
 . rw[bE h,cy (by omega)];rfl
 rw[cy h,bE (by omega)];rfl
theorem Ck(a b c:Nat):rq ⟨#[a]⟩ ⟨#[b]⟩ c=decide (a<=c/\c<=b):=by
 unfold rq rf;rw[Rc,Rc]
 by_cases h:a<=c
 . rw[bE h,am rfl];exact xN.mpr ⟨λz=>⟨h,z⟩,λz=>z.2⟩
 rw[cy h,ag (by decide),cy (λz=>h z.1)]
theorem Rf(x:Str)(c:Nat):Txt.startswith x ⟨#[c]⟩=decide (x.cps.toList[0]?=some c):=by
 unfold Txt.startswith;rw[xF,im,AX,AX];exact StrLaws.subAt_one x c 0
def lC:Str:="\n"
def spS:Str:=" "
def lE:Str:="/"
def lF:Str:="."
def fk:Str:="<"
def fm:Str:=">"
def aS:Str:="a"
def zS:Str:="z"
def Rg:Str:="~"
def Cm:Str:="0"
def Rh:Str:="9"
def gs:Str:="in"
def f9:Str:="choose"
def dY:Str:=ayW
theorem GX:lC=⟨#[10]⟩:=by decide +kernel
theorem rA:spS=⟨#[32]⟩:=by decide +kernel
theorem GY:lE=⟨#[47]⟩:=by decide +kernel
theorem Ri:lF=⟨#[46]⟩:=by decide +kernel
theorem ny:fk=⟨#[60]⟩:=by decide +kernel
theorem pi:fm=⟨#[62]⟩:=by decide +kernel
theorem aja:aS=⟨#[97]⟩:=by decide +kernel
theorem ajb:zS=⟨#[122]⟩:=by decide +kernel
theorem ajc:Rg=⟨#[126]⟩:=by decide +kernel
theorem GZ:Cm=⟨#[48]⟩:=by decide +kernel
theorem Rj:Rh=⟨#[57]⟩:=by decide +kernel
theorem Cn:gs=⟨#[105,110]⟩:=by decide +kernel
theorem Co:f9=⟨#[99,104,111,111,115,101]⟩:=by decide +kernel
theorem G0:dY=⟨#[111,119,110]⟩:=by decide +kernel
def gT(x:Str):Bool:=decide (0<x.length/\x.length<=8) && x.cps.toList.all (rq aS zS)
def nz(x:Str):Bool:=decide ((Txt.split x lE).length<=4) && (Txt.split x lE).all gT
def Rk(c:Nat):Bool:=rq spS Rg c && decide (c≠37)
def G1(x:Str):Bool:=decide (x.length<=60) && x.cps.toList.all Rk
def vX(x:Str):Bool:=x.cps.toList.all (rq Cm Rh)
def vY(x:Str):Option Int:=if (decide (0<x.length/\x.length<=10) && vX x)=true then(if (Txt.startswith x Cm && decide (x≠Cm))=true then none else if 1000000000<(NumText.digitsVal x.cps.toList:Int) then none else some (NumText.digitsVal x.cps.toList)) else none
def uv(x:Str):Bool:=decide ((Txt.split x lF).length<=3) && (Txt.split x lF).all λp=>(vY p).isSome
def jF(j:Str):Bool:=
 if (Txt.startswith j fk || Txt.startswith j fm)=true then G1 (Txt.slice j (some 1) none) else
 match Txt.split j spS with
 | [w,p]=>decide (w=dY) && nz p
 | [w,n,x]=>!decide (w=dY) && gT n && (if w=gs then uv x else decide (w=f9) && gT x)
 | _=>false
theorem ajd(h:vX x=true):NumText.AllDigits x.cps.toList:=λc j=>by
 have:=hX.mp h c j;rw[GZ,Rj,Ck]at this;exact cY this
theorem aje(h:vX x=true)(h1:0<x.length)(h2:x.length<=4300):PySem.intText? x=some ((NumText.digitsVal x.cps.toList:Nat):Int):=
 PySem.intText_digits (ajd h) (λz=>by
  have:x.cps.toList.length=x.length:=eZ;rw[z]at this;simp at this;omega) h2
inductive Row
 | les (x:Str)
 | mor (x:Str)
 | inn (n t:Str)
 | cho (c n:Str)
 | own (p:Str)
def ie(j:Str):Row:=
 if Txt.startswith j fk=true then .les (Txt.slice j (some 1) none) else if Txt.startswith j fm=true then .mor (Txt.slice j (some 1) none) else
 if (Txt.split j spS).getD 0 Str.empty=gs then .inn ((Txt.split j spS).getD 1 Str.empty) ((Txt.split j spS).getD 2 Str.empty) else
 if (Txt.split j spS).getD 0 Str.empty=f9 then .cho ((Txt.split j spS).getD 1 Str.empty) ((Txt.split j spS).getD 2 Str.empty) else .own ((Txt.split j spS).getD 1 Str.empty)
def rB(t:Str):List Int:=(Txt.split t lF).map λp=>((NumText.digitsVal p.cps.toList:Nat):Int)
structure Nt where
 ch:List (Str×List Int):=[]
 cs:List (Str×Str):=[]
 ow:List (Str×(Ls×Ls)):=[]
 ck:Option Str:=none
 b:Ls:=[]
 m:Ls:=[]
def iB(ow:List (Str×(Ls×Ls)))(ck:Option Str)(r:Ls×Ls):List (Str×(Ls×Ls)):=
 match ck with
 | none=>ow
 | some p=>bN ow p r
def Nt.step(s:Nt)(j:Str):Nt:=
 match ie j with
 | .les x=>{ s with ow:=iB s.ow s.ck (s.b++[x],s.m),b:=s.b++[x] }
 | .mor x=>{ s with ow:=iB s.ow s.ck (s.b,s.m++[x]),m:=s.m++[x] }
 | .inn n t=>{ s with ch:=bN s.ch n (rB t) }
 | .cho c n=>{ s with cs:=bN s.cs c n }
 | .own p=>{ s with ow:=bN s.ow p ([],[]),ck:=some p,b:=[],m:=[] }
def gK(rows:Ls):Nt:=rows.foldl Nt.step {}
def i9(n:Int):Str:=toString n
def jG(ms:List Int):Str:=Str.join lF (ms.map i9)
def iC(e:Str×List Int):Str:=Str.join spS [gs,e.1,jG e.2]
def ig(e:Str×Str):Str:=Str.join spS [f9,e.1,e.2]
def eh(e:Str×(Ls×Ls)):Ls:=[Str.join spS [dY,e.1]]++e.2.1.map (fk ++ ·)++e.2.2.map (fm ++ ·)
def gb(ch:List (Str×List Int))(cs:List (Str×Str))(ow:List (Str×(Ls×Ls))):Ls:=ch.map iC++cs.map ig++ow.flatMap eh
def rowsOf(t:Str):Ls:=if t=Str.empty then [] else Txt.split t lC
structure bQ(x:Str):Prop where
 lo:1<=x.length
 hi:x.length<=8
 az:∀c∈x.cps.toList,97<=c/\c<=122
structure gL(x:Str):Prop where
 hi:x.length<=60
 sg:∀c∈x.cps.toList,32<=c/\c<=126/\c≠37
structure gc(ms:List Int):Prop where
 lo:1<=ms.length
 hi:ms.length<=3
 rg:∀n∈ms,0<=n/\n<=1000000000
def dW(x:Str):Prop:=∃ps:Ls,x=Str.join lE ps/\1<=ps.length/\ps.length<=4/\∀p∈ps,bQ p
theorem bQ.name(h:bQ x):gT x=true:=by
 unfold gT;rw[bE ⟨h.lo,h.hi⟩,xI,hX];intro c j;rw[aja,ajb,Ck];exact bE (h.az c j)
theorem gL.line(h:gL x):G1 x=true:=by
 unfold G1;rw[bE h.hi,xI,hX];intro c z;obtain⟨h1,h2,j⟩:=h.sg c z;unfold Rk;rw[rA,ajc,Ck,bE ⟨h1,h2⟩,bE j];rfl
theorem Rm{l:List α}(h:1<=l.length):l≠[]:=λz=>by
 rw[z,kG]at h;omega
theorem dW.path(h:dW x):nz x=true:=by
 obtain⟨ps,rfl,h1,h2,z⟩:=h;have e:Txt.split (Str.join lE ps) lE=ps:=by
  rw[GY];exact Cj (Rm h1) λp j G=>by have:=(z p j).az _ G;omega
 unfold nz;rw[e,bE h2,xI,hX];exact λp j=>(z p j).name
theorem yZ:∀{ps:Ls}{d:Nat},d∈(Str.join ⟨#[c]⟩ ps).cps.toList->d=c\/∃p∈ps,d∈p.cps.toList
 | [],d,h=>by
  have h:d∈([]:List Nat):=h;cases h
 | [p],d,h=>.inr ⟨p,bM,h⟩
 | p::q::r,d,h=>by
  rw[nw]at h
  rcases bR.mp h with h | h
  . exact .inr ⟨p,bM,h⟩
  rcases bc.mp h with h | h
  . exact .inl h
  rcases yZ h with h | ⟨z,hz,hd⟩
  . exact .inl h
  exact .inr ⟨z,bY _ hz,hd⟩
theorem dW.signs(h:dW x):∀c∈x.cps.toList,c=47\/(97<=c/\c<=122):=by
 obtain⟨ps,rfl,h1,h2,z⟩:=h;intro c j;rw[GY]at j
 rcases yZ j with e | ⟨p,G,hd⟩
 . exact .inl e
 exact .inr ((z p G).az c hd)
theorem ajf:∀(m:Nat) (r:List Char),Nat.toDigits 10 m='0'::r->m=0:=by
 intro m
 induction m using Nat.strongRecOn with
 | _ m J=>
  intro r h
  by_cases j:m<10
  . rw[Nat.toDigits_of_lt_base j]at h;have h1:=(sX h).1;have:∀d:Nat,d<10->Nat.digitChar d='0'->d=0:=by decide
    exact this m j h1
  have z:m % 10<10:=EF m (by decide);have t:Nat.toDigits 10 (m / 10)++Nat.toDigits 10 (m % 10)=Nat.toDigits 10 (10 * (m / 10)+m % 10):=Nat.toDigits_append_toDigits (by decide) (by omega) z;rw[Nat.div_add_mod,h]at t;cases hd:Nat.toDigits 10 (m / 10) with
  | nil=>
   have:=awU 10 (m / 10);rw[hd]at this;exact absurd this (by decide)
  | cons a O=>
   rw[hd]at t;have G:a='0':=(sX t).1;subst G;have:=J (m / 10) (by omega) O hd;omega
theorem y8(h0:0<=n):(i9 n).cps.toList=(Nat.toDigits 10 n.toNat).map Char.toNat:=by
 obtain⟨m,rfl⟩:=Int.eq_ofNat_of_zero_le h0;exact W.KIN.signs_num m
theorem G2(h0:0<=n):NumText.AllDigits (i9 n).cps.toList:=by
 intro c j;rw[y8 h0]at j;obtain⟨ch,z,e⟩:=cE.mp j;have r:=digit_range (Nat.isDigit_of_mem_toDigits (by decide) (by decide) z);rw[<-e];exact r
theorem ajg(h0:0<=n):vX (i9 n)=true:=by
 unfold vX;rw[hX];intro c j;rw[GZ,Rj,Ck];exact bE (G2 h0 c j)
theorem Rn(h0:0<=n):((NumText.digitsVal (i9 n).cps.toList:Nat):Int)=n:=by
 rw[y8 h0,W.KIN.val_back];omega
theorem Ro(h0:0<=n)(h1:n<=1000000000):1<=(i9 n).length/\(i9 n).length<=10:=by
 refine⟨?_,W.KT.len_num h0 (by omega)⟩;have e:(i9 n).cps.toList.length=(i9 n).length:=eZ;rw[<-e,y8 h0,ak];exact awU 10 _
theorem ajh(h0:0<=n)(h1:n<=1000000000):vY (i9 n)=some n:=by
 obtain⟨G,J⟩:=Ro h0 h1;unfold vY;rw[bE ⟨G,J⟩,ajg h0,am (by rfl),Rn h0,ag (by omega:¬1000000000<n)];rw[ag];rw[GZ,Rf,im,AX,AX,y8 h0];rintro⟨h,ne⟩;refine ne (yX ?_);rw[y8 h0];cases hd:Nat.toDigits 10 n.toNat with
 | nil=>rw[hd]at h;cases h
 | cons a r=>
  rw[hd]at h;have h:a.toNat=48:=hJ h;have j:a='0':=by
   apply Char.ext;apply UInt32.toNat.inj;exact h
  rw[j]at hd;have z:=ajf _ _ hd;rw[z]at hd;have hd:['0']=a::r:=by rw[j];exact hd
  rw[<-hd];rfl
theorem gc.split(h:gc ms):Txt.split (jG ms) lF=ms.map i9:=by
 unfold jG;rw[Ri];refine Cj (λz=>Rm h.lo (List.map_eq_nil_iff.mp z)) λp J j=>?_;obtain⟨n,G,rfl⟩:=cE.mp J;have:=G2 (h.rg n G).1 _ j;omega
theorem gc.good(h:gc ms):uv (jG ms)=true:=by
 unfold uv;rw[h.split,ak,bE h.hi,xI,hX];intro p z;obtain⟨n,j,rfl⟩:=cE.mp z;rw[ajh (h.rg n j).1 (h.rg n j).2];rfl
theorem gc.back(h:gc ms):rB (jG ms)=ms:=by
 unfold rB;rw[h.split,lR];exact(MZ λn j=>Rn (h.rg n j).1).trans (List.map_id _)
theorem gc.signs(h:gc ms):∀c∈(jG ms).cps.toList,46<=c/\c<=57:=by
 intro c j;unfold jG at j;rw[Ri]at j
 rcases yZ j with e | ⟨p,G,hd⟩
 . omega
 obtain⟨n,z,rfl⟩:=cE.mp G;have:=G2 (h.rg n z).1 c hd;omega
theorem G5(x:Str)(l u:Option Int):Txt.slice x l u=PySem.StrLaws.sliceText x l u:=rfl
theorem Cp(x:Str)(c:Nat):Txt.slice (⟨#[c]⟩++x) (some 1) none=x:=by
 apply yX;have e:(⟨#[c]⟩++x:Str).cps.toList=c::x.cps.toList:=by rw[mv];rfl
 have h:=PySem.StrLaws.sliceText_from (x:=⟨#[c]⟩++x) (i:=1) ⟨by decide,by rw[e,bU];omega⟩;rw[G5,h,e];show(List.take _ x.cps.toList)=x.cps.toList;refine MK ?_;rw[bU];omega
theorem uw{r:List Nat}(e:x.cps.toList=d::r)(c:Nat):Txt.startswith x ⟨#[c]⟩=decide (d=c):=by
 rw[Rf,e];exact xN.mpr ⟨λz=>hJ z,λz=>by rw[z];rfl⟩
theorem Cq(x:Str):(fk++x).cps.toList=60::x.cps.toList:=by rw[ny,mv];rfl
theorem y9(x:Str):(fm++x).cps.toList=62::x.cps.toList:=by rw[pi,mv];rfl
theorem aji(h:gL x):jF (fk++x)=true:=by
 unfold jF;have e:Txt.startswith (fk++x) fk=true:=by
  have:=uw (Cq x) 60;rw[<-ny]at this;rw[this];rfl
 rw[e,X8,am rfl]
 conv=>lhs;arg 1;rw[ny,Cp]
 exact h.line
theorem ajj(h:gL x):jF (fm++x)=true:=by
 unfold jF;have e:Txt.startswith (fm++x) fm=true:=by
  have:=uw (y9 x) 62;rw[<-pi]at this;rw[this];rfl
 rw[e,Bool.or_true,am rfl]
 conv=>lhs;arg 1;rw[pi,Cp]
 exact h.line
theorem ajk(x:Str):ie (fk++x)=.les x:=by
 unfold ie;have e:Txt.startswith (fk++x) fk=true:=by
  have:=uw (Cq x) 60;rw[<-ny]at this;rw[this];rfl
 rw[am e]
 congr 1
 rw[ny,Cp]
theorem ajl(x:Str):ie (fm++x)=.mor x:=by
 unfold ie;have e:Txt.startswith (fm++x) fm=true:=by
  have:=uw (y9 x) 62;rw[<-pi]at this;rw[this];rfl
 have j:Txt.startswith (fm++x) fk=false:=by
  have:=uw (y9 x) 60;rw[<-ny]at this;rw[this];rfl
 rw[ag (by rw[j];decide),am e]
 congr 1
 rw[pi,Cp]
theorem za{w:Str}{r:List Nat}(z:w.cps.toList=d::r)(J:d≠60)(O:d≠62){j:Ls}(h:∀p∈w::j,32∉p.cps.toList):Txt.split (Str.join spS (w::j)) spS=w::j/\Txt.startswith (Str.join spS (w::j)) fk=false/\Txt.startswith (Str.join spS (w::j)) fm=false:=by
 have hd:∃G,(Str.join spS (w::j)).cps.toList=d::G:=by
  cases j with
  | nil=>exact⟨r,z⟩
  | cons v j=>rw[rA,nw,z];exact⟨_,rfl⟩
 obtain⟨G,e⟩:=hd;refine⟨?_,?_,?_⟩
 . rw[rA];exact Cj (EK _ _) h
 . rw[ny,uw e 60];exact cy J
 rw[pi,uw e 62];exact cy O
theorem Cr{a b c:Str}(h1:32∉a.cps.toList)(h2:32∉b.cps.toList)(z:32∉c.cps.toList):∀p∈[a,b,c],32∉p.cps.toList:=by
 intro p j;simp only[bc,fz,fA]at j
 rcases j with rfl | rfl | rfl<;>assumption
theorem bQ.no(h:bQ x)(j:c<97):c∉x.cps.toList:=λz=>by have:=h.az c z;omega
theorem G6(j:c<97):c∉gs.cps.toList:=by
 rw[Cn];intro z;have z:c∈[105,110]:=z;simp at z;omega
theorem G7(j:c<97):c∉f9.cps.toList:=by
 rw[Co];intro z;have z:c∈[99,104,111,111,115,101]:=z;simp at z;omega
theorem Rq(j:c<97):c∉dY.cps.toList:=by
 rw[G0];intro z;have z:c∈[111,119,110]:=z;simp at z;omega
theorem gc.no(h:gc ms)(j:c<46):c∉(jG ms).cps.toList:=λz=>by have:=h.signs c z;omega
theorem dW.no(h:dW x)(j:c<47):c∉x.cps.toList:=λz=>by have:=h.signs c z;omega
theorem ajn:gs≠dY:=by decide +kernel
theorem ajo:f9≠dY:=by decide +kernel
theorem Ct:f9≠gs:=by decide +kernel
theorem G8:dY≠gs:=by decide +kernel
theorem G9:dY≠f9:=by decide +kernel
theorem ajp{e:Str×List Int}(h1:bQ e.1)(h2:gc e.2):jF (iC e)=true:=by
 obtain⟨a,b,c⟩:=za (w:=gs) (d:=105) (r:=[110]) (by rw[Cn]) (by decide) (by decide) (Cr (G6 (by decide)) (h1.no (by decide)) (h2.no (by decide)));unfold jF iC;rw[b,c,sM,ag (by decide),a];dsimp only;rw[cy ajn,h1.name,am rfl,h2.good];rfl
theorem ajq{e:Str×List Int}(h1:bQ e.1)(h2:gc e.2):ie (iC e)=.inn e.1 (jG e.2):=by
 obtain⟨a,b,c⟩:=za (w:=gs) (d:=105) (r:=[110]) (by rw[Cn]) (by decide) (by decide) (Cr (G6 (by decide)) (h1.no (by decide)) (h2.no (by decide)));unfold ie iC;rw[b,c,a,ag (by decide),ag (by decide)];rfl
theorem ajr{e:Str×Str}(h1:bQ e.1)(h2:bQ e.2):jF (ig e)=true:=by
 obtain⟨a,b,c⟩:=za (w:=f9) (d:=99) (r:=[104,111,111,115,101]) (by rw[Co]) (by decide) (by decide) (Cr (G7 (by decide)) (h1.no (by decide)) (h2.no (by decide)));unfold jF ig;rw[b,c,sM,ag (by decide),a];dsimp only;rw[cy ajo,h1.name,ag Ct,bE rfl,h2.name];rfl
theorem ajs{e:Str×Str}(h1:bQ e.1)(h2:bQ e.2):ie (ig e)=.cho e.1 e.2:=by
 obtain⟨a,b,c⟩:=za (w:=f9) (d:=99) (r:=[104,111,111,115,101]) (by rw[Co]) (by decide) (by decide) (Cr (G7 (by decide)) (h1.no (by decide)) (h2.no (by decide)));unfold ie ig;rw[b,c,a,ag (by decide),ag (by decide)];rw[ag (show ¬[f9,e.1,e.2].getD 0 Str.empty=gs from Ct),am (show [f9,e.1,e.2].getD 0 Str.empty=f9 from rfl)];rfl
theorem Rr{p:Str}(h:dW p):Txt.split (Str.join spS [dY,p]) spS=[dY,p]/\Txt.startswith (Str.join spS [dY,p]) fk=false/\Txt.startswith (Str.join spS [dY,p]) fm=false:=
 za (w:=dY) (d:=111) (r:=[119,110]) (by rw[G0]) (by decide) (by decide) λq j=>by
  simp only[bc,fz,fA]at j
  rcases j with rfl | rfl
  . exact Rq (by decide)
  exact h.no (by decide)
theorem ajt{p:Str}(h:dW p):jF (Str.join spS [dY,p])=true:=by
 obtain⟨a,b,c⟩:=Rr h;unfold jF;rw[b,c,sM,ag (by decide),a];dsimp only;rw[bE rfl,h.path];rfl
theorem aju{p:Str}(h:dW p):ie (Str.join spS [dY,p])=.own p:=by
 obtain⟨a,b,c⟩:=Rr h;unfold ie;rw[b,c,a,ag (by decide),ag (by decide)];rw[ag (show ¬[dY,p].getD 0 Str.empty=gs from G8),ag (show ¬[dY,p].getD 0 Str.empty=f9 from G9)];rfl
structure vZ(ch:List (Str×List Int))(cs:List (Str×Str))(ow:List (Str×(Ls×Ls))):Prop where
 ch:∀e∈ch,bQ e.1/\gc e.2
 cs:∀e∈cs,bQ e.1/\bQ e.2
 ow:∀e∈ow,dW e.1/\(∀x∈e.2.1,gL x)/\∀x∈e.2.2,gL x
theorem Hd{ch:List (Str×List Int)}{cs:List (Str×Str)}{ow:List (Str×(Ls×Ls))}(ok:vZ ch cs ow){r:Str}(h:r∈gb ch cs ow) :
 (∃e:Str×List Int,bQ e.1/\gc e.2/\r=iC e)\/(∃e:Str×Str,bQ e.1/\bQ e.2/\r=ig e)\/(∃p,dW p/\r=Str.join spS [dY,p])\/(∃x,gL x/\r=fk++x)\/∃x,gL x/\r=fm++x:=by
 unfold gb at h
 rcases bR.mp h with h | h
 . rcases bR.mp h with h | h
   . obtain⟨e,j,rfl⟩:=cE.mp h;exact .inl ⟨e,(ok.ch e j).1,(ok.ch e j).2,rfl⟩
   obtain⟨e,j,rfl⟩:=cE.mp h;exact .inr (.inl ⟨e,(ok.cs e j).1,(ok.cs e j).2,rfl⟩)
 obtain⟨e,j,hr⟩:=vo.mp h;obtain⟨h1,h2,G⟩:=ok.ow e j;unfold eh at hr
 rcases bR.mp hr with hr | hr
 . rcases bR.mp hr with hr | hr
   . exact .inr (.inr (.inl ⟨e.1,h1,bw.mp hr⟩))
   obtain⟨x,z,rfl⟩:=cE.mp hr;exact .inr (.inr (.inr (.inl ⟨x,h2 x z,rfl⟩)))
 obtain⟨x,z,rfl⟩:=cE.mp hr;exact .inr (.inr (.inr (.inr ⟨x,G x z,rfl⟩)))
theorem ajv{ch:List (Str×List Int)}{cs:List (Str×Str)}{ow:List (Str×(Ls×Ls))}(ok:vZ ch cs ow):∀r∈gb ch cs ow,jF r=true:=λr h=>by
 rcases Hd ok h with⟨e,a,b,rfl⟩ | ⟨e,a,b,rfl⟩ | ⟨p,a,rfl⟩ | ⟨x,a,rfl⟩ | ⟨x,a,rfl⟩
 . exact ajp a b
 . exact ajr a b
 . exact ajt a
 . exact aji a
 exact ajj a
theorem Rs{a b c:Str}(h:d∈(Str.join spS [a,b,c]).cps.toList):d=32\/d∈a.cps.toList\/d∈b.cps.toList\/d∈c.cps.toList:=by
 rw[rA]at h
 rcases yZ h with e | ⟨p,j,hd⟩
 . exact .inl e
 simp only[bc,fz,fA]at j
 rcases j with rfl | rfl | rfl
 . exact .inr (.inl hd)
 . exact .inr (.inr (.inl hd))
 exact .inr (.inr (.inr hd))
theorem He{ch:List (Str×List Int)}{cs:List (Str×Str)}{ow:List (Str×(Ls×Ls))}(ok:vZ ch cs ow):∀r∈gb ch cs ow,10∉r.cps.toList/\r≠Str.empty:=λr h=>by
 rcases Hd ok h with⟨e,a,b,rfl⟩ | ⟨e,a,b,rfl⟩ | ⟨p,a,rfl⟩ | ⟨x,a,rfl⟩ | ⟨x,a,rfl⟩
 . refine⟨λz=>?_,λz=>?_⟩
   . rcases Rs z with z | z | z | z
     . omega
     . exact G6 (by decide) z
     . exact a.no (by decide) z
     exact b.no (by decide) z
   have z:(iC e).cps.toList=[]:=by rw[z];rfl
   unfold iC at z;rw[rA,nw,Cn]at z;cases z
 . refine⟨λz=>?_,λz=>?_⟩
   . rcases Rs z with z | z | z | z
     . omega
     . exact G7 (by decide) z
     . exact a.no (by decide) z
     exact b.no (by decide) z
   have z:(ig e).cps.toList=[]:=by rw[z];rfl
   unfold ig at z;rw[rA,nw,Co]at z;cases z
 . refine⟨λz=>?_,λz=>?_⟩
   . rw[rA]at z
     rcases yZ z with z | ⟨q,j,hd⟩
     . omega
     simp only[bc,fz,fA]at j
     rcases j with rfl | rfl
     . exact Rq (by decide) hd
     exact a.no (by decide) hd
   have z:(Str.join spS [dY,p]).cps.toList=[]:=by rw[z];rfl
   rw[rA,nw,G0]at z;cases z
 . refine⟨λz=>?_,λz=>?_⟩
   . rw[Cq]at z
     rcases bc.mp z with z | z
     . omega
     have:=a.sg _ z;omega
   have z:(fk++x).cps.toList=[]:=by rw[z];rfl
   rw[Cq]at z;cases z
 refine⟨λz=>?_,λz=>?_⟩
 . rw[y9]at z
   rcases bc.mp z with z | z
   . omega
   have:=a.sg _ z;omega
 have z:(fm++x).cps.toList=[]:=by rw[z];rfl
 rw[y9]at z;cases z
theorem Hf{rows:Ls}(h:∀r∈rows,10∉r.cps.toList/\r≠Str.empty):rowsOf (Str.join lC rows)=rows:=by
 unfold rowsOf;cases rows with
 | nil=>exact am rfl
 | cons r j=>
  have ne:Str.join lC (r::j)≠Str.empty:=λz=>by
   have J:=(h r bM).2;have z:(Str.join lC (r::j)).cps.toList=[]:=by rw[z];rfl
   cases j with
   | nil=>exact J (yX (by rw[show r.cps.toList=[] from z];rfl))
   | cons q O=>
    rw[GX,nw]at z;have:=fw List.length z;rw[bI,bU]at this;simp at this
  rw[ag ne,GX];exact Cj (EK _ _) λp G=>(h p G).1
theorem zc{tr:List (Str×β)}{y:β}(h:x∉tr.map (·.1)):bN tr x y=tr++[(x,y)]:=by
 unfold bN;rw[ag (λz=>h (rn.mp z))]
theorem Rt{tr:List (Str×β)}{y z:β}(h:x∉tr.map (·.1)):bN (tr++[(x,y)]) x z=tr++[(x,z)]:=by
 unfold bN;rw[am (rn.mpr (by rw[dw];exact eU _ bM)),dw]
 congr 1
 . refine(MZ λf j=>?_).trans (List.map_id _);rw[ag (λe:f.1=x=>h (by rw[<-e];exact gD j))];rfl
 show [if x=x then(x,z) else(x,y)]=_;rw[am rfl]
theorem Ru:∀(es:List (Str×List Int)) (s:Nt),(∀e∈es,bQ e.1/\gc e.2)->((s.ch++es).map (·.1)).Nodup->(es.map iC).foldl Nt.step s={ s with ch:=s.ch++es }
 | [],s,_,_=>by rw[lL];rfl
 | e::es,s,ok,nd=>by
  have h1:=ok e bM;have e1:Nt.step s (iC e)={ s with ch:=s.ch++[e] }:=by
   unfold Nt.step;rw[ajq h1.1 h1.2];dsimp only;rw[h1.2.back,zc];rw[dw,bS]at nd;intro z;exact(sT.mp nd).2.2 _ z _ bM rfl
  rw[bS,lQ,e1];have e2:=Ru es { s with ch:=s.ch++[e] } (λx j=>ok x (bY _ j)) (by show(((s.ch++[e])++es).map (·.1)).Nodup;rw[kI];exact nd);rw[e2];show { s with ch:=s.ch++[e]++es } = _;rw[kI];rfl
theorem Rv:∀(es:List (Str×Str)) (s:Nt),(∀e∈es,bQ e.1/\bQ e.2)->((s.cs++es).map (·.1)).Nodup->(es.map ig).foldl Nt.step s={ s with cs:=s.cs++es }
 | [],s,_,_=>by rw[lL];rfl
 | e::es,s,ok,nd=>by
  have h1:=ok e bM;have e1:Nt.step s (ig e)={ s with cs:=s.cs++[e] }:=by
   unfold Nt.step;rw[ajs h1.1 h1.2];dsimp only;rw[zc];rw[dw,bS]at nd;intro z;exact(sT.mp nd).2.2 _ z _ bM rfl
  rw[bS,lQ,e1];have e2:=Rv es { s with cs:=s.cs++[e] } (λx j=>ok x (bY _ j)) (by show(((s.cs++[e])++es).map (·.1)).Nodup;rw[kI];exact nd);rw[e2];show { s with cs:=s.cs++[e]++es } = _;rw[kI];rfl
theorem Rw(p:Str)(tr:List (Str×(Ls×Ls)))(h:p∉tr.map (·.1))(m:Ls):∀(xs b:Ls) (s:Nt),(xs.map (fk ++ ·)).foldl Nt.step { s with ow:=tr++[(p,(b,m))],ck:=some p,b:=b,m:=m } = { s with ow:=tr++[(p,(b++xs,m))],ck:=some p,b:=b++xs,m:=m }
 | [],b,s=>by rw[lL];rfl
 | x::xs,b,s=>by
  have e1:Nt.step { s with ow:=tr++[(p,(b,m))],ck:=some p,b:=b,m:=m } (fk++x)={ s with ow:=tr++[(p,(b++[x],m))],ck:=some p,b:=b++[x],m:=m }:=by
   unfold Nt.step;rw[ajk];dsimp only[iB];rw[Rt h]
  rw[bS,lQ,e1,Rw p tr h m xs (b++[x]) s,kI];rfl
theorem Rx(p:Str)(tr:List (Str×(Ls×Ls)))(h:p∉tr.map (·.1))(b:Ls):∀(xs m:Ls) (s:Nt),(xs.map (fm ++ ·)).foldl Nt.step { s with ow:=tr++[(p,(b,m))],ck:=some p,b:=b,m:=m } = { s with ow:=tr++[(p,(b,m++xs))],ck:=some p,b:=b,m:=m++xs }
 | [],m,s=>by rw[lL];rfl
 | x::xs,m,s=>by
  have e1:Nt.step { s with ow:=tr++[(p,(b,m))],ck:=some p,b:=b,m:=m } (fm++x)={ s with ow:=tr++[(p,(b,m++[x]))],ck:=some p,b:=b,m:=m++[x] }:=by
   unfold Nt.step;rw[ajl];dsimp only[iB];rw[Rt h]
  rw[bS,lQ,e1,Rx p tr h b xs (m++[x]) s,kI];rfl
theorem Ry:∀(es:List (Str×(Ls×Ls))) (s:Nt),(∀e∈es,dW e.1)->((s.ow++es).map (·.1)).Nodup->∃ck b m,(es.flatMap eh).foldl Nt.step s={ s with ow:=s.ow++es,ck:=ck,b:=b,m:=m }
 | [],s,_,_=>⟨s.ck,s.b,s.m,by rw[lL];rfl⟩
 | e::es,s,ok,nd=>by
  obtain⟨p,b,m⟩:=e;have h1:dW p:=ok _ bM;have j:p∉s.ow.map (·.1):=λz=>by
   rw[dw,bS]at nd;exact(sT.mp nd).2.2 _ z _ bM rfl
  have e1:(eh (p,(b,m))).foldl Nt.step s={ s with ow:=s.ow++[(p,(b,m))],ck:=some p,b:=b,m:=m }:=by
   unfold eh;rw[qr,qr];have G:[Str.join spS [dY,p]].foldl Nt.step s={ s with ow:=s.ow++[(p,([],[]))],ck:=some p,b:=[],m:=[] }:=by
    show Nt.step s (Str.join spS [dY,p])=_;unfold Nt.step;rw[aju h1];dsimp only;rw[zc j]
   rw[G,Rw p s.ow j [] b [] s,Rx p s.ow j _ m [] s];rfl
  rw[EL,qr,e1];obtain⟨ck,b',m',e2⟩:=Ry es { s with ow:=s.ow++[(p,(b,m))],ck:=some p,b:=b,m:=m } (λx J=>ok x (bY _ J)) (by show(((s.ow++[(p,(b,m))])++es).map (·.1)).Nodup;rw[kI];exact nd);refine⟨ck,b',m',?_⟩;rw[e2];show { s with ow:=s.ow++[(p,(b,m))]++es,ck:=ck,b:=b',m:=m' } = _;rw[kI];rfl
theorem Hg{ch:List (Str×List Int)}{cs:List (Str×Str)}{ow:List (Str×(Ls×Ls))}(ok:vZ ch cs ow)(n1:(ch.map (·.1)).Nodup)(n2:(cs.map (·.1)).Nodup)(n3:(ow.map (·.1)).Nodup):∃ck b m,gK (gb ch cs ow)=⟨ch,cs,ow,ck,b,m⟩:=by
 unfold gK gb;rw[qr,qr,Ru ch {} ok.ch n1];show∃ck b m,List.foldl Nt.step (List.foldl Nt.step ({ ch:=ch }:Nt) (List.map ig cs)) (List.flatMap eh ow)=_;rw[Rv cs { ch:=ch } ok.cs n2];exact Ry ow { ch:=ch,cs:=cs } (λe j=>(ok.ow e j).1) n3
theorem Hh{f:α->β}{ks ls:List β}(p:ks.Perm ls):∀{l:List α},ls=l.map f->∃j:List α,j.Perm l/\j.map f=ks:=by
 induction p with
 | nil=>
  intro l e;cases l with
  | nil=>exact⟨[],.nil,rfl⟩
  | cons a l=>cases e
 | cons x p U=>
  intro l e;cases l with
  | nil=>cases e
  | cons a l=>
   rw[bS]at e;obtain⟨e1,e2⟩:=sX e;obtain⟨j,h1,h2⟩:=U e2;exact⟨a::j,h1.cons a,by rw[bS,h2,e1]⟩
 | swap x y r=>
  intro l e;cases l with
  | nil=>cases e
  | cons a l=>
   cases l with
   | nil=>cases e
   | cons b l=>
    rw[bS,bS]at e;obtain⟨e1,e2⟩:=sX e;obtain⟨e2,e3⟩:=sX e2;exact⟨b::a::l,.swap a b l,by rw[bS,bS,<-e1,<-e2,<-e3]⟩
 | trans p q z G=>
  intro l e;obtain⟨l1,h1,h2⟩:=G e;obtain⟨Y,J,O⟩:=z h2.symm;exact⟨Y,J.trans h1,O⟩
structure cK(a b:List (Str×β)):Prop where
 pm:b.Perm a
 so:sortedS (b.map (·.1))=true
theorem cK.eq{a b c:List (Str×β)}(nd:(a.map (·.1)).Nodup)(h1:cK a b)(h2:cK a c):b=c:=by
 have pm:b.Perm c:=h1.pm.trans h2.pm.symm;have e:b.map (·.1)=c.map (·.1):=ai8 (pm.map _) h1.so h2.so;have U:(b.map (·.1)).Nodup:=(h1.pm.map _).nodup_iff.mpr nd;have G:=pm.length_eq;refine List.ext_getElem G λi hi j=>?_;have J:b[i]∈c:=pm.mem_iff.mp (EG hi);have e1:b[i].1=c[i].1:=by
  have:(b.map (·.1))[i]?=(c.map (·.1))[i]?:=by rw[e]
  rw[dG,dG,hZ hi,hZ j]at this;exact hJ this
 have z:c[i]∈c:=EG j;have O:(c.map (·.1)).Nodup:=by rw[<-e];exact U
 have:b[i].2=c[i].2:=nu O (x:=b[i].1) J (by rw[e1];exact z);exact Prod.ext e1 this
theorem cK.self{a b:List (Str×β)}(h:cK a b):cK b b:=⟨.refl _,h.so⟩
end K72
namespace L2
structure Fd(K:Fg)(mg:Mv)(x:Str)(st:Stmt)(ps:Ls):Type where
 f:Addr
 fd:Fy
 u:cn K x x st f fd
 m:mg x=some (.ref f)
 b:Binds K fd ps []
structure gt(K:Fg)(x q:Str)(st:Stmt)(ps:Ls):Type where
 f:Addr
 fd:Fy
 u:cn K x q st f fd
 b:Binds K fd ps []
section
variable {X:Cx}{k k':Nat}{ps:Ls}{sp:Sp}{x:Str}{st:Stmt}{p pos:Pos}{e:Expr}{es:List Expr}{t:TA}{CX:ib}{E:XK}
theorem up{P:Program}{w:World}{K:Fg}{mg:Mv}{base:Heap}{CX:ib}{j k:Nat}{ps:Ls}{sp:Sp}(F:aA P w K mg base CX j f fd ps sp)(h:j<=k:=by decide):aA P w K mg base CX k f fd ps sp:=F.mono h
theorem aB{d:Fd X.K X.mg x st ps}(G:aA X.prog X.w X.K X.mg X.base aJ k d.f d.fd ps sp)(Y:cq k' X.A)(O:Gl X x)(z:PA X (e::es) t)(U:k<=k':=by decide)(ip:(x == ("__debug__":Str))=false:=by decide)(J:starEach (e::es) X.env=(false,eval e X.env)::starEach es X.env:=by rfl)(j:(backTo pos (starEach es X.env)).any (·.1)=false:=by rfl) :
 PE X (.Call (.Name x p) (e::es) [] pos) (Fm sp [] E0 t):=Ob (G.mono U) Y O d.m d.u.kp d.b .nil cG z ip J j
theorem Hm{d:Fd X.K X.mg x st ps}(G:aA X.prog X.w X.K X.mg X.base CX k d.f d.fd ps sp)(Y:cq k' X.A)(O:Gl X x)(hx:lY CX X E)(z:PA X (e::es) t)(U:k<=k':=by decide)(ip:(x == ("__debug__":Str))=false:=by decide)(J:starEach (e::es) X.env=(false,eval e X.env)::starEach es X.env:=by rfl)(j:(backTo pos (starEach es X.env)).any (·.1)=false:=by rfl) :
 PE X (.Call (.Name x p) (e::es) [] pos) (Fm sp [] E t):=Ob (G.mono U) Y O d.m d.u.kp d.b .nil hx z ip J j
end
end L2
namespace K72
open L2
structure Hn(mg:Mv):Prop where
 let8:∃t,mg "MOST_LETTERS"=some (.int 8 t)
 pw4:∃t,mg "MOST_PATH_WORDS"=some (.int 4 t)
def aT(i:Nat):Stmt:=PySem.Challenge.pw_parcelmend_k72_choices_and_ways_back.main.body.getD i (.Pass ⟨0,0,0,0⟩)
abbrev Ho:Stmt:=aT 25
abbrev Hq:Stmt:=aT 63
abbrev Cu:Stmt:=aT 86
abbrev ux:Stmt:=gm (aT 29) 0
abbrev v4:Stmt:=gm (aT 30) 0
abbrev v5:Stmt:=gm (aT 30) 3
abbrev v6:Stmt:=gm (aT 41) 0
abbrev v7:Stmt:=gm (aT 73) 0
abbrev v8:Stmt:=gm (aT 73) 1
abbrev v9:Stmt:=gm (aT 73) 2
abbrev wa:Stmt:=gm (aT 73) 3
abbrev wb:Stmt:=gm (aT 73) 4
abbrev wc:Stmt:=gm (aT 73) 5
abbrev zd:Stmt:=gm (aT 73) 6
abbrev we:Stmt:=gm (aT 73) 7
abbrev Hr:Stmt:=aT 2
abbrev Hs:Stmt:=aT 3
abbrev Ht:Stmt:=aT 4
abbrev Hu:Stmt:=aT 5
abbrev Hv:Stmt:=aT 6
abbrev Hw:Stmt:=aT 7
abbrev Hy:Stmt:=aT 8
abbrev Hz:Stmt:=aT 20
abbrev HB:Stmt:=aT 23
abbrev HC:Stmt:=aT 26
abbrev HD:Stmt:=aT 32
abbrev HE:Stmt:=aT 33
abbrev HF:Stmt:=aT 34
abbrev HG:Stmt:=aT 36
abbrev HH:Stmt:=aT 37
abbrev HI:Stmt:=aT 38
abbrev HJ:Stmt:=aT 39
abbrev HK:Stmt:=aT 42
abbrev zf:Stmt:=aT 43
abbrev HL:Stmt:=aT 44
abbrev HM:Stmt:=aT 45
abbrev HN:Stmt:=aT 46
abbrev wf:Stmt:=aT 47
abbrev HP:Stmt:=aT 49
abbrev HQ:Stmt:=aT 50
abbrev HR:Stmt:=aT 51
abbrev HS:Stmt:=aT 52
abbrev HU:Stmt:=aT 54
abbrev HV:Stmt:=aT 55
abbrev HX:Stmt:=aT 56
abbrev HY:Stmt:=aT 57
abbrev Cv:Stmt:=aT 59
abbrev HZ:Stmt:=aT 60
abbrev Ia:Stmt:=aT 61
abbrev Ib:Stmt:=aT 62
abbrev Ic:Stmt:=aT 64
abbrev Ie:Stmt:=aT 65
abbrev Ig:Stmt:=aT 66
abbrev Ih:Stmt:=aT 75
abbrev Ii:Stmt:=aT 76
abbrev Ij:Stmt:=aT 77
abbrev Ik:Stmt:=aT 78
abbrev Il:Stmt:=aT 79
abbrev Im:Stmt:=aT 80
abbrev Io:Stmt:=aT 81
abbrev zi:Stmt:=aT 82
abbrev Iq:Stmt:=aT 83
abbrev Ir:Stmt:=aT 84
abbrev Iu:Stmt:=aT 21
abbrev Iw:Stmt:=aT 22
abbrev Ix:Stmt:=aT 69
abbrev Iy:Stmt:=aT 70
abbrev Iz:Stmt:=aT 71
abbrev IA:Stmt:=aT 85
abbrev IB:Stmt:=aT 87
abbrev uy:Stmt:=aT 88
abbrev wg:Stmt:=gm (aT 68) 0
abbrev wj:Stmt:=gm (aT 68) 1
abbrev wk:Stmt:=gm (aT 68) 2
abbrev wm:Stmt:=gm (aT 68) 3
abbrev wn:Stmt:=gm (aT 68) 5
abbrev wo:Stmt:=gm (aT 68) 6
abbrev wp:Stmt:=gm (aT 68) 8
abbrev wq:Stmt:=gm (aT 68) 10
abbrev wt:Stmt:=gm (aT 68) 11
structure IC(mg:Mv):Prop where
 range:mg "range"=none
 len:mg "len"=none
 min:mg "min"=none
 list:mg "list"=none
 dict:mg "dict"=none
 set:mg "set"=none
 sorted:mg "sorted"=none
 isinstance:mg "isinstance"=none
 str:mg "str"=none
 tuple:mg "tuple"=none
 all:mg "all"=none
 enumerate:mg "enumerate"=none
 int:mg "int"=none
 bool:mg "bool"=none
structure Txt(K:Fg)(mg:Mv)(C:Addr):Prop where
 cl:iO K C
 nN:fQ K C ayE
 nM:fQ K C ayK
 nR:fQ K C ayS
 nF:fQ K C ayM
 nE:fQ K C ayY
 nS:fQ K C ay9
 nO:fQ K C azf
 mgC:mg "Parcel"=some (.ref C)
structure Rz(K:Fg)(mg:Mv)(S fP:Addr):Prop where
 cl:iO K S
 nS:fQ K S azo
 mP:gF K S ayD fP
 mgC:mg "Shelf"=some (.ref S)
structure RA(K:Fg)(mg:Mv)(T:Addr):Prop where
 cl:iO K T
 nC:fQ K T ayH
 nH:fQ K T ayN
 nO:fQ K T ayW
 mgC:mg "Stand"=some (.ref T)
structure RB(K:Fg)(mg:Mv)(C wu wv ww wx wy wz wA:Addr):Prop where
 cl:iO K C
 nF:fQ K C ayM
 nB:fQ K C "book"
 nL:fQ K C "left"
 mFNo:gF K C "files_now" wu
 mBNo:gF K C "book_now" wv
 mDPt:gF K C "put" ww
 mDEr:gF K C "erase" wx
 mDNt:gF K C "note" wy
 mDAl:gF K C "allow" wz
 mDTk:gF K C "take_write" wA
 mgC:mg "Disk"=some (.ref C)
structure RC(K:Fg)(mg:Mv)(Hc fUp fSt fFo fSK fGo fEd fCh fBa:Addr):Prop where
 cl:iO K Hc
 nS:fQ K Hc ayC
 nD:fQ K Hc ayI
 mUp:gF K Hc "up" fUp
 mSt:gF K Hc ayV fSt
 mFo:gF K Hc "formers" fFo
 mSK:gF K Hc "stand_kept" fSK
 mGo:gF K Hc "go_to" fGo
 mEd:gF K Hc "edit" fEd
 mCh:gF K Hc "choose" fCh
 mBa:gF K Hc "back" fBa
 mgC:mg "House"=some (.ref Hc)
structure uz(K:Fg)(M N:Addr)(os:Lw):Prop where
 xc:uh K N
 kP:W.kitOne K (.ref N) (.ref N)=some true
 kA:W.kitAny K (.ref N) os=some false
 ex:W.exmOne K (.ref N) (.ref M)=some true
structure RD(K:Fg)(mg:Mv)(M Fa NP NN NU NF:Addr):Prop where
 mM:mg "MendError"=some (.ref M)
 mF:mg "Fallen"=some (.ref Fa)
 mP:mg "NoPath"=some (.ref NP)
 mN:mg "NoName"=some (.ref NN)
 mU:mg "NotUp"=some (.ref NU)
 mO:mg "NoFormer"=some (.ref NF)
 eP:uz K M NP []
 eN:uz K M NN [.ref Fa,.ref NP,.ref NU]
 eO:uz K M NF [.ref Fa,.ref NP,.ref NU]
 kN:W.kitOne K (.ref NN) (.ref NF)=some false
 kO:W.kitOne K (.ref NF) (.ref NN)=some false
structure wB(K:Fg)(x a_:Str)(st:Stmt)(f c:Addr)(fd:Fy):Prop where
 ex:∃(oc:Value) (od:Oa) (kV doc pm:Value) (an:Oa) (ct:Value) (iQ:Array (Option Value)),fd=W.fnOf x a_ (df st) (cF st) (av st) .none kV doc pm an (.ref c) ct /\
  K.lookup f=some ⟨oc,od,.func (W.fnOf x a_ (df st) (cF st) (av st) .none kV doc pm an (.ref c) ct),iQ⟩/\W.codeIn K (.ref c) a_=true
 kp:W.keepIn K (.ref f)=true
structure Pg(K:Fg)(mg:Mv)(base:Heap)(Pt:Addr):Type where
 B:IC mg
 K0:Hn mg
 C:Addr
 S:Addr
 T:Addr
 D:Addr
 Hc:Addr
 TIn:gt K "__init__" "Stand.__init__" v6 [ayy,ayH,ayN,ayW]
 PIn:gt K "__init__" "Parcel.__init__" ux [ayy,ayE,ayK,ayS,ayM,ayY,ay9,azf]
 SIn:gt K "__init__" "Shelf.__init__" v4 [ayy,ayF]
 SPa:gt K ayD "Shelf.parcel" v5 [ayy,ayE,ayK]
 DTk:gt K "take_write" "Disk.take_write" we [ayy]
 DIn:gt K "__init__" "Disk.__init__" v7 [ayy]
 DPt:gt K "put" "Disk.put" wa [ayy,ayG,ayO]
 DEr:gt K "erase" "Disk.erase" wb [ayy,ayG]
 DNt:gt K "note" "Disk.note" wc [ayy,azi,ayL]
 FNo:gt K "files_now" "Disk.files_now" v8 [ayy]
 BNo:gt K "book_now" "Disk.book_now" v9 [ayy]
 HIn:gt K "__init__" "House.__init__" wg [ayy,ayC,ayI]
 HUp:gt K "up" "House.up" wj [ayy]
 HSt:gt K ayV "House.stand" wk [ayy]
 HSK:gt K "stand_kept" "House.stand_kept" wn [ayy]
 HGo:gt K "go_to" "House.go_to" wo [ayy,ayH,ayN,ayW]
 HFo:gt K "formers" "House.formers" wm [ayy]
 HCh:gt K "choose" "House.choose" wq [ayy,ayZ,ayE]
 HBa:gt K "back" "House.back" wt [ayy,ay1]
 HEd:gt K "edit" "House.edit" wp [ayy,ayG,ayO]
 DAl:gt K "allow" "Disk.allow" zd [ayy,"many"]
 TC:Txt K mg C
 US:Rz K mg S SPa.f
 UT:RA K mg T
 UD:RB K mg D FNo.f BNo.f DPt.f DEr.f DNt.f DAl.f DTk.f
 UH:RC K mg Hc HUp.f HSt.f HFo.f HSK.f HGo.f HEd.f HCh.f HBa.f
 MPIn:Mk K C PIn.f
 MSIn:Mk K S SIn.f
 MTIn:Mk K T TIn.f
 MDIn:Mk K D DIn.f
 MHIn:Mk K Hc HIn.f
 Mix:Fd K mg "_law_mixed" Ii [ayz,ayP]
 Cel:Fd K mg "_law_cell_at" Ih [ayJ,ayP]
 Nam:Fd K mg "_law_name" Ij [ayz,azk]
 Lin:Fd K mg "_law_line" Ik [ayB]
 Lis:Fd K mg "_law_lines" Il [ayB]
 Pat:Fd K mg "_law_path" Im [ayB]
 Mak:Fd K mg "_law_make" Io [ayB]
 RwO:Fd K mg "rows_of" Hz [ayL]
 MkS:Fd K mg "make_shown" HB [ayK]
 CCo:Fd K mg "changes_copied" HK [ayW]
 ChR:Fd K mg "change_rows" HQ [ayG,ay2]
 Sho:Fd K mg "stand_shown" HP [ayV]
 MkN:Fd K mg "make_noted" HS [ayL]
 Not:Fd K mg "stand_noted" HR [ayL]
 PsO:Fd K mg "parcels_of" HD [ayC,ayH]
 Bro:Fd K mg "brought_by" HL [ayF]
 Cho:Fd K mg "_law_chosen" Iq [ayU,ayA,ayz]
 PAp:Fd K mg aze zi [ayJ,ayA,azl]
 Com:Fd K mg "commons_of" HN [ayF]
 KUn:Fd K mg "keys_unlike" HC [ay4,ay3]
 Tur:Fd K mg "turn_to" Cv [ayI,azb]
 Ali:Fd K mg "alike_ahead" Hs [ayO,azm]
 Blk:Fd K mg "block_of" Hr [azc,ayR]
 IsA:Fd K mg "is_ahead" Ht [ay5,ayR]
 Tak:Fd K mg "takes_none" Hu [ay5]
 Apa:Fd K mg "are_apart" Hv [ay5,ayR]
 Bot:Fd K mg "with_both" Hw [azc,ay4,ay3]
 Put:Fd K mg "put_together" Hy [azc,ayW,"new"]
 FoC:Fd K mg "files_of_change" HM [ayG,ay2,azd]
 Tre:Fd K mg "tree_of" zf [ayC,ayV]
 NBe:Fd K mg azj wf [ayZ,ayF,ayN]
 PaO:Fd K mg "paths_of" HJ [ayD]
 NFa:Fd K mg "need_faults" HG [ayD,ayF]
 SFa:Fd K mg "shut_faults" HH [ayD,ayF]
 CFa:Fd K mg "clash_faults" HI [ayD,ayF]
 FaO:Fd K mg "faults_of" HE [ayC,ayH]
 Sou:Fd K mg "is_sound" HF [ayC,ayH]
 Beh:Fd K mg "set_behind" HV [ay7,ayT,aza]
 Wom:Fd K mg "with_one_more" HY [azn,azg]
 Fst:Fd K mg "first_group" HX [ayC,ay7,ayT,azg]
 Gro:Fd K mg "groups_to" HU [ayC,ay7,ayT]
 IUp:Fd K mg "is_up" HZ [ayI]
 TxB:Fd K mg "texts_begun" Ia [ayI]
 StO:Fd K mg "stand_on" Ib [ayI]
 Fin:Fd K mg "finish" Ic [ayI,azb]
 StT:Fd K mg "steps_to" Ig [ayC,ay7,ayT]
 DoD:Fd K mg "do_deed" Ie [ayC,ayI,ayT]
 LSt:Fd K mg "_law_stand" Ir [ayU,ayA,ayz]
 IsN:Fd K mg "is_name" Iu [ayL]
 IsP:Fd K mg "is_path" Iw [ayL]
 AsP:Fd K mg "ask_path" Ix [ayG]
 WEn:Fd K mg "with_entry" Iz ["entries","key","entry"]
 LRe:Fd K mg "_law_refused" IA [ayQ,ayA,ayz]
 LCh:Fd K mg "_law_chose" Cu [ayQ,ayA,ayz]
 IPl:Fd K mg "is_place" Ho [ay1,"things"]
 FoO:Fd K mg "formers_of" Hq [ayI]
 AsN:Fd K mg "ask_name" Iy [ayE]
 LDe:Fd K mg "_law_deed" IB [ayQ,azh,ayA,ayz]
 Law:Fd K mg "law" uy [ayJ]
 M:Addr
 Fa:Addr
 NP:Addr
 NN:Addr
 NU:Addr
 NF:Addr
 R:RD K mg M Fa NP NN NU NF
 cN:Addr
 FN:wB K azj azj wf NBe.f cN NBe.fd
 hN:W.codeHdIn K cN Pt=true
 hB:base.BuiltinsAt mg Pt
end K72
section
open L2
variable {P:Program}{w:World}{K:Fg}{mg:Mv}{base:Heap}{Pt:Addr}
namespace K72
section
variable {x:Str}{α:Type}
theorem Cw{sep:Str}:∀{ps:Ls}{d:Nat},d∈(Str.join sep ps).cps.toList->d∈sep.cps.toList\/∃p∈ps,d∈p.cps.toList
 | [],d,h=>by
  have h:d∈([]:List Nat):=h;cases h
 | [p],d,h=>.inr ⟨p,bM,h⟩
 | p::q::r,d,h=>by
  have h:d∈(p++sep++Str.join sep (q::r)).cps.toList:=h;rw[mv,mv]at h
  rcases bR.mp h with h | h
  . rcases bR.mp h with h | h
    . exact .inr ⟨p,bM,h⟩
    exact .inl h
  rcases Cw h with h | ⟨z,hz,hd⟩
  . exact .inl h
  exact .inr ⟨z,bY _ hz,hd⟩
theorem RE{l u:Option Int}{c:Nat}(h:c∈(Txt.slice x l u).cps.toList):c∈x.cps.toList:=by
 unfold Txt.slice at h;split at h
 . exact h
 have j:c∈(Builtin.Str.strSliceIndices l u 1 x.length).filterMap (x.cps[·]?):=by simpa using h
 obtain⟨i,_,hi⟩:=Mx.mp j;have:=awR hi;simpa using this
theorem ajF(x:Str)(k:Int)(h0:0<=k)(h1:k<=x.length):(Txt.slice x none (some k)).length+(Txt.slice x (some k) none).length=x.length:=by
 have z:x.cps.toList.length=x.length:=eZ;rw[G5,G5,StrLaws.sliceText_to (x:=x) (j:=k) ⟨h0,by omega⟩,StrLaws.sliceText_from (x:=x) (i:=k) ⟨h0,by omega⟩];show((List.drop 0 x.cps.toList).take (k - 0).toNat).toArray.size+((List.drop k.toNat x.cps.toList).take ((x.cps.toList.length:Int) - k).toNat).toArray.size=x.length;rw[gi,gi,eF,eF,mI,mI];omega
theorem Cy{c d:Nat}(h:d∈(⟨#[c]⟩:Str).cps.toList):d=c:=bw.mp h
theorem RF{P:Nat->Prop}(ok:∀c∈x.cps.toList,P c){r:Int}(h0:0<=r)(h1:r<x.length):∃c,cu x.cps.toList r=some c/\P c:=by
 obtain⟨n,rfl⟩:∃n:Nat,r=n:=⟨r.toNat,by omega⟩;have j:n<x.cps.toList.length:=by
  have:x.cps.toList.length=x.length:=by simp[Str.length]
  omega
 exact⟨_,Bt (hZ j),ok _ (EG j)⟩
def wC:Str:=ay6
theorem ajG:∀c∈wC.cps.toList,97<=c/\c<=122:=by decide +kernel
theorem zj:wC.length=26:=by decide +kernel
theorem Cz(n:Int):∃c,cu wC.cps.toList (n % 26)=some c/\(97<=c/\c<=122):=RF ajG (by omega) (by rw[zj];omega)
def rD : Str := " !\"#$&'()*+,-./0123456789:;<=>?@ABCDEFGHIJKLMNOPQRSTUVWXYZ[\\]^_`"
def rE:Str:="abcdefghijklmnopqrstuvwxyz{|}~"
theorem ajH:∀c∈(rD++rE).cps.toList,32<=c/\c<=126/\c≠37:=by decide +kernel
theorem wD:(rD++rE).length=94:=by decide +kernel
inductive RG:Sp where
 | mk {H:Hp}{Q:VK}{E:XK}{c k:Int} (_:∀n:Int,Q (.int n) H):RG [.int c,.int k] H Q E
theorem RH:aN [ayz,ayP,ayB] [ayz,ayP] (av Ii):=aU
theorem gU(j:Pg K mg base Pt):aA P w K mg base aJ 1 j.Mix.f j.Mix.fd [ayz,ayP] RG:=by
 refine j.Mix.u.okL RH ?_;intro z A outer s H vs Q E U h xX J;obtain @⟨_,_,_,c,k,q⟩:=h;refine⟨_,(ai (aH (i:=2) RH.nd rfl (Or.inl rfl) (aw bZ (aw vy (aw fO (aw fO (aw bZ (pv 0) aj) (aw vy aj (pv 1))) aj) aj) aj))
  (al (aQ (aw bZ (aw vy (pv 2) (aw fO (aw ff (pv 2) aj) aj)) aj)))),?_⟩
 refine lq ?_;intro G Y O;refine⟨(by show(0:Int)<2147483647;decide),.inl ⟨by omega,by omega⟩,.inr ⟨by omega,by omega⟩,(by show(0:Int)<2147483647;decide),?_⟩;refine⟨⟨by omega,by omega⟩,.inl ⟨by omega,by omega⟩,(by show(0:Int)<2147483647;decide),?_⟩;exact q _
inductive RI (K:Fg):Sp where
 | mk {H:Hp}{Q:VK}{E:XK}{a:Addr}{k:Int}{ns:List Int} (_:0<=k) (_:aa K H a (ns.map V.int)) (_:∀n:Int,Q (.int n) H):RI K [.ref a,.int k] H Q E
theorem ajI:aN [ayJ,ayP] [ayJ,ayP] (av Ih):=aU
theorem wE(j:Pg K mg base Pt):aA P w K mg base aJ 1 j.Cel.f j.Cel.fd [ayJ,ayP] (RI K):=by
 refine j.Cel.u.okL ajI ?_;intro J A outer s H vs Q E hr h xX U;obtain @⟨_,_,_,a,k,ns,k0,G,q⟩:=h;refine⟨_,(ai (bV (bW qI (pv 1) (cr fU (by rfl) j.B.len fc (aq (pv 0))) (bC _))
  (al (aQ (bA eR (pv 0) (pv 1) (λ_ _=>rfl)))) cZ)
  (al (aQ aj))),?_⟩
 refine lq ?_;intro O sS Y;refine⟨a,_,rfl,.inl G,⟨⟨?_⟩⟩⟩;refine bj (λh=>?_) (λh=>?_)
 . have h':=cY h;rw[ak]at h';obtain⟨z,hz,_⟩:=FJ (ns:=ns) (r:=k) k0 h';exact⟨G,hz,q z⟩
 exact q 0
inductive RJ:Sp where
 | mk {H:Hp}{Q:VK}{E:XK}{c p:Int} (_:∀x H',bQ x->ac H H'->Q (.str x) H'):RJ [.int c,.int p] H Q E
theorem CB:aN [ayz,azk,ayX,"_law_body","_law_at"] [ayz,azk] (av Ij):=aU
theorem ajJ(j:Pg K mg base Pt):aA P w K mg base aJ 1 j.Nam.f j.Nam.fd [ayz,azk] RJ:=by
 refine j.Nam.u.okL CB ?_;intro au A outer s H vs Q E hr h xX dX;obtain @⟨_,_,_,c,p,q⟩:=h;refine⟨_,(ai (aH (i:=2) CB.nd rfl (Or.inr rfl) bO)
  (BD (λZ H2=>∃x:Str,Z=[some (.int c),some (.int p),some (.str wC),some (.str x),none]/\ac H H2/\(∀c∈x.cps.toList,97<=c/\c<=122)/\x.length<=7) (aH (i:=3) CB.nd rfl (Or.inl rfl) (dH lU xO xP vH bO (aq (fZ [ayP] [ayX,ayz] [2,0] dJ rfl (oE rfl j.B.range (aq (aw bZ (aw ff (pv 0) aj) aj))) (λ_ _ _ _=>(bf (i:=0) (show List.Nodup ([ayP,ayX,ayz]:Ls) by decide +kernel) rfl (Or.inl rfl))) (λ_ _ _ _=>fY) (λ_ _ _ _=>(bA yg (pv 1) (aw bZ (aw ff (pv 2) (aw fO aj (aw vy aj (pv 0)))) aj) (λ_ _=>rfl)))))))
  (ai (aH (i:=4) CB.nd rfl (Or.inl rfl) (aw bZ (aw ff (pv 0) aj) (aw fO (cr Fu (by rfl) j.B.len fc (aq (pv 3))) aj)))
  (al (aQ (aw yc (aw yc (mT BA (pv 3) qJ (kU (pv 4))) (bA yg (pv 2) (aw bZ (aw fO (pv 0) (pv 1)) aj) (λ_ _=>rfl))) (mT BA (pv 3) (kU (pv 4)) qJ))))))),?_⟩
 refine lq ?_;intro dD sS dZ;refine⟨?_,?_⟩
 . refine⟨rfl,⟨by omega,by omega⟩,(by show(0:Int)<8;decide),by omega,by omega,?_⟩;refine vF (σ0:=[none,some (.str wC),some (.int c)]) (λZ=>∃v,Z=[v,some (.str wC),some (.int c)]) (λi ys _=>∃xs:Ls,ys=xs.map V.str/\xs.length=i/\∀x∈xs,(∀c∈x.cps.toList,97<=c/\c<=122)/\x.length<=1) ⟨_,rfl⟩ (λ_ _=>⟨[],rfl,rfl,λ_ h=>nomatch h⟩) ?_ ?_
   . intro D i ys Z H2 k hD hi fJ hd hs gW hk;refine bu ?_;intro Y;obtain⟨v,rfl⟩:=fJ;obtain⟨xs,rfl,U,G⟩:=gW;obtain⟨z,hz,J⟩:=Cz (c / (16+5 * (0+(i:Int))));refine⟨.inl ⟨by omega,by omega⟩,⟨by omega,by omega⟩,(by show(0:Int)<26;decide),iS (by rw[zj];decide),hz,?_⟩;refine hk _ _ _ ⟨_,rfl⟩ (ac.refl _) (bP (by rw[ak];omega)) ⟨xs++[_],tY xs _,by rw[bI,U];rfl,λy hy=>?_⟩
     rcases bR.mp hy with hy | hy
     . exact G y hy
     rw[bw.mp hy];exact⟨λd hd=>by rw[Cy hd];exact J,xG (oN z)⟩
   intro D ys H2 hD hd hs gX;refine bu ?_;intro Y;obtain⟨xs,rfl,U,G⟩:=gX;have a0:=yt (b:=1) λy hy=>(G y hy).2;have O:(Str.ofString "").length=0:=by decide +kernel
   refine⟨xs,aa.of hd,by rw[O];omega,?_⟩;refine⟨_,rfl,hs,λd hd=>?_,?_⟩
   . rw[show Txt.join (Str.ofString "") xs=Str.join (Str.ofString "") xs from AS _ _]at hd
     rcases Cw hd with hd | ⟨y,hy,hd⟩
     . cases hd
     exact(G y hy).1 d hd
   refine b8 BH ?_;rw[O];omega
 intro σ' H' pj;refine bu ?_;intro Y;obtain⟨x,rfl,s1,xt,x8⟩:=pj;refine⟨⟨by omega,by omega⟩,_,rfl,iS (by omega),(by show(0:Int)<(x.length:Int)+1;omega),?_⟩;obtain⟨z,hz,J⟩:=Cz (c+p);have l1:=Txt.slice_le x none (some (c / 7 % ((x.length:Int)+1)));have l2:=Txt.slice_le x (some (c / 7 % ((x.length:Int)+1))) none;have l3:(⟨#[z]⟩:Str).length=1:=oN z;refine⟨iS (by omega),(by show(0:Int)<26;decide),iS (by rw[zj];decide),hz,_,_,rfl,rfl,fit (by omega) (by omega),iS (by omega),_,_,rfl,rfl,fit (by rw[j6];omega) (by omega),?_⟩;have l4:=ajF x (c / 7 % ((x.length:Int)+1)) (sV _ (by omega)) (by have:=vk (c / 7) (show(0:Int)<(x.length:Int)+1 by omega);omega);refine q _ _ ⟨?_,?_,λd hd=>?_⟩ s1
 . rw[j6,j6];omega
 . rw[j6,j6];omega
 rw[mv,mv]at hd
 rcases bR.mp hd with hd | hd
 . rcases bR.mp hd with hd | hd
   . exact xt d (RE hd)
   rw[Cy hd];exact J
 exact xt d (RE hd)
inductive RK:Sp where
 | mk {H:Hp}{Q:VK}{E:XK}{c:Int} (_:∀x H',gL x->ac H H'->Q (.str x) H'):RK [.int c] H Q E
theorem CF:aN [ayB,ayX,"_law_many"] [ayB] (av Ik):=aU
theorem ajL(j:Pg K mg base Pt):aA P w K mg base aJ 1 j.Lin.f j.Lin.fd [ayB] RK:=by
 refine j.Lin.u.okL CF ?_;intro au A outer s H vs Q E hr h xX dX;obtain @⟨_,_,_,c,q⟩:=h;refine⟨_,(ai (aH (i:=1) CF.nd rfl (Or.inr rfl) bO)
  (ai (aH (i:=1) CF.nd rfl (Or.inr rfl) (aw yc (pv 1) bO))
  (ai (aH (i:=2) CF.nd rfl (Or.inl rfl) (aw bZ (pv 0) aj))
  (al (aQ (dH lU xO xP vH bO (aq (fZ [ayP] [ayX,ayB] [1,0] dJ rfl (oE rfl j.B.range (aq (pv 2))) (λ_ _ _ _=>(bf (i:=0) (show List.Nodup ([ayP,ayX,ayB]:Ls) by decide +kernel) rfl (Or.inl rfl))) (λ_ _ _ _=>fY) (λ_ _ _ _=>(bA yg (pv 1) (aw bZ (aw ff (pv 2) (aw fO aj (aw vy aj (pv 0)))) (cr Fu (by rfl) j.B.len fc (aq (pv 1)))) (λ_ _=>rfl))))))))))),?_⟩
 refine jB ?_;intro dD sS nG gu dZ;refine⟨_,_,rfl,rfl,(by show rD.length+rE.length<=sizeLine;rw[<-j6,wD];decide),?_⟩;refine⟨(by show(0:Int)<5;decide),?_⟩;refine⟨rfl,by omega,by omega,?_⟩;have e1:∀i:Nat,∃z,cu (rD++rE).cps.toList (c / (5+11 * (0+(i:Int))) % ((rD++rE).length:Int))=some z/\(32<=z/\z<=126/\z≠37):=λi=>RF ajH (sV _ (by rw[wD];decide)) (vk _ (by rw[wD];decide));refine vF (σ0:=[none,some (.str (rD++rE)),some (.int c)]) (λZ=>∃v,Z=[v,some (.str (rD++rE)),some (.int c)]) (λi ys _=>∃xs:Ls,ys=xs.map V.str/\xs.length=i/\∀x∈xs,(∀c∈x.cps.toList,32<=c/\c<=126/\c≠37)/\x.length<=1) ⟨_,rfl⟩ (λ_ _=>⟨[],rfl,rfl,λ_ h=>nomatch h⟩) ?_ ?_
 . intro D i ys Z H2 k U hi uA hd hs uB Y;refine bu ?_;intro tT;obtain⟨v,rfl⟩:=uA;obtain⟨xs,rfl,O,G⟩:=uB;obtain⟨z,hz,zb⟩:=e1 i;refine⟨.inl ⟨by omega,by omega⟩,⟨by omega,by omega⟩,_,rfl,iS (by rw[wD];decide),(by show(0:Int)<((rD++rE).length:Int);rw[wD];decide),iS (by rw[wD];decide),hz,?_⟩;refine Y _ _ _ ⟨_,rfl⟩ (ac.refl _) (bP (by rw[ak];omega)) ⟨xs++[_],tY xs _,by rw[bI,O];rfl,λy hy=>?_⟩
   rcases bR.mp hy with hy | hy
   . exact G y hy
   rw[bw.mp hy];exact⟨λd hd=>by rw[Cy hd];exact zb,xG (oN z)⟩
 intro D ys H2 U hd hs zk;refine bu ?_;intro tT;obtain⟨xs,rfl,O,G⟩:=zk;have a0:=yt (b:=1) λy hy=>(G y hy).2;have J:(Str.ofString "").length=0:=by decide +kernel
 refine⟨xs,aa.of hd,by rw[J];omega,?_⟩;refine q _ _ ⟨?_,λd hd=>?_⟩ hs
 . refine b8 BH ?_;rw[J];omega
 rw[show Txt.join (Str.ofString "") xs=Str.join (Str.ofString "") xs from AS _ _]at hd
 rcases Cw hd with hd | ⟨y,hy,hd⟩
 . cases hd
 exact(G y hy).1 d hd
abbrev ajM (H:Hp) (Q:V->Hp->Prop):Prop:=∀(l:Addr) (H':Hp) (xs:Ls),H l=none->ac H H'->H' l=some (.lst (xs.map V.str))->xs.length<=4->(∀x∈xs,gL x)->Q (.ref l) H'
inductive RL:Sp where
 | mk {H:Hp}{Q:VK}{E:XK}{c:Int} (_:ajM H Q):RL [.int c] H Q E
theorem RM:aN [ayB,ayX] [ayB] (av Il):=aU
theorem CG(j:Pg K mg base Pt):aA P w K mg base aJ 2 j.Lis.f j.Lis.fd [ayB] RL:=by
 refine j.Lis.u.okL RM ?_;intro au A outer s H vs Q E O h xX dX;obtain @⟨_,_,_,c,q⟩:=h;refine⟨_,(ai (aH (i:=1) RM.nd rfl (Or.inr rfl) (aw fO aj (aw vy aj (aw bZ (pv 0) aj))))
  (al (aQ (fZ [ayP] [ayX,ayB] [1,0] dJ rfl (oE rfl j.B.range (aq (aw bZ (pv 0) aj))) (λ_ _ _ _=>(bf (i:=0) (show List.Nodup ([ayP,ayX,ayB]:Ls) by decide +kernel) rfl (Or.inl rfl))) (λ_ _ _ _=>fY) (λ_ _ _ _=>(aB (ajL j) O rfl (aq (aw bZ (aB (gU j) O rfl (aI (aw ff (pv 2) aj) (pv 0))) (pv 1))))))))),?_⟩
 refine lq ?_;intro dD sS dZ;refine⟨(by show(0:Int)<3;decide),.inl ⟨by omega,by omega⟩,⟨?_⟩⟩;refine⟨(by show(0:Int)<5;decide),by omega,by omega,?_⟩;refine vF (σ0:=[none,some (.int (40+900 * (c % 3))),some (.int c)]) (λZ=>∃v,Z=[v,some (.int (40+900 * (c % 3))),some (.int c)]) (λi ys _=>∃xs:Ls,ys=xs.map V.str/\xs.length=i/\∀x∈xs,gL x) ⟨_,rfl⟩ (λ_ _=>⟨[],rfl,rfl,λ_ h=>nomatch h⟩) ?_ ?_
 . intro D i ys Z H2 k J hi zn hd hs Y hk;refine bu ?_;intro tT;obtain⟨v,rfl⟩:=zn;obtain⟨xs,rfl,U,z⟩:=Y;refine⟨⟨by omega,by omega⟩,⟨⟨λn=>?_⟩⟩⟩;refine⟨(by show(0:Int)<40+900 * (c % 3);omega),⟨λx H3 lx s3=>?_⟩⟩;exact hk _ _ _ ⟨_,rfl⟩ s3 (bP (by rw[ak];omega)) ⟨xs++[x],tY xs x,by rw[bI,U];rfl,λy G=>(bR.mp G).elim (z y) (λG=>by rw[bw.mp G];exact lx)⟩
 intro D ys H2 J hd hs a0;refine bu ?_;intro tT;obtain⟨xs,rfl,U,z⟩:=a0;exact q D H2 xs J hs hd (by omega) z
inductive RN:Sp where
 | mk {H:Hp}{Q:VK}{E:XK}{c:Int} (_:∀x H',dW x->ac H H'->Q (.str x) H'):RN [.int c] H Q E
theorem IE:aN [ayB,ayX,"_law_way"] [ayB] (av Im):=aU
def IF:Ls:=["a","a/b","conf/ed/three/four","zz"]
def IG(x:Str):Bool:=decide (1<=x.length) && decide (x.length<=8) && x.cps.toList.all λc=>decide (97<=c) && decide (c<=122)
theorem ajO(h:IG x=true):bQ x:=by
 unfold IG at h;simp only[im,AX,hX]at h;exact⟨h.1.1,h.1.2,h.2⟩
theorem CH(ps:Ls)(e:x=Str.join lE ps)(h1:1<=ps.length)(h2:ps.length<=4)(h:ps.all IG=true):dW x:=⟨ps,e,h1,h2,λp j=>ajO (hX.mp h p j)⟩
theorem ajP:∀x∈IF,dW x:=by
 intro x j;simp only[IF,bc,fz,fA]at j
 rcases j with rfl | rfl | rfl | rfl
 . exact CH ["a"] (by decide +kernel) (by decide) (by decide) (by decide +kernel)
 . exact CH ["a","b"] (by decide +kernel) (by decide) (by decide) (by decide +kernel)
 . exact CH ["conf","ed","three","four"] (by decide +kernel) (by decide) (by decide) (by decide +kernel)
 exact CH ["zz"] (by decide +kernel) (by decide) (by decide) (by decide +kernel)
theorem RO{z:Nat}(h:97<=z/\z<=122):bQ ⟨#[z]⟩:=⟨aG _,(by show 1<=8;decide),λd hd=>by rw[Cy hd];exact h⟩
theorem IH(j:Pg K mg base Pt):aA P w K mg base aJ 1 j.Pat.f j.Pat.fd [ayB] RN:=by
 refine j.Pat.u.okL IE ?_;intro au A outer s H vs Q E hr h xX dX;obtain @⟨_,_,_,c,q⟩:=h;refine⟨_,(ai (aH (i:=1) IE.nd rfl (Or.inl rfl) bO)
  (ai (aH (i:=2) IE.nd rfl (Or.inl rfl) (aw bZ (pv 0) aj))
  (ai (bV (bW fC (pv 2) aj (bC _))
  (al (aQ (aw yc (aw yc (bA yg (pv 1) (aw bZ (aw ff (pv 0) aj) aj) (λ_ _=>rfl)) bO) (bA yg (pv 1) (aw bZ (aw ff (pv 0) aj) aj) (λ_ _=>rfl))))) cZ)
  (al (aQ (bA eR (dq (vN bO bO bO bO)) (pv 2) (λ_ _=>rfl))))))),?_⟩
 refine jB ?_;intro dD sS nG gu dZ;refine⟨(by show(0:Int)<5;decide),?_⟩;refine⟨rfl,⟨?_⟩⟩;refine bj (λh=>?_) (λh=>?_)
 . obtain⟨z,hz,Y⟩:=Cz (c / 5);obtain⟨y,J,U⟩:=Cz (c / 130);have lz:(⟨#[z]⟩:Str).length=1:=oN z;have ly:(⟨#[y]⟩:Str).length=1:=oN y;have ls:(Str.ofString "/").length=1:=by decide +kernel
   refine⟨⟨by omega,by omega⟩,(by show(0:Int)<26;decide),iS (by rw[show(Str.ofString "abcdefghijklmnopqrstuvwxyz").length=26 from zj];decide),hz,_,_,rfl,rfl,fit (by omega) (by omega),⟨by omega,by omega⟩,(by show(0:Int)<26;decide),iS (by rw[show(Str.ofString "abcdefghijklmnopqrstuvwxyz").length=26 from zj];decide),J,_,_,rfl,rfl,fit (by rw[j6];omega) (by omega),?_⟩;refine q _ _ ⟨[⟨#[z]⟩,⟨#[y]⟩],rfl,(by show 1<=2;decide),(by show 2<=4;decide),λp G=>?_⟩ (ac.refl _);simp only[bc,fz,fA]at G
   rcases G with rfl | rfl
   . exact RO Y
   exact RO U
 have h4:c % 5≠4:=λz=>h (by show decide (V.int (c % 5)=V.int 4)=true;rw[z];rfl);refine⟨(by show 4<=sizeLine;decide),λp1 H1 n1 O e1=>?_⟩;obtain⟨z,hz,zm⟩:=oR (xs:=IF) (r:=c % 5) (by omega) (by show c % 5<(4:Nat);omega);exact⟨aa.of e1,hz,q z H1 (ajP z (cX zm)) O⟩
theorem RP(n:Int):0<=n % (10 ^ (9:Int).toNat)/\n % (10 ^ (9:Int).toNat)<=1000000000:=by
 have e:(10 ^ (9:Int).toNat:Int)=1000000000:=by decide
 rw[e];omega
def ajQ(H:Hp)(Q:VK):Prop:=∀p H' (ms:List Int),H p=none->ac H H'->H' p=some (.tup (ms.map V.int))->gc ms->Q (.ref p) H'
inductive RQ:Sp where
 | mk {H:Hp}{Q:VK}{E:XK}{c:Int} (_:ajQ H Q):RQ [.int c] H Q E
theorem ajR:aN [ayB] [ayB] (av Io):=aU
theorem ajS(z:Pg K mg base Pt):aA P w K mg base aJ 1 z.Mak.f z.Mak.fd [ayB] RQ:=by
 refine z.Mak.u.okL ajR ?_;intro au A outer s H vs Q E hr h xX dX;obtain @⟨_,_,_,c,q⟩:=h;refine⟨_,(ai (bV (bW fC (aw bZ (pv 0) aj) aj (bC _))
  (al (aQ (eX (aq (aw fO aj (aw bZ (aw ff (pv 0) aj) aj)))))) cZ)
  (ai (bV (bW fC (aw bZ (pv 0) aj) aj (bC _))
  (al (aQ (eX (aI aj (aw bZ (aw ff (pv 0) aj) aj))))) cZ)
  (ai (bV (bW fC (aw bZ (pv 0) aj) aj (bC _))
  (al (aQ (eX (dv aj aj (aw bZ (aw ff (pv 0) aj) (aw Bi aj aj)))))) cZ)
  (al (aQ (eX (aq (aw bZ (aw ff (pv 0) aj) (aw Bi aj aj))))))))),?_⟩
 refine jB ?_;intro dD sS nG gu dZ;refine⟨(by show(0:Int)<4;decide),rfl,⟨?_⟩⟩;refine bj (λh=>?_) (λh=>?_)
 . refine⟨⟨by omega,by omega⟩,(by show(0:Int)<3;decide),Ac,λO H1 n1 s1 e1=>?_⟩;exact q O H1 [_] n1 s1 e1 ⟨(by show 1<=1;decide),(by show 1<=3;decide),λn j=>by rw[bw.mp j];omega⟩
 refine⟨(by show(0:Int)<4;decide),rfl,⟨?_⟩⟩;refine bj (λh=>?_) (λh=>?_)
 . refine⟨⟨by omega,by omega⟩,(by show(0:Int)<3;decide),An,λp2 H2 n2 s2 e2=>?_⟩;exact q p2 H2 [_,_] n2 s2 e2 ⟨(by show 1<=2;decide),(by show 2<=3;decide),λn j=>by
    simp only[bc,fz,fA]at j
    rcases j with rfl | rfl<;>omega⟩
 refine⟨(by show(0:Int)<4;decide),rfl,⟨?_⟩⟩;refine bj (λh=>?_) (λh=>?_)
 . refine⟨⟨by omega,by omega⟩,⟨by decide,by decide,by decide⟩,(by show(0:Int)<10 ^ (9:Int).toNat;decide),A3,λU H3 n3 s3 e3=>?_⟩;exact q U H3 [_,_,_] n3 s3 e3 ⟨(by show 1<=3;decide),(by show 3<=3;decide),λn j=>by
    simp only[bc,fz,fA]at j
    rcases j with rfl | rfl | rfl
    . omega
    . omega
    exact RP _⟩
 refine⟨⟨by omega,by omega⟩,⟨by decide,by decide,by decide⟩,(by show(0:Int)<10 ^ (9:Int).toNat;decide),Ac,λY G J s4 e4=>?_⟩;exact q Y G [_] J s4 e4 ⟨(by show 1<=1;decide),(by show 1<=3;decide),λn j=>by rw[bw.mp j];exact RP _⟩
theorem dL{n:Nat}(h:n<=100000):n<=sizeLine:=by rw[sK];omega
theorem ajT(l:List α)(f:α->Bool):l.map (λc=>V.bl (f c))=(l.map f).map V.bl:=by rw[lR];rfl
theorem RR(l:List α)(f:α->Bool):(l.map f).all id=l.all f:=by rw[List.all_map];rfl
theorem ja{β:Type}{l:List α}{f:α->β}{i:Nat}{y:β}(h:(l.map f)[i]?=some y):∃x,l[i]?=some x/\y=f x:=by
 rw[dG]at h;cases e:l[i]? with
 | none=>rw[e]at h;cases h
 | some x=>rw[e]at h;exact⟨x,rfl,(hJ h).symm⟩
inductive RS:Sp where
 | mk {H:Hp}{Q:VK}{E:XK}{t:Str} (_:t.length<=90000) (_:∀l H',H l=none->ac H H'->H' l=some (.lst ((rowsOf t).map V.str))->Q (.ref l) H'):RS [.str t] H Q E
theorem ajU:aN [ayL] [ayL] (av Hz):=aU
theorem ajV(j:Pg K mg base Pt):aA P w K mg base aJ 1 j.RwO.f j.RwO.fd [ayL] RS:=by
 refine j.RwO.u.okL ajU ?_;intro G A outer s H vs Q E O h Y J;obtain @⟨_,_,_,t,U,q⟩:=h;refine⟨_,(al (aQ (Nr (bW Bj (pv 0) bO (bC _)) (dH lU M0 M3 B8 (pv 0) (aq bO)) (dq eI)))),?_⟩;refine⟨rfl,⟨?_⟩⟩;refine bj (λh=>?_) (λh=>?_)
 . have ne:t≠Str.empty:=λz=>by
    rw[z]at h;exact absurd h (by decide +kernel)
   refine⟨rfl,t,lC,rfl,rfl,by decide +kernel,dL (by omega),λl H' a b c=>?_⟩;refine q l H' a b ?_;rw[c];unfold rowsOf;rw[ag ne]
 have e:t=Str.empty:=by
  rcases Classical.em (t=Str.empty) with z | z
  . exact z
  refine absurd ?_ h;show(!decide (V.str t=V.str Str.empty))=true;rw[cy (λy=>z (V.str.inj y))];rfl
 refine⟨(by show 0<=sizeLine;exact dF _),λl H' a b c=>?_⟩;refine q l H' a b ?_;rw[c];unfold rowsOf;rw[am e];rfl
theorem II{y a:Str}(h:a∈Txt.split x y):a.length<=x.length:=part_short h
def zq(ms:List Int):Prop:=ms.length<=3/\∀n∈ms,0<=n/\n<=1000000000
theorem gc.ok{ms:List Int}(h:gc ms):zq ms:=⟨h.hi,h.rg⟩
inductive RT:Sp where
 | mk {H:Hp}{Q:VK}{E:XK}{m:Addr}{ms:List Int} (_:H m=some (.tup (ms.map V.int))) (_:zq ms) (_:∀H',ac H H'->Q (.str (jG ms)) H'):RT [.ref m] H Q E
theorem ajW:aN [ayK] [ayK] (av HB):=aU
theorem RU{ms:List Int}(h:zq ms):((ms.map i9).map (·.length)).sum<=30:=by
 have:=yt (ys:=ms.map i9) (b:=10) λy z=>by
  obtain⟨n,j,rfl⟩:=cE.mp z;exact(Ro (h.2 n j).1 (h.2 n j).2).2
 rw[ak]at this;have:=h.1;omega
theorem ajX{n:Int}(h0:0<=n)(h1:n<=1000000000):n.natAbs.log2<1920:=by
 have:n.natAbs<2 ^ 1920:=Yb (by omega:n.natAbs<=1000000000) (by decide +kernel)
 by_cases z:n.natAbs=0
 . rw[z];decide
 exact(Nat.log2_lt z).mpr this
theorem ajY(j:Pg K mg base Pt):aA P w K mg base aJ 1 j.MkS.f j.MkS.fd [ayK] RT:=by
 refine j.MkS.u.okL ajW ?_;intro au A outer s H vs Q E hr h xX dX;obtain @⟨_,_,_,m,ms,J,ok,q⟩:=h;refine⟨_,(al (aQ (dH lU xO xP vH bO (aq (fZ [ay1] [] [] dJ rfl (Z5 (pv 0)) (λ_ _ _ _=>(bf (i:=0) (show List.Nodup ([ay1]:Ls) by decide +kernel) rfl (Or.inl rfl))) (λ_ _ _ _=>fY) (λ_ _ _ _=>(eJ aaH (by rfl) j.B.str YE (aq (pv 0))))))))),?_⟩;refine⟨rfl,⟨_,aZ.of J⟩,?_⟩;refine aig (σ0:=[none]) (aZ.of J) (λZ=>∃v,Z=[v]) ((ms.map i9).map V.str) (by rw[ak,ak,ak]) (dL (by rw[ak];have:=ok.1;omega)) ⟨_,rfl⟩ ?_ ?_
 . intro i z y Z H2 k hz U Y hs hk;obtain⟨v,rfl⟩:=Y;obtain⟨n,O,rfl⟩:=ja hz;rw[lR]at U;obtain⟨n',G,rfl⟩:=ja U;rw[O]at G;cases G;have r:=ok.2 n (cX O);exact⟨n,rfl,ajX r.1 r.2,hk _ _ ⟨_,rfl⟩ (ac.refl _)⟩
 intro D H2 hD hd hs;have l1:=RU ok;refine⟨ms.map i9,aa.of hd,?_,?_⟩
 . rw[show(Str.ofString ".").length=1 by decide +kernel,ak];have:=ok.1;omega
 have:=q H2 hs;rw[show jG ms=Txt.join lF (ms.map i9) from (AS _ _).symm]at this;exact this
end
section
variable {H1 H H':Hp}{kv:ao×V}{e:Str×(Ls×Ls)}
theorem IJ{g:TG}{tb:TS}{D:Ends}{Z:L2.St}{kvs:List (ao×V)}{ob:Obj}(Pv:Nat->L2.St->Hp->Prop)(h0:Pv 0 Z (ah H1 d (.frz ob (.dK kvs))))(G:∀i Z H,Pv i Z H->H d=some (.frz ob (.dK kvs)))
 (hs:∀i k v p Z H,kvs[i]?=some (k,v)->Pv i Z H->H p=none->g (.ref p) Z (ah H p (.tup [kV k,v])) λσ2 H2=>
  tb { nx:=Pv (i+1),ct:=Pv (i+1),bk:=λσ' H'=>H' d=some (.frz ob (.dK kvs))/\D.nx σ' (ah H' d (.dK kvs)),rt:=λj H'=>H' d=some (.frz ob (.dK kvs))/\D.rt j (ah H' d (.dK kvs)) } σ2 H2)
 (hd:∀Z H,Pv kvs.length Z H->D.nx Z (ah H d (.dK kvs))):∃W:Nat->Nat->L2.St->Hp->Prop,(∃m,W 0 m Z (ah H1 d (.frz ob (.dK kvs))))/\∀i m Z H,W i m Z H ->
 H d=some (.frz ob (.dK kvs))/\((kvs.length<=i/\D.nx Z (ah H d (.dK kvs)))\/(i<kvs.length/\∃N:L2.St->Hp->Prop,(∀σ' H',N σ' H'->∃m',m'<m/\W (i+1) m' σ' H') /\
  ∀k v p,kvs[i]?=some (k,v)->H p=none->g (.ref p) Z (ah H p (.tup [kV k,v])) λσ2 H2=>
   tb { nx:=N,ct:=N,bk:=λσ' H'=>H' d=some (.frz ob (.dK kvs))/\D.nx σ' (ah H' d (.dK kvs)),rt:=λj H'=>H' d=some (.frz ob (.dK kvs))/\D.rt j (ah H' d (.dK kvs)) } σ2 H2)):=by
 refine⟨λi m Z H=>m=kvs.length - i/\i<=kvs.length/\Pv i Z H,⟨kvs.length,by simp,dF _,h0⟩,?_⟩;rintro i m Z H ⟨rfl,hi,p⟩;refine⟨G i Z H p,?_⟩
 by_cases z:i<kvs.length
 . exact .inr ⟨z,Pv (i+1),λσ' H' U=>⟨kvs.length - (i+1),by omega,rfl,z,U⟩,λk v q J O=>hs i k v q Z H J p O⟩
 have e:i=kvs.length:=by omega
 subst e;exact .inl ⟨aG _,hd Z H p⟩
abbrev Ch:=List (Str×List Int)
variable {ch:Ch}
def dC(H:Hp)(kv:ao×V)(e:Str×List Int):Prop:=kv.1=.inr e.1/\∃m,kv.2=.ref m/\H m=some (.tup (e.2.map V.int))
theorem dC.same(s:ac H H'){e:Str×List Int}(h:dC H kv e):dC H' kv e:=h.elim λa z=>z.elim λm j=>j.elim λb c=>⟨a,m,b,s _ _ c⟩
def dj(H:Hp)(c:Addr)(ch:Ch):Prop:=∃kvs,H c=some (.dK kvs)/\Paired (dC H) kvs ch
theorem dj.same(s:ac H H'){c:Addr}(h:dj H c ch):dj H' c ch:=h.elim λkvs j=>j.elim λa b=>⟨kvs,s _ _ a,aF b λ_ _=>dC.same s⟩
abbrev Ow:=List (Str×(Ls×Ls))
variable {ow:Ow}
def ge(H:Hp)(kv:ao×V)(e:Str×(Ls×Ls)):Prop:=kv.1=.inr e.1/\∃t j z,kv.2=.ref t/\H t=some (.tup [.ref j,.ref z])/\H j=some (.lst (e.2.1.map V.str))/\H z=some (.lst (e.2.2.map V.str))
theorem ge.same(s:ac H H')(h:ge H kv e):ge H' kv e:=h.elim λa j=>j.elim λt z=>z.elim λY G=>G.elim λl2 J=>J.elim λb O=>O.elim λc U=>U.elim λd f=>⟨a,t,Y,l2,b,s _ _ c,s _ _ d,s _ _ f⟩
def jH(H H':Hp)(kv:ao×V)(e:Str×(Ls×Ls)):Prop:=kv.1=.inr e.1/\∃t j z,kv.2=.ref t/\H t=none/\H j=none/\H z=none/\H' t=some (.tup [.ref j,.ref z])/\H' j=some (.lst (e.2.1.map V.str))/\H' z=some (.lst (e.2.2.map V.str))
theorem jH.same{H2:Hp}(s:∀b o,H1 b=some o->H b=none->H2 b=some o)(h:jH H H1 kv e):jH H H2 kv e:=h.elim λa j=>j.elim λt z=>z.elim λl1 G=>G.elim λl2 J=>J.elim λb O=>O.elim λn1 U=>U.elim λn2 Y=>Y.elim λn3 a0=>a0.elim λc a1=>a1.elim λd f=>⟨a,t,l1,l2,b,n1,n2,n3,s _ _ c n1,s _ _ d n2,s _ _ f n3⟩
theorem jH.put{ks mJ:List (ao×V)}(hd:H1 d=some (.dK ks))(h:jH H H1 kv e):jH H (ah H1 d (.dK mJ)) kv e:=
 h.elim λa j=>j.elim λt G=>G.elim λl1 J=>J.elim λl2 O=>O.elim λb U=>U.elim λn1 Y=>Y.elim λn2 a0=>a0.elim λn3 a1=>a1.elim λc a2=>a2.elim λd' f=>⟨a,t,l1,l2,b,n1,n2,n3,aD c (be c hd (by intro z;cases z)),aD d' (be d' hd (by intro z;cases z)),aD f (be f hd (by intro z;cases z))⟩
def mw(H:Hp)(o:Addr)(ow:Ow):Prop:=∃kvs,H o=some (.dK kvs)/\Paired (ge H) kvs ow
theorem mw.same(s:ac H H'){o:Addr}(h:mw H o ow):mw H' o ow:=h.elim λkvs j=>j.elim λa b=>⟨kvs,s _ _ a,aF b λ_ _=>ge.same s⟩
abbrev Cs:=List (Str×Str)
variable {cs:Cs}
def iD(kv:ao×V)(e:Str×Str):Prop:=kv.1=.inr e.1/\kv.2=.str e.2
def pq(H:Hp)(h:Addr)(cs:Cs):Prop:=∃kvs,H h=some (.dK kvs)/\Paired iD kvs cs
theorem pq.same(s:ac H H'){h:Addr}(x:pq H h cs):pq H' h cs:=x.elim λkvs j=>j.elim λa b=>⟨kvs,s _ _ a,b⟩
def iE(T:Addr)(H:Hp)(v:V)(ch:Ch)(cs:Cs)(ow:Ow):Prop:=∃a dx fl c h o,v=.ref a/\H a=some (.ins T dx fl)/\fl.lookup (ayH:Str)=some (.ref c)/\fl.lookup (ayN:Str)=some (.ref h)/\fl.lookup (ayW:Str)=some (.ref o) /\
 dj H c ch/\pq H h cs/\mw H o ow
theorem iE.same{v:V}(s:ac H H')(x:iE T H v ch cs ow):iE T H' v ch cs ow:=by
 obtain⟨a,dx,fl,c,h,o,e,h1,h2,j,z,G,J,O⟩:=x;exact⟨a,dx,fl,c,h,o,e,s _ _ h1,h2,j,z,G.same s,J.same s,O.same s⟩
inductive RV:Sp where
 | mk {H:Hp}{Q:VK}{E:XK}{o:Addr}{kvs:List (ao×V)}{ow:Ow} (_:H o=some (.dK kvs)) (_:Paired (ge H) kvs ow) (_:(ow.map (·.1)).Nodup) (_:ow.length<=500) (_:∀d H' j,H d=none->ac H H'->H' d=some (.dK j)->Paired (jH H H') j ow->Q (.ref d) H'):RV [.ref o] H Q E
theorem CI:aN [ayW,"copied",ayG,ay2] [ayW] (av HK):=aU
theorem aks(zZ:Pg K mg base Pt):aA P w K mg base aJ 1 zZ.CCo.f zZ.CCo.fd [ayW] RV:=by
 refine zZ.CCo.u.okL CI ?_;intro au A outer s H vs Q E hr h xX dX;obtain @⟨_,_,_,o,kvs,ow,ho,pr,nd,wF,q⟩:=h;have hu:=hr.units;refine⟨_,(ai (aH (i:=1) CI.nd rfl (Or.inl rfl) mj)
  (ai (F3 eG rfl (pv 0) (ou rfl (gE (bf (i:=2) CI.nd rfl (Or.inl rfl)) (gE (bf (i:=3) CI.nd rfl (Or.inl rfl)) mR)))
  (al (iR hu (pv 1) (pv 2) (eX (aI (eJ mf (by rfl) zZ.B.list jT (aq (bA fj (pv 3) aj (λ_ _=>rfl)))) (eJ mf (by rfl) zZ.B.list jT (aq (bA fj (pv 3) aj (λ_ _=>rfl)))))) rfl)))
  (al (aQ (pv 1))))),?_⟩
 refine jA ?_;intro dD sS gu dZ;have hk:∀(H':Hp) kv f,jH H H' kv f->kv.1=Sum.inr f.1:=λ_ kv f z=>z.1;refine λd H1 n1 s1 e1=>?_;have od:d≠o:=(aK ho n1).symm;refine⟨o,kvs,rfl,s1 _ _ ho,λob=>?_⟩;refine IJ (λi Z G=>∃u v O,Z=[some (.ref o),some (.ref d),u,v]/\(∀b x,H b=some x->b≠o->G b=some x)/\(∀b,G b=none->H b=none)/\G o=some (.frz ob (.dK kvs))/\G d=some (.dK O)/\Paired (jH H G) O (ow.take i))
  ⟨none,none,[],rfl,λb x e J=>aD (s1 _ _ e) J,λb e=>s1.free (kX e).2,aE,aD e1 od,.nil⟩ ?_ ?_ ?_
 . intro i Z G fJ;refine bu ?_;intro tT;obtain⟨u,v,O,rfl,_,_,h,_⟩:=fJ;exact h
 . intro i k v p Z G hi gW hp;refine bu ?_;intro tT;obtain⟨u,v',O,rfl,k5,Y,h5,gM,gw⟩:=gW
   first | (refine ug (g:=jX _) ?_;intro eQ sQ) | (refine ug (g:=tz _ _ _) ?_;intro eQ sQ) | skip
   obtain⟨⟨x,b1,m1⟩,hf,a1,t,l1,l2,a2,a3,a4,a5⟩:=eK pr hi;have a1:k=.inr x:=a1;have a2:v=.ref t:=a2;subst a1 a2;have aO:=(cT.mp hf).1;have sp:ac G (ah G p (.tup [kV (.inr x),.ref t])):=fX hp;have K5:∀{b:Addr}{z:HO},H b=some z->(∀ks,z≠.dK ks)->(ah G p (.tup [kV (.inr x),.ref t])) b=some z:=λ{b z} e hz=>sp _ _ (k5 _ _ e (be e ho (hz _)));have T5:=K5 a3 (by intro ks z;cases z);have L5:=K5 a4 (by intro ks z;cases z);have M5:=K5 a5 (by intro ks z;cases z);have z0:cu [V.ref l1,V.ref l2] 0=some (V.ref l1):=rfl;have z1:cu [V.ref l1,V.ref l2] 1=some (V.ref l2):=rfl;refine⟨aZ.of aE,rfl,rfl,?_⟩;refine⟨aZ.of T5,z0,l1,_,rfl,.inl (aa.of L5),λq1 H6 n6 s6 e6=>?_⟩;refine⟨aZ.of (s6 _ _ T5),z1,l2,_,rfl,.inl (aa.of (s6 _ _ M5)),λq2 H7 n7 s7 e7=>?_⟩;refine⟨An,λq3 H8 n8 s8 e8=>?_⟩;have U:=sp.trans (s6.trans (s7.trans s8));have pl:=bv gw;rw[eF]at pl;refine⟨fV.k (k:=.inr x) (U _ _ gM) (bP (by omega)),?_⟩;have IK:x∉(ow.take i).map (·.1):=by
    rw[Ye];intro hm;obtain⟨j,hj,ej⟩:=MR.mp hm;rw[eF,ak]at hj;rw[List.getElem_take]at ej;have e1:(ow.map (·.1))[j]?=some x:=by rw[hZ (by rw[ak];omega),ej]
    have e2:(ow.map (·.1))[i]?=some x:=by rw[dG,hf];rfl
    have:=(YF (l:=ow.map (·.1)) (i:=j) (j:=i) (by rw[ak];omega) nd).mp (by rw[e1,e2]);omega
   have a0:∀b,H8 b=none->H b=none:=λb e=>Y b (U.free e);refine⟨_,_,_,rfl,λb z e J=>?_,λb e=>a0 b (kX e).2,aD (U _ _ h5) od.symm,aE,?_⟩
   . rw[aW (λy=>by rw[y,n1]at e;cases e)];exact U _ _ (k5 _ _ e J)
   rw[io,hf];have:=iZ (F:=jH H H8) (hk H8) (x:=x) (ls:=(b1,m1)) (v:=.ref q3) ⟨rfl,q3,q1,q2,rfl,Y _ (sp.free (s6.free (s7.free n8))),Y _ (sp.free n6),Y _ (sp.free (s6.free n7)),e8,s8 _ _ (s7 _ _ e6),s8 _ _ e7⟩ (aF gw λ_ _=>jH.same λb z e _=>U _ _ e);rw[zc IK]at this;exact aF this λ_ _=>jH.put (U _ _ gM)
 intro Z G gX;refine bu ?_;intro tT;obtain⟨u,v,O,rfl,k5,Y,h5,gM,gw⟩:=gX
 first | (refine ug (g:=jX _) ?_;intro eQ sQ) | (refine ug (g:=tz _ _ _) ?_;intro eQ sQ) | skip
 rw[bv pr,fb]at gw;refine⟨q d _ O n1 (λb z e=>?_) (aD gM od) (aF gw λ_ _=>jH.same λb z e J=>aD e (λy=>by rw[y,ho]at J;cases J))⟩
 by_cases J:b=o
 . subst J;rw[ho]at e;cases e;exact aE
 exact aD (k5 b z e J) J
inductive IL (T:Addr):Sp where
 | mk {H:Hp}{Q:VK}{E:XK}{x dx c h o:Addr}{kvs z:List (ao×V)}{ow:Ow} (_:H x=some (.ins T dx [])) (_:H c=some (.dK kvs)) (_:H h=some (.dK z)) (_:mw H o ow) (_:(ow.map (·.1)).Nodup) (_:ow.length<=500) (_:∀(H':Hp) (fl:List (Str×V)) (c' h' o':Addr) (j:List (ao×V)),(∀b o,H b=some o->b≠x->H' b=some o)->H' x=some (.ins T dx fl)->fl.lookup (ayH:Str)=some (.ref c')->fl.lookup (ayN:Str)=some (.ref h')->fl.lookup (ayW:Str)=some (.ref o') ->
  H c'=none->H h'=none->H o'=none->H' c'=some (.dK kvs)->H' h'=some (.dK z)->H' o'=some (.dK j)->Paired (jH H H') j ow->Q .non H'):IL T [.ref x,.ref c,.ref h,.ref o] H Q E
theorem aku:aN [ayy,ayH,ayN,ayW] [ayy,ayH,ayN,ayW] (av v6):=aU
theorem eT.over{Hk j:Hp}{fl:List (Str×V)}(S:eT C dx x H Hk fl)(s:ac Hk j):eT C dx x H j fl:=⟨λb o e z=>s _ _ (S.same b o e z),λb e=>S.free b (s.free e),s _ _ S.ob⟩
theorem CJ(j:Pg K mg base Pt):aA P w K mg base aJ 2 j.TIn.f j.TIn.fd [ayy,ayH,ayN,ayW] (IL j.T):=by
 refine j.TIn.u.okL aku ?_;intro au A outer s H vs Q E hr h xX dX;obtain @⟨_,_,_,x,dx,c,h,o,kvs,zr,ow,J,hc,hh,ho,nd,wF,q⟩:=h;refine⟨_,(ai (iP (pv 0) (eJ vJ (by rfl) j.B.dict AY (aq (pv 1))) rfl)
  (ai (iP (pv 0) (eJ vJ (by rfl) j.B.dict AY (aq (pv 2))) rfl)
  (al (iP (pv 0) (aB (aks j) hr rfl (aq (pv 3))) rfl)))),?_⟩
 refine jA ?_;intro dD sS gu dZ;have S0:eT j.T dx x H H []:=⟨λ_ _ e _=>e,λ_ e=>e,J⟩;have ch:∀{b:Addr}{ks:List (ao×V)},H b=some (.dK ks)->b≠x:=λe=>be e J (by intro z;cases z);refine⟨c,_,rfl,hc,λc1 H1 n1 s1 e1=>?_⟩;have S1:=S0.over s1;refine⟨S1.ob,j.UT.cl,j.UT.nC,(by decide),?_⟩;have S2:eT j.T dx x H _ (ay ayH (.ref c1) []):=S1.put;have IM:c1≠x:=(aK J n1).symm;have c2:(ah H1 x (.ins j.T dx (ay ayH (.ref c1) []))) c1=some (.dK kvs):=aD e1 IM;refine⟨h,_,rfl,S2.same _ _ hh (ch hh),λh1 H3 n3 s3 e3=>?_⟩;have S3:=S2.over s3;have RW:=S2.free _ n3;refine⟨S3.ob,j.UT.cl,j.UT.nH,few (lp o9) (by decide),?_⟩;have G:eT j.T dx x H _ (ay ayN (.ref h1) (ay ayH (.ref c1) [])):=S3.put;have RX:h1≠x:=(aK J RW).symm;obtain⟨ko,zt,zu⟩:=ho;have wG:Paired (ge (ah H3 x (.ins j.T dx (ay ayN (.ref h1) (ay ayH (.ref c1) []))))) ko ow:=aF zu λkv e z=>by
  obtain⟨z1,t,l1,l2,z2,O,U,Y⟩:=z;exact⟨z1,t,l1,l2,z2,G.same _ _ O (be O J (by intro z;cases z)),G.same _ _ U (be U J (by intro z;cases z)),G.same _ _ Y (be Y J (by intro z;cases z))⟩
 refine⟨G.same _ _ zt (ch zt),wG,nd,wF,λo1 H5 IN n5 s5 e5 gw=>?_⟩;have S5:=G.over s5;have RY:=G.free _ n5;refine⟨S5.ob,j.UT.cl,j.UT.nO,few (lp (lp o9)) (by decide),?_⟩;have a0:o1≠x:=(aK J RY).symm;have S6:eT j.T dx x H _ (ay ayW (.ref o1) (ay ayN (.ref h1) (ay ayH (.ref c1) []))):=S5.put;refine q _ _ c1 h1 o1 IN S6.same S6.ob ?_ ?_ ?_ n1 RW RY (aD (s5 _ _ (aD (s3 _ _ c2) IM)) IM) (aD (s5 _ _ (aD e3 RX)) RX) (aD e5 a0) (aF gw λkv e z=>?_)
 . rw[cO,ag (by decide +kernel),cO,ag (by decide +kernel),cO,am rfl]
 . rw[cO,ag (by decide +kernel),cO,am rfl]
 . rw[cO,am rfl]
 obtain⟨z1,t,l1,l2,z2,m1,m2,m3,O,U,Y⟩:=z;have fx:∀{b:Addr}{z:HO},H5 b=some z->(∀fs,z≠.ins j.T dx fs)->b≠x:=λe hz=>be e S5.ob (hz _);exact⟨z1,t,l1,l2,z2,G.free _ m1,G.free _ m2,G.free _ m3,aD O (fx O (by intro fs z;cases z)),aD U (fx U (by intro fs z;cases z)),aD Y (fx Y (by intro fs z;cases z))⟩
theorem CK{Q:Addr->Hp->Prop}{E:XK}(hc:dj H c ch)(hh:pq H h cs)(ho:mw H o ow)(nd:(ow.map (·.1)).Nodup)(wF:ow.length<=500)(q:∀x H',H x=none->ac H H'->(∀L,gJ H L->iE T (msk L H') (.ref x) ch cs ow)->Q x H') :
 ∀x dx,H x=none->H dx=none->dx≠x->IL T (.ref x::([.ref c,.ref h,.ref o]++[])) (ah (ah H dx (.own x)) x (.ins T dx [])) (λv H2=>v=.non/\Q x H2) E:=by
 intro x dx J bB nx;have j:ac H (ah (ah H dx (.own x)) x (.ins T dx [])):=dQ (fX bB) J;obtain⟨kvs,e1,e2⟩:=hc;obtain⟨zr,e3,e4⟩:=hh;refine⟨aE,j _ _ e1,j _ _ e3,ho.same j,nd,wF,λH' fl c' h' o' ko keep qx O U l3 n1 n2 n3 g1 g2 g3 g4=>?_⟩;have Y:ac H H':=λb o e=>keep b o (j _ _ e) (aK e J);refine⟨rfl,q x H' J Y λL G=>⟨x,dx,fl,c',h',o',rfl,cC (G.free J) qx,O,U,l3,⟨kvs,cC (G.free (j.free n1)) g1,aF e2 λkv e z=>?_⟩,⟨zr,cC (G.free (j.free n2)) g2,e4⟩,⟨ko,cC (G.free (j.free n3)) g3,aF g4 λkv e z=>?_⟩⟩⟩
 . obtain⟨a,m,b,c⟩:=z;exact⟨a,m,b,cC (G.tup c) (Y _ _ c)⟩
 obtain⟨z1,t,O,U,z2,m1,m2,m3,z3,z4,z5⟩:=z;exact⟨z1,t,O,U,z2,cC (G.free (j.free m1)) z3,cC (G.free (j.free m2)) z4,cC (G.free (j.free m3)) z5⟩
end
end K72
namespace L2
theorem RZ{X:Cx}(K:Fg){T id:String}{name:Str}{r:V->Lv->Hp->VK->Prop}{o e:Expr}{es:List Expr}{to:TE}{t:TA}{apos cw:Pos}(Y:PlainAttrs T)(slot:Slot T name id)(j:typeOf (.builtin id)=pure (.type "method_descriptor"))(O:Op X id r)(U:PE X o to)(J:PA X (e::es) t)(h:X.K=K:=by rfl)
 (tM:attributeBase o name X.env (eval o X.env)=eval o X.env:=by rfl)
 (z:((backTo cw (starEach (e::es) X.env)).all (λx=>!x.1) && (backToKw cw (keywordEach [] X.env)).all (λx=>x.1.isSome)
  && decide ((e::es).length+([]:List Keyword).length+(if ([]:List Keyword).isEmpty then 0 else 1)<30))=true:=by rfl)
 (tN:(apos.endLine == cw.line)=true:=by rfl) (hs:starEach (e::es) X.env=(false,eval e X.env)::starEach es X.env:=by rfl) (G:(backTo cw (starEach es X.env)).any (·.1)=false:=by rfl) :
 PE X (.Call (.Attribute o name apos) (e::es) [] cw) (OD K T r to t):=by
 subst h;exact dH Y slot j O U J tM z tN hs G
theorem R0{X:Cx}(K:Fg)(h:X.K=K:=by rfl):oI X "str.join" (Px K):=h▸vH
end L2
namespace K72
section
variable {c:Str}
structure CL(ch:Ch)(cs:Cs)(ow:Ow):Prop where
 nch:ch.length<64
 ncs:cs.length<64
 now:ow.length<64
 dch:(ch.map (·.1)).Nodup
 dcs:(cs.map (·.1)).Nodup
 dow:(ow.map (·.1)).Nodup
 ch:∀e∈ch,e.1.length<=60/\zq e.2
 cs:∀e∈cs,e.1.length<=60/\e.2.length<=60
 ow:∀e∈ow,e.1.length<=60/\e.2.1.length<=60/\e.2.2.length<=60/\(∀x∈e.2.1,x.length<=60)/\∀x∈e.2.2,x.length<=60
theorem uD(sep:Str)(ps:Ls):Txt.join sep ps=Str.join sep ps:=AS _ _
theorem R1(p:Str):(Str.ofString "own ")++p=Str.join spS [dY,p]:=by
 show _=dY++spS++p;rw[show(Str.ofString "own ")=dY++spS by decide +kernel]
theorem IP{sep:Str}{ps:Ls}{b:Nat}(h:∀p∈ps,p.length<=b)(hs:sep.length<=1):(Str.join sep ps).length<=ps.length * (b+1):=by
 rw[<-uD];refine b8 BH ?_;have:=yt h;have h2:ps.length * sep.length<=ps.length * 1:=Nat.mul_le_mul_left _ hs;rw[Nat.mul_add];omega
inductive R3:Sp where
 | mk {H:Hp}{Q:VK}{E:XK}{p:Str}{t j z:Addr}{b m:Ls} (_:H t=some (.tup [.ref j,.ref z])) (_:H j=some (.lst (b.map V.str))) (_:H z=some (.lst (m.map V.str))) (_:p.length<=60) (_:b.length<=60) (_:m.length<=60) (_:(∀x∈b,x.length<=60)) (_:(∀x∈m,x.length<=60)) (_:∀l H',H l=none->ac H H'->H' l=some (.lst ((eh (p,(b,m))).map V.str))->Q (.ref l) H'):R3 [.str p,.ref t] H Q E
theorem R5:aN [ayG,ay2,"rows"] [ayG,ay2] (av HQ):=aU
theorem akw(zZ:Pg K mg base Pt):aA P w K mg base aJ 1 zZ.ChR.f zZ.ChR.fd [ayG,ay2] R3:=by
 refine zZ.ChR.u.okL R5 ?_;intro au A outer s H vs Q E hr h xX dX;obtain @⟨_,_,_,p,t,l1,l2,b,m,ht,h1,h2,hp,hb,hm,a0,a1,q⟩:=h;refine⟨_,(ai (aH (i:=2) R5.nd rfl (Or.inl rfl) (dq (aq (qW bO (yz (pv 0))))))
  (ai (bT (dH jf qt qv mW (pv 2) (aq (fZ ["line"] [] [] dJ rfl (cL (bA fj (pv 1) aj (λ_ _=>rfl))) (λ_ _ _ _=>(bf (i:=0) (show List.Nodup (["line"]:Ls) by decide +kernel) rfl (Or.inl rfl))) (λ_ _ _ _=>fY) (λ_ _ _ _=>(qW bO (yz (pv 0))))))))
  (ai (bT (dH jf qt qv mW (pv 2) (aq (fZ ["line"] [] [] dJ rfl (cL (bA fj (pv 1) aj (λ_ _=>rfl))) (λ_ _ _ _=>(bf (i:=0) (show List.Nodup (["line"]:Ls) by decide +kernel) rfl (Or.inl rfl))) (λ_ _ _ _=>fY) (λ_ _ _ _=>(qW bO (yz (pv 0))))))))
  (al (aQ (pv 2)))))),?_⟩
 refine jB ?_;intro dD sS nG gu dZ;have z0:cu [V.ref l1,V.ref l2] 0=some (V.ref l1):=rfl;have z1:cu [V.ref l1,V.ref l2] 1=some (V.ref l2):=rfl;have e4:(Str.ofString "own ").length=4:=by decide +kernel
 refine⟨dL (by rw[e4];omega),dL (by omega),_,rfl,dL (by rw[e4];omega),Ac,λr H1 n1 O e1=>?_⟩;refine⟨.inl ⟨rfl,_,aa.of e1⟩,aZ.of (O _ _ ht),z0,⟨_,aa.of (O _ _ h1)⟩,?_⟩;refine vT (σ0:=[none]) (aa.of (O _ _ h1)) (λZ=>∃v,Z=[v]) ((b.map (fk ++ ·)).map V.str) (by rw[ak,ak,ak]) (dL (by rw[ak];omega)) ⟨_,rfl⟩ ?_ ?_
 . intro i z y Z H2 k hz G U hs Y;obtain⟨v,rfl⟩:=U;obtain⟨x,j,rfl⟩:=ja hz;rw[lR]at G;obtain⟨x',J,rfl⟩:=ja G;rw[j]at J;cases J;have:=a0 x (cX j);exact⟨dL (by show fk.length<=_;rw[ny];decide),dL (by omega),_,rfl,dL (by show fk.length+_<=_;rw[ny,oN];omega),Y _ _ ⟨_,rfl⟩ (ac.refl _)⟩
 intro D1 H2 n2 e2 s2;refine⟨s2 _ _ e1,e2,dL (by simp only[ak,bU,kG];omega),?_⟩;have ci:=O.trans s2;have nr:∀{c:Addr}{o:HO},H c=some o->c≠r:=λe=>aK e n1;have k3:∀{c:Addr}{o:HO}{o':HO},H c=some o->ah H2 r o' c=some o:=λe=>aD (ci _ _ e) (nr e);refine⟨.inl ⟨rfl,_,aa.of aE⟩,aZ.of (k3 ht),z1,⟨_,aa.of (k3 h2)⟩,?_⟩;refine vT (σ0:=[none]) (aa.of (k3 h2)) (λZ=>∃v,Z=[v]) ((m.map (fm ++ ·)).map V.str) (by rw[ak,ak,ak]) (dL (by rw[ak];omega)) ⟨_,rfl⟩ ?_ ?_
 . intro i z y Z H3 k hz G U hs Y;obtain⟨v,rfl⟩:=U;obtain⟨x,j,rfl⟩:=ja hz;rw[lR]at G;obtain⟨x',J,rfl⟩:=ja G;rw[j]at J;cases J;have:=a1 x (cX j);exact⟨dL (by show fm.length<=_;rw[pi];decide),dL (by omega),_,rfl,dL (by show fm.length+_<=_;rw[pi,oN];omega),Y _ _ ⟨_,rfl⟩ (ac.refl _)⟩
 intro D2 H3 n3 e3 s3;refine⟨s3 _ _ aE,e3,dL (by simp only[ak,bU,kG,bI];omega),?_⟩;refine⟨q r _ n1 (λc o e=>aD (s3 _ _ (k3 e)) (nr e)) ?_⟩;rw[aE];unfold eh;rw[dw,dw,<-R1];rfl
inductive CM (T:Addr):Sp where
 | mk {H:Hp}{Q:VK}{E:XK}{v:V}{ch:Ch}{cs:Cs}{ow:Ow} (_:iE T H v ch cs ow) (_:CL ch cs ow) (_:∀aX aL aM H',cK ch aX->cK cs aL->cK ow aM->ac H H'->Q (.str (Str.join lC (gb aX aL aM))) H'):CM T [v] H Q E
theorem IQ:aN [ayV,"rows",ayG] [ayV] (av HP):=aU
theorem R6{a b:Str}(j:a.length<=10)(z:b.length<=60)(G:c.length<=60):(([a,b,c].map (·.length)).sum + [a,b,c].length * spS.length)<=16777216:=by
 rw[show spS.length=1 by decide +kernel];simp only[bS,AM,List.sum_cons,List.sum_nil,bU,kG];omega
theorem R7{ms:List Int}(h:zq ms):(jG ms).length<=60:=by
 unfold jG;rw[<-uD];refine b8 BH ?_;have:=RU h;have:=h.1;rw[show lF.length=1 by decide +kernel,ak];omega
theorem R8{a b:Str}(j:a.length<=10)(z:b.length<=60)(G:c.length<=60):(Str.join spS [a,b,c]).length<=133:=by
 show(a++spS++(b++spS++c)).length<=133;simp only[j6,show spS.length=1 by decide +kernel];omega
theorem R9{ch:Ch}{cs:Cs}{ow:Ow}(j:CL ch cs ow){aX:Ch}{aL:Cs}{aM:Ow}(jr:aX.Perm ch)(U:aL.Perm cs)(J:aM.Perm ow):(gb aX aL aM).length<=64+64+64 * 121/\∀y∈gb aX aL aM,y.length<=140:=by
 refine⟨?_,λy hy=>?_⟩
 . have:∀(l:Ow),(∀e∈l,e∈ow)->(l.flatMap eh).length<=l.length * 121:=by
    intro l
    induction l with
    | nil=>intro _;exact dF _
    | cons e l ih=>
     intro O;have h1:=ih λx G=>O x (bY _ G);obtain⟨_,h2,Y,_⟩:=j.ow e (O e bM);rw[EL,bI,bU];have:(eh e).length<=121:=by
      unfold eh;simp only[bI,ak,bU,kG];omega
     omega
   have Y:=this aM λe z=>J.mem_iff.mp z;have a1:=jr.length_eq;have a2:=U.length_eq;have a3:=J.length_eq;have b1:=j.nch;have b2:=j.ncs;have b3:=j.now;have h4:aM.length * 121<=64 * 121:=M4 _ (by omega);unfold gb;rw[bI,bI,ak,ak];omega
 unfold gb at hy
 rcases bR.mp hy with hy | hy
 . rcases bR.mp hy with hy | hy
   . obtain⟨e,z,rfl⟩:=cE.mp hy;obtain⟨k1,k2⟩:=j.ch e (jr.mem_iff.mp z);have:=R8 (a:=gs) (by decide +kernel) k1 (R7 k2);unfold iC;omega
   obtain⟨e,z,rfl⟩:=cE.mp hy;obtain⟨k1,k2⟩:=j.cs e (U.mem_iff.mp z);have:=R8 (a:=f9) (by decide +kernel) k1 k2;unfold ig;omega
 obtain⟨e,z,hy⟩:=vo.mp hy;obtain⟨j1,j2,j3,j4,j5⟩:=j.ow e (J.mem_iff.mp z);unfold eh at hy
 rcases bR.mp hy with hy | hy
 . rcases bR.mp hy with hy | hy
   . rw[bw.mp hy,<-R1,j6,show(Str.ofString "own ").length=4 by decide +kernel];omega
   obtain⟨x,G,rfl⟩:=cE.mp hy;have:=j4 x G;show(fk++x).length<=140;rw[j6,ny,oN];omega
 obtain⟨x,G,rfl⟩:=cE.mp hy;have:=j5 x G;show(fm++x).length<=140;rw[j6,pi,oN];omega
theorem akz{ch:Ch}{cs:Cs}{ow:Ow}(j:CL ch cs ow){aX:Ch}{aL:Cs}{aM:Ow}(jr:aX.Perm ch)(G:aL.Perm cs)(z:aM.Perm ow):((gb aX aL aM).map (·.length)).sum+(gb aX aL aM).length * lC.length<=16777216:=by
 obtain⟨h1,h2⟩:=R9 j jr G z;have:=yt h2;rw[show lC.length=1 by decide +kernel];omega
theorem wH(j:Pg K mg base Pt):aA P w K mg base aJ 2 j.Sho.f j.Sho.fd [ayV] (CM j.T):=by
 refine j.Sho.u.okL IQ ?_;intro au A outer s H vs Q E hr h xX dX;obtain @⟨_,_,_,v,ch,cs,ow,hS,G,q⟩:=h;have hu:=hr.units;obtain⟨a,dx,fl,c,h,o,rfl,ha,f1,f2,f3,⟨kc,Sa,IR⟩,⟨kh,Sb,IS⟩,⟨ko,zt,zu⟩⟩:=hS;refine⟨_,(ai (oP (i:=1) [ayE] [ayV] [0] IQ.nd rfl rfl dJ rfl (cL (cr (BJ rfl) (by rfl) j.B.sorted xQ (aq (bK (pv 0) rfl)))) (λ_ _ _ _=>(bf (i:=0) (show List.Nodup ([ayE,ayV]:Ls) by decide +kernel) rfl (Or.inl rfl))) (λ_ _ _ _=>fY) (λ_ _ _ _=>(RZ K lU xO xP (R0 K) bO (aq (dq (dv bO (pv 0) (aB (ajY j) hr (by rfl) (aq (qN hu (iV K (pv 1) rfl) (pv 0) (λ_ _=>rfl))))))))))
  (ai (bT (dH jf qt qv mW (pv 1) (aq (fZ [ayZ] [ayV] [0] dJ rfl (cL (cr (BJ rfl) (by rfl) j.B.sorted xQ (aq (bK (pv 0) rfl)))) (λ_ _ _ _=>(bf (i:=0) (show List.Nodup ([ayZ,ayV]:Ls) by decide +kernel) rfl (Or.inl rfl))) (λ_ _ _ _=>fY) (λ_ _ _ _=>(RZ K lU xO xP (R0 K) bO (aq (dq (dv bO (pv 0) (qN hu (iV K (pv 1) rfl) (pv 0) (λ_ _=>rfl)))))))))))
  (ai (eV eG rfl (cL (cr (BJ rfl) (by rfl) j.B.sorted xQ (aq (bK (pv 0) rfl)))) (bf (i:=2) IQ.nd rfl (Or.inl rfl))
   (al (bT (dH jf qt qv mW (pv 1) (aq (aB (akw j) hr (by rfl) (aI (pv 2) (qN hu (bK (pv 0) rfl) (pv 2) (λ_ _=>rfl)))))))))
  (al (aQ (dH lU xO xP vH bO (aq (pv 1)))))))),?_⟩
 refine jB ?_;intro dD sS nG gu dZ;have Sc:∀kv f,dC H kv f->kv.1=Sum.inr f.1:=λkv f z=>z.1;have Sd:∀kv f,iD kv f->kv.1=Sum.inr f.1:=λkv f z=>z.1;have B5:∀kv f,ge H kv f->kv.1=Sum.inr f.1:=λkv f z=>z.1;have lc:=bv IR;have lh:=bv IS;have lo:=bv zu;have b1:=G.nch;have b2:=G.ncs;have b3:=G.now;refine⟨ha,j.UT.cl,j.UT.nC,f1,c,kc,_,rfl,Sa,rp Sc IR,by omega,λys hp hs l1 H1 n1 s1 e1=>⟨⟨_,aa.of e1⟩,?_⟩⟩;obtain⟨aX,jr,a5⟩:=Hh hp rfl;subst a5;have y1:aX.length=ch.length:=jr.length_eq;refine vT (σ0:=[none,some (.ref a)]) (aa.of e1) (λZ=>∃v,Z=[v,some (.ref a)]) ((aX.map iC).map V.str) (by rw[ak,ak,ak,ak]) (dL (by rw[ak,ak];omega)) ⟨_,rfl⟩ ?_ ?_
 . intro i z y Z H2 k hz hy Y tD hk;obtain⟨v,rfl⟩:=Y;rw[lR]at hz hy;obtain⟨e,U,rfl⟩:=ja hz;obtain⟨e',mi,rfl⟩:=ja hy;rw[U]at mi;cases mi;have O:e∈ch:=jr.mem_iff.mp (cX U);obtain⟨u,ms,g1,g2,_,m,J,g3⟩:=ph Sc IR (gD (f:=(·.1)) O);have J:u=.ref m:=J;subst J;have em:ms=e.2:=nu G.dch g2 (by exact O);subst em;have ci:=s1.trans tD;obtain⟨k1,k2⟩:=G.ch e O;refine⟨rfl,ci _ _ ha,j.UT.cl,j.UT.nC,f1,(by rw[<-g1];exact cU.k (k:=.inr e.1) (ci _ _ Sa)),?_⟩;refine⟨ci _ _ g3,k2,λH3 s3=>?_⟩;refine⟨A3,λr H4 n4 s4 e4=>?_⟩;refine⟨[gs,e.1,jG e.2],aa.of e4,R6 (by decide +kernel) k1 (R7 k2),?_⟩;have eg:=hk [some (.str e.1),some (.ref a)] H4 ⟨_,rfl⟩ (s3.trans s4);rw[uD];exact eg
 intro D1 H2 n2 e2 s2;have ci:=s1.trans s2;have Se:H D1=none:=s1.free n2;refine⟨.inl ⟨rfl,_,aa.of e2⟩,ci _ _ ha,j.UT.cl,j.UT.nH,f2,h,kh,_,rfl,ci _ _ Sb,rp Sd IS,by omega,λa9 qM a0 l2 H3 n3 s3 e3=>⟨⟨_,aa.of e3⟩,?_⟩⟩;obtain⟨aL,ku,a6⟩:=Hh qM rfl;subst a6;have y2:aL.length=cs.length:=ku.length_eq;have fK:=ci.trans s3;refine vT (σ0:=[none,some (.ref a)]) (aa.of e3) (λZ=>∃v,Z=[v,some (.ref a)]) ((aL.map ig).map V.str) (by rw[ak,ak,ak,ak]) (dL (by rw[ak,ak];omega)) ⟨_,rfl⟩ ?_ ?_
 . intro i z y Z H4 k hz hy Y a3 hk;obtain⟨v,rfl⟩:=Y;rw[lR]at hz hy;obtain⟨e,U,rfl⟩:=ja hz;obtain⟨e',mi,rfl⟩:=ja hy;rw[U]at mi;cases mi;have O:e∈cs:=ku.mem_iff.mp (cX U);obtain⟨u,nm,g1,g2,_,J⟩:=ph Sd IS (gD (f:=(·.1)) O);have J:u=.str nm:=J;subst J;have em:nm=e.2:=nu G.dcs g2 (by exact O);subst em;have rF:=fK.trans a3;obtain⟨k1,k2⟩:=G.cs e O;refine⟨rfl,rF _ _ ha,j.UT.cl,j.UT.nH,f2,(by rw[<-g1];exact cU.k (k:=.inr e.1) (rF _ _ Sb)),?_⟩;refine⟨A3,λr H5 n5 s5 e5=>?_⟩;refine⟨[f9,e.1,e.2],aa.of e5,R6 (by decide +kernel) k1 k2,?_⟩;have eg:=hk [some (.str e.1),some (.ref a)] H5 ⟨_,rfl⟩ s5;rw[uD];exact eg
 intro D2 H4 n4 e4 s4;have rF:=fK.trans s4;refine⟨s4 _ _ (s3 _ _ e2),e4,dL (by simp only[ak];omega),?_⟩;have k5:∀{b:Addr}{z o':HO},H b=some z->ah H4 D1 o' b=some z:=λe=>aD (rF _ _ e) (aK e Se);refine⟨k5 ha,j.UT.cl,j.UT.nO,f3,o,ko,_,rfl,k5 zt,rp B5 zu,by omega,λab a2 a1 l3 H6 n6 s6 e6=>⟨⟨_,aa.of e6⟩,?_⟩⟩;obtain⟨aM,jt,a7⟩:=Hh a2 rfl;subst a7;have y3:aM.length=ow.length:=jt.length_eq;have f6:H6 D1=some (.lst ((aX.map iC++aL.map ig).map V.str)):=by
  rw[dw];exact s6 _ _ aE
 have k6:∀{b:Addr}{z:HO},H b=some z->H6 b=some z:=λe=>s6 _ _ (k5 e);have a4:l3≠D1:=λz=>by
  subst z;rw[aE]at n6;cases n6
 have rl:∀i,((aM.take i).flatMap eh).length<=64 * 121:=λi=>by
  have:∀(l:Ow),(∀e∈l,e∈ow)->(l.flatMap eh).length<=l.length * 121:=by
   intro l
   induction l with
   | nil=>intro _;exact dF _
   | cons e l ih=>
    intro hm;have h1:=ih λx hx=>hm x (bY _ hx);obtain⟨_,h2,h3,_⟩:=G.ow e (hm e bM);rw[EL,bI,bU];have:(eh e).length<=121:=by
     unfold eh;simp only[bI,ak,bU,kG];omega
    omega
  refine b8 (this _ λe U=>jt.mem_iff.mp (MJ U)) ?_;rw[eF];have:min i aM.length<=64:=by omega
  exact M4 _ this
 refine iN (xs:=(aM.map (·.1)).map V.str) (λi Z H7=>∃u,Z=[some (.ref a),some (.ref D1),u]/\(∀b z,H b=some z->H7 b=some z)/\H7 l3=some (.lst ((aM.map (·.1)).map V.str))/\H7 D1=some (.lst ((aX.map iC++aL.map ig++(aM.take i).flatMap eh).map V.str))) ⟨none,rfl,λb z e=>k6 e,e6,by rw[List.take_zero,List.flatMap_nil,lL];exact f6⟩ ?_ ?_ ?_
 . intro i Z H7 hi Y;obtain⟨u,rfl,_,h7,_⟩:=Y;exact aa.of h7
 . intro i z Z H7 hz Y;obtain⟨u,rfl,k7,l7,d7⟩:=Y;rw[lR]at hz;obtain⟨e,U,rfl⟩:=ja hz;have O:e∈ow:=jt.mem_iff.mp (cX U);obtain⟨u2,bm,g1,g2,_,t,q1,q2,J,g5,g6,g7⟩:=ph B5 zu (gD (f:=(·.1)) O);have J:u2=.ref t:=J;subst J;have em:bm=e.2:=nu G.dow g2 (by exact O);subst em;obtain⟨j1,j2,j3,j4,j5⟩:=G.ow e O;refine⟨.inl ⟨rfl,_,aa.of d7⟩,k7 _ _ ha,j.UT.cl,j.UT.nO,f3,(by rw[<-g1];exact cU.k (k:=.inr e.1) (k7 _ _ zt)),?_⟩;refine⟨k7 _ _ g5,k7 _ _ g6,k7 _ _ g7,j1,j2,j3,j4,j5,λr H8 n8 s8 e8=>?_⟩;have a8:=rl i;refine⟨s8 _ _ d7,e8,dL ?_,?_⟩
   . have:(eh e).length<=121:=by
      unfold eh;simp only[bI,ak,bU,kG];omega
     rw[ak,ak,bI,bI,ak,ak];show _+(eh (e.1,(e.2.1,e.2.2))).length<=_;have e0:(eh (e.1,(e.2.1,e.2.2)))=eh e:=rfl;rw[e0];omega
   refine⟨_,rfl,λb z hb=>aD (s8 _ _ (k7 _ _ hb)) (aK hb Se),aD (s8 _ _ l7) a4,?_⟩;rw[aE,io,U,<-dw];show some (HO.lst (List.map V.str (aX.map iC++aL.map ig++(aM.take i).flatMap eh++eh e)))=some (HO.lst (List.map V.str (aX.map iC++aL.map ig++(aM.take i++[e]).flatMap eh)));rw[EM,kI (List.map iC aX++List.map ig aL),List.flatMap_singleton]
 intro Z H7 Y;obtain⟨u,rfl,k7,l7,d7⟩:=Y;rw[ak,ak,fb]at d7;refine⟨rfl,gb aX aL aM,aa.of d7,?_,?_⟩
 . exact akz G jr ku jt
 rw[uD];exact q aX aL aM H7 ⟨jr,hs⟩ ⟨ku,a0⟩ ⟨jt,a1⟩ (λb z e=>k7 b z e)
theorem akI{p:Str}(h:(vY p).isSome=true):vX p=true/\0<p.length/\p.length<=10/\(NumText.digitsVal p.cps.toList:Int)<=1000000000:=by
 unfold vY at h;split at h
 . rename_i h1;obtain⟨h2,j⟩:=xK.mp h1;have h2:=cY h2;split at h
   . cases h
   split at h
   . cases h
   exact⟨j,h2.1,h2.2,by omega⟩
 cases h
theorem akJ{t:Str}(h:uv t=true):(Txt.split t lF).length<=3/\∀p∈Txt.split t lF,(vY p).isSome=true:=by
 unfold uv at h;obtain⟨h1,h2⟩:=xK.mp h;exact⟨cY h1,hX.mp h2⟩
theorem akK{j:Str}(h:jF j=true)(h1:Txt.startswith j fk=false)(h2:Txt.startswith j fm=false) :
 (∃p,Txt.split j spS=[dY,p])\/(∃n x,Txt.split j spS=[gs,n,x]/\uv x=true)\/∃n x,Txt.split j spS=[f9,n,x]:=by
 unfold jF at h;rw[h1,h2,sM,ag (by decide)]at h;generalize Txt.split j spS=G at h
 match G,h with
 | [w,p],h=>
  have h:=cY (xK.mp h).1;rw[h];exact .inl ⟨p,rfl⟩
 | [w,n,x],h=>
  obtain⟨_,h⟩:=xK.mp h
  by_cases z:w=gs
  . rw[am z]at h;rw[z];exact .inr (.inl ⟨n,x,rfl,h⟩)
  rw[ag z]at h;have h:=cY (xK.mp h).1;rw[h];exact .inr (.inr ⟨n,x,rfl⟩)
def nI(H7:Hp)(ck:Option Str)(ct cH cI:Addr)(b m:Ls)(kv:ao×V)(e:Str×(Ls×Ls)):Prop:=
 kv.1=.inr e.1/\((ck=some e.1/\kv.2=.ref ct/\e.2=(b,m))\/(ck≠some e.1/\∃t j z,kv.2=.ref t/\H7 t=some (.tup [.ref j,.ref z])/\H7 j=some (.lst (e.2.1.map V.str))/\H7 z=some (.lst (e.2.2.map V.str))/\j≠cH/\j≠cI/\z≠cH/\z≠cI))
structure gf(H H7:Hp)(dc dh dO ct cH cI:Addr)(s:Nt):Prop where
 old:∀b z,H b=some z->H7 b=some z
 nc:H dc=none
 nh:H dh=none
 no:H dO=none
 n1:H cH=none
 n2:H cI=none
 d1:dc≠dh
 d2:dc≠dO
 d3:dh≠dO
 d4:cH≠cI
 ch:∃kc,H7 dc=some (.dK kc)/\Paired (dC H7) kc s.ch
 cs:∃kh,H7 dh=some (.dK kh)/\Paired iD kh s.cs
 hct:H7 ct=some (.tup [.ref cH,.ref cI])
 c1:H7 cH=some (.lst (s.b.map V.str))
 c2:H7 cI=some (.lst (s.m.map V.str))
 ow:∃ko,H7 dO=some (.dK ko)/\Paired (nI H7 s.ck ct cH cI s.b s.m) ko s.ow
 ck:∀p,s.ck=some p->p∈s.ow.map (·.1)
section
variable {H H7 H8:Hp}{dc dh dO ct cH cI:Addr}{s:Nt}
theorem nI.keep{ck:Option Str}{b m:Ls}{kv:ao×V}{e:Str×(Ls×Ls)}(k:∀c z,H7 c=some z->(∀ks,z≠.dK ks)->c≠cH->c≠cI->H8 c=some z)(h1:∃xs,H7 cH=some (.lst xs))(h2:∃xs,H7 cI=some (.lst xs))(h:nI H7 ck ct cH cI b m kv e):nI H8 ck ct cH cI b m kv e:=by
 obtain⟨a,h⟩:=h;refine⟨a,?_⟩
 rcases h with h | ⟨nk,t,U,Y,e1,e2,e3,e4,j,G,J,O⟩
 . exact .inl h
 obtain⟨x1,h1⟩:=h1;obtain⟨x2,h2⟩:=h2;exact .inr ⟨nk,t,U,Y,e1,k _ _ e2 (by intro ks z;cases z) (be e2 h1 (by intro z;cases z)) (be e2 h2 (by intro z;cases z)),k _ _ e3 (by intro ks z;cases z) j G,k _ _ e4 (by intro ks z;cases z) J O,j,G,J,O⟩
theorem gf.same(N:gf H H7 dc dh dO ct cH cI s)(j:ac H7 H8):gf H H8 dc dh dO ct cH cI s where
 old:=λb z e=>j _ _ (N.old b z e)
 nc:=N.nc
 nh:=N.nh
 no:=N.no
 n1:=N.n1
 n2:=N.n2
 d1:=N.d1
 d2:=N.d2
 d3:=N.d3
 d4:=N.d4
 ch:=N.ch.elim λU G=>G.elim λa b=>⟨U,j _ _ a,aF b λ_ _=>dC.same j⟩
 cs:=N.cs.elim λY J=>J.elim λa b=>⟨Y,j _ _ a,b⟩
 hct:=j _ _ N.hct
 c1:=j _ _ N.c1
 c2:=j _ _ N.c2
 ow:=N.ow.elim λko O=>O.elim λa b=>⟨ko,j _ _ a,aF b λ_ _=>nI.keep (λ_ _ e _ _ _=>j _ _ e) ⟨_,N.c1⟩ ⟨_,N.c2⟩⟩
 ck:=N.ck
theorem gf.inn(N:gf H H7 dc dh dO ct cH cI s){j:List (ao×V)}(J:H7 dc=some (.dK j)){n:Str}{ms:List Int}{m:Addr}(hm:H7 m=some (.tup (ms.map V.int))) :
 gf H (ah H7 dc (.dK (cQ j (.inr n) (.ref m)))) dc dh dO ct cH cI { s with ch:=bN s.ch n ms }:=by
 have up:∀c z,H7 c=some z->(∀ks,z≠.dK ks)->ah H7 dc (.dK (cQ j (.inr n) (.ref m))) c=some z:=λc z e hz=>aD e (be e J (hz _));obtain⟨a3,G,O⟩:=N.ch;rw[J]at G;cases G;obtain⟨kh,b1,b2⟩:=N.cs;obtain⟨ko,o1,o2⟩:=N.ow;exact {
  old:=λb z e=>aD (N.old b z e) (aK e N.nc)
  nc:=N.nc,nh:=N.nh,no:=N.no,n1:=N.n1,n2:=N.n2,d1:=N.d1,d2:=N.d2,d3:=N.d3,d4:=N.d4
  ch:=⟨_,aE,aF (iZ (F:=dC H7) (λkv f z=>z.1) (x:=n) (ls:=ms) (v:=.ref m) ⟨rfl,m,rfl,hm⟩ O) λkv f U=>U.elim λx1 Y=>Y.elim λx2 a0=>a0.elim λx3 x4=>⟨x1,x2,x3,up _ _ x4 (by intro ks z;cases z)⟩⟩
  cs:=⟨kh,aD b1 N.d1.symm,b2⟩
  hct:=up _ _ N.hct (by intro ks z;cases z)
  c1:=up _ _ N.c1 (by intro ks z;cases z)
  c2:=up _ _ N.c2 (by intro ks z;cases z)
  ow:=⟨ko,aD o1 N.d2.symm,aF o2 λ_ _=>nI.keep (λc z e hz _ _=>up c z e hz) ⟨_,N.c1⟩ ⟨_,N.c2⟩⟩
  ck:=N.ck }
theorem gf.cho(N:gf H H7 dc dh dO ct cH cI s){j:List (ao×V)}(J:H7 dh=some (.dK j)){n:Str} :
 gf H (ah H7 dh (.dK (cQ j (.inr c) (.str n)))) dc dh dO ct cH cI { s with cs:=bN s.cs c n }:=by
 have up:∀b z,H7 b=some z->(∀ks,z≠.dK ks)->ah H7 dh (.dK (cQ j (.inr c) (.str n))) b=some z:=λb z e hz=>aD e (be e J (hz _));obtain⟨kc,O,U⟩:=N.ch;obtain⟨a4,G,b2⟩:=N.cs;rw[J]at G;cases G;obtain⟨ko,o1,o2⟩:=N.ow;exact {
  old:=λb z e=>aD (N.old b z e) (aK e N.nh)
  nc:=N.nc,nh:=N.nh,no:=N.no,n1:=N.n1,n2:=N.n2,d1:=N.d1,d2:=N.d2,d3:=N.d3,d4:=N.d4
  ch:=⟨kc,aD O N.d1,aF U λkv f Y=>Y.elim λx1 a0=>a0.elim λx2 a3=>a3.elim λx3 x4=>⟨x1,x2,x3,up _ _ x4 (by intro ks z;cases z)⟩⟩
  cs:=⟨_,aE,iZ (F:=iD) (λkv f z=>z.1) (x:=c) (ls:=n) (v:=.str n) ⟨rfl,rfl⟩ b2⟩
  hct:=up _ _ N.hct (by intro ks z;cases z)
  c1:=up _ _ N.c1 (by intro ks z;cases z)
  c2:=up _ _ N.c2 (by intro ks z;cases z)
  ow:=⟨ko,aD o1 N.d3.symm,aF o2 λ_ _=>nI.keep (λc z e hz _ _=>up c z e hz) ⟨_,N.c1⟩ ⟨_,N.c2⟩⟩
  ck:=N.ck }
theorem Sf{ck:Option Str}{b m b' m':Ls}{U:List (ao×V)}{ow:Ow}(hc:∀p,ck=some p->p∈ow.map (·.1))(k:∀c z,H7 c=some z->c≠cH->c≠cI->H8 c=some z)(h1:∃xs,H7 cH=some (.lst xs))(h2:∃xs,H7 cI=some (.lst xs))
 (h:Paired (nI H7 ck ct cH cI b m) U ow):Paired (nI H8 ck ct cH cI b' m') U (iB ow ck (b',m'))/\(iB ow ck (b',m')).map (·.1)=ow.map (·.1):=by
 obtain⟨x1,h1⟩:=h1;obtain⟨x2,h2⟩:=h2;have Y:∀{t j G:Addr}{e:Ls×Ls},H7 t=some (.tup [.ref j,.ref G])/\H7 j=some (.lst (e.1.map V.str))/\H7 G=some (.lst (e.2.map V.str))/\j≠cH/\j≠cI/\G≠cH/\G≠cI->H8 t=some (.tup [.ref j,.ref G])/\H8 j=some (.lst (e.1.map V.str))/\H8 G=some (.lst (e.2.map V.str))/\j≠cH/\j≠cI/\G≠cH/\G≠cI:=by
  rintro t j G e ⟨e2,e3,e4,e5,e6,e7,e8⟩;exact⟨k _ _ e2 (be e2 h1 (by intro z;cases z)) (be e2 h2 (by intro z;cases z)),k _ _ e3 e5 e6,k _ _ e4 e7 e8,e5,e6,e7,e8⟩
 cases ck with
 | none=>
  refine⟨aF h λkv e z=>?_,rfl⟩;obtain⟨a,z⟩:=z
  rcases z with⟨z,_⟩ | ⟨J,t,j,G,e1,z⟩
  . cases z
  exact⟨a,.inr ⟨J,t,j,G,e1,Y z⟩⟩
 | some p=>
  have hp:=hc p rfl;have O:iB ow (some p) (b',m')=ow.map λf=>if f.1=p then(f.1,(b',m')) else f:=am (rn.mpr hp);refine⟨?_,?_⟩
  . rw[O];clear O hp hc
    induction h with
    | nil=>exact .nil
    | @cons kv e U ow r t ih=>
     refine .cons ?_ ih;obtain⟨a,z⟩:=r;dsimp only
     by_cases ep:e.1=p
     . rw[am ep]
       rcases z with⟨z1,z2,z3⟩ | ⟨J,_⟩
       . exact⟨a,.inl ⟨by rw[ep],z2,rfl⟩⟩
       exact absurd (by rw[ep]) J
     rw[ag ep]
     rcases z with⟨z1,z2,z3⟩ | ⟨J,t,j,G,e1,z⟩
     . exact absurd (hJ z1).symm ep
     exact⟨a,.inr ⟨J,t,j,G,e1,Y z⟩⟩
  rw[O,lR];refine MZ λf _=>?_;show(if f.1=p then(f.1,(b',m')) else f).1=f.1;split<;>rfl
theorem gf.les(N:gf H H7 dc dh dO ct cH cI s)(x:Str):gf H (ah H7 cH (.lst (s.b.map V.str++[.str x]))) dc dh dO ct cH cI { s with ow:=iB s.ow s.ck (s.b++[x],s.m),b:=s.b++[x] }:=by
 have up:∀c z,H7 c=some z->c≠cH->ah H7 cH (.lst (s.b.map V.str++[.str x])) c=some z:=λc z e hc=>aD e hc;have j:∀{c:Addr}{z:HO},H7 c=some z->(∀xs,z≠.lst xs)->c≠cH:=λe hz=>be e N.c1 (hz _);obtain⟨kc,G,Y⟩:=N.ch;obtain⟨kh,J,b2⟩:=N.cs;obtain⟨ko,O,o2⟩:=N.ow;obtain⟨p1,p2⟩:=Sf (H8:=ah H7 cH (.lst (s.b.map V.str++[.str x]))) (b':=s.b++[x]) (m':=s.m) N.ck (λc z e h1 _=>up c z e h1) ⟨_,N.c1⟩ ⟨_,N.c2⟩ o2;exact {
  old:=λb z e=>aD (N.old b z e) (aK e N.n1)
  nc:=N.nc,nh:=N.nh,no:=N.no,n1:=N.n1,n2:=N.n2,d1:=N.d1,d2:=N.d2,d3:=N.d3,d4:=N.d4
  ch:=⟨kc,up _ _ G (j G (by intro xs z;cases z)),aF Y λkv f a0=>a0.elim λx1 a3=>a3.elim λx2 a4=>a4.elim λx3 U=>⟨x1,x2,x3,up _ _ U (j U (by intro xs z;cases z))⟩⟩
  cs:=⟨kh,up _ _ J (j J (by intro xs z;cases z)),b2⟩
  hct:=up _ _ N.hct (j N.hct (by intro xs z;cases z))
  c1:=by rw[aE,tY]
  c2:=up _ _ N.c2 N.d4.symm
  ow:=⟨ko,up _ _ O (j O (by intro xs z;cases z)),p1⟩
  ck:=λp hp=>by
   show p∈(iB s.ow s.ck (s.b++[x],s.m)).map (·.1);rw[p2];exact N.ck p hp }
theorem gf.mor(N:gf H H7 dc dh dO ct cH cI s)(x:Str):gf H (ah H7 cI (.lst (s.m.map V.str++[.str x]))) dc dh dO ct cH cI { s with ow:=iB s.ow s.ck (s.b,s.m++[x]),m:=s.m++[x] }:=by
 have up:∀c z,H7 c=some z->c≠cI->ah H7 cI (.lst (s.m.map V.str++[.str x])) c=some z:=λc z e hc=>aD e hc;have j:∀{c:Addr}{z:HO},H7 c=some z->(∀xs,z≠.lst xs)->c≠cI:=λe hz=>be e N.c2 (hz _);obtain⟨kc,G,Y⟩:=N.ch;obtain⟨kh,J,b2⟩:=N.cs;obtain⟨ko,O,o2⟩:=N.ow;obtain⟨p1,p2⟩:=Sf (H8:=ah H7 cI (.lst (s.m.map V.str++[.str x]))) (b':=s.b) (m':=s.m++[x]) N.ck (λc z e _ h1=>up c z e h1) ⟨_,N.c1⟩ ⟨_,N.c2⟩ o2;exact {
  old:=λb z e=>aD (N.old b z e) (aK e N.n2)
  nc:=N.nc,nh:=N.nh,no:=N.no,n1:=N.n1,n2:=N.n2,d1:=N.d1,d2:=N.d2,d3:=N.d3,d4:=N.d4
  ch:=⟨kc,up _ _ G (j G (by intro xs z;cases z)),aF Y λkv f a3=>a3.elim λx1 a4=>a4.elim λx2 a0=>a0.elim λx3 U=>⟨x1,x2,x3,up _ _ U (j U (by intro xs z;cases z))⟩⟩
  cs:=⟨kh,up _ _ J (j J (by intro xs z;cases z)),b2⟩
  hct:=up _ _ N.hct (j N.hct (by intro xs z;cases z))
  c1:=up _ _ N.c1 N.d4
  c2:=by rw[aE,tY]
  ow:=⟨ko,up _ _ O (j O (by intro xs z;cases z)),p1⟩
  ck:=λp hp=>by
   show p∈(iB s.ow s.ck (s.b,s.m++[x])).map (·.1);rw[p2];exact N.ck p hp }
theorem ak1{β:Type}{G F:ao×V->Str×β->Prop}(hk:∀kv f,G kv f->kv.1=Sum.inr f.1){x:Str}{ls:β}{v:V}(hv:F (.inr x,v) (x,ls))(hg:∀kv f,G kv f->f.1≠x->F kv f){kvs:List (ao×V)}{tr:List (Str×β)}(h:Paired G kvs tr):Paired F (cQ kvs (.inr x) v) (bN tr x ls):=by
 have h':Paired (λkv f=>kv.1=Sum.inr f.1/\(f.1≠x->F kv f)) kvs tr:=aF h λkv f z=>⟨hk kv f z,hg kv f z⟩;have:=iZ (F:=λkv f=>kv.1=Sum.inr f.1/\(f.1≠x->F kv f)) (λkv f z=>z.1) (x:=x) (ls:=ls) (v:=v) ⟨rfl,λz=>absurd rfl z⟩ h';have e:(kvs.any λkv=>decide (kv.1=Sum.inr x))=(tr.any λf=>decide (f.1=x)):=by
  clear this
  induction h' with
  | nil=>rfl
  | cons r t J=>
   cases h with
   | cons _ t0=>
   rw[sN,sN,J t0,r.1]
   congr 1
   exact xN.mpr ⟨λz=>lK z,λz=>by rw[z]⟩
 clear this;unfold cQ bN;rw[e];split
 . rename_i O;clear O e h
   induction h' with
   | nil=>exact .nil
   | @cons kv f kvs tr r t J=>
    refine .cons ?_ J;have Y:=r.1;dsimp only
    by_cases j:f.1=x
    . have yV:kv.1=Sum.inr x:=by rw[Y,j]
      rw[am yV,am j,yV,j];exact hv
    rw[ag (λz=>j (lK (Y.symm.trans z))),ag j];exact r.2 j
 rename_i O;refine jq hv ?_;have U:x∉tr.map (·.1):=λz=>O (rn.mpr z);clear O e h
 induction h' with
 | nil=>exact .nil
 | @cons kv f kvs tr r t J=>
  rw[bS,bc,nZ]at U;exact .cons (r.2 λz=>U.1 z.symm) (J U.2)
theorem gf.own(N:gf H H7 dc dh dO ct cH cI s){Y O U:Addr}(j:ac H7 H8)(f1:H7 O=none)(f2:H7 U=none)(ne:O≠U)(g1:H8 O=some (.lst []))(g2:H8 U=some (.lst []))(g3:H8 Y=some (.tup [.ref O,.ref U])){ko:List (ao×V)}(ho:H8 dO=some (.dK ko))(p:Str) :
 gf H (ah H8 dO (.dK (cQ ko (.inr p) (.ref Y)))) dc dh dO Y O U { s with ow:=bN s.ow p ([],[]),ck:=some p,b:=[],m:=[] }:=by
 have fr:∀b,H7 b=none->H b=none:=λb e=>by
  cases hb:H b with
  | none=>rfl
  | some z=>rw[N.old b z hb]at e;cases e
 have up:∀c z,H8 c=some z->(∀ks,z≠.dK ks)->ah H8 dO (.dK (cQ ko (.inr p) (.ref Y))) c=some z:=λc z e hz=>aD e (be e ho (hz _));obtain⟨kc,a1,a2⟩:=N.ch;obtain⟨kh,b1,b2⟩:=N.cs;obtain⟨IN,o1,o2⟩:=N.ow;have Sh:=j _ _ o1;rw[ho]at Sh;cases Sh;exact {
  old:=λb z e=>aD (j _ _ (N.old b z e)) (aK e N.no)
  nc:=N.nc,nh:=N.nh,no:=N.no,n1:=fr _ f1,n2:=fr _ f2,d1:=N.d1,d2:=N.d2,d3:=N.d3,d4:=ne
  ch:=⟨kc,aD (j _ _ a1) N.d2,aF a2 λkv f a0=>a0.elim λx1 a3=>a3.elim λx2 a4=>a4.elim λx3 x4=>⟨x1,x2,x3,up _ _ (j _ _ x4) (by intro ks z;cases z)⟩⟩
  cs:=⟨kh,aD (j _ _ b1) N.d3,b2⟩
  hct:=up _ _ g3 (by intro ks z;cases z)
  c1:=up _ _ g1 (by intro ks z;cases z)
  c2:=up _ _ g2 (by intro ks z;cases z)
  ow:=⟨_,aE,ak1 (G:=nI H7 s.ck ct cH cI s.b s.m) (λkv f z=>z.1) ⟨rfl,.inl ⟨rfl,rfl,rfl⟩⟩ (λkv f z hf=>by
   obtain⟨z1,z⟩:=z;have J:∀{l:Addr}{xs:Lv},H7 l=some (.lst xs)->l≠O/\l≠U:=λe=>⟨aK e f1,aK e f2⟩
   rcases z with⟨z2,z3,z4⟩ | ⟨nk,t,l1,l2,e1,e2,e3,e4,e5,e6,e7,e8⟩
   . refine⟨z1,.inr ⟨λy=>hf (hJ y).symm,ct,cH,cI,z3,up _ _ (j _ _ N.hct) (by intro ks z;cases z),?_,?_,(J N.c1).1,(J N.c1).2,(J N.c2).1,(J N.c2).2⟩⟩
     . rw[z4];exact up _ _ (j _ _ N.c1) (by intro ks z;cases z)
     rw[z4];exact up _ _ (j _ _ N.c2) (by intro ks z;cases z)
   exact⟨z1,.inr ⟨λy=>hf (hJ y).symm,t,l1,l2,e1,up _ _ (j _ _ e2) (by intro ks z;cases z),up _ _ (j _ _ e3) (by intro ks z;cases z),up _ _ (j _ _ e4) (by intro ks z;cases z),(J e3).1,(J e3).2,(J e4).1,(J e4).2⟩⟩) o2⟩
  ck:=λp' ce=>by
   cases ce;exact GW (.inl rfl) }
theorem gf.own_at(N:gf H H7 dc dh dO ct cH cI s):mw H7 dO s.ow:=by
 obtain⟨J,Y,o2⟩:=N.ow;refine⟨J,Y,aF o2 λkv e z=>?_⟩;obtain⟨j,z⟩:=z
 rcases z with⟨z2,z3,G⟩ | ⟨nk,t,O,U,e1,e2,e3,e4,_⟩
 . refine⟨j,ct,cH,cI,z3,N.hct,?_,?_⟩
   . rw[G];exact N.c1
   rw[G];exact N.c2
 exact⟨j,t,O,U,e1,e2,e3,e4⟩
end
theorem ak5{s:Nt}(h:(s.ch.map (·.1)).Nodup/\(s.cs.map (·.1)).Nodup/\(s.ow.map (·.1)).Nodup)(j:Str):((s.step j).ch.map (·.1)).Nodup/\((s.step j).cs.map (·.1)).Nodup/\((s.step j).ow.map (·.1)).Nodup:=by
 have z:∀r,((iB s.ow s.ck r).map (·.1)).Nodup:=λr=>by
  unfold iB;split
  . exact h.2.2
  exact ki h.2.2
 unfold Nt.step;split
 . exact⟨h.1,h.2.1,z _⟩
 . exact⟨h.1,h.2.1,z _⟩
 . exact⟨ki h.1,h.2⟩
 . exact⟨h.1,ki h.2.1,h.2.2⟩
 exact⟨h.1,h.2.1,ki h.2.2⟩
theorem ak6(rows:Ls):((gK rows).ch.map (·.1)).Nodup/\((gK rows).cs.map (·.1)).Nodup/\((gK rows).ow.map (·.1)).Nodup:=by
 have:∀(rows:Ls) (s:Nt),((s.ch.map (·.1)).Nodup/\(s.cs.map (·.1)).Nodup/\(s.ow.map (·.1)).Nodup)->((rows.foldl Nt.step s).ch.map (·.1)).Nodup/\((rows.foldl Nt.step s).cs.map (·.1)).Nodup/\((rows.foldl Nt.step s).ow.map (·.1)).Nodup:=by
  intro rows
  induction rows with
  | nil=>exact λs h=>h
  | cons r rows j=>exact λs h=>j _ (ak5 h r)
 exact this rows {} ⟨kH,kH,kH⟩
theorem ak7(s:Nt)(j:Str):(s.step j).ch.length<=s.ch.length+1/\(s.step j).cs.length<=s.cs.length+1/\(s.step j).ow.length<=s.ow.length+1/\(s.step j).b.length<=s.b.length+1/\(s.step j).m.length<=s.m.length+1:=by
 have z:∀r,(iB s.ow s.ck r).length<=s.ow.length+1:=λr=>by
  unfold iB;split
  . omega
  exact jE _ _ _
 unfold Nt.step;split
 . exact⟨by dsimp only;omega,by dsimp only;omega,z _,by simp,by dsimp only;omega⟩
 . exact⟨by dsimp only;omega,by dsimp only;omega,z _,by dsimp only;omega,by simp⟩
 . exact⟨jE _ _ _,by dsimp only;omega,by dsimp only;omega,by dsimp only;omega,by dsimp only;omega⟩
 . exact⟨by dsimp only;omega,jE _ _ _,by dsimp only;omega,by dsimp only;omega,by dsimp only;omega⟩
 exact⟨by dsimp only;omega,by dsimp only;omega,jE _ _ _,by simp,by simp⟩
theorem Si(rows:Ls):(gK rows).ch.length<=rows.length/\(gK rows).cs.length<=rows.length/\(gK rows).ow.length<=rows.length/\(gK rows).b.length<=rows.length/\(gK rows).m.length<=rows.length:=by
 have:∀(rows:Ls) (s:Nt),(rows.foldl Nt.step s).ch.length<=s.ch.length+rows.length/\(rows.foldl Nt.step s).cs.length<=s.cs.length+rows.length/\(rows.foldl Nt.step s).ow.length<=s.ow.length+rows.length/\(rows.foldl Nt.step s).b.length<=s.b.length+rows.length/\(rows.foldl Nt.step s).m.length<=s.m.length+rows.length:=by
  intro rows
  induction rows with
  | nil=>exact λs=>⟨aG _,aG _,aG _,aG _,aG _⟩
  | cons r rows j=>
   intro s;obtain⟨z,G,J,O,U⟩:=j (s.step r);obtain⟨Y,b2,b3,b4,b5⟩:=ak7 s r;rw[lQ,bU];exact⟨by omega,by omega,by omega,by omega,by omega⟩
 have h:=this rows {};simp only[kG,EE]at h;exact h
theorem ak8(rows:Ls)(r:Str):gK (rows++[r])=(gK rows).step r:=by
 unfold gK;rw[qr];rfl
theorem IT{x y:Str}{b:Bool}(h:decide (V.str x=V.str y)=b):decide (x=y)=b:=by
 rw[<-h];exact xN.mpr ⟨λz=>by rw[z],λz=>V.str.inj z⟩
inductive Sj:Sp where
 | mk {H:Hp}{Q:VK}{E:XK}{x:Str} (_:x.length<=70000) (_:uv x=true) (_:∀p H',H p=none->ac H H'->H' p=some (.tup ((rB x).map V.int))->Q (.ref p) H'):Sj [.str x] H Q E
theorem ak9:aN [ayL] [ayL] (av HS):=aU
theorem ala(G:Pg K mg base Pt):aA P w K mg base aJ 1 G.MkN.f G.MkN.fd [ayL] Sj:=by
 refine G.MkN.u.okL ak9 ?_;intro au A outer s H vs Q E hr h xX dX;obtain @⟨_,_,_,x,hx,hb,q⟩:=h;obtain⟨m1,m2⟩:=akJ hb;refine⟨_,(al (aQ (eJ abO (by rfl) G.B.tuple PyProof.Rows.boot_tuple (aq (fZ ["part"] [] [] dJ rfl (cL (dH lU M0 M3 B8 (pv 0) (aq bO))) (λ_ _ _ _=>(bf (i:=0) (show List.Nodup (["part"]:Ls) by decide +kernel) rfl (Or.inl rfl))) (λ_ _ _ _=>fY) (λ_ _ _ _=>(eJ ah0 (by rfl) G.B.int awV (aq (pv 0))))))))),?_⟩;have a0:=split_le x lF;refine⟨rfl,x,lF,rfl,rfl,by decide +kernel,dL (by omega),λl H1 n1 s1 e1=>⟨⟨_,aa.of e1⟩,?_⟩⟩;refine vT (σ0:=[none]) (aa.of e1) (λZ=>∃v,Z=[v]) ((rB x).map V.int) (by unfold rB;rw[ak,ak,ak]) (dL (by rw[ak];omega)) ⟨_,rfl⟩ ?_ ?_
 . intro i z y Z H2 k hz J hQ hs hk;obtain⟨v,rfl⟩:=hQ;obtain⟨p,j,rfl⟩:=ja hz;unfold rB at J;rw[lR]at J;obtain⟨p',O,rfl⟩:=ja J;rw[j]at O;cases O;obtain⟨Y,g2,g3,_⟩:=akI (m2 p (cX j));exact⟨p,_,rfl,aje Y g2 (by omega),by omega,hk _ _ ⟨_,rfl⟩ (ac.refl _)⟩
 intro D H2 hD hd hs;refine⟨D,_,rfl,.inl ⟨aa.of hd,λp j=>?_⟩⟩;have U:=s1.trans hs;exact q p _ (U.free j) (U.trans (fX j)) aE
theorem zv(H:Hp):msk [] H=H:=by
 funext b
 unfold msk;exact ag (λz=>nomatch z)
inductive IU (T:Addr):Sp where
 | mk {H:Hp}{Q:VK}{E:XK}{t:Str} (_:t.length<=60000) (_:(rowsOf t).length<=500) (_:(∀r∈rowsOf t,jF r=true)) (_:∀v H',ac H H'->(∀L,gJ H L->iE T (msk L H') v (gK (rowsOf t)).ch (gK (rowsOf t)).cs (gK (rowsOf t)).ow)->Q v H'):IU T [.str t] H Q E
theorem rH:aN [ayL,ayH,ayN,ayW,ay2,"row","words"] [ayL] (av HR):=aU
theorem alb{t r:Str}(h:r∈rowsOf t):r.length<=t.length:=by
 unfold rowsOf at h;split at h
 . cases h
 exact II h
theorem Sk(zZ:Pg K mg base Pt):aA P w K mg base aJ 4 zZ.Not.f zZ.Not.fd [ayL] (IU zZ.T):=by
 refine zZ.Not.u.okL rH ?_;intro au A outer s H vs Q E hr h xX dX;obtain @⟨_,_,_,t,ht,hn,hg,q⟩:=h;have hu:=hr.units;have d5:=hr.mono (j:=1) (by decide);refine⟨_,(ai (aH (i:=1) rH.nd rfl (Or.inl rfl) mj) (ai (aH (i:=2) rH.nd rfl (Or.inl rfl) mj) (ai (aH (i:=3) rH.nd rfl (Or.inl rfl) mj) (ai (aH (i:=4) rH.nd rfl (Or.inl rfl) (eX (aI (dq eI) (dq eI))))
  (ai (eV eG rfl (cL (aB (ajV zZ) d5 (by rfl) (aq (pv 0)))) (bf (i:=5) rH.nd rfl (Or.inl rfl))
   (ai (aH (i:=6) rH.nd rfl (Or.inl rfl) (dH lU M0 M3 B8 (pv 5) (aq bO))) (al (bV (iM (dH lU awW awX QT (pv 5) (aq bO))) (al (bT (dH jf xR xS qK (bA fj (pv 4) aj (λ_ _=>rfl)) (aq (mT BA (pv 5) (kU aj) qJ))))) (al (bV (iM (dH lU awW awX QT (pv 5) (aq bO))) (al (bT (dH jf xR xS qK (bA fj (pv 4) aj (λ_ _=>rfl)) (aq (mT BA (pv 5) (kU aj) qJ))))) (al (bV (bW fC (bA eR (pv 6) aj (λ_ _=>rfl)) bO (bC _)) (al (iR hu (pv 1) (bA eR (pv 6) aj (λ_ _=>rfl)) (aB (ala zZ) d5 (by rfl) (aq (bA eR (pv 6) aj (λ_ _=>rfl)))) rfl)) (al (bV (bW fC (bA eR (pv 6) aj (λ_ _=>rfl)) bO (bC _)) (al (iR hu (pv 2) (bA eR (pv 6) aj (λ_ _=>rfl)) (bA eR (pv 6) aj (λ_ _=>rfl)) rfl)) (ai (aH (i:=4) rH.nd rfl (Or.inl rfl) (eX (aI (dq eI) (dq eI)))) (al (iR hu (pv 3) (bA eR (pv 6) aj (λ_ _=>rfl)) (pv 4) rfl)))))))))))))
  (al (aQ (tJ zZ.MTIn (up (CJ zZ)) hr (by rfl) zZ.UT.mgC zZ.TIn.b .nil cG (dv (pv 1) (pv 2) (pv 3)))))))))),?_⟩
 refine yB ?_;intro dD sS IV CO nG gu dZ;refine λdc H1 n1 s1 e1 dh H2 n2 s2 e2 dO H3 n3 s3 e3=>?_;refine⟨(by show 0<=sizeLine;exact dF _),λG H4 n4 s4 e4=>⟨(by show 0<=sizeLine;exact dF _),λJ H5 n5 s5 e5=>⟨An,λct H6 n6 s6 e6=>?_⟩⟩⟩;have a2:=s1.trans (s2.trans (s3.trans (s4.trans s5)));have N0:gf H H6 dc dh dO ct G J {}:={
  old:=λb z e=>s6 _ _ (a2 _ _ e)
  nc:=n1
  nh:=s1.free n2
  no:=(s1.trans s2).free n3
  n1:=(s1.trans (s2.trans s3)).free n4
  n2:=(s1.trans (s2.trans (s3.trans s4))).free n5
  d1:=aK e1 n2
  d2:=aK (s2 _ _ e1) n3
  d3:=aK e2 n3
  d4:=aK e4 n5
  ch:=⟨[],s6 _ _ (s5 _ _ (s4 _ _ (s3 _ _ (s2 _ _ e1)))),.nil⟩
  cs:=⟨[],s6 _ _ (s5 _ _ (s4 _ _ (s3 _ _ e2))),.nil⟩
  hct:=e6
  c1:=s6 _ _ (s5 _ _ e4)
  c2:=s6 _ _ e5
  ow:=⟨[],s6 _ _ (s5 _ _ (s4 _ _ e3)),.nil⟩
  ck:=λp hp=>nomatch hp }
 refine⟨by omega,λl H7 n7 s7 e7=>⟨⟨_,aa.of e7⟩,?_⟩⟩;refine iN (xs:=(rowsOf t).map V.str) (λi Z H8=>∃ct G J u v,Z=[some (.str t),some (.ref dc),some (.ref dh),some (.ref dO),some (.ref ct),u,v]/\H8 l=some (.lst ((rowsOf t).map V.str))/\l≠G/\l≠J/\gf H H8 dc dh dO ct G J (gK ((rowsOf t).take i)))
  ⟨ct,G,J,none,none,rfl,e7,(aK N0.c1 n7).symm,(aK N0.c2 n7).symm,N0.same s7⟩ ?_ ?_ ?_
 . intro i Z H8 hi hQ;obtain⟨ct,G,J,u,v,rfl,h8,_⟩:=hQ;exact aa.of h8
 . intro i z Z H8 hz hQ;refine bu ?_;intro tT;obtain⟨ct,G,J,u,v,rfl,h8,m1,m2,N⟩:=hQ;obtain⟨r,o5,rfl⟩:=ja hz;have Sl:=cX o5;have a1:=hg r Sl;have a3:=alb Sl;have es:gK ((rowsOf t).take (i+1))=(gK ((rowsOf t).take i)).step r:=by rw[take_snoc o5,ak8]
   rw[show dc=dc from rfl]at N;have Sm:=Si ((rowsOf t).take i);rw[eF]at Sm;obtain⟨k1,k2,k3,k4,k5⟩:=Sm;generalize gK ((rowsOf t).take i)=s0 at N es k1 k2 k3 k4 k5;have sl:=Txt.slice_le r (some 1) none;refine⟨rfl,r,spS,rfl,rfl,by decide +kernel,dL (by omega),λwl H9 n9 s9 U=>?_⟩;have O:=N.same s9;have h9:=s9 _ _ h8;have z0:cu [V.ref G,V.ref J] 0=some (V.ref G):=rfl;have z1:cu [V.ref G,V.ref J] 1=some (V.ref J):=rfl;refine⟨rfl,r,fk,rfl,rfl,⟨?_⟩⟩;refine bj (λh1=>?_) (λh1=>?_)
   . refine⟨aZ.of O.hct,z0,.inl ⟨rfl,_,aa.of O.c1⟩,dL (by omega),O.c1,bP (by rw[ak];omega),?_⟩;refine⟨ct,G,J,_,_,rfl,aD h9 m1,m1,m2,?_⟩;have e0:s0.step r={ s0 with ow:=iB s0.ow s0.ck (s0.b++[Txt.slice r (some 1) none],s0.m),b:=s0.b++[Txt.slice r (some 1) none] }:=by
      unfold Nt.step ie;rw[am h1]
     rw[es,e0];exact O.les _
   refine⟨rfl,r,fm,rfl,rfl,⟨?_⟩⟩;refine bj (λh2=>?_) (λh2=>?_)
   . refine⟨aZ.of O.hct,z1,.inl ⟨rfl,_,aa.of O.c2⟩,dL (by omega),O.c2,bP (by rw[ak];omega),?_⟩;refine⟨ct,G,J,_,_,rfl,aD h9 m2,m1,m2,?_⟩;have e0:s0.step r={ s0 with ow:=iB s0.ow s0.ck (s0.b,s0.m++[Txt.slice r (some 1) none]),m:=s0.m++[Txt.slice r (some 1) none] }:=by
      unfold Nt.step ie;rw[ag h1,am h2]
     rw[es,e0];exact O.mor _
   have Y:ie r=if (Txt.split r spS).getD 0 Str.empty=gs then .inn ((Txt.split r spS).getD 1 Str.empty) ((Txt.split r spS).getD 2 Str.empty) else
    if (Txt.split r spS).getD 0 Str.empty=f9 then .cho ((Txt.split r spS).getD 1 Str.empty) ((Txt.split r spS).getD 2 Str.empty) else .own ((Txt.split r spS).getD 1 Str.empty):=by
    unfold ie;rw[ag h1,ag h2]
   have pl:∀p∈Txt.split r spS,p.length<=r.length:=λp hp=>II hp
   rcases akK a1 (ql.mpr h1) (ql.mpr h2) with⟨p,hw⟩ | ⟨n,x,hw,B1⟩ | ⟨c,n,hw⟩
   . rw[hw]at U Y pl;have y0:cu ([dY,p].map V.str) 0=some (V.str dY):=rfl;have y1:cu ([dY,p].map V.str) 1=some (V.str p):=rfl;have Y:ie r=.own p:=Y.trans ((ag G8).trans (ag G9));refine⟨aa.of U,y0,rfl,⟨?_⟩⟩;refine bj (λh3=>absurd (cY (IT h3)) G8) (λh3=>?_);refine⟨aa.of U,y0,rfl,⟨?_⟩⟩;refine bj (λh4=>absurd (cY (IT h4)) G9) (λh4=>?_);refine⟨(by show 0<=sizeLine;exact dF _),λp1 Ha na sa ea=>⟨(by show 0<=sizeLine;exact dF _),λp2 Hb nb sb eb=>⟨An,λp3 Hc a4 sc ec=>?_⟩⟩⟩;have zw:=sa.trans (sb.trans sc);obtain⟨ko,o1,o2⟩:=O.ow;have lo:=bv o2;refine⟨aa.of (zw _ _ U),y1,fV.k (k:=.inr p) (zw _ _ o1) (bP (by omega)),?_⟩;have d9:∃ks,H9 dO=some (.dK ks):=⟨_,o1⟩;have hl:l≠dO:=be h9 o1 (by intro z;cases z);refine⟨p3,p1,p2,_,_,rfl,aD (zw _ _ h9) hl,aK h9 na,aK (sa _ _ h9) nb,?_⟩;have e0:s0.step r={ s0 with ow:=bN s0.ow p ([],[]),ck:=some p,b:=[],m:=[] }:=by
      unfold Nt.step;rw[Y]
     rw[es,e0];exact O.own zw na (sa.free nb) (aK ea nb) (sc _ _ (sb _ _ ea)) (sc _ _ eb) ec (zw _ _ o1) p
   . rw[hw]at U Y pl;have y0:cu ([gs,n,x].map V.str) 0=some (V.str gs):=rfl;have y1:cu ([gs,n,x].map V.str) 1=some (V.str n):=rfl;have y2:cu ([gs,n,x].map V.str) 2=some (V.str x):=rfl;have Y:ie r=.inn n x:=Y.trans (am rfl);have lx:=pl x (bY _ (bY _ bM));refine⟨aa.of U,y0,rfl,⟨?_⟩⟩;refine bj (λh3=>?_) (λh3=>absurd (bE rfl) h3);refine⟨aa.of U,y2,by omega,B1,λm Ha na sa ea=>?_⟩;have Na:=O.same sa;obtain⟨kc,c1,c2⟩:=Na.ch;have lc:=bv c2;refine⟨aa.of (sa _ _ U),y1,fV.k (k:=.inr n) c1 (bP (by omega)),?_⟩;refine⟨ct,G,J,_,_,rfl,aD (sa _ _ h9) (be (sa _ _ h9) c1 (by intro z;cases z)),m1,m2,?_⟩;have e0:s0.step r={ s0 with ch:=bN s0.ch n (rB x) }:=by
      unfold Nt.step;rw[Y]
     rw[es,e0];exact Na.inn c1 ea
   rw[hw]at U Y pl;have y0:cu ([f9,c,n].map V.str) 0=some (V.str f9):=rfl;have y1:cu ([f9,c,n].map V.str) 1=some (V.str c):=rfl;have y2:cu ([f9,c,n].map V.str) 2=some (V.str n):=rfl;have Y:ie r=.cho c n:=Y.trans ((ag Ct).trans (am rfl));refine⟨aa.of U,y0,rfl,⟨?_⟩⟩;refine bj (λh3=>absurd (cY (IT h3)) Ct) (λh3=>?_);refine⟨aa.of U,y0,rfl,⟨?_⟩⟩;refine bj (λh4=>?_) (λh4=>absurd (bE rfl) h4);obtain⟨kh,c1,c2⟩:=O.cs;have lh:=bv c2;refine⟨aa.of U,y2,aa.of U,y1,fV.k (k:=.inr c) c1 (bP (by omega)),?_⟩;refine⟨ct,G,J,_,_,rfl,aD h9 (be h9 c1 (by intro z;cases z)),m1,m2,?_⟩;have e0:s0.step r={ s0 with cs:=bN s0.cs c n }:=by
    unfold Nt.step;rw[Y]
   rw[es,e0];exact O.cho c1
 intro Z H8 hQ;refine bu ?_;intro tT;obtain⟨ct,G,J,u,v,rfl,h8,m1,m2,N⟩:=hQ;rw[ak,fb]at N;obtain⟨kc,c1,c2⟩:=N.ch;obtain⟨kh,b1,b2⟩:=N.cs;have nd:=ak6 (rowsOf t);have nl:=Si (rowsOf t);refine⟨⟨⟨?_⟩⟩⟩;refine CK (T:=zZ.T) ⟨kc,c1,c2⟩ ⟨kh,b1,b2⟩ N.own_at nd.2.2 (by omega) λx H' nx sx hx=>?_;exact q (.ref x) H' (λb z e=>sx _ _ (N.old b z e)) λL hL=>hx L λb hb=>(hL b hb).elim λo a0=>a0.elim λe n=>⟨o,N.old b o e,n⟩
end
section
variable {X:Cx}{H H':Hp}{xs:Lv}
structure IW(fl:List (Str×V))(nm mk rk:V)(pf pn ps po:Addr):Prop where
 name:fl.lookup (ayE:Str)=some nm
 make:fl.lookup (ayK:Str)=some mk
 rank:fl.lookup (ayS:Str)=some rk
 files:fl.lookup (ayM:Str)=some (.ref pf)
 needs:fl.lookup (ayY:Str)=some (.ref pn)
 shuts:fl.lookup (ay9:Str)=some (.ref ps)
 offers:fl.lookup (azf:Str)=some (.ref po)
def uF(nm mk rk:V)(j pn ps z:Addr):List (Str×V):=ay azf (.ref z) (ay ay9 (.ref ps) (ay ayY (.ref pn) (ay ayM (.ref j) (ay ayS rk (ay ayK mk (ay ayE nm []))))))
theorem alf(nm mk rk:V)(j pn ps z:Addr):IW (uF nm mk rk j pn ps z) nm mk rk j pn ps z:=by
 unfold uF;constructor
 . rw[cO,ag (by decide +kernel),cO,ag (by decide +kernel),cO,ag (by decide +kernel),cO,ag (by decide +kernel),cO,ag (by decide +kernel),cO,ag (by decide +kernel),cO,am rfl]
 . rw[cO,ag (by decide +kernel),cO,ag (by decide +kernel),cO,ag (by decide +kernel),cO,ag (by decide +kernel),cO,ag (by decide +kernel),cO,am rfl]
 . rw[cO,ag (by decide +kernel),cO,ag (by decide +kernel),cO,ag (by decide +kernel),cO,ag (by decide +kernel),cO,am rfl]
 . rw[cO,ag (by decide +kernel),cO,ag (by decide +kernel),cO,ag (by decide +kernel),cO,am rfl]
 . rw[cO,ag (by decide +kernel),cO,ag (by decide +kernel),cO,am rfl]
 . rw[cO,ag (by decide +kernel),cO,am rfl]
 rw[cO,am rfl]
structure Sn(K:Fg)(H:Hp)(xs:Lv)(fs:List (V×Lv)):Prop where
 len:xs.length=fs.length
 item:∀(i:Nat) (p:V) (ls:Lv),fs[i]?=some (p,ls)->∃t l,xs[i]?=some (.ref t)/\aZ K H t [p,.ref l]/\aa K H l ls
structure CP(H H':Hp)(D:Addr)(xs:Lv)(fs:List (V×Lv))(k:Nat):Prop where
 len:xs.length=k
 item:∀(i:Nat) (p:V) (ls:Lv),i<k->fs[i]?=some (p,ls)->∃t l,xs[i]?=some (.ref t)/\H t=none/\H l=none/\t≠D/\l≠D/\H' t=some (.tup [p,.ref l])/\H' l=some (.lst ls)
def zx:Expr:=match (cF ux).getD 3 (.Pass ⟨0,0,0,0⟩) with
 | .Assign _ e _=>e
 | _=>.Constant .none 0 ⟨0,0,0,0⟩
def uG:Scope:=match zx with
 | .ListComp _ _ sc _=>sc
 | _=>{ kind:=.function,names:=[],isGenerator:=false,isCoroutine:=false }
def So:Expr:=match zx with
 | .ListComp e _ _ _=>e
 | _=>.Constant .none 0 ⟨0,0,0,0⟩
def IX:Expr:=match zx with
 | .ListComp _ [⟨t,_,_,_⟩] _ _=>t
 | _=>.Constant .none 0 ⟨0,0,0,0⟩
def Sq:Expr:=match zx with
 | .ListComp _ [⟨_,t,_,_⟩] _ _=>t
 | _=>.Constant .none 0 ⟨0,0,0,0⟩
theorem IY(X:Cx):kZ X [ayG,ayO] [] [] uG:=dJ
def Sr(K:Fg):Lv->Hp->VK->Prop:=λxs H Q=>∃p ys,xs=[.ref p]/\(aa K H p ys\/aZ K H p ys)/\∀l,H l=none->Q (.ref l) (ah H l (.lst ys))
theorem alg(z:X.calm=true)(s₀:Shared)(H₀:Hp)(j:Addr)(ex:List Addr):PG (dU X (([ayG,ayO]:Ls)++([]:Ls)) uG s₀ H₀ j ex) IX (tz X.K 2 (x5 (jX 0) (x5 (jX 1) EX))):=
 ou (X:=dU X (([ayG,ayO]:Ls)++([]:Ls)) uG s₀ H₀ j ex) z (gE (bf (i:=0) (IY X).nd rfl (Or.inl rfl)) (gE (bf (i:=1) (IY X).nd rfl (Or.inl rfl)) mR))
theorem alh(z:X.mg "list"=none)(s₀:Shared)(H₀:Hp)(j:Addr)(ex:List Addr):PE (dU X (([ayG,ayO]:Ls)++([]:Ls)) uG s₀ H₀ j ex) So (Fl (fT (qB 0) (fT (Bq (Sr X.K) (fT (qB 1) fg)) fg))):=
 N5 (X:=dU X (([ayG,ayO]:Ls)++([]:Ls)) uG s₀ H₀ j ex) (aI (pv 0) (eJ (yj (X:=dU X (([ayG,ayO]:Ls)++([]:Ls)) uG s₀ H₀ j ex)) (by rfl) z jT (aq (pv 1))))
theorem ali{z:TI}(j:X.calm=true)(G:X.mg "list"=none)(hi:PI X IX Sq z):PE X zx (FP z 2 [] (tz X.K 2 (x5 (jX 0) (x5 (jX 1) EX))) qR (Fl (fT (qB 0) (fT (Bq (Sr X.K) (fT (qB 1) fg)) fg)))):=
 fZ [ayG,ayO] [] [] (elt:=So) (tg:=IX) (iter:=Sq) (ifs:=[]) (sc:=uG) (IY X) j hi (alg j) (λ_ _ _ _=>fY) (alh G)
theorem alj:aN [ayy,ayE,ayK,ayS,ayM,ayY,ay9,azf] [ayy,ayE,ayK,ayS,ayM,ayY,ay9,azf] (av ux):=aU
inductive CQ (K:Fg) (C:Addr):Sp where
 | mk {H:Hp}{Q:VK}{E:XK}{x dx G O Y U:Addr}{nm mk rk:V}{xs ns ss os:Lv}{fs:List (V×Lv)} (_:H x=some (.ins C dx [])) (_:aa K H G xs) (_:Sn K H xs fs) (_:aa K H O ns) (_:aa K H Y ss) (_:aa K H U os) (_:fs.length<=1000) (_:∀(fl:List (Str×V)) (j pn ps z:Addr) (J:Lv) (H':Hp),IW fl nm mk rk j pn ps z->H' x=some (.ins C dx fl)->H j=none->H pn=none->H ps=none->H z=none ->
  H' j=some (.lst J)->CP H H' j J fs fs.length->H' pn=some (.lst ns)->H' ps=some (.lst ss)->H' z=some (.lst os)->(∀b o,H b=some o->b≠x->H' b=some o)->Q .non H'):CQ K C [.ref x,nm,mk,rk,.ref G,.ref O,.ref Y,.ref U] H Q E
theorem alk{Hk j:Hp}{fs:List (V×Lv)}{k:Nat}(fn:CP H Hk D xs fs k)(h:∀b o,Hk b=some o->b≠D->H b=none->j b=some o):CP H j D xs fs k:=by
 refine⟨fn.len,λi p ls hi O=>?_⟩;obtain⟨t,l,e1,e2,e3,e4,z,G,J⟩:=fn.item i p ls hi O;exact⟨t,l,e1,e2,e3,e4,z,h t _ G e4 e2,h l _ J z e3⟩
theorem alm(G:Pg K mg base Pt):aA P w K mg base aJ 1 G.PIn.f G.PIn.fd [ayy,ayE,ayK,ayS,ayM,ayY,ay9,azf] (CQ K G.C):=by
 refine G.PIn.u.okL alj ?_;intro au A outer s H vs Q E hr h xX dX;obtain @⟨_,_,_,x,dx,fa,na,sa,oa,nm,mk,rk,xs,ns,ss,os,fs,hx,jI,lG,a2,a3,ER,CU,k⟩:=h;refine⟨_,ai (iP (pv 0) (pv 1) rfl) (ai (iP (pv 0) (pv 2) rfl) (ai (iP (pv 0) (pv 3) rfl)
  (ai (iP (pv 0) (ali rfl G.B.list (cL (pv 4))) rfl)
  (ai (iP (pv 0) (eJ yj (by rfl) G.B.list jT (aq (pv 5))) rfl)
  (ai (iP (pv 0) (eJ yj (by rfl) G.B.list jT (aq (pv 6))) rfl)
  (al (iP (pv 0) (eJ yj (by rfl) G.B.list jT (aq (pv 7))) rfl))))))),?_⟩
 refine af9 ?_;intro dD sS a7 IV CO nG gu dZ;have S0:eT G.C dx x H H []:=⟨λ_ _ e _=>e,λ_ e=>e,hx⟩;refine⟨S0.ob,G.TC.cl,G.TC.nN,few o9 (by decide),?_⟩;have S1:eT G.C dx x H _ (ay ayE nm []):=S0.put;refine⟨S1.ob,G.TC.cl,G.TC.nM,few (lp o9) (by decide),?_⟩;have S2:eT G.C dx x H _ (ay ayK mk (ay ayE nm [])):=S1.put;refine⟨S2.ob,G.TC.cl,G.TC.nR,few (lp (lp o9)) (by decide),?_⟩;have O:eT G.C dx x H _ (ay ayS rk (ay ayK mk (ay ayE nm []))):=S2.put;generalize ah (ah (ah H x (.ins G.C dx (ay ayE nm []))) x (.ins G.C dx (ay ayK mk (ay ayE nm [])))) x (.ins G.C dx (ay ayS rk (ay ayK mk (ay ayE nm []))))=H1 at O ⊢;refine⟨⟨xs,O.sqL hx jI⟩,λD hD=>?_⟩;refine⟨λi m Z H2=>m=xs.length - i/\i<=xs.length/\∃(u v:Option V) (ys:Lv),Z=[u,v]/\H2 D=some (.lst ys)/\ac H1 H2/\CP H H2 D ys fs i,⟨xs.length,by simp,dF _,none,none,[],rfl,aE,fX hD,rfl,λi p ls hi=>absurd hi (MP _)⟩,?_⟩;intro i m Z H2 fJ;refine bu ?_;intro tT;obtain⟨rfl,hi,u,v,ys,rfl,zy,Y,fn⟩:=fJ;have IZ:aa K H2 fa xs:=Y.seq (O.sqL hx jI)
 by_cases aO:i<xs.length
 . refine .inr ⟨⟨xs,xs[i],IZ,by simp[aO]⟩,λz H3 y=>?_⟩;obtain⟨e,y⟩:=y;subst e;have ez:=y xs IZ;have a1:i<fs.length:=by rw[<-lG.len];exact aO
   obtain⟨⟨p,ls⟩,dP⟩:∃q,fs[i]?=some q:=⟨fs[i],by simp[a1]⟩;obtain⟨t,l,e1,e2,e3⟩:=lG.item i p ls dP;rw[ez]at e1;cases e1;have t2:=adp Y (O.sqT hx e2);have l2:=Y.seq (O.sqL hx e3);refine⟨t2,rfl,rfl,?_⟩;refine⟨l,_,rfl,.inl l2,λl' qw=>⟨An,λt' I8=>?_⟩⟩;obtain⟨n1,n2⟩:=kX I8;have dl:D≠l':=aK zy qw;have dt:D≠t':=aK zy n2;refine⟨ys,aD (aD zy dl) dt,bP (by rw[fn.len];omega),xs.length - (i+1),by omega,rfl,aO,_,_,ys++[.ref t'],rfl,aE,?_,⟨by rw[bI,fn.len];rfl,λj p' xU hj ce=>?_⟩⟩
   . exact dQ (dQ (dQ Y (Y.free qw)) (Y.free n2)) hD
   by_cases CV:j=i
   . subst CV;rw[dP]at ce;cases ce;refine⟨t',l',by rw[Ez (by rw[fn.len];omega),fn.len];simp,O.free _ (Y.free n2),O.free _ (Y.free qw),dt.symm,dl.symm,aD aE dt.symm,aD (aD aE n1.symm) dl.symm⟩
   have ri:j<i:=by omega
   obtain⟨t0,l0,g1,g2,g3,g4,g5,g6,g7⟩:=fn.item j p' xU ri ce;exact⟨t0,l0,by rw[X4 (by rw[fn.len];exact ri)];exact g1,g2,g3,g4,g5,aD (aD (aD g6 (aK g6 qw)) (aK g6 n2)) g4,aD (aD (aD g7 (aK g7 qw)) (aK g7 n2)) g5⟩
 have ei:i=xs.length:=by omega
 subst ei;refine .inl ⟨⟨xs,IZ,aG _⟩,?_⟩;have S4:eT G.C dx x H H2 (ay ayS rk (ay ayK mk (ay ayE nm []))):=⟨λb o e J=>Y b o (O.same b o e J),λb e=>O.free b (Y.free e),Y _ _ O.ob⟩;have CW:D≠x:=be zy S4.ob (by intro z;cases z);have a0:H D=none:=O.free _ hD;refine⟨S4.ob,G.TC.cl,G.TC.nF,few (lp (lp (lp o9))) (by decide),?_⟩;have S5:eT G.C dx x H _ (ay ayM (.ref D) (ay ayS rk (ay ayK mk (ay ayE nm [])))):=S4.put;refine⟨na,_,rfl,.inl (S5.sqL hx a2),λpn wI=>?_⟩;have S6:=S5.lay (o:=.lst ns) wI;have I9:pn≠x:=(aK S5.ob wI).symm;refine⟨S6.ob,G.TC.cl,G.TC.nE,few (lp (lp (lp (lp o9)))) (by decide),?_⟩;have S7:eT G.C dx x H _ (ay ayY (.ref pn) (ay ayM (.ref D) (ay ayS rk (ay ayK mk (ay ayE nm []))))):=S6.put;refine⟨sa,_,rfl,.inl (S7.sqL hx a3),λps bJ=>?_⟩;have S8:=S7.lay (o:=.lst ss) bJ;have Ss:ps≠x:=(aK S7.ob bJ).symm;refine⟨S8.ob,G.TC.cl,G.TC.nS,few (lp (lp (lp (lp (lp o9))))) (by decide),?_⟩;have S9:eT G.C dx x H _ (ay ay9 (.ref ps) (ay ayY (.ref pn) (ay ayM (.ref D) (ay ayS rk (ay ayK mk (ay ayE nm [])))))):=S8.put;refine⟨oa,_,rfl,.inl (S9.sqL hx ER),λU mr=>?_⟩;have Su:=S9.lay (o:=.lst os) mr;have a6:U≠x:=(aK S9.ob mr).symm;refine⟨Su.ob,G.TC.cl,G.TC.nO,few (lp (lp (lp (lp (lp (lp o9)))))) (by decide),?_⟩;have Sv:eT G.C dx x H _ (uF nm mk rk D pn ps U):=Su.put;have k5:∀b o,H2 b=some o->b≠x->(ah H2 x (.ins G.C dx (ay ayM (.ref D) (ay ayS rk (ay ayK mk (ay ayE nm [])))))) b=some o:=λb o e J=>aD e J;have kp:=λb o (e:H2 b=some o) (J:b≠x)=>aD (p:=x) (o':=.ins G.C dx (ay ayY (.ref pn) (ay ayM (.ref D) (ay ayS rk (ay ayK mk (ay ayE nm [])))))) (aD (p:=pn) (o':=.lst ns) (k5 b o e J) (aK (k5 b o e J) wI)) J;have kq:=λb o (e:H2 b=some o) (J:b≠x)=>aD (p:=x) (o':=.ins G.C dx (ay ay9 (.ref ps) (ay ayY (.ref pn) (ay ayM (.ref D) (ay ayS rk (ay ayK mk (ay ayE nm []))))))) (aD (p:=ps) (o':=.lst ss) (kp b o e J) (aK (kp b o e J) bJ)) J;have kr:=λb o (e:H2 b=some o) (J:b≠x)=>aD (p:=x) (o':=.ins G.C dx (uF nm mk rk D pn ps U)) (aD (p:=U) (o':=.lst os) (kq b o e J) (aK (kq b o e J) mr)) J;have Sw:(ah (ah (ah H2 x (.ins G.C dx (ay ayM (.ref D) (ay ayS rk (ay ayK mk (ay ayE nm [])))))) pn (.lst ns)) x (.ins G.C dx (ay ayY (.ref pn) (ay ayM (.ref D) (ay ayS rk (ay ayK mk (ay ayE nm []))))))) pn=some (.lst ns):=aD aE I9;have Sx:=aD (p:=x) (o':=.ins G.C dx (ay ay9 (.ref ps) (ay ayY (.ref pn) (ay ayM (.ref D) (ay ayS rk (ay ayK mk (ay ayE nm []))))))) (aD (p:=ps) (o':=.lst ss) Sw (aK Sw bJ)) I9;have a4:=aD (p:=x) (o':=.ins G.C dx (uF nm mk rk D pn ps U)) (aD (p:=U) (o':=.lst os) Sx (aK Sx mr)) I9;have Sy:=aD (p:=x) (o':=.ins G.C dx (ay ay9 (.ref ps) (ay ayY (.ref pn) (ay ayM (.ref D) (ay ayS rk (ay ayK mk (ay ayE nm []))))))) (aE (H:=ah (ah (ah H2 x (.ins G.C dx (ay ayM (.ref D) (ay ayS rk (ay ayK mk (ay ayE nm [])))))) pn (.lst ns)) x (.ins G.C dx (ay ayY (.ref pn) (ay ayM (.ref D) (ay ayS rk (ay ayK mk (ay ayE nm []))))))) (a:=ps) (o:=.lst ss)) Ss;have a5:=aD (p:=x) (o':=.ins G.C dx (uF nm mk rk D pn ps U)) (aD (p:=U) (o':=.lst os) Sy (aK Sy mr)) Ss;refine k (uF nm mk rk D pn ps U) D pn ps U ys _ (alf nm mk rk D pn ps U) Sv.ob a0 (S5.free _ wI) (S7.free _ bJ) (S9.free _ mr) (kr D _ zy CW) ?_ a4 a5 (aD aE a6) Sv.same;rw[lG.len]at fn;exact alk fn λb o e J hn=>kr b o e λz=>by rw[z,hx]at hn;cases hn
structure cD where
 nm:Str
 ms:List Int
 fs:List (Str×Ls)
 os:Ls
 rk:Int
abbrev Lp:=List cD
def jJ(H:Hp)(v:V)(f:Str×Ls):Prop:=∃t l,v=.ref t/\H t=some (.tup [.str f.1,.ref l])/\H l=some (.lst (f.2.map V.str))
def ju(C:Addr)(H:Hp)(v:V)(p:cD):Prop:=∃a dx fl rk m j pn ps z xs,v=.ref a/\H a=some (.ins C dx fl)/\IW fl (.str p.nm) (.ref m) rk j pn ps z/\H m=some (.tup (p.ms.map V.int)) /\
 H j=some (.lst xs)/\Paired (jJ H) xs p.fs/\H z=some (.lst (p.os.map V.str))/\rk=.int p.rk/\H pn=some (.lst [])/\H ps=some (.lst [])
theorem jJ.same{v:V}{f:Str×Ls}(s:ac H H')(h:jJ H v f):jJ H' v f:=by
 obtain⟨t,l,e,a,b⟩:=h;exact⟨t,l,e,s _ _ a,s _ _ b⟩
theorem ju.same{v:V}{p:cD}(s:ac H H')(h:ju C H v p):ju C H' v p:=by
 obtain⟨a,dx,fl,rk,m,O,pn,ps,U,xs,e,h1,h2,z,G,J,j⟩:=h;exact⟨a,dx,fl,rk,m,O,pn,ps,U,xs,e,s _ _ h1,h2,s _ _ z,s _ _ G,aF J (λ_ _=>jJ.same s),s _ _ j.1,j.2.1,s _ _ j.2.2.1,s _ _ j.2.2.2⟩
abbrev eB (C:Addr) (H:Hp):Lv->Lp->Prop:=Paired (ju C H)
theorem eB.same{vs:Lv}{ps:Lp}(s:ac H H')(h:eB C H vs ps):eB C H' vs ps:=aF h λ_ _=>ju.same s
def rJ(fs:List (Str×Ls)):List (V×Lv):=fs.map λf=>(.str f.1,f.2.map V.str)
theorem alu{fs:List (Str×Ls)}(h:Paired (jJ H) xs fs):Sn K H xs (rJ fs):=by
 refine⟨by rw[rJ,ak];exact bv h,λi p ls e=>?_⟩;rw[rJ,dG]at e;cases j:fs[i]? with
 | none=>rw[j]at e;cases e
 | some f=>
  rw[j]at e;cases e;obtain⟨x,z,t,l,rfl,a,b⟩:=yU h j;exact⟨t,l,z,aZ.of a,aa.of b⟩
theorem alv{Q:VK}{E:XK}{nm:Str}{mk:List Int}{rk:Int}{os:Ls}{fs:List (Str×Ls)}(Y:H m=some (.tup (mk.map V.int)))(hf:H fa=some (.lst xs))(lG:Paired (jJ H) xs fs)
 (hn:H na=some (.lst [])) (hs:H sa=some (.lst [])) (ho:H oa=some (.lst (os.map V.str))) (CU:fs.length<=1000) (q:∀x H',H x=none->ac H H'->(∀L,gJ H L->ju C (msk L H') (.ref x) ⟨nm,mk,fs,os,rk⟩)->Q (.ref x) H') :
 ∀x dx,H x=none->H dx=none->dx≠x->CQ K C (.ref x::([.str nm,.ref m,.int rk,.ref fa,.ref na,.ref sa,.ref oa]++[])) (ah (ah H dx (.own x)) x (.ins C dx [])) (λv H2=>v=.non/\Q (.ref x) H2) E:=by
 intro x dx O bB nx;have G:ac H (ah (ah H dx (.own x)) x (.ins C dx [])):=dQ (fX bB) O;have a1:rJ fs=rJ fs:=rfl;have U:(rJ fs).length=fs.length:=by rw[rJ,ak]
 refine⟨aE,aa.of (G _ _ hf),?_,aa.of (G _ _ hn),aa.of (G _ _ hs),aa.of (G _ _ ho),by rw[U];exact CU,?_⟩
 . exact alu (aF lG λ_ _=>jJ.same G)
 intro fl pf pn ps po jU H' hF qx n1 n2 n3 n4 a0 vv wI bJ mr keep;have s2:ac H H':=λb o e=>keep b o (G _ _ e) (aK e O);have J:∀b,(ah (ah H dx (.own x)) x (.ins C dx [])) b=none->H b=none:=λb z=>G.free z;refine⟨rfl,q x H' O s2 λL j=>⟨x,dx,fl,.int rk,m,pf,pn,ps,po,jU,rfl,cC (j.free O) qx,hF,cC (j.tup Y) (s2 _ _ Y),cC (j.free (J _ n1)) a0,?_,cC (j.free (J _ n4)) mr,rfl,cC (j.free (J _ n2)) wI,cC (j.free (J _ n3)) bJ⟩⟩;refine Q6 (by rw[vv.len,U]) λi f hi=>?_;obtain⟨t,l,e1,e2,e3,e4,e5,e6,e7⟩:=vv.item i (.str f.1) (f.2.map V.str) (by rw[U];exact(cT.mp hi).1) (by rw[rJ,dG,hi];rfl);exact⟨_,e1,t,l,rfl,cC (j.free (J _ e2)) e6,cC (j.free (J _ e3)) e7⟩
def gN(p:cD):List NI:=[.inl (.inr p.nm),.inr (p.ms.map Sum.inl)]
theorem Jb{nm:Str}{mk:List Int}(j:H b=some (.tup [.str nm,.ref m]))(z:H m=some (.tup (mk.map V.int))):kL H [.inl (.inr nm),.inr (mk.map Sum.inl)] b:=
 ⟨_,j,.cons rfl (.cons ⟨m,rfl,by rw[z,lR];rfl⟩ .nil)⟩
def Sz(kvs:List (List NI×V))(vs:Lv)(ps:Lp)(i:Nat):Prop:=kvs.length<=i/\∀(j:Nat) (p:cD) (v:V),j<i->ps[j]?=some p->vs[j]?=some v->bi kvs (gN p)=some v
def jv(S:Addr)(H:Hp)(v:V)(vs:Lv)(ps:Lp):Prop:=∃a dx fl d kvs,v=.ref a/\H a=some (.ins S dx fl)/\fl.lookup (azo:Str)=some (.ref d)/\fl.lookup (ayD:Str)=none/\H d=some (.dT kvs)/\Sz kvs vs ps ps.length
theorem jv.same{v:V}{vs:Lv}{ps:Lp}(s:ac H H')(h:jv S H v vs ps):jv S H' v vs ps:=by
 obtain⟨a,dx,fl,d,kvs,e,h1,h2,j,z,G⟩:=h;exact⟨a,dx,fl,d,kvs,e,s _ _ h1,h2,j,s _ _ z,G⟩
inductive Jc (K:Fg) (C S:Addr):Sp where
 | mk {H:Hp}{Q:VK}{E:XK}{x dx a:Addr}{xs:Lv}{ps:Lp} (_:H x=some (.ins S dx [])) (_:H a=some (.lst xs)) (_:eB C H xs ps) (_:ps.length<=100) (_:(ps.map gN).Nodup) (_:∀H',(∀b o,H b=some o->b≠x->H' b=some o)->jv S H' (.ref x) xs ps->Q .non H'):Jc K C S [.ref x,.ref a] H Q E
theorem SA:aN [ayy,ayF,ayD] [ayy,ayF] (av v4):=aU
theorem alx(G:Pg K mg base Pt):aA P w K mg base aJ 1 G.SIn.f G.SIn.fd [ayy,ayF] (Jc K G.C G.S):=by
 refine G.SIn.u.okL SA ?_;intro au A outer s H vs Q E hr h xX dX;obtain @⟨_,_,_,x,dx,a,xs,ps,U,ha,bJ,CY,rK,q⟩:=h;have hu:=hr.units;refine⟨_,(ai (iP (pv 0) afW rfl)
  (al (eV eG rfl (cL (pv 1)) (bf (i:=2) SA.nd rfl (Or.inl rfl))
  (al (iR hu (bK (pv 0) rfl) (eX (aI (bK (pv 2) rfl) (bK (pv 2) rfl))) (pv 2) rfl))))),?_⟩
 refine lq ?_;intro dD sS dZ;refine λd H1 n1 s1 e1=>?_;refine⟨s1 _ _ U,G.US.cl,G.US.nS,(by decide),?_⟩;have CW:d≠x:=(aK U n1).symm;have ax:a≠x:=be ha U (by intro z;cases z);have nl:=bv bJ;refine⟨⟨_,aa.of (by rw[aW ax];exact s1 _ _ ha)⟩,?_⟩;refine iN (xs:=xs) (λi Z H2=>∃u kvs,Z=[some (.ref x),some (.ref a),u]/\(∀b o,H b=some o->b≠x->H2 b=some o)/\H2 x=some (.ins G.S dx (ay azo (.ref d) []))/\H2 d=some (.dT kvs)/\Sz kvs xs ps i)
  ⟨none,[],rfl,λb o e hb=>by rw[aW hb];exact s1 _ _ e,aE,by rw[aW CW];exact e1,aG _,λj p v hj=>absurd hj (MP _)⟩ ?_ ?_ ?_
 . intro i Z H2 hi gW;refine bu ?_;intro tT;obtain⟨u,kvs,rfl,k2,_⟩:=gW;exact aa.of (k2 _ _ ha ax)
 . intro i v Z H2 hv gX;refine bu ?_;intro tT;obtain⟨u,kvs,rfl,k2,Y,a0,J⟩:=gX;obtain⟨p,hp,b,dy,fl,rk,m,pf,pn,jK,po,ys,rfl,h1,h2,h3,h4,h5,h6⟩:=eK bJ hv;have bx:b≠x:=be h1 U (by intro z;injection z with _ _ z;subst z;have:=h2.name;cases this);have b2:=k2 _ _ h1 bx;have m2:=k2 _ _ h3 (be h3 U (by intro z;cases z));have a1:(ay (azo:Str) (V.ref d) []).lookup (azo:Str)=some (.ref d):=by rw[cO,am rfl]
   refine⟨Y,G.US.cl,G.US.nS,a1,b2,G.TC.cl,G.TC.nN,h2.name,b2,G.TC.cl,G.TC.nM,h2.make,An,λt H3 n3 s3 e3=>?_⟩;have aO:=(cT.mp hv).1;refine⟨fV.t (s3 _ _ a0) (Jb e3 (s3 _ _ m2)) (bP (by have:=J.1;omega)),?_⟩;refine⟨_,_,rfl,λc o e hc=>?_,?_,aE,?_,λj p' v' hj O yd=>?_⟩
   . rw[aW (λz=>by rw[z,n1]at e;cases e)];exact s3 _ _ (k2 _ _ e hc)
   . rw[aW CW.symm];exact s3 _ _ Y
   . exact b8 (yn _ _ _) (M6 J.1)
   rw[Bu]
   by_cases CV:j=i
   . subst CV;rw[hp]at O;rw[hv]at yd;cases O;cases yd;exact am rfl
   have ri:j<i:=by omega
   rw[ag]
   . exact J.2 j p' v' ri O yd
   intro z;have z:gN p'=gN p:=z;refine CV ((YF (l:=ps.map gN) (i:=j) (j:=i) ?_ rK).mp ?_)
   . rw[ak];have:=(cT.mp O).1;omega
   rw[dG,dG,hp,O,sP,sP,z]
 intro Z H2 pj;refine bu ?_;intro tT;obtain⟨u,kvs,rfl,k2,Y,a0,J⟩:=pj;rw[nl]at J;exact q H2 k2 ⟨x,dx,_,d,kvs,rfl,Y,by rw[cO,am rfl],by rw[cO,ag (by decide +kernel)];rfl,a0,J⟩
inductive SD (K:Fg) (S:Addr):Sp where
 | mk {H:Hp}{Q:VK}{E:XK}{z v:V}{m:Addr}{xs:Lv}{ps:Lp}{j:Nat}{p:cD} (_:jv S H z xs ps) (_:ps[j]?=some p) (_:xs[j]?=some v) (_:H m=some (.tup (p.ms.map V.int))) (_:∀H',ac H H'->Q v H'):SD K S [z,.str p.nm,.ref m] H Q E
theorem alz:aN [ayy,ayE,ayK] [ayy,ayE,ayK] (av v5):=aU
theorem alA(z:Pg K mg base Pt):aA P w K mg base aJ 1 z.SPa.f z.SPa.fd [ayy,ayE,ayK] (SD K z.S):=by
 refine z.SPa.u.okL alz ?_;intro au A outer s H vs Q E hr h xX dX;obtain @⟨_,_,_,sv,v,m,xs,ps,j,p,⟨a,dx,fl,d,kvs,rfl,h1,h2,h3,Y,h5⟩,hp,hv,hm,q⟩:=h;have hu:=hr.units;have O:=h5.2 j p v (cT.mp hp).1 hp hv;refine⟨_,(ai (bV (qC (OQ hu (eX (aI (pv 1) (pv 2))) (bK (pv 0) rfl)) (by rfl))
  (al Nw) cZ)
  (al (aQ (qN hu (bK (pv 0) rfl) (eX (aI (pv 1) (pv 2))) (λ_ _=>rfl))))),?_⟩
 refine lq ?_;intro dD sS dZ;refine⟨An,λt H1 n1 G e1=>?_⟩;have g1:cU H1 d (.ref t) (bi kvs (gN p)):=cU.t (G _ _ Y) (Jb e1 (G _ _ hm));refine⟨G _ _ h1,z.US.cl,z.US.nS,h2,_,g1,⟨?_⟩⟩;rw[O];refine bj (λh=>absurd h (by show ¬((!true)=true);decide)) (λh=>?_);refine⟨G _ _ h1,z.US.cl,z.US.nS,h2,An,λt2 H2 n2 s2 e2=>?_⟩;have J:=G.trans s2;have U:cU H2 d (.ref t2) (bi kvs (gN p)):=cU.t (J _ _ Y) (Jb e2 (J _ _ hm));rw[O]at U;exact⟨U,q H2 J⟩
abbrev Tr:=List (Str×Ls)
structure ky(done tr:Tr):Prop where
 nd:(tr.map (·.1)).Nodup
 sub:∀f∈tr,f∈done
 key:∀f∈done,f.1∈tr.map (·.1)
 len:tr.length<=done.length
theorem SF:ky [] []:=⟨kH,λ_ h=>h,(λ_ h=>nomatch h),aG _⟩
theorem ky.step{done tr:Tr}(g:ky done tr)(x:Str)(ls:Ls):ky (done++[(x,ls)]) (bN tr x ls):=by
 refine⟨ki g.nd,λf hf=>?_,λf hf=>?_,?_⟩
 . rcases kf hf with e | hf
   . rw[e];exact eU _ (bw.mpr rfl)
   exact xD _ (g.sub f hf)
 . rcases bR.mp hf with hf | hf
   . exact GW (.inr (g.key f hf))
   rw[bw.mp hf];exact GW (.inl rfl)
 have:=jE tr x ls;have:=g.len;rw[bI,je];omega
end
section
variable {K:Fg}{H H1:Hp}{kv:ao×V}{ps:Lp}{i:Nat}{xs vs:Lv}{x:Str}
def uH(xs:Lv)(ps:Lp)(v:V)(p:cD):Prop:=∃j:Nat,ps[j]?=some p/\xs[j]?=some v
def py(xs:Lv)(ps:Lp)(ch:Ch):Prop:=∀e∈ch,∃v p,uH xs ps v p/\p.nm=e.1/\p.ms=e.2
inductive SG (S:Addr):Sp where
 | mk {H:Hp}{Q:VK}{E:XK}{G:V}{c:Addr}{xs:Lv}{ps:Lp}{ch:Ch} (_:jv S H G xs ps) (_:dj H c ch) (_:py xs ps ch) (_:ch.length<64) (_:∀D H' z j,H D=none->ac H H'->H' D=some (.lst z)->Paired (uH xs ps) z j->(j.map (·.nm)).Perm (ch.map (·.1))->(∀p∈j,(p.nm,p.ms)∈ch)->Q (.ref D) H'):SG S [G,.ref c] H Q E
theorem alB:aN [ayC,ayH] [ayC,ayH] (av HD):=aU
theorem Jd(G:Pg K mg base Pt):aA P w K mg base aJ 2 G.PsO.f G.PsO.fd [ayC,ayH] (SG G.S):=by
 refine G.PsO.u.okL alB ?_;intro au A outer s H vs Q E hr h xX dX;obtain @⟨_,_,_,sv,c,xs,ps,ch,hS,hC,hV,ud,q⟩:=h;have hu:=hr.units;obtain⟨kvs,e1,e2⟩:=id hC;have hk:∀kv f,dC H kv f->kv.1=Sum.inr f.1:=λkv f z=>z.1;have kl:=bv e2;refine⟨_,(al (aQ (fZ [ayE] [ayC,ayH] [0,1] dJ rfl (cL (cr (BJ rfl) (by rfl) G.B.sorted xQ (aq (pv 1)))) (λ_ _ _ _=>(bf (i:=0) (show List.Nodup ([ayE,ayC,ayH]:Ls) by decide +kernel) rfl (Or.inl rfl))) (λ_ _ _ _=>fY) (λ_ _ _ _=>(lZ (pv 1) G.US.cl G.US.mP (up (alA G)) hr G.SPa.b .nil cG (aI (pv 0) (qN hu (pv 2) (pv 0) (λ_ _=>rfl)))))))),?_⟩;refine⟨c,kvs,_,rfl,e1,rp hk e2,by omega,λys hp hs a H1 n1 Y a1=>?_⟩;refine⟨⟨_,aa.of a1⟩,?_⟩;refine yr (σ0:=[none,some sv,some (.ref c)]) (aa.of a1) (λZ=>∃v,Z=[v,some sv,some (.ref c)]) (λi zs _=>∃J,Paired (uH xs ps) zs J/\J.map (·.nm)=ys.take i/\∀p∈J,(p.nm,p.ms)∈ch) ⟨_,rfl⟩ (λ_ _=>⟨[],.nil,rfl,λ_ h=>nomatch h⟩) ?_ ?_
 . intro D i x zs Z H2 k hD hi fJ hd h2 gW eg;refine bu ?_;intro tT;obtain⟨v,rfl⟩:=fJ;obtain⟨J,U,pn,pc⟩:=gW;rw[dG]at hi;cases O:ys[i]? with
   | none=>rw[O]at hi;cases hi
   | some y=>
    rw[O]at hi;cases hi;have Je:y∈ch.map (·.1):=hp.mem_iff.mp (cX O);obtain⟨u,ms,g1,g2,_,m,rfl,g3⟩:=ph hk e2 Je;obtain⟨v2,p,gQ,en,em⟩:=hV _ g2;obtain⟨j,j1,j2⟩:=id gQ;have en:p.nm=y:=en;have em:p.ms=ms:=em;subst en em;obtain⟨sa,dx,fl,d,kk,rfl,b1,b2,b3,b4,b5⟩:=hS.same (Y.trans h2);have ci:=Y.trans h2;refine⟨b1,b3,(by rw[<-g1];exact cU.k (k:=.inr p.nm) (ci _ _ e1)),?_⟩;refine⟨⟨sa,dx,fl,d,kk,rfl,b1,b2,b3,b4,b5⟩,j1,j2,ci _ _ g3,λH3 s3=>?_⟩;have hl:zs.length<=64:=by
     have e:=fw List.length pn;rw[ak,eF]at e;have:=bv U;have:=hp.length_eq;rw[ak]at this;omega
    refine eg _ _ _ ⟨_,rfl⟩ s3 (bP (by omega)) ⟨J++[p],jq gQ U,?_,λp' ce=>?_⟩
    . rw[dw,pn,io,O];rfl
    rcases bR.mp ce with z | z
    . exact pc p' z
    rw[bw.mp z];exact g2
 intro D zs H2 hD hd h2 gX;refine bu ?_;intro tT;obtain⟨J,U,pn,pc⟩:=gX;rw[ak,fb]at pn;refine q D H2 zs J (Y.free hD) (Y.trans h2) hd U ?_ pc;rw[pn];exact hp
def dn(H H':Hp)(kv:ao×V)(f:Str×Ls):Prop:=kv.1=.inr f.1/\∃l,kv.2=.ref l/\H l=none/\H' l=some (.lst (f.2.map V.str))
theorem dn.same{H2:Hp}(s:ac H1 H2){f:Str×Ls}(h:dn H H1 kv f):dn H H2 kv f:=h.elim λa j=>j.elim λl z=>z.elim λb G=>G.elim λc d=>⟨a,l,b,c,s _ _ d⟩
theorem dn.put{ks O:List (ao×V)}(hd:H1 d=some (.dK ks)){f:Str×Ls}(h:dn H H1 kv f):dn H (ah H1 d (.dK O)) kv f:=h.elim λa j=>j.elim λl G=>G.elim λb J=>J.elim λc e=>⟨a,l,b,c,aD e (be e hd (by intro z;cases z))⟩
def fo(ps:Lp):Tr:=ps.flatMap (·.fs)
inductive SH (C:Addr):Sp where
 | mk {H:Hp}{Q:VK}{E:XK}{a:Addr}{xs:Lv}{ps:Lp} (_:H a=some (.lst xs)) (_:eB C H xs ps) (_:(fo ps).length<=60) (_:∀d H' kvs tr,H d=none->ac H H'->H' d=some (.dK kvs)->Paired (dn H H') kvs tr->ky (fo ps) tr->Q (.ref d) H'):SH C [.ref a] H Q E
theorem zA:aN [ayF,azd,ayD,ayG,ayO] [ayF] (av HL):=aU
theorem SI{p:cD}(h:ps[i]?=some p):fo (ps.take (i+1))=fo (ps.take i)++p.fs:=by
 unfold fo;rw[io,h,EM];simp
theorem alI{p:cD}(h:ps[i]?=some p)(j:Nat):(fo (ps.take i)++p.fs.take j).length<=(fo ps).length:=by
 have e:fo ps=fo (ps.take (i+1))++fo (ps.drop (i+1)):=by
  unfold fo;rw[<-EM,awY]
 rw[e,SI h];simp only[bI,eF];omega
theorem SJ(J:Pg K mg base Pt):aA P w K mg base aJ 1 J.Bro.f J.Bro.fd [ayF] (SH J.C):=by
 refine J.Bro.u.okL zA ?_;intro au A outer s H vs Q E hr h xX dX;obtain @⟨_,_,_,a,xs,ps,ha,bJ,Rp,q⟩:=h;have hu:=hr.units;refine⟨_,(ai (aH (i:=1) zA.nd rfl (Or.inl rfl) mj)
  (ai (eV eG rfl (cL (pv 0)) (bf (i:=2) zA.nd rfl (Or.inl rfl))
  (al (eV eG rfl (cL (bK (pv 2) rfl)) (ou rfl (gE (bf (i:=3) zA.nd rfl (Or.inl rfl)) (gE (bf (i:=4) zA.nd rfl (Or.inl rfl)) mR)))
   (al (iR hu (pv 1) (pv 3) (eJ mf (by rfl) J.B.list jT (aq (pv 4))) rfl)))))
  (al (aQ (pv 1))))),?_⟩
 refine jA ?_;intro dD sS gu dZ;have hk:∀(H':Hp) kv f,dn H H' kv f->kv.1=Sum.inr f.1:=λ_ kv f z=>z.1;refine λd H1 n1 s1 e1=>?_;refine⟨⟨_,aa.of (s1 _ _ ha)⟩,?_⟩;refine iN (xs:=xs) (λi Z H2=>∃u v z kvs tr,Z=[some (.ref a),some (.ref d),u,v,z]/\ac H H2/\H2 d=some (.dK kvs)/\Paired (dn H H2) kvs tr/\ky (fo (ps.take i)) tr) ⟨none,none,none,[],[],rfl,s1,e1,.nil,SF⟩ ?_ ?_ ?_
 . intro i Z H2 hi pj;refine bu ?_;intro U;obtain⟨u,v,z,kvs,tr,rfl,G,_⟩:=pj;exact aa.of (G _ _ ha)
 . intro i x Z H2 hx uA;refine bu ?_;intro U;obtain⟨u,v,z,kvs,tr,rfl,G,hd,rL,g⟩:=uA;obtain⟨p,hp,b,dy,fl,rk,m,pf,pn,jK,po,ys,rfl,h1,h2,h3,h4,h5,h6⟩:=eK bJ hx;refine⟨G _ _ h1,J.TC.cl,J.TC.nF,h2.files,⟨_,aa.of (G _ _ h4)⟩,?_⟩;refine iN (xs:=ys) (λj Z H3=>∃v z kvs tr,Z=[some (.ref a),some (.ref d),some (.ref b),v,z]/\ac H H3/\H3 d=some (.dK kvs)/\Paired (dn H H3) kvs tr/\ky (fo (ps.take i)++p.fs.take j) tr) ⟨v,z,kvs,tr,rfl,G,hd,rL,by rw[List.take_zero,lL];exact g⟩ ?_ ?_ ?_
   . intro j Z H3 hj uB;refine bu ?_;intro U;obtain⟨v,z,kvs,tr,rfl,s3,_⟩:=uB;exact aa.of (s3 _ _ h4)
   . intro j y Z H3 hy zk;refine bu ?_;intro U;obtain⟨v,z,kvs,tr,rfl,s3,cV,Y,O⟩:=zk;obtain⟨⟨px,ls⟩,Jf,t,l,rfl,t1,t2⟩:=eK h5 hy;refine⟨aZ.of (s3 _ _ t1),rfl,rfl,?_⟩;refine⟨l,_,rfl,.inl (aa.of (s3 _ _ t2)),λl' H4 n4 s4 e4=>?_⟩;have a2:=alI hp j;have a1:=O.len;have a0:=bv Y;refine⟨fV.k (k:=.inr px) (s4 _ _ cV) (bP (by omega)),?_⟩;refine⟨_,_,_,bN tr px ls,rfl,dQ (s3.trans s4) n1,aE,?_,?_⟩
     . refine aF (iZ (F:=dn H H4) (hk H4) ⟨rfl,l',rfl,s3.free n4,e4⟩ (aF Y λ_ _=>dn.same s4)) λkv f=>dn.put (s4 _ _ cV)
     rw[io,Jf];have:=O.step px ls;rw[kI]at this;exact this
   intro Z H3 zn;refine bu ?_;intro U;obtain⟨v,z,kvs,tr,rfl,s3,cV,Y,O⟩:=zn;refine⟨_,_,_,kvs,tr,rfl,s3,cV,Y,?_⟩;rw[SI hp];rw[bv h5,fb]at O;exact O
 intro Z H2 ID;refine bu ?_;intro U;obtain⟨u,v,z,kvs,tr,rfl,G,hd,rL,g⟩:=ID;rw[bv bJ,fb]at g;exact⟨q d H2 kvs tr n1 G hd rL g⟩
theorem Jg{G:Lp}(h:eB C H xs ps)(r:Paired (uH xs ps) vs G):eB C H vs G:=aF r λv p J=>J.elim λj O=>O.elim λa b=>by
 obtain⟨x,z,q⟩:=yU h a;rw[b]at z;cases z;exact q
theorem Jh{z:Lp}(r:Paired (uH xs ps) vs z):∀p∈z,p∈ps:=by
 induction r with
 | nil=>exact λ_ h=>nomatch h
 | cons q t G=>
  intro p hp
  rcases bc.mp hp with e | hp
  . obtain⟨j,a,b⟩:=q;rw[e];exact cX a
  exact G p hp
theorem SK{b:Nat}(h:∀p∈ps,p.fs.length<=b):(fo ps).length<=ps.length * b:=by
 induction ps with
 | nil=>exact dF _
 | cons p ps z=>
  have e:fo (p::ps)=p.fs++fo ps:=EL;rw[e,bI,bU,Yf];have:=z λq j=>h q (bY _ j);have:=h p bM;omega
def dM(H:Hp)(kv:ao×V)(f:Str×Ls):Prop:=kv.1=.inr f.1/\∃l,kv.2=.ref l/\H l=some (.lst (f.2.map V.str))
theorem dM.same{H':Hp}(s:ac H H'){f:Str×Ls}(h:dM H kv f):dM H' kv f:=h.elim λa j=>j.elim λl z=>z.elim λb c=>⟨a,l,b,s _ _ c⟩
def Ji(tr:Tr):Prop:=∀f∈tr,dW f.1/\(∀x∈f.2,gL x)/\f.2.length<=4
section
variable {g:TG}{tt:TT}{te:TE}{Q:Hp->Prop}
theorem rM{σ0:L2.St}(Y:H1 D=none)(hx:aa K H1 a xs)(S:L2.St->Prop)(P:Nat->Lv->Hp->Prop)(s0:S σ0)(st:P 0 [] (ah H1 D (.lst [])))
 (a0:∀i x ys Z H (k:L2.St->V->Hp->Prop) (k':L2.St->Hp->Prop),xs[i]?=some x->S Z->H D=some (.lst ys)->ac H1 H->P i ys H ->
  (∀σ3 y z,S σ3->ac H z->ys.length<sizeLine->P (i+1) (ys++[y]) (ah z D (.lst (ys++[y])))->k σ3 y z)->(∀σ3 j,S σ3->ac H j->P (i+1) ys j->k' σ3 j) ->
  g x Z H λσ3 H3=>tt σ3 H3 λok j=>if ok=true then te σ3 j (k σ3) else k' σ3 j)
 (done:∀ys H,H D=some (.lst ys)->ac H1 H->P xs.length ys H->Q H) :
 ∃W:Nat->Nat->L2.St->Hp->Prop,(∃m,W 0 m σ0 (ah H1 D (.lst [])))/\kY (mS K a) g tt te D (λH'=>Q H') W:=by
 refine⟨λi m Z H=>m=xs.length - i/\i<=xs.length/\S Z/\∃ys,H D=some (.lst ys)/\ac H1 H/\P i ys H,⟨xs.length,by simp,dF _,s0,[],aE,fX Y,st⟩,?_⟩;intro i m Z H fJ;refine bu ?_;intro tT;obtain⟨rfl,hi,hS,ys,hd,hs,hp⟩:=fJ;have q:aa K H a xs:=ac.seq hs hx
 by_cases U:i<xs.length
 . refine .inr ⟨⟨xs,xs[i],q,by simp[U]⟩,λx H2 hy=>?_⟩;obtain⟨e1,e2⟩:=hy;subst e1;exact a0 i x ys Z _ (λσ3 y z=>∃ys,z D=some (.lst ys)/\ys.length<sizeLine/\∃m',m'<xs.length - i/\(m'=xs.length - (i+1)/\i+1<=xs.length/\S σ3/\∃zs,ah z D (.lst (ys++[y])) D=some (.lst zs)/\ac H1 (ah z D (.lst (ys++[y])))/\P (i+1) zs (ah z D (.lst (ys++[y])))))
    (λσ3 j=>∃m',m'<xs.length - i/\(m'=xs.length - (i+1)/\i+1<=xs.length/\S σ3/\∃zs,j D=some (.lst zs)/\ac H1 j/\P (i+1) zs j)) (e2 xs q) hS hd hs hp
    (λσ3 y z J G O a4=>⟨ys,G _ _ hd,O,xs.length - (i+1),by omega,rfl,U,J,ys++[y],aE,dQ (hs.trans G) Y,a4⟩)
    (λσ3 j J G O=>⟨xs.length - (i+1),by omega,rfl,U,J,ys,G _ _ hd,hs.trans G,O⟩)
 have e:i=xs.length:=by omega
 subst e;exact .inl ⟨⟨xs,q,aG _⟩,done ys H hd hs hp⟩
theorem C0{σ0:L2.St}(hD:H1 D=none)(hx:aa K H1 a xs)(S:L2.St->Prop)(P:Nat->Lv->Hp->Prop)(s0:S σ0)(st:P 0 [] (ah H1 D (.lst [])))
 (a0:∀i x ys Z H (k:L2.St->V->Hp->Prop),xs[i]?=some x->S Z->H D=some (.lst ys)->ac H1 H->P i ys H ->
  (∀σ3 y j,S σ3->ac H j->ys.length<sizeLine->P (i+1) (ys++[y]) (ah j D (.lst (ys++[y])))->k σ3 y j)->g x Z H λσ3 H3=>te σ3 H3 (k σ3))
 (done:∀ys H,H D=some (.lst ys)->ac H1 H->P xs.length ys H->Q H) :
 ∃W:Nat->Nat->L2.St->Hp->Prop,(∃m,W 0 m σ0 (ah H1 D (.lst [])))/\kY (mS K a) g qR te D (λH'=>Q H') W:=
 rM hD hx S P s0 st (λi x ys Z H k k' z G J O U Y _=>a0 i x ys Z H k z G J O U Y) done
end
abbrev dI (ms:List Int):W.Dat:=.tuple (ms.map W.Dat.int)
theorem alO{a b:List Int}:dI a=dI b↔a=b:=⟨λh=>(List.map_inj_right λx y z=>W.Dat.int.inj z).mp (W.Dat.tuple.inj h),λh=>by rw[h]⟩
theorem zB(n:Nat)(ms:List Int):W.kqdOk (n+1) (dI ms)=true:=by
 simp only[dI,W.kqdOk,hX,cE];rintro d ⟨i,_,rfl⟩;simp[W.kqdOk]
theorem Jj{ms:List Int}(h:H m=some (.tup (ms.map V.int))):DV K H (.ref m) (dI ms):=.tup (aZ.of h) (BC ms)
def pB(H:Hp)(v:V)(ms:List Int):Prop:=∃m,v=.ref m/\H m=some (.tup (ms.map V.int))
theorem pB.same{H':Hp}(s:ac H H'){v:V}{ms:List Int}(h:pB H v ms):pB H' v ms:=h.elim λm j=>j.elim λa b=>⟨m,a,s _ _ b⟩
theorem SM{j:Ll}(h:Paired (pB H) vs j):iu K H vs (j.map dI):=by
 induction h with
 | nil=>exact .nil
 | cons r t z=>
  obtain⟨m,rfl,e⟩:=r;exact .cons (Jj e) z
theorem SN(n:Nat)(j:Ll):W.kqdOk (n+2) (.list (j.map dI))=true:=by
 rw[W.kqdOk,hX];intro d hd;obtain⟨ms,_,rfl⟩:=cE.mp hd;exact zB n ms
theorem alQ{p:cD}(h:ps[i]?=some p)(j:cD->Bool):(ps.take (i+1)).filter j=(ps.take i).filter j++(if j p=true then [p] else []):=by
 rw[io,h,M7]
 congr 1
 show List.filter j [p]=_;rw[qj];rfl
inductive SO (K:Fg) (C:Addr):Sp where
 | mk {H:Hp}{Q:VK}{E:XK}{a n:Addr}{j:Int}{xs:Lv}{ps:Lp}{ns:Ls} (_:H a=some (.lst xs)) (_:eB C H xs ps) (_:ps.length<=100) (_:H n=some (.lst (ns.map V.str))) (_:ns.length<=4) (_:∀c H' ch,H c=none->ac H H'->dj H' c ch->py xs ps ch->(ch.map (·.1)).Nodup->ch.length<=4->Q (.ref c) H'):SO K C [.ref a,.ref n,.int j] H Q E
theorem zC:aN [ayU,ayA,ayz,"_law_chosen_here",ayP,"_law_makes",ayB] [ayU,ayA,ayz] (av Iq):=aU
theorem alR(J:Pg K mg base Pt):aA P w K mg base aJ 2 J.Cho.f J.Cho.fd [ayU,ayA,ayz] (SO K J.C):=by
 refine J.Cho.u.okL zC ?_;intro au A outer s H vs Q E hr h xX dX;obtain @⟨_,_,_,a,n,a0,xs,ps,ns,ha,bJ,CY,hn,n4,q⟩:=h;have hu:=hr.units;have hk:∀(H':Hp) kv f,dC H' kv f->kv.1=Sum.inr f.1:=λ_ kv f z=>z.1;refine⟨_,(ai (aH (i:=3) zC.nd rfl (Or.inl rfl) mj)
  (ai (eV eG rfl (oE rfl J.B.range (aq (cr fU (by rfl) J.B.len fc (aq (pv 1))))) (bf (i:=4) zC.nd rfl (Or.inr rfl))
  (ai (oP (i:=5) [ay0] [ayA,ayP] [1,4] zC.nd rfl rfl dJ rfl (cL (pv 0)) (λ_ _ _ _=>(bf (i:=0) (show List.Nodup ([ay0,ayA,ayP]:Ls) by decide +kernel) rfl (Or.inl rfl))) (λ_ _ _ _=>oO (bW fC (iV K (pv 0) rfl) (bA (vI K) (pv 1) (pv 2) (λ_ _=>rfl)) (bC _))) (λ_ _ _ _=>(iV K (pv 0) rfl)))
   (ai (aH (i:=6) zC.nd rfl (Or.inl rfl) (aB (gU J) hr rfl (aI (pv 2) (aw fO aj (pv 4)))))
   (al (bV (PW.pt (tw (bW (FH hu) (pv 5) (dq eI) (bC _)) (xZ (bW Bm (aw bZ (pv 6) aj) aj (bC _)))))
   (al (iR hu (pv 3) (bA eR (pv 1) (pv 4) (λ_ _=>rfl)) (bA eR (pv 5) (aw bZ (aw ff (pv 6) aj) (cr fU (by rfl) J.B.len fc (aq (pv 5)))) (λ_ _=>rfl)) rfl)) cZ)))))
  (al (aQ (pv 3))))),?_⟩
 refine jA ?_;intro dD sS gu dZ;refine λc H1 n1 s1 e1=>?_;refine⟨n,_,rfl,.inl (aa.of (s1 _ _ hn)),by omega,by rw[ak];omega,?_⟩;refine vx (n:=(ns.map V.str).length) (λi Z H2=>∃(u v z:Option V) (kvs:List (ao×V)) (ch:Ch),Z=[some (.ref a),some (.ref n),some (.int a0),some (.ref c),u,v,z]/\ac H H2/\H2 c=some (.dK kvs)/\Paired (dC H2) kvs ch/\py xs ps ch/\(ch.map (·.1)).Nodup/\ch.length<=i) ⟨none,none,none,[],[],rfl,s1,e1,.nil,(λ_ h=>nomatch h),kH,aG _⟩ ?_ ?_
 . intro i Z H2 hi gW;refine bu ?_;intro tT;obtain⟨u,v,z,kvs,ch,rfl,U,hc,rL,hV,rK,mq⟩:=gW;rw[ak]at hi;obtain⟨x,hx⟩:∃x,ns[i]?=some x:=⟨ns[i],by simp[hi]⟩;have j8:cu (ns.map V.str) (0+(i:Int))=some (V.str x):=by
    rw[Int.zero_add];exact Bt (by rw[dG,hx];rfl)
   refine⟨⟨_,aa.of (U _ _ ha)⟩,?_⟩;intro D hD;refine rM (σ0:=[none,some (.ref n),some (.int (0+(i:Int)))]) hD (aa.of (U _ _ ha)) (λZ=>∃v,Z=[v,some (.ref n),some (.int (0+(i:Int)))]) (λj zs H3=>zs.length<=j/\∃O,Paired (pB H) zs O/\∀ms∈O,∃v p,uH xs ps v p/\p.nm=x/\p.ms=ms) ⟨_,rfl⟩ ⟨aG _,[],.nil,λ_ h=>nomatch h⟩ ?_ ?_
   . intro j y zs Z H3 k k' hy gX hd h3 pj fG jw;refine bu ?_;intro tT;obtain⟨v,rfl⟩:=gX;obtain⟨zl,O,pr,pm⟩:=pj;obtain⟨p,hp,b,dy,fl,rk,m,pf,pn,jK,po,ys,rfl,b1,b2,b3,b4,b5,b6⟩:=eK bJ hy;have s3:=U.trans h3;have aO:=(cT.mp hp).1;refine⟨s3 _ _ b1,J.TC.cl,J.TC.nN,b2.name,aa.of (s3 _ _ hn),j8,rfl,⟨?_⟩⟩;refine bj (λh=>?_) (λh=>?_)
     . have en:p.nm=x:=by
        have h:=cY h;injection h
       refine⟨s3 _ _ b1,J.TC.cl,J.TC.nM,b2.make,?_⟩;refine fG _ _ _ ⟨_,rfl⟩ (ac.refl _) (bP (by omega)) ⟨by rw[bI,je];omega,O++[p.ms],jq ⟨m,rfl,b3⟩ pr,λms hm=>?_⟩
       rcases bR.mp hm with z | z
       . exact pm ms z
       exact⟨_,p,⟨j,hp,hy⟩,en,(bw.mp z).symm⟩
     exact jw _ _ ⟨_,rfl⟩ (ac.refl _) ⟨by omega,O,pr,pm⟩
   intro zs H3 hd h3 uA;refine bu ?_;intro tT;obtain⟨zl,O,pr,pm⟩:=uA;have s3:=U.trans h3;have ll:=bv bJ;have Jk:=h3 _ _ hc;have rN:=aF pr λ_ _=>pB.same s3;have SQ:=aF rL λ_ _=>dC.same h3;refine⟨⟨⟨⟨λa3=>?_⟩⟩⟩⟩;refine⟨Ab,λe Y n4 G e4=>?_⟩;refine⟨.list (O.map dI),.list [],.lst (aa.of (G _ _ hd)) (SM (aF rN λ_ _=>pB.same G)),.lst (aa.of e4) .nil,SN 7 _,SN 7 [],λbb hb=>⟨?_⟩⟩;have keep:∀u v z,∃(u' v' z':Option V) (kvs:List (ao×V)) (ch:Ch),[some (V.ref a),some (V.ref n),some (V.int a0),some (V.ref c),u,v,z]=[some (V.ref a),some (.ref n),some (.int a0),some (.ref c),u',v',z']/\ac H Y/\Y c=some (.dK kvs)/\Paired (dC Y) kvs ch/\py xs ps ch/\(ch.map (·.1)).Nodup/\ch.length<=i+1:=
    λu v z=>⟨u,v,z,kvs,ch,rfl,s3.trans G,G _ _ Jk,aF SQ λ_ _=>dC.same G,hV,rK,by omega⟩
   refine bj (λdg=>?_) (λdg=>?_)
   . refine⟨(by show(0:Int)<4;decide),⟨⟨?_⟩⟩⟩;refine bj (λa2=>?_) (λa2=>keep _ _ _);have q5:0<zs.length:=by
      cases zs with
      | nil=>
       cases pr;have hb:bb=true:=hb.mpr rfl;rw[hb]at dg;cases dg
      | cons y ys=>simp
     obtain⟨y,hy,Je⟩:=FI (xs:=zs) (r:=a3 / 4 % (zs.length:Int)) (sV _ (by omega)) (vk _ (by omega));obtain⟨ms,Jl,m,rfl,em⟩:=eK rN Je;obtain⟨v0,p0,gQ,en,a1⟩:=pm ms (cX Jl);refine⟨⟨by omega,by omega⟩,D,_,rfl,.inl (aa.of (G _ _ hd)),(by show(0:Int)<(zs.length:Int);omega),aa.of (G _ _ hd),hy,?_⟩;refine⟨aa.of (G _ _ (s3 _ _ hn)),j8,?_⟩;have pl:=bv rL;refine⟨fV.k (k:=.inr x) (G _ _ Jk) (bP (by omega)),?_⟩;refine⟨_,_,_,_,bN ch x ms,rfl,dQ (s3.trans G) n1,aE,?_,λe he=>?_,ki rK,b8 (jE ch x ms) (by omega)⟩
     . refine aF (iZ (F:=dC Y) (hk Y) ⟨rfl,m,rfl,G _ _ em⟩ (aF SQ λ_ _=>dC.same G)) λkv f z=>?_;obtain⟨z1,m',z2,z3⟩:=z;exact⟨z1,m',z2,aD z3 (be z3 (G _ _ Jk) (by intro z;cases z))⟩
     rcases kf he with e' | he
     . rw[e'];exact⟨v0,p0,gQ,en,a1⟩
     exact hV e he
   exact eW (keep _ _ _)
 intro Z H2 uB;refine bu ?_;intro tT;obtain⟨u,v,z,kvs,ch,rfl,U,hc,rL,hV,rK,mq⟩:=uB;rw[ak]at mq;exact⟨q c H2 ch n1 U ⟨kvs,hc,rL⟩ hV rK (by omega)⟩
def alU:V->Lv->Hp->VK->Prop:=λx vs H Q=>∃a kvs k y,x=.ref a/\vs=[kV k,y]/\H a=some (.dK kvs)/\kvs.length<sizeLine/\∀z j H',bi j k=some z->((j=kvs)\/(bi kvs k=none/\z=y/\j=cQ kvs k y))->H' a=some (.dK j)->(∀b o,H b=some o->b≠a->H' b=some o)->Q z H'
theorem alV{X:Cx}:oI X "dict.setdefault" alU:=by
 intro ad s Z H x xs v us Q I U O h;obtain⟨a,kvs,k,y,rfl,rfl,e,G,q⟩:=h;refine ae0 ad s Z H _ _ v us Q I U O ⟨a,kvs,k,y,rfl,rfl,e,G,λz hz=>q z kvs H hz (.inl rfl) e λ_ _ e _=>e,λJ=>q y _ _ ?_ (.inr ⟨J,rfl,rfl⟩) aE λb o e j=>aD e j⟩;rw[Bu,am rfl]
theorem zD(xs:Ls):(xs.map V.str).all oH=true:=by
 rw[hX];intro v j;obtain⟨z,_,rfl⟩:=cE.mp j;rfl
theorem alW{z:Str}{xs:Ls}(h:z∈xs):mV (.str z) (xs.map V.str)=true:=by
 unfold mV;rw[vj];exact⟨_,cE.mpr ⟨z,h,rfl⟩,by simp[kW]⟩
theorem alX{α:Type}{xs:List α}{j:Nat}(h:j<xs.length):∃v,cu xs (-1 - (0+(j:Int)))=some v:=by
 unfold cu oG;rw[ag (by omega),am (by omega),Option.bind_some];have:((-1 - (0+(j:Int))+(xs.length:Int)).toNat)<xs.length:=by omega
 exact⟨_,hZ this⟩
theorem alY{L:List Addr}{H':Hp}(G:H p=none)(s:ac H H'):ac (msk L H) (msk (p::L) H'):=λb o e=>by
 unfold msk at e;split at e
 . cases e
 rename_i j;refine cC ?_ (s _ _ e);rw[bc,nZ];exact⟨λz=>(by rw[z,G]at e;cases e),j⟩
theorem alZ{L:List Addr}{H':Hp}(s:∀b o,H b=some o->b∉L->H' b=some o):ac (msk L H) (msk L H'):=λb o e=>by
 unfold msk at e;split at e
 . cases e
 exact cC ‹_› (s _ _ e ‹_›)
def al0(Q:Addr->Hp->Prop):VK:=λv H=>match v with | .ref x=>Q x H | _=>False
theorem al1{C:Addr}{Q:Addr->Hp->Prop}{E:XK}{nm:Str}{j G z:Addr}{mk:List Int}{rk:Int}{os:Ls}{fs:List (Str×Ls)}(U:H m=some (.tup (mk.map V.int)))(O:H fa=some (.lst xs))(lG:Paired (jJ H) xs fs)
 (Y:H j=some (.lst [])) (hs:H G=some (.lst [])) (ho:H z=some (.lst (os.map V.str))) (J:fs.length<=1000) (q:∀x H',H x=none->ac H H'->(∀L,gJ H L->ju C (msk L H') (.ref x) ⟨nm,mk,fs,os,rk⟩)->Q x H') :
 ∀x dx,H x=none->H dx=none->dx≠x->CQ K C (.ref x::([.str nm,.ref m,.int rk,.ref fa,.ref j,.ref G,.ref z]++[])) (ah (ah H dx (.own x)) x (.ins C dx [])) (λv H2=>v=.non/\Q x H2) E:=
 alv (Q:=al0 Q) U O lG Y hs ho J q
theorem gL.ln(h:gL x):Ln x:=⟨tR.mpr λc j=>by have:=h.sg c j;omega,h.hi⟩
theorem bQ.ln(h:bQ x):Ln x:=⟨tR.mpr λc j=>by have:=h.az c j;omega,by have:=h.hi;omega⟩
theorem dW.len(h:dW x):x.length<=36:=by
 obtain⟨ps,rfl,h1,h2,j⟩:=h;have:=IP (sep:=lE) (b:=8) (λp z=>(j p z).hi) (by decide +kernel);omega
theorem dW.ln(h:dW x):Ln x:=⟨tR.mpr λc j=>by have:=h.signs c j;omega,by have:=h.len;omega⟩
structure uI(ns:Ls)(ps:Lp)(uk:List (ao×V))(i:Nat):Prop where
 nd:(ps.map gN).Nodup
 ok:∀p∈ps,p.fs.length<=3/\Ji p.fs/\(p.fs.map (·.1)).Nodup
 used:∀p∈ps,∀x∈p.fs.map (·.1),bi uk (.inr x)=some (.str p.nm)
 txts:∀k v,bi uk k=some v->∃y,v=.str y
 len:ps.length<=i
 nms:∀p∈ps,p.nm∈ns
 offs:∀p∈ps,p.os.length<=2/\∀t∈p.os,t∈ns
 mks:∀p∈ps,gc p.ms
structure Apart(ns:Ls)(ps:Lp):Prop where
 nd:(ps.map gN).Nodup
 ok:∀p∈ps,p.fs.length<=3/\Ji p.fs/\(p.fs.map (·.1)).Nodup
 one:∀p∈ps,∀p'∈ps,∀x,x∈p.fs.map (·.1)->x∈p'.fs.map (·.1)->p.nm=p'.nm
 len:ps.length<=6
 nms:∀p∈ps,p.nm∈ns
 offs:∀p∈ps,p.os.length<=2/\∀t∈p.os,t∈ns
 mks:∀p∈ps,gc p.ms
theorem uI.apart{ns:Ls}{U:List (ao×V)}(h:uI ns ps U 6):Apart ns ps:=by
 refine⟨h.nd,h.ok,λp z O j x G J=>?_,h.len,h.nms,h.offs,h.mks⟩;have a:=h.used p z x G;have b:=h.used O j x J;rw[a]at b;injection b with b
 injection b
structure SR(fs:Tr)(uk:List (ao×V))(nm:Str)(j:Nat):Prop where
 nd:(fs.map (·.1)).Nodup
 used:∀x∈fs.map (·.1),bi uk (.inr x)=some (.str nm)
 ok:Ji fs
 len:fs.length<=j
inductive SS (K:Fg) (C:Addr) (vs:Lv) (H:Hp) (Q:VK) (E:XK):Prop where
 | mk (sc n:Addr) (is:List Int) (ns:Ls) (_:vs=[.ref sc,.ref n,.int 3]) (_:aa K H sc (is.map V.int)) (_:H n=some (.lst (ns.map V.str))) (_:1<=ns.length) (_:ns.length<=4) (_:∀j H' vs ps,H j=none->ac H H'->H' j=some (.lst vs)->eB C H' vs ps->Apart ns ps->Q (.ref j) H'):SS K C vs H Q E
theorem kz:aN [ayJ,ayA,azl,"_law_found","_law_used",ayP,ayz,ay8,"_law_files","_law_j","_law_path_here","_law_offers","_law_rank","_law_parcel","_law_mine"] [ayJ,ayA,azl] (av zi):=aU
theorem al2(G:Pg K mg base Pt):aA P w K mg base aJ 3 G.PAp.f G.PAp.fd [ayJ,ayA,azl] (SS K G.C):=by
 refine G.PAp.u.ok kz (λvs H Q E h=>?_) (λau A outer s H vs Q E hr h=>?_)
 . obtain⟨sc,n,is,ns,rfl,_⟩:=h;rfl
 refine qX ?_;intros;obtain⟨sc,n,is,ns,rfl,ap,hn,C1,SU,q⟩:=h;have hu:=hr.units;have a':(A.deeper (PyProof.Rows.envOfC aze (av zi) s.heap.objs.size G.PAp.f au)).units+65<cLine:=by have:=hr.un;omega
 have d5:cq 1 (A.deeper (PyProof.Rows.envOfC aze (av zi) s.heap.objs.size G.PAp.f au)):=hr.mono (by decide);refine⟨_,(ai (aH (i:=3) kz.nd rfl (Or.inl rfl) (dq eI))
  (ai (aH (i:=4) kz.nd rfl (Or.inl rfl) mj)
  (ai (eV eG rfl (E2 rfl G.B.range (aI (pv 2) (aw fO (pv 2) aj))) (bf (i:=5) kz.nd rfl (Or.inl rfl))
  (ai (aH (i:=6) kz.nd rfl (Or.inl rfl) (aB (wE G) d5 rfl (aI (pv 0) (pv 5))))
   (ai (aH (i:=7) kz.nd rfl (Or.inr rfl) (bA eR (pv 1) (aw bZ (aw fO (pv 6) (pv 5)) (cr fU (by rfl) G.B.len fc (aq (pv 1)))) (λ_ _=>rfl)))
   (ai (aH (i:=8) kz.nd rfl (Or.inl rfl) (dq eI))
   (ai (eV eG rfl (oE rfl G.B.range (aq (aw bZ (aB (gU G) d5 rfl (aI (pv 6) aj)) aj))) (bf (i:=9) kz.nd rfl (Or.inl rfl))
   (ai (aH (i:=10) kz.nd rfl (Or.inl rfl) (aB (IH G) d5 rfl (aq (aB (gU G) d5 rfl (aI (pv 6) (aw fO aj (pv 9)))))))
    (al (bV (PW.pt (tw (bW fC (dH AO awA PySem.F.type_dict_setdefault alV (pv 4) (aI (pv 10) (pv 7))) (pv 7) (bC _)) (xZ (bW abN (pv 10) (fZ [ay0] [] [] dJ rfl (cL (pv 8)) (λ_ _ _ _=>(bf (i:=0) (show List.Nodup ([ay0]:Ls) by decide +kernel) rfl (Or.inl rfl))) (λ_ _ _ _=>fY) (λ_ _ _ _=>(bA (aeL K) (pv 0) aj (λ_ _=>rfl)))) (by rfl)))))
    (al (bT (dH jf xR xS qK (pv 8) (aq (eX (aI (pv 10) (aB (CG G) hr rfl (aq (aB (gU G) d5 rfl (aI (pv 6) (aw fO aj (pv 9)))))))))))) cZ))))
   (ai (oP (i:=11) ["_law_j"] [ayA] [1] kz.nd rfl rfl dJ rfl (oE rfl G.B.range (aq (cr (aaG rfl) (by rfl) G.B.min PyProof.Rows.boot_min (aI (cr fU (by rfl) G.B.len fc (aq (pv 1))) (aw ff (aw bZ (aB (gU G) d5 rfl (aI (pv 6) aj)) aj) aj))))) (λ_ _ _ _=>(bf (i:=0) (show List.Nodup (["_law_j",ayA]:Ls) by decide +kernel) rfl (Or.inl rfl))) (λ_ _ _ _=>fY) (λ_ _ _ _=>(bA (vI K) (pv 1) (aw E9 (qG qH aj) (pv 0)) (λ_ _=>rfl))))
   (ai (aH (i:=12) kz.nd rfl (Or.inl rfl) (bA eR (dq (aI (aw bZ (aB (gU G) d5 rfl (aI (pv 6) aj)) aj) (aw bZ (pv 6) (aw Bi aj aj)))) (aw bZ (aB (gU G) d5 rfl (aI (pv 6) aj)) aj) (λ_ _=>rfl)))
   (ai (aH (i:=13) kz.nd rfl (Or.inl rfl) (tJ G.MPIn (up (alm G)) hr rfl G.TC.mgC G.PIn.b .nil cG (jm (pv 7) (jm (aB (ajS G) d5 rfl (aq (aB (gU G) d5 rfl (aI (pv 6) aj)))) (jm (pv 12) (vN (pv 8) (dq eI) (dq eI) (pv 11)))))))
   (ai (oP (i:=14) [ay0] [ay8] [7] kz.nd rfl rfl dJ rfl (cL (pv 3)) (λ_ _ _ _=>(bf (i:=0) (show List.Nodup ([ay0,ay8]:Ls) by decide +kernel) rfl (Or.inl rfl))) (λ_ _ _ _=>oO (bW fC (iV K (pv 0) rfl) (pv 1) (bC _))) (λ_ _ _ _=>(iV K (pv 0) rfl)))
   (al (bV (PW.pt (tw (bW qI (cr fU (by rfl) G.B.len fc (aq (pv 14))) aj (bC _)) (xZ (bW (afh a') (bK (pv 13) rfl) (pv 14) (by rfl)))))
   (al (bT (dH jf xR xS qK (pv 3) (aq (pv 13))))) cZ)))))))))))
  (al (aQ (pv 3)))))),?_⟩
 refine jB ?_;intro dD sS nG gu dZ;refine⟨Ab,λU Ha na sa ea=>?_⟩;refine λO Hb nb sb eb=>?_;have fu:U≠O:=aK ea nb;have zE:H O=none:=sa.free nb;refine⟨⟨by omega,by omega,by omega,by omega⟩,?_⟩;refine vx (lo:=3) (n:=6) (λi Z H2=>∃(t5 t6 t7 t8 t9 my rO rR rS rT:Option V) (vs:Lv) (ps:Lp) (uk:List (ao×V)),Z=[some (.ref sc),some (.ref n),some (.int 3),some (.ref U),some (.ref O),t5,t6,t7,t8,t9,my,rO,rR,rS,rT]/\ac H H2/\H2 U=some (.lst vs)/\H2 O=some (.dK uk)/\eB G.C (msk [U,O] H2) vs ps/\uI ns ps uk i/\uk.length<=3 * i)
  ⟨none,none,none,none,none,none,none,none,none,none,[],[],[],rfl,sa.trans sb,sb _ _ ea,eb,.nil,⟨kH,(λ_ h=>nomatch h),(λ_ h=>nomatch h),(λ_ _ h=>nomatch h),aG _,(λ_ h=>nomatch h),(λ_ h=>nomatch h),(λ_ h=>nomatch h)⟩,aG _⟩ ?_ ?_
 . intro i Z H2 hi fJ;refine bu ?_;intro tT;obtain⟨t5,t6,t7,t8,t9,my,rO,rR,rS,rT,vs,ps,uk,rfl,s2,jI,Jm,bJ,a2,ul⟩:=fJ;refine PR ?_;intros;refine⟨by omega,s2.seq ap,λa1=>?_⟩;have q5:(0:Int)<((ns.map V.str).length:Int):=by rw[ak];omega
   obtain⟨nm,Jn,a4⟩:=oR (xs:=ns) (r:=(a1+(3+(i:Int))) % ((ns.map V.str).length:Int)) (sV _ (by omega)) (by have:=vk (a1+(3+(i:Int))) q5;rw[ak]at *;exact this);refine⟨n,_,rfl,.inl (aa.of (s2 _ _ hn)),q5,aa.of (s2 _ _ hn),Jn,?_⟩;refine⟨Ab,λla H3 n3 s3 e3=>?_⟩;have lf:la≠U:=(aK jI n3).symm;have lu:la≠O:=(aK Jm n3).symm;refine⟨⟨λm1=>?_⟩⟩;refine⟨(by show(0:Int)<4;decide),by omega,by omega,?_⟩;refine vx (n:=(m1 % 4).toNat) (λj Z H3=>∃(t9 my:Option V) (pC:Lv) (fs:Tr) (uk:List (ao×V)),Z=[some (.ref sc),some (.ref n),some (.int 3),some (.ref U),some (.ref O),some (.int (3+(i:Int))),some (.int a1),some (.str nm),some (.ref la),t9,my,rO,rR,rS,rT]/\ac H H3/\H3 U=some (.lst vs)/\H3 O=some (.dK uk)/\H3 la=some (.lst pC) /\
    eB G.C (msk [la,U,O] H3) vs ps/\Paired (jJ (msk [la,U,O] H3)) pC fs/\uI ns ps uk i/\SR fs uk nm j/\uk.length<=3 * i+j)
    ⟨_,_,[],[],uk,rfl,s2.trans s3,s3 _ _ jI,s3 _ _ Jm,e3,bJ.same (alY n3 s3),.nil,a2,⟨kH,(λ_ h=>nomatch h),(λ_ h=>nomatch h),aG _⟩,ul⟩ ?_ ?_
   . intro j Z H4 hj gW;refine bu ?_;intro tT;obtain⟨Jo,Jp,pC,fs,wJ,rfl,s4,uJ,wK,Jq,wL,C2,J,jL,aR⟩:=gW;refine lq ?_;intros;have j3:j<3:=by omega
     refine⟨⟨⟨⟨λm2=>?_⟩⟩⟩⟩;refine⟨λx H5 SV s5=>?_⟩;have lx:=SV.ln;refine⟨.inr (.inr (.inl ⟨rfl,.inl ⟨_,s5 _ _ wK⟩⟩)),O,wJ,.inr x,.str nm,rfl,rfl,s5 _ _ wK,bP (by omega),λz wM H6 hz Jr Js k6=>?_⟩;have mono:∀a3 v,bi wJ a3=some v->bi wM a3=some v:=by
      rcases Jr with rfl | ⟨h1,_,rfl⟩
      . exact λ_ _ h=>h
      intro a3 v hv;rw[Bu];split
      . rename_i e;rw[e,h1]at hv;cases hv
      exact hv
     have Jt:wM.length<=3 * i+(j+1):=by
      rcases Jr with rfl | ⟨_,_,rfl⟩
      . omega
      have:=yn wJ (.inr x) (.str nm);omega
     have SW:∀k v,bi wM k=some v->∃y,v=.str y:=by
      rcases Jr with rfl | ⟨_,_,rfl⟩
      . exact J.txts
      intro k v hv;rw[Bu]at hv;split at hv
      . cases hv;exact⟨nm,rfl⟩
      exact J.txts k v hv
     obtain⟨z',rfl⟩:=SW _ _ hz;have SX:ac H H6:=λb o e=>k6 _ _ (s5 _ _ (s4 _ _ e)) (λz=>by rw[z,zE]at e;cases e);have Ju:=k6 _ _ (s5 _ _ uJ) fu;have wN:=k6 _ _ (s5 _ _ Jq) lu;have yC:ac (msk [la,U,O] H4) (msk [la,U,O] H6):=(di s5).trans (alZ λb o e Y=>k6 _ _ e (λz=>Y (by rw[z];simp)));have C3:=aF C2 λ_ _=>jJ.same yC;have SY:uI ns ps wM i:=⟨J.nd,J.ok,λp hp y hy=>mono _ _ (J.used p hp y hy),SW,J.len,J.nms,J.offs,J.mks⟩;have keep:∀(t9 my:Option V) (H7:Hp),ac H6 H7->∃(Jo Jp:Option V) (pC:Lv) (fs:Tr) (uk:List (ao×V)),[some (V.ref sc),some (.ref n),some (.int 3),some (.ref U),some (.ref O),some (.int (3+(i:Int))),some (.int a1),some (.str nm),some (.ref la),t9,my,rO,rR,rS,rT]=[some (V.ref sc),some (.ref n),some (.int 3),some (.ref U),some (.ref O),some (.int (3+(i:Int))),some (.int a1),some (.str nm),some (.ref la),Jo,Jp,rO,rR,rS,rT]/\ac H H7/\H7 U=some (.lst vs)/\H7 O=some (.dK uk)/\H7 la=some (.lst pC) /\
      eB G.C (msk [la,U,O] H7) vs ps/\Paired (jJ (msk [la,U,O] H7)) pC fs/\uI ns ps uk i/\SR fs uk nm (j+1)/\uk.length<=3 * i+(j+1):=
      λt9 my H7 s7=>⟨t9,my,pC,fs,wM,rfl,SX.trans s7,s7 _ _ Ju,s7 _ _ Js,s7 _ _ wN,wL.same (yC.trans (di s7)),aF C3 (λ_ _=>jJ.same (di s7)),SY,⟨jL.nd,λy hy=>mono _ _ (jL.used y hy),jL.ok,YG jL.len⟩,Jt⟩
     refine⟨rfl,⟨bj (λC4=>?_) (λC4=>eW (keep _ _ H6 (ac.refl _)))⟩⟩;have ez:z'=nm:=by
      have h:=cY C4;injection h
     subst ez;refine⟨⟨_,aa.of wN⟩,?_⟩;refine yr (σ0:=[none]) (aa.of wN) (λZ=>∃v,Z=[v]) (λi zs _=>zs=((fs.map (·.1)).take i).map V.str) ⟨_,rfl⟩ (λ_ _=>rfl) ?_ ?_
     . rintro D i' y zs Z H7 k hD hy ⟨v,rfl⟩ hd h7 rfl hk;obtain⟨⟨px,ls⟩,Jf,t,l,rfl,t1,t2⟩:=eK C3 hy;have a0:cu [V.str px,V.ref l] 0=some (V.str px):=rfl;refine⟨aZ.of (h7 _ _ (aV _ _ t1)),a0,?_⟩;have gz:=jL.len;refine hk _ _ _ ⟨_,rfl⟩ (ac.refl _) (bP (by rw[ak,eF,ak];omega)) ?_;rw[io,dG,Jf,dw];rfl
     rintro D zs H7 hD hd h7 rfl;have fl:=bv C3;rw[fl,<-ak (f:=(·.1)),fb]at hd;refine⟨.inl (aa.of hd),rfl,zD _,⟨bj (λBQ=>?_) (λBQ=>keep _ _ H7 h7)⟩⟩;have ab:x∉fs.map (·.1):=λhm=>by
      have h:(!mV (.str x) ((fs.map (·.1)).map V.str))=true:=BQ;rw[alW hm]at h;cases h
     refine⟨.inl ⟨rfl,_,aa.of (h7 _ _ wN)⟩,⟨⟨⟨⟨⟨λm3=>?_⟩⟩⟩⟩⟩⟩;refine⟨λl H8 ls n8 s8 e8 l4 Ta=>?_⟩;have bd:mh ls:=⟨by omega,λx hx=>(Ta x hx).ln⟩;refine⟨An,λt H9 n9 s9 e9=>?_⟩;have wO:ac H6 H9:=h7.trans (s8.trans s9);have gz:=jL.len;have b0:=bv C2;refine⟨wO _ _ wN,bP (by omega),?_⟩;have busy:∀Hx,ac H6 Hx->gJ Hx [la,U,O]:=λHx sx b Y=>by
      simp only[bc,fz,fA]at Y
      rcases Y with rfl | rfl | rfl
      . exact⟨_,sx _ _ wN,by intro vs z;cases z⟩
      . exact⟨_,sx _ _ Ju,by intro vs z;cases z⟩
      exact⟨_,sx _ _ Js,by intro vs z;cases z⟩
     have Ce:H la=none:=s2.free n3;refine⟨_,_,pC++[.ref t],fs++[(x,ls)],wM,rfl,dQ (SX.trans wO) Ce,aD (wO _ _ Ju) lf.symm,aD (wO _ _ Js) lu.symm,aE,?_,?_,SY,⟨?_,?_,?_,?_⟩,Jt⟩
     . rw[yT bM];exact wL.same (yC.trans (di wO))
     . rw[yT bM];exact jq ⟨t,l,rfl,cC ((busy H8 (h7.trans s8)).free n9) e9,cC ((busy H7 h7).free n8) (s9 _ _ e8)⟩ (aF C3 λ_ _=>jJ.same (di wO))
     . rw[dw,sT];refine⟨jL.nd,by simp,λa ha b Y=>?_⟩;have Y:b=x:=bw.mp Y;rw[Y];exact λe=>ab (e▸ha)
     . intro y hy;rw[dw]at hy
       rcases bR.mp hy with hy | hy
       . exact mono _ _ (jL.used y hy)
       have hy:y=x:=bw.mp hy;rw[hy];exact hz
     . intro f' C5
       rcases bR.mp C5 with h' | h'
       . exact jL.ok f' h'
       rw[bw.mp h'];exact⟨SV,Ta,l4⟩
     rw[bI,je];omega
   intro Z H4 gX;refine bu ?_;intro tT;obtain⟨Jo,Jp,pC,fs,wJ,rfl,s4,uJ,wK,Jq,wL,C2,J,jL,aR⟩:=gX;refine yB ?_;intros;have gz:fs.length<=3:=by have:=jL.len;omega
   refine⟨n,_,rfl,.inl (aa.of (s4 _ _ hn)),⟨⟨λm4=>?_⟩⟩⟩;obtain⟨r,o5,r0,r4,r2⟩:∃r:Int,(if m4 % 6 / 2<((ns.map V.str).length:Int) then m4 % 6 / 2 else((ns.map V.str).length:Int))=r/\0<=r/\r<=ns.length/\r<=2:=by
    refine⟨_,rfl,?_⟩;rw[ak];split<;>omega
   refine⟨(by show(0:Int)<6;decide),⟨by omega,by omega⟩,_,_,rfl,by omega,by omega,?_⟩;refine vF (σ0:=[none,some (.ref n)]) (λZ=>∃v,Z=[v,some (.ref n)]) (λi ys _=>∃ts:Ls,ys=ts.map V.str/\ts.length=i/\∀t∈ts,t∈ns) ⟨_,rfl⟩ (λ_ _=>⟨[],rfl,rfl,λ_ h=>nomatch h⟩) ?_ ?_
   . rintro D i' ys Z H5 k hD vS ⟨v,rfl⟩ hd h5 hl hk;obtain⟨ts,rfl,ax,az⟩:=hl;obtain⟨y,hy⟩:=alX (xs:=ns.map V.str) (j:=i') (by rw[ak];omega);obtain⟨y',kK,rfl⟩:∃y',y'∈ns/\y=.str y':=by
      obtain⟨jj,_,hj,_⟩:=Bs hy;obtain⟨y',m',e'⟩:=cE.mp (cX hj);exact⟨y',m',e'.symm⟩
     refine⟨_,rfl,aa.of (h5 _ _ (s4 _ _ hn)),hy,?_⟩;exact hk _ _ _ ⟨_,rfl⟩ (ac.refl _) (bP (by rw[ak];omega)) ⟨ts++[y'],tY ts y',by rw[bI,ax];rfl,λt ht=>(bR.mp ht).elim (az t) λz=>by rw[bw.mp z];exact kK⟩
   intro oa bl H5 hD hd h5 pj;refine bu ?_;intro tT;obtain⟨os,rfl,B4,af⟩:=pj;refine BO ?_;intros;refine⟨⟨λm5=>?_⟩⟩;refine⟨(by show(0:Int)<3;decide),⟨by decide,by decide,by decide⟩,(by show(0:Int)<10 ^ (9:Int).toNat;decide),An,λq0 H6 n6 s6 e6=>?_⟩;refine⟨⟨λm6=>?_⟩⟩;obtain⟨rk,an,_⟩:=FJ (ns:=[m5 % 3,a1 % 10 ^ (9:Int).toNat]) (r:=m6 % 2) (sV _ (by omega)) (by show m6 % 2<2;omega);refine⟨(by show(0:Int)<2;decide),aa.of e6,an,?_⟩;refine⟨⟨⟨λm7=>?_⟩⟩⟩;refine⟨λm H7 ms n7 s7 e7 B1=>?_⟩;refine⟨Ab,λq1 H8 n8 s8 e8=>?_⟩;refine⟨Ab,λq2 H9 n9 s9 e9=>?_⟩;have zF:ac H4 H9:=h5.trans (s6.trans (s7.trans (s8.trans s9)));refine⟨?_⟩;dsimp only[List.set,fg];refine al1 (K:=K) (C:=G.C) (rk:=rk) (nm:=nm) (mk:=ms) (fs:=fs) (s9 _ _ (s8 _ _ e7)) (zF _ _ Jq) (aF C2 λ_ _ z=>(z.same aV).same zF) (s9 _ _ e8) e9 (s9 _ _ (s8 _ _ (s7 _ _ (s6 _ _ hd)))) (by omega) λx Tb bh aC Tc=>?_;have Jv:=zF.trans aC;have Td:=Jv _ _ uJ;have Jw:eB G.C Tb vs ps:=(wL.same (di Jv)).same aV;refine⟨⟨_,aa.of Td⟩,?_⟩;refine FR (σ0:=[none,some (.str nm)]) (aa.of Td) (λZ=>∃v,Z=[v,some (.str nm)]) (λj zs _=>zs.length<=j/\∃gy,Paired (pB Tb) zs gy/\∀p∈ps.take j,p.nm=nm->p.ms∈gy) ⟨_,rfl⟩ (λ_ _=>⟨aG _,[],.nil,λ_ h=>nomatch h⟩) ?_ ?_
   . intro D j y zs Z wP k k' hD hy uA Jx uK uB fG jw;refine bu ?_;intro tT;obtain⟨v,rfl⟩:=uA;obtain⟨zl,gy,pr,pm⟩:=uB
     skip
     obtain⟨p,hp,b,dy,fl,C6,m',pf,pn,jK,po,ys,rfl,b1,b2,b3,b4,b5,b6⟩:=eK Jw hy;have aO:=(cT.mp hp).1;have il:=J.len;refine⟨uK _ _ b1,G.TC.cl,G.TC.nN,b2.name,rfl,⟨?_⟩⟩;refine bj (λh=>?_) (λh=>?_)
     . refine⟨uK _ _ b1,G.TC.cl,G.TC.nM,b2.make,?_⟩;refine fG _ _ _ ⟨_,rfl⟩ (ac.refl _) (bP (by omega)) ⟨by rw[bI,je];omega,gy++[p.ms],jq ⟨m',rfl,b3⟩ pr,λp' ce e=>?_⟩;rw[io,hp]at ce
       rcases bR.mp ce with z | z
       . exact xD _ (pm p' z e)
       have z:p'=p:=bw.mp z;rw[z];exact eU _ (bw.mpr rfl)
     refine jw _ _ ⟨_,rfl⟩ (ac.refl _) ⟨by omega,gy,pr,λp' ce e=>?_⟩;rw[io,hp]at ce
     rcases bR.mp ce with z | z
     . exact pm p' z e
     have z:p'=p:=bw.mp z;rw[z]at e;exact absurd (by rw[e];exact bE rfl) h
   intro D zs wP hD Jx uK zk;refine bu ?_;intro tT;obtain⟨zl,gy,pr,pm⟩:=zk;refine lq ?_;intros;rw[bv Jw,fb]at pm;have pD:=Jv.trans uK;have il:=J.len;have b7:=bv Jw;have keep:∀(a5 a6 a7 a8 a9 Jy Jz JA JB JC:Option V),∃(t5 t6 t7 t8 t9 my rO rR rS rT:Option V) (vs:Lv) (ps:Lp) (uk:List (ao×V)),[some (V.ref sc),some (.ref n),some (.int 3),some (.ref U),some (.ref O),a5,a6,a7,a8,a9,Jy,Jz,JA,JB,JC]=[some (V.ref sc),some (.ref n),some (.int 3),some (.ref U),some (.ref O),t5,t6,t7,t8,t9,my,rO,rR,rS,rT]/\ac H wP/\wP U=some (.lst vs)/\wP O=some (.dK uk)/\eB G.C (msk [U,O] wP) vs ps/\uI ns ps uk (i+1)/\uk.length<=3 * (i+1):=
    λa5 a6 a7 a8 a9 Jy Jz JA JB JC=>⟨a5,a6,a7,a8,a9,Jy,Jz,JA,JB,JC,vs,ps,wJ,rfl,s4.trans pD,pD _ _ uJ,pD _ _ wK,wL.same ((di pD).trans (Ci λb Y=>bY _ Y)),⟨J.nd,J.ok,J.used,J.txts,YG J.len,J.nms,J.offs,J.mks⟩,by omega⟩
   refine⟨D,_,rfl,.inl (aa.of Jx),⟨⟨bj (λ_=>?_) (λ_=>eW (keep _ _ _ _ _ _ _ _ _ _))⟩⟩⟩;obtain⟨x',dx,fl,C6,m',pf,pn,jK,po,ys,ex,b1,b2,b3,b4,b5,b6⟩:=(Tc [] λ_ h=>nomatch h).same (aV.trans uK);cases ex;refine⟨b1,G.TC.cl,G.TC.nM,b2.make,⟨?_⟩⟩;refine⟨D,zs,dI ms,gy.map dI,rfl,aa.of Jx,Jj b3,SM (aF pr λ_ _=>pB.same uK),zB 8 _,(λe he=>?_),λbb Y=>⟨bj (λTe=>?_) (λ_=>keep _ _ _ _ _ _ _ _ _ _)⟩⟩
   . obtain⟨nj,_,rfl⟩:=cE.mp he;exact zB 8 _
   have Jl:ms∉gy:=λhm=>by
    have:bb=true:=Y.mpr (gD hm);rw[this]at Te;cases Te
   refine⟨.inl ⟨rfl,_,aa.of (pD _ _ uJ)⟩,pD _ _ uJ,bP (by omega),?_⟩;refine⟨_,_,_,_,_,_,_,_,_,_,vs++[.ref x],ps++[⟨nm,ms,fs,os,rk⟩],wJ,rfl,dQ (s4.trans pD) na,aE,aD (pD _ _ wK) fu.symm,?_,⟨?_,?_,?_,J.txts,?_,?_,?_,λp hp=>(bR.mp hp).elim (J.mks p) λz=>by rw[bw.mp z];exact B1⟩,by omega⟩
   . rw[yT bM];refine jq ((Tc [U,O] λb Y=>?_).same (di uK)) (wL.same ((di pD).trans (Ci λb Y=>bY _ Y)));simp only[bc,fz,fA]at Y
     rcases Y with rfl | rfl
     . exact⟨_,zF _ _ uJ,by intro vs z;cases z⟩
     exact⟨_,zF _ _ wK,by intro vs z;cases z⟩
   . rw[dw,sT];refine⟨J.nd,by simp,λa ha b Y=>?_⟩;have Y:b=gN ⟨nm,ms,fs,os,rk⟩:=bw.mp Y;rw[Y];intro e;obtain⟨p',ce,ep⟩:=cE.mp ha;rw[e]at ep;unfold gN at ep;injection ep with rc uL
     injection rc with rc
     injection rc with rc
     injection uL with uL _
     injection uL with uL
     have uL:p'.ms=ms:=(List.map_inj_right λx y z=>Sum.inl.inj z).mp uL;exact Jl (uL▸pm p' ce rc)
   . intro p' ce
     rcases bR.mp ce with z | z
     . exact J.ok p' z
     rw[bw.mp z];exact⟨gz,jL.ok,jL.nd⟩
   . intro p' ce
     rcases bR.mp ce with z | z
     . exact J.used p' z
     rw[bw.mp z];exact jL.used
   . rw[bI,je];omega
   . intro p' ce
     rcases bR.mp ce with z | z
     . exact J.nms p' z
     rw[bw.mp z];exact cX a4
   intro p' ce
   rcases bR.mp ce with z | z
   . exact J.offs p' z
   rw[bw.mp z];exact⟨by show os.length<=2;omega,af⟩
 intro Z H2 zn;refine bu ?_;intro tT;obtain⟨t5,t6,t7,t8,t9,my,rO,rR,rS,rT,vs,ps,uk,rfl,s2,jI,Jm,bJ,a2,ul⟩:=zn;exact⟨q U H2 vs ps na s2 jI (bJ.same aV) a2.apart⟩
open HT (At cx ic yO kin Ca uq)
def kk(p:cD):List At:=[.inl (-p.rk),.inr p.nm]
theorem C7(a b:cD):cx (kk a) (kk b)=true↔b.rk<a.rk\/(a.rk=b.rk/\a.nm.cps.toList<b.nm.cps.toList):=by
 unfold kk;rw[Ca]
 by_cases h:(Sum.inl (-a.rk):At)=Sum.inl (-b.rk)
 . have h':a.rk=b.rk:=by injection h with h;omega
   rw[am h,Ca]
   by_cases n:(Sum.inr a.nm:At)=Sum.inr b.nm
   . rw[am n];injection n with n
     constructor
     . intro z;cases z
     rintro(z | ⟨_,z⟩)
     . omega
     rw[n]at z;exact absurd z (YH _)
   rw[ag n];show decide (a.nm.cps.toList<b.nm.cps.toList)=true↔_;rw[YI];constructor
   . exact λz=>.inr ⟨h',z⟩
   rintro(z | ⟨_,z⟩)
   . omega
   exact z
 rw[ag h];have h':a.rk≠b.rk:=λz=>h (by rw[z]);show decide (-a.rk < -b.rk)=true↔_;rw[YI];constructor
 . intro z;exact .inl (by omega)
 rintro(z | ⟨z,_⟩)
 . omega
 exact absurd z h'
theorem amd(a b:cD):ic (kk a) (kk b):=by
 unfold kk;rw[uq];split
 . rw[uq];split
   . exact True.intro
   exact True.intro
 exact True.intro
theorem ame(a:cD):cx (kk a) (kk a)=false:=by
 cases z:cx (kk a) (kk a) with
 | false=>rfl
 | true=>
  rcases(C7 a a).mp z with h | ⟨_,h⟩
  . omega
  exact absurd h (YH _)
theorem amf(a b c:cD)(h1:cx (kk a) (kk b)=true)(h2:cx (kk b) (kk c)=true):cx (kk a) (kk c)=true:=by
 rw[C7]at *
 rcases h1 with h1 | ⟨e1,h1⟩
 . rcases h2 with h2 | ⟨e2,h2⟩
   . exact .inl (by omega)
   exact .inl (by omega)
 rcases h2 with h2 | ⟨e2,h2⟩
 . exact .inl (by omega)
 exact .inr ⟨e1.trans e2,List.lt_trans h1 h2⟩
theorem amg(a b:cD)(h1:cx (kk a) (kk b)=false)(h2:cx (kk b) (kk a)=false):a.nm=b.nm:=by
 have n1:¬(b.rk<a.rk\/(a.rk=b.rk/\a.nm.cps.toList<b.nm.cps.toList)):=λz=>by rw[<-C7,h1]at z;cases z
 have n2:¬(a.rk<b.rk\/(b.rk=a.rk/\b.nm.cps.toList<a.nm.cps.toList)):=λz=>by rw[<-C7,h2]at z;cases z
 have e:a.rk=b.rk:=by
  have x1:¬b.rk<a.rk:=λz=>n1 (.inl z);have J:¬a.rk<b.rk:=λz=>n2 (.inl z);omega
 have j:¬a.nm.cps.toList<b.nm.cps.toList:=λz=>n1 (.inr ⟨e,z⟩);have G:¬b.nm.cps.toList<a.nm.cps.toList:=λz=>n2 (.inr ⟨e.symm,z⟩);have eq:a.nm.cps.toList=b.nm.cps.toList:=YD G j;have ext:∀x y:Str,x.cps.toList=y.cps.toList->x=y:=λ⟨⟨x⟩⟩ ⟨⟨y⟩⟩ h=>by
  have h:x=y:=h;rw[h]
 exact ext _ _ eq
def C8(off:Lp)(p:cD):Prop:=p∈off/\∀q∈off,cx (kk q) (kk p)=false
theorem C8.eq{off z:Lp}{p j:cD}(h:C8 off p)(h':C8 z j)(m:∀q,q∈off↔q∈z):p.nm=j.nm:=
 amg p j (h'.2 p ((m p).mp h.1)) (h.2 j ((m j).mpr h'.1))
def NB(off:Lp)(j:Option Str)(r:Str):Prop:=(j=some r/\r∈off.map cD.nm)\/((∀x,j=some x->x∉off.map cD.nm)/\∃p,C8 off p/\r=p.nm)
theorem NB.eq{off z:Lp}{Y:Option Str}{r U:Str}(h:NB off Y r)(h':NB z Y U)(m:∀q,q∈off↔q∈z):r=U:=by
 have O:∀x,x∈off.map cD.nm↔x∈z.map cD.nm:=λx=>by
  rw[cE,cE];exact⟨λa0=>a0.elim λp a1=>a1.elim λa b=>⟨p,(m p).mp a,b⟩,λa2=>a2.elim λp a3=>a3.elim λa b=>⟨p,(m p).mpr a,b⟩⟩
 rcases h with⟨a,b⟩ | ⟨a,p,bp,e⟩
 . rcases h' with⟨j,b'⟩ | ⟨j,p',G,J⟩
   . rw[a]at j;exact hJ j
   exact absurd ((O _).mp b) (j _ a)
 rcases h' with⟨j,b'⟩ | ⟨j,p',G,J⟩
 . exact absurd ((O _).mpr b') (a _ j)
 rw[e,J];exact bp.eq G m
theorem wB.fn{a_:Str}{st:Stmt}(F:wB K x a_ st f c fd):cn K x a_ st f fd:=by
 obtain⟨⟨J,O,kV,z,pm,j,ct,G,e,l,h⟩,k⟩:=F;subst e;exact⟨⟨J,O,kV,z,pm,j,.ref c,ct,G,rfl,l,h⟩,k⟩
theorem wB.ok{P:Program}{w:World}{mg:Mv}{base:Heap}{a_:Str}{st:Stmt}{N ps:Ls}{k:Nat}{sp:Sp}(F:wB K x a_ st f c fd)(S:aN N ps (av st))(len:∀vs H Q E,sp vs H Q E->vs.length=ps.length)
 (O:∀(A:Around) (outer:List Env) (s:Shared) (H:Hp) (vs:Lv) (Q:VK) (E:XK),cq k (A.deeper (envOfC a_ (av st) s.heap.objs.size f (.ref c)))->sp vs H Q E ->
  ∃t,cg (kS aJ P w K mg base N a_ (av st) f (.ref c) A outer s H E).nox (cF st) t/\t { nx:=λ_ H'=>Q .non H',rt:=Q } (start N vs) H):aA P w K mg base aJ (k+1) f fd ps sp:=by
 obtain⟨oc,od,kV,Y,pm,U,ct,iQ,rfl,J,z⟩:=F.ex;refine Fq J z S len λA outer s H vs Q E j G=>?_;obtain⟨t,h,q⟩:=O A outer s H vs Q E j G;exact⟨t,h.nox,q⟩
inductive Tf (C:Addr):Sp where
 | mk {H:Hp}{Q:VK}{E:XK}{a:Addr}{xs:Lv}{ps:Lp} (_:H a=some (.lst xs)) (_:eB C H xs ps) (_:ps.length<=6) (_:(∀p∈ps,p.os.length<=2)) (_:∀r H' (cs:Ls),H r=none->ac H H'->H' r=some (.lst (cs.map V.str))->cs.Nodup->(∀c,c∈cs↔∃p∈ps,c∈p.os)->cs.length<=12->Q (.ref r) H'):Tf C [.ref a] H Q E
theorem JD:aN [ayF,"commons",ayD] [ayF] (av HN):=aU
theorem aml(J:Pg K mg base Pt):aA P w K mg base aJ 1 J.Com.f J.Com.fd [ayF] (Tf J.C):=by
 refine J.Com.u.okL JD ?_;intro au A outer s H vs Q E hr h xX dX;obtain @⟨_,_,_,a,xs,ps,Y,U,h6,GD,q⟩:=h;refine⟨_,(ai (aH (i:=1) JD.nd rfl (Or.inl rfl) (dq eI))
  (ai (eV eG rfl (cL (pv 0)) (bf (i:=2) JD.nd rfl (Or.inl rfl))
  (al (bT (dH jf qt qv mW (pv 1) (aq (bK (pv 2) rfl))))))
  (al (aQ (cr (QA rfl) (by rfl) J.B.sorted xQ (aq (eJ (ahK rfl) (by rfl) J.B.set YJ (aq (pv 1))))))))),?_⟩
 refine jA ?_;intro dD sS gu dZ;refine⟨Ab,λc H1 n1 s1 e1=>?_⟩;refine⟨⟨_,aa.of (s1 _ _ Y)⟩,?_⟩;refine iN (xs:=xs) (λi Z H2=>∃u,Z=[some (.ref a),some (.ref c),u]/\ac H H2/\H2 c=some (.lst (((ps.take i).flatMap cD.os).map V.str))/\((ps.take i).flatMap cD.os).length<=2 * i) ⟨none,rfl,s1,e1,aG _⟩ ?_ ?_ ?_
 . intro i Z H2 hi fJ;refine bu ?_;intro tT;obtain⟨u,rfl,G,_⟩:=fJ;exact aa.of (G _ _ Y)
 . intro i x Z H2 hx gW;refine bu ?_;intro tT;obtain⟨u,rfl,G,O,hl⟩:=gW;obtain⟨p,j,b,dy,fl,rk,m,pf,pn,jK,po,ys,rfl,h1,h2,h3,h4,h5,JE,_⟩:=eK U hx;have hi:=(cT.mp j).1;have ho:=GD p (cX j);refine⟨.inl ⟨rfl,_,aa.of O⟩,G _ _ h1,J.TC.cl,J.TC.nO,h2.offers,O,G _ _ JE,lg (by rw[ak,ak];omega),?_⟩;refine⟨_,rfl,dQ G n1,?_,?_⟩
   . rw[aE,io,j,EM,dw];simp
   have e2:(List.flatMap cD.os (some p).toList)=p.os:=by simp
   rw[io,j,EM,bI,e2];omega
 intro Z H2 gX;refine bu ?_;intro tT;obtain⟨u,rfl,G,O,hl⟩:=gX;rw[bv U,fb]at O hl;refine⟨c,_,rfl,aa.of O,by omega,λr zs H3 n3 s3 e3 nd mem=>?_⟩;have lz:=jD nd λz hz=>(mem z).mp hz;refine⟨r,zs,rfl,e3,by omega,λcj j hs=>λl H4 n4 s4 e4=>?_⟩;refine q l H4 cj (G.free (s3.free n4)) (G.trans (s3.trans s4)) e4 (j.nodup_iff.mpr nd) (λz=>?_) (by rw[j.length_eq];omega);rw[j.mem_iff,mem z,vo]
end
section
open HT (At cx ic)
variable {H:Hp}{qu:Str}
theorem zH{z:Str}{xs:Ls}:mV (.str z) (xs.map V.str)=true↔z∈xs:=by
 unfold mV;rw[vj];constructor
 . rintro⟨v,hv,e⟩;obtain⟨y,j,rfl⟩:=cE.mp hv;have:y=z:=by simpa [kW]using e
   rw[<-this];exact j
 intro h;exact⟨.str z,gD h,by simp[kW]⟩
theorem amm{xs:Ls}:mV .non (xs.map V.str)=false:=by
 unfold mV;rw[List.any_eq_false];intro v j;obtain⟨y,z,rfl⟩:=cE.mp j;simp[kW]
def rV(j:List (ao×V))(c:Str):Option Str:=match bi j (.inr c) with | some (.str y)=>some y | _=>none
def JF(j:List (ao×V)):Prop:=∀k v,bi j k=some v->∃y,v=.str y/\Ln y
theorem amn{j:List (ao×V)}(h:JF j)(c:Str):((bi j (.inr c)).getD .non=.non/\rV j c=none)\/∃y,(bi j (.inr c)).getD .non=.str y/\rV j c=some y/\Ln y:=by
 unfold rV;cases e:bi j (.inr c) with
 | none=>exact .inl ⟨rfl,rfl⟩
 | some v=>
  obtain⟨y,rfl,z⟩:=h _ _ e;exact .inr ⟨y,rfl,rfl,z⟩
def gY(c:Str)(ps:Lp):Lp:=ps.filter λp=>decide (c∈p.os)
theorem Tg{ps:Lp}{i:Nat}{p:cD}(h:ps[i]?=some p)(c:Str):gY c (ps.take (i+1))=gY c (ps.take i)++(if c∈p.os then [p] else []):=by
 unfold gY;rw[alQ h]
 by_cases z:c∈p.os
 . simp[z]
 simp[z]
theorem Th:∀{vs:Lv}{ps:Lp},eB C H vs ps->∃as:List Addr,vs=as.map V.ref
 | _,_,.nil=>⟨[],rfl⟩
 | _,_,.cons r t=>by
  obtain⟨a,_,_,_,_,_,_,_,_,_,rfl,_⟩:=r;obtain⟨as,rfl⟩:=Th t;exact⟨a::as,rfl⟩
def pz:cD:=⟨Str.empty,[],[],[],0⟩
theorem TabSt.at{lp:Pos}(h:TabSt H Pt lp qu):∃φ,H Pt=some (.ext φ):=by
 rcases h with z | ⟨c',z,_⟩
 . exact⟨_,z⟩
 exact⟨_,z⟩
theorem TabSt.ne{lp:Pos}(h:TabSt H Pt lp qu){o:HO}(e:H b=some o)(n:∀φ,o≠.ext φ):b≠Pt:=λz=>by
 obtain⟨φ,w⟩:=TabSt.at h;rw[z,w]at e;cases e;exact n _ rfl
theorem TabSt.new{lp:Pos}(h:TabSt H Pt lp qu)(e:H b=none):b≠Pt:=λz=>by
 obtain⟨φ,w⟩:=TabSt.at h;rw[z,w]at e;cases e
def fL:Pos:=match cF wf with
 | [_,_,_,.Return (some (.Attribute (.Call _ _ [⟨_,.Lambda _ _ _ p,_⟩] _) _ _)) _]=>p
 | _=>⟨0,0,0,0⟩
def fq:Str:="name_behind.<locals>.<lambda>"
inductive Ti (C Pt:Addr):Sp where
 | mk {H:Hp}{Q:VK}{E:XK}{a h:Addr}{c:Str}{xs:Lv}{px:Lp}{j:List (ao×V)} (_:H a=some (.lst xs)) (_:eB C H xs px) (_:px.length<=6) (_:(∃p∈px,c∈p.os)) (_:H h=some (.dK j)) (_:JF j) (_:(∀p∈px,Ln p.nm)) (_:TabSt H Pt fL fq) (_:∀r H',lB Pt H H'->TabSt H' Pt fL fq->Ln r->NB (gY c px) (rV j c) r->Q (.str r) H'):Ti C Pt [.str c,.ref a,.ref h] H Q E
theorem JG:aN [ayZ,ayF,ayN,"offering","told"] [ayZ,ayF,ayN] (av wf):=aU
theorem amo(G:Pg K mg base Pt):aA P w K mg base aJ 3 G.NBe.f G.NBe.fd [ayZ,ayF,ayN] (Ti G.C Pt):=by
 refine G.FN.ok JG (λvs H Q E h=>?_) (λA outer s H vs Q E hr h=>?_)
 . cases h;rfl
 refine qX ?_;intros;obtain @⟨_,_,_,a,h,J,xs,px,hk,ha,bJ,h6,hex,hh,hok,a5,a1,q⟩:=h;have hu:=hr.units;have d5:cq 1 (A.deeper (envOfC azj (av wf) s.heap.objs.size G.NBe.f (.ref G.cN))).in1:=hr.in1;refine⟨_,(ai (oP (i:=3) [ayD] [ayZ] [0] JG.nd rfl rfl dJ rfl (cL (pv 1)) (λ_ _ _ _=>(bf (i:=0) (show List.Nodup ([ayD,ayZ]:Ls) by decide +kernel) rfl (Or.inl rfl))) (λ_ _ _ _=>oO (bW (Py K) (pv 1) (iV K (pv 0) rfl) (by rfl))) (λ_ _ _ _=>(pv 0)))
  (ai (aH (i:=4) JG.nd rfl (Or.inl rfl) (FF hu (pv 2) (pv 0) ⟨rfl,rfl,rfl,rfl⟩))
  (yA (bV (bW OA (pv 4) (fZ [ayD] [] [] dJ rfl (cL (pv 3)) (λ_ _ _ _=>(bf (i:=0) (show List.Nodup ([ayD]:Ls) by decide +kernel) rfl (Or.inl rfl))) (λ_ _ _ _=>fY) (λ_ _ _ _=>(iV K (pv 0) rfl))) (by rfl))
  (al (aQ (pv 4))) cZ)
  (al (aQ (bK (aiB (c:=G.cN) (P:=Pt) (x:=ayD) (a_:=fq) (pv 3) ⟨rfl,rfl,rfl,by decide +kernel,rfl,by decide +kernel,by decide +kernel⟩ d5 rfl rfl G.hN G.hB rfl G.B.min
   (λ_ _ _ _ _ _ _=>eX (aI (qG qH (iV K (pv 0) rfl)) (iV K (pv 0) rfl))) (λ_ _ _ _=>rfl)) rfl)))))),?_⟩
 refine jA ?_;intro dD sS gu dZ;refine⟨⟨_,aa.of ha⟩,?_⟩;intro D hD;refine rM (σ0:=[none,some (.str J)]) hD (aa.of ha) (λZ=>∃v,Z=[v,some (.str J)]) (λj zs H3=>zs.length<=j/\eB G.C H zs (gY J (px.take j))) ⟨_,rfl⟩ ⟨aG _,.nil⟩ ?_ ?_
 . rintro j y zs Z H3 k k' hy ⟨v,rfl⟩ cV h3 ⟨zl,Y⟩ fG jw;obtain⟨p,O,hE⟩:=eK bJ hy;obtain⟨b,dy,fl,rk,m,pf,pn,jK,po,ys,rfl,U,b2,b3,b4,b5,b6,b7⟩:=id hE;have aO:=(cT.mp O).1;refine⟨h3 _ _ U,G.TC.cl,G.TC.nO,b2.offers,.inl (aa.of (h3 _ _ b6)),rfl,zD _,⟨?_⟩⟩;refine bj (λh=>?_) (λh=>?_)
   . have gQ:J∈p.os:=zH.mp h;refine⟨fG _ _ _ ⟨_,rfl⟩ (ac.refl _) (bP (by omega)) ⟨by rw[bI,je];omega,?_⟩⟩;rw[Tg O,am gQ];exact jq hE Y
   have gQ:J∉p.os:=λz=>h (zH.mpr z);refine jw _ _ ⟨_,rfl⟩ (ac.refl _) ⟨by omega,?_⟩;rw[Tg O,ag gQ,lL];exact Y
 rintro zs H3 cV h3 ⟨zl,Y⟩;rw[bv bJ,fb]at Y;have a9:zs.length<=6:=by have:=bv bJ;omega
 have a8:0<(gY J px).length:=by
  obtain⟨p,O,hc⟩:=hex;exact awO (mH.mpr ⟨O,bE hc⟩)
 have a2:∀p∈gY J px,Ln p.nm:=λp O=>a5 p (mH.mp O).1;refine⟨.inl ⟨_,.inl (h3 _ _ hh)⟩,_,cU.k (k:=.inr J) (h3 _ _ hh),?_⟩;refine⟨λσ5 H5=>(∃v,σ5=[some (.str J),some (.ref a),some (.ref h),some (.ref D),some v])/\ac H3 H5/\∀x,rV hk J=some x->x∉(gY J px).map cD.nm,?_,?_⟩
 . rcases amn hok J with⟨e,et⟩ | ⟨y,e,et,hy⟩
   . rw[e];refine⟨⟨_,aa.of cV⟩,?_⟩;refine yr (σ0:=[none]) (aa.of cV) (λZ=>∃v,Z=[v]) (λj kB _=>kB=(((gY J px).take j).map cD.nm).map V.str) ⟨_,rfl⟩ (λ_ _=>rfl) ?_ ?_
     . rintro D2 j y' kB Z H4 k zI kK ⟨v,rfl⟩ uM h4 rfl eg;obtain⟨p,O,b,dy,fl,rk,m,pf,pn,jK,po,ys,rfl,U,b2,b3,b4,b5,b6,b7⟩:=eK Y kK;have aO:=(cT.mp kK).1;refine⟨h4 _ _ (h3 _ _ U),G.TC.cl,G.TC.nN,b2.name,eg _ _ _ ⟨_,rfl⟩ (ac.refl _) (bP (by rw[ak,ak,eF];omega)) ?_⟩;rw[io,O,dw,dw];rfl
     rintro D2 kB H4 zI uM h4 rfl;rw[bv Y,fb]at uM;refine⟨.inl (aa.of uM),rfl,zD _,⟨?_⟩⟩;refine bj (λh=>?_) (λ_=>⟨⟨_,rfl⟩,h4,λx z=>by rw[et]at z;cases z⟩);have h:mV .non (((gY J px).map cD.nm).map V.str)=true:=h;rw[amm]at h;cases h
   rw[e];refine⟨⟨_,aa.of cV⟩,?_⟩;refine yr (σ0:=[none]) (aa.of cV) (λZ=>∃v,Z=[v]) (λj kB _=>kB=(((gY J px).take j).map cD.nm).map V.str) ⟨_,rfl⟩ (λ_ _=>rfl) ?_ ?_
   . rintro D2 j y' kB Z H4 k zI kK ⟨v,rfl⟩ uM h4 rfl eg;obtain⟨p,O,b,dy,fl,rk,m,pf,pn,jK,po,ys,rfl,U,b2,b3,b4,b5,b6,b7⟩:=eK Y kK;have aO:=(cT.mp kK).1;refine⟨h4 _ _ (h3 _ _ U),G.TC.cl,G.TC.nN,b2.name,eg _ _ _ ⟨_,rfl⟩ (ac.refl _) (bP (by rw[ak,ak,eF];omega)) ?_⟩;rw[io,O,dw,dw];rfl
   rintro D2 kB H4 zI uM h4 rfl;rw[bv Y,fb]at uM;refine⟨.inl (aa.of uM),rfl,zD _,⟨?_⟩⟩;have mz:=h3.trans h4;refine bj (λh=>?_) (λh=>⟨⟨_,rfl⟩,h4,λx z=>by
    rw[et]at z;cases z;exact λm=>h (zH.mpr m)⟩)
   exact⟨q y H4 (λx o ex _=>mz _ _ ex) (a1.same mz) hy (.inl ⟨et,zH.mp h⟩)⟩
 intro σ5 H5 fJ;refine bu ?_;intro tT;obtain⟨⟨v,rfl⟩,s5,QO⟩:=fJ;obtain⟨as,JH⟩:=Th Y;have kC:ac H H5:=h3.trans s5;have a6:=Y.same kC;have jb:TabSt H5 Pt fL fq:=a1.same kC;have rW:H5 D=some (.lst (as.map V.ref)):=by rw[<-JH];exact s5 _ _ cV
 have a4:=bv Y;rw[JH,ak]at a4;have a0:∀(i:Nat) (b:Addr),as[i]?=some b->∃p,(gY J px)[i]?=some p/\ju G.C H5 (.ref b) p:=λi b hi=>by
  have:zs[i]?=some (V.ref b):=by rw[JH,dG,hi];rfl
  exact eK a6 this
 have gd:∀(i:Nat) (p:cD),(gY J px)[i]?=some p->(gY J px).getD i pz=p:=λi p hi=>by
  rw[MX,hi];rfl
 refine⟨D,as,λi=>kk ((gY J px).getD i pz),rfl,TabSt.ne jb rW (by intro φ z;cases z),rW,by omega,λi j=>amd _ _,λi j l=>amf _ _ _,λi=>ame _,jb,λi b hi H2 kp=>?_,λi b H' hi a3 kp wR=>?_⟩
 . obtain⟨p,O,hE⟩:=a0 i b hi;obtain⟨b',dy,fl,rk,m,pf,pn,jK,po,ys,eb,U,b2,b3,b4,b5,b6,b7⟩:=hE;cases eb;have C9:=kp _ _ U (TabSt.ne jb U (by intro φ z;cases z));have Tj:=b2.rank;rw[b7.1]at Tj;refine⟨C9,G.TC.cl,G.TC.nR,Tj,_,rfl,C9,G.TC.cl,G.TC.nN,b2.name,An,λkt a7 n3 s3 e3=>⟨kt,rfl,s3,?_⟩⟩;rw[e3];dsimp only;rw[gd i p O];rfl
 obtain⟨p,O,hE⟩:=a0 i b hi;obtain⟨b',dy,fl,rk,m,pf,pn,jK,po,ys,eb,U,b2,b3,b4,b5,b6,b7⟩:=hE;cases eb;have C9:=kp _ _ U (TabSt.ne jb U (by intro φ z;cases z));have pm:p∈gY J px:=cX O;refine⟨C9,G.TC.cl,G.TC.nN,b2.name,q p.nm H' (λx o ex nx=>kp _ _ (kC _ _ ex) nx) wR (a2 p pm) (.inr ⟨QO,p,⟨pm,λq' ir=>?_⟩,rfl⟩)⟩;obtain⟨j,hj⟩:=List.getElem?_of_mem ir;have:=a3 j (by have:=(cT.mp hj).1;omega);dsimp only at this;rw[gd j q' hj,gd i p O]at this;exact this
end
section
variable {β:Type}{kvs:List (ao×V)}{f:Str×Ls}{H:Hp}{ps:Ls}
theorem gZ{Hk:Hp}{o o':HO}(h:Hk a=some o)(n:a≠p):ah Hk p o' a=some o:=by rw[aW n];exact h
def gz(d b:Addr)(v:V):List (Str×V):=[(ayM,.ref d),("book",.ref b),("left",v)]
theorem amt(d b:Addr):ay "left" .non (ay "book" (.ref b) (ay ayM (.ref d) []))=gz d b .non:=rfl
theorem Db(d b:Addr)(v:V):(gz d b v).lookup (ayM:Str)=some (.ref d):=rfl
theorem Tk(d b:Addr)(v:V):(gz d b v).lookup ("book":Str)=some (.ref b):=rfl
theorem amu(d b:Addr)(v:V):(gz d b v).lookup ("left":Str)=some v:=rfl
inductive Tl (C:Addr):Sp where
 | mk {H:Hp}{Q:VK}{E:XK}{x dx d b:Addr} (_:H x=some (.ins C dx (gz d b .non))) (_:Q .non H):Tl C [.ref x] H Q E
theorem amv:aN [ayy] [ayy] (av we):=aU
theorem JI(j:Pg K mg base Pt):aA P w K mg base aJ 1 j.DTk.f j.DTk.fd [ayy] (Tl j.D):=by
 refine j.DTk.u.okL amv ?_;intro G A outer s H vs Q E O h U J;obtain @⟨_,_,_,x,dx,d,b,z,q⟩:=h;refine⟨_,(ai (bV (bW aaw (bK (pv 0) rfl) jW (bC _)) (al Nu) cZ) EW),?_⟩;exact⟨z,j.UD.cl,j.UD.nL,amu _ _ _,rfl,⟨fE q⟩⟩
inductive JJ (C:Addr):Sp where
 | mk {H:Hp}{Q:VK}{E:XK}{x dx:Addr} (_:H x=some (.ins C dx [])) (_:∀d b H',H d=none->H b=none->H' x=some (.ins C dx (gz d b .non))->H' d=some (.dK [])->H' b=some (.lst [])->(∀p o,H p=some o->p≠x->H' p=some o)->Q .non H'):JJ C [.ref x] H Q E
theorem amw:aN [ayy] [ayy] (av v7):=aU
theorem amx(j:Pg K mg base Pt):aA P w K mg base aJ 1 j.DIn.f j.DIn.fd [ayy] (JJ j.D):=by
 refine j.DIn.u.okL amw ?_;intro au A outer s H vs Q E hr h xX dX;obtain @⟨_,_,_,x,dx,hx,q⟩:=h;refine⟨_,(ai (iP (pv 0) mj rfl)
  (ai (iP (pv 0) (dq eI) rfl)
  (al (iP (pv 0) jW rfl)))),?_⟩
 refine λd H1 n1 J e1=>?_;have U:d≠x:=(aK hx n1).symm;refine⟨J _ _ hx,j.UD.cl,j.UD.nF,by show 0<1000;decide,?_⟩;refine⟨Ab,λb H2 n2 O e2=>?_⟩;have Y:=kX n2;have h2:=O _ _ (aE (H:=H1) (a:=x) (o:=.ins j.D dx (ay ayM (.ref d) [])));have d2:=O _ _ (gZ (p:=x) (o':=.ins j.D dx (ay ayM (.ref d) [])) e1 U);have bx:b≠x:=Y.1;have bd:d≠b:=be d2 e2 (by intro z;cases z);refine⟨h2,j.UD.cl,j.UD.nB,by show 1<1000;decide,?_⟩;refine⟨aE,j.UD.cl,j.UD.nL,by show 2<1000;decide,?_⟩;rw[amt];refine q d b _ n1 (J.free Y.2) aE (gZ (gZ d2 U) U) (gZ (gZ e2 bx) bx) λp o e G=>gZ (gZ (O _ _ (gZ (J _ _ e) G)) G) G
inductive Tp (K:Fg) (C:Addr):Sp where
 | mk {H:Hp}{Q:VK}{E:XK}{x dx d b l:Addr}{p:Str}{j:List (ao×V)}{ys:Lv} (_:H x=some (.ins C dx (gz d b .non))) (_:H d=some (.dK j)) (_:H l=some (.lst ys)) (_:j.length<=500) (_:∀q H',H q=none->H' d=some (.dK (cQ j (.inr p) (.ref q)))->H' q=some (.lst ys)->(∀p o,H p=some o->p≠d->H' p=some o)->Q .non H'):Tp K C [.ref x,.str p,.ref l] H Q E
theorem amy:aN [ayy,ayG,ayO] [ayy,ayG,ayO] (av wa):=aU
theorem amz(j:Pg K mg base Pt):aA P w K mg base aJ 2 j.DPt.f j.DPt.fd [ayy,ayG,ayO] (Tp K j.D):=by
 refine j.DPt.u.okL amy ?_;intro au A outer s H vs Q E U h xX dX;obtain @⟨_,_,_,x,dx,d,b,l,p,kd,ys,G,hd,Y,pE,q⟩:=h;have hu:=U.units;refine⟨_,(ai (bT (fh (pv 0) j.UD.cl j.UD.mDTk (up (JI j)) U j.DTk.b .nil cG))
  (al (iR hu (bK (pv 0) rfl) (pv 1) (eJ mf (by rfl) j.B.list jT (aq (pv 2))) rfl))),?_⟩
 refine⟨G,rfl,G,?_⟩;refine⟨l,_,rfl,.inl (aa.of Y),λq' H2 n2 J e2=>?_⟩;have O:=J _ _ hd;refine⟨J _ _ G,j.UD.cl,j.UD.nF,Db _ _ _,fV.k (k:=.inr p) O (bP (by omega)),?_⟩;exact q q' _ n2 aE (gZ e2 (be e2 O (by intro z;cases z))) λp o e hp=>gZ (J _ _ e) hp
inductive Tq (C:Addr):Sp where
 | mk {H:Hp}{Q:VK}{E:XK}{x dx d b:Addr}{p:Str}{j:List (ao×V)} (_:H x=some (.ins C dx (gz d b .non))) (_:H d=some (.dK j)) (_:∀H',H' d=some (.dK (if (bi j (.inr p)).isSome=true then oJ j (.inr p) else j))->(∀p o,H p=some o->p≠d->H' p=some o)->Q .non H'):Tq C [.ref x,.str p] H Q E
theorem amA:aN [ayy,ayG] [ayy,ayG] (av wb):=aU
theorem amB(j:Pg K mg base Pt):aA P w K mg base aJ 2 j.DEr.f j.DEr.fd [ayy,ayG] (Tq j.D):=by
 refine j.DEr.u.okL amA ?_;intro au A outer s H vs Q E J h xX dX;obtain @⟨_,_,_,x,dx,d,b,p,O,z,hd,q⟩:=h;have Y:=J.units;refine⟨_,(ai (bT (fh (pv 0) j.UD.cl j.UD.mDTk (up (JI j)) J j.DTk.b .nil cG))
  (al (bV (qC (vD Y (pv 1) (bK (pv 0) rfl)) (by rfl))
  (al (bT (Bx (bK (pv 0) rfl) (pv 1) ⟨rfl,rfl,rfl,rfl⟩))) cZ))),?_⟩
 refine⟨z,rfl,z,?_⟩;refine⟨z,j.UD.cl,j.UD.nF,Db _ _ _,_,cU.k (k:=.inr p) hd,⟨?_⟩⟩;cases G:bi O (.inr p) with
 | none=>exact eW (q H (by rw[G];exact hd) λp o e _=>e)
 | some v=>
  refine fE ⟨z,j.UD.cl,j.UD.nF,Db _ _ _,.inl ⟨_,.inl hd⟩,O,.inr p,v,hd,rfl,G,?_⟩;exact q _ (by rw[G];exact aE) λp o e U=>gZ e U
inductive JK (C:Addr):Sp where
 | mk {H:Hp}{Q:VK}{E:XK}{x dx d b:Addr}{y z:Str}{j:Lv} (_:H x=some (.ins C dx (gz d b .non))) (_:H b=some (.lst j)) (_:j.length<=500) (_:∀t H',H' b=some (.lst (j++[.ref t]))->H' t=some (.tup [.str y,.str z])->(∀p o,H p=some o->p≠b->H' p=some o)->Q .non H'):JK C [.ref x,.str y,.str z] H Q E
theorem amC:aN [ayy,azi,ayL] [ayy,azi,ayL] (av wc):=aU
theorem JL(j:Pg K mg base Pt):aA P w K mg base aJ 2 j.DNt.f j.DNt.fd [ayy,azi,ayL] (JK j.D):=by
 refine j.DNt.u.okL amC ?_;intro au A outer s H vs Q E hr h xX dX;obtain @⟨_,_,_,x,dx,d,b,y,z,ts,G,J,pE,q⟩:=h;refine⟨_,(ai (bT (fh (pv 0) j.UD.cl j.UD.mDTk (up (JI j)) hr j.DTk.b .nil cG))
  (al (bT (dH jf xR xS qK (bK (pv 0) rfl) (aq (eX (aI (pv 1) (pv 2)))))))),?_⟩
 refine⟨G,rfl,G,?_⟩;refine⟨G,j.UD.cl,j.UD.nB,Tk _ _ _,.inl ⟨rfl,_,aa.of J⟩,An,λt H2 n2 U e2=>?_⟩;have O:=U _ _ J;refine⟨O,bP (by omega),?_⟩;exact q t _ aE (gZ e2 (be e2 O (by intro z;cases z))) λp o e Y=>gZ (U _ _ e) Y
def ii(fs:List (Str×β))(p:Str):List (Str×β):=fs.filter λf=>decide (f.1≠p)
theorem zJ{G:ao×V->Str×β->Prop}(J:∀kv f,G kv f->kv.1=Sum.inr f.1){p:Str}{fs:List (Str×β)}(h:Paired G kvs fs):Paired G (oJ kvs (.inr p)) (ii fs p):=by
 unfold oJ ii
 induction h with
 | nil=>exact .nil
 | @cons kv f kvs fs r t j=>
  have e:=J _ _ r;rw[qj,qj]
  by_cases h:f.1=p
  . have h2:kv.1=Sum.inr p:=by rw[e,h]
    simp only[h,h2,ne_eq,not_true_eq_false,decide_false,qa,mG];exact j
  have h2:¬kv.1=Sum.inr p:=by rw[e];exact λz=>h (lK z)
  simp only[h,h2,ne_eq,not_false_eq_true,decide_true,vd];exact .cons r j
theorem zK{fs:List (Str×β)}{p:Str}(h:p∉fs.map (·.1)):ii fs p=fs:=by
 unfold ii;rw[List.filter_eq_self];intro f j;exact bE λe=>h (by rw[<-e];exact gD (f:=(·.1)) j)
theorem amD{fs:List (Str×β)}{p:Str}(h:(fs.map (·.1)).Nodup):((ii fs p).map (·.1)).Nodup:=h.sublist ((EN (l:=fs)).map _)
theorem amE(fs:List (Str×β))(p:Str):(ii fs p).length<=fs.length:=qk _ _
theorem Dc{G:ao×V->Str×β->Prop}(z:∀kv f,G kv f->kv.1=Sum.inr f.1){fs:List (Str×β)}(h:Paired G kvs fs)(p:Str):(p∈fs.map (·.1)/\(bi kvs (.inr p)).isSome=true)\/(p∉fs.map (·.1)/\bi kvs (.inr p)=none):=by
 by_cases j:p∈fs.map (·.1)
 . obtain⟨v,ls,e,_⟩:=ph z h j;exact .inl ⟨j,by rw[e];rfl⟩
 exact .inr ⟨j,yW z h j⟩
theorem Ts(h:∀y∈f.2,Ln y):W.kqdOk 9 (dS f.2)=true:=by
 simp only[dS,W.kqdOk,hX,cE];rintro d ⟨y,j,rfl⟩;exact(h y j).ok
theorem amF{fs:Tr}(h:Paired (dM H) kvs fs)(nd:(fs.map (·.1)).Nodup):(kvs.map (·.1)).Nodup:=by
 have e:kvs.map (·.1)=(fs.map (·.1)).map Sum.inr:=rp (λkv f (z:dM H kv f)=>z.1) h;rw[e];exact List.Pairwise.map Sum.inr (λa b h e=>h (lK e)) nd
inductive Tt (C:Addr):Sp where
 | mk {H:Hp}{Q:VK}{E:XK}{x dx d b:Addr}{v:V}{j:List (ao×V)}{fs:Tr} (_:H x=some (.ins C dx (gz d b v))) (_:H d=some (.dK j)) (_:Paired (dM H) j fs) (_:(fs.map (·.1)).Nodup) (_:fs.length<=500) (_:∀r H' z,H r=none->ac H H'->H' r=some (.dK z)->Paired (dn H H') z fs->Q (.ref r) H'):Tt C [.ref x] H Q E
theorem Dd:aN [ayy,ayM,ayG,ayO] [ayy] (av v8):=aU
theorem Tu(O:Pg K mg base Pt):aA P w K mg base aJ 1 O.FNo.f O.FNo.fd [ayy] (Tt O.D):=by
 refine O.FNo.u.okL Dd ?_;intro au A outer s H vs Q E hr h xX dX;obtain @⟨_,_,_,x,dx,o,b,v,kvs,ow,hx,ho,pr,nd,pE,q⟩:=h;have hu:=hr.units;refine⟨_,(ai (aH (i:=1) Dd.nd rfl (Or.inl rfl) mj)
  (ai (F3 eG rfl (bK (pv 0) rfl) (ou rfl (gE (bf (i:=2) Dd.nd rfl (Or.inl rfl)) (gE (bf (i:=3) Dd.nd rfl (Or.inl rfl)) mR)))
  (al (iR hu (pv 1) (pv 2) (eJ mf (by rfl) O.B.list jT (aq (pv 3))) rfl)))
  (al (aQ (pv 1))))),?_⟩
 have hk:∀(H':Hp) kv f,dn H H' kv f->kv.1=Sum.inr f.1:=λ_ kv f z=>z.1;refine λd H1 n1 s1 e1=>?_;have od:d≠o:=(aK ho n1).symm;refine⟨s1 _ _ hx,O.UD.cl,O.UD.nF,Db _ _ _,o,kvs,rfl,s1 _ _ ho,λob=>?_⟩;refine IJ (λi Z G=>∃u v U,Z=[some (.ref x),some (.ref d),u,v]/\(∀b z,H b=some z->b≠o->G b=some z)/\(∀b,G b=none->H b=none)/\G o=some (.frz ob (.dK kvs))/\G d=some (.dK U)/\Paired (dn H G) U (ow.take i))
  ⟨none,none,[],rfl,λb x e J=>gZ (s1 _ _ e) J,λb e=>s1.free (kX e).2,aE,gZ e1 od,.nil⟩ ?_ ?_ ?_
 . rintro i Z G ⟨u,v,U,rfl,_,_,h,_⟩;exact h
 . rintro i k v p Z G hi ⟨u,v',U,rfl,k5,f5,h5,gM,gw⟩ hp;obtain⟨⟨y,ls⟩,hf,a1,l,a2,a4⟩:=eK pr hi;have a1:k=.inr y:=a1;have a2:v=.ref l:=a2;have a4:H l=some (.lst (ls.map V.str)):=a4;subst a1 a2;have aO:=(cT.mp hf).1;have sp:ac G (ah G p (.tup [kV (.inr y),.ref l])):=fX hp;have L5:=sp _ _ (k5 _ _ a4 (be a4 ho (by intro z;cases z)));refine⟨aZ.of aE,rfl,rfl,?_⟩;refine⟨l,_,rfl,.inl (aa.of L5),λq1 H6 n6 s6 e6=>?_⟩;have Y:=sp.trans s6;have pl:=bv gw;rw[eF]at pl;refine⟨fV.k (k:=.inr y) (Y _ _ gM) (bP (by omega)),?_⟩;have IK:y∉(ow.take i).map (·.1):=by
    rw[Ye];intro hm;obtain⟨j,hj,ej⟩:=MR.mp hm;rw[eF,ak]at hj;rw[List.getElem_take]at ej;have e1:(ow.map (·.1))[j]?=some y:=by rw[hZ (by rw[ak];omega),ej]
    have e2:(ow.map (·.1))[i]?=some y:=by rw[dG,hf];rfl
    have:=(YF (l:=ow.map (·.1)) (i:=j) (j:=i) (by rw[ak];omega) nd).mp (by rw[e1,e2]);omega
   refine⟨_,_,_,rfl,λb z e J=>?_,λb e=>f5 b (Y.free (kX e).2),gZ (Y _ _ h5) od.symm,aE,?_⟩
   . rw[aW (λy=>by rw[y,n1]at e;cases e)];exact Y _ _ (k5 _ _ e J)
   rw[io,hf];have:=iZ (F:=dn H H6) (hk H6) (x:=y) (ls:=ls) (v:=.ref q1) ⟨rfl,q1,rfl,f5 _ (sp.free n6),e6⟩ (aF gw λ_ _=>dn.same Y);rw[zc IK]at this;exact aF this λ_ _=>dn.put (Y _ _ gM)
 rintro Z G ⟨u,v,U,rfl,k5,f5,h5,gM,gw⟩;rw[bv pr,fb]at gw;refine⟨q d _ U n1 (λb z e=>?_) (gZ gM od) (aF gw λkv f z=>?_)⟩
 . by_cases J:b=o
   . subst J;rw[ho]at e;cases e;exact aE
   exact gZ (k5 b z e J) J
 obtain⟨a,l,b,c,e⟩:=z;exact⟨a,l,b,c,gZ e (λy=>by rw[y,ho]at c;cases c)⟩
inductive Tv (C:Addr):Sp where
 | mk {H:Hp}{Q:VK}{E:XK}{x dx d b:Addr}{v:V}{j:Lv} (_:H x=some (.ins C dx (gz d b v))) (_:H b=some (.lst j)) (_:d8 H (.lst j) Q):Tv C [.ref x] H Q E
theorem amG:aN [ayy] [ayy] (av v9):=aU
theorem zL(j:Pg K mg base Pt):aA P w K mg base aJ 1 j.BNo.f j.BNo.fd [ayy] (Tv j.D):=by
 refine j.BNo.u.okL amG ?_;intro J A outer s H vs Q E U h xX O;obtain @⟨_,_,_,x,dx,d,b,v,Y,G,z,q⟩:=h;refine⟨_,(al (aQ (eJ mf (by rfl) j.B.list jT (aq (bK (pv 0) rfl))))),?_⟩;exact⟨G,j.UD.cl,j.UD.nB,Tk _ _ _,b,_,rfl,.inl (aa.of z),q⟩
def look(tr:List (Str×β))(k:Str):Option β:=(tr.find? λf=>decide (f.1=k)).map (·.2)
theorem jM(f:Str×β)(tr:List (Str×β))(k:Str):look (f::tr) k=if f.1=k then some f.2 else look tr k:=by
 unfold look;rw[sO]
 by_cases h:f.1=k
 . rw[am h,bE h];rfl
 rw[ag h,cy h]
theorem iG{tr:List (Str×β)}{k:Str}:look tr k=none↔k∉tr.map (·.1):=by
 induction tr with
 | nil=>exact⟨(λ_ h=>nomatch h),λ_=>rfl⟩
 | cons f tr j=>
  rw[jM,bS,bc,nZ,<-j]
  by_cases h:f.1=k
  . rw[am h];exact⟨(λz=>nomatch z),λz=>absurd h.symm z.1⟩
  rw[ag h];exact⟨λz=>⟨λe=>h e.symm,z⟩,λz=>z.2⟩
theorem nJ{tr:List (Str×β)}{k:Str}{ls:β}(h:look tr k=some ls):(k,ls)∈tr:=by
 induction tr with
 | nil=>cases h
 | cons f tr j=>
  rw[jM]at h
  by_cases e:f.1=k
  . rw[am e]at h;cases h;rw[<-e];exact bM
  rw[ag e]at h;exact bY _ (j h)
theorem uN{tr:List (Str×β)}{k:Str}{ls:β}(nd:(tr.map (·.1)).Nodup)(h:(k,ls)∈tr):look tr k=some ls:=by
 cases e:look tr k with
 | none=>exact absurd (gD (f:=(·.1)) h) (iG.mp e)
 | some j=>rw[nu nd (nJ e) h]
theorem amH(tr:List (Str×β))(g:Str×β)(k:Str):look (tr++[g]) k=(look tr k).or (if g.1=k then some g.2 else none):=by
 induction tr with
 | nil=>rw[AZ,jM];rfl
 | cons f tr j=>
  rw[qi,jM,jM,j];split<;>rfl
theorem zM(tr:List (Str×β))(p:Str)(ls:β)(k:Str):look (bN tr p ls) k=if p=k then some ls else look tr k:=by
 unfold bN;split
 . rename_i h;have hp:=rn.mp h;clear h
   induction tr with
   | nil=>cases hp
   | cons f tr J=>
    rw[bS,jM,jM]
    by_cases G:f.1=p
    . rw[am G,G]
      by_cases j:p=k
      . rw[am j,am j]
      rw[ag j,ag j,ag j];clear J hp G
      induction tr with
      | nil=>rfl
      | cons g tr J=>
       rw[bS,jM,jM,J]
       by_cases O:g.1=p
       . rw[am O,O,ag j,ag j]
       rw[ag O]
    rw[ag G];rw[bS,bc]at hp
    rcases hp with hp | hp
    . exact absurd hp.symm G
    rw[J hp]
    by_cases j:f.1=k
    . rw[am j,am j,ag (λe=>G (j.trans e.symm))]
    rw[ag j,ag j]
 rename_i h;have hp:p∉tr.map (·.1):=λz=>h (rn.mpr z);rw[amH];show(look tr k).or (if p=k then some ls else none)=_
 by_cases j:p=k
 . rw[am j,am j,<-j,iG.mpr hp];rfl
 rw[ag j,ag j];cases look tr k<;>rfl
theorem amI(tr:List (Str×β))(p k:Str):look (ii tr p) k=if p=k then none else look tr k:=by
 unfold ii
 induction tr with
 | nil=>
  show none=_;split<;>rfl
 | cons f tr z=>
  rw[qj]
  by_cases h:f.1=p
  . rw[ag (by simp[h]),z,jM]
    by_cases j:p=k
    . rw[am j,am j]
    rw[ag j,ag j,ag (λe=>j (h.symm.trans e))]
  rw[am (by simp[h]),jM,jM,z]
  by_cases j:p=k
  . rw[am j,am j,ag (λe=>h (e.trans j.symm))]
  rw[ag j,ag j]
def bL(tr:List (Str×β))(fs:List (Str×β))(p:Str):List (Str×β):=match look tr p with
 | some ls=>bN fs p ls
 | none=>ii fs p
theorem amJ(tr fs:List (Str×β))(p k:Str):look (bL tr fs p) k=if p=k then look tr k else look fs k:=by
 unfold bL;split
 . rename_i ls e;rw[zM]
   by_cases h:p=k
   . rw[am h,am h,<-h,e]
   rw[ag h,ag h]
 rename_i e;rw[amI]
 by_cases h:p=k
 . rw[am h,am h,<-h,e]
 rw[ag h,ag h]
theorem JM(tr:List (Str×β)):∀(ps:Ls) (fs:List (Str×β)) (k:Str),look (ps.foldl (bL tr) fs) k=if k∈ps then look tr k else look fs k
 | [],fs,k=>by rw[ag (by simp)];rfl
 | p::ps,fs,k=>by
  rw[lQ,JM tr ps,amJ]
  by_cases h:k∈ps
  . rw[am h,am (bY _ h)]
  rw[ag h]
  by_cases e:p=k
  . rw[am e,am (by rw[e];exact bM)]
  rw[ag e,ag (by rw[bc,nZ];exact⟨λz=>e z.symm,h⟩)]
theorem Tw{tr fs:List (Str×β)}{p:Str}(h:(fs.map (·.1)).Nodup):((bL tr fs p).map (·.1)).Nodup:=by
 unfold bL;split
 . exact ki h
 exact amD h
theorem amK(tr fs:List (Str×β))(p:Str):(bL tr fs p).length<=fs.length+1:=by
 unfold bL;split
 . exact jE _ _ _
 have:=amE fs p;omega
theorem Tx{tr:List (Str×β)}:∀{ps:Ls}{fs:List (Str×β)},(fs.map (·.1)).Nodup->((ps.foldl (bL tr) fs).map (·.1)).Nodup
 | [],_,h=>h
 | _::ps,_,h=>Tx (ps:=ps) (Tw h)
theorem Tz{tr:List (Str×β)}:∀(ps:Ls) (fs:List (Str×β)),(ps.foldl (bL tr) fs).length<=fs.length+ps.length
 | [],_=>aG _
 | p::ps,fs=>by
  have:=Tz (tr:=tr) ps (bL tr fs p);have:=amK tr fs p;rw[lQ,bU];omega
def eD(fs:Tr):Prop:=∀f∈fs,∀y∈f.2,Ln y
theorem amL{tr fs:Tr}{p:Str}(G:eD tr)(h:eD fs):eD (bL tr fs p):=by
 unfold bL;split
 . rename_i ls e;intro f j
   rcases kf j with z | z
   . rw[z];exact G _ (nJ e)
   exact h f z
 exact λf j=>h f (mH.mp j).1
theorem TB{tr:Tr}(j:eD tr):∀{ps:Ls}{fs:Tr},eD fs->eD (ps.foldl (bL tr) fs)
 | [],_,h=>h
 | _::ps,_,h=>TB j (ps:=ps) (amL j h)
abbrev JN (l:Ls):Prop:=l.Pairwise (λa b=>a.cps.toList<=b.cps.toList)
theorem amM{a b:Ls}(p:a.Perm b)(h1:JN a)(h2:JN b):a=b:=by
 refine awT (λx y _ _ h h'=>?_) h1 h2 p;have e:=YD h h';obtain⟨⟨x⟩⟩:=x;obtain⟨⟨y⟩⟩:=y;have e:x=y:=e;rw[e]
structure kD(fs tr:List (Str×β))(ps:Ls):Prop where
 srt:JN ps
 nd:ps.Nodup
 mem:∀k,k∈ps↔look fs k≠look tr k
theorem amN{α:Type}[DecidableEq α]{a b:List α}(j:a.Nodup)(G:b.Nodup)(h:∀z,z∈a↔z∈b):a.Perm b:=(List.perm_ext_iff_of_nodup j G).mpr h
theorem kD.eq{fs tr:List (Str×β)}{j:Ls}(x:kD fs tr ps)(y:kD fs tr j):ps=j:=amM (amN x.nd y.nd λz=>by rw[x.mem,y.mem]) x.srt y.srt
theorem kD.drop{fs tr:List (Str×β)}(x:kD fs tr ps)(m:Nat):kD ((ps.take m).foldl (bL tr) fs) tr (ps.drop m) where
 srt:=x.srt.sublist (List.drop_sublist m ps)
 nd:=x.nd.sublist (List.drop_sublist m ps)
 mem:=λk=>by
  rw[JM];have hd:ps=ps.take m++ps.drop m:=(awY m ps).symm;have nd:=x.nd;rw[hd,sT]at nd
  by_cases h:k∈ps.take m
  . rw[am h];exact⟨λz=>absurd rfl (nd.2.2 k h k z),λz=>absurd rfl z⟩
  rw[ag h,<-x.mem k];exact⟨λz=>MI z,λz=>by
   rw[hd]at z
   rcases bR.mp z with z | z
   . exact absurd z h
   exact z⟩
theorem kD.len{fs tr:List (Str×β)}(x:kD fs tr ps):ps.length<=fs.length+tr.length:=by
 have:=jD (ys:=fs.map (·.1)++tr.map (·.1)) x.nd λz hz=>by
  refine bR.mpr ?_
  by_cases h1:z∈fs.map (·.1)
  . exact .inl h1
  by_cases h2:z∈tr.map (·.1)
  . exact .inr h2
  exact absurd ((iG.mpr h1).trans (iG.mpr h2).symm) ((x.mem z).mp hz)
 rw[bI,ak,ak]at this;exact this
theorem kD.all{fs tr:List (Str×β)}(x:kD fs tr ps)(k:Str):look (ps.foldl (bL tr) fs) k=look tr k:=by
 rw[JM]
 by_cases h:k∈ps
 . rw[am h]
 rw[ag h]
 by_cases e:look fs k=look tr k
 . exact e
 exact absurd ((x.mem k).mpr e) h
theorem TD{fs tr:List (Str×β)}(nd:(fs.map (·.1)).Nodup)(h:∀k,look fs k=look tr k):∀f∈fs,f∈tr:=λf j=>by
 obtain⟨k,ls⟩:=f;exact nJ ((h k).symm.trans (uN nd j))
theorem TF{fs tr:List (Str×β)}(nd:(fs.map (·.1)).Nodup)(G:(tr.map (·.1)).Nodup)(h:∀k,look fs k=look tr k):fs.length=tr.length:=by
 have a:=jD (xs:=fs.map (·.1)) (ys:=tr.map (·.1)) nd λz hz=>by
  obtain⟨f,j,rfl⟩:=cE.mp hz;exact gD (f:=(·.1)) (TD nd h f j)
 have b:=jD (xs:=tr.map (·.1)) (ys:=fs.map (·.1)) G λz hz=>by
  obtain⟨f,j,rfl⟩:=cE.mp hz;exact gD (f:=(·.1)) (TD G (λk=>(h k).symm) f j)
 rw[ak,ak]at a b;omega
theorem TH{fs:Tr}(h:Paired (dM H) kvs fs)(nd:(fs.map (·.1)).Nodup)(p:Str):(look fs p=none/\bi kvs (.inr p)=none)\/(∃ls l,look fs p=some ls/\bi kvs (.inr p)=some (.ref l)/\H l=some (.lst (ls.map V.str))/\(p,ls)∈fs):=by
 have G:∀kv f,dM H kv f->kv.1=Sum.inr f.1:=λkv f z=>z.1
 by_cases j:p∈fs.map (·.1)
 . obtain⟨v,ls,e,J,r⟩:=ph G h j;obtain⟨_,l,e2,e3⟩:=r;have e2:v=.ref l:=e2;exact .inr ⟨ls,l,uN nd J,by rw[e,e2],e3,J⟩
 exact .inl ⟨iG.mpr j,yW G h j⟩
def De:Option (Ls)->W.Dat
 | none=>.none
 | some ls=>dS ls
theorem TJ:∀{a b:Ls},a.map W.Dat.str=b.map W.Dat.str->a=b
 | [],[],_=>rfl
 | [],_::_,h=>nomatch h
 | _::_,[],h=>nomatch h
 | x::a,y::b,h=>by
  rw[bS,bS]at h;injection h with h1 h2
  injection h1 with h1
  rw[h1,TJ h2]
theorem amO{a b:Option (Ls)}(h:De a=De b):a=b:=by
 cases a with
 | none=>
  cases b with
  | none=>rfl
  | some y=>cases h
 | some x=>
  cases b with
  | none=>cases h
  | some y=>
   have h:W.Dat.list (x.map W.Dat.str)=W.Dat.list (y.map W.Dat.str):=h;injection h with h
   rw[TJ h]
theorem amP{K:Fg}{fs:Tr}(h:Paired (dM H) kvs fs)(nd:(fs.map (·.1)).Nodup)(ok:eD fs)(p:Str):DV K H ((bi kvs (.inr p)).getD .non) (De (look fs p))/\W.kqdOk 9 (De (look fs p))=true:=by
 rcases TH h nd p with⟨e1,e2⟩ | ⟨ls,l,e1,e2,e3,j⟩
 . rw[e1,e2];exact⟨.non,rfl⟩
 rw[e1,e2];exact⟨iT (aa.of e3),Ts (ok _ j)⟩
def pF(fs tr:List (Str×β)):Prop:=∃U:Ls,U.length<=63/\∀k,(k∈fs.map (·.1)\/k∈tr.map (·.1))->k∈U
theorem Df{fs tr:List (Str×β)}(h:fs.length+tr.length<=63):pF fs tr:=⟨fs.map (·.1)++tr.map (·.1),by rw[bI,ak,ak];exact h,λk z=>bR.mpr z⟩
theorem pF.fst{fs tr:List (Str×β)}(h:pF fs tr)(nd:(fs.map (·.1)).Nodup):fs.length<=63:=by
 obtain⟨U,j,m⟩:=h;have:=jD nd λz hz=>m z (.inl hz);rw[ak]at this;omega
theorem pF.snd{fs tr:List (Str×β)}(h:pF fs tr)(nd:(tr.map (·.1)).Nodup):tr.length<=63:=by
 obtain⟨U,j,m⟩:=h;have:=jD nd λz hz=>m z (.inr hz);rw[ak]at this;omega
inductive Dg (Fv:Hp->ao×V->Str×β->Prop) (OK:List (Str×β)->Prop):Sp where
 | mk {H:Hp}{Q:VK}{E:XK}{a b:Addr}{j z:List (ao×V)}{fs tr:List (Str×β)} (_:H a=some (.dK j)) (_:H b=some (.dK z)) (_:Paired (Fv H) j fs) (_:Paired (Fv H) z tr) (_:(fs.map (·.1)).Nodup) (_:(tr.map (·.1)).Nodup) (_:OK fs) (_:OK tr) (_:pF fs tr) (_:∀l H' ps,H l=none->ac H H'->H' l=some (.lst (ps.map V.str))->kD fs tr ps->Q (.ref l) H'):Dg Fv OK [.ref a,.ref b] H Q E
theorem amQ:aN [ay4,ay3] [ay4,ay3] (av HC):=aU
theorem TK[DecidableEq β]{Fv:Hp->ao×V->Str×β->Prop}{OK:List (Str×β)->Prop}{dat:Option β->W.Dat}(Y:∀H kv f,Fv H kv f->kv.1=Sum.inr f.1)(hs:∀{H G:Hp}{kv:ao×V}{f:Str×β},ac H G->Fv H kv f->Fv G kv f)(hi:∀{a b:Option β},dat a=dat b->a=b)(hd:∀{H:Hp}{kvs:List (ao×V)}{fs:List (Str×β)},Paired (Fv H) kvs fs->(fs.map (·.1)).Nodup->OK fs->∀p,DV K H ((bi kvs (.inr p)).getD .non) (dat (look fs p))/\W.kqdOk 9 (dat (look fs p))=true)(J:Pg K mg base Pt):aA P w K mg base aJ 1 J.KUn.f J.KUn.fd [ay4,ay3] (Dg Fv OK):=by
 refine J.KUn.u.okL amQ ?_;intro au A outer s H vs Q E hr h xX dX;obtain @⟨_,_,_,a,b,ka,kb,fs,tr,ha,hb,pa,pb,wT,rC,JO,JP,mB,q⟩:=h;have a2:=mB.fst wT;have a4:=mB.snd rC;have hu:=hr.units;refine⟨_,(al (aQ (fZ ["key"] [ay4,ay3] [0,1] dJ rfl (cL (cr (QA rfl) (by rfl) J.B.sorted xQ (aq (aw ahN (eJ QN (by rfl) J.B.set YJ (aq (pv 0))) (eJ QN (by rfl) J.B.set YJ (aq (pv 1)))))))
  (λ_ _ _ _=>(bf (i:=0) (show List.Nodup (["key",ay4,ay3]:Ls) by decide +kernel) rfl (Or.inl rfl))) (λ_ _ _ _=>oO (bW (agC K hu) (FF hu (pv 1) (pv 0) ⟨rfl,rfl,rfl,rfl⟩) (FF hu (pv 2) (pv 0) ⟨rfl,rfl,rfl,rfl⟩) (bC _))) (λ_ _ _ _=>(pv 0))))),?_⟩
 refine⟨a,ka,fs.map (·.1),rfl,ha,rp (Y H) pa,by rw[ak];omega,λr1 TL H1 n1 s1 e1 zN m1=>?_⟩;refine⟨b,kb,tr.map (·.1),rfl,s1 _ _ hb,rp (Y H) pb,by rw[ak];omega,λr2 TM H2 n2 s2 e2 JQ m2=>?_⟩;have l1:TL.length<=fs.length:=by have:=jD zN λz hz=>(m1 z).mp hz;rwa [ak]at this
 have l2:TM.length<=tr.length:=by have:=jD JQ λz hz=>(m2 z).mp hz;rwa [ak]at this
 refine⟨r1,r2,TL,TM,rfl,rfl,aK e1 n2,s2 _ _ e1,e2,by omega,λr3 zs H3 n3 s3 e3 TN m3=>?_⟩;have l3:zs.length<=63:=by
  obtain⟨U,hU,mU⟩:=mB;have:=jD TN λz hz=>mU z ((bR.mp ((m3 z).mp hz)).imp (m1 z).mp (m2 z).mp);omega
 refine⟨r3,zs,rfl,e3,by omega,λys pm srt p H4 n4 s4 e4=>?_⟩;have rF:ac H H4:=(s1.trans s2).trans (s3.trans s4);have a3:ys.length<=63:=by rw[pm.length_eq];exact l3
 refine⟨⟨_,aa.of e4⟩,?_⟩;refine FR (K:=K) (xs:=ys.map V.str) (σ0:=[none,some (.ref a),some (.ref b)]) (aa.of e4) (λZ=>∃v,Z=[v,some (.ref a),some (.ref b)]) (λi ws _=>ws=((ys.take i).filter λk=>decide (look fs k≠look tr k)).map V.str) ⟨_,rfl⟩ (λ_ _=>rfl) ?_ ?_
 . rintro D i x ws Z H5 k k' hD O ⟨v,rfl⟩ gM s5 rfl Y eg;rw[dG]at O;cases hy:ys[i]? with
   | none=>rw[hy]at O;cases O
   | some y=>
    rw[hy]at O;cases O;have j:=rF.trans s5;obtain⟨d1,o1⟩:=hd (aF pa λ_ _=>hs j) wT JO y;obtain⟨d2,o2⟩:=hd (aF pb λ_ _=>hs j) rC JP y;refine⟨.inl ⟨_,.inl (j _ _ ha)⟩,_,cU.k (k:=.inr y) (j _ _ ha),?_⟩;refine⟨.inl ⟨_,.inl (j _ _ hb)⟩,_,cU.k (k:=.inr y) (j _ _ hb),?_⟩;refine⟨_,_,d1,d2,o1,o2,λbb lj=>⟨?_⟩⟩;have e0:(ys.take (i+1)).filter (λk=>decide (look fs k≠look tr k))=(ys.take i).filter (λk=>decide (look fs k≠look tr k))++[y].filter (λk=>decide (look fs k≠look tr k)):=by
     rw[io,hy,M7];rfl
    refine bj (λh=>?_) (λh=>?_)
    . have dg:look fs y≠look tr y:=λe=>by
       have:bb=true:=lj.mpr (by rw[e]);rw[this]at h;cases h
      refine⟨Y _ _ _ ⟨_,rfl⟩ (ac.refl _) (bP ?_) ?_⟩
      . rw[ak];have:=qk (λk=>decide (look fs k≠look tr k)) (ys.take i);rw[eF]at this;omega
      rw[e0,qj,am (bE dg),dw];rfl
    have a0:look fs y=look tr y:=by
     cases bb with
     | true=>exact hi (lj.mp rfl)
     | false=>exact absurd rfl h
    refine eg _ _ ⟨_,rfl⟩ (ac.refl _) ?_;rw[e0,qj,ag (by rw[cy (λz=>z a0)];exact cW),List.filter_nil,lL]
 rintro D ws H5 hD gM s5 rfl;rw[ak,fb]at gM;have sr:=GV srt;have a1:ys.Nodup:=pm.nodup_iff.mpr TN;refine q D H5 _ (rF.free hD) (rF.trans s5) gM ⟨sr.sublist EN,a1.sublist EN,λz=>?_⟩;rw[mH,AX];refine⟨λh=>h.2,λh=>⟨?_,h⟩⟩;rw[pm.mem_iff,m3,bR,m1,m2]
 by_cases z1:z∈fs.map (·.1)
 . exact .inl z1
 by_cases z2:z∈tr.map (·.1)
 . exact .inr z2
 exact absurd ((iG.mpr z1).trans (iG.mpr z2).symm) h
abbrev amU:Sp:=Dg dM eD
theorem amV(j:Pg K mg base Pt):aA P w K mg base aJ 1 j.KUn.f j.KUn.fd [ay4,ay3] amU:=TK (Fv:=dM) (OK:=eD) (λ_ _ _ z=>z.1) (λs z=>dM.same s z) amO (λh nd ok p=>amP h nd ok p) j
def Lu(g:Addr)(H:Hp)(kv:ao×V)(f:Str×Ls):Prop:=kv.1=.inr f.1/\∃l,kv.2=.ref l/\l≠g/\H l=some (.lst (f.2.map V.str))
theorem Lu.du{kv:ao×V}(h:Lu g H kv f):dM H kv f:=h.elim λa j=>j.elim λl z=>z.elim λb G=>G.elim λ_ c=>⟨a,l,b,c⟩
theorem Lu.kp{H':Hp}{O:List (ao×V)}(hd:H d=some (.dK O))(k:∀p o,H p=some o->p≠d->H' p=some o){kv:ao×V}(h:Lu g H kv f):Lu g H' kv f:=h.elim λa J=>J.elim λl j=>j.elim λb G=>G.elim λn c=>⟨a,l,b,n,k _ _ c (be c hd (by intro z;cases z))⟩
structure Tn(g d:Addr)(fs:Tr)(H H':Hp):Prop where
 hd:∃kd,H' d=some (.dK kd)/\Paired (Lu g H') kd fs
 kp:∀p o,H p=some o->p≠d->H' p=some o
inductive JR (C:Addr):Sp where
 | mk {H:Hp}{Q:VK}{E:XK}{x dx d b t g:Addr}{j z:List (ao×V)}{fs tr:Tr} (_:H x=some (.ins C dx (gz d b .non))) (_:H d=some (.dK j)) (_:H t=some (.dK z)) (_:d≠t) (_:Paired (Lu g H) j fs) (_:Paired (dM H) z tr) (_:(fs.map (·.1)).Nodup) (_:(tr.map (·.1)).Nodup) (_:eD fs) (_:eD tr) (_:pF fs tr) (_:(∃o,H g=some o)) (_:∀ps H',kD fs tr ps->Tn g d (ps.foldl (bL tr) fs) H H'->Q .non H'):JR C [.ref x,.ref t] H Q E
theorem TQ:aN [ayI,azb,ayG] [ayI,azb] (av Cv):=aU
theorem TR(j:Pg K mg base Pt):aA P w K mg base aJ 3 j.Tur.f j.Tur.fd [ayI,azb] (JR j.D):=by
 refine j.Tur.u.okL TQ ?_;intro au A outer s H vs Q E hr h xX dX;obtain @⟨_,_,_,x,dx,d,b,t,g,kd,kt,fs,tr,hx,hd,ht,a7,pd,pt,wT,rC,JO,JP,mB,⟨og,hg⟩,q⟩:=h;have ap:=mB.fst wT;have az:=mB.snd rC;have hu:=hr.units;have d5:cq 1 (A.deeper (PyProof.Rows.envOfC "turn_to" (av Cv) s.heap.objs.size j.Tur.f au)):=hr.mono (by decide);refine⟨_,(al (eV eG rfl (cL (aB (amV j) d5 rfl (aI (fh (pv 0) j.UD.cl j.UD.mFNo (up (Tu j)) d5 j.FNo.b .nil cG) (pv 1)))) (bf (i:=2) TQ.nd rfl (Or.inl rfl))
  (al (bV (qC (vD hu (pv 2) (pv 1)) (by rfl))
   (al (bT (lZ (pv 0) j.UD.cl j.UD.mDPt (up (amz j)) hr j.DPt.b .nil cG (aI (pv 2) (qN hu (pv 1) (pv 2) (λ_ _=>rfl)))))) (al (bT (lZ (pv 0) j.UD.cl j.UD.mDEr (up (amB j)) hr j.DEr.b .nil cG (aq (pv 2))))))))),?_⟩
 have xd:x≠d:=be hx hd (by intro z;cases z);refine⟨hx,rfl,hx,hd,aF pd λ_ _=>Lu.du,wT,by omega,λr H1 kr n1 s1 e1 pr=>?_⟩;refine⟨e1,s1 _ _ ht,aF pr λ_ _ a0=>a0.elim λz1 a1=>a1.elim λl a2=>a2.elim λz2 a3=>a3.elim λ_ z3=>⟨z1,l,z2,z3⟩,aF pt λ_ _=>dM.same s1,wT,rC,JO,JP,mB,λl H2 ps n2 s2 e2 U=>?_⟩;have ci:=s1.trans s2;have ld:l≠d:=(aK hd (s1.free n2)).symm;have Jt:=U.len;refine⟨⟨_,aa.of e2⟩,?_⟩;refine iN (xs:=ps.map V.str) (λi Z G=>∃v,Z=[some (.ref x),some (.ref t),v]/\G l=some (.lst (ps.map V.str))/\Tn g d ((ps.take i).foldl (bL tr) fs) H G)
  ⟨none,rfl,e2,⟨kd,ci _ _ hd,aF pd λ_ _=>Lu.kp hd λp o e _=>ci _ _ e⟩,λp o e _=>ci _ _ e⟩ ?_ ?_ ?_
 . rintro i Z G hi ⟨v,rfl,Y,_⟩;exact aa.of Y
 . intro i v0 Z G hv hQ;refine bu ?_;intro tT;obtain⟨v,rfl,Y,W⟩:=hQ;rw[dG]at hv;cases hy:ps[i]? with
   | none=>rw[hy]at hv;cases hv
   | some p=>
    rw[hy]at hv;cases hv;obtain⟨ax,J,zO⟩:=W.hd;have ab:=(cT.mp hy).1;have pG:=W.kp _ _ ht (gC a7);have Dh:=W.kp _ _ hx xd;have a8:Paired (dM G) kt tr:=aF pt λ_ _ a4=>a4.elim λz1 a5=>a5.elim λl' a6=>a6.elim λz2 z3=>⟨z1,l',z2,W.kp _ _ z3 (be z3 hd (by intro z;cases z))⟩;have jz:(ps.take (i+1)).foldl (bL tr) fs=bL tr ((ps.take i).foldl (bL tr) fs) p:=by
     rw[io,hy,qr];rfl
    have af:=Tz (tr:=tr) (ps.take i) fs;have an:(ps.take i).length<=ps.length:=by rw[eF];omega
    have a9:=bv zO;have TU:∀kv f,Lu g G kv f->kv.1=Sum.inr f.1:=λkv f z=>z.1;refine⟨_,cU.k (k:=.inr p) pG,⟨?_⟩⟩
    rcases TH a8 rC p with⟨g1,g2⟩ | ⟨ls,l',g1,g2,g3,_⟩
    . rw[g2];refine eW ?_;refine⟨Dh,rfl,Dh,J,λH6 h2 O=>?_⟩;refine⟨_,rfl,O _ _ Y ld,⟨_,h2,?_⟩,λq o z hq=>O _ _ (W.kp _ _ z hq) hq⟩;have gj:bL tr ((ps.take i).foldl (bL tr) fs) p=ii ((ps.take i).foldl (bL tr) fs) p:=by unfold bL;rw[g1]
      rw[jz,gj]
      rcases Dc TU zO p with⟨hp,hs⟩ | ⟨hp,hs⟩
      . rw[am hs];exact aF (zJ TU zO) λ_ _=>Lu.kp J O
      rw[hs,zK hp];exact aF zO λ_ _=>Lu.kp J O
    rw[g2];refine fE ?_;refine⟨Dh,rfl,(by rw[<-g2];exact cU.k (k:=.inr p) pG),?_⟩;refine⟨Dh,J,g3,by omega,λqn H6 nq h2 O h4=>?_⟩;refine⟨_,rfl,h4 _ _ Y ld,⟨_,h2,?_⟩,λq o z hq=>h4 _ _ (W.kp _ _ z hq) hq⟩;have gj:bL tr ((ps.take i).foldl (bL tr) fs) p=bN ((ps.take i).foldl (bL tr) fs) p ls:=by unfold bL;rw[g1]
    rw[jz,gj];have qg:qn≠g:=λz=>by
     by_cases e:g=d
     . rw[z,e,J]at nq;cases nq
     rw[z,W.kp _ _ hg e]at nq;cases nq
    exact iZ (F:=Lu g H6) (λkv f z=>z.1) ⟨rfl,qn,rfl,qg,O⟩ (aF zO λ_ _=>Lu.kp J h4)
 rintro Z G ⟨v,rfl,Y,W⟩;rw[ak]at W;rw[fb]at W;exact q ps G U W
end
section
variable {l:Ls}{n:Nat}{β:Type}
open Lcp
inductive TV (K:Fg):Sp where
 | mk {H:Hp}{Q:VK}{E:XK}{a b:Addr}{xs ys:Ls} (_:aa K H a (xs.map V.str)) (_:aa K H b (ys.map V.str)) (_:Q (.int (gr xs ys)) H):TV K [.ref a,.ref b] H Q E
theorem JS:aN [ayO,azm,"many"] [ayO,azm] (av Hs):=aU
theorem TW(j:Pg K mg base Pt):aA P w K mg base aJ 1 j.Ali.f j.Ali.fd [ayO,azm] (TV K):=by
 refine j.Ali.u.okL JS ?_;intro au A outer s H vs Q E hr h xX dX;obtain @⟨_,_,_,a,b,xs,ys,U,Y,q⟩:=h;refine⟨_,(ai (aH (i:=2) JS.nd rfl (Or.inl rfl) aj)
  (ai (NA eG (PW.pt (tw (bW qI (pv 2) (cr fU (by rfl) j.B.len fc (aq (pv 0))) (bC _)) (tw (bW qI (pv 2) (cr fU (by rfl) j.B.len fc (aq (pv 1))) (bC _)) (xZ (bW fC (bA eR (pv 0) (pv 2) (λ_ _=>rfl)) (bA eR (pv 1) (pv 2) (λ_ _=>rfl)) (bC _)))))) (al (aH (i:=2) JS.nd rfl (Or.inl rfl) (aw fO (pv 2) aj))))
  (al (aQ (pv 2))))),?_⟩
 refine jA ?_;intro dD sS gu dZ;refine⟨λm Z H'=>∃i:Nat,m=xs.length - i/\i<=xs.length/\Z=[some (.ref a),some (.ref b),some (.int i)]/\H'=H/\gr xs ys=i+gr (xs.drop i) (ys.drop i),⟨_,0,rfl,dF _,rfl,rfl,(EE _).symm⟩,?_⟩;intro m Z H' fJ;refine bu ?_;intro tT;obtain⟨i,rfl,hi,rfl,rfl,G⟩:=fJ
 first | (refine ug (g:=jX _) ?_;intro eQ sQ) | (refine ug (g:=tz _ _ _) ?_;intro eQ sQ) | skip
 have J:gr (xs.drop i) (ys.drop i)=0->qB 2 [some (V.ref a),some (V.ref b),some (V.int i)] H' Q:=λz=>by
  rw[z,MO]at G;rw[G]at q;exact⟨q⟩
 refine⟨a,_,rfl,.inl U,⟨⟨?_⟩⟩⟩;refine bj (λh=>?_) (λh=>?_)
 . have h1:=cY h;rw[ak]at h1;refine⟨b,_,rfl,.inl Y,⟨⟨?_⟩⟩⟩;refine bj (λh=>?_) (λh=>?_)
   . have h2:=cY h;rw[ak]at h2;obtain⟨x,hx,ex⟩:=oR (xs:=xs) (r:=(i:Int)) (by omega) h1;obtain⟨y,hy,O⟩:=oR (xs:=ys) (r:=(i:Int)) (by omega) h2;rw[lN]at ex O;have es:=aew ex O;refine⟨U,hx,Y,hy,rfl,⟨?_⟩⟩;refine bj (λh=>?_) (λh=>?_)
     . have e:x=y:=by have:=cY h;injection this
       rw[am e]at es;refine⟨λσ' H2=>σ'=[some (.ref a),some (.ref b),some (.int ((i:Int)+1))]/\H2=H',?_,?_⟩
       . rintro σ' H2 ⟨rfl,rfl⟩;exact⟨_,(show xs.length - (i+1)<xs.length - i by omega),i+1,rfl,by omega,by rw[Int.natCast_add];rfl,rfl,by rw[G,es];omega⟩
       exact⟨rfl,rfl⟩
     have e:x≠y:=λe=>h (by rw[e];exact bE rfl);rw[ag e]at es;exact J es
   have h2:=M8 (ql.mpr h);rw[ak]at h2;exact J (Pj (.inr (by omega)))
 have h1:=M8 (ql.mpr h);rw[ak]at h1;exact J (Pj (.inl (by omega)))
structure Di(H:Hp)(t l:Addr)(xs ys:Ls):Prop where
 tup:H t=some (.tup [.int (Lcp.fst xs ys),.int (jz xs ys),.ref l])
 lst:H l=some (.lst ((tX xs ys).map V.str))
inductive TX (K:Fg):Sp where
 | mk {H:Hp}{Q:VK}{E:XK}{a b:Addr}{xs ys:Ls} (_:aa K H a (xs.map V.str)) (_:aa K H b (ys.map V.str)) (_:∀t l H',H t=none->H l=none->ac H H'->Di H' t l xs ys->Q (.ref t) H'):TX K [.ref a,.ref b] H Q E
theorem JT:aN [azc,ayR,"start","behind"] [azc,ayR] (av Hr):=aU
theorem TY(j:Pg K mg base Pt):aA P w K mg base aJ 2 j.Blk.f j.Blk.fd [azc,ayR] (TX K):=by
 refine j.Blk.u.okL JT ?_;intro au A outer s H vs Q E O h xX dX;obtain @⟨_,_,_,a,b,xs,ys,J,G,q⟩:=h;refine⟨_,(ai (aH (i:=2) JT.nd rfl (Or.inl rfl) (aB (TW j) O rfl (aI (pv 0) (pv 1))))
  (ai (aH (i:=3) JT.nd rfl (Or.inl rfl) (aB (TW j) O rfl (aI (Ph (mT vE (pv 0) (kU (pv 2)) qJ)) (Ph (mT vE (pv 1) (kU (pv 2)) qJ)))))
  (al (aQ (eX (dv (pv 2) (aw E9 (cr fU (by rfl) j.B.len fc (aq (pv 0))) (pv 3)) (mT vE (pv 1) (kU (pv 2)) (kU (aw E9 (cr fU (by rfl) j.B.len fc (aq (pv 1))) (pv 3)))))))))),?_⟩
 refine jA ?_;intro dD sS gu dZ;obtain⟨l1,l2⟩:=Pk xs ys;refine⟨J,G,?_⟩;refine⟨J,λp1 H1 n1 U e1=>?_⟩;rw[vG,FT (by omega),lN]at e1;refine⟨p1,_,rfl,aa.of e1,λp2 H2 n2 Y e2=>?_⟩;rw[Pp]at e2;refine⟨ac.seq (U.trans Y) G,λp3 H3 n3 s3 e3=>?_⟩;rw[vG,FT (by omega),lN]at e3;refine⟨p3,_,rfl,aa.of e3,λp4 H4 n4 s4 e4=>?_⟩;rw[Pp]at e4;have z:=((U.trans Y).trans s3).trans s4;refine⟨aa.of (s4 _ _ (s3 _ _ e2)),aa.of e4,?_⟩;refine⟨a,_,rfl,.inl (ac.seq z J),b,_,rfl,.inl (ac.seq z G),ac.seq z G,λp5 H5 n5 s5 e5=>?_⟩;refine⟨A3,λp6 H6 n6 s6 e6=>?_⟩;have sB:=z.trans s5;refine q p6 p5 H6 (sB.free n6) (z.free n5) (sB.trans s6) ⟨?_,?_⟩
 . rw[e6];have e:((xs.map V.str).length:Int) - (gr (xs.drop (gr xs ys)).reverse (ys.drop (gr xs ys)).reverse:Int)=(jz xs ys:Int):=by
    rw[ak];unfold jz;unfold oQ Lcp.fst at *;omega
   try dsimp only
   rw[e];rfl
 rw[s6 _ _ e5];have e:((ys.map V.str).length:Int) - (gr (xs.drop (gr xs ys)).reverse (ys.drop (gr xs ys)).reverse:Int)=((ys.length - oQ xs ys:Nat):Int):=by
  rw[ak];unfold oQ Lcp.fst at *;omega
 rw[e,vG,Pn (by omega) (by omega),lN,lN];rfl
inductive TZ:Sp where
 | mk {H:Hp}{Q:VK}{E:XK}{t1 t2:Addr}{G z j J:Int}{O U:V} (_:H t1=some (.tup [.int G,.int z,O])) (_:H t2=some (.tup [.int j,.int J,U])) (_:Q (.bl (decide (z<=j))) H):TZ [.ref t1,.ref t2] H Q E
theorem anb:aN [ay5,ayR] [ay5,ayR] (av Ht):=aU
theorem JU(j:Pg K mg base Pt):aA P w K mg base aJ 1 j.IsA.f j.IsA.fd [ay5,ayR] TZ:=by
 refine j.IsA.u.okL anb ?_;intro J A outer s H vs Q E hr h xX Y;obtain @⟨_,_,_,t1,t2,z,O,G,U,v1,v2,h1,h2,q⟩:=h;refine⟨_,(al (aQ (jl Bl (bA fj (pv 0) aj (λ_ _=>rfl)) (bA fj (pv 1) aj (λ_ _=>rfl)) (bC _)))),?_⟩;exact⟨aZ.of h1,rfl,aZ.of h2,rfl,⟨q⟩⟩
inductive T0:Sp where
 | mk {H:Hp}{Q:VK}{E:XK}{t1:Addr}{j z:Int}{G:V} (_:H t1=some (.tup [.int j,.int z,G])) (_:Q (.bl (decide (j=z))) H):T0 [.ref t1] H Q E
theorem anc:aN [ay5] [ay5] (av Hu):=aU
theorem T1(j:Pg K mg base Pt):aA P w K mg base aJ 1 j.Tak.f j.Tak.fd [ay5] T0:=by
 refine j.Tak.u.okL anc ?_;intro J A outer s H vs Q E U h xX O;obtain @⟨_,_,_,t1,z,G,Y,h1,q⟩:=h;refine⟨_,(al (aQ (jl fC (bA fj (pv 0) aj (λ_ _=>rfl)) (bA fj (pv 0) aj (λ_ _=>rfl)) (bC _)))),?_⟩;rw[<-show decide (V.int z=V.int G)=decide (z=G) from xN.mpr ⟨λh=>by injection h,λh=>by rw[h]⟩]at q;exact⟨aZ.of h1,rfl,aZ.of h1,rfl,rfl,q⟩
inductive T2:Sp where
 | mk {H:Hp}{Q:VK}{E:XK}{t1 t2:Addr}{j G z J:Int}{O U:V} (_:H t1=some (.tup [.int j,.int G,O])) (_:H t2=some (.tup [.int z,.int J,U])) (_:Q (.bl (BG j G z J)) H):T2 [.ref t1,.ref t2] H Q E
theorem and:aN [ay5,ayR] [ay5,ayR] (av Hv):=aU
theorem ane(j:Pg K mg base Pt):aA P w K mg base aJ 2 j.Apa.f j.Apa.fd [ay5,ayR] T2:=by
 refine j.Apa.u.okL and ?_;intro au A outer s H vs Q E G h xX dX;obtain @⟨_,_,_,t1,t2,J,b1,O,b2,v1,v2,h1,h2,q⟩:=h;refine⟨_,(BD (λZ H'=>Z=[some (.ref t1),some (.ref t2)]/\H'=H/\¬((J=b1/\O=b2)/\J=O)) (bV (PW.pt (tw (iM (aB (T1 j) G rfl (aq (pv 0)))) (tw (iM (aB (T1 j) G rfl (aq (pv 1)))) (xZ (bW fC (bA fj (pv 0) aj (λ_ _=>rfl)) (bA fj (pv 1) aj (λ_ _=>rfl)) (bC _))))))
  (al (aQ tm)) cZ)
  (al (aQ (Nq (aB (JU j) G rfl (aI (pv 0) (pv 1))) (qD (aB (JU j) G rfl (aI (pv 1) (pv 0)))))))),?_⟩
 refine⟨?_,?_⟩
 . refine⟨h1,?_⟩;refine⟨bj (λU=>?_) (λU=>?_)⟩
   . refine⟨h2,?_⟩;refine⟨bj (λY=>?_) (λY=>?_)⟩
     . refine⟨aZ.of h1,rfl,aZ.of h2,rfl,rfl,⟨?_⟩⟩;refine bj (λz3=>?_) (λz3=>?_)
       . have e3:J=O:=by have:=cY z3;injection this
         unfold BG at q;rw[am ⟨⟨cY U,cY Y⟩,e3⟩]at q;exact q
       exact⟨rfl,rfl,λe=>z3 (bE (fw V.int e.2))⟩
     exact eW ⟨rfl,rfl,λe=>Y (bE e.1.2)⟩
   exact eW ⟨rfl,rfl,λe=>U (bE e.1.1)⟩
 rintro σ' H' ⟨rfl,rfl,hn⟩;unfold BG at q;rw[ag hn]at q;refine⟨h1,h2,?_⟩;refine⟨bj (λz=>?_) (λz=>?_)⟩
 . rw[z,X8]at q;exact q
 rw[ql.mpr z,Bool.false_or]at q;exact⟨h2,h1,q⟩
inductive T3:Sp where
 | mk {H:Hp}{Q:VK}{E:XK}{a t1 j t2 z:Addr}{b x y:Ls} (_:H a=some (.lst (b.map V.str))) (_:Di H t1 j b x) (_:Di H t2 z b y) (_:b.length<=20) (_:x.length<=20) (_:y.length<=20) (_:d8 H (.lst ((ub b x y).map V.str)) Q):T3 [.ref a,.ref t1,.ref t2] H Q E
theorem anf:aN [azc,ay4,ay3] [azc,ay4,ay3] (av Hw):=aU
theorem lM(h:l.length<=n):(l.map V.str).length<=n:=by rw[ak];exact h
theorem lA{a b:Ls}{m:Nat}(j:a.length<=m)(z:b.length<=n):(a++b).length<=m+n:=by rw[bI];exact Nat.add_le_add j z
theorem lT{k:Nat}(h:l.length<=n):(l.take k).length<=n:=by rw[eF];exact b8 (Nat.min_le_right _ _) h
theorem lD{k:Nat}(h:l.length<=n):(l.drop k).length<=n:=by rw[mI];exact b8 (Nat.sub_le _ _) h
theorem wU{b x:Ls}(h:x.length<=n):(tX b x).length<=n:=lT (lD h)
theorem lS{p q m k:Nat}(h1:p<=m)(h2:q<=n)(h:m+n<=k:=by decide):p+q<=k:=b8 (Nat.add_le_add h1 h2) h
theorem T4(zZ:Pg K mg base Pt):aA P w K mg base aJ 1 zZ.Bot.f zZ.Bot.fd [azc,ay4,ay3] T3:=by
 refine zZ.Bot.u.okL anf ?_;intro au A outer s H vs Q E hr h xX dX;obtain @⟨_,_,_,a,t1,l1,t2,l2,b,x,y,O,⟨uP,a0⟩,⟨J,a1⟩,j,G,T6,q⟩:=h;refine⟨_,(al (aQ (aw qT (aw qT (aw qT (aw qT (mT vE (pv 0) qJ (kU (bA fj (pv 1) aj (λ_ _=>rfl)))) (bA fj (pv 1) aj (λ_ _=>rfl))) (mT vE (pv 0) (kU (bA fj (pv 1) aj (λ_ _=>rfl))) (kU (bA fj (pv 2) aj (λ_ _=>rfl))))) (bA fj (pv 2) aj (λ_ _=>rfl))) (mT vE (pv 0) (kU (bA fj (pv 2) aj (λ_ _=>rfl))) qJ)))),?_⟩;have m1:=Pl b x;have m2:=Pl b y;refine⟨aZ.of uP,rfl,aa.of O,λp1 H1 n1 U e1=>?_⟩;rw[vG,aex (by omega),lN]at e1;refine⟨aZ.of (U _ _ uP),rfl,e1,U _ _ a0,lg (lS (lM (lT j)) (lM (wU G))),λp2 H2 n2 s2 e2=>?_⟩;rw[BF]at e2;have z:=U.trans s2;refine⟨aZ.of (z _ _ uP),rfl,aZ.of (z _ _ J),rfl,aa.of (z _ _ O),λp3 H3 n3 s3 e3=>?_⟩;rw[vG,Pn (by omega) (by omega),lN,lN]at e3;refine⟨s3 _ _ e2,e3,lg (lS (lM (lA (lT j) (wU G))) (lM (lT (lD j)))),λp4 H4 n4 s4 e4=>?_⟩;rw[BF]at e4;have Y:=(z.trans s3).trans s4;refine⟨aZ.of (Y _ _ J),rfl,e4,Y _ _ a1,lg (lS (lM (lA (lA (lT j) (wU G)) (lT (lD j)))) (lM (wU T6))),λp5 H5 n5 s5 e5=>?_⟩;rw[BF]at e5;have sD:=Y.trans s5;refine⟨aZ.of (sD _ _ J),rfl,aa.of (sD _ _ O),λp6 H6 n6 s6 e6=>?_⟩;rw[vG,FT (by omega),lN]at e6;refine⟨s6 _ _ e5,e6,lg (lS (lM (lA (lA (lA (lT j) (wU G)) (lT (lD j))) (wU T6))) (lM (lD j))),λp7 H7 n7 s7 e7=>?_⟩;rw[BF]at e7;have sE:=sD.trans s6;exact q p7 H7 (sE.free n7) (sE.trans s7) e7
inductive T7:Sp where
 | mk {H:Hp}{Q:VK}{E:XK}{a o n:Addr}{b x y:Ls} (_:H a=some (.lst (b.map V.str))) (_:H o=some (.lst (x.map V.str))) (_:H n=some (.lst (y.map V.str))) (_:mh b) (_:mh x) (_:mh y) (_:∀t l r H',H t=none->H l=none->(∀j,r=.ref j->H j=none/\j≠l)->ac H H'->aeK H' t l r (merge b x y)->Q (.ref t) H'):T7 [.ref a,.ref o,.ref n] H Q E
theorem JW:aN [azc,ayW,"new","own_block","new_block"] [azc,ayW,"new"] (av Hy):=aU
theorem ani(j:Pg K mg base Pt):aA P w K mg base aJ 3 j.Put.f j.Put.fd [azc,ayW,"new"] T7:=by
 refine j.Put.u.okL JW ?_;intro au A outer s H vs Q E hr h xX dX;obtain @⟨_,_,_,a,o,n,b,x,y,U,hO,hN,lb,lx,ly,q⟩:=h;have d5:cq 1 _:=hr.mono (by decide);have hu:=hr.units;refine⟨_,(ai (bV (bW (tS hu) (pv 1) (pv 0) (bC _))
  (al (aQ (eX (aI (eJ mf (by rfl) j.B.list jT (aq (pv 2))) jW)))) cZ)
  (BD (λZ H'=>Z=[some (.ref a),some (.ref o),some (.ref n),none,none]/\H'=H/\¬(y=b\/x=y)) (bV (PW.pt (Bc (bW (tS hu) (pv 2) (pv 0) (bC _)) (Bb (bW (tS hu) (pv 1) (pv 2) (bC _)))))
  (al (aQ (eX (aI (eJ mf (by rfl) j.B.list jT (aq (pv 1))) jW)))) cZ)
  (ai (aH (i:=3) JW.nd rfl (Or.inl rfl) (aB (TY j) hr rfl (aI (pv 0) (pv 1))))
  (ai (aH (i:=4) JW.nd rfl (Or.inl rfl) (aB (TY j) hr rfl (aI (pv 0) (pv 2))))
  (ai (bV (oq (iM (aB (ane j) hr rfl (aI (pv 3) (pv 4)))))
  (al (aQ (eX (aI (eJ mf (by rfl) j.B.list jT (aq (pv 2))) (eJ mf (by rfl) j.B.list jT (aq (pv 1))))))) cZ)
  (ai (bV (iM (aB (JU j) d5 rfl (aI (pv 3) (pv 4))))
  (al (aQ (eX (aI (aB (T4 j) d5 rfl (dv (pv 0) (pv 3) (pv 4))) jW)))) cZ)
  (al (aQ (eX (aI (aB (T4 j) d5 rfl (dv (pv 0) (pv 4) (pv 3))) jW)))))))))),?_⟩
 refine lq ?_;intro dD sS dZ;have oB:=tZ 8 lb.all;have oX:=tZ 8 lx.all;have oY:=tZ 8 ly.all;have one:∀(m:Ls) (z:Addr) (H0 H1:Hp),merge b x y=(m,none)->ac H H0->H0 z=none->ac H0 H1->H1 z=some (.lst (m.map V.str))->[V.ref z,V.non].length<=sizeLine/\d8 H1 (.tup [.ref z,.non]) Q:=λm z H0 H1 em s0 n1 G e1=>by
  refine⟨by show 2<=sizeLine;decide,λp2 H2 n2 Y e2=>?_⟩;refine q p2 z .non H2 ((s0.trans G).free n2) (s0.free n1) (λl2 e=>by cases e) ((s0.trans G).trans Y) ?_;rw[em];exact⟨e2,Y _ _ e1,rfl⟩
 refine⟨dS x,dS b,iT (aa.of hO),iT (aa.of U),oX,oB,λb1 JX=>?_⟩;rw[FU JX];refine⟨bj (λh=>?_) (λh=>?_)⟩
 . refine⟨n,_,rfl,.inl (aa.of hN),λz H1 n1 G e1=>?_⟩;exact one y z H H1 (aeB (cY h)) (ac.refl _) n1 G e1
 have Dj:x≠b:=M8 (ql.mpr h);refine⟨?_,?_⟩
 . refine⟨dS y,dS b,iT (aa.of hN),iT (aa.of U),oY,oB,λb2 iY=>?_⟩;rw[FU iY];have a0:(y=b\/x=y)->qB 1 [some (V.ref a),some (.ref o),some (.ref n),none,none] H (λv H=>∃p ys,([v]:Lv)=[.ref p]/\(aa K H p ys\/aZ K H p ys)/\d8 H (.lst ys) λv H1=>[v,V.non].length<=sizeLine/\d8 H1 (.tup [v,.non]) Q):=λhc=>
    ⟨o,_,rfl,.inl (aa.of hO),λz H1 n1 G e1=>one x z H H1 (aeC Dj hc) (ac.refl _) n1 G e1⟩
   refine⟨bj (λh2=>?_) (λh2=>?_)⟩
   . exact fE (a0 (.inl (cY h2)))
   refine⟨dS x,dS y,iT (aa.of hO),iT (aa.of hN),oX,oY,λb3 Dl=>?_⟩;rw[FU Dl];refine⟨bj (λh3=>?_) (λh3=>?_)⟩
   . exact a0 (.inr (cY h3))
   exact⟨rfl,rfl,λe=>e.elim (λe=>h2 (bE e)) (λe=>h3 (bE e))⟩
 rintro σ' H' ⟨rfl,rfl,hc⟩;refine⟨aa.of U,aa.of hO,λt1 l1 H1 a3 a1 G O=>?_⟩;refine⟨aa.of (G _ _ U),aa.of (G _ _ hN),λt2 l2 H2 a4 a2 Y wV=>?_⟩;have J:=G.trans Y;have O:Di H2 t1 l1 b x:=⟨Y _ _ O.tup,Y _ _ O.lst⟩;refine⟨O.tup,wV.tup,?_⟩;refine⟨bj (λh4=>?_) (λh4=>?_)⟩
 . have ap:apart b x y=false:=by unfold apart;simpa using h4
   refine⟨n,_,rfl,.inl (aa.of (J _ _ hN)),λp5 H5 n5 s5 e5=>?_⟩;refine⟨o,_,rfl,.inl (aa.of (s5 _ _ (J _ _ hO))),λp6 H6 n6 s6 e6=>?_⟩;refine⟨An,λp7 H7 n7 s7 e7=>?_⟩;have sB:=(J.trans s5).trans s6;refine q p7 p5 (.ref p6) H7 (sB.free n7) (J.free n5) (λl2 e=>?_) (sB.trans s7) ?_
   . cases e;exact⟨(J.trans s5).free n6,(aK e5 n6).symm⟩
   rw[aeD Dj hc ap];exact⟨e7,s7 _ _ (s6 _ _ e5),_,rfl,s7 _ _ e6⟩
 have ap:apart b x y=true:=by unfold apart;simpa using h4
 refine⟨O.tup,wV.tup,?_⟩;refine⟨bj (λh5=>?_) (λh5=>?_)⟩
 . have h5:=cY h5;refine⟨J _ _ U,O,wV,lb.len,lx.len,ly.len,λp8 H8 n8 s8 e8=>?_⟩;exact one _ p8 H2 H8 (aeE Dj hc ap (by omega)) J n8 s8 e8
 have h5:=M8 (ql.mpr h5);refine⟨J _ _ U,wV,O,lb.len,ly.len,lx.len,λp8 H8 n8 s8 e8=>?_⟩;exact one _ p8 H2 H8 (aeF Dj hc ap (by omega)) J n8 s8 e8
theorem dn.du{H H':Hp}{kv:ao×V}{f:Str×Ls}(h:dn H H' kv f):dM H' kv f:=h.elim λa j=>j.elim λl z=>z.elim λb G=>G.elim λ_ c=>⟨a,l,b,c⟩
def nK:Str:=".own"
def gA(o:Option (Ls))(p:Str)(b m:Ls):Tr:=
 match o with
 | none=>[(p,m)]
 | some j=>(p,(merge b m j).1)::(match (merge b m j).2 with | none=>[] | some z=>[(p++nK,z)])
def Look(tr:Tr)(p:Str):Option (Ls)->Prop
 | none=>p∉tr.map (·.1)
 | some ls=>(p,ls)∈tr
inductive T8:Sp where
 | mk {H:Hp}{Q:VK}{E:XK}{p:Str}{t j z d:Addr}{kvs:List (ao×V)}{tr:Tr} (b m:Ls) (o:Option (Ls)) (_:H t=some (.tup [.ref j,.ref z])) (_:H j=some (.lst (b.map V.str))) (_:H z=some (.lst (m.map V.str))) (_:H d=some (.dK kvs)) (_:Paired (dM H) kvs tr) (_:(tr.map (·.1)).Nodup) (_:Look tr p o) (_:mh b) (_:mh m) (_:(∀ls,o=some ls->mh ls)) (_:p.length<=60) (_:∀e H' G,H e=none->ac H H'->H' e=some (.dK G)->Paired (dn H H') G (gA o p b m)->Q (.ref e) H'):T8 [.str p,.ref t,.ref d] H Q E
theorem Dm:aN [ayG,ay2,azd,"mine","together",ayM] [ayG,ay2,azd] (av HM):=aU
theorem ano(O:Pg K mg base Pt):aA P w K mg base aJ 4 O.FoC.f O.FoC.fd [ayG,ay2,azd] T8:=by
 refine O.FoC.u.okL Dm ?_;intro au A outer s H vs Q E hr h xX dX;obtain @⟨_,_,_,p,t,l1,U,d,kvs,tr,b,m,o,ht,hb,hm,hd,pr,nd,lo,Lb,Lm,Lo,a3,q⟩:=h;have hu:=hr.units;have hk:∀kv f,dM H kv f->kv.1=Sum.inr f.1:=λkv f z=>z.1;have z0:cu [V.ref l1,V.ref U] 0=some (V.ref l1):=rfl;have z1:cu [V.ref l1,V.ref U] 1=some (V.ref U):=rfl;have a1:nK.length=4:=by decide +kernel
 refine⟨_,(ai (aH (i:=3) Dm.nd rfl (Or.inl rfl) (bA fj (pv 1) aj (λ_ _=>rfl)))
  (ai (bV (qC (OQ hu (pv 0) (pv 2)) (by rfl))
   (al (aQ (OV (OT (pv 0) (eJ mf (by rfl) O.B.list jT (aq (pv 3))) OS) rfl rfl (by intro z;cases z) (by decide)))) cZ)
  (ai (aH (i:=4) Dm.nd rfl (Or.inl rfl) (aB (ani O) hr rfl (dv (bA fj (pv 1) aj (λ_ _=>rfl)) (pv 3) (qN hu (pv 2) (pv 0) (λ_ _=>rfl)))))
  (ai (aH (i:=5) Dm.nd rfl (Or.inl rfl) (OV (OT (pv 0) (bA fj (pv 4) aj (λ_ _=>rfl)) OS) rfl rfl (by intro z;cases z) (by decide)))
  (ai (bV (bW Fb (bA fj (pv 4) aj (λ_ _=>rfl)) jW (bC _))
   (al (iR hu (pv 5) (qW (yz (pv 0)) bO) (bA fj (pv 4) aj (λ_ _=>rfl)) rfl)) cZ)
  (al (aQ (pv 5)))))))),?_⟩
 refine yB ?_;intro dD sS IV CO nG gu dZ;refine⟨aZ.of ht,z1,?_⟩;refine⟨_,cU.k (k:=.inr p) hd,⟨?_⟩⟩;cases o with
 | none=>
  rw[yW hk pr lo];refine fE ?_;refine λe j=>⟨U,_,rfl,.inl (aa.of (fX j _ _ hm)),λq1 H2 n2 s2 e2=>?_⟩;have sH:=(fX (o:=.dK []) j).trans s2;have ee:=s2 _ _ (aE (H:=H) (a:=e) (o:=.dK []));refine⟨ee,[(.inr p,.ref q1)],rfl,(by show 1<=15;decide),?_⟩;exact q e _ [(.inr p,.ref q1)] j (dQ sH j) aE (.cons ⟨rfl,q1,rfl,(kX n2).2,aD e2 (kX n2).1⟩ .nil)
 | some ls=>
  obtain⟨v,xU,g1,g2,_,lb,rfl,g3⟩:=ph hk pr (gD (f:=(·.1)) lo);have a0:=nu nd lo g2;subst a0;rw[g1];refine eW ?_;refine⟨aZ.of ht,z0,(by rw[<-g1];exact cU.k (k:=.inr p) hd),?_⟩;refine⟨hb,hm,g3,Lb,Lm,Lo ls rfl,λt2 l r H3 nt nl nr s3 pa=>?_⟩;refine λe j=>⟨aZ.of (fX j _ _ pa.tup),(rfl:cu [V.ref l,r] 0=some (V.ref l)),?_⟩;refine⟨aE,[(.inr p,.ref l)],rfl,(by show 1<=15;decide),?_⟩;have J:=s3.free j;have sH:ac H (ah (ah H3 e (.dK [])) e (.dK (md [] [(.inr p,.ref l)]))):=dQ (dQ s3 J) J;have JY:∀{b:Addr}{z:HO},H3 b=some z->(ah (ah H3 e (.dK [])) e (.dK (md [] [(.inr p,.ref l)]))) b=some z:=λ{b z} h=>aD (aD h (aK h j)) (aK h j);have pt:=JY pa.tup;have pl:=JY pa.lst;have pe:(ah (ah H3 e (.dK [])) e (.dK (md [] [(.inr p,.ref l)]))) e=some (.dK [(.inr p,.ref l)]):=aE;refine⟨aZ.of pt,rfl,rfl,⟨?_⟩⟩;have G:=pa.bes
  revert G
  cases T9:(merge b m ls).2 with
  | none=>
   intro G;have G:r=.non:=G;subst G;refine adk rfl ?_;refine⟨q e _ _ J sH pe ?_⟩;unfold gA;dsimp only;rw[T9];exact .cons ⟨rfl,l,rfl,nl,pl⟩ .nil
  | some z=>
   intro G;obtain⟨Y,rfl,hz⟩:=G;refine aeA (λe=>by cases e) ?_;have pz:=JY hz;have ro:p++Str.ofString ".own"=p++nK:=rfl;have a2:(Str.ofString ".own").length=4:=a1;refine⟨aZ.of pt,(rfl:cu [V.ref l,V.ref Y] 1=some (V.ref Y)),iS (by omega),iS (by omega),Str.ofString ".own",rfl,fit (by omega) (by omega),?_⟩;refine⟨fV.k (k:=.inr (p++nK)) pe (by show 1<sizeLine;decide),?_⟩;have dg:¬(Sum.inr p:ao)=Sum.inr (p++nK):=by
    intro z;have z:=fw Str.length (lK z);rw[j6]at z;omega
   refine⟨q e _ _ J (dQ sH J) aE ?_⟩;rw[FA _ (by rw[jo dg];rfl)];unfold gA;dsimp only;rw[T9];exact .cons ⟨rfl,l,rfl,nl,aD pl (be pl pe (by intro z;cases z))⟩ (.cons ⟨rfl,Y,rfl,(nr Y rfl).1,aD pz (be pz pe (by intro z;cases z))⟩ .nil)
def jx(tr:List (Str×β))(p:Str):Option β:=(tr.find? λf=>decide (f.1=p)).map (·.2)
theorem anr{tr:List (Str×β)}{p:Str}(h:jx tr p=none):p∉tr.map (·.1):=by
 unfold jx at h;rw[awB,Yg]at h;intro z;obtain⟨f,j,e⟩:=cE.mp z;exact h f j (bE e)
theorem Dn{tr:List (Str×β)}{p:Str}{y:β}(h:jx tr p=some y):(p,y)∈tr:=by
 unfold jx at h;rw[awt]at h;obtain⟨f,j,e⟩:=h;have h1:=List.find?_some j;have h2:=List.mem_of_find?_eq_some j;have h1:f.1=p:=cY h1;rw[<-h1,<-e];exact h2
theorem ans(tr:Tr)(p:Str):Look tr p (jx tr p):=by
 cases h:jx tr p with
 | none=>exact anr h
 | some y=>exact Dn h
def putAll(tr z:Tr):Tr:=z.foldl (λj f=>bN j f.1 f.2) tr
theorem ant{F:ao×V->Str×Ls->Prop}(z:∀kv f,F kv f->kv.1=Sum.inr f.1){j:List (ao×V)}{ms:Tr}(h:Paired F j ms):∀{kvs:List (ao×V)}{tr:Tr},Paired F kvs tr->Paired F (md kvs j) (putAll tr ms):=by
 induction h with
 | nil=>exact λh=>h
 | @cons kv f j ms r t J=>
  intro kvs tr G;have e:=z _ _ r;have:Paired F (cQ kvs kv.1 kv.2) (bN tr f.1 f.2):=by
   rw[e];exact iZ z (by rw[<-e];exact r) G
  exact J this
theorem anu{j:Tr}:∀{tr:Tr},(tr.map (·.1)).Nodup->((putAll tr j).map (·.1)).Nodup:=by
 induction j with
 | nil=>exact λh=>h
 | cons f j z=>exact λh=>z (ki h)
theorem anv(o:Option (Ls))(p:Str)(b m:Ls):(gA o p b m).length<=2:=by
 unfold gA;cases o with
 | none=>exact qf 1
 | some j=>
  dsimp only;rw[bU];split
  . exact qf 1
  exact aG 2
def jc(bg:Tr)(ow:Ow):Tr:=ow.foldl (λtr e=>putAll tr (gA (jx bg e.1) e.1 e.2.1 e.2.2)) bg
theorem anw(bg:Tr)(ow:Ow)(e:Str×(Ls×Ls)):jc bg (ow++[e])=putAll (jc bg ow) (gA (jx bg e.1) e.1 e.2.1 e.2.2):=by
 unfold jc;rw[qr];rfl
end
section
open HT (At cx ic)
def kE(c:Str):Str:=Str.ofString "="++c
theorem anx{a b:Str}(h:kE a=kE b):a=b:=by
 have e:=fw (λz:Str=>z.cps.toList) h;have e1:∀x:Str,(kE x).cps.toList=(Str.ofString "=").cps.toList++x.cps.toList:=λx=>by
  show((Str.ofString "=").cps++x.cps).toList=_;simp
 simp only[e1]at e;have e2:=List.append_cancel_left e;have ext:∀x y:Str,x.cps.toList=y.cps.toList->x=y:=λ⟨⟨x⟩⟩ ⟨⟨y⟩⟩ h=>by
  have h:x=y:=h;rw[h]
 exact ext _ _ e2
theorem ju.off{H:Hp}{v:V}{p:cD}{L:List Addr}(G:∀b∈L,∀o,H b=some o->(∀c d f,o≠.ins c d f)/\(∀vs,o≠.tup vs)/\∀vs,o≠.lst vs)(h:ju C H v p):ju C (msk L H) v p:=by
 obtain⟨a,dx,fl,rk,m,pf,pn,ps,po,xs,e,h1,h2,h3,h4,h5,h6,j⟩:=h;have t:∀{b:Addr}{vs:Lv},H b=some (.tup vs)->msk L H b=some (.tup vs):=λe=>cC (λz=>(G _ z _ e).2.1 _ rfl) e;have l:∀{b:Addr}{vs:Lv},H b=some (.lst vs)->msk L H b=some (.lst vs):=λe=>cC (λz=>(G _ z _ e).2.2 _ rfl) e;exact⟨a,dx,fl,rk,m,pf,pn,ps,po,xs,e,cC (λz=>(G _ z _ h1).1 _ _ _ rfl) h1,h2,t h3,l h4,aF h5 λ_ _ Y=>Y.elim λt' J=>J.elim λl' O=>O.elim λx1 U=>U.elim λx2 x3=>⟨t',l',x1,t x2,l x3⟩,l h6,j.1,l j.2.1,l j.2.2⟩
theorem TabSt.put{H:Hp}{lp:Pos}{qu:Str}{ks:List (ao×V)}{o:HO}(hd:H d=some (.dK ks))(h:TabSt H Pt lp qu):TabSt (ah H d o) Pt lp qu:=by
 have k:∀{b:Addr}{φ:Heap->Prop},H b=some (.ext φ)->ah H d o b=some (.ext φ):=λe=>aD e (be e hd (by intro z;cases z))
 rcases h with z | ⟨c',j,G⟩
 . exact .inl (k z)
 exact .inr ⟨c',k j,k G⟩
def JZ(ow:Ow):Prop:=∀e∈ow,e.1.length<=60/\mh e.2.1/\mh e.2.2
end
section
variable {x p:Str}{b m ns:Ls}{o:Option (Ls)}{bg mD:Tr}{ow:Ow}{ps px:Lp}{ch:Ch}{cs:Cs}
theorem mC{α:Type}{l:List α}{i:Nat}{x:α}(h:l[i]?=some x):l.take (i+1)=l.take i++[x]:=by rw[io,h];rfl
theorem anD(h:dW x):∀c∈x.cps.toList,c≠46:=λc j=>by
 obtain⟨ps,rfl,_,_,G⟩:=h
 rcases Cw j with z | ⟨p,J,z⟩
 . intro e;rw[e]at z;exact absurd z (by decide +kernel)
 have:=(G p J).az c z;omega
theorem J2{y:Str}(h:dW x):x≠y++nK:=λe=>by
 refine anD h 46 ?_ rfl;rw[e,mv];exact eU _ (by decide +kernel)
theorem anE{a b:Str}(h:a++nK=b++nK):a=b:=by
 have e:=fw (λz:Str=>z.cps.toList) h;simp only[mv]at e;have e2:=List.append_cancel_right e;have ext:∀x y:Str,x.cps.toList=y.cps.toList->x=y:=λ⟨⟨x⟩⟩ ⟨⟨y⟩⟩ h=>by
  have h:x=y:=h;rw[h]
 exact ext _ _ e2
theorem Ua:∀(j tr:Tr) (k:Str),(j.map (·.1)).Nodup->look (putAll tr j) k=(look j k).or (look tr k)
 | [],tr,k,_=>rfl
 | f::j,tr,k,nd=>by
  rw[bS,qh]at nd;have z:=Ua j (bN tr f.1 f.2) k nd.2;show look (putAll (bN tr f.1 f.2) j) k=_;rw[z,zM,jM]
  by_cases e:f.1=k
  . rw[am e,am e,iG.mpr (by rw[<-e];exact nd.1)];rfl
  rw[ag e,ag e]
theorem Ub{k:Str}(h:k∈(gA o p b m).map (·.1)):k=p\/k=p++nK:=by
 unfold gA at h;cases o with
 | none=>exact .inl (bw.mp h)
 | some j=>
  dsimp only at h;rw[bS]at h
  rcases bc.mp h with z | z
  . exact .inl z
  split at z
  . cases z
  exact .inr (bw.mp z)
theorem Uc(j:dW p):((gA o p b m).map (·.1)).Nodup:=by
 unfold gA;cases o with
 | none=>simp
 | some G=>
  dsimp only;rw[bS,qh];split
  . simp
  refine⟨λz=>J2 j (bw.mp z),by simp⟩
theorem J3(g:Str×(Ls×Ls)->Tr):∀(ow:Ow) (c:Tr),(∀e∈ow,((g e).map (·.1)).Nodup)->look (ow.foldl (λtr e=>putAll tr (g e)) c)=ow.foldl (fun(φ:Str->Option (Ls)) e k=>(look (g e) k).or (φ k)) (look c)
 | [],c,_=>rfl
 | e::ow,c,h=>by
  rw[lQ,lQ,J3 g ow _ λx j=>h x (bY _ j)]
  congr 1
  funext k
  exact Ua _ _ _ (h e bM)
theorem anF{β:Type}{l j:List (Str×β)}(p:l.Perm j)(nd:(l.map (·.1)).Nodup)(k:Str):look l k=look j k:=by
 have G:(j.map (·.1)).Nodup:=(p.map _).nodup_iff.mp nd;cases e:look l k with
 | none=>exact(iG.mpr λz=>iG.mp e ((p.map _).mem_iff.mpr z)).symm
 | some v=>exact(uN G (p.mem_iff.mp (nJ e))).symm
theorem anG(h:look bg=look mD){aM:Ow}(p:ow.Perm aM)(nd:(ow.map (·.1)).Nodup)(pt:∀e∈ow,dW e.1):look (jc bg ow)=look (jc mD aM):=by
 have e1:∀(t:Tr) (o:Ow),jc t o=o.foldl (λtr e=>putAll tr (gA (look t e.1) e.1 e.2.1 e.2.2)) t:=λ_ _=>rfl;rw[e1,e1,J3 _ _ _ λe j=>Uc (pt e j),J3 _ _ _ λe j=>Uc (pt e (p.mem_iff.mpr j)),<-h];refine List.Perm.foldl_eq' p (λx G y J φ=>?_) _
 funext k
 by_cases e:x=y
 . rw[e]
 have n1:x.1≠y.1:=λz=>e (by
  have:=nu nd (x:=x.1) (a:=x.2) (b:=y.2) G (by rw[z];exact J);exact Prod.ext z this)
 cases a:look (gA (look bg x.1) x.1 x.2.1 x.2.2) k with
 | none=>simp only[a,Option.none_or]
 | some u=>
  cases b:look (gA (look bg y.1) y.1 y.2.1 y.2.2) k with
  | none=>simp only[a,b,Option.none_or]
  | some v=>
   have ka:=Ub (gD (f:=(·.1)) (nJ a));have kb:=Ub (gD (f:=(·.1)) (nJ b))
   rcases ka with ka | ka<;>rcases kb with kb | kb
   . exact absurd (ka.symm.trans kb) n1
   . exact absurd (ka.symm.trans kb) (J2 (pt x G))
   . exact absurd (kb.symm.trans ka) (J2 (pt y J))
   exact absurd (anE (ka.symm.trans kb)) n1
theorem Ud(h:(ps.map gN).Nodup){p q:cD}(hp:p∈ps)(hq:q∈ps)(e:gN p=gN q):p=q:=by
 induction ps with
 | nil=>cases hp
 | cons r ps j=>
  rw[bS,qh]at h
  rcases bc.mp hp with ep | hp
  . rcases bc.mp hq with eq | hq
    . rw[ep,eq]
    exact absurd (gD (f:=gN) hq) (by rw[<-e,ep];exact h.1)
  rcases bc.mp hq with eq | hq
  . exact absurd (gD (f:=gN) hp) (by rw[e,eq];exact h.1)
  exact j h.2 hp hq
structure Do(ps:Lp)(ch:Ch)(px:Lp):Prop where
 nm:(px.map (·.nm)).Perm (ch.map (·.1))
 mm:∀p∈px,p∈ps/\(p.nm,p.ms)∈ch
theorem Do.iff(h:Do ps ch px)(Y:(ps.map gN).Nodup)(nd:(ch.map (·.1)).Nodup)(p:cD):p∈px↔p∈ps/\(p.nm,p.ms)∈ch:=by
 refine⟨h.mm p,λJ=>J.elim λh1 h2=>?_⟩;have:p.nm∈px.map (·.nm):=h.nm.mem_iff.mpr (gD (f:=(·.1)) h2);obtain⟨r,G,j⟩:=cE.mp this;obtain⟨U,z⟩:=h.mm r G;rw[j]at z;have O:=nu nd z h2;have:r=p:=Ud Y U h1 (by unfold gN;rw[j,O]);rw[<-this];exact G
theorem Ue{rY:Lp}(J:Apart ns ps)(nd:(ch.map (·.1)).Nodup)(j:∀p∈px,p∈ps/\(p.nm,p.ms)∈ch)(m:∀p,p∈px↔p∈rY)(g:ky (fo px) bg)(g':ky (fo rY) mD){k:Str}{l:Ls}(h:look bg k=some l):look mD k=some l:=by
 obtain⟨p,z,O⟩:=vo.mp (g.sub _ (nJ h));have hk:k∈mD.map (·.1):=g'.key (k,l) (vo.mpr ⟨p,(m p).mp z,O⟩);obtain⟨f,U,e⟩:=cE.mp hk;have e:f.1=k:=e;obtain⟨q,G,hg⟩:=vo.mp (g'.sub f U);have G:=(m q).mpr G;have Y:=J.one p (j p z).1 q (j q G).1 k (gD (f:=(·.1)) O) (by rw[<-e];exact gD (f:=(·.1)) hg);have em:p.ms=q.ms:=nu nd (j p z).2 (by rw[Y];exact(j q G).2);have ep:p=q:=Ud J.nd (j p z).1 (j q G).1 (by unfold gN;rw[Y,em]);subst ep;have el:l=f.2:=nu (J.ok p (j p z).1).2.2 O (by rw[<-e];exact hg);rw[el,<-e];exact uN g'.nd U
theorem anI{G:Lp}(j:Apart ns ps)(nd:(ch.map (·.1)).Nodup)(z:∀p∈px,p∈ps/\(p.nm,p.ms)∈ch)(m:∀p,p∈px↔p∈G)(g:ky (fo px) bg)(g':ky (fo G) mD):look bg=look mD:=by
 funext k
 cases e:look bg k with
 | some l=>exact(Ue j nd z m g g' e).symm
 | none=>
  cases J:look mD k with
  | none=>rfl
  | some l=>rw[Ue j nd (λp O=>z p ((m p).mpr O)) (λp=>(m p).symm) g' g J]at e;cases e
def zR(ps:Lp)(ch:Ch)(cs:Cs)(ow:Ow)(tr:Tr):Prop:=∃(px:Lp) (bg:Tr),Do ps ch px/\ky (fo px) bg /\
 (∀k,(∀c,(∃p∈px,c∈p.os)->k≠kE c)->look tr k=look (jc bg ow) k)/\∀c,(∃p∈px,c∈p.os)->∃r,look tr (kE c)=some [r]/\NB (gY c px) (look cs c) r
theorem anJ{aX:Ch}{aL:Cs}{aM:Ow}{tr J:Tr}(z:Apart ns ps)(Y:ch.Perm aX)(p2:cs.Perm aL)(p3:ow.Perm aM)(d1:(ch.map (·.1)).Nodup)(d2:(cs.map (·.1)).Nodup)(d3:(ow.map (·.1)).Nodup)(pt:∀e∈ow,dW e.1)
 (h:zR ps ch cs ow tr) (h':zR ps aX aL aM J):look tr=look J:=by
 obtain⟨px,bg,x,g,a,b⟩:=h;obtain⟨rY,mD,x',g',a',b'⟩:=h';have a4:(aX.map (·.1)).Nodup:=(Y.map _).nodup_iff.mp d1;have m:∀p,p∈px↔p∈rY:=λp=>by rw[x.iff z.nd d1,x'.iff z.nd a4,Y.mem_iff]
 have t0:=anI z d1 x.mm m g g';have O:∀c,(∃p∈px,c∈p.os)↔∃p∈rY,c∈p.os:=λc=>⟨λa0=>a0.elim λp a1=>a1.elim λh1 h2=>⟨p,(m p).mp h1,h2⟩,λa2=>a2.elim λp a3=>a3.elim λh1 h2=>⟨p,(m p).mpr h1,h2⟩⟩
 funext k
 by_cases G:∃c,(∃p∈px,c∈p.os)/\k=kE c
 . obtain⟨c,j,rfl⟩:=G;obtain⟨r,e,n⟩:=b c j;obtain⟨r',e',U⟩:=b' c ((O c).mp j);rw[<-anF p2 d2]at U;rw[e,e',n.eq U λq=>by unfold gY;rw[mH,mH,m q]]
 rw[a k λc j e=>G ⟨c,j,e⟩,a' k λc j e=>G ⟨c,(O c).mpr j,e⟩,anG t0 p3 d3 pt]
theorem anP{kvs:List (ao×V)}(h:Paired iD kvs cs)(c:Str):rV kvs c=look cs c:=by
 induction h with
 | nil=>rfl
 | @cons kv e kvs cs r t j=>
  rw[jM];unfold rV bi at j ⊢;rw[sO]
  by_cases z:e.1=c
  . rw[am z,bE (show kv.1=Sum.inr c by rw[r.1,z])];show(match Option.map (λx=>x.snd) (some kv) with | some (V.str y)=>some y | _=>none)=some e.2;rw[sP,r.2]
  rw[ag z,cy (show kv.1≠Sum.inr c by rw[r.1];intro y;exact z (lK y))];exact j
open HT (At cx ic)
open Lcp
seal PE PS cg PA PT PW PG fM PI fF
structure Uf(ns:Ls)(p:cD):Prop where
 n3:p.fs.length<=3
 ls:∀f∈p.fs,mh f.2
 o2:p.os.length<=2
 nm:Ln p.nm
 os:∀t∈p.os,(Ln t/\t.length<=20)/\t∈ns
theorem anQ{kvs:List (ao×V)}(h:Paired iD kvs cs)(ok:∀e∈cs,Ln e.2):JF kvs:=λk v j=>by
 obtain⟨e,G,e1,e2⟩:∃e∈cs,k=.inr e.1/\v=.str e.2:=by
  induction h with
  | nil=>cases j
  | @cons kv e kvs cs r t O=>
   unfold bi at j;rw[sO]at j;split at j
   . rename_i z;have z:=cY z;cases j;exact⟨e,bM,z▸r.1,r.2⟩
   obtain⟨J,h1,h2⟩:=O (λe G=>ok e (bY _ G)) j;exact⟨J,bY _ h1,h2⟩
 exact⟨_,e2,ok e G⟩
theorem Dp{tr:Tr}{ls:Ls}(h:eD tr)(j:∀y∈ls,Ln y):eD (bN tr x ls):=λf hf=>by
 rcases kf hf with e | hf
 . rw[e];exact j
 exact h f hf
theorem anR{G:Tr}(h:eD G)(U:∀x∈b,Ln x)(J:∀x∈m,Ln x)(Y:∀ls,o=some ls->∀x∈ls,Ln x):eD (putAll G (gA o p b m)):=by
 unfold gA;cases o with
 | none=>exact Dp (tr:=G) h J
 | some j=>
  dsimp only;have h1:=Dp (x:=p) (ls:=(merge b m j).1) h (aeI U J (Y j rfl));cases e:(merge b m j).2 with
  | none=>exact h1
  | some z=>
   have O:z=m:=by
    rcases aeH b m j with q | q
    . rw[q]at e;cases e
    rw[q]at e;exact(hJ e).symm
   subst O;exact Dp h1 J
theorem anS(h:eD bg)(j:JZ ow):eD (jc bg ow):=by
 have Y:∀(ow:Ow) (c:Tr),eD c->(∀e∈ow,(∀x∈e.2.1,Ln x)/\∀x∈e.2.2,Ln x)->eD (ow.foldl (λtr e=>putAll tr (gA (jx bg e.1) e.1 e.2.1 e.2.2)) c):=by
  intro ow
  induction ow with
  | nil=>exact λc z _=>z
  | cons e ow U=>
   intro c z j;rw[lQ];have h1:=j e bM;exact U _ (anR z h1.1 h1.2 λls O=>h _ (Dn O)) λJ mi=>j J (bY _ mi)
 exact Y ow bg h λe G=>⟨(j e G).2.1.all,(j e G).2.2.all⟩
theorem anT{tr:Tr}{k:Str}{ls:Ls}(h:k∈tr.map (·.1)):(bN tr k ls).length=tr.length:=by
 obtain⟨f,j,e⟩:=cE.mp h;unfold bN;rw[am (vj.mpr ⟨f,j,bE e⟩),ak]
theorem Ug(bg:Tr)(ow:Ow):(jc bg ow).length<=bg.length+ow.length:=by
 have U:∀(ow:Ow) (c:Tr),(∀k∈bg.map (·.1),k∈c.map (·.1))->(ow.foldl (λtr e=>putAll tr (gA (jx bg e.1) e.1 e.2.1 e.2.2)) c).length<=c.length+ow.length:=by
  intro ow
  induction ow with
  | nil=>exact λc _=>aG _
  | cons e ow O=>
   intro c j;have keep:∀{c:Tr}{x:Str}{l:Ls},(∀k∈bg.map (·.1),k∈c.map (·.1))->∀k∈bg.map (·.1),k∈(bN c x l).map (·.1):=λ{c x l} j k J=>by
    have:=j k J;cases z:look c k with
    | none=>exact absurd this (iG.mp z)
    | some v=>
     refine YK λn=>?_;have:=iG.mpr n;rw[zM]at this;split at this
     . cases this
     rw[z]at this;cases this
   rw[lQ,bU];have Y:∃c',putAll c (gA (jx bg e.1) e.1 e.2.1 e.2.2)=c'/\c'.length<=c.length+1/\∀k∈bg.map (·.1),k∈c'.map (·.1):=by
    unfold gA;cases z:jx bg e.1 with
    | none=>exact⟨_,rfl,jE c _ _,keep j⟩
    | some G=>
     dsimp only;have h1:e.1∈c.map (·.1):=j _ (gD (f:=(·.1)) (Dn z));have h2:=anT (ls:=(merge e.2.1 e.2.2 G).1) h1;cases (merge e.2.1 e.2.2 G).2 with
     | none=>exact⟨_,rfl,b8 (xG h2) (qf _),keep j⟩
     | some o=>exact⟨_,rfl,b8 (jE (bN c e.1 (merge e.2.1 e.2.2 G).1) (e.1++nK) o) (by rw[h2];exact aG _),keep (keep j)⟩
   obtain⟨c',e1,l1,k1⟩:=Y;rw[e1];have:=O c' k1;omega
 exact U ow bg λk h=>h
theorem anU(h:(bg.map (·.1)).Nodup)(ow:Ow):((jc bg ow).map (·.1)).Nodup:=by
 have G:∀(ow:Ow) (c:Tr),(c.map (·.1)).Nodup->((ow.foldl (λtr e=>putAll tr (gA (jx bg e.1) e.1 e.2.1 e.2.2)) c).map (·.1)).Nodup:=by
  intro ow
  induction ow with
  | nil=>exact λc j=>j
  | cons e ow z=>
   intro c j;rw[lQ];exact z _ (anu j)
 exact G ow bg h
inductive Uh (C S T Pt:Addr):Sp where
 | mk {H:Hp}{Q:VK}{E:XK}{j tv:V}{xs:Lv}{ps:Lp}{ch:Ch}{cs:Cs}{ow:Ow}{ns:Ls} (_:jv S H j xs ps) (_:eB C H xs ps) (_:(∀p∈ps,Uf ns p)) (_:ns.length<=4) (_:iE T H tv ch cs ow) (_:py xs ps ch) (_:ch.length<=4) (_:ow.length<=10) (_:JZ ow) (_:(∀e∈cs,Ln e.2)) (_:TabSt H Pt fL fq) (_:∀d H' kvs (tr:Tr),H d=none->lB Pt H H'->TabSt H' Pt fL fq->H' d=some (.dK kvs)->Paired (dn H H') kvs tr->(tr.map (·.1)).Nodup->tr.length<=26->eD tr->zR ps ch cs ow tr->Q (.ref d) H'):Uh C S T Pt [j,tv] H Q E
theorem uQ:aN [ayC,ayV,ayF,azd,azb,ayG,ay2,ayZ] [ayC,ayV] (av zf):=aU
theorem Ka(j:Pg K mg base Pt):aA P w K mg base aJ 5 j.Tre.f j.Tre.fd [ayC,ayV] (Uh j.C j.S j.T Pt):=by
 refine j.Tre.u.okL uQ ?_;intro au A outer s H vs Q E hr h xX dX;obtain @⟨_,_,_,sv,tv,xs,ps,ch,cs,ow,ns,hS,hP,h3,az,hT,hV,h4,o2,okO,a7,a0,q⟩:=h;have hu:=hr.units;have ap:cq 2 (A.deeper (PyProof.Rows.envOfC "tree_of" (av zf) s.heap.objs.size j.Tre.f au)):=hr.mono (by decide);have d5:cq 1 (A.deeper (PyProof.Rows.envOfC "tree_of" (av zf) s.heap.objs.size j.Tre.f au)):=hr.mono (by decide);refine⟨_,(ai (aH (i:=2) uQ.nd rfl (Or.inl rfl) (aB (Jd j) ap rfl (aI (pv 0) (bK (pv 1) rfl))))
  (ai (aH (i:=3) uQ.nd rfl (Or.inl rfl) (aB (SJ j) d5 rfl (aq (pv 2))))
  (ai (aH (i:=4) uQ.nd rfl (Or.inl rfl) (eJ vJ (by rfl) j.B.dict AY (aq (pv 3))))
  (ai (F3 eG rfl (bK (pv 1) rfl) (ou rfl (gE (bf (i:=5) uQ.nd rfl (Or.inl rfl)) (gE (bf (i:=6) uQ.nd rfl (Or.inl rfl)) mR)))
  (al (bT (dH AO awF PySem.F.type_dict_update afY (pv 4) (aq (aB (ano j) hr rfl (dv (pv 5) (pv 6) (pv 3))))))))
  (ai (eV eG rfl (cL (aB (aml j) d5 rfl (aq (pv 2)))) (bf (i:=7) uQ.nd rfl (Or.inl rfl))
  (al (iR hu (pv 4) (qW bO (yz (pv 7))) (dq (aq (aB (amo j) hr rfl (dv (pv 7) (pv 2) (bK (pv 1) rfl))))) rfl)))
  (al (aQ (pv 4)))))))),?_⟩
 refine yB ?_;intro dD sS IV CO nG gu dZ;obtain⟨a,dx,fl,c,h,o,rfl,t1,t2,t3,t4,t5,⟨hk,t6,Ui⟩,ko,t7,t8⟩:=hT;have hok:=anQ Ui a7;refine⟨t1,j.UT.cl,j.UT.nC,t2,?_⟩;refine⟨hS,t5,hV,by omega,λD H1 lw px n1 s1 e1 pr pn pc=>?_⟩;have wW:=Jg (hP.same s1) pr;have pm:=Jh pr;have dP:px.length<=4:=by
  have e:=pn.length_eq;rw[ak,ak]at e;omega
 have hl:(fo px).length<=12:=by
  have:=SK (b:=3) (ps:=px) λp G=>(h3 p (pm p G)).n3;omega
 refine⟨e1,wW,by omega,λd H2 kvs bg n2 s2 e2 Uj g2=>?_⟩;refine⟨d,_,rfl,e2,λd3 H3 n3 s3 e3=>?_⟩;have fK:=s1.trans (s2.trans s3);have rZ:H d3=none:=s1.free (s2.free n3);have cV:=s3 _ _ e2;have o3:=fK _ _ t7;have od:d≠o:=(aK (s1 _ _ t7) n2).symm;have uR:d3≠o:=(aK t7 rZ).symm;have ab:d3≠d:=(aK e2 n3).symm;have b2:=g2.len;have Uk:∀f∈bg,mh f.2:=λf hf=>by
  obtain⟨p,G,hf⟩:=vo.mp (g2.sub f hf);exact(h3 p (pm p G)).ls f hf
 have aC:Paired (dM H3) kvs bg:=aF Uj λ_ _ z=>(z.du).same s3;have rN:Paired (dn H H3) kvs bg:=aF Uj λkv f z=>by
  obtain⟨z1,l,z2,J,z4⟩:=z;exact⟨z1,l,z2,s1.free J,s3 _ _ z4⟩
 have tk:∀(H':Hp) kv f,dn H H' kv f->kv.1=Sum.inr f.1:=λ_ kv f z=>z.1;refine⟨fK _ _ t1,j.UT.cl,j.UT.nO,t4,o,ko,rfl,o3,λob=>?_⟩;refine IJ (λi Z O=>∃u v kt,Z=[some sv,some (.ref a),some (.ref D),some (.ref d),some (.ref d3),u,v,none]/\(∀b z,H3 b=some z->b≠o->b≠d3->O b=some z)/\(∀b,O b=none->H3 b=none)/\O o=some (.frz ob (.dK ko))/\O d3=some (.dK kt)/\Paired (dn H O) kt (jc bg (ow.take i)))
  ⟨none,none,kvs,rfl,λb z e hb _=>aD e hb,λb e=>(kX e).2,aE,aD e3 uR,aF rN λkv f z=>?_⟩ ?_ ?_ ?_
 . obtain⟨z1,l,z2,J,z4⟩:=z;exact⟨z1,l,z2,J,aD z4 (be z4 o3 (by intro z;cases z))⟩
 . intro i Z O fJ;refine bu ?_;intro tT;obtain⟨u,v,kt,rfl,_,_,h,_⟩:=fJ;exact h
 . intro i k v p Z O hi gW G;refine bu ?_;intro tT;obtain⟨u,v',kt,rfl,k5,f5,h5,pG,gw⟩:=gW;obtain⟨⟨x,b1,m1⟩,hf,a1,t,l1,l2,a2,a3,a4,a5⟩:=eK t8 hi;have a1:k=.inr x:=a1;have a2:v=.ref t:=a2;subst a1 a2;have hm:=cX hf;have sp:ac O (ah O p (.tup [kV (.inr x),.ref t])):=fX G;have K5:∀{b:Addr}{z:HO},H b=some z->(∀ks,z≠.dK ks)->(ah O p (.tup [kV (.inr x),.ref t])) b=some z:=λ{b z} e hz=>sp _ _ (k5 _ _ (fK _ _ e) (be e t7 (hz _)) (λy=>by rw[y,rZ]at e;cases e));have D5:=sp _ _ (k5 _ _ cV od ab.symm);refine⟨aZ.of aE,rfl,rfl,?_⟩;refine⟨.inr (.inr (.inl ⟨rfl,.inl ⟨_,sp _ _ pG⟩⟩)),⟨⟨⟨?_⟩⟩⟩⟩;refine⟨b1,m1,jx bg x,K5 a3 (by intro ks z;cases z),K5 a4 (by intro ks z;cases z),K5 a5 (by intro ks z;cases z),D5,?_,g2.nd,ans bg x,(okO _ hm).2.1,(okO _ hm).2.2,?_,(okO _ hm).1,λe U ax n6 s6 e6 Ul=>?_⟩
   . exact aF aC λkv f z=>by
      obtain⟨z1,l,z2,J⟩:=z;exact⟨z1,l,z2,sp _ _ (k5 _ _ J (be J o3 (by intro z;cases z)) (be J e3 (by intro z;cases z)))⟩
   . intro ls e;exact Uk _ (Dn e)
   have wX:=sp.trans s6;have af:d3≠e:=aK (sp _ _ pG) n6;have pl:=bv gw;have ml:=bv Ul;have h1:=Ug bg (ow.take i);have h2:=anv (jx bg x) x b1 m1;have b3:(ow.take i).length<=10:=by rw[eF];omega
   refine⟨d3,e,kt,ax,rfl,rfl,af,wX _ _ pG,e6,lg (by omega),?_⟩;refine⟨_,_,_,rfl,λb z e hb Dl=>aD (wX _ _ (k5 _ _ e hb Dl)) Dl,λb e=>f5 b (wX.free (kX e).2),aD (wX _ _ h5) uR.symm,aE,?_⟩;rw[io,hf];show Paired _ _ (jc bg (ow.take i++[(x,b1,m1)]));rw[anw];refine aF (ant (F:=dn H U) (tk U) (aF Ul λkv f z=>?_) (aF gw λ_ _=>dn.same wX)) λkv f=>dn.put (wX _ _ pG);obtain⟨z1,l,z2,J,z4⟩:=z;exact⟨z1,l,z2,fK.free (f5 _ (sp.free J)),z4⟩
 intro Z O gX;refine bu ?_;intro tT;obtain⟨u,v,kt,rfl,k5,f5,h5,pG,gw⟩:=gX;rw[bv t8,fb]at gw;have sF:∀b z,H3 b=some z->b≠d3->(ah O o (.dK ko)) b=some z:=λb z e hb=>by
  by_cases ho:b=o
  . subst ho;rw[o3]at e;cases e;exact aE
  exact aD (k5 b z e ho hb) ho
 have sH:ac H (ah O o (.dK ko)):=λb z e=>sF b z (fK _ _ e) (λy=>by rw[y,rZ]at e;cases e);have Dq:ac H1 (ah O o (.dK ko)):=λb z e=>sF b z (s3 _ _ (s2 _ _ e)) (λy=>by rw[y,s2.free n3]at e;cases e);refine⟨Dq _ _ e1,wW.same Dq,by omega,λp G=>(h3 p (pm p G)).o2,λr U cm n6 s6 e6 a9 r9 cl=>?_⟩;refine⟨⟨_,aa.of e6⟩,?_⟩;have se:=sH.trans s6;have Um:d3≠Pt:=TabSt.new a0 rZ;have sf:TabSt U Pt fL fq:=a0.same se;have rP:r≠Pt:=TabSt.ne sf e6 (by intro φ z;cases z);have a8:∀x∈cm,Ln x/\x.length<=20:=λx Y=>by
  obtain⟨p,G,Y⟩:=(r9 x).mp Y;exact((h3 p (pm p G)).os x Y).1
 have dd:∀{b:Addr}{o:HO},U b=some o->b≠Pt->b≠d3->msk [Pt,d3] U b=some o:=λe n1 n2=>cC (by simp[n1,n2]) e;have Kb:=s6 _ _ (aD (p:=o) (o':=.dK ko) pG uR);have an:eB j.C (msk [Pt,d3] U) lw px:=aF (wW.same (Dq.trans s6)) λ_ _ z=>z.off λb hb o eo=>by
  rcases bc.mp hb with e | e
  . obtain⟨φ,w⟩:=TabSt.at sf;rw[e,w]at eo;cases eo;exact⟨(by intro _ _ _ z;cases z),(by intro _ z;cases z),(by intro _ z;cases z)⟩
  rw[bw.mp e,Kb]at eo;cases eo;exact⟨(by intro _ _ _ z;cases z),(by intro _ z;cases z),(by intro _ z;cases z)⟩
 have Uo:∀{b:Addr}{o:HO},H b=some o->(∀φ,o≠.ext φ)->msk [Pt,d3] U b=some o:=λe n=>dd (se _ _ e) (TabSt.ne a0 e n) (aK e rZ);have a6:=Uo t1 (by intro φ z;cases z);have JE:=Uo t6 (by intro φ z;cases z);have D6:msk [Pt,d3] U D=some (.lst lw):=dd (s6 _ _ (Dq _ _ e1)) (TabSt.new a0 n1) (aK (s2 _ _ e1) n3);have r6:msk [Pt,d3] U r=some (.lst (cm.map V.str)):=dd e6 rP (be e6 Kb (by intro z;cases z));have tl:=Ug bg ow;have Kc:Paired (dn H U) kt (jc bg ow):=aF gw λkv f z=>by
  obtain⟨z1,l,z2,J,z4⟩:=z;exact⟨z1,l,z2,J,s6 _ _ (aD z4 (be z4 h5 (by intro z;cases z)))⟩
 have a':eD (jc bg ow):=anS (λf hf=>(Uk f hf).all) okO;have b0:cm.length<=4:=b8 (jD a9 λx Y=>by
  obtain⟨p,G,Y⟩:=(r9 x).mp Y;exact((h3 p (pm p G)).os x Y).2) az
 refine iN (xs:=cm.map V.str) (λi Z H7=>∃u' kvs tr,Z=[some sv,some (.ref a),some (.ref D),some (.ref d),some (.ref d3),u,v,u']/\ac (msk [Pt,d3] U) H7/\TabSt H7 Pt fL fq/\H7 d3=some (.dK kvs)/\Paired (dn H H7) kvs tr/\(tr.map (·.1)).Nodup/\tr.length<=22+i/\eD tr/\(∀k,(∀c∈cm.take i,k≠kE c)->look tr k=look (jc bg ow) k)/\∀c∈cm.take i,∃r,look tr (kE c)=some [r]/\NB (gY c px) (rV hk c) r)
  ⟨none,kt,jc bg ow,rfl,aV,sf,Kb,Kc,anU g2.nd ow,by omega,a',λ_ _=>rfl,λc hc=>nomatch hc⟩ ?_ ?_ ?_
 . intro i Z H7 hi fJ;obtain⟨u',kvs,tr,rfl,sm,_⟩:=fJ;exact aa.of (sm _ _ r6)
 . intro i v0 Z H7 hv gW;refine bu ?_;intro tT;obtain⟨u',kvs,tr,rfl,sm,Dr,si,pJ,Kd,l7,Ke,zT,zU⟩:=gW;obtain⟨x,Y,rfl⟩:∃x,cm[i]?=some x/\v0=.str x:=by
    rw[dG]at hv;cases e:cm[i]? with
    | none=>rw[e]at hv;cases hv
    | some x=>rw[e]at hv;cases hv;exact⟨x,rfl,rfl⟩
   have xm:=cX Y;obtain⟨xl,zP⟩:=a8 x xm;have b4:=bv pJ;have aR:i<cm.length:=(cT.mp Y).1;refine⟨sm _ _ a6,j.UT.cl,j.UT.nH,t3,?_⟩;refine⟨sm _ _ D6,an.same sm,by omega,(r9 x).mp xm,sm _ _ JE,hok,λp G=>(h3 p (pm p G)).nm,Dr,λr' H8 kp Up lr nb=>?_⟩;refine⟨Ac,λl H9 n9 s9 e9=>?_⟩;have Uq:=s9 _ _ (kp _ _ si Um);have aO:TabSt H9 Pt fL fq:=Up.same s9;have Kf:(Str.ofString "=").length<=sizeLine:=iS (by decide +kernel);refine⟨Kf,iS (by omega),x,rfl,fit (by decide +kernel) (by omega),?_⟩;refine⟨fV.k (k:=.inr (kE x)) Uq (bP (by omega)),?_⟩;have l9:l≠d3:=(aK (kp _ _ si Um) n9).symm;refine⟨_,cQ kvs (.inr (kE x)) (.ref l),bN tr (kE x) [r'],rfl,λb o eb=>?_,TabSt.put Uq aO,aE,?_,ki Kd,b8 (jE tr _ _) (by omega),Dp Ke (λy hy=>by rw[bw.mp hy];exact lr),λk hk=>?_,λc hc=>?_⟩
   . have zE:b∉[Pt,d3]:=λz=>by
      unfold msk at eb;rw[am z]at eb;cases eb
     simp only[bc,fz,fA,nZ]at zE;exact aD (s9 _ _ (kp _ _ (sm _ _ eb) zE.1)) zE.2
   . have l0:H l=none:=by
      cases hz:H l with
      | none=>rfl
      | some o=>
       have lP:l≠Pt:=λz=>by
        obtain⟨φ,w⟩:=TabSt.at Up;rw[z,w]at n9;cases n9
       rw[kp _ _ (sm _ _ (dd (se _ _ hz) lP (aK hz rZ))) lP]at n9;cases n9
     refine iZ (tk _) ⟨rfl,l,rfl,l0,aD e9 l9⟩ (aF pJ λkv f z=>?_);obtain⟨z1,l',z2,z0,J⟩:=z;exact⟨z1,l',z2,z0,aD (s9 _ _ (kp _ _ J (TabSt.ne Dr J (by intro φ z;cases z)))) (be J si (by intro z;cases z))⟩
   . rw[mC Y]at hk;rw[zM,ag λz=>hk x (eU _ (bw.mpr rfl)) z.symm];exact zT k λc hc=>hk c (xD _ hc)
   rw[zM]
   by_cases z:kE x=kE c
   . rw[am z,<-anx z];exact⟨r',rfl,nb⟩
   rw[ag z];rw[mC Y]at hc
   rcases bR.mp hc with hc | hc
   . exact zU c hc
   exact absurd (by rw[bw.mp hc]) z
 intro Z H7 gX;obtain⟨u',kvs,tr,rfl,sm,Dr,si,pJ,Kd,l7,Ke,zT,zU⟩:=gX;rw[ak]at l7 zT zU;rw[fb]at zT zU;exact⟨q d3 H7 kvs tr rZ (λb o eb nb=>sm _ _ (dd (se _ _ eb) nb (aK eb rZ))) Dr si pJ Kd (by omega) Ke ⟨px,bg,⟨pn,λp G=>⟨pm p G,pc p G⟩⟩,g2,λk hk=>zT k λc hc=>hk c ((r9 c).mp hc),λc hc=>by rw[<-anP Ui];exact zU c ((r9 c).mpr hc)⟩⟩
end
section
seal PE PS cg PA PT PW PG fM PI fF
theorem Ur{K:Fg}{g:TG}{tb:TS}{D:Ends}{Z:L2.St}{H:Hp}(G:aa K H a [])(hd:D.nx Z H) :
 ∃W:Nat->Nat->L2.St->Hp->Prop,(∃m,W 0 m Z H)/\∀i m Z H,W i m Z H ->
  ((yN K a).stop i H/\D.nx Z H)\/((yN K a).go i H/\∃N:L2.St->Hp->Prop,(∀σ' H',N σ' H'->∃m',m'<m/\W (i+1) m' σ' H')/\∀x H',(yN K a).yld i H x H'->g x Z H' λσ2 H2=>tb { D with nx:=N,ct:=N,bk:=D.nx } σ2 H2):=
 ⟨λi m σ' H'=>i=0/\σ'=Z/\H'=H,⟨0,rfl,rfl,rfl⟩,λi m σ' H' j=>j.elim λe1 z=>z.elim λe2 e3=>by subst e1 e2 e3;exact .inl ⟨⟨[],G,aG _⟩,hd⟩⟩
theorem Us{X:Cx}(K:Fg){es:List Expr}{k:Nat}{pos:Pos}{t:mQ}{n:Nat}(G:X.calm=true)(h:fM X es t)(z:X.K=K:=by rfl)
 (J:(assignEach es X.env).length=n:=by rfl) (j:(assignEach es X.env).findIdx? (·.1)=none:=by rfl):PG X (.Tuple es k pos) (tz K n t):=z▸ou G h J j
theorem sj{H H2:Hp}{o:HO}(n:H p=none)(s:ac H H2):ac H (ah H2 p o):=λb u e=>aD (s _ _ e) (aK e n)
abbrev sk (p:cD):Ls:=p.fs.map (·.1)
inductive Ut (C:Addr):Sp where
 | mk {H:Hp}{Q:VK}{E:XK}{v:V}{p:cD} (_:ju C H v p) (_:p.fs.length<=100) (_:d8 H (.lst ((sk p).map V.str)) Q):Ut C [v] H Q E
theorem aoh:aN [ayD] [ayD] (av HJ):=aU
theorem Uu(z:Pg K mg base Pt):aA P w K mg base aJ 1 z.PaO.f z.PaO.fd [ayD] (Ut z.C):=by
 refine z.PaO.u.okL aoh ?_;intro au A outer s H vs Q E hr h xX dX;obtain @⟨_,_,_,v,p,⟨a,dx,fl,rk,m,pf,pn,ps,po,xs,rfl,hA,hF,hM,Y,lG,_⟩,CY,q⟩:=h;have hl:=bv lG;refine⟨_,(al (aQ (fZ [ayG,ayO] [] [] dJ rfl (cL (bK (pv 0) rfl)) (λ_ _ _ _=>(Us (n:=2) K rfl (gE (bf (i:=0) (show List.Nodup ([ayG,ayO]:Ls) by decide +kernel) rfl (Or.inl rfl)) (gE (bf (i:=1) (show List.Nodup ([ayG,ayO]:Ls) by decide +kernel) rfl (Or.inl rfl)) mR)))) (λ_ _ _ _=>fY) (λ_ _ _ _=>(pv 0))))),?_⟩;refine⟨hA,z.TC.cl,z.TC.nF,hF.files,⟨_,aa.of Y⟩,?_⟩;intro D O;refine C0 (σ0:=[none,none]) O (aa.of Y) (λZ=>∃u v,Z=[u,v]) (λj zs _=>zs=((sk p).take j).map V.str) ⟨_,_,rfl⟩ rfl ?_ ?_
 . rintro j y zs Z H3 k hy ⟨u,v,rfl⟩ G J rfl fG;obtain⟨f,U,t,l,rfl,f1,f2⟩:=eK lG hy;have aO:=(cT.mp U).1;have Gp:(sk p)[j]?=some f.1:=by rw[dG,U];rfl
   refine⟨aZ.of (J _ _ f1),rfl,rfl,?_⟩;refine⟨fG _ _ _ ⟨_,_,rfl⟩ (ac.refl _) (bP (by rw[ak,eF];omega)) ?_⟩;rw[mC Gp,dw];rfl
 rintro zs H3 G J rfl;have e:(sk p).take xs.length=sk p:=MK (by rw[ak];omega);rw[e]at G;exact q D H3 O J G
inductive zV (C:Addr):Sp where
 | mk {H:Hp}{Q:VK}{E:XK}{v:V}{a:Addr}{xs:Lv}{p:cD}{ps:Lp} (_:ju C H v p) (_:H a=some (.lst xs)) (_:eB C H xs ps) (_:ps.length<=9) (_:p.fs.length<=9) (_:(∀o∈ps,o.fs.length<=9)) (_:(∀o∈ps,o.nm≠p.nm->∀x∈sk p,x∉sk o)) (_:d8 H (.lst []) Q):zV C [v,.ref a] H Q E
theorem Dt:aN [ayD,ayF,"faults",ay1,"claim"] [ayD,ayF] (av HG):=aU
theorem aoi(j:Pg K mg base Pt):aA P w K mg base aJ 1 j.NFa.f j.NFa.fd [ayD,ayF] (zV j.C):=by
 refine j.NFa.u.okL Dt ?_;intro Y A outer s H vs Q E hr h xX dX;obtain @⟨_,_,_,v,a,xs,p,ps,⟨b,dx,fl,rk,m,pf,pn,jK,po,fx,rfl,J,O,hM,jI,lG,hO,hR,G,_⟩,ha,bJ,l1,l2,l3,l4,q⟩:=h;refine⟨_,(ai (aH (i:=2) Dt.nd rfl (Or.inl rfl) (dq eI))
  (ai (eV eG rfl (QZ (by rfl) j.B.enumerate (aq (bK (pv 0) rfl))) (ou rfl (gE (bf (i:=3) Dt.nd rfl (Or.inl rfl)) (gE (bf (i:=4) Dt.nd rfl (Or.inl rfl)) mR)))
  EW)
  (al (aQ (pv 2))))),?_⟩
 refine jA ?_
 intros
 refine⟨Ab,λU H1 n1 z e1=>?_⟩;refine⟨z _ _ J,j.TC.cl,j.TC.nE,O.needs,pn,rfl,⟨_,aa.of (z _ _ G)⟩,?_⟩;exact Ur (aa.of (z _ _ G)) ⟨q U H1 n1 z e1⟩
theorem zX:aN [ayD,ayF,azm,"faults",ay1,"claim"] [ayD,ayF] (av HH):=aU
theorem aoj(z:Pg K mg base Pt):aA P w K mg base aJ 1 z.SFa.f z.SFa.fd [ayD,ayF] (zV z.C):=by
 refine z.SFa.u.okL zX ?_;intro au A outer s H vs Q E hr h xX dX;obtain @⟨_,_,_,v,a,xs,p,ps,⟨b,dx,fl,rk,m,pf,pn,jK,po,fx,rfl,U,Y,hM,jI,lG,hO,hR,_,zW⟩,ha,O,l1,l2,l3,l4,q⟩:=h;have a0:=bv O;refine⟨_,(ai (oP (i:=2) [ayR] [ayD] [0] zX.nd rfl rfl dJ rfl (cL (pv 1)) (λ_ _ _ _=>(bf (i:=0) (show List.Nodup ([ayR,ayD]:Ls) by decide +kernel) rfl (Or.inl rfl))) (λ_ _ _ _=>oO (bW Bj (iV K (pv 0) rfl) (iV K (pv 1) rfl) (bC _))) (λ_ _ _ _=>(pv 0)))
  (ai (aH (i:=3) zX.nd rfl (Or.inl rfl) (dq eI))
  (ai (eV eG rfl (QZ (by rfl) z.B.enumerate (aq (bK (pv 0) rfl))) (ou rfl (gE (bf (i:=4) zX.nd rfl (Or.inr rfl)) (gE (bf (i:=5) zX.nd rfl (Or.inl rfl)) mR)))
  EW)
  (al (aQ (pv 3)))))),?_⟩
 refine jB ?_
 intros
 refine⟨⟨_,aa.of ha⟩,?_⟩;intro D hD;refine rM (σ0:=[none,some (.ref b)]) hD (aa.of ha) (λZ=>∃v,Z=[v,some (.ref b)]) (λj zs _=>zs.length<=j) ⟨_,rfl⟩ (aG _) ?_ ?_
 . rintro j y zs Z H3 k k' hy ⟨v,rfl⟩ cV G zl fG jw;obtain⟨o,ho,hE⟩:=eK O hy;have aO:=(cT.mp ho).1;obtain⟨b',wS,rm,C6,m',Uv,Uw,Ux,Uy,Uz,rfl,Du,Dv,_⟩:=id hE;refine⟨G _ _ Du,z.TC.cl,z.TC.nN,Dv.name,G _ _ U,z.TC.cl,z.TC.nN,Y.name,rfl,⟨?_⟩⟩;refine bj (λh=>?_) (λh=>?_)
   . exact⟨fG _ _ _ ⟨_,rfl⟩ (ac.refl _) (bP (by omega)) (by rw[bI,je];omega)⟩
   exact jw _ _ ⟨_,rfl⟩ (ac.refl _) (by omega)
 rintro zs H3 cV G zl;refine bu ?_;intro tT;refine⟨Ab,λp1 H1 n1 s1 e1=>?_⟩;have J:=G.trans s1;refine⟨J _ _ U,z.TC.cl,z.TC.nS,Y.shuts,jK,rfl,⟨_,aa.of (J _ _ zW)⟩,?_⟩;exact Ur (aa.of (J _ _ zW)) ⟨q p1 H1 (G.free n1) J e1⟩
theorem Aa:aN [ayD,ayF,azm,"faults",ayR,"paths"] [ayD,ayF] (av HI):=aU
theorem aok(G:Pg K mg base Pt):aA P w K mg base aJ 2 G.CFa.f G.CFa.fd [ayD,ayF] (zV G.C):=by
 refine G.CFa.u.okL Aa ?_;intro au A outer s H vs Q E hr h xX dX;obtain @⟨_,_,_,v,a,xs,p,ps,hP,ha,bJ,l1,l2,l3,l4,q⟩:=h;obtain⟨b,dx,fl,rk,m,pf,pn,jK,po,fx,rfl,hA,hF,_⟩:=id hP;have a2:=bv bJ;refine⟨_,(ai (oP (i:=2) [ayR] [ayD] [0] Aa.nd rfl rfl dJ rfl (cL (pv 1)) (λ_ _ _ _=>(bf (i:=0) (show List.Nodup ([ayR,ayD]:Ls) by decide +kernel) rfl (Or.inl rfl))) (λ_ _ _ _=>oO (bW Q0 (iV K (pv 0) rfl) (iV K (pv 1) rfl) (bC _))) (λ_ _ _ _=>(pv 0)))
  (ai (aH (i:=3) Aa.nd rfl (Or.inl rfl) (dq eI))
  (ai (eV eG rfl (cL (pv 2)) (bf (i:=4) Aa.nd rfl (Or.inr rfl))
  (ai (aH (i:=5) Aa.nd rfl (Or.inr rfl) (aB (Uu G) hr rfl (aq (pv 4))))
   (al (bT (dH jf qt qv mW (pv 3) (aq (fZ [ayG] [ayD,ayR,"paths"] [0,4,5] dJ rfl (cL (aB (Uu G) hr rfl (aq (pv 0)))) (λ_ _ _ _=>(bf (i:=0) (show List.Nodup ([ayG,ayD,ayR,"paths"]:Ls) by decide +kernel) rfl (Or.inl rfl))) (λ_ _ _ _=>oO (bW (Py K) (pv 0) (pv 3) (by rfl))) (λ_ _ _ _=>(eX (vN bO (iV K (pv 1) rfl) (iV K (pv 2) rfl) (pv 0)))))))))))
  (al (aQ (pv 3)))))),?_⟩
 refine jB ?_
 intros
 refine⟨⟨_,aa.of ha⟩,?_⟩;intro D hD;refine rM (σ0:=[none,some (.ref b)]) hD (aa.of ha) (λZ=>∃v,Z=[v,some (.ref b)]) (λj zs _=>zs.length<=j/\∃os,eB G.C H zs os/\∀o∈os,o∈ps/\o.nm≠p.nm) ⟨_,rfl⟩ ⟨aG _,[],.nil,λ_ h=>nomatch h⟩ ?_ ?_
 . rintro j y zs Z H3 k k' J ⟨v,rfl⟩ cV h3 ⟨zl,os,zp,zo⟩ fG jw;obtain⟨o,Y,U⟩:=eK bJ J;have aO:=(cT.mp Y).1;obtain⟨b',wS,rm,C6,m',Uv,Uw,Ux,Uy,Uz,rfl,Du,Dv,_⟩:=id U;refine⟨h3 _ _ Du,G.TC.cl,G.TC.nN,Dv.name,h3 _ _ hA,G.TC.cl,G.TC.nN,hF.name,_,_,rfl,rfl,⟨?_⟩⟩;refine bj (λh=>?_) (λh=>?_)
   . refine⟨fG _ _ _ ⟨_,rfl⟩ (ac.refl _) (bP (by omega)) ⟨by rw[bI,je];omega,os++[o],jq U zp,λo' iq=>?_⟩⟩
     rcases bR.mp iq with z | z
     . exact zo o' z
     rw[bw.mp z];refine⟨cX Y,λe=>?_⟩;have h:=cY h;rw[e]at h;exact YH _ h
   exact jw _ _ ⟨_,rfl⟩ (ac.refl _) ⟨by omega,os,zp,zo⟩
 rintro oz H0 d0 s0 ⟨zl,os,a1,zo⟩;refine bu ?_;intro tT;refine⟨Ab,λp1 H1 n1 s1 e1=>?_⟩;refine⟨⟨_,aa.of (s1 _ _ d0)⟩,?_⟩;have zY:=s0.trans s1;refine iN (xs:=oz) (λi Z H2=>∃u v,Z=[some (.ref b),some (.ref a),some (.ref D),some (.ref p1),u,v]/\ac H0 H2/\H2 p1=some (.lst [])) ⟨none,none,rfl,s1,e1⟩ ?_ ?_ ?_
 . rintro i Z H2 hi ⟨u,v,rfl,O,e2⟩;exact aa.of (O _ _ d0)
 . intro i z Z H2 hz hQ;refine bu ?_;intro tT;obtain⟨u,v,rfl,O,e2⟩:=hQ;obtain⟨o,Y,U⟩:=eK a1 hz;obtain⟨om,on⟩:=zo o (cX Y);have lo:=l3 o om;obtain⟨b',wS,rm,C6,m',Uv,Uw,Ux,Uy,Uz,rfl,Du,Dv,_⟩:=id U;have sq:=s0.trans O;refine⟨U.same sq,by omega,λl5 H5 n5 s5 e5=>?_⟩;have su:=sq.trans s5;refine⟨.inl ⟨rfl,_,aa.of (s5 _ _ e2)⟩,hP.same su,by omega,λl6 H6 n6 s6 e6=>⟨⟨_,aa.of e6⟩,?_⟩⟩;intro D7 nQ;refine rM (σ0:=[none,some (.ref b),some (.ref b'),some (.ref l5)]) nQ (aa.of e6) (λZ=>∃v,Z=[v,some (.ref b),some (.ref b'),some (.ref l5)]) (λj kB H7=>kB=[]) ⟨_,rfl⟩ rfl ?_ ?_
   . rintro j y kB Z H7 k k' J ⟨v,rfl⟩ si h7 rfl fG jw;rw[dG]at J;cases hx:(sk p)[j]? with
     | none=>rw[hx]at J;cases J
     | some x=>
      rw[hx]at J;cases J;refine⟨.inl (aa.of (h7 _ _ (s6 _ _ e5))),rfl,zD _,⟨?_⟩⟩;refine bj (λh=>?_) (λh=>?_)
      . exact absurd (zH.mp h) (l4 o om on x (cX hx))
      exact jw _ _ ⟨_,rfl⟩ (ac.refl _) rfl
   rintro kB H7 si h7 rfl;have uS:=s5.trans (s6.trans h7);have a0:=uS _ _ e2;refine⟨a0,si,by decide,?_⟩;exact⟨_,_,rfl,sj n1 (O.trans uS),aE⟩
 rintro Z H2 ⟨u,v,rfl,O,e2⟩;exact⟨q p1 H2 (s0.free n1) (s0.trans O) e2⟩
inductive UA (C S:Addr):Sp where
 | mk {H:Hp}{Q:VK}{E:XK}{j:V}{c:Addr}{xs:Lv}{ps:Lp}{ch:Ch}{ns:Ls} (_:jv S H j xs ps) (_:eB C H xs ps) (_:Apart ns ps) (_:dj H c ch) (_:py xs ps ch) (_:ch.length<=4) (_:d8 H (.lst []) Q):UA C S [j,.ref c] H Q E
theorem Dw:aN [ayC,ayH,ayF,"faults",ayD] [ayC,ayH] (av HE):=aU
theorem aon(j:Pg K mg base Pt):aA P w K mg base aJ 3 j.FaO.f j.FaO.fd [ayC,ayH] (UA j.C j.S):=by
 refine j.FaO.u.okL Dw ?_;intro au A outer s H vs Q E O h xX dX;obtain @⟨_,_,_,sv,c,xs,ps,ch,ns,hS,hP,Y,hc,hV,h4,q⟩:=h;refine⟨_,(ai (aH (i:=2) Dw.nd rfl (Or.inl rfl) (aB (Jd j) O rfl (aI (pv 0) (pv 1))))
  (ai (aH (i:=3) Dw.nd rfl (Or.inl rfl) (dq eI))
  (ai (eV eG rfl (cL (pv 2)) (bf (i:=4) Dw.nd rfl (Or.inl rfl))
  (ai (bT (dH jf qt qv mW (pv 3) (aq (aB (aoi j) O rfl (aI (pv 4) (pv 2))))))
   (ai (bT (dH jf qt qv mW (pv 3) (aq (aB (aoj j) O rfl (aI (pv 4) (pv 2))))))
   (al (bT (dH jf qt qv mW (pv 3) (aq (aB (aok j) O rfl (aI (pv 4) (pv 2))))))))))
  (al (aQ (cr afc (by rfl) j.B.sorted xQ (aq (pv 3)))))))),?_⟩
 refine jB ?_
 intros
 refine⟨hS,hc,hV,by omega,λD H1 lw px n1 s1 e1 pr pn pc=>?_⟩;have wW:=Jg (hP.same s1) pr;have pm:=Jh pr;have dP:px.length<=4:=by
  have e:=pn.length_eq;rw[ak,ak]at e;omega
 refine⟨Ab,λG H2 n2 s2 e2=>?_⟩;refine⟨⟨_,aa.of (s2 _ _ e1)⟩,?_⟩;refine iN (xs:=lw) (λi Z H3=>∃u,Z=[some sv,some (.ref c),some (.ref D),some (.ref G),u]/\ac H1 H3/\H3 G=some (.lst [])) ⟨none,rfl,s2,e2⟩ ?_ ?_ ?_
 . rintro i Z H3 hi ⟨u,rfl,s3,e3⟩;exact aa.of (s3 _ _ e1)
 . intro i z Z H3 hz hQ;refine bu ?_;intro tT;obtain⟨u,rfl,s3,e3⟩:=hQ;obtain⟨p,hp,hE⟩:=eK wW hz;have pp:=pm p (cX hp);have go:∀{J:Hp}{Q:VK},ac H1 J->d8 J (.lst []) Q->zV j.C [z,.ref D] J Q E0:=λ{J Q} sx q=>⟨hE.same sx,sx _ _ e1,wW.same sx,by omega,by have:=(Y.ok p pp).1;omega,λo ho=>by have:=(Y.ok o (pm o ho)).1;omega,λo ho ne x hx jk=>ne (Y.one o (pm o ho) p pp x jk hx),q⟩;refine⟨.inl ⟨rfl,_,aa.of e3⟩,⟨⟨go s3 λD4 H4 n4 U e4=>?_⟩⟩⟩;have m4:ac H1 (ah H4 G (.lst ([]++[]))):=sj n2 (s3.trans U);refine⟨U _ _ e3,e4,by decide,?_⟩;refine⟨.inl ⟨rfl,_,aa.of aE⟩,⟨⟨go m4 λD5 H5 n5 s5 e5=>?_⟩⟩⟩;have m5:ac H1 (ah H5 G (.lst (([]++[])++[]))):=sj n2 (m4.trans s5);refine⟨s5 _ _ aE,e5,by decide,?_⟩;refine⟨.inl ⟨rfl,_,aa.of aE⟩,⟨⟨go m5 λD6 H6 n6 s6 e6=>?_⟩⟩⟩;refine⟨s6 _ _ aE,e6,by decide,?_⟩;exact⟨_,rfl,sj n2 (m5.trans s6),aE⟩
 rintro Z H3 ⟨u,rfl,s3,e3⟩;refine⟨G,[],rfl,aa.of e3,by decide,λcj a0 srt p4 H4 n4 U e4=>?_⟩;have ey:cj=[]:=a0.eq_nil;subst ey;exact q p4 H4 (s1.free (s3.free n4)) (s1.trans (s3.trans U)) e4
inductive UB (C S:Addr):Sp where
 | mk {H:Hp}{Q:VK}{E:XK}{j:V}{c:Addr}{xs:Lv}{ps:Lp}{ch:Ch}{ns:Ls} (_:jv S H j xs ps) (_:eB C H xs ps) (_:Apart ns ps) (_:dj H c ch) (_:py xs ps ch) (_:ch.length<=4) (_:∀H',ac H H'->Q (.bl true) H'):UB C S [j,.ref c] H Q E
theorem aop:aN [ayC,ayH] [ayC,ayH] (av HF):=aU
theorem aoq(j:Pg K mg base Pt):aA P w K mg base aJ 4 j.Sou.f j.Sou.fd [ayC,ayH] (UB j.C j.S):=by
 refine j.Sou.u.okL aop ?_;intro au A outer s H vs Q E hr h xX dX;obtain @⟨_,_,_,sv,c,xs,ps,ch,ns,O,J,z,Y,U,G,q⟩:=h;refine⟨_,(al (aQ (jl fC (cr fU (by rfl) j.B.len fc (aq (aB (aon j) hr rfl (aI (pv 0) (pv 1))))) aj (bC _)))),?_⟩;exact⟨O,J,z,Y,U,G,λr H1 n1 s1 e1=>⟨r,_,rfl,.inl (aa.of e1),rfl,q H1 s1⟩⟩
variable {H:Hp}{xs:Lv}{ps:Lp}{ns:Ls}{v:V}{A:List Addr}{n:Str}
structure lH(C S:Addr)(H:Hp)(sv:V)(xs:Lv)(ps:Lp)(ns:Ls):Prop where
 sh:jv S H sv xs ps
 pc:eB C H xs ps
 ap:Apart ns ps
 n4:ns.length<=4
 nm:∀n∈ns,bQ n
theorem lH.same{H':Hp}{j:V}(h:lH C S H j xs ps ns)(s:ac H H'):lH C S H' j xs ps ns:=⟨h.sh.same s,h.pc.same s,h.ap,h.n4,h.nm⟩
theorem lH.pcok{O:V}(h:lH C S H O xs ps ns):∀p∈ps,Uf ns p:=λp j=>by
 obtain⟨a,b,c⟩:=h.ap.ok p j;obtain⟨d,e⟩:=h.ap.offs p j;exact⟨a,λf G=>⟨by have:=(b f G).2.2;omega,λx J=>((b f G).2.1 x J).ln⟩,d,(h.nm _ (h.ap.nms p j)).ln,λt z=>⟨⟨(h.nm t (e t z)).ln,by have:=(h.nm t (e t z)).hi;omega⟩,e t z⟩⟩
structure eY(xs:Lv)(ps:Lp)(ch:Ch):Prop where
 nd:(ch.map (·.1)).Nodup
 va:py xs ps ch
theorem Kg{p:cD}(h:uH xs ps v p):p∈ps:=h.elim λ_ j=>j.elim λa _=>cX a
theorem eY.len{ch:Ch}(h:eY xs ps ch)(a:Apart ns ps)(G:ns.length<=4):ch.length<=4:=by
 have:=jD h.nd λx z=>by
  obtain⟨e,j,rfl⟩:=cE.mp z;obtain⟨v,p,hi,e1,_⟩:=h.va e j;exact e1▸a.nms p (Kg hi)
 rw[ak]at this;omega
theorem aos{β:Type}{j now:List (Str×β)}{x:Str}{e:Str×β}(h:e∈bL j now x):e∈now\/e∈j:=by
 unfold bL at h;split at h
 . rename_i m G
   rcases kf h with z | z
   . right;rw[z];exact nJ G
   exact .inl z
 exact .inl (mH.mp h).1
theorem eY.step{now j:Ch}(h:eY xs ps now)(g:eY xs ps j)(x:Str):eY xs ps (bL j now x):=⟨Tw h.nd,λe z=>(aos z).elim (h.va e) (g.va e)⟩
theorem eY.steps{j:Ch}(g:eY xs ps j):∀{us:Ls}{now:Ch},eY xs ps now->eY xs ps (us.foldl (bL j) now)
 | [],_,h=>h
 | x::us,_,h=>eY.steps g (us:=us) (h.step g x)
theorem dj.mut{zs U:Lv}{ch:Ch}(j:H D=some (.lst zs))(h:dj H c ch):dj (ah H D (.lst U)) c ch:=by
 obtain⟨kvs,h1,h2⟩:=h;exact⟨kvs,aD h1 (be h1 j (by intro z;cases z)),aF h2 λkv e G=>G.elim λa J=>J.elim λm O=>O.elim λb c=>⟨a,m,b,aD c (be c j (by intro z;cases z))⟩⟩
theorem Kh{kvs:List (ao×V)}{fs:Ch}(h:Paired (dC H) kvs fs)(nd:(fs.map (·.1)).Nodup)(p:Str):(look fs p=none/\bi kvs (.inr p)=none)\/(∃m t,look fs p=some m/\bi kvs (.inr p)=some (.ref t)/\H t=some (.tup (m.map V.int))):=by
 have G:∀kv f,dC H kv f->kv.1=Sum.inr f.1:=λkv f z=>z.1
 by_cases j:p∈fs.map (·.1)
 . obtain⟨v,m,e,J,r⟩:=ph G h j;obtain⟨_,t,e2,e3⟩:=r;have e2:v=.ref t:=e2;exact .inr ⟨m,t,uN nd J,by rw[e,e2],e3⟩
 exact .inl ⟨iG.mpr j,yW G h j⟩
def Ki:Oi->W.Dat
 | none=>.none
 | some m=>dI m
theorem aow{a b:Oi}(h:Ki a=Ki b):a=b:=by
 cases a with
 | none=>
  cases b with
  | none=>rfl
  | some y=>cases h
 | some x=>
  cases b with
  | none=>cases h
  | some y=>rw[alO.mp h]
def iH(A:List Addr)(H:Hp)(v:V)(n:Str):Prop:=∃l,v=.ref l/\l∉A/\H l=some (.lst [.str n])
theorem iH.same{H':Hp}(s:ac H H')(h:iH A H v n):iH A H' v n:=h.elim λl j=>j.elim λa z=>z.elim λb c=>⟨l,a,b,s _ _ c⟩
theorem iH.mut(j:D∈A){o:HO}(h:iH A H v n):iH A (ah H D o) v n:=by
 obtain⟨l,a,b,c⟩:=h;exact⟨l,a,b,by rw[aW (show l≠D from λz=>b (by rw[z];exact j))];exact c⟩
theorem iH.sub{B:List Addr}(hs:∀x∈B,x∈A)(h:iH A H v n):iH B H v n:=h.elim λl G=>G.elim λa j=>j.elim λb c=>⟨l,a,λz=>b (hs l z),c⟩
abbrev aoB:Sp:=Dg dC λ_=>True
theorem UC(j:Pg K mg base Pt):aA P w K mg base aJ 1 j.KUn.f j.KUn.fd [ay4,ay3] aoB:=
 TK (Fv:=dC) (OK:=λ_=>True) (dat:=Ki) (λ_ _ _ z=>z.1) (λs z=>dC.same s z) aow (λh nd _ p=>by
  rcases Kh h nd p with⟨e1,e2⟩ | ⟨m,t,e1,e2,e3⟩
  . rw[e1,e2];exact⟨.non,rfl⟩
  rw[e1,e2];exact⟨Jj e3,zB 8 m⟩) j
inductive UE:Sp where
 | mk {H:Hp}{Q:VK}{E:XK}{a b c:Addr}{now j:Ch}{x:Str} (_:dj H a now) (_:dj H b j) (_:(now.map (·.1)).Nodup) (_:(j.map (·.1)).Nodup) (_:H c=some (.lst [.str x])) (_:now.length<=50) (_:∀r H',H r=none->ac H H'->dj H' r (bL j now x)->Q (.ref r) H'):UE [.ref a,.ref b,.ref c] H Q E
theorem Kj:aN [ay7,ayT,aza,"behind",ayE] [ay7,ayT,aza] (av HV):=aU
theorem Kk(O:Pg K mg base Pt):aA P w K mg base aJ 1 O.Beh.f O.Beh.fd [ay7,ayT,aza] UE:=by
 refine O.Beh.u.okL Kj ?_;intro au A outer s H vs Q E hr h xX dX;obtain @⟨_,_,_,a,b,c,now,Y,x,⟨kn,hn,pn⟩,⟨kg,hg,pg⟩,zN,JQ,hc,hl,q⟩:=h;have J:=hr.units;refine⟨_,(ai (aH (i:=3) Kj.nd rfl (Or.inl rfl) (eJ vJ (by rfl) O.B.dict AY (aq (pv 0))))
  (ai (eV eG rfl (cL (pv 2)) (bf (i:=4) Kj.nd rfl (Or.inl rfl))
  (al (bV (qC (vD J (pv 4) (pv 1)) (by rfl))
   (al (iR J (pv 3) (pv 4) (qN J (pv 1) (pv 4) (λ_ _=>rfl)) rfl)) (al (bV (qC (vD J (pv 4) (pv 3)) (by rfl))
    (al (bT (Bx (pv 3) (pv 4) ⟨rfl,rfl,rfl,rfl⟩))) cZ)))))
  (al (aQ (pv 3))))),?_⟩
 refine jA ?_;intro dD sS gu dZ;have pl:=bv pn;have hk:∀kv f,dC H kv f->kv.1=Sum.inr f.1:=λkv f z=>z.1;refine⟨a,_,rfl,hn,λp1 H1 n1 s1 e1=>?_⟩;refine⟨⟨_,aa.of (s1 _ _ hc)⟩,?_⟩;refine iN (xs:=[.str x]) (λi Z H2=>∃u kvs,Z=[some (.ref a),some (.ref b),some (.ref c),some (.ref p1),u]/\ac H H2/\H2 p1=some (.dK kvs)/\Paired (dC H) kvs (if i=0 then now else bL Y now x)) ⟨none,kn,rfl,s1,e1,pn⟩ ?_ ?_ ?_
 . rintro i Z H2 hi ⟨u,kvs,rfl,j,_⟩;exact aa.of (j _ _ hc)
 . intro i x' Z H2 hx hQ;refine bu ?_;intro tT;obtain⟨u,kvs,rfl,j,e2,p2⟩:=hQ;have i0:i=0:=by have:=(cT.mp hx).1;simpa using this
   subst i0;cases hx;rw[am rfl]at p2;have kl:=bv p2;have Dx:=j _ _ hg;refine⟨_,cU.k (k:=.inr x) Dx,⟨?_⟩⟩
   rcases Kh pg JQ x with⟨U,G⟩ | ⟨m,t,U,G,g3⟩
   . rw[G];refine eW ?_;have es:bL Y now x=ii now x:=by unfold bL;rw[U]
     refine⟨_,cU.k (k:=.inr x) e2,⟨?_⟩⟩
     rcases Kh p2 zN x with⟨k1,k2⟩ | ⟨m,t,k1,k2,k3⟩
     . rw[k2];refine eW ⟨_,kvs,rfl,j,e2,?_⟩;rw[ag (by decide),es,zK (iG.mp k1)];exact p2
     rw[k2];refine fE ⟨.inl ⟨_,.inl e2⟩,kvs,.inr x,.ref t,e2,rfl,k2,?_⟩;refine⟨_,_,rfl,sj n1 j,aE,?_⟩;rw[ag (by decide),es];exact zJ hk p2
   rw[G];refine fE ⟨by rw[<-G];exact cU.k (k:=.inr x) Dx,fV.k (k:=.inr x) e2 (bP (by omega)),?_⟩;refine⟨_,_,rfl,sj n1 j,aE,?_⟩;have es:bL Y now x=bN now x m:=by unfold bL;rw[U]
   rw[ag (by decide),es];exact iZ hk ⟨rfl,t,rfl,g3⟩ p2
 rintro Z H2 ⟨u,kvs,rfl,j,e2,p2⟩;rw[ag (by simp)]at p2;exact⟨q p1 H2 n1 j ⟨kvs,e2,aF p2 λ_ _=>dC.same j⟩⟩
inductive UG:Sp where
 | mk {H:Hp}{Q:VK}{E:XK}{a b z:Addr}{names:Ls} (_:H a=some (.lst [.ref z])) (_:H z=some (.lst [])) (_:H b=some (.lst (names.map V.str))) (_:names.length<=50) (_:∀l ys H',H l=none->ac H H'->H' l=some (.lst ys)->Paired (iH [] H') ys names->Q (.ref l) H'):UG [.ref a,.ref b] H Q E
theorem Kl:aN [azn,azg,"larger",aza] [azn,azg] (av HY):=aU
theorem aoC(zZ:Pg K mg base Pt):aA P w K mg base aJ 1 zZ.Wom.f zZ.Wom.fd [azn,azg] UG:=by
 refine zZ.Wom.u.okL Kl ?_;intro au A outer s H vs Q E hr h xX dX;obtain @⟨_,_,_,a,b,z,names,ha,hz,hb,n1,q⟩:=h;refine⟨_,(ai (aH (i:=2) Kl.nd rfl (Or.inl rfl) (dq eI))
  (ai (eV eG rfl (cL (pv 0)) (bf (i:=3) Kl.nd rfl (Or.inr rfl))
  (al (bT (dH jf qt qv mW (pv 2) (aq (fZ [ayE] [aza] [3] dJ rfl (cL (pv 1)) (λ_ _ _ _=>(bf (i:=0) (show List.Nodup ([ayE,aza]:Ls) by decide +kernel) rfl (Or.inl rfl))) (λ_ _ _ _=>oO (PW.pt (Bc (bW fC (cr (Pz K) (by rfl) zZ.B.len fc (aq (pv 1))) aj (bC _)) (Bb (bW Q0 (pv 0) (bA (vI K) (pv 1) (qG qH aj) (λ_ _=>rfl)) (bC _)))))) (λ_ _ _ _=>(aw qT (pv 1) (dq (aq (pv 0)))))))))))
  (al (aQ (pv 2))))),?_⟩
 refine jA ?_;intro dD sS gu dZ;refine⟨Ab,λJ H1 C1 s1 e1=>?_⟩;refine⟨⟨_,aa.of (s1 _ _ ha)⟩,?_⟩;refine iN (xs:=[.ref z]) (λi Z H2=>∃u ys,Z=[some (.ref a),some (.ref b),some (.ref J),u]/\ac H H2/\H2 J=some (.lst ys)/\Paired (iH [J] H2) ys (if i=0 then [] else names)) ⟨none,[],rfl,s1,e1,.nil⟩ ?_ ?_ ?_
 . rintro i Z H2 hi ⟨u,ys,rfl,G,_⟩;exact aa.of (G _ _ ha)
 . intro i x Z H2 hx hQ;refine bu ?_;intro tT;obtain⟨u,ys,rfl,G,e2,p2⟩:=hQ;have i0:i=0:=by have:=(cT.mp hx).1;simpa using this
   subst i0;cases hx;cases p2;refine⟨.inl ⟨rfl,_,aa.of e2⟩,⟨_,aa.of (G _ _ hb)⟩,?_⟩;intro D hD;have nD:J≠D:=λz=>by rw[<-z,e2]at hD;cases hD
   refine rM (σ0:=[none,some (.ref z)]) hD (aa.of (G _ _ hb)) (λZ=>∃v,Z=[v,some (.ref z)]) (λj ws H3=>Paired (iH [D,J] H3) ws (names.take j)) ⟨_,rfl⟩ .nil ?_ ?_
   . rintro j y ws Z H3 k k' hy ⟨v,rfl⟩ cV Y O fG jw;rw[dG]at hy;cases hn:names[j]? with
     | none=>rw[hn]at hy;cases hy
     | some n=>
      rw[hn]at hy;cases hy;have UI:=Y _ _ (G _ _ hz);have wl:=bv O;rw[eF]at wl;refine⟨z,_,rfl,.inl (aa.of UI),rfl,⟨fE (fE ⟨Ac,λp5 H5 n5 s5 e5=>?_⟩)⟩⟩;refine⟨s5 _ _ UI,e5,(show 0+1<=sizeLine by decide),λp6 H6 n6 s6 e6=>?_⟩;have UJ:=s5.trans s6;refine fG _ _ _ ⟨_,rfl⟩ UJ (bP (by omega)) ?_;rw[mC hn];refine jq (iH.mut (by simp) ⟨p6,rfl,?_,e6⟩) (aF O λ_ _ z=>(z.same UJ).mut (by simp));intro z;have U:H3 p6=none:=s5.free n6
      rcases bc.mp z with e | e
      . rw[e,cV]at U;cases U
      rw[bw.mp e]at U;have:=Y _ _ e2;rw[this]at U;cases U
   rintro ws H3 cV Y O;rw[ak,fb]at O;have wl:=bv O;have a0:=Y _ _ e2;refine⟨a0,cV,lg (by simp;omega),?_⟩;refine⟨_,_,rfl,sj C1 (G.trans Y),aE,?_⟩;rw[ag (by decide)];exact aF O λ_ _ z=>(z.mut (D:=J) (by simp)).sub (by simp)
 rintro Z H2 ⟨u,ys,rfl,G,e2,p2⟩;rw[ag (by simp)]at p2;exact⟨q J ys H2 C1 G e2 (aF p2 λ_ _ z=>z.sub (by simp))⟩
inductive UK (C S:Addr):Sp where
 | mk {H:Hp}{Q:VK}{E:XK}{z:V}{a b c:Addr}{xs:Lv}{ps:Lp}{ns:Ls}{now j:Ch}{x:Str}{names:Ls} (_:lH C S H z xs ps ns) (_:dj H a now) (_:dj H b j) (_:eY xs ps now) (_:eY xs ps j) (_:H c=some (.lst ((x::names).map V.str))) (_:names.length<=40) (_:∀l H',ac H H'->H' l=some (.lst [.str x])->Q (.ref l) H'):UK C S [z,.ref a,.ref b,.ref c] H Q E
theorem Ad:aN [ayC,ay7,ayT,azg,azn,"many",aza] [ayC,ay7,ayT,azg] (av HX):=aU
theorem aoE(G:Pg K mg base Pt):aA P w K mg base aJ 5 G.Fst.f G.Fst.fd [ayC,ay7,ayT,azg] (UK G.C G.S):=by
 refine G.Fst.u.okL Ad ?_;intro au A outer s H vs Q E hr h xX dX;obtain @⟨_,_,_,sv,a,b,c,xs,ps,ns,now,a0,x,names,O,hA,hB,k1,k2,Y,a1,q⟩:=h;refine⟨_,(ai (aH (i:=4) Ad.nd rfl (Or.inl rfl) (dq (aq (dq eI))))
  (ai (eV eG rfl (E2 rfl G.B.range (aI aj (cr fU (by rfl) G.B.len fc (aq (pv 3))))) (bf (i:=5) Ad.nd rfl (Or.inl rfl))
  (ai (aH (i:=4) Ad.nd rfl (Or.inl rfl) (aB (aoC G) hr rfl (aI (pv 4) (pv 3))))
   (al (eV eG rfl (cL (pv 4)) (bf (i:=6) Ad.nd rfl (Or.inl rfl))
   (al (bV (iM (aB (aoq G) hr rfl (aI (pv 0) (aB (Kk G) hr rfl (dv (pv 1) (pv 2) (pv 6))))))
    (al (aQ (pv 6))) cZ))))))
  (al (aQ (pv 3))))),?_⟩
 refine jA ?_;intro dD sS gu dZ;refine⟨Ab,λp1 H1 n1 s1 e1=>?_⟩;refine⟨Ac,λp2 H2 n2 s2 e2=>?_⟩;have J:=s1.trans s2;have el:(((x::names).map V.str).length:Int)=1+(names.length:Int):=by rw[ak,bU];omega
 refine⟨c,_,rfl,.inl (aa.of (J _ _ Y)),⟨by omega,by omega,by omega,by omega⟩,?_⟩;refine vx (λi Z H3=>i=0/\Z=[some sv,some (.ref a),some (.ref b),some (.ref c),some (.ref p2),none,none]/\H3=H2) ⟨rfl,rfl,rfl⟩ ?_ ?_
 . rintro i Z H3 hi ⟨rfl,rfl,rfl⟩;refine bu ?_;intro tT;refine⟨e2,s2 _ _ e1,J _ _ Y,by rw[bU];omega,λl ys H4 n4 s4 e4 pr=>?_⟩;refine⟨⟨_,aa.of e4⟩,?_⟩;cases pr with
   | @cons y _ cj _ hy a2=>
   obtain⟨yl,rfl,_,UL⟩:=hy;refine iN (xs:=.ref yl::cj) (λj Z U=>j=0/\Z=[some sv,some (.ref a),some (.ref b),some (.ref c),some (.ref l),some (.int (1+(0:Nat))),none]/\U=H4) ⟨rfl,rfl,rfl⟩ ?_ ?_ ?_
   . rintro j Z U hj ⟨rfl,rfl,rfl⟩;exact aa.of e4
   . rintro j z Z U hz ⟨rfl,rfl,rfl⟩;cases hz;have mz:=J.trans s4;have l4:=k1.len O.ap O.n4;refine⟨hA.same mz,hB.same mz,k1.nd,k2.nd,UL,by omega,λr H6 n6 s6 c6=>?_⟩;have k3:=k1.step k2 x;have W6:=O.same (mz.trans s6);refine⟨W6.sh,W6.pc,W6.ap,c6,k3.va,k3.len O.ap O.n4,λH7 s7=>⟨fE ?_⟩⟩;exact⟨q yl H7 ((mz.trans s6).trans s7) ((s6.trans s7) _ _ UL)⟩
   rintro Z U ⟨h,_⟩;exact absurd h (by simp)
 rintro Z H3 ⟨h,rfl,rfl⟩;have n0:names=[]:=AU.mp (by omega);rw[n0]at Y;exact⟨q c _ J (J _ _ Y)⟩
inductive UM (C S:Addr):Sp where
 | mk {H:Hp}{Q:VK}{E:XK}{z:V}{a b:Addr}{xs:Lv}{ps:Lp}{ns:Ls}{now j:Ch} (_:lH C S H z xs ps ns) (_:dj H a now) (_:dj H b j) (_:eY xs ps now) (_:eY xs ps j) (_:∀l zs us H',H l=none->ac H H'->H' l=some (.lst zs)->kD now j us->Paired (iH [l] H') zs us->Q (.ref l) H'):UM C S [z,.ref a,.ref b] H Q E
theorem uT:aN [ayC,ay7,ayT,azn,"reached","left",aza] [ayC,ay7,ayT] (av HU):=aU
theorem aoF(J:Pg K mg base Pt):aA P w K mg base aJ 6 J.Gro.f J.Gro.fd [ayC,ay7,ayT] (UM J.C J.S):=by
 refine J.Gro.u.okL uT ?_;intro au A outer s H vs Q E hr h xX dX;obtain @⟨_,_,_,sv,a,b,xs,ps,ns,now,a0,O,hA,hB,cA,cB,q⟩:=h;have d5:=hr.mono (j:=1) (by decide);have nl:=cA.len O.ap O.n4;have gl:=cB.len O.ap O.n4;refine⟨_,(ai (aH (i:=3) uT.nd rfl (Or.inl rfl) (dq eI))
  (ai (aH (i:=4) uT.nd rfl (Or.inl rfl) (pv 1))
  (ai (aH (i:=5) uT.nd rfl (Or.inl rfl) (aB (UC J) d5 rfl (aI (pv 4) (pv 2))))
  (ai (NA eG (bW Bm (cr fU (by rfl) J.B.len fc (aq (pv 5))) aj (bC _)) (ai (aH (i:=6) uT.nd rfl (Or.inl rfl) (aB (aoE J) hr rfl (vN (pv 0) (pv 4) (pv 2) (pv 5))))
   (ai (bT (dH jf xR xS qK (pv 3) (aq (pv 6))))
   (ai (aH (i:=4) uT.nd rfl (Or.inl rfl) (aB (Kk J) d5 rfl (dv (pv 4) (pv 2) (pv 6))))
   (al (aH (i:=5) uT.nd rfl (Or.inl rfl) (aB (UC J) d5 rfl (aI (pv 4) (pv 2)))))))))
  (al (aQ (pv 3))))))),?_⟩
 refine BO ?_;intro dD sS CO nG gu dZ;refine⟨Ab,λG H1 n1 s1 e1=>?_⟩;refine⟨?_⟩;obtain⟨ka,a4,a5⟩:=hA.same s1;obtain⟨kb,JX,iY⟩:=hB.same s1;refine⟨a4,JX,a5,iY,cA.nd,cB.nd,trivial,trivial,Df (by omega),λl2 H2 us n2 s2 e2 U=>?_⟩;have ci:=s1.trans s2;have ul:=U.len;refine⟨λm Z H3=>∃i re Y u zs,m=us.length - i/\i<=us.length/\Z=[some sv,some (.ref a),some (.ref b),some (.ref G),some (.ref re),some (.ref Y),u]/\ac H H3/\H3 G=some (.lst zs)/\Paired (iH [G] H3) zs (us.take i)/\dj H3 re ((us.take i).foldl (bL a0) now)/\Y≠G/\H3 Y=some (.lst ((us.drop i).map V.str)),
  ⟨_,0,a,l2,none,[],rfl,dF _,rfl,ci,s2 _ _ e1,.nil,hA.same ci,(aK e1 n2).symm,e2⟩,?_⟩
 intro m Z H3 hQ;refine bu ?_;intro tT;obtain⟨i,re,Y,u,zs,rfl,hi,rfl,s3,e3,p3,c3,a9,el⟩:=hQ;have zl:=bv p3;rw[eF]at zl;have k3:eY xs ps ((us.take i).foldl (bL a0) now):=cB.steps cA;refine⟨Y,_,rfl,.inl (aa.of el),⟨⟨?_⟩⟩⟩;refine bj (λh=>?_) (λh=>?_)
 . have q5:(0:Int)<(((us.drop i).map V.str).length:Int):=cY h;rw[ak,mI]at q5;have aO:i<us.length:=by omega
   have hx:us[i]?=some us[i]:=hZ aO;have ed:us.drop i=us[i]::us.drop (i+1):=MG aO;rw[ed]at el;refine⟨λσ' H'=>∃m',m'<us.length - i/\∃i re Y u zs,m'=us.length - i/\i<=us.length/\σ'=[some sv,some (.ref a),some (.ref b),some (.ref G),some (.ref re),some (.ref Y),u]/\ac H H'/\H' G=some (.lst zs)/\Paired (iH [G] H') zs (us.take i)/\dj H' re ((us.take i).foldl (bL a0) now)/\Y≠G/\H' Y=some (.lst ((us.drop i).map V.str)),λσ' H' h=>h,?_⟩;refine jB ?_
   intros
   refine⟨O.same s3,c3,hB.same s3,k3,cB,el,by rw[mI];omega,λl4 H4 s4 e4=>?_⟩;have Dy:=s4 _ _ e3;have n4:l4≠G:=λz=>by
    rw[z,Dy]at e4;injection e4 with e4
    injection e4 with e4
    rw[e4]at p3;obtain⟨_,_,l,hl,_⟩:=eK (i:=0) p3 rfl;cases hl
   refine⟨.inl ⟨rfl,_,aa.of Dy⟩,Dy,bP (by omega),?_⟩;have m5:ac H (ah H4 G (.lst (zs++[.ref l4]))):=sj n1 (s3.trans s4);have cc:dj (ah H4 G (.lst (zs++[.ref l4]))) re ((us.take i).foldl (bL a0) now):=dj.mut Dy (c3.same s4);have e5:ah H4 G (.lst (zs++[.ref l4])) l4=some (.lst [.str us[i]]):=by rw[aW n4];exact e4
   have cl:=k3.len O.ap O.n4;refine⟨cc,hB.same m5,k3.nd,cB.nd,e5,by omega,λr6 H6 n6 s6 c6=>?_⟩;have st:bL a0 ((us.take i).foldl (bL a0) now) us[i]=(us.take (i+1)).foldl (bL a0) now:=by rw[mC hx,qr];rfl
   rw[st]at c6;have k6:eY xs ps ((us.take (i+1)).foldl (bL a0) now):=cB.steps cA;have a8:=k6.len O.ap O.n4;obtain⟨kr,a1,a2⟩:=id c6;obtain⟨kg,a6,Dx⟩:=hB.same (m5.trans s6);refine⟨a1,a6,a2,Dx,k6.nd,cB.nd,trivial,trivial,Df (by omega),λl7 H7 a7 n7 s7 e7 U7=>?_⟩;have eu:a7=us.drop (i+1):=U7.eq (U.drop (i+1));subst eu;have uS:=s6.trans s7;have a3:=uS _ _ (aE (H:=H4) (a:=G) (o:=.lst (zs++[.ref l4])));refine⟨_,(show us.length - (i+1)<us.length - i by omega),i+1,r6,l7,_,_,rfl,aO,rfl,m5.trans uS,a3,?_,c6.same s7,(aK (s6 _ _ aE) n7).symm,e7⟩;rw[mC hx];exact jq ⟨l4,rfl,by simpa using n4,uS _ _ e5⟩ (aF p3 λ_ _ z=>((z.same s4).mut (by simp)).same uS)
 have l0:i=us.length:=YK λz=>h (bE (by
  show(0:Int)<(((us.drop i).map V.str).length:Int);rw[ak,mI];omega))
 subst l0;rw[fb]at p3;exact⟨q G zs us H3 n1 s3 e3 U p3⟩
end
section
variable {H:Hp}{ch aX:Ch}{cs aL:Cs}{ow aM:Ow}{c b a:Nat}{v:V}{xs:Lv}{ps:Lp}{Q:VK}
variable {H H2 H3:Hp}{dc dh dO:Addr}{ch:Ch}{cs:Cs}{ow:Ow}
theorem dC.put{H1:Hp}{ks J:List (ao×V)}(hd:H1 d=some (.dK ks)){kv:ao×V}{e:Str×List Int}(h:dC H1 kv e):dC (ah H1 d (.dK J)) kv e:=h.elim λa j=>j.elim λm G=>G.elim λb c=>⟨a,m,b,aD c (be c hd (by intro z;cases z))⟩
theorem ge.put{H1:Hp}{ks mJ:List (ao×V)}(hd:H1 d=some (.dK ks)){kv:ao×V}{e:Str×(Ls×Ls)}(h:ge H1 kv e):ge (ah H1 d (.dK mJ)) kv e:=
 h.elim λa j=>j.elim λt G=>G.elim λl1 J=>J.elim λl2 O=>O.elim λb U=>U.elim λc Y=>Y.elim λd' f=>⟨a,t,l1,l2,b,aD c (be c hd (by intro z;cases z)),aD d' (be d' hd (by intro z;cases z)),aD f (be f hd (by intro z;cases z))⟩
structure mE(ch:Ch)(cs:Cs)(ow:Ow):Prop where
 ok:vZ ch cs ow
 d1:(ch.map (·.1)).Nodup
 d2:(cs.map (·.1)).Nodup
 d3:(ow.map (·.1)).Nodup
 n1:ch.length<=4
 n2:cs.length<=4
 n3:ow.length<=10
 ln:∀e∈ow,e.2.1.length<=20/\e.2.2.length<=20
structure lI(H H2:Hp)(dc dh dO:Addr)(ch:Ch)(cs:Cs)(ow:Ow):Prop where
 old:ac H H2
 nc:H dc=none
 nh:H dh=none
 no:H dO=none
 d1:dc≠dh
 d2:dc≠dO
 d3:dh≠dO
 ch:dj H2 dc ch
 cs:pq H2 dh cs
 ow:mw H2 dO ow
theorem lI.same(N:lI H H2 dc dh dO ch cs ow)(s:ac H2 H3):lI H H3 dc dh dO ch cs ow:=⟨N.old.trans s,N.nc,N.nh,N.no,N.d1,N.d2,N.d3,N.ch.same s,N.cs.same s,N.ow.same s⟩
theorem lI.putH(N:lI H H2 dc dh dO ch cs ow){J:List (ao×V)}(j:H2 dh=some (.dK J)){c n:Str}:lI H (ah H2 dh (.dK (cQ J (.inr c) (.str n)))) dc dh dO ch (bN cs c n) ow:=by
 obtain⟨kc,O,U⟩:=N.ch;obtain⟨a0,G,Y⟩:=N.cs;rw[j]at G;cases G;obtain⟨ko,o1,o2⟩:=N.ow;exact⟨λb z e=>aD (N.old b z e) (aK e N.nh),N.nc,N.nh,N.no,N.d1,N.d2,N.d3,⟨kc,aD O N.d1,aF U λ_ _=>dC.put j⟩,⟨_,aE,iZ (F:=iD) (λkv f z=>z.1) (x:=c) (ls:=n) (v:=.str n) ⟨rfl,rfl⟩ Y⟩,⟨ko,aD o1 N.d3.symm,aF o2 λ_ _=>ge.put j⟩⟩
theorem lI.putO(N:lI H H2 dc dh dO ch cs ow){O:List (ao×V)}(j:H2 dO=some (.dK O)){p:Str}{b m:Ls}{t G J:Addr}(ht:H2 t=some (.tup [.ref G,.ref J]))(h1:H2 G=some (.lst (b.map V.str)))(h2:H2 J=some (.lst (m.map V.str))):lI H (ah H2 dO (.dK (cQ O (.inr p) (.ref t)))) dc dh dO ch cs (bN ow p (b,m)):=by
 obtain⟨kc,Y,a2⟩:=N.ch;obtain⟨kh,b1,b2⟩:=N.cs;obtain⟨IN,U,o2⟩:=N.ow;rw[j]at U;cases U;exact⟨λb z e=>aD (N.old b z e) (aK e N.no),N.nc,N.nh,N.no,N.d1,N.d2,N.d3,⟨kc,aD Y N.d2,aF a2 λ_ _=>dC.put j⟩,⟨kh,aD b1 N.d3,b2⟩,⟨_,aE,aF (iZ (F:=ge H2) (λkv f z=>z.1) (x:=p) (ls:=(b,m)) (v:=.ref t) ⟨rfl,t,G,J,rfl,ht,h1,h2⟩ o2) λ_ _=>ge.put j⟩⟩
structure lJ(ch:Ch)(cs:Cs)(ow:Ow)(a b c:Nat):Prop where
 ok:vZ ch cs ow
 d1:(ch.map (·.1)).Nodup
 d2:(cs.map (·.1)).Nodup
 d3:(ow.map (·.1)).Nodup
 n1:ch.length<=a
 n2:cs.length<=b
 n3:ow.length<=c
 ln:∀e∈ow,e.2.1.length<=4/\e.2.2.length<=4
theorem lJ.putH(o:lJ ch cs ow a b c){n m:Str}(h1:bQ n)(h2:bQ m):lJ ch (bN cs n m) ow a (b+1) c:=
 ⟨⟨o.ok.ch,λe j=>(kf j).elim (λz=>by rw[z];exact⟨h1,h2⟩) (o.ok.cs e),o.ok.ow⟩,o.d1,ki o.d2,o.d3,o.n1,b8 (jE _ _ _) (M6 o.n2),o.n3,o.ln⟩
theorem lJ.putO(o:lJ ch cs ow a b c){p:Str}{x y:Ls}(h1:dW p)(h2:∀z∈x,gL z)(G:∀z∈y,gL z)(J:x.length<=4)(O:y.length<=4):lJ ch cs (bN ow p (x,y)) a b (c+1):=
 ⟨⟨o.ok.ch,o.ok.cs,λe j=>(kf j).elim (λz=>by rw[z];exact⟨h1,h2,G⟩) (o.ok.ow e)⟩,o.d1,o.d2,ki o.d3,o.n1,o.n2,b8 (jE _ _ _) (M6 o.n3),λe j=>(kf j).elim (λz=>by rw[z];exact⟨J,O⟩) (o.ln e)⟩
theorem lJ.mono{j b' c':Nat}(o:lJ ch cs ow a b c)(h1:a<=j)(h2:b<=b')(z:c<=c'):lJ ch cs ow j b' c':=⟨o.ok,o.d1,o.d2,o.d3,b8 o.n1 h1,b8 o.n2 h2,b8 o.n3 z,o.ln⟩
theorem mE.bnd(h:mE ch cs ow):CL ch cs ow where
 nch:=by have:=h.n1;omega
 ncs:=by have:=h.n2;omega
 now:=by have:=h.n3;omega
 dch:=h.d1
 dcs:=h.d2
 dow:=h.d3
 ch:=λe j=>⟨by have:=(h.ok.ch e j).1.hi;omega,(h.ok.ch e j).2.ok⟩
 cs:=λe j=>⟨by have:=(h.ok.cs e j).1.hi;omega,by have:=(h.ok.cs e j).2.hi;omega⟩
 ow:=λe j=>by
  obtain⟨⟨ps,e1,Y,p2,U⟩,J,O⟩:=h.ok.ow e j;obtain⟨k1,k2⟩:=h.ln e j;refine⟨?_,by omega,by omega,λx z=>(J x z).hi,λx z=>(O x z).hi⟩;rw[e1];have:=IP (sep:=lE) (b:=8) (λp G=>(U p G).hi) (by rw[GY];decide);omega
theorem bQ.ok{x:Str}(h:bQ x):dR x:=tR.mpr λc j=>by have:=h.az c j;omega
theorem mE.perm(h:mE ch cs ow)(G:aX.Perm ch)(p2:aL.Perm cs)(z:aM.Perm ow):mE aX aL aM where
 ok:=⟨λe j=>h.ok.ch e (G.mem_iff.mp j),λe j=>h.ok.cs e (p2.mem_iff.mp j),λe j=>h.ok.ow e (z.mem_iff.mp j)⟩
 d1:=(G.map _).nodup_iff.mpr h.d1
 d2:=(p2.map _).nodup_iff.mpr h.d2
 d3:=(z.map _).nodup_iff.mpr h.d3
 n1:=by have:=G.length_eq;have:=h.n1;omega
 n2:=by have:=p2.length_eq;have:=h.n2;omega
 n3:=by have:=z.length_eq;have:=h.n3;omega
 ln:=λe j=>h.ln e (z.mem_iff.mp j)
theorem mE.rows(h:mE ch cs ow):(gb ch cs ow).length<=418:=by
 have:∀(l:Ow),(∀e∈l,e∈ow)->(l.flatMap eh).length<=l.length * 41:=by
  intro l
  induction l with
  | nil=>intro _;exact dF _
  | cons e l O=>
   intro j;have h1:=O λx J=>j x (bY _ J);obtain⟨h2,z⟩:=h.ln e (j e bM);rw[EL,bI,bU];have:(eh e).length<=41:=by
    unfold eh;simp only[bI,ak,bU,kG];omega
   omega
 have z:=this ow λe G=>G;have:=h.n1;have:=h.n2;have:=h.n3;have U:ow.length * 41<=10 * 41:=M4 _ (by omega);unfold gb;rw[bI,bI,ak,ak];omega
theorem aoV:mE [] [] []:=⟨⟨(λ_ h=>nomatch h),(λ_ h=>nomatch h),(λ_ h=>nomatch h)⟩,kH,kH,kH,by decide,by decide,by decide,(λ_ h=>nomatch h)⟩
theorem wY{β:Type}:cK ([]:List (Str×β)) []:=⟨.nil,rfl⟩
seal PE PS cg PA PT PW PG fM PI fF
abbrev Bk:=List (Str×Str)
def jN(H:Hp)(v:V)(e:Str×Str):Prop:=∃t,v=.ref t/\H t=some (.tup [.str e.1,.str e.2])
theorem jN.same{H':Hp}(s:ac H H'){e:Str×Str}(h:jN H v e):jN H' v e:=h.elim λt j=>j.elim λa b=>⟨t,a,s _ _ b⟩
def Km(bk:Bk):Prop:=∀e∈bk,dR e.1/\dR e.2
def pK:Str×Str:=("end","")
def ik:Str:="begin"
def uU(bk:Bk):Bool:=match bk.getLast? with
 | none=>true
 | some e=>decide (e=pK)
theorem aoX{tb:Lv}{bk:Bk}(h:Paired (jN H) tb bk):(tb=[]/\bk=[])\/∃z t j e,tb=z++[.ref t]/\bk=j++[e]/\H t=some (.tup [.str e.1,.str e.2]):=by
 induction h with
 | nil=>exact .inl ⟨rfl,rfl⟩
 | @cons v e tb bk r t O=>
  rcases O with⟨e1,e2⟩ | ⟨z,t',j,G,e1,e2,e3⟩
  . subst e1 e2;obtain⟨t,rfl,J⟩:=r;exact .inr ⟨[],t,[],e,rfl,rfl,J⟩
  subst e1 e2;exact .inr ⟨v::z,t',e::j,G,rfl,rfl,e3⟩
theorem UN(r:Lv)(v:V):cu (r++[v]) (-1)=some v:=by
 unfold cu;have e:oG (r++[v]).length (-1)=some r.length:=by
  unfold oG;rw[bI,je,ag (by omega),am (by omega)]
  congr 1
  omega
 rw[e];show(r++[v])[r.length]?=_;rw[Ez (aG _),Nat.sub_self];rfl
inductive UO (D:Addr):Sp where
 | mk {H:Hp}{Q:VK}{E:XK}{x dx d b:Addr}{v:V}{tb:Lv}{bk:Bk} (_:H x=some (.ins D dx (gz d b v))) (_:H b=some (.lst tb)) (_:Paired (jN H) tb bk) (_:Km bk) (_:∀H',ac H H'->Q (.bl (uU bk)) H'):UO D [.ref x] H Q E
theorem UP:aN [ayI,"book"] [ayI] (av HZ):=aU
theorem aoY(j:Pg K mg base Pt):aA P w K mg base aJ 2 j.IUp.f j.IUp.fd [ayI] (UO j.D):=by
 refine j.IUp.u.okL UP ?_;intro au A outer s H vs Q E J h xX dX;obtain @⟨_,_,_,x,dx,d,b,v,tb,bk,O,hb,pb,ok,q⟩:=h;have hu:=J.units;refine⟨_,(ai (aH (i:=1) UP.nd rfl (Or.inl rfl) (fh (pv 0) j.UD.cl j.UD.mBNo (up (zL j)) J j.BNo.b .nil cG))
  (al (aQ (Nq (jl fC (cr fU (by rfl) j.B.len fc (aq (pv 1))) aj (bC _)) (qD (jl (tS hu) (bA eR (pv 1) (qG qH aj) (λ_ _=>rfl)) (eX (aI bO bO)) (bC _))))))),?_⟩
 refine⟨O,rfl,O,hb,λr H1 n1 z e1=>?_⟩;refine⟨r,_,rfl,.inl (aa.of e1),rfl,⟨?_⟩⟩
 rcases aoX pb with⟨rfl,rfl⟩ | ⟨wR,t,Y,e,rfl,rfl,ht⟩
 . exact fE (q H1 z)
 refine bj (λh=>?_) (λh=>?_)
 . have h:=cY h;injection h with h
   rw[bI,je]at h;omega
 refine⟨_,rfl,aa.of e1,UN _ _,An,λp2 H2 n2 U e2=>?_⟩;obtain⟨o1,o2⟩:=ok e (eU _ (bw.mpr rfl));refine⟨.tuple [.str e.1,.str e.2],.tuple [.str pK.1,.str pK.2],.tup (aZ.of ((z.trans U) _ _ ht)) (.cons (.str _) (.cons (.str _) .nil)),.tup (aZ.of e2) (.cons (.str _) (.cons (.str _) .nil)),?_,?_,λG lj=>?_⟩
 . simp only[W.kqdOk,AL,M9,Nb,im];exact⟨o1,o2⟩
 . simp only[W.kqdOk,AL,M9,Nb,im];exact⟨by decide +kernel,by decide +kernel⟩
 have eb:G=uU (Y++[e]):=by
  unfold uU;rw[YL,awZ,Option.some_or];show G=decide (e=pK);rw[xF,lj,YI];refine⟨λh=>?_,λh=>by rw[h]⟩;injection h with h
  injection h with h1 h2
  injection h1 with h1
  injection h2 with h2
  injection h2 with h2
  exact Prod.ext h1 h2
 rw[eb];exact q H2 (z.trans U)
def bG(bk:Bk):Ls:=(bk.filter λe=>decide (e.1=ik)).map (·.2)
theorem Kn(bk:Bk)(e:Str×Str):bG (bk++[e])=if e.1=ik then bG bk++[e.2] else bG bk:=by
 unfold bG;rw[M7,dw]
 by_cases h:e.1=ik
 . rw[am h,qj,am (bE h)];rfl
 rw[ag h,qj,ag (by rw[cy h];decide)];exact lL _
inductive UQ (D:Addr):Sp where
 | mk {H:Hp}{Q:VK}{E:XK}{x dx d b:Addr}{v:V}{tb:Lv}{bk:Bk} (_:H x=some (.ins D dx (gz d b v))) (_:H b=some (.lst tb)) (_:Paired (jN H) tb bk) (_:bk.length<=500) (_:d8 H (.lst ((Str.empty::bG bk).map V.str)) Q):UQ D [.ref x] H Q E
theorem aoZ:aN [ayI] [ayI] (av Ia):=aU
theorem UR(G:Pg K mg base Pt):aA P w K mg base aJ 2 G.TxB.f G.TxB.fd [ayI] (UQ G.D):=by
 refine G.TxB.u.okL aoZ ?_;intro au A outer s H vs Q E hr h xX dX;obtain @⟨_,_,_,x,dx,d,b,v,tb,bk,hx,hb,pb,pE,q⟩:=h;refine⟨_,(al (aQ (aw qT (dq (aq bO)) (fZ [azi,ayL] [] [] dJ rfl (cL (fh (pv 0) G.UD.cl G.UD.mBNo (up (zL G)) hr G.BNo.b .nil cG)) (λ_ _ _ _=>(Us (n:=2) K rfl (gE (bf (i:=0) (show List.Nodup ([azi,ayL]:Ls) by decide +kernel) rfl (Or.inl rfl)) (gE (bf (i:=1) (show List.Nodup ([azi,ayL]:Ls) by decide +kernel) rfl (Or.inl rfl)) mR)))) (λ_ _ _ _=>oO (bW fC (pv 0) bO (bC _))) (λ_ _ _ _=>(pv 1)))))),?_⟩;refine⟨Ac,λp1 H1 n1 O e1=>?_⟩;have pl:=bv pb;refine⟨O _ _ hx,rfl,O _ _ hx,O _ _ hb,λr H2 n2 s2 e2=>⟨⟨_,aa.of e2⟩,?_⟩⟩;have Y:=O.trans s2;intro D' jd;refine rM (σ0:=[none,none]) jd (aa.of e2) (λZ=>∃u v,Z=[u,v]) (λj zs _=>zs=(bG (bk.take j)).map V.str) ⟨_,_,rfl⟩ rfl ?_ ?_
 . rintro j y zs Z H3 k k' hy ⟨u,v,rfl⟩ U J rfl fG jw;obtain⟨e,he,t,rfl,ht⟩:=eK pb hy;have aO:=(cT.mp he).1;refine⟨aZ.of ((Y.trans J) _ _ ht),rfl,rfl,?_⟩;have bs:=Kn (bk.take j) e;rw[<-mC he]at bs;have bl:(bG (bk.take j)).length<=500:=by
    unfold bG;rw[ak];exact b8 (qk _ _) (by rw[eF];omega)
   refine⟨rfl,⟨?_⟩⟩;refine bj (λh=>?_) (λh=>?_)
   . have h:=cY h;injection h with h
     rw[am (show e.1=ik from h)]at bs;refine⟨fG _ _ _ ⟨_,_,rfl⟩ (ac.refl _) (bP (by rw[ak];omega)) ?_⟩;rw[bs,dw];rfl
   rw[ag (λz=>h (by rw[z];exact bE rfl))]at bs;refine jw _ _ ⟨_,_,rfl⟩ (ac.refl _) ?_;rw[bs]
 rintro zs H3 U J rfl;rw[pl,fb]at U;have bl:(bG bk).length<=500:=by
  unfold bG;rw[ak];exact b8 (qk _ _) pE
 refine⟨(s2.trans J) _ _ e1,U,lg (by rw[ak,je];omega),λp4 H4 n4 s4 e4=>?_⟩;exact q p4 H4 ((Y.trans J).free n4) ((Y.trans J).trans s4) e4
structure eE(xs:Lv)(ps:Lp)(ch:Ch)(cs:Cs)(ow:Ow):Prop where
 ok:mE ch cs ow
 va:py xs ps ch
 o2:ow.length<=10
structure ft(xs:Lv)(ps:Lp)(t:Str)(ch:Ch)(cs:Cs)(ow:Ow):Prop where
 so:eE xs ps ch cs ow
 s1:cK ch ch
 s2:cK cs cs
 s3:cK ow ow
 tx:t=Str.join lC (gb ch cs ow)
theorem eE.perm(h:eE xs ps ch cs ow)(j:aX.Perm ch)(p2:aL.Perm cs)(z:aM.Perm ow):eE xs ps aX aL aM:=⟨h.ok.perm j p2 z,λe G=>h.va e (j.mem_iff.mp G),by have:=z.length_eq;have:=h.o2;omega⟩
theorem eE.tx(h:eE xs ps ch cs ow)(j:cK ch aX)(p2:cK cs aL)(z:cK ow aM):ft xs ps (Str.join lC (gb aX aL aM)) aX aL aM:=⟨h.perm j.pm p2.pm z.pm,j.self,p2.self,z.self,rfl⟩
theorem Ae:ft xs ps Str.empty [] [] []:=⟨⟨aoV,(λ_ h=>nomatch h),by decide⟩,wY,wY,wY,rfl⟩
theorem ft.uniq{t:Str}(h:ft xs ps t ch cs ow)(k:ft xs ps t aX aL aM):ch=aX/\cs=aL/\ow=aM:=by
 have e1:rowsOf t=gb ch cs ow:=by rw[h.tx];exact Hf (He h.so.ok.ok)
 have e2:rowsOf t=gb aX aL aM:=by rw[k.tx];exact Hf (He k.so.ok.ok)
 obtain⟨a,b,c,n1⟩:=Hg h.so.ok.ok h.so.ok.d1 h.so.ok.d2 h.so.ok.d3;obtain⟨j,b',c',n2⟩:=Hg k.so.ok.ok k.so.ok.d1 k.so.ok.d2 k.so.ok.d3;rw[<-e1,e2,n2]at n1;injection n1 with n1 n2 n3
 exact⟨n1.symm,n2.symm,n3.symm⟩
theorem ft.not{t:Str}(h:ft xs ps t ch cs ow){T:Addr}(q:∀v H',ac H H'->(∀L,gJ H L->iE T (msk L H') v ch cs ow)->Q v H'):IU T [.str t] H Q E0:=by
 have ok:=h.so.ok;have j:rowsOf t=gb ch cs ow:=by rw[h.tx];exact Hf (He ok.ok)
 have J:=ok.rows;obtain⟨_,z⟩:=R9 ok.bnd (.refl _) (.refl _) (.refl _);have U:=IP (sep:=lC) z (by rw[GX];decide);obtain⟨ck,b,m,G⟩:=Hg ok.ok ok.d1 ok.d2 ok.d3;refine⟨?_,?_,?_,?_⟩
 . have O:(gb ch cs ow).length * (140+1)<=418 * 141:=M4 _ J;rw[h.tx];omega
 . rw[j];omega
 . rw[j];exact ajv ok.ok
 rw[j,G];exact q
theorem ft.sho{t:Str}(h:ft xs ps t ch cs ow){T:Addr}(hs:iE T H v ch cs ow)(q:∀H',ac H H'->Q (.str t) H'):CM T [v] H Q E0:=by
 refine⟨hs,h.so.ok.bnd,λaX aL aM H' j z G s'=>?_⟩;rw[cK.eq h.so.ok.d1 j h.s1,cK.eq h.so.ok.d2 z h.s2,cK.eq h.so.ok.d3 G h.s3,<-h.tx];exact q H' s'
theorem eE.sho(h:eE xs ps ch cs ow){T:Addr}(hs:iE T H v ch cs ow)(q:∀t aX aL aM H',cK ch aX->cK cs aL->cK ow aM->ft xs ps t aX aL aM->ac H H'->Q (.str t) H'):CM T [v] H Q E0:=
 ⟨hs,h.ok.bnd,λaX aL aM H' j z G s'=>q _ aX aL aM H' j z G (h.tx j z G) s'⟩
def pL(xs:Lv)(ps:Lp)(j:Ls):Prop:=∀t∈j,∃ch cs ow,ft xs ps t ch cs ow
theorem UU(j:Ls)(t:Str):cu ((j++[t]).map V.str) (-1)=some (.str t):=by
 rw[dw];exact UN _ _
inductive UV (D T:Addr):Sp where
 | mk {H:Hp}{Q:VK}{E:XK}{x dx d b:Addr}{v:V}{tb:Lv}{bk:Bk}{xs:Lv}{ps:Lp}{t:Str}{ch:Ch}{cs:Cs}{ow:Ow} (_:H x=some (.ins D dx (gz d b v))) (_:H b=some (.lst tb)) (_:Paired (jN H) tb bk) (_:bk.length<=500) (_:(Str.empty::bG bk).getLast?=some t) (_:ft xs ps t ch cs ow) (_:∀v H',ac H H'->(∀L,gJ H L->iE T (msk L H') v ch cs ow)->Q v H'):UV D T [.ref x] H Q E
theorem ao1:aN [ayI] [ayI] (av Ib):=aU
theorem UW(j:Pg K mg base Pt):aA P w K mg base aJ 5 j.StO.f j.StO.fd [ayI] (UV j.D j.T):=by
 refine j.StO.u.okL ao1 ?_;intro au A outer s H vs Q E G h xX dX;obtain @⟨_,_,_,x,dx,d,b,v,tb,bk,xs,ps,t,ch,cs,ow,hx,z,pb,pE,hl,ht,q⟩:=h;refine⟨_,(al (aQ (aB (Sk j) G rfl (aq (bA eR (aB (UR j) G rfl (aq (pv 0))) (qG qH aj) (λ_ _=>rfl)))))),?_⟩;refine⟨hx,z,pb,pE,λr H1 n1 J e1=>?_⟩;obtain⟨ts,U⟩:=aw0.mp hl;rw[U]at e1;refine⟨_,rfl,aa.of e1,UU ts t,?_⟩;exact ht.not λv H' s' hv=>q v H' (J.trans s') λL Y=>hv L λb z=>(Y b z).elim λo O=>O.elim λe n=>⟨o,J _ _ e,n⟩
def uV(xs:Lv)(ps:Lp)(T:Addr)(H:Hp)(v:V)(t:Str):Prop:=∃ch cs ow,iE T H v ch cs ow/\ft xs ps t ch cs ow
theorem uV.same{H':Hp}(s:ac H H'){t:Str}(h:uV xs ps T H v t):uV xs ps T H' v t:=h.elim λch j=>j.elim λcs z=>z.elim λow G=>G.elim λa b=>⟨ch,cs,ow,a.same s,b⟩
end
section
variable {H H':Hp}
seal PE PS cg PA PT PW PG fM PI fF
structure Dk(D x dx d b g:Addr)(fs:Tr)(bk:Bk)(H:Hp):Prop where
 ob:H x=some (.ins D dx (gz d b .non))
 fi:∃kd,H d=some (.dK kd)/\Paired (Lu g H) kd fs
 bo:∃tb,H b=some (.lst tb)/\Paired (jN H) tb bk
 nd:(fs.map (·.1)).Nodup
 ok:eD fs
 bz:bk=[]->fs=[]
 bt:Km bk
 go:∃o,H g=some o
theorem Dk.keep{fs:Tr}{bk:Bk}(h:Dk D x dx d b g fs bk H)(k:∀q o,H q=some o->(∀φ,o≠.ext φ)->H' q=some o)(kg:∃o,H' g=some o):Dk D x dx d b g fs bk H':=by
 obtain⟨kd,d1,d2⟩:=h.fi;obtain⟨tb,b1,b2⟩:=h.bo;exact⟨k _ _ h.ob (by intro φ z;cases z),⟨kd,k _ _ d1 (by intro φ z;cases z),aF d2 λ_ _ J=>J.elim λj O=>O.elim λl U=>U.elim λG Y=>Y.elim λn z3=>⟨j,l,G,n,k _ _ z3 (by intro φ z;cases z)⟩⟩,⟨tb,k _ _ b1 (by intro φ z;cases z),aF b2 λ_ _ a0=>a0.elim λt a1=>a1.elim λj G=>⟨t,j,k _ _ G (by intro φ z;cases z)⟩⟩,h.nd,h.ok,h.bz,h.bt,kg⟩
theorem Dk.same{fs:Tr}{bk:Bk}(h:Dk D x dx d b g fs bk H)(s:ac H H'):Dk D x dx d b g fs bk H':=h.keep (λq o e _=>s q o e) (h.go.elim λo e=>⟨o,s _ _ e⟩)
def bX(x d b Pt:Addr)(H H':Hp):Prop:=∀q o,H q=some o->q≠x->q≠d->q≠b->q≠Pt->H' q=some o
theorem bX.trans{H1 H2:Hp}(a:bX x d b Pt H H1)(c:bX x d b Pt H1 H2):bX x d b Pt H H2:=λq o e n1 n2 n3 j=>c q o (a q o e n1 n2 n3 j) n1 n2 n3 j
theorem bX.of(s:ac H H'):bX x d b Pt H H':=λq o e _ _ _ _=>s q o e
theorem bX.ofT(s:lB Pt H H'):bX x d b Pt H H':=λq o e _ _ _ n=>s q o e n
theorem bX.msk(k:bX x d b Pt H H'):ac (msk [x,d,b,Pt] H) (msk [x,d,b,Pt] H'):=λq o e=>by
 have n:q∉[x,d,b,Pt]:=λz=>by unfold K72.msk at e;rw[am z]at e;cases e
 have j:=aV q o e;simp only[bc,fz,fA,nZ]at n;exact cC (by simp[n]) (k q o j n.1 n.2.1 n.2.2.1 n.2.2.2)
theorem Dk.keepT{fs:Tr}{bk:Bk}{lp:Pos}{qu:Str}(h:Dk D x dx d b g fs bk H)(t:TabSt H Pt lp qu)(t':TabSt H' Pt lp qu)(k:lB Pt H H'):Dk D x dx d b g fs bk H':=by
 refine h.keep (λq o e n=>k _ _ e (TabSt.ne t e n)) ?_;obtain⟨o,e⟩:=h.go
 by_cases z:g=Pt
 . obtain⟨φ,w⟩:=TabSt.at t';exact⟨_,z▸w⟩
 exact⟨o,k _ _ e z⟩
theorem UX{tb:Lv}{bk:Bk}{ls:Ls}(J:H b=some (.lst tb))(G:Paired (jN H) tb bk)(n:bk≠[]\/ls≠[])(j:H l=some (.lst (ls.map V.str))):l≠b:=λe=>by
 rw[e,J]at j;injection j with j
 injection j with j
 subst j;cases ls with
 | nil=>
  cases G
  rcases n with z | z<;>exact z rfl
 | cons y ls=>
  cases G with
  | cons r t=>
   obtain⟨t,z,_⟩:=r;cases z
theorem TabSt.kp{lp:Pos}{qu:Str}(h:TabSt H Pt lp qu)(k:∀q φ,H q=some (.ext φ)->H' q=some (.ext φ)):TabSt H' Pt lp qu:=by
 rcases h with z | ⟨c',j,G⟩
 . exact .inl (k _ _ z)
 exact .inr ⟨c',k _ _ j,k _ _ G⟩
theorem UY{d:Addr}{o':HO}(h:∃o,H g=some o)(hd:H' d=some o')(k:∀p o,H p=some o->p≠d->H' p=some o):∃o,H' g=some o:=by
 obtain⟨o,e⟩:=h
 by_cases z:g=d
 . exact⟨o',z▸hd⟩
 exact⟨o,k _ _ e z⟩
inductive UZ (D:Addr):Sp where
 | mk {H:Hp}{Q:VK}{E:XK}{x dx d b g t:Addr}{fs:Tr}{bk:Bk}{j:List (ao×V)}{tr:Tr} (_:Dk D x dx d b g fs bk H) (_:bk≠[]) (_:H t=some (.dK j)) (_:d≠t) (_:Paired (dM H) j tr) (_:(tr.map (·.1)).Nodup) (_:eD tr) (_:pF fs tr) (_:∀cb H',Dk D x dx d b g cb bk H'->look cb=look tr->cb.length=tr.length->(∀p o,H p=some o->p≠d->H' p=some o)->Q .non H'):UZ D [.ref x,.ref t] H Q E
theorem U0{k:Nat}(G:aA P w K mg base aJ k f fd [ayI,azb] (JR D)):aA P w K mg base aJ k f fd [ayI,azb] (UZ D):=by
 refine G.imp λvs H Q E h=>?_;obtain @⟨_,_,_,x,dx,d,b,g,t,fs,bk,kt,tr,j,bn,ht,dt,pt,J,O,Y,q⟩:=h;obtain⟨kd,d1,d2⟩:=id j.fi;obtain⟨tb,b1,b2⟩:=id j.bo;refine⟨j.ob,d1,ht,dt,d2,pt,j.nd,J,j.ok,O,Y,j.go,λus H' U T=>?_⟩;have nd:=Tx (tr:=tr) (ps:=us) j.nd;obtain⟨a2,e1,e2⟩:=id T.hd;have k:∀{q:Addr}{o:HO},H q=some o->(∀k,o≠.dK k)->H' q=some o:=λe n=>T.kp _ _ e (be e d1 (n _));exact q _ H' ⟨k j.ob (by intro _ z;cases z),T.hd,⟨tb,k b1 (by intro _ z;cases z),aF b2 λ_ _ a0=>a0.elim λt' a1=>a1.elim λz1 z2=>⟨t',z1,k z2 (by intro _ z;cases z)⟩⟩,nd,TB O j.ok,λz=>absurd z bn,j.bt,UY j.go e1 T.kp⟩ (funext λk=>U.all k) (TF nd J λk=>U.all k) T.kp
inductive U1 (D:Addr):Sp where
 | mk {H:Hp}{Q:VK}{E:XK}{x dx d b g:Addr}{fs:Tr}{bk:Bk}{y z:Str} (_:Dk D x dx d b g fs bk H) (_:bk.length<=400) (_:dR y) (_:dR z) (_:∀H',Dk D x dx d b g fs (bk++[(y,z)]) H'->(∀p o,H p=some o->p≠b->H' p=some o)->Q .non H'):U1 D [.ref x,.str y,.str z] H Q E
theorem Kp{k:Nat}(G:aA P w K mg base aJ k f fd [ayy,azi,ayL] (JK D)):aA P w K mg base aJ k f fd [ayy,azi,ayL] (U1 D):=by
 refine G.imp λvs H Q E h=>?_;obtain @⟨_,_,_,x,dx,d,b,g,fs,bk,y,z,j,l4,oy,oz,q⟩:=h;obtain⟨kd,d1,d2⟩:=id j.fi;obtain⟨tb,J,O⟩:=id j.bo;have pl:=bv O;refine⟨j.ob,J,by omega,λt H' j9 I8 kp=>?_⟩;have k:∀{q:Addr}{o:HO},H q=some o->(∀k,o≠.lst k)->H' q=some o:=λe n=>kp _ _ e (be e J (n _));refine q H' ⟨k j.ob (by intro _ z;cases z),⟨kd,k d1 (by intro _ z;cases z),?_⟩,⟨_,j9,jq ⟨t,rfl,I8⟩ (aF O λ_ _ a0=>a0.elim λt' a1=>a1.elim λU Y=>⟨t',U,k Y (by intro _ z;cases z)⟩)⟩,j.nd,j.ok,λz=>by simp at z,?_,UY j.go j9 kp⟩ kp
 . by_cases bn:bk=[]
   . have f0:=j.bz bn;subst f0;cases d2;exact .nil
   exact aF d2 λkv f a2=>a2.elim λU a3=>a3.elim λl a4=>a4.elim λY a5=>a5.elim λn z3=>⟨U,l,Y,n,kp _ _ z3 (UX J O (.inl bn) z3)⟩
 intro e he
 rcases bR.mp he with z | z
 . exact j.bt e z
 rw[bw.mp z];exact⟨oy,oz⟩
inductive U2 (D:Addr):Sp where
 | mk {H:Hp}{Q:VK}{E:XK}{x dx d b g t:Addr}{fs:Tr}{bk:Bk}{j:List (ao×V)}{tr:Tr} (_:Dk D x dx d b g fs bk H) (_:bk≠[]) (_:bk.length<=400) (_:H t=some (.dK j)) (_:d≠t) (_:Paired (dM H) j tr) (_:(tr.map (·.1)).Nodup) (_:eD tr) (_:pF fs tr) (_:∀cb H',Dk D x dx d b g cb (bk++[pK]) H'->look cb=look tr->cb.length=tr.length->(∀p o,H p=some o->p≠d->p≠b->H' p=some o)->Q .non H'):U2 D [.ref x,.ref t] H Q E
theorem apl:aN [ayI,azb] [ayI,azb] (av Ic):=aU
theorem apm(j:Pg K mg base Pt):aA P w K mg base aJ 4 j.Fin.f j.Fin.fd [ayI,azb] (U2 j.D):=by
 refine j.Fin.u.okL apl ?_;intro au A outer s H vs Q E G h xX dX;obtain @⟨_,_,_,x,dx,d,b,g,t,fs,bk,kt,tr,hD,Y,l4,ht,dt,pt,nt,ot,J,q⟩:=h;refine⟨_,(ai (bT (aB (U0 (TR j)) G rfl (aI (pv 0) (pv 1))))
  (al (bT (lZ (pv 0) j.UD.cl j.UD.mDNt (up (Kp (JL j))) G j.DNt.b .nil cG (aI bO bO))))),?_⟩
 refine⟨hD,Y,ht,dt,pt,nt,ot,J,λcb H1 z lk el kp=>?_⟩;exact⟨z.ob,rfl,z,l4,(by decide +kernel),(by decide +kernel),λH2 zI a0=>q cb H2 zI lk el λp o e O U=>a0 p o (kp p o e O) U⟩
end
section
variable {H:Hp}{qu:Str}
seal PE PS cg PA PT PW PG fM PI fF
theorem lB.msk{H':Hp}(k:lB Pt H H'):ac (msk [Pt] H) (msk [Pt] H'):=λq o e=>by
 have n:q∉[Pt]:=λz=>by unfold K72.msk at e;rw[am z]at e;cases e
 exact cC n (k q o (aV q o e) (by simpa using n))
theorem off{o:HO}{lp:Pos}(t:TabSt H Pt lp qu)(e:H q=some o)(n:∀φ,o≠.ext φ):msk [Pt] H q=some o:=cC (by simpa using TabSt.ne t e n) e
theorem dj.off{ch:Ch}{lp:Pos}(t:TabSt H Pt lp qu)(h:dj H c ch):dj (msk [Pt] H) c ch:=by
 obtain⟨kvs,h1,h2⟩:=h;exact⟨kvs,K72.off t h1 (by intro φ z;cases z),aF h2 λ_ _ j=>j.elim λa G=>G.elim λm J=>J.elim λb c=>⟨a,m,b,K72.off t c (by intro φ z;cases z)⟩⟩
theorem Kq{Pt:Addr}{H':Hp}{lp:Pos}(s:ac (msk [Pt] H) (msk [Pt] H'))(t:TabSt H' Pt lp qu)(n:H' q=none):H q=none:=by
 cases e:H q with
 | none=>rfl
 | some o=>
  have j:q≠Pt:=λz=>by
   obtain⟨φ,w⟩:=TabSt.at t;rw[z,w]at n;cases n
  have:=aV _ _ (s q o (cC (by simpa using j) e));rw[n]at this;cases this
theorem mE.okO{ch:Ch}{cs:Cs}{ow:Ow}(h:mE ch cs ow):JZ ow:=λe z=>by
 obtain⟨a,b,c⟩:=h.ok.ow e z;obtain⟨d,f⟩:=h.ln e z;exact⟨by have:=a.len;omega,⟨by omega,λx j=>(b x j).ln⟩,⟨by omega,λx j=>(c x j).ln⟩⟩
def Af(H R:Hp)(v:V)(e:Str×Tr):Prop:=∃j g t kvs,v=.ref j/\H j=none/\R j=some (.tup [.ref g,.ref t])/\R g=some (.lst [.str e.1])/\bQ e.1/\H t=none/\R t=some (.dK kvs)/\Paired (dn H R) kvs e.2/\(e.2.map (·.1)).Nodup/\e.2.length<=26/\eD e.2
theorem Af.kp{R j:Hp}(k:∀b o,R b=some o->(∀φ,o≠.ext φ)->j b=some o){v:V}{e:Str×Tr}(h:Af H R v e):Af H j v e:=by
 obtain⟨tp,g,t,kvs,h1,h2,Y,h4,h5,h6,h7,h8,h9⟩:=h;exact⟨tp,g,t,kvs,h1,h2,k _ _ Y (by intro φ z;cases z),k _ _ h4 (by intro φ z;cases z),h5,h6,k _ _ h7 (by intro φ z;cases z),aF h8 λ_ _ G=>G.elim λz1 J=>J.elim λl O=>O.elim λz2 U=>U.elim λz3 z4=>⟨z1,l,z2,z3,k _ _ z4 (by intro φ z;cases z)⟩,h9⟩
inductive U4 (C S T Pt:Addr):Sp where
 | mk {H:Hp}{Q:VK}{E:XK}{z j:V}{a:Addr}{xs:Lv}{ps:Lp}{ns:Ls}{now ch:Ch}{cs:Cs}{ow:Ow} (_:lH C S (msk [Pt] H) z xs ps ns) (_:dj (msk [Pt] H) a now) (_:eY xs ps now) (_:iE T (msk [Pt] H) j ch cs ow) (_:eE xs ps ch cs ow) (_:TabSt H Pt fL fq) (_:∀l zs es H',H l=none->lB Pt H H'->TabSt H' Pt fL fq->H' l=some (.lst zs)->Paired (Af H (msk [l] H')) zs es->es.length<=8->Q (.ref l) H'):U4 C S T Pt [z,.ref a,j] H Q E
theorem Ag:aN [ayC,ay7,ayT,"steps","reached",aza] [ayC,ay7,ayT] (av Ig):=aU
theorem apv(j:Pg K mg base Pt):aA P w K mg base aJ 7 j.StT.f j.StT.fd [ayC,ay7,ayT] (U4 j.C j.S j.T Pt):=by
 refine j.StT.u.okL Ag ?_;intro au A outer s H vs Q E hr h xX dX;obtain @⟨_,_,_,sv,gv,a,xs,ps,ns,now,ch,cs,ow,J,hA,cA,hG,iI,ab,q⟩:=h;refine⟨_,(ai (aH (i:=3) Ag.nd rfl (Or.inl rfl) (dq eI))
  (ai (aH (i:=4) Ag.nd rfl (Or.inl rfl) (pv 1))
  (ai (eV eG rfl (cL (aB (aoF j) hr rfl (dv (pv 0) (pv 1) (bK (pv 2) rfl)))) (bf (i:=5) Ag.nd rfl (Or.inl rfl))
  (ai (aH (i:=4) Ag.nd rfl (Or.inl rfl) (aB (Kk j) hr rfl (dv (pv 4) (bK (pv 2) rfl) (pv 5))))
   (al (bT (dH jf xR xS qK (pv 3) (aq (eX (aI (pv 5) (aB (Ka j) hr rfl (aI (pv 0) (tJ j.MTIn (up (CJ j)) hr rfl j.UT.mgC j.TIn.b .nil cG (dv (pv 4) (bK (pv 2) rfl) (bK (pv 2) rfl)))))))))))))
  (al (aQ (pv 3)))))),?_⟩
 refine jB ?_;intro dD sS u4 u3 u2;obtain⟨ga,az,a',c,h,o,rfl,t1,t2,t3,t4,t5,t6,t7⟩:=id hG;have cB:eY xs ps ch:=⟨iI.ok.d1,iI.va⟩;refine⟨Ab,λG H1 n1 s1 e1=>?_⟩;refine⟨?_⟩;have m1:=di (L:=[Pt]) s1;refine⟨s1 _ _ (aV _ _ t1),j.UT.cl,j.UT.nC,t2,?_⟩;refine⟨J.same (aV.trans s1),hA.same (aV.trans s1),t5.same (aV.trans s1),cA,cB,λl zg us H2 n2 s2 e2 U pr=>⟨⟨_,aa.of e2⟩,?_⟩⟩;have m2:=m1.trans (di (L:=[Pt]) s2);have a8:=(ab.same s1).same s2;have nl:=cA.len J.ap J.n4;have gl:=cB.len J.ap J.n4;have ul:=U.len;have U5:H G=none:=n1;have an:∀z∈us,bQ z:=λz hz=>by
  have dg:=(U.mem z).mp hz;have a0:∀{c:Ch},eY xs ps c->z∈c.map (·.1)->bQ z:=λk hz=>by
   obtain⟨e,he,rfl⟩:=cE.mp hz;obtain⟨v,p,hi,e1,_⟩:=k.va e he;exact e1▸J.nm _ (J.ap.nms p (Kg hi))
  by_cases z1:z∈now.map (·.1)
  . exact a0 cA z1
  by_cases z2:z∈ch.map (·.1)
  . exact a0 cB z2
  exact absurd ((iG.mpr z1).trans (iG.mpr z2).symm) dg
 have aR:=bv pr;refine iN (xs:=zg) (λi Z H3=>∃u re zs es,Z=[some sv,some (.ref a),some (.ref ga),some (.ref G),some (.ref re),u]/\ac (msk [Pt] H) (msk [Pt] H3)/\TabSt H3 Pt fL fq/\H3 l=some (.lst zg)/\Paired (iH [l] H3) zg us/\H3 G=some (.lst zs)/\Paired (Af H (msk [G] H3)) zs es/\es.length=i/\dj (msk [Pt] H3) re ((us.take i).foldl (bL ch) now))
  ⟨none,a,[],[],rfl,m2,a8,e2,pr,s2 _ _ e1,.nil,rfl,hA.same m2⟩ ?_ ?_ ?_
 . rintro i Z H3 hi ⟨u,re,zs,es,rfl,_,_,e3,_⟩;exact aa.of e3
 . intro i z Z H3 hz hQ;refine bu ?_;intro tT;obtain⟨u,re,zs,es,rfl,m3,jO,U6,rN,wZ,xa,il,c3⟩:=hQ;obtain⟨n,hn,g,rfl,aC,hg⟩:=eK rN hz;have aO:=(cT.mp hn).1;have k3:eY xs ps ((us.take i).foldl (bL ch) now):=cB.steps cA;have ax:=k3.len J.ap J.n4;have G3:=hG.same m3;have zl:=bv xa;have gp:g≠G:=λz=>by
    rw[z,wZ]at hg;injection hg with hg
    injection hg with hg
    subst hg;cases xa with
    | cons r t=>obtain⟨_,_,_,_,z,_⟩:=r;cases z
   refine⟨aV _ _ (m3 _ _ t1),j.UT.cl,j.UT.nC,t2,⟨?_⟩⟩;refine⟨c3.same aV,(t5.same m3).same aV,k3.nd,cB.nd,hg,by omega,λr H4 n4 s4 c4=>?_⟩;have m4:=m3.trans (di (L:=[Pt]) s4);have nU:=jO.same s4;have st:bL ch ((us.take i).foldl (bL ch) now) n=(us.take (i+1)).foldl (bL ch) now:=by rw[mC hn,qr];rfl
   rw[st]at c4;have k4:eY xs ps ((us.take (i+1)).foldl (bL ch) now):=cB.steps cA;have U8:=s4 _ _ wZ;refine⟨.inl ⟨rfl,_,aa.of U8⟩,aV _ _ (m4 _ _ t1),j.UT.cl,j.UT.nH,t3,aV _ _ (m4 _ _ t1),j.UT.cl,j.UT.nO,t4,?_⟩;refine CK (T:=j.T) c4 ((t6.same m4).same aV) ((t7.same m4).same aV) iI.ok.d3 (by have:=iI.o2;omega) λx H5 n5 s5 dA=>?_;have m5:=m4.trans (di (L:=[Pt]) s5);have jb:=nU.same s5;have W5:=(J.same m5).same aV;have U9:=dA [] (λb hb=>nomatch hb);rw[zv]at U9;refine⟨W5.sh,W5.pc,W5.pcok,J.n4,U9,k4.va,k4.len J.ap J.n4,iI.o2,iI.ok.okO,λe he=>(iI.ok.ok.cs e he).2.ln,jb,λt H6 kvs tr n6 kT sf e6 Ah xb mB nn _=>?_⟩;refine⟨An,λtp H7 n7 s7 e7=>?_⟩;have m6:=m5.trans (lB.msk kT);have m7:=m6.trans (di (L:=[Pt]) s7);have xf:=sf.same s7;have go:∀{b:Addr}{o:HO},H3 b=some o->(∀φ,o≠.ext φ)->H7 b=some o:=λe ne=>s7 _ _ (kT _ _ (s5 _ _ (s4 _ _ e)) (TabSt.ne jb (s5 _ _ (s4 _ _ e)) ne));have Va:∀{b:Addr}{o:HO},H5 b=some o->(∀φ,o≠.ext φ)->H7 b=some o:=λe ne=>s7 _ _ (kT _ _ e (TabSt.ne jb e ne));have Dz:=go wZ (by intro φ z;cases z);have DB:=s5 _ _ U8;have lp:l≠G:=(aK e1 n2).symm;refine⟨Dz,bP (by omega),?_⟩;have hu:∀{b:Addr}{o o':HO},H7 b=some o->b≠G->ah H7 G o' b=some o:=λe ne=>aD e ne;have af:tp≠G:=λz=>by rw[z,kT _ _ DB (TabSt.ne jb DB (by intro φ z;cases z))]at n7;cases n7
   have a9:t≠G:=λz=>by rw[z,DB]at n6;cases n6
   refine⟨_,r,zs++[.ref tp],es++[(n,tr)],rfl,?_,?_,hu (go U6 (by intro φ z;cases z)) lp,aF rN λ_ _ yy=>?_,aE,?_,by rw[bI,il];rfl,?_⟩
   . refine λb ob Y=>?_;have:=m7 b ob Y;have nb:b∉[Pt]:=λz=>by unfold K72.msk at this;rw[am z]at this;cases this
     exact cC nb (hu (aV _ _ this) λz=>by have:=aV _ _ Y;rw[z,U5]at this;cases this)
   . exact K72.TabSt.kp xf λb φ e=>hu e (be e Dz (by intro z;cases z))
   . obtain⟨l',y1,y2,O⟩:=yy;refine⟨l',y1,y2,hu (go O (by intro φ z;cases z)) λz=>?_⟩;rw[z,wZ]at O;injection O with O
     injection O with O
     subst O;cases xa with
     | cons r t=>obtain⟨_,_,_,_,z,_⟩:=r;cases z
   . rw[yT bM];refine jq ?_ (aF xa λ_ _ z=>z.kp λb ob Y ne=>?_)
     . have q1:∀{b:Addr}{o:HO},H7 b=some o->b≠G->msk [G] H7 b=some o:=λe ne=>cC (by simpa using ne) e;refine⟨tp,g,t,kvs,rfl,Kq m6 sf n7,q1 e7 af,q1 (go hg (by intro φ z;cases z)) gp,an n (cX hn),Kq m5 jb n6,q1 (s7 _ _ e6) a9,aF Ah λ_ _ a1=>a1.elim λy1 a2=>a2.elim λl' a3=>a3.elim λy2 a4=>a4.elim λO y4=>⟨y1,l',y2,Kq m5 jb O,q1 (s7 _ _ y4) λz=>by rw[z,DB]at O;cases O⟩,xb,mB,nn⟩
     have nb:b∉[G]:=λz=>by unfold K72.msk at Y;rw[am z]at Y;cases Y
     exact cC nb (go (aV _ _ Y) ne)
   have c7:dj H7 r ((us.take (i+1)).foldl (bL ch) now):=by
    obtain⟨kr,r1,r2⟩:=c4.same s5;exact⟨kr,Va r1 (by intro φ z;cases z),aF r2 λ_ _ a5=>a5.elim λa a6=>a6.elim λm a7=>a7.elim λb c=>⟨a,m,b,Va c (by intro φ z;cases z)⟩⟩
   refine dj.off (K72.TabSt.kp xf λb φ e=>hu e (be e Dz (by intro z;cases z))) (dj.mut Dz c7)
 rintro Z H3 ⟨u,re,zs,es,rfl,m3,jO,U6,rN,wZ,xa,il,c3⟩;refine⟨q G zs es H3 U5 (λb ob Y nb=>aV _ _ (m3 b ob (cC (by simpa using nb) Y))) jO wZ xa (by omega)⟩
end
section
variable {xs:Lv}{ps:Lp}{ch:Ch}{cs:Cs}{ow:Ow}
seal PE PS cg PA PT PW PG fM PI fF
def DC:Str:="step"
def iJ(st:Ls):Bk:=st.map λz=>(DC,z)
theorem ft.txt{t:Str}(h:ft xs ps t ch cs ow):dR t:=by
 rw[h.tx,<-uD];refine FV (by decide +kernel) λr G=>?_;have l:∀{ys:Ls},(∀y∈ys,dR y)->dR (Str.join spS ys):=λh=>by rw[<-uD];exact FV (by decide +kernel) h
 rcases Hd h.so.ok.ok G with⟨e,a,b,rfl⟩ | ⟨e,a,b,rfl⟩ | ⟨p,a,rfl⟩ | ⟨x,a,rfl⟩ | ⟨x,a,rfl⟩
 . refine l λy j=>?_;simp only[bc,fz,fA]at j
   rcases j with rfl | rfl | rfl
   . decide +kernel
   . exact a.ok
   exact tR.mpr λc z=>by have:=b.signs c z;omega
 . refine l λy j=>?_;simp only[bc,fz,fA]at j
   rcases j with rfl | rfl | rfl
   . decide +kernel
   . exact a.ok
   exact b.ok
 . refine l λy j=>?_;simp only[bc,fz,fA]at j
   rcases j with rfl | rfl
   . decide +kernel
   exact a.ln.ok
 . exact Bz (by decide +kernel) a.ln.ok
 exact Bz (by decide +kernel) a.ln.ok
def xg(xs:Lv)(ps:Lp)(ch:Ch)(cs:Cs)(ow:Ow)(t:Str):Prop:=∃aX aL aM,cK ch aX/\cK cs aL/\cK ow aM/\ft xs ps t aX aL aM
theorem xg.ok{t:Str}(h:xg xs ps ch cs ow t):∃ch cs ow,ft xs ps t ch cs ow:=h.elim λa j=>j.elim λb z=>z.elim λc G=>G.elim λ_ J=>J.elim λ_ O=>O.elim λ_ h=>⟨a,b,c,h⟩
def Ai(xs:Lv)(ps:Lp)(t:Str)(fs:Tr):Prop:=∃ch cs ow tr,xg xs ps ch cs ow t/\eE xs ps ch cs ow/\zR ps ch cs ow tr/\look fs=look tr
theorem eE.pt(h:eE xs ps ch cs ow):∀e∈ow,dW e.1:=λe j=>(h.ok.ok.ow e j).1
theorem Ai.look{ns:Ls}{t:Str}{fs tr:Tr}(h:Ai xs ps t fs)(z:Apart ns ps)(k:ft xs ps t ch cs ow)(g:zR ps ch cs ow tr):K72.look fs=K72.look tr:=by
 obtain⟨a,b,c,J4,⟨a',b',c',O,U,Y,G⟩,j,J,e⟩:=h;obtain⟨rfl,rfl,rfl⟩:=G.uniq k;rw[e];exact anJ z O.pm.symm U.pm.symm Y.pm.symm j.ok.d1 j.ok.d2 j.ok.d3 j.pt J g
def DD(R:Hp)(v:V)(e:Str×Tr):Prop:=∃j g t kvs,v=.ref j/\R j=some (.tup [.ref g,.ref t])/\R g=some (.lst [.str e.1])/\bQ e.1/\R t=some (.dK kvs)/\Paired (dM R) kvs e.2/\(e.2.map (·.1)).Nodup/\e.2.length<=26/\eD e.2
theorem DD.same{R j:Hp}(s:ac R j){v:V}{e:Str×Tr}(h:DD R v e):DD j v e:=by
 obtain⟨Y,g,t,kvs,h1,h2,z,G,J,O,U⟩:=h;exact⟨Y,g,t,kvs,h1,s _ _ h2,s _ _ z,G,s _ _ J,aF O λ_ _=>dM.same s,U⟩
theorem Dk.busy{fs:Tr}{bk:Bk}{H:Hp}{lp:Pos}{qu:Str}(h:Dk D x dx d b g fs bk H)(t:TabSt H Pt lp qu):gJ H [x,d,b,Pt]:=λq j=>by
 obtain⟨J,d1,_⟩:=h.fi;obtain⟨tb,G,_⟩:=h.bo;obtain⟨φ,w⟩:=TabSt.at t;simp only[bc,fz,fA]at j
 rcases j with rfl | rfl | rfl | rfl
 . exact⟨_,h.ob,by intro vs z;cases z⟩
 . exact⟨_,d1,by intro vs z;cases z⟩
 . exact⟨_,G,by intro vs z;cases z⟩
 exact⟨_,w,by intro vs z;cases z⟩
theorem TabSt.kx{fs:Tr}{bk:Bk}{H H':Hp}{lp:Pos}{qu:Str}(h:Dk D x dx d b g fs bk H)(t:TabSt H Pt lp qu)(k:∀p o,H p=some o->p≠x->p≠d->p≠b->H' p=some o):TabSt H' Pt lp qu:=by
 obtain⟨G,d1,_⟩:=h.fi;obtain⟨tb,j,_⟩:=h.bo;exact K72.TabSt.kp t λq φ e=>k _ _ e (be e h.ob (by intro z;cases z)) (be e d1 (by intro z;cases z)) (be e j (by intro z;cases z))
inductive Kr (C S T D Pt:Addr):Sp where
 | mk {H:Hp}{Q:VK}{E:XK}{z j:V}{x dx d b g:Addr}{fs:Tr}{bk:Bk}{xs:Lv}{ps:Lp}{ns:Ls}{ch:Ch}{cs:Cs}{ow:Ow} (_:lH C S (msk [x,d,b,Pt] H) z xs ps ns) (_:iE T (msk [x,d,b,Pt] H) j ch cs ow) (_:eE xs ps ch cs ow) (_:Dk D x dx d b g fs bk H) (_:fs.length<=26) (_:bk.length<=300) (_:pL xs ps (Str.empty::bG bk)) (_:TabSt H Pt fL fq) (_:(∀t H',xg xs ps ch cs ow t->(Str.empty::bG bk).getLast?=some t->Dk D x dx d b g fs bk H'->bX x d b Pt H H'->TabSt H' Pt fL fq->Q .non H')) (_:∀t cb st H',xg xs ps ch cs ow t->(Str.empty::bG bk).getLast?≠some t->Dk D x dx d b g cb (bk++(ik,t)::iJ st++[pK]) H'->cb.length<=26->Ai xs ps t cb->st.length<=8->bX x d b Pt H H'->TabSt H' Pt fL fq->Q .non H'):Kr C S T D Pt [z,.ref x,j] H Q E
theorem uW:aN [ayC,ayI,ayT,ayV,ayL,"steps",azb,aza,"between"] [ayC,ayI,ayT] (av Ie):=aU
theorem DE(j:Pg K mg base Pt):aA P w K mg base aJ 8 j.DoD.f j.DoD.fd [ayC,ayI,ayT] (Kr j.C j.S j.T j.D Pt):=by
 refine j.DoD.u.okL uW ?_;intro au A outer s H vs Q E G h xX dX;obtain @⟨_,_,_,sv,gv,x,dx,d,b,g0,fs,bk,xs,ps,ns,ch,cs,ow,hW,hG,J,hD,mB,bd,tok,a0,q1,q2⟩:=h;refine⟨_,(ai (aH (i:=3) uW.nd rfl (Or.inl rfl) (aB (UW j) G rfl (aq (pv 1))))
  (ai (aH (i:=4) uW.nd rfl (Or.inl rfl) (aB (wH j) G rfl (aq (pv 2))))
  (ai (bV (bW fC (aB (wH j) G rfl (aq (pv 3))) (pv 4) (bC _))
  (al Nu) cZ)
  (ai (aH (i:=5) uW.nd rfl (Or.inl rfl) (aB (apv j) G rfl (dv (pv 0) (bK (pv 3) rfl) (pv 2))))
  (ai (aH (i:=6) uW.nd rfl (Or.inl rfl) (aB (Ka j) G rfl (aI (pv 0) (pv 2))))
  (ai (bT (lZ (pv 1) j.UD.cl j.UD.mDNt (up (Kp (JL j))) G j.DNt.b .nil cG (aI bO (pv 4))))
  (ai (eV eG rfl (cL (pv 5)) (ou rfl (gE (bf (i:=7) uW.nd rfl (Or.inl rfl)) (gE (bf (i:=8) uW.nd rfl (Or.inl rfl)) mR)))
  (ai (bT (aB (U0 (TR j)) G rfl (aI (pv 1) (pv 8))))
   (al (bT (lZ (pv 1) j.UD.cl j.UD.mDNt (up (Kp (JL j))) G j.DNt.b .nil cG (aI bO (dH lU xO xP vH bO (aq (pv 7)))))))))
  (al (bT (aB (apm j) G rfl (aI (pv 1) (pv 6)))))))))))),?_⟩
 refine aga ?_;intro dD sS u8 u7 u6 u5 u4 u3 u2;obtain⟨tb,b1,b2⟩:=id hD.bo;obtain⟨t0,DF⟩:∃t0,(Str.empty::bG bk).getLast?=some t0:=⟨_,List.getLast?_eq_getLast (EK _ _)⟩;obtain⟨xh,xi,xj,DG⟩:=tok t0 (YM DF);have af:gJ H [Pt]:=λq hq=>(hD.busy a0) q (by rw[bw.mp hq];simp);refine⟨hD.ob,b1,b2,by omega,DF,DG,λv0 H1 s1 jp=>?_⟩;refine⟨?_⟩;dsimp only[fg,qi,AZ];refine J.sho ((hG.same aV).same s1) λt aX aL aM H2 r1 r2 r3 hT s2=>?_;have hg:xg xs ps ch cs ow t:=⟨aX,aL,aM,r1,r2,r3,hT⟩;have Vb:=jp [Pt] af;obtain⟨va,Ks,Kt,c0,h0,o0,rfl,w1,w2,w3,w4,w5,w6,w7⟩:=id Vb;refine⟨?_⟩;dsimp only[fg,qi,AZ];refine DG.sho ((Vb.same aV).same s2) λH3 s3=>⟨rfl,⟨?_⟩⟩;have fK:=s2.trans s3;have Y:=s1.trans fK;refine bj (λh=>?_) (λh=>?_)
 . have e:=cY h;injection e with e
   exact q1 t H3 hg (e▸DF) (hD.same Y) (.of Y) (a0.same Y)
 have m3:=di (L:=[Pt]) Y;have less:∀{Hx:Hp},ac (msk [x,d,b,Pt] Hx) (msk [Pt] Hx):=Ci (by simp);have jO:=a0.same Y;have Vc:=hD.same Y;refine⟨fK _ _ (aV _ _ w1),j.UT.cl,j.UT.nC,w2,⟨?_⟩⟩;refine⟨(hW.same less).same m3,w5.same (di fK),⟨DG.so.ok.d1,DG.so.va⟩,(hG.same less).same m3,J,jO,λl zs es U nl kT nU el bb e8=>?_⟩;have b5:bX x d b Pt H3 U:=.ofT kT;have xk:bX x d b Pt H U:=(bX.of Y).trans b5;have sw:=Vc.keepT jO nU kT;have W4:=(hW.same xk.msk).same aV;have G4:=(hG.same xk.msk).same aV;have cB:eY xs ps ch:=⟨J.ok.d1,J.va⟩;refine⟨W4.sh,W4.pc,W4.pcok,W4.n4,G4,J.va,cB.len W4.ap W4.n4,J.o2,J.ok.okO,λe he=>(J.ok.ok.cs e he).2.ln,nU,λt5 H5 kvs tr n5 Vd jb e5 Ah xb lT nn Ku=>?_⟩;have Ve:bX x d b Pt U H5:=.ofT Vd;have b4:=xk.trans Ve;have rW:=sw.keepT nU jb Vd;have an:=Vc.busy jO;have a1:=sw.busy nU;have nb:∀{q:Addr},H3 q=none->q∉[x,d,b,Pt]:=λe=>an.free e;have R4:∀{q:Addr}{o:HO},U q=some o->H3 q=none->msk [x,d,b,Pt] U q=some o:=λe n=>cC (nb n) e;obtain⟨xn,c1,c2⟩:=id sw.bo;obtain⟨bh,c3,_⟩:=id sw.fi;have wG:Paired (DD (msk [x,d,b,Pt] U)) zs es:=aF bb λv e z=>by
  obtain⟨tp,g,tt,kk,z1,z2,z3,z4,z5,z6,z7,z8,z9⟩:=z;have O:=aV _ _ z4;obtain⟨φ,wφ⟩:=TabSt.at nU;have gn:g∉[x,d,b,Pt]:=λm=>by
   simp only[bc,fz,fA]at m
   rcases m with m | m | m | m
   . rw[m,sw.ob]at O;cases O
   . rw[m,c3]at O;cases O
   . exact UX (ls:=[e.1]) c1 c2 (.inr (by simp)) O m
   rw[m,wφ]at O;cases O
  exact⟨tp,g,tt,kk,z1,R4 (aV _ _ z3) z2,cC gn O,z5,R4 (aV _ _ z7) z6,aF z8 λ_ _ a3=>a3.elim λy1 a4=>a4.elim λl' a5=>a5.elim λy2 a6=>a6.elim λy3 y4=>⟨y1,l',y2,R4 (aV _ _ y4) y3⟩,z9⟩
 have l4:msk [x,d,b,Pt] U l=some (.lst zs):=R4 el nl;have Vf:t5∉[x,d,b,Pt]:=a1.free n5;have gw:Paired (dM (msk [x,d,b,Pt] H5)) kvs tr:=aF Ah λ_ _ a7=>a7.elim λy1 a8=>a8.elim λl' a9=>a9.elim λy2 ab=>ab.elim λy3 y4=>⟨y1,l',y2,cC (a1.free y3) y4⟩;have a':msk [x,d,b,Pt] H5 t5=some (.dK kvs):=cC Vf e5;have ax:d≠t5:=λz=>Vf (by rw[<-z];simp);refine⟨rW.ob,rfl,rW,by omega,(by decide +kernel),hT.txt,λH6 b0 Vg=>?_⟩;have Kv:bX x d b Pt H5 H6:=λq o e _ _ n3 _=>Vg q o e n3;have sf:TabSt H6 Pt fL fq:=K72.TabSt.kx rW jb λp o e _ _ n3=>Vg p o e n3;have Kw:=(Ve.trans Kv).msk;have b7:=Kv.msk;have zl:=bv wG;refine⟨⟨_,aa.of (aV _ _ (Kw _ _ l4))⟩,?_⟩;refine iN (xs:=zs) (λi Z H7=>∃u v Aj st,Z=[some sv,some (.ref x),some gv,some (.ref va),some (.str t),some (.ref l),some (.ref t5),u,v]/\bX x d b Pt H6 H7/\TabSt H7 Pt fL fq/\Dk j.D x dx d b g0 Aj (bk++(ik,t)::iJ st) H7/\st.length=i/\Aj.length<=26)
  ⟨none,none,fs,[],rfl,.of (ac.refl _),sf,b0,rfl,mB⟩ ?_ ?_ ?_
 . rintro i Z H7 hi ⟨u,v,Aj,st,rfl,k7,_⟩;exact aa.of (aV _ _ ((Kw.trans k7.msk) _ _ l4))
 . intro i z Z H7 hz hQ;refine bu ?_;intro tT;obtain⟨u,v,Aj,st,rfl,k7,xf,nQ,il,aR⟩:=hQ;obtain⟨e,he,hE⟩:=eK wG hz;have aO:=(cT.mp hz).1;obtain⟨tp,g,tt,kk,rfl,z2,z3,z4,z5,z6,z7,z8,z9⟩:=hE.same (Kw.trans k7.msk);have bn:bk++(ik,t)::iJ st≠[]:=by simp
   have lb:(bk++(ik,t)::iJ st).length<=309:=by
    rw[bI,bU];unfold iJ;rw[ak];omega
   have az:d≠tt:=λz=>by
    obtain⟨kd,d1,_⟩:=id nQ.fi;have:=z5;unfold msk at this;rw[am (by rw[<-z];simp)]at this;cases this
   refine⟨aZ.of (aV _ _ z2),rfl,rfl,?_⟩;refine lq ?_
   intros
   refine⟨nQ,bn,aV _ _ z5,az,aF z6 λ_ _=>dM.same aV,z7,z9,Df (by omega),λKx H8 tV Vh aC Ak=>?_⟩;have DH:bX x d b Pt H7 H8:=λq o e _ n2 _ _=>Ak q o e n2;have g8:=aV _ _ (DH.msk _ _ z3);have a2:TabSt H8 Pt fL fq:=K72.TabSt.kx nQ xf λp o e _ n2 _=>Ak p o e n2;refine⟨tV.ob,rfl,rfl,[e.1],aa.of g8,?_,?_⟩
   . have:=z4.hi;show e.1.length+0+1 * (Str.ofString " ").length<=16777216;have:(Str.ofString " ").length=1:=by decide +kernel
     omega
   refine⟨tV,by omega,(by decide +kernel),FV (by decide +kernel) (λy hy=>by rw[bw.mp hy];exact z4.ok),λH9 b3 Vi=>?_⟩;have b6:bX x d b Pt H8 H9:=λq o e _ _ n3 _=>Vi q o e n3;refine⟨_,_,Kx,st++[Txt.join " " [e.1]],rfl,k7.trans (DH.trans b6),K72.TabSt.kx tV a2 λp o e _ _ n3=>Vi p o e n3,?_,by rw[bI,il];rfl,by omega⟩;have eb:bk++(ik,t)::iJ st++[(DC,Txt.join " " [e.1])]=bk++(ik,t)::iJ (st++[Txt.join " " [e.1]]):=by unfold iJ;rw[dw,kI];rfl
   rw[<-eb];exact b3
 rintro Z H7 ⟨u,v,Aj,st,rfl,k7,xf,nQ,il,aR⟩;have bn:bk++(ik,t)::iJ st≠[]:=by simp
 have lb:(bk++(ik,t)::iJ st).length<=309:=by
  rw[bI,bU];unfold iJ;rw[ak];omega
 have Vj:=b7.trans k7.msk;refine⟨nQ,bn,by omega,aV _ _ (Vj _ _ a'),ax,aF gw λ_ _ z=>(dM.same Vj z).same aV,xb,nn,Df (by omega),λKx H8 tV Vh aC Ak=>?_⟩;have DH:bX x d b Pt H7 H8:=λq o e _ n2 n3 _=>Ak q o e n2 n3;exact q2 t Kx st H8 hg (λz=>h (bE (by rw[DF]at z;cases z;rfl))) tV (by omega) ⟨ch,cs,ow,tr,hg,J,Ku,Vh⟩ (by omega) (b4.trans (Kv.trans (k7.trans DH))) (K72.TabSt.kx nQ xf λp o e _ n2 n3=>Ak p o e n2 n3)
end
section
seal PE PS cg PA PT PW PG fM PI fF
inductive Vk (C T:Addr):Sp where
 | mk {H:Hp}{Q:VK}{E:XK}{a n:Addr}{j:Int}{xs:Lv}{ps:Lp}{ns:Ls} (_:H a=some (.lst xs)) (_:eB C H xs ps) (_:ps.length<=100) (_:(∀p∈ps,bQ p.nm/\gc p.ms)) (_:H n=some (.lst (ns.map V.str))) (_:1<=ns.length) (_:ns.length<=4) (_:(∀n∈ns,bQ n)) (_:∀v ch cs ow H',ac H H'->(∀L,gJ H L->iE T (msk L H') v ch cs ow)->eE xs ps ch cs ow->(∀e∈ow,e.2.1.length<=4/\e.2.2.length<=4)->ow.length<=2->(∀e∈cs,e.1∈ns)->Q v H'):Vk C T [.ref a,.ref n,.int j] H Q E
theorem pM:aN [ayU,ayA,ayz,"_law_chosen_here","_law_choices","_law_own",ayP,"_law_common",ayB,"_law_base"] [ayU,ayA,ayz] (av Ir):=aU
theorem Vl(j:Pg K mg base Pt):aA P w K mg base aJ 4 j.LSt.f j.LSt.fd [ayU,ayA,ayz] (Vk j.C j.T):=by
 refine j.LSt.u.okL pM ?_;intro au A outer s H vs Q E G h xX dX;obtain @⟨_,_,_,a,n,a0,xs,ps,ns,ha,bJ,wF,DI,hn,n1,n4,uX,q⟩:=h;have hu:=G.units;refine⟨_,(ai (aH (i:=3) pM.nd rfl (Or.inl rfl) (aB (alR j) G rfl (dv (pv 0) (pv 1) (aB (gU j) G rfl (aI (pv 2) aj)))))
  (ai (aH (i:=4) pM.nd rfl (Or.inl rfl) mj)
  (ai (aH (i:=5) pM.nd rfl (Or.inl rfl) mj)
  (ai (eV eG rfl (oE rfl j.B.range (aq (aw bZ (aB (gU j) G rfl (aI (pv 2) aj)) aj))) (bf (i:=6) pM.nd rfl (Or.inl rfl))
  (ai (aH (i:=7) pM.nd rfl (Or.inl rfl) (bA eR (pv 1) (aw bZ (aB (gU j) G rfl (aI (pv 2) (aw fO aj (pv 6)))) (cr fU (by rfl) j.B.len fc (aq (pv 1)))) (λ_ _=>rfl)))
   (al (iR hu (pv 4) (pv 7) (bA eR (pv 1) (aw bZ (aB (gU j) G rfl (aI (pv 2) (aw fO aj (pv 6)))) (cr fU (by rfl) j.B.len fc (aq (pv 1)))) (λ_ _=>rfl)) rfl))))
  (ai (eV eG rfl (oE rfl j.B.range (aq (aw bZ (aB (gU j) G rfl (aI (pv 2) aj)) aj))) (bf (i:=6) pM.nd rfl (Or.inl rfl))
  (ai (aH (i:=8) pM.nd rfl (Or.inl rfl) (aB (gU j) G rfl (aI (pv 2) (aw fO aj (pv 6)))))
   (ai (aH (i:=9) pM.nd rfl (Or.inl rfl) (aB (CG j) G rfl (aq (aB (gU j) G rfl (aI (pv 2) (aw fO aj (pv 6)))))))
   (al (iR hu (pv 5) (aB (IH j) G rfl (aq (pv 8))) (eX (aI (pv 9) (aB (CG j) G rfl (aq (aB (gU j) G rfl (aI (pv 2) (aw fO aj (pv 6)))))))) rfl)))))
  (al (aQ (tJ j.MTIn (up (CJ j)) G rfl j.UT.mgC j.TIn.b .nil cG (dv (pv 3) (pv 4) (pv 5)))))))))),?_⟩
 refine yB ?_;intro dD sS u6 u5 u4 u3 u2;have name:∀r:Int,∃z,cu (ns.map V.str) (r % ((ns.map V.str).length:Int))=some (V.str z)/\bQ z/\z∈ns:=λr=>by
  have hl:((ns.map V.str).length:Int)=ns.length:=by rw[ak]
  rw[hl];have h0:=sV r (show(ns.length:Int)≠0 by omega);have h1:=vk r (show(0:Int)<ns.length by omega);obtain⟨z,hz,zm⟩:=oR (xs:=ns) (r:=r % (ns.length:Int)) h0 h1;exact⟨z,hz,uX z (cX zm),cX zm⟩
 have Vm:(0:Int)<((ns.map V.str).length:Int):=by rw[ak];omega
 refine⟨⟨⟨⟨λm0=>?_⟩⟩⟩⟩;refine⟨ha,bJ,wF,hn,n4,λdc H1 ch nc s1 hc hv nd c4=>?_⟩;refine λdh H2 nh Y e2=>?_;refine λdO H3 no s3 e3=>?_;have fK:=s1.trans (Y.trans s3);obtain⟨kc,fG,jw⟩:=id hc;have P0:lI H H3 dc dh dO ch [] []:=⟨fK,nc,s1.free nh,(s1.trans Y).free no,aK fG nh,aK (Y _ _ fG) no,aK e2 no,hc.same (Y.trans s3),⟨[],s3 _ _ e2,.nil⟩,⟨[],e3,.nil⟩⟩;have o0:lJ ch [] [] 4 0 0:=⟨⟨λe O=>?_,(λ_ h=>nomatch h),(λ_ h=>nomatch h)⟩,nd,kH,kH,c4,aG _,aG _,(λ_ h=>nomatch h)⟩
 rotate_left
 . obtain⟨v,p,hi,e1,e2⟩:=hv e O;obtain⟨a1,a2⟩:=DI p (Kg hi);exact⟨e1▸a1,e2▸a2⟩
 refine⟨⟨λm1=>?_⟩⟩;refine⟨(by show(0:Int)<3;decide),by omega,by omega,?_⟩;refine vx (λi Z H4=>∃u v cs,Z=[some (.ref a),some (.ref n),some (.int a0),some (.ref dc),some (.ref dh),some (.ref dO),u,v,none,none]/\lI H H4 dc dh dO ch cs []/\lJ ch cs [] 4 i 0/\∀e∈cs,e.1∈ns) ⟨none,none,[],rfl,P0,o0,λ_ h=>nomatch h⟩ ?_ ?_
 . intro i Z H4 hi J;refine bu ?_;intro tT;obtain⟨u,v,cs,rfl,N,ok,kn⟩:=J;have U:=N.old _ _ hn;refine⟨⟨⟨⟨⟨λm2=>?_⟩⟩⟩⟩⟩;obtain⟨z1,C4,a6,a5⟩:=name m2;refine⟨n,_,rfl,.inl (aa.of U),Vm,aa.of U,C4,?_⟩;refine⟨⟨⟨⟨⟨λm3=>?_⟩⟩⟩⟩⟩;obtain⟨z2,a4,a7,_⟩:=name m3;obtain⟨kh,c1,c2⟩:=id N.cs;have lc:=bv c2;have:=ok.n2;refine⟨n,_,rfl,.inl (aa.of U),Vm,aa.of U,a4,fV.k (k:=.inr z1) c1 (bP (by omega)),?_⟩;exact⟨_,_,_,rfl,N.putH c1,ok.putH a6 a7,λe O=>(kf O).elim (λz=>by rw[z];exact a5) (kn e)⟩
 intro Z H4 J;refine bu ?_;intro tT;obtain⟨u,v,cs,rfl,N4,a8,kn⟩:=J;refine⟨⟨λm5=>?_⟩⟩;refine⟨(by show(0:Int)<3;decide),by omega,by omega,?_⟩;refine vx (λi Z H5=>∃u x8 x9 ow,Z=[some (.ref a),some (.ref n),some (.int a0),some (.ref dc),some (.ref dh),some (.ref dO),u,v,x8,x9]/\lI H H5 dc dh dO ch cs ow/\lJ ch cs ow 4 4 i) ⟨u,none,none,[],rfl,N4,a8.mono (aG _) (by omega) (aG _)⟩ ?_ ?_
 . intro i Z H5 hi J;refine bu ?_;intro tT;obtain⟨u,x8,x9,ow,rfl,N,ok⟩:=J;refine⟨⟨⟨⟨λm6=>?_⟩⟩⟩⟩;refine⟨⟨⟨⟨λm7=>⟨λl1 H6 a9 af s6 e6 k6 o6=>?_⟩⟩⟩⟩⟩;refine⟨⟨⟨⟨⟨λm8=>⟨λl2 H7 ab an s7 e7 k7 o7=>?_⟩⟩⟩⟩⟩⟩;refine⟨An,λt H8 nt s8 e8=>?_⟩;refine⟨⟨⟨λpt H9 pN s9=>?_⟩⟩⟩;have N9:=N.same (s6.trans (s7.trans (s8.trans s9)));obtain⟨ko,c1,c2⟩:=id N9.ow;have lc:=bv c2;have:=ok.n3;refine⟨fV.k (k:=.inr pt) c1 (bP (by omega)),?_⟩;exact⟨_,_,_,_,rfl,N9.putO c1 (s9 _ _ e8) ((s7.trans (s8.trans s9)) _ _ e6) ((s8.trans s9) _ _ e7),ok.putO pN o6 o7 k6 k7⟩
 intro Z H5 J;refine bu ?_;intro tT;obtain⟨u,x8,x9,ow,rfl,N,ok⟩:=J;have o2:ow.length<=2:=b8 ok.n3 (by omega);refine⟨⟨⟨?_⟩⟩⟩;refine CK (T:=j.T) N.ch N.cs N.ow ok.d3 (by omega) λx H6 nx s6 dA=>?_;refine q (.ref x) ch cs ow H6 (N.old.trans s6) (λL hL=>dA L λb hb=>(hL b hb).elim λo a3=>a3.elim λe n=>⟨o,N.old b o e,n⟩) ⟨⟨ok.ok,ok.d1,ok.d2,ok.d3,ok.n1,ok.n2,by omega,λe O=>by have:=ok.ln e O;omega⟩,hv,by omega⟩ ok.ln o2 kn
inductive Vn:Sp where
 | mk {H:Hp}{Q:VK}{E:XK}{x:Str} (_:x.length<=90000) (_:∀H',ac H H'->Q (.bl (gT x)) H'):Vn [.str x] H Q E
theorem aqg:aN [ayL] [ayL] (av Iu):=aU
theorem Vo(j:Pg K mg base Pt):aA P w K mg base aJ 1 j.IsN.f j.IsN.fd [ayL] Vn:=by
 obtain⟨t8,O⟩:=j.K0.let8;refine j.IsN.u.okL aqg ?_;intro au A outer s H vs Q E hr h xX dX;obtain @⟨_,_,_,x,hx,q⟩:=h;refine⟨_,(al (aQ (qE (Fe qI Bl aj (cr Fu (by rfl) j.B.len fc (aq (pv 0))) (tu (v:=.int 8) (by rfl) O ⟨_,rfl⟩))
  (qD (cr (QW K) (by rfl) j.B.all aw1 (aq (fZ ["sign"] [] [] dJ rfl (ah4 (pv 0)) (λ_ _ _ _=>(bf (i:=0) (show List.Nodup (["sign"]:Ls) by decide +kernel) rfl (Or.inl rfl))) (λ_ _ _ _=>fY) (λ_ _ _ _=>(Fe QS QS bO (pv 0) bO))))))))),?_⟩
 refine⟨_,rfl,dL (by omega),⟨⟨?_⟩⟩⟩;refine bj (λh1=>?_) (λh1=>?_)
 . refine⟨⟨?_⟩⟩;refine bj (λh2=>?_) (λh2=>?_)
   . refine⟨x,rfl,?_⟩;refine aih (σ0:=[none]) (λZ=>∃v,Z=[v]) (λc=>.bl (rq aS zS c)) (dL (by show x.length<=_;omega)) ⟨_,rfl⟩ ?_ ?_
     . intro c Z H2 k hc U hs Y;obtain⟨v,rfl⟩:=U;refine⟨_,_,rfl,rfl,⟨?_⟩⟩;have G:=Y [some (.str (rf c))] H2 ⟨_,rfl⟩ (ac.refl _);refine bj (λJ=>?_) (λJ=>?_)
       . refine⟨_,_,rfl,rfl,?_⟩;rw[show rq aS zS c=yY (rf c) zS from am J]at G;exact G
       rw[show rq aS zS c=false from ag J]at G;exact G
     intro D H2 hD hd hs;refine⟨D,_,rfl,aa.of (by rw[hd,ajT]),?_⟩;have:=q H2 hs;unfold gT at this;rw[RR];rw[bE ⟨by have:=cY h1;omega,by have:=cY h2;omega⟩,xI]at this;exact this
   have:=q H (ac.refl _);unfold gT at this;rw[cy (λz=>h2 (bE (by have:=z.2;omega))),Ev]at this;exact this
 refine⟨?_⟩;have:=q H (ac.refl _);unfold gT at this;rw[cy (λz=>h1 (bE (by have:=z.1;omega))),Ev]at this;exact this
inductive Vp:Sp where
 | mk {H:Hp}{Q:VK}{E:XK}{x:Str} (_:x.length<=80000) (_:∀H',ac H H'->Q (.bl (nz x)) H'):Vp [.str x] H Q E
theorem Vq:aN [ayL,"parts"] [ayL] (av Iw):=aU
theorem aqh(j:Pg K mg base Pt):aA P w K mg base aJ 2 j.IsP.f j.IsP.fd [ayL] Vp:=by
 obtain⟨t4,Y⟩:=j.K0.pw4;refine j.IsP.u.okL Vq ?_;intro au A outer s H vs Q E hr h xX dX;obtain @⟨_,_,_,x,hx,q⟩:=h;refine⟨_,(ai (aH (i:=1) Vq.nd rfl (Or.inl rfl) (dH lU M0 M3 B8 (pv 0) (aq bO)))
  (al (aQ (qE (jl Bl (cr fU (by rfl) j.B.len fc (aq (pv 1))) (tu (v:=.int 4) (by rfl) Y ⟨_,rfl⟩) (bC _))
  (qD (cr (QW K) (by rfl) j.B.all aw1 (aq (fZ ["part"] [] [] dJ rfl (cL (pv 1)) (λ_ _ _ _=>(bf (i:=0) (show List.Nodup (["part"]:Ls) by decide +kernel) rfl (Or.inl rfl))) (λ_ _ _ _=>fY) (λ_ _ _ _=>(aB (Vo j) hr rfl (aq (pv 0)))))))))))),?_⟩
 refine lq ?_;intro dD sS dZ;refine⟨rfl,x,lE,rfl,rfl,by decide +kernel,dL (by omega),λl H1 n1 U e1=>?_⟩;refine⟨l,_,rfl,.inl (aa.of e1),⟨⟨?_⟩⟩⟩;refine bj (λh1=>?_) (λh1=>?_)
 . refine⟨⟨_,aa.of e1⟩,?_⟩;refine vT (σ0:=[none]) (aa.of e1) (λZ=>∃v,Z=[v]) (((Txt.split x lE).map gT).map V.bl) (by rw[ak,ak,ak]) (dL (by rw[ak];have:=split_le x lE;omega)) ⟨_,rfl⟩ ?_ ?_
   . intro i z y Z H2 k hz O hQ hs hk;obtain⟨v,rfl⟩:=hQ;obtain⟨p,J,rfl⟩:=ja hz;rw[lR]at O;obtain⟨p',G,rfl⟩:=ja O;rw[J]at G;cases G;refine⟨?_,λH' s'=>hk _ _ ⟨_,rfl⟩ s'⟩;have:=II (cX J);omega
   intro D H2 hD hd hs;refine⟨D,_,rfl,aa.of hd,?_⟩;have:=q H2 (U.trans hs);unfold nz at this;rw[RR];rw[bE (by have:=cY h1;rw[ak]at this;omega),xI]at this;exact this
 have:=q H1 U;unfold nz at this;rw[cy (λz=>h1 (bE (by rw[ak];omega))),Ev]at this;exact this
inductive Vr (j:Addr):Sp where
 | mk {H:Hp}{Q:VK}{E:XK}{x:Str} (_:dR x) (_:x.length<=1000) (_:(nz x=true->∀H',ac H H'->Q .non H')) (_:(nz x=false->∀H',ac H H'->E (.ref j) none H')):Vr j [.str x] H Q E
theorem aqi:aN [ayG] [ayG] (av Ix):=aU
theorem aqj(j:Pg K mg base Pt):aA P w K mg base (mo P w) 3 j.AsP.f j.AsP.fd [ayG] (Vr j.NP):=by
 refine j.AsP.u.okR aqi (λvs H Q E h=>?_) (λY A outer s H vs Q E J h=>?_)
 . cases h;rfl
 obtain @⟨_,_,_,x,ok,l,O,U⟩:=h;refine⟨_,(al (bV (PW.pt (Bc (oq (iM (cr BB (by rfl) j.B.isinstance xT (aI (pv 0) (A9 (v:=.ty "str") rfl j.B.str YE rfl))))) (Bb (oq (iM (aB (aqh j) J rfl (aq (pv 0))))))))
  (al (F8 j.R.eP.xc j.R.mP (qW bO (Q1 (pv 0))))) cZ)),?_⟩
 refine⟨_,_,_,_,rfl,.str _,rfl,⟨?_⟩⟩;refine eW ?_;refine⟨by omega,λH1 G=>⟨?_⟩⟩;cases e:nz x with
 | true=>exact eW (O e H1 G)
 | false=>
  refine fE ?_;have e1:(Str.ofString "no path: ").length=9:=by decide +kernel
  refine⟨iS (by omega),x,rfl,ok,by omega,λz hz=>⟨z,rfl,?_,aG 1,U e H1 G⟩⟩;exact dL (by omega)
inductive Vs:Sp where
 | mk {H:Hp}{Q:VK}{E:XK}{d:Addr}{k:Str}{e:V}{kvs:List (ao×V)} (_:H d=some (.dK kvs)) (_:kvs.length<=500) (_:(e=.non->∀d' H',H d'=none->ac H H'->H' d'=some (.dK (if (bi kvs (.inr k)).isSome=true then oJ kvs (.inr k) else kvs))->Q (.ref d') H')) (_:(e≠.non->∀d' H',H d'=none->ac H H'->H' d'=some (.dK (cQ kvs (.inr k) e))->Q (.ref d') H')):Vs [.ref d,.str k,e] H Q E
theorem Vt:aN ["entries","key","entry","changed"] ["entries","key","entry"] (av Iz):=aU
theorem Vu(G:Pg K mg base Pt):aA P w K mg base aJ 1 G.WEn.f G.WEn.fd ["entries","key","entry"] Vs:=by
 refine G.WEn.u.okL Vt ?_;intro au A outer s H vs Q E hr h xX dX;obtain @⟨_,_,_,d,k,e,kvs,hd,l,j,q2⟩:=h;have Y:=hr.units;refine⟨_,(ai (aH (i:=3) Vt.nd rfl (Or.inl rfl) (eJ vJ (by rfl) G.B.dict AY (aq (pv 0))))
  (ai (bV (bW Fb (pv 2) jW (bC _))
  (al (iR Y (pv 3) (pv 1) (pv 2) rfl)) (al (bV (qC (vD Y (pv 1) (pv 3)) (by rfl))
   (al (bT (Bx (pv 3) (pv 1) ⟨rfl,rfl,rfl,rfl⟩))) cZ)))
  (al (aQ (pv 3))))),?_⟩
 refine⟨d,_,rfl,hd,λO H1 n1 U e1=>?_⟩;refine⟨rfl,⟨?_⟩⟩;refine bj (λh=>?_) (λh=>?_)
 . have ne:e≠.non:=λz=>by rw[z]at h;cases h
   refine⟨fV.k (k:=.inr k) e1 (bP (by omega)),?_⟩;exact⟨q2 ne O _ n1 (dQ U n1) aE⟩
 have en:e=.non:=YK λz=>h (by rw[cy z];rfl);have j:=j en;refine⟨_,cU.k (k:=.inr k) e1,⟨?_⟩⟩;cases J:bi kvs (.inr k) with
 | none=>
  refine eW ⟨j O H1 n1 U (by rw[J];exact e1)⟩
 | some v=>
  refine fE ?_;refine⟨.inl ⟨_,.inl e1⟩,kvs,.inr k,v,e1,rfl,J,?_⟩;exact⟨j O _ n1 (dQ U n1) (by rw[J];exact aE)⟩
variable {xs:Lv}{ps:Lp}
theorem aqk(bk:Bk):∀st:Ls,bG (bk++iJ st)=bG bk:=λst=>by
 unfold bG iJ;rw[M7,dw];have e:(st.map λz=>(DC,z)).filter (λe=>decide (e.1=ik))=[]:=by
  rw[List.filter_eq_nil_iff];intro e j;obtain⟨z,_,rfl⟩:=cE.mp j;exact λh=>absurd (cY h) (show DC≠ik by decide +kernel)
 rw[e];exact lL _
theorem Ky(bk:Bk)(t:Str)(st:Ls):bG (bk++(ik,t)::iJ st++[pK])=bG bk++[t]:=by
 have e:bk++(ik,t)::iJ st=(bk++[(ik,t)])++iJ st:=by rw[kI];rfl
 rw[Kn,ag (show pK.1≠ik by decide +kernel),e,aqk,Kn,am rfl]
theorem aql(bk:Bk):uU (bk++[pK])=true:=by
 unfold uU;rw[YL,awZ,Option.some_or];exact bE rfl
theorem pL.snoc{bk:Bk}{t:Str}(h:pL xs ps (Str.empty::bG bk))(k:∃ch cs ow,ft xs ps t ch cs ow):pL xs ps (Str.empty::(bG bk++[t])):=λy j=>by
 rcases bc.mp j with z | z
 . exact h y (by rw[z];exact bM)
 rcases bR.mp z with z | z
 . exact h y (bY _ z)
 rw[bw.mp z];exact k
theorem aqm(a:Str)(l:Ls)(t:Str):(a::(l++[t])).getLast?=some t:=by
 rw[<-qi,YL];rfl
def pO(bk j:Bk)(t t':Str):Prop:=(t'=t/\j=bk)\/(t'≠t/\bG j=bG bk++[t'])
structure DU(D x dx d b gg Pt:Addr)(xs:Lv)(ps:Lp)(t:Str)(ch:Ch)(cs:Cs)(ow:Ow)(fs:Tr)(bk:Bk)(H:Hp):Prop where
 dk:Dk D x dx d b gg fs bk H
 la:(Str.empty::bG bk).getLast?=some t
 tx:ft xs ps t ch cs ow
 tk:pL xs ps (Str.empty::bG bk)
 up:uU bk=true
 fu:Ai xs ps t fs
 ln:fs.length<=26
 tb:TabSt H Pt fL fq
theorem DU.same{t:Str}{ch:Ch}{cs:Cs}{ow:Ow}{fs:Tr}{bk:Bk}{H H':Hp}(h:DU D x dx d b gg Pt xs ps t ch cs ow fs bk H)(s:ac H H'):DU D x dx d b gg Pt xs ps t ch cs ow fs bk H':=⟨h.dk.same s,h.la,h.tx,h.tk,h.up,h.fu,h.ln,h.tb.same s⟩
theorem DU.busy{t:Str}{ch:Ch}{cs:Cs}{ow:Ow}{fs:Tr}{bk:Bk}{H:Hp}(h:DU D x dx d b gg Pt xs ps t ch cs ow fs bk H):gJ H [x,d,b,Pt]:=h.dk.busy h.tb
def xp(j:V)(x:Addr):List (Str×V):=[(ayC,j),(ayI,.ref x)]
structure HW(Hc C S h bB x:Addr)(sv:V)(xs:Lv)(ps:Lp)(ns:Ls)(R:Hp):Prop where
 ob:R h=some (.ins Hc bB (xp sv x))
 wl:lH C S R sv xs ps ns
theorem HW.same{G:V}{ns:Ls}{R j:Hp}(z:HW Hc C S h bB x G xs ps ns R)(s:ac R j):HW Hc C S h bB x G xs ps ns j:=⟨s _ _ z.ob,z.wl.same s⟩
inductive Vv (C S T D Pt:Addr):Sp where
 | mk {H:Hp}{Q:VK}{E:XK}{J G:V}{x dx d b z:Addr}{fs:Tr}{bk:Bk}{xs:Lv}{ps:Lp}{ns:Ls}{t:Str}{O ch:Ch}{U cs:Cs}{Y ow:Ow} (_:lH C S (msk [x,d,b,Pt] H) J xs ps ns) (_:iE T (msk [x,d,b,Pt] H) G ch cs ow) (_:eE xs ps ch cs ow) (_:DU D x dx d b z Pt xs ps t O U Y fs bk H) (_:bk.length<=300) (_:∀t' aX aL aM cb j H',cK ch aX->cK cs aL->cK ow aM->DU D x dx d b z Pt xs ps t' aX aL aM cb j H'->j.length<=bk.length+10->pO bk j t t'->bX x d b Pt H H'->Q .non H'):Vv C S T D Pt [J,.ref x,G] H Q E
theorem DK{k:Nat}(G:aA P w K mg base aJ k f fd [ayC,ayI,ayT] (Kr C S T D Pt)):aA P w K mg base aJ k f fd [ayC,ayI,ayT] (Vv C S T D Pt):=by
 refine G.imp λvs H Q E h=>?_;obtain @⟨_,_,_,sv,gv,x,dx,d,b,gg,fs,bk,xs,ps,ns,t,xh,ch,xi,cs,xj,ow,hW,hG,so,h,l3,q⟩:=h;refine⟨hW,hG,so,h.dk,h.ln,l3,h.tk,h.tb,λt' H' j hl J k tb=>?_,λt' cb st H' j ng J a0 fu l8 k tb=>?_⟩
 . obtain⟨aX,aL,aM,U,Y,r3,O⟩:=j;rw[h.la]at hl;cases hl;exact q t aX aL aM fs bk H' U Y r3 ⟨J,h.la,O,h.tk,h.up,h.fu,h.ln,tb⟩ (Nat.le_add_right _ _) (.inl ⟨rfl,rfl⟩) k
 obtain⟨aX,aL,aM,U,Y,r3,O⟩:=id j;refine q t' aX aL aM cb _ H' U Y r3 ⟨J,by rw[Ky];exact aqm _ _ _,O,by rw[Ky];exact pL.snoc h.tk j.ok,aql _,fu,a0,tb⟩ ?_ (.inr ⟨λz=>ng (by rw[h.la,z]),Ky _ _ _⟩) k;rw[bI,bI,bU,je];unfold iJ;rw[ak];omega
inductive Kz (Hc:Addr):Sp where
 | mk {H:Hp}{Q:VK}{E:XK}{h j x:Addr}{z:V} (_:H h=some (.ins Hc j [])) (_:∀H',H' h=some (.ins Hc j (xp z x))->(∀p o,H p=some o->p≠h->H' p=some o)->Q .non H'):Kz Hc [.ref h,z,.ref x] H Q E
theorem aqo:aN [ayy,ayC,ayI] [ayy,ayC,ayI] (av wg):=aU
theorem aqp(j:Pg K mg base Pt):aA P w K mg base aJ 1 j.HIn.f j.HIn.fd [ayy,ayC,ayI] (Kz j.Hc):=by
 refine j.HIn.u.okL aqo ?_;intro J G outer s H vs Q E Y h xX U;obtain @⟨_,_,_,h,O,x,sv,z,q⟩:=h;refine⟨_,(ai (iP (pv 0) (pv 1) rfl)
  (al (iP (pv 0) (pv 2) rfl))),?_⟩
 refine⟨z,j.UH.cl,j.UH.nS,by decide,?_⟩;refine⟨aE,j.UH.cl,j.UH.nD,by show 1<1000;decide,?_⟩;exact q _ aE λp o e n=>aD (aD e n) n
inductive Vw (Hc D:Addr):Sp where
 | mk {H:Hp}{Q:VK}{E:XK}{h j x dx d b z:Addr}{G:V}{fs:Tr}{bk:Bk} (_:H h=some (.ins Hc j (xp G x))) (_:Dk D x dx d b z fs bk H) (_:∀H',ac H H'->Q (.bl (uU bk)) H'):Vw Hc D [.ref h] H Q E
theorem aqq:aN [ayy] [ayy] (av wj):=aU
theorem aqr(j:Pg K mg base Pt):aA P w K mg base aJ 6 j.HUp.f j.HUp.fd [ayy] (Vw j.Hc j.D):=by
 refine j.HUp.u.okL aqq ?_;intro au Y outer s H vs Q E U h xX dX;obtain @⟨_,_,_,h,bB,x,dx,d,b,gg,sv,fs,bk,O,z,q⟩:=h;obtain⟨tb,G,J⟩:=id z.bo;exact⟨_,(al (aQ (aB (aoY j) U rfl (aq (bK (pv 0) rfl))))),O,j.UH.cl,j.UH.nD,rfl,z.ob,G,J,z.bt,q⟩
inductive KA (Hc T D Pt:Addr):Sp where
 | mk {H:Hp}{Q:VK}{E:XK}{h j x dx d b z:Addr}{G:V}{fs:Tr}{bk:Bk}{xs:Lv}{ps:Lp}{t:Str}{ch:Ch}{cs:Cs}{ow:Ow} (_:H h=some (.ins Hc j (xp G x))) (_:DU D x dx d b z Pt xs ps t ch cs ow fs bk H) (_:bk.length<=500) (_:∀v H',ac H H'->(∀L,gJ H L->iE T (msk L H') v ch cs ow)->Q v H'):KA Hc T D Pt [.ref h] H Q E
theorem aqs:aN [ayy] [ayy] (av wk):=aU
theorem xq(j:Pg K mg base Pt):aA P w K mg base aJ 6 j.HSt.f j.HSt.fd [ayy] (KA j.Hc j.T j.D Pt):=by
 refine j.HSt.u.okL aqs ?_;intro au Ar outer s H vs Q E U h xX dX;obtain @⟨_,_,_,h,bB,x,dx,d,b,gg,sv,fs,bk,xs,ps,t,ch,cs,ow,O,z,Y,q⟩:=h;obtain⟨tb,G,J⟩:=id z.dk.bo;exact⟨_,(al (aQ (aB (UW j) U rfl (aq (bK (pv 0) rfl))))),O,j.UH.cl,j.UH.nD,rfl,z.dk.ob,G,J,Y,z.la,z.tx,q⟩
theorem aqt:aN [ayy] [ayy] (av wn):=aU
theorem KC(j:Pg K mg base Pt):aA P w K mg base aJ 7 j.HSK.f j.HSK.fd [ayy] (KA j.Hc j.T j.D Pt):=by
 refine j.HSK.u.okL aqt ?_;intro au Ar outer s H vs Q E O h xX dX;obtain @⟨_,_,_,h,bB,x,dx,d,b,gg,sv,fs,bk,xs,ps,t,ch,cs,ow,G,J,l5,q⟩:=h;refine⟨_,(ai (bV (oq (iM (fh (pv 0) j.UH.cl j.UH.mUp (up (aqr j)) O j.HUp.b .nil cG)))
  (al Nw) cZ)
  (al (aQ (fh (pv 0) j.UH.cl j.UH.mSt (up (xq j)) O j.HSt.b .nil cG)))),?_⟩
 refine⟨G,rfl,G,J.dk,λH1 z=>⟨?_⟩⟩;rw[J.up];refine eW ?_;exact⟨z _ _ G,rfl,z _ _ G,J.same z,l5,λv H' s' hv=>q v H' (z.trans s') λL Y=>hv L λb hb=>(Y b hb).elim λo U=>U.elim λe n=>⟨o,z _ _ e,n⟩⟩
inductive DL (Hc C S T D Pt:Addr):Sp where
 | mk {H:Hp}{Q:VK}{E:XK}{h G x dx d b z c g o:Addr}{J:V}{fs:Tr}{bk:Bk}{xs:Lv}{ps:Lp}{ns:Ls}{t:Str}{O ch:Ch}{U cs:Cs}{Y ow:Ow} (_:HW Hc C S h G x J xs ps ns (msk [x,d,b,Pt] H)) (_:DU D x dx d b z Pt xs ps t O U Y fs bk H) (_:bk.length<=300) (_:dj H c ch) (_:pq H g cs) (_:mw H o ow) (_:eE xs ps ch cs ow) (_:∀t' aX aL aM cb j H',cK ch aX->cK cs aL->cK ow aM->DU D x dx d b z Pt xs ps t' aX aL aM cb j H'->j.length<=bk.length+10->pO bk j t t'->bX x d b Pt H H'->Q .non H'):DL Hc C S T D Pt [.ref h,.ref c,.ref g,.ref o] H Q E
theorem aqv:aN [ayy,ayH,ayN,ayW] [ayy,ayH,ayN,ayW] (av wo):=aU
theorem Vx(j:Pg K mg base Pt):aA P w K mg base aJ 9 j.HGo.f j.HGo.fd [ayy,ayH,ayN,ayW] (DL j.Hc j.C j.S j.T j.D Pt):=by
 refine j.HGo.u.okL aqv ?_;intro au Ar outer s H vs Q E Y h xX dX;obtain @⟨_,_,_,h,bB,x,dx,d,b,gg,c,g,o,sv,fs,bk,xs,ps,ns,t,xh,ch,xi,cs,xj,ow,O,J,l3,hc,hg,ho,G,q⟩:=h;refine⟨_,(al (bT (aB (DK (DE j)) Y rfl (dv (bK (pv 0) rfl) (bK (pv 0) rfl) (tJ j.MTIn (up (CJ j)) Y rfl j.UT.mgC j.TIn.b .nil cG (dv (pv 1) (pv 2) (pv 3))))))),?_⟩;have U:=aV _ _ O.ob;refine⟨U,j.UH.cl,j.UH.nS,rfl,U,j.UH.cl,j.UH.nD,rfl,⟨⟨⟨?_⟩⟩⟩⟩;refine CK (T:=j.T) hc hg ho G.ok.d3 (by have:=G.o2;omega) λgx H1 ng z dA=>?_;refine⟨O.wl.same (di z),dA _ J.busy,G,J.same z,l3,λt' aX aL aM cb bh H' r1 r2 r3 jd ll nd k=>?_⟩;exact q t' aX aL aM cb bh H' r1 r2 r3 jd ll nd ((bX.of z).trans k)
end
section
open Lcp
variable {ow:Ow}{p:Str}{ps:Lp}{ch:Ch}
seal PE PS cg PA PT PW PG fM PI fF
def DM(ps:Lp)(ch:Ch)(p:Str)(j:Ls):Prop:=∃px bg,Do ps ch px/\ky (fo px) bg/\j=(look bg p).getD []
def pP(ow:Ow)(p:Str)(j ls:Ls):Ow:=if ls=j then ii ow p else bN ow p (j,ls)
theorem Vy{e:Str×(Ls×Ls)}(h:e∈ii ow p):e∈ow:=(mH.mp h).1
theorem eE.drop{xs:Lv}{cs:Cs}(h:eE xs ps ch cs ow)(p:Str):eE xs ps ch cs (ii ow p):=
 have l:(ii ow p).length<=ow.length:=qk _ _
 ⟨⟨⟨h.ok.ok.ch,h.ok.ok.cs,λe j=>h.ok.ok.ow e (Vy j)⟩,h.ok.d1,h.ok.d2,h.ok.d3.sublist (EN.map _),h.ok.n1,h.ok.n2,b8 l h.ok.n3,λe j=>h.ok.ln e (Vy j)⟩,h.va,b8 l h.o2⟩
theorem eE.put{xs:Lv}{cs:Cs}(h:eE xs ps ch cs ow){j ls:Ls}(J:dW p)(h1:∀x∈j,gL x)(h2:∀x∈ls,gL x)(O:j.length<=20)(U:ls.length<=20)(Y:ow.length<=9):eE xs ps ch cs (bN ow p (j,ls)):=
 have l:(bN ow p (j,ls)).length<=10:=b8 (jE _ _ _) (M6 Y)
 ⟨⟨⟨h.ok.ok.ch,h.ok.ok.cs,λe G=>(kf G).elim (λz=>by rw[z];exact⟨J,h1,h2⟩) (h.ok.ok.ow e)⟩,h.ok.d1,h.ok.d2,ki h.ok.d3,h.ok.n1,h.ok.n2,l,λe G=>(kf G).elim (λz=>by rw[z];exact⟨O,U⟩) (h.ok.ln e)⟩,h.va,l⟩
theorem DM.ok{ns:Ls}{j:Ls}(z:Apart ns ps)(h:DM ps ch p j):(∀x∈j,gL x)/\j.length<=4:=by
 obtain⟨px,bg,x,g,rfl⟩:=h;cases e:look bg p with
 | none=>exact⟨(λ_ h=>nomatch h),dF _⟩
 | some ls=>
  obtain⟨q,J,G⟩:=vo.mp (g.sub _ (nJ e));obtain⟨_,a,b⟩:=(z.ok q (x.mm q J).1).2.1 _ G;exact⟨a,b⟩
theorem Vz{K:Fg}{H:Hp}{ls:Ls}(h:H l=some (.lst (ls.map V.str))):DV K H (.ref l) (dS ls):=iT (aa.of h)
def AfE(D x dx d b z Pt:Addr)(xs:Lv)(ps:Lp)(ch:Ch)(cs:Cs)(ow:Ow)(bk:Bk)(G:Str)(H H':Hp):Prop:=∃t aM fs j,cK ow aM/\DU D x dx d b z Pt xs ps t ch cs aM fs j H'/\j.length<=bk.length+10/\pO bk j G t/\bX x d b Pt H H'
theorem aqx{H H':Hp}{kvs:List (ao×V)}{tr:Tr}(h:Paired (dn H H') kvs tr)(nd:(tr.map (·.1)).Nodup)(J:H l=none)(G:H' l=some (.lst [])):∃q,(bi kvs (.inr p)).getD (.ref l)=.ref q/\H q=none/\H' q=some (.lst (((look tr p).getD []).map V.str)):=by
 by_cases j:p∈tr.map (·.1)
 . obtain⟨v,ls,e,m,_,q,e2,n,z⟩:=ph (F:=dn H H') (λkv f z=>z.1) h j;rw[e,uN nd m];exact⟨q,e2,n,z⟩
 rw[yW (F:=dn H H') (λkv f z=>z.1) h j,iG.mpr j];exact⟨l,rfl,J,G⟩
inductive VA (Hc C S D Pt j:Addr):Sp where
 | mk {H:Hp}{Q:VK}{E:XK}{h J x dx d b G l:Addr}{O:V}{fs:Tr}{bk:Bk}{xs:Lv}{ps:Lp}{ns:Ls}{t:Str}{ch:Ch}{cs:Cs}{ow:Ow}{p:Str}{ls:Ls} (_:HW Hc C S h J x O xs ps ns (msk [x,d,b,Pt] H)) (_:DU D x dx d b G Pt xs ps t ch cs ow fs bk H) (_:bk.length<=300) (_:dR p) (_:p.length<=1000) (_:H l=some (.lst (ls.map V.str))) (_:((dW p/\(∀y∈ls,gL y)/\ls.length<=20/\ow.length<=9/\∀z H',DM ps ch p z->AfE D x dx d b G Pt xs ps ch cs (pP ow p z ls) bk t H H'->Q .non H')\/(nz p=false/\∀H',ac H H'->E (.ref j) none H'))):VA Hc C S D Pt j [.ref h,.str p,.ref l] H Q E
theorem DO:aN [ayy,ayG,ayO,ayV,azd,ay2] [ayy,ayG,ayO] (av wp):=aU
theorem aqy(j:Pg K mg base Pt):aA P w K mg base (mo P w) 10 j.HEd.f j.HEd.fd [ayy,ayG,ayO] (VA j.Hc j.C j.S j.D Pt j.NP):=by
 refine j.HEd.u.okR DO (λvs H Q E h=>?_) (λau Ar outer s H vs Q E Y h=>?_)
 . cases h;rfl
 refine qX ?_;intros;obtain @⟨_,_,_,h,bB,x,dx,d,b,gg,l,sv,fs,bk,xs,ps,ns,t,ch,cs,ow,p,ls,hW,G,l3,a8,lp,hl,q⟩:=h;have hu:=Y.units;refine⟨_,(ai (aH (i:=3) DO.nd rfl (Or.inl rfl) (fh (pv 0) j.UH.cl j.UH.mSK (up (KC j)) Y j.HSK.b .nil cG))
  (ai (bT (Hm (aqj j) Y rfl F6 (aq (pv 1))))
  (ai (aH (i:=4) DO.nd rfl (Or.inl rfl) (acY hu (aB (SJ j) Y rfl (aq (aB (Jd j) Y rfl (aI (bK (pv 0) rfl) (bK (pv 3) rfl))))) (pv 1) (dq eI) ⟨rfl,rfl,rfl,rfl⟩))
  (ai (aH (i:=5) DO.nd rfl (Or.inl rfl) (Nr (bW (FH hu) (pv 2) (pv 4) (bC _)) (eX (aI (pv 4) (pv 2))) jW))
  (al (bT (lZ (pv 0) j.UH.cl j.UH.mGo (up (Vx j)) Y j.HGo.b .nil cG (dv (bK (pv 3) rfl) (bK (pv 3) rfl) (aB (Vu j) Y rfl (dv (bK (pv 3) rfl) (pv 1) (pv 5))))))))))),?_⟩
 refine BO ?_;intro dD sS u5 u4 u3 u2;have hh:=aV _ _ hW.ob;refine⟨hh,rfl,hh,G,by omega,λv H1 s1 hv=>?_⟩;refine⟨a8,lp,λU H2 s2=>?_,λU H2 s2=>?_⟩
 . rcases q with⟨pN,a0,a6,l7,q⟩ | ⟨z,_⟩
   . have hv:=hv [x,d,b,Pt] G.busy;obtain⟨va,Ks,Kt,c0,h0,o0,rfl,w1,w2,w3,w4,w5,w6,w7⟩:=(hv.same (di s2)).same aV;have ci:=s1.trans s2;have xr:=ci _ _ hh;have W2:=(hW.wl.same (di ci)).same aV;have cB:eY xs ps ch:=⟨G.tx.so.ok.d1,G.tx.so.va⟩;have c4:=cB.len W2.ap W2.n4;refine⟨xr,j.UH.cl,j.UH.nS,rfl,w1,j.UT.cl,j.UT.nC,w2,?_⟩;refine⟨W2.sh,w5,G.tx.so.va,by omega,λD1 H3 lw px n3 s3 e3 pr pn pc=>?_⟩;have pm:=Jh pr;have dP:px.length<=4:=by
      have e:=pn.length_eq;rw[ak,ak]at e;omega
     have ab:(fo px).length<=12:=by
      have:=SK (b:=3) (ps:=px) λp U=>(W2.pcok p (pm p U)).n3;omega
     refine⟨e3,Jg (W2.pc.same s3) pr,by omega,λd4 H4 kvs bg n4 s4 e4 wG g4=>?_⟩;refine⟨.inl ⟨_,.inl e4⟩,Ab,λl5 H5 n5 s5 e5=>?_⟩;refine⟨_,cU.k (k:=.inr p) (s5 _ _ e4),?_⟩;obtain⟨lb,eb,nb,hb⟩:=aqx (p:=p) (aF wG λkv f a1=>a1.elim λz1 a2=>a2.elim λl a3=>a3.elim λz2 a4=>a4.elim λz3 z4=>⟨z1,l,z2,z3,s5 _ _ z4⟩) g4.nd (s4.free n5) e5;rw[eb];have hB:DM ps ch p ((look bg p).getD []):=⟨px,bg,⟨pn,λq hq=>⟨pm q hq,pc q hq⟩⟩,g4,rfl⟩;obtain⟨bl,b4⟩:=hB.ok W2.ap;generalize (look bg p).getD []=br at hb hB bl b4;have su:=s3.trans (s4.trans s5);have kC:=ci.trans su;have VB:=kC _ _ hl;have a7:∀y∈ls,Ln y:=λy hy=>(a0 y hy).ln;have a5:∀y∈br,Ln y:=λy hy=>(bl y hy).ln;refine⟨dS ls,dS br,Vz VB,Vz hb,tZ 8 a7,tZ 8 a5,λbb lj=>⟨?_⟩⟩;rw[Pq]at lj;obtain⟨ko,o1,o2⟩:=id (w7.same su);have lo:=bv o2;have KD:=su _ _ w1;have hk:∀{R:Hp} kv e,ge R kv e->kv.1=Sum.inr e.1:=λkv e z=>z.1;have go:∀{O:Hp}{o':Addr}{kk:List (ao×V)},ac H5 O->O o'=some (.dK kk)->Paired (ge O) kk (pP ow p br ls)->eE xs ps ch cs (pP ow p br ls)->DL j.Hc j.C j.S j.T j.D Pt [.ref h,.ref c0,.ref h0,.ref o'] O (λ_ H'=>Q .non H') E0:=λ{O o' kk} J e6 Kc a9=>by
      have se:=kC.trans J;have uY:=su.trans J;refine⟨hW.same (di se),G.same se,l3,w5.same uY,w6.same uY,⟨_,e6,Kc⟩,a9,λt' aX aL aM cb bh H' r1 r2 r3 jd ll nd k=>?_⟩;have e1:=cK.eq G.tx.so.ok.d1 r1 G.tx.s1;have e2:=cK.eq G.tx.so.ok.d2 r2 G.tx.s2;subst e1 e2;exact q br H' hB ⟨t',aM,cb,bh,r3,jd,ll,nd,(bX.of se).trans k⟩
     cases bb with
     | true=>
      have el:=lj.mp rfl;refine eW ?_;refine⟨su _ _ xr,rfl,KD,j.UT.cl,j.UT.nC,w2,KD,j.UT.cl,j.UT.nH,w3,?_⟩;refine⟨KD,j.UT.cl,j.UT.nO,w4,o1,by omega,λ_ o' O no J e6=>?_,λz=>absurd rfl z⟩;refine go J e6 ?_ ?_
      . unfold pP;rw[am el];refine aF (F:=ge H5) ?_ λ_ _=>ge.same J
        rcases Dc hk o2 p with⟨_,hs⟩ | ⟨hn,hs⟩
        . rw[am hs];exact zJ hk o2
        rw[hs,zK hn];exact o2
      unfold pP;rw[am el];exact G.tx.so.drop p
     | false=>
      have el:ls≠br:=λz=>by have:=lj.mpr z;cases this
      refine fE ?_;refine⟨An,λtt O n6 J e6=>?_⟩;have uY:=su.trans J;refine⟨uY _ _ xr,rfl,uY _ _ w1,j.UT.cl,j.UT.nC,w2,uY _ _ w1,j.UT.cl,j.UT.nH,w3,?_⟩;refine⟨uY _ _ w1,j.UT.cl,j.UT.nO,w4,J _ _ o1,by omega,(λz=>nomatch z),λ_ o' H7 no s7 e7=>?_⟩;refine go (J.trans s7) e7 ?_ ?_
      . unfold pP;rw[ag el];exact iZ (F:=ge H7) hk ⟨rfl,tt,lb,l,rfl,s7 _ _ e6,(J.trans s7) _ _ hb,(J.trans s7) _ _ VB⟩ (aF o2 λ_ _=>ge.same (J.trans s7))
      unfold pP;rw[ag el];exact G.tx.so.put pN bl a0 (by omega) a6 l7
   rw[z]at U;cases U
 rcases q with⟨pN,_⟩ | ⟨_,q⟩
 . rw[pN.path]at U;cases U
 exact q H2 (s1.trans s2)
end
end K72
namespace L2
section
variable {X:Cx}{e:Expr}{te:TE}{pos:Pos}
def aqH(te:TE):TE:=λZ H Q=>te Z H λx H1=>∃i:Int,x=.int i/\(i = -1\/0<=i/\i<4294967296)/\∀z:Str,z.length<=20000->Q (.str z) H1
theorem aqI(Y:PE X e te):PE X (.FormattedValue e 114 none pos) (aqH te):=by
 intro ad s Z H Q I h;refine awS (thn (Y ad s Z H _ I h) λv s1 G=>aP G λx H1 z r1 J=>J.elim λi O=>O.elim λex U=>U.elim λhi q=>?_);subst ex;obtain⟨t,rfl⟩:=r1;have hh:i.natAbs.log2<1920/\(Str.ofString (toString i)).length<=22:=by
  rcases hi with rfl | ⟨j,n1⟩
  . exact⟨by decide,by decide +kernel⟩
  have:=toString_length_le j (k:=20) (by decide) (by omega);exact⟨aez j n1,by omega⟩
 refine pyReprObj_int hh.1 (Yq (λt' tk=>⟨.str (Str.ofString (toString i)),H1,(z.tok s.toks).tok _,⟨_,rfl⟩,q _ (by omega)⟩) (by rw[sK];omega))
end
end L2
namespace K72
section
open Lcp
seal PE PS cg PA PT PW PG fM PI fF
inductive VC (j:Addr):Sp where
 | mk {H:Hp}{Q:VK}{E:XK}{x:Str} (_:dR x) (_:x.length<=1000) (_:(gT x=true->∀H',ac H H'->Q .non H')) (_:(gT x=false->∀H',ac H H'->E (.ref j) none H')):VC j [.str x] H Q E
theorem aqN:aN [ayE] [ayE] (av Iy):=aU
theorem VD(j:Pg K mg base Pt):aA P w K mg base (mo P w) 3 j.AsN.f j.AsN.fd [ayE] (VC j.NN):=by
 refine j.AsN.u.okR aqN (λvs H Q E h=>?_) (λY A outer s H vs Q E J h=>?_)
 . cases h;rfl
 obtain @⟨_,_,_,x,ok,l,O,U⟩:=h;refine⟨_,(al (bV (PW.pt (Bc (oq (iM (cr BB (by rfl) j.B.isinstance xT (aI (pv 0) (A9 (v:=.ty "str") rfl j.B.str YE rfl))))) (Bb (oq (iM (aB (Vo j) J rfl (aq (pv 0))))))))
  (al (F8 j.R.eN.xc j.R.mN (qW bO (Q1 (pv 0))))) cZ)),?_⟩
 refine⟨_,_,_,_,rfl,.str _,rfl,⟨?_⟩⟩;refine eW ?_;refine⟨by omega,λH1 G=>⟨?_⟩⟩;cases e:gT x with
 | true=>exact eW (O e H1 G)
 | false=>
  refine fE ?_;have e1:(Str.ofString "no name: ").length=9:=by decide +kernel
  refine⟨iS (by omega),x,rfl,ok,by omega,λz hz=>⟨z,rfl,?_,aG 1,U e H1 G⟩⟩;exact dL (by omega)
inductive VE (K:Fg):Sp where
 | mk {H:Hp}{Q:VK}{E:XK}{n:Int}{l:Addr}{zs:Lv} (_:aa K H l zs) (_:Q (.bl (decide (0<=n/\n<zs.length))) H):VE K [.int n,.ref l] H Q E
theorem aqO:aN [ay1,"things"] [ay1,"things"] (av Ho):=aU
theorem aqP(j:Pg K mg base Pt):aA P w K mg base aJ 1 j.IPl.f j.IPl.fd [ay1,"things"] (VE K):=by
 refine j.IPl.u.okL aqO ?_;intro J A outer s H vs Q E U h Y O;obtain @⟨_,_,_,n,l,zs,G,q⟩:=h;refine⟨_,(al (aQ (qE (cr BB (by rfl) j.B.isinstance xT (aI (pv 0) (A9 (v:=.ty "int") rfl j.B.int awV rfl))) (qE (ZC (cr BB (by rfl) j.B.isinstance xT (aI (pv 0) (A9 (v:=.ty "bool") rfl j.B.bool PyProof.Rows.boot_bool rfl)))) (qD (Fe Bl qI aj (pv 0) (cr fU (by rfl) j.B.len fc (aq (pv 1))))))))),?_⟩;refine⟨_,_,_,_,rfl,.int _,rfl,⟨fE ?_⟩⟩;refine⟨_,_,_,_,rfl,.int _,rfl,⟨⟨fE ?_⟩⟩⟩;refine⟨⟨⟨bj (λh=>?_) (λh=>?_)⟩⟩⟩
 . have h:=cY h;refine⟨l,_,rfl,.inl G,⟨?_⟩⟩;have e:decide (0<=n/\n<zs.length)=decide (n<(zs.length:Int)):=xN.mpr ⟨λz=>z.2,λz=>⟨h,z⟩⟩;rw[e]at q;exact q
 have e:decide (0<=n/\n<zs.length)=false:=cy λz=>h (bE z.1);rw[e]at q;exact q
inductive VF (D T:Addr):Sp where
 | mk {H:Hp}{Q:VK}{E:XK}{x dx d b:Addr}{v:V}{tb:Lv}{bk:Bk}{xs:Lv}{ps:Lp} (_:H x=some (.ins D dx (gz d b v))) (_:H b=some (.lst tb)) (_:Paired (jN H) tb bk) (_:bk.length<=500) (_:pL xs ps (Str.empty::bG bk)) (_:∀l zs H',H l=none->ac H H'->H' l=some (.lst zs)->(∀L,gJ H L->Paired (uV xs ps T (msk (l::L) H')) zs (Str.empty::bG bk))->Q (.ref l) H'):VF D T [.ref x] H Q E
theorem aqQ:aN [ayI] [ayI] (av Hq):=aU
theorem aqR(G:Pg K mg base Pt):aA P w K mg base aJ 5 G.FoO.f G.FoO.fd [ayI] (VF G.D G.T):=by
 refine G.FoO.u.okL aqQ ?_;intro au A outer s H vs Q E hr h xX dX;obtain @⟨_,_,_,x,dx,d,b,v,tb,bk,xs,ps,hx,hb,pb,pE,tok,q⟩:=h;refine⟨_,(al (aQ (fZ [ayL] [] [] dJ rfl (cL (aB (UR G) hr rfl (aq (pv 0)))) (λ_ _ _ _=>(bf (i:=0) (show List.Nodup ([ayL]:Ls) by decide +kernel) rfl (Or.inl rfl))) (λ_ _ _ _=>fY) (λ_ _ _ _=>(aB (Sk G) hr rfl (aq (pv 0))))))),?_⟩;refine⟨hx,hb,pb,pE,λr H1 n1 s1 e1=>⟨⟨_,aa.of e1⟩,?_⟩⟩;have bl:(bG bk).length<=500:=by
  unfold bG;rw[ak];exact b8 (qk _ _) pE
 generalize a0:Str.empty::bG bk=ts at e1 tok q;have tl:ts.length<=501:=by rw[<-a0,bU];omega
 intro Y jd;refine C0 (σ0:=[none]) jd (aa.of e1) (λZ=>∃u,Z=[u]) (λj zs Hx=>zs.length=j/\∀L,gJ H L->Paired (uV xs ps G.T (msk (Y::L) Hx)) zs (ts.take j)) ⟨_,rfl⟩ ⟨rfl,λ_ _=>.nil⟩ ?_ ?_
 . rintro j y zs Z H3 k O ⟨u,rfl⟩ cV h3 ⟨zl,U⟩ hk;rw[dG]at O;cases J:ts[j]? with
   | none=>rw[J]at O;cases O
   | some t=>
    rw[J]at O;cases O;obtain⟨ch,cs,ow,hT⟩:=tok t (cX J);have aO:=(cT.mp J).1;refine⟨hT.not λv H4 s4 hv=>?_⟩;refine hk _ _ _ ⟨_,rfl⟩ s4 (bP (by omega)) ⟨by rw[bI,zl];rfl,λL hL=>?_⟩;rw[yT bM,mC J];refine jq ⟨ch,cs,ow,hv (Y::L) λb hb=>?_,hT⟩ (aF (U L hL) λ_ _=>uV.same (di s4))
    rcases bc.mp hb with e | hb
    . rw[e];exact⟨_,cV,by intro vs z;cases z⟩
    obtain⟨o,eo,no⟩:=hL b hb;exact⟨o,(s1.trans h3) _ _ eo,no⟩
 rintro zs H3 cV h3 ⟨_,U⟩;rw[ak,fb]at U;exact q Y zs H3 (s1.free jd) (s1.trans h3) cV U
inductive VG (Hc T D:Addr):Sp where
 | mk {H:Hp}{Q:VK}{E:XK}{h j x dx d b z:Addr}{G:V}{fs:Tr}{bk:Bk}{xs:Lv}{ps:Lp} (_:H h=some (.ins Hc j (xp G x))) (_:Dk D x dx d b z fs bk H) (_:bk.length<=500) (_:pL xs ps (Str.empty::bG bk)) (_:∀l zs H',H l=none->ac H H'->H' l=some (.lst zs)->(∀L,gJ H L->Paired (uV xs ps T (msk (l::L) H')) zs (Str.empty::bG bk))->Q (.ref l) H'):VG Hc T D [.ref h] H Q E
theorem aqT:aN [ayy] [ayy] (av wm):=aU
theorem DP(j:Pg K mg base Pt):aA P w K mg base aJ 6 j.HFo.f j.HFo.fd [ayy] (VG j.Hc j.T j.D):=by
 refine j.HFo.u.okL aqT ?_;intro au Ar outer s H vs Q E U h xX dX;obtain @⟨_,_,_,h,bB,x,dx,d,b,gg,sv,fs,bk,xs,ps,O,z,Y,tok,q⟩:=h;obtain⟨tb,G,J⟩:=id z.bo;exact⟨_,(al (aQ (aB (aqR j) U rfl (aq (bK (pv 0) rfl))))),O,j.UH.cl,j.UH.nD,rfl,z.ob,G,J,Y,tok,q⟩
def uZ(cs:Cs)(c:Str):V->Cs
 | .str n=>bN cs c n
 | _=>ii cs c
theorem eE.cho{xs:Lv}{ps:Lp}{ch:Ch}{cs aL:Cs}{ow:Ow}(h:eE xs ps ch cs ow)(nd:(aL.map (·.1)).Nodup)(z:aL.length<=4)(j:∀e∈aL,bQ e.1/\bQ e.2):eE xs ps ch aL ow:=⟨⟨⟨h.ok.ok.ch,j,h.ok.ok.ow⟩,h.ok.d1,nd,h.ok.d3,h.ok.n1,z,h.ok.n3,h.ok.ln⟩,h.va,h.o2⟩
def AfC(D x dx d b z Pt:Addr)(xs:Lv)(ps:Lp)(ch:Ch)(cs:Cs)(ow:Ow)(bk:Bk)(G:Str)(H H':Hp):Prop:=∃t aL fs j,cK cs aL/\DU D x dx d b z Pt xs ps t ch aL ow fs j H'/\j.length<=bk.length+10/\pO bk j G t/\bX x d b Pt H H'
inductive VH (Hc C S D Pt j:Addr):Sp where
 | mk {H:Hp}{Q:VK}{E:XK}{h G x dx d b z:Addr}{J nv:V}{fs:Tr}{bk:Bk}{xs:Lv}{ps:Lp}{ns:Ls}{t:Str}{ch:Ch}{cs:Cs}{ow:Ow}{c:Str} (_:HW Hc C S h G x J xs ps ns (msk [x,d,b,Pt] H)) (_:DU D x dx d b z Pt xs ps t ch cs ow fs bk H) (_:bk.length<=300) (_:dR c) (_:c.length<=1000) (_:nv=.non\/∃n,nv=.str n/\dR n/\n.length<=1000)
  (_:(gT c=true/\(∀n,nv=.str n->gT n=true)/\eE xs ps ch (uZ cs c nv) ow/\∀H',AfC D x dx d b z Pt xs ps ch (uZ cs c nv) ow bk t H H'->Q .non H')\/((gT c=false\/∃n,nv=.str n/\gT n=false)/\∀H',ac H H'->E (.ref j) none H')):VH Hc C S D Pt j [.ref h,.str c,nv] H Q E
theorem VI:aN [ayy,ayZ,ayE,ayV] [ayy,ayZ,ayE] (av wq):=aU
theorem DQ(j:Pg K mg base Pt):aA P w K mg base (mo P w) 10 j.HCh.f j.HCh.fd [ayy,ayZ,ayE] (VH j.Hc j.C j.S j.D Pt j.NN):=by
 refine j.HCh.u.okR VI (λvs H Q E h=>?_) (λau Ar outer s H vs Q E Y h=>?_)
 . cases h;rfl
 refine qX ?_;intros;obtain @⟨_,_,_,h,bB,x,dx,d,b,gg,sv,nv,fs,bk,xs,ps,ns,t,ch,cs,ow,c,hW,J,l3,a0,lc,hn,q⟩:=h;refine⟨_,(ai (aH (i:=3) VI.nd rfl (Or.inl rfl) (fh (pv 0) j.UH.cl j.UH.mSK (up (KC j)) Y j.HSK.b .nil cG))
  (ai (bT (Hm (VD j) Y rfl F6 (aq (pv 1))))
  (yA (bV (bW Fb (pv 2) jW (bC _))
  (al (bT (Hm (VD j) Y rfl F6 (aq (pv 2))))) cZ)
  (al (bT (lZ (pv 0) j.UH.cl j.UH.mGo (up (Vx j)) Y j.HGo.b .nil cG (dv (bK (pv 3) rfl) (aB (Vu j) Y rfl (dv (bK (pv 3) rfl) (pv 1) (pv 2))) (bK (pv 3) rfl)))))))),?_⟩
 refine jA ?_;intro dD sS u3 u2;have hh:=aV _ _ hW.ob;refine⟨hh,rfl,hh,J,by omega,λv H1 s1 hv=>?_⟩;refine⟨a0,lc,λU H2 s2=>?_,λU H2 s2=>?_⟩
 . refine⟨λσ' H3=>σ'=[some (.ref h),some (.str c),some nv,some v]/\ac H2 H3/\∀n,nv=.str n->gT n=true,?_,?_⟩
   . refine⟨rfl,⟨?_⟩⟩;refine bj (λh=>?_) (λh=>?_)
     . rcases hn with z | ⟨n,rfl,a1,ln⟩
       . rw[z]at h;cases h
       refine⟨a1,ln,λqM H3 s3=>⟨rfl,s3,λm e=>by cases e;exact qM⟩,λqM H3 s3=>?_⟩
       rcases q with⟨_,z,_⟩ | ⟨_,q⟩
       . rw[z n rfl]at qM;cases qM
       exact q H3 (s1.trans (s2.trans s3))
     refine⟨rfl,ac.refl _,λn e=>?_⟩;exact absurd (show(!decide (nv=V.non))=true by rw[e];rfl) h
   rintro σ' H3 ⟨rfl,s3,DR⟩;have hv:=hv [x,d,b,Pt] J.busy;obtain⟨va,Ks,Kt,c0,h0,o0,rfl,w1,w2,w3,w4,w5,w6,w7⟩:=(hv.same (di (s2.trans s3))).same aV;have d6:=s1.trans (s2.trans s3);have xu:=d6 _ _ hh;obtain⟨ko,o1,o2⟩:=id w6;have lo:=bv o2;have o8:=J.tx.so.ok.n2;have hk:∀kv e,iD kv e->kv.1=Sum.inr e.1:=λkv e z=>z.1
   rcases q with⟨_,_,KG,q⟩ | ⟨z,_⟩
   . have go:∀{O:Hp}{d':Addr}{kk:List (ao×V)},ac H3 O->O d'=some (.dK kk)->Paired iD kk (uZ cs c nv)->DL j.Hc j.C j.S j.T j.D Pt [.ref h,.ref c0,.ref d',.ref o0] O (λ_ H'=>Q .non H') E0:=λ{O d' kk} G e4 pr=>by
      have mz:=d6.trans G;refine⟨hW.same (di mz),J.same mz,l3,w5.same G,⟨_,e4,pr⟩,w7.same G,KG,λt' aX aL aM cb bh H' r1 r2 r3 jd ll nd k=>?_⟩;have e1:=cK.eq J.tx.so.ok.d1 r1 J.tx.s1;have e3:=cK.eq J.tx.so.ok.d3 r3 J.tx.s3;subst e1 e3;exact q H' ⟨t',aL,cb,bh,r2,jd,ll,nd,(bX.of mz).trans k⟩
     refine⟨xu,rfl,w1,j.UT.cl,j.UT.nC,w2,w1,j.UT.cl,j.UT.nH,w3,o1,by omega,λen d' O nd G e4=>?_,λen d' O nd G e4=>?_⟩
     . refine⟨G _ _ w1,j.UT.cl,j.UT.nO,w4,go G e4 ?_⟩;rw[en];show Paired iD _ (ii cs c)
       rcases Dc hk o2 c with⟨_,hs⟩ | ⟨gP,hs⟩
       . rw[am hs];exact zJ hk o2
       rw[hs,zK gP];exact o2
     refine⟨G _ _ w1,j.UT.cl,j.UT.nO,w4,go G e4 ?_⟩
     rcases hn with z | ⟨n,rfl,_,_⟩
     . exact absurd z en
     exact iZ (F:=iD) hk ⟨rfl,rfl⟩ o2
   rcases z with z | ⟨n,e,z⟩
   . rw[z]at U;cases U
   rw[DR n e]at z;cases z
 rcases q with⟨z,_⟩ | ⟨_,q⟩
 . rw[z]at U;cases U
 exact q H2 (s1.trans s2)
inductive VJ (Hc C S D Pt G:Addr):Sp where
 | mk {H:Hp}{Q:VK}{E:XK}{h O x dx d b J:Addr}{U:V}{fs:Tr}{bk:Bk}{xs:Lv}{ps:Lp}{ns:Ls}{t:Str}{ch:Ch}{cs:Cs}{ow:Ow}{n:Int} (_:HW Hc C S h O x U xs ps ns (msk [x,d,b,Pt] H)) (_:DU D x dx d b J Pt xs ps t ch cs ow fs bk H) (_:bk.length<=300) (_:n = -1\/0<=n/\n<4294967296)
  (_:(∃z,0<=n/\(Str.empty::bG bk)[n.toNat]?=some z/\∀aX aL aM cb j H',DU D x dx d b J Pt xs ps z aX aL aM cb j H'->j.length<=bk.length+10->pO bk j t z->bX x d b Pt H H'->Q .non H')\/((n<0\/(Str.empty::bG bk).length<=n)/\∀H',ac H H'->E (.ref G) none H')):VJ Hc C S D Pt G [.ref h,.int n] H Q E
theorem VL:aN [ayy,ay1,"formers"] [ayy,ay1] (av wt):=aU
theorem VM(j:Pg K mg base Pt):aA P w K mg base (mo P w) 10 j.HBa.f j.HBa.fd [ayy,ay1] (VJ j.Hc j.C j.S j.D Pt j.NF):=by
 refine j.HBa.u.okR VL (λvs H Q E h=>?_) (λau Ar outer s H vs Q E hr h=>?_)
 . cases h;rfl
 refine qX ?_;intros;obtain @⟨_,_,_,h,bB,x,dx,d,b,gg,sv,fs,bk,xs,ps,ns,t,ch,cs,ow,n,hW,J,l3,a1,q⟩:=h;refine⟨_,(ai (bT (fh (pv 0) j.UH.cl j.UH.mSK (up (KC j)) hr j.HSK.b .nil cG))
  (ai (aH (i:=2) VL.nd rfl (Or.inl rfl) (fh (pv 0) j.UH.cl j.UH.mFo (up (DP j)) hr j.HFo.b .nil cG))
  (ai (bV (oq (iM (aB (aqP j) hr rfl (aI (pv 1) (pv 2)))))
  (al (F8 j.R.eO.xc j.R.mO (qW bO (aqI (pv 1))))) cZ)
  (al (bT (aB (DK (DE j)) hr rfl (dv (bK (pv 0) rfl) (bK (pv 0) rfl) (bA eR (pv 2) (pv 1) (λ_ _=>rfl))))))))),?_⟩
 refine jB ?_;intro dD sS u4 u3 u2;have O:=aV _ _ hW.ob;refine⟨O,rfl,O,J,by omega,λv H1 U hv=>?_⟩;refine⟨U _ _ O,rfl,U _ _ O,J.dk.same U,by omega,J.tk,λl zs H2 n2 s2 e2 pr=>?_⟩;have Y:=U.trans s2;have pl:=bv (pr [] λb z=>nomatch z);refine⟨aa.of e2,⟨?_⟩⟩
 rcases q with⟨tn,n0,hn,q⟩ | ⟨hb,q⟩
 . have aO:=(cT.mp hn).1;rw[show decide (0<=n/\n<zs.length)=true from bE ⟨n0,by omega⟩];refine eW ?_;have a0:gJ H1 [x,d,b,Pt]:=(J.same U).busy;obtain⟨fv,hz,aX,aL,aM,dA,G⟩:=yU (pr _ a0) hn;have at':cu zs n=some fv:=by
    have:=Bt hz
    rwa [Int.toNat_of_nonneg n0]at this
   have xr:=Y _ _ O;refine⟨xr,j.UH.cl,j.UH.nS,rfl,xr,j.UH.cl,j.UH.nD,rfl,aa.of e2,at',?_⟩;refine⟨hW.wl.same (di Y),dA.same (Ci (by simp)),G.so,J.same Y,l3,λt' DS DT DW cb bh H' r1 r2 r3 jd ll nd k=>?_⟩;have e1:=cK.eq G.so.ok.d1 r1 G.s1;have KH:=cK.eq G.so.ok.d2 r2 G.s2;have e3:=cK.eq G.so.ok.d3 r3 G.s3;subst e1 KH e3;have et:t'=tn:=jd.tx.tx.trans G.tx.symm;subst et;exact q _ _ _ _ _ H' jd ll nd ((bX.of Y).trans k)
 rw[show decide (0<=n/\n<zs.length)=false from cy λz=>by omega];refine fE ?_;have e1:(Str.ofString "no former stand ").length=16:=by decide +kernel
 refine⟨iS (by omega),n,rfl,a1,λz hz=>⟨z,rfl,?_,aG 1,q H2 Y⟩⟩;exact dL (by omega)
end
section
seal PE PS cg PA PT PW PG fM PI fF
def VN:Ls:=["","A","abcdefghi","a b"]
theorem aqZ:∀z∈VN,gT z=false/\dR z/\z.length<=1000:=by decide +kernel
inductive VO (Hc C S D Pt:Addr):Sp where
 | mk {H:Hp}{Q:VK}{E:XK}{h z x dx d b G j:Addr}{J:V}{fs:Tr}{bk:Bk}{xs:Lv}{ps:Lp}{ns:Ls}{t:Str}{ch:Ch}{cs:Cs}{ow:Ow}{c:Int} (_:HW Hc C S h z x J xs ps ns (msk [x,d,b,Pt] H)) (_:DU D x dx d b G Pt xs ps t ch cs ow fs bk H) (_:bk.length<=300) (_:H j=some (.lst (ns.map V.str))) (_:1<=ns.length) (_:∀H',ac H H'->Q (.bl true) H'):VO Hc C S D Pt [.ref h,.ref j,.int c] H Q E
theorem xv:aN [ayQ,ayA,ayz,"_law_error","_law_bad",ay8,"e"] [ayQ,ayA,ayz] (av IA):=aU
theorem aq0(j:Pg K mg base Pt):aA P w K mg base aJ 11 j.LRe.f j.LRe.fd [ayQ,ayA,ayz] (VO j.Hc j.C j.S j.D Pt):=by
 refine j.LRe.u.okL xv ?_;intro au Ar outer s H vs Q E hr h xX dX;obtain @⟨_,_,_,h,bB,x,dx,d,b,gg,nA,sv,fs,bk,xs,ps,ns,t,ch,cs,ow,c,hW,hD,l3,hN,n1,q⟩:=h;refine⟨_,(ai (aH (i:=3) xv.nd rfl (Or.inl rfl) jW)
  (ai (aH (i:=4) xv.nd rfl (Or.inl rfl) (bA eR (dq (vN bO bO bO bO)) (aw bZ (aw ff (pv 2) aj) aj) (λ_ _=>rfl)))
  (ai (aH (i:=5) xv.nd rfl (Or.inl rfl) (jl Bm (aw bZ (aw ff (pv 2) aj) aj) aj (bC _)))
  (yA (agq (i:=6) xv.nd rfl rfl rfl rfl j.R.mM rfl (λXE pn E hp=>al (bV (bW fC (aw bZ (aw ff (pv 2) aj) aj) aj (bC _))
   (al (bT (BS (pv 0) j.UH.cl j.UH.mBa (up (VM j)) hr j.HBa.b .nil hp (aq (bA (vI K) (dq (dv (qG qH aj) (cr (Pz K) (by rfl) j.B.len fc (aq (fh (pv 0) j.UH.cl j.UH.mFo (up (DP j)) hr j.HFo.b .nil cG))) (aw Bi aj aj))) (aw bZ (aw ff (pv 2) aj) aj) (λ_ _=>rfl))))))
   (al (bV (bW fC (aw bZ (aw ff (pv 2) aj) aj) aj (bC _))
   (al (bT (BS (pv 0) j.UH.cl j.UH.mCh (up (DQ j)) hr j.HCh.b .nil hp (aI (pv 4) (bA (vI K) (pv 1) aj (λ_ _=>rfl))))))
   (al (bV (bW fC (aw bZ (aw ff (pv 2) aj) aj) aj (bC _))
   (al (bT (BS (pv 0) j.UH.cl j.UH.mCh (up (DQ j)) hr j.HCh.b .nil hp (aI (bA (vI K) (pv 1) aj (λ_ _=>rfl)) (pv 4)))))
   (al (bT (BS (pv 0) j.UH.cl j.UH.mCh (up (DQ j)) hr j.HCh.b .nil hp (aI (pv 4) jW))))))))))
   (λa=>al (aH (i:=3) xv.nd rfl (Or.inl rfl) (pv 6))))
  (ai (bV (iM (cr agz (by rfl) j.B.isinstance xT (aI (pv 3) (eX (dv (tu (v:=.ref j.Fa) rfl j.R.mF rfl) (tu (v:=.ref j.NP) rfl j.R.mP rfl) (tu (v:=.ref j.NU) rfl j.R.mU rfl))))))
  (al (aQ tm)) cZ)
  (al (aQ (qE (jl fC (cr P7 (by rfl) j.B.isinstance xT (aI (pv 3) (tu (v:=.ref j.NN) rfl j.R.mN rfl))) (pv 5) (bC _)) (qD (jl Bj (cr P7 (by rfl) j.B.isinstance xT (aI (pv 3) (tu (v:=.ref j.NF) rfl j.R.mO rfl))) (pv 5) (bC _))))))))))),?_⟩
 refine jB ?_;intro dD sS u4 u3 u2;refine⟨(by show 4<=sizeLine;decide),λp1 H1 C1 J e1=>?_⟩;obtain⟨a0,hb,hm⟩:=oR (xs:=VN) (r:=c / 64 % 4) (by omega) (by show c / 64 % 4<((4:Nat):Int);omega);obtain⟨b1,b2,b3⟩:=aqZ a0 (cX hm);refine⟨⟨by omega,by omega⟩,(by show(0:Int)<4;decide),aa.of e1,hb,?_⟩;refine⟨⟨by omega,by omega⟩,(by show(0:Int)<4;decide),⟨?_⟩⟩;have Al:=hW.same (di J);have U:=hD.same J;have Y:=aV _ _ Al.ob;have xw:=J _ _ hN;obtain⟨nm,hn,Jn⟩:=oR (xs:=ns) (r:=0) (by decide) (by omega);have uX:=hW.wl.nm nm (cX Jn);have n8:=uX.hi;have bl:(bG bk).length<=300:=by
  unfold bG;rw[ak];exact b8 (qk _ _) l3
 refine⟨λσ' H'=>∃y N nh,σ'=[some (.ref h),some (.ref nA),some (.int c),some (.ref y),some (.str a0),some (.bl nh),none]/\ac H H'/\H' y=some (oU y (.ref N))/\((N=j.NN/\nh=true)\/(N=j.NF/\nh=false)),?_,?_⟩
 . refine⟨⟨by omega,by omega⟩,(by show(0:Int)<4;decide),rfl,⟨?_⟩⟩;refine bj (λh0=>?_) (λh0=>?_)
   . have m0:c / 16 % 4=0:=by have:=cY h0;injection this
     refine⟨Y,rfl,_,rfl,Y,rfl,Y,U.dk,by omega,U.tk,λl zs H2 n2 G e2 pr=>?_⟩;have pl:=bv (pr [] λb z=>nomatch z);rw[bU]at pl;refine⟨l,_,rfl,.inl (aa.of e2),⟨by decide,by decide,by decide⟩,A3,λp3 H3 n3 s3 e3=>?_⟩;obtain⟨a3,a1,gQ⟩:=FJ (ns:=[-1,(zs.length:Int),10 ^ (9:Int).toNat]) (r:=c / 64 % 3) (by omega) (by show c / 64 % 3<((3:Nat):Int);omega);have gQ:=cX gQ;refine⟨⟨by omega,by omega⟩,(by show(0:Int)<3;decide),aa.of e3,a1,?_⟩;have fK:=G.trans s3;have d6:=J.trans fK;have t9:(10:Int) ^ (9:Int).toNat=1000000000:=by decide
     rw[t9]at gQ;simp only[bc,fz,fA]at gQ;have lo:((Str.empty::bG bk).length:Int)=zs.length:=by rw[bU];omega
     refine⟨Al.same (di fK),U.same fK,l3,by omega,.inr ⟨by omega,λH4 s4=>⟨j.R.eO.ex,λy O=>?_⟩⟩⟩;refine⟨y,j.NF,_,rfl,dQ (d6.trans s4) ((d6.trans s4).free O),aE,.inr ⟨rfl,?_⟩⟩;rw[m0];rfl
   have m0:c / 16 % 4≠0:=λz=>h0 (by rw[z];exact bE rfl);have nh:decide ((0:Int)<c / 16 % 4)=true:=bE (by omega);refine⟨⟨by omega,by omega⟩,(by show(0:Int)<4;decide),rfl,⟨?_⟩⟩;refine bj (λh1=>?_) (λh1=>?_)
   . refine⟨Y,rfl,aa.of xw,hn,?_⟩;exact⟨Al,U,l3,b2,b3,.inr ⟨nm,rfl,uX.ok,by omega⟩,.inr ⟨.inl b1,λH2 G=>⟨j.R.eN.ex,λy O=>⟨y,j.NN,_,rfl,dQ (J.trans G) ((J.trans G).free O),aE,.inl ⟨rfl,nh⟩⟩⟩⟩⟩
   refine⟨⟨by omega,by omega⟩,(by show(0:Int)<4;decide),rfl,⟨?_⟩⟩;refine bj (λh2=>?_) (λh2=>?_)
   . refine⟨Y,rfl,aa.of xw,hn,?_⟩;exact⟨Al,U,l3,uX.ok,by omega,.inr ⟨a0,rfl,b2,b3⟩,.inr ⟨.inr ⟨a0,rfl,b1⟩,λH2 G=>⟨j.R.eN.ex,λy O=>⟨y,j.NN,_,rfl,dQ (J.trans G) ((J.trans G).free O),aE,.inl ⟨rfl,nh⟩⟩⟩⟩⟩
   refine⟨Y,rfl,?_⟩;exact⟨Al,U,l3,b2,b3,.inl rfl,.inr ⟨.inl b1,λH2 G=>⟨j.R.eN.ex,λy O=>⟨y,j.NN,_,rfl,dQ (J.trans G) ((J.trans G).free O),aE,.inl ⟨rfl,nh⟩⟩⟩⟩⟩
 rintro σ' H' ⟨y,N,nh,rfl,G,e2,a2⟩;refine⟨A3,λtp H3 n3 s3 e3=>?_⟩;have e4:=s3 _ _ e2;have q:=q H3 (G.trans s3)
 rcases a2 with⟨rfl,rfl⟩ | ⟨rfl,rfl⟩
 . refine⟨y,j.NN,tp,[j.Fa,j.NP,j.NU],false,rfl,e4,e3,j.R.eN.xc,j.R.eN.kA,⟨eW ?_⟩⟩;refine⟨y,j.NN,j.NN,true,rfl,e4,j.R.eN.xc,j.R.eN.kP,rfl,⟨?_⟩⟩;refine bj (λ_=>?_) (λz=>absurd (bE rfl) z);exact⟨y,j.NN,j.NF,false,rfl,e4,j.R.eN.xc,j.R.kN,rfl,q⟩
 refine⟨y,j.NF,tp,[j.Fa,j.NP,j.NU],false,rfl,e4,e3,j.R.eO.xc,j.R.eO.kA,⟨eW ?_⟩⟩;refine⟨y,j.NF,j.NN,false,rfl,e4,j.R.eO.xc,j.R.kO,rfl,⟨?_⟩⟩;refine bj (λ_=>?_) (λz=>absurd (bE rfl) z);exact⟨y,j.NF,j.NF,true,rfl,e4,j.R.eO.xc,j.R.eO.kP,rfl,q⟩
end
end K72
namespace L2
open PySem.W (KeqHits)
section
variable {X:Cx}
def rQ(K:Fg)(r:Bool)(x y:V)(H:Hp)(Q:VK):Prop:=∃a b kvs j fD,x=.ref a/\y=.ref b/\H a=some (.dK kvs)/\H b=some (.dK fD)/\Paired (q9 K H) kvs j/\(∀p∈j,p∈fD)/\kvs.length=fD.length/\(fD.map (·.1)).Nodup/\Q (.bl r) H
theorem KI(hu:X.A.units+65<cLine):cM X (compareOp .Eq) (rQ X.K true):=by
 intro ad s Z H x y v u Q I rx ry h;obtain⟨a,b,kvs,kb,fD,rfl,rfl,G,J,pr,Y,U,nd,q⟩:=h;cases rx;cases ry;obtain⟨_,hd,vs,z,dd⟩:=j0 I.hok G;obtain⟨_,kM,ws,j,O⟩:=j0 I.hok J;refine W.keq_eq (knd:=cz X.prog X.w) (r:=true) hd kM dd O (by omega) (λ_=>Gd I hu nd j pr z Y) ⟨.bl true,H,I,?_,q⟩;have e:vs.length=ws.length:=by rw[<-z.length,<-j.length,U]
 rw[e];simp[RelV]
theorem aq3(hu:X.A.units+65<cLine):cM X (compareOp .NotEq) (rQ X.K false):=by
 intro ad s Z H x y v u Q I rx ry h;obtain⟨a,b,kvs,kb,fD,rfl,rfl,G,J,pr,Y,U,nd,q⟩:=h;cases rx;cases ry;obtain⟨_,hd,vs,z,dd⟩:=j0 I.hok G;obtain⟨_,kM,ws,j,O⟩:=j0 I.hok J;refine W.keq_ne (knd:=cz X.prog X.w) (r:=true) hd kM dd O (by omega) (λ_=>Gd I hu nd j pr z Y) ⟨.bl false,H,I,?_,q⟩;have e:vs.length=ws.length:=by rw[<-z.length,<-j.length,U]
 rw[e];simp[RelV]
end
end L2
namespace K72
section
seal PE PS cg PA PT PW PG fM PI fF
variable {β:Type}{K:Fg}{H:Hp}
theorem aq4(n:Nat){xs ys:Ls}(j:∀x∈xs,Ln x)(z:∀x∈ys,Ln x):W.kqdOk (n+2) (.tuple [dS xs,dS ys])=true:=by
 rw[W.kqdOk];simp only[AL,M9,tZ n j,tZ n z,Nb]
theorem aq5{α:Type}{F:α->β->Prop}{zs j:List β}(p:j.Perm zs):∀{ys:List α},Paired F ys zs->∃xs,xs.Perm ys/\Paired F xs j:=by
 induction p with
 | nil=>intro ys h;cases h;exact⟨[],.nil,.nil⟩
 | cons a p U=>
  intro ys h;cases h with
  | cons r t=>
   obtain⟨xs,h1,h2⟩:=U t;exact⟨_,h1.cons _,.cons r h2⟩
 | swap a b l=>
  intro ys h;cases h with
  | cons r t=>
   cases t with
   | cons Y t'=>exact⟨_,.swap _ _ _,.cons Y (.cons r t')⟩
 | trans p q z G=>
  intro ys h;obtain⟨w1,h1,h2⟩:=G h;obtain⟨w2,J,O⟩:=z h2;exact⟨w2,J.trans h1,O⟩
theorem KJ{F:ao×V->Str×β->Prop}(G:∀kv f,F kv f->kv.1=Sum.inr f.1){kvs:List (ao×V)}{tr:List (Str×β)}(h:Paired F kvs tr)(nd:(tr.map (·.1)).Nodup):(kvs.map (·.1)).Nodup:=by
 rw[show kvs.map (·.1)=(tr.map (·.1)).map Sum.inr from rp G h];exact nd.map Sum.inr λx y j z=>j (lK z)
theorem KL{F:ao×V->Str×β->Prop}(hk:∀kv f,F kv f->kv.1=Sum.inr f.1){G:Str×β->Prop}(U:∀a b e,G e->F a e->F b e->q9 K H a b){kvs fD:List (ao×V)}{c c':List (Str×β)}(pm:c'.Perm c)(ok:∀e∈c,G e)(h1:Paired F kvs c')(h2:Paired F fD c):∃j,Paired (q9 K H) kvs j/\(∀p∈j,p∈fD)/\kvs.length=fD.length:=by
 obtain⟨j,J,p2⟩:=aq5 pm h2;refine⟨j,?_,λp Y=>J.mem_iff.mp Y,?_⟩
 . have O:∀e∈c',G e:=λe z=>ok e (pm.mem_iff.mp z);clear pm ok J
   induction h1 generalizing j with
   | nil=>cases p2;exact .nil
   | cons r t ih=>
    cases p2 with
    | cons r' t'=>exact .cons (U _ _ _ (O _ bM) r r') (ih _ t' λe z=>O e (bY _ z))
 have:=bv h1;have:=bv h2;have:=pm.length_eq;omega
theorem aq6(a b:ao×V)(e:Str×List Int)(_:True)(h1:dC H a e)(h2:dC H b e):q9 K H a b:=by
 obtain⟨x1,U,z,J⟩:=h1;obtain⟨j,Y,G,O⟩:=h2;refine⟨x1.trans j.symm,dI e.2,?_,?_,zB 8 _⟩
 . rw[z];exact .tup (aZ.of J) (BC _)
 rw[G];exact .tup (aZ.of O) (BC _)
theorem aq7(a b:ao×V)(e:Str×Str)(h:dR e.2)(h1:iD a e)(h2:iD b e):q9 K H a b:=by
 refine⟨h1.1.trans h2.1.symm,.str e.2,?_,?_,?_⟩
 . rw[h1.2];exact .str _
 . rw[h2.2];exact .str _
 simpa [W.kqdOk]using h
theorem aq8(a b:ao×V)(e:Str×(Ls×Ls))(h:(∀x∈e.2.1,Ln x)/\∀x∈e.2.2,Ln x)(h1:ge H a e)(h2:ge H b e):q9 K H a b:=by
 obtain⟨x1,t1,p1,q1,U,z1,j,G⟩:=h1;obtain⟨O,t2,p2,q2,Y,z2,z,J⟩:=h2;refine⟨x1.trans O.symm,.tuple [dS e.2.1,dS e.2.2],?_,?_,aq4 7 h.1 h.2⟩
 . rw[U];exact .tup (aZ.of z1) (.cons (iT (aa.of j)) (.cons (iT (aa.of G)) .nil))
 rw[Y];exact .tup (aZ.of z2) (.cons (iT (aa.of z)) (.cons (iT (aa.of J)) .nil))
theorem aq9{xs:Lv}{ps:Lp}{ch:Ch}{cs:Cs}{ow:Ow}(h:eE xs ps ch cs ow):∀e∈ow,(∀x∈e.2.1,Ln x)/\∀x∈e.2.2,Ln x:=λe z=>⟨λx j=>((h.ok.ok.ow e z).2.1 x j).ln,λx j=>((h.ok.ok.ow e z).2.2 x j).ln⟩
section
variable {a b:Addr}{Q:VK}{r:Bool}
theorem chQ{ch:Ch}(h1:dj H a ch)(h2:dj H b ch)(nd:(ch.map (·.1)).Nodup)(q:Q (.bl r) H):rQ K r (.ref a) (.ref b) H Q:=by
 obtain⟨k1,j,U⟩:=h1;obtain⟨k2,J,p2⟩:=h2;obtain⟨O,e1,e2,e3⟩:=KL (K:=K) (λkv f z=>z.1) (G:=λ_=>True) aq6 (.refl ch) (λ_ _=>trivial) U p2;exact⟨a,b,k1,O,k2,rfl,rfl,j,J,e1,e2,e3,KJ (λkv f z=>z.1) p2 nd,q⟩
theorem csQ{cs aL:Cs}(h1:pq H a cs)(h2:pq H b aL)(pm:cs.Perm aL)(ok:∀e∈cs,dR e.2)(nd:(cs.map (·.1)).Nodup)(q:Q (.bl r) H):rQ K r (.ref a) (.ref b) H Q:=by
 obtain⟨k1,j,U⟩:=h1;obtain⟨k2,G,p2⟩:=h2;obtain⟨O,e1,e2,e3⟩:=KL (K:=K) (λkv f z=>z.1) aq7 pm (λe J=>ok e (pm.mem_iff.mpr J)) U p2;exact⟨a,b,k1,O,k2,rfl,rfl,j,G,e1,e2,e3,KJ (λkv f z=>z.1) p2 ((pm.map _).nodup_iff.mp nd),q⟩
theorem owQ{ow aM:Ow}(h1:mw H a ow)(h2:mw H b aM)(pm:ow.Perm aM)(ok:∀e∈ow,(∀x∈e.2.1,Ln x)/\∀x∈e.2.2,Ln x)(nd:(ow.map (·.1)).Nodup)(q:Q (.bl r) H):rQ K r (.ref a) (.ref b) H Q:=by
 obtain⟨k1,j,U⟩:=h1;obtain⟨k2,G,p2⟩:=h2;obtain⟨O,e1,e2,e3⟩:=KL (K:=K) (λkv f z=>z.1) aq8 pm (λe J=>ok e (pm.mem_iff.mpr J)) U p2;exact⟨a,b,k1,O,k2,rfl,rfl,j,G,e1,e2,e3,KJ (λkv f z=>z.1) p2 ((pm.map _).nodup_iff.mp nd),q⟩
end
end
section
variable {ns:Ls}{cs:Cs}{c:Str}{nv:V}
seal PE PS cg PA PT PW PG fM PI fF
theorem VQ(n1:1<=ns.length)(c:Int):∃z,cu (ns.map V.str) (c % ((ns.map V.str).length:Int))=some (V.str z)/\z∈ns:=by
 rw[ak];obtain⟨z,a,b⟩:=oR (xs:=ns) (r:=c % (ns.length:Int)) (sV _ (by omega)) (vk _ (by omega));exact⟨z,a,cX b⟩
theorem ard(G:c∈ns)(h:∀e∈cs,e.1∈ns):∀e∈uZ cs c nv,e.1∈ns:=λe j=>by
 cases nv with
 | str n=>exact(kf j).elim (λz=>by rw[z];exact G) (h e)
 | _=>exact h e (mH.mp j).1
theorem are(h:(cs.map (·.1)).Nodup):((uZ cs c nv).map (·.1)).Nodup:=by
 cases nv with
 | str n=>exact ki h
 | _=>exact h.sublist (EN.map _)
theorem arf(G:bQ c)(J:∀n,nv=.str n->bQ n)(h:∀e∈cs,bQ e.1/\bQ e.2):∀e∈uZ cs c nv,bQ e.1/\bQ e.2:=λe j=>by
 cases nv with
 | str n=>exact(kf j).elim (λz=>by rw[z];exact⟨G,J n rfl⟩) (h e)
 | _=>exact h e (mH.mp j).1
theorem arh(G:ns.length<=4)(nd:(cs.map (·.1)).Nodup)(h:∀e∈cs,e.1∈ns):cs.length<=4:=by
 have:=jD nd λz hz=>by
  obtain⟨e,j,rfl⟩:=cE.mp hz;exact h e j
 rw[ak]at this;omega
theorem ari:bQ (Str.ofString "strange"):=⟨by decide +kernel,by decide +kernel,by decide +kernel⟩
inductive VR (Hc C S D Pt:Addr):Sp where
 | mk {H:Hp}{Q:VK}{E:XK}{h J x dx d b z G:Addr}{O:V}{fs:Tr}{bk:Bk}{xs:Lv}{ps:Lp}{ns:Ls}{t:Str}{ch:Ch}{cs:Cs}{ow:Ow}{c:Int} (_:HW Hc C S h J x O xs ps ns (msk [x,d,b,Pt] H)) (_:DU D x dx d b z Pt xs ps t ch cs ow fs bk H) (_:bk.length<=300) (_:H G=some (.lst (ns.map V.str))) (_:1<=ns.length) (_:∀e∈cs,e.1∈ns)
  (_:∀t' aL cb j H',DU D x dx d b z Pt xs ps t' ch aL ow cb j H'->(∀e∈aL,e.1∈ns)->j.length<=bk.length+10->pO bk j t t'->bX x d b Pt H H'->Q (.bl true) H'):VR Hc C S D Pt [.ref h,.ref G,.int c] H Q E
theorem vb:aN [ayQ,ayA,ayz,"_law_before","_law_common",ay8,"_law_choices","_law_stand_here"] [ayQ,ayA,ayz] (av Cu):=aU
theorem arj(j:Pg K mg base Pt):aA P w K mg base aJ 11 j.LCh.f j.LCh.fd [ayQ,ayA,ayz] (VR j.Hc j.C j.S j.D Pt):=by
 refine j.LCh.u.ok vb (λvs H Q E h=>?_) (λau Ar outer s H vs Q E hr h=>?_)
 . cases h;rfl
 have Am:(Ar.deeper (PyProof.Rows.envOfC "_law_chose" (av Cu) s.heap.objs.size j.LCh.f au)).units+65<cLine:=by have:=hr.un;omega
 have hu:=hr.units;refine qX ?_;intros;obtain @⟨_,_,_,h,bB,x,dx,d,b,gg,nA,sv,fs,bk,xs,ps,ns,t,ch,cs,ow,c,J,O,l3,hN,n1,a3,q⟩:=h;refine⟨_,(ai (aH (i:=3) vb.nd rfl (Or.inl rfl) (fh (pv 0) j.UH.cl j.UH.mSt (up (xq j)) hr j.HSt.b .nil cG))
  (ai (aH (i:=4) vb.nd rfl (Or.inl rfl) (bA eR (pv 1) (aw bZ (aw ff (pv 2) aj) (cr fU (by rfl) j.B.len fc (aq (pv 1)))) (λ_ _=>rfl)))
  (ai (aH (i:=5) vb.nd rfl (Or.inl rfl) jW)
  (ai (aH (i:=6) vb.nd rfl (Or.inl rfl) (eJ vJ (by rfl) j.B.dict AY (aq (bK (pv 3) rfl))))
  (yA (bV (bW Bm (aw bZ (aw ff (pv 2) aj) aj) aj (bC _))
  (ai (aH (i:=5) vb.nd rfl (Or.inl rfl) (bA eR (aw qT (pv 1) (dq (aq bO))) (aw bZ (aw ff (pv 2) aj) (aw fO (cr fU (by rfl) j.B.len fc (aq (pv 1))) aj)) (λ_ _=>rfl)))
   (al (iR hu (pv 6) (pv 4) (pv 5) rfl))) (al (bV (qC (vD hu (pv 4) (pv 6)) (by rfl))
   (al (bT (Bx (pv 6) (pv 4) ⟨rfl,rfl,rfl,rfl⟩))) cZ)))
  (ai (bT (lZ (pv 0) j.UH.cl j.UH.mCh (up (DQ j)) hr j.HCh.b .nil Ge (aI (pv 4) (pv 5))))
  (ai (aH (i:=7) vb.nd rfl (Or.inl rfl) (fh (pv 0) j.UH.cl j.UH.mSt (up (xq j)) hr j.HSt.b .nil cG))
  (al (aQ (qE (jl (KI Am) (bK (pv 7) rfl) (pv 6) (bC _)) (qE (jl (KI Am) (bK (pv 7) rfl) (bK (pv 3) rfl) (bC _)) (qD (jl (KI Am) (bK (pv 7) rfl) (bK (pv 3) rfl) (bC _)))))))))))))),?_⟩
 refine BO ?_;intro dD sS u5 u4 u3 u2;have hh:=aV _ _ J.ob;refine⟨hh,rfl,hh,O,by omega,λv0 H1 s1 jp=>?_⟩;have VS:=jp [x,d,b,Pt] O.busy;have xw:=s1 _ _ hN;have lm:(ns.map V.str).length=ns.length:=ak ..;obtain⟨G,hc,r9⟩:=VQ n1 (c / 16);have DX:=J.wl.nm G r9;have c8:=DX.hi;refine⟨⟨by omega,by omega⟩,nA,_,rfl,.inl (aa.of xw),(by show(0:Int)<_;omega),aa.of xw,hc,?_⟩;obtain⟨va,Ks,Kt,c0,h0,o0,rfl,w1,w2,w3,w4,w5,w6,w7⟩:=id VS;obtain⟨kh,b1,Y⟩:=id w6;have lo:=bv Y;have o4:=O.tx.so.ok.n2;refine⟨aV _ _ w1,j.UT.cl,j.UT.nH,w3,h0,_,rfl,aV _ _ b1,λp6 H2 n6 s2 e2=>?_⟩;have hk:∀kv e,iD kv e->kv.1=Sum.inr e.1:=λkv e z=>z.1;refine⟨λσ' H3=>∃nv kk,σ'=[some (.ref h),some (.ref nA),some (.int c),some (.ref va),some (.str G),some nv,some (.ref p6),none]/\ac H1 H3/\H3 p6=some (.dK kk)/\Paired iD kk (uZ cs G nv)/\(nv=.non\/∃n,nv=.str n/\bQ n),?_,?_⟩
 . refine⟨⟨by omega,by omega⟩,(by show(0:Int)<3;decide),⟨⟨?_⟩⟩⟩;refine bj (λh1=>?_) (λh1=>?_)
   . refine⟨Ac,λp7 H3 n7 s3 e3=>?_⟩;have VT:=s3 _ _ (s2 _ _ xw);have n4:=J.wl.n4;refine⟨VT,e3,bP (by rw[lm];omega),λp8 H4 n8 s4 e4=>?_⟩;have KN:H4 p8=some (.lst ((ns++[Str.ofString "strange"]).map V.str)):=by rw[dw];exact e4
     obtain⟨nm,hn,a0⟩:∃z,cu ((ns++[Str.ofString "strange"]).map V.str) (c / 192 % (((ns.map V.str).length:Int)+1))=some (V.str z)/\z∈ns++[Str.ofString "strange"]:=by
      have:=VQ (ns:=ns++[Str.ofString "strange"]) (by simp) (c / 192);rw[ak,bI,je]at this;rw[lm];exact this
     have uX:bQ nm:=by
      rcases bR.mp a0 with z | z
      . exact J.wl.nm nm z
      rw[bw.mp z];exact ari
     refine⟨⟨by omega,by omega⟩,nA,_,rfl,.inl (aa.of (s4 _ _ VT)),(by show(0:Int)<_;omega),aa.of KN,hn,?_⟩;have e6:=s4 _ _ (s3 _ _ e2);refine⟨fV.k (k:=.inr G) e6 (bP (by omega)),?_⟩;exact⟨.str nm,_,rfl,dQ (s2.trans (s3.trans s4)) n6,aE,iZ (F:=iD) hk ⟨rfl,rfl⟩ Y,.inr ⟨nm,rfl,uX⟩⟩
   refine⟨_,cU.k (k:=.inr G) e2,⟨?_⟩⟩
   rcases Dc hk Y G with⟨_,hs⟩ | ⟨gP,hs⟩
   . rw[hs];refine fE ?_;obtain⟨v,hv⟩:=Ey.mp hs;refine⟨.inl ⟨_,.inl e2⟩,kh,.inr G,v,e2,rfl,hv,?_⟩;exact⟨.non,_,rfl,dQ s2 n6,aE,zJ hk Y,.inl rfl⟩
   rw[hs];refine eW ?_;exact⟨.non,_,rfl,s2,e2,by show Paired iD kh (ii cs G);rw[zK gP];exact Y,.inl rfl⟩
 rintro σ' H3 ⟨nv,kk,rfl,s3,e3,a5,vK⟩;have d6:=s1.trans s3;have xu:=d6 _ _ hh;have so:=O.tx.so;have DR:∀n,nv=.str n->bQ n:=λn e=>by
  rcases vK with z | ⟨m,z,hm⟩
  . rw[z]at e;cases e
  rw[z]at e;cases e;exact hm
 have kN:=ard (nv:=nv) r9 a3;have uO:=are (c:=G) (nv:=nv) so.ok.d2;have KG:=so.cho uO (arh J.wl.n4 uO kN) (arf DX DR so.ok.ok.cs);refine⟨xu,rfl,J.same (di d6),O.same d6,l3,DX.ok,by omega,vK.imp id (λa1=>a1.elim λn a2=>a2.elim λe z=>⟨n,e,z.ok,by have:=z.hi;omega⟩),.inl ⟨DX.name,λn e=>(DR n e).name,KG,λH4 af=>?_⟩⟩;obtain⟨t',aL,cb,bh,r2,D4,ll,nd,k4⟩:=af;have xk:=(bX.of (x:=x) (d:=d) (b:=b) (Pt:=Pt) d6).trans k4;have sy:=aV _ _ ((J.same xk.msk).ob);refine⟨sy,rfl,sy,D4,by omega,λv1 H5 s5 g9=>?_⟩;have g9:=g9 [] λb z=>nomatch z
 rw[zv]at g9;obtain⟨ya,ap,ax,c1,h1,o1,rfl,y1,y2,y3,y4,y5,y6,y7⟩:=g9;have VU:=k4.trans (bX.of (x:=x) (d:=d) (b:=b) (Pt:=Pt) s5);have n3:=(O.same s1).busy.free n6;simp only[bc,fz,fA,nZ]at n3;have e6:=VU _ _ e3 n3.1 n3.2.1 n3.2.2.1 n3.2.2.2;have a4:=(bX.of (x:=x) (d:=d) (b:=b) (Pt:=Pt) s3).trans VU;obtain⟨an,a6,a7,a8,a9,ab,ev,z1,z2,z3,z4,z5,z6,z7⟩:=(VS.same a4.msk).same aV;cases ev;have U:=D4.tx.so;refine⟨y1,j.UT.cl,j.UT.nH,y3,⟨csQ y6 ⟨_,e6,a5⟩ r2.pm (λe he=>(U.ok.ok.cs e he).2.ok) U.ok.d2 ⟨fE ?_⟩⟩⟩;refine⟨y1,j.UT.cl,j.UT.nC,y2,z1,j.UT.cl,j.UT.nC,z2,chQ y5 z5 U.ok.d1 ⟨fE ?_⟩⟩;refine⟨y1,j.UT.cl,j.UT.nO,y4,z1,j.UT.cl,j.UT.nO,z4,owQ y7 z7 (.refl _) (aq9 U) U.ok.d3 ?_⟩;exact q t' aL cb bh H5 (D4.same s5) (λe he=>kN e (r2.pm.mem_iff.mp he)) ll nd (xk.trans (.of s5))
end
section
seal PE PS cg PA PT PW PG fM PI fF
theorem VW(n:Nat){xs:Ls}(h:∀x∈xs,dR x):W.kqdOk (n+1) (dS xs)=true:=by
 show(xs.map W.Dat.str).all (W.kqdOk n)=true;rw[hX];intro d hd;obtain⟨x,j,rfl⟩:=cE.mp hd;simpa [W.kqdOk]using h x j
def dB(bk:Bk):W.Dat:=.list (bk.map λe=>.tuple [.str e.1,.str e.2])
theorem VX{K:Fg}{H:Hp}{tb:Lv}{bk:Bk}(j:H r=some (.lst tb))(h:Paired (jN H) tb bk):DV K H (.ref r) (dB bk):=by
 refine .lst (aa.of j) ?_;clear j
 induction h with
 | nil=>exact .nil
 | cons r t G=>
  obtain⟨a,e,z⟩:=r;rw[e];exact .cons (.tup (aZ.of z) (.cons (.str _) (.cons (.str _) .nil))) G
theorem DY(n:Nat){bk:Bk}(h:Km bk):W.kqdOk (n+2) (dB bk)=true:=by
 show(bk.map λe=>W.Dat.tuple [.str e.1,.str e.2]).all (W.kqdOk (n+1))=true;rw[hX];intro d hd;obtain⟨e,j,rfl⟩:=cE.mp hd;have:=h e j;show [W.Dat.str e.1,.str e.2].all (W.kqdOk n)=true;simp only[AL,M9,Nb,W.kqdOk,im];exact this
def LI(xs:Lv)(ps:Lp)(ns:Ls)(i:Nat)(bk:Bk):Prop:=∀t∈Str.empty::bG bk,∃ch cs ow,ft xs ps t ch cs ow/\(∀e∈cs,e.1∈ns)/\ow.length<=2+i
theorem LI.of{xs:Lv}{ps:Lp}{ns:Ls}{i:Nat}{bk:Bk}{t:Str}{ch:Ch}{cs:Cs}{ow:Ow}(h:LI xs ps ns i bk)(m:t∈Str.empty::bG bk)(j:ft xs ps t ch cs ow):(∀e∈cs,e.1∈ns)/\ow.length<=2+i:=by
 obtain⟨a,b,c,k,z⟩:=h t m;obtain⟨rfl,rfl,rfl⟩:=k.uniq j;exact z
theorem LI.step{xs:Lv}{ps:Lp}{ns:Ls}{i j:Nat}{bk J:Bk}{t t':Str}{ch:Ch}{cs:Cs}{ow:Ow}(h:LI xs ps ns i bk)(nd:pO bk J t t')(O:ft xs ps t' ch cs ow)(k1:∀e∈cs,e.1∈ns)(k2:ow.length<=2+j)(Y:i<=j:=by omega):LI xs ps ns j J:=λy G=>by
 have up:y∈Str.empty::bG bk->∃ch cs ow,ft xs ps y ch cs ow/\(∀e∈cs,e.1∈ns)/\ow.length<=2+j:=λm=>by
  obtain⟨a,b,c,k,U,z2⟩:=h y m;exact⟨a,b,c,k,U,by omega⟩
 rcases nd with⟨_,e⟩ | ⟨_,e⟩
 . rw[e]at G;exact up G
 rw[e,<-qi]at G
 rcases bR.mp G with z | z
 . exact up z
 rw[bw.mp z];exact⟨ch,cs,ow,O,k1,k2⟩
theorem arq{j:Ls}{t:Str}(h:j.getLast?=some t):cu (j.map V.str) (-1)=some (.str t):=by
 obtain⟨r,e⟩:=aw0.mp h;rw[e];exact UU r t
inductive VY (Hc C S D Pt:Addr):Sp where
 | mk {H:Hp}{Q:VK}{E:XK}{h J x dx d b z G:Addr}{O:V}{fs:Tr}{bk:Bk}{xs:Lv}{ps:Lp}{ns:Ls}{t:Str}{ch:Ch}{cs:Cs}{ow:Ow}{c:Int}{i:Nat} (_:HW Hc C S h J x O xs ps ns (msk [x,d,b,Pt] H)) (_:DU D x dx d b z Pt xs ps t ch cs ow fs bk H) (_:bk.length<=280) (_:msk [x,d,b,Pt] H G=some (.lst (ns.map V.str))) (_:1<=ns.length) (_:LI xs ps ns i bk) (_:i<=7)
  (_:∀t' aX aL aM cb j H',DU D x dx d b z Pt xs ps t' aX aL aM cb j H'->LI xs ps ns (i+1) j->j.length<=bk.length+10->bX x d b Pt H H'->Q (.bl true) H'):VY Hc C S D Pt [.ref h,.ref x,.ref G,.int c] H Q E
theorem Ao:aN [ayQ,azh,ayA,ayz,"_law_book","_law_texts",ayB,"_law_text"] [ayQ,azh,ayA,ayz] (av IB):=aU
theorem ars(G:Pg K mg base Pt):aA P w K mg base aJ 12 G.LDe.f G.LDe.fd [ayQ,azh,ayA,ayz] (VY G.Hc G.C G.S G.D Pt):=by
 refine G.LDe.u.ok Ao (λvs H Q E h=>?_) (λau Ar outer s H vs Q E J h=>?_)
 . cases h;rfl
 have hu:=J.units;refine qX ?_;intros;obtain @⟨_,_,_,h,bB,x,dx,d,b,gg,nA,sv,fs,bk,xs,ps,ns,t,ch,cs,ow,c,i,hW,Y,l3,hN,n1,li,i7,q⟩:=h;refine⟨_,(ai (aH (i:=4) Ao.nd rfl (Or.inl rfl) (fh (pv 1) G.UD.cl G.UD.mBNo (up (zL G)) J G.BNo.b .nil cG))
  (ai (oP (i:=5) [ay0] [] [] Ao.nd rfl rfl dJ rfl (cL (fh (pv 0) G.UH.cl G.UH.mFo (up (DP G)) J G.HFo.b .nil cG)) (λ_ _ _ _=>(bf (i:=0) (show List.Nodup ([ay0]:Ls) by decide +kernel) rfl (Or.inl rfl))) (λ_ _ _ _=>fY) (λ_ _ _ _=>(aB (wH G) J rfl (aq (pv 0)))))
  (ai (bV (bW fC (aw bZ (pv 3) aj) aj (bC _))
  (al (aQ (qE (aB (aq0 G) J rfl (dv (pv 0) (pv 2) (pv 3))) (qD (jl (tS hu) (fh (pv 1) G.UD.cl G.UD.mBNo (up (zL G)) J G.BNo.b .nil cG) (pv 4) (bC _)))))) cZ)
  (yA (bV (bW qI (aw bZ (pv 3) aj) aj (bC _))
  (al (bV (oq (iM (aB (arj G) J rfl (dv (pv 0) (pv 2) (pv 3)))))
   (al (aQ tm)) cZ)) (al (bV (bW qI (aw bZ (pv 3) aj) aj (bC _))
   (ai (aH (i:=6) Ao.nd rfl (Or.inl rfl) (aw bZ (aw ff (pv 3) aj) (cr fU (by rfl) G.B.len fc (aq (pv 5)))))
    (ai (bT (lZ (pv 0) G.UH.cl G.UH.mBa (up (VM G)) J G.HBa.b .nil Ge (aq (pv 6))))
    (al (bV (bW Bj (aB (wH G) J rfl (aq (fh (pv 0) G.UH.cl G.UH.mSt (up (xq G)) J G.HSt.b .nil cG))) (bA eR (pv 5) (pv 6) (λ_ _=>rfl)) (bC _))
    (al (aQ tm)) cZ)))) (al (bT (lZ (pv 0) G.UH.cl G.UH.mEd (up (aqy G)) J G.HEd.b .nil Ge (aI (aB (IH G) J rfl (aq (aB (gU G) J rfl (aI (pv 3) aj)))) (aB (CG G) J rfl (aq (aB (gU G) J rfl (aI (pv 3) aj)))))))))))
  (ai (aH (i:=7) Ao.nd rfl (Or.inl rfl) (aB (wH G) J rfl (aq (fh (pv 0) G.UH.cl G.UH.mSt (up (xq G)) J G.HSt.b .nil cG))))
  (ai (bV (bW fC (pv 7) (bA eR (pv 5) (qG qH aj) (λ_ _=>rfl)) (bC _))
  (al (aQ (jl (tS hu) (fh (pv 1) G.UD.cl G.UD.mBNo (up (zL G)) J G.BNo.b .nil cG) (pv 4) (bC _)))) cZ)
  (al (aQ (jl (tS hu) (fZ [ay0] [] [] dJ rfl (cL (fh (pv 0) G.UH.cl G.UH.mFo (up (DP G)) J G.HFo.b .nil cG)) (λ_ _ _ _=>(bf (i:=0) (show List.Nodup ([ay0]:Ls) by decide +kernel) rfl (Or.inl rfl))) (λ_ _ _ _=>fY) (λ_ _ _ _=>(aB (wH G) J rfl (aq (pv 0))))) (aw qT (pv 5) (dq (aq (pv 7)))) (bC _)))))))))),?_⟩
 refine jB ?_;intro dD sS u4 u3 u2;have hh:=aV _ _ hW.ob;obtain⟨tb,b1,b2⟩:=id Y.dk.bo;refine⟨Y.dk.ob,rfl,Y.dk.ob,b1,λp4 H1 n4 s1 e4=>?_⟩;have bl:(bG bk).length<=280:=by
  unfold bG;rw[ak];exact b8 (qk _ _) l3
 refine⟨s1 _ _ hh,rfl,s1 _ _ hh,Y.dk.same s1,by omega,Y.tk,λl zs H2 n2 s2 e2 pr=>⟨⟨_,aa.of e2⟩,?_⟩⟩;have VZ:=pr [] λb z=>nomatch z
 have pl:=bv VZ;rw[bU]at pl;intro D' jd;refine C0 (σ0:=[none]) jd (aa.of e2) (λZ=>∃u,Z=[u]) (λj ws _=>ws=((Str.empty::bG bk).take j).map V.str) ⟨_,rfl⟩ rfl ?_ ?_
 . rintro j y ws Z H3 k hy ⟨u,rfl⟩ cV h3 rfl hk;obtain⟨t1,KO,DS,DT,DW,dA,uP⟩:=eK VZ hy;refine⟨uP.sho ((dA.same (di h3)).same aV) λH4 s4=>?_⟩;refine hk _ _ _ ⟨_,rfl⟩ s4 (bP (by rw[ak,eF,bU];omega)) ?_;rw[mC KO,dw];rfl
 rintro ws H3 cV h3 rfl;rw[pl,<-bU,fb]at cV;have d6:=s1.trans (s2.trans h3);have D3:=Y.same d6;have W3:=hW.same (di d6);have N3:=di d6 _ _ hN;have a3:=(Y.same (s1.trans s2)).busy;have e5:msk [x,d,b,Pt] H3 D'=some (.lst ((Str.empty::bG bk).map V.str)):=cC (a3.free jd) cV;have KN:msk [x,d,b,Pt] H3 p4=some (.lst tb):=cC (Y.busy.free n4) ((s2.trans h3) _ _ e4);have a0:Paired (jN (msk [x,d,b,Pt] H3)) tb bk:=aF b2 λv e a1=>a1.elim λt1 a2=>a2.elim λz1 z2=>⟨t1,z1,cC (λm=>by
  obtain⟨o,eo,no⟩:=Y.busy t1 m;rw[z2]at eo;cases eo;exact no _ rfl) (d6 _ _ z2)⟩
 have xu:=aV _ _ W3.ob;have DZ:=Y.dk.bt;have same:∀{H4 H5:Hp}{xn:Lv}{p:Addr},bX x d b Pt H3 H4->Paired (jN H4) xn bk->ac H4 H5->H5 p=some (.lst xn)->DV K H5 (.ref p) (dB bk)/\DV K H5 (.ref p4) (dB bk):=λ{H4 H5 xn p} k4 c2 s5 e5=>by
  have k5:=(k4.trans (bX.of (x:=x) (d:=d) (b:=b) (Pt:=Pt) s5)).msk;exact⟨VX e5 (aF c2 λ_ _=>jN.same s5),VX (aV _ _ (k5 _ _ KN)) (aF a0 λ_ _ z=>(z.same k5).same aV)⟩
 refine⟨(by show(0:Int)<8;decide),rfl,⟨?_⟩⟩;refine bj (λh7=>?_) (λh7=>?_)
 . refine⟨W3,D3,by omega,aV _ _ N3,n1,λH4 s4=>⟨fE ?_⟩⟩;have O:=D3.same s4;have dA:pO bk bk t t:=.inl ⟨rfl,rfl⟩;obtain⟨k1,k2⟩:=li.of (YM Y.la) Y.tx;obtain⟨xn,c1,c2⟩:=id O.dk.bo;refine⟨O.dk.ob,rfl,O.dk.ob,c1,λp9 H5 n9 s5 e9=>?_⟩;obtain⟨y1,y2⟩:=same (bX.of s4) c2 s5 e9;refine⟨dB bk,dB bk,y1,y2,DY 7 DZ,DY 7 DZ,λbb hb=>?_⟩;rw[hb.mpr rfl];exact q t ch cs ow fs bk H5 (O.same s5) (li.step dA Y.tx k1 (by omega)) (by omega) (.of (d6.trans (s4.trans s5)))
 refine⟨λσ' H4=>∃u6 t' aX aL aM cb U,σ'=[some (.ref h),some (.ref x),some (.ref nA),some (.int c),some (.ref p4),some (.ref D'),u6,none]/\DU G.D x dx d b gg Pt xs ps t' aX aL aM cb U H4/\pO bk U t t'/\LI xs ps ns (i+1) U/\U.length<=bk.length+10/\bX x d b Pt H3 H4,?_,?_⟩
 . obtain⟨k1,k2⟩:=li.of (YM Y.la) Y.tx;refine⟨(by show(0:Int)<8;decide),⟨⟨?_⟩⟩⟩;refine bj (λh3=>?_) (λh3=>?_)
   . refine⟨W3,D3,by omega,aV _ _ N3,n1,k1,λt' aL cb U H4 O kn ll nd k4=>⟨eW ?_⟩⟩;exact⟨none,t',ch,aL,ow,cb,U,rfl,O,nd,li.step nd O.tx kn (by omega),ll,k4⟩
   refine⟨(by show(0:Int)<8;decide),⟨⟨?_⟩⟩⟩;refine bj (λh6=>?_) (λh6=>?_)
   . have lm:((Str.empty::bG bk).map V.str).length=(bG bk).length+1:=by rw[ak,bU]
     refine⟨⟨by omega,by omega⟩,D',_,rfl,.inl (aa.of cV),(by show(0:Int)<_;omega),?_⟩;rw[lm];have r0:=sV (c / 16) (show(((bG bk).length+1:Nat):Int)≠0 by omega);have r1:=vk (c / 16) (show(0:Int)<(((bG bk).length+1:Nat):Int) by omega);obtain⟨tn,j8,KP⟩:=oR (xs:=Str.empty::bG bk) (r:=c / 16 % (((bG bk).length+1:Nat):Int)) r0 (by rw[bU];exact r1);generalize c / 16 % (((bG bk).length+1:Nat):Int)=a8 at r0 r1 j8 KP;refine⟨xu,rfl,W3,D3,by omega,by omega,.inl ⟨tn,r0,KP,λaX aL aM cb U H4 O ll nd k4=>?_⟩⟩;have sy:=aV _ _ ((W3.same k4.msk).ob);refine⟨sy,rfl,sy,O,by omega,λv1 H5 s5 g9=>?_⟩;have g9:=g9 [] λb z=>nomatch z
     rw[zv]at g9;dsimp only[fg,qi,AZ];refine O.tx.sho g9 λH6 s6=>?_;refine⟨aa.of (s6 _ _ (s5 _ _ (aV _ _ (k4.msk _ _ e5)))),j8,rfl,⟨?_⟩⟩;refine bj (λz=>?_) (λ_=>?_)
     . exact absurd z (by simp)
     obtain⟨j1,j2⟩:=li.of (cX KP) O.tx;exact⟨_,tn,aX,aL,aM,cb,U,rfl,(O.same s5).same s6,nd,li.step nd O.tx j1 (by omega),ll,k4.trans (.of (s5.trans s6))⟩
   refine⟨xu,rfl,⟨⟨λm1=>⟨λpt H4 pN s4=>?_⟩⟩⟩⟩;refine⟨⟨λm2=>⟨λl1 H5 ls nl s5 e6 k6 o6=>?_⟩⟩⟩;have KQ:=s4.trans s5;refine⟨W3.same (di KQ),D3.same KQ,by omega,pN.ln.ok,by have:=pN.len;omega,e6,.inl ⟨pN,o6,by omega,by omega,λbr H6 hb af=>?_⟩⟩;obtain⟨t',aM,cb,U,r3,D6,ll,nd,a5⟩:=af;have ol:aM.length<=ow.length+1:=by
    have e1:=r3.pm.length_eq;have e2:(pP ow pt br ls).length<=ow.length+1:=by
     unfold pP;split
     . exact YG (qk _ _)
     exact jE _ _ _
    omega
   exact⟨none,t',ch,cs,aM,cb,U,rfl,D6,nd,li.step nd D6.tx k1 (by omega),ll,(bX.of KQ).trans a5⟩
 rintro σ' H4 ⟨u6,t',aX,aL,aM,cb,U,rfl,O,nd,V0,ll,k4⟩;refine jA ?_;intro dE sE v3 v2;have W4:=W3.same k4.msk;have sy:=aV _ _ W4.ob;refine⟨sy,rfl,sy,O,by omega,λv1 H5 s5 g9=>?_⟩;have g9:=g9 [] λb z=>nomatch z
 rw[zv]at g9;dsimp only[fg,qi,AZ];refine O.tx.sho g9 λH6 s6=>?_;have k6:=k4.trans (bX.of (x:=x) (d:=d) (b:=b) (Pt:=Pt) (s5.trans s6));have D6:=O.same (s5.trans s6);have V1:bX x d b Pt H H3:=.of d6;refine⟨_,rfl,aa.of (aV _ _ (k6.msk _ _ e5)),arq Y.la,rfl,⟨?_⟩⟩;refine bj (λz=>?_) (λz=>?_)
 . have et:t'=t:=by have:=cY z;injection this
   rcases nd with⟨_,eb⟩ | ⟨ne,_⟩
   . subst eb;obtain⟨xn,c1,c2⟩:=id D6.dk.bo;refine⟨D6.dk.ob,rfl,D6.dk.ob,c1,λp9 H7 n9 s7 e9=>?_⟩;obtain⟨y1,y2⟩:=same k6 c2 s7 e9;refine⟨dB U,dB U,y1,y2,DY 7 DZ,DY 7 DZ,λbb hb=>?_⟩;rw[hb.mpr rfl];exact q t' aX aL aM cb U H7 (D6.same s7) V0 ll (V1.trans (k6.trans (.of s7)))
   exact absurd et ne
 have ne:t'≠t:=λe=>z (by rw[e];exact bE rfl)
 rcases nd with⟨e,_⟩ | ⟨_,eb⟩
 . exact absurd e ne
 have V2:=aV _ _ ((W3.same k6.msk).ob);refine⟨V2,rfl,V2,D6.dk,by omega,D6.tk,λl6 a6 H7 n7 s7 e7 pJ=>⟨⟨_,aa.of e7⟩,?_⟩⟩;have pJ:=pJ [] λb z=>nomatch z
 have V3:=bv pJ;rw[bU,eb,bI,je]at V3;intro D7 nQ;refine C0 (σ0:=[none]) nQ (aa.of e7) (λZ=>∃u,Z=[u]) (λj ws _=>ws=((Str.empty::bG U).take j).map V.str) ⟨_,rfl⟩ rfl ?_ ?_
 . rintro j y ws Z H8 k hy ⟨u,rfl⟩ KR h8 rfl hk;obtain⟨t1,KO,DS,DT,DW,dA,uP⟩:=eK pJ hy;refine⟨uP.sho ((dA.same (di h8)).same aV) λH9 s9=>?_⟩;refine hk _ _ _ ⟨_,rfl⟩ s9 (bP (by rw[ak,eF,bU,eb,bI,je];omega)) ?_;rw[mC KO,dw];rfl
 rintro ws H8 KR h8 rfl;have V4:=s7.trans h8;refine⟨Ac,λp9 H9 n9 s9 e9=>?_⟩;have k9:=k6.trans (bX.of (x:=x) (d:=d) (b:=b) (Pt:=Pt) (V4.trans s9));refine⟨aV _ _ (k9.msk _ _ e5),e9,bP (by rw[ak,bU];omega),λpA HA a7 sA eA=>?_⟩;have ew:((Str.empty::bG U).take a6.length)=(Str.empty::bG bk)++[t']:=by
  rw[eb,V3,MK (by simp),qi]
 rw[ew]at KR;have nn:∀y∈(Str.empty::bG bk)++[t'],dR y:=λy hy=>by
  rcases bR.mp hy with z | z
  . obtain⟨_,_,_,k,_⟩:=li y z;exact k.txt
  rw[bw.mp z];exact O.tx.txt
 have a4:HA pA=some (.lst (((Str.empty::bG bk)++[t']).map V.str)):=by rw[dw];exact eA
 refine⟨dS _,dS _,iT (aa.of ((s9.trans sA) _ _ KR)),iT (aa.of a4),VW 8 nn,VW 8 nn,λbb hb=>?_⟩;rw[hb.mpr rfl];exact q t' aX aL aM cb U HA (((D6.same V4).same s9).same sA) V0 ll (V1.trans (k9.trans (.of sA)))
variable {K:Fg}{H:Hp}{xs:Lv}{ps:Lp}{Q:Addr->Hp->Prop}{E:XK}
theorem arA{t:Addr}:msk [t] H t=none:=by
 unfold msk;rw[am bM]
theorem xx{t:Addr}(n:q≠t):msk [t] H q=H q:=by
 unfold msk;rw[ag (by simpa using n)]
theorem arB(n:∃φ,H Pt=some (.ext φ))(h:aa K H a xs):aa K (msk [Pt] H) a xs:=by
 obtain⟨φ,n⟩:=n
 rcases h with(h | ⟨o,h⟩) | h
 . exact .inl (.inl (by rw[xx (be h n (by intro z;cases z))];exact h))
 . exact .inl (.inr ⟨o,by rw[xx (be h n (by intro z;cases z))];exact h⟩)
 exact .inr h
theorem arC:Ai xs ps Str.empty []:=⟨[],[],[],[],⟨[],[],[],wY,wY,wY,Ae⟩,Ae.so,⟨[],[],⟨.refl _,λp j=>nomatch j⟩,SF,λ_ _=>rfl,λc z=>z.elim λp G=>G.elim λj _=>nomatch j⟩,rfl⟩
theorem arF{fD:List (ao×V)}{tr:Tr}(hw:Paired (dM H) fD tr){kvs:List (ao×V)}{fs:Tr}(ok:eD fs)(hs:∀f∈fs,f∈tr)(h:Paired (dM H) kvs fs):∃j,Paired (q9 K H) kvs j/\∀p∈j,p∈fD:=by
 induction h with
 | nil=>exact⟨[],.nil,λ_ h=>nomatch h⟩
 | @cons kv f kvs fs r t ih=>
  obtain⟨j,h1,h2⟩:=ih (λg z=>ok g (bY _ z)) (λg z=>hs g (bY _ z));obtain⟨i,hi⟩:=List.mem_iff_getElem?.mp (hs f bM);obtain⟨kw,Y,J,l2,U,c2⟩:=yU hw hi;obtain⟨G,l1,O,c1⟩:=r;refine⟨kw::j,.cons ⟨G.trans J.symm,dS f.2,?_,?_,Ts (ok f bM)⟩ h1,λp hp=>?_⟩
  . rw[O];exact iT (aa.of c1)
  . rw[U];exact iT (aa.of c2)
  rcases bc.mp hp with e | hp
  . rw[e];exact cX Y
  exact h2 p hp
theorem DU.keepT{t:Str}{ch:Ch}{cs:Cs}{ow:Ow}{fs:Tr}{bk:Bk}{H':Hp}(h:DU D x dx d b gg Pt xs ps t ch cs ow fs bk H)(k:lB Pt H H')(tb:TabSt H' Pt fL fq):DU D x dx d b gg Pt xs ps t ch cs ow fs bk H':=⟨h.dk.keepT h.tb tb k,h.la,h.tx,h.tk,h.up,h.fu,h.ln,tb⟩
theorem arH(Y:H a=some (.lst xs))(O:eB C H xs ps)(G:ps.length<=100)(rK:(ps.map gN).Nodup)(q:∀x H',H x=none->ac H H'->jv S H' (.ref x) xs ps->Q x H') :
 ∀x dx,H x=none->H dx=none->dx≠x->Jc K C S (.ref x::([.ref a]++[])) (ah (ah H dx (.own x)) x (.ins S dx [])) (λv H2=>v=.non/\Q x H2) E:=by
 intro x dx j J nx;have z:ac H (ah (ah H dx (.own x)) x (.ins S dx [])):=dQ (fX J) j;refine⟨aE,z _ _ Y,O.same z,G,rK,λH' keep U=>⟨rfl,q x H' j (λb o e=>keep b o (z _ _ e) (aK e j)) U⟩⟩
theorem arI(q:∀x dx d b H',H x=none->H d=none->H b=none->ac H H'->Dk C x dx d b x [] [] H'->Q x H') :
 ∀x dx,H x=none->H dx=none->dx≠x->JJ C [.ref x] (ah (ah H dx (.own x)) x (.ins C dx [])) (λv H2=>v=.non/\Q x H2) E:=by
 intro x dx j J nx;have G:ac H (ah (ah H dx (.own x)) x (.ins C dx [])):=dQ (fX J) j;exact⟨aE,λd b H' nd U h1 h2 O k=>⟨rfl,q x dx d b H' j (G.free nd) (G.free U) (λp o e=>k p o (G _ _ e) (aK e j)) ⟨h1,⟨[],h2,.nil⟩,⟨[],O,.nil⟩,kH,(λf z=>nomatch z),λ_=>rfl,(λe z=>nomatch z),⟨_,h1⟩⟩⟩⟩
theorem jv.off{v:V}(n:∃φ,H Pt=some (.ext φ))(h:jv S H v xs ps):jv S (msk [Pt] H) v xs ps:=by
 obtain⟨φ,n⟩:=n;obtain⟨a,dx,fl,d,kvs,e,h1,h2,G,j,J⟩:=h;exact⟨a,dx,fl,d,kvs,e,by rw[xx (be h1 n (by intro z;cases z))];exact h1,h2,G,by rw[xx (be j n (by intro z;cases z))];exact j,J⟩
theorem arJ{J:V}(q:∀h j H',H h=none->ac H H'->H' h=some (.ins Hc j (xp J x))->Q h H') :
 ∀h j,H h=none->H j=none->j≠h->Kz Hc (.ref h::([J,.ref x]++[])) (ah (ah H j (.own h)) h (.ins Hc j [])) (λv H2=>v=.non/\Q h H2) E:=by
 intro h j G hd nx;have O:ac H (ah (ah H j (.own h)) h (.ins Hc j [])):=dQ (fX hd) G;exact⟨aE,λH' e k=>⟨rfl,q h j H' G (λp o z=>k p o (O _ _ z) (aK z G)) e⟩⟩
inductive Ap (K:Fg) (Pt:Addr):Sp where
 | mk {H:Hp}{Q:VK}{E:XK}{a:Addr}{ns:List Int} (_:aa K H a (ns.map V.int)) (_:ns.length<=63) (_:TabSt H Pt fL fq) (_:∀H',TabSt H' Pt fL fq->Q (.bl true) H'):Ap K Pt [.ref a] H Q E
theorem vc:aN [ayJ,ayA,ayU,"_law_shelf",azh,ayQ,ayz] [ayJ] (av uy):=aU
theorem arK(G:Pg K mg base Pt):aA P w K mg base aJ 13 G.Law.f G.Law.fd [ayJ] (Ap K Pt):=by
 refine G.Law.u.ok vc (λvs H Q E h=>?_) (λau Ar outer s H vs Q E J h=>?_)
 . cases h;rfl
 have Am:(Ar.deeper (PyProof.Rows.envOfC "law" (av uy) s.heap.objs.size G.Law.f au)).units+65<cLine:=by have:=J.un;omega
 refine qX ?_;intros;obtain @⟨_,_,_,a,is,hS,bx,bh,q⟩:=h;refine⟨_,(ai (oP (i:=1) [azk] [ayJ] [0] vc.nd rfl rfl dJ rfl (oE rfl G.B.range (aq (aw fO aj (aw bZ (aB (wE G) J rfl (aI (pv 0) aj)) aj)))) (λ_ _ _ _=>(bf (i:=0) (show List.Nodup ([azk,ayJ]:Ls) by decide +kernel) rfl (Or.inl rfl))) (λ_ _ _ _=>fY) (λ_ _ _ _=>(aB (ajJ G) J rfl (aI (aB (wE G) J rfl (aI (pv 1) aj)) (pv 0)))))
  (ai (aH (i:=2) vc.nd rfl (Or.inl rfl) (aB (al2 G) J rfl (dv (pv 0) (pv 1) aj)))
  (ai (aH (i:=3) vc.nd rfl (Or.inl rfl) (tJ G.MSIn (up (alx G)) J rfl G.US.mgC G.SIn.b .nil cG (aq (pv 2))))
  (ai (aH (i:=4) vc.nd rfl (Or.inl rfl) (abn G.MDIn (up (amx G)) J rfl G.UD.mgC G.DIn.b .nil cG))
  (ai (bT (aB (DK (DE G)) J rfl (dv (pv 3) (pv 4) (aB (Vl G) J rfl (dv (pv 2) (pv 1) (aB (wE G) J rfl (aI (pv 0) aj)))))))
  (ai (bT (aB (DK (DE G)) J rfl (dv (pv 3) (pv 4) (aB (Vl G) J rfl (dv (pv 2) (pv 1) (aB (wE G) J rfl (aI (pv 0) aj)))))))
  (ai (aH (i:=5) vc.nd rfl (Or.inl rfl) (tJ G.MHIn (up (aqp G)) J rfl G.UH.mgC G.HIn.b .nil cG (aI (pv 3) (pv 4))))
  (ai (eV eG rfl (cL (fZ [ayP] [ayJ] [0] dJ rfl (E2 rfl G.B.range (aI aj aj)) (λ_ _ _ _=>(bf (i:=0) (show List.Nodup ([ayP,ayJ]:Ls) by decide +kernel) rfl (Or.inl rfl))) (λ_ _ _ _=>fY) (λ_ _ _ _=>(aB (wE G) J rfl (aI (pv 1) (pv 0)))))) (bf (i:=6) vc.nd rfl (Or.inl rfl))
  (ai (bV (oq (iM (aB (ars G) J rfl (vN (pv 5) (pv 4) (pv 1) (pv 6)))))
   (al (aQ tm)) cZ)
   (al (bV (bW (aq3 Am) (fh (pv 4) G.UD.cl G.UD.mFNo (up (Tu G)) J G.FNo.b .nil cG) (aB (Ka G) J rfl (aI (pv 3) (fh (pv 5) G.UH.cl G.UH.mSt (up (xq G)) J G.HSt.b .nil cG))) (bC _))
   (al (aQ tm)) cZ))))
  (al (aQ tm)))))))))),?_⟩
 refine PR ?_;intro dD sS u9 u8 u7 u6 u5 u4 u3 u2;refine⟨by omega,hS,λc0=>?_⟩;refine⟨(by show(0:Int)<4;decide),by omega,by omega,?_⟩;refine vF (σ0:=[none,some (.ref a)]) (λZ=>∃v,Z=[v,some (.ref a)]) (λi ys _=>∃xs:Ls,ys=xs.map V.str/\xs.length=i/\∀x∈xs,bQ x) ⟨_,rfl⟩ (λ_ _=>⟨[],rfl,rfl,λx hx=>nomatch hx⟩) ?_ ?_
 . intro D0 i ys Z H2 k hD hi fJ hd hs gW hk;refine bu ?_;intro tT;obtain⟨v,rfl⟩:=fJ;obtain⟨xs,rfl,hx,b0⟩:=gW;refine⟨by omega,hs.seq hS,λc1=>⟨⟨λx H3 lx s3=>?_⟩⟩⟩;refine hk _ _ _ ⟨_,rfl⟩ s3 (bP (by rw[ak];omega)) ⟨xs++[x],tY xs x,by rw[bI,hx];rfl,λy hy=>?_⟩
   rcases bR.mp hy with z | z
   . exact b0 y z
   rw[bw.mp z];exact lx
 intro nA ys H1 nD hn s1 gX;refine bu ?_;intro tT;obtain⟨ns,rfl,nl,j7⟩:=gX;have n1:1<=ns.length:=by omega
 have n4:ns.length<=4:=by omega
 refine⟨a,nA,is,ns,rfl,s1.seq hS,hn,n1,n4,λfa H2 xs ps _ s2 e2 bJ ap=>?_⟩;have p6:=ap.len;refine⟨?_⟩;dsimp only[List.set,fg];refine arH (K:=K) (C:=G.C) (S:=G.S) e2 bJ (by omega) ap.nd λsh H3 n3 s3 aC=>?_;have V5:=bJ.same s3
 try dsimp only[List.set,fg]
 refine arI (Q:=λx H1=>_) λx dx d b H4 nx nd nb s4 sw=>?_;have d6:ac H H3:=s1.trans (s2.trans s3);have jO:TabSt H3 Pt fL fq:=bh.same d6;have DI:∀p∈ps,bQ p.nm/\gc p.ms:=λp hp=>⟨j7 _ (ap.nms p hp),ap.mks p hp⟩;have f4:=s4 _ _ (s3 _ _ e2);have SU:=s4 _ _ (s3 _ _ (s2 _ _ hn));have nU:=jO.same s4;refine⟨by omega,(d6.trans s4).seq hS,λc9=>?_⟩;refine⟨f4,V5.same s4,by omega,DI,SU,n1,n4,j7,λhv ch cs ow Y s5 aO so V6 o2 kn=>?_⟩;have h5:=aO [x,d,b,Pt] (sw.busy nU);have rW:=sw.same s5;have jb:=nU.same s5;have sR:ac (msk [Pt] H3) (msk [x,d,b,Pt] Y):=λq o e=>by
  have e3:=aV q o e;have np:q≠Pt:=λz=>by rw[z,arA]at e;cases e
  refine cC (λz=>?_) (s5 _ _ (s4 q o e3));simp only[bc,fz,fA]at z
  rcases z with z | z | z | z
  . rw[z,nx]at e3;cases e3
  . rw[z,nd]at e3;cases e3
  . rw[z,nb]at e3;cases e3
  exact np z
 have a4:∀{v:V}{p:cD},ju G.C H3 v p->ju G.C (msk [Pt] H3) v p:=λz=>z.off λb' hb o eo=>by
  obtain⟨φ,w⟩:=TabSt.at jO;rw[bw.mp hb,w]at eo;cases eo;exact⟨(by intro _ _ _ z;cases z),(by intro _ z;cases z),(by intro _ z;cases z)⟩
 have W5:lH G.C G.S (msk [x,d,b,Pt] Y) (.ref sh) xs ps ns:=⟨(jv.off (TabSt.at jO) aC).same sR,eB.same sR (aF V5 λ_ _=>a4),ap,n4,j7⟩;have aR:aa K (msk [x,d,b,Pt] Y) a (is.map V.int):=sR.seq (arB (TabSt.at jO) (d6.seq hS));have fR:msk [x,d,b,Pt] Y fa=some (.lst xs):=sR _ _ (by obtain⟨φ,w⟩:=TabSt.at jO;rw[xx (be (s3 _ _ e2) w (by intro z;cases z))];exact s3 _ _ e2);have nR:msk [x,d,b,Pt] Y nA=some (.lst (ns.map V.str)):=sR _ _ (by obtain⟨φ,w⟩:=TabSt.at jO;rw[xx (be ((s2.trans s3) _ _ hn) w (by intro z;cases z))];exact(s2.trans s3) _ _ hn);have bl:pL xs ps [Str.empty]:=λt ht=>⟨[],[],[],by rw[bw.mp ht];exact Ae⟩;have b4:LI xs ps ns 0 []:=λt ht=>⟨[],[],[],by rw[bw.mp ht];exact Ae,(λ_ h=>nomatch h),by decide⟩;refine⟨W5,h5,so,⟨rW,rfl,Ae,bl,rfl,arC,by decide,jb⟩,by decide,λt0 aX aL aM bt ab H6 r1 r2 r3 D6 l0 bd k6=>?_⟩;have c7:=r3.pm.length_eq;have b5:=b4.step (j:=0) bd D6.tx (λe he=>kn e (r2.pm.mem_iff.mp he)) (by omega);have W6:=W5.same k6.msk;have c4:ab.length<=0+10:=l0;refine⟨by omega,aV.seq (k6.msk.seq aR),λbn=>?_⟩;refine⟨aV _ _ (k6.msk _ _ fR),W6.pc.same aV,by omega,DI,aV _ _ (k6.msk _ _ nR),n1,n4,j7,λc3 bp br ca H7 s7 a5 U bm c6 b3=>?_⟩;refine⟨W6.same (di s7),a5 _ D6.busy,U,D6.same s7,by omega,λt1 DS DT DW a' pH H8 q1 q2 q3 D8 l1 zN k8=>?_⟩;have c8:=q3.pm.length_eq;have b6:=b5.step (j:=0) zN D8.tx (λe he=>b3 e (q2.pm.mem_iff.mp he)) (by omega);have b2:bX x d b Pt Y H8:=k6.trans ((bX.of s7).trans k8);refine⟨⟨?_⟩⟩;dsimp only[List.set,fg,qi,AZ];refine arJ (Hc:=G.Hc) λh bB H9 nh s9 e9=>?_;have k9:bX x d b Pt Y H9:=b2.trans (.of s9);have D9:=D8.same s9;have W9:HW G.Hc G.C G.S h bB x (.ref sh) xs ps ns (msk [x,d,b,Pt] H9):=⟨cC (D8.busy.free nh) e9,W5.same k9.msk⟩;refine⟨⟨by omega,by omega,by omega,by omega⟩,?_⟩;refine vF (σ0:=[none,some (.ref a)]) (λZ=>∃v,Z=[v,some (.ref a)]) (λi ys _=>ys.length=i/\∀y∈ys,∃n:Int,y=.int n) ⟨_,rfl⟩ (λ_ _=>⟨rfl,λ_ h=>nomatch h⟩) ?_ ?_
 . rintro D0 i ys Z H2 k hD hi ⟨v,rfl⟩ bz hs ⟨hx,hy⟩ eg;refine⟨by omega,hs.seq (aV.seq (k9.msk.seq aR)),λn=>?_⟩;refine eg _ _ _ ⟨_,rfl⟩ (ac.refl _) (bP (by omega)) ⟨by rw[bI,hx];rfl,λy hm=>?_⟩
   rcases bR.mp hm with hm | hm
   . exact hy y hm
   exact⟨n,bw.mp hm⟩
 rintro cl ys HA nc mq sA ⟨hl,hy⟩;have c2:ys.length=8:=hl;have DA:=D9.same sA;have WA:=W9.same (di sA);have bb:=di sA _ _ (k9.msk _ _ nR);have af:msk [x,d,b,Pt] HA cl=some (.lst ys):=cC (D9.busy.free nc) mq;refine⟨⟨_,aa.of mq⟩,?_⟩;refine iN (xs:=ys) (λi Z H'=>∃u t Ea Eb Ec fs bk,Z=[some (.ref a),some (.ref nA),some (.ref fa),some (.ref sh),some (.ref x),some (.ref h),u]/\DU G.D x dx d b x Pt xs ps t Ea Eb Ec fs bk H'/\bk.length<=20+10 * i/\LI xs ps ns i bk/\bX x d b Pt HA H')
  ⟨none,t1,DS,DT,DW,a',pH,rfl,DA,by omega,b6,.of (ac.refl _)⟩ ?_ ?_ ?_
 . rintro i Z H' hi ⟨u,t,Ea,Eb,Ec,fs,bk,rfl,_,_,_,k⟩;exact aa.of (aV _ _ (k.msk _ _ af))
 . intro i y Z H' V7 hQ;refine bu ?_;intro tT;obtain⟨u,t,Ea,Eb,Ec,fs,bk,rfl,KS,lb,li,KU⟩:=hQ;obtain⟨bo,rfl⟩:=hy y (cX V7);have b_:=(cT.mp V7).1;refine ug (g:=jX _) ?_;intro eQ sQ;dsimp only[jX];refine lq ?_;intro dE sE uE;refine⟨WA.same KU.msk,KS,by omega,KU.msk _ _ bb,n1,li,by omega,λt2 V8 an V6 V9 wV wP xy b7 l2 b1=>⟨eW ?_⟩⟩;have a1:=KU.trans b1;obtain⟨kd,d1,d2⟩:=id xy.dk.fi;refine⟨xy.dk.ob,rfl,xy.dk.ob,d1,aF d2 λ_ _=>Lu.du,xy.dk.nd,by have:=xy.ln;omega,λr a0 kr nr ci ax a2=>?_⟩;have Wa:=xy.same ci;have Wb:bX x d b Pt HA a0:=a1.trans (.of ci);have Wc:=aV _ _ ((WA.same Wb.msk).ob);refine⟨Wc,rfl,Wc,Wa,by omega,λv1 Wd fK g9=>?_⟩;have g9:=g9 [] λb z=>nomatch z
   rw[zv]at g9;have O:=Wa.same fK;have We:bX x d b Pt HA Wd:=Wb.trans (.of fK);have xz:=((WA.wl).same We.msk).same aV;have U:=O.tx.so;have cB:eY xs ps V8:=⟨U.ok.d1,U.va⟩;refine⟨xz.sh,xz.pc,xz.pcok,xz.n4,g9,U.va,cB.len xz.ap xz.n4,U.o2,U.ok.okO,λe he=>(U.ok.ok.cs e he).2.ln,O.tb,λt5 KW kvs tr c5 kT a3 az Ah xb lT nn Ku=>?_⟩;have lk:=O.fu.look ap O.tx Ku;have keep:∀{q:Addr}{o:HO},Wd q=some o->(∀φ,o≠.ext φ)->KW q=some o:=λe n=>kT _ _ e (TabSt.ne O.tb e n);have pk:Paired (dM KW) kr V9:=aF a2 λkv f a6=>a6.elim λz1 a7=>a7.elim λl a8=>a8.elim λz2 a9=>a9.elim λ_ z3=>⟨z1,l,z2,keep (fK _ _ z3) (by intro φ z;cases z)⟩;have pw:Paired (dM KW) kvs tr:=aF Ah λ_ _ z=>z.du;obtain⟨ke,Kf,KH⟩:=arF (K:=K) pw O.dk.ok (λf hf=>nJ (by rw[<-lk];exact uN O.dk.nd hf)) pk;refine⟨r,t5,kr,ke,kvs,rfl,rfl,keep (fK _ _ ax) (by intro φ z;cases z),az,Kf,KH,?_,amF pw xb,⟨eW ?_⟩⟩
   . rw[bv pk,bv pw];exact TF O.dk.nd xb λk=>congrFun lk k
   exact⟨_,t2,V8,an,V6,V9,wV,rfl,O.keepT kT a3,by omega,b7,We.trans (.ofT kT)⟩
 rintro Z H' ⟨u,t,Ea,Eb,Ec,fs,bk,rfl,KS,_⟩;exact q H' KS.tb
end
end K72
set_option maxHeartbeats 8000000
namespace K72
variable {K:Fg}{h:Heap}{mg:Mv}{f0 f1:Addr}{pR pT Aq As:Oa}{pU Au:Array (Option Value)}{pV pW pX pY jP pZ Aw Ax Ay jr sI Az:Value}
def Wf(K:Fg)(mg:Mv):Prop:=∃C j z,Txt K mg C/\Mk K C j/\cn K "__init__" "Parcel.__init__" ux j z
theorem clsC_mk{C:Addr}(X:K.In h)(G:h.Ns mainGlobals mg)
 (z:W.nsIn K mainGlobals "Parcel"=some (some (.ref C))) (j:W.findIn K (.ref C) "__init__"=some (some (.ref f0))) (J:W.isFn K (.ref f0)=true)
 (U:K.lookup f0=some ⟨pV,pR,.func (W.fnOf "__init__" "Parcel.__init__" (df ux) (cF ux) (av ux) .none pW pX pY pT jP pZ),pU⟩) (c0:W.codeIn K jP "Parcel.__init__"=true) (k0:W.keepIn K (.ref f0)=true)
 (pg:W.plainGet K C Str.empty=true) (hd:W.hasDictIn K C=true) (po:W.plainOver K C=true) (sa:W.findIn K (.ref C) "__setattr__"=some (some (.builtin "object.__setattr__"))) (mk:W.makesIn K C=true) (O:W.keepIn K (.ref C)=true) (Y:W.findIn K (.ref C) "name"=some none) (n1:W.findIn K (.ref C) "make"=some none) (n2:W.findIn K (.ref C) "rank"=some none) (n3:W.findIn K (.ref C) "files"=some none) (n4:W.findIn K (.ref C) "needs"=some none) (n5:W.findIn K (.ref C) "shuts"=some none) (n6:W.findIn K (.ref C) "offers"=some none):Wf K mg:=
 ⟨C,f0,_,⟨⟨pg,hd,po,sa⟩,Y,n1,n2,n3,n4,n5,n6,jS X G z⟩,⟨mk,j,J,O⟩,fW U c0 k0⟩
def Wg(K:Fg)(mg:Mv):Prop:=∃S j J z G,Rz K mg S z/\Mk K S j/\cn K "__init__" "Shelf.__init__" v4 j J/\cn K "parcel" "Shelf.parcel" v5 z G
theorem clsS_mk{S:Addr}(X:K.In h)(G:h.Ns mainGlobals mg)
 (J:W.nsIn K mainGlobals "Shelf"=some (some (.ref S))) (j:W.findIn K (.ref S) "__init__"=some (some (.ref f0))) (O:W.isFn K (.ref f0)=true)
 (l0:K.lookup f0=some ⟨pV,pR,.func (W.fnOf "__init__" "Shelf.__init__" (df v4) (cF v4) (av v4) .none pW pX pY pT jP pZ),pU⟩) (c0:W.codeIn K jP "Shelf.__init__"=true) (k0:W.keepIn K (.ref f0)=true) (z:W.findIn K (.ref S) "parcel"=some (some (.ref f1))) (U:W.isFn K (.ref f1)=true)
 (l1:K.lookup f1=some ⟨Aw,Aq,.func (W.fnOf "parcel" "Shelf.parcel" (df v5) (cF v5) (av v5) .none Ax Ay jr As sI Az),Au⟩) (c1:W.codeIn K sI "Shelf.parcel"=true) (k1:W.keepIn K (.ref f1)=true)
 (pg:W.plainGet K S Str.empty=true) (hd:W.hasDictIn K S=true) (po:W.plainOver K S=true) (sa:W.findIn K (.ref S) "__setattr__"=some (some (.builtin "object.__setattr__"))) (mk:W.makesIn K S=true) (Y:W.keepIn K (.ref S)=true) (n0:W.findIn K (.ref S) "shelved"=some none):Wg K mg:=
 ⟨S,f0,_,f1,_,⟨⟨pg,hd,po,sa⟩,n0,⟨z,U,k1⟩,jS X G J⟩,⟨mk,j,O,Y⟩,fW l0 c0 k0,fW l1 c1 k1⟩
def Wh(K:Fg)(mg:Mv):Prop:=∃T j z,RA K mg T/\Mk K T j/\cn K "__init__" "Stand.__init__" v6 j z
theorem clsT_mk{T:Addr}(X:K.In h)(G:h.Ns mainGlobals mg)
 (z:W.nsIn K mainGlobals "Stand"=some (some (.ref T))) (j:W.findIn K (.ref T) "__init__"=some (some (.ref f0))) (J:W.isFn K (.ref f0)=true)
 (U:K.lookup f0=some ⟨pV,pR,.func (W.fnOf "__init__" "Stand.__init__" (df v6) (cF v6) (av v6) .none pW pX pY pT jP pZ),pU⟩) (c0:W.codeIn K jP "Stand.__init__"=true) (k0:W.keepIn K (.ref f0)=true)
 (pg:W.plainGet K T Str.empty=true) (hd:W.hasDictIn K T=true) (po:W.plainOver K T=true) (sa:W.findIn K (.ref T) "__setattr__"=some (some (.builtin "object.__setattr__"))) (mk:W.makesIn K T=true) (O:W.keepIn K (.ref T)=true) (Y:W.findIn K (.ref T) "chosen"=some none) (n1:W.findIn K (.ref T) "choices"=some none) (n2:W.findIn K (.ref T) "own"=some none):Wh K mg:=
 ⟨T,f0,_,⟨⟨pg,hd,po,sa⟩,Y,n1,n2,jS X G z⟩,⟨mk,j,J,O⟩,fW U c0 k0⟩
def Wi(K:Fg)(mg:Mv):Prop:=∃D j K3 G K4 J K6 O K7 U K8 Y K9 wz La z Lc,RB K mg D G J O U Y wz z/\Mk K D j/\cn K "__init__" "Disk.__init__" v7 j K3/\cn K "files_now" "Disk.files_now" v8 G K4/\cn K "book_now" "Disk.book_now" v9 J K6/\cn K "put" "Disk.put" wa O K7/\cn K "erase" "Disk.erase" wb U K8/\cn K "note" "Disk.note" wc Y K9/\cn K "allow" "Disk.allow" zd wz La/\cn K "take_write" "Disk.take_write" we z Lc
theorem clsD_mk{D j z J O U Y:Addr}{Ld Le:Oa}{ur:Array (Option Value)}{Lf Lg Lh ku AA Li:Value}{uR Lj:Oa}{Lk:Array (Option Value)}{Lq Lr Lx jt AB Ly:Value}{Lz LA:Oa}{LB:Array (Option Value)}{LC LD LJ LK AC LL:Value}{LN LO:Oa}{LP:Array (Option Value)}{LQ LR LS LU AD LV:Value}{LW LX:Oa}{LY:Array (Option Value)}{LZ L0 L1 L3 AE L4:Value}{L6 L7:Oa}{L8:Array (Option Value)}{L9 Ma Mb Mc AF Me:Value}(X:K.In h)(G:h.Ns mainGlobals mg)
 (aC:W.nsIn K mainGlobals "Disk"=some (some (.ref D))) (a0:W.findIn K (.ref D) "__init__"=some (some (.ref f0))) (i0:W.isFn K (.ref f0)=true)
 (l0:K.lookup f0=some ⟨pV,pR,.func (W.fnOf "__init__" "Disk.__init__" (df v7) (cF v7) (av v7) .none pW pX pY pT jP pZ),pU⟩) (c0:W.codeIn K jP "Disk.__init__"=true) (k0:W.keepIn K (.ref f0)=true) (a1:W.findIn K (.ref D) "files_now"=some (some (.ref f1))) (i1:W.isFn K (.ref f1)=true)
 (l1:K.lookup f1=some ⟨Aw,Aq,.func (W.fnOf "files_now" "Disk.files_now" (df v8) (cF v8) (av v8) .none Ax Ay jr As sI Az),Au⟩) (c1:W.codeIn K sI "Disk.files_now"=true) (k1:W.keepIn K (.ref f1)=true) (a2:W.findIn K (.ref D) "book_now"=some (some (.ref j))) (i2:W.isFn K (.ref j)=true)
 (l2:K.lookup j=some ⟨Lf,Ld,.func (W.fnOf "book_now" "Disk.book_now" (df v9) (cF v9) (av v9) .none Lg Lh ku Le AA Li),ur⟩) (c2:W.codeIn K AA "Disk.book_now"=true) (k2:W.keepIn K (.ref j)=true) (a3:W.findIn K (.ref D) "put"=some (some (.ref z))) (i3:W.isFn K (.ref z)=true)
 (l3:K.lookup z=some ⟨Lq,uR,.func (W.fnOf "put" "Disk.put" (df wa) (cF wa) (av wa) .none Lr Lx jt Lj AB Ly),Lk⟩) (c3:W.codeIn K AB "Disk.put"=true) (k3:W.keepIn K (.ref z)=true) (a4:W.findIn K (.ref D) "erase"=some (some (.ref J))) (i4:W.isFn K (.ref J)=true)
 (l4:K.lookup J=some ⟨LC,Lz,.func (W.fnOf "erase" "Disk.erase" (df wb) (cF wb) (av wb) .none LD LJ LK LA AC LL),LB⟩) (c4:W.codeIn K AC "Disk.erase"=true) (k4:W.keepIn K (.ref J)=true) (a5:W.findIn K (.ref D) "note"=some (some (.ref O))) (i5:W.isFn K (.ref O)=true)
 (l5:K.lookup O=some ⟨LQ,LN,.func (W.fnOf "note" "Disk.note" (df wc) (cF wc) (av wc) .none LR LS LU LO AD LV),LP⟩) (c5:W.codeIn K AD "Disk.note"=true) (k5:W.keepIn K (.ref O)=true) (a6:W.findIn K (.ref D) "allow"=some (some (.ref U))) (i6:W.isFn K (.ref U)=true)
 (l6:K.lookup U=some ⟨LZ,LW,.func (W.fnOf "allow" "Disk.allow" (df zd) (cF zd) (av zd) .none L0 L1 L3 LX AE L4),LY⟩) (c6:W.codeIn K AE "Disk.allow"=true) (k6:W.keepIn K (.ref U)=true) (a7:W.findIn K (.ref D) "take_write"=some (some (.ref Y))) (i7:W.isFn K (.ref Y)=true)
 (l7:K.lookup Y=some ⟨L9,L6,.func (W.fnOf "take_write" "Disk.take_write" (df we) (cF we) (av we) .none Ma Mb Mc L7 AF Me),L8⟩) (c7:W.codeIn K AF "Disk.take_write"=true) (k7:W.keepIn K (.ref Y)=true)
 (pg:W.plainGet K D Str.empty=true) (hd:W.hasDictIn K D=true) (po:W.plainOver K D=true) (sa:W.findIn K (.ref D) "__setattr__"=some (some (.builtin "object.__setattr__"))) (mk:W.makesIn K D=true) (kc:W.keepIn K (.ref D)=true) (n0:W.findIn K (.ref D) "files"=some none) (n1:W.findIn K (.ref D) "book"=some none) (n2:W.findIn K (.ref D) "left"=some none):Wi K mg:=
 ⟨D,f0,_,f1,_,j,_,z,_,J,_,O,_,U,_,Y,_,⟨⟨pg,hd,po,sa⟩,n0,n1,n2,⟨a1,i1,k1⟩,⟨a2,i2,k2⟩,⟨a3,i3,k3⟩,⟨a4,i4,k4⟩,⟨a5,i5,k5⟩,⟨a6,i6,k6⟩,⟨a7,i7,k7⟩,jS X G aC⟩,⟨mk,a0,i0,kc⟩,fW l0 c0 k0,fW l1 c1 k1,fW l2 c2 k2,fW l3 c3 k3,fW l4 c4 k4,fW l5 c5 k5,fW l6 c6 k6,fW l7 c7 k7⟩
def Wj(K:Fg)(mg:Mv):Prop:=∃A j Mf z Mg G Mh J Mi O Mj U Ml Y Mm Ep Mn Es Mo,RC K mg A z G J O U Y Ep Es/\Mk K A j/\cn K "__init__" "House.__init__" wg j Mf/\cn K "up" "House.up" wj z Mg/\cn K "stand" "House.stand" wk G Mh/\cn K "formers" "House.formers" wm J Mi/\cn K "stand_kept" "House.stand_kept" wn O Mj/\cn K "go_to" "House.go_to" wo U Ml/\cn K "edit" "House.edit" wp Y Mm/\cn K "choose" "House.choose" wq Ep Mn/\cn K "back" "House.back" wt Es Mo
theorem clsA_mk{A j z J O U Y f8:Addr}{Ld Le:Oa}{ur:Array (Option Value)}{Lf Lg Lh ku AA Li:Value}{uR Lj:Oa}{Lk:Array (Option Value)}{Lq Lr Lx jt AB Ly:Value}{Lz LA:Oa}{LB:Array (Option Value)}{LC LD LJ LK AC LL:Value}{LN LO:Oa}{LP:Array (Option Value)}{LQ LR LS LU AD LV:Value}{LW LX:Oa}{LY:Array (Option Value)}{LZ L0 L1 L3 AE L4:Value}{L6 L7:Oa}{L8:Array (Option Value)}{L9 Ma Mb Mc AF Me:Value}{au a9:Oa}{az:Array (Option Value)}{ap an af ax Wk ab:Value}(X:K.In h)(G:h.Ns mainGlobals mg)
 (aC:W.nsIn K mainGlobals "House"=some (some (.ref A))) (a0:W.findIn K (.ref A) "__init__"=some (some (.ref f0))) (i0:W.isFn K (.ref f0)=true)
 (l0:K.lookup f0=some ⟨pV,pR,.func (W.fnOf "__init__" "House.__init__" (df wg) (cF wg) (av wg) .none pW pX pY pT jP pZ),pU⟩) (c0:W.codeIn K jP "House.__init__"=true) (k0:W.keepIn K (.ref f0)=true) (a1:W.findIn K (.ref A) "up"=some (some (.ref f1))) (i1:W.isFn K (.ref f1)=true)
 (l1:K.lookup f1=some ⟨Aw,Aq,.func (W.fnOf "up" "House.up" (df wj) (cF wj) (av wj) .none Ax Ay jr As sI Az),Au⟩) (c1:W.codeIn K sI "House.up"=true) (k1:W.keepIn K (.ref f1)=true) (a2:W.findIn K (.ref A) "stand"=some (some (.ref j))) (i2:W.isFn K (.ref j)=true)
 (l2:K.lookup j=some ⟨Lf,Ld,.func (W.fnOf "stand" "House.stand" (df wk) (cF wk) (av wk) .none Lg Lh ku Le AA Li),ur⟩) (c2:W.codeIn K AA "House.stand"=true) (k2:W.keepIn K (.ref j)=true) (a3:W.findIn K (.ref A) "formers"=some (some (.ref z))) (i3:W.isFn K (.ref z)=true)
 (l3:K.lookup z=some ⟨Lq,uR,.func (W.fnOf "formers" "House.formers" (df wm) (cF wm) (av wm) .none Lr Lx jt Lj AB Ly),Lk⟩) (c3:W.codeIn K AB "House.formers"=true) (k3:W.keepIn K (.ref z)=true) (a4:W.findIn K (.ref A) "stand_kept"=some (some (.ref J))) (i4:W.isFn K (.ref J)=true)
 (l4:K.lookup J=some ⟨LC,Lz,.func (W.fnOf "stand_kept" "House.stand_kept" (df wn) (cF wn) (av wn) .none LD LJ LK LA AC LL),LB⟩) (c4:W.codeIn K AC "House.stand_kept"=true) (k4:W.keepIn K (.ref J)=true) (a5:W.findIn K (.ref A) "go_to"=some (some (.ref O))) (i5:W.isFn K (.ref O)=true)
 (l5:K.lookup O=some ⟨LQ,LN,.func (W.fnOf "go_to" "House.go_to" (df wo) (cF wo) (av wo) .none LR LS LU LO AD LV),LP⟩) (c5:W.codeIn K AD "House.go_to"=true) (k5:W.keepIn K (.ref O)=true) (a6:W.findIn K (.ref A) "edit"=some (some (.ref U))) (i6:W.isFn K (.ref U)=true)
 (l6:K.lookup U=some ⟨LZ,LW,.func (W.fnOf "edit" "House.edit" (df wp) (cF wp) (av wp) .none L0 L1 L3 LX AE L4),LY⟩) (c6:W.codeIn K AE "House.edit"=true) (k6:W.keepIn K (.ref U)=true) (a7:W.findIn K (.ref A) "choose"=some (some (.ref Y))) (i7:W.isFn K (.ref Y)=true)
 (l7:K.lookup Y=some ⟨L9,L6,.func (W.fnOf "choose" "House.choose" (df wq) (cF wq) (av wq) .none Ma Mb Mc L7 AF Me),L8⟩) (c7:W.codeIn K AF "House.choose"=true) (k7:W.keepIn K (.ref Y)=true) (a8:W.findIn K (.ref A) "back"=some (some (.ref f8))) (i8:W.isFn K (.ref f8)=true)
 (l8:K.lookup f8=some ⟨ap,au,.func (W.fnOf "back" "House.back" (df wt) (cF wt) (av wt) .none an af ax a9 Wk ab),az⟩) (c8:W.codeIn K Wk "House.back"=true) (k8:W.keepIn K (.ref f8)=true)
 (pg:W.plainGet K A Str.empty=true) (hd:W.hasDictIn K A=true) (po:W.plainOver K A=true) (sa:W.findIn K (.ref A) "__setattr__"=some (some (.builtin "object.__setattr__"))) (mk:W.makesIn K A=true) (kc:W.keepIn K (.ref A)=true) (n0:W.findIn K (.ref A) "shelf"=some none) (n1:W.findIn K (.ref A) "disk"=some none):Wj K mg:=
 ⟨A,f0,_,f1,_,j,_,z,_,J,_,O,_,U,_,Y,_,f8,_,⟨⟨pg,hd,po,sa⟩,n0,n1,⟨a1,i1,k1⟩,⟨a2,i2,k2⟩,⟨a3,i3,k3⟩,⟨a4,i4,k4⟩,⟨a5,i5,k5⟩,⟨a6,i6,k6⟩,⟨a7,i7,k7⟩,⟨a8,i8,k8⟩,jS X G aC⟩,⟨mk,a0,i0,kc⟩,fW l0 c0 k0,fW l1 c1 k1,fW l2 c2 k2,fW l3 c3 k3,fW l4 c4 k4,fW l5 c5 k5,fW l6 c6 k6,fW l7 c7 k7,fW l8 c8 k8⟩
def Wl(K:Fg)(mg:Mv):Prop:=∃M j J G O z,RD K mg M j J G O z
theorem err1_mk{os:Lw}(j:W.excIn K N [.type "ValueError",.type "Exception",.type "BaseException",.type "object"] "ValueError.__new__"=true)(z:W.findIn K (.ref N) "__getattribute__"=some (some (.builtin "BaseException.__getattribute__")))(G:W.findIn K (.ref N) "__getattr__"=some none)(cls:W.findIn K (.ref N) "__class__"=some (some (.builtin "object.__class__")))(Y:W.specialIn K (.builtin "object.__class__") "__get__"=some (some (.builtin "getset_descriptor.__get__")))(a0:W.takesIn K (.builtin "object.__class__")=some true)(U:W.mroIn K N (.type "object")=some true)(O:W.mroIn K N (.type "BaseException")=some true)(J:W.kitOne K (.ref N) (.ref N)=some true)(kA:W.kitAny K (.ref N) os=some false)(ex:W.exmOne K (.ref N) (.ref M)=some true):uz K M N os:=⟨⟨j,z,G,cls,Y,a0,U,O⟩,J,kA,ex⟩
theorem err_mk(X:K.In h)(G:h.Ns mainGlobals mg)(nM:W.nsIn K mainGlobals "MendError"=some (some (.ref M)))(Y:W.nsIn K mainGlobals "Fallen"=some (some (.ref Fa)))(a2:W.nsIn K mainGlobals "NoPath"=some (some (.ref NP)))(a1:W.nsIn K mainGlobals "NoName"=some (some (.ref NN)))(a3:W.nsIn K mainGlobals "NotUp"=some (some (.ref NU)))(a0:W.nsIn K mainGlobals "NoFormer"=some (some (.ref NF)))(J:uz K M NP [])(j:uz K M NN [.ref Fa,.ref NP,.ref NU])(z:uz K M NF [.ref Fa,.ref NP,.ref NU])(O:W.kitOne K (.ref NN) (.ref NF)=some false)(U:W.kitOne K (.ref NF) (.ref NN)=some false):Wl K mg:=
 ⟨M,Fa,NP,NN,NU,NF,jS X G nM,jS X G Y,jS X G a2,jS X G a1,jS X G a3,jS X G a0,J,j,z,O,U⟩
theorem cst_mk{j t1:Tok}(X:K.In h)(G:h.Ns mainGlobals mg)(z:W.nsIn K mainGlobals "MOST_LETTERS"=some (some (.int 8 j)))(J:W.nsIn K mainGlobals "MOST_PATH_WORDS"=some (some (.int 4 t1))):Hn mg:=
 ⟨⟨j,jS X G z⟩,⟨t1,jS X G J⟩⟩
def Wm(K:Fg)(mg:Mv)(x:Str)(st:Stmt)(Pt:Addr):Prop:=∃f c fd,mg x=some (.ref f)/\wB K x x st f c fd/\W.codeHdIn K c Pt=true/\K.lookup Pt=none
theorem defC_mk{x:Str}{st:Stmt}{f c Pt:Addr}{U j:Oa}{Y:Array (Option Value)}{O kV dc pm ct:Value}(X:K.In h)(G:h.Ns mainGlobals mg)
 (a:W.nsIn K mainGlobals x=some (some (.ref f))) (l:K.lookup f=some ⟨O,U,.func (W.fnOf x x (df st) (cF st) (av st) .none kV dc pm j (.ref c) ct),Y⟩) (z:W.codeIn K (.ref c) x=true) (k:W.keepIn K (.ref f)=true) (hd:W.codeHdIn K c Pt=true) (J:K.lookup Pt=none) :
 Wm K mg x st Pt:=⟨f,c,_,jS X G a,⟨⟨_,_,_,_,_,_,_,_,rfl,l,z⟩,k⟩,hd,J⟩
theorem bltAt_mk(X:K.In h)(G:h.Ns mainGlobals mg)(j:W.nsIn K mainGlobals "range"=some none)(z:W.nsIn K mainGlobals "len"=some none)(z2:W.nsIn K mainGlobals "min"=some none)(z3:W.nsIn K mainGlobals "list"=some none)(z4:W.nsIn K mainGlobals "dict"=some none)(z5:W.nsIn K mainGlobals "set"=some none)(z6:W.nsIn K mainGlobals "sorted"=some none)(z7:W.nsIn K mainGlobals "isinstance"=some none)(z8:W.nsIn K mainGlobals "str"=some none)(z9:W.nsIn K mainGlobals "tuple"=some none)(J:W.nsIn K mainGlobals "all"=some none)(O:W.nsIn K mainGlobals "enumerate"=some none)(U:W.nsIn K mainGlobals "int"=some none)(Y:W.nsIn K mainGlobals "bool"=some none):IC mg:=
 ⟨kJ X G j,kJ X G z,kJ X G z2,kJ X G z3,kJ X G z4,kJ X G z5,kJ X G z6,kJ X G z7,kJ X G z8,kJ X G z9,kJ X G J,kJ X G O,kJ X G U,kJ X G Y⟩
theorem all_mk{P:Program}{w:World}(jI:mg "law"=some (.ref fa))(B:IC mg)(CC:Wf K mg)(CS:Wg K mg)(CT:Wh K mg)(CD:Wi K mg)(CA:Wj K mg)(CR:Wl K mg)(a0:Hn mg)(DN:Wm K mg "name_behind" wf Pt)(bx:bD K mg "_law_mixed" Ii)(bz:bD K mg "_law_cell_at" Ih)(b':bD K mg "_law_name" Ij)(af:bD K mg "_law_line" Ik)(ap:bD K mg "_law_lines" Il)(ax:bD K mg "_law_path" Im)(az:bD K mg "_law_make" Io)(a':bD K mg "rows_of" Hz)(aC:bD K mg "make_shown" HB)(aO:bD K mg "changes_copied" HK)(aR:bD K mg "change_rows" HQ)(b0:bD K mg "stand_shown" HP)(b1:bD K mg "make_noted" HS)(b2:bD K mg "stand_noted" HR)(b3:bD K mg "parcels_of" HD)(b4:bD K mg "brought_by" HL)(b5:bD K mg "_law_chosen" Iq)(b6:bD K mg "_law_parcels_apart" zi)(b7:bD K mg "commons_of" HN)(bb:bD K mg "keys_unlike" HC)(bd:bD K mg "turn_to" Cv)(bh:bD K mg "alike_ahead" Hs)(bl:bD K mg "block_of" Hr)(bm:bD K mg "is_ahead" Ht)(bn:bD K mg "takes_none" Hu)(bo:bD K mg "are_apart" Hv)(bp:bD K mg "with_both" Hw)(br:bD K mg "put_together" Hy)(bt:bD K mg "files_of_change" HM)(a1:bD K mg "tree_of" zf)(a2:bD K mg "paths_of" HJ)(a3:bD K mg "need_faults" HG)(a4:bD K mg "shut_faults" HH)(a5:bD K mg "clash_faults" HI)(a6:bD K mg "faults_of" HE)(a7:bD K mg "is_sound" HF)(a8:bD K mg "set_behind" HV)(a9:bD K mg "with_one_more" HY)(ab:bD K mg "first_group" HX)(d4:bD K mg "groups_to" HU)(d5:bD K mg "is_up" HZ)(d6:bD K mg "texts_begun" Ia)(d7:bD K mg "stand_on" Ib)(d9:bD K mg "finish" Ic)(da:bD K mg "steps_to" Ig)(dd:bD K mg "do_deed" Ie)(dg:bD K mg "_law_stand" Ir)(dk:bD K mg "is_name" Iu)(dm:bD K mg "is_path" Iw)(dp:bD K mg "ask_path" Ix)(dr:bD K mg "with_entry" Iz)(dt:bD K mg "_law_refused" IA)(dy:bD K mg "_law_chose" Cu)(dz:bD K mg "is_place" Ho)(d':bD K mg "formers_of" Hq)(dA:bD K mg "ask_name" Iy)(dD:bD K mg "_law_deed" IB)(dE:bD K mg "law" uy) :
 ∃(fd:Fy) (c:Addr),(∀(s:Shared) (v:Value),BindsTo s fd ⟨[v],[]⟩ [("_law_script",v)])/\W.codeHdIn K c Pt=true/\K.lookup Pt=none/\∀base:Heap,K.In base->base.Ns mainGlobals mg->base.BuiltinsAt mg Pt->aA P w K mg base aJ 13 fa fd ["_law_script"] (Ap K Pt):=by
 obtain⟨C,Ed,KY,TC,MC,Wn⟩:=CC;obtain⟨S,Ee,KZ,Ef,K1,US,MS,Wo,Wp⟩:=CS;obtain⟨T,Eg,K2,UT,MT,Wq⟩:=CT;obtain⟨D,Eh,K3,wu,K4,wv,K6,ww,K7,wx,K8,wy,K9,wz,La,wA,Lc,UD,MD,Wr,Ws,Wt,Wu,Wv,Ww,Wx,Wy⟩:=CD;obtain⟨A,Ei,Mf,Ej,Mg,Ek,Mh,El,Mi,Em,Mj,En,Ml,Eo,Mm,Ep,Mn,Es,Mo,UH,MH,Wz,Y,WC,WD,WE,WF,WG,WH,WI⟩:=CA;obtain⟨M,Fa,NP,NN,NU,NF,R⟩:=CR;obtain⟨dK,cN,dP,dT,j,WJ,hM⟩:=DN;obtain⟨dV,dX,dZ,WK,_⟩:=bx;obtain⟨c7,c8,c9,WL,_⟩:=bz;obtain⟨ca,cc,ce,WM,_⟩:=b';obtain⟨ci,cj,ck,WN,_⟩:=af;obtain⟨cl,cm,co,WO,_⟩:=ap;obtain⟨cv,cA,cB,WP,_⟩:=ax;obtain⟨cP,cV,c_,WQ,_⟩:=az;obtain⟨d0,d1,d2,WR,_⟩:=a';obtain⟨d3,bB,bJ,WS,_⟩:=aC;obtain⟨b_,c1,c2,WT,_⟩:=aO;obtain⟨c3,c4,c5,WU,_⟩:=aR;obtain⟨c6,eQ,e_,WV,_⟩:=b0;obtain⟨f2,f3,f4,WW,_⟩:=b1;obtain⟨f5,f6,f7,WX,_⟩:=b2;obtain⟨f8,fi,fr,WY,_⟩:=b3;obtain⟨fu,fv,fx,WZ,_⟩:=b4;obtain⟨fy,f',fG,G,_⟩:=b5;obtain⟨fJ,fK,fN,J,_⟩:=b6;obtain⟨fP,fR,fS,O,_⟩:=b7;obtain⟨f_,g0,g1,U,_⟩:=bb;obtain⟨ed,ee,ef,Xa,_⟩:=bd;obtain⟨eg,ei,ej,Xb,_⟩:=bh;obtain⟨ek,el,em,Xc,_⟩:=bl;obtain⟨en,eo,er,Xd,_⟩:=bm;obtain⟨et,eu,ev,Xe,_⟩:=bn;obtain⟨ew,ey,ez,Xf,_⟩:=bo;obtain⟨e',eA,eC,Xg,_⟩:=bp;obtain⟨eH,eL,eN,Xh,_⟩:=br;obtain⟨eO,eP,d_,Xi,_⟩:=bt;obtain⟨e0,e5,e6,Xj,_⟩:=a1;obtain⟨e7,e8,e9,Xk,_⟩:=a2;obtain⟨ea,eb,ec,Xl,_⟩:=a3;obtain⟨h5,h6,h7,Xm,_⟩:=a4;obtain⟨h8,h9,ha,Xn,_⟩:=a5;obtain⟨hb,hc,hd,Xo,_⟩:=a6;obtain⟨he,hf,hg,Xp,_⟩:=a7;obtain⟨hh,hj,hk,Xq,_⟩:=a8;obtain⟨hl,hm,hn,Xr,_⟩:=a9;obtain⟨ho,hp,hq,Xs,_⟩:=ab;obtain⟨hr,hs,ht,Xt,_⟩:=d4;obtain⟨hu,hv,gg,Xu,_⟩:=d5;obtain⟨gh,gj,gk,Xv,_⟩:=d6;obtain⟨gl,gn,go,Xw,_⟩:=d7;obtain⟨gp,gq,gu,Xx,_⟩:=d9;obtain⟨gv,gw,gx,Xy,_⟩:=da;obtain⟨gy,g',gH,Xz,_⟩:=dd;obtain⟨gI,gM,gP,XA,_⟩:=dg;obtain⟨gQ,gS,gW,XB,_⟩:=dk;obtain⟨gX,g_,h3,XC,_⟩:=dm;obtain⟨h4,g2,g3,XD,_⟩:=dp;obtain⟨g4,g5,g6,XF,_⟩:=dr;obtain⟨g7,g8,g9,XG,_⟩:=dt;obtain⟨ga,gd,hw,XH,_⟩:=dy;obtain⟨hx,hy,hz,XI,_⟩:=dz;obtain⟨hA,hC,hD,XJ,_⟩:=d';obtain⟨hE,hF,hG,XM,_⟩:=dA;obtain⟨hH,hI,hK,XN,_⟩:=dD;obtain⟨hN,hO,XO,z,_⟩:=dE;have e:=jI.symm.trans XO;cases e;obtain⟨oc,od,kV,hL,pm,an,au,ct,iQ,rfl,lk,iL⟩:=id z.ex;refine⟨W.fnOf "law" "law" (df uy) (cF uy) (av uy) .none kV hL pm an au ct,cN,λs v=>.of_eq rfl,WJ,hM,λbase _ _ hB=>?_⟩;exact arK (⟨B,
  a0,
  C,
  S,
  T,
  D,
  A,
  ⟨Eg,K2,Wq,Wq.binds4 (λ_ _ _ _ _ _ _ _ _ _=>rfl)⟩,
  ⟨Ed,KY,Wn,Wn.binds8 (λ_ _ _ _ _ _ _ _ _ _ _ _ _ _=>rfl)⟩,
  ⟨Ee,KZ,Wo,Wo.binds2 (λ_ _ _ _ _ _ _ _=>rfl)⟩,
  ⟨Ef,K1,Wp,Wp.binds3 (λ_ _ _ _ _ _ _ _ _=>rfl)⟩,
  ⟨wA,Lc,Wy,Wy.binds1 (λ_ _ _ _ _ _ _=>rfl)⟩,
  ⟨Eh,K3,Wr,Wr.binds1 (λ_ _ _ _ _ _ _=>rfl)⟩,
  ⟨ww,K7,Wu,Wu.binds3 (λ_ _ _ _ _ _ _ _ _=>rfl)⟩,
  ⟨wx,K8,Wv,Wv.binds2 (λ_ _ _ _ _ _ _ _=>rfl)⟩,
  ⟨wy,K9,Ww,Ww.binds3 (λ_ _ _ _ _ _ _ _ _=>rfl)⟩,
  ⟨wu,K4,Ws,Ws.binds1 (λ_ _ _ _ _ _ _=>rfl)⟩,
  ⟨wv,K6,Wt,Wt.binds1 (λ_ _ _ _ _ _ _=>rfl)⟩,
  ⟨Ei,Mf,Wz,Wz.binds3 (λ_ _ _ _ _ _ _ _ _=>rfl)⟩,
  ⟨Ej,Mg,Y,Y.binds1 (λ_ _ _ _ _ _ _=>rfl)⟩,
  ⟨Ek,Mh,WC,WC.binds1 (λ_ _ _ _ _ _ _=>rfl)⟩,
  ⟨Em,Mj,WE,WE.binds1 (λ_ _ _ _ _ _ _=>rfl)⟩,
  ⟨En,Ml,WF,WF.binds4 (λ_ _ _ _ _ _ _ _ _ _=>rfl)⟩,
  ⟨El,Mi,WD,WD.binds1 (λ_ _ _ _ _ _ _=>rfl)⟩,
  ⟨Ep,Mn,WH,WH.binds3 (λ_ _ _ _ _ _ _ _ _=>rfl)⟩,
  ⟨Es,Mo,WI,WI.binds2 (λ_ _ _ _ _ _ _ _=>rfl)⟩,
  ⟨Eo,Mm,WG,WG.binds3 (λ_ _ _ _ _ _ _ _ _=>rfl)⟩,
  ⟨wz,La,Wx,Wx.binds2 (λ_ _ _ _ _ _ _ _=>rfl)⟩,
  TC,
  US,
  UT,
  UD,
  UH,
  MC,
  MS,
  MT,
  MD,
  MH,
  ⟨dV,dX,WK,dZ,WK.binds2 (λ_ _ _ _ _ _ _ _=>rfl)⟩,
  ⟨c7,c8,WL,c9,WL.binds2 (λ_ _ _ _ _ _ _ _=>rfl)⟩,
  ⟨ca,cc,WM,ce,WM.binds2 (λ_ _ _ _ _ _ _ _=>rfl)⟩,
  ⟨ci,cj,WN,ck,WN.binds1 (λ_ _ _ _ _ _ _=>rfl)⟩,
  ⟨cl,cm,WO,co,WO.binds1 (λ_ _ _ _ _ _ _=>rfl)⟩,
  ⟨cv,cA,WP,cB,WP.binds1 (λ_ _ _ _ _ _ _=>rfl)⟩,
  ⟨cP,cV,WQ,c_,WQ.binds1 (λ_ _ _ _ _ _ _=>rfl)⟩,
  ⟨d0,d1,WR,d2,WR.binds1 (λ_ _ _ _ _ _ _=>rfl)⟩,
  ⟨d3,bB,WS,bJ,WS.binds1 (λ_ _ _ _ _ _ _=>rfl)⟩,
  ⟨b_,c1,WT,c2,WT.binds1 (λ_ _ _ _ _ _ _=>rfl)⟩,
  ⟨c3,c4,WU,c5,WU.binds2 (λ_ _ _ _ _ _ _ _=>rfl)⟩,
  ⟨c6,eQ,WV,e_,WV.binds1 (λ_ _ _ _ _ _ _=>rfl)⟩,
  ⟨f2,f3,WW,f4,WW.binds1 (λ_ _ _ _ _ _ _=>rfl)⟩,
  ⟨f5,f6,WX,f7,WX.binds1 (λ_ _ _ _ _ _ _=>rfl)⟩,
  ⟨f8,fi,WY,fr,WY.binds2 (λ_ _ _ _ _ _ _ _=>rfl)⟩,
  ⟨fu,fv,WZ,fx,WZ.binds1 (λ_ _ _ _ _ _ _=>rfl)⟩,
  ⟨fy,f',G,fG,G.binds3 (λ_ _ _ _ _ _ _ _ _=>rfl)⟩,
  ⟨fJ,fK,J,fN,J.binds3 (λ_ _ _ _ _ _ _ _ _=>rfl)⟩,
  ⟨fP,fR,O,fS,O.binds1 (λ_ _ _ _ _ _ _=>rfl)⟩,
  ⟨f_,g0,U,g1,U.binds2 (λ_ _ _ _ _ _ _ _=>rfl)⟩,
  ⟨ed,ee,Xa,ef,Xa.binds2 (λ_ _ _ _ _ _ _ _=>rfl)⟩,
  ⟨eg,ei,Xb,ej,Xb.binds2 (λ_ _ _ _ _ _ _ _=>rfl)⟩,
  ⟨ek,el,Xc,em,Xc.binds2 (λ_ _ _ _ _ _ _ _=>rfl)⟩,
  ⟨en,eo,Xd,er,Xd.binds2 (λ_ _ _ _ _ _ _ _=>rfl)⟩,
  ⟨et,eu,Xe,ev,Xe.binds1 (λ_ _ _ _ _ _ _=>rfl)⟩,
  ⟨ew,ey,Xf,ez,Xf.binds2 (λ_ _ _ _ _ _ _ _=>rfl)⟩,
  ⟨e',eA,Xg,eC,Xg.binds3 (λ_ _ _ _ _ _ _ _ _=>rfl)⟩,
  ⟨eH,eL,Xh,eN,Xh.binds3 (λ_ _ _ _ _ _ _ _ _=>rfl)⟩,
  ⟨eO,eP,Xi,d_,Xi.binds3 (λ_ _ _ _ _ _ _ _ _=>rfl)⟩,
  ⟨e0,e5,Xj,e6,Xj.binds2 (λ_ _ _ _ _ _ _ _=>rfl)⟩,
  ⟨dK,dP,j.fn,dT,j.fn.binds3 (λ_ _ _ _ _ _ _ _ _=>rfl)⟩,
  ⟨e7,e8,Xk,e9,Xk.binds1 (λ_ _ _ _ _ _ _=>rfl)⟩,
  ⟨ea,eb,Xl,ec,Xl.binds2 (λ_ _ _ _ _ _ _ _=>rfl)⟩,
  ⟨h5,h6,Xm,h7,Xm.binds2 (λ_ _ _ _ _ _ _ _=>rfl)⟩,
  ⟨h8,h9,Xn,ha,Xn.binds2 (λ_ _ _ _ _ _ _ _=>rfl)⟩,
  ⟨hb,hc,Xo,hd,Xo.binds2 (λ_ _ _ _ _ _ _ _=>rfl)⟩,
  ⟨he,hf,Xp,hg,Xp.binds2 (λ_ _ _ _ _ _ _ _=>rfl)⟩,
  ⟨hh,hj,Xq,hk,Xq.binds3 (λ_ _ _ _ _ _ _ _ _=>rfl)⟩,
  ⟨hl,hm,Xr,hn,Xr.binds2 (λ_ _ _ _ _ _ _ _=>rfl)⟩,
  ⟨ho,hp,Xs,hq,Xs.binds4 (λ_ _ _ _ _ _ _ _ _ _=>rfl)⟩,
  ⟨hr,hs,Xt,ht,Xt.binds3 (λ_ _ _ _ _ _ _ _ _=>rfl)⟩,
  ⟨hu,hv,Xu,gg,Xu.binds1 (λ_ _ _ _ _ _ _=>rfl)⟩,
  ⟨gh,gj,Xv,gk,Xv.binds1 (λ_ _ _ _ _ _ _=>rfl)⟩,
  ⟨gl,gn,Xw,go,Xw.binds1 (λ_ _ _ _ _ _ _=>rfl)⟩,
  ⟨gp,gq,Xx,gu,Xx.binds2 (λ_ _ _ _ _ _ _ _=>rfl)⟩,
  ⟨gv,gw,Xy,gx,Xy.binds3 (λ_ _ _ _ _ _ _ _ _=>rfl)⟩,
  ⟨gy,g',Xz,gH,Xz.binds3 (λ_ _ _ _ _ _ _ _ _=>rfl)⟩,
  ⟨gI,gM,XA,gP,XA.binds3 (λ_ _ _ _ _ _ _ _ _=>rfl)⟩,
  ⟨gQ,gS,XB,gW,XB.binds1 (λ_ _ _ _ _ _ _=>rfl)⟩,
  ⟨gX,g_,XC,h3,XC.binds1 (λ_ _ _ _ _ _ _=>rfl)⟩,
  ⟨h4,g2,XD,g3,XD.binds1 (λ_ _ _ _ _ _ _=>rfl)⟩,
  ⟨g4,g5,XF,g6,XF.binds3 (λ_ _ _ _ _ _ _ _ _=>rfl)⟩,
  ⟨g7,g8,XG,g9,XG.binds3 (λ_ _ _ _ _ _ _ _ _=>rfl)⟩,
  ⟨ga,gd,XH,hw,XH.binds3 (λ_ _ _ _ _ _ _ _ _=>rfl)⟩,
  ⟨hx,hy,XI,hz,XI.binds2 (λ_ _ _ _ _ _ _ _=>rfl)⟩,
  ⟨hA,hC,XJ,hD,XJ.binds1 (λ_ _ _ _ _ _ _=>rfl)⟩,
  ⟨hE,hF,XM,hG,XM.binds1 (λ_ _ _ _ _ _ _=>rfl)⟩,
  ⟨hH,hI,XN,hK,XN.binds4 (λ_ _ _ _ _ _ _ _ _ _=>rfl)⟩,
  ⟨_,_,z,XO,z.binds1 (λ_ _ _ _ _ _ _=>rfl)⟩,
  M,
  Fa,
  NP,
  NN,
  NU,
  NF,
  R,
  cN,
  j,
  WJ,
  hB⟩:Pg K mg base Pt)
theorem walk{l:W.OpenLaw}{q:Program}{a0:Ls}{J:(Mv)->Heap->Prop}{j:World->Heap->Prop}{d:DefRec}{K:Params->Fg}{Pt:Addr}(hn:l.most=some 63)(yo:d.params.defaults=[])
 (Y:∀(w:World) (h:Heap),j w h->(K w.params).In h/\h.get? Pt=some (W.tabObj #[]))
 (F:∀(w:World) (mg:Mv) (G:Addr) (h:Heap),(K w.params).In h->h.Ns mainGlobals mg->mg d.name=some (.ref G) ->
  ∃(fd:Fy) (c:Addr),(∀(s:Shared) (u:Value),BindsTo s fd ⟨[u],[]⟩ [("_law_script",u)])/\W.codeHdIn (K w.params) c Pt=true/\(K w.params).lookup Pt=none/\∀base:Heap,(K w.params).In base->base.Ns mainGlobals mg->base.BuiltinsAt mg Pt->aA l.prog w (K w.params) mg base aJ 13 G fd ["_law_script"] (Ap (K w.params) Pt)) :
 W.WalkO q a0 J j l.row.toRowW d [] (λf vs=>PySem.call f vs):=
 L2.ai7 (n:=63) (k:=13) (x:="_law_script") (a_:=fq) (lpos:=fL) (Pt:=Pt) (CX:=λ_=>aJ) (sp:=λw=>Ap (K w.params) Pt) hn (by decide) yo ⟨rfl,by decide,by decide,rfl⟩ Y F (λ_ _ a ns hl U O=>⟨O,hl,.inl U,λ_ t=>⟨rfl,t⟩⟩) λ_ _ _ _ _ z=>z
end K72
end
open PySem PySem.W PyProof.Rows
structure PySem.W.Fast where (tw13092822149104810332 tw14212459373765142205 tw14866771871592001202 tw12088143120492468433 tw7727675203415908768 tw11285935247876541722 tw17380184592118839598 tw4304319102298141604 tw4252928308257845292 tw15732257657362830856 tw597262038811265783 tw5056097981648272647 tw6353758789683100270 tw11686138095769679115 tw9106211641501855415 tw16367083453684003234 tw5105429699752230647 tw2549229462713799895 tw2972065335786136922 tw13521924972332354816 tw4603231284416104474 tw9485981565064541794 tw1578731547655762814 tw9739842681654759421 tw8514069027450927054 tw9088786684024056680 tw5011361512943775348 tw5439868354277046374 tw16225276724832606255 tw3371929606571836288 tw3485650086513035970 tw11020520744596141482 tw1605873135620587655 tw11417141845924771136 tw3795951966142288924 tw799699632382111887 tw4520506318462887164 tw10186389742536571070 tw18398382681410647017 tw8419767715218497731 tw795645833290947270 tw17471200312280495461 tw5703687601096679400 tw17743288225787636561 tw18248478342535558588 tw763779972750330273 tw16519019255120889099 tw14650813779119666516 tw6614485112863847918 tw2107982406709967548 tw6489421855087218633 tw7504238202597123050 tw6268526022270477425 tw2960130427610310460 tw1000226857444990113 tw11160434500117402352 tw14551131762295478071 tw12640099852229661240 tw4664856318626533645 tw15597235758921438820 tw13213353702192255826 tw6470663398526560610 tw12152118291840776653 tw10247246452369380979 tw4376038408040667628 tw11733378505063773079 tw11517447794526503522 tw6211868234955443997 tw16318284250593043080 tw1927287357375276949 tw11208327858018121309 tw2273950162171167616 tw10436970041187040669 tw14544636672192628116 tw18417500957165523656 tw2713764606022034873 tw3822464882419770827 tw8013160059571512130 tw5385202620257987450 tw12978176769884852787 tw16455007472235942093 tw9992080623583526681 tw9171126021226268692 tw17044525582005836015 tw3276033432986786721 tw12944610000573215825 tw14726034073240401905 tw12366632110700746490 tw16369015133175022149 tw14306741334958227523 tw5592884931986374341 tw5658610666907995121 tw5910876994162895778 tw2555139780687848821 tw12647333316246611487 tw12562675098065213913 tw9148218237824067752 tw3705380145767418705 tw16790554209934592378 tw9554844436168970317 tw16977725452649388434 tw15153330955490755917 tw5440787504306981362 tw7703808957520481579 tw7703514510868709327 tw16127414461252935858 tw17767615191444264219 tw16663372023457045043 tw229626802310278641 tw12064048077247200817 tw9157886974034568625 tw9506457391770219107 tw14252351081059478816 tw15555685298209042300 tw8622257027079843488 tw2163699334442483531 tw5467059255534099772 tw4665931726886147252 tw5385122845796027297 tw4650804553144178757 tw11009677356665546958 tw2223918302885959867 tw15144766005725318749 tw4899844375430095785 tw11068265823416487746 tw8363248297012224589 tw15821355443747129196 tw15606210353902652834 tw507895653152209190 tw16384592346745159312 tw11852215614178092454 tw4822696851494539580 tw6763927506181756233 tw5514084125703416434 tw5375512853083630519 tw1954911799613092058 tw10434980769300586746 tw5438623973947839159 tw3491721160505684359 tw5196082630380481249 tw7231371974056291507 tw13542982234174454799 tw13950520000150276255 tw15917645419456666663 tw8213697725134016870 tw8878211604914344041 tw3883326714698544610 tw4926025581620130524 tw3980397920920963029 tw8872706089175278551 tw8526483720415972547 tw7420773003712927164 tw8371210717223774357 tw5516913311018360751 tw8960871787689018549 tw13979307333647967100 tw17047258343454943437 tw16707129324016470310 tw4844978415374600379 tw8430941335173791786 tw887544579270765666 tw2582519931059197761 tw4290235478348982465 tw12825955307987353296 tw14103241244518084916 tw13527862787656766266 tw13052779075813534164 tw18269217820698496546 tw5357859804311881429 tw11548457446230730653 tw17087737550495077643 tw572878040985957847 tw16253222759280809072 tw12748563969655467816 tw1345640427767814476 tw3124186913553607505 tw11109301626960058699 tw9837383875978113996 tw12411899613861474004 tw3753121825000795708 tw5997013640706011820 tw8457138379012342800 tw18327123285120695943 tw9355886913880926876 tw6959174355857452768 tw4771891015255559085 tw13254997965419579427 tw9776255947067078862 tw5583993672108097327 tw12268278941250043063 tw15143053182229400996 tw12152371995992554069 tw4574558868339792680 tw11761340072718842640 tw1286912223324917132 tw15101586916463525594 tw2549757665752408705 tw5738347576514075301 tw3527807283560983582 tw11607492216823147909 tw11665856233716079539 tw1676137411541140355 tw17075220799064149137 tw17161339277602012324 tw9619984280843541539 tw3807172083555547537 tw13627345531509726264 tw5123949972424585848 tw3955637623109935966 tw7832227003682603030 tw15891141737026701962 tw9426444269510655362 tw11103268650308641976 tw10618543798831045051 tw11754687316590464300 tw16586054310416345343 tw931958600981058074 tw11460076658331172075 tw9788915238194405427 tw3188831974470895415 tw18091331376894686114 tw1742047016923775277 tw10810635325219271589 tw16978343742111527185 tw6469221767219479902 tw9542547822980961430 tw5124558446939992527 tw15239480689214614410 tw1180912672941118236 tw10569443870502659846 tw3127009020379015964 tw13625404390206538320 tw9329648092693975617 tw8190400669861142115 tw6961637118663792965 tw16660774668692176057 tw14389936574748282353 tw6696295246516545873 tw2270210483285697628 tw2646513760283668336 tw230169912401318290 tw1925056713961255800 tw11614488885739079681 tw16938918973260609513 tw6199239684094650065 tw2969146206319526421 tw17577152544091820863 tw17278642354376853351 tw14973140349374827209 tw14423880804778931704 tw7849535476365884267 tw10004326535013761960 tw4586523781338393779 tw268948178137737174 tw8893895050853518409 tw13638020344328013875 tw8562547811544723816 tw3514936945674397321 tw2987156639886350564 tw231391035134665614 tw2064448895295251 tw13884397961029260255 tw4504895063175635172 tw9170317094452899218 tw1183336447711593059 tw8714096935849394375 tw15811357722427260119 tw8059740649420057986 tw1599874525035701449 tw1835688870401688988 tw1099560400461006527 tw11617441461702758461 tw344315451210828538 tw7883451820642453612 tw4050297756110146604 tw11049725963190362290 tw5373849257162196792 tw9518783601926531686 tw8129888070743843657 tw610780643754821186 tw18021651637971637057 tw10626070928471242759 tw1943360029166456311 tw15817203430787381824 tw2496015954403891066 tw7196285923712284622 tw6469691479609336565 tw17746212663620168071 tw15568511826489584177 tw14143778670707733571 tw17871313613812977222 tw10026147679739208407 tw9998031002476609775 tw5978108434256939823 tw7971090534336878711 tw6181707872230417464 tw7774479808414719854 tw4545978015034444754 tw17470806682424026647 tw17165006755193822325 tw1528237066414744875 tw12763614067550737798 tw14817197420482708025 tw11888712242708982052 tw7279055754352566672 tw17934288429261066289 tw14850757587966473902 tw4639269166456462773 tw4216349512470390300 tw17758790264199116495 tw11917443902088579952 tw11637194361312607768 tw11941651420445175513 tw8572952748822763046 tw657363073375090332 tw6283511499962724269 tw5471235691336809235 tw5325702950591192339 tw4231246907255316389 tw4049429150103208762 tw278441092805168997 tw2316275759638004255 tw18225971774218317116 tw17121570097855264145 tw16878138583853379990 tw16655119798388986295 tw16374410268392543094 tw15808706679630944251 tw15692915561160666800 tw1486740876125274827 tw14099566552743452291 tw13653972482718453885 tw13447264431968449875 tw11828624720108034383 tw11512105162323624818 tw176173020722599077 tw5852683792544442327 tw8652326320941485931 tw8126066853256807105 tw8007539370304142494 tw7815005375795592017 tw772698250066787700 tw7493580999147644258 tw5679243937115314236 tw5485005639171884381 tw4998096507657485294 tw24234585431488776 tw17063160306033068022 tw16820078190897518524 tw15911658332682357937 tw13740763663947472174 tw1071686774413944404 tw8165872890609660238 tw16860459475065354286 tw8521550389084105530 tw14382896684988060618 tw13716341175319897008 tw11945562288594478246 tw16325644464483098955 tw13546080352605113641 tw11504534625563455487 tw11110946287964988500 tw10307292305443081793 tw9655520239091049189 tw9648993258711978919 tw9418745538089335300 tw9100629545506274472 tw9083016611980575050 tw8917531690377846891 tw8875411956685937890 tw8870087293183985514 tw8804606690254934583 tw8300064523637959179 tw8104056927662017582 tw7534620319419846223 tw7342873248363456605 tw7329409990298589421 tw7110730492480754124 tw7091790941346719928 tw6977196688830538914 tw6672699455436946129 tw629669953280077537 tw5853250628635019028 tw5735917710371979820 tw5524155575030079161 tw5450422154177096086 tw5320147621882566972 tw5190361360370457226 tw494889481901599511 tw4545049099831523019 tw3876417612401862639 tw3610691232689735874 tw2906490877265213538 tw2710401370478123771 tw2669633678788025032 tw2581088900529735376 tw2494090204716490642 tw2303632199127903755 tw2027942030921162122 tw18363542204337701577 tw17969637256735125143 tw17822299554525915059 tw17787973561741444235 tw17218488506248386529 tw16815528235021762780 tw16742151347582504804 tw162015365378452212 tw15729100835169649885 tw15432720472659243117 tw15329620940384709283 tw15262340772021064574 tw15203157973112388908 tw14572157326780135249 tw14445461134394307057 tw14296739460346680425 tw14283492976365388828 tw14247736635013675285 tw14026136314037853507 tw13660683323594727442 tw13535928233986801070 tw13104697512164749120 tw13013929810916421800 tw12494998991805254792 tw11784473020900846608 tw11545019048926746212 tw11487630082304467219 tw10684090549450267014 tw10137561430424447328 tw1621924814209714665 tw4731627755910871302 tw13929673464225081307 tw233184972842924796 tw7380736410212151457 tw4868091908964285969 tw9532464811372907422 tw9169724083169146958 tw5630058410009814542 tw3613004246020896022 tw17794345675790547328 tw16976423788816458642 tw12609389948881410456 tw12484564016481168452 tw12368133905580759102 tw10254570341380002437 tw4616532511622108269 tw8279765983229903349 tw6091362923141401970 tw5933963616513395273 tw13123230223529380916 tw11084864861511962386 tw6211934194470878877 tw13197829884014406640 tw1219419679267730163 tw9269935634161513765 tw2640551761427942866 tw1886352217057438098 tw7667300158388296894 tw14373710556472241985 tw9850462103937413337 tw837978179366180550 tw807921722755563834 tw7953869105861463921 tw7205738188446071505 tw6211544911301341520 tw4805634485410070380 tw4724386959454940869 tw4492483781014971983 tw3415186062998427496 tw18216433157152049085 tw16147123275124042007 tw1530111432760739071 tw14914079441768985642 tw14761270623189881280 tw12941468542252635408:True)
def PySem.W.Fast.tw16847572555491523486:PySem.Program:=PySem.Challenge.pw_parcelmend_k72_choices_and_ways_back
set_option maxRecDepth 100000 in
set_option maxHeartbeats 0 in
theorem PySem.Challenge.cw_parcelmend_k72_choices_and_ways_back_holds : PySem.Challenge.rw_parcelmend_k72_choices_and_ways_back.Holds := by
 w_on;o_law;k_head;(case hw=>w_witness2)
 k_fill
 refine K72.walk (l:=PySem.Challenge.rw_parcelmend_k72_choices_and_ways_back) rfl rfl (λw h Y=>⟨PySem.W.km_in_of Y,PySem.W.km_tabs_of Y _ bM⟩) ?F
 case F=>
  intro w mg fa h KX G yp
  refine' K72.all_mk yp (K72.bltAt_mk KX G ..) (K72.clsC_mk KX G ..) (K72.clsS_mk KX G ..) (K72.clsT_mk KX G ..) (K72.clsD_mk KX G ..) (K72.clsA_mk KX G ..) (K72.err_mk KX G ?_ ?_ ?_ ?_ ?_ ?_ (K72.err1_mk ?_ ?_ ?_ ?_ ?_ ?_ ?_ ?_ ?_ ?_ ?_) (K72.err1_mk ?_ ?_ ?_ ?_ ?_ ?_ ?_ ?_ ?_ ?_ ?_) (K72.err1_mk ?_ ?_ ?_ ?_ ?_ ?_ ?_ ?_ ?_ ?_ ?_) ?_ ?_) (K72.cst_mk KX G ..) (K72.defC_mk KX G ..) (L2.bF KX G ..) (L2.bF KX G ..) (L2.bF KX G ..) (L2.bF KX G ..) (L2.bF KX G ..) (L2.bF KX G ..) (L2.bF KX G ..) (L2.bF KX G ..) (L2.bF KX G ..) (L2.bF KX G ..) (L2.bF KX G ..) (L2.bF KX G ..) (L2.bF KX G ..) (L2.bF KX G ..) (L2.bF KX G ..) (L2.bF KX G ..) (L2.bF KX G ..) (L2.bF KX G ..) (L2.bF KX G ..) (L2.bF KX G ..) (L2.bF KX G ..) (L2.bF KX G ..) (L2.bF KX G ..) (L2.bF KX G ..) (L2.bF KX G ..) (L2.bF KX G ..) (L2.bF KX G ..) (L2.bF KX G ..) (L2.bF KX G ..) (L2.bF KX G ..) (L2.bF KX G ..) (L2.bF KX G ..) (L2.bF KX G ..) (L2.bF KX G ..) (L2.bF KX G ..) (L2.bF KX G ..) (L2.bF KX G ..) (L2.bF KX G ..) (L2.bF KX G ..) (L2.bF KX G ..) (L2.bF KX G ..) (L2.bF KX G ..) (L2.bF KX G ..) (L2.bF KX G ..) (L2.bF KX G ..) (L2.bF KX G ..) (L2.bF KX G ..) (L2.bF KX G ..) (L2.bF KX G ..) (L2.bF KX G ..) (L2.bF KX G ..) (L2.bF KX G ..) (L2.bF KX G ..) (L2.bF KX G ..) (L2.bF KX G ..) (L2.bF KX G ..) (L2.bF KX G ..) (L2.bF KX G ..)
  all_goals try first | k_is | k_exc | kts_exm | kit_is | kernel_rfl
